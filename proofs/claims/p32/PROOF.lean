import PyProof.Rows.All
import Wide.All
import OpenK.AllK
import Wide.FinOn
import Lean
import PyProof.EqAt
import PyProof.EqKinds
import PyProof.TupleCall
import PyProof.Rows.TopTwo
import KE.KIsAll
import PyProof.ExcAttrAll.ValueError
import KE.KTryMore
import KE.KRevIter
import PyProof.SetRoads
import PySem.Challenge.RW_firstpowers_k32_whole_rounds_in_pieces
set_option Elab.async false
set_option linter.all false
set_option maxRecDepth 100000
set_option maxHeartbeats 8000000
abbrev G0:= @List.getElem?_eq_getElem
abbrev G1:= @List.length_map
abbrev G2:= @PySem.Heap.get?_push_of_some
abbrev G3:= @List.length_append
abbrev G5:= @List.mem_singleton
abbrev G6:= @List.mem_of_getElem?
abbrev G7:= @List.getElem?_eq_some_iff
abbrev G8:= @List.append_assoc
abbrev G9:= @Nat.le_refl
abbrev P0:= @decide_eq_true
abbrev P1:= @PySem.wpAny_pure
abbrev P2:= @List.getD_eq_getElem?_getD
abbrev P3:= @List.getElem?_map
abbrev P4:= @List.getElem?_append_right
abbrev P5:= @List.mem_append_right
abbrev P6:= @Bool.false_ne_true
abbrev P7:= @List.mem_append
abbrev P8:= @List.mem_cons_self
abbrev P9:= @List.mem_map
abbrev D0:= @List.size_toArray
abbrev D1:= @List.mem_range
abbrev D2:= @List.getElem?_append_left
abbrev D3:= @List.length_cons
abbrev D4:= @List.getElem_mem
abbrev D5:= @PySem.Heap.lt_size
abbrev D6:= @decide_eq_false
abbrev D7:= @Nat.le_trans
abbrev D8:= @Nat.le_of_lt
abbrev D9:= @List.length_range
abbrev R0:= @List.mem_cons_of_mem
abbrev R1:= @List.length_take
abbrev R3:= @PySem.Heap.get?_push_size
abbrev R4:= @List.take_append_drop
abbrev R5:= @List.take_of_length_le
abbrev R6:= @List.mem_cons
abbrev R7:= @PySem.wpAny_mono
abbrev R8:= @of_decide_eq_true
abbrev R9:= @List.pairwise_append
abbrev S0:= @Nat.lt_of_lt_of_le
abbrev S1:= @List.map_cons
abbrev S2:= @List.getLastD_eq_getLast?
abbrev S3:= @Nat.ne_of_lt
abbrev S4:= @List.length_reverse
abbrev S5:= @List.all_eq_true
abbrev S6:= @List.map_map
abbrev S7:= @List.mem_filter
abbrev S8:= @List.length_nil
abbrev S9:= @List.map_congr_left
abbrev T0:= @List.length_drop
abbrev T1:= @Bool.and_eq_true
abbrev T3:= @Nat.zero_le
abbrev T4:= @Array.length_toList
abbrev T5:= @List.mem_append_left
abbrev T6:= @PySem.boot_len
abbrev T7:= @List.map_append
abbrev T8:= @List.pairwise_singleton
abbrev T9:= @Array.getElem?_toList
abbrev M0:= @List.take_add_one
abbrev M1:= @decide_eq_true_iff
abbrev M5:= @Option.some.inj
abbrev M6:= @Array.toList_append
abbrev M7:= @Option.map_eq_some_iff
abbrev M8:= @List.mem_of_mem_drop
abbrev M9:= @List.pairwise_map
abbrev N0:= @List.mem_of_mem_take
abbrev N2:= @PySem.wpAny_truthy_bool
abbrev N3:= @PySem.PassesOwn.never
abbrev N4:= @List.getElem_of_mem
abbrev N5:= @Bool.eq_iff_iff
abbrev N6:= @List.nil_append
abbrev N7:= @List.drop_eq_nil_of_le
abbrev N8:= @Nat.lt_of_le_of_ne
abbrev N9:= @List.length_singleton
abbrev B0:= @List.length_filter_le
abbrev B1:= @List.not_mem_nil
abbrev B2:= @Nat.lt_irrefl
abbrev B3:= @List.getElem?_set_ne
abbrev B6:= @PySem.W.kia_one
abbrev B7:= @List.append_nil
abbrev B8:= @List.getLast?_eq_getElem?
abbrev B9:= @List.getElem?_range
abbrev C0:= @List.getElem?_eq_none
abbrev C1:= @PySem.wpAny_callSpecial?_slot
abbrev C4:= @List.filter_append
abbrev C5:= @List.filter_cons_of_pos
abbrev C6:= @List.getElem?_cons_zero
abbrev C7:= @PySem.wpAny_call_entry
abbrev C8:= @List.lookup_cons
abbrev C9:= @List.mem_reverse
abbrev F4:= @PyProof.Rows.slot_tuple_getitem
abbrev F5:= @List.replicate_succ
abbrev F6:= @List.drop_sublist
abbrev F7:= @Nat.lt_of_succ_lt
abbrev F8:= @List.reverse_perm
abbrev F9:= @PySem.wpAny_holding
abbrev H0:= @List.all_map
abbrev L0:= @List.range_succ
abbrev L5:= @PyProof.Rows.boot_all
abbrev L6:= @Nat.lt_succ_self
abbrev L7:= @List.drop_append_of_le_length
abbrev L8:= @List.take_append_of_le_length
abbrev L9:= @Nat.mod_eq_of_lt
abbrev O0:= @List.filter_cons_of_neg
abbrev O3:= @List.map_nil
abbrev O4:= @Nat.lt_or_ge
abbrev O5:= @List.take_sublist
abbrev O6:= @PyProof.Rows.callWith_type1
abbrev O7:= @List.nodup_cons
abbrev O8:= @List.find?_cons
abbrev O9:= @List.range_succ_eq_map
abbrev A0:= @List.length_pos_of_mem
abbrev A1:= @PySem.F.slot_tuple_iterator_next
abbrev A2:= @List.cons_append
abbrev A3:= @Nat.le_of_eq
abbrev A4:= @List.pairwise_iff_getElem
abbrev A5:= @List.drop_drop
abbrev A6:= @List.getLast?_eq_none_iff
abbrev A7:= @Array.toList_extract
abbrev A8:= @PySem.wpAny_newObj_type
abbrev A9:= @PySem.wpAny_passesOwn
abbrev E1:= @Option.isSome_iff_exists
abbrev E2:= @List.flatten_cons
abbrev E3:= @List.flatMap_cons
abbrev E4:= @List.nodup_append
abbrev E5:= @Option.some.injEq
abbrev E6:= @PySem.mem_of_lookup
abbrev E7:= @List.length_eq_zero_iff
abbrev E8:= @Nat.add_assoc
abbrev E9:= @List.take_length
abbrev I0:= @List.eq_nil_of_length_eq_zero
abbrev J0:= @PySem.wpAny_pyIter_tuple
abbrev J1:= @List.pairwise_cons
abbrev J3:= @List.getElem?_drop
abbrev J4:= @Nat.ne_of_gt
abbrev J5:= @PySem.Heap.get?_update_self
abbrev J6:= @Nat.zero_add
abbrev J7:= @List.perm_append_comm
abbrev J8:= @Nat.le_add_left
abbrev J9:= @List.getElem?_reverse
abbrev K0:= @exists_eq_left'
abbrev K1:= @decide_eq_true_eq
abbrev K2:= @Array.toList_push
abbrev K3:= @Bool.eq_false_iff
abbrev K4:= @Nat.mod_lt
abbrev K5:= @List.exists_mem_of_ne_nil
abbrev K6:= @Nat.le_add_right
abbrev K7:= @List.nodup_range
abbrev K8:= @beq_eq_false_iff_ne
abbrev K9:= @List.mem_map_of_mem
abbrev Q0:= @PySem.Heap.SameBut.update
abbrev Q1:= @Function.comp_apply
abbrev Q3:= @Nat.add_le_add_left
abbrev Q4:= @Nat.mul_le_mul_left
abbrev Q5:= @List.getElem?_take_of_lt
abbrev Q6:= @PySem.F.args_tuple_add_2
abbrev Q7:= @PySem.AutoSeq1.wpAny_loadPart'
abbrev Q8:= @List.length_erase_of_mem
abbrev Q9:= @List.idxOf_lt_length_iff
abbrev U0:= @PySem.wpAny_standAt
abbrev U1:= @List.mem_filterMap
abbrev U2:= @List.zip_cons_cons
abbrev U3:= @PySem.F.entry_tuple_add
abbrev U4:= @Nat.lt_of_le_of_lt
abbrev U5:= @Bool.or_eq_true
abbrev U6:= @Nat.div_add_mod
abbrev U7:= @Nat.min_eq_left
abbrev U8:= @Nat.pos_of_ne_zero
abbrev U9:= @List.getElem?_cons_succ
abbrev V0:= @List.getElem?_set_self
abbrev V1:= @PySem.F.slot_tuple_add
abbrev V2:= @PySem.wpAny_pyIter_list
abbrev V3:= @List.getElem?_set
abbrev V4:= @Nat.lt_of_succ_le
abbrev V5:= @Nat.not_lt
abbrev V6:= @Nat.succ_le_of_lt
abbrev V7:= @Nat.sub_lt
abbrev V8:= @Nat.lt_trichotomy
abbrev V9:= @List.take_zero
abbrev W0:= @PySem.F.slot_tuple_lt
abbrev W1:= @Nat.lt_trans
abbrev W3:= @List.pairwise_reverse
abbrev W4:= @Nat.add_zero
abbrev W5:= @Nat.min_le_right
abbrev W6:= @Nat.succ_le_succ
abbrev W7:= @List.mem_flatMap
abbrev W8:= @Int.natCast_emod
abbrev W9:= @Nat.pow_le_pow_right
abbrev X0:= @List.mem_erase_of_ne
abbrev X1:= @Array.toList_reverse
abbrev X2:= @List.any_cons
abbrev X3:= @PySem.F.args_tuple_iterator_next_1
abbrev X4:= @PySem.F.slot_dict_setdefault
abbrev X5:= @Bool.true_and
abbrev X6:= @PySem.wpAny_rule
abbrev X7:= @PySem.wpAny_execs_nil
abbrev X8:= @PySem.F.slot_int_rmul
abbrev X9:= @List.forIn_cons
abbrev Y0:= @PySem.F.entry_tuple_iterator_next
abbrev Y1:= @Nat.add_sub_cancel'
abbrev Y2:= @PySem.Heap.get?_update_ne
abbrev Y3:= @List.flatMap_append
abbrev Y4:= @Int.emod_nonneg
abbrev Y5:= @PySem.Calls.Name_function_global
abbrev Y6:= @Int.fdiv_eq_ediv_of_nonneg
abbrev Y7:= @Int.fmod_eq_emod_of_nonneg
abbrev Y8:= @Array.isEmpty_eq_false_iff
abbrev Y9:= @Array.getElem?_eq_none_iff
abbrev Z0:= @Array.getElem?_eq_some_iff
abbrev Z4:= @Array.toList_setIfInBounds
abbrev Z5:= @PyProof.Rows.assignInOrder_cons
abbrev Z6:= @PySem.Calls.spliced_cons
abbrev Z7:= @PySem.wpAny_Call_Name_kw
abbrev Z8:= @List.getElem_idxOf
abbrev Z9:= @Int.emod_lt_of_pos
abbrev G0a:= @PySem.wpAny_binaryOp_repeat_ref
abbrev G0b:= @PySem.Heap.size_push
abbrev G0c:= @List.getElem?_eq_none_iff
abbrev G0d:= @Decidable.byContradiction
abbrev G0e:= @Nat.add_mul_mod_self_left
abbrev G0f:= @List.zip_nil_left
abbrev G0g:= @Function.comp_def
abbrev G0h:= @Array.size_setIfInBounds
abbrev G0i:= @List.ext_getElem?
abbrev G0j:= @List.mapM_toArray
abbrev G0k:= @List.getElem?_replicate
abbrev G0l:= @PySem.F.args_tuple_lt_2
abbrev G0m:= @or_false
abbrev G0n:= @PySem.F.plainAttrs_list
abbrev G0o:= @decide_eq_false_iff_not
abbrev G0p:= @Nat.add_sub_cancel_left
abbrev G0q:= @List.map_id
abbrev G0r:= @PySem.noFill_tuple_add
abbrev G0s:= @Nat.le_of_not_lt
abbrev G0t:= @List.ext_getElem
abbrev G0u:= @List.any_eq_true
abbrev G0v:= @List.all_toArray
abbrev G0w:= @PySem.W.cellsFrom_some
abbrev G0x:= @PySem.F.entry_tuple_lt
abbrev G0y:= @List.length_eq_one_iff
abbrev G0z:= @List.filter_eq_nil_iff
abbrev G0A:= @List.of_mem_zip
abbrev G0B:= @Nat.succ_mul
abbrev G0C:= @List.getElem?_toArray
abbrev G0D:= @PySem.W.kat_nil
abbrev G0E:= @List.filter_nil
abbrev G0F:= @Classical.em
abbrev G0G:= @List.pairwise_flatMap
abbrev G0H:= @PySem.typeIs_int
abbrev G0I:= @PySem.call_meets
abbrev G0J:= @Bool.or_eq_false_iff
abbrev G0K:= @List.getLast?_concat
abbrev G0L:= @List.mem_of_getLast?
abbrev G0M:= @List.getElem?_of_mem
abbrev G0N:= @Bool.false_and
abbrev G0O:= @List.drop_take
abbrev G0P:= @List.take_take
abbrev G0Q:= @PySem.sizeLine_eq
abbrev G0R:= @PyProof.Rows.lt_int
abbrev G0S:= @List.take_succ_cons
abbrev G0T:= @Nat.mul_add
abbrev G0U:= @List.filter_eq_self
abbrev G0V:= @List.map_eq_nil_iff
abbrev G0W:= @PySem.W.mg_of
abbrev G0X:= @beq_iff_eq
abbrev G0Y:= @Nat.mul_comm
abbrev G0Z:= @List.any_map
abbrev G00:= @Int.mul_comm
abbrev G01:= @Nat.sub_self
abbrev G02:= @Nat.dvd_refl
abbrev G03:= @if_false
abbrev G04:= @Int.pow_pos
namespace L2
open PySem PySem.Spec PyProof.Rows
abbrev Key:=Sum Int Str
def Pb:Key->Value->Bool
 | .inl k,v=>Value.isInt k v
 | .inr x,v=>Value.isStrOf x v
def Hz (w:World):Key->Int
 | .inl k=>hashInt k
 | .inr x=>hashStr w x
theorem jZ: ∀ {k:Key} {v:Value},Pb k v=true->(∃i t,k=Sum.inl i/\v=Value.int i t)\/(∃x t,k=Sum.inr x/\v=Value.str x t)
 | .inl i,v,h=>by
  obtain⟨t,e⟩:=Value.isInt_shape (k:=i) (v:=v) h;exact .inl ⟨i,t,rfl,e⟩
 | .inr x,v,h=>by
  obtain⟨t,e⟩:=Value.isStrOf_shape (x:=x) (v:=v) h;exact .inr ⟨x,t,rfl,e⟩
theorem Dh (i:Int)(t:Tok):Pb (.inl i) (.int i t)=true:=by simp [Pb,Value.isInt]
theorem Di (x:Str)(t:Tok):Pb (.inr x) (.str x t)=true:=by simp [Pb,Value.isStrOf]
theorem Oo (a b:Int):decide ((Sum.inl a:Key)=Sum.inl b)=(a==b):=by
 by_cases e:a=b
 ·subst e;simp
 ·have h: ¬ (Sum.inl a:Key)=Sum.inl b:=λq=>e (Sum.inl.inj q)
  rw [D6 h];exact(K8.mpr e).symm
theorem Op (a b:Str):decide ((Sum.inr a:Key)=Sum.inr b)=decide (a=b):=by
 by_cases e:a=b
 ·subst e;simp
 ·have h: ¬ (Sum.inr a:Key)=Sum.inr b:=λq=>e (Sum.inr.inj q)
  rw [D6 h,D6 e]
theorem Oq (a:Int)(b:Str):decide ((Sum.inl a:Key)=Sum.inr b)=false:=D6 (λq=>nomatch q)
theorem Os (a:Str)(b:Int):decide ((Sum.inr a:Key)=Sum.inl b)=false:=D6 (λq=>nomatch q)
def zA (prog:Program)(w:World):PySem.KeyKind prog w Key where
 is:=Pb
 hash:=Hz w
 inj:=λv a b ha hb=>by
  rcases jZ ha with ⟨i,t,rfl,rfl⟩|⟨x,t,rfl,rfl⟩
  ·rcases jZ hb with ⟨j,u,rfl,e⟩|⟨y,u,rfl,e⟩
   ·injection e with e1 _;rw [e1]
   ·exact nomatch e
  ·rcases jZ hb with ⟨j,u,rfl,e⟩|⟨y,u,rfl,e⟩
   ·exact nomatch e
   ·injection e with e1 _;rw [e1]
 byValue:=λk v h=>by
  rcases jZ h with ⟨i,t,rfl,rfl⟩|⟨x,t,rfl,rfl⟩<;>rfl
 pyHash:=λhv h=>by
  rcases jZ hv with ⟨i,t,rfl,rfl⟩|⟨x,t,rfl,rfl⟩
  ·exact wpAny_pyHash_int h
  ·exact wpAny_pyHash_str h
 eqBool:=λhu hv h=>by
  rcases jZ hu with ⟨i,t,rfl,rfl⟩|⟨x,t,rfl,rfl⟩
  ·rcases jZ hv with ⟨j,u,rfl,rfl⟩|⟨y,u,rfl,rfl⟩
   ·rw [Oo] at h;exact wpAny_eqBool_int h
   ·rw [Oq] at h;exact SeqAt.EqAt.int_str i t y u _ _ _ _ h
  ·rcases jZ hv with ⟨j,u,rfl,rfl⟩|⟨y,u,rfl,rfl⟩
   ·rw [Os] at h;exact SeqAt.EqAt.str_int x t j u _ _ _ _ h
   ·rw [Op] at h;exact wpAny_eqBool_str h
 «strs» :=λk x t v h=>by
  rcases jZ h with ⟨i,u,rfl,e⟩|⟨y,u,rfl,e⟩
  ·exact nomatch e
  ·injection e with e1 _
   subst e1;cases v<;>rfl
theorem XE (prog:Program)(w:World)(i:Int)(t:Tok):(zA prog w).is (.inl i) (.int i t)=true:=Dh i t
theorem XF (prog:Program)(w:World)(x:Str)(t:Tok):(zA prog w).is (.inr x) (.str x t)=true:=Di x t
inductive V where
 |non|bl (b:Bool)|int (i:Int)|str (x:Str)|byt (b:Array UInt8)|flt (b:UInt64)|ref (a:Addr)|ty (n:String)
 deriving DecidableEq
def RelV:V->Value->Prop
 | .non,u=>u=Value.none
 | .bl b,u=>u=Value.bool b
 | .int i,u=> ∃t,u=Value.int i t
 | .str x,u=> ∃t,u=Value.str x t
 | .byt b,u=> ∃t,u=Value.bytes b t
 | .flt b,u=> ∃t,u=Value.float b t
 | .ref a,u=>u=Value.ref a
 | .ty n,u=>u=Value.type n
abbrev Vals:List V->List Value->Prop:=Paired RelV
theorem Vals.length {xs:List V}{us:List Value}(r:Vals xs us):xs.length=us.length:=Paired.length r
theorem Vals.get: ∀ {xs:List V} {us:List Value} {i:Nat} {x:V},Vals xs us->xs[i]? =some x-> ∃u,us[i]? =some u/\RelV x u
 |_,_,_,_,.nil,e=>by simp at e
 |_,_,0,_,.cons r _,e=>by simp at e;subst e;exact⟨_,rfl,r⟩
 |_,_,i+1,x,.cons _ t,e=>by
  obtain⟨u,h1,h2⟩:=Vals.get (i:=i) (x:=x) t (by simpa using e);exact⟨u,by simpa using h1,h2⟩
variable {u:Value}
theorem Vals.set {x:V}(r:RelV x u): ∀ {xs:List V} {us:List Value} (i:Nat),Vals xs us->Vals (xs.set i x) (us.set i u)
 |_,_,_,.nil=> .nil
 |_,_,0,.cons _ t=> .cons r t
 |_,_,i+1,.cons q t=> .cons q (Vals.set r i t)
theorem Vals.append: ∀ {xs ys:List V} {us ws:List Value},Vals xs us->Vals ys ws->Vals (xs++ys) (us++ws)
 |_,_,_,_,.nil,s=>s
 |_,_,_,_,.cons r t,s=> .cons r (Vals.append t s)
theorem Vals.take: ∀ {xs:List V} {us:List Value} (n:Nat),Vals xs us->Vals (xs.take n) (us.take n)
 |_,_,0,_=> .nil
 |_,_,_+1,.nil=> .nil
 |_,_,n+1,.cons r t=> .cons r (Vals.take n t)
theorem Vals.drop: ∀ {xs:List V} {us:List Value} (n:Nat),Vals xs us->Vals (xs.drop n) (us.drop n)
 |_,_,0,r=>r
 |_,_,_+1,.nil=> .nil
 |_,_,n+1,.cons _ t=>Vals.drop n t
def RelO:Option V->Option Value->Prop
 |some v,some u=>RelV v u
 |none,none=>True
 |_,_=>False
def KV {κ:Type}:List (κ×V)->List (κ×Value)->Prop:=Paired λ(p:κ×V) (q:κ×Value)=>p.1=q.1/\RelV p.2 q.2
def kV:Key->V
 | .inl i=> .int i
 | .inr x=> .str x
inductive HO where
 /-- a list -/
 |lst (xs:List V)
 /-- a tuple (never changes) -/
 |tup (xs:List V)
 /-- a dict whose keys are ints and texts;one whose keys are tuples of ints and texts (the empty one is both) -/
 |dK (kvs:List (Key×V))|dT (kvs:List (List Key×V))
 /-- a set of ints: its members,its size -/
 |set (S:Int->Bool) (n:Nat)
 /-- an instance of the class at C,its dict at dx,its attributes -/
 |ins (C dx:Addr) (fs:List (Str×V))
 /-- the dict of the instance at x -/
 |own (x:Addr)
 /-- the dict of an exception -/
 |xd (fs:List (Str×V))
 /-- a bound method,f of x -/
 |met (f x:Addr)
 /-- a range object lo,lo+1,.. below hi -/
 |rng (lo hi:Int)
 /-- a thing that is known to the object (the script;a dict while a loop walks it):read,never written while it is so -/
 |frz (o:Obj) (u:HO)
 /-- a code object's table -/
 |tbl (ps:Array Value)
 /-- any other thing,by what is true of its one object (a def of one's own: SetO a S n:=HO.ext λh=> ..) -/
 |ext (φ:Heap->Prop)
abbrev Hp:=Addr->Option HO
def upd (H:Hp)(a:Addr)(o:HO):Hp:=λb=>if b=a then some o else H b
variable {H:Hp}{a:Addr}{o:HO}
theorem jt:upd H a o a=some o:=by unfold upd;rw [if_pos rfl]
variable {b:Addr}
theorem jl (h:b≠a):upd H a o b=H b:=by unfold upd;rw [if_neg h]
theorem Pc {u:HO}(h:H a=some o)(h':H b=some u)(d:o≠u):a≠b:=by
 intro e;subst e;rw [h] at h';exact d (M5 h')
theorem ji (h:H a=some o)(h':H b=none):a≠b:=by
 intro e;subst e;rw [h] at h';cases h'
def IsTupN (h:Heap)(a:Addr)(items:Array Value):Prop:= ∃o,h.get? a=some o/\o.cls= .type "tuple" /\o.dict=none/\ ∃n,o.data= .seq items n
theorem IsTupN.tup {h:Heap}{a:Addr}{items:Array Value}(x:IsTupN h a items):IsTup h a items:=let ⟨o,e,c,_,n,d⟩:=x;⟨o,e,c,n,d⟩
theorem IsTupN.new (h:Heap)(items:Array Value):IsTupN (h.push {cls:= .type "tuple",data:= .seq items}) h.objs.size items:=⟨_,R3 _ rfl,rfl,rfl,_,rfl⟩
section
variable (P:Program)(w:World)
def ObjOk (H:Hp)(h:Heap)(a:Addr):HO->Prop
 | .lst xs=>xs.length<=sizeLine/\ ∃ (its:List Value) (n:Nat),Vals xs its/\h.get? a=some {cls:= .type "list",data:= .seq its.toArray n}
 | .tup xs=>xs.length<=sizeLine/\ ∃its:List Value,Vals xs its/\IsTupN h a its.toArray
 | .dK kvs=>kvs.length<=sizeLine/\(a==sysModules)=false/\ ∃vs,KV kvs vs/\h.DictOf (zA P w) a vs
 | .dT kvs=>kvs.length<=sizeLine/\(a==sysModules)=false/\ ∃xs:List (List Key×Addr×Value),
  Paired (λ(p:List Key×V) (q:List Key×Addr×Value)=>p.1=q.1/\H q.2.1=some (.tup (p.1.map kV))/\RelV p.2 q.2.2) kvs xs/\
  ∃o es ep,h.get? a=some o/\o.ExactDict/\o.data= .dict es ep/\es.toList=xs.map (entryOfKey (tupleKind (zA P w)))/\(xs.map (·.1)).Nodup
 | .set S n=>h.SetOf (intKind P w) a S n
 | .ins C dx fs=>H dx=some (.own a)/\fs.length<=1000/\dx≠a/\h.get? a=some (PySem.W.instObj C dx)/\
  ∃mA,h.Ns1 dx mA/\(∀f,RelO (fs.lookup f) (mA f))/\PySem.Within mA (fs.map (·.1))
 | .own _=> ∃o,h.get? a=some o
 | .xd fs=> ∃mA,h.Ns1 a mA/\ ∀f,RelO (fs.lookup f) (mA f)
 | .rng lo hi=> ∃t u v,h.get? a=some {cls:= .type "range",data:= .fields #[.int lo t,.int hi u,.int 1 v]}
 | .frz o u=>h.get? a=some o/\ObjOk H h a u
 | .tbl ps=>h.get? a=some {cls:= .none,data:= .fields ps}
 | .met f x=>h.get? a=some (PySem.W.methodObj (.ref f) (.ref x))
 | .ext φ=>φ h/\(∃o,h.get? a=some o)/\ ∀h1 h2:Heap,φ h1->(∀o,h1.get? a=some o->h2.get? a=some o)->φ h2
def HOk (H:Hp)(h:Heap):Prop:= ∀a o,H a=some o->ObjOk P w H h a o
end
section
variable {P:Program}{w:World}{H H':Hp}{h h':Heap}{a:Addr}{o:HO}
theorem ObjOk.lt (x:ObjOk P w H h a o):a<h.objs.size:=by
 cases o with
 |lst xs=>obtain⟨_,_,_,_,e⟩:=x;exact D5 e
 |tup xs=>obtain⟨_,_,_,p⟩:=x;exact p.tup.lt
 |dK kvs=>obtain⟨_,_,_,_,o,_,_,e,_⟩:=x;exact D5 e
 |dT kvs=>obtain⟨_,_,_,_,o,_,_,e,_⟩:=x;exact D5 e
 |set S n=>obtain⟨o,_,_,_,e,_⟩:=x;exact D5 e
 |ins C dx fs=>obtain⟨_,_,_,e,_⟩:=x;exact D5 e
 |own y=>obtain⟨_,e⟩:=x;exact D5 e
 |xd fs=>obtain⟨_,⟨_,_,_,e,_⟩,_⟩:=x;exact D5 e
 |rng lo hi=>obtain⟨_,_,_,e⟩:=x;exact D5 e
 |frz ob u=>obtain⟨e,_⟩:=x;exact D5 e
 |tbl ps=>exact D5 (show h.get? a=some _ from x)
 |met f y=>exact D5 (show h.get? a=some _ from x)
 |ext φ=>obtain⟨_,⟨_,e⟩,_⟩:=x;exact D5 e
theorem Paired.mapP {α β:Type}{F G:α->β->Prop}: ∀ {l₁:List α} {l₂:List β},Paired F l₁ l₂->(∀a b,F a b->G a b)->Paired G l₁ l₂
 |_,_,.nil,_=> .nil
 |_,_,.cons r t,f=> .cons (f _ _ r) (Paired.mapP t f)
theorem ObjOk.stay (x:ObjOk P w H h a o)(k: ∀b u,(b=a\/H b=some (.own a))->h.get? b=some u->h'.get? b=some u)
 (ho: ∀b,H b=some (.own a)->H' b=some (.own a))(ht: ∀b xs,H b=some (.tup xs)->H' b=some (.tup xs)):ObjOk P w H' h' a o:=by
 induction o with
 |lst xs=>obtain⟨z,its,n,r,e⟩:=x;exact⟨z,its,n,r,k _ _ (.inl rfl) e⟩
 |tup xs=>obtain⟨z,its,r,ob,e,c⟩:=x;exact⟨z,its,r,ob,k _ _ (.inl rfl) e,c⟩
 |dK kvs=>obtain⟨z,y,vs,r,ob,es,ep,e,c⟩:=x;exact⟨z,y,vs,r,ob,es,ep,k _ _ (.inl rfl) e,c⟩
 |dT kvs=>
  obtain⟨z,y,xs,r,ob,es,ep,e,c⟩:=x;exact⟨z,y,xs,Paired.mapP r λp q z=>⟨z.1,ht _ _ z.2.1,z.2.2⟩,ob,es,ep,k _ _ (.inl rfl) e,c⟩
 |set S n=>obtain⟨ob,es,ep,t,e,c⟩:=x;exact⟨ob,es,ep,t,k _ _ (.inl rfl) e,c⟩
 |ins C dx fs=>
  obtain⟨d,z,ne,e,mA,⟨od,es,ep,e2,c⟩,r⟩:=x;exact⟨ho _ d,z,ne,k _ _ (.inl rfl) e,mA,⟨od,es,ep,k _ _ (.inr d) e2,c⟩,r⟩
 |own y=>obtain⟨ob,e⟩:=x;exact⟨ob,k _ _ (.inl rfl) e⟩
 |xd fs=>obtain⟨mA,⟨od,es,ep,e,c⟩,r⟩:=x;exact⟨mA,⟨od,es,ep,k _ _ (.inl rfl) e,c⟩,r⟩
 |rng lo hi=>obtain⟨t,u,v,e⟩:=x;exact⟨t,u,v,k _ _ (.inl rfl) e⟩
 |frz ob u ih=>obtain⟨e,q⟩:=x;exact⟨k _ _ (.inl rfl) e,ih q⟩
 |tbl ps=>
  have e:h.get? a=some {cls:= .none,data:= .fields ps}:=x;show h'.get? a=some {cls:= .none,data:= .fields ps};exact k a _ (.inl rfl) e
 |met f y=>
  have e:h.get? a=some (PySem.W.methodObj (.ref f) (.ref y)):=x;show h'.get? a=some (PySem.W.methodObj (.ref f) (.ref y));exact k a _ (.inl rfl) e
 |ext φ=>obtain⟨p,⟨o,e⟩,st⟩:=x;exact⟨st _ _ p λo q=>k _ _ (.inl rfl) q,⟨o,k _ _ (.inl rfl) e⟩,st⟩
theorem HOk.lt (x:HOk P w H h)(e:H a=some o):a<h.objs.size:=(x a o e).lt
theorem HOk.fresh (x:HOk P w H h)(e:h.objs.size<=a):H a=none:=by
 cases q:H a with
 |none=>rfl
 |some u=>exact absurd (S0 (x.lt q) e) (B2 _)
theorem HOk.kept (x:HOk P w H h)(k: ∀b u,h.get? b=some u->h'.get? b=some u):HOk P w H h':=λa o e=>
 (x a o e).stay (λb u _ q=>k b u q) (λ_ q=>q) λ_ _ q=>q
theorem HOk.laid (x:HOk P w H h)(k: ∀b u,h.get? b=some u->h'.get? b=some u)(hp:h.objs.size<=a)(new:ObjOk P w (upd H a o) h' a o):HOk P w (upd H a o) h':=λb u e=>by
 have hn:=x.fresh hp
 by_cases hb:b=a
 ·subst hb;rw [jt] at e;cases e;exact new
 ·rw [jl hb] at e;exact(x b u e).stay (λc v _ q=>k c v q) (λc q=>by rw [jl (ji q hn)];exact q) λc xs q=>by rw [jl (ji q hn)];exact q
end
def Rd (H:Hp)(a:Addr)(u:HO):Prop:=H a=some u\/ ∃o,H a=some (.frz o u)
variable {P:Program}{w:World}{h:Heap}
theorem Rd.ok {u:HO}(r:Rd H a u)(x:HOk P w H h):ObjOk P w H h a u:=by
 rcases r with r|⟨o,r⟩
 ·exact x a u r
 ·obtain⟨_,q⟩:=x a _ r;exact q
def Mut:Option HO->Prop
 |some (.lst _)=>True
 |some (.dK _)=>True
 |some (.dT _)=>True
 |some (.set _ _)=>True
 |some (.ins _ _ _)=>True
 |some (.ext _)=>True
 |_=>False
section
variable {P:Program}{w:World}{H:Hp}{h h':Heap}{x e:Addr}{o':HO}
theorem HOk.write (ok:HOk P w H h)(mu:Mut (H x))(he:e=x\/H e=some (.own x))(k: ∀b u,b≠e->h.get? b=some u->h'.get? b=some u)(heo: ∃u,h'.get? e=some u)
 (new:ObjOk P w (upd H x o') h' x o'):HOk P w (upd H x o') h':=λb u q=>by
 have nown: ∀c y,H c=some (.own y)->c≠x:=λc y r z=>by subst z;rw [r] at mu;exact mu
 have ntup: ∀c xs,H c=some (.tup xs)->c≠x:=λc xs r z=>by subst z;rw [r] at mu;exact mu
 by_cases hb:b=x
 ·subst hb;rw [jt] at q;cases q;exact new
 ·rw [jl hb] at q
  by_cases hbe:b=e
  ·have q':H b=some (.own x):=by
    rcases he with z|z
    ·exact absurd (hbe.trans z) hb
    ·rw [hbe];exact z
   rw [q] at q';cases q';obtain⟨v,hv⟩:=heo;exact⟨v,by rw [hbe];exact hv⟩
  ·refine(ok b u q).stay (λc v hc r=>k c v ?_ r) (λc r=>by rw [jl (nown c b r)];exact r) λc xs r=>by rw [jl (ntup c xs r)];exact r
   rcases hc with rfl|hc
   ·exact hbe
   ·rintro rfl;rcases he with z|z
    ·exact nown c b hc z
    ·rw [hc] at z;cases z;exact hb rfl
end
structure Un (fs ex:List Addr)(H H':Hp)(h h':Heap):Prop where
 keep: ∀b o,h.get? b=some o->H b=none->b ∉ fs->b ∉ ex->h'.get? b=some o
 slot: ∀b o,h.get? b=some o->H b=none->b∈fs->b ∉ ex-> ∃sl,h'.get? b=some {o with slots:=sl}
 free: ∀b o,h.get? b=some o->H b=none->b ∉ ex->H' b=none
 there: ∀b o,h.get? b=some o->b ∉ ex-> ∃o',h'.get? b=some o'
 tups: ∀b xs,H b=some (.tup xs)->H' b=some (.tup xs)
 frzs: ∀b o u,H b=some (.frz o u)->H' b=some (.frz o u)
 tbls: ∀b ps,H b=some (.tbl ps)-> ∃more,H' b=some (.tbl (ps++more))
section
variable {fs fs' ex ex':List Addr}{H H1 H2:Hp}{h h1 h2 h':Heap}{a x e:Addr}{o:HO}
theorem Un.any (u:Un fs ex H H1 h h1){b:Addr}{ob:Obj}(q:h.get? b=some ob)(n:H b=none)(hx:b ∉ ex): ∃sl,h1.get? b=some {ob with slots:=sl}:=by
 by_cases hb:b∈fs
 ·exact u.slot b ob q n hb hx
 ·exact⟨ob.slots,u.keep b ob q n hb hx⟩
theorem Un.kept (k: ∀b u,h.get? b=some u->h'.get? b=some u):Un fs ex H H h h':=
 ⟨λb ob q _ _ _=>k b ob q,λb ob q _ _ _=>⟨ob.slots,k b ob q⟩,λ_ _ _ n _=>n,λb ob q _=>⟨ob,k b ob q⟩,λ_ _ q=>q,λ_ _ _ q=>q,λ_ ps q=>⟨#[],by rw [q];simp⟩⟩
theorem Un.refl:Un fs ex H H h h:=Un.kept λ_ _ q=>q
theorem Un.laid (k: ∀b u,h.get? b=some u->h'.get? b=some u)(hp:h.objs.size<=a)(hn:H a=none):Un fs ex H (upd H a o) h h' where
 keep:=λb u q _ _ _=>k b u q
 slot:=λb u q _ _ _=>⟨u.slots,k b u q⟩
 free:=λb u q n _=>by rw [jl (S3 (S0 (D5 q) hp))];exact n
 there:=λb u q _=>⟨u,k b u q⟩
 tups:=λb xs q=>by rw [jl (ji q hn)];exact q
 frzs:=λb u xs q=>by rw [jl (ji q hn)];exact q
 tbls:=λb ps q=>⟨#[],by rw [jl (ji q hn),q];simp⟩
theorem Un.write (mu:Mut (H x))(he:e=x\/H e=some (.own x))(k: ∀b u,b≠e->h.get? b=some u->h'.get? b=some u)(heo: ∃u,h'.get? e=some u):Un fs ex H (upd H x o) h h':=by
 have hx: ∀b,H b=none->b≠x:=λb n z=>by subst z;rw [n] at mu;exact mu
 have hb: ∀b,H b=none->b≠e:=λb n z=>by
  subst z;rcases he with r|r
  ·exact hx b n r
  ·rw [n] at r;cases r
 have hm: ∀b u,H b=some u-> ¬Mut (some u)->b≠x:=λb u q nm z=>by subst z;rw [q] at mu;exact nm mu
 refine⟨λb u q n _ _=>k b u (hb b n) q,λb u q n _ _=>⟨u.slots,k b u (hb b n) q⟩,λb u q n _=>by rw [jl (hx b n)];exact n,λb u q _=> ?_,
  λb xs q=>by rw [jl (hm b _ q λz=>z)];exact q,λb u xs q=>by rw [jl (hm b _ q λz=>z)];exact q,λb ps q=>⟨#[],by rw [jl (hm b _ q λz=>z),q];simp⟩⟩
 by_cases hbe:b=e
 ·subst hbe;exact heo
 ·exact⟨u,k b u hbe q⟩
end
def trk (h:Heap)(H:Hp):List Addr:=(List.range h.objs.size).filter λa=>(H a).isSome
def Nc (h:Heap)(H:Hp):Heap:=PySem.W.hideAll h (trk h H)
theorem Dj (h:Heap)(H:Hp):(Nc h H).objs.size=h.objs.size:=PySem.W.hideAll_size _ _
theorem YK {o:Obj}(e:h.get? b=some o)(n:H b=none):(Nc h H).get? b=some o:=
 PySem.W.hideAll_get _ e λhm=>by
  have q:(H b).isSome=true:=(S7.mp hm).2;rw [n] at q;simp at q
theorem CC {o:Obj}(e:(Nc h H).get? b=some o):h.get? b=some o/\H b=none:=by
 have e':h.get? b=some o:=PySem.W.of_hideAll (trk h H) e;refine⟨e',?_⟩;cases q:H b with
 |none=>rfl
 |some x=>
  have hm:b∈trk h H:=S7.mpr ⟨D1.mpr (D5 e'),by simp [q]⟩;have z:(Nc h H).get? b=none:=PySem.W.hideAll_none (trk h H) hm;rw [z] at e;cases e
def CF (g h:Heap)(L:Addr):List (Addr×Obj):=(List.range h.objs.size).filterMap λa=>if a=L\/(g.get? a).isSome=true then none else (h.get? a).map λo=>(a,o)
def rest (g h:Heap)(L d:Addr):List (Addr×Obj):=(CF g h L).filter λp=>decide (p.1≠d)
structure Mod (K:PySem.W.Frag)(mg:Str->Option Value)(base:Heap):Prop where
 kin:K.In base
 glob:base.Ns mainGlobals mg
 blt: ∃mb,base.Ns builtinsNs mb/\ ∀x:Str,x≠ "__name__" ->mb x=bootBuiltins x
 nolimit:base.NoLimit
structure Cx where
 prog:Program
 w:World
 K:PySem.W.Frag
 mg:Str->Option Value
 base:Heap
 A:Around
 N:List Str
 s₀:Shared
 H₀:Hp
 env:Env
 outer:List Env
 stack:List Env
 ex:List Addr
 fn:Str->Bool
 calm:Bool
 pn:List (Addr×Obj)
 xe:Value->Shared->Prop
def frs (l:List Env):List Addr:=l.filterMap (·.frame)
abbrev Cx.fs (X:Cx):List Addr:=frs X.outer
def Vis (sc:Scope)(x:Str):Prop:=sc.names.lookup x=some .local\/sc.names.lookup x=some .cell\/sc.names.lookup x=some .free
def Loc (sc:Scope)(x:Str):Prop:=sc.names.lookup x=some .local\/sc.names.lookup x=some .cell
def HA (env:Env)(h:Heap)(m:Str->Option Value)(x:Str)(u:Value):Prop:=
 (env.kindOf x=some .local/\m x=some u)\/((env.kindOf x=some .cell\/env.kindOf x=some .free)/\ ∃c,env.cells.lookup x=some c/\h.IsCell c (some u))
structure Cx.Ok (X:Cx):Prop where
 mod:Mod X.K X.mg X.base
 kind:X.env.scope.kind= .function
 glob:X.env.globals=mainGlobals
 blt:X.env.builtins=builtinsNs
 above:X.s₀.heap.objs.size<=X.env.locals
 inj: ∀x y c,X.env.cells.lookup x=some c->X.env.cells.lookup y=some c->x=y
 has: ∀x,(X.env.kindOf x=some .cell\/X.env.kindOf x=some .free)-> ∃c,X.env.cells.lookup x=some c
 cab: ∀x c,X.fn x=true->X.env.cells.lookup x=some c->X.s₀.heap.objs.size<=c
 hd:X.calm=true->X.A.handled=none
 frames:X.A.frames=some X.stack
 stk:X.stack=X.outer\/(X.stack=X.env::X.outer/\X.env.frame=some X.env.locals)
 exf: ∀b∈X.ex,b≠X.env.locals/\ ∀x c,X.env.cells.lookup x=some c->c≠b
 bs: ∀b o,X.base.get? b=some o->X.s₀.heap.get? b=some o/\X.H₀ b=none
 bsz:X.base.objs.size<=X.s₀.heap.objs.size
 noex: ∀b o,X.base.get? b=some o->b ∉ X.ex
 exfs: ∀b∈X.ex,b ∉ X.fs
 funs:X.s₀.heap.FunFrames X.base X.outer
 frf: ∀b∈X.fs,X.H₀ b=none
structure Inv (X:Cx)(pins:List (Addr×Obj))(σ:List (Option V))(H:Hp)(s:Shared):Prop where
 ok:X.Ok
 os:s.os=X.s₀.os
 bare:AllBare s.gens
 base:Un X.fs X.ex X.H₀ H X.s₀.heap s.heap
 loc: ∃m,s.heap.Ns X.env.locals m/\ ∀ (i:Nat) (x:Str) (v:V),X.N[i]? =some x->σ[i]? =some (some v)->Vis X.env.scope x-> ∃u,RelV v u/\HA X.env s.heap m x u
 cell: ∀x c,X.env.cells.lookup x=some c-> ∃v,s.heap.IsCell c v
 free:H X.env.locals=none
 freeC: ∀x c,X.env.cells.lookup x=some c->H c=none
 pin: ∀p∈X.pn++pins,s.heap.get? p.1=some p.2/\H p.1=none/\p.1≠X.env.locals/\p.1 ∉ X.fs/\ ∀v,p.2.data≠ .cell v
 hok:HOk X.prog X.w H s.heap
 len:σ.length=X.N.length
section
variable {X:Cx}{pins:List (Addr×Obj)}{σ:List (Option V)}{H H':Hp}{s:Shared}{h':Heap}
theorem Cx.Ok.nofr (ok:X.Ok){b:Addr}{o:Obj}(e:X.base.get? b=some o):b ∉ X.fs:=λhb=>by
 have:=(ok.funs.mem hb).1;rw [e] at this;cases this
theorem Inv.bs (I:Inv X pins σ H s): ∀b o,X.base.get? b=some o->s.heap.get? b=some o/\H b=none:=λb o e=>
 ⟨I.base.keep b o (I.ok.bs b o e).1 (I.ok.bs b o e).2 (I.ok.nofr e) (I.ok.noex b o e),I.base.free b o (I.ok.bs b o e).1 (I.ok.bs b o e).2 (I.ok.noex b o e)⟩
theorem Inv.bk (I:Inv X pins σ H s): ∀b o,X.base.get? b=some o->s.heap.get? b=some o:=λb o e=>(I.bs b o e).1
theorem Inv.mod (I:Inv X pins σ H s):Mod X.K X.mg X.base:=I.ok.mod
theorem Inv.kIn (I:Inv X pins σ H s):X.K.In s.heap:=I.ok.mod.kin.keeps I.bk
theorem Inv.lt (I:Inv X pins σ H s):X.env.locals<s.heap.objs.size:=let ⟨_,hn,_⟩:=I.loc;hn.lt
theorem Inv.sz (I:Inv X pins σ H s):X.s₀.heap.objs.size<=s.heap.objs.size:=D7 I.ok.above (D8 I.lt)
theorem Inv.nofs (I:Inv X pins σ H s){a:Addr}(h:s.heap.objs.size<=a):a ∉ X.fs:=λhb=>by
 obtain⟨_,o,ho,_⟩:=I.ok.funs.mem hb;exact absurd (S0 (D5 ho) (D7 I.sz h)) (B2 _)
theorem Inv.cne (I:Inv X pins σ H s): ∀x c,X.env.cells.lookup x=some c->c≠X.env.locals:=λx c e z=>by
 obtain⟨v,o,ho,hd⟩:=I.cell x c e;obtain⟨m,⟨o',es,ep,ho',hd',_⟩,_⟩:=I.loc;rw [z,ho'] at ho;cases ho;rw [hd'] at hd;cases hd
theorem Inv.funs (I:Inv X pins σ H s):s.heap.FunFrames X.base X.outer:=by
 have all: ∀ (l:List Env),(∀b∈frs l,b∈X.fs)->X.s₀.heap.FunFrames X.base l->s.heap.FunFrames X.base l:=by
  intro l
  induction l with
  |nil=>intro _ _;trivial
  |cons env r ih=>
   intro hs hl;obtain⟨hk,⟨L,o,hf,hn,ho,hd⟩,hr⟩:=hl;have hL:L∈X.fs:=hs L (by unfold frs;rw [List.filterMap_cons,hf];exact List.mem_cons_self);obtain⟨sl,e⟩:=I.base.slot L o ho (I.ok.frf L hL) hL λz=>I.ok.exfs L z hL
   exact⟨hk,⟨L,_,hf,hn,e,hd⟩,ih (λb hb=>hs b (by unfold frs;rw [List.filterMap_cons,hf];exact List.mem_cons_of_mem _ hb)) hr⟩
 exact all X.outer (λ_ hb=>hb) I.ok.funs
theorem Inv.stack (I:Inv X pins σ H s):s.heap.FunFrames X.base X.stack:=by
 rcases I.ok.stk with e|⟨e,hf⟩
 ·rw [e];exact I.funs
 ·rw [e];obtain⟨m,hn,_⟩:=I.loc;refine .cons (by rw [I.ok.kind];decide) hf hn ?_ I.funs;exact Heap.get?_none_of_le (D7 I.ok.bsz I.ok.above)
theorem Inv.stkSub (I:Inv X pins σ H s): ∀b∈frs X.stack,b∈X.env.locals::X.fs:=λb hb=>by
 rcases I.ok.stk with e|⟨e,hf⟩
 ·rw [e] at hb;exact R0 _ hb
 ·rw [e] at hb;unfold frs at hb;rw [List.filterMap_cons,hf] at hb;exact hb
theorem Inv.stkFree (I:Inv X pins σ H s): ∀b∈frs X.stack,H b=none:=λb hb=>by
 rcases R6.mp (I.stkSub b hb) with e|hb
 ·rw [e];exact I.free
 ·obtain⟨_,o,ho,_⟩:=I.ok.funs.mem hb;exact I.base.free b o ho (I.ok.frf b hb) λz=>I.ok.exfs b z hb
variable {t':Nat}
theorem Inv.step {g':Array GenState}{d':Drawn}{ch:List Addr}(I:Inv X pins σ H s)
 (hch: ∀b∈ch,(b∈X.ex\/X.s₀.heap.objs.size<=b)/\b≠X.env.locals/\(∀x c,X.env.cells.lookup x=some c->c≠b)/\ ∀p∈X.pn++pins,p.1≠b)
 (keep: ∀b o,b≠X.env.locals->b ∉ X.fs->b ∉ ch->s.heap.get? b=some o->H b=none->h'.get? b=some o)
 (slot: ∀b o,b≠X.env.locals->b∈X.fs->b ∉ ch->s.heap.get? b=some o->H b=none-> ∃sl,h'.get? b=some {o with slots:=sl})(free: ∀b o,b ∉ ch->s.heap.get? b=some o->H b=none->H' b=none)
 (there: ∀b o,b ∉ ch->s.heap.get? b=some o-> ∃o',h'.get? b=some o')
 (tups: ∀b xs,H b=some (.tup xs)->H' b=some (.tup xs))(frzs: ∀b o u,H b=some (.frz o u)->H' b=some (.frz o u))(tbls: ∀b ps,H b=some (.tbl ps)-> ∃more,H' b=some (.tbl (ps++more)))
 (ns: ∀m,s.heap.Ns X.env.locals m->h'.Ns X.env.locals m)(hok:HOk X.prog X.w H' h')(hg:AllBare g'):
 Inv X pins σ H' {s with heap:=h',gens:=g',drawn:=d',toks:=t'}:=by
 have neL: ∀b o,X.s₀.heap.get? b=some o->b≠X.env.locals:=λb o e=>S3 (S0 (D5 e) I.ok.above)
 have neC: ∀b o,X.s₀.heap.get? b=some o->b ∉ X.ex->b ∉ ch:=λb o e hx hb=>by
  rcases (hch b hb).1 with z|z
  ·exact hx z
  ·exact absurd (S0 (D5 e) z) (B2 _)
 have cellK: ∀x c,X.env.cells.lookup x=some c-> ∀v,s.heap.IsCell c v->h'.IsCell c v:=λx c e v ⟨o,ho,hd⟩=>by
  have nch:c ∉ ch:=λz=>(hch c z).2.2.1 x c e rfl
  by_cases hc:c∈X.fs
  ·obtain⟨sl,q⟩:=slot c o (I.cne x c e) hc nch ho (I.freeC x c e);exact⟨_,q,hd⟩
  ·exact⟨o,keep c o (I.cne x c e) hc nch ho (I.freeC x c e),hd⟩
 refine⟨I.ok,I.os,hg,⟨λb o e n hb hx=> ?_,λb o e n hb hx=> ?_,λb o e n hx=> ?_,λb o e hx=> ?_,λb xs e=>tups b xs (I.base.tups b xs e),λb o xs e=>frzs b o xs (I.base.frzs b o xs e),λb ps e=> ?_⟩,?_,λx c e=> ?_,?_,λx c e=> ?_,λp hp=> ?_,hok,I.len⟩
 ·exact keep b o (neL b o e) hb (neC b o e hx) (I.base.keep b o e n hb hx) (I.base.free b o e n hx)
 ·obtain⟨sl,e1⟩:=I.base.slot b o e n hb hx;obtain⟨sl',e2⟩:=slot b _ (neL b o e) hb (neC b o e hx) e1 (I.base.free b o e n hx);exact⟨sl',e2⟩
 ·obtain⟨o',e1⟩:=I.base.there b o e hx;exact free b o' (neC b o e hx) e1 (I.base.free b o e n hx)
 ·obtain⟨o',e1⟩:=I.base.there b o e hx;exact there b o' (neC b o e hx) e1
 ·obtain⟨m1,e1⟩:=I.base.tbls b ps e;obtain⟨m2,e2⟩:=tbls b _ e1;exact⟨m1++m2,by rw [e2,Array.append_assoc]⟩
 ·obtain⟨m,hn,hl⟩:=I.loc;refine⟨m,ns m hn,λi x v e1 e2 e3=> ?_⟩;obtain⟨u,r,l⟩:=hl i x v e1 e2 e3;refine⟨u,r,?_⟩;rcases l with l|⟨k,c,e,z⟩
  ·exact .inl l
  ·exact .inr ⟨k,c,e,cellK x c e _ z⟩
 ·obtain⟨v,z⟩:=I.cell x c e;exact⟨v,cellK x c e v z⟩
 ·obtain⟨m,⟨o,_,_,ho,_⟩,_⟩:=I.loc;exact free _ o (λz=>(hch _ z).2.1 rfl) ho I.free
 ·obtain⟨v,o,ho,hd⟩:=I.cell x c e;exact free c o (λz=>(hch c z).2.2.1 x c e rfl) ho (I.freeC x c e)
 ·obtain⟨e,n,ne,nf,d⟩:=I.pin p hp;have nch:p.1 ∉ ch:=λz=>(hch p.1 z).2.2.2 p hp rfl
  exact⟨keep p.1 p.2 ne nf nch e n,free p.1 p.2 nch e n,ne,nf,d⟩
theorem Inv.un (I:Inv X pins σ H s)(u:Un X.fs [] H H' s.heap h')(hok:HOk X.prog X.w H' h'):Inv X pins σ H' {s with heap:=h',toks:=t'}:=by
 obtain⟨m,⟨o,es,ep,ho,r⟩,_⟩:=id I.loc;obtain⟨sl,hL⟩:=u.any ho I.free (by simp);exact I.step (g':=s.gens) (d':=s.drawn) (ch:= []) (λ_ z=>nomatch z) (λb o _ hb _ e n=>u.keep b o e n hb (by simp)) (λb o _ hb _ e n=>u.slot b o e n hb (by simp)) (λb o _ e n=>u.free b o e n (by simp)) (λb o _ e=>u.there b o e (by simp)) u.tups u.frzs u.tbls (λm' hm=>by
  obtain⟨o',es',ep',ho',r'⟩:=hm;rw [ho] at ho';cases ho';exact⟨_,es',ep',hL,r'⟩) hok I.bare
theorem Inv.call {g':Array GenState}{d':Drawn}{ch:List Addr}(I:Inv X pins σ H s)(u:Un (frs X.stack) ch H H' s.heap h')(hok:HOk X.prog X.w H' h')(hg:AllBare g')
 (hch: ∀b∈ch,(b∈X.ex\/X.s₀.heap.objs.size<=b)/\b≠X.env.locals/\(∀x c,X.env.cells.lookup x=some c->c≠b)/\ ∀p∈X.pn++pins,p.1≠b):
 Inv X pins σ H' {s with heap:=h',gens:=g',drawn:=d',toks:=t'}:=by
 obtain⟨m,⟨o,es,ep,ho,r⟩,_⟩:=id I.loc;obtain⟨sl,hL⟩:=u.any ho I.free λz=>(hch _ z).2.1 rfl
 exact I.step (ch:=ch) hch (λb o hL hb hc e n=>u.keep b o e n (λz=>(R6.mp (I.stkSub b z)).elim hL hb) hc) (λb o _ _ hc e n=>u.any e n hc) (λb o hc e n=>u.free b o e n hc) (λb o hc e=>u.there b o e hc) u.tups u.frzs u.tbls (λm' hm=>by
  obtain⟨o',es',ep',ho',r'⟩:=hm;rw [ho] at ho';cases ho';exact⟨_,es',ep',hL,r'⟩) hok hg
theorem Inv.turned {it:Addr}(I:Inv X pins σ H s)(k: ∀b o,b≠it->s.heap.get? b=some o->h'.get? b=some o)(hn:H it=none)(hL:it≠X.env.locals)
 (h1:it∈X.ex\/X.s₀.heap.objs.size<=it)(h2: ∀x c,X.env.cells.lookup x=some c->c≠it)(h3: ∀p∈X.pn++pins,p.1≠it):Inv X pins σ H {s with heap:=h',toks:=t'}:=by
 have nit: ∀b u,H b=some u->b≠it:=λb u e z=>by rw [z,hn] at e;cases e
 refine I.step (g':=s.gens) (d':=s.drawn) (ch:= [it]) (λb hb=> ?_) (λb o _ _ hc e _=>k b o (λz=>hc (by simp [z])) e) (λb o _ _ hc e _=>⟨o.slots,k b o (λz=>hc (by simp [z])) e⟩) (λ_ _ _ _ n=>n)
  (λb o hc e=>⟨o,k b o (λz=>hc (by simp [z])) e⟩) (λ_ _ e=>e) (λ_ _ _ e=>e) (λb ps e=>⟨#[],by rw [e];simp⟩) (λm hm=> ?_) (λb u e=> ?_) I.bare
 ·have e:b=it:=by simpa using hb
  subst e;exact⟨h1,hL,h2,h3⟩
 ·obtain⟨o,es,ep,ho,r⟩:=hm;exact⟨o,es,ep,k _ o (Ne.symm hL) ho,r⟩
 ·refine(I.hok b u e).stay (λc v hc q=>k c v ?_ q) (λ_ q=>q) λ_ _ q=>q
  rcases hc with z|z
  ·rw [z];exact nit b u e
  ·exact nit c _ z
theorem Inv.tok (I:Inv X pins σ H s)(t:Nat):Inv X pins σ H {s with toks:=t}:=I.un (h':=s.heap) (t':=t) Un.refl I.hok
theorem Inv.kept (I:Inv X pins σ H s)(k: ∀b u,s.heap.get? b=some u->h'.get? b=some u):Inv X pins σ H {s with heap:=h',toks:=t'}:=I.un (Un.kept k) (I.hok.kept k)
theorem Inv.laid {a:Addr}{o:HO}(I:Inv X pins σ H s)(k: ∀b u,s.heap.get? b=some u->h'.get? b=some u)(hp:s.heap.objs.size<=a)(new:ObjOk X.prog X.w (upd H a o) h' a o):
 Inv X pins σ (upd H a o) {s with heap:=h',toks:=t'}:=I.un (Un.laid k hp (I.hok.fresh hp)) (I.hok.laid k hp new)
theorem Inv.write {x e:Addr}{o:HO}(I:Inv X pins σ H s)(mu:Mut (H x))(he:e=x\/H e=some (.own x))(k: ∀b u,b≠e->s.heap.get? b=some u->h'.get? b=some u)(heo: ∃u,h'.get? e=some u)
 (new:ObjOk X.prog X.w (upd H x o) h' x o):Inv X pins σ (upd H x o) {s with heap:=h',toks:=t'}:=I.un (Un.write mu he k heo) (I.hok.write mu he k heo new)
theorem Inv.weak {σ':List (Option V)}(I:Inv X pins σ H s)(hl:σ'.length=σ.length)(w: ∀ (i:Nat) v,σ'[i]? =some (some v)->σ[i]? =some (some v)):Inv X pins σ' H s:=
 ⟨I.ok,I.os,I.bare,I.base,let ⟨m,hn,hl'⟩:=I.loc;⟨m,hn,λi x v e1 e2 e3=>hl' i x v e1 (w i v e2) e3⟩,I.cell,I.free,I.freeC,I.pin,I.hok,hl.trans I.len⟩
theorem Inv.pins_of {pins':List (Addr×Obj)}(I:Inv X pins σ H s)(h: ∀p∈pins',s.heap.get? p.1=some p.2/\H p.1=none/\p.1≠X.env.locals/\p.1 ∉ X.fs/\ ∀v,p.2.data≠ .cell v):Inv X pins' σ H s:=
 ⟨I.ok,I.os,I.bare,I.base,I.loc,I.cell,I.free,I.freeC,λp hp=>(P7.mp hp).elim (λz=>I.pin p (T5 _ z)) (h p),I.hok,I.len⟩
theorem Gn {N:List Str}(hN:N.Nodup){i j:Nat}{x:Str}(a:N[i]? =some x)(b:N[j]? =some x):i=j:=by
 obtain⟨h1,e1⟩:=G7.mp a;obtain⟨h2,e2⟩:=G7.mp b;exact(List.getElem_inj hN).mp (e1.trans e2.symm)
theorem Dk {M:Model}{A:Around}{E:Value->Shared->Prop}{i:Nat}{x:Str}{v:V}{u:Value}{Q:Unit->Shared->Prop}(I:Inv X pins σ H s)(hN:X.N.Nodup)(hi:X.N[i]? =some x)(hx:Loc X.env.scope x)(r:RelV v u)
 (h: ∀s',Inv X pins (σ.set i (some v)) H s'->(∃a,Heap.SameBut a s.heap s'.heap/\(a=X.env.locals\/X.env.cells.lookup x=some a))->Q () s')(hf:X.fn x=true\/X.env.scope.names.lookup x=some .local:=by first|exact .inl rfl|exact .inr rfl|assumption):wpAny M A (storeName X.env x u) Q E s:=by
 obtain⟨m,hn,hl⟩:=id I.loc;have hcls:(X.env.scope.kind== .class||(X.env.scope.kind== .module&&X.env.locals !=X.env.globals))=false:=by rw [I.ok.kind];rfl
 have hiσ:i<σ.length:=by rw [I.len];exact(G7.mp hi).1
 have cne:=I.cne;have tracked: ∀ {a:Addr} {h':Heap},(∃o,s.heap.get? a=some o/\H a=none)->Heap.SameBut a s.heap h'->HOk X.prog X.w H h':=λ{a h'} ha hs b ob e=>by
  obtain⟨_,_,hfree⟩:=ha;refine(I.hok b ob e).stay (λc w' hc q=>(hs.2 c ?_).trans q) (λ_ q=>q) λ_ _ q=>q
  rintro rfl;rcases hc with rfl|hc
  ·rw [hfree] at e;cases e
  ·rw [hfree] at hc;cases hc
 rcases hx with hk|hk
 ·refine wpAny_storeName_local hk hn (λh' hn' hs=> ?_) hcls;obtain⟨oL,_,_,hoL,_⟩:=id hn;refine h _ ⟨I.ok,I.os,I.bare,⟨λb o e n hb hx=> ?_,λb o e n hb hx=> ?_,I.base.free,λb o e hx=> ?_,I.base.tups,I.base.frzs,I.base.tbls⟩,⟨_,hn',λj y v' e1 e2 e3=> ?_⟩,λy c e=> ?_,I.free,I.freeC,λp hp=> ?_,tracked ⟨oL,hoL,I.free⟩ hs,by simpa using I.len⟩ ⟨_,hs,.inl rfl⟩
  ·exact(hs.2 b (S3 (S0 (D5 e) I.ok.above))).trans (I.base.keep b o e n hb hx)
  ·obtain⟨sl,e1⟩:=I.base.slot b o e n hb hx;exact⟨sl,(hs.2 b (S3 (S0 (D5 e) I.ok.above))).trans e1⟩
  ·obtain⟨o',e1⟩:=I.base.there b o e hx;exact⟨o',(hs.2 b (S3 (S0 (D5 e) I.ok.above))).trans e1⟩
  ·by_cases hj:j=i
   ·subst hj;rw [hi] at e1;cases e1;rw [V0 hiσ] at e2;cases e2;exact⟨u,r,.inl ⟨hk,by simp⟩⟩
   ·rw [B3 (Ne.symm hj)] at e2;obtain⟨u',r',q⟩:=hl j y v' e1 e2 e3;refine⟨u',r',?_⟩;rcases q with ⟨k,e⟩|⟨k,c,e,z⟩
    ·refine .inl ⟨k,?_⟩;have:y≠x:=λe=>hj (Gn hN e1 (e ▸ hi))
     simp [this,e]
    ·exact .inr ⟨k,c,e,z.sameBut hs (cne y c e)⟩
  ·obtain⟨w',z⟩:=I.cell y c e;exact⟨w',z.sameBut hs (cne y c e)⟩
  ·obtain⟨e,n,ne,nf,d⟩:=I.pin p hp;exact⟨(hs.2 p.1 ne).trans e,n,ne,nf,d⟩
 ·have hfn:X.fn x=true:=by
   rcases hf with z|z
   ·exact z
   ·rw [z] at hk;cases hk
  obtain⟨c,hc⟩:=I.ok.has x (.inl hk);obtain⟨w',z⟩:=I.cell x c hc;refine wpAny_storeName_cell I.ok.kind hk hc z (λh' hc' hs=> ?_);obtain⟨oc,hoc,hocd⟩:=id z;refine h {s with heap:=h'} ⟨I.ok,I.os,I.bare,⟨λb o e n hb hx=> ?_,λb o e n hb hx=> ?_,I.base.free,λb o e hx=> ?_,I.base.tups,I.base.frzs,I.base.tbls⟩,⟨m,hn.sameBut hs (Ne.symm (cne x c hc)),λj y v' e1 e2 e3=> ?_⟩,λy c' e=> ?_,I.free,I.freeC,λp hp=> ?_,tracked ⟨oc,hoc,I.freeC x c hc⟩ hs,by simpa using I.len⟩ ⟨c,hs,.inr hc⟩
  ·exact(hs.2 b (S3 (S0 (D5 e) (I.ok.cab x c hfn hc)))).trans (I.base.keep b o e n hb hx)
  ·obtain⟨sl,e1⟩:=I.base.slot b o e n hb hx;exact⟨sl,(hs.2 b (S3 (S0 (D5 e) (I.ok.cab x c hfn hc)))).trans e1⟩
  ·obtain⟨o',e1⟩:=I.base.there b o e hx;exact⟨o',(hs.2 b (S3 (S0 (D5 e) (I.ok.cab x c hfn hc)))).trans e1⟩
  ·by_cases hj:j=i
   ·subst hj;rw [hi] at e1;cases e1;rw [V0 hiσ] at e2;cases e2;exact⟨u,r,.inr ⟨.inl hk,c,hc,hc'⟩⟩
   ·rw [B3 (Ne.symm hj)] at e2;obtain⟨u',r',q⟩:=hl j y v' e1 e2 e3;refine⟨u',r',?_⟩;rcases q with q|⟨k,c',e,z'⟩
    ·exact .inl q
    ·refine .inr ⟨k,c',e,z'.sameBut hs ?_⟩;rintro rfl;exact hj (Gn hN e1 (I.ok.inj _ _ _ e hc ▸ hi))
  ·by_cases hcc:c'=c
   ·subst hcc;exact⟨_,hc'⟩
   ·obtain⟨w2,z2⟩:=I.cell y c' e;exact⟨w2,z2.sameBut hs hcc⟩
  ·obtain⟨e,n,ne,nf,d⟩:=I.pin p hp;refine⟨(hs.2 p.1 ?_).trans e,n,ne,nf,d⟩;intro q;rw [q,hoc] at e;have q':oc=p.2:=M5 e;exact d w' (by rw [<-q'];exact hocd)
theorem vW {M:Model}{A:Around}{E:Value->Shared->Prop}{i:Nat}{x:Str}{v:V}{u:Value}{Q:Unit->Shared->Prop}(I:Inv X pins σ H s)(hN:X.N.Nodup)(hi:X.N[i]? =some x)(hx:Loc X.env.scope x)(r:RelV v u)
 (h: ∀s',Inv X pins (σ.set i (some v)) H s'->Q () s')(hf:X.fn x=true\/X.env.scope.names.lookup x=some .local:=by first|exact .inl rfl|exact .inr rfl|assumption):wpAny M A (storeName X.env x u) Q E s:=
 Dk I hN hi hx r (λs' I' _=>h s' I') hf
theorem Inv.call' {s':Shared}{ch:List Addr}(I:Inv X pins σ H s)(ho:s'.os=s.os)(u:Un (frs X.stack) ch H H' s.heap s'.heap)(hok:HOk X.prog X.w H' s'.heap)(hg:AllBare s'.gens)
 (hch: ∀b∈ch,(b∈X.ex\/X.s₀.heap.objs.size<=b)/\b≠X.env.locals/\(∀x c,X.env.cells.lookup x=some c->c≠b)/\ ∀p∈X.pn++pins,p.1≠b):Inv X pins σ H' s':=by
 obtain⟨h',g',d',t',o'⟩:=s';have e:o'=s.os:=ho;subst e;exact I.call (g':=g') (t':=t') (d':=d') u hok hg hch
end
abbrev XK:=Value->Option Addr->Hp->Prop
abbrev St:=List (Option V)
abbrev VK:=V->Hp->Prop
abbrev TE:=St->Hp->VK->Prop
abbrev TT:=St->Hp->(Bool->Hp->Prop)->Prop
abbrev TA:=St->Hp->(List V->Hp->Prop)->Prop
structure Ends where
 nx:St->Hp->Prop
 rt:VK
 bk:St->Hp->Prop:=λ_ _=>False
 ct:St->Hp->Prop:=λ_ _=>False
abbrev TS:=Ends->St->Hp->Prop
def EP (X:Cx)(pins:List (Addr×Obj))(σ:St)(Q:VK)(u:Value)(s':Shared):Prop:= ∃v H',Inv X pins σ H' s'/\RelV v u/\Q v H'
def TP (X:Cx)(pins:List (Addr×Obj))(σ:St)(Q:Bool->Hp->Prop)(b:Bool)(s':Shared):Prop:= ∃H',Inv X pins σ H' s'/\Q b H'
def AP (X:Cx)(pins:List (Addr×Obj))(σ:St)(Q:List V->Hp->Prop)(us:List Value)(s':Shared):Prop:= ∃vs H',Inv X pins σ H' s'/\Vals vs us/\Q vs H'
def SP (X:Cx)(pins:List (Addr×Obj))(D:Ends)(f:Flow)(s':Shared):Prop:=
 match f with
 | .next=> ∃σ' H',Inv X pins σ' H' s'/\D.nx σ' H'
 | .brk=> ∃σ' H',Inv X pins σ' H' s'/\D.bk σ' H'
 | .cont=> ∃σ' H',Inv X pins σ' H' s'/\D.ct σ' H'
 | .ret u=> ∃v σ' H',Inv X pins σ' H' s'/\RelV v u/\D.rt v H'
def PE (X:Cx)(e:Expr)(t:TE):Prop:=
 ∀ (pins:List (Addr×Obj)) (s:Shared) (σ:St) (H:Hp) (Q:VK),Inv X pins σ H s->t σ H Q->wpAny (model X.prog X.w) X.A (eval e X.env) (EP X pins σ Q) X.xe s
def PT (X:Cx)(e:Expr)(t:TT):Prop:=
 ∀ (pins:List (Addr×Obj)) (s:Shared) (σ:St) (H:Hp) (Q:Bool->Hp->Prop),Inv X pins σ H s->t σ H Q->wpAny (model X.prog X.w) X.A (isTrue e X.env (eval e X.env)) (TP X pins σ Q) X.xe s
def PW (X:Cx)(e:Expr)(t:TT):Prop:=
 ∀ (whole:Sem Value) (pins:List (Addr×Obj)) (s:Shared) (σ:St) (H:Hp) (Q:Bool->Hp->Prop),Inv X pins σ H s->t σ H Q->wpAny (model X.prog X.w) X.A (isTrue e X.env whole) (TP X pins σ Q) X.xe s
variable {X:Cx}
theorem PW.pt {e:Expr}{t:TT}(h:PW X e t):PT X e t:=h _
def PA (X:Cx)(es:List Expr)(t:TA):Prop:=
 ∀ (pos:Pos) (pins:List (Addr×Obj)) (s:Shared) (σ:St) (H:Hp) (Q:List V->Hp->Prop),Inv X pins σ H s->t σ H Q->wpAny (model X.prog X.w) X.A (spliced (backTo pos (starEach es X.env))) (AP X pins σ Q) X.xe s
def PS (X:Cx)(st:Stmt)(t:TS):Prop:=
 ∀ (pins:List (Addr×Obj)) (s:Shared) (σ:St) (H:Hp) (D:Ends),Inv X pins σ H s->t D σ H->wpAny (model X.prog X.w) X.A (exec st X.env) (SP X pins D) X.xe s
def PSs (X:Cx)(st:List Stmt)(t:TS):Prop:=
 ∀ (pins:List (Addr×Obj)) (s:Shared) (σ:St) (H:Hp) (D:Ends),Inv X pins σ H s->t D σ H->wpAny (model X.prog X.w) X.A (execs st X.env) (SP X pins D) X.xe s
variable {A:Around}{s:Shared}
theorem thn {α:Type}{t:Sem α}{Q Q':α->Shared->Prop}{M:Model}{E:Value->Shared->Prop}(h:wpAny M A t Q E s)(hQ: ∀a s,Q a s->Q' a s):wpAny M A t Q' E s:=R7 h hQ λ_ _ x=>x
section
variable {X:Cx}
def TD (i:Nat):TE:=λσ H Q=> ∃v,σ[i]? =some (some v)/\Q v H
def tC (v:V):TE:=λ_ H Q=>Q v H
variable {x:Str}
theorem Ot {i:Nat}{pos:Pos}(hN:X.N[i]? =some x)(hv:Vis X.env.scope x)(hd:(x==("__debug__" :Str))=false:=by decide)(hcd:(x==("__classdict__" :Str))=false:=by decide):PE X (.Name x pos) (TD i):=by
 intro pins s σ H Q I h;obtain⟨v,e,h⟩:=h;obtain⟨m,hn,hl⟩:=I.loc;obtain⟨u,r,l⟩:=hl i x v hN e hv;have fin:EP X pins σ Q u s:=⟨v,H,I,r,h⟩;rcases l with ⟨hk,hm⟩|⟨hk,c,hc,hcell⟩
 ·exact wpAny_Name (wpAny_loadName_local I.ok.kind hk hn hm fin) hd
 ·rcases hk with hk|hk
  ·exact wpAny_Name (wpAny_loadName_cell I.ok.kind hk hc hcell fin) hd
  ·exact wpAny_Name (wpAny_loadName_free I.ok.kind hk hc hcell fin hcd) hd
theorem pe_int {i j pos}:PE X (.Constant (.int i) j pos) (tC (.int i)):=λ_ _ _ H _ I h=>wpAny_Constant_int ⟨.int i,H,I.tok _,⟨_,rfl⟩,h⟩
theorem pe_bl {b j pos}:PE X (.Constant (.bool b) j pos) (tC (.bl b)):=λ_ _ _ H _ I h=>Constant_bool ⟨.bl b,H,I,rfl,h⟩
def Gl (X:Cx)(x:Str):Prop:=X.env.kindOf x=some .globalImplicit
variable {u:Value}
theorem Dl {E:Value->Shared->Prop}{pins:List (Addr×Obj)}{s:Shared}{σ:St}{H:Hp}{pos:Pos}{Q:Value->Shared->Prop}(I:Inv X pins σ H s)(hg:Gl X x)(hm:X.mg x=some u)(h:Q u s)
 (hd:(x==("__debug__" :Str))=false:=by decide):wpAny (model X.prog X.w) X.A (eval (.Name x pos) X.env) Q E s:=
 Y5 I.ok.kind hg (Calls.loadGlobal_global (by rw [I.ok.glob];exact I.mod.glob.keeps I.bk) hm h) hd
theorem Yg {E:Value->Shared->Prop}{pins:List (Addr×Obj)}{s:Shared}{σ:St}{H:Hp}{pos:Pos}{Q:Value->Shared->Prop}(I:Inv X pins σ H s)(hg:Gl X x)(hm:X.mg x=none)(hv:bootBuiltins x=some u)(h:Q u s)
 (hn:x≠ "__name__" :=by decide)(hd:(x==("__debug__" :Str))=false:=by decide):wpAny (model X.prog X.w) X.A (eval (.Name x pos) X.env) Q E s:=by
 obtain⟨mb,h1,h2⟩:=I.mod.blt;exact Y5 I.ok.kind hg (Calls.loadGlobal_builtin (by rw [I.ok.glob];exact I.mod.glob.keeps I.bk) hm (by rw [I.ok.blt];exact h1.keeps I.bk) ((h2 x hn).trans hv) h) hd
theorem CG {v:V}{pos:Pos}(hg:Gl X x)(hm:X.mg x=some u)(r:RelV v u)(hd:(x==("__debug__" :Str))=false:=by decide):PE X (.Name x pos) (tC v):=
 λ_ _ _ H _ I h=>Dl I hg hm ⟨v,H,I,r,h⟩ hd
theorem CH {v:V}{pos:Pos}(hg:Gl X x)(hm:X.mg x=none)(hv:bootBuiltins x=some u)(r:RelV v u)(hn:x≠ "__name__" :=by decide)(hd:(x==("__debug__" :Str))=false:=by decide):PE X (.Name x pos) (tC v):=
 λ_ _ _ H _ I h=>Yg I hg hm hv ⟨v,H,I,r,h⟩ hn hd
variable {a b:Expr}{ta tb:TE}{pos:Pos}
def tB (t:TE):TT:=λσ H Q=>t σ H λx H1=> ∃c,x= .bl c/\Q c H1
theorem Ou {e:Expr}{t:TE}(h:PE X e t)(he: ∀whole,isTrue e X.env whole=(do let v <-whole;standAt e.pos;holding [v] (truthy v)):=by intro _;rfl):PT X e (tB t):=by
 intro pins s σ H Q I hw;refine isTrue_plain (thn (h pins s σ H _ I hw) λv s1 ⟨x,H1,I1,r1,q1⟩=> ?_) (he _);obtain⟨d,rfl,q⟩:=q1;cases r1;exact N2 ⟨H1,I1,q⟩
variable {tA tB':TT}{rest:List Expr}
def TF (t u:TT):TT:=λσ H Q=>t σ H λc H1=>if c=true then u σ H1 Q else Q false H1
def tOr (t u:TT):TT:=λσ H Q=>t σ H λc H1=>if c=true then Q true H1 else u σ H1 Q
def TH (t:TT):TT:=λσ H Q=>t σ H λc H1=>Q (!c) H1
theorem CI (ha:PT X a tA):PW X (.BoolOp .And [a] pos) tA:=by
 intro wh pins s σ H Q I h;refine isTrue_and (thn (ha pins s σ H Q I h) λc s1 e=> ?_);cases c with
 |true=>exact isTrue_and_nil e
 |false=>exact e
theorem Ov (ha:PT X a tA):PW X (.BoolOp .Or [a] pos) tA:=by
 intro wh pins s σ H Q I h;refine isTrue_or (thn (ha pins s σ H Q I h) λc s1 e=> ?_);cases c with
 |false=>exact isTrue_or_nil e
 |true=>exact e
theorem Ow (ha:PT X a tA)(hb:PW X (.BoolOp .And (b::rest) pos) tB'):PW X (.BoolOp .And (a::b::rest) pos) (TF tA tB'):=by
 intro wh pins s σ H Q I h;refine isTrue_and (thn (ha pins s σ H _ I h) λc s1 ⟨H1,I1,q1⟩=> ?_);cases c with
 |true=>exact hb wh pins s1 σ H1 Q I1 q1
 |false=>exact⟨H1,I1,q1⟩
theorem Sm (ha:PT X a tA)(hb:PW X (.BoolOp .Or (b::rest) pos) tB'):PW X (.BoolOp .Or (a::b::rest) pos) (tOr tA tB'):=by
 intro wh pins s σ H Q I h;refine isTrue_or (thn (ha pins s σ H _ I h) λc s1 ⟨H1,I1,q1⟩=> ?_);cases c with
 |true=>exact⟨H1,I1,q1⟩
 |false=>exact hb wh pins s1 σ H1 Q I1 q1
theorem Ox (ha:PT X a tA):PT X (.UnaryOp .Not a pos) (TH tA):=by
 intro pins s σ H Q I h;exact isTrue_not (ha pins s σ H (λc H1=>Q (!c) H1) I h)
def Oy (ta tb:TE):TE:=λσ H Q=>ta σ H λx H1=> ∃c,x= .bl c/\if c=true then tb σ H1 Q else Q (.bl false) H1
def TJ (ta tb:TE):TE:=λσ H Q=>ta σ H λx H1=> ∃c,x= .bl c/\if c=true then Q (.bl true) H1 else tb σ H1 Q
def Oz (ta:TE):TE:=λσ H Q=>ta σ H λx H1=> ∃c,x= .bl c/\Q (.bl (!c)) H1
theorem OA {op}{t:TE}(h:PE X a t):PE X (.BoolOp op [a] pos) t:=λpins s σ H Q I hw=>BoolOp_one (h pins s σ H Q I hw)
theorem OB (ha:PE X a ta)(hb:PE X (.BoolOp .And (b::rest) pos) tb):PE X (.BoolOp .And (a::b::rest) pos) (Oy ta tb):=by
 intro pins s σ H Q I h;refine BoolOp_and (thn (ha pins s σ H _ I h) λv s1 ⟨x,H1,I1,r1,q1⟩=> ?_);obtain⟨c,rfl,q1⟩:=q1;cases r1;refine N2 ?_;cases c with
 |true=>exact hb pins s1 σ H1 Q I1 q1
 |false=>exact⟨.bl false,H1,I1,rfl,q1⟩
theorem Sn (ha:PE X a ta)(hb:PE X (.BoolOp .Or (b::rest) pos) tb):PE X (.BoolOp .Or (a::b::rest) pos) (TJ ta tb):=by
 intro pins s σ H Q I h;refine BoolOp_or (thn (ha pins s σ H _ I h) λv s1 ⟨x,H1,I1,r1,q1⟩=> ?_);obtain⟨c,rfl,q1⟩:=q1;cases r1;refine N2 ?_;cases c with
 |false=>exact hb pins s1 σ H1 Q I1 q1
 |true=>exact⟨.bl true,H1,I1,rfl,q1⟩
theorem OC (ha:PE X a ta):PE X (.UnaryOp .Not a pos) (Oz ta):=by
 intro pins s σ H Q I h;refine UnaryOp_ (thn (ha pins s σ H _ I h) λv s1 ⟨x,H1,I1,r1,q1⟩=> ?_);obtain⟨c,rfl,q1⟩:=q1;cases r1;exact not_of (N2 ⟨.bl (!c),H1,I1,rfl,q1⟩)
end
def SqL (K:PySem.W.Frag)(H:Hp)(a:Addr)(xs:List V):Prop:=
 Rd H a (.lst xs)\/
  ∃ (o:Obj) (its:Array Value) (n:Nat),K.lookup a=some o/\o.cls= .type "list" /\o.dict=none/\o.data= .seq its n/\its.size<=sizeLine/\Vals xs its.toList
def SqT (K:PySem.W.Frag)(H:Hp)(a:Addr)(xs:List V):Prop:=
 Rd H a (.tup xs)\/
  ∃ (o:Obj) (its:Array Value) (n:Nat),K.lookup a=some o/\o.cls= .type "tuple" /\o.data= .seq its n/\its.size<=sizeLine/\Vals xs its.toList
def HB:Value->Option V
 | .none=>some .non
 | .bool b=>some (.bl b)
 | .int i _=>some (.int i)
 | .str x _=>some (.str x)
 | .bytes b _=>some (.byt b)
 | .float b _=>some (.flt b)
 | .ref a=>some (.ref a)
 | .type n=>some (.ty n)
 |_=>none
theorem RelV.abs {x:V}(r:RelV x u):HB u=some x:=by
 cases x with
 |non=>cases r;rfl
 |bl _=>cases r;rfl
 |int _=>obtain⟨t,rfl⟩:=r;rfl
 |str _=>obtain⟨t,rfl⟩:=r;rfl
 |byt _=>obtain⟨t,rfl⟩:=r;rfl
 |flt _=>obtain⟨t,rfl⟩:=r;rfl
 |ref _=>cases r;rfl
 |ty _=>cases r;rfl
theorem RelV.inj {x y:V}(r:RelV x u)(q:RelV y u):x=y:=M5 (r.abs.symm.trans q.abs)
theorem Vals.inj: ∀ {xs ys:List V} {us:List Value},Vals xs us->Vals ys us->xs=ys
 |_,_,_,.nil,.nil=>rfl
 |_,_,_,.cons r t,.cons r' t'=>by rw [r.inj r',Vals.inj t t']
section
variable {X:Cx}{pins:List (Addr×Obj)}{σ:St}{H:Hp}{s:Shared}{a:Addr}{xs ys:List V}
theorem SqL.of {K:PySem.W.Frag}(h:H a=some (.lst xs)):SqL K H a xs:= .inl (.inl h)
theorem SqT.of {K:PySem.W.Frag}(h:H a=some (.tup xs)):SqT K H a xs:= .inl (.inl h)
theorem Inv.list (I:Inv X pins σ H s)(h:SqL X.K H a xs): ∃its:List Value,Vals xs its/\PlainL s.heap a its.toArray/\xs.length<=sizeLine:=by
 rcases h with h|⟨o,its,n,hk,hc,hd,hs,hz,r⟩
 ·obtain⟨z,its,n,r,e⟩:=h.ok I.hok;exact⟨its,r,⟨_,n,e,rfl,rfl,rfl⟩,z⟩
 ·refine⟨its.toList,r,⟨o,n,I.kIn a o hk,hc,hd,by simpa using hs⟩,?_⟩;have e:=r.length;simp only [T4] at e;omega
theorem Inv.tuple (I:Inv X pins σ H s)(h:SqT X.K H a xs): ∃its:List Value,Vals xs its/\IsTup s.heap a its.toArray/\xs.length<=sizeLine:=by
 rcases h with h|⟨o,its,n,hk,hc,hs,hz,r⟩
 ·obtain⟨z,its,r,p⟩:=h.ok I.hok;exact⟨its,r,p.tup,z⟩
 ·refine⟨its.toList,r,⟨o,I.kIn a o hk,hc,n,by simpa using hs⟩,?_⟩;have e:=r.length;simp only [T4] at e;omega
theorem Inv.list_inj (I:Inv X pins σ H s)(h:SqL X.K H a xs)(h':SqL X.K H a ys):xs=ys:=by
 obtain⟨its,r,⟨o,n,e,_,_,d⟩,_⟩:=I.list h;obtain⟨its',r',⟨o',n',e',_,_,d'⟩,_⟩:=I.list h';rw [e] at e';cases e';rw [d] at d';injection d' with d1 _
 have:its=its':=by simpa using congrArg Array.toList d1
 subst this;exact r.inj r'
theorem Inv.tuple_inj (I:Inv X pins σ H s)(h:SqT X.K H a xs)(h':SqT X.K H a ys):xs=ys:=by
 obtain⟨its,r,⟨o,e,_,n,d⟩,_⟩:=I.tuple h;obtain⟨its',r',⟨o',e',_,n',d'⟩,_⟩:=I.tuple h';rw [e] at e';cases e';rw [d] at d';injection d' with d1 _
 have:its=its':=by simpa using congrArg Array.toList d1
 subst this;exact r.inj r'
end
abbrev Cx.wish (X:Cx)(E:Value->Shared->Prop):Cx:= {X with xe:=E}
abbrev Cx.nox (X:Cx):Cx:=X.wish λ_ _=>False
theorem Cx.Ok.wish (ok:X.Ok)(E:Value->Shared->Prop):(X.wish E).Ok:=
 ⟨ok.mod,ok.kind,ok.glob,ok.blt,ok.above,ok.inj,ok.has,ok.cab,ok.hd,ok.frames,ok.stk,ok.exf,ok.bs,ok.bsz,ok.noex,ok.exfs,ok.funs,ok.frf⟩
theorem Cx.Ok.unwish {E:Value->Shared->Prop}(ok:(X.wish E).Ok):X.Ok:=
 ⟨ok.mod,ok.kind,ok.glob,ok.blt,ok.above,ok.inj,ok.has,ok.cab,ok.hd,ok.frames,ok.stk,ok.exf,ok.bs,ok.bsz,ok.noex,ok.exfs,ok.funs,ok.frf⟩
section
variable {X:Cx}{pins:List (Addr×Obj)}{σ:St}{H:Hp}{s:Shared}{E:Value->Shared->Prop}
theorem Inv.wish (I:Inv X pins σ H s)(E:Value->Shared->Prop):Inv (X.wish E) pins σ H s:=⟨I.ok.wish E,I.os,I.bare,I.base,I.loc,I.cell,I.free,I.freeC,I.pin,I.hok,I.len⟩
theorem Inv.unwish (I:Inv (X.wish E) pins σ H s):Inv X pins σ H s:=⟨I.ok.unwish,I.os,I.bare,I.base,I.loc,I.cell,I.free,I.freeC,I.pin,I.hok,I.len⟩
theorem SP.unwish {D:Ends}{f:Flow}{s':Shared}(h:SP (X.wish E) pins D f s'):SP X pins D f s':=by
 cases f with
 |next=>obtain⟨σ',H',I,q⟩:=h;exact⟨σ',H',I.unwish,q⟩
 |brk=>obtain⟨σ',H',I,q⟩:=h;exact⟨σ',H',I.unwish,q⟩
 |cont=>obtain⟨σ',H',I,q⟩:=h;exact⟨σ',H',I.unwish,q⟩
 |ret u=>obtain⟨v,σ',H',I,r,q⟩:=h;exact⟨v,σ',H',I.unwish,r,q⟩
theorem PSs.nox {st:List Stmt}{t:TS}(h:PSs X.nox st t):PSs X st t:=λpins s σ H D I hw=>
 R7 (h pins s σ H D (I.wish _) hw) (λ_ _ q=>q.unwish) λ_ _ z=>False.elim z
end
section
variable {X:Cx}{st:Stmt}{rest:List Stmt}{t u:TS}{e:Expr}{te:TE}{pos:Pos}
def OD:TS:=λD σ H=>D.nx σ H
def TK (t u:TS):TS:=λD σ H=>t {D with nx:=u D} σ H
theorem pss_nil:PSs X [] OD:=λ_ _ σ H _ I h=>X7 ⟨σ,H,I,h⟩
theorem Nd (h1:PS X st t)(h2:PSs X rest u):PSs X (st::rest) (TK t u):=by
 intro pins s σ H D I h;refine wpAny_execs_cons (thn (h1 pins s σ H {D with nx:=u D} I h) λf s1 q=> ?_);cases f with
 |next=>
  obtain⟨σ',H',I',q⟩:=q;exact h2 pins s1 σ' H' D I' q
 |ret v=>exact q
 |brk=>exact q
 |cont=>exact q
theorem CJ (h1:PS X st t):PSs X [st] t:=by
 intro pins s σ H D I h;refine wpAny_execs_cons (thn (h1 pins s σ H D I h) λf s1 q=> ?_);cases f with
 |next=>exact X7 q
 |ret v=>exact q
 |brk=>exact q
 |cont=>exact q
theorem Inv.quiet {pins:List (Addr×Obj)}{σ:St}{H:Hp}{s:Shared}(I:Inv X pins σ H s):interactive X.env=false:=by simp [interactive,I.ok.kind]
def OE (te:TE):TS:=λD σ H=>te σ H λ_ H1=>D.nx σ H1
theorem CK (he:PE X e te)(hs:swapsWith e none pos.line X.env=pure false:=by rfl):PS X (.Expr e pos) (OE te):=by
 intro pins s σ H D I h;exact wpAny_Expr_any (thn (he pins s σ H _ I h) λv s1 ⟨x,H1,I1,r1,q1⟩=>⟨σ,H1,I1,q1⟩) I.quiet hs
def TL (te:TE):TS:=λD σ H=>te σ H D.rt
theorem OF (he:PE X e te):PS X (.Return (some e) pos) (TL te):=by
 intro pins s σ H D I h;exact wpAny_Return_some (thn (he pins s σ H _ I h) λv s1 ⟨x,H1,I1,r1,q1⟩=>⟨x,σ,H1,I1,r1,q1⟩)
def TN (c:TT)(t u:TS):TS:=λD σ H=>c σ H λb H1=>if b=true then t D σ H1 else u D σ H1
theorem So {c:Expr}{a b:List Stmt}{tc:TT}(hc:PT X c tc)(ha:PSs X a t)(hb:PSs X b u):PS X (.If c a b pos) (TN tc t u):=by
 intro pins s σ H D I h;refine wpAny_If (thn (hc pins s σ H _ I h) λd s1 ⟨H1,I1,q1⟩=> ?_);cases d with
 |true=>exact ha pins s1 σ H1 D I1 q1
 |false=>exact hb pins s1 σ H1 D I1 q1
end
abbrev TG:=V->St->Hp->(St->Hp->Prop)->Prop
abbrev TGs:=List V->St->Hp->(St->Hp->Prop)->Prop
def PG (X:Cx)(target:Expr)(t:TG):Prop:=
 ∀ (pins:List (Addr×Obj)) (s:Shared) (σ:St) (H:Hp) (v:V) (u:Value) (Q:St->Hp->Prop),Inv X pins σ H s->RelV v u->t v σ H Q->
  wpAny (model X.prog X.w) X.A (assign target X.env u) (λ_ s'=> ∃σ' H',Inv X pins σ' H' s'/\Q σ' H') X.xe s
def PGs (X:Cx)(ts:List Expr)(t:TGs):Prop:=
 ∀ (pins:List (Addr×Obj)) (s:Shared) (σ:St) (H:Hp) (vs:List V) (us:List Value) (Q:St->Hp->Prop),Inv X pins σ H s->Vals vs us->t vs σ H Q->
  wpAny (model X.prog X.w) X.A (assignInOrder ((assignEach ts X.env).map (·.2)) us) (λ_ s'=> ∃σ' H',Inv X pins σ' H' s'/\Q σ' H') X.xe s
abbrev Sr:=V->V->V->Hp->(Hp->Prop)->Prop
def TQ (X:Cx)(t:Sr):Prop:=
 ∀ (pins:List (Addr×Obj)) (s:Shared) (σ:St) (H:Hp) (o i v:V) (ov iv u:Value) (Q:Hp->Prop),Inv X pins σ H s->RelV o ov->RelV i iv->RelV v u->t o i v H Q->
  wpAny (model X.prog X.w) X.A (setItem ov iv u) (λ_ s'=> ∃H',Inv X pins σ H' s'/\Q H') X.xe s
abbrev TIp:=V->V->Hp->VK->Prop
def PIp (X:Cx)(op:Operator)(t:TIp):Prop:=
 ∀ (pins:List (Addr×Obj)) (s:Shared) (σ:St) (H:Hp) (x y:V) (v u:Value) (Q:VK),Inv X pins σ H s->RelV x v->RelV y u->t x y H Q->
  wpAny (model X.prog X.w) X.A (inplaceOp op v u) (EP X pins σ Q) X.xe s
section
variable {X:Cx}{pos:Pos}
def wN (i:Nat):TG:=λv σ H Q=>Q (σ.set i (some v)) H
variable {i:Nat}{x:Str}
theorem vi (hN:X.N.Nodup)(hi:X.N[i]? =some x)(hx:Loc X.env.scope x)(hf:X.fn x=true\/X.env.scope.names.lookup x=some .local:=by first|exact .inl rfl|exact .inr rfl|assumption):PG X (.Name x pos) (wN i):=by
 intro pins s σ H v u Q I r h;exact wpAny_assign_Name (vW I hN hi hx r (λs' I'=>⟨_,H,I',h⟩) hf)
def Su:TGs:=λvs σ H Q=>vs= []/\Q σ H
def Dm (t:TG)(u:TGs):TGs:=λvs σ H Q=> ∃v r,vs=v::r/\t v σ H λσ' H'=>u r σ' H' Q
theorem Do:PGs X [] Su:=by
 intro pins s σ H vs us Q I r h;obtain⟨e,h⟩:=h;subst e;cases r;exact assignInOrder_nil ⟨σ,H,I,h⟩
variable {e:Expr}
theorem Zy {es:List Expr}{t:TG}{u:TGs}(h1:PG X e t)(h2:PGs X es u)
 (hs:(assignEach (e::es) X.env).map (·.2)=assign e X.env::(assignEach es X.env).map (·.2):=by rfl):PGs X (e::es) (Dm t u):=by
 intro pins s σ H vs us Q I r h;obtain⟨v,vr,e1,h⟩:=h;subst e1;cases r with
 |cons r rr=>
  rw [hs];refine Z5 (thn (h1 pins s σ H _ _ _ I r h) λ_ s1 ⟨σ1,H1,I1,q1⟩=> ?_);exact h2 pins s1 σ1 H1 _ _ Q I1 rr q1
def Sv (K:PySem.W.Frag)(n:Nat)(t:TGs):TG:=λv σ H Q=> ∃a xs,v= .ref a/\SqT K H a xs/\xs.length=n/\t xs σ H Q
theorem BV {es:List Expr}{k:Nat}{t:TGs}{n:Nat}(hc:X.calm=true)(h:PGs X es t)
 (hn:(assignEach es X.env).length=n:=by rfl)(hst:(assignEach es X.env).findIdx? (·.1)=none:=by rfl):PG X (.Tuple es k pos) (Sv X.K n t):=by
 intro pins s σ H v u Q I r hw;obtain⟨a,xs,e1,hq,hl,hw⟩:=hw;subst e1;cases r;obtain⟨its,rv,ht,hz⟩:=I.tuple hq;refine assign_Tuple_tuple (I.ok.hd hc) ht (by simp [hn,<-hl,rv.length]) hst λh' hx=> ?_
 have I1:Inv X pins σ H {s with heap:=h'}:=I.kept (t':=s.toks) λb o e=>hx b o (S3 (D5 e)) e
 exact h pins _ σ H xs _ Q I1 (by simpa using rv) hw
def HE (to ti:TE)(t:Sr):TG:=λv σ H Q=>to σ H λo H1=>ti σ H1 λi H2=>t o i v H2 λH3=>Q σ H3
theorem OG {o i:Expr}{to ti:TE}{t:Sr}(ho:PE X o to)(hi:PE X i ti)(hs:TQ X t)
 (ha: ∀v,assign (.Subscript o i pos) X.env v=(do
  let ov <-holding [v] (eval o X.env)
  let iv <-holding [v,ov] (eval i X.env)
  standAt pos
  holding [v,ov,iv] (setItem ov iv v)
  release [v,ov,iv] []):=by intro _;rfl):PG X (.Subscript o i pos) (HE to ti t):=by
 intro pins s σ H v u Q I r h;rw [ha];refine wpAny_bind (F9 (thn (ho pins s σ H _ I h) λov s1 ⟨x,H1,I1,r1,q1⟩=> ?_));refine wpAny_bind (F9 (thn (hi pins s1 σ H1 _ I1 q1) λiv s2 ⟨y,H2,I2,r2,q2⟩=> ?_));refine wpAny_bind (U0 (wpAny_bind (F9 (thn (hs pins s2 σ H2 x y v ov iv u _ I2 r1 r2 r q2) λ_ s3 ⟨H3,I3,q3⟩=> ?_))));exact wpAny_release ⟨σ,H3,I3,q3⟩
def BW (te:TE)(g:TG):TS:=λD σ H=>te σ H λx H1=>g x σ H1 D.nx
theorem OH {tg:Expr}{te:TE}{g:TG}(he:PE X e te)(hg:PG X tg g)(hs:swapsWithSole [tg] e pos.line X.env=pure false:=by rfl)(hw:swappedStores [tg] e X.env=pure none:=by rfl)
 (h1:(assignEach [tg] X.env).map (·.2)= [assign tg X.env]:=by rfl):PS X (.Assign [tg] e pos) (BW te g):=by
 intro pins s σ H D I h;refine wpAny_Assign_stores (thn (he pins s σ H _ I h) λv s1 ⟨x,H1,I1,r1,q1⟩=> ?_) hs hw;rw [h1];exact thn (hg pins s1 σ H1 x v _ I1 r1 q1) λ_ s2 q=>q
theorem OJ {te:TE}{pos':Pos}(hN:X.N.Nodup)(hi:X.N[i]? =some x)(hx:Loc X.env.scope x)(he:PE X e te)(hs:swapsWith e (some (.Name x pos')) pos.line X.env=pure false:=by rfl)(hf:X.fn x=true\/X.env.scope.names.lookup x=some .local:=by first|exact .inl rfl|exact .inr rfl|assumption):
 PS X (.Assign [.Name x pos'] e pos) (BW te (wN i)):=by
 intro pins s σ H D I h;refine wpAny_Assign_Name (thn (he pins s σ H _ I h) λv s1 ⟨y,H1,I1,r1,q1⟩=> ?_) hs;exact vW I1 hN hi hx r1 (λs2 I2=>⟨_,H1,I2,q1⟩) hf
def TR (i j:Nat)(ta:TA):TS:=λD σ H=>ta σ H λvs H1=> ∃v w,vs= [v,w]/\D.nx ((σ.set i (some v)).set j (some w)) H1
theorem OK {j:Nat}{y:Str}{a b:Expr}{ta:TA}{px py pt:Pos}{kt k2 pt2}(hc:X.calm=true)(hN:X.N.Nodup)(hi:X.N[i]? =some x)(hj:X.N[j]? =some y)(hij:i≠j)
 (hx:X.env.scope.names.lookup x=some .local)(hy:X.env.scope.names.lookup y=some .local)(ha:PA X [a,b] ta)
 (hw:swappedStores [.Tuple [.Name x px,.Name y py] kt pt] (.Tuple [a,b] k2 pt2) X.env=pure (some [x,y]))
 (hs:swapsWithSole [.Tuple [.Name x px,.Name y py] kt pt] (.Tuple [a,b] k2 pt2) pos.line X.env=pure false:=by rfl):
 PS X (.Assign [.Tuple [.Name x px,.Name y py] kt pt] (.Tuple [a,b] k2 pt2) pos) (TR i j ta):=by
 intro pins s σ H D I h;rw [exec_Assign_arm];refine wpAny_bind (U0 ?_);rw [hs];refine wpAny_bind (P1 ?_);rw [if_neg (by decide)];refine wpAny_bind (Tuple_ (thn (ha _ pins s σ H _ I h) λus s1 ⟨vs,H1,I1,r1,q1⟩=> ?_));obtain⟨v,w,e1,q1⟩:=q1;subst e1;obtain⟨u1,u2,rfl,rv,rw'⟩: ∃u1 u2,us= [u1,u2]/\RelV v u1/\RelV w u2:=by
  cases r1 with
  |cons p q=>
   cases q with
   |cons p' q'=>
    cases q';exact⟨_,_,rfl,p,p'⟩
 refine A8 ?_ (by show 2<=sizeLine;decide);have I2:Inv X pins σ H1 {s1 with heap:=s1.heap.push {cls:= .type "tuple",data:= .seq [u1,u2].toArray}}:=I1.kept (t':=s1.toks) λb o e=>G2 _ e
 rw [hw];refine wpAny_bind (P1 ?_);show wpAny (model X.prog X.w) X.A (do rule "assign.swapped-stores";let items <-unpackItems (.ref s1.heap.objs.size) 2 none;assignInOrder [λv=>bindName X.env y v,λv=>bindName X.env x v] items.reverse;pure Flow.next) _ _ _;refine wpAny_bind (X6 (wpAny_bind (unpackItems_tuple (items:= #[u1,u2]) (I.ok.hd hc) (IsTup.new s1.heap _) λh' hx'=> ?_)));have I3:=I2.kept (h':=h') (t':=s1.toks) λb o e=>hx' b o (S3 (D5 e)) e
 show wpAny _ _ (assignInOrder [λv=>bindName X.env y v,λv=>bindName X.env x v] [u2,u1] >>= λ_=>pure Flow.next) _ _ _;refine wpAny_bind (Z5 (wpAny_bindName (vW I3 hN hj (.inl hy) rw' (λs2 I4=> ?_) (.inr hy))));refine Z5 (wpAny_bindName (vW I4 hN hi (.inl hx) rv (λs3 I5=>assignInOrder_nil (P1 ?_)) (.inr hx)));rw [List.set_comm _ _ (Ne.symm hij)] at I5;exact⟨_,H1,I5,q1⟩
def TU (i:Nat)(te:TE)(ti:TIp):TS:=λD σ H=> ∃x,σ[i]? =some (some x)/\te σ H λy H1=>ti x y H1 λz H2=>D.nx (σ.set i (some z)) H2
theorem OL {te:TE}{op:Operator}{ti:TIp}{pos':Pos}(hN:X.N.Nodup)(hi:X.N[i]? =some x)(hx:Loc X.env.scope x)(he:PE X e te)(ho:PIp X op ti)(hf:X.fn x=true\/X.env.scope.names.lookup x=some .local:=by first|exact .inl rfl|exact .inr rfl|assumption):
 PS X (.AugAssign (.Name x pos') op e pos) (TU i te ti):=by
 intro pins s σ H D I h;obtain⟨v,e1,h⟩:=h;obtain⟨m,hn,hl⟩:=I.loc;have vis:Vis X.env.scope x:=by rcases hx with k|k;exact .inl k;exact .inr (.inl k)
 obtain⟨u,r,l⟩:=hl i x v hi e1 vis;refine wpAny_AugAssign_Name ?_;have go:wpAny (model X.prog X.w) X.A (eval e X.env) (λw s₂=>wpAny (model X.prog X.w) X.A (inplaceOp op u w) (λr s₃=>wpAny (model X.prog X.w) X.A (storeName X.env x r) (λ_=>SP X pins D .next) X.xe s₃) X.xe s₂) X.xe s:=by
  refine thn (he pins s σ H _ I h) λw s1 ⟨y,H1,I1,r1,q1⟩=> ?_
  refine thn (ho pins s1 σ H1 v y u w _ I1 r r1 q1) λz s2 ⟨zv,H2,I2,r2,q2⟩=> ?_
  exact vW I2 hN hi hx r2 (λs3 I3=>⟨_,H2,I3,q2⟩) hf
 rcases l with ⟨hk,hm⟩|⟨hk,c,hc,hcell⟩
 ·exact wpAny_loadName_local I.ok.kind hk hn hm go
 ·rcases hk with hk|hk
  ·exact wpAny_loadName_cell I.ok.kind hk hc hcell go
  ·rcases hx with k|k
   ·have:X.env.scope.names.lookup x=some .free:=hk;rw [k] at this;cases this
   ·have:X.env.scope.names.lookup x=some .free:=hk;rw [k] at this;cases this
def ipI (f:Int->Int->Int):TIp:=λx y H Q=> ∃i j,x= .int i/\y= .int j/\Q (.int (f i j)) H
theorem OM:PIp X .Add (ipI λi j=>i+j):=by
 intro pins s σ H x y v u Q I r1 r2 h;obtain⟨i,j,e1,e2,q⟩:=h;subst e1;subst e2;obtain⟨t,rfl⟩:=r1;obtain⟨t',rfl⟩:=r2;exact iadd_int ⟨.int _,H,I.tok _,⟨_,rfl⟩,q⟩
def BX (c:TT)(tb:TS):TS:=λD σ H=> ∃W:Nat->St->Hp->Prop,(∃m,W m σ H)/\ ∀m σ H,W m σ H->
 c σ H λb H1=>if b=true then ∃N:St->Hp->Prop,(∀σ' H',N σ' H'-> ∃m',m'<m/\W m' σ' H')/\tb {D with nx:=N,ct:=N,bk:=D.nx} σ H1 else D.nx σ H1
theorem Nf {c:Expr}{body:List Stmt}{tc:TT}{tb:TS}(hp:PassesOwn (model X.prog X.w) X.A X.env X.xe)(hc:PT X c tc)(hb:PSs X body tb):PS X (.While c body [] pos) (BX tc tb):=by
 intro pins s σ H D I h;obtain⟨W,⟨m0,w0⟩,turn⟩:=h;refine wpAny_While (codeAny_whileLoop (λn s'=> ∃σ' H',Inv X pins σ' H' s'/\W n σ' H') ?_ m0 ⟨σ,H,I,w0⟩);rintro n s1 ⟨σ1,H1,I1,w1⟩;refine A9 hp (thn (hc pins s1 σ1 H1 _ I1 (turn n σ1 H1 w1)) λb s2 ⟨H2,I2,q2⟩=> ?_);cases b with
 |true=>
  obtain⟨N,hN,q2⟩:=q2;rw [if_pos rfl];refine A9 hp (thn (hb pins s2 σ1 H2 _ I2 q2) λf s3 q3=> ?_);cases f with
  |next=>
   obtain⟨σ3,H3,I3,n3⟩:=q3;obtain⟨m',hm,w3⟩:=hN σ3 H3 n3;exact⟨m',hm,σ3,H3,I3,w3⟩
  |cont=>
   obtain⟨σ3,H3,I3,n3⟩:=q3;obtain⟨m',hm,w3⟩:=hN σ3 H3 n3;exact⟨m',hm,σ3,H3,I3,w3⟩
  |brk=>exact q3
  |ret v=>exact q3
 |false=>
  rw [if_neg P6];exact X7 ⟨σ1,H2,I2,q2⟩
end
structure It where
 go:Nat->Hp->Prop
 yld:Nat->Hp->V->Hp->Prop
 stop:Nat->Hp->Prop
def Db (X:Cx)(pins:List (Addr×Obj))(H:Hp)(b:Addr):Prop:=
 H b=none/\b≠X.env.locals/\b ∉ X.fs/\(b∈X.ex\/X.s₀.heap.objs.size<=b)/\(∀x c,X.env.cells.lookup x=some c->c≠b)/\ ∀p∈X.pn++pins,p.1≠b
theorem Inv.fpOk {pins:List (Addr×Obj)}{σ:St}{H':Hp}(I:Inv X pins σ H s)(hb:s.heap.objs.size<=b)(hn:H' b=none):Db X pins H' b:=by
 refine⟨hn,J4 (S0 I.lt hb),I.nofs hb,.inr (D7 I.sz hb),λx c e z=> ?_,λp hp z=> ?_⟩
 ·obtain⟨v,q⟩:=I.cell x c e;exact absurd (S0 q.lt (by rw [z];exact hb)) (B2 _)
 ·exact absurd (S0 (D5 (I.pin p hp).1) (by rw [z];exact hb)) (B2 _)
structure Turn (P:Program)(w:World)(K:PySem.W.Frag)(tg:Expr)(J:It)(fp:List Addr)(it:Addr)(tn:Nat->Heap->Prop):Prop where
 mem:it∈fp
 obj: ∀i h,tn i h-> ∀b∈fp,∃o,h.get? b=some o/\ ∀v,o.data≠ .cell v
 keep: ∀i h h',tn i h->(∀b∈fp,∀o,h.get? b=some o->h'.get? b=some o)->tn i h'
 item: ∀ (X:Cx),X.prog=P->X.w=w->X.K=K->X.calm=true-> ∀ (i:Nat) (pins:List (Addr×Obj)) (s:Shared) (σ:St) (H:Hp) (E:Value->Shared->Prop),Inv X pins σ H s->(∀b∈fp,Db X pins H b)->tn i s.heap->J.go i H->
  wpAny (model P w) X.A (pyNext (.ref it)) (λr s1=> ∃u,r=some u/\
   wpAny (model P w) X.A (letOwnedTupleGo tg (.ref it) u) (λ_ s2=> ∃x H',Inv X pins σ H' s2/\RelV x u/\J.yld i H x H'/\tn (i+1) s2.heap/\ ∀b∈fp,H' b=none) E s1) E s
 done: ∀ (X:Cx),X.prog=P->X.w=w->X.K=K->X.calm=true-> ∀ (i:Nat) (pins:List (Addr×Obj)) (s:Shared) (σ:St) (H:Hp) (E:Value->Shared->Prop),Inv X pins σ H s->(∀b∈fp,Db X pins H b)->tn i s.heap->J.stop i H->
  wpAny (model P w) X.A (pyNext (.ref it)) (λr s1=>r=none/\Inv X pins σ H s1) E s
 self: ∀ (A:Around) (i:Nat) (s:Shared) (Q:Value->Shared->Prop) (E:Value->Shared->Prop),tn i s.heap->Q (.ref it) s->wpAny (model P w) A (pyIter (.ref it)) Q E s
abbrev TI:=St->Hp->(It->Hp->Prop)->Prop
def PIE (X:Cx)(pins:List (Addr×Obj))(σ:St)(tg:Expr)(R:It->Hp->Prop)(itv:Value)(s2:Shared):Prop:=
 ∃ (it:Addr) (fp:List Addr) (tn:Nat->Heap->Prop) (J:It) (H':Hp),itv= .ref it/\Inv X pins σ H' s2/\Turn X.prog X.w X.K tg J fp it tn/\tn 0 s2.heap/\(∀b∈fp,Db X pins H' b)/\R J H'
def PI (X:Cx)(tg iter:Expr)(wi:TI):Prop:=
 ∀ (pins:List (Addr×Obj)) (s:Shared) (σ:St) (H:Hp) (R:It->Hp->Prop),Inv X pins σ H s->wi σ H R->
  wpAny (model X.prog X.w) X.A (eval iter X.env) (λv s1=>wpAny (model X.prog X.w) X.A (pyIter v) (PIE X pins σ tg R) X.xe s1) X.xe s
variable {tg:Expr}
theorem CL {M : Model} {E : Value → Shared → Prop} {it : Addr} {o : Obj} {n : String} {vs : Array Value} {Q : Unit → Shared → Prop} (ho : s.heap.get? it = some o) (hc : o.cls = .type n) (hd : o.data = .fields vs)
    (hn : ["enumerate", "zip", "dict_itemiterator", "dict_reverseitemiterator", "odict_iterator", "itertools.zip_longest", "itertools.pairwise"].contains n = false) (hQ : Q () s) : wpAny M A (letOwnedTupleGo tg (.ref it) u) Q E s := by
  unfold letOwnedTupleGo
  cases tg <;> first
    | exact P1 hQ
    | (cases u <;> first
        | exact P1 hQ
        | (refine wpAny_bind (wpAny_load ho ?_)
           rw [hc, hd]
           show wpAny M A (if (["enumerate", "zip", "dict_itemiterator", "dict_reverseitemiterator", "odict_iterator", "itertools.zip_longest", "itertools.pairwise"].contains n && vs[0]? == some (rawInt _)) = true then _ else _) Q E s
           rw [if_neg (by intro h; rw [hn, G0N] at h; cases h)]
           exact P1 hQ))
def Itl (K:PySem.W.Frag)(a:Addr):It:=
 ⟨λi H=> ∃xs x,SqL K H a xs/\xs[i]? =some x,λi H x H'=>H'=H/\ ∀xs,SqL K H a xs->xs[i]? =some x,λi H=> ∃xs,SqL K H a xs/\xs.length<=i⟩
def Itt (K:PySem.W.Frag)(a:Addr):It:=
 ⟨λi H=> ∃xs x,SqT K H a xs/\xs[i]? =some x,λi H x H'=>H'=H/\ ∀xs,SqT K H a xs->xs[i]? =some x,λi H=> ∃xs,SqT K H a xs/\xs.length<=i⟩
def Itr (lo:Int)(n:Nat):It:=⟨λi _=>i<n,λi H x H'=>H'=H/\x= .int (lo+i),λi _=>n<=i⟩
variable {K:PySem.W.Frag}
theorem VY (a it:Addr):Turn P w K tg (Itl K a) [it] it (λi h=>h.IsListIter it a i) where
 mem:=by simp
 obj:=λi h st b hb=>by
  have e:b=it:=by simpa using hb
  subst e;obtain⟨o,e,c,d⟩:=st;exact⟨o,e,λv z=>by rw [d] at z;cases z⟩
 keep:=λi h h' st k=>st.at λo e=>k it (by simp) o e
 item:=by
  intro X hP hw hK hc i pins s σ H E I hf st hg;subst hP hw hK;obtain⟨xs,x,hq,hx⟩:=hg;obtain⟨its,rv,p,hz⟩:=I.list hq;obtain⟨u,hu,ru⟩:=rv.get hx;obtain⟨f0,f1,f2,f3,f4,f5⟩:=hf it (by simp);refine wpAny_pyNext_list_item st p.isList (x:=u) (by simpa using hu) λh' st' sb=> ?_
  have I1:Inv X pins σ H {s with heap:=h'}:=I.turned (t':=s.toks) (λb o hb e=>(sb.2 b hb).trans e) f0 f1 f3 f4 f5;obtain⟨o,e,c,d⟩:=id st';exact⟨u,rfl,CL (s:= {s with heap:=h'}) e c d (by decide) ⟨x,H,I1,ru,⟨rfl,λys hy=>by rw [I.list_inj hy hq];exact hx⟩,st',λb hb=>(hf b hb).1⟩⟩
 done:=by
  intro X hP hw hK hc i pins s σ H E I hf st hg;subst hP hw hK;obtain⟨xs,hq,hx⟩:=hg;obtain⟨its,rv,p,hz⟩:=I.list hq;obtain⟨f0,f1,f2,f3,f4,f5⟩:=hf it (by simp);have hl:=rv.length;exact wpAny_pyNext_list_end (I.ok.hd hc) st p.isList (by simp;omega) λh' eb=>⟨rfl,I.turned (t':=s.toks) (λb o hb e=>eb b o hb e) f0 f1 f3 f4 f5⟩
 self:=λ_ _ _ _ _ st h=>wpAny_pyIter_listiter st h
theorem Pd (a it:Addr):Turn P w K tg (Itt K a) [it] it (λi h=>h.IsTupleIter it a i) where
 mem:=by simp
 obj:=λi h st b hb=>by
  have e:b=it:=by simpa using hb
  subst e;obtain⟨o,e,c,d⟩:=st;exact⟨o,e,λv z=>by rw [d] at z;cases z⟩
 keep:=λi h h' st k=>st.at λo e=>k it (by simp) o e
 item:=by
  intro X hP hw hK hc i pins s σ H E I hf st hg;subst hP hw hK;obtain⟨xs,x,hq,hx⟩:=hg;obtain⟨its,rv,p,hz⟩:=I.tuple hq;obtain⟨u,hu,ru⟩:=rv.get hx;obtain⟨f0,f1,f2,f3,f4,f5⟩:=hf it (by simp);refine wpAny_pyNext_tuple_item st (show s.heap.IsTuple a its.toArray from p) (x:=u) (by simpa using hu) λh' st' sb=> ?_
  have I1:Inv X pins σ H {s with heap:=h'}:=I.turned (t':=s.toks) (λb o hb e=>(sb.2 b hb).trans e) f0 f1 f3 f4 f5;obtain⟨o,e,c,d⟩:=id st';exact⟨u,rfl,CL (s:= {s with heap:=h'}) e c d (by decide) ⟨x,H,I1,ru,⟨rfl,λys hy=>by rw [I.tuple_inj hy hq];exact hx⟩,st',λb hb=>(hf b hb).1⟩⟩
 done:=by
  intro X hP hw hK hc i pins s σ H E I hf st hg;subst hP hw hK;obtain⟨xs,hq,hx⟩:=hg;obtain⟨its,rv,p,hz⟩:=I.tuple hq;obtain⟨f0,f1,f2,f3,f4,f5⟩:=hf it (by simp);have hl:=rv.length;exact wpAny_pyNext_tuple_end (I.ok.hd hc) st (show s.heap.IsTuple a its.toArray from p) (by simp;omega) λh' eb=>⟨rfl,I.turned (t':=s.toks) (λb o hb e=>eb b o hb e) f0 f1 f3 f4 f5⟩
 self:=λ_ _ _ _ _ st h=>wpAny_pyIter_tupleiter st h
theorem Pe (it:Addr)(lo:Int)(n:Nat):Turn P w K tg (Itr lo n) [it] it (λi h=>IsRangeIter h it (lo+(i:Nat)*1) ((n:Int)-(i:Nat)) 1) where
 mem:=by simp
 obj:=λi h st b hb=>by
  have e:b=it:=by simpa using hb
  subst e;exact⟨_,st,λv z=>by
   have z':Data.fields _=Data.cell v:=z;cases z'⟩
 keep:=λi h h' st k=>k it (by simp) _ st
 item:=by
  intro X hP hw hK hc i pins s σ H E I hf st hg;subst hP hw hK;obtain⟨f0,f1,f2,f3,f4,f5⟩:=hf it (by simp);have W:=Walks.range (prog:=X.prog) (w:=X.w) (I.ok.hd hc) it lo 1 n;refine W.item i s _ _ hg st λv h' tk hv st' kk=> ?_
  obtain⟨t,rfl⟩:=hv;have I1:Inv X pins σ H {s with heap:=h',toks:=tk}:=I.turned (λb o hb e=>kk b o (by simpa using hb) e) f0 f1 f3 f4 f5;refine⟨_,rfl,CL (s:= {s with heap:=h',toks:=tk}) (n:= "range_iterator") st' rfl rfl (by decide) ⟨.int (lo+i),H,I1,⟨t,?_⟩,⟨rfl,rfl⟩,st',λb hb=>(hf b hb).1⟩⟩;rw [Int.mul_one]
 done:=by
  intro X hP hw hK hc i pins s σ H E I hf st hg;subst hP hw hK;obtain⟨f0,f1,f2,f3,f4,f5⟩:=hf it (by simp);exact wpAny_pyNext_range_end (I.ok.hd hc) st (by have:n<=i:=hg;omega) λh' eb=>⟨rfl,I.turned (t':=s.toks) (λb o hb e=>eb b o hb e) f0 f1 f3 f4 f5⟩
 self:=λ_ _ _ _ _ st h=>wpAny_pyIter_rangeiter st h
section
variable {X:Cx}{tg:Expr}
def ON (K:PySem.W.Frag)(tl:TE):TI:=λσ H R=>tl σ H λx H1=> ∃a,x= .ref a/\(∃xs,SqL K H1 a xs)/\R (Itl K a) H1
theorem CM {l:Expr}{tl:TE}(hl:PE X l tl):PI X tg l (ON X.K tl):=by
 intro pins s σ H R I h;refine thn (hl pins s σ H _ I h) λv s1 ⟨x,H1,I1,r1,q1⟩=> ?_
 obtain⟨a,e,⟨xs,hq⟩,q⟩:=q1;subst e;cases r1;obtain⟨its,rv,p,hz⟩:=I1.list hq;refine V2 p.isList ?_;refine⟨s1.heap.objs.size,[s1.heap.objs.size],_,_,H1,rfl,I1.kept (t':=s1.toks) λb o e=>G2 _ e,VY a _,⟨_,R3 _ rfl,rfl,rfl⟩,λb hb=> ?_,q⟩;have e:b=s1.heap.objs.size:=by simpa using hb
 subst e;exact I1.fpOk (G9 _) (I1.hok.fresh (G9 _))
variable {pins:List (Addr×Obj)}
theorem Ng {σ:St}{H:Hp}{s:Shared}{R:It->Hp->Prop}{E:Value->Shared->Prop}{lo hi:Int}{t u v:Tok}{tk:Nat}(I:Inv X pins σ H s)(h1: -(2^62)<=lo)(h2:lo<2^62)(h3: -(2^62)<=hi)(h4:hi<2^62)
 (q:R (Itr lo (hi-lo).toNat) H):wpAny (model X.prog X.w) X.A (pyIter (.ref s.heap.objs.size)) (PIE X pins σ tg R) E {s with heap:=s.heap.push {cls:= .type "range",data:= .fields #[.int lo t,.int hi u,.int 1 v]},toks:=tk}:=by
 refine wpAny_pyIter_range (IsRange.new ..) (small_one h1 h2 h3 h4) ?_;have I1:Inv X pins σ H {s with heap:=s.heap.push {cls:= .type "range",data:= .fields #[.int lo t,.int hi u,.int 1 v]},toks:=tk}:=I.kept λb o e=>G2 _ e
 refine⟨(s.heap.push {cls:= .type "range",data:= .fields #[.int lo t,.int hi u,.int 1 v]}).objs.size,[(s.heap.push {cls:= .type "range",data:= .fields #[.int lo t,.int hi u,.int 1 v]}).objs.size],_,_,H,rfl,
  I1.kept (t':=tk) λb o e=>G2 _ e,Pe _ lo (hi-lo).toNat,?_,λb hb=> ?_,q⟩
 ·have e1:lo+((0:Nat):Int)*1=lo:=by simp
  have e2:(((hi-lo).toNat:Nat):Int)-((0:Nat):Int)=Builtin.Range.rangeSize lo hi 1:=by rw [rangeSize_one];split<;>omega
  show IsRangeIter _ _ (lo+((0:Nat):Int)*1) ((((hi-lo).toNat:Nat):Int)-((0:Nat):Int)) 1;rw [e1,e2];exact R3 _ rfl
 ·have e:b=(s.heap.push {cls:= .type "range",data:= .fields #[.int lo t,.int hi u,.int 1 v]}).objs.size:=by simpa using hb
  subst e;exact I1.fpOk (G9 _) (I1.hok.fresh (G9 _))
def OO (ta:TA):TI:=λσ H R=>ta σ H λvs H1=> ∃j:Int,vs= [.int j]/\ -(2^62)<=j/\j<2^62/\R (Itr 0 j.toNat) H1
theorem Dp {a:Expr}{ta:TA}{p pos:Pos}(hg:Gl X "range")(hm:X.mg "range" =none)(ha:PA X [a] ta)(hs:starEach [a] X.env= [(false,eval a X.env)]:=by rfl):PI X tg (.Call (.Name "range" p) [a] [] pos) (OO ta):=by
 intro pins s σ H R I h;refine Call_ (Yg I hg hm boot_range (O6 (thn (ha pos pins s σ H _ I h) λus s1 ⟨vs,H1,I1,r1,q1⟩=> ?_) hs rfl));obtain⟨j,e,q1,q2,q⟩:=q1;subst e;cases r1 with
 |cons r rr=>
  cases rr;obtain⟨t,rfl⟩:=r;exact call_range_1 (Ng I1 (by omega) (by omega) q1 q2 (by simpa using q))
def TV (wi:TI)(g:TG)(tb:TS):TS:=λD σ H=>wi σ H λJ H1=> ∃W:Nat->Nat->St->Hp->Prop,(∃m,W 0 m σ H1)/\ ∀i m σ H,W i m σ H->
 (J.stop i H/\D.nx σ H)\/(J.go i H/\ ∃N:St->Hp->Prop,(∀σ' H',N σ' H'-> ∃m',m'<m/\W (i+1) m' σ' H')/\ ∀x H',J.yld i H x H'->g x σ H' λσ2 H2=>tb {D with nx:=N,ct:=N,bk:=D.nx} σ2 H2)
def va (fp:List Addr)(h:Heap):List (Addr×Obj):=fp.filterMap λb=>(h.get? b).map λo=>(b,o)
theorem wm {fp:List Addr}{h:Heap}{b:Addr}{o:Obj}(hb:b∈fp)(e:h.get? b=some o):(b,o)∈va fp h:=U1.mpr ⟨b,hb,by rw [e];rfl⟩
theorem ZL {fp:List Addr}{h:Heap}{p:Addr×Obj}(hp:p∈va fp h):p.1∈fp/\h.get? p.1=some p.2:=by
 obtain⟨b,hb,e⟩:=U1.mp hp;cases q:h.get? b with
 |none=>rw [q] at e;cases e
 |some o=>
  rw [q] at e;have e':(b,o)=p:=M5 e;subst e';exact⟨hb,q⟩
theorem Inv.pinned {σ:St}{H:Hp}{s:Shared}{fp:List Addr}(I:Inv X pins σ H s)(hf: ∀b∈fp,Db X pins H b)(ho: ∀b∈fp,∃o,s.heap.get? b=some o/\ ∀v,o.data≠ .cell v):Inv X (pins++va fp s.heap) σ H s:=
 I.pins_of λp hp=>(P7.mp hp).elim (λz=>I.pin p (P5 _ z)) λz=>by
  obtain⟨hb,e⟩:=ZL z;obtain⟨f0,f1,f2,_⟩:=hf p.1 hb;obtain⟨o,e',d⟩:=ho p.1 hb;rw [e] at e';cases e';exact⟨e,f0,f1,f2,d⟩
theorem Inv.unpinned {pl:List (Addr×Obj)}{σ:St}{H:Hp}{s:Shared}(I:Inv X (pins++pl) σ H s):Inv X pins σ H s:=I.pins_of λp hp=>I.pin p (P5 _ (T5 _ hp))
theorem OP {iter:Expr}{body:List Stmt}{wi:TI}{g:TG}{tb:TS}{pos:Pos}(hp:PassesOwn (model X.prog X.w) X.A X.env X.xe)(hc:X.calm=true)(hi:PI X tg iter wi)(hg:PG X tg g)(hb:PSs X body tb)
 (hs: ∀x,foldedSetIterable iter X.env x=pure x:=by intro _;rfl):PS X (.For tg iter body [] pos) (TV wi g tb):=by
 intro pins s σ H D I h;refine wpAny_For (thn (hi pins s σ H _ I h) λv s1 h1=>thn h1 λitv s2 h2=> ?_) hs;obtain⟨it,fp,tn,J,H2,e,I2,T,st2,f2,W,⟨m0,w0⟩,turn⟩:=h2;subst e
 -- what stays true of the iterator's objects through the loop
 have stat: ∀ {H':Hp},(∀b∈fp,H' b=none)-> ∀b∈fp,Db X pins H' b:=λhn b hb=>⟨hn b hb,(f2 b hb).2⟩
 refine codeAny_forLoop_any (λn s'=> ∃i σ' H',Inv X pins σ' H' s'/\tn i s'.heap/\(∀b∈fp,H' b=none)/\W i n σ' H') ?_ m0 ⟨0,σ,H2,I2,st2,λb hb=>(f2 b hb).1,w0⟩;rintro n s3 ⟨i,σ3,H3,I3,st3,fr3,w3⟩;rcases turn i n σ3 H3 w3 with ⟨stop,qn⟩|⟨go,N,hN,step⟩
 ·refine A9 hp (thn (T.done X rfl rfl rfl hc i pins s3 σ3 H3 X.xe I3 (stat fr3) st3 stop) λr s4 ⟨hr,I4⟩=> ?_);subst hr;exact X7 ⟨σ3,H3,I4,qn⟩
 ·refine A9 hp (thn (T.item X rfl rfl rfl hc i pins s3 σ3 H3 X.xe I3 (stat fr3) st3 go) λr s4 ⟨u,hr,h4⟩=> ?_);subst hr;refine A9 hp (thn h4 λ_ s5 ⟨x,H5,I5,r5,y5,st5,fr5⟩=> ?_);have I5':=I5.pinned (stat fr5) (T.obj _ _ st5);refine A9 hp (thn (hg _ s5 σ3 H5 x u _ I5' r5 (step x H5 y5)) λ_ s6 ⟨σ6,H6,I6,q6⟩=> ?_);refine A9 hp (thn (hb _ s6 σ6 H6 _ I6 q6) λf s7 q7=> ?_);have again: ∀ {σ7:St} {H7:Hp},Inv X (pins++va fp s5.heap) σ7 H7 s7->N σ7 H7-> ∃m,m<n/\ ∃i σ' H',Inv X pins σ' H' s7/\tn i s7.heap/\(∀b∈fp,H' b=none)/\W i m σ' H':=λ{σ7 H7} I7 n7=>by
   obtain⟨m',hm,w7⟩:=hN σ7 H7 n7;refine⟨m',hm,i+1,σ7,H7,I7.unpinned,T.keep _ _ _ st5 λb hb o e=>(I7.pin (b,o) (P5 _ (P5 _ (wm hb e)))).1,λb hb=> ?_,w7⟩;obtain⟨o,e,d⟩:=T.obj _ _ st5 b hb;exact(I7.pin (b,o) (P5 _ (P5 _ (wm hb e)))).2.1
  cases f with
  |next=>obtain⟨σ7,H7,I7,n7⟩:=q7;exact again I7 n7
  |cont=>obtain⟨σ7,H7,I7,n7⟩:=q7;exact again I7 n7
  |brk=>obtain⟨σ7,H7,I7,q7⟩:=q7;exact⟨σ7,H7,I7.unpinned,q7⟩
  |ret v=>obtain⟨x7,σ7,H7,I7,r7,q7⟩:=q7;exact⟨x7,σ7,H7,I7.unpinned,r7,q7⟩
end
abbrev R2:=V->V->Hp->VK->Prop
def OpR (X:Cx)(f:Value->Value->Sem Value)(r:R2):Prop:=
 ∀ (pins:List (Addr×Obj)) (s:Shared) (σ:St) (H:Hp) (x y:V) (v u:Value) (Q:VK),Inv X pins σ H s->RelV x v->RelV y u->r x y H Q->
  wpAny (model X.prog X.w) X.A (f v u) (EP X pins σ Q) X.xe s
def UnR (X:Cx)(f:Value->Sem Value)(r:V->Hp->VK->Prop):Prop:=
 ∀ (pins:List (Addr×Obj)) (s:Shared) (σ:St) (H:Hp) (x:V) (v:Value) (Q:VK),Inv X pins σ H s->RelV x v->r x H Q->
  wpAny (model X.prog X.w) X.A (f v) (EP X pins σ Q) X.xe s
def CallR (X:Cx)(f:Value)(r:List V->Hp->VK->Prop):Prop:=
 ∀ (pins:List (Addr×Obj)) (s:Shared) (σ:St) (H:Hp) (xs:List V) (us:List Value) (Q:VK),Inv X pins σ H s->Vals xs us->r xs H Q->
  wpAny (model X.prog X.w) X.A (call f us) (EP X pins σ Q) X.xe s
def tOp (r:R2)(ta tb:TE):TE:=λσ H Q=>ta σ H λx H1=>tb σ H1 λy H2=>r x y H2 Q
def tUn (r:V->Hp->VK->Prop)(ta:TE):TE:=λσ H Q=>ta σ H λx H1=>r x H1 Q
def rI (C:Int->Int->Prop)(g:Int->Int->V):R2:=λx y H Q=> ∃i j,x= .int i/\y= .int j/\C i j/\Q (g i j) H
def rI0 (g:Int->Int->V):R2:=λx y H Q=> ∃i j,x= .int i/\y= .int j/\Q (g i j) H
def rU (g:Int->V):V->Hp->VK->Prop:=λx H Q=> ∃i,x= .int i/\Q (g i) H
section
variable {X:Cx}{a b c:Expr}{ta tb tc:TE}{pos:Pos}
theorem Sw (ha:PE X a ta)(hb:PE X b tb){pins:List (Addr×Obj)}{s:Shared}{σ:St}{H:Hp}{R:V->V->Hp->Prop}(I:Inv X pins σ H s)
 (h:ta σ H λx H1=>tb σ H1 λy H2=>R x y H2){Q:Value->Shared->Prop}{f:Value->Value->Sem Value}
 (hf: ∀v u s2 x y H2,Inv X pins σ H2 s2->RelV x v->RelV y u->R x y H2->wpAny (model X.prog X.w) X.A (f v u) Q X.xe s2):
 wpAny (model X.prog X.w) X.A (eval a X.env) (λv s₁=>wpAny (model X.prog X.w) X.A (eval b X.env) (λu s₂=>wpAny (model X.prog X.w) X.A (f v u) Q X.xe s₂) X.xe s₁) X.xe s:=by
 refine thn (ha pins s σ H _ I h) λv s1 ⟨x,H1,I1,r1,q1⟩=> ?_
 refine thn (hb pins s1 σ H1 _ I1 q1) λu s2 ⟨y,H2,I2,r2,q2⟩=> ?_
 exact hf v u s2 x y H2 I2 r1 r2 q2
theorem Sx {op:Operator}{r:R2}(ho:OpR X (binaryOp op) r)(ha:PE X a ta)(hb:PE X b tb):PE X (.BinOp a op b pos) (tOp r ta tb):=by
 intro pins s σ H Q I h;exact wpAny_BinOp (Sw ha hb I h λv u s2 x y H2 I2 rx ry q=>ho pins s2 σ H2 x y v u Q I2 rx ry q)
theorem Sy {op:UnaryOp}{r:V->Hp->VK->Prop}(ho:UnR X (unaryOp op) r)(ha:PE X a ta):PE X (.UnaryOp op a pos) (tUn r ta):=by
 intro pins s σ H Q I h;exact UnaryOp_ (thn (ha pins s σ H _ I h) λv s1 ⟨x,H1,I1,r1,q1⟩=>ho pins s1 σ H1 x v Q I1 r1 q1)
variable {f:Value->Value->Sem Value}
theorem opI {C:Int->Int->Prop}{g:Int->Int->Int}
 (rule: ∀ (i j:Int) (t u:Tok) (s:Shared) (Q:Value->Shared->Prop) (E:Value->Shared->Prop),C i j->Q (.int (g i j) s.toks) {s with toks:=s.toks+1}->wpAny (model X.prog X.w) X.A (f (.int i t) (.int j u)) Q E s):
 OpR X f (rI C λi j=> .int (g i j)):=by
 intro pins s σ H x y v u Q I rx ry h;obtain⟨i,j,rfl,rfl,hc,q⟩:=h;obtain⟨t,rfl⟩:=rx;obtain⟨t',rfl⟩:=ry;exact rule i j t t' s _ _ hc ⟨.int (g i j),H,I.tok _,⟨_,rfl⟩,q⟩
theorem TW {g:Int->Int->Int}
 (rule: ∀ (i j:Int) (t u:Tok) (s:Shared) (Q:Value->Shared->Prop) (E:Value->Shared->Prop),Q (.int (g i j) s.toks) {s with toks:=s.toks+1}->wpAny (model X.prog X.w) X.A (f (.int i t) (.int j u)) Q E s):
 OpR X f (rI0 λi j=> .int (g i j)):=by
 intro pins s σ H x y v u Q I rx ry h;obtain⟨i,j,rfl,rfl,q⟩:=h;obtain⟨t,rfl⟩:=rx;obtain⟨t',rfl⟩:=ry;exact rule i j t t' s _ _ ⟨.int (g i j),H,I.tok _,⟨_,rfl⟩,q⟩
theorem EZ {g:Int->Int->Bool}
 (rule: ∀ (i j:Int) (t u:Tok) (s:Shared) (Q:Value->Shared->Prop) (E:Value->Shared->Prop),Q (.bool (g i j)) s->wpAny (model X.prog X.w) X.A (f (.int i t) (.int j u)) Q E s):
 OpR X f (rI0 λi j=> .bl (g i j)):=by
 intro pins s σ H x y v u Q I rx ry h;obtain⟨i,j,rfl,rfl,q⟩:=h;obtain⟨t,rfl⟩:=rx;obtain⟨t',rfl⟩:=ry;exact rule i j t t' s _ _ ⟨.bl (g i j),H,I,rfl,q⟩
def TX (i j:Int):Prop:=0<j/\j<1073741824
def TY (i j:Int):Prop:=0<=j/\j<=1000000/\i.natAbs<2^64
def CMul (i j:Int):Prop:=(-(2^64)<i/\i<2^64)\/(-(2^64)<j/\j<2^64)
theorem CMul.ok {i j:Int}(h:CMul i j):IntMulOk i j:=by
 rcases h with ⟨h1,h2⟩|⟨h1,h2⟩
 ·exact .of_left (intBits_le_64 h1 h2)
 ·exact .of_right (intBits_le_64 h1 h2)
theorem op_add:OpR X (binaryOp .Add) (rI0 λi j=> .int (i+j)):=TW λ_ _ _ _ _ _ _ q=>add_int q
theorem OQ:OpR X (binaryOp .Sub) (rI0 λi j=> .int (i-j)):=TW λ_ _ _ _ _ _ _ q=>sub_int q
theorem op_mul:OpR X (binaryOp .Mult) (rI CMul λi j=> .int (i*j)):=opI λ_ _ _ _ _ _ _ hc q=>mul_int q hc.ok
theorem CN:OpR X (binaryOp .FloorDiv) (rI TX λi j=> .int (i / j)):=opI λi j _ _ _ _ _ hc q=>by
 have h1:(0:Int)<j:=hc.1;have h2:j<1073741824:=hc.2;exact floordiv_int (by omega) (by rw [Y6 i (by omega)];exact q) (.inl (PyProof.noPylong_small (by omega)))
theorem OR:OpR X (binaryOp .Mod) (rI (λ_ j=>0<j) λi j=> .int (i%j)):=opI λi j _ _ _ _ _ hc q=>by
 have h1:(0:Int)<j:=hc;exact mod_int' (by omega) (by rw [Y7 i (by omega)];exact q)
theorem OS:OpR X (binaryOp .Pow) (rI TY λi j=> .int (i^j.toNat)):=opI λ_ _ _ _ _ _ _ hc q=>pow_int_small hc.1 hc.2.1 hc.2.2 q
theorem unI {f:Value->Sem Value}{g:Int->Int}
 (rule: ∀ (i:Int) (t:Tok) (s:Shared) (Q:Value->Shared->Prop) (E:Value->Shared->Prop),Q (.int (g i) s.toks) {s with toks:=s.toks+1}->wpAny (model X.prog X.w) X.A (f (.int i t)) Q E s):
 UnR X f (rU λi=> .int (g i)):=by
 intro pins s σ H x v Q I rx h;obtain⟨i,rfl,q⟩:=h;obtain⟨t,rfl⟩:=rx;exact rule i t s _ _ ⟨.int (g i),H,I.tok _,⟨_,rfl⟩,q⟩
theorem OT:UnR X (unaryOp .USub) (rU λi=> .int (-i)):=unI λ_ _ _ _ _ q=>neg_int q
end
def TZ:V->V->Bool
 | .non,.non=>true| .non,.int _=>true| .int _,.non=>true| .non,.bl _=>true| .bl _,.non=>true| .non,.str _=>true| .str _,.non=>true
 | .int _,.int _=>true| .bl _,.bl _=>true| .str _,.str _=>true| .byt _,.byt _=>true
 | .int _,.str _=>true| .str _,.int _=>true| .bl _,.str _=>true| .str _,.bl _=>true
 |_,_=>false
def rEq:R2:=λx y H Q=>TZ x y=true/\Q (.bl (decide (x=y))) H
def rNe:R2:=λx y H Q=>TZ x y=true/\Q (.bl (!decide (x=y))) H
theorem Dq {i j:Int}:decide (V.int i=V.int j)=(i==j):=by
 rw [N5];simp
theorem BY {i j:Bool}:decide (V.bl i=V.bl j)=(i==j):=by
 rw [N5];simp
theorem Dr {i j:Str}:decide (V.str i=V.str j)=(i==j):=by
 rw [N5];simp
theorem Ds {i j:Array UInt8}:decide (V.byt i=V.byt j)=(i.toList==j.toList):=by
 rw [N5];cases i;cases j;simp
section
variable {X:Cx}{a b c:Expr}{ta tb tc:TE}{pos:Pos}
theorem jM {pins:List (Addr×Obj)}{σ:St}{H:Hp}{s:Shared}{Q:VK}{k k':Bool}(I:Inv X pins σ H s)(q:Q (.bl k) H)(e:k=k'):EP X pins σ Q (.bool k') s:=by
 subst e;exact⟨.bl k,H,I,rfl,q⟩
theorem op_eq:OpR X (compareOp .Eq) rEq:=by
 intro pins s σ H x y v u Q I rx ry h;obtain⟨hs,q⟩:=h;cases x with
 |non=>
  cases rx;cases y with
  |non=>cases ry;exact PySem.EqNone.eq_none_none (jM I q (by simp))
  |bl j=>cases ry;exact PySem.EqNone.eq_none_bool (jM I q (by simp))
  |int j=>obtain⟨t',rfl⟩:=ry;exact PySem.EqNone.eq_none_int (jM I q (by simp))
  |str j=>obtain⟨t',rfl⟩:=ry;exact PySem.EqNone.eq_none_str (jM I q (by simp))
  |_=>exact absurd (show false=true from hs) P6
 |bl i=>
  cases rx;cases y with
  |non=>cases ry;exact PySem.EqNone.eq_bool_none (jM I q (by simp))
  |bl j=>cases ry;exact eq_bool (jM I q BY)
  |str j=>obtain⟨t',rfl⟩:=ry;exact PySem.EqMixed.eq_bool_str (jM I q (by simp))
  |_=>exact absurd (show false=true from hs) P6
 |int i=>
  obtain⟨t,rfl⟩:=rx;cases y with
  |non=>cases ry;exact PySem.EqNone.eq_int_none (jM I q (by simp))
  |int j=>obtain⟨t',rfl⟩:=ry;exact eq_int (jM I q Dq)
  |str j=>obtain⟨t',rfl⟩:=ry;exact PySem.EqMixed.eq_int_str (jM I q (by simp))
  |_=>exact absurd (show false=true from hs) P6
 |str i=>
  obtain⟨t,rfl⟩:=rx;cases y with
  |non=>cases ry;exact PySem.EqNone.eq_str_none (jM I q (by simp))
  |bl j=>cases ry;exact PySem.EqMixed.eq_str_bool (jM I q (by simp))
  |int j=>obtain⟨t',rfl⟩:=ry;exact PySem.EqMixed.eq_str_int (jM I q (by simp))
  |str j=>obtain⟨t',rfl⟩:=ry;exact eq_str (jM I q Dr)
  |_=>exact absurd (show false=true from hs) P6
 |byt i=>
  obtain⟨t,rfl⟩:=rx;cases y with
  |byt j=>obtain⟨t',rfl⟩:=ry;exact PySem.W.eq_bytes (jM I q Ds)
  |_=>exact absurd (show false=true from hs) P6
 |_=>cases y<;>exact absurd (show false=true from hs) P6
theorem op_ne:OpR X (compareOp .NotEq) rNe:=by
 intro pins s σ H x y v u Q I rx ry h;obtain⟨hs,q⟩:=h;cases x with
 |non=>
  cases rx;cases y with
  |non=>cases ry;exact PySem.EqNone.ne_none_none (jM I q (by simp))
  |bl j=>cases ry;exact PySem.EqNone.ne_none_bool (jM I q (by simp))
  |int j=>obtain⟨t',rfl⟩:=ry;exact PySem.EqNone.ne_none_int (jM I q (by simp))
  |str j=>obtain⟨t',rfl⟩:=ry;exact PySem.EqNone.ne_none_str (jM I q (by simp))
  |_=>exact absurd (show false=true from hs) P6
 |bl i=>
  cases rx;cases y with
  |non=>cases ry;exact PySem.EqNone.ne_bool_none (jM I q (by simp))
  |bl j=>cases ry;exact ne_bool (jM I q (congrArg not BY))
  |str j=>obtain⟨t',rfl⟩:=ry;exact PySem.EqMixed.ne_bool_str (jM I q (by simp))
  |_=>exact absurd (show false=true from hs) P6
 |int i=>
  obtain⟨t,rfl⟩:=rx;cases y with
  |non=>cases ry;exact PySem.EqNone.ne_int_none (jM I q (by simp))
  |int j=>obtain⟨t',rfl⟩:=ry;exact ne_int (jM I q (congrArg not Dq))
  |str j=>obtain⟨t',rfl⟩:=ry;exact PySem.EqMixed.ne_int_str (jM I q (by simp))
  |_=>exact absurd (show false=true from hs) P6
 |str i=>
  obtain⟨t,rfl⟩:=rx;cases y with
  |non=>cases ry;exact PySem.EqNone.ne_str_none (jM I q (by simp))
  |bl j=>cases ry;exact PySem.EqMixed.ne_str_bool (jM I q (by simp))
  |int j=>obtain⟨t',rfl⟩:=ry;exact PySem.EqMixed.ne_str_int (jM I q (by simp))
  |str j=>obtain⟨t',rfl⟩:=ry;exact ne_str (jM I q (congrArg not Dr))
  |_=>exact absurd (show false=true from hs) P6
 |byt i=>
  obtain⟨t,rfl⟩:=rx;cases y with
  |byt j=>obtain⟨t',rfl⟩:=ry;exact PySem.W.ne_bytes (jM I q (congrArg not Ds))
  |_=>exact absurd (show false=true from hs) P6
 |_=>cases y<;>exact absurd (show false=true from hs) P6
theorem Sz:OpR X (compareOp .Lt) (rI0 λi j=> .bl (decide (i<j))):=EZ λ_ _ _ _ _ _ _ q=>lt_int q
theorem SA:OpR X (compareOp .LtE) (rI0 λi j=> .bl (decide (i<=j))):=EZ λ_ _ _ _ _ _ _ q=>le_int q
theorem SB:OpR X (compareOp .Gt) (rI0 λi j=> .bl (decide (j<i))):=EZ λ_ _ _ _ _ _ _ q=>gt_int q
theorem SC:OpR X (compareOp .GtE) (rI0 λi j=> .bl (decide (j<=i))):=EZ λ_ _ _ _ _ _ _ q=>ge_int q
variable {r:R2}
theorem OpR.or {f:Value->Value->Sem Value}{r':R2}(h:OpR X f r)(h':OpR X f r'):OpR X f (λx y H Q=>r x y H Q\/r' x y H Q):=by
 intro pins s σ H x y v u Q I rx ry q;rcases q with q|q
 ·exact h pins s σ H x y v u Q I rx ry q
 ·exact h' pins s σ H x y v u Q I rx ry q
theorem jz (b:Expr){op:CmpOp}(h:op≠ .In:=by decide)(h2:op≠ .NotIn:=by decide):behindInMarks op b=false:=by
 have e1:(op==CmpOp.In)=false:=by cases op<;>first|rfl|exact absurd rfl h
 have e2:(op==CmpOp.NotIn)=false:=by cases op<;>first|rfl|exact absurd rfl h2
 cases b<;>simp [behindInMarks,e1,e2]
variable {op:CmpOp}
theorem CO (ho:OpR X (compareOp op) r)(ha:PE X a ta)(hb:PE X b tb)(hm:behindInMarks op b=false):PE X (.Compare a [op] [b] pos) (tOp r ta tb):=by
 intro pins s σ H Q I h;exact wpAny_Compare1 (Sw ha hb I h λv u s2 x y H2 I2 rx ry q=>ho pins s2 σ H2 x y v u Q I2 rx ry q) hm
def CP (t:TE):TT:=λσ H Q=>t σ H λx H'=> ∃k,x= .bl k/\Q k H'
theorem CQ (ho:OpR X (compareOp op) r)(ha:PE X a ta)(hb:PE X b tb)(hm:behindInMarks op b=false):PT X (.Compare a [op] [b] pos) (CP (tOp r ta tb)):=by
 intro pins s σ H Q I h;refine wpAny_isTrue_Compare1 (thn (ha pins s σ H _ I h) λv s1 ⟨x,H1,I1,r1,q1⟩=>thn (hb pins s1 σ H1 _ I1 q1) λu s2 ⟨y,H2,I2,r2,q2⟩=>
  thn (ho pins s2 σ H2 x y v u _ I2 r1 r2 q2) λc s3 ⟨z,H3,I3,r3,k,e,q3⟩=> ?_) hm
 subst e;cases r3;exact N2 ⟨H3,I3,q3⟩
def Dt (r r':R2)(ta tb tc:TE):TE:=λσ H Q=>ta σ H λx H1=>tb σ H1 λy H2=>r x y H2 λz H3=> ∃k,z= .bl k/\
 (if k=true then tc σ H3 λw' H4=>r' y w' H4 Q else Q (.bl false) H3)
theorem Nh {op':CmpOp}{r':R2}(ho:OpR X (compareOp op) r)(ho':OpR X (compareOp op') r')(ha:PE X a ta)(hb:PE X b tb)(hc:PE X c tc)
 (hm:lastMarks [op,op'] [b,c]=false:=by with_unfolding_all rfl):PE X (.Compare a [op,op'] [b,c] pos) (Dt r r' ta tb tc):=by
 intro pins s σ H Q I h;refine Compare_chain (thn (ha pins s σ H _ I h) λv s1 ⟨x,H1,I1,r1,q1⟩=>chain_link (thn (hb pins s1 σ H1 _ I1 q1) λu s2 ⟨y,H2,I2,r2,q2⟩=>
  thn (ho pins s2 σ H2 x y v u _ I2 r1 r2 q2) λd s3 ⟨z,H3,I3,r3,k,e,q3⟩=> ?_)) hm
 subst e;cases r3;refine N2 ?_;cases k with
 |false=>exact ite_ff ⟨.bl false,H3,I3,rfl,q3⟩
 |true=>exact ite_tt (chain_last (thn (hc pins s3 σ H3 _ I3 q3) λw' s4 ⟨z',H4,I4,r4,q4⟩=>ho' pins s4 σ H4 y z' u w' Q I4 r2 r4 q4))
theorem Ni {op':CmpOp}{r':R2}(ho:OpR X (compareOp op) r)(ho':OpR X (compareOp op') r')(ha:PE X a ta)(hb:PE X b tb)(hc:PE X c tc)
 (hm:lastMarks [op,op'] [b,c]=false:=by with_unfolding_all rfl):PT X (.Compare a [op,op'] [b,c] pos) (CP (Dt r r' ta tb tc)):=by
 intro pins s σ H Q I h;refine isTrue_chain (thn (ha pins s σ H _ I h) λv s1 ⟨x,H1,I1,r1,q1⟩=>test_link (thn (hb pins s1 σ H1 _ I1 q1) λu s2 ⟨y,H2,I2,r2,q2⟩=>
  thn (ho pins s2 σ H2 x y v u _ I2 r1 r2 q2) λd s3 ⟨z,H3,I3,r3,k,e,q3⟩=> ?_)) hm
 subst e;cases r3;refine N2 ?_;cases k with
 |false=>
  obtain⟨k',e',q'⟩:=q3;cases e';exact ite_ff ⟨H3,I3,q'⟩
 |true=>
  refine ite_tt (test_last (thn (hc pins s3 σ H3 _ I3 q3) λw' s4 ⟨z',H4,I4,r4,q4⟩=>thn (ho' pins s4 σ H4 y z' u w' _ I4 r2 r4 q4) λd' s5 ⟨z2,H5,I5,r5,k2,e2,q5⟩=> ?_));subst e2;cases r5;exact N2 ⟨H5,I5,q5⟩
theorem VZ:(sizeLine:Nat)<2^63:=by rw [G0Q];decide
theorem YL {x:V}{us:List Value}(r:Vals [x] us): ∃u,us= [u]/\RelV x u:=by
 cases r with
 |cons r1 r2=>cases r2;exact⟨_,rfl,r1⟩
theorem CS {x y:V}{us:List Value}(r:Vals [x,y] us): ∃u w',us= [u,w']/\RelV x u/\RelV y w':=by
 cases r with
 |cons r1 r2=>
  cases r2 with
  |cons r3 r4=>cases r4;exact⟨_,_,rfl,r1,r3⟩
theorem Du (hc:X.calm=true):CallR X (.builtin "max") (λxs H Q=> ∃i j,xs= [.int i,.int j]/\Q (.int (if j>i then j else i)) H):=by
 intro pins s σ H xs us Q I r h;obtain⟨i,j,rfl,q⟩:=h;obtain⟨u,w',rfl,⟨t,rfl⟩,⟨t',rfl⟩⟩:=CS r;refine max_two_ints (I.ok.hd hc) λh' tk k=>⟨_,H,I.kept k,?_,q⟩
 by_cases hj:j>i
 ·rw [if_pos hj,if_pos hj];exact⟨_,rfl⟩
 ·rw [if_neg hj,if_neg hj];exact⟨_,rfl⟩
theorem call_int1:CallR X (.type "int") (λxs H Q=>(∃i,xs= [.int i]/\Q (.int i) H)\/ ∃k,xs= [.bl k]/\Q (.int (if k then 1 else 0)) H):=by
 intro pins s σ H xs us Q I r h;rcases h with ⟨i,rfl,q⟩|⟨k,rfl,q⟩
 ·obtain⟨u,rfl,t,rfl⟩:=YL r;exact call_int_int ⟨.int i,H,I,⟨_,rfl⟩,q⟩
 ·obtain⟨u,rfl,r1⟩:=YL r;cases r1;exact call_int_bool ⟨.int (if k then 1 else 0),H,I.tok _,⟨_,rfl⟩,q⟩
end
structure ObjM (h:Heap)(x dx C:Addr)(mA:Str->Option Value):Prop where
 obj:h.get? x=some (PySem.W.instObj C dx)
 ns:h.Ns1 dx mA
 ne:dx≠x
theorem Dv {dx:Addr}{mA:Str->Option Value}(n:h.Ns1 dx mA): ∃od,h.get? dx=some od/\ ∀name,PySem.W.lookIn name od=some (mA name):=by
 obtain⟨o,es,ep,ho,hd,hk,_,hm⟩:=n;refine⟨o,ho,λname=> ?_⟩;have e:=hm name;unfold nsFind findBy at e;rw [<-Array.find?_toList] at e;unfold PySem.W.lookIn;rw [hd];dsimp only;split
 ·rename_i y q;rw [q] at e;exact congrArg some e
 ·rename_i q;rw [q] at e;have a:es.toList.any (·.refKey)=false:=by
   rw [List.any_eq_false];intro y hy;obtain⟨z,t,hkey⟩:=hk y (Array.mem_toList_iff.mp hy);simp [DictEntry.refKey,hkey]
  have a': ¬es.toList.any (·.refKey)=true:=by rw [a];exact P6
  rw [if_neg a'];exact congrArg some e
theorem ObjM.look {x dx C:Addr}{mA:Str->Option Value}(I:ObjM h x dx C mA): ∃od,PySem.W.InstAt h x (PySem.W.instObj C dx) C (some od)/\ ∀name,PySem.W.lookIn name od=some (mA name):=
 let ⟨od,ho,hl⟩:=Dv I.ns
 ⟨od,⟨I.obj,rfl,rfl,ho⟩,hl⟩
theorem RelO.some_of {v:V}{o:Option Value}(r:RelO (some v) o): ∃u,o=some u/\RelV v u:=by
 cases o with
 |none=>exact(show False from r).elim
 |some u=>exact⟨u,rfl,r⟩
section
variable {P:Program}{w:World}{H H':Hp}{h h':Heap}{a C dx:Addr}{fs fs':List (Str×V)}
theorem CT (hok:HOk P w H h)(e:H a=some (.ins C dx fs)): ∃mA,ObjM h a dx C mA/\(∀f,RelO (fs.lookup f) (mA f))/\PySem.Within mA (fs.map (·.1))/\fs.length<=1000/\H dx=some (.own a):=by
 obtain⟨d,z,ne,ob,mA,n,r,q⟩:=(show ObjOk P w H h a (.ins C dx fs) from hok a _ e);exact⟨mA,⟨ob,n,ne⟩,r,q,z,d⟩
end
structure Cls (K:PySem.W.Frag)(C:Addr):Prop where
 pg:PySem.W.plainGet K C Str.empty=true
 hd:PySem.W.hasDictIn K C=true
 po:PySem.W.plainOver K C=true
 sa:PySem.W.findIn K (.ref C) "__setattr__" =some (some (.builtin "object.__setattr__"))
theorem Cls.get {C:Addr}(c:Cls K C)(f:Str):PySem.W.plainGet K C f=true:=c.pg
section
variable {X:Cx}{pins:List (Addr×Obj)}{σ:St}{H:Hp}{s:Shared}{A:Around}{E:Value->Shared->Prop}{Q:Value->Shared->Prop}{c:Value}{b:Bool}
inductive TyOf (K:PySem.W.Frag)(H:Hp):V->Value->Prop where
 |non:TyOf K H .non (.type "NoneType")
 |bl (x:Bool):TyOf K H (.bl x) (.type "bool")
 |int (i:Int):TyOf K H (.int i) (.type "int")
 |str (x:Str):TyOf K H (.str x) (.type "str")
 |flt (x:UInt64):TyOf K H (.flt x) (.type "float")
 |lst {a:Addr} {xs:List V} (e:H a=some (.lst xs)):TyOf K H (.ref a) (.type "list")
 |frz {a:Addr} {o:Obj} {xs:List V} (e:H a=some (.frz o (.lst xs))):TyOf K H (.ref a) (.type "list")
 |tup {a:Addr} {xs:List V} (e:H a=some (.tup xs)):TyOf K H (.ref a) (.type "tuple")
 |dK {a:Addr} {kvs:List (Key×V)} (e:H a=some (.dK kvs)):TyOf K H (.ref a) (.type "dict")
 |dT {a:Addr} {kvs:List (List Key×V)} (e:H a=some (.dT kvs)):TyOf K H (.ref a) (.type "dict")
 |ins {a C dx:Addr} {fs:List (Str×V)} (e:H a=some (.ins C dx fs)) (cl:Cls K C) (ha:PySem.W.findIn K (.ref C) "__class__" =some (some (.builtin "object.__class__")))
  (hn:PySem.W.specialIn K (.builtin "object.__class__") "__get__" =some (some (.builtin "getset_descriptor.__get__"))) (htk:PySem.W.takesIn K (.builtin "object.__class__")=some true)
  (hm:PySem.W.mroIn K C (.type "object")=some true):TyOf K H (.ref a) (.ref C)
theorem Dw {x:V}{u t:Value}(I:Inv X pins σ H s)(rx:RelV x u)(ty:TyOf X.K H x t)(e:PySem.W.kitOne X.K t c=some b)(h: ∀tk,Q (.bool b) {s with toks:=tk}):
 wpAny (model X.prog X.w) A (call (.builtin "isinstance") [u,c]) Q E s:=by
 cases ty with
 |non=>cases (show u=Value.none from rx);exact B6 PySem.W.kitx_none I.kIn True.intro e (λz=>nomatch z) h
 |bl y=>cases (show u=Value.bool y from rx);exact B6 PySem.W.kitx_bool I.kIn True.intro e (λz=>nomatch z) h
 |int i=>obtain⟨t,q⟩:=(show ∃t,u=Value.int i t from rx);cases q;exact B6 PySem.W.kitx_int I.kIn True.intro e (λz=>nomatch z) h
 |str y=>obtain⟨t,q⟩:=(show ∃t,u=Value.str y t from rx);cases q;exact B6 PySem.W.kitx_str I.kIn True.intro e (λz=>nomatch z) h
 |flt y=>obtain⟨t,q⟩:=(show ∃t,u=Value.float y t from rx);cases q;exact B6 PySem.W.kitx_float I.kIn True.intro e (λz=>nomatch z) h
 | @lst a xs ea=>
  cases (show u=Value.ref a from rx);obtain⟨_,_,n,_,h1⟩:=(show ObjOk X.prog X.w H s.heap a (.lst xs) from I.hok a _ ea);exact B6 PySem.W.kitx_list I.kIn ⟨_,h1,rfl⟩ e (λz=>nomatch z) h
 | @frz a ob xs ea=>
  cases (show u=Value.ref a from rx);obtain⟨_,_,_,n,_,h1⟩:=(show ObjOk X.prog X.w H s.heap a (.frz ob (.lst xs)) from I.hok a _ ea);exact B6 PySem.W.kitx_list I.kIn ⟨_,h1,rfl⟩ e (λz=>nomatch z) h
 | @tup a xs ea=>
  cases (show u=Value.ref a from rx);obtain⟨_,_,_,p⟩:=(show ObjOk X.prog X.w H s.heap a (.tup xs) from I.hok a _ ea);obtain⟨o,h1,h2,_⟩:=p;exact B6 PySem.W.kitx_tuple I.kIn ⟨o,h1,h2⟩ e (λz=>nomatch z) h
 | @dK a kvs ea=>
  cases (show u=Value.ref a from rx);obtain⟨_,_,vs,_,p⟩:=(show ObjOk X.prog X.w H s.heap a (.dK kvs) from I.hok a _ ea);obtain⟨o,es,ep,h1,h2,_⟩:=p;exact B6 PySem.W.kitx_dict I.kIn ⟨o,h1,h2.1⟩ e (λz=>nomatch z) h
 | @dT a kvs ea=>
  cases (show u=Value.ref a from rx);obtain⟨_,_,xs,_,o,es,ep,h1,h2,_⟩:=(show ObjOk X.prog X.w H s.heap a (.dT kvs) from I.hok a _ ea);exact B6 PySem.W.kitx_dict I.kIn ⟨o,h1,h2.1⟩ e (λz=>nomatch z) h
 | @ins a C dx fs ea cl ha hn htk hm=>
  cases (show u=Value.ref a from rx);obtain⟨mA,O,_⟩:=CT I.hok ea;obtain⟨od,J,_⟩:=O.look;exact B6 (PySem.W.kitx_own (cl.get _) cl.hd ha hn htk hm) I.kIn J e (λz=>nomatch z) h
end
structure Room (k:Nat)(A:Around):Prop where
 hd:A.handled=none
 dp:A.depth+3*k+5<recursionLimit
 un:A.units+16*k+200<cLine
 gd:A.guards=some []
variable {k:Nat}
theorem Room.deeper (r:Room (k+1) A)(env:Env):Room k (A.deeper env):=
 ⟨r.hd,by have:=r.dp;show A.depth+1+3*k+5<_;omega,by have:=r.un;show A.units+3+16*k+200<_;omega,r.gd⟩
theorem Room.depth (r:Room k A):A.depth<recursionLimit:=by have:=r.dp;omega
theorem Room.units (r:Room k A):A.units+64<cLine:=by have:=r.un;omega
def Ha:TA:=λ_ H Q=>Q [] H
def OU (ta:TE)(tr:TA):TA:=λσ H Q=>ta σ H λx H1=>tr σ H1 λxs H2=>Q (x::xs) H2
section
variable {X:Cx}{e:Expr}{es:List Expr}{te:TE}{t:TA}{pos:Pos}
theorem pa_nil:PA X [] Ha:=λ_ _ _ _ H Q I h=>Calls.spliced_nil ⟨[],H,I,.nil,h⟩
theorem ZM (ha:PE X e te)(hr:PA X es t)(hs:starEach (e::es) X.env=(false,eval e X.env)::starEach es X.env:=by rfl):PA X (e::es) (OU te t):=by
 intro pos pins s σ H Q I h;rw [hs];show wpAny _ _ (spliced ((false,eval e X.env)::backTo pos (starEach es X.env))) _ _ s;refine Z6 (thn (ha pins s σ H _ I h) λu s1 ⟨x,H1,I1,r1,q1⟩=> ?_);exact thn (hr pos pins s1 σ H1 _ I1 q1) λus s2 ⟨xs,H2,I2,r2,q2⟩=>⟨x::xs,H2,I2,.cons r1 r2,q2⟩
def Hb (t:TA):TE:=λσ H Q=>t σ H λxs H1=>xs.length<=sizeLine/\ ∀p,H1 p=none->Q (.ref p) (upd H1 p (.tup xs))
def Hc (t:TA):TE:=λσ H Q=>t σ H λxs H1=>xs.length<=sizeLine/\ ∀p,H1 p=none->Q (.ref p) (upd H1 p (.lst xs))
theorem OV {x1}(h:PA X es t):PE X (.Tuple es x1 pos) (Hb t):=by
 intro pins s σ H Q I hq;refine wpAny_Tuple_spliced (thn (h pos pins s σ H _ I hq) λus s1 ⟨xs,H1,I1,r,z,q⟩=>⟨by rw [<-r.length];exact z,?_⟩);have hf:H1 s1.heap.objs.size=none:=I1.hok.fresh (G9 _);refine⟨.ref s1.heap.objs.size,upd H1 s1.heap.objs.size (.tup xs),I1.laid (t':=s1.toks) (λb u e=>G2 _ e) (G9 _) ?_,rfl,q _ hf⟩;exact⟨z,us,r,IsTupN.new _ _⟩
theorem OW (h:PA X es t):PE X (.List es pos) (Hc t):=by
 intro pins s σ H Q I hq;refine wpAny_List_spliced (thn (h pos pins s σ H _ I hq) λus s1 ⟨xs,H1,I1,r,z,q⟩=>⟨by rw [<-r.length];exact z,?_⟩);have hf:H1 s1.heap.objs.size=none:=I1.hok.fresh (G9 _);refine⟨.ref s1.heap.objs.size,upd H1 s1.heap.objs.size (.lst xs),I1.laid (t':=s1.toks) (λb u e=>G2 _ e) (G9 _) ?_,rfl,q _ hf⟩;exact⟨z,us,0,r,R3 _ rfl⟩
end
abbrev Sp:=List V->Hp->VK->XK->Prop
abbrev CXT:=List Env->Hp->Shared->XK->Value->Shared->Prop
structure Env0 (P:Program)(w:World)(K:PySem.W.Frag)(mg:Str->Option Value)(base:Heap)(A:Around)(outer:List Env)(s:Shared)(H:Hp):Prop where
 frames:A.frames=some outer
 mod:Mod K mg base
 bs: ∀b o,base.get? b=some o->s.heap.get? b=some o/\H b=none
 bsz:base.objs.size<=s.heap.objs.size
 funs:s.heap.FunFrames base outer
 frf: ∀b∈frs outer,H b=none
 hok:HOk P w H s.heap
 bare:AllBare s.gens
def CE (outer:List Env)(P:Program)(w:World)(H:Hp)(s:Shared)(Q:VK)(u:Value)(s':Shared):Prop:=
 ∃v H',s'.os=s.os/\AllBare s'.gens/\Un (frs outer) [] H H' s.heap s'.heap/\HOk P w H' s'.heap/\RelV v u/\Q v H'
def CR (CX:CXT)(outer:List Env)(P:Program)(w:World)(H:Hp)(s:Shared)(Q:VK)(E:XK)(r:Result)(s':Shared):Prop:=
 match r with
 | .ok (.ret u)=>CE outer P w H s Q u s'
 | .ok _=>False
 | .error e=>CX outer H s E e s'
structure FnOk (P:Program)(w:World)(K:PySem.W.Frag)(mg:Str->Option Value)(base:Heap)(CX:CXT)(k:Nat)(f:Addr)(fd:FuncData)(ps:List Str)(sp:Sp):Prop where
 len: ∀vs H Q E,sp vs H Q E->vs.length=ps.length
 run: ∀ (A:Around) (outer:List Env) (s:Shared) (H:Hp) (args:Args) (us:List Value) (vs:List V) (Q:VK) (E:XK),Room k A->Env0 P w K mg base A outer s H->BindsTo s fd args (ps.zip us)->Vals vs us->sp vs H Q E->
  codeAny (model P w) A (.call (.ref f) args) (CR CX outer P w H s Q E) s
section
variable {X:Cx}{pins:List (Addr×Obj)}{σ:St}{H:Hp}{s s':Shared}
theorem Inv.env0 (I:Inv X pins σ H s):Env0 X.prog X.w X.K X.mg X.base X.A X.stack s H:=
 ⟨I.ok.frames,I.ok.mod,I.bs,D7 I.ok.bsz I.sz,I.stack,I.stkFree,I.hok,I.bare⟩
theorem Inv.after {Q:VK}{u:Value}(I:Inv X pins σ H s)(h:CE X.stack X.prog X.w H s Q u s'):EP X pins σ Q u s':=by
 obtain⟨v,H',os,bare,un,hok,r,q⟩:=h;obtain⟨hh,g,d,t,os'⟩:=s';obtain rfl:os'=s.os:=os;exact⟨v,H',I.call (h':=hh) (g':=g) (d':=d) (t':=t) (ch:= []) un hok bare (λb z=>absurd z (by simp)),r,q⟩
end
def OX (sp:Sp)(dvs:List V)(E:XK)(t:TA):TE:=λσ H Q=>t σ H λvs H1=>sp (vs++dvs) H1 Q E
def Binds (K:PySem.W.Frag)(fd:FuncData)(ps:List Str)(ds:List Value):Prop:=
 ∀ (s:Shared) (us:List Value),K.In s.heap->(us++ds).length=ps.length->BindsTo s fd ⟨us,[]⟩ (ps.zip (us++ds))
theorem Binds.all {fd:FuncData}{ps:List Str}(h: ∀us:List Value,us.length=ps.length->bindArgs fd ⟨us,[]⟩=pure (ps.zip us)):Binds K fd ps []:=λs us _ hl=>by
 rw [B7] at hl ⊢;exact .of_eq (h us hl)
def Dx (CX:CXT)(X:Cx)(E:XK):Prop:= ∀ (pins:List (Addr×Obj)) (σ:St) (H:Hp) (s:Shared) (e:Value) (s':Shared),Inv X pins σ H s->CX X.stack H s E e s'->X.xe e s'
section
variable {X:Cx}{CX:CXT}{k:Nat}{f C:Addr}{fd:FuncData}{ps:List Str}{sp:Sp}{dvs:List V}{ds:List Value}{E:XK}{x m:Str}{p pos apos:Pos}{e o:Expr}{es:List Expr}{ta:TE}{t:TA}
theorem OY {pins:List (Addr×Obj)}{σ:St}{H:Hp}{s:Shared}{Q:VK}{us:List Value}{vs:List V}(F:FnOk X.prog X.w X.K X.mg X.base CX k f fd ps sp)(hr:Room k X.A)(hb:Binds X.K fd ps ds)(hd:Vals dvs ds)(hx:Dx CX X E)
 (I:Inv X pins σ H s)(r:Vals vs us)(h:sp (vs++dvs) H Q E):wpAny (model X.prog X.w) X.A (call (.ref f) us) (EP X pins σ Q) X.xe s:=by
 have r2:Vals (vs++dvs) (us++ds):=r.append hd;have hl:(us++ds).length=ps.length:=by rw [<-r2.length];exact F.len _ _ _ _ h
 refine wpAny_call (codeAny_mono (F.run X.A X.stack s H ⟨us,[]⟩ (us++ds) (vs++dvs) Q E hr I.env0 (hb s us I.kIn hl) r2 h) λr s' hq=> ?_);cases r with
 |error e=>exact hx pins σ H s e s' I hq
 |ok fl=>
  cases fl with
  |ret u=>exact I.after hq
  |next=>exact False.elim hq
  |brk=>exact False.elim hq
  |cont=>exact False.elim hq
theorem CU (F:FnOk X.prog X.w X.K X.mg X.base CX k f fd ps sp)(hr:Room k X.A)(hg:Gl X x)(hm:X.mg x=some (.ref f))(hk:PySem.W.keepIn X.K (.ref f)=true)(hb:Binds X.K fd ps ds)(hd:Vals dvs ds)(hx:Dx CX X E)
 (ha:PA X (e::es) t)(hdb:(x==("__debug__" :Str))=false:=by decide)(he:starEach (e::es) X.env=(false,eval e X.env)::starEach es X.env:=by rfl)(hpl:(backTo pos (starEach es X.env)).any (·.1)=false:=by rfl):
 PE X (.Call (.Name x p) (e::es) [] pos) (OX sp dvs E t):=by
 intro pins s σ H Q I h;refine Z7 (Dl I hg hm ?_ hdb);refine PySem.W.callWith_K (h₀:=X.base) I.ok.mod.kin hk (thn (ha pos pins s σ H _ I h) λus s1 ⟨vs,H1,I1,r,q⟩=>⟨I1.kIn,?_⟩) he hpl;exact OY F hr hb hd hx I1 r q
end
structure FnScope (N P:List Str)(sc:Scope):Prop where
 kind:sc.kind= .function
 co:sc.isCoroutine=false
 gen:sc.isGenerator=false
 nd:N.Nodup
 pre:N.take P.length=P
 par: ∀x∈P,sc.names.lookup x=some .local\/sc.names.lookup x=some .cell
 nofree: ∀y∈sc.names,y.2≠ .free
variable {kindOf:Str->Option NameKind}{x:Str}
theorem Ua: ∀ {binds:List (Str×Value)} {m:Str->Option Value},(∀v,(x,v) ∉ binds)->bindL kindOf binds m x=m x
 | [],_,_=>rfl
 |(n,v)::r,m,h=>by
  unfold bindL;rw [Ua λw hw=>h w (R0 _ hw)];split
  ·have:x≠n:=by rintro rfl;exact h v P8
   simp [this]
  ·rfl
theorem Ub: ∀ {binds:List (Str×Value)} {m:Str->Option Value},(∀v,(x,v) ∉ binds)->bindC kindOf binds m x=m x
 | [],_,_=>rfl
 |(n,v)::r,m,h=>by
  unfold bindC;rw [Ub λw hw=>h w (R0 _ hw)];split
  ·rfl
  ·have:x≠n:=by rintro rfl;exact h v P8
   simp [this]
theorem Uc {v:Value}: ∀ {P:List Str} {vs:List Value} {i:Nat} {m:Str->Option Value},P.Nodup->P[i]? =some x->vs[i]? =some v->kindOf x=some .local->
 bindL kindOf (P.zip vs) m x=some v
 | [],_,_,_,_,h,_,_=>by simp at h
 |_::_,[],_,_,_,_,h,_=>by simp at h
 |p::P,w::vs,0,m,nd,h1,h2,hk=>by
  simp at h1 h2;subst h1;subst h2;show bindL kindOf ((p,w)::P.zip vs) m p=_;unfold bindL;rw [Ua λv hv=>(O7.mp nd).1 (G0A hv).1,if_pos hk];simp
 |p::P,w::vs,i+1,m,nd,h1,h2,hk=>by
  show bindL kindOf ((p,w)::P.zip vs) m x=_;unfold bindL;exact Uc (i:=i) (O7.mp nd).2 (by simpa using h1) (by simpa using h2) hk
theorem Ud {v:Value}: ∀ {P:List Str} {vs:List Value} {i:Nat} {m:Str->Option Value},P.Nodup->P[i]? =some x->vs[i]? =some v->kindOf x≠some .local->
 bindC kindOf (P.zip vs) m x=some v
 | [],_,_,_,_,h,_,_=>by simp at h
 |_::_,[],_,_,_,_,h,_=>by simp at h
 |p::P,w::vs,0,m,nd,h1,h2,hk=>by
  simp at h1 h2;subst h1;subst h2;show bindC kindOf ((p,w)::P.zip vs) m p=_;unfold bindC;rw [Ub λv hv=>(O7.mp nd).1 (G0A hv).1,if_neg hk];simp
 |p::P,w::vs,i+1,m,nd,h1,h2,hk=>by
  show bindC kindOf ((p,w)::P.zip vs) m x=_;unfold bindC;exact Ud (i:=i) (O7.mp nd).2 (by simpa using h1) (by simpa using h2) hk
def start (N:List Str)(vs:List V):St:=vs.map some++List.replicate (N.length-vs.length) none
def BZ (CX:CXT)(P:Program)(w:World)(K:PySem.W.Frag)(mg:Str->Option Value)(base:Heap)(N:List Str)(qual:Str)(scope:Scope)(f:Addr)(cd:Value)(A:Around)(outer:List Env)(s:Shared)(H:Hp)(E:XK):Cx where
 prog:=P
 w:=w
 K:=K
 mg:=mg
 base:=base
 A:=A.deeper (envOfC qual scope s.heap.objs.size f cd)
 N:=N
 s₀:=s
 H₀:=H
 env:=envOfC qual scope s.heap.objs.size f cd
 outer:=outer
 stack:=envOfC qual scope s.heap.objs.size f cd::outer
 ex:= []
 calm:=true
 fn:=λ_=>true
 pn:= []
 xe:=λe s'=>wpAny (model P w) (A.deeper (envOfC qual scope s.heap.objs.size f cd)) (leaving (envOfC qual scope s.heap.objs.size f cd) e) (λ_ s''=>CX outer H s E e s'') (λe' s''=>CX outer H s E e' s'') s'
theorem Zz {sc:Scope}{n:Nat}(h:sc.names.lookup x=some .cell): ∃c,(cellsFrom n sc.names []).lookup x=some c:=by
 have q:=G0w sc.names n [] (.inl h);exact E1.mp q
theorem Dy {CX:CXT}{mg:Str->Option Value}{base:Heap}{N ps:List Str}{qual:Str}{scope:Scope}{f:Addr}{cd:Value}{outer:List Env}{s1:Shared}{E:XK}{us:List Value}{vs:List V}
 (S:FnScope N ps scope)(hd:A.handled=none)(e0:Env0 P w K mg base A outer s H)(hl:vs.length=ps.length)(r:Vals vs us)
 (x:InCallC s s.heap.objs.size (bindL (envOfC qual scope s.heap.objs.size f cd).kindOf (ps.zip us) λ_=>none) (cellsFrom (s.heap.objs.size+1) scope.names []) (bindC (envOfC qual scope s.heap.objs.size f cd).kindOf (ps.zip us) λ_=>none) s1):
 Inv (BZ CX P w K mg base N qual scope f cd A outer s H E) [] (start N vs) H s1:=by
 have hpl:ps.length<=N.length:=by have:=congrArg List.length S.pre;rw [R1] at this;omega
 obtain⟨h1,tk,rfl,hk⟩:=x.done;have noA: ∀b:Addr,b ∉ (BZ CX P w K mg base N qual scope f cd A outer s H E).ex:=λb z=>absurd (show b∈([]:List Addr) from z) (by simp)
 refine⟨⟨e0.mod,S.kind,rfl,rfl,G9 _,λy z c h1 h2=> ?_,λy hy=> ?_,λy c _ h=> ?_,λ_=>hd,Around.frames_deeper e0.frames,.inr ⟨rfl,rfl⟩,λb z=>absurd z (noA b),e0.bs,e0.bsz,λb _ _=>noA b,λb z=>absurd z (noA b),e0.funs,e0.frf⟩,
  rfl,e0.bare,Un.kept hk,⟨_,x.toInCall.ns,λi y v h1 h2 h3=> ?_⟩,λy c h=>⟨_,x.cell y c h⟩,e0.hok.fresh (G9 _),λy c h=> ?_,λp hp=>absurd (show p∈([]:List (Addr×Obj)) from hp) (by simp),e0.hok.kept hk,?_⟩
 ·exact name_of_addr x.apart (E6 h1) (E6 h2)
 ·have hy:scope.names.lookup y=some .cell\/scope.names.lookup y=some .free:=hy;rcases hy with hy|hy
  ·exact Zz hy
  ·exact absurd rfl (S.nofree _ (E6 hy))
 ·exact D8 (x.above y c (E6 h))
 ·have hi:i<vs.length:=by
   unfold start at h2
   by_cases hi:i<vs.length
   ·exact hi
   ·rw [P4 (by simpa using hi)] at h2;rw [G0k] at h2;split at h2<;>cases h2
  have ha:vs[i]? =some v:=by
   unfold start at h2;rw [D2 (by simpa using hi),P3] at h2;cases e:vs[i]? with
   |none=>rw [e] at h2;cases h2
   |some a=>rw [e] at h2;cases h2;rfl
  obtain⟨u,hu,rv⟩:=r.get ha;have hp:ps[i]? =some y:=by
   rw [<-S.pre,Q5 (by omega)];exact h1
  have ndP:ps.Nodup:=by rw [<-S.pre];exact S.nd.sublist (O5 _ _)
  refine⟨u,rv,?_⟩;rcases S.par y (G6 hp) with k|k
  ·exact .inl ⟨k,Uc ndP hp hu k⟩
  ·obtain⟨c,e⟩:=Zz (n:=s.heap.objs.size+1) k;refine .inr ⟨.inl k,c,e,?_⟩;have q:=x.cell y c e;rw [Ud ndP hp hu (by show scope.names.lookup y≠_;rw [k];decide)] at q;exact q
 ·exact e0.hok.fresh (D8 (x.above y c (E6 h)))
 ·unfold start;show _=N.length;rw [G3,G1,List.length_replicate];omega
theorem SE {CX:CXT}{mg:Str->Option Value}{base:Heap}{f:Addr}{name qual:Str}{params:Arguments}{body:List Stmt}{scope:Scope}{dV kV doc pm cdv ct oc:Value}{an od:Option Addr}{osl:Array (Option Value)}{N ps:List Str}{sp:Sp}(lk:K.lookup f=some ⟨oc,od,.func (PySem.W.fnOf name qual params body scope dV kV doc pm an cdv ct),osl⟩)(hcd:PySem.W.codeIn K cdv qual=true)(S:FnScope N ps scope)
 (len: ∀vs H Q E,sp vs H Q E->vs.length=ps.length)
 (hbody: ∀ (A:Around) (outer:List Env) (s:Shared) (H:Hp) (vs:List V) (Q:VK) (E:XK),Room k (A.deeper (envOfC qual scope s.heap.objs.size f cdv))->sp vs H Q E->
  ∃t,PSs (BZ CX P w K mg base N qual scope f cdv A outer s H E) body t/\t {nx:=λ_ H'=>Q .non H',rt:=Q} (start N vs) H):
 FnOk P w K mg base CX (k+1) f (PySem.W.fnOf name qual params body scope dV kV doc pm an cdv ct) ps sp:=by
 refine⟨len,λA outer s H args us vs Q E hr e0 hb r hsp=> ?_⟩;have hl:=len _ _ _ _ hsp;have KX:K.In s.heap:=e0.mod.kin.keeps λb o e=>(e0.bs b o e).1
 have lim:s.heap.NoLimit:=e0.mod.nolimit.keeps λb o e=>(e0.bs b o e).1
 have hkind: ∀y∈ps.zip us,scope.names.lookup y.1=some .local\/(scope.names.lookup y.1=some .cell/\((cellsFrom (s.heap.objs.size+1) scope.names []).lookup y.1).isSome=true):=λ⟨n,v⟩ hy=>by
  rcases S.par n (G0A hy).1 with q|q
  ·exact .inl q
  ·exact .inr ⟨q,G0w _ _ _ (.inl q)⟩
 refine codeAny_call_function hr.depth (KX _ _ lk) rfl S.co S.gen rfl (PySem.W.codeRec_of KX hcd) (hb _ _ _ _ ?_);refine wpAny_newFunctionEnv_cells S.kind hkind λenv he s1 x=> ?_
 subst he;refine⟨lim.keeps x.toInCall.keep,codeAny_func ?_⟩;obtain⟨t,ht,hq⟩:=hbody A outer s H vs Q E (hr.deeper _) hsp;have I:Inv (BZ CX P w K mg base N qual scope f cdv A outer s H E) [] (start N vs) H s1:=Dy S hr.hd e0 hl r x;refine R7 (ht [] s1 (start N vs) H _ I hq) (λfl s' hs=> ?_) λe s' hs=>hs
 have fin: ∀ {σ':St} {H':Hp} {v:V} {u:Value},Inv (BZ CX P w K mg base N qual scope f cdv A outer s H E) [] σ' H' s'->RelV v u->Q v H'->CE outer P w H s Q u s':=
  λ{σ' H' v u} J rv q=>⟨v,H',J.os,J.bare,J.base,J.hok,rv,q⟩
 cases fl with
 |ret u=>
  obtain⟨v,σ',H',J,rv,q⟩:=hs;exact fin J rv q
 |next=>
  obtain⟨σ',H',J,q⟩:=hs;exact fin (v:=V.non) (u:=Value.none) J rfl q
 |brk=>
  obtain⟨_,_,_,q⟩:=hs;exact False.elim q
 |cont=>
  obtain⟨_,_,_,q⟩:=hs;exact False.elim q
section
variable {X:Cx}{x:Str}{p pos:Pos}{e:Expr}{es:List Expr}{t:TA}{id T:String}{r:List V->Hp->VK->Prop}
def tCB (r:List V->Hp->VK->Prop)(t:TA):TE:=λσ H Q=>t σ H λvs H1=>r vs H1 Q
theorem Go (hc:CallR X (.builtin id) r)(hg:Gl X x)(hm:X.mg x=none)(hv:bootBuiltins x=some (.builtin id))(ha:PA X (e::es) t)(hn:x≠ "__name__" :=by decide)(hdb:(x==("__debug__" :Str))=false:=by decide)
 (he:starEach (e::es) X.env=(false,eval e X.env)::starEach es X.env:=by rfl)(hpl:(backTo pos (starEach es X.env)).any (·.1)=false:=by rfl):PE X (.Call (.Name x p) (e::es) [] pos) (tCB r t):=by
 intro pins s σ H Q I h;refine Z7 (Yg I hg hm hv ?_ hn hdb);exact PyProof.Rows.callWith_builtin1 (thn (ha pos pins s σ H _ I h) λus s1 ⟨vs,H1,I1,r1,q1⟩=>hc pins s1 σ H1 vs us Q I1 r1 q1) he hpl
theorem Dz (hc:CallR X (.type T) r)(hg:Gl X x)(hm:X.mg x=none)(hv:bootBuiltins x=some (.type T))(ha:PA X (e::es) t)(hn:x≠ "__name__" :=by decide)(hdb:(x==("__debug__" :Str))=false:=by decide)
 (he:starEach (e::es) X.env=(false,eval e X.env)::starEach es X.env:=by rfl)(hpl:(backTo pos (starEach es X.env)).any (·.1)=false:=by rfl):PE X (.Call (.Name x p) (e::es) [] pos) (tCB r t):=by
 intro pins s σ H Q I h;refine Z7 (Yg I hg hm hv ?_ hn hdb);exact O6 (thn (ha pos pins s σ H _ I h) λus s1 ⟨vs,H1,I1,r1,q1⟩=>hc pins s1 σ H1 vs us Q I1 r1 q1) he hpl
end
end L2
namespace HT
open PySem PyProof.Rows
def za:List Int->List Int->Bool
 | [],[]=>false
 | [],_::_=>true
 |_::_,[]=>false
 |x::xs,y::ys=>if x=y then za xs ys else decide (x<y)
theorem Yh (x y:Int)(xs ys:List Int):za (x::xs) (y::ys)=if x=y then za xs ys else decide (x<y):=rfl
theorem YM:za [] []=false:=rfl
theorem WP (y:Int)(ys:List Int):za [] (y::ys)=true:=rfl
theorem WQ (x:Int)(xs:List Int):za (x::xs) []=false:=rfl
theorem Gp (A:Around)(s:Shared)(a:Int)(t:Tok)(c:Int)(u:Tok): ∃e,SeqAt.EqAt A s (.int a t) (.int c u) e/\(e=true↔a=c):=
 ⟨(a==c),SeqAt.EqAt.int_int a t c u,by simp⟩
theorem Nj (A:Around)(s:Shared)(a:Int)(t:Tok)(c:Int)(u:Tok)(prog:Program)(w:World)(E:Value->Shared->Prop)(Q:Value->Shared->Prop)(h:Q (.bool (decide (a<c))) s):
 wpAny (model prog w) A (richCompare .Lt (.int a t) (.int c u)) Q E s:=
 (G0R h:wpAny (model prog w) A (compareOp .Lt (.int a t) (.int c u)) Q E s)
section
open PySem.SeqAt
open PySem.AutoSeq1 (wpAny_loadPart')
open PySem.MeetsSeq PySem.MeetsSeq2 PySem.MeetsSeq3
theorem vX (l b:Addr)(items items2:Array Value)(n n2:Nat)(dd dd2:Option Addr)(sl sl2:Array (Option Value))(ns ms:List Int)(hi:IntsAre items.toList ns)(hj:IntsAre items2.toList ms):
 Meets (Builtin.«tuple.__lt__» ⟨[.ref l,.ref b],[]⟩)
  (λ_ R s=>s.heap.get? l=some {cls:= .type "tuple",dict:=dd,data:= .seq items n,slots:=sl}/\s.heap.get? b=some {cls:= .type "tuple",dict:=dd2,data:= .seq items2 n2,slots:=sl2}/\
   R (.ok (.ret (.bool (za ns ms)))) s):=
 .of_wp λprog w A R s h=>by
  obtain⟨hp,g,d,tk,os⟩:=s;obtain⟨hl,hb,h⟩:=h;have f2:=AutoSeq1.sub_tuple_tuple;have z1:items.size=ns.length:=by rw [<-hi.length];simp
  have z2:items2.size=ms.length:=by rw [<-hj.length];simp
  wp_walk using wpAny_loadPart' hl,wpAny_loadPart' hb,wpAny_forIn_list _ (λrest b s'=>b.1=none/\s'=⟨hp,g,d,tk,os⟩/\ ∃ (vs ws:List Value) (ns' ms':List Int),rest=vs.zip ws/\
   IntsAre vs ns'/\IntsAre ws ms'/\ns'.length+items2.size=ms'.length+items.size/\R (.ok (.ret (.bool (za ns' ms')))) ⟨hp,g,d,tk,os⟩) _
  case turn=>
   rintro ⟨y,x⟩ rest b s' ⟨hb',rfl,vs,ws,ns',ms',hz,hvi,hwi,hlen,hR⟩;cases hvi with
   |nil=>rw [G0f] at hz;cases hz
   |cons a t hvi'=>
    cases hwi with
    |nil=>rw [List.zip_nil_right] at hz;cases hz
    |cons c u hwi'=>
     rw [U2] at hz;injection hz with hyx hrest
     injection hyx with hy hx
     subst hy hx;rw [Yh] at hR;simp only [D3] at hlen;obtain⟨e,he,hiff⟩:=Gp A.in1 ⟨hp,g,d,tk,os⟩ a t c u;refine wpAny_bind (he prog w _ _ ?_);cases e with
     |true=>
      rw [if_pos (hiff.mp rfl)] at hR
      wp_walk
      exact⟨rfl,rfl,_,_,_,_,hrest,hvi',hwi',by omega,hR⟩
     |false=>
      rw [if_neg (λq=>absurd (hiff.mpr q) P6)] at hR;have hri:=Nj A.in1 ⟨hp,g,d,tk,os⟩ a t c u prog w
      wp_walk using hri
      exact⟨_,rfl,by simpa using hR⟩
  case fin=>
   rintro ⟨b1,b2⟩ s' ⟨hb',rfl,vs,ws,ns',ms',hz,hvi,hwi,hlen,hR⟩;simp only at hb';subst hb';have hv:za ns' ms'=decide (items.size<items2.size):=by
    cases hvi with
    |nil=>
     cases hwi with
     |nil=>
      simp only [S8] at hlen;rw [YM];exact(D6 (by omega)).symm
     |cons c u hw=>
      simp only [S8,D3] at hlen;rw [WP];exact(P0 (by omega)).symm
    |cons a t hv=>
     cases hwi with
     |nil=>
      simp only [S8,D3] at hlen;rw [WQ];exact(D6 (by omega)).symm
     |cons c u hw=>
      rw [U2] at hz;cases hz
   rw [hv] at hR
   wp_walk
   exact⟨_,rfl,by simpa [Builtin.Tuple.tupleCompareSizes] using hR⟩
  case h=>
   exact⟨rfl,rfl,items.toList,items2.toList,ns,ms,rfl,hi,hj,by omega,h⟩
end
section
variable {prog:Program}{w:World}{A:Around}{E:Value->Shared->Prop}{s:Shared}
theorem Pf {l b:Addr}{items items2:Array Value}{ns ms:List Int}{Q:Value->Shared->Prop}(hl:IsTup s.heap l items)(hb:IsTup s.heap b items2)(hi:IntsAre items.toList ns)(hj:IntsAre items2.toList ms)
 (hu:A.units<cLine)(h:Q (.bool (za ns ms)) s):wpAny (model prog w) A (compareOp .Lt (.ref l) (.ref b)) Q E s:=by
 obtain⟨⟨cls,dd,data,sl⟩,ho,hc,n,hd⟩:=id hl;obtain⟨⟨cls2,dd2,data2,sl2⟩,ho2,hc2,n2,hd2⟩:=id hb;simp only at hc hd hc2 hd2;subst hc hd hc2 hd2;exact richCompare_meets_room (op:= .Lt) ⟨_,ho,rfl⟩ ⟨_,ho2,rfl⟩ W0 G0x (G0l _ _) (vX l b items items2 n n2 dd dd2 sl sl2 ns ms hi hj)
  ⟨ho,ho2,show Value.bool (za ns ms)≠Value.notImplemented/\Q (.bool (za ns ms)) s from ⟨(λx=>nomatch x),h⟩⟩ hu
theorem CV {t b:Addr}{vs ws:List Value}{Q:Value->Shared->Prop}(ht:IsTup s.heap t vs.toArray)(hb:IsTup s.heap b ws.toArray)(hv:vs≠ [])
 (h1:ws= []->Q (.ref t) s)(h2:ws≠ []->Q (.ref s.heap.objs.size) {s with heap:=s.heap.push {cls:= .type "tuple",data:= .seq (vs++ws).toArray}})
 (hsz:vs.length+ws.length<=sizeLine):wpAny (model prog w) A (binaryOp .Add (.ref t) (.ref b)) Q E s:=by
 obtain⟨⟨cls,dd,data,sl⟩,ho,hc,n,hd⟩:=id ht;obtain⟨⟨cls2,dd2,data2,sl2⟩,ho2,hc2,n2,hd2⟩:=id hb;simp only at hc hd hc2 hd2;subst hc hd hc2 hd2;have e:vs.toArray++ws.toArray=(vs++ws).toArray:=by simp
 by_cases hw:ws= []
 ·exact concat_meets ⟨_,ho,rfl⟩ ⟨_,ho2,rfl⟩ G0r seq_tuple_add V1 U3 (Q6 _ _)
   (tuple_addW1 t b vs.toArray ws.toArray n n2 dd dd2 sl sl2 (by simpa using hv) (by simp [hw])) ⟨ho,ho2,h1 hw⟩
 ·refine concat_meets ⟨_,ho,rfl⟩ ⟨_,ho2,rfl⟩ G0r seq_tuple_add V1 U3 (Q6 _ _)
   (tuple_addW2 t b vs.toArray ws.toArray n n2 dd dd2 sl sl2 (by simpa using hv) (by simpa using hw) (by rw [D0,D0];exact hsz)) ⟨ho,ho2,?_⟩
  rw [e];exact h2 hw
def sIx (n d:Nat):Option Int->Nat
 |none=>d
 |some v=>if v<0 then (v+(n:Int)).toNat else min v.toNat n
theorem OZ (n d:Nat)(hd:d<=n)(o:Option Int):sIx n d o<=n:=by
 cases o with
 |none=>exact hd
 |some v=>
  show (if v<0 then (v+(n:Int)).toNat else min v.toNat n)<=n
  by_cases hv:v<0
  ·rw [if_pos hv];omega
  ·rw [if_neg hv];exact W5 _ _
theorem DA (v:Int)(n d:Nat):(if v<0 then max (v+(n:Int)) 0 else min v (n:Int))=((sIx n d (some v):Nat):Int):=by
 show (if v<0 then max (v+(n:Int)) 0 else min v (n:Int))=(((if v<0 then (v+(n:Int)).toNat else min v.toNat n):Nat):Int)
 by_cases hv:v<0
 ·simp only [if_pos hv];omega
 ·simp only [if_neg hv];omega
theorem Pg (lo hi:Option Int)(n:Nat):Builtin.Slice.sliceAdjust lo hi 1 (n:Int)=(((sIx n 0 lo:Nat):Int),((sIx n n hi:Nat):Int)):=by
 have h1: ¬ ((1:Int)<0):=by omega
 unfold Builtin.Slice.sliceAdjust;simp only [h1,G03];refine Prod.ext ?_ ?_
 ·cases lo with
  |none=>rfl
  |some v=>exact DA v n 0
 ·cases hi with
  |none=>rfl
  |some v=>exact DA v n n
theorem Ph (i j:Nat):Builtin.Slice.slicePlaces (i:Int) (j:Int) 1=j-i:=by
 unfold Builtin.Slice.slicePlaces;have h1:(1:Int)>0:=by omega
 simp only [h1,if_true,Int.ediv_one];split<;>omega
theorem Yi {v:Value}{o:Option Int}{Q:Option Int->Shared->Prop}(p:IsPart v o)(h:Q o s):wpAny (model prog w) A (Builtin.Slice.slicePartIndex v) Q E s:=by
 cases p with
 |none=>exact slicePart_none h
 |int i t=>exact slicePart_int h
theorem yn {sl:Addr}{vl vu:Value}{lo hi:Option Int}{n:Nat}{Q:Int×Int×Nat->Shared->Prop}(hs:s.heap.IsSliceOf sl vl vu .none)(pl:IsPart vl lo)(pu:IsPart vu hi)
 (h:Q (((sIx n 0 lo:Nat):Int),1,sIx n n hi-sIx n 0 lo) s):wpAny (model prog w) A (Builtin.Slice.sliceApplied (.ref sl) (pure (n:Int))) Q E s:=by
 obtain⟨os,hos,hcs,hds⟩:=id hs;unfold Builtin.Slice.sliceApplied Builtin.Slice.sliceFields;refine wpAny_bind (wpAny_bind (wpAny_field hos hds (x:=vl) rfl (wpAny_bind (wpAny_field hos hds (x:=vu) rfl (wpAny_bind (wpAny_field hos hds (x:= .none) rfl (P1 ?_)))))));refine wpAny_bind (slicePart_none ?_);show wpAny _ _ (if ((1:Int)==0)=true then _ else _) _ _ s;rw [if_neg (by decide)];refine wpAny_bind (Yi pl (wpAny_bind (Yi pu (wpAny_bind (P1 ?_)))));show wpAny _ _ (match Builtin.Slice.sliceAdjust lo hi 1 (n:Int) with|(lo,hi)=>pure (lo,(1:Int),Builtin.Slice.slicePlaces lo hi 1)) _ _ s;rw [Pg lo hi n];show wpAny _ _ (pure (((sIx n 0 lo:Nat):Int),(1:Int),Builtin.Slice.slicePlaces ((sIx n 0 lo:Nat):Int) ((sIx n n hi:Nat):Int) 1)) _ _ s;rw [Ph];exact P1 h
theorem Nk (xs:Array Value)(i k:Nat):((List.range k).filterMap λ(m:Nat)=>xs[((i:Int)+(m:Int)*1).toNat]?).toArray=((xs.toList.drop i).take k).toArray:=by
 have e:(λ(m:Nat)=>xs[((i:Int)+(m:Int)*1).toNat]?)=λm=>xs[i+m]? :=by
  funext m
  have:((i:Int)+(m:Int)*1).toNat=i+m:=by omega
  rw [this]
 rw [e];have:=pick_run xs i k;rw [List.filterMap_map] at this;have e2:((λx=>xs[x]?)∘λx=>i+x)=λm=>xs[i+m]? :=rfl
 rw [e2] at this;rw [this]
theorem Jt {t sl:Addr}{items:Array Value}{vl vu:Value}{lo hi:Option Int}{Q:Value->Shared->Prop}(ht:IsTup s.heap t items)(hs:s.heap.IsSliceOf sl vl vu .none)(pl:IsPart vl lo)(pu:IsPart vu hi)
 (hw: ¬ (sIx items.size 0 lo=0/\sIx items.size items.size hi=items.size))
 (h:Q (.ref s.heap.objs.size) {s with heap:=s.heap.push {cls:= .type "tuple",data:= .seq ((items.toList.drop (sIx items.size 0 lo)).take (sIx items.size items.size hi-sIx items.size 0 lo)).toArray}})
 (hsz:items.size<=sizeLine):wpAny (model prog w) A (getItem (.ref t) (.ref sl)) Q E s:=by
 have htake:sizeOk (.seq ((items.toList.drop (sIx items.size 0 lo)).take (sIx items.size items.size hi-sIx items.size 0 lo)).toArray):=by
  show ((items.toList.drop (sIx items.size 0 lo)).take (sIx items.size items.size hi-sIx items.size 0 lo)).toArray.size<=sizeLine;rw [D0,R1,T0,T4];omega
 have hj:sIx items.size items.size hi<=items.size:=OZ _ _ (G9 _) hi;obtain⟨os,hos,hcs,hds⟩:=id hs;have hTs:s.TypeIs (.ref sl) "slice" :=⟨os,hos,hcs⟩;unfold getItem
 try with_reducible refine F9 ?_
 first|refine wpAny_bind (P1 ?_)|skip
 refine wpAny_bind (wpAny_sequenceKey ht.typeIs (by decide) ?_);refine wpAny_bind (C1 (name:=Str.ofString "__getitem__") ht.typeIs F4
  (C7 F4 ht.typeIs entry_tuple_getitem ?_ (args_tuple_getitem _ _)))
 show wpAny _ _ (Builtin.Tuple.tupleItemsOf (.ref t) >>= _) _ _ s;refine wpAny_bind (tupleItemsOf_ ht ?_);refine wpAny_bind (wpAny_typeOf hTs ?_);rw [if_pos (by decide)];refine wpAny_bind (yn hs pl pu ?_);have hno: ¬ ((((sIx items.size 0 lo:Nat):Int)==0&&(1:Int)==1&&(sIx items.size items.size hi-sIx items.size 0 lo)==items.size)=true):=by
  intro q;rw [T1,T1] at q;have q1:((sIx items.size 0 lo:Nat):Int)=0:=eq_of_beq q.1.1;have q2:sIx items.size items.size hi-sIx items.size 0 lo=items.size:=eq_of_beq q.2;exact hw ⟨by omega,by omega⟩
 show wpAny _ _ (if (((sIx items.size 0 lo:Nat):Int)==0&&(1:Int)==1&&(sIx items.size items.size hi-sIx items.size 0 lo)==items.size)=true then _ else _) _ _ s;rw [if_neg hno,Nk]
 first
  |exact wpAny_bind (m:=Builtin.Tuple.tupleExact _) (A8 (P1 ⟨_,rfl,P1 h⟩) htake)
  |exact wpAny_bind (m:=Builtin.Tuple.tupleExact _) (A8 (wpAny_bind (P1 (P1 ⟨_,rfl,P1 h⟩))) htake)
  |exact wpAny_bind (wpAny_bind (m:=Builtin.Tuple.tupleExact _) (A8 (P1 (P1 ⟨_,rfl,P1 h⟩)) htake))
  |exact wpAny_bind (wpAny_bind (m:=Builtin.Tuple.tupleExact _) (A8 (P1 ⟨_,rfl,P1 h⟩) htake))
end
end HT
namespace L2
open PySem PySem.Spec PyProof.Rows
abbrev TO:=St->Hp->(Option Int->Hp->Prop)->Prop
def PO (X:Cx)(e:Option Expr)(t:TO):Prop:=
 ∀ (pins:List (Addr×Obj)) (s:Shared) (σ:St) (H:Hp) (Q:Option Int->Hp->Prop),Inv X pins σ H s->t σ H Q->
  wpAny (model X.prog X.w) X.A (evalPart e X.env) (λu s'=> ∃o H',Inv X pins σ H' s'/\IsPart u o/\Q o H') X.xe s
def CW:TO:=λ_ H Q=>Q none H
def SF (t:TE):TO:=λσ H Q=>t σ H λx H1=> ∃i,x= .int i/\Q (some i) H1
section
variable {X:Cx}{e:Expr}{te:TE}{lo hi:Option Expr}{tl th:TO}{pos p2:Pos}
theorem po_none:PO X none CW:=by
 intro pins s σ H Q I h;rw [evalPart_none];exact P1 ⟨none,H,I,.none,h⟩
theorem CY (h:PE X e te):PO X (some e) (SF te):=by
 intro pins s σ H Q I hw;rw [evalPart_some];refine thn (h pins s σ H _ I hw) λu s1 ⟨x,H1,I1,r1,q1⟩=> ?_
 obtain⟨i,rfl,q⟩:=q1;obtain⟨t,rfl⟩:=r1;exact⟨some i,H1,I1,.int i t,q⟩
def SlR (X:Cx)(r:V->Option Int->Option Int->Hp->VK->Prop):Prop:=
 ∀ (pins:List (Addr×Obj)) (s:Shared) (σ:St) (H:Hp) (x:V) (v vl vu:Value) (lo hi:Option Int) (sl:Addr) (Q:VK),Inv X pins σ H s->RelV x v->s.heap.IsSliceOf sl vl vu .none->IsPart vl lo->IsPart vu hi->r x lo hi H Q->
  ∃T id,typeLookup (.type T) "__getitem__" =pure (some (.builtin id))/\s.TypeIs v T/\wpAny (model X.prog X.w) X.A (getItem v (.ref sl)) (EP X pins σ Q) X.xe s
theorem SlR.or {r r':V->Option Int->Option Int->Hp->VK->Prop}(h:SlR X r)(h':SlR X r'):SlR X (λx lo hi H Q=>r x lo hi H Q\/r' x lo hi H Q):=by
 intro pins s σ H x v vl vu lo hi sl Q I rx hs pl pu q;rcases q with q|q
 ·exact h pins s σ H x v vl vu lo hi sl Q I rx hs pl pu q
 ·exact h' pins s σ H x v vl vu lo hi sl Q I rx hs pl pu q
def tSl (r:V->Option Int->Option Int->Hp->VK->Prop)(te:TE)(tl th:TO):TE:=λσ H Q=>te σ H λx H1=>tl σ H1 λl H2=>th σ H2 λu H3=>r x l u H3 Q
theorem Nl {r:V->Option Int->Option Int->Hp->VK->Prop}(hr:SlR X r)(he:PE X e te)(hl:PO X lo tl)(hu:PO X hi th):PE X (.Subscript e (.Slice lo hi none p2) pos) (tSl r te tl th):=by
 intro pins s σ H Q I h;refine Subscript_ (thn (he pins s σ H _ I h) λv s1 ⟨x,H1,I1,r1,q1⟩=> ?_);refine wpAny_Slice (thn (hl pins s1 σ H1 _ I1 q1) λvl s2 ⟨l,H2,I2,pl,q2⟩=>thn (hu pins s2 σ H2 _ I2 q2) λvu s3 ⟨u,H3,I3,pu,q3⟩=> ?_);rw [evalPart_none];refine P1 ?_;have I4:Inv X pins σ H3 {s3 with heap:=s3.heap.push {cls:= .type "slice",data:= .fields #[vl,vu,.none]}}:=I3.kept (t':=s3.toks) λb ob q=>G2 _ q
 obtain⟨T,id,hT,ht,hg⟩:=hr pins {s3 with heap:=s3.heap.push {cls:= .type "slice",data:= .fields #[vl,vu,.none]}} σ H3 x v vl vu l u s3.heap.objs.size Q I4 r1 (Heap.IsSliceOf.new ..) pl pu q3;show wpAny (model X.prog X.w) X.A (subscriptTail e (.Slice lo hi none p2) v (.ref s3.heap.objs.size)) (EP X pins σ Q) X.xe {s3 with heap:=s3.heap.push {cls:= .type "slice",data:= .fields #[vl,vu,.none]}};exact tail_any (ops:= [.ref s3.heap.objs.size,v]) ht hT hg (by with_unfolding_all rfl)
def MQ (xs:List V)(lo hi:Option Int):List V:=(xs.drop (HT.sIx xs.length 0 lo)).take (HT.sIx xs.length xs.length hi-HT.sIx xs.length 0 lo)
theorem ZN (xs:List V)(lo hi:Option Int):(MQ xs lo hi).length<=xs.length:=by
 unfold MQ;rw [R1,T0];omega
def HF (K:PySem.W.Frag):V->Option Int->Option Int->Hp->VK->Prop:=λx lo hi H Q=> ∃a xs,x= .ref a/\SqT K H a xs/\
 ¬ (HT.sIx xs.length 0 lo=0/\HT.sIx xs.length xs.length hi=xs.length)/\ ∀p,H p=none->Q (.ref p) (upd H p (.tup (MQ xs lo hi)))
theorem sl_tup:SlR X (HF X.K):=by
 intro pins s σ H x v vl vu lo hi sl Q I rx hs pl pu h;obtain⟨a,xs,rfl,hx,hw,q⟩:=h;cases rx;obtain⟨its,r,ht,hz⟩:=I.tuple hx;have hlen:its.toArray.size=xs.length:=by rw [D0];exact r.length.symm
 refine⟨"tuple",_,PyProof.Rows.slot_tuple_getitem.lookup,ht.typeIs,?_⟩;refine HT.Jt ht hs pl pu (by rw [hlen];exact hw) ?_ (by rw [hlen];exact hz);rw [hlen];refine⟨.ref s.heap.objs.size,_,I.laid (t':=s.toks) (o:= .tup (MQ xs lo hi)) (λb ob q=>G2 _ q) (G9 _) ?_,rfl,q _ (I.hok.fresh (G9 _))⟩;exact⟨D7 (ZN xs lo hi) hz,_,(r.drop (HT.sIx xs.length 0 lo)).take (HT.sIx xs.length xs.length hi-HT.sIx xs.length 0 lo),IsTupN.new _ _⟩
def SG (K:PySem.W.Frag):R2:=λx y H Q=> ∃a b xs ys,x= .ref a/\y= .ref b/\SqT K H a xs/\SqT K H b ys/\xs≠ []/\xs.length+ys.length<=sizeLine/\
 (ys= []->Q (.ref a) H)/\(ys≠ []-> ∀p,H p=none->Q (.ref p) (upd H p (.tup (xs++ys))))
theorem Vals.nil_iff {xs:List V}{us:List Value}(r:Vals xs us):us= []↔xs= []:=by
 cases r with
 |nil=>simp
 |cons _ _=>simp
theorem op_catT:OpR X (binaryOp .Add) (SG X.K):=by
 intro pins s σ H x y v u Q I rx ry h;obtain⟨a,b,xs,ys,rfl,rfl,ha,hb,hx,hz,q1,q2⟩:=h;cases rx;cases ry;obtain⟨its,r1,p1,_⟩:=I.tuple ha;obtain⟨its2,r2,p2,_⟩:=I.tuple hb;refine HT.CV p1 p2 (λz=>hx (r1.nil_iff.mp z)) (λz=>⟨.ref a,H,I,rfl,q1 (r2.nil_iff.mp z)⟩) (λz=> ?_) (by rw [<-r1.length,<-r2.length];exact hz);refine⟨.ref s.heap.objs.size,_,I.laid (t':=s.toks) (o:= .tup (xs++ys)) (λb ob q=>G2 _ q) (G9 _) ?_,rfl,q2 (λw=>z (r2.nil_iff.mpr w)) _ (I.hok.fresh (G9 _))⟩;exact⟨by rw [G3];exact hz,_,r1.append r2,IsTupN.new _ _⟩
end
def ixN (n:Nat)(i:Int):Option Nat:=if 0<=i then (if i<n then some i.toNat else none) else if-(n:Int)<=i then some (i+n).toNat else none
def atI {α:Type}(xs:List α)(i:Int):Option α:=(ixN xs.length i).bind λj=>xs[j]?
theorem DB {n:Nat}{i:Int}{j:Nat}(h:ixN n i=some j):seqIndex? i n=some j/\j<n/\ -(n:Int)<=i/\i<n:=by
 unfold ixN at h
 by_cases h0:0<=i
 ·rw [if_pos h0] at h
  by_cases h1:i<n
  ·rw [if_pos h1] at h;have e:i.toNat=j:=M5 h;exact⟨by rw [seqIndex_of h0 h1,e],by omega,by omega,h1⟩
  ·rw [if_neg h1] at h;cases h
 ·rw [if_neg h0] at h
  by_cases h1: -(n:Int)<=i
  ·rw [if_pos h1] at h;have e:(i+n).toNat=j:=M5 h;exact⟨by rw [seqIndex_neg (by omega) h1,e],by omega,h1,by omega⟩
  ·rw [if_neg h1] at h;cases h
theorem XG {α:Type}{xs:List α}{i:Int}{v:α}(h:atI xs i=some v): ∃j,seqIndex? i xs.length=some j/\xs[j]? =some v/\j<xs.length/\ -(xs.length:Int)<=i/\i<xs.length:=by
 unfold atI at h;cases e:ixN xs.length i with
 |none=>rw [e] at h;cases h
 |some j=>
  rw [e] at h;obtain⟨h1,h2,h3,h4⟩:=DB e;exact⟨j,h1,h,h2,h3,h4⟩
theorem wE {α:Type}{xs:List α}{j:Nat}{v:α}(h:xs[j]? =some v):atI xs (j:Int)=some v:=by
 have hj:j<xs.length:=(G7.mp h).1;have e:ixN xs.length (j:Int)=some j:=by
  unfold ixN;rw [if_pos (by omega),if_pos (by omega)];simp
 unfold atI;rw [e];exact h
def XH (b:Expr):Prop:= ∀o i,subscripted b false o i=operate [o,i] (getItem o i)
def IxR (X:Cx)(r:R2):Prop:=
 ∀ (value slice:Expr) (pins:List (Addr×Obj)) (s:Shared) (σ:St) (H:Hp) (x y:V) (v u:Value) (Q:VK),Inv X pins σ H s->RelV x v->RelV y u->r x y H Q->
  subscripted slice false v u=operate [v,u] (getItem v u)->wpAny (model X.prog X.w) X.A (subscriptTail value slice v u) (EP X pins σ Q) X.xe s
def MtR (X:Cx)(id:String)(r:V->List V->Hp->VK->Prop):Prop:=
 ∀ (pins:List (Addr×Obj)) (s:Shared) (σ:St) (H:Hp) (x:V) (xs:List V) (v:Value) (us:List Value) (Q:VK),Inv X pins σ H s->RelV x v->Vals xs us->r x xs H Q->
  wpAny (model X.prog X.w) X.A (call (.builtin id) (v::us)) (EP X pins σ Q) X.xe s
section
variable {X:Cx}{a b:Expr}{ta tb:TE}{pos:Pos}
theorem IxR.or {r r':R2}(h:IxR X r)(h':IxR X r'):IxR X (λx y H Q=>r x y H Q\/r' x y H Q):=by
 intro value slice pins s σ H x y v u Q I rx ry q hs;rcases q with q|q
 ·exact h value slice pins s σ H x y v u Q I rx ry q hs
 ·exact h' value slice pins s σ H x y v u Q I rx ry q hs
theorem SH {r:R2}(hr:IxR X r)(ha:PE X a ta)(hb:PE X b tb)(hs:XH b):PE X (.Subscript a b pos) (tOp r ta tb):=by
 intro pins s σ H Q I h;exact Subscript_ (Sw ha hb I h λv u s2 x y H2 I2 rx ry q=>hr a b pins s2 σ H2 x y v u Q I2 rx ry q (hs _ _))
def Hd (K:PySem.W.Frag):R2:=λx y H Q=> ∃p xs i v,x= .ref p/\y= .int i/\SqL K H p xs/\atI xs i=some v/\Q v H
def He (K:PySem.W.Frag):R2:=λx y H Q=> ∃p xs i v,x= .ref p/\y= .int i/\SqT K H p xs/\atI xs i=some v/\Q v H
def Hf:R2:=λx y H Q=> ∃z i c,x= .str z/\y= .int i/\z.length<=sizeLine/\atI z.cps.toList i=some c/\Q (.str ⟨#[c]⟩) H
theorem ix_list:IxR X (Hd X.K):=by
 intro value slice pins s σ H x y v u Q I rx ry h hs;obtain⟨p,xs,i,z,rfl,rfl,hq,he,q⟩:=h;cases rx;obtain⟨t,rfl⟩:=ry;obtain⟨its,r,pl,hz⟩:=I.list hq;obtain⟨j,h1,h2,h3,h4,h5⟩:=XG he;obtain⟨w,ew,rw'⟩:=r.get h2;have hl:=r.length;have hn:=VZ;have fin:EP X pins σ Q w s:=⟨z,H,I,rw',q⟩
 by_cases h0:0<=i
 ·have hj:i.toNat=j:=by
   rw [seqIndex_of h0 h5] at h1;exact M5 h1
  exact item_listR pl.isList h0 (by omega) (by rw [hj];simpa using ew) fin hs
 ·have hj:(i+(its.toArray.size:Int)).toNat=j:=by
   rw [seqIndex_neg (by omega) h4] at h1;rw [D0,<-hl];exact M5 h1
  exact subscriptTail_builtinR (x:=w) pl.isList.typeIs slot_list_getitem.lookup
   (wpAny_getItem_list_neg (Q:=λr s'=>r=w/\EP X pins σ Q r s') pl.isList (by omega) (by rw [D0]<;>omega) (by omega) (by rw [hj];simpa using ew) ⟨rfl,fin⟩) hs
theorem ix_tup:IxR X (He X.K):=by
 intro value slice pins s σ H x y v u Q I rx ry h hs;obtain⟨p,xs,i,z,rfl,rfl,hq,he,q⟩:=h;cases rx;obtain⟨t,rfl⟩:=ry;obtain⟨its,r,pl,hz⟩:=I.tuple hq;obtain⟨j,h1,h2,h3,h4,h5⟩:=XG he;obtain⟨w,ew,rw'⟩:=r.get h2;have hl:=r.length;have hn:=VZ;have fin:EP X pins σ Q w s:=⟨z,H,I,rw',q⟩;exact subscriptTail_builtinR (x:=w) pl.typeIs slot_tuple_getitem.lookup
  (getItem_tuple (j:=j) (Q:=λr s'=>r=w/\EP X pins σ Q r s') pl (by omega) (by omega) (by rw [D0,<-hl];exact h1) (by simpa using ew) ⟨rfl,fin⟩) hs
theorem Aa:IxR X Hf:=by
 intro value slice pins s σ H x y v u Q I rx ry h hs;obtain⟨z,i,c,rfl,rfl,hz,he,q⟩:=h;obtain⟨t,rfl⟩:=rx;obtain⟨t',rfl⟩:=ry;obtain⟨j,h1,h2,h3,h4,h5⟩:=XG he;have hl:z.cps.toList.length=z.length:=by simp [Str.length]
 rw [hl] at h1 h4 h5;have hn:=VZ;exact tail_any (typeIs_str s z t) slot_str_getitem.lookup (getItem_str (c:=c) (by
  have e1:decide (i< -(2^63:Int))=false:=D6 (by omega);have e2:decide (i>=2^63)=false:=D6 (by omega);rw [e1,e2,Bool.or_false]) (by rw [h1];simpa using h2) ⟨.str ⟨#[c]⟩,H,I.tok _,⟨_,rfl⟩,q⟩) hs
def rIx (K:PySem.W.Frag):R2:=λx y H Q=>Hd K x y H Q\/He K x y H Q\/Hf x y H Q
theorem Ab:IxR X (rIx X.K):=ix_list.or (ix_tup.or Aa)
theorem Pi (its:List Value)(n j:Nat)(u:Value):Obj.mapSeq (·.setIfInBounds j u) {cls:= .type "list",data:= .seq its.toArray n}= {cls:= .type "list",data:= .seq (its.set j u).toArray n}:=by
 simp [Obj.mapSeq]
theorem Inv.lst {pins:List (Addr×Obj)}{σ:St}{H:Hp}{s:Shared}{p:Addr}{xs:List V}(I:Inv X pins σ H s)(h:H p=some (.lst xs)):
 ∃ (its:List Value) (n:Nat),Vals xs its/\s.heap.get? p=some {cls:= .type "list",data:= .seq its.toArray n}/\xs.length<=sizeLine:=by
 obtain⟨z,its,n,r,e⟩:=I.hok p _ h;exact⟨its,n,r,e,z⟩
theorem Inv.lstUpd {pins:List (Addr×Obj)}{σ:St}{H:Hp}{s:Shared}{p:Addr}{xs ys:List V}{its its':List Value}{n n':Nat}{f:Obj->Obj}(I:Inv X pins σ H s)(h:H p=some (.lst xs))
 (ho:s.heap.get? p=some {cls:= .type "list",data:= .seq its.toArray n})(hf:f {cls:= .type "list",data:= .seq its.toArray n}= {cls:= .type "list",data:= .seq its'.toArray n'})(r:Vals ys its')(hz:ys.length<=sizeLine)(t:Nat):
 Inv X pins σ (upd H p (.lst ys)) {s with heap:=s.heap.update p f,toks:=t}:=by
 have e:(s.heap.update p f).get? p=some {cls:= .type "list",data:= .seq its'.toArray n'}:=by
  rw [J5 f ho (by rw [hf]<;>rfl),hf]
 refine I.write (x:=p) (e:=p) (by rw [h];trivial) (.inl rfl) (λb u hb q=>(Heap.get?_update_other _ _ (Ne.symm hb)).trans q) ⟨_,e⟩ ?_;exact⟨hz,its',n',r,e⟩
def SI:V->V->V->Hp->(Hp->Prop)->Prop:=λo i v H Q=> ∃p xs k j,o= .ref p/\i= .int k/\H p=some (.lst xs)/\ixN xs.length k=some j/\Q (upd H p (.lst (xs.set j v)))
theorem Nm:TQ X SI:=by
 intro pins s σ H o i v ov iv u Q I ro ri rv h;obtain⟨p,xs,k,j,rfl,rfl,hp,hj,q⟩:=h;cases ro;obtain⟨t,rfl⟩:=ri;obtain⟨its,n,r,ho,hz⟩:=I.lst hp;obtain⟨h1,h2,h3,h4⟩:=DB hj;have hl:=r.length;have hn:=VZ;have I':Inv X pins σ (upd H p (.lst (xs.set j v))) {s with heap:=s.heap.update p (Obj.mapSeq (·.setIfInBounds j u))}:=
  I.lstUpd hp ho (Pi its n j u) (r.set rv j) (by rw [List.length_set];exact hz) s.toks
 by_cases h0:0<=k
 ·have hk:k.toNat=j:=by
   rw [seqIndex_of h0 h4] at h1;exact M5 h1
  exact PySem.W.ki_setAt ho h0 (by omega) (by rw [D0,<-hl];exact h4) (by rw [hk];exact⟨_,I',q⟩)
 ·have hk:(k+(its.toArray.size:Int)).toNat=j:=by
   rw [seqIndex_neg (by omega) h3] at h1;rw [D0,<-hl];exact M5 h1
  exact PySem.W.ki_setBack ho (by omega) (by rw [D0,<-hl];exact h3) (by omega) (by rw [hk];exact⟨_,I',q⟩)
theorem Ue (lo hi:Option Int)(n:Nat):(sliceBounds lo hi none n).1=((HT.sIx n 0 lo:Nat):Int)/\(sliceBounds lo hi none n).2.1=((HT.sIx n n hi:Nat):Int)/\(sliceBounds lo hi none n).2.2=1:=by
 refine⟨?_,?_,rfl⟩
 ·cases lo with
  |none=>simp [sliceBounds,HT.sIx]
  |some i=>
   simp only [sliceBounds,HT.sIx,Option.getD_none,show (1:Int)>0 by decide,if_true]
   by_cases h:i<0
   ·simp only [h,if_true]<;>omega
   ·simp only [h,G03]<;>omega
 ·cases hi with
  |none=>simp [sliceBounds,HT.sIx]
  |some i=>
   simp only [sliceBounds,HT.sIx,Option.getD_none,show (1:Int)>0 by decide,if_true]
   by_cases h:i<0
   ·simp only [h,if_true]<;>omega
   ·simp only [h,G03]<;>omega
theorem YN (its:List Value)(lo hi:Option Int):slicePick its.toArray lo hi none=((its.drop (HT.sIx its.length 0 lo)).take (HT.sIx its.length its.length hi-HT.sIx its.length 0 lo)).toArray:=by
 obtain⟨h1,h2,h3⟩:=Ue lo hi its.toArray.size;unfold slicePick;rw [h1,h2,h3];simp only [sliceRange_one,pick_run,D0]<;>rfl
def HG (K:PySem.W.Frag):V->Option Int->Option Int->Hp->VK->Prop:=λx lo hi H Q=> ∃a xs,x= .ref a/\SqL K H a xs/\ ∀p,H p=none->Q (.ref p) (upd H p (.lst (MQ xs lo hi)))
theorem CZ:SlR X (HG X.K):=by
 intro pins s σ H x v vl vu lo hi sl Q I rx hs pl pu h;obtain⟨a,xs,rfl,hx,q⟩:=h;cases rx;obtain⟨its,r,ht,hz⟩:=I.list hx;have hlen:=r.length;refine⟨"list",_,slot_list_getitem.lookup,ht.isList.typeIs,?_⟩;refine wpAny_getItem_list_slice ht.isList hs pl pu .none (by simp) ?_ (by rw [D0]<;>omega);rw [YN,<-hlen];refine⟨.ref s.heap.objs.size,_,I.laid (t':=s.toks) (o:= .lst (MQ xs lo hi)) (λb ob q=>G2 _ q) (G9 _) ?_,rfl,q _ (I.hok.fresh (G9 _))⟩;exact⟨D7 (ZN xs lo hi) hz,_,0,(r.drop (HT.sIx xs.length 0 lo)).take (HT.sIx xs.length xs.length hi-HT.sIx xs.length 0 lo),R3 _ rfl⟩
theorem call_len_seq:CallR X (.builtin "len") (λxs H Q=> ∃p ys,xs= [.ref p]/\(SqL X.K H p ys\/SqT X.K H p ys)/\Q (.int ys.length) H):=by
 intro pins s σ H xs us Q I r h;obtain⟨p,ys,rfl,hq,q⟩:=h;obtain⟨u,rfl,rx⟩:=YL r;cases rx;have hn:=VZ;rcases hq with hq|hq
 ·obtain⟨its,r',pl,hz⟩:=I.list hq;have hlen:=r'.length;exact Calls.call_len_list pl.isList (by simp only [D0]<;>omega) ⟨.int ys.length,H,I.tok _,⟨s.toks+1,by rw [D0,hlen]⟩,q⟩
 ·obtain⟨its,r',pl,hz⟩:=I.tuple hq;have hlen:=r'.length;exact len_tuple pl (by simp only [D0]<;>omega) ⟨.int ys.length,H,I.tok _,⟨s.toks+1,by rw [D0,hlen]⟩,q⟩
theorem call_tuple_of:CallR X (.type "tuple") (λxs H Q=> ∃p ys,xs= [.ref p]/\((SqL X.K H p ys/\ ∀l,H l=none->Q (.ref l) (upd H l (.tup ys)))\/(SqT X.K H p ys/\Q (.ref p) H))):=by
 intro pins s σ H xs us Q I r h;obtain⟨p,ys,rfl,h⟩:=h;obtain⟨u,rfl,rx⟩:=YL r;cases rx;rcases h with ⟨hq,q⟩|⟨hq,q⟩
 ·obtain⟨its,r',pl,hz⟩:=I.list hq;have hlen:=r'.length;refine call_tuple_list pl.isList (λh' kp=> ?_) (by simp only [D0]<;>omega);have I1:Inv X pins σ H {s with heap:=h'}:=I.kept (t':=s.toks) kp;have I2:Inv X pins σ (upd H h'.objs.size (.tup ys)) {s with heap:=h'.push {cls:= .type "tuple",data:= .seq its.toArray}}:=
   I1.laid (t':=s.toks) (λb o e=>G2 _ e) (G9 _) (show ObjOk X.prog X.w _ _ _ (.tup ys) from ⟨hz,its,r',IsTupN.new _ _⟩)
  exact⟨.ref h'.objs.size,_,I2,rfl,q _ (I1.hok.fresh (G9 _))⟩
 ·obtain⟨its,r',pl,hz⟩:=I.tuple hq;exact call_tuple_same pl ⟨.ref p,H,I,rfl,q⟩
def tyV (K:PySem.W.Frag)(T:String)(x:V)(H:Hp):Prop:=match x with
 | .str _=>T= "str"
 | .int _=>T= "int"
 | .ref p=>(T= "list" /\ ∃xs,SqL K H p xs)\/(T= "tuple" /\ ∃o,K.lookup p=some o/\o.cls= .type "tuple" /\o.dict=none)\/
  (T= "dict" /\((∃kvs,H p=some (.dK kvs))\/ ∃kvs,H p=some (.dT kvs)))\/(T= "set" /\ ∃S n,H p=some (.set S n))
 |_=>False
theorem Ac {pins:List (Addr×Obj)}{σ:St}{H:Hp}{s:Shared}{T:String}{x:V}{v:Value}(I:Inv X pins σ H s)(r:RelV x v)(ty:tyV X.K T x H):
 s.TypeIs v T/\ ∀a,v= .ref a-> ∃ob,s.heap.get? a=some ob/\ob.dict=none:=by
 cases x with
 |str z=>
  obtain⟨t,rfl⟩:=r;cases (show T= "str" from ty);exact⟨typeIs_str s z t,λ_ e=>nomatch e⟩
 |int i=>
  obtain⟨t,rfl⟩:=r;cases (show T= "int" from ty);exact⟨G0H s i t,λ_ e=>nomatch e⟩
 |ref p=>
  cases r;rcases ty with ⟨rfl,xs,hq⟩|⟨rfl,o,hk,hc,hd⟩|⟨rfl,hk⟩|⟨rfl,S,n,hk⟩
  ·obtain⟨its,_,pl,_⟩:=I.list hq;refine⟨pl.isList.typeIs,λa e=> ?_⟩;cases e;obtain⟨o,n,e,c,hd,_⟩:=pl;exact⟨o,e,hd⟩
  ·refine⟨⟨o,I.kIn p o hk,hc⟩,λa e=> ?_⟩;cases e;exact⟨o,I.kIn _ o hk,hd⟩
  ·have z: ∃o,s.heap.get? p=some o/\o.ExactDict:=by
    rcases hk with ⟨kvs,hk⟩|⟨kvs,hk⟩
    ·obtain⟨_,_,_,_,o,_,_,e,ex,_⟩:=I.hok p _ hk;exact⟨o,e,ex⟩
    ·obtain⟨_,_,_,_,o,_,_,e,ex,_⟩:=I.hok p _ hk;exact⟨o,e,ex⟩
   obtain⟨o,e,ex⟩:=z;refine⟨⟨o,e,ex.1⟩,λa e2=> ?_⟩;cases e2;exact⟨o,e,ex.2.1⟩
  ·obtain⟨o,_,_,_,e,ex,_⟩:=I.hok p _ hk;refine⟨⟨o,e,ex.1⟩,λa e2=> ?_⟩;cases e2;exact⟨o,e,ex.2.1⟩
 |_=>exact False.elim ty
def tBM (K:PySem.W.Frag)(T:String)(r:V->List V->Hp->VK->Prop)(to:TE)(t:TA):TE:=λσ H Q=>to σ H λx H1=>tyV K T x H1/\t σ H1 λxs H2=>r x xs H2 Q
variable {o e:Expr}{es:List Expr}{to:TE}{t:TA}{name:Str}{apos cpos:Pos}{T id:String}{r:V->List V->Hp->VK->Prop}
theorem Ad (pa:PlainAttrs T)(slot:Slot T name id)(hty:typeOf (.builtin id)=pure (.type "method_descriptor"))(hm:MtR X id r)(ho:PE X o to)(ha:PA X (e::es) t)
 (hbase:attributeBase o name X.env (eval o X.env)=eval o X.env:=by rfl)
 (hfew:((backTo cpos (starEach (e::es) X.env)).all (λx=> !x.1)&&(backToKw cpos (keywordEach [] X.env)).all (λx=>x.1.isSome)
  &&decide ((e::es).length+([]:List Keyword).length+(if ([]:List Keyword).isEmpty then 0 else 1)<30))=true:=by rfl)
 (hline:(apos.endLine==cpos.line)=true:=by rfl)(hs:starEach (e::es) X.env=(false,eval e X.env)::starEach es X.env:=by rfl)(hplain:(backTo cpos (starEach es X.env)).any (·.1)=false:=by rfl):
 PE X (.Call (.Attribute o name apos) (e::es) [] cpos) (tBM X.K T r to t):=by
 intro pins s σ H Q I h;refine wpAny_Call_method_late hbase hfew hline rfl (thn (ho pins s σ H _ I h) λv s1 ⟨x,H1,I1,r1,ty,q1⟩=> ?_);obtain⟨h1,h2⟩:=Ac I1 r1 ty;refine⟨T,id,pa,slot,hty,h1,h2,?_⟩;have hA:=ha cpos pins s1 σ H1 _ I1 q1;rw [hs] at hA ⊢;refine Calls.callWith_builtin (by show (false||(backTo cpos (starEach es X.env)).any (·.1))=false;rw [hplain]<;>rfl) (Calls.evalArgs_plain ?_);exact thn hA λus s2 ⟨vs,H2,I2,r2,q2⟩=>hm pins s2 σ H2 x vs v us Q I2 r1 r2 q2
end
def MtM (X:Cx)(id:String)(r:V->List V->Hp->VK->Prop):Prop:=
 ∀ (pins:List (Addr×Obj)) (s:Shared) (σ:St) (H:Hp) (x:V) (xs:List V) (v:Value) (us:List Value) (Q:VK),Inv X pins σ H s->RelV x v->Vals xs us->r x xs H Q->
  wpAny (model X.prog X.w) X.A (call (.builtin id) (v::us)) (EP X pins σ Q) X.xe s
theorem Vals.one: ∀ {x:V} {us:List Value},Vals [x] us-> ∃u,us= [u]/\RelV x u
 |_,_,.cons r .nil=>⟨_,rfl,r⟩
theorem Vals.rep {xs:List V}{us:List Value}(h:Vals xs us): ∀k:Nat,Vals (List.replicate k xs).flatten (List.replicate k us).flatten
 |0=> .nil
 |k+1=>by
  rw [F5,F5,E2,E2];exact Vals.append h (Vals.rep h k)
theorem ZO (its:List Value): ∀ (k:Nat) (acc:List Value),
 List.foldl (λx1 x2=>x1++x2) acc.toArray (List.replicate k its.toArray)=(acc++(List.replicate k its).flatten).toArray
 |0,acc=>by simp
 |k+1,acc=>by
  have e:acc.toArray++its.toArray=(acc++its).toArray:=by simp
  have e2:(acc++its)++(List.replicate k its).flatten=acc++(List.replicate (k+1) its).flatten:=by
   rw [F5,E2,G8]
  rw [<-e2,<-ZO its k (acc++its),<-e,F5,List.foldl_cons]
section
variable {X:Cx}{pins:List (Addr×Obj)}{σ:St}{H:Hp}{s:Shared}{l b:Addr}{xs ys zs:List V}
theorem Inv.lset {its its':List Value}{n:Nat}{f:Array Value->Array Value}{t':Nat}(I:Inv X pins σ H s)(hH:H l=some (.lst xs))
 (e:s.heap.get? l=some {cls:= .type "list",data:= .seq its.toArray n})(hf:f its.toArray=its'.toArray)(hv:Vals ys its')(hz:ys.length<=sizeLine):
 Inv X pins σ (upd H l (.lst ys)) {s with heap:=s.heap.update l (Obj.mapSeq f),toks:=t'}:=by
 have q:=PySem.IsL.update e f;rw [hf] at q;refine I.write (x:=l) (e:=l) (by rw [hH];exact trivial) (.inl rfl) (λb' u hb hu=>(Heap.get?_update_other s.heap (Obj.mapSeq f) (Ne.symm hb)).trans hu) ⟨_,q⟩ ?_;exact⟨hz,its',_,hv,q⟩
theorem Inv.lnew {its:List Value}{t':Nat}(I:Inv X pins σ H s)(hv:Vals ys its)(hz:ys.length<=sizeLine):
 Inv X pins σ (upd H s.heap.objs.size (.lst ys)) {s with heap:=s.heap.push {cls:= .type "list",data:= .seq its.toArray},toks:=t'}:=
 I.laid (λ_ _ q=>G2 _ q) (G9 _) ⟨hz,its,0,hv,R3 _ rfl⟩
theorem Inv.fresh (I:Inv X pins σ H s):H s.heap.objs.size=none:=I.hok.fresh (G9 _)
theorem Inv.lstM (I:Inv X pins σ H s)(hH:H l=some (.lst xs)):xs.length<=sizeLine/\ ∃ (its:List Value) (n:Nat),Vals xs its/\xs.length=its.length/\s.heap.get? l=some {cls:= .type "list",data:= .seq its.toArray n}:=by
 obtain⟨z,its,n,r,e⟩:=I.hok l _ hH;exact⟨z,its,n,r,r.length,e⟩
theorem Nn {n:Nat}(h:n<=sizeLine):Builtin.List.listTooLong n=false:=by
 unfold Builtin.List.listTooLong;exact D6 (by omega)
end
section
variable {X:Cx}
def Fa:V->List V->Hp->VK->Prop:=λx vs H Q=> ∃l xs y,x= .ref l/\vs= [y]/\H l=some (.lst xs)/\xs.length<sizeLine/\Q .non (upd H l (.lst (xs++ [y])))
theorem DD:MtM X "list.append" Fa:=by
 intro pins s σ H x vs v us Q I rx rv h;obtain⟨l,xs,y,rfl,rfl,hH,hz,q⟩:=h;cases rx;obtain⟨u,rfl,ru⟩:=rv.one;obtain⟨z,its,n,r,hl,e⟩:=I.lstM hH;refine G0I F.slot_list_append ⟨_,e,rfl⟩ F.entry_list_append (F.args_list_append_2 _ _) (PySem.list_append l its.toArray n u (by rw [D0];omega)) ⟨e,?_⟩;refine⟨.non,_,I.lset (its':=its++ [u]) hH e (by simp) (r.append (.cons ru .nil)) ?_,rfl,q⟩;rw [G3,N9];omega
def HH:R2:=λx y H Q=> ∃l b xs zs,x= .ref l/\y= .ref b/\H l=some (.lst xs)/\H b=some (.lst zs)/\xs.length+zs.length<=sizeLine/\ ∀p,H p=none->Q (.ref p) (upd H p (.lst (xs++zs)))
theorem Ae:OpR X (binaryOp .Add) HH:=by
 intro pins s σ H x y v u Q I rx ry h;obtain⟨l,b,xs,zs,rfl,rfl,hH,hB,hz,q⟩:=h;cases rx;cases ry;obtain⟨z,its,n,r,hl,e⟩:=I.lstM hH;obtain⟨z2,its2,n2,r2,hl2,e2⟩:=I.lstM hB;refine PySem.P.add_list e e2 ?_ (by rw [D0,D0];omega);have ea:its.toArray++its2.toArray=(its++its2).toArray:=by simp
 rw [ea];exact⟨.ref _,_,I.lnew (t':=s.toks) (r.append r2) (by rw [G3];omega),rfl,q _ I.fresh⟩
def HI:R2:=λx y H Q=> ∃l k xs,x= .ref l/\y= .int k/\H l=some (.lst xs)/\ -(2^63)<=k/\k<2^63/\xs.length*k.toNat<=sizeLine/\
 ∀p,H p=none->Q (.ref p) (upd H p (.lst (List.replicate k.toNat xs).flatten))
theorem XI {α:Type}(xs:List α)(k:Nat):(List.replicate k xs).flatten.length=k*xs.length:=by
 induction k with
 |zero=>simp
 |succ k ih=>rw [F5,E2,G3,ih,G0B,Nat.add_comm]
theorem Af:OpR X (binaryOp .Mult) HI:=by
 intro pins s σ H x y v u Q I rx ry h;obtain⟨l,k,xs,rfl,rfl,hH,h1,h2,hz,q⟩:=h;cases rx;obtain⟨t,rfl⟩:=ry;obtain⟨z,its,n,r,hl,e⟩:=I.lstM hH;have hlen:its.toArray.size*k.toNat<=sizeLine:=by rw [D0,<-hl];exact hz
 have hcap: ¬its.toArray.size*k.toNat>(2^63-1) / 8:=by
  have:(sizeLine:Nat)<=(2^63-1) / 8:=by decide
  omega
 have hfit: ¬ (!Builtin.List.listFitsIndex k)=true:=by
  rw [fitsIndex_both h1 h2];exact P6
 have hlong: ¬Builtin.List.listTooLong (its.toArray.size*k.toNat)=true:=by
  rw [Nn hlen];exact P6
 have hnew:List.foldl (λx1 x2=>x1++x2) #[] (List.replicate (if its.toArray.isEmpty=true then 0 else k.toNat) its.toArray)=(List.replicate k.toNat its).flatten.toArray:=by
  have f0: ∀m:Nat,List.foldl (λx1 x2=>x1++x2) #[] (List.replicate m its.toArray)=(List.replicate m its).flatten.toArray:=λm=>by
   have:=ZO its m [];rw [N6] at this;exact this
  rw [f0];cases its with
  |nil=>simp
  |cons a r'=>rw [if_neg (by simp)]
 refine G0a (T:= "list") (U:= "int") (by decide) ⟨_,e,rfl⟩ (λs'=>G0H s' k t) noFill_list_mul F.fills_int_mul X8 repeat_list F.slot_int_index.lookup
  (G0I X8 (G0H s k t) F.entry_int_rmul (F.args_int_rmul_2 _ _) (int___rmul___int_list k t l its.toArray n)
   ⟨e,rfl,⟨_,e,rfl⟩,G0I F.slot_list_mul ⟨_,e,rfl⟩ F.entry_list_mul (F.args_list_mul_2 _ _) (AutoListH.list___mul___list_int_3 l its.toArray n k t hfit hcap hlong) ⟨e,?_⟩⟩)
 rw [hnew];exact⟨.ref _,_,I.lnew (t':=s.toks) (r.rep k.toNat) (by rw [XI,G0Y];exact hz),rfl,q _ I.fresh⟩
end
end L2
namespace Att
open PySem PySem.W PySem.Calls PyProof.Rows
theorem ZP {P:Params}{h:Heap}: ∀ (ns:List Int) (vs:List Value),WellAll P h vs (ns.map WData.int)->IntsAre vs ns:=by
 intro ns
 induction ns with
 |nil=>
  intro vs w;rw [O3] at w;cases w;exact .nil
 |cons n ns ih=>
  intro vs w;rw [S1] at w;cases w with
  |cons a b=>
   cases a;exact .cons _ _ (ih _ b)
theorem DE {l:OpenLaw}{n:Nat}(hn:l.most=some n){P:Params}{h:Heap}{args:List WData}{vals:List Value}
 (hpre:l.row.toRowW.claim.pre args=true)(hwl:WellAll P h vals args):
 ∃a vs ns,vals= [Value.ref a]/\args= [WData.list (ns.map WData.int)]/\h.get? a=some {cls:= .type "list",data:= .seq vs.toArray}/\IntsAre vs ns/\ns.length<=n:=by
 have hsh:WShape.hasAll [] args [.list .int]=true:=(pre_splitW hpre).1;have hc:l.pre.holds [] {args:=args}=true:=(pre_splitW hpre).2;obtain⟨d,r,rfl,h1,h2⟩:=hasAllW_cons hsh;obtain rfl:=hasAllW_nil h2;obtain⟨xs,rfl,h3⟩:=hasW_list h1;obtain⟨ns,rfl⟩:=items_int h3;have hlen:ns.length<=n:=by
  unfold OpenLaw.pre at hc;have h4:(WTm.not (.lt (.lit (.int (n:Int))) (.len (.arg 0)))).holds [] {args:= [.list (ns.map .int)]}=true:=by
   have h4:=(holds_andW hc).1;rw [hn] at h4;exact h4
  have h5:=condW_of h4 (w_not (w_lt w_lit (w_len_list (w_arg rfl))));rw [G1] at h5;refine G0s λq=> ?_
  have q':(n:Int)<((ns.length:Nat):Int):=by omega
  first
   |(rw [P0 q'] at h5;exact absurd h5 (by decide))
   |(simp at h5;omega)
 cases hwl with
 |cons w1 w2=>
  cases w2;cases w1 with
  |list ho hall=>exact⟨_,_,ns,rfl,rfl,ho,ZP ns _ hall,hlen⟩
theorem DF (l:OpenLaw)(args:List WData):l.row.toRowW.claim.post args (.bool true) args=true:=
 postW_of (r:=l.row.toRowW) (X:=(true==true))
  (show WShape.has [] (.bool true) .bool=true by first|rfl|decide|simp [WShape.has,WShape.arms,WShape.armsAll])
  (show (WTm.eq .res (.lit (.bool true))).value [] {args:=args,res:=some (.bool true),after:=args}=some (.bool (true==true)) from w_eq_bool (w_res rfl) w_lit) rfl
theorem attach_call {l:OpenLaw}{n:Nat}{q:Program}{loose:List Str}{XP:(Str->Option Value)->Heap->Prop}{YP:World->Heap->Prop}{d:DefRec}
 (hn:l.most=some n)(hdf:d.params.defaults= [])
 (call: ∀ (w:World) (s₀ s₁:Shared) (mg mb:Str->Option Value) (fa:Addr) (o:Obj) (pm cd doc:Value) (a:Addr) (vs:List Value) (ns:List Int),
  Ground q loose [] XP w s₀ mg mb s₁.heap->YP w s₁.heap->
  s₁.heap.get? fa=some o->o.data= .func (docDef d.name d.params d.body d.scope pm cd doc)->s₁.heap.CodeRec cd d.name->mg d.name=some (.ref fa)->
  s₁.heap.get? a=some {cls:= .type "list",data:= .seq vs.toArray}->IntsAre vs ns->ns.length<=n->s₁.gens= #[]->
  codeAny (model l.prog w) callerA (.call (.ref fa) ⟨[.ref a],[]⟩) (λr s'=>r= .ok (.ret (.bool true))/\OldK s₁.heap s'.heap/\s'.os=s₁.os/\AllBare s'.gens) s₁):
 WalkO q loose XP YP l.row.toRowW d [] (λf vs=>PySem.call f vs):=by
 intro w s₀ s₁ mg mb G Y fa o pm cd doc dV kV ho hd hcd hD hmg hg args vals as hpre hlay hrd hwl hlo;obtain rfl:dV= .none:=Dflts.none hD hdf;obtain rfl:kV= .none:=Dflts.noKw hD;obtain⟨a,vs,ns,rfl,rfl,hobj,hints,hlen⟩:=DE hn hpre hwl;refine enter_call (codeAny_mono (call w s₀ s₁ mg mb fa o pm cd doc a vs ns G Y ho (fd_plain hd) hcd hmg hobj hints hlen hg) λr s' hq=> ?_);obtain⟨rfl,h2,h3,h4⟩:=hq;exact⟨.inl ⟨.bool true,.bool true,[],rfl,λ_=>rfl,.bool true,DF l _,λ_=>⟨List.Pairwise.nil,λ_ hm=>(nomatch hm)⟩⟩,h2,h3,h4⟩
end Att
namespace L2
open PySem PySem.Spec PyProof.Rows
theorem Uf: ∀ {vs:List Value} {ns:List Int},IntsAre vs ns->Vals (ns.map V.int) vs
 |_,_,.nil=> .nil
 |_,_,.cons n t h=> .cons ⟨t,rfl⟩ (Uf h)
def Only (H:Hp):Prop:= ∀b,H b=none\/ ∃o xs,H b=some (.frz o (.lst xs))
def yy (s:Stmt):Arguments:=match s with
 | .FunctionDef _ a _ _ _ _ _ _ _ _=>a
 |_=> {posonlyargs:= [],args:= [],vararg:=none,kwonlyargs:= [],kw_defaults:= [],kwarg:=none,defaults:= []}
def wo (s:Stmt):List Stmt:=match s with
 | .FunctionDef _ _ b _ _ _ _ _ _ _=>b
 |_=> []
def jf (s:Stmt):Scope:=match s with
 | .FunctionDef _ _ _ _ _ _ sc _ _ _=>sc
 |_=> {kind:= .function,names:= [],isGenerator:=false,isCoroutine:=false}
abbrev CX0:CXT:=λ_ _ _ _ _ _=>False
abbrev E0:XK:=λ_ _ _=>False
variable {X:Cx}
theorem SJ:Dx CX0 X E0:=λ_ _ _ _ _ _ _ h=>h.elim
structure Fun (K:PySem.W.Frag)(x qual:Str)(st:Stmt)(f:Addr)(fd:FuncData):Prop where
 ex: ∃ (oc:Value) (od:Option Addr) (kV doc pm:Value) (an:Option Addr) (cdv ct:Value) (osl:Array (Option Value)),
  fd=PySem.W.fnOf x qual (yy st) (wo st) (jf st) .none kV doc pm an cdv ct/\K.lookup f=some ⟨oc,od,.func fd,osl⟩/\PySem.W.codeIn K cdv qual=true
 kp:PySem.W.keepIn K (.ref f)=true
section
variable {P:Program}{w:World}{K:PySem.W.Frag}{mg:Str->Option Value}{base:Heap}
variable {qual:Str}
theorem Fun.ok {x:Str}{st:Stmt}{f:Addr}{fd:FuncData}{N ps:List Str}{k:Nat}{sp:Sp}(F:Fun K x qual st f fd)(S:FnScope N ps (jf st))(len: ∀vs H Q E,sp vs H Q E->vs.length=ps.length)
 (hbody: ∀ (cdv:Value) (A:Around) (outer:List Env) (s:Shared) (H:Hp) (vs:List V) (Q:VK) (E:XK),Room k (A.deeper (envOfC qual (jf st) s.heap.objs.size f cdv))->sp vs H Q E->
  ∃t,PSs (BZ CX0 P w K mg base N qual (jf st) f cdv A outer s H E).nox (wo st) t/\t {nx:=λ_ H'=>Q .non H',rt:=Q} (start N vs) H):FnOk P w K mg base CX0 (k+1) f fd ps sp:=by
 obtain⟨oc,od,kV,doc,pm,an,cdv,ct,osl,rfl,lk,hcd⟩:=F.ex;refine SE lk hcd S len λA outer s H vs Q E hr hsp=> ?_
 obtain⟨t,h,q⟩:=hbody cdv A outer s H vs Q E hr hsp;exact⟨t,h.nox,q⟩
theorem Fun.binds {x:Str}{st:Stmt}{f:Addr}{fd:FuncData}{ps:List Str}(F:Fun K x qual st f fd)
 (h: ∀ (kV doc pm:Value) (an:Option Addr) (cdv ct:Value) (us:List Value),us.length=ps.length->bindArgs (PySem.W.fnOf x qual (yy st) (wo st) (jf st) .none kV doc pm an cdv ct) ⟨us,[]⟩=pure (ps.zip us)):Binds K fd ps []:=by
 obtain⟨oc,od,kV,doc,pm,an,cdv,ct,osl,rfl,lk,hcd⟩:=F.ex;exact .all (h kV doc pm an cdv ct)
theorem Ag {x:Str}{st:Stmt}{f:Addr}{oc:Value}{od an:Option Addr}{osl:Array (Option Value)}{kV doc pm cdv ct:Value}(l:K.lookup f=some ⟨oc,od,.func (PySem.W.fnOf x qual (yy st) (wo st) (jf st) .none kV doc pm an cdv ct),osl⟩)
 (c:PySem.W.codeIn K cdv qual=true)(k:PySem.W.keepIn K (.ref f)=true):Fun K x qual st f (PySem.W.fnOf x qual (yy st) (wo st) (jf st) .none kV doc pm an cdv ct):=⟨⟨oc,od,kV,doc,pm,an,cdv,ct,osl,rfl,l,c⟩,k⟩
end
theorem jA {n:Nat}(h:n<=1000):n<sizeLine:=U4 h (by decide)
theorem Ju {A B:Prop}(h:B):if false=true then A else B:=by
 rw [if_neg P6];exact h
theorem Yj {A B:Prop}(h:A):if true=true then A else B:=by
 rw [if_pos rfl];exact h
theorem VW {c A B:Prop}[Decidable c](h1:c->A)(h2: ¬c->B):if c then A else B:=by
 by_cases h:c
 ·rw [if_pos h];exact h1 h
 ·rw [if_neg h];exact h2 h
section
variable {κ:Type}[DecidableEq κ]
def WR (kvs:List (κ×V))(k:κ):Option V:=(kvs.find? λkv=>decide (kv.1=k)).map (·.2)
def Gq (kvs:List (κ×V))(k:κ)(v:V):List (κ×V):=
 if (kvs.any λkv=>decide (kv.1=k))=true then kvs.map (λkv=>if kv.1=k then (kv.1,v) else kv) else kvs++ [(k,v)]
theorem ZA {p:κ×V}{r:List (κ×V)}{k:κ}(e:p.1=k):WR (p::r) k=some p.2:=by simp [WR,O8,e]
theorem ZB {p:κ×V}{r:List (κ×V)}{k:κ}(e: ¬p.1=k):WR (p::r) k=WR r k:=by simp [WR,O8,e]
theorem YO (k:κ): ∀kvs:List (κ×V),(kvs.any λkv=>decide (kv.1=k))=(WR kvs k).isSome
 | []=>rfl
 |p::r=>by
  rw [X2]
  by_cases e:p.1=k
  ·simp only [ZA e,P0 e,Bool.true_or,Option.isSome_some]
  ·rw [ZB e,D6 e,Bool.false_or];exact YO k r
theorem ZQ (kvs:List (κ×V))(k:κ)(v:V):(Gq kvs k v).length<=kvs.length+1:=by
 unfold Gq;split
 ·rw [G1];omega
 ·rw [G3,D3,S8];omega
theorem No {kvs:List (κ×V)}{k:κ}(v:V)(h:WR kvs k=none):Gq kvs k v=kvs++ [(k,v)]:=by
 unfold Gq;rw [YO,h];exact if_neg (by decide)
theorem KV.val {kvs:List (κ×V)}{vs:List (κ×Value)}(r:KV kvs vs)(k:κ):RelO (WR kvs k) (valueAt vs k):=by
 unfold KV at r
 induction r with
 |nil=>exact True.intro
 | @cons p q ps qs h t ih=>
  obtain⟨h1,h2⟩:=h
  by_cases e:p.1=k
  ·have e':q.1=k:=h1.symm.trans e;have b:valueAt (q::qs) k=some q.2:=by simp [valueAt,O8,e']
   rw [ZA e,b];exact h2
  ·have e': ¬q.1=k:=λz=>e (h1.trans z)
   have b:valueAt (q::qs) k=valueAt qs k:=by simp [valueAt,O8,e']
   rw [ZB e,b];exact ih
theorem KV.any {kvs:List (κ×V)}{vs:List (κ×Value)}(r:KV kvs vs)(k:κ):(kvs.any λkv=>decide (kv.1=k))=vs.any λkv=>decide (kv.1=k):=by
 unfold KV at r
 induction r with
 |nil=>rfl
 |cons h t ih=>rw [X2,X2,ih,h.1]
theorem KV.repl {kvs:List (κ×V)}{vs:List (κ×Value)}(r:KV kvs vs)(k:κ){y:V}{u:Value}(ry:RelV y u):
 KV (kvs.map λkv=>if kv.1=k then (kv.1,y) else kv) (vs.map λkv=>if kv.1=k then (kv.1,u) else kv):=by
 unfold KV at r ⊢
 induction r with
 |nil=>exact .nil
 | @cons p q ps qs h t ih=>
  rw [S1,S1];refine .cons ?_ ih;obtain⟨h1,h2⟩:=h
  by_cases e:p.1=k
  ·rw [if_pos e,if_pos (h1.symm.trans e)];exact⟨h1,ry⟩
  ·rw [if_neg e,if_neg (λz=>e (h1.trans z))];exact⟨h1,h2⟩
theorem KV.put {kvs:List (κ×V)}{vs:List (κ×Value)}(r:KV kvs vs)(k:κ){y:V}{u:Value}(ry:RelV y u):KV (Gq kvs k y) (stored vs k u):=by
 unfold Gq stored;rw [r.any k]
 by_cases e:(vs.any λkv=>decide (kv.1=k))=true
 ·rw [if_pos e,if_pos e];exact r.repl k ry
 ·rw [if_neg e,if_neg e];exact Paired.snoc r ⟨rfl,ry⟩
theorem KV.length {kvs:List (κ×V)}{vs:List (κ×Value)}(r:KV kvs vs):kvs.length=vs.length:=Paired.length r
end
variable {P:Program}{w:World}
theorem Np {k:Key}{u:Value}(r:RelV (kV k) u):(zA P w).is k u=true:=by
 cases k with
 |inl i=>obtain⟨t,e⟩:=(show ∃t,u=Value.int i t from r);subst e;exact XE P w i t
 |inr x=>obtain⟨t,e⟩:=(show ∃t,u=Value.str x t from r);subst e;exact XF P w x t
theorem Ug: ∀ {ks:List Key} {us:List Value},Vals (ks.map kV) us->ItemsAre (zA P w) ks us
 | [],_,r=>by rw [O3] at r;cases r;exact .nil
 |k::ks,_,r=>by
  rw [S1] at r;cases r with
  |cons h t=>exact .cons (Np h) (Ug t)
abbrev KT (H:Hp):List (List Key×V)->List (List Key×Addr×Value)->Prop:=Paired λp q=>p.1=q.1/\H q.2.1=some (.tup (p.1.map kV))/\RelV p.2 q.2.2
variable {H:Hp}
theorem KT.val {kvs:List (List Key×V)}{xs:List (List Key×Addr×Value)}(r:KT H kvs xs)(k:List Key):RelO (WR kvs k) ((atKey xs k).map (·.2)):=by
 induction r with
 |nil=>exact True.intro
 | @cons p q ps qs h t ih=>
  obtain⟨h1,_,h2⟩:=h
  by_cases e:p.1=k
  ·have e':q.1=k:=h1.symm.trans e;have b:atKey (q::qs) k=some q.2:=by simp [atKey,O8,e']
   rw [ZA e,b];exact h2
  ·have e': ¬q.1=k:=λz=>e (h1.trans z)
   have b:atKey (q::qs) k=atKey qs k:=by simp [atKey,O8,e']
   rw [ZB e,b];exact ih
section
variable {P:Program}{w:World}{H:Hp}{h:Heap}{a:Addr}
theorem Ah {u:HO}(ok:HOk P w H h)(e:Rd H a u):ObjOk P w H h a u:=e.ok ok
theorem DG {kvs:List (Key×V)}(ok:HOk P w H h)(e:Rd H a (.dK kvs)):kvs.length<=sizeLine/\(a==sysModules)=false/\ ∃vs,KV kvs vs/\h.DictOf (zA P w) a vs:=
 show ObjOk P w H h a (.dK kvs) from Ah ok e
theorem Ai {kvs:List (Key×V)}(ok:HOk P w H h)(e:H a=some (.dK kvs)):kvs.length<=sizeLine/\(a==sysModules)=false/\ ∃vs,KV kvs vs/\h.DictOf (zA P w) a vs:=DG ok (.inl e)
theorem Ca {ks:List Key}(ok:HOk P w H h)(e:H a=some (.tup (ks.map kV))):(tupleKind (zA P w)).is h ks a:=by
 obtain⟨_,its,r,o,h1,h2,_,n,h3⟩:=(show ObjOk P w H h a (.tup (ks.map kV)) from ok a _ e);exact⟨o,its.toArray,n,h1,h2,h3,by simpa using Ug r⟩
theorem Fb {kvs:List (List Key×V)}(ok:HOk P w H h)(e:Rd H a (.dT kvs)):kvs.length<=sizeLine/\(a==sysModules)=false/\
 ∃xs,KT H kvs xs/\h.DictOfH (tupleKind (zA P w)) a xs:=by
 obtain⟨z,y,xs,r,o,es,ep,h1,h2,h3,h4,h5⟩:=(show ObjOk P w H h a (.dT kvs) from Ah ok e);refine⟨z,y,xs,r,o,es,ep,h1,h2,h3,h4,λx hx=> ?_,h5⟩;have all: ∀ {l:List (List Key×V)} {m:List (List Key×Addr×Value)},KT H l m-> ∀x∈m,(tupleKind (zA P w)).is h x.1 x.2.1:=by
  intro l m q
  induction q with
  |nil=>intro x hx;exact nomatch hx
  | @cons p q ps qs hq t ih=>
   intro x hx;rcases R6.mp hx with e|hx
   ·subst e;exact Ca ok (by rw [<-hq.1];exact hq.2.1)
   ·exact ih x hx
 exact all r x hx
end
def DGet (H:Hp)(a:Addr)(y:V)(r:Option V):Prop:=
 (∃kvs k,Rd H a (.dK kvs)/\y=kV k/\r=WR kvs k)\/ ∃kvs k b,Rd H a (.dT kvs)/\y= .ref b/\H b=some (.tup (k.map kV))/\r=WR kvs k
variable {a:Addr}
theorem DGet.k {kvs:List (Key×V)}{k:Key}(e:H a=some (.dK kvs)):DGet H a (kV k) (WR kvs k):= .inl ⟨kvs,k,.inl e,rfl,rfl⟩
section
variable {X:Cx}{pins:List (Addr×Obj)}{σ:St}{H:Hp}{s:Shared}{a:Addr}{y v:V}{u r:Value}{o:Option V}{A:Around}{E:Value->Shared->Prop}
theorem Inv.big (I:Inv X pins σ H s):sysModules<s.heap.objs.size:=by
 have h:mainGlobals<s.heap.objs.size:=(I.mod.glob.keeps I.bk).lt;exact W1 (by decide) h
theorem DH {Q:Value->Shared->Prop}(hu:A.units+1<cLine)(I:Inv X pins σ H s)(g:DGet H a y (some v))(ry:RelV y u)(h: ∀w' s',Inv X pins σ H s'->RelV v w'->Q w' s'):
 wpAny (model X.prog X.w) A (getItem (.ref a) u) Q E s:=by
 rcases g with ⟨kvs,k,e,ey,l⟩|⟨kvs,k,b,e,ey,eb,l⟩
 ·subst ey;obtain⟨z,hd,vs,rel,dd⟩:=DG I.hok e;obtain⟨w',hw,rw'⟩:=RelO.some_of (v:=v) (o:=valueAt vs k) (by rw [l];exact rel.val k);exact wpAny_getItem_of (Np ry) dd.mapOf hw (h w' _ (I.tok _) rw')
 ·subst ey;cases (show u=Value.ref b from ry);obtain⟨z,hd,xs,rel,dd⟩:=Fb I.hok e;obtain⟨w',hw,rw'⟩:=RelO.some_of (v:=v) (o:=(atKey xs k).map (·.2)) (by rw [l];exact rel.val k);obtain⟨p,hp,hp2⟩:=M7.mp hw;refine wpAny_getItem_heap (tupleKind_room_in1 hu) (Ca I.hok eb) dd hp ?_;rw [hp2];exact h w' _ (I.tok _) rw'
theorem DI {h':Heap}{t':Nat}{ob:HO}(I:Inv X pins σ H s)(mu:Mut (H a))(hs:Heap.SameBut a s.heap h')(he: ∃q,h'.get? a=some q)(new:ObjOk X.prog X.w (upd H a ob) h' a ob):
 Inv X pins σ (upd H a ob) {s with heap:=h',toks:=t'}:=
 I.write (x:=a) (e:=a) mu (.inl rfl) (λb q hb z=>(hs.2 b hb).trans z) he new
theorem Cb {P:Program}{w:World}{H':Hp}{h':Heap}{kvs:List (Key×V)}{vs:List (Key×Value)}(z:kvs.length<=sizeLine)(hd:(a==sysModules)=false)(rel:KV kvs vs)(dd:h'.DictOf (zA P w) a vs):
 ObjOk P w H' h' a (.dK kvs):=⟨z,hd,vs,rel,dd⟩
end
section
variable {X:Cx}{pins:List (Addr×Obj)}{σ:St}{H:Hp}{s:Shared}{a:Addr}{kvs:List (Key×V)}{k:Key}{u:Value}{A:Around}{E:Value->Shared->Prop}
theorem SK {Q:Value->Shared->Prop}(I:Inv X pins σ H s)(e:Rd H a (.dK kvs))(h: ∀t s',Inv X pins σ H s'->Q (.int kvs.length t) s'):wpAny (model X.prog X.w) A (call (.builtin "len") [.ref a]) Q E s:=by
 obtain⟨z,hd,vs,rel,dd⟩:=DG I.hok e;refine call_len_dict hd dd (by rw [<-rel.length];rw [G0Q] at z;omega) ?_;rw [<-rel.length];exact h _ _ (I.tok _)
end
def SL (i:Expr):Prop:= ∀ov iv,subscripted i false ov iv=operate [ov,iv] (getItem ov iv)
variable {prog:Program}{s:Shared}{env:Env}{pos:Pos}
theorem Fc {A:Around}{E:Value->Shared->Prop}{value slice:Expr}{T id:String}{Q:Value->Shared->Prop}
 (hl:typeLookup (.type T) "__getitem__" =pure (some (.builtin id)))(hs:SL slice)
 (h:wpAny (model prog w) A (eval value env) (λo s₁=>wpAny (model prog w) A (eval slice env) (λi s₂=>s₂.TypeIs o T/\wpAny (model prog w) A (getItem o i) Q E s₂) E s₁) E s):
 wpAny (model prog w) A (eval (.Subscript value slice pos) env) Q E s:=by
 refine Subscript_ (R7 h (λo s₁ h₁=>R7 h₁ (λi s₂ h₂=> ?_) λ_ _ x=>x) λ_ _ x=>x);obtain⟨hT,h₂⟩:=h₂;unfold subscriptTail;refine wpAny_bind ?_;rw [getitemInPython_of_ne hT.not_modules];refine wpAny_bind (wpAny_specialOf hT hl ?_);have fin:wpAny (model prog w) A (subscripted slice false o i) (λr s₃=>wpAny (model prog w) A (letTemporaryGo value o r >>= λ_=>pure r) Q E s₃) E s₂:=by
  rw [hs o i];exact wpAny_operating (R7 h₂ (λr s₃ h₃=>wpAny_bind (wpAny_letTemporaryGo (P1 h₃))) λ_ _ x=>x)
 first
  |exact P1 (wpAny_bind fin)
  |exact wpAny_bind (P1 (wpAny_bind fin))
  |exact wpAny_bind fin
theorem XJ {pins:List (Addr×Obj)}{σ:St}{y:V}{o:Option V}(I:Inv X pins σ H s)(g:DGet H a y o):s.TypeIs (.ref a) "dict" :=by
 rcases g with ⟨kvs,k,e,_,_⟩|⟨kvs,k,b,e,_,_,_⟩
 ·obtain⟨_,_,vs,_,dd⟩:=DG I.hok e;exact dd.typeIs
 ·obtain⟨_,_,xs,_,dd⟩:=Fb I.hok e;exact dd.typeIs
def SM (td ty:TE):TE:=λσ H Q=>td σ H λx H1=>ty σ H1 λy H2=> ∃a v,x= .ref a/\DGet H2 a y (some v)/\Q v H2
section
variable {X:Cx}{o i e value:Expr}{pos pos' tpos:Pos}{td ty tv:TE}
theorem Fd (hu:X.A.units+1<cLine)(ho:PE X o td)(hi:PE X i ty)(hs:SL i):PE X (.Subscript o i pos) (SM td ty):=by
 intro pins s σ H Q I h;refine Fc PySem.F.slot_dict_getitem.lookup hs (thn (ho pins s σ H _ I h) λu s1 ⟨x,H1,I1,rx,q1⟩=>thn (hi pins s1 σ H1 _ I1 q1) λiv s2 ⟨y,H2,I2,ry,a,v,ex,g,q2⟩=> ?_);subst ex;obtain rfl:u=Value.ref a:=rx;exact⟨XJ I2 g,DH hu I2 g ry λw' s3 I3 rw'=>⟨v,H2,I3,rw',q2⟩⟩
end
theorem Nq (h:Heap)(hb:sysModules<h.objs.size):ObjOk P w H (h.push {cls:= .type "dict",data:= .dict #[]}) h.objs.size (.dK []):=
 ⟨T3 _,K8.mpr (Ne.symm (S3 hb)),[],.nil,Heap.DictOf.new h⟩
def DJ:List (TE×TE)->St->Hp->(List (V×V)->Hp->Prop)->Prop
 | [],_,H,Q=>Q [] H
 |(tk,tv)::r,σ,H,Q=>tk σ H λx H1=>tv σ H1 λy H2=>DJ r σ H2 λps H3=>Q ((x,y)::ps) H3
abbrev VV:List (V×V)->List (Value×Value)->Prop:=Paired λp q=>RelV p.1 q.1/\RelV p.2 q.2
def PPs (X:Cx)(pos:Pos)(keys:List (Option Expr))(values:List Expr)(trs:List (TE×TE)):Prop:=
 ∀ (pins:List (Addr×Obj)) (s:Shared) (σ:St) (H:Hp) (Q:List (V×V)->Hp->Prop),Inv X pins σ H s->DJ trs σ H Q->
  wpAny (model X.prog X.w) X.A (evalPairs (pairTrees keys values X.env pos)) (λvs s'=> ∃ps H',Inv X pins σ H' s'/\VV ps vs/\Q ps H') X.xe s
theorem Fe:PPs X pos [] [] []:=λpins s σ H Q I h=>pairTrees_nil_walk ⟨[],H,I,.nil,h⟩
theorem Nr {k v:Expr}{ks:List (Option Expr)}{vs:List Expr}{tk tv:TE}{trs:List (TE×TE)}(hk:PE X k tk)(hv:PE X v tv)(hr:PPs X pos ks vs trs):
 PPs X pos (some k::ks) (v::vs) ((tk,tv)::trs):=λpins s σ H Q I h=>
 pairTrees_cons_walk (thn (hk pins s σ H _ I h) λu s1 ⟨x,H1,I1,rx,q1⟩=>thn (hv pins s1 σ H1 _ I1 q1) λw2 s2 ⟨y,H2,I2,ry,q2⟩=>
  thn (hr pins s2 σ H2 _ I2 q2) λws s3 ⟨ps,H3,I3,rel,q3⟩=>⟨(x,y)::ps,H3,I3,.cons ⟨rx,ry⟩ rel,q3⟩)
def Uh (kvs more:List (Key×V)):List (Key×V):=more.foldl (λacc kv=>Gq acc kv.1 kv.2) kvs
theorem KV.merge: ∀ {more:List (Key×V)} {rs:List (Key×Value)} {kvs:List (Key×V)} {vs:List (Key×Value)},KV more rs->KV kvs vs->KV (Uh kvs more) (merged vs rs):=by
 intro more rs kvs vs r;unfold KV at r
 induction r generalizing kvs vs with
 |nil=>intro q;exact q
 | @cons p q ps qs h t ih=>
  intro r0;have e:KV (Gq kvs p.1 p.2) (stored vs q.1 q.2):=by
   have:=r0.put p.1 h.2;rw [<-h.1];exact this
  exact ih e
theorem vY: ∀ (more kvs:List (Key×V)),(Uh kvs more).length<=kvs.length+more.length
 | [],kvs=>by show kvs.length<=kvs.length+0;omega
 |p::r,kvs=>by
  have h1:=vY r (Gq kvs p.1 p.2);have h2:=ZQ kvs p.1 p.2;show (Uh (Gq kvs p.1 p.2) r).length<=_;rw [D3];omega
theorem Yk {P:Program}{w:World}: ∀ {kvs:List (Key×V)} {ws:List (Value×Value)},VV (kvs.map λkv=>(kV kv.1,kv.2)) ws-> ∃rs,Carries (zA P w) ws rs/\KV kvs rs
 | [],_,r=>by rw [O3] at r;cases r;exact⟨[],True.intro,.nil⟩
 |p::kvs,_,r=>by
  rw [S1] at r;cases r with
  | @cons a b as bs h t=>
   obtain⟨rs,c,q⟩:=Yk (P:=P) (w:=w) t;obtain⟨b1,b2⟩:=b;exact⟨(p.1,b2)::rs,⟨Np h.1,rfl,c⟩,.cons ⟨rfl,h.2⟩ q⟩
def SN (trs:List (TE×TE)):TE:=λσ H Q=> ∀p,H p=none->DJ trs σ (upd H p (.dK [])) λps H2=>H2 p=some (.dK [])/\ ∃kvs:List (Key×V),ps=kvs.map (λkv=>(kV kv.1,kv.2))/\kvs.length<=15/\Q (.ref p) (upd H2 p (.dK (Uh [] kvs)))
theorem Ff {keys:List (Option Expr)}{values:List Expr}{trs:List (TE×TE)}(h:PPs X pos keys values trs)(hall:keys.all (·.isSome)=true)(hl:keys.length=values.length)(h0:keys≠ [])
 (h15:keys.length<=15):PE X (.Dict keys values pos) (SN trs):=by
 intro pins s σ H Q I q;have hn:=I.hok.fresh (G9 s.heap.objs.size);have I1:=I.laid (a:=s.heap.objs.size) (o:= .dK []) (h':=s.heap.push {cls:= .type "dict",data:= .dict #[]}) (t':=s.toks) (λ_ _ q=>G2 _ q) (G9 _) (Nq s.heap I.big);refine wpAny_Dict_walk (knd:=zA X.prog X.w) hall hl h0 h15 (thn (h pins _ σ _ _ I1 (q _ hn)) λws s2 ⟨ps,H2,I2,rel,e,kvs,ep,lk,q2⟩=> ?_);subst ep;obtain⟨rs,c,rk⟩:=Yk (P:=X.prog) (w:=X.w) rel;obtain⟨z,hd,vs0,r0,dd⟩:=Ai I2.hok e;cases r0;refine⟨rs,c,dd,λh' dd' hs=>⟨.ref s.heap.objs.size,_,?_,rfl,q2⟩⟩;have hz:(Uh [] kvs).length<=sizeLine:=by
  have h1:=vY kvs [];rw [S8] at h1;rw [G0Q];omega
 have he: ∃q,h'.get? s.heap.objs.size=some q:=let ⟨q,_,_,hq,_⟩:=dd';⟨q,hq⟩;exact DI I2 (by rw [e];exact True.intro) hs he (Cb hz hd (rk.merge .nil) dd')
structure M2 (X:Cx)(o:Expr)(m:Str)(apos:Pos)(e f:Expr)(cpos:Pos):Prop where
 base:attributeBase o m X.env (eval o X.env)=eval o X.env
 few:((backTo cpos (starEach [e,f] X.env)).all (λx=> !x.1)&&(backToKw cpos (keywordEach [] X.env)).all (λx=>x.1.isSome)
  &&decide (([e,f]:List Expr).length+([]:List Keyword).length+(if ([]:List Keyword).isEmpty then 0 else 1)<30))=true
 line:(apos.endLine==cpos.line)=true
 trees:backTo cpos (starEach [e,f] X.env)= [(false,eval e X.env),(false,eval f X.env)]
def IsD (H:Hp)(a:Addr):Prop:=(∃kvs,Rd H a (.dK kvs))\/ ∃kvs,Rd H a (.dT kvs)
theorem Aj {pins:List (Addr×Obj)}{σ:St}(I:Inv X pins σ H s)(d:IsD H a):
 s.TypeIs (.ref a) "dict" /\(∀b,Value.ref a= .ref b-> ∃ob,s.heap.get? b=some ob/\ob.dict=none)/\(a==sysModules)=false:=by
 rcases d with ⟨kvs,e⟩|⟨kvs,e⟩
 ·obtain⟨_,hd,vs,_,dd⟩:=DG I.hok e;refine⟨dd.typeIs,λb q=> ?_,hd⟩;cases q;obtain⟨ob,_,_,h1,h2,_⟩:=dd;exact⟨ob,h1,h2.2.1⟩
 ·obtain⟨_,hd,xs,_,dd⟩:=Fb I.hok e;refine⟨dd.typeIs,λb q=> ?_,hd⟩;cases q;obtain⟨ob,_,_,h1,h2,_⟩:=dd;exact⟨ob,h1,h2.2.1⟩
def wF (names:List (Str×NameKind))(env:Env)(cs:List (Str×Addr)):List (Str×Addr):=
 names.foldl (λcs p=>if p.2= .free then (match env.cells.lookup p.1 with|some c=>(p.1,c)::cs|none=>cs) else cs) cs
theorem zV (p:Str×NameKind)(l:List (Str×NameKind))(env:Env)(cs:List (Str×Addr)):
 wF (p::l) env cs=wF l env (if p.2= .free then (match env.cells.lookup p.1 with|some c=>(p.1,c)::cs|none=>cs) else cs):=rfl
theorem ZR {f:Str×NameKind->List (Str×Addr)->Sem (ForInStep (List (Str×Addr)))}
 (h1: ∀p cs,p.2≠ .free->f p cs=pure (.yield cs))(h2: ∀p cs c,p.2= .free->env.cells.lookup p.1=some c->f p cs=pure (.yield ((p.1,c)::cs))):
 ∀ (l:List (Str×NameKind)) (cs:List (Str×Addr)),(∀p∈l,p.2= .free-> ∃c,env.cells.lookup p.1=some c)->forIn l cs f=pure (wF l env cs)
 | [],cs,_=>rfl
 |p::l,cs,h=>by
  have ih:=ZR h1 h2 l
  by_cases hp:p.2= .free
  ·obtain⟨c,hc⟩:=h p P8 hp;rw [X9,h2 p cs c hp hc,pure_bind];show forIn l ((p.1,c)::cs) f=_;rw [ih _ λq hq=>h q (R0 _ hq),zV,if_pos hp,hc]
  ·rw [X9,h1 p cs hp,pure_bind];show forIn l cs f=_;rw [ih _ λq hq=>h q (R0 _ hq),zV,if_neg hp]
variable {scope:Scope}
theorem YQ (h: ∀p∈scope.names,p.2= .free-> ∃c,env.cells.lookup p.1=some c):closureFor scope env=pure (wF scope.names env []):=by
 simp only [closureFor];rw [ZR (env:=env) (λp cs hp=> ?_) (λp cs c hp hc=> ?_) _ _ h]
 ·rfl
 ·obtain⟨n,k⟩:=p;have hb:(k==NameKind.free)=false:=by simpa using hp
  simp only [hb,Bool.false_eq_true,G03]
 ·obtain⟨n,k⟩:=p;have hb:(k==NameKind.free)=true:=by simpa using hp
  have hc':env.cells.lookup n=some c:=hc;simp only [hb,if_true,cellOf,hc',pure_bind]
theorem ZS: ∀ (l:List (Str×NameKind)) (cs:List (Str×Addr)),(∀p∈cs,env.cells.lookup p.1=some p.2)-> ∀p∈wF l env cs,env.cells.lookup p.1=some p.2
 | [],cs,h,p,hp=>h p hp
 |q::l,cs,h,p,hp=>by
  rw [zV] at hp;refine ZS l _ (λr hr=> ?_) p hp
  by_cases hq:q.2= .free
  ·rw [if_pos hq] at hr;cases e:env.cells.lookup q.1 with
   |none=>rw [e] at hr;exact h r hr
   |some c=>
    rw [e] at hr;rcases R6.mp hr with rfl|hr
    ·exact e
    ·exact h r hr
  ·rw [if_neg hq] at hr;exact h r hr
theorem ZT: ∀ (l:List (Str×NameKind)) (cs:List (Str×Addr)),∀p∈cs,p∈wF l env cs
 | [],cs,p,hp=>hp
 |q::l,cs,p,hp=>by
  rw [zV];refine ZT l _ p ?_
  by_cases hq:q.2= .free
  ·rw [if_pos hq];cases e:env.cells.lookup q.1 with
   |none=>exact hp
   |some c=>exact R0 _ hp
  ·rw [if_neg hq];exact hp
variable {x:Str}
theorem ZU {c:Addr}(hc:env.cells.lookup x=some c): ∀ (l:List (Str×NameKind)) (cs:List (Str×Addr)),(x,NameKind.free)∈l->(x,c)∈wF l env cs
 |q::l,cs,h=>by
  rw [zV];rcases R6.mp h with e|h
  ·subst e;rw [if_pos rfl,hc];exact ZT l _ _ P8
  ·exact ZU hc l _ h
theorem wn {α:Type}: ∀ {l:List (Str×α)} {x:Str} {c:α},l.lookup x=some c->(x,c)∈l
 | [],_,_,h=>by simp at h
 |(n,k)::r,x,c,h=>by
  rw [C8] at h;cases hx:x==n with
  |true=>
   rw [hx] at h;have e:x=n:=eq_of_beq hx;cases h;subst e;exact P8
  |false=>rw [hx] at h;exact R0 _ (wn h)
theorem Yl {α:Type}: ∀ {l:List (Str×α)} {x:Str} {c:α},(x,c)∈l-> ∃c',l.lookup x=some c'
 |(n,k)::r,x,c,h=>by
  rw [C8];cases hx:x==n with
  |true=>exact⟨_,rfl⟩
  |false=>
   rcases R6.mp h with e|h
   ·cases e;simp at hx
   ·exact Yl h
theorem Ym {l:List (Str×NameKind)}{c:Addr}(h:(wF l env []).lookup x=some c):env.cells.lookup x=some c:=
 ZS l [] (λ_ z=>nomatch z) (x,c) (wn h)
theorem DK {l:List (Str×NameKind)}{c:Addr}(hc:env.cells.lookup x=some c)(h:(x,NameKind.free)∈l):(wF l env []).lookup x=some c:=by
 obtain⟨c',e⟩:=Yl (ZU hc l [] h);have:=Ym e;rw [hc] at this;cases this;exact e
theorem wY {κ:Type}{f:Str×κ->Str×κ}{g:Str->κ->κ}(hf: ∀n k,f (n,k)=(n,g n k))(x:Str): ∀l:List (Str×κ),(l.map f).lookup x=(l.lookup x).map (g x)
 | []=>rfl
 |(n,k)::r=>by
  rw [S1,hf,C8,C8,wY hf x r];cases same:x==n with
  |false=>rfl
  |true=>rw [eq_of_beq same];rfl
theorem zb {names:List (Str×NameKind)}{k:NameKind}(found:
 (names.map λ(n,k)=>if (k==NameKind.free&&env.scope.kind== .function&&env.kindOf n==some .cell) then (n,NameKind.cell) else (n,k)).lookup x=some k):
  names.lookup x=some k\/names.lookup x=some .free:=by
 rw [wY (g:=λn k=>if (k==NameKind.free&&env.scope.kind== .function&&env.kindOf n==some .cell) then .cell else k) (λn k=>by dsimp only;split<;>rfl)] at found;obtain⟨k0,was,now⟩:=M7.mp found;split at now
 ·rename_i c;simp only [T1,G0X] at c;exact .inr (by rw [was,c.1.1])
 ·exact .inl (by rw [was,now])
theorem wb: ∀ (names:List (Str×NameKind)) (n:Nat) (acc:List (Str×Addr)) (p:Str×Addr),p∈cellsFrom n names acc->p∈acc\/(n<=p.2/\(p.1,NameKind.cell)∈names)
 | [],_,_,_,h=> .inl h
 |(x,k)::r,n,acc,p,h=>by
  unfold cellsFrom at h;split at h
  ·rename_i hk;rcases wb r (n+1) _ p h with z|⟨z1,z2⟩
   ·rcases R6.mp z with e|z
    ·subst e;have:k= .cell:=by simpa using hk
     subst this;exact .inr ⟨G9 _,P8⟩
    ·exact .inl z
   ·exact .inr ⟨by omega,R0 _ z2⟩
  ·rcases wb r n acc p h with z|⟨z1,z2⟩
   ·exact .inl z
   ·exact .inr ⟨z1,R0 _ z2⟩
theorem jU: ∀ (names:List (Str×NameKind)) (n:Nat) (acc:List (Str×Addr)),cellsFrom n names acc=cellsFrom n names []++acc
 | [],_,_=>rfl
 |(x,k)::r,n,acc=>by
  unfold cellsFrom;split
  ·rw [jU r (n+1) ((x,n)::acc),jU r (n+1) [(x,n)],G8];rfl
  ·exact jU r n acc
theorem Jv {α:Type}(l l':List (Str×α))(x:Str):(l++l').lookup x=(match l.lookup x with|some c=>some c|none=>l'.lookup x):=by
 induction l with
 |nil=>rfl
 |cons p l ih=>
  obtain⟨n,c⟩:=p;rw [A2,C8,C8];cases x==n with
  |true=>rfl
  |false=>exact ih
theorem vj {names:List (Str×NameKind)}(here:names.lookup x=some .cell):
 (names.map λ(n,k)=>if (k==NameKind.free&&env.scope.kind== .function&&env.kindOf n==some .cell) then (n,NameKind.cell) else (n,k)).lookup x=some .cell:=by
 rw [wY (g:=λn k=>if (k==NameKind.free&&env.scope.kind== .function&&env.kindOf n==some .cell) then .cell else k) (λn k=>by dsimp only;split<;>rfl),here];simp
section
variable {M:Model}{A:Around}{E:Value->Shared->Prop}{s:Shared}
theorem Pj (h:Heap)(names:List (Str×NameKind)):(∀n c,(n,c)∈cellsFrom h.objs.size names []->(pushCells h names).IsCell c none/\h.objs.size<=c)/\(cellsFrom h.objs.size names []).Pairwise λx y=>x.2≠y.2:=
 have laid:=cellsFrom_ok names h h.objs.size [] ⟨by simp,.nil⟩ (G9 _)
 ⟨laid.empty,laid.apart⟩
theorem Ui {scope:Scope}{globals:Addr}{closure:List (Str×Addr)}{qual:Str}{func:Option Addr}{code:Value}{outer:Env}{builtins:Addr}{Q:Env->Shared->Prop}
 (hQ: ∀h',h'.Ns s.heap.objs.size (λ_=>none)->(∀b o,s.heap.get? b=some o->h'.get? b=some o)->(∀n c,(n,c)∈cellsFrom (s.heap.objs.size+1) scope.names []->h'.IsCell c none/\s.heap.objs.size+1<=c)->
  ((cellsFrom (s.heap.objs.size+1) scope.names []).Pairwise λx y=>x.2≠y.2)->
  Q (newEnv scope s.heap.objs.size globals (cellsFrom (s.heap.objs.size+1) scope.names closure) qual func code (some outer) builtins) {s with heap:=h'}):
 wpAny M A (newFunctionEnv scope globals closure [] qual func code (some outer) builtins) Q E s:=by
 have names:=Pj (s.heap.push {cls:= .type "dict",data:= .dict #[]}) scope.names;have first:(s.heap.push {cls:= .type "dict",data:= .dict #[]}).objs.size=s.heap.objs.size+1:=G0b ..
 rw [first] at names;unfold newFunctionEnv;refine wpAny_bind (wpAny_alloc (wpAny_bind (wpAny_layCells _ (λn k cs=>rfl) _ _ _ _ ?_)));simp only [Option.isSome_some,if_true];rw [first];exact wpAny_bind (P1 (P1 (hQ _ ((Heap.Ns.new _ _).keeps (pushCells_keeps _ _)) (λb o here=>pushCells_keeps _ _ b o (G2 _ here)) names.1 names.2)))
end
def jN (X:Cx)(scope:Scope)(C:Addr):List (Str×Addr):=cellsFrom (C+1) scope.names (wF scope.names X.env [])
def YR (X:Cx)(scope:Scope)(C:Addr)(s₀:Shared)(H₀:Hp)(ex:List Addr):Cx:=
 {X with s₀:=s₀,H₀:=H₀,env:=compEnvC scope (jN X scope C) C X.env,outer:=X.stack,ex:=ex,fn:=λx=>scope.names.lookup x==some .cell,pn:= [],xe:=λ_ _=>False}
def jk (X:Cx)(scope:Scope)(X':Cx):Prop:= ∃C s₀ H₀ ex,X'=YR X scope C s₀ H₀ ex
structure BlockOk (X:Cx)(scope:Scope)(js:List Nat):Prop where
 kind:scope.kind= .function
 locs: ∀p∈scope.names,p.2= .local->scope.names.lookup p.1=some .local
 cels: ∀p∈scope.names,p.2= .cell->scope.names.lookup p.1=some .cell
 free: ∀p∈scope.names,p.2= .free->X.env.scope.names.lookup p.1=some .cell\/X.env.scope.names.lookup p.1=some .free
 js: ∀ (i:Nat) (x:Str),X.N[i]? =some x->(scope.names.lookup x=some .local\/scope.names.lookup x=some .cell)->i∈js
variable {js:List Nat}
theorem wO (S:BlockOk X scope js){C:Addr}{x:Str}{c:Addr}(h:(jN X scope C).lookup x=some c):
 (scope.names.lookup x≠some .cell/\X.env.cells.lookup x=some c)\/(scope.names.lookup x=some .cell/\(x,c)∈cellsFrom (C+1) scope.names []):=by
 unfold jN at h;rw [jU,Jv] at h;cases e:(cellsFrom (C+1) scope.names []).lookup x with
 |some d=>
  rw [e] at h;cases h;have m:=wn e;rcases wb _ _ _ _ m with z|⟨_,z⟩
  ·exact absurd z (by simp)
  ·exact .inr ⟨S.cels _ z rfl,m⟩
 |none=>
  rw [e] at h;refine .inl ⟨λz=> ?_,Ym h⟩;obtain⟨d,hd⟩:=Zz (sc:=scope) (n:=C+1) z;rw [e] at hd;cases hd
theorem Zb (S:BlockOk X scope js){C:Addr}{x:Str}{c:Addr}(hc:X.env.cells.lookup x=some c)(h:(x,NameKind.free)∈scope.names)(hn:scope.names.lookup x≠some .cell):(jN X scope C).lookup x=some c:=by
 unfold jN;rw [jU,Jv];cases e:(cellsFrom (C+1) scope.names []).lookup x with
 |some d=>
  rcases wb _ _ _ _ (wn e) with z|⟨_,z⟩
  ·exact absurd z (by simp)
  ·exact absurd (S.cels _ z rfl) hn
 |none=>exact DK hc h
def wa:List Nat->St->St
 | [],σ=>σ
 |j::js,σ=>wa js (σ.set j none)
theorem Yn: ∀ (js:List Nat) (σ:St),(wa js σ).length=σ.length
 | [],_=>rfl
 |j::js,σ=>by rw [wa,Yn js];simp
theorem ZV: ∀ (js:List Nat) (σ:St) (i:Nat) (v:V),(wa js σ)[i]? =some (some v)->σ[i]? =some (some v)
 | [],_,_,_,h=>h
 |j::js,σ,i,v,h=>by
  have h1:=ZV js _ i v h
  by_cases e:i=j
  ·subst e;rw [V3] at h1;simp at h1
  ·rwa [B3 (Ne.symm e)] at h1
theorem zJ: ∀ (js:List Nat) (σ:St) (i:Nat) (v:V),i∈js-> ¬ (wa js σ)[i]? =some (some v)
 |j::js,σ,i,v,hm,h=>by
  rcases R6.mp hm with rfl|hm
  ·have h1:=ZV js _ i v h;rw [V3] at h1;simp at h1
  ·exact zJ js _ i v hm h
theorem HOk.track {h:Heap}{o:HO}(x:HOk P w H h)(hn:H a=none)(new:ObjOk P w (upd H a o) h a o):HOk P w (upd H a o) h:=λb u e=>by
 by_cases hb:b=a
 ·subst hb;rw [jt] at e;cases e;exact new
 ·rw [jl hb] at e;exact(x b u e).stay (λc v _ q=>q) (λc q=>by rw [jl (ji q hn)];exact q) λc xs q=>by rw [jl (ji q hn)];exact q
def Agree (σ σ':St):Prop:=σ'.length=σ.length/\ ∀ (i:Nat) (v:V),σ[i]? =some (some v)->σ'[i]? =some (some v)
theorem Agree.set {σ:St}{j:Nat}(v:V)(h: ∀u,¬σ[j]? =some (some u)):Agree σ (σ.set j (some v)):=⟨by simp,λi u q=>by
 by_cases e:j=i
 ·subst e;exact absurd q (h u)
 ·rw [B3 e];exact q⟩
theorem Agree.trans {a b c:St}(x:Agree a b)(y:Agree b c):Agree a c:=⟨y.1.trans x.1,λi v h=>y.2 i v (x.2 i v h)⟩
def PTs (X:Cx)(ifs:List Expr)(t:TT):Prop:=
 ∀ (pins:List (Addr×Obj)) (s:Shared) (σ:St) (H:Hp) (Q:Bool->Hp->Prop),Inv X pins σ H s->t σ H Q->
  wpAny (model X.prog X.w) X.A (forIn ifs true λc r=>if r=true then do let ok <-isTrue c X.env (eval c X.env);pure (ForInStep.yield ok) else pure (ForInStep.yield r)) (TP X pins σ Q) X.xe s
def Hg:TT:=λ_ H Q=>Q true H
theorem Fg:PTs X [] Hg:=λ_ _ _ H _ I h=>wpAny_tests_nil ⟨H,I,h⟩
theorem Fh {c:Expr}{t:TT}(hc:PT X c t):PTs X [c] t:=λpins s σ H Q I h=>wpAny_tests_one (hc pins s σ H Q I h)
def Yo (iter target:Expr)(ifs:List Expr)(it:Value)(env:Env)(act:Sem Unit)(nxt:Code):Sem PySem.Fin:=do
 standAt iter.pos
 match <-pyNext it with
 |none=>pure (.done .next)
 |some v=>
  letOwnedTupleGo target it v
  assign target env v
  let mut ok:=true
  for c in ifs do
   if ok then ok <-isTrue c env (eval c env)
  if ok then act
  again nxt
variable {elt iter:Expr}{ifs:List Expr}
theorem Gr {A:Around}{R:Result->Shared->Prop}{target:Expr}{gens:List Comprehension}{depth:Nat}{it acc:Value}{act:Sem Unit}(I:Nat->Shared->Prop)
 (heq:compTurn (.ListComp elt gens scope pos) depth it acc env=Yo iter target ifs it env act (.compLoop (.ListComp elt gens scope pos) depth it acc env))
 (turn: ∀n s,I n s->wpAny (model prog w) A (pyNext it) (λr s₁=>match r with
  |none=>R (.ok .next) s₁
  |some v=>wpAny (model prog w) A (letOwnedTupleGo target it v) (λ_ s₁=>wpAny (model prog w) A (assign target env v) (λ_ s₂=>
   wpAny (model prog w) A (forIn ifs true λc r=>if r=true then do let ok <-PySem.isTrue c env (eval c env);pure (ForInStep.yield ok) else pure (ForInStep.yield r)) (λok s₃=>
    if ok=true then wpAny (model prog w) A act (λ_ s₅=> ∃m,m<n/\I m s₅) (λ_ _=>False) s₃
    else ∃m,m<n/\I m s₃) (λ_ _=>False) s₂) (λ_ _=>False) s₁) (λ_ _=>False) s₁) (λ_ _=>False) s)
 (n:Nat)(h:I n s):
 codeAny (model prog w) A (.compLoop (.ListComp elt gens scope pos) depth it acc env) R s:=by
 refine codeAny_loop rfl I (λn s hI=> ?_) n h;show wpAny _ A ((compTurn (.ListComp elt gens scope pos) depth it acc env).onRaise (λx=>do noteFrame x env;theTreesLotGoes x)) _ _ s;refine wpAny_noted ?_;rw [heq];unfold Yo;refine wpAny_bind (U0 (wpAny_bind (R7 (turn n s hI) (λr s₁ h₁=> ?_) λ_ _ h'=>h'.elim)));cases r with
 |none=>exact P1 h₁
 |some v=>
  refine wpAny_bind (R7 h₁ (λ_ s₁ h₁=> ?_) λ_ _ h'=>h'.elim);refine wpAny_bind (R7 h₁ (λ_ s₂ h₂=>wpAny_bind (R7 h₂ (λok s₃ h₃=> ?_) λ_ _ h'=>h'.elim)) λ_ _ h'=>h'.elim);cases ok with
  |false=>exact P1 ⟨rfl,h₃⟩
  |true=>exact wpAny_bind (R7 h₃ (λ_ s₅ h₅=>P1 ⟨rfl,h₅⟩) λ_ _ h'=>h'.elim)
abbrev TM:=St->Hp->List V->(List V->Hp->Prop)->Prop
def Sa (X:Cx)(D:Addr)(act:Sem Unit)(t:TM):Prop:=
 ∀ (pins:List (Addr×Obj)) (s:Shared) (σ:St) (H:Hp) (ys:List V) (us:List Value) (Q:List V->Hp->Prop),Inv X ([(D,LCg.lst us)]++pins) σ H s->Vals ys us->ys.length<=sizeLine->D∈X.ex->(∀x c,X.env.cells.lookup x=some c->c≠D)->(∀p∈X.pn++pins,p.1≠D)->t σ H ys Q->
  wpAny (model X.prog X.w) X.A act (λ_ s'=> ∃ys' us' H',Vals ys' us'/\Inv X ([(D,LCg.lst us')]++pins) σ H' s'/\Q ys' H') (λ_ _=>False) s
def Ak (te:TE):TM:=λσ H ys Q=>te σ H λy H1=>Q (ys++ [y]) H1
def Yp (elt:Expr)(env:Env)(acc:Value):Sem Unit:=do let _ <-call (.builtin "list.append") [acc,<-eval elt env]
variable {te:TE}
theorem YS {D:Addr}(hx:X.xe=λ_ _=>False)(he:PE X elt te):Sa X D (Yp elt X.env (.ref D)) (Ak te):=by
 intro pins s σ H ys us Q I hv hz DX cD pD h;have q:=he _ s σ H _ I h;rw [hx] at q;unfold Yp;refine wpAny_bind (R7 q (λy s1 ⟨yv,H1,I1,r1,q1⟩=> ?_) λ_ _ z=>z);have zD:=I1.pin (D,LCg.lst us) (P5 _ (T5 _ P8));refine wpAny_bind (append_at (its:=us.toArray) (n:=us.length) zD.1 (λh11 hs11 hD11=>P1 ?_) (by rw [D0,<-hv.length];exact hz));have I10u:Inv X pins σ H1 s1:=I1.pins_of λp hp=>I1.pin p (P5 _ (P5 _ hp))
 have I11:Inv X pins σ H1 {s1 with heap:=h11}:=I10u.turned (t':=s1.toks) (it:=D) (λb o hb e=>hs11.extBut b o hb e) zD.2.1 zD.2.2.1 (.inl DX) cD pD;have eD:h11.get? D=some (LCg.lst (us++ [y])):=by rw [hD11];exact congrArg some (LCg.lst_snoc us y)
 refine⟨ys++ [yv],us++ [y],H1,hv.append (.cons r1 .nil),I11.pins_of λp hp=> ?_,q1⟩;rcases P7.mp hp with z|z
 ·rcases G5.mp z with rfl
  exact⟨eD,zD.2.1,zD.2.2.1,zD.2.2.2.1,λv z=>by cases z⟩
 ·exact I11.pin p (P5 _ z)
def Sb (js : List Nat) (wi : TI) (g : TG) (tt : TT) (tm : TM) : TE := fun σ H Q => wi σ H fun J H1 =>
  ∃ W : Nat → Nat → List V → Hp → Prop, (∃ m, W 0 m [] H1) ∧ ∀ i m ys H, W i m ys H → ys.length ≤ sizeLine ∧
    ((J.stop i H ∧ ∀ p, H p = none → Q (.ref p) (upd H p (.lst ys))) ∨
     (J.go i H ∧ ∀ x H', J.yld i H x H' → g x (wa js σ) H' fun σ2 H2 => Agree (wa js σ) σ2 ∧ tt σ2 H2 fun b H3 =>
        if b = true then tm σ2 H3 ys fun ys' H4 => ∃ m', m' < m ∧ W (i + 1) m' ys' H4 else ∃ m', m' < m ∧ W (i + 1) m' ys H3))
def tLC (js:List Nat)(wi:TI)(g:TG)(tt:TT)(te:TE):TE:=Sb js wi g tt (Ak te)
variable {tg:Expr}{wi:TI}{g:TG}{tt:TT}
theorem DL {e:Expr}{rest:List Comprehension}{pos0:Pos}{tm:TM}{use:Option (Value->Sem Unit)}{Qv:Value->Shared->Prop}(hc:X.calm=true)(S:BlockOk X scope js)(hi:PI X tg iter wi)
 (he0:e= .ListComp elt (⟨tg,iter,ifs,0⟩::rest) scope pos)
 (hg: ∀X',jk X scope X'->PG X' tg g)(ht: ∀X',jk X scope X'->PTs X' ifs tt)
 (act:Env->Value->Sem Unit)(hturn: ∀it acc env,compTurn e 0 it acc env=Yo iter tg ifs it env (act env acc) (.compLoop e 0 it acc env))(he: ∀X',jk X scope X'-> ∀D,Sa X' D (act X'.env (.ref D)) tm)
 (hs: ∀x,foldedSetIterable iter X.env x=pure x){pins:List (Addr×Obj)}{s:Shared}{σ:St}{H:Hp}{Q:VK}(I:Inv X pins σ H s)(h:Sb js wi g tt tm σ H Q)
 (fin: ∀ (D C:Addr) (H':Hp) (s':Shared) (m:Str->Option Value),s'.heap.Ns C m->(∀h',Heap.SameBut C s'.heap h'->Inv X pins σ H' {s' with heap:=h'})->H' C=none->C≠X.env.locals->C ∉ X.fs->X.s₀.heap.objs.size<=C->(∀x c,X.env.cells.lookup x=some c->c≠C)->(∀p∈X.pn++pins,p.1≠C)->
  Q (.ref D) H'->compPost (model X.prog X.w) X.A X.xe use Qv (.ref D) C (.ok .next) s'):
 wpAny (model X.prog X.w) X.A (comprehension e scope X.env pos0 (newList []) false (eval iter X.env) use) Qv X.xe s:=by
 have hclos:=YQ (scope:=scope) (env:=X.env) (λp hp e=>I.ok.has p.1 (S.free p hp e));subst he0;refine wpAny_comprehension_free (use:=use) rfl hs hclos S.kind S.locs (thn (hi pins s σ H _ I h) λv s1 h1=>thn h1 λitv s2 h2=> ?_);obtain⟨it,fp,tn,J,H2,e,I2,T,st2,f2,W,⟨m0,w0⟩,turn⟩:=h2;subst e;refine A8 (Ui (λh₁ hns₁ hkp₁ hcl₁ hap₁=> ?_));dsimp only at hns₁ hkp₁ hcl₁ hap₁ ⊢;generalize hD:s2.heap.objs.size=D;generalize hH3:s2.heap.push {cls:= .type "list",dict:=none,data:= .seq ([]:List Value).toArray}=h3 at hns₁ hkp₁ hcl₁ hap₁ ⊢;have sz3:h3.objs.size=D+1:=by rw [<-hH3,G0b,hD]
 have up3: ∀b o,s2.heap.get? b=some o->h3.get? b=some o:=λb o e=>hH3 ▸ G2 _ e
 have I3:Inv X pins σ H2 {s2 with heap:=h3}:=I2.kept (t':=s2.toks) up3;have hD3:h3.get? D=some (LCg.lst []):=by rw [<-hH3,<-hD];exact R3 _ rfl
 have fD:Db X pins H2 D:=I2.fpOk (by rw [hD];exact G9 _) (I2.hok.fresh (by rw [hD];exact G9 _));have obf: ∀b∈fp,∃o,s2.heap.get? b=some o/\ ∀v,o.data≠ .cell v:=T.obj _ _ st2;have ltf: ∀b∈fp,b<D:=λb hb=>by obtain⟨o,e,_⟩:=obf b hb;rw [<-hD];exact D5 e
 generalize hC:h3.objs.size=C at hns₁ hcl₁ hap₁ ⊢;have CD:C=D+1:=hC.symm.trans sz3;have upC: ∀b o,h3.get? b=some o->h₁.get? b=some o:=hkp₁;generalize hX:YR X scope C {s2 with heap:=h3} H2 (fp++ [D])=X';have iX:jk X scope X':=⟨C,_,_,_,hX.symm⟩;have hf: ∀b∈fp++ [D],Db X pins H2 b:=λb hb=>(P7.mp hb).elim (f2 b) λz=>by rw [G5.mp z];exact fD
 have cl: ∀x c,(jN X scope C).lookup x=some c->X.env.cells.lookup x=some c\/C<c:=λx c e=>by
  rcases wO S e with ⟨_,z⟩|⟨_,z⟩
  ·exact .inl z
  ·exact .inr (V4 (hcl₁ x c z).2)
 have olt: ∀x c,X.env.cells.lookup x=some c->c<C:=λx c e=>by obtain⟨v,q⟩:=I3.cell x c e;rw [<-hC];exact q.lt
 have ltb: ∀b∈fp++ [D],b<C:=λb hb=>(P7.mp hb).elim (λz=>by have:=ltf b z;rw [CD];exact Nat.lt_succ_of_lt this) λz=>by rw [G5.mp z,CD];exact L6 _
 have okX:X'.Ok:=by
  subst hX;refine⟨I.ok.mod,S.kind,I.ok.glob,I.ok.blt,A3 hC,λx y c e1 e2=> ?_,λx hx=> ?_,λx c z e=> ?_,I.ok.hd,I.ok.frames,.inl rfl,λb hb=>⟨S3 (ltb b hb),λx c e=>(cl x c e).elim (λz=>(hf b hb).2.2.2.2.1 x c z) λz=>J4 (W1 (ltb b hb) z)⟩,
   I3.bs,D7 I.ok.bsz I3.sz,λb o e hb=> ?_,λb hb z=> ?_,I3.stack,I3.stkFree⟩
  ·rcases wO S e1 with ⟨_,z1⟩|⟨_,z1⟩<;>rcases wO S e2 with ⟨_,z2⟩|⟨_,z2⟩
   ·exact I.ok.inj x y c z1 z2
   ·exact absurd (W1 (olt x c z1) (V4 (hcl₁ y c z2).2)) (B2 _)
   ·exact absurd (W1 (olt y c z2) (V4 (hcl₁ x c z1).2)) (B2 _)
   ·exact name_of_addr hap₁ z1 z2
  ·have own:scope.names.lookup x=some .cell-> ∃c,(jN X scope C).lookup x=some c:=λz=>by
    obtain⟨c,hc⟩:=Zz (sc:=scope) (n:=C+1) z;exact⟨c,by unfold jN;rw [jU,Jv,hc]⟩
   have shr:scope.names.lookup x=some .free-> ∃c,(jN X scope C).lookup x=some c:=λz=>by
    have fm:=wn z;obtain⟨c,hc⟩:=I.ok.has x (S.free _ fm rfl);exact⟨c,Zb S hc fm (by rw [z];decide)⟩
   rcases hx with hx|hx
   ·rcases zb (env:=X.env) hx with z|z
    ·exact own z
    ·exact shr z
   ·rcases zb (env:=X.env) hx with z|z<;>exact shr z
  ·have z':scope.names.lookup x=some .cell:=by
    have z2:(scope.names.lookup x==some NameKind.cell)=true:=z;simpa using z2
   rcases wO S e with ⟨n,_⟩|⟨_,m⟩
   ·exact absurd z' n
   ·show h3.objs.size<=c;rw [hC];exact D8 (V4 (hcl₁ x c m).2)
  ·rcases (hf b hb).2.2.2.1 with z|z
   ·exact I.ok.noex b o e z
   ·exact absurd (S0 (D5 e) (D7 I.ok.bsz z)) (B2 _)
  ·rcases R6.mp (I.stkSub b z) with q|q
   ·exact(hf b hb).2.1 q
   ·exact(hf b hb).2.2.1 q
 -- the block's first state
 have I4:Inv X' [(D,LCg.lst [])] (wa js σ) H2 {s2 with heap:=h₁}:=by
  subst hX;have hDC:D≠C:=by rw [CD];exact S3 (L6 _)
  refine⟨okX,rfl,I2.bare,Un.kept (λb u e=>upC b u e),⟨_,hns₁,λi x v e1 e2 e3=> ?_⟩,λx c e=> ?_,I3.hok.fresh (A3 hC),λx c e=>(cl x c e).elim (λz=>I2.freeC x c z) (λz=>I3.hok.fresh (by rw [<-hC] at z;exact D8 z)),λp hp=> ?_,I3.hok.kept upC,(Yn js σ).trans I2.len⟩
  ·have fr:scope.names.lookup x=some .free:=by
    rcases e3 with e3|e3|e3
    ·rcases zb (env:=X.env) e3 with z|z
     ·exact absurd e2 (zJ js σ i v (S.js i x e1 (.inl z)))
     ·exact z
    ·rcases zb (env:=X.env) e3 with z|z
     ·exact absurd e2 (zJ js σ i v (S.js i x e1 (.inr z)))
     ·exact z
    ·rcases zb (env:=X.env) e3 with z|z<;>exact z
   have fm:=wn fr;obtain⟨m,hm,hl⟩:=I2.loc;have vis:=S.free _ fm rfl;obtain⟨u,r,lk⟩:=hl i x v e1 (ZV js σ i v e2) (.inr vis);have kd:(relabel scope X.env).names.lookup x=some .cell\/(relabel scope X.env).names.lookup x=some .free:=by
    rcases e3 with e3|e3|e3
    ·rcases zb (env:=X.env) e3 with z|z
     ·rw [fr] at z;cases z
     ·exfalso;have z2:=e3
      -- a local's kind stays
      exact absurd e2 (zJ js σ i v (S.js i x e1 (.inl (by
       have q: ∀ (l:List (Str×NameKind)),(l.map λ(n,k)=>if (k==NameKind.free&&X.env.scope.kind== .function&&X.env.kindOf n==some .cell) then (n,NameKind.cell) else (n,k)).lookup x=some .local->l.lookup x=some .local:=by
        intro l
        induction l with
        |nil=>intro h;simp at h
        |cons p l ih=>
         obtain⟨n,k'⟩:=p;intro h;have h':List.lookup x ((if (k'==NameKind.free&&X.env.scope.kind== .function&&X.env.kindOf n==some .cell)=true then (n,NameKind.cell) else (n,k'))::(l.map λ(n,k)=>if (k==NameKind.free&&X.env.scope.kind== .function&&X.env.kindOf n==some .cell) then (n,NameKind.cell) else (n,k)))=some .local:=h;rw [C8]
         by_cases hc:(k'==NameKind.free&&X.env.scope.kind== .function&&X.env.kindOf n==some .cell)=true
         ·rw [if_pos hc,C8] at h';cases hx:x==n with
          |true=>rw [hx] at h';cases h'
          |false=>rw [hx] at h';exact ih h'
         ·rw [if_neg hc,C8] at h';cases hx:x==n with
          |true=>rw [hx] at h';exact h'
          |false=>rw [hx] at h';exact ih h'
       exact q _ z2))))
    ·exact .inl e3
    ·exact .inr e3
   rcases lk with ⟨k,_⟩|⟨_,c,hc,hcell⟩
   ·have k':X.env.scope.names.lookup x=some .local:=k;rcases vis with z|z<;>(rw [k'] at z;cases z)
   ·refine⟨u,r,.inr ⟨kd,c,Zb S hc fm (by rw [fr];decide),?_⟩⟩;obtain⟨o,ho,hd⟩:=hcell;exact⟨o,upC _ _ (up3 _ _ ho),hd⟩
  ·rcases wO S e with ⟨_,z⟩|⟨_,z⟩
   ·obtain⟨v,o,ho,hd⟩:=I2.cell x c z;exact⟨v,o,upC _ _ (up3 _ _ ho),hd⟩
   ·exact⟨none,(hcl₁ x c z).1⟩
  ·have hp':p∈ [(D,LCg.lst [])]:=hp;rcases G5.mp hp' with rfl
   refine⟨upC _ _ hD3,fD.1,hDC,λz=> ?_,λv z=>by cases z⟩;rcases R6.mp (I.stkSub D z) with q|q
   ·exact fD.2.1 q
   ·exact fD.2.2.1 q
 have st4:tn 0 h₁:=T.keep _ _ _ st2 λb _ o e=>upC _ _ (up3 _ _ e)
 have eA:X'.A=X.A:=by rw [<-hX];rfl
 have eP:X'.prog=X.prog:=by rw [<-hX];rfl
 have eW:X'.w=X.w:=by rw [<-hX];rfl
 have eK:X'.K=X.K:=by rw [<-hX];rfl
 have eC:X'.calm=true:=by rw [<-hX];exact hc
 have eV:X'.env=compEnvC scope (jN X scope C) C X.env:=by rw [<-hX];rfl
 have eE:X'.xe=λ_ _=>False:=by rw [<-hX];rfl
 -- what stays true of the iterator's objects
 have stat: ∀ {us:List Value} {H':Hp},(∀b∈fp,H' b=none)-> ∀b∈fp,Db X' [(D,LCg.lst us)] H' b:=λ{us H'} hn b hb=>by
  have q:=hf b (T5 _ hb);subst hX;refine⟨hn b hb,S3 (ltb b (T5 _ hb)),λz=> ?_,.inl (T5 _ hb),λx c e=>(cl x c e).elim (λz=>q.2.2.2.2.1 x c z) (λz=>J4 (W1 (ltb b (T5 _ hb)) z)),λp hp=> ?_⟩
  ·rcases R6.mp (I.stkSub b z) with r|r
   ·exact q.2.1 r
   ·exact q.2.2.1 r
  ·have hp':p∈ [(D,LCg.lst us)]:=hp;rcases G5.mp hp' with rfl
   exact J4 (ltf b hb)
 have loop: ∀s₃:Shared,s₃= {s2 with heap:=h₁}->
  codeAny (model X.prog X.w) X.A (.compLoop (.ListComp elt (⟨tg,iter,ifs,0⟩::rest) scope pos) 0 (.ref it) (.ref D) (compEnvC scope (jN X scope C) C X.env))
   (compPost (model X.prog X.w) X.A X.xe use Qv (.ref D) C) s₃:=by
  rintro s₃ rfl;refine Gr (act:=act (compEnvC scope (jN X scope C) C X.env) (.ref D)) (λn s'=> ∃i ys us H',Vals ys us/\Inv X' [(D,LCg.lst us)] (wa js σ) H' s'/\tn i s'.heap/\(∀b∈fp,H' b=none)/\W i n ys H') (hturn _ _ _) ?_ m0
   ⟨0,[],[],H2,.nil,I4,st4,λb hb=>(f2 b hb).1,w0⟩
  rintro n s5 ⟨i,ys,us,H5,hv5,I5,st5,fr5,w5⟩;obtain⟨hz,tr⟩:=turn i n ys H5 w5;rcases tr with ⟨stop,qn⟩|⟨go,step⟩
  ·have q:=T.done X' eP eW eK eC i _ s5 _ H5 (λ_ _=>False) I5 (stat fr5) st5 stop;rw [eA] at q;refine R7 q (λr s6 ⟨hr,I6⟩=> ?_) λ_ _ z=>z
   subst hr;obtain⟨m6,hm6,_⟩:=I6.loc;rw [eV] at hm6;have zD:=I6.pin (D,LCg.lst us) (P5 _ P8);have HD:H5 D=none:=zD.2.1;have oD:s6.heap.get? D=some (LCg.lst us):=zD.1;have hDC:D≠C:=by rw [CD];exact S3 (L6 _)
   have HC:H5 C=none:=by have z:=I6.free;rw [eV] at z;exact z
   have B:=I6.base;have os6:s6.os=s2.os:=by have z:=I6.os;rw [<-hX] at z;exact z
   have Bu:Un (frs X.stack) (fp++ [D]) H2 H5 h3 s6.heap:=by rw [<-hX] at B;exact B
   have neC: ∀b o,h3.get? b=some o->b≠C:=λb o e=>by rw [<-hC];exact S3 (D5 e)
   refine fin D C (upd H5 D (.lst ys)) s6 m6 hm6 (λh' hs'=> ?_) (by rw [jl (Ne.symm hDC)];exact HC) ?_ ?_ ?_ (λx c e=>S3 (olt x c e)) ?_ (qn D HD)
   ·have hk5:HOk X.prog X.w H5 h':=λb u e=>by
     have z:=I6.hok b u e;rw [eP,eW] at z;refine z.stay (λc v hc q=>hs'.extBut c v ?_ q) (λ_ q=>q) λ_ _ q=>q
     rcases hc with rfl|hc
     ·exact ji e HC
     ·exact ji hc HC
    refine I3.call' (ch:=fp++ [D]) os6 ⟨λb o e n hb hx=> ?_,λb o e n hb hx=> ?_,λb o e n hx=> ?_,λb o e hx=> ?_,λb xs e=> ?_,λb o u e=> ?_,λb ps e=> ?_⟩ (hk5.track HD ?_) I6.bare λb hb=> ?_
    ·exact hs'.extBut b o (neC b o e) (Bu.keep b o e n hb hx)
    ·obtain⟨sl,q⟩:=Bu.slot b o e n hb hx;exact⟨sl,hs'.extBut b _ (neC b o e) q⟩
    ·rw [jl λz=>hx (by rw [z];exact P5 _ P8)];exact Bu.free b o e n hx
    ·obtain⟨o',q⟩:=Bu.there b o e hx;exact⟨o',hs'.extBut b _ (neC b o e) q⟩
    ·have z:=Bu.tups b xs e;rw [jl (ji z HD)];exact z
    ·have z:=Bu.frzs b o u e;rw [jl (ji z HD)];exact z
    ·obtain⟨more,z⟩:=Bu.tbls b ps e;exact⟨more,by rw [jl (ji z HD)];exact z⟩
    ·exact⟨hz,us,us.length,hv5,hs'.extBut D _ hDC oD⟩
    ·have q:=hf b hb;exact⟨q.2.2.2.1,q.2.1,q.2.2.2.2.1,q.2.2.2.2.2⟩
   ·rw [<-hC];exact J4 I3.lt
   ·exact I3.nofs (A3 hC)
   ·rw [<-hC];exact I3.sz
   ·intro p hp;have:=(I3.pin p hp).1;rw [<-hC];exact S3 (D5 this)
  ·have q:=T.item X' eP eW eK eC i _ s5 _ H5 (λ_ _=>False) I5 (stat fr5) st5 go;rw [eA] at q;refine R7 q (λr s6 ⟨u,hr,h6⟩=> ?_) λ_ _ z=>z
   subst hr;refine R7 h6 (λ_ s7 ⟨x,H7,I7,r7,y7,st7,fr7⟩=> ?_) λ_ _ z=>z
   have I7':=I7.pinned (stat fr7) (T.obj _ _ st7);have q7:=hg X' iX _ s7 _ H7 x u _ I7' r7 (step x H7 y7);rw [eP,eW,eA,eV,eE] at q7;refine R7 q7 (λ_ s8 ⟨σ8,H8,I8,ag8,q8⟩=> ?_) λ_ _ z=>z
   have q9:=ht X' iX _ s8 σ8 H8 _ I8 q8;rw [eP,eW,eA,eV,eE] at q9;refine R7 q9 (λok s9 ⟨H9,I9,q9⟩=> ?_) λ_ _ z=>z
   have keepT: ∀ {σ':St} {H':Hp} {s':Shared} {us:List Value},Inv X' ([(D,LCg.lst us)]++va fp s7.heap) σ' H' s'->tn (i+1) s'.heap/\ ∀b∈fp,H' b=none:=λ{σ' H' s' us} I'=>
    ⟨T.keep _ _ _ st7 λb hb o e=>(I'.pin (b,o) (P5 _ (P5 _ (wm hb e)))).1,λb hb=>by
     obtain⟨o,e,_⟩:=T.obj _ _ st7 b hb;exact(I'.pin (b,o) (P5 _ (P5 _ (wm hb e)))).2.1⟩
   cases ok with
   |false=>
    have q9: ∃m',m'<n/\W (i+1) m' ys H9:=q9;obtain⟨m',hm,w9⟩:=q9;obtain⟨t9,f9⟩:=keepT I9;exact⟨m',hm,i+1,ys,us,H9,hv5,(I9.unpinned).weak ag8.1.symm ag8.2,t9,f9,w9⟩
   |true=>
    have q9:tm σ8 H9 ys λys' H4=> ∃m',m'<n/\W (i+1) m' ys' H4:=q9
    have DX:D∈X'.ex:=by rw [<-hX];exact P5 _ P8
    have pD: ∀p∈X'.pn++va fp s7.heap,p.1≠D:=λp hp=>by
     have hp':p∈va fp s7.heap:=by rw [<-hX] at hp;simpa [YR] using hp
     exact S3 (ltf _ (ZL hp').1)
    have cD: ∀x c,X'.env.cells.lookup x=some c->c≠D:=λx c e=>by
     rw [eV] at e;exact(cl x c e).elim (λz=>fD.2.2.2.2.1 x c z) λz=>J4 (W1 (by rw [CD];exact L6 _) z)
    have q10:=he X' iX D _ s9 σ8 H9 ys us _ I9 hv5 hz DX cD pD q9;rw [eP,eW,eA,eV] at q10;show wpAny _ _ (act _ _) _ _ s9;refine R7 q10 (λ_ s10 ⟨ys',us',H10,hv10,I10,m',hm,w10⟩=> ?_) λ_ _ z=>z
    obtain⟨t10,f10⟩:=keepT I10;exact⟨m',hm,i+1,ys',us',H10,hv10,(I10.unpinned).weak ag8.1.symm ag8.2,t10,f10,w10⟩
 exact codeAny_compStart_list (loop _ rfl) (T.self X.A 0 _ _ _ st4 (loop _ rfl))
theorem Al (hc:X.calm=true)(S:BlockOk X scope js)(hi:PI X tg iter wi)
 (hg: ∀X',jk X scope X'->PG X' tg g)(ht: ∀X',jk X scope X'->PTs X' ifs tt)(he: ∀X',jk X scope X'->PE X' elt te)
 (hs: ∀x,foldedSetIterable iter X.env x=pure x:=by intro _;rfl):PE X (.ListComp elt [⟨tg,iter,ifs,0⟩] scope pos) (tLC js wi g tt te):=by
 intro pins s σ H Q I h;rw [eval_ListComp];exact DL (use:=none) hc S hi rfl hg ht (Yp elt) (λ_ _ _=>rfl) (λX' hX D=>YS (by obtain⟨_,_,_,_,rfl⟩:=hX;rfl) (he X' hX)) hs I h
  λD C H' s' m hn hk _ _ _ _ _ _ q=>⟨m,hn,λh' hs'=>⟨.ref D,H',hk h' hs',rfl,q⟩⟩
theorem DM {e:Expr}{rest:List Comprehension}{pos' spos:Pos}{g':TG}{tm:TM}(hc:X.calm=true)(S:BlockOk X scope js)(hi:PI X tg iter wi)
 (he0:e= .ListComp elt (⟨tg,iter,ifs,0⟩::rest) scope pos)(hg: ∀X',jk X scope X'->PG X' tg g)(ht: ∀X',jk X scope X'->PTs X' ifs tt)
 (act:Env->Value->Sem Unit)(hturn: ∀it acc env,compTurn e 0 it acc env=Yo iter tg ifs it env (act env acc) (.compLoop e 0 it acc env))(he: ∀X',jk X scope X'-> ∀D,Sa X' D (act X'.env (.ref D)) tm)
 (hg':PG X (.Name x pos') g')(hsw:swapsWith e (some (.Name x pos')) spos.line X.env=pure true)
 (hs: ∀x,foldedSetIterable iter X.env x=pure x):PS X (.Assign [.Name x pos'] e spos) (BW (Sb js wi g tt tm) g'):=by
 intro pins s σ H Dn I h;rw [exec_Assign_Name_used _ _ _ _ hsw];refine wpAny_bind (U0 (wpAny_bind ?_));subst he0;rw [arm_evalThenUse_ListComp];show wpAny _ X.A (do let _ <-comprehension (.ListComp elt (⟨tg,iter,ifs,0⟩::rest) scope pos) scope X.env _ (newList []) false (eval iter X.env) (some (assign (.Name x pos') X.env))) _ _ s;refine wpAny_bind (R7 (DL (use:=some (assign (.Name x pos') X.env)) (Qv:=λ_ s'=>SP X pins Dn .next s') hc S hi rfl hg ht act hturn he hs I h ?_) (λ_ s' hq=>P1 (P1 hq)) λ_ _ e=>e);intro D C H' s' m hn hk HC nL nf sz ncell npin q;show wpAny _ X.A (assign (.Name x pos') X.env (.ref D)) _ _ s';obtain⟨o,es,ep,ho,hd,hr⟩:=id hn;have I1:Inv X pins σ H' s':=hk s'.heap (Heap.SameBut.refl ..);have I2:Inv X (pins++ [(C,o)]) σ H' s':=I1.pins_of λp hp=>by
  rcases P7.mp hp with z|z
  ·exact I1.pin p (P5 _ z)
  ·rcases G5.mp z with rfl
   exact⟨ho,HC,nL,nf,λv z=>by rw [hd] at z;cases z⟩
 refine R7 (hg' _ s' σ H' (.ref D) (.ref D) _ I2 rfl q) (λ_ s3 ⟨σ3,H3,I3,q3⟩=> ?_) λ_ _ z=>z
 have pC:=I3.pin (C,o) (P5 _ (P5 _ P8));refine⟨m,hn.at' λo' e'=> ?_,λh' hs'=> ?_⟩
 ·rw [ho] at e';cases e';exact pC.1
 ·exact⟨σ3,H3,(I3.unpinned).turned (t':=s3.toks) (it:=C) (λb o hb e=>hs'.extBut b o hb e) pC.2.1 nL (.inr sz) ncell npin,q3⟩
theorem Nt {pos' spos:Pos}{g':TG}(hc:X.calm=true)(S:BlockOk X scope js)(hi:PI X tg iter wi)
 (hg: ∀X',jk X scope X'->PG X' tg g)(ht: ∀X',jk X scope X'->PTs X' ifs tt)(he: ∀X',jk X scope X'->PE X' elt te)
 (hg':PG X (.Name x pos') g')(hsw:swapsWith (.ListComp elt [⟨tg,iter,ifs,0⟩] scope pos) (some (.Name x pos')) spos.line X.env=pure true)
 (hs: ∀x,foldedSetIterable iter X.env x=pure x:=by intro _;rfl):PS X (.Assign [.Name x pos'] (.ListComp elt [⟨tg,iter,ifs,0⟩] scope pos) spos) (BW (tLC js wi g tt te) g'):=
 DM hc S hi rfl hg ht (Yp elt) (λ_ _ _=>rfl) (λX' hX D=>YS (by obtain⟨_,_,_,_,rfl⟩:=hX;rfl) (he X' hX)) hg' hsw hs
def Pk (e iter:Expr)(env:Env)(acc:Value):Sem Unit:=do
 let x <-eval iter env
 standAt iter.pos
 let x <-foldedSetIterable iter env x
 let _ <-runOwn (.compStart e 1 (<-holding [x] (pyIter x)) acc env) env
def mIn (wi : TI) (g : TG) (tt : TT) (tm : TM) : TM := fun σ H ys Q => wi σ H fun J H1 =>
  ∃ W : Nat → Nat → List V → Hp → Prop, (∃ m, W 0 m ys H1) ∧ ∀ i m ys H, W i m ys H → ys.length ≤ sizeLine ∧
    ((J.stop i H ∧ Q ys H) ∨
     (J.go i H ∧ ∀ x H', J.yld i H x H' → g x σ H' fun σ2 H2 => Agree σ σ2 ∧ tt σ2 H2 fun b H3 =>
        if b = true then tm σ2 H3 ys fun ys' H4 => ∃ m', m' < m ∧ W (i + 1) m' ys' H4 else ∃ m', m' < m ∧ W (i + 1) m' ys H3))
theorem vZ {A:Around}{R:Result->Shared->Prop}{g0 g1:Comprehension}{it acc:Value}(ha:g1.is_async=0)
 (h0:codeAny (model prog w) A (.compLoop (.ListComp elt [g0,g1] scope pos) 1 it acc env) R s)
 (h:wpAny (model prog w) A (pyIter it) (λit' s'=>codeAny (model prog w) A (.compLoop (.ListComp elt [g0,g1] scope pos) 1 it' acc env) R s')
  (notedBy (model prog w) A env λx s'=>R (.error x) s') s):
 codeAny (model prog w) A (.compStart (.ListComp elt [g0,g1] scope pos) 1 it acc env) R s:=by
 obtain⟨tg,iter,ifs,as⟩:=g1;cases (show as=0 from ha);refine codeAny_of_tree (wpAny_notedAt ?_);obtain⟨hp,g,d,tk,os⟩:=s;unfold compStart
 wp_walk
 refine wpAny_askSetting ?_;split
 ·exact P1 ⟨rfl,h0⟩
 ·exact wpAny_bind (X6 (wpAny_bind (U0 (wpAny_bind (R7 h (λ_ _ on=>P1 ⟨rfl,on⟩) λ_ _ x=>x)))))
theorem DN {D:Addr}{g0:Comprehension}(hc:X.calm=true)(hx:X.xe=λ_ _=>False)
 (hi:PI X tg iter wi)(hg:PG X tg g)(ht:PTs X ifs tt)(he:PE X elt te)(hs: ∀x,foldedSetIterable iter X.env x=pure x):
 Sa X D (Pk (.ListComp elt [g0,⟨tg,iter,ifs,0⟩] scope pos) iter X.env (.ref D)) (mIn wi g tt (Ak te)):=by
 intro pins s σ H ys us Q I hv hz DX cD pD h;have q:=hi _ s σ H _ I h;rw [hx] at q;unfold Pk;refine wpAny_bind (R7 q (λv s1 h1=>wpAny_bind (U0 (wpAny_bind (wpAny_of_eq (hs v) (wpAny_bind (F9 (R7 h1 (λitv s2 h2=> ?_) λ_ _ z=>z))))))) λ_ _ z=>z);obtain⟨it,fp,tn,J,H2,e,I2,T,st2,f2,W,⟨m0,w0⟩,turn⟩:=h2;subst e;refine wpAny_bind (wpAny_runOwn ?_);have neD: ∀b∈fp,b≠D:=λb hb=>by
  have z:=(f2 b hb).2.2.2.2.2 (D,LCg.lst us) (P5 _ (T5 _ P8));exact Ne.symm z
 have stat: ∀ {us':List Value} {H':Hp},(∀b∈fp,H' b=none)-> ∀b∈fp,Db X ([(D,LCg.lst us')]++pins) H' b:=λ{us' H'} hn b hb=>by
  have q:=f2 b hb;refine⟨hn b hb,q.2.1,q.2.2.1,q.2.2.2.1,q.2.2.2.2.1,λp hp=> ?_⟩;rcases P7.mp hp with z|z
  ·exact q.2.2.2.2.2 p (T5 _ z)
  ·rcases P7.mp z with z|z
   ·rcases G5.mp z with rfl
    exact Ne.symm (neD b hb)
   ·exact q.2.2.2.2.2 p (P5 _ (P5 _ z))
 have loop:codeAny (model X.prog X.w) X.A (.compLoop (.ListComp elt [g0,⟨tg,iter,ifs,0⟩] scope pos) 1 (.ref it) (.ref D) X.env)
  (λr s'=>match r with| .ok f=>wpAny (model X.prog X.w) X.A (pure ()) (λ_ s'=> ∃ys' us' H',Vals ys' us'/\Inv X ([(D,LCg.lst us')]++pins) σ H' s'/\Q ys' H') (λ_ _=>False) s'| .error e=>cameBackBy (model X.prog X.w) X.A X.env (λ_ _=>False) e s') s2:=by
  refine Gr (act:=Yp elt X.env (.ref D)) (λn s'=> ∃i ys us H',Vals ys us/\Inv X ([(D,LCg.lst us)]++pins) σ H' s'/\tn i s'.heap/\(∀b∈fp,H' b=none)/\W i n ys H') rfl ?_ m0
   ⟨0,ys,us,H2,hv,I2,st2,λb hb=>(f2 b hb).1,w0⟩
  rintro n s5 ⟨i,ys,us,H5,hv5,I5,st5,fr5,w5⟩;obtain⟨hz,tr⟩:=turn i n ys H5 w5;rcases tr with ⟨stop,qn⟩|⟨go,step⟩
  ·refine R7 (T.done X rfl rfl rfl hc i _ s5 _ H5 (λ_ _=>False) I5 (stat fr5) st5 stop) (λr s6 ⟨hr,I6⟩=> ?_) λ_ _ z=>z
   subst hr;exact P1 ⟨ys,us,H5,hv5,I6,qn⟩
  ·refine R7 (T.item X rfl rfl rfl hc i _ s5 _ H5 (λ_ _=>False) I5 (stat fr5) st5 go) (λr s6 ⟨u,hr,h6⟩=> ?_) λ_ _ z=>z
   subst hr;refine R7 h6 (λ_ s7 ⟨x,H7,I7,r7,y7,st7,fr7⟩=> ?_) λ_ _ z=>z
   have I7':=I7.pinned (stat fr7) (T.obj _ _ st7);have q7:=hg _ s7 _ H7 x u _ I7' r7 (step x H7 y7);rw [hx] at q7;refine R7 q7 (λ_ s8 ⟨σ8,H8,I8,ag8,q8⟩=> ?_) λ_ _ z=>z
   have q9:=ht _ s8 σ8 H8 _ I8 q8;rw [hx] at q9;refine R7 q9 (λok s9 ⟨H9,I9,q9⟩=> ?_) λ_ _ z=>z
   have keepT: ∀ {σ':St} {H':Hp} {s':Shared} {us:List Value},Inv X (([(D,LCg.lst us)]++pins)++va fp s7.heap) σ' H' s'->tn (i+1) s'.heap/\ ∀b∈fp,H' b=none:=λ{σ' H' s' us} I'=>
    ⟨T.keep _ _ _ st7 λb hb o e=>(I'.pin (b,o) (P5 _ (P5 _ (wm hb e)))).1,λb hb=>by
     obtain⟨o,e,_⟩:=T.obj _ _ st7 b hb;exact(I'.pin (b,o) (P5 _ (P5 _ (wm hb e)))).2.1⟩
   cases ok with
   |false=>
    have q9: ∃m',m'<n/\W (i+1) m' ys H9:=q9;obtain⟨m',hm,w9⟩:=q9;obtain⟨t9,f9⟩:=keepT I9;exact⟨m',hm,i+1,ys,us,H9,hv5,(I9.unpinned).weak ag8.1.symm ag8.2,t9,f9,w9⟩
   |true=>
    have q9:Ak te σ8 H9 ys λys' H4=> ∃m',m'<n/\W (i+1) m' ys' H4:=q9
    have pD': ∀p∈X.pn++(pins++va fp s7.heap),p.1≠D:=λp hp=>by
     rcases P7.mp hp with z|z
     ·exact pD p (T5 _ z)
     ·rcases P7.mp z with z|z
      ·exact pD p (P5 _ z)
      ·exact neD _ (ZL z).1
    rw [G8] at I9;have q10:=YS (D:=D) hx he (pins++va fp s7.heap) s9 σ8 H9 ys us _ I9 hv5 hz DX cD pD' q9;show wpAny _ _ (Yp _ _ _) _ _ s9;refine R7 q10 (λ_ s10 ⟨ys',us',H10,hv10,I10,m',hm,w10⟩=> ?_) λ_ _ z=>z
    rw [<-G8] at I10;obtain⟨t10,f10⟩:=keepT I10;exact⟨m',hm,i+1,ys',us',H10,hv10,(I10.unpinned).weak ag8.1.symm ag8.2,t10,f10,w10⟩
 exact vZ rfl loop (T.self X.A 0 _ _ _ st2 loop)
theorem DO (elt iter tg iter' tg':Expr)(ifs ifs':List Expr)(scope:Scope)(pos:Pos)(it acc:Value)(env:Env):
 compTurn (.ListComp elt [⟨tg,iter,ifs,0⟩,⟨tg',iter',ifs',0⟩] scope pos) 0 it acc env=
  Yo iter tg ifs it env (Pk (.ListComp elt [⟨tg,iter,ifs,0⟩,⟨tg',iter',ifs',0⟩] scope pos) iter' env acc) (.compLoop (.ListComp elt [⟨tg,iter,ifs,0⟩,⟨tg',iter',ifs',0⟩] scope pos) 0 it acc env):=by
 unfold Yo Pk;simp only [bind_assoc,pure_bind];rfl
def Sc (js:List Nat)(wi:TI)(g:TG)(tt:TT)(wi':TI)(g':TG)(tt':TT)(te:TE):TE:=Sb js wi g tt (mIn wi' g' tt' (Ak te))
theorem Am {iter' tg':Expr}{ifs':List Expr}{wi':TI}{g':TG}{tt':TT}(hc:X.calm=true)(S:BlockOk X scope js)(hi:PI X tg iter wi)
 (hg: ∀X',jk X scope X'->PG X' tg g)(ht: ∀X',jk X scope X'->PTs X' ifs tt)(hi': ∀X',jk X scope X'->PI X' tg' iter' wi')
 (hg': ∀X',jk X scope X'->PG X' tg' g')(ht': ∀X',jk X scope X'->PTs X' ifs' tt')(he: ∀X',jk X scope X'->PE X' elt te)
 (hs: ∀x,foldedSetIterable iter X.env x=pure x:=by intro _;rfl)(hs': ∀env x,foldedSetIterable iter' env x=pure x:=by intro _ _;rfl):
 PE X (.ListComp elt [⟨tg,iter,ifs,0⟩,⟨tg',iter',ifs',0⟩] scope pos) (Sc js wi g tt wi' g' tt' te):=by
 intro pins s σ H Q I h;rw [eval_ListComp];exact DL (use:=none) hc S hi rfl hg ht (λenv acc=>Pk (.ListComp elt [⟨tg,iter,ifs,0⟩,⟨tg',iter',ifs',0⟩] scope pos) iter' env acc) (λ_ _ _=>DO ..)
  (λX' hX D=>DN (by obtain⟨_,_,_,_,rfl⟩:=hX;exact hc) (by obtain⟨_,_,_,_,rfl⟩:=hX;rfl) (hi' X' hX) (hg' X' hX) (ht' X' hX) (he X' hX) (hs' _)) hs I h
  λD C H' s' m hn hk _ _ _ _ _ _ q=>⟨m,hn,λh' hs'=>⟨.ref D,H',hk h' hs',rfl,q⟩⟩
inductive D where
 |non|bl (b:Bool)|int (i:Int)|str (x:Str)|tup (ds:List D)|lst (a:Addr)|dic (x:Str) (i:Int)|dct (a:Addr)|scr (ns:List Int)|exc (C:Addr)|fn (a:Addr)
def Scr (K:PySem.W.Frag)(H:Hp)(a:Addr)(ns:List Int):Prop:=
 (∃o,H a=some (.frz o (.lst (ns.map V.int))))\/
  ∃ (o:Obj) (its:Array Value) (n:Nat),K.lookup a=some o/\o.cls= .type "list" /\o.dict=none/\o.data= .seq its n/\its.size<=sizeLine/\Vals (ns.map V.int) its.toList
theorem Scr.sq {K:PySem.W.Frag}{ns:List Int}(h:Scr K H a ns):SqL K H a (ns.map V.int):=h.elim (λz=> .inl (.inr z)) .inr
mutual
def RelD (K:PySem.W.Frag)(H:Hp):D->V->Prop
 | .non,v=>v= .non
 | .bl b,v=>v= .bl b
 | .int i,v=>v= .int i
 | .str x,v=>v= .str x
 | .tup ds,v=> ∃a vs,v= .ref a/\H a=some (.tup vs)/\RelDs K H ds vs
 | .lst a,v=>v= .ref a/\ ∃vs,H a=some (.lst vs)
 | .dic x i,v=> ∃a,v= .ref a/\H a=some (.dK [(Sum.inr x,V.int i)])
 | .dct a,v=>v= .ref a
 | .scr ns,v=> ∃a,v= .ref a/\Scr K H a ns
 | .exc C,v=> ∃x o vs,v= .ref x/\H x=some (.frz o (.own 0))/\o.cls= .ref C/\o.data= .fields vs
 | .fn a,v=>v= .ref a/\PySem.W.keepIn K (.ref a)=true
def RelDs (K:PySem.W.Frag)(H:Hp):List D->List V->Prop
 | [],vs=>vs= []
 |d::ds,vs=> ∃v r,vs=v::r/\RelD K H d v/\RelDs K H ds r
end
structure Kept (H H':Hp):Prop where
 tup: ∀a xs,H a=some (.tup xs)->H' a=some (.tup xs)
 lst: ∀a xs,H a=some (.lst xs)-> ∃ys,H' a=some (.lst ys)
 dic: ∀a x i,H a=some (.dK [(Sum.inr x,V.int i)])->H' a=some (.dK [(Sum.inr x,V.int i)])
 frz: ∀a o u,H a=some (.frz o u)->H' a=some (.frz o u)
theorem Kept.refl (H:Hp):Kept H H:=⟨λ_ _ h=>h,λ_ xs h=>⟨xs,h⟩,λ_ _ _ h=>h,λ_ _ _ h=>h⟩
theorem Kept.trans {A B C:Hp}(x:Kept A B)(y:Kept B C):Kept A C:=
 ⟨λa xs h=>y.tup a xs (x.tup a xs h),λa xs h=>let ⟨_,e⟩:=x.lst a xs h;y.lst a _ e,λa k i h=>y.dic a k i (x.dic a k i h),λa o u h=>y.frz a o u (x.frz a o u h)⟩
theorem Kept.new {H:Hp}{p:Addr}{o:HO}(h:H p=none):Kept H (upd H p o):=
 ⟨λa xs e=>by rw [jl (ji e h)];exact e,λa xs e=>⟨xs,by rw [jl (ji e h)];exact e⟩,λa k i e=>by rw [jl (ji e h)];exact e,λa o u e=>by rw [jl (ji e h)];exact e⟩
theorem Kept.put {H:Hp}{p:Addr}{xs ys:List V}(h:H p=some (.lst xs)):Kept H (upd H p (.lst ys)):=
 ⟨λa zs e=>by rw [jl (Pc e h (by intro z;cases z))];exact e,λa zs e=>by
  by_cases q:a=p
  ·subst q;exact⟨ys,jt⟩
  ·exact⟨zs,by rw [jl q];exact e⟩,
  λa k i e=>by rw [jl (Pc e h (by intro z;cases z))];exact e,λa o u e=>by rw [jl (Pc e h (by intro z;cases z))];exact e⟩
def DObj (o:HO):Prop:=(∃kvs:List (Int×V),o= .dK (kvs.map λp=>((Sum.inl p.1:Key),p.2)))\/ ∃φ,o= .ext φ
theorem DObj.no {o:HO}(d:DObj o):(∀xs,o≠ .tup xs)/\(∀xs,o≠ .lst xs)/\(∀x i,o≠ .dK [(Sum.inr x,V.int i)])/\(∀p u,o≠ .frz p u)/\ ∀ps,o≠ .tbl ps:=by
 rcases d with ⟨kvs,rfl⟩|⟨φ,rfl⟩
 ·refine⟨λ_ z=>(nomatch z),λ_ z=>(nomatch z),λx i z=> ?_,λ_ _ z=>(nomatch z),λ_ z=>(nomatch z)⟩;injection z with z
  cases kvs with
  |nil=>cases z
  |cons p r=>injection z with z _;injection z with z _;cases z
 ·exact⟨λ_ z=>(nomatch z),λ_ z=>(nomatch z),λ_ _ z=>(nomatch z),λ_ _ z=>(nomatch z),λ_ z=>(nomatch z)⟩
theorem Kept.putD {H:Hp}{p:Addr}{o o':HO}(h:H p=some o)(d:DObj o):Kept H (upd H p o'):=by
 obtain⟨d1,d2,d3,d4,_⟩:=d.no;have ne: ∀ {a:Addr} {u:HO},H a=some u->o≠u->a≠p:=λe n z=>by subst z;rw [h] at e;injection e with e;exact n e
 exact⟨λa xs e=>by rw [jl (ne e (d1 xs))];exact e,λa xs e=>⟨xs,by rw [jl (ne e (d2 xs))];exact e⟩,λa x i e=>by rw [jl (ne e (d3 x i))];exact e,λa q u e=>by rw [jl (ne e (d4 q u))];exact e⟩
mutual
theorem RelD.mono {K:PySem.W.Frag}{H H':Hp}(k:Kept H H'): ∀ {d:D} {v:V},RelD K H d v->RelD K H' d v
 | .non,_,h=>h
 | .bl _,_,h=>h
 | .int _,_,h=>h
 | .str _,_,h=>h
 | .tup ds,v,h=>by
  obtain⟨a,vs,e,h1,h2⟩:=(show ∃a vs,v= .ref a/\H a=some (.tup vs)/\RelDs K H ds vs from h);exact⟨a,vs,e,k.tup _ _ h1,RelDs.mono k h2⟩
 | .lst a,v,h=>by
  obtain⟨e,vs,h1⟩:=(show v= .ref a/\ ∃vs,H a=some (.lst vs) from h);exact⟨e,k.lst _ _ h1⟩
 | .dic x i,v,h=>by
  obtain⟨a,e,h1⟩:=(show ∃a,v= .ref a/\H a=some (.dK [(Sum.inr x,V.int i)]) from h);exact⟨a,e,k.dic _ _ _ h1⟩
 | .dct a,v,h=>h
 | .scr ns,v,h=>by
  obtain⟨a,e,h1⟩:=(show ∃a,v= .ref a/\Scr K H a ns from h);exact⟨a,e,h1.elim (λ⟨o,z⟩=> .inl ⟨o,k.frz _ _ _ z⟩) .inr⟩
 | .exc C,v,h=>by
  obtain⟨x,o,vs,e,h1,r⟩:=(show ∃x o vs,v= .ref x/\H x=some (.frz o (.own 0))/\o.cls= .ref C/\o.data= .fields vs from h);exact⟨x,o,vs,e,k.frz _ _ _ h1,r⟩
 | .fn a,v,h=>h
theorem RelDs.mono {K:PySem.W.Frag}{H H':Hp}(k:Kept H H'): ∀ {ds:List D} {vs:List V},RelDs K H ds vs->RelDs K H' ds vs
 | [],_,h=>h
 |d::ds,vs,h=>by
  obtain⟨v,r,e,h1,h2⟩:=(show ∃v r,vs=v::r/\RelD K H d v/\RelDs K H ds r from h);exact⟨v,r,e,RelD.mono k h1,RelDs.mono k h2⟩
end
section
variable {K:PySem.W.Frag}{H:Hp}
theorem RelDs.nil:RelDs K H [] []:=rfl
theorem RelDs.cons {d:D}{v:V}{ds:List D}{vs:List V}(h:RelD K H d v)(t:RelDs K H ds vs):RelDs K H (d::ds) (v::vs):=⟨v,vs,rfl,h,t⟩
theorem RelDs.length: ∀ {ds:List D} {vs:List V},RelDs K H ds vs->ds.length=vs.length
 | [],_,h=>by cases (show _= [] from h);rfl
 |d::ds,vs,h=>by
  obtain⟨v,r,e,_,h2⟩:=(show ∃v r,vs=v::r/\RelD K H d v/\RelDs K H ds r from h);subst e;simp [RelDs.length h2]
theorem RelDs.append: ∀ {ds es:List D} {vs us:List V},RelDs K H ds vs->RelDs K H es us->RelDs K H (ds++es) (vs++us)
 | [],_,_,_,h,g=>by cases (show _= [] from h);exact g
 |d::ds,es,vs,us,h,g=>by
  obtain⟨v,r,e,h1,h2⟩:=(show ∃v r,vs=v::r/\RelD K H d v/\RelDs K H ds r from h);subst e;exact .cons h1 (RelDs.append h2 g)
theorem RelDs.get: ∀ {ds:List D} {vs:List V} {i:Nat} {d:D},RelDs K H ds vs->ds[i]? =some d-> ∃v,vs[i]? =some v/\RelD K H d v
 |d'::ds,vs,i,d,h,e=>by
  obtain⟨v,r,q,h1,h2⟩:=(show ∃v r,vs=v::r/\RelD K H d' v/\RelDs K H ds r from h);subst q;cases i with
  |zero=>simp at e;subst e;exact⟨v,rfl,h1⟩
  |succ i=>
   obtain⟨u,q1,q2⟩:=RelDs.get h2 (i:=i) (d:=d) (by simpa using e);exact⟨u,by simpa using q1,q2⟩
theorem RelDs.take (n:Nat): ∀ {ds:List D} {vs:List V},RelDs K H ds vs->RelDs K H (ds.take n) (vs.take n):=by
 induction n with
 |zero=>intro ds vs _;exact(rfl:RelDs K H [] [])
 |succ n ih=>
  intro ds vs h;cases ds with
  |nil=>cases (show vs= [] from h);exact .nil
  |cons d ds=>
   obtain⟨v,r,e,h1,h2⟩:=(show ∃v r,vs=v::r/\RelD K H d v/\RelDs K H ds r from h);subst e;exact .cons h1 (ih h2)
theorem RelDs.drop (n:Nat): ∀ {ds:List D} {vs:List V},RelDs K H ds vs->RelDs K H (ds.drop n) (vs.drop n):=by
 induction n with
 |zero=>intro ds vs h;exact h
 |succ n ih=>
  intro ds vs h;cases ds with
  |nil=>cases (show vs= [] from h);exact .nil
  |cons d ds=>
   obtain⟨v,r,e,h1,h2⟩:=(show ∃v r,vs=v::r/\RelD K H d v/\RelDs K H ds r from h);subst e;exact ih h2
theorem RelDs.set {d:D}{v:V}(q:RelD K H d v): ∀ {ds:List D} {vs:List V} (i:Nat),RelDs K H ds vs->RelDs K H (ds.set i d) (vs.set i v)
 | [],_,_,h=>by cases (show _= [] from h);exact .nil
 |e::ds,vs,i,h=>by
  obtain⟨u,r,z,h1,h2⟩:=(show ∃u r,vs=u::r/\RelD K H e u/\RelDs K H ds r from h);subst z;cases i with
  |zero=>exact .cons q h2
  |succ i=>exact .cons h1 (RelDs.set q i h2)
theorem yU: ∀ns:List Int,RelDs K H (ns.map D.int) (ns.map V.int)
 | []=> .nil
 |n::ns=> .cons rfl (yU ns)
end
inductive DC where
 |ik (kv:List (Int×D))
 |tk (kv:List (List (List Int)×D))
structure HD where
 ls:Addr->Option (List D)
 dc:Addr->Option DC
instance:CoeFun HD λ_=>Addr->Option (List D):=⟨HD.ls⟩
def zY (h:HD)(a:Addr)(ds:List D):HD:=⟨λb=>if b=a then some ds else h b,h.dc⟩
def YT (h:HD)(a:Addr):HD:=⟨λb=>if b=a then none else h b,h.dc⟩
theorem jd {h:HD}{a:Addr}{ds:List D}:zY h a ds a=some ds:=if_pos rfl
theorem wq {h:HD}{a b:Addr}{ds:List D}(e:b≠a):zY h a ds b=h b:=if_neg e
theorem zK {h:HD}{a:Addr}{ds:List D}(e:h a=none):YT (zY h a ds) a=h:=by
 obtain⟨l,d⟩:=h;refine congrArg (HD.mk · d) ?_
 funext b
 show (if b=a then none else if b=a then some ds else l b)=l b
 by_cases q:b=a
 ·subst q;rw [if_pos rfl];exact e.symm
 ·rw [if_neg q,if_neg q]
def LN:List Str:= ["law","_law_right","_law_words","_law_other_words","_law_many_right","_law_all","_law_told_row","_law_all_right","_law_desk_right","_law_signs_right","_law_lists_right","_law_text_right"]
def TabK (K:PySem.W.Frag)(P:Addr):Prop:= ∃x∈LN,∃c,PySem.W.tabIn K x=some (c,P)
def CodesOk (H:Hp)(ps:Array Value):Prop:=TriplesOk ps.toList/\ ∀pos cv,codeAmong pos ps.toList=some cv-> ∃ (c:Addr) (o:Obj) (vs:Array Value) (q:Str) (t:Tok),cv= .ref c/\H c=some (.frz o (.own 0))/\o.data= .fields vs/\vs[1]? =some (.str q t)
def CTabs (K:PySem.W.Frag)(H:Hp):Prop:= ∀P,TabK K P-> ∃ps,H P=some (.tbl ps)/\CodesOk H ps
theorem CodesOk.mono {H H':Hp}{ps:Array Value}(k: ∀a o u,H a=some (.frz o u)->H' a=some (.frz o u))(c:CodesOk H ps):CodesOk H' ps:=
 ⟨c.1,λpos cv e=>let ⟨c',o,vs,q,t,e1,e2,r⟩:=c.2 pos cv e;⟨c',o,vs,q,t,e1,k _ _ _ e2,r⟩⟩
theorem CTabs.mono {K:PySem.W.Frag}{H H':Hp}(x:CTabs K H)(k: ∀a o u,H a=some (.frz o u)->H' a=some (.frz o u))(kt: ∀a ps,H a=some (.tbl ps)->H' a=some (.tbl ps)):CTabs K H':=λP hP=>
 let ⟨ps,e,c⟩:=x P hP;⟨ps,kt _ _ e,c.mono k⟩
theorem CTabs.new {K:PySem.W.Frag}{H:Hp}{p:Addr}{o:HO}(x:CTabs K H)(e:H p=none):CTabs K (upd H p o):=
 x.mono (λa o' u h=>by rw [jl (ji h e)];exact h) λa ps h=>by rw [jl (ji h e)];exact h
theorem CTabs.put {K:PySem.W.Frag}{H:Hp}{p:Addr}{o:HO}{xs:List V}(x:CTabs K H)(e:H p=some (.lst xs)):CTabs K (upd H p o):=
 x.mono (λa o' u h=>by rw [jl (Pc h e (by intro z;cases z))];exact h) λa ps h=>by rw [jl (Pc h e (by intro z;cases z))];exact h
def Fi (T:List (List Int)):Int:=reduceHash (Builtin.Tuple.tupleHashOf (T.map λr=>reduceHash (Builtin.Tuple.tupleHashOf (r.map hashInt))))
def HJ (a:Addr)(xs:List (List (List Int)×Addr×V)):HO:= .ext λh=>(a==sysModules)=false/\xs.length<=sizeLine/\ ∃ys:List (List (List Int)×Addr×Value),Paired (λp q=>p.1=q.1/\p.2.1=q.2.1/\RelV p.2.2 q.2.2) xs ys/\
 ∃o es ep,h.get? a=some o/\o.ExactDict/\o.data= .dict es ep/\es.toList=ys.map λx=>⟨Fi x.1,.ref x.2.1,x.2.2⟩
def DRel (K:PySem.W.Frag)(H:Hp)(a:Addr):DC->Prop
 | .ik kv=> ∃kvs:List (Int×V),H a=some (.dK (kvs.map λp=>((Sum.inl p.1:Key),p.2)))/\kv.map (·.1)=kvs.map (·.1)/\RelDs K H (kv.map (·.2)) (kvs.map (·.2))
 | .tk kv=> ∃xs:List (List (List Int)×Addr×V),H a=some (HJ a xs)/\(kv.map (·.1)).Nodup/\kv.map (·.1)=xs.map (·.1)/\(∀x∈xs,RelD K H (.tup (x.1.map λr=> .tup (r.map D.int))) (.ref x.2.1))/\RelDs K H (kv.map (·.2)) (xs.map (·.2.2))
theorem DRel.obj {K:PySem.W.Frag}{H:Hp}{a:Addr}: ∀ {c:DC},DRel K H a c-> ∃o,H a=some o/\DObj o
 | .ik _,⟨kvs,e,_⟩=>⟨_,e,.inl ⟨kvs,rfl⟩⟩
 | .tk _,⟨xs,e,_⟩=>⟨_,e,.inr ⟨_,rfl⟩⟩
theorem DRel.mono {K:PySem.W.Frag}{H H':Hp}{a:Addr}(k:Kept H H')(z: ∀o,H a=some o->H' a=some o): ∀ {c:DC},DRel K H a c->DRel K H' a c
 | .ik _,⟨kvs,e,q,r⟩=>⟨kvs,z _ e,q,r.mono k⟩
 | .tk _,⟨xs,e,n,q,t,r⟩=>⟨xs,z _ e,n,q,λx hx=>(t x hx).mono k,r.mono k⟩
structure RelH (K:PySem.W.Frag)(h:HD)(H:Hp):Prop where
 ls: ∀a ds,h a=some ds-> ∃vs,H a=some (.lst vs)/\RelDs K H ds vs
 tb:CTabs K H
 dc: ∀a c,h.dc a=some c->DRel K H a c
instance {K:PySem.W.Frag}{h:HD}{H:Hp}:CoeFun (RelH K h H) λ_=> ∀a ds,h a=some ds-> ∃vs,H a=some (.lst vs)/\RelDs K H ds vs:=⟨RelH.ls⟩
structure Sub (h h':HD):Prop where
 ls: ∀a ds,h a=some ds->h' a=some ds
 dc: ∀a c,h.dc a=some c->h'.dc a=some c
instance {h h':HD}:CoeFun (Sub h h') λ_=> ∀a ds,h a=some ds->h' a=some ds:=⟨Sub.ls⟩
theorem Sub.refl (h:HD):Sub h h:=⟨λ_ _ e=>e,λ_ _ e=>e⟩
theorem Sub.trans {a b c:HD}(x:Sub a b)(y:Sub b c):Sub a c:=⟨λd ds e=>y d ds (x d ds e),λd ds e=>y.dc d ds (x.dc d ds e)⟩
theorem Sub.drop (h:HD)(a:Addr):Sub (YT h a) h:=⟨λb ds e=>by
 have e:(if b=a then none else h b)=some ds:=e;split at e
 ·cases e
 ·exact e,λ_ _ e=>e⟩
theorem Sub.new {h:HD}{p:Addr}{ds:List D}(e:h p=none):Sub h (zY h p ds):=⟨λa es q=>(by
 rw [wq];exact q;intro z;subst z;rw [e] at q;cases q),λ_ _ e=>e⟩
section
variable {K:PySem.W.Frag}{h h':HD}{H:Hp}
theorem RelH.sub (r:RelH K h H)(s:Sub h' h):RelH K h' H:=⟨λa ds e=>r a ds (s a ds e),r.tb,λa c e=>r.dc a c (s.dc a c e)⟩
theorem RelH.free (r:RelH K h H){p:Addr}(e:H p=none):h p=none:=by
 cases q:h p with
 |none=>rfl
 |some ds=>obtain⟨vs,z,_⟩:=r p ds q;rw [e] at z;cases z
theorem RelH.freeC (r:RelH K h H){p:Addr}(e:H p=none):h.dc p=none:=by
 cases q:h.dc p with
 |none=>rfl
 |some c=>obtain⟨o,z,_⟩:=(r.dc p c q).obj;rw [e] at z;cases z
theorem RelH.dcN (r:RelH K h H){p:Addr}{o:HO}(e:H p=none): ∀a c,h.dc a=some c->DRel K (upd H p o) a c:=λa c q=>
 (r.dc a c q).mono (.new e) λu z=>by rw [jl (ji z e)];exact z
theorem RelH.new (r:RelH K h H){p:Addr}{o:HO}(e:H p=none):RelH K h (upd H p o):=⟨λa ds q=>by
 obtain⟨vs,z,w⟩:=r a ds q;exact⟨vs,by rw [jl (ji z e)];exact z,w.mono (.new e)⟩,r.tb.new e,r.dcN e⟩
theorem RelH.newL (r:RelH K h H){p:Addr}{ds:List D}{vs:List V}(e:H p=none)(q:RelDs K H ds vs):RelH K (zY h p ds) (upd H p (.lst vs)):=⟨λa es z=>by
 by_cases w:a=p
 ·subst w;rw [jd] at z;cases z;exact⟨vs,jt,q.mono (.new e)⟩
 ·rw [wq w] at z;obtain⟨us,z1,z2⟩:=r a es z;exact⟨us,by rw [jl w];exact z1,z2.mono (.new e)⟩,r.tb.new e,r.dcN e⟩
theorem RelH.put (r:RelH K h H){p:Addr}{ds:List D}{vs us:List V}(e:H p=some (.lst us))(q:RelDs K H ds vs):RelH K (zY h p ds) (upd H p (.lst vs)):=⟨λa es z=>by
 by_cases w:a=p
 ·subst w;rw [jd] at z;cases z;exact⟨vs,jt,q.mono (.put e)⟩
 ·rw [wq w] at z;obtain⟨us,z1,z2⟩:=r a es z;exact⟨us,by rw [jl w];exact z1,z2.mono (.put e)⟩,r.tb.put e,λa c z=>(r.dc a c z).mono (.put e) λo w=>by
   obtain⟨u,w',d⟩:=(r.dc a c z).obj;rw [jl (Pc w' e (d.no.2.1 _))];exact w⟩
end
def Cc (h:HD)(p:Addr)(c:DC):HD:=⟨h.ls,λb=>if b=p then some c else h.dc b⟩
theorem Ja {h:HD}{p:Addr}{c:DC}:(Cc h p c).dc p=some c:=if_pos rfl
theorem YU {h:HD}{a p:Addr}{c:DC}(e:a≠p):(Cc h p c).dc a=h.dc a:=if_neg e
theorem Sub.newC {h:HD}{p:Addr}{c:DC}(e:h.dc p=none):Sub h (Cc h p c):=⟨λ_ _ e=>e,λa d q=>by
 rw [YU];exact q;intro z;subst z;rw [e] at q;cases q⟩
section
variable {K:PySem.W.Frag}{h:HD}{H:Hp}
theorem RelH.newC (r:RelH K h H){p:Addr}{o:HO}{c:DC}(e:H p=none)(d:DRel K (upd H p o) p c):RelH K (Cc h p c) (upd H p o):=⟨(r.new e).ls,r.tb.new e,λa k z=>by
 by_cases w:a=p
 ·subst w;rw [Ja] at z;cases z;exact d
 ·rw [YU w] at z;exact r.dcN e a k z⟩
theorem RelH.putC (r:RelH K h H){p:Addr}{o o':HO}{c:DC}(e:H p=some o)(ob:DObj o)(d:DRel K (upd H p o') p c):RelH K (Cc h p c) (upd H p o'):=by
 obtain⟨d1,d2,d3,d4,d5⟩:=ob.no;have ne: ∀ {a:Addr} {u:HO},H a=some u->o≠u->a≠p:=λq n z=>by subst z;rw [e] at q;injection q with q;exact n q
 refine⟨λa ds z=> ?_,r.tb.mono (λa q u z=>by rw [jl (ne z (d4 q u))];exact z) (λa ps z=>by rw [jl (ne z (d5 ps))];exact z),λa k z=> ?_⟩
 ·obtain⟨vs,z1,z2⟩:=r a ds z;exact⟨vs,by rw [jl (ne z1 (d2 vs))];exact z1,z2.mono (.putD e ob)⟩
 ·by_cases w:a=p
  ·subst w;rw [Ja] at z;cases z;exact d
  ·rw [YU w] at z;exact(r.dc a k z).mono (.putD e ob) λu q=>by rw [jl w];exact q
end
abbrev SD:=List (Option D)
def RelS (K:PySem.W.Frag)(H:Hp)(σd:SD)(σ:St):Prop:=σd.length=σ.length/\ ∀ (i:Nat) (d:D),σd[i]? =some (some d)-> ∃v,σ[i]? =some (some v)/\RelD K H d v
theorem RelS.mono {K:PySem.W.Frag}{H H':Hp}{σd:SD}{σ:St}(r:RelS K H σd σ)(k:Kept H H'):RelS K H' σd σ:=⟨r.1,λi d e=>let ⟨v,a,b⟩:=r.2 i d e;⟨v,a,b.mono k⟩⟩
theorem RelS.set {K:PySem.W.Frag}{H:Hp}{σd:SD}{σ:St}{d:D}{v:V}(r:RelS K H σd σ)(q:RelD K H d v)(i:Nat):RelS K H (σd.set i (some d)) (σ.set i (some v)):=⟨by simp [r.1],λj e h=>by
 by_cases z:i=j
 ·subst z;rw [V3] at h ⊢
  by_cases hl:i<σd.length
  ·rw [if_pos rfl,if_pos hl] at h;rw [if_pos rfl,if_pos (by rw [<-r.1];exact hl)];cases h;exact⟨v,rfl,q⟩
  ·rw [if_pos rfl,if_neg hl] at h;cases h
 ·rw [B3 z] at h ⊢;exact r.2 j e h⟩
theorem RelS.clear1 {K:PySem.W.Frag}{H:Hp}{σd:SD}{σ:St}(r:RelS K H σd σ)(i:Nat):RelS K H (σd.set i none) (σ.set i none):=⟨by simp [r.1],λj e h=>by
 by_cases z:i=j
 ·subst z;rw [V3] at h;split at h
  ·split at h<;>cases h
  ·contradiction
 ·rw [B3 z] at h ⊢;exact r.2 j e h⟩
def jP:List Nat->SD->SD
 | [],σ=>σ
 |j::js,σ=>jP js (σ.set j none)
theorem RelS.clear {K:PySem.W.Frag}{H:Hp}: ∀ (js:List Nat) {σd:SD} {σ:St},RelS K H σd σ->RelS K H (jP js σd) (wa js σ)
 | [],_,_,r=>r
 |j::js,_,_,r=>RelS.clear js (r.clear1 j)
abbrev KD:=D->HD->Prop
abbrev TED:=SD->HD->KD->Prop
abbrev TTD:=SD->HD->(Bool->HD->Prop)->Prop
abbrev TAD:=SD->HD->(List D->HD->Prop)->Prop
abbrev RD2:=D->D->HD->KD->Prop
abbrev RDn:=List D->HD->KD->Prop
structure EndsD where
 nx:SD->HD->Prop
 rt:KD
 bk:SD->HD->Prop:=λ_ _=>False
 ct:SD->HD->Prop:=λ_ _=>False
abbrev TSD:=EndsD->SD->HD->Prop
abbrev TGD:=D->SD->HD->(SD->HD->Prop)->Prop
def Fj (K:PySem.W.Frag)(H:Hp)(Qd:KD)(Q:VK):Prop:= ∀d v h' H',Kept H H'->RelH K h' H'->RelD K H' d v->Qd d h'->Q v H'
def LE (K:PySem.W.Frag)(t:TED):TE:=λσ H Q=> ∃σd h Qd,RelS K H σd σ/\RelH K h H/\t σd h Qd/\Fj K H Qd Q
def LT (K:PySem.W.Frag)(t:TTD):TT:=λσ H Q=> ∃σd h Qd,RelS K H σd σ/\RelH K h H/\t σd h Qd/\ ∀b h' H',Kept H H'->RelH K h' H'->Qd b h'->Q b H'
def LA (K:PySem.W.Frag)(t:TAD):TA:=λσ H Q=> ∃σd h Qd,RelS K H σd σ/\RelH K h H/\t σd h Qd/\ ∀ds vs h' H',Kept H H'->RelH K h' H'->RelDs K H' ds vs->Qd ds h'->Q vs H'
def LR (K:PySem.W.Frag)(f:RD2):R2:=λx y H Q=> ∃dx dy h Qd,RelD K H dx x/\RelD K H dy y/\RelH K h H/\f dx dy h Qd/\Fj K H Qd Q
def LC (K:PySem.W.Frag)(f:RDn):List V->Hp->VK->Prop:=λxs H Q=> ∃ds h Qd,RelDs K H ds xs/\RelH K h H/\f ds h Qd/\Fj K H Qd Q
def LG (K:PySem.W.Frag)(g:TGD):TG:=λv σ H Q=> ∃d σd h Qd,RelD K H d v/\RelS K H σd σ/\RelH K h H/\g d σd h Qd/\ ∀σd' h' σ' H',Kept H H'->RelS K H' σd' σ'->RelH K h' H'->Qd σd' h'->Q σ' H'
def LS (K:PySem.W.Frag)(t:TSD):TS:=λD₀ σ H=> ∃σd h Dd,RelS K H σd σ/\RelH K h H/\t Dd σd h/\
 (∀σd' h' σ' H',Kept H H'->RelS K H' σd' σ'->RelH K h' H'->Dd.nx σd' h'->D₀.nx σ' H')/\Fj K H Dd.rt D₀.rt/\
 (∀σd' h' σ' H',Kept H H'->RelS K H' σd' σ'->RelH K h' H'->Dd.bk σd' h'->D₀.bk σ' H')/\(∀σd' h' σ' H',Kept H H'->RelS K H' σd' σ'->RelH K h' H'->Dd.ct σd' h'->D₀.ct σ' H')
theorem PE.imp {X:Cx}{e:Expr}{t t':TE}(h:PE X e t)(i: ∀σ H Q,t' σ H Q->t σ H Q):PE X e t':=λpins s σ H Q I q=>h pins s σ H Q I (i σ H Q q)
theorem PT.imp {X:Cx}{e:Expr}{t t':TT}(h:PT X e t)(i: ∀σ H Q,t' σ H Q->t σ H Q):PT X e t':=λpins s σ H Q I q=>h pins s σ H Q I (i σ H Q q)
theorem PW.imp {X:Cx}{e:Expr}{t t':TT}(h:PW X e t)(i: ∀σ H Q,t' σ H Q->t σ H Q):PW X e t':=λwh pins s σ H Q I q=>h wh pins s σ H Q I (i σ H Q q)
theorem PA.imp {X:Cx}{e:List Expr}{t t':TA}(h:PA X e t)(i: ∀σ H Q,t' σ H Q->t σ H Q):PA X e t':=λpos pins s σ H Q I q=>h pos pins s σ H Q I (i σ H Q q)
theorem PS.imp {X:Cx}{e:Stmt}{t t':TS}(h:PS X e t)(i: ∀D σ H,t' D σ H->t D σ H):PS X e t':=λpins s σ H D I q=>h pins s σ H D I (i D σ H q)
theorem PSs.imp {X:Cx}{e:List Stmt}{t t':TS}(h:PSs X e t)(i: ∀D σ H,t' D σ H->t D σ H):PSs X e t':=λpins s σ H D I q=>h pins s σ H D I (i D σ H q)
theorem PG.imp {X:Cx}{e:Expr}{t t':TG}(h:PG X e t)(i: ∀v σ H Q,t' v σ H Q->t v σ H Q):PG X e t':=λpins s σ H v u Q I r q=>h pins s σ H v u Q I r (i v σ H Q q)
theorem OpR.imp {X:Cx}{f:Value->Value->Sem Value}{r r':R2}(h:OpR X f r)(i: ∀x y H Q,r' x y H Q->r x y H Q):OpR X f r':=λpins s σ H x y v u Q I a b q=>h pins s σ H x y v u Q I a b (i x y H Q q)
theorem CallR.imp {X:Cx}{f:Value}{r r':List V->Hp->VK->Prop}(h:CallR X f r)(i: ∀xs H Q,r' xs H Q->r xs H Q):CallR X f r':=λpins s σ H xs us Q I a q=>h pins s σ H xs us Q I a (i xs H Q q)
def Nu (i:Nat):TED:=λσ h Q=> ∃d,σ[i]? =some (some d)/\Q d h
def dC (d:D):TED:=λ_ h Q=>Q d h
def dOp (f:RD2)(ta tb:TED):TED:=λσ h Q=>ta σ h λx h1=>tb σ h1 λy h2=>f x y h2 Q
def Uj:TAD:=λ_ h Q=>Q [] h
def yu (ta:TED)(tr:TAD):TAD:=λσ h Q=>ta σ h λx h1=>tr σ h1 λxs h2=>Q (x::xs) h2
def SO (t:TAD):TED:=λσ h Q=>t σ h λds h1=>ds.length<=sizeLine/\Q (.tup ds) h1
def An (t:TAD):TED:=λσ h Q=>t σ h λds h1=>ds.length<=sizeLine/\ ∀p,h1 p=none->Q (.lst p) (zY h1 p ds)
def dCB (r:RDn)(t:TAD):TED:=λσ h Q=>t σ h λds h1=>r ds h1 Q
def Zo (t:TED):TTD:=λσ h Q=>t σ h λx h1=> ∃k,x= .bl k/\Q k h1
def ZW (r r':RD2)(ta tb tc:TED):TED:=λσ h Q=>ta σ h λx h1=>tb σ h1 λy h2=>r x y h2 λz h3=> ∃k,z= .bl k/\
 (if k=true then tc σ h3 λw h4=>r' y w h4 Q else Q (.bl false) h3)
def Fk (t u:TTD):TTD:=λσ h Q=>t σ h λc h1=>if c=true then u σ h1 Q else Q false h1
def Ao (t u:TTD):TTD:=λσ h Q=>t σ h λc h1=>if c=true then Q true h1 else u σ h1 Q
def DP (t:TTD):TTD:=λσ h Q=>t σ h λc h1=>Q (!c) h1
def Nv (ta tb:TED):TED:=λσ h Q=>ta σ h λx h1=> ∃c,x= .bl c/\if c=true then tb σ h1 Q else Q (.bl false) h1
def SQ (ta tb:TED):TED:=λσ h Q=>ta σ h λx h1=> ∃c,x= .bl c/\if c=true then Q (.bl true) h1 else tb σ h1 Q
def Nw (ta:TED):TED:=λσ h Q=>ta σ h λx h1=> ∃c,x= .bl c/\Q (.bl (!c)) h1
section
variable {K:PySem.W.Frag}
theorem Ap (i:Nat): ∀σ H Q,LE K (Nu i) σ H Q->TD i σ H Q:=λσ H Q ⟨σd,h,Qd,rs,rh,⟨d,e,q⟩,p⟩=>let ⟨v,e1,e2⟩:=rs.2 i d e;⟨v,e1,p d v h H (.refl H) rh e2 q⟩
theorem SR {d:D}{v:V}(r: ∀H,RelD K H d v): ∀σ H Q,LE K (dC d) σ H Q->tC v σ H Q:=λσ H Q ⟨σd,h,Qd,rs,rh,q,p⟩=>p d v h H (.refl H) rh (r H) q
variable {H:Hp}
theorem jV {H1:Hp}{Qd:KD}{Q:VK}(p:Fj K H Qd Q)(k:Kept H H1):Fj K H1 Qd Q:=λd v h' H' k'=>p d v h' H' (k.trans k')
variable {ta:TED}
theorem LE.bind {σ:St}{σd:SD}{h:HD}{kd:KD}{k:VK}(rs:RelS K H σd σ)(rh:RelH K h H)(t:ta σd h kd)(f: ∀d v h' H',Kept H H'->RelS K H' σd σ->RelH K h' H'->RelD K H' d v->kd d h'->k v H'):LE K ta σ H k:=
 ⟨σd,h,kd,rs,rh,t,λd v h' H' kp r1 r2 q=>f d v h' H' kp (rs.mono kp) r1 r2 q⟩
theorem LT.bind {ta:TTD}{σ:St}{σd:SD}{h:HD}{kd:Bool->HD->Prop}{k:Bool->Hp->Prop}(rs:RelS K H σd σ)(rh:RelH K h H)(t:ta σd h kd)(f: ∀b h' H',Kept H H'->RelS K H' σd σ->RelH K h' H'->kd b h'->k b H'):LT K ta σ H k:=
 ⟨σd,h,kd,rs,rh,t,λb h' H' kp r1 q=>f b h' H' kp (rs.mono kp) r1 q⟩
theorem LA.bind {ta:TAD}{σ:St}{σd:SD}{h:HD}{kd:List D->HD->Prop}{k:List V->Hp->Prop}(rs:RelS K H σd σ)(rh:RelH K h H)(t:ta σd h kd)(f: ∀ds vs h' H',Kept H H'->RelS K H' σd σ->RelH K h' H'->RelDs K H' ds vs->kd ds h'->k vs H'):LA K ta σ H k:=
 ⟨σd,h,kd,rs,rh,t,λd v h' H' kp r1 r2 q=>f d v h' H' kp (rs.mono kp) r1 r2 q⟩
variable {tb:TED}
theorem Fl {f:RD2}: ∀σ H Q,LE K (dOp f ta tb) σ H Q->tOp (LR K f) (LE K ta) (LE K tb) σ H Q:=λσ H Q ⟨σd,h,Qd,rs,rh,t,p⟩=>
 LE.bind rs rh t λd v h1 H1 k1 rs1 rh1 r1 t1=>LE.bind rs1 rh1 t1 λd2 v2 h2 H2 k2 rs2 rh2 r2 t2=>⟨d,d2,h2,Qd,r1.mono k2,r2,rh2,t2,jV p (k1.trans k2)⟩
theorem Aq: ∀σ H Q,LA K Uj σ H Q->Ha σ H Q:=λσ H Q ⟨σd,h,Qd,rs,rh,t,p⟩=>p [] [] h H (.refl H) rh rfl t
theorem Fm {tr:TAD}: ∀σ H Q,LA K (yu ta tr) σ H Q->OU (LE K ta) (LA K tr) σ H Q:=λσ H Q ⟨σd,h,Qd,rs,rh,t,p⟩=>
 LE.bind rs rh t λd v h1 H1 k1 rs1 rh1 r1 t1=>LA.bind rs1 rh1 t1 λds vs h2 H2 k2 rs2 rh2 r2 t2=>p _ _ h2 H2 (k1.trans k2) rh2 (.cons (r1.mono k2) r2) t2
theorem Ar {t:TAD}: ∀σ H Q,LE K (SO t) σ H Q->Hb (LA K t) σ H Q:=λσ H Q ⟨σd,h,Qd,rs,rh,t,p⟩=>
 LA.bind rs rh t λds vs h1 H1 k1 rs1 rh1 r1 ⟨z,q⟩=>⟨by rw [<-r1.length];exact z,λa ha=>p (.tup ds) (.ref a) h1 _ (k1.trans (.new ha)) (rh1.new ha) ⟨a,vs,rfl,jt,r1.mono (.new ha)⟩ q⟩
theorem As {t:TAD}: ∀σ H Q,LE K (An t) σ H Q->Hc (LA K t) σ H Q:=λσ H Q ⟨σd,h,Qd,rs,rh,t,p⟩=>
 LA.bind rs rh t λds vs h1 H1 k1 rs1 rh1 r1 ⟨z,q⟩=>⟨by rw [<-r1.length];exact z,λa ha=>p (.lst a) (.ref a) _ _ (k1.trans (.new ha)) (rh1.newL ha r1) ⟨rfl,vs,jt⟩ (q a (rh1.free ha))⟩
theorem At {r:RDn}{t:TAD}: ∀σ H Q,LE K (dCB r t) σ H Q->tCB (LC K r) (LA K t) σ H Q:=λσ H Q ⟨σd,h,Qd,rs,rh,t,p⟩=>
 LA.bind rs rh t λds vs h1 H1 k1 rs1 rh1 r1 q=>⟨ds,h1,Qd,r1,rh1,q,jV p k1⟩
theorem DQ {t:TED}: ∀σ H Q,LT K (Zo t) σ H Q->CP (LE K t) σ H Q:=λσ H Q ⟨σd,h,Qd,rs,rh,t,p⟩=>
 LE.bind rs rh t λd v h1 H1 k1 rs1 rh1 r1 ⟨k,e,q⟩=>by subst e;exact⟨k,r1,p k h1 H1 k1 rh1 q⟩
theorem Nx {t:TED}: ∀σ H Q,LT K (Zo t) σ H Q->tB (LE K t) σ H Q:=λσ H Q ⟨σd,h,Qd,rs,rh,t,p⟩=>
 LE.bind rs rh t λd v h1 H1 k1 rs1 rh1 r1 ⟨k,e,q⟩=>by subst e;exact⟨k,r1,p k h1 H1 k1 rh1 q⟩
theorem Gs {r r':RD2}{tc:TED}: ∀σ H Q,LE K (ZW r r' ta tb tc) σ H Q->Dt (LR K r) (LR K r') (LE K ta) (LE K tb) (LE K tc) σ H Q:=λσ H Q ⟨σd,h,Qd,rs,rh,t,p⟩=>
 LE.bind rs rh t λd v h1 H1 k1 rs1 rh1 r1 t1=>LE.bind rs1 rh1 t1 λd2 v2 h2 H2 k2 rs2 rh2 r2 t2=>⟨d,d2,h2,_,r1.mono k2,r2,rh2,t2,λd3 v3 h3 H3 k3 rh3 r3 ⟨k,e,q⟩=>by
  subst e;refine⟨k,r3,?_⟩;cases k with
  |true=>
   rw [if_pos rfl] at q ⊢;exact LE.bind (rs2.mono k3) rh3 q λd4 v4 h4 H4 k4 rs4 rh4 r4 t4=>⟨d2,d4,h4,Qd,(r2.mono k3).mono k4,r4,rh4,t4,jV p (k1.trans (k2.trans (k3.trans k4)))⟩
  |false=>
   rw [if_neg P6] at q ⊢;exact p (.bl false) _ h3 H3 (k1.trans (k2.trans k3)) rh3 rfl q⟩
theorem Au {t u:TTD}: ∀σ H Q,LT K (Fk t u) σ H Q->TF (LT K t) (LT K u) σ H Q:=λσ H Q ⟨σd,h,Qd,rs,rh,t,p⟩=>
 LT.bind rs rh t λb h1 H1 k1 rs1 rh1 q=>by
  cases b with
  |true=>rw [if_pos rfl] at q ⊢;exact⟨σd,h1,Qd,rs1,rh1,q,λb h' H' k=>p b h' H' (k1.trans k)⟩
  |false=>rw [if_neg P6] at q ⊢;exact p _ _ _ k1 rh1 q
theorem SS {t u:TTD}: ∀σ H Q,LT K (Ao t u) σ H Q->tOr (LT K t) (LT K u) σ H Q:=λσ H Q ⟨σd,h,Qd,rs,rh,t,p⟩=>
 LT.bind rs rh t λb h1 H1 k1 rs1 rh1 q=>by
  cases b with
  |true=>rw [if_pos rfl] at q ⊢;exact p _ _ _ k1 rh1 q
  |false=>rw [if_neg P6] at q ⊢;exact⟨σd,h1,Qd,rs1,rh1,q,λb h' H' k=>p b h' H' (k1.trans k)⟩
theorem Av {t:TTD}: ∀σ H Q,LT K (DP t) σ H Q->TH (LT K t) σ H Q:=λσ H Q ⟨σd,h,Qd,rs,rh,t,p⟩=>
 LT.bind rs rh t λb h1 H1 k1 rs1 rh1 q=>p _ _ _ k1 rh1 q
theorem Aw: ∀σ H Q,LE K (Nv ta tb) σ H Q->Oy (LE K ta) (LE K tb) σ H Q:=λσ H Q ⟨σd,h,Qd,rs,rh,t,p⟩=>
 LE.bind rs rh t λd v h1 H1 k1 rs1 rh1 r1 ⟨c,e,q⟩=>by
  subst e;refine⟨c,r1,?_⟩;cases c with
  |true=>rw [if_pos rfl] at q ⊢;exact⟨σd,h1,Qd,rs1,rh1,q,jV p k1⟩
  |false=>rw [if_neg P6] at q ⊢;exact p (.bl false) _ _ _ k1 rh1 rfl q
theorem ST: ∀σ H Q,LE K (SQ ta tb) σ H Q->TJ (LE K ta) (LE K tb) σ H Q:=λσ H Q ⟨σd,h,Qd,rs,rh,t,p⟩=>
 LE.bind rs rh t λd v h1 H1 k1 rs1 rh1 r1 ⟨c,e,q⟩=>by
  subst e;refine⟨c,r1,?_⟩;cases c with
  |true=>rw [if_pos rfl] at q ⊢;exact p (.bl true) _ _ _ k1 rh1 rfl q
  |false=>rw [if_neg P6] at q ⊢;exact⟨σd,h1,Qd,rs1,rh1,q,jV p k1⟩
theorem Ax: ∀σ H Q,LE K (Nw ta) σ H Q->Oz (LE K ta) σ H Q:=λσ H Q ⟨σd,h,Qd,rs,rh,t,p⟩=>
 LE.bind rs rh t λd v h1 H1 k1 rs1 rh1 r1 ⟨c,e,q⟩=>by subst e;exact⟨c,r1,p (.bl (!c)) _ _ _ k1 rh1 rfl q⟩
end
abbrev QE (X:Cx)(e:Expr)(t:TED):Prop:=PE X e (LE X.K t)
abbrev QT (X:Cx)(e:Expr)(t:TTD):Prop:=PT X e (LT X.K t)
abbrev QW (X:Cx)(e:Expr)(t:TTD):Prop:=PW X e (LT X.K t)
abbrev QA (X:Cx)(es:List Expr)(t:TAD):Prop:=PA X es (LA X.K t)
abbrev QS (X:Cx)(s:Stmt)(t:TSD):Prop:=PS X s (LS X.K t)
abbrev QSs (X:Cx)(s:List Stmt)(t:TSD):Prop:=PSs X s (LS X.K t)
abbrev QG (X:Cx)(e:Expr)(t:TGD):Prop:=PG X e (LG X.K t)
abbrev OpQ (X:Cx)(f:Value->Value->Sem Value)(r:RD2):Prop:=OpR X f (LR X.K r)
abbrev Jb (X:Cx)(f:Value)(r:RDn):Prop:=CallR X f (LC X.K r)
section
variable {X:Cx}{a b c e:Expr}{es rest:List Expr}{ta tb tc te:TED}{t u:TAD}{tt tu:TTD}{pos:Pos}{f r r':RD2}
theorem qv (i:Nat){x:Str}(hN:X.N[i]? =some x:=by rfl)(hv:Vis X.env.scope x:=by first|exact Or.inl rfl|exact Or.inr (Or.inl rfl)|exact Or.inr (Or.inr rfl))(hd:(x==("__debug__" :Str))=false:=by decide)
 (hcd:(x==("__classdict__" :Str))=false:=by decide):QE X (.Name x pos) (Nu i):=(Ot hN hv hd hcd).imp (Ap i)
theorem HK {i:Int}{j:Nat}:QE X (.Constant (.int i) j pos) (dC (.int i)):=pe_int.imp (SR λ_=>rfl)
theorem qbl {i:Bool}{j:Nat}:QE X (.Constant (.bool i) j pos) (dC (.bl i)):=pe_bl.imp (SR λ_=>rfl)
theorem SU {x:Str}{i:Int}{tk:Tok}(hg:Gl X x)(hm:X.mg x=some (.int i tk))(hd:(x==("__debug__" :Str))=false:=by decide):QE X (.Name x pos) (dC (.int i)):=
 (CG (v:= .int i) hg hm ⟨tk,rfl⟩ hd).imp (SR λ_=>rfl)
theorem qop {op:Operator}(ho:OpQ X (binaryOp op) f)(ha:QE X a ta)(hb:QE X b tb):QE X (.BinOp a op b pos) (dOp f ta tb):=(Sx ho ha hb).imp Fl
variable {op:CmpOp}
theorem HL (ho:OpQ X (compareOp op) f)(ha:QE X a ta)(hb:QE X b tb)(hm:behindInMarks op b=false):QE X (.Compare a [op] [b] pos) (dOp f ta tb):=(CO ho ha hb hm).imp Fl
theorem SV (ho:OpQ X (compareOp op) f)(ha:QE X a ta)(hb:QE X b tb)(hm:behindInMarks op b=false):QT X (.Compare a [op] [b] pos) (Zo (dOp f ta tb)):=
 (CQ ho ha hb hm).imp λσ H Q h=>by
  obtain⟨σd,h,Qd,rs,rh,t,p⟩:=DQ (t:=dOp f ta tb) σ H Q h;exact Fl σ H _ ⟨σd,h,Qd,rs,rh,t,p⟩
theorem Ay {op':CmpOp}(ho:OpQ X (compareOp op) r)(ho':OpQ X (compareOp op') r')(ha:QE X a ta)(hb:QE X b tb)(hc:QE X c tc)(hm:lastMarks [op,op'] [b,c]=false:=by with_unfolding_all rfl):
 QE X (.Compare a [op,op'] [b,c] pos) (ZW r r' ta tb tc):=(Nh ho ho' ha hb hc hm).imp Gs
theorem Fn {op':CmpOp}(ho:OpQ X (compareOp op) r)(ho':OpQ X (compareOp op') r')(ha:QE X a ta)(hb:QE X b tb)(hc:QE X c tc)(hm:lastMarks [op,op'] [b,c]=false:=by with_unfolding_all rfl):
 QT X (.Compare a [op,op'] [b,c] pos) (Zo (ZW r r' ta tb tc)):=(Ni ho ho' ha hb hc hm).imp λσ H Q h=>by
 obtain⟨σd,h,Qd,rs,rh,t,p⟩:=DQ (t:=ZW r r' ta tb tc) σ H Q h;exact Gs σ H _ ⟨σd,h,Qd,rs,rh,t,p⟩
theorem SW (ha:QE X a ta)(he: ∀whole,isTrue a X.env whole=(do let v <-whole;standAt a.pos;holding [v] (truthy v)):=by intro _;rfl):QT X a (Zo ta):=(Ou ha he).imp Nx
theorem SX (ha:QT X a tt):QW X (.BoolOp .And [a] pos) tt:=CI ha
theorem HM (ha:QT X a tt):QW X (.BoolOp .Or [a] pos) tt:=Ov ha
theorem SY (ha:QT X a tt)(hb:QW X (.BoolOp .And (b::rest) pos) tu):QW X (.BoolOp .And (a::b::rest) pos) (Fk tt tu):=(Ow ha hb).imp Au
theorem HN (ha:QT X a tt)(hb:QW X (.BoolOp .Or (b::rest) pos) tu):QW X (.BoolOp .Or (a::b::rest) pos) (Ao tt tu):=(Sm ha hb).imp SS
theorem SZ (ha:QT X a tt):QT X (.UnaryOp .Not a pos) (DP tt):=(Ox ha).imp Av
theorem HP {op:BoolOp}(ha:QE X a ta):QE X (.BoolOp op [a] pos) ta:=OA ha
theorem HQ (ha:QE X a ta)(hb:QE X (.BoolOp .And (b::rest) pos) tb):QE X (.BoolOp .And (a::b::rest) pos) (Nv ta tb):=(OB ha hb).imp Aw
theorem qor (ha:QE X a ta)(hb:QE X (.BoolOp .Or (b::rest) pos) tb):QE X (.BoolOp .Or (a::b::rest) pos) (SQ ta tb):=(Sn ha hb).imp ST
theorem HR (ha:QE X a ta):QE X (.UnaryOp .Not a pos) (Nw ta):=(OC ha).imp Ax
theorem Az:QA X [] Uj:=pa_nil.imp Aq
theorem Fo (ha:QE X e te)(hr:QA X es t)(hs:starEach (e::es) X.env=(false,eval e X.env)::starEach es X.env:=by rfl):QA X (e::es) (yu te t):=(ZM ha hr hs).imp Fm
theorem HS {k:Nat}(h:QA X es t):QE X (.Tuple es k pos) (SO t):=(OV h).imp Ar
theorem HU (h:QA X es t):QE X (.List es pos) (An t):=(OW h).imp As
end
def Pl:TSD:=λD σ h=>D.nx σ h
def MR (t u:TSD):TSD:=λD σ h=>t {D with nx:=u D} σ h
def Fp (te:TED):TSD:=λD σ h=>te σ h λ_ h1=>D.nx σ h1
def DR (te:TED):TSD:=λD σ h=>te σ h D.rt
def Fq (c:TTD)(t u:TSD):TSD:=λD σ h=>c σ h λb h1=>if b=true then t D σ h1 else u D σ h1
def Fr (i:Nat)(te:TED):TSD:=λD σ h=>te σ h λd h1=>D.nx (σ.set i (some d)) h1
def Ta (te:TED)(g:TGD):TSD:=λD σ h=>te σ h λx h1=>g x σ h1 D.nx
def Tb (i j:Nat)(ta:TAD):TSD:=λD σ h=>ta σ h λds h1=> ∃v w,ds= [v,w]/\D.nx ((σ.set i (some v)).set j (some w)) h1
def gN (i:Nat):TGD:=λd σ h Q=>Q (σ.set i (some d)) h
def gT2 (i j:Nat):TGD:=λd σ h Q=> ∃x y,d= .tup [x,y]/\Q ((σ.set i (some x)).set j (some y)) h
section
variable {K:PySem.W.Frag}
theorem LS.of {t:TSD}{D₀:Ends}{σ:St}{H:Hp}{σd:SD}{h:HD}{Dd:EndsD}(rs:RelS K H σd σ)(rh:RelH K h H)(q:t Dd σd h)
 (nx: ∀σd' h' σ' H',Kept H H'->RelS K H' σd' σ'->RelH K h' H'->Dd.nx σd' h'->D₀.nx σ' H')(rt:Fj K H Dd.rt D₀.rt)
 (bk: ∀σd' h' σ' H',Kept H H'->RelS K H' σd' σ'->RelH K h' H'->Dd.bk σd' h'->D₀.bk σ' H')(ct: ∀σd' h' σ' H',Kept H H'->RelS K H' σd' σ'->RelH K h' H'->Dd.ct σd' h'->D₀.ct σ' H'):LS K t D₀ σ H:=⟨σd,h,Dd,rs,rh,q,nx,rt,bk,ct⟩
theorem Fs: ∀D σ H,LS K Pl D σ H->OD D σ H:=λD σ H ⟨σd,h,Dd,rs,rh,q,nx,_⟩=>nx σd h σ H (.refl H) rs rh q
theorem AA {t u:TSD}: ∀D σ H,LS K (MR t u) D σ H->TK (LS K t) (LS K u) D σ H:=λD σ H ⟨σd,h,Dd,rs,rh,q,nx,rt,bk,ct⟩=>
 LS.of rs rh q (λσd' h' σ' H' k rs' rh' q'=>⟨σd',h',Dd,rs',rh',q',λa b c d k'=>nx a b c d (k.trans k'),jV rt k,λa b c d k'=>bk a b c d (k.trans k'),λa b c d k'=>ct a b c d (k.trans k')⟩) rt bk ct
variable {te:TED}
theorem Ft: ∀D σ H,LS K (Fp te) D σ H->OE (LE K te) D σ H:=λD σ H ⟨σd,h,Dd,rs,rh,q,nx,rt,bk,ct⟩=>
 LE.bind rs rh q λd v h1 H1 k1 rs1 rh1 r1 q1=>nx _ _ _ _ k1 rs1 rh1 q1
theorem AB: ∀D σ H,LS K (DR te) D σ H->TL (LE K te) D σ H:=λD σ H ⟨σd,h,Dd,rs,rh,q,nx,rt,bk,ct⟩=>⟨σd,h,Dd.rt,rs,rh,q,rt⟩
theorem Tc {c:TTD}{t u:TSD}: ∀D σ H,LS K (Fq c t u) D σ H->TN (LT K c) (LS K t) (LS K u) D σ H:=λD σ H ⟨σd,h,Dd,rs,rh,q,nx,rt,bk,ct⟩=>
 LT.bind rs rh q λb h1 H1 k rs1 rh1 q1=>by
  cases b with
  |true=>rw [if_pos rfl] at q1 ⊢;exact⟨σd,h1,Dd,rs1,rh1,q1,λa b c d k'=>nx a b c d (k.trans k'),jV rt k,λa b c d k'=>bk a b c d (k.trans k'),λa b c d k'=>ct a b c d (k.trans k')⟩
  |false=>rw [if_neg P6] at q1 ⊢;exact⟨σd,h1,Dd,rs1,rh1,q1,λa b c d k'=>nx a b c d (k.trans k'),jV rt k,λa b c d k'=>bk a b c d (k.trans k'),λa b c d k'=>ct a b c d (k.trans k')⟩
theorem DS {i:Nat}: ∀D σ H,LS K (Fr i te) D σ H->BW (LE K te) (wN i) D σ H:=λD σ H ⟨σd,h,Dd,rs,rh,q,nx,rt,bk,ct⟩=>
 LE.bind rs rh q λd v h1 H1 k1 rs1 rh1 r1 q1=>nx _ _ _ _ k1 (rs1.set r1 i) rh1 q1
theorem AC {g:TGD}: ∀D σ H,LS K (Ta te g) D σ H->BW (LE K te) (LG K g) D σ H:=λD σ H ⟨σd,h,Dd,rs,rh,q,nx,rt,bk,ct⟩=>
 LE.bind rs rh q λd v h1 H1 k1 rs1 rh1 r1 q1=>⟨d,σd,h1,_,r1,rs1,rh1,q1,λa b c e k'=>nx a b c e (k1.trans k')⟩
theorem AD {i j:Nat}{ta:TAD}: ∀D σ H,LS K (Tb i j ta) D σ H->TR i j (LA K ta) D σ H:=λD σ H ⟨σd,h,Dd,rs,rh,q,nx,rt,bk,ct⟩=>
 LA.bind rs rh q λds vs h1 H1 k1 rs1 rh1 r1 ⟨x,y,e,q1⟩=>by
  subst e;obtain⟨v,r,e,r2,r3⟩:=(show ∃v r,vs=v::r/\RelD K H1 x v/\RelDs K H1 [y] r from r1);obtain⟨w,r',e',r4,r5⟩:=(show ∃v r',r=v::r'/\RelD K H1 y v/\RelDs K H1 [] r' from r3);cases (show r'= [] from r5);subst e' e;exact⟨v,w,rfl,nx _ _ _ _ k1 ((rs1.set r2 i).set r4 j) rh1 q1⟩
theorem Fu (i:Nat): ∀v σ H Q,LG K (gN i) v σ H Q->wN i v σ H Q:=λv σ H Q ⟨d,σd,h,Qd,r,rs,rh,q,p⟩=>p _ _ _ _ (.refl H) (rs.set r i) rh q
theorem yA {H:Hp}{x y:D}{vs:List V}(r:RelDs K H [x,y] vs): ∃v w,vs= [v,w]/\RelD K H x v/\RelD K H y w:=by
 obtain⟨v,r1,e,r2,r3⟩:=(show ∃v r,vs=v::r/\RelD K H x v/\RelDs K H [y] r from r);obtain⟨w,z,e',r4,r5⟩:=(show ∃v z,r1=v::z/\RelD K H y v/\RelDs K H [] z from r3);cases (show z= [] from r5);subst e' e;exact⟨v,w,rfl,r2,r4⟩
theorem jW {H:Hp}{x:D}{vs:List V}(r:RelDs K H [x] vs): ∃v,vs= [v]/\RelD K H x v:=by
 obtain⟨v,r1,e,r2,r3⟩:=(show ∃v r,vs=v::r/\RelD K H x v/\RelDs K H [] r from r);cases (show r1= [] from r3);exact⟨v,e,r2⟩
theorem AE (i j:Nat): ∀v σ H Q,LG K (gT2 i j) v σ H Q->Sv K 2 (Dm (wN i) (Dm (wN j) Su)) v σ H Q:=λv σ H Q ⟨d,σd,h,Qd,r,rs,rh,⟨x,y,e,q⟩,p⟩=>by
 subst e;obtain⟨a,vs,e,hH,r1⟩:=(show ∃a vs,v= .ref a/\H a=some (.tup vs)/\RelDs K H [x,y] vs from r);obtain⟨v1,v2,e1,r2,r3⟩:=yA r1;subst e e1;exact⟨a,[v1,v2],rfl,SqT.of hH,rfl,v1,[v2],rfl,v2,[],rfl,rfl,p _ _ _ _ (.refl H) ((rs.set r2 i).set r3 j) rh q⟩
end
section
variable {X:Cx}{st:Stmt}{sts:List Stmt}{t u:TSD}{e:Expr}{te:TED}{pos:Pos}
theorem AF:QSs X [] Pl:=pss_nil.imp Fs
theorem Fv (h1:QS X st t)(h2:QSs X sts u):QSs X (st::sts) (MR t u):=(Nd h1 h2).imp AA
theorem AG (h1:QS X st t):QSs X [st] t:=CJ h1
theorem Td (he:QE X e te)(hs:swapsWith e none pos.line X.env=pure false:=by rfl):QS X (.Expr e pos) (Fp te):=(CK he hs).imp Ft
theorem HV (he:QE X e te):QS X (.Return (some e) pos) (DR te):=(OF he).imp AB
theorem HW {c:Expr}{a b:List Stmt}{tc:TTD}(hc:QT X c tc)(ha:QSs X a t)(hb:QSs X b u):QS X (.If c a b pos) (Fq tc t u):=(So hc ha hb).imp Tc
variable {i:Nat}{x:Str}
theorem HX {pos':Pos}(hN:X.N.Nodup)(hi:X.N[i]? =some x)(hx:Loc X.env.scope x)(he:QE X e te)(hs:swapsWith e (some (.Name x pos')) pos.line X.env=pure false:=by rfl)
 (hf:X.fn x=true\/X.env.scope.names.lookup x=some .local:=by first|exact .inl rfl|exact .inr rfl|assumption):QS X (.Assign [.Name x pos'] e pos) (Fr i te):=(OJ hN hi hx he hs hf).imp DS
theorem Fw (hN:X.N.Nodup)(hi:X.N[i]? =some x)(hx:Loc X.env.scope x)(hf:X.fn x=true\/X.env.scope.names.lookup x=some .local:=by first|exact .inl rfl|exact .inr rfl|assumption):QG X (.Name x pos) (gN i):=
 (vi hN hi hx hf).imp (Fu i)
theorem AH {j:Nat}{y:Str}{p1 p2:Pos}{k:Nat}(hc:X.calm=true)(hN:X.N.Nodup)(hi:X.N[i]? =some x)(hj:X.N[j]? =some y)(hx:Loc X.env.scope x)(hy:Loc X.env.scope y)
 (hf:X.fn x=true\/X.env.scope.names.lookup x=some .local:=by first|exact .inl rfl|exact .inr rfl|assumption)(hf2:X.fn y=true\/X.env.scope.names.lookup y=some .local:=by first|exact .inl rfl|exact .inr rfl|assumption):
 QG X (.Tuple [.Name x p1,.Name y p2] k pos) (gT2 i j):=(BV hc (Zy (vi hN hi hx hf) (Zy (vi hN hj hy hf2) Do))).imp (AE i j)
theorem HY {tg:Expr}{g:TGD}(he:QE X e te)(hg:QG X tg g)(hs:swapsWithSole [tg] e pos.line X.env=pure false:=by rfl)(hsw:swappedStores [tg] e X.env=pure none:=by rfl)
 (h1:(assignEach [tg] X.env).map (·.2)= [assign tg X.env]:=by rfl):QS X (.Assign [tg] e pos) (Ta te g):=(OH he hg hs hsw h1).imp AC
theorem HZ {j:Nat}{y:Str}{a b:Expr}{ta:TAD}{px py pt:Pos}{kt k2 pt2}(hc:X.calm=true)(hN:X.N.Nodup)(hi:X.N[i]? =some x)(hj:X.N[j]? =some y)(hij:i≠j)
 (hx:X.env.scope.names.lookup x=some .local)(hy:X.env.scope.names.lookup y=some .local)(ha:QA X [a,b] ta)
 (hw:swappedStores [.Tuple [.Name x px,.Name y py] kt pt] (.Tuple [a,b] k2 pt2) X.env=pure (some [x,y]))
 (hs:swapsWithSole [.Tuple [.Name x px,.Name y py] kt pt] (.Tuple [a,b] k2 pt2) pos.line X.env=pure false:=by rfl):
 QS X (.Assign [.Tuple [.Name x px,.Name y py] kt pt] (.Tuple [a,b] k2 pt2) pos) (Tb i j ta):=(OK hc hN hi hj hij hx hy ha hw hs).imp AD
end
abbrev ItD:=HD->Option (List D)
def Fx (K:PySem.W.Frag)(H:Hp)(j:ItD)(J:It):Prop:= ∀H' h',Kept H H'->RelH K h' H'-> ∀ds,j h'=some ds-> ∀i:Nat,
 (∀d,ds[i]? =some d->J.go i H'/\ ∀x H'',J.yld i H' x H''->Kept H' H''/\RelH K h' H''/\RelD K H'' d x)/\(ds.length<=i->J.stop i H')
abbrev TID:=SD->HD->(ItD->HD->Prop)->Prop
def LI (K:PySem.W.Frag)(t:TID):TI:=λσ H R=> ∃σd h Rd,RelS K H σd σ/\RelH K h H/\t σd h Rd/\ ∀j J h' H',Kept H H'->RelH K h' H'->Fx K H' j J->Rd j h'->R J H'
abbrev QI (X:Cx)(tg iter:Expr)(t:TID):Prop:=PI X tg iter (LI X.K t)
theorem PI.imp {X:Cx}{tg e:Expr}{t t':TI}(h:PI X tg e t)(i: ∀σ H R,t' σ H R->t σ H R):PI X tg e t':=λpins s σ H R I q=>h pins s σ H R I (i σ H R q)
def iL (te:TED):TID:=λσ h R=>te σ h λx h1=> ∃a,x= .lst a/\R (λh=>h a) h1
def iR1 (ta:TAD):TID:=λσ h R=>ta σ h λds h1=> ∃n:Int,ds= [.int n]/\ -(2^62)<=n/\n<2^62/\R (λ_=>some ((List.range n.toNat).map λ(k:Nat)=>D.int (k:Int))) h1
section
variable {K:PySem.W.Frag}
theorem Uk (H:Hp)(a:Addr):Fx K H (λh=>h a) (Itl K a):=λH' h' k rh ds e i=>by
 obtain⟨vs,hv,r⟩:=rh a ds e;refine⟨λd hd=> ?_,λhl=>⟨vs,SqL.of hv,by rw [<-r.length];exact hl⟩⟩;obtain⟨v,e1,e2⟩:=r.get hd;refine⟨⟨vs,v,SqL.of hv,e1⟩,λx H'' ⟨eH,hx⟩=> ?_⟩;subst eH;have:=hx vs (SqL.of hv);rw [e1] at this;cases this;exact⟨.refl _,rh,e2⟩
theorem Ny {H:Hp}{a:Addr}{vs:List V}{ds:List D}(hv:H a=some (.tup vs))(r:RelDs K H ds vs):Fx K H (λ_=>some ds) (Itt K a):=λH' h' k rh ds' e i=>by
 cases e;have hv':=k.tup _ _ hv;have r':=r.mono k;refine⟨λd hd=> ?_,λhl=>⟨vs,SqT.of hv',by rw [<-r.length];exact hl⟩⟩;obtain⟨v,e1,e2⟩:=r'.get hd;refine⟨⟨vs,v,SqT.of hv',e1⟩,λx H'' ⟨eH,hx⟩=> ?_⟩;subst eH;have:=hx vs (SqT.of hv');rw [e1] at this;cases this;exact⟨.refl _,rh,e2⟩
theorem Pm (H:Hp)(lo:Int)(n:Nat)(ds:List D)(hd:ds=(List.range n).map λ(k:Nat)=>D.int (lo+(k:Int))):Fx K H (λ_=>some ds) (Itr lo n):=λH' h' k rh ds' e i=>by
 cases e;subst hd;refine⟨λd hd=> ?_,λhl=>(show n<=i by simpa using hl)⟩;rw [P3] at hd;have hi:i<n:=by
  by_cases z:i<n
  ·exact z
  ·rw [C0 (by simpa using z)] at hd;cases hd
 rw [B9 hi] at hd;cases hd;refine⟨hi,λx H'' ⟨eH,hx⟩=> ?_⟩;subst eH hx;exact⟨.refl _,rh,rfl⟩
theorem Fy {te:TED}: ∀σ H R,LI K (iL te) σ H R->ON K (LE K te) σ H R:=λσ H R ⟨σd,h,Rd,rs,rh,q,p⟩=>
 LE.bind rs rh q λd v h1 H1 k1 rs1 rh1 r1 ⟨a,e,q1⟩=>by
  subst e;obtain⟨e,vs,hv⟩:=(show v= .ref a/\ ∃vs,H1 a=some (.lst vs) from r1);exact⟨a,e,⟨vs,SqL.of hv⟩,p _ _ _ _ k1 rh1 (Uk H1 a) q1⟩
theorem Te {ta:TAD}: ∀σ H R,LI K (iR1 ta) σ H R->OO (LA K ta) σ H R:=λσ H R ⟨σd,h,Rd,rs,rh,q,p⟩=>
 LA.bind rs rh q λds vs h1 H1 k1 rs1 rh1 r1 ⟨n,e,b1,b2,q1⟩=>by
  subst e;obtain⟨v,e,r2⟩:=jW r1;cases (show v= .int n from r2);exact⟨n,e,b1,b2,p _ _ _ _ k1 rh1 (Pm H1 0 n.toNat _ (by simp)) q1⟩
end
def AI (ti:TID)(g:TGD)(tb:TSD):TSD:=λD σ h=>ti σ h λj h1=> ∃ (n:Nat) (W:Nat->SD->HD->Prop),W 0 σ h1/\ ∀i σ' h',W i σ' h'-> ∃ds,j h'=some ds/\ds.length<=n/\(ds.length<=i->D.nx σ' h')/\
 ∀d,ds[i]? =some d->g d σ' h' λσ2 h2=>tb {D with nx:=λσ3 h3=> ∃h4,Sub h4 h3/\W (i+1) σ3 h4,ct:=λσ3 h3=> ∃h4,Sub h4 h3/\W (i+1) σ3 h4,bk:=D.nx} σ2 h2
theorem AJ {K:PySem.W.Frag}{ti:TID}{g:TGD}{tb:TSD}: ∀D σ H,LS K (AI ti g tb) D σ H->TV (LI K ti) (LG K g) (LS K tb) D σ H:=λD σ H ⟨σd,h,Dd,rs,rh,q,nx,rt,bk,ct⟩=>by
 refine⟨σd,h,_,rs,rh,q,λj J h1 H1 k1 rh1 jo ⟨n,W,w0,turn⟩=> ?_⟩;refine⟨λi m σ' H'=>m=n-i/\Kept H1 H'/\ ∃σd' h',RelS K H' σd' σ'/\RelH K h' H'/\W i σd' h',⟨n-0,rfl,.refl _,σd,h1,rs.mono k1,rh1,w0⟩,?_⟩;rintro i m σ' H' ⟨rfl,kp,σd',h',rs',rh',w⟩;obtain⟨ds,ej,hn,stop,go⟩:=turn i σd' h' w;have jo':=jo H' h' kp rh' ds ej i
 by_cases hi:i<ds.length
 ·obtain⟨g1,y1⟩:=jo'.1 ds[i] (G0 hi);refine .inr ⟨g1,λσ2 H2=>Kept H1 H2/\ ∃σd2 h2,RelS K H2 σd2 σ2/\RelH K h2 H2/\W (i+1) σd2 h2,λσ2 H2 ⟨k2,a,b,c,d,e⟩=>⟨n-(i+1),by omega,rfl,k2,a,b,c,d,e⟩,λx H'' y=> ?_⟩;obtain⟨k2,rh2,r2⟩:=y1 x H'' y;refine⟨ds[i],σd',h',_,r2,rs'.mono k2,rh2,go ds[i] (G0 hi),λσd3 h3 σ3 H3 k3 rs3 rh3 q3=> ?_⟩;have kk:Kept H H3:=k1.trans (kp.trans (k2.trans k3));have kk1:Kept H1 H3:=kp.trans (k2.trans k3);exact⟨σd3,h3,_,rs3,rh3,q3,λa b c d k4 rs4 rh4 ⟨h4,sb,w4⟩=>⟨kk1.trans k4,a,h4,rs4,rh4.sub sb,w4⟩,jV rt kk,λa b c d k4 rs4 rh4 q4=>nx a b c d (kk.trans k4) rs4 rh4 q4,λa b c d k4 rs4 rh4 ⟨h4,sb,w4⟩=>⟨kk1.trans k4,a,h4,rs4,rh4.sub sb,w4⟩⟩
 ·exact .inl ⟨jo'.2 (V5.mp hi),nx _ _ _ _ (k1.trans kp) rs' rh' (stop (V5.mp hi))⟩
def WS:TTD:=λ_ h Q=>Q true h
def vb (bind:D->SD->SD->Prop)(js:List Nat)(ti:TID)(tt:TTD)(te:TED):TED:=λσ h Q=>ti σ h λj h1=> ∃ (n:Nat) (W:Nat->List D->HD->Prop),W 0 [] h1/\ ∀i ys h',W i ys h'->ys.length<=sizeLine/\
 ∃ds,j h'=some ds/\ds.length<=n/\(ds.length<=i-> ∀p,h' p=none->Q (.lst p) (zY h' p ys))/\
  ∀d,ds[i]? =some d-> ∃σ2,bind d (jP js σ) σ2/\tt σ2 h' λb h3=>if b=true then te σ2 h3 λy h4=> ∃h5,Sub h5 h4/\W (i+1) (ys++ [y]) h5 else ∃h5,Sub h5 h3/\W (i+1) ys h5
def bN (i:Nat):D->SD->SD->Prop:=λd σ σ2=>σ2=σ.set i (some d)
def b2 (i j:Nat):D->SD->SD->Prop:=λd σ σ2=> ∃x y,d= .tup [x,y]/\σ2=(σ.set i (some x)).set j (some y)
theorem AK {K:PySem.W.Frag}: ∀σ H Q,LT K WS σ H Q->Hg σ H Q:=λσ H Q ⟨σd,h,Qd,rs,rh,q,p⟩=>p true h H (.refl H) rh q
def DT (K:PySem.W.Frag)(js:List Nat)(bind:D->SD->SD->Prop)(g:TG):Prop:= ∀ (σ:St) (σd σd2:SD) (H:Hp) (d:D) (v:V) (Q:St->Hp->Prop),RelS K H (jP js σd) (wa js σ)->RelD K H d v->bind d (jP js σd) σd2->
 (∀σ2,Agree (wa js σ) σ2->RelS K H σd2 σ2->Q σ2 H)->g v (wa js σ) H Q
theorem AL {K:PySem.W.Frag}{js:List Nat}{i:Nat}(hi:i∈js):DT K js (bN i) (wN i):=λσ σd σd2 H d v Q rs r b q=>by
 cases (show σd2=_ from b);exact q _ (.set v λu=>zJ js σ i u hi) (rs.set r i)
theorem Tf {K:PySem.W.Frag}{js:List Nat}{i j:Nat}(hi:i∈js)(hj:j∈js)(hij:i≠j):DT K js (b2 i j) (Sv K 2 (Dm (wN i) (Dm (wN j) Su))):=λσ σd σd2 H d v Q rs r b q=>by
 obtain⟨x,y,e,e2⟩:=b;subst e e2;obtain⟨a,vs,e,hH,r1⟩:=(show ∃a vs,v= .ref a/\H a=some (.tup vs)/\RelDs K H [x,y] vs from r);obtain⟨v1,v2,e1,r2,r3⟩:=yA r1;subst e e1;refine⟨a,[v1,v2],rfl,SqT.of hH,rfl,v1,[v2],rfl,v2,[],rfl,rfl,q _ (.trans (.set v1 λu=>zJ js σ i u hi) (.set v2 λu z=> ?_)) ((rs.set r2 i).set r3 j)⟩;rw [B3 hij] at z;exact zJ js σ j u hj z
theorem Fz {K:PySem.W.Frag}{bind:D->SD->SD->Prop}{js:List Nat}{ti:TID}{tt:TTD}{te:TED}{g:TG}(hb:DT K js bind g): ∀σ H Q,LE K (vb bind js ti tt te) σ H Q->tLC js (LI K ti) g (LT K tt) (LE K te) σ H Q:=
 λσ H Q ⟨σd,h,Qd,rs,rh,q,p⟩=>by
  refine⟨σd,h,_,rs,rh,q,λj J h1 H1 k1 rh1 jo ⟨n,W,w0,turn⟩=> ?_⟩;refine⟨λi m ys H'=>m=n-i/\Kept H1 H'/\ ∃ds h',RelDs K H' ds ys/\RelH K h' H'/\W i ds h',⟨n-0,rfl,.refl _,[],h1,rfl,rh1,w0⟩,?_⟩;rintro i m ys H' ⟨rfl,kp,yd,h',ry,rh',w⟩;obtain⟨hz,ds,ej,hn,stop,go⟩:=turn i yd h' w;refine⟨by rw [<-ry.length];exact hz,?_⟩;have jo':=jo H' h' kp rh' ds ej i;have kk:Kept H H':=k1.trans kp
  by_cases hi:i<ds.length
  ·obtain⟨g1,y1⟩:=jo'.1 ds[i] (G0 hi);refine .inr ⟨g1,λx H'' y=> ?_⟩;obtain⟨k2,rh2,r2⟩:=y1 x H'' y;obtain⟨σd2,bd,q2⟩:=go ds[i] (G0 hi);refine hb σ σd σd2 H'' ds[i] x _ (((rs.mono (kk.trans k2))).clear js) r2 bd λσ2 ag rs2=>⟨ag,?_⟩
   refine LT.bind rs2 rh2 q2 λb h3 H3 k3 rs3 rh3 q3=> ?_
   cases b with
   |true=>
    rw [if_pos rfl] at q3 ⊢;refine LE.bind rs3 rh3 q3 λd4 v4 h4 H4 k4 rs4 rh4 r4 ⟨h5,sb,w5⟩=>⟨n-(i+1),by omega,rfl,kp.trans (k2.trans (k3.trans k4)),yd++ [d4],h5,(ry.mono (k2.trans (k3.trans k4))).append (.cons r4 .nil),rh4.sub sb,w5⟩
   |false=>
    rw [if_neg P6] at q3 ⊢;obtain⟨h5,sb,w5⟩:=q3;exact⟨n-(i+1),by omega,rfl,kp.trans (k2.trans k3),yd,h5,ry.mono (k2.trans k3),rh3.sub sb,w5⟩
  ·refine .inl ⟨jo'.2 (V5.mp hi),λa ha=>p (.lst a) (.ref a) _ _ (kk.trans (.new ha)) (rh'.newL ha ry) ⟨rfl,ys,jt⟩ (stop (V5.mp hi) a (rh'.free ha))⟩
theorem wx {X:Cx}{scope:Scope}{C:Addr}{s₀:Shared}{H₀:Hp}{ex:List Addr}{i:Nat}{x:Str}{p:Pos}(hN:X.N.Nodup)(hx:X.N[i]? =some x)(hl:scope.names.lookup x=some .local\/scope.names.lookup x=some .cell):
 PG (YR X scope C s₀ H₀ ex) (.Name x p) (wN i):=by
 rcases hl with z|z
 ·exact vi hN hx (.inl (lookup_relabel_local z)) (.inr (lookup_relabel_local z))
 ·exact vi hN hx (.inr (vj z)) (.inl (by show (scope.names.lookup x==some NameKind.cell)=true;rw [z];rfl))
section
variable {X:Cx}{tg e iter elt:Expr}{te:TED}{ti:TID}{g:TGD}{tb:TSD}{tt:TTD}{pos:Pos}{ta:TAD}{scope:Scope}{js:List Nat}{ifs:List Expr}
theorem FA (he:QE X e te):QI X tg e (iL te):=(CM he).imp Fy
theorem Tg {p:Pos}{a:Expr}(hg:Gl X "range")(hm:X.mg "range" =none)(ha:QA X [a] ta)(hs:starEach [a] X.env= [(false,eval a X.env)]:=by rfl):QI X tg (.Call (.Name "range" p) [a] [] pos) (iR1 ta):=(Dp hg hm ha hs).imp Te
theorem Ka {body:List Stmt}(hp:PassesOwn (model X.prog X.w) X.A X.env X.xe)(hc:X.calm=true)(hi:QI X tg iter ti)(hg:QG X tg g)(hb:QSs X body tb)(hs: ∀x,foldedSetIterable iter X.env x=pure x:=by intro _;rfl):
 QS X (.For tg iter body [] pos) (AI ti g tb):=(OP hp hc hi hg hb hs).imp AJ
theorem FB:PTs X [] (LT X.K WS):=λpins s σ H Q I h=>Fg pins s σ H Q I (AK σ H Q h)
theorem FC {c:Expr}(hc:QT X c tt):PTs X [c] (LT X.K tt):=Fh hc
theorem qlc {i:Nat}{x:Str}{p:Pos}(hc:X.calm=true)(S:BlockOk X scope js)(hi:QI X (.Name x p) iter ti)(hj:i∈js)(hN:X.N.Nodup)(hx:X.N[i]? =some x)(hl:scope.names.lookup x=some .local\/scope.names.lookup x=some .cell)
 (ht: ∀X',jk X scope X'->PTs X' ifs (LT X'.K tt))(he: ∀X',jk X scope X'->QE X' elt te)(hs: ∀x,foldedSetIterable iter X.env x=pure x:=by intro _;rfl):
 QE X (.ListComp elt [⟨.Name x p,iter,ifs,0⟩] scope pos) (vb (bN i) js ti tt te):=
 (Al hc S hi (λX' hX=>by obtain⟨C,s₀,H₀,ex,rfl⟩:=hX;exact wx hN hx hl) (λX' hX=>by have:=ht X' hX;obtain⟨C,s₀,H₀,ex,rfl⟩:=hX;exact this)
  (λX' hX=>by have:=he X' hX;obtain⟨C,s₀,H₀,ex,rfl⟩:=hX;exact this) hs).imp (Fz (AL hj))
theorem Kb {i j:Nat}{x y:Str}{p1 p2 p3:Pos}{k:Nat}(hc:X.calm=true)(S:BlockOk X scope js)(hi:QI X (.Tuple [.Name x p1,.Name y p2] k p3) iter ti)(hj:i∈js)(hj2:j∈js)(hij:i≠j)(hN:X.N.Nodup)(hx:X.N[i]? =some x)(hy:X.N[j]? =some y)
 (hl:scope.names.lookup x=some .local\/scope.names.lookup x=some .cell)(hl2:scope.names.lookup y=some .local\/scope.names.lookup y=some .cell)
 (ht: ∀X',jk X scope X'->PTs X' ifs (LT X'.K tt))(he: ∀X',jk X scope X'->QE X' elt te)(hs: ∀x,foldedSetIterable iter X.env x=pure x:=by intro _;rfl):
 QE X (.ListComp elt [⟨.Tuple [.Name x p1,.Name y p2] k p3,iter,ifs,0⟩] scope pos) (vb (b2 i j) js ti tt te):=
 (Al hc S hi (λX' hX=>by
  obtain⟨C,s₀,H₀,ex,rfl⟩:=hX;exact BV hc (Zy (wx hN hx hl) (Zy (wx hN hy hl2) Do))) (λX' hX=>by have:=ht X' hX;obtain⟨C,s₀,H₀,ex,rfl⟩:=hX;exact this)
  (λX' hX=>by have:=he X' hX;obtain⟨C,s₀,H₀,ex,rfl⟩:=hX;exact this) hs).imp (Fz (Tf hj hj2 hij))
end
def LSp (K:PySem.W.Frag)(spd:RDn):Sp:=λvs H Q _=>LC K spd vs H Q
theorem FD {K:PySem.W.Frag}{spd:RDn}{t:TAD}{E:XK}: ∀σ H Q,LE K (dCB spd t) σ H Q->OX (LSp K spd) [] E (LA K t) σ H Q:=λσ H Q ⟨σd,h,Qd,rs,rh,t,p⟩=>
 LA.bind rs rh t λds vs h1 H1 k1 rs1 rh1 r1 q=>by rw [B7];exact⟨ds,h1,Qd,r1,rh1,q,jV p k1⟩
section
variable {X:Cx}{k:Nat}{f:Addr}{fd:FuncData}{ps:List Str}{spd:RDn}{x:Str}{p pos:Pos}{e:Expr}{es:List Expr}{t:TAD}
theorem Th (F:FnOk X.prog X.w X.K X.mg X.base CX0 k f fd ps (LSp X.K spd))(hr:Room k X.A)(hg:Gl X x)(hm:X.mg x=some (.ref f))(hk:PySem.W.keepIn X.K (.ref f)=true)(hb:Binds X.K fd ps [])
 (ha:QA X (e::es) t)(hdb:(x==("__debug__" :Str))=false:=by decide)(he:starEach (e::es) X.env=(false,eval e X.env)::starEach es X.env:=by rfl)(hpl:(backTo pos (starEach es X.env)).any (·.1)=false:=by rfl):
 QE X (.Call (.Name x p) (e::es) [] pos) (dCB spd t):=(CU F hr hg hm hk hb .nil SJ ha hdb he hpl).imp FD
theorem AM {id:String}{r:RDn}(hc:Jb X (.builtin id) r)(hg:Gl X x)(hm:X.mg x=none)(hv:bootBuiltins x=some (.builtin id))(ha:QA X (e::es) t)(hn:x≠ "__name__" :=by decide)(hdb:(x==("__debug__" :Str))=false:=by decide)
 (he:starEach (e::es) X.env=(false,eval e X.env)::starEach es X.env:=by rfl)(hpl:(backTo pos (starEach es X.env)).any (·.1)=false:=by rfl):QE X (.Call (.Name x p) (e::es) [] pos) (dCB r t):=(Go hc hg hm hv ha hn hdb he hpl).imp At
theorem FE {T:String}{r:RDn}(hc:Jb X (.type T) r)(hg:Gl X x)(hm:X.mg x=none)(hv:bootBuiltins x=some (.type T))(ha:QA X (e::es) t)(hn:x≠ "__name__" :=by decide)(hdb:(x==("__debug__" :Str))=false:=by decide)
 (he:starEach (e::es) X.env=(false,eval e X.env)::starEach es X.env:=by rfl)(hpl:(backTo pos (starEach es X.env)).any (·.1)=false:=by rfl):QE X (.Call (.Name x p) (e::es) [] pos) (dCB r t):=(Dz hc hg hm hv ha hn hdb he hpl).imp At
end
def yo (N:List Str)(ds:List D):SD:=ds.map some++List.replicate (N.length-ds.length) none
theorem Pn {K:PySem.W.Frag}{H:Hp}{N:List Str}{ds:List D}{vs:List V}(r:RelDs K H ds vs):RelS K H (yo N ds) (start N vs):=by
 have hl:=r.length;refine⟨by unfold yo start;simp [hl],λi d e=> ?_⟩;unfold yo at e;unfold start
 by_cases hi:i<ds.length
 ·rw [D2 (by simpa using hi),P3] at e;cases q:ds[i]? with
  |none=>rw [q] at e;cases e
  |some d'=>
   rw [q] at e;cases e;obtain⟨v,e1,e2⟩:=r.get q;exact⟨v,by rw [D2 (by simpa [<-hl] using hi),P3,e1];rfl,e2⟩
 ·rw [P4 (by simpa using hi),G0k] at e;split at e<;>cases e
def Nz (Q:KD):EndsD:= {nx:=λ_ h=> ∃h',Sub h' h/\Q .non h',rt:=λd h=> ∃h',Sub h' h/\Q d h'}
section
variable {P:Program}{w:World}{K:PySem.W.Frag}{mg:Str->Option Value}{base:Heap}
theorem Fun.okD {x qual:Str}{st:Stmt}{f:Addr}{fd:FuncData}{N ps:List Str}{k:Nat}{spd:RDn}(F:Fun K x qual st f fd)(S:FnScope N ps (jf st))(len: ∀ds h Q,spd ds h Q->ds.length=ps.length)
 (tb:TSD)(hbody: ∀ (cdv:Value) (A:Around) (outer:List Env) (s:Shared) (H:Hp) (E:XK),Room k (A.deeper (envOfC qual (jf st) s.heap.objs.size f cdv))->QSs (BZ CX0 P w K mg base N qual (jf st) f cdv A outer s H E).nox (wo st) tb)
 (read: ∀ds h Q,spd ds h Q->tb (Nz Q) (yo N ds) h):FnOk P w K mg base CX0 (k+1) f fd ps (LSp K spd):=by
 refine F.ok S (λvs H Q E h=> ?_) (λcdv A outer s H vs Q E hr h=> ?_)
 ·obtain⟨ds,h,Qd,r,rh,q,p⟩:=h;rw [<-r.length];exact len _ _ _ q
 ·obtain⟨ds,h,Qd,r,rh,q,p⟩:=h;refine⟨_,hbody cdv A outer s H E hr,yo N ds,h,Nz Qd,Pn r,rh,read ds h Qd q,λσd' h' σ' H' k rs' rh' ⟨h2,sb,q'⟩=>p .non .non h2 H' k (rh'.sub sb) rfl q',λd v h' H' k rh' r' ⟨h2,sb,q'⟩=>p d v h2 H' k (rh'.sub sb) r' q',λ_ _ _ _ _ _ _ z=>z.elim,λ_ _ _ _ _ _ _ z=>z.elim⟩
end
section
variable {X:Cx}{iter elt:Expr}{te:TED}{ti:TID}{tt:TTD}{pos spos:Pos}{scope:Scope}{js:List Nat}{ifs:List Expr}
theorem AN {i k:Nat}{x y:Str}{p py:Pos}(hc:X.calm=true)(hN:X.N.Nodup)(hk:X.N[k]? =some y)(hy:Loc X.env.scope y)(S:BlockOk X scope js)(hi:QI X (.Name x p) iter ti)(hj:i∈js)(hx:X.N[i]? =some x)(hl:scope.names.lookup x=some .local\/scope.names.lookup x=some .cell)
 (ht: ∀X',jk X scope X'->PTs X' ifs (LT X'.K tt))(he: ∀X',jk X scope X'->QE X' elt te)
 (hsw:swapsWith (.ListComp elt [⟨.Name x p,iter,ifs,0⟩] scope pos) (some (.Name y py)) spos.line X.env=pure true:=by rfl)
 (hf:X.fn y=true\/X.env.scope.names.lookup y=some .local:=by first|exact .inl rfl|exact .inr rfl|assumption)(hs: ∀x,foldedSetIterable iter X.env x=pure x:=by intro _;rfl):
 QS X (.Assign [.Name y py] (.ListComp elt [⟨.Name x p,iter,ifs,0⟩] scope pos) spos) (Fr k (vb (bN i) js ti tt te)):=by
 have base:PS X (.Assign [.Name y py] (.ListComp elt [⟨.Name x p,iter,ifs,0⟩] scope pos) spos) (BW (tLC js (LI X.K ti) (wN i) (LT X.K tt) (LE X.K te)) (wN k)):=
  Nt hc S hi (λX' hX=>by obtain⟨C,s₀,H₀,ex,rfl⟩:=hX;exact wx hN hx hl) (λX' hX=>by have:=ht X' hX;obtain⟨C,s₀,H₀,ex,rfl⟩:=hX;exact this)
   (λX' hX=>by have:=he X' hX;obtain⟨C,s₀,H₀,ex,rfl⟩:=hX;exact this) (vi hN hk hy hf) hsw hs
 exact base.imp λD σ H h=>by
  obtain⟨σd,hd,Qd,rs,rh,t,p⟩:=DS (K:=X.K) D σ H h;exact Fz (AL hj) σ H _ ⟨σd,hd,Qd,rs,rh,t,p⟩
end
def dIn (i':Nat)(ti:TID)(tt:TTD)(te:TED)(V:List D->HD->Prop)(ys:List D):SD->HD->Prop:=λσ h=>ti σ h λj h1=> ∃ (n:Nat) (W:Nat->List D->HD->Prop),W 0 ys h1/\ ∀i ys h',W i ys h'->ys.length<=sizeLine/\
 ∃ds,j h'=some ds/\ds.length<=n/\(ds.length<=i->V ys h')/\
  ∀d,ds[i]? =some d->tt (σ.set i' (some d)) h' λb h3=>if b=true then te (σ.set i' (some d)) h3 λy h4=> ∃h5,Sub h5 h4/\W (i+1) (ys++ [y]) h5 else ∃h5,Sub h5 h3/\W (i+1) ys h5
def FF (bind:D->SD->SD->Prop)(js:List Nat)(ti:TID)(tt:TTD)(i':Nat)(ti':TID)(tt':TTD)(te:TED):TED:=λσ h Q=>ti σ h λj h1=> ∃ (n:Nat) (W:Nat->List D->HD->Prop),W 0 [] h1/\ ∀i ys h',W i ys h'->ys.length<=sizeLine/\
 ∃ds,j h'=some ds/\ds.length<=n/\(ds.length<=i-> ∀p,h' p=none->Q (.lst p) (zY h' p ys))/\
  ∀d,ds[i]? =some d-> ∃σ2,bind d (jP js σ) σ2/\tt σ2 h' λb h3=>if b=true then dIn i' ti' tt' te (λys' h6=> ∃h5,Sub h5 h6/\W (i+1) ys' h5) ys σ2 h3 else ∃h5,Sub h5 h3/\W (i+1) ys h5
def DU (K:PySem.W.Frag)(js:List Nat)(i':Nat)(bind:D->SD->SD->Prop)(g:TG):Prop:= ∀ (σ:St) (σd σd2:SD) (H:Hp) (d:D) (v:V) (Q:St->Hp->Prop),RelS K H (jP js σd) (wa js σ)->RelD K H d v->bind d (jP js σd) σd2->
 (∀σ2,Agree (wa js σ) σ2->(∀u,¬σ2[i']? =some (some u))->RelS K H σd2 σ2->Q σ2 H)->g v (wa js σ) H Q
theorem Cd {K:PySem.W.Frag}{js:List Nat}{i i':Nat}(hi:i∈js)(hi':i'∈js)(hne:i≠i'):DU K js i' (bN i) (wN i):=λσ σd σd2 H d v Q rs r b q=>by
 cases (show σd2=_ from b);refine q _ (.set v λu=>zJ js σ i u hi) (λu z=> ?_) (rs.set r i);rw [B3 hne] at z;exact zJ js σ i' u hi' z
theorem Ce {K:PySem.W.Frag}{bind:D->SD->SD->Prop}{js:List Nat}{i':Nat}{ti ti':TID}{tt tt':TTD}{te:TED}{g:TG}(hb:DU K js i' bind g): ∀σ H Q,LE K (FF bind js ti tt i' ti' tt' te) σ H Q->Sc js (LI K ti) g (LT K tt) (LI K ti') (wN i') (LT K tt') (LE K te) σ H Q:=
 λσ H Q ⟨σd,h,Qd,rs,rh,q,p⟩=>by
  refine⟨σd,h,_,rs,rh,q,λj J h1 H1 k1 rh1 jo ⟨n,W,w0,turn⟩=> ?_⟩;refine⟨λi m ys H'=>m=n-i/\Kept H1 H'/\ ∃ds h',RelDs K H' ds ys/\RelH K h' H'/\W i ds h',⟨n-0,rfl,.refl _,[],h1,rfl,rh1,w0⟩,?_⟩;rintro i m ys H' ⟨rfl,kp,yd,h',ry,rh',w⟩;obtain⟨hz,ds,ej,hn,stop,go⟩:=turn i yd h' w;refine⟨by rw [<-ry.length];exact hz,?_⟩;have jo':=jo H' h' kp rh' ds ej i;have kk:Kept H H':=k1.trans kp
  by_cases hi:i<ds.length
  ·obtain⟨g1,y1⟩:=jo'.1 ds[i] (G0 hi);refine .inr ⟨g1,λx H'' y=> ?_⟩;obtain⟨k2,rh2,r2⟩:=y1 x H'' y;obtain⟨σd2,bd,q2⟩:=go ds[i] (G0 hi);refine hb σ σd σd2 H'' ds[i] x _ (((rs.mono (kk.trans k2))).clear js) r2 bd λσ2 ag un rs2=>⟨ag,?_⟩
   refine LT.bind rs2 rh2 q2 λb h3 H3 k3 rs3 rh3 q3=> ?_
   cases b with
   |true=>
    rw [if_pos rfl] at q3 ⊢
    -- the second clause
    refine⟨σd2,h3,_,rs3,rh3,q3,λj2 J2 h4 H4 k4 rh4 jo2 ⟨n2,W2,w20,turn2⟩=> ?_⟩;refine⟨λi2 m2 ys2 H5=>m2=n2-i2/\Kept H4 H5/\ ∃ds h5,RelDs K H5 ds ys2/\RelH K h5 H5/\W2 i2 ds h5,⟨n2-0,rfl,.refl _,yd,h4,ry.mono (k2.trans (k3.trans k4)),rh4,w20⟩,?_⟩;rintro i2 m2 ys2 H5 ⟨rfl,kp5,yd5,h5,ry5,rh5,w5⟩;obtain⟨hz5,ds5,ej5,hn5,stop5,go5⟩:=turn2 i2 yd5 h5 w5;refine⟨by rw [<-ry5.length];exact hz5,?_⟩;have jo5:=jo2 H5 h5 kp5 rh5 ds5 ej5 i2;have kk5:Kept H1 H5:=kp.trans (k2.trans (k3.trans (k4.trans kp5)))
    by_cases hi5:i2<ds5.length
    ·obtain⟨g5,y5⟩:=jo5.1 ds5[i2] (G0 hi5);refine .inr ⟨g5,λx6 H6 yy6=> ?_⟩;obtain⟨k6,rh6,r6⟩:=y5 x6 H6 yy6;refine⟨.set x6 un,?_⟩;have rs6:=(rs3.mono (k4.trans (kp5.trans k6))).set r6 i';refine LT.bind rs6 rh6 (go5 ds5[i2] (G0 hi5)) λb h7 H7 k7 rs7 rh7 q7=> ?_
     cases b with
     |true=>
      rw [if_pos rfl] at q7 ⊢;exact LE.bind rs7 rh7 q7 λd8 v8 h8 H8 k8 rs8 rh8 r8 ⟨h9,sb,w9⟩=>⟨n2-(i2+1),by omega,rfl,kp5.trans (k6.trans (k7.trans k8)),yd5++ [d8],h9,(ry5.mono (k6.trans (k7.trans k8))).append (.cons r8 .nil),rh8.sub sb,w9⟩
     |false=>
      rw [if_neg P6] at q7 ⊢;obtain⟨h9,sb,w9⟩:=q7;exact⟨n2-(i2+1),by omega,rfl,kp5.trans (k6.trans k7),yd5,h9,ry5.mono (k6.trans k7),rh7.sub sb,w9⟩
    ·obtain⟨h9,sb,w9⟩:=stop5 (V5.mp hi5);exact .inl ⟨jo5.2 (V5.mp hi5),n-(i+1),by omega,rfl,kk5,yd5,h9,ry5,rh5.sub sb,w9⟩
   |false=>
    rw [if_neg P6] at q3 ⊢;obtain⟨h5,sb,w5⟩:=q3;exact⟨n-(i+1),by omega,rfl,kp.trans (k2.trans k3),yd,h5,ry.mono (k2.trans k3),rh3.sub sb,w5⟩
  ·refine .inl ⟨jo'.2 (V5.mp hi),λa ha=>p (.lst a) (.ref a) _ _ (kk.trans (.new ha)) (rh'.newL ha ry) ⟨rfl,ys,jt⟩ (stop (V5.mp hi) a (rh'.free ha))⟩
section
variable {X:Cx}{iter iter' elt:Expr}{te:TED}{ti ti':TID}{tt tt':TTD}{pos:Pos}{scope:Scope}{js:List Nat}{ifs ifs':List Expr}
theorem Kc {i i':Nat}{x y:Str}{p py:Pos}(hc:X.calm=true)(S:BlockOk X scope js)(hi:QI X (.Name x p) iter ti)(hj:i∈js)(hj':i'∈js)(hne:i≠i')(hN:X.N.Nodup)(hx:X.N[i]? =some x)(hy:X.N[i']? =some y)
 (hl:scope.names.lookup x=some .local\/scope.names.lookup x=some .cell)(hl':scope.names.lookup y=some .local\/scope.names.lookup y=some .cell)
 (ht: ∀X',jk X scope X'->PTs X' ifs (LT X'.K tt))(hi': ∀X',jk X scope X'->QI X' (.Name y py) iter' ti')(ht': ∀X',jk X scope X'->PTs X' ifs' (LT X'.K tt'))(he: ∀X',jk X scope X'->QE X' elt te)
 (hs: ∀x,foldedSetIterable iter X.env x=pure x:=by intro _;rfl)(hs': ∀env x,foldedSetIterable iter' env x=pure x:=by intro _ _;rfl):
 QE X (.ListComp elt [⟨.Name x p,iter,ifs,0⟩,⟨.Name y py,iter',ifs',0⟩] scope pos) (FF (bN i) js ti tt i' ti' tt' te):=
 (show PE X _ (Sc js (LI X.K ti) (wN i) (LT X.K tt) (LI X.K ti') (wN i') (LT X.K tt') (LE X.K te)) from Am hc S hi (λX' hX=>by obtain⟨C,s₀,H₀,ex,rfl⟩:=hX;exact wx hN hx hl) (λX' hX=>by have:=ht X' hX;obtain⟨C,s₀,H₀,ex,rfl⟩:=hX;exact this) (λX' hX=>by have:=hi' X' hX;obtain⟨C,s₀,H₀,ex,rfl⟩:=hX;exact this)
  (λX' hX=>by obtain⟨C,s₀,H₀,ex,rfl⟩:=hX;exact wx hN hy hl') (λX' hX=>by have:=ht' X' hX;obtain⟨C,s₀,H₀,ex,rfl⟩:=hX;exact this)
  (λX' hX=>by have:=he X' hX;obtain⟨C,s₀,H₀,ex,rfl⟩:=hX;exact this) hs hs').imp (Ce (Cd hj hj' hne))
end
def Kd:RD2:=λx y h Q=>match x,y with
 | .int i,.int j=>Q (.int (i+j)) h
 | .tup a,.tup b=>a.length+b.length<=sizeLine/\Q (.tup (a++b)) h
 | .lst a,.lst b=> ∃xs ys,h a=some xs/\h b=some ys/\xs.length+ys.length<=sizeLine/\ ∀p,h p=none->Q (.lst p) (zY h p (xs++ys))
 |_,_=>False
def Hh:RD2:=λx y h Q=>match x,y with
 | .int i,.int j=>Q (.int (i-j)) h
 |_,_=>False
def Hi:RD2:=λx y h Q=>match x,y with
 | .int i,.int j=>CMul i j/\Q (.int (i*j)) h
 | .lst a,.int k=> ∃xs,h a=some xs/\ -(2^63)<=k/\k<2^63/\xs.length*k.toNat<=sizeLine/\ ∀p,h p=none->Q (.lst p) (zY h p (List.replicate k.toNat xs).flatten)
 |_,_=>False
def Ke:RD2:=λx y h Q=>match x,y with
 | .int i,.int j=>0<j/\Q (.int (i%j)) h
 |_,_=>False
def Ti:RD2:=λx y h Q=>match x,y with
 | .int i,.int j=>TX i j/\Q (.int (i / j)) h
 |_,_=>False
def Hj:RD2:=λx y h Q=>match x,y with
 | .int i,.int j=>TY i j/\Q (.int (i^j.toNat)) h
 |_,_=>False
def Cf (p:Int->Int->Bool):RD2:=λx y h Q=>match x,y with
 | .int i,.int j=>Q (.bl (p i j)) h
 |_,_=>False
def eqD:RD2:=λx y h Q=>match x,y with
 | .int i,.int j=>Q (.bl (decide (i=j))) h
 | .bl i,.bl j=>Q (.bl (decide (i=j))) h
 | .str i,.str j=>Q (.bl (decide (i=j))) h
 |_,_=>False
def neD:RD2:=λx y h Q=>match x,y with
 | .int i,.int j=>Q (.bl (!decide (i=j))) h
 | .bl i,.bl j=>Q (.bl (!decide (i=j))) h
 | .str i,.str j=>Q (.bl (!decide (i=j))) h
 |_,_=>False
section
variable {X:Cx}
theorem XL {f:Value->Value->Sem Value}{C:Int->Int->Prop}{g:Int->Int->V}{gd:Int->Int->D}{r:RD2}(ho:OpR X f (rI C g))(hg: ∀i j H,RelD X.K H (gd i j) (g i j))
 (hr: ∀x y h Q,r x y h Q-> ∃i j,x= .int i/\y= .int j/\C i j/\Q (gd i j) h):OpQ X f r:=ho.imp λx y H Q ⟨dx,dy,h,Qd,rx,ry,rh,q,p⟩=>by
 obtain⟨i,j,e1,e2,c,q'⟩:=hr dx dy h Qd q;subst e1 e2;exact⟨i,j,rx,ry,c,p _ _ _ _ (.refl H) rh (hg i j H) q'⟩
theorem Jc {f:Value->Value->Sem Value}{g:Int->Int->V}{gd:Int->Int->D}{r:RD2}(ho:OpR X f (rI0 g))(hg: ∀i j H,RelD X.K H (gd i j) (g i j))
 (hr: ∀x y h Q,r x y h Q-> ∃i j,x= .int i/\y= .int j/\Q (gd i j) h):OpQ X f r:=ho.imp λx y H Q ⟨dx,dy,h,Qd,rx,ry,rh,q,p⟩=>by
 obtain⟨i,j,e1,e2,q'⟩:=hr dx dy h Qd q;subst e1 e2;exact⟨i,j,rx,ry,p _ _ _ _ (.refl H) rh (hg i j H) q'⟩
theorem Yq:OpQ X (binaryOp .Sub) Hh:=Jc (gd:=λi j=> .int (i-j)) OQ (λ_ _ _=>rfl) λx y h Q q=>by
 cases x<;>cases y<;>first|exact False.elim q|exact⟨_,_,rfl,rfl,q⟩
theorem yB:OpQ X (binaryOp .Mod) Ke:=XL (gd:=λi j=> .int (i%j)) OR (λ_ _ _=>rfl) λx y h Q q=>by
 cases x<;>cases y<;>first|exact False.elim q|exact⟨_,_,rfl,rfl,q.1,q.2⟩
theorem FG:OpQ X (binaryOp .FloorDiv) Ti:=XL (gd:=λi j=> .int (i / j)) CN (λ_ _ _=>rfl) λx y h Q q=>by
 cases x<;>cases y<;>first|exact False.elim q|exact⟨_,_,rfl,rfl,q.1,q.2⟩
theorem DV:OpQ X (binaryOp .Pow) Hj:=XL (gd:=λi j=> .int (i^j.toNat)) OS (λ_ _ _=>rfl) λx y h Q q=>by
 cases x<;>cases y<;>first|exact False.elim q|exact⟨_,_,rfl,rfl,q.1,q.2⟩
theorem YV {p:Int->Int->Bool}: ∀x y h Q,Cf p x y h Q-> ∃i j,x= .int i/\y= .int j/\Q (.bl (p i j)) h:=λx y h Q q=>by
 cases x<;>cases y<;>first|exact False.elim q|exact⟨_,_,rfl,rfl,q⟩
theorem NA:OpQ X (compareOp .Lt) (Cf λi j=>decide (i<j)):=Jc (gd:=λi j=> .bl (decide (i<j))) Sz (λ_ _ _=>rfl) YV
theorem DW:OpQ X (compareOp .LtE) (Cf λi j=>decide (i<=j)):=Jc (gd:=λi j=> .bl (decide (i<=j))) SA (λ_ _ _=>rfl) YV
theorem Tj:OpQ X (compareOp .Gt) (Cf λi j=>decide (j<i)):=Jc (gd:=λi j=> .bl (decide (j<i))) SB (λ_ _ _=>rfl) YV
theorem FH:OpQ X (compareOp .GtE) (Cf λi j=>decide (j<=i)):=Jc (gd:=λi j=> .bl (decide (j<=i))) SC (λ_ _ _=>rfl) YV
theorem Oh {α:Type}[DecidableEq α]{f:α->V}(hf: ∀a b,f a=f b->a=b)(a b:α):decide (f a=f b)=decide (a=b):=by
 by_cases h:a=b
 ·subst h;simp
 ·rw [D6 h,D6 (λe=>h (hf a b e))]
theorem oq_eq:OpQ X (compareOp .Eq) eqD:=op_eq.imp λx y H Q ⟨dx,dy,h,Qd,rx,ry,rh,q,p⟩=>by
 cases dx<;>cases dy<;>first
  |exact False.elim q
  |(cases (show x= .int _ from rx);cases (show y= .int _ from ry);refine⟨rfl,p _ _ _ _ (.refl H) rh ?_ q⟩;rw [Oh (f:=V.int) (λa b e=>by cases e;rfl)];rfl)
  |(cases (show x= .bl _ from rx);cases (show y= .bl _ from ry);refine⟨rfl,p _ _ _ _ (.refl H) rh ?_ q⟩;rw [Oh (f:=V.bl) (λa b e=>by cases e;rfl)];rfl)
  |(cases (show x= .str _ from rx);cases (show y= .str _ from ry);refine⟨rfl,p _ _ _ _ (.refl H) rh ?_ q⟩;rw [Oh (f:=V.str) (λa b e=>by cases e;rfl)];rfl)
theorem oq_ne:OpQ X (compareOp .NotEq) neD:=op_ne.imp λx y H Q ⟨dx,dy,h,Qd,rx,ry,rh,q,p⟩=>by
 cases dx<;>cases dy<;>first
  |exact False.elim q
  |(cases (show x= .int _ from rx);cases (show y= .int _ from ry);refine⟨rfl,p _ _ _ _ (.refl H) rh ?_ q⟩;rw [Oh (f:=V.int) (λa b e=>by cases e;rfl)];rfl)
  |(cases (show x= .bl _ from rx);cases (show y= .bl _ from ry);refine⟨rfl,p _ _ _ _ (.refl H) rh ?_ q⟩;rw [Oh (f:=V.bl) (λa b e=>by cases e;rfl)];rfl)
  |(cases (show x= .str _ from rx);cases (show y= .str _ from ry);refine⟨rfl,p _ _ _ _ (.refl H) rh ?_ q⟩;rw [Oh (f:=V.str) (λa b e=>by cases e;rfl)];rfl)
def AO (K:PySem.W.Frag):R2:=λx y H Q=> ∃a b xs ys,x= .ref a/\y= .ref b/\SqT K H a xs/\SqT K H b ys/\xs= []/\Q (.ref b) H
theorem op_catT0:OpR X (binaryOp .Add) (AO X.K):=by
 intro pins s σ H x y v u Q I rx ry h;obtain⟨a,b,xs,ys,rfl,rfl,ha,hb,hx,q⟩:=h;cases rx;cases ry;obtain⟨its,r1,p1,_⟩:=I.tuple ha;obtain⟨its2,r2,p2,_⟩:=I.tuple hb;have hv:its= []:=r1.nil_iff.mpr hx;obtain⟨⟨cls,dd,data,sl⟩,ho,hc,n,hd⟩:=id p1;obtain⟨⟨cls2,dd2,data2,sl2⟩,ho2,hc2,n2,hd2⟩:=id p2;simp only at hc hd hc2 hd2;subst hc hd hc2 hd2;exact concat_meets ⟨_,ho,rfl⟩ ⟨_,ho2,rfl⟩ G0r seq_tuple_add V1 U3 (Q6 _ _)
  (tuple_addW0 a b its.toArray its2.toArray n n2 dd dd2 sl sl2 (by simp [hv])) ⟨ho,ho2,.ref b,H,I,rfl,q⟩
theorem wP:OpQ X (binaryOp .Add) Kd:=(op_add.or (op_catT.or (op_catT0.or Ae))).imp λx y H Q ⟨dx,dy,h,Qd,rx,ry,rh,q,p⟩=>by
 cases dx<;>cases dy<;>first
  |exact False.elim q
  |skip
 ·exact .inl ⟨_,_,rx,ry,p (.int _) _ _ _ (.refl H) rh rfl q⟩
 ·rename_i ds es;obtain⟨a,vs,e1,h1,r1⟩:=(show ∃a vs,x= .ref a/\H a=some (.tup vs)/\RelDs X.K H ds vs from rx);obtain⟨b,us,e2,h2,r2⟩:=(show ∃a vs,y= .ref a/\H a=some (.tup vs)/\RelDs X.K H es vs from ry);subst e1 e2;obtain⟨hz,q⟩:=q
  by_cases hv:vs= []
  ·subst hv;have e:ds= []:=E7.mp r1.length;subst e;exact .inr (.inr (.inl ⟨a,b,[],us,rfl,rfl,SqT.of h1,SqT.of h2,rfl,p (.tup es) _ _ _ (.refl H) rh ⟨b,us,rfl,h2,r2⟩ q⟩))
  ·refine .inr (.inl ⟨a,b,vs,us,rfl,rfl,SqT.of h1,SqT.of h2,hv,by rw [<-r1.length,<-r2.length];exact hz,λe=> ?_,λ_ c hc=> ?_⟩)
   ·subst e;have e:es= []:=E7.mp r2.length;subst e;rw [B7] at q;exact p (.tup ds) _ _ _ (.refl H) rh ⟨a,vs,rfl,h1,r1⟩ q
   ·exact p (.tup (ds++es)) _ _ _ (.new hc) (rh.new hc) ⟨c,vs++us,rfl,jt,(r1.append r2).mono (.new hc)⟩ q
 ·rename_i a b;obtain⟨xs,ys,h1,h2,hz,q⟩:=q;obtain⟨vs,e1,r1⟩:=rh a xs h1;obtain⟨us,e2,r2⟩:=rh b ys h2;refine .inr (.inr (.inr ⟨a,b,vs,us,rx.1,ry.1,e1,e2,by rw [<-r1.length,<-r2.length];exact hz,λc hc=> ?_⟩));exact p (.lst c) _ _ _ (.new hc) (rh.newL hc (r1.append r2)) ⟨rfl,_,jt⟩ (q c (rh.free hc))
theorem RelDs.flat {K:PySem.W.Frag}{H:Hp}{ds:List D}{vs:List V}(r:RelDs K H ds vs): ∀k:Nat,RelDs K H (List.replicate k ds).flatten (List.replicate k vs).flatten
 |0=>by simp;exact .nil
 |k+1=>by rw [F5,F5,E2,E2];exact r.append (RelDs.flat r k)
theorem oq_mul:OpQ X (binaryOp .Mult) Hi:=(op_mul.or Af).imp λx y H Q ⟨dx,dy,h,Qd,rx,ry,rh,q,p⟩=>by
 cases dx<;>cases dy<;>first
  |exact False.elim q
  |skip
 ·exact .inl ⟨_,_,rx,ry,q.1,p (.int _) _ _ _ (.refl H) rh rfl q.2⟩
 ·obtain⟨xs,h1,b1,b2,hz,q⟩:=q;obtain⟨vs,e1,r1⟩:=rh _ xs h1;refine .inr ⟨_,_,vs,rx.1,ry,e1,b1,b2,by rw [<-r1.length];exact hz,λc hc=> ?_⟩;exact p (.lst c) _ _ _ (.new hc) (rh.newL hc (r1.flat _)) ⟨rfl,_,jt⟩ (q c (rh.free hc))
end
def ixD:RD2:=λx y h Q=>match x,y with
 | .tup ds,.int i=> ∃d,atI ds i=some d/\Q d h
 | .lst a,.int i=> ∃ds d,h a=some ds/\atI ds i=some d/\Q d h
 | .scr ns,.int i=> ∃n,atI ns i=some n/\Q (.int n) h
 |_,_=>False
theorem DY {K:PySem.W.Frag}{H:Hp}{ds:List D}{vs:List V}(r:RelDs K H ds vs){i:Int}{d:D}(e:atI ds i=some d): ∃v,atI vs i=some v/\RelD K H d v:=by
 unfold atI at e ⊢;rw [<-r.length];cases q:ixN ds.length i with
 |none=>rw [q] at e;cases e
 |some j=>rw [q] at e;exact r.get e
theorem FJ {α β:Type}(f:α->β){xs:List α}{i:Int}{x:α}(e:atI xs i=some x):atI (xs.map f) i=some (f x):=by
 unfold atI at e ⊢;rw [G1];cases q:ixN xs.length i with
 |none=>rw [q] at e;cases e
 |some j=>
  rw [q] at e;show (xs.map f)[j]? =_;rw [P3,(show xs[j]? =some x from e)];rfl
section
variable {X:Cx}{a b e:Expr}{ta tb te:TED}{pos p2:Pos}
theorem Tk: ∀σ H Q,LE X.K (dOp ixD ta tb) σ H Q->tOp (rIx X.K) (LE X.K ta) (LE X.K tb) σ H Q:=λσ H Q ⟨σd,h,Qd,rs,rh,t,p⟩=>
 LE.bind rs rh t λdx x h1 H1 k1 rs1 rh1 r1 t1=>LE.bind rs1 rh1 t1 λdy y h2 H2 k2 rs2 rh2 ry q=>by
  have rx:=r1.mono k2;have kk:=k1.trans k2;cases dx<;>cases dy<;>first
   |exact False.elim q
   |skip
  ·rename_i ds i;obtain⟨d,e,q⟩:=q;obtain⟨a,vs,e1,hH,r⟩:=(show ∃a vs,x= .ref a/\H2 a=some (.tup vs)/\RelDs X.K H2 ds vs from rx);obtain⟨v,e2,rv⟩:=DY r e;exact .inr (.inl ⟨a,vs,i,v,e1,ry,SqT.of hH,e2,p _ _ _ _ kk rh2 rv q⟩)
  ·rename_i a i;obtain⟨ds,d,hd,e,q⟩:=q;obtain⟨vs,hH,r⟩:=rh2 a ds hd;obtain⟨v,e2,rv⟩:=DY r e;exact .inl ⟨a,vs,i,v,rx.1,ry,SqL.of hH,e2,p _ _ _ _ kk rh2 rv q⟩
  ·rename_i ns i;obtain⟨n,e,q⟩:=q;obtain⟨a,e1,hS⟩:=(show ∃a,x= .ref a/\Scr X.K H2 a ns from rx);exact .inl ⟨a,_,i,.int n,e1,ry,hS.sq,FJ V.int e,p (.int n) _ _ _ kk rh2 rfl q⟩
theorem qix (ha:QE X a ta)(hb:QE X b tb)(hs:XH b):QE X (.Subscript a b pos) (dOp ixD ta tb):=(SH Ab ha hb hs).imp Tk
end
def AQ:RDn:=λds h Q=>match ds with
 | [.tup xs]=>Q (.int xs.length) h
 | [.lst a]=> ∃xs,h a=some xs/\Q (.int xs.length) h
 | [.scr ns]=>Q (.int ns.length) h
 |_=>False
def Tl:RDn:=λds h Q=>match ds with
 | [.int i]=>Q (.int i) h
 | [.bl k]=>Q (.int (if k then 1 else 0)) h
 |_=>False
def Tn:RDn:=λds h Q=>match ds with
 | [.int i,.int j]=>Q (.int (if j>i then j else i)) h
 |_=>False
def Cg:RDn:=λds h Q=>match ds with
 | [.tup xs]=>Q (.tup xs) h
 | [.lst a]=> ∃xs,h a=some xs/\Q (.tup xs) h
 |_=>False
def vc:RDn:=λds h Q=>match ds with
 | [.lst a]=> ∃xs,h a=some xs/\Q (.tup xs) (YT h a)
 |_=>False
section
variable {X:Cx}
theorem zL:Jb X (.builtin "len") AQ:=call_len_seq.imp λxs H Q ⟨ds,h,Qd,r,rh,q,p⟩=>by
 unfold AQ at q;split at q
 ·rename_i es;obtain⟨v,e,r1⟩:=jW r;obtain⟨a,vs,e1,hH,r2⟩:=(show ∃a vs,v= .ref a/\H a=some (.tup vs)/\RelDs X.K H es vs from r1);subst e e1;exact⟨a,vs,rfl,.inr (SqT.of hH),by rw [<-r2.length];exact p (.int _) _ _ _ (.refl H) rh rfl q⟩
 ·rename_i a;obtain⟨es,hd,q⟩:=q;obtain⟨v,e,r1⟩:=jW r;obtain⟨vs,hH,r2⟩:=rh a es hd;have e1:v= .ref a:=r1.1;subst e e1;exact⟨a,vs,rfl,.inl (SqL.of hH),by rw [<-r2.length];exact p (.int _) _ _ _ (.refl H) rh rfl q⟩
 ·rename_i ns;obtain⟨v,e,r1⟩:=jW r;obtain⟨a,e1,hS⟩:=(show ∃a,v= .ref a/\Scr X.K H a ns from r1);subst e e1;exact⟨a,_,rfl,.inl hS.sq,by rw [G1];exact p (.int _) _ _ _ (.refl H) rh rfl q⟩
 ·exact q.elim
theorem Ch:Jb X (.type "int") Tl:=call_int1.imp λxs H Q ⟨ds,h,Qd,r,rh,q,p⟩=>by
 unfold Tl at q;split at q
 ·rename_i i;obtain⟨v,e,r1⟩:=jW r;cases (show v= .int i from r1);exact .inl ⟨i,e,p (.int i) _ _ _ (.refl H) rh rfl q⟩
 ·rename_i k;obtain⟨v,e,r1⟩:=jW r;cases (show v= .bl k from r1);exact .inr ⟨k,e,p (.int _) _ _ _ (.refl H) rh rfl q⟩
 ·exact q.elim
theorem AR (hc:X.calm=true):Jb X (.builtin "max") Tn:=(Du hc).imp λxs H Q ⟨ds,h,Qd,r,rh,q,p⟩=>by
 unfold Tn at q;split at q
 ·rename_i i j;obtain⟨v,w,e,r1,r2⟩:=yA r;cases (show v= .int i from r1);cases (show w= .int j from r2);exact⟨i,j,e,p (.int _) _ _ _ (.refl H) rh rfl q⟩
 ·exact q.elim
theorem cq_tuple:Jb X (.type "tuple") Cg:=call_tuple_of.imp λxs H Q ⟨ds,h,Qd,r,rh,q,p⟩=>by
 unfold Cg at q;split at q
 ·rename_i es;obtain⟨v,e,r1⟩:=jW r;obtain⟨a,vs,e1,hH,r2⟩:=(show ∃a vs,v= .ref a/\H a=some (.tup vs)/\RelDs X.K H es vs from r1);subst e e1;exact⟨a,vs,rfl,.inr ⟨SqT.of hH,p (.tup es) _ _ _ (.refl H) rh ⟨a,vs,rfl,hH,r2⟩ q⟩⟩
 ·rename_i a;obtain⟨es,hd,q⟩:=q;obtain⟨v,e,r1⟩:=jW r;obtain⟨vs,hH,r2⟩:=rh a es hd;have e1:v= .ref a:=r1.1;subst e e1;exact⟨a,vs,rfl,.inl ⟨SqL.of hH,λc hc=>p (.tup es) _ _ _ (.new hc) (rh.new hc) ⟨c,vs,rfl,jt,r2.mono (.new hc)⟩ q⟩⟩
 ·exact q.elim
theorem wQ:Jb X (.type "tuple") vc:=cq_tuple.imp λxs H Q ⟨ds,h,Qd,r,rh,q,p⟩=>by
 unfold vc at q;split at q
 ·rename_i a;obtain⟨es,hd,q⟩:=q;exact⟨[.lst a],h,λd h'=>Qd d (YT h' a),r,rh,⟨es,hd,q⟩,λd v h' H' k rh' rd q'=>p d v _ H' k (rh'.sub (Sub.drop h' a)) rd q'⟩
 ·exact q.elim
end
def Ul:D->Option String
 | .non=>some "NoneType" | .bl _=>some "bool" | .int _=>some "int" | .str _=>some "str" | .tup _=>some "tuple" | .lst _=>some "list" | .dic _ _=>some "dict" | .dct _=>none| .scr _=>none| .exc _=>none| .fn _=>none
def AS (T:String)(n:String):Bool:=n==T||(T== "int" &&n== "bool")
theorem NB {K:PySem.W.Frag}{H:Hp}{d:D}{v:V}{n:String}(r:RelD K H d v)(e:Ul d=some n):TyOf K H v (.type n):=by
 cases d with
 |non=>cases (show v= .non from r);cases e;exact .non
 |bl b=>cases (show v= .bl b from r);cases e;exact .bl b
 |int i=>cases (show v= .int i from r);cases e;exact .int i
 |str x=>cases (show v= .str x from r);cases e;exact .str x
 |tup ds=>
  obtain⟨a,vs,e1,hH,_⟩:=(show ∃a vs,v= .ref a/\H a=some (.tup vs)/\RelDs K H ds vs from r);subst e1;cases e;exact .tup hH
 |lst a=>
  obtain⟨e1,vs,hH⟩:=(show v= .ref a/\ ∃vs,H a=some (.lst vs) from r);subst e1;cases e;exact .lst hH
 |dic x i=>
  obtain⟨a,e1,hH⟩:=(show ∃a,v= .ref a/\H a=some (.dK [(Sum.inr x,V.int i)]) from r);subst e1;cases e;exact .dK hH
 |dct a=>cases e
 |scr ns=>cases e
 |exc C=>cases e
 |fn a=>cases e
def FK:List String:= ["NoneType","bool","int","str","tuple","list","dict"]
theorem Po {d:D}{n:String}(e:Ul d=some n):n∈FK:=by
 cases d<;>cases e<;>decide
def To (K:PySem.W.Frag):Prop:= ∀n∈FK,∀T∈ ["tuple","int","bool","list","str"],PySem.W.kitOne K (.type n) (.type T)=some (AS T n)
theorem FL (K:PySem.W.Frag):To K:=by
 intro n hn T hT;simp only [FK,R6,B1,G0m] at hn hT;rcases hn with rfl|rfl|rfl|rfl|rfl|rfl|rfl<;>rcases hT with rfl|rfl|rfl|rfl|rfl<;>with_unfolding_all rfl
theorem DZ {X:Cx}(T:String):CallR X (.builtin "isinstance") (λxs H Q=> ∃x t b,xs= [x,.ty T]/\TyOf X.K H x t/\PySem.W.kitOne X.K t (.type T)=some b/\Q (.bl b) H):=by
 intro pins s σ H xs us Q I r h;obtain⟨x,t,b,rfl,ty,e,q⟩:=h;obtain⟨u,w',rfl,rx,rt⟩:=CS r;cases (show w'=Value.type T from rt);exact Dw I rx ty e λtk=>⟨.bl b,H,I.tok tk,rfl,q⟩
def dIs (T:String)(ta:TED):TED:=λσ h Q=>ta σ h λx h1=> ∃n,Ul x=some n/\Q (.bl (AS T n)) h1
theorem Tp {X:Cx}{a:Expr}{ta:TED}{T:String}{t:Str}{p p2 pos:Pos}(hT:T∈ ["tuple","int","bool","list","str"])(hg:Gl X "isinstance")(hm:X.mg "isinstance" =none)(hg2:Gl X t)(hm2:X.mg t=none)(hv:bootBuiltins t=some (.type T))(ha:QE X a ta)
 (hn:t≠ "__name__" :=by decide)(hd:(t==("__debug__" :Str))=false:=by decide)
 (h1:starEach [a,.Name t p2] X.env=(false,eval a X.env)::starEach [.Name t p2] X.env:=by rfl)(h2:(backTo pos (starEach [.Name t p2] X.env)).any (·.1)=false:=by rfl):
 QE X (.Call (.Name "isinstance" p) [a,.Name t p2] [] pos) (dIs T ta):=
 (Go (DZ T) hg hm PyProof.Rows.boot_isinstance (ZM ha (ZM (CH (v:= .ty T) hg2 hm2 hv rfl hn hd) pa_nil (by rfl)) h1) (by decide) (by decide) h1 h2).imp
  λσ H Q ⟨σd,h,Qd,rs,rh,t,p⟩=>LE.bind rs rh t λd v h1 H1 k1 rs1 rh1 r1 ⟨n,e,q⟩=>⟨v,.type n,AS T n,rfl,NB r1 e,FL _ n (Po e) T hT,p (.bl _) _ _ _ k1 rh1 rfl q⟩
theorem Ra (bs:List Bool):(List.range bs.length).all (λi=>bs.getD i false)=bs.all id:=by
 induction bs with
 |nil=>rfl
 |cons b bs ih=>
  rw [D3,O9,List.all_cons,H0,List.all_cons];show (b&&_)=(b&&bs.all id);rw [<-ih];rfl
theorem Rb (bs:List Bool):(List.range bs.length).any (λi=>bs.getD i false)=bs.any id:=by
 induction bs with
 |nil=>rfl
 |cons b bs ih=>
  rw [D3,O9,X2,G0Z,X2];show (b||_)=(b||bs.any id);rw [<-ih];rfl
theorem Um {bs:List Bool}{its:List Value}(r:Vals (bs.map V.bl) its){i:Nat}{v:Value}(e:its[i]? =some v):v= .bool (bs.getD i false):=by
 have hl:=r.length;rw [G1] at hl;have hi:i<its.length:=(G7.mp e).1;have hb:(bs.map V.bl)[i]? =some (.bl bs[i]):=by rw [P3,G0 (by omega)];rfl
 obtain⟨u,e1,r1⟩:=r.get hb;rw [e] at e1;cases e1;rw [P2,G0 (by omega)];exact r1
section
variable {X:Cx}
theorem YW (hc:X.calm=true):CallR X (.builtin "all") (λxs H Q=> ∃ (a:Addr) (bs:List Bool),xs= [.ref a]/\SqL X.K H a (bs.map V.bl)/\Q (.bl (bs.all id)) H):=by
 intro pins s σ H xs us Q I r h;obtain⟨a,bs,rfl,hS,q⟩:=h;obtain⟨u,rfl,ru⟩:=YL r;cases ru;obtain⟨its,rv,pl,hz⟩:=I.list hS;have hl:=pl.isList;have hlt:a<s.heap.objs.size:=by obtain⟨_,e,_⟩:=hl;exact D5 e
 refine call_all_walk (V2 hl ?_);refine⟨s.heap.objs.size,_,_,_,_,_,λi=>bs.getD i false,rfl,Walks.list (A:=X.A.in1) (show X.A.in1.handled=none from I.ok.hd hc) s.heap.objs.size a (S3 hlt) its.toArray,⟨⟨_,R3 _ rfl,rfl,rfl⟩,hl.push _⟩,?_,λh' tk hk=> ?_⟩
 ·intro i v s' Q' E' hP hQ;have e:its[i]? =some v:=by simpa using hP
  rw [Um rv e];exact N2 hQ
 ·have hn:its.toArray.size=bs.length:=by rw [D0,<-rv.length,G1]
  rw [hn,Ra];exact⟨.bl _,H,I.kept (t':=tk) (λb o e=>hk b o (λz=>by rw [G5.mp z] at e;exact absurd (D5 e) (B2 _)) (G2 _ e)),rfl,q⟩
theorem YX (hc:X.calm=true):CallR X (.builtin "any") (λxs H Q=> ∃ (a:Addr) (bs:List Bool),xs= [.ref a]/\SqL X.K H a (bs.map V.bl)/\Q (.bl (bs.any id)) H):=by
 intro pins s σ H xs us Q I r h;obtain⟨a,bs,rfl,hS,q⟩:=h;obtain⟨u,rfl,ru⟩:=YL r;cases ru;obtain⟨its,rv,pl,hz⟩:=I.list hS;have hl:=pl.isList;have hlt:a<s.heap.objs.size:=by obtain⟨_,e,_⟩:=hl;exact D5 e
 refine call_any_walk (V2 hl ?_);refine⟨s.heap.objs.size,_,_,_,_,_,λi=>bs.getD i false,rfl,Walks.list (A:=X.A.in1) (show X.A.in1.handled=none from I.ok.hd hc) s.heap.objs.size a (S3 hlt) its.toArray,⟨⟨_,R3 _ rfl,rfl,rfl⟩,hl.push _⟩,?_,λh' tk hk=> ?_⟩
 ·intro i v s' Q' E' hP hQ;have e:its[i]? =some v:=by simpa using hP
  rw [Um rv e];exact N2 hQ
 ·have hn:its.toArray.size=bs.length:=by rw [D0,<-rv.length,G1]
  rw [hn,Rb];exact⟨.bl _,H,I.kept (t':=tk) (λb o e=>hk b o (λz=>by rw [G5.mp z] at e;exact absurd (D5 e) (B2 _)) (G2 _ e)),rfl,q⟩
theorem vk {K:PySem.W.Frag}{H:Hp}: ∀ {bs:List Bool} {vs:List V},RelDs K H (bs.map D.bl) vs->vs=bs.map V.bl
 | [],_,h=>h
 |b::bs,vs,h=>by
  obtain⟨v,r,e,h1,h2⟩:=(show ∃v r,vs=v::r/\RelD K H (.bl b) v/\RelDs K H (bs.map D.bl) r from h);rw [e,vk h2,(show v= .bl b from h1)];rfl
def FM:RDn:=λds h Q=> ∃ (a:Addr) (bs:List Bool),ds= [.lst a]/\h a=some (bs.map D.bl)/\Q (.bl (bs.all id)) (YT h a)
def Tq:RDn:=λds h Q=> ∃ (a:Addr) (bs:List Bool),ds= [.lst a]/\h a=some (bs.map D.bl)/\Q (.bl (bs.any id)) (YT h a)
theorem Yr (hc:X.calm=true):Jb X (.builtin "all") FM:=(YW hc).imp λxs H Q ⟨ds,h,Qd,r,rh,⟨a,bs,e,hd,q⟩,p⟩=>by
 subst e;obtain⟨v,e,r1⟩:=jW r;obtain⟨vs,hH,r2⟩:=rh a _ hd;have e1:v= .ref a:=r1.1;rw [vk r2] at hH;subst e e1;exact⟨a,bs,rfl,SqL.of hH,p (.bl _) _ _ _ (.refl H) (rh.sub (Sub.drop h a)) rfl q⟩
theorem AT (hc:X.calm=true):Jb X (.builtin "any") Tq:=(YX hc).imp λxs H Q ⟨ds,h,Qd,r,rh,⟨a,bs,e,hd,q⟩,p⟩=>by
 subst e;obtain⟨v,e,r1⟩:=jW r;obtain⟨vs,hH,r2⟩:=rh a _ hd;have e1:v= .ref a:=r1.1;rw [vk r2] at hH;subst e e1;exact⟨a,bs,rfl,SqL.of hH,p (.bl _) _ _ _ (.refl H) (rh.sub (Sub.drop h a)) rfl q⟩
end
def Hk (to:TED)(te:TED):TED:=λσ h Q=>to σ h λx h1=> ∃a,x= .lst a/\te σ h1 λy h2=> ∃xs,h2 a=some xs/\xs.length<sizeLine/\Q .non (zY h2 a (xs++ [y]))
section
variable {X:Cx}{o e i:Expr}{to te ti:TED}{apos cpos pos:Pos}
theorem Kf (ho:QE X o to)(he:QE X e te)(hbase:attributeBase o "append" X.env (eval o X.env)=eval o X.env:=by rfl)
 (hfew:((backTo cpos (starEach [e] X.env)).all (λx=> !x.1)&&(backToKw cpos (keywordEach [] X.env)).all (λx=>x.1.isSome)&&decide ([e].length+([]:List Keyword).length+(if ([]:List Keyword).isEmpty then 0 else 1)<30))=true:=by rfl)
 (hline:(apos.endLine==cpos.line)=true:=by rfl)(hs:starEach [e] X.env=(false,eval e X.env)::starEach [] X.env:=by rfl)(hplain:(backTo cpos (starEach [] X.env)).any (·.1)=false:=by rfl):
 QE X (.Call (.Attribute o "append" apos) [e] [] cpos) (Hk to te):=
 (Ad G0n PySem.F.slot_list_append PySem.F.type_list_append DD ho (ZM he pa_nil hs) hbase hfew hline hs hplain).imp
  λσ H Q ⟨σd,h,Qd,rs,rh,t,p⟩=>LE.bind rs rh t λd v h1 H1 k1 rs1 rh1 r1 ⟨a,e,q⟩=>by
   subst e;obtain⟨e1,vs,hH⟩:=(show v= .ref a/\ ∃vs,H1 a=some (.lst vs) from r1);subst e1;refine⟨.inl ⟨rfl,vs,SqL.of hH⟩,?_⟩;refine LE.bind rs1 rh1 q λy u h2 H2 k2 rs2 rh2 r2 ⟨xs,hx,hz,q2⟩=> ?_
   obtain⟨ws,hW,r3⟩:=rh2 a xs hx;refine⟨a,ws,u,rfl,rfl,hW,by rw [<-r3.length];exact hz,p .non _ _ _ (k1.trans (k2.trans (.put hW))) (rh2.put hW (r3.append (.cons r2 .nil))) rfl q2⟩
def AU (to ti:TED):TGD:=λd σ h Q=>to σ h λo h1=>ti σ h1 λi h2=> ∃a k xs j,o= .lst a/\i= .int k/\h2 a=some xs/\ixN xs.length k=some j/\Q σ (zY h2 a (xs.set j d))
theorem AV (ho:QE X o to)(hi:QE X i ti)
 (ha: ∀v,assign (.Subscript o i pos) X.env v=(do
  let ov <-holding [v] (eval o X.env)
  let iv <-holding [v,ov] (eval i X.env)
  standAt pos
  holding [v,ov,iv] (setItem ov iv v)
  release [v,ov,iv] []):=by intro _;rfl):QG X (.Subscript o i pos) (AU to ti):=
 (OG ho hi Nm ha).imp λv σ H Q ⟨d,σd,h,Qd,r,rs,rh,q,p⟩=>
  LE.bind rs rh q λd1 v1 h1 H1 k1 rs1 rh1 r1 q1=>LE.bind rs1 rh1 q1 λd2 v2 h2 H2 k2 rs2 rh2 r2 ⟨a,k,xs,j,e1,e2,hx,hj,q2⟩=>by
   subst e1 e2;have e3:v1= .ref a:=(r1.mono k2).1;obtain⟨ws,hW,r3⟩:=rh2 a xs hx;refine⟨a,ws,k,j,e3,r2,hW,by rw [<-r3.length];exact hj,p _ _ _ _ (k1.trans (k2.trans (.put hW))) (rs2.mono (.put hW)) (rh2.put hW (RelDs.set ((r.mono k1).mono k2) j r3)) q2⟩
end
def Ci (N:List Str)(sc:List (Str×NameKind))(scope:Scope)(js:List Nat):Bool:=
 scope.kind== .function&&scope.names.all (λp=>p.2 != .cell||scope.names.lookup p.1==some .cell)&&scope.names.all (λp=>p.2 != .local||scope.names.lookup p.1==some .local)&&
 scope.names.all (λp=>p.2 != .free||sc.lookup p.1==some .cell||sc.lookup p.1==some .free)&&
 (List.range N.length).all λi=>(scope.names.lookup (N.getD i Str.empty) !=some .local&&scope.names.lookup (N.getD i Str.empty) !=some .cell)||js.contains i
theorem jm {X:Cx}{scope:Scope}{js:List Nat}(h:Ci X.N X.env.scope.names scope js=true):BlockOk X scope js:=by
 unfold Ci at h;simp only [T1] at h;obtain⟨⟨⟨⟨h1,h2⟩,h3⟩,h4⟩,h5⟩:=h;refine⟨eq_of_beq h1,λp hp e=> ?_,λp hp e=> ?_,λp hp e=> ?_,λi x e1 e2=> ?_⟩
 ·have:=S5.mp h3 p hp;rw [e] at this;simpa using this
 ·have:=S5.mp h2 p hp;rw [e] at this;simpa using this
 ·have:=S5.mp h4 p hp;rw [e] at this;simpa using this
 ·have hi:i<X.N.length:=(G7.mp e1).1;have:=S5.mp h5 i (D1.mpr hi);rw [P2,e1,Option.getD_some] at this;rcases e2 with e2|e2<;>(rw [e2] at this;simpa using this)
theorem qpt {X:Cx}{e:Expr}{t:TTD}(h:QW X e t):QT X e t:=h.pt
theorem Rc {i:Nat}{js:List Nat}{ti:TID}{te:TED}{σ:SD}{h h1:HD}{Q:KD}{ds:List D}{j:ItD}(f:D->D)(hz:ds.length<=sizeLine)(hj:j h1=some ds)
 (ht: ∀R:ItD->HD->Prop,R j h1->ti σ h R)(he: ∀d∈ds,∀Q':KD,Q' (f d) h1->te ((jP js σ).set i (some d)) h1 Q')(hq: ∀p,h1 p=none->Q (.lst p) (zY h1 p (ds.map f))):vb (bN i) js ti WS te σ h Q:=by
 refine ht _ ⟨ds.length,λk ys h'=>h'=h1/\ys=(ds.take k).map f,⟨rfl,by simp⟩,?_⟩;rintro k ys h' ⟨rfl,rfl⟩;refine⟨by simp only [G1,R1];omega,ds,hj,G9 _,λhl p hp=> ?_,λd hd=>⟨_,rfl,?_⟩⟩
 ·rw [R5 hl];exact hq p hp
 ·unfold WS;dsimp only;rw [if_pos rfl];refine he d (G6 hd) _ ⟨h',Sub.refl _,rfl,?_⟩;rw [M0,hd];simp
end L2
namespace HT
open PySem PySem.Spec PyProof.Rows
section
variable {prog:Program}{w:World}{A:Around}{E:Value->Shared->Prop}{s:Shared}
theorem vo {t sl:Addr}{items:Array Value}{vl vu:Value}{lo hi:Option Int}{Q:Value->Shared->Prop}(ht:IsTup s.heap t items)(hs:s.heap.IsSliceOf sl vl vu .none)(pl:IsPart vl lo)(pu:IsPart vu hi)
 (hw:sIx items.size 0 lo=0/\sIx items.size items.size hi=items.size)(h:Q (.ref t) s):wpAny (model prog w) A (getItem (.ref t) (.ref sl)) Q E s:=by
 obtain⟨os,hos,hcs,hds⟩:=id hs;have hTs:s.TypeIs (.ref sl) "slice" :=⟨os,hos,hcs⟩;unfold getItem
 try with_reducible refine F9 ?_
 first|refine wpAny_bind (P1 ?_)|skip
 refine wpAny_bind (wpAny_sequenceKey ht.typeIs (by decide) ?_);refine wpAny_bind (C1 (name:=Str.ofString "__getitem__") ht.typeIs F4
  (C7 F4 ht.typeIs entry_tuple_getitem ?_ (args_tuple_getitem _ _)))
 show wpAny _ _ (Builtin.Tuple.tupleItemsOf (.ref t) >>= _) _ _ s;refine wpAny_bind (tupleItemsOf_ ht ?_);refine wpAny_bind (wpAny_typeOf hTs ?_);rw [if_pos (by decide)];refine wpAny_bind (yn hs pl pu ?_);have hyes:((((sIx items.size 0 lo:Nat):Int)==0&&(1:Int)==1&&(sIx items.size items.size hi-sIx items.size 0 lo)==items.size)=true):=by
  rw [hw.1,hw.2];simp
 show wpAny _ _ (if (((sIx items.size 0 lo:Nat):Int)==0&&(1:Int)==1&&(sIx items.size items.size hi-sIx items.size 0 lo)==items.size)=true then _ else _) _ _ s;rw [if_pos hyes];refine wpAny_bind (m:=Builtin.Tuple.tupleIsExact (.ref t)) ?_;unfold Builtin.Tuple.tupleIsExact;refine wpAny_bind (wpAny_typeOf ht.typeIs (P1 ?_));rw [if_pos (by decide)];exact wpAny_bind (X6 (P1 ⟨_,rfl,P1 h⟩))
end
end HT
namespace L2
open PySem PySem.Spec PyProof.Rows
def Kg (K:PySem.W.Frag):V->Option Int->Option Int->Hp->VK->Prop:=λx lo hi H Q=> ∃a xs,x= .ref a/\SqT K H a xs/\(HT.sIx xs.length 0 lo=0/\HT.sIx xs.length xs.length hi=xs.length)/\Q (.ref a) H
variable {X:Cx}
theorem sl_whole:SlR X (Kg X.K):=by
 intro pins s σ H x v vl vu lo hi sl Q I rx hs pl pu h;obtain⟨a,xs,rfl,hx,hw,q⟩:=h;cases rx;obtain⟨its,r,ht,hz⟩:=I.tuple hx;have hlen:its.toArray.size=xs.length:=by rw [D0];exact r.length.symm
 refine⟨"tuple",_,PyProof.Rows.slot_tuple_getitem.lookup,ht.typeIs,?_⟩;exact HT.vo ht hs pl pu (by rw [hlen];exact hw) ⟨.ref a,H,I,rfl,q⟩
def VX {α:Type}(xs:List α)(lo hi:Option Int):List α:=(xs.drop (HT.sIx xs.length 0 lo)).take (HT.sIx xs.length xs.length hi-HT.sIx xs.length 0 lo)
abbrev TOD:=SD->HD->(Option Int->HD->Prop)->Prop
def Re:TOD:=λ_ h Q=>Q none h
def AW (t:TED):TOD:=λσ h Q=>t σ h λx h1=> ∃i,x= .int i/\Q (some i) h1
def LO (K:PySem.W.Frag)(t:TOD):TO:=λσ H Q=> ∃σd h Qd,RelS K H σd σ/\RelH K h H/\t σd h Qd/\ ∀o h' H',Kept H H'->RelH K h' H'->Qd o h'->Q o H'
theorem LO.bind {K:PySem.W.Frag}{ta:TOD}{σ:St}{H:Hp}{σd:SD}{h:HD}{kd:Option Int->HD->Prop}{k:Option Int->Hp->Prop}(rs:RelS K H σd σ)(rh:RelH K h H)(t:ta σd h kd)(f: ∀o h' H',Kept H H'->RelS K H' σd σ->RelH K h' H'->kd o h'->k o H'):LO K ta σ H k:=
 ⟨σd,h,kd,rs,rh,t,λo h' H' kp r1 q=>f o h' H' kp (rs.mono kp) r1 q⟩
theorem PO.imp {e:Option Expr}{t t':TO}(h:PO X e t)(i: ∀σ H Q,t' σ H Q->t σ H Q):PO X e t':=λpins s σ H Q I q=>h pins s σ H Q I (i σ H Q q)
abbrev QO (X:Cx)(e:Option Expr)(t:TOD):Prop:=PO X e (LO X.K t)
theorem FN:QO X none Re:=po_none.imp λσ H Q ⟨σd,h,Qd,rs,rh,q,p⟩=>p none h H (.refl H) rh q
theorem FO {e:Expr}{te:TED}(he:QE X e te):QO X (some e) (AW te):=(CY he).imp λσ H Q ⟨σd,h,Qd,rs,rh,q,p⟩=>
 LE.bind rs rh q λd v h1 H1 k1 rs1 rh1 r1 ⟨i,e,q1⟩=>by subst e;exact⟨i,r1,p _ _ _ k1 rh1 q1⟩
def slD:D->Option Int->Option Int->HD->KD->Prop:=λx lo hi h Q=>match x with
 | .tup ds=>Q (.tup (VX ds lo hi)) h
 | .scr ns=> ∀p,h p=none->Q (.lst p) (zY h p ((VX ns lo hi).map D.int))
 | .lst a=> ∃ds,h a=some ds/\ ∀p,h p=none->Q (.lst p) (zY h p (VX ds lo hi))
 |_=>False
def dSl (te:TED)(tl th:TOD):TED:=λσ h Q=>te σ h λx h1=>tl σ h1 λl h2=>th σ h2 λu h3=>slD x l u h3 Q
theorem YY {K:PySem.W.Frag}{H:Hp}{ds:List D}{vs:List V}(r:RelDs K H ds vs)(lo hi:Option Int):RelDs K H (VX ds lo hi) (MQ vs lo hi):=by
 unfold VX MQ;rw [r.length];exact(r.drop _).take _
theorem Rf {α β:Type}(f:α->β)(xs:List α)(lo hi:Option Int):VX (xs.map f) lo hi=(VX xs lo hi).map f:=by
 unfold VX;rw [G1,List.map_take,List.map_drop]
theorem AX {e:Expr}{te:TED}{lo hi:Option Expr}{tl th:TOD}{pos p2:Pos}(he:QE X e te)(hl:QO X lo tl)(hu:QO X hi th):QE X (.Subscript e (.Slice lo hi none p2) pos) (dSl te tl th):=
 (Nl (sl_tup.or (sl_whole.or CZ)) he hl hu).imp λσ H Q ⟨σd,h,Qd,rs,rh,q,p⟩=>
  LE.bind rs rh q λd v h1 H1 k1 rs1 rh1 r1 q1=>LO.bind rs1 rh1 q1 λl h2 H2 k2 rs2 rh2 q2=>LO.bind rs2 rh2 q2 λu h3 H3 k3 rs3 rh3 q3=>by
   have rv:=(r1.mono k2).mono k3;have kk:=k1.trans (k2.trans k3);cases d<;>first
    |exact False.elim q3
    |skip
   ·rename_i ds;obtain⟨a,vs,e1,hH,r⟩:=(show ∃a vs,v= .ref a/\H3 a=some (.tup vs)/\RelDs X.K H3 ds vs from rv)
    by_cases hw:HT.sIx vs.length 0 l=0/\HT.sIx vs.length vs.length u=vs.length
    ·refine .inr (.inl ⟨a,vs,e1,SqT.of hH,hw,p (.tup (VX ds l u)) _ _ _ kk rh3 ⟨a,vs,rfl,hH,?_⟩ q3⟩);have z:=YY r l u;have e:MQ vs l u=vs:=by unfold MQ;rw [hw.1,hw.2];simp
     rwa [e] at z
    ·exact .inl ⟨a,vs,e1,SqT.of hH,hw,λc hc=>p (.tup (VX ds l u)) _ _ _ (kk.trans (.new hc)) (rh3.new hc) ⟨c,_,rfl,jt,(YY r l u).mono (.new hc)⟩ q3⟩
   ·rename_i a;obtain⟨ds,hd,q3⟩:=q3;obtain⟨vs,hH,r⟩:=rh3 a ds hd;exact .inr (.inr ⟨a,vs,rv.1,SqL.of hH,λc hc=>p (.lst c) _ _ _ (kk.trans (.new hc)) (rh3.newL hc (YY r l u)) ⟨rfl,_,jt⟩ (q3 c (rh3.free hc))⟩)
   ·rename_i ns;obtain⟨a,e1,hS⟩:=(show ∃a,v= .ref a/\Scr X.K H3 a ns from rv);refine .inr (.inr ⟨a,_,e1,hS.sq,λc hc=>p (.lst c) _ _ _ (kk.trans (.new hc)) (rh3.newL hc ?_) ⟨rfl,_,jt⟩ (q3 c (rh3.free hc))⟩);have z:=YY (yU (K:=X.K) (H:=H3) ns) l u
    rwa [Rf] at z
end L2
namespace HT
open PySem PySem.Spec PyProof.Rows
open Sem (wp)
open Builtin
theorem Zp:fillsNumberSlot (.type "tuple") "mul" =pure false:=
 PySem.fillsNumberSlot_seq (id:= "tuple.__mul__") (r:=some (.builtin "tuple.__rmul__")) F.slot_tuple_mul.lookup (by decide +kernel) F.slot_tuple_rmul.lookup (by decide +kernel)
theorem Uo:seqRepeat? (.type "tuple")=pure (some (.builtin "tuple.__mul__")):=by
 unfold seqRepeat?;rw [PySem.seqSlot_of (T:= "tuple") (name:= "__mul__") (id:= "tuple.__mul__") F.slot_tuple_mul.lookup (by decide +kernel),PySem.seqSlot_of (T:= "tuple") (name:= "__rmul__") (id:= "tuple.__rmul__") F.slot_tuple_rmul.lookup (by decide +kernel)];rfl
section
variable {prog:Program}{w:World}{A:Around}{E:Value->Shared->Prop}{s:Shared}
theorem YZ {k:Int}{t:Tok}{l:Addr}{o:Obj}{its:Array Value}{n:Nat}{P:PySem.Fin->Shared->Prop}(at_:s.heap.get? l=some o)(tup:o.cls= .type "tuple")(dat:o.data= .seq its n)(h:P (.done (.ret .notImplemented)) s):wpAny (model prog w) A (Builtin.«int.__rmul__» ⟨[.int k t,.ref l],[]⟩) P E s:=by
 obtain⟨c,dd,dt,sl⟩:=o;cases tup;cases dat;obtain⟨hp,g,d,tk,os⟩:=s
 wp_walk
 exact h
theorem XM {l:Addr}{its:Array Value}{n:Nat}{x:Int}{u:Tok}{dd:Option Addr}{sl:Array (Option Value)}{P:PySem.Fin->Shared->Prop}(at_:s.heap.get? l=some {cls:= .type "tuple",dict:=dd,data:= .seq its n,slots:=sl})(fits: -(2^63)<=x/\x<2^63)
 (same:(its.isEmpty||x==1)=true->P (.done (.ret (.ref l))) s)
 (gone:(its.isEmpty||x==1)=false->(decide (x<=0)||its.isEmpty)=true->P (.done (.ret (.ref s.heap.objs.size))) {s with heap:=s.heap.push {cls:= .type "tuple",data:= .seq #[]}})
 (more:(its.isEmpty||x==1)=false->(decide (x<=0)||its.isEmpty)=false-> ¬ (its.size:Int)*x>(2^63-1) / 8/\Builtin.Tuple.tupleTooMany ((its.size:Int)*x)=false/\((List.replicate x.toNat its).foldl (· ++ ·) #[]).size<=sizeLine/\
  P (.done (.ret (.ref s.heap.objs.size))) {s with heap:=s.heap.push {cls:= .type "tuple",data:= .seq ((List.replicate x.toNat its).foldl (· ++ ·) #[])}}):
 wpAny (model prog w) A (Builtin.«tuple.__mul__» ⟨[.ref l,.int x u],[]⟩) P E s:=by
 obtain⟨hp,g,d,tk,os⟩:=s
 wp_walk
 rw [if_neg (by simp only [U5,K1];omega)]
 wp_walk
 cases c1:(its.isEmpty||x==1) with
 |true=>
  rw [if_pos rfl]
  wp_walk
  exact same c1
 |false=>
  rw [if_neg P6];cases c2:(decide (x<=0)||its.isEmpty) with
  |true=>
   rw [if_pos rfl]
   wp_walk
   exact gone c1 c2
  |false=>
   obtain⟨m1,m2,m3,m4⟩:=more c1 c2;rw [if_neg P6];dsimp only;rw [if_neg m1,m2,if_neg P6]
   wp_walk
   exact m4
end
end HT
namespace L2
open PySem PySem.Spec PyProof.Rows
def Tr (K:PySem.W.Frag):R2:=λx y H Q=> ∃ (a:Addr) (k:Int) (xs:List V),x= .ref a/\y= .int k/\SqT K H a xs/\ -(2^63)<=k/\k<2^63/\xs.length*k.toNat<=sizeLine/\
 ((xs= []\/k=1)->Q (.ref a) H)/\(¬ (xs= []\/k=1)-> ∀p,H p=none->Q (.ref p) (upd H p (.tup (List.replicate k.toNat xs).flatten)))
theorem ZC {l:List Value}:l.toArray= #[]↔l= []:=by cases l<;>simp
variable {X:Cx}
theorem FP:OpR X (binaryOp .Mult) (Tr X.K):=by
 intro pins s σ H x y v u Q I rx ry h;obtain⟨a,k,xs,rfl,rfl,hH,h1,h2,hz,q1,q2⟩:=h;cases rx;obtain⟨t,rfl⟩:=ry;obtain⟨its,r,ht,_⟩:=I.tuple hH;obtain⟨⟨cls,dd,data,sl⟩,ho,hc,n,hd⟩:=id ht;simp only at hc hd;subst hc hd;have hl:=r.length;have hnew:(List.replicate k.toNat its.toArray).foldl (· ++ ·) #[]=(List.replicate k.toNat its).flatten.toArray:=by
  have:=ZO its k.toNat [];rw [N6] at this;exact this
 have few:its.length*k.toNat<=sizeLine:=by rw [<-hl];exact hz
 have free:=I.hok.fresh (G9 _);refine G0a (T:= "tuple") (U:= "int") (by decide) ⟨_,ho,rfl⟩ (λs'=>G0H s' k t) HT.Zp F.fills_int_mul X8 HT.Uo F.slot_int_index.lookup
  (C7 X8 (G0H s k t) F.entry_int_rmul (HT.YZ ho rfl rfl ⟨_,rfl,rfl,⟨_,ho,rfl⟩,C7 F.slot_tuple_mul ⟨_,ho,rfl⟩ F.entry_tuple_mul (HT.XM ho ⟨h1,h2⟩ (λc=> ?_) (λc c0=> ?_) (λc c0=> ?_)) (F.args_tuple_mul_2 _ _)⟩) (F.args_int_rmul_2 _ _))
 ·refine⟨_,rfl,.ref a,H,I,rfl,q1 ?_⟩;simp only [U5,G0X,Array.isEmpty_iff,ZC] at c;exact c.imp (λe=>r.nil_iff.mp e) id
 ·simp only [G0J,K8,Y8,ne_eq,ZC] at c;have k0:k.toNat=0:=by
   simp only [U5,K1,Array.isEmpty_iff,ZC] at c0;have:=c0.resolve_right c.1;omega
  have last:=q2 (λz=>z.elim (λe=>c.1 (r.nil_iff.mpr e)) c.2) _ free;rw [k0] at last;exact⟨_,rfl,.ref s.heap.objs.size,_,I.laid (t':=s.toks) (o:= .tup []) (λb ob q=>G2 _ q) (G9 _) ⟨by decide,[],.nil,IsTupN.new _ _⟩,rfl,last⟩
 ·simp only [G0J,K8,Y8,ne_eq,ZC,G0o] at c c0;have em:((its.toArray.size:Nat):Int)*k=((its.length*k.toNat:Nat):Int):=by rw [Int.natCast_mul,D0,show ((k.toNat:Nat):Int)=k by omega]
  have cap:(sizeLine:Nat)<=(2^63-1) / 8:=by decide
  rw [em,hnew];refine⟨by omega,by unfold Builtin.Tuple.tupleTooMany;exact decide_eq_false (by omega),by rw [List.size_toArray,XI,Nat.mul_comm];exact few,_,rfl,.ref s.heap.objs.size,_,I.laid (t':=s.toks) (o:= .tup (List.replicate k.toNat xs).flatten) (λb ob q=>Heap.get?_push_of_some _ q) (Nat.le_refl _) ⟨by rw [XI,Nat.mul_comm];exact hz,_,r.rep k.toNat,IsTupN.new _ _⟩,rfl,q2 (λz=>z.elim (λe=>c.1 (r.nil_iff.mpr e)) c.2) _ free⟩
def Hl:RD2:=λx y h Q=>match x,y with
 | .tup ds,.int k=> -(2^63)<=k/\k<2^63/\ds.length*k.toNat<=sizeLine/\Q (.tup (List.replicate k.toNat ds).flatten) h
 |x,y=>Hi x y h Q
theorem Va:OpQ X (binaryOp .Mult) Hl:=(oq_mul.or FP).imp λx y H Q ⟨dx,dy,h,Qd,rx,ry,rh,q,p⟩=>by
 by_cases ht: ∃ds k,dx= .tup ds/\dy= .int k
 ·obtain⟨ds,k,e1,e2⟩:=ht;subst e1 e2;obtain⟨b1,b2,hz,q⟩:=q;obtain⟨a,vs,e,hH,r⟩:=(show ∃a vs,x= .ref a/\H a=some (.tup vs)/\RelDs X.K H ds vs from rx);refine .inr ⟨a,k,vs,e,ry,SqT.of hH,b1,b2,by rw [<-r.length];exact hz,λhs=> ?_,λ_ c hc=>p (.tup _) _ _ _ (.new hc) (rh.new hc) ⟨c,_,rfl,jt,(r.flat _).mono (.new hc)⟩ q⟩;refine p (.tup _) _ _ _ (.refl H) rh ⟨a,vs,rfl,hH,?_⟩ q;rcases hs with e0|e1
  ·subst e0;have:ds= []:=E7.mp r.length;subst this;simpa using r
  ·subst e1;simpa using r
 ·refine .inl ⟨dx,dy,h,Qd,rx,ry,rh,?_,p⟩;unfold Hl at q;split at q
  ·exact absurd ⟨_,_,rfl,rfl⟩ ht
  ·exact q
def Hm:D->HD->KD->Prop:=λx h Q=>match x with
 | .int i=>Q (.int (-i)) h
 |_=>False
def dUn (f:D->HD->KD->Prop)(ta:TED):TED:=λσ h Q=>ta σ h λx h1=>f x h1 Q
theorem Kh {a:Expr}{ta:TED}{pos:Pos}(ha:QE X a ta):QE X (.UnaryOp .USub a pos) (dUn Hm ta):=
 (Sy OT ha).imp λσ H Q ⟨σd,h,Qd,rs,rh,t,p⟩=>LE.bind rs rh t λd v h1 H1 k1 rs1 rh1 r1 q=>by
  cases d<;>first
   |exact False.elim q
   |exact⟨_,r1,p (.int _) _ _ _ k1 rh1 rfl q⟩
variable {p:Addr}
theorem NC {H:Hp}{a b:HO}:upd (upd H p a) p b=upd H p b:=by
 funext q;unfold upd;split<;>rfl
def AY (K:PySem.W.Frag)(tl:TE):TI:=λσ H R=>tl σ H λx H1=> ∃a,x= .ref a/\((∃xs,SqL K H1 a xs/\R (Itl K a) H1)\/ ∃xs,SqT K H1 a xs/\R (Itt K a) H1)
theorem AZ {tg l:Expr}{tl:TE}(hl:PE X l tl):PI X tg l (AY X.K tl):=by
 intro pins s σ H R I h;refine thn (hl pins s σ H _ I h) λv s1 ⟨x,H1,I1,r1,q1⟩=> ?_
 obtain⟨a,e,q⟩:=q1;subst e;cases r1;rcases q with ⟨xs,hq,q⟩|⟨xs,hq,q⟩
 ·obtain⟨its,rv,p,hz⟩:=I1.list hq;refine V2 p.isList ?_;refine⟨s1.heap.objs.size,[s1.heap.objs.size],_,_,H1,rfl,I1.kept (t':=s1.toks) λb o e=>G2 _ e,VY a _,⟨_,R3 _ rfl,rfl,rfl⟩,λb hb=> ?_,q⟩;have e:b=s1.heap.objs.size:=by simpa using hb
  subst e;exact I1.fpOk (G9 _) (I1.hok.fresh (G9 _))
 ·obtain⟨its,rv,p,hz⟩:=I1.tuple hq;refine J0 (show s1.heap.IsTuple a its.toArray from p) ?_;refine⟨s1.heap.objs.size,[s1.heap.objs.size],_,_,H1,rfl,I1.kept (t':=s1.toks) λb o e=>G2 _ e,Pd a _,⟨_,R3 _ rfl,rfl,rfl⟩,λb hb=> ?_,q⟩;have e:b=s1.heap.objs.size:=by simpa using hb
  subst e;exact I1.fpOk (G9 _) (I1.hok.fresh (G9 _))
def iS (te:TED):TID:=λσ h R=>te σ h λx h1=>match x with
 | .lst a=>R (λh=>h a) h1
 | .tup ds=>R (λ_=>some ds) h1
 | .scr ns=>R (λ_=>some (ns.map D.int)) h1
 |_=>False
variable {K:PySem.W.Frag}
theorem ND {H:Hp}{a:Addr}{ns:List Int}(hs:Scr K H a ns):Fx K H (λ_=>some (ns.map D.int)) (Itl K a):=λH' h' k rh ds' e i=>by
 cases e;have hs':Scr K H' a ns:=hs.elim (λ⟨o,z⟩=> .inl ⟨o,k.frz _ _ _ z⟩) .inr;refine⟨λd hd=> ?_,λhl=>⟨_,hs'.sq,by simpa using hl⟩⟩;obtain⟨v,e1,e2⟩:=(yU (K:=K) (H:=H') ns).get hd;refine⟨⟨_,v,hs'.sq,e1⟩,λx H'' ⟨eH,hx⟩=> ?_⟩;subst eH;have:=hx _ hs'.sq;rw [e1] at this;cases this;exact⟨.refl _,rh,e2⟩
variable {te:TED}
theorem Ea: ∀σ H R,LI K (iS te) σ H R->AY K (LE K te) σ H R:=λσ H R ⟨σd,h,Rd,rs,rh,q,p⟩=>
 LE.bind rs rh q λd v h1 H1 k1 rs1 rh1 r1 q1=>by
  cases d<;>first
   |exact False.elim q1
   |skip
  ·rename_i ds;obtain⟨a,vs,e,hv,r⟩:=(show ∃a vs,v= .ref a/\H1 a=some (.tup vs)/\RelDs K H1 ds vs from r1);exact⟨a,e,.inr ⟨vs,SqT.of hv,p _ _ _ _ k1 rh1 (Ny hv r) q1⟩⟩
  ·rename_i a;obtain⟨e,vs,hv⟩:=(show v= .ref a/\ ∃vs,H1 a=some (.lst vs) from r1);exact⟨a,e,.inl ⟨vs,SqL.of hv,p _ _ _ _ k1 rh1 (Uk H1 a) q1⟩⟩
  ·rename_i ns;obtain⟨a,e,hS⟩:=(show ∃a,v= .ref a/\Scr K H1 a ns from r1);exact⟨a,e,.inl ⟨_,hS.sq,p _ _ _ _ k1 rh1 (ND hS) q1⟩⟩
theorem Eb {tg e:Expr}(he:QE X e te):QI X tg e (iS te):=(AZ he).imp Ea
def Cj:TSD:=λ_ _ _=>False
theorem Ec {st:Stmt}:QS X st Cj:=λ_ _ _ _ _ _ ⟨_,_,_,_,_,z,_⟩=>z.elim
structure Zs (mg:Str->Option Value):Prop where
 len:mg "len" =none
 max:mg "max" =none
 min:mg "min" =none
 divmod:mg "divmod" =none
 all:mg "all" =none
 any:mg "any" =none
 repr:mg "repr" =none
 sum:mg "sum" =none
 sorted:mg "sorted" =none
 int:mg "int" =none
 tuple:mg "tuple" =none
 list:mg "list" =none
 set:mg "set" =none
 bool:mg "bool" =none
 isinstance:mg "isinstance" =none
 range:mg "range" =none
 zip:mg "zip" =none
 enumerate:mg "enumerate" =none
 reversed:mg "reversed" =none
def jp (P:Program)(w:World)(K:PySem.W.Frag)(mg:Str->Option Value)(base:Heap)(n:Nat)(x:Str)(ps:List Str)(sp:RDn):Prop:=
 ∃ (g:Addr) (gd:FuncData),FnOk P w K mg base CX0 n g gd ps (LSp K sp)/\Binds K gd ps []/\PySem.W.keepIn K (.ref g)=true/\mg x=some (.ref g)
def Rg:RDn:=λds h Q=> ∃ns,ds= [.scr ns]/\(∀a,h a=none)/\ns.length<=63/\ ∀h',Q (.bl true) h'
def Bm (mg:Str->Option Value)(base:Heap):Prop:= ∃bm ob,mg "__builtins__" =some (.ref bm)/\bm≠builtinsNs/\base.get? bm=some ob/\ob.cls= .type "module" /\ob.dict=some builtinsNs/\ob.data= .plain
def wy (K:PySem.W.Frag):List (Addr×Addr):=LN.filterMap (PySem.W.tabIn K)
theorem TabK.mem {P:Addr}(h:TabK K P): ∃c,(c,P)∈wy K:=let ⟨x,hx,c,e⟩:=h;⟨c,U1.mpr ⟨x,hx,e⟩⟩
theorem Rh {P:Program}{w:World}{mg mb:Str->Option Value}{k:Nat}{fa a:Addr}{fd:FuncData}{x:Str}{s₁:Shared}{vs:List Value}{ns:List Int}
 (KX:K.In s₁.heap)(hns:s₁.heap.Ns mainGlobals mg)(hb:s₁.heap.Ns builtinsNs mb)(hbb: ∀x:Str,x≠ "__name__" ->mb x=bootBuiltins x)(hlim:s₁.heap.NoLimit)(hg:s₁.gens= #[])
 (ha:s₁.heap.get? a=some {cls:= .type "list",data:= .seq vs.toArray})(hi:IntsAre vs ns)(hl:ns.length<=63)(hr:Room k callerA)
 (hbm:Bm mg s₁.heap)(F: ∀base:Heap,K.In base->base.Ns mainGlobals mg->Bm mg base->FnOk P w K mg base CX0 k fa fd [x] (LSp K Rg))(hbind: ∀ (s:Shared) (u:Value),BindsTo s fd ⟨[u],[]⟩ [(x,u)])
 (hT: ∀p∈wy K,PySem.W.CodeHd s₁.heap p.1 p.2/\s₁.heap.get? p.2=some (PySem.W.tabObj #[])/\K.lookup p.2=none):
 codeAny (model P w) callerA (.call (.ref fa) ⟨[.ref a],[]⟩) (λr s'=>r= .ok (.ret (.bool true))/\OldK s₁.heap s'.heap/\s'.os=s₁.os/\AllBare s'.gens) s₁:=by
 have rv:=Uf hi;have lenV:=hi.length;have hz:ns.length<=sizeLine:=D7 hl (by decide);have hT': ∀b,b∈(wy K).map (·.2)-> ∃c,PySem.W.CodeHd s₁.heap c b/\s₁.heap.get? b=some (PySem.W.tabObj #[])/\K.lookup b=none:=λb hb=>by
  obtain⟨p,hp,rfl⟩:=P9.mp hb;exact⟨p.1,hT p hp⟩
 have core: ∀H:Hp,Scr K H a ns->HOk P w H s₁.heap->(∀b u,H b=some u->(b=a/\K.lookup a=none/\ ∃o xs,u= .frz o (.lst xs))\/(b∈(wy K).map (·.2)/\u= .tbl #[]))->(∀b,b∈(wy K).map (·.2)->H b=some (.tbl #[]))->
  codeAny (model P w) callerA (.call (.ref fa) ⟨[.ref a],[]⟩) (λr s'=>r= .ok (.ret (.bool true))/\OldK s₁.heap s'.heap/\s'.os=s₁.os/\AllBare s'.gens) s₁:=by
  intro H hS hok hA hTt;have noA: ∀ {b:Addr} {o:Obj} {es:Array DictEntry} {ep:Nat},s₁.heap.get? b=some o->o.data= .dict es ep->H b=none:=λ{b o es ep} e d=>by
   cases q:H b with
   |none=>rfl
   |some u=>
    rcases hA b u q with ⟨rfl,_,_⟩|⟨z,_⟩
    ·rw [ha] at e;cases e;have d':Data.seq vs.toArray _=Data.dict es ep:=d;cases d'
    ·obtain⟨c,_,e2,_⟩:=hT' b z;rw [e2] at e;cases e;have d':Data.fields _=Data.dict es ep:=d;cases d'
  have nsK: ∀ {b:Addr} {m:Str->Option Value},s₁.heap.Ns b m->(Nc s₁.heap H).Ns b m:=λ{b m} ⟨o,es,ep,e,d,r⟩=>⟨o,es,ep,YK e (noA e d),d,r⟩
  have hKb:K.In (Nc s₁.heap H):=λb o e=>YK (KX b o e) (by
   cases q:H b with
   |none=>rfl
   |some u=>
    rcases hA b u q with ⟨rfl,z,_⟩|⟨z,_⟩
    ·rw [z] at e;cases e
    ·obtain⟨c,_,_,z2⟩:=hT' b z;rw [z2] at e;cases e)
  have hM:Mod K mg (Nc s₁.heap H):=⟨hKb,nsK hns,⟨mb,nsK hb,hbb⟩,let ⟨mc,h1,h2⟩:=hlim;⟨mc,nsK h1,h2⟩⟩;have e0:Env0 P w K mg (Nc s₁.heap H) callerA [] s₁ H:=⟨rfl,hM,λb o e=>CC e,A3 (Dj _ _),trivial,λb hb=>absurd (show b∈([]:List Addr) from hb) (by simp),hok,.of_eq hg⟩;have hsp:LSp K Rg [.ref a] H (λv _=>v= .bl true) (λ_ _ _=>False):=by
   refine⟨[.scr ns],⟨λ_=>none,λ_=>none⟩,λd _=>d= .bl true,⟨.ref a,[],rfl,⟨a,rfl,hS⟩,rfl⟩,⟨λb ds e=>(by cases e),λp hp=> ?_,λb c e=>(by cases e)⟩,⟨ns,rfl,λ_=>rfl,hl,λ_=>rfl⟩,?_⟩
   ·obtain⟨c,hc⟩:=hp.mem;exact⟨#[],hTt p (K9 (f:=(·.2)) hc),trivial,λpos cv e=>(by cases e)⟩
   ·intro d v h' H' _ _ r e;subst e;exact r
  have hBm:Bm mg (Nc s₁.heap H):=by
   obtain⟨bm,ob,b1,b2,b3,b4,r⟩:=hbm;refine⟨bm,ob,b1,b2,YK b3 ?_,b4,r⟩;cases q:H bm with
   |none=>rfl
   |some u=>
    rcases hA bm u q with ⟨rfl,_,_⟩|⟨z,_⟩
    ·rw [ha] at b3;cases b3;exact absurd (Value.type.inj b4) (by decide)
    ·obtain⟨c,_,e2,_⟩:=hT' bm z;rw [e2] at b3;cases b3;cases b4
  refine codeAny_mono ((F _ hKb (nsK hns) hBm).run callerA [] s₁ H ⟨[.ref a],[]⟩ [.ref a] [.ref a] _ _ hr e0 (hbind s₁ (.ref a)) (.cons rfl .nil) hsp) λr s' h=> ?_
  cases r with
  |error e=>exact False.elim h
  |ok fl=>
   cases fl with
   |next=>exact False.elim h
   |brk=>exact False.elim h
   |cont=>exact False.elim h
   |ret u=>
    obtain⟨v,H',os,bare,un,hok',r',q⟩:=h;have q':v= .bl true:=q;subst q';obtain rfl:u=Value.bool true:=r';have one: ∀b o,s₁.heap.get? b=some o->s'.heap.get? b=some o\/(b∈(wy K).map (·.2)/\ ∃more,s'.heap.get? b=some (PySem.W.tabObj more)):=λb o e=>by
     cases q:H b with
     |none=>exact .inl (un.keep b o e q (by intro z;exact absurd (show b∈([]:List Addr) from z) (by simp)) (by simp))
     |some u=>
      rcases hA b u q with ⟨rfl,_,ob,xs,rfl⟩|⟨z,rfl⟩
      ·have z2:=un.frzs _ ob _ q;obtain⟨e1,_⟩:=hok _ _ q;obtain⟨e2,_⟩:=hok' _ _ z2;rw [e] at e1;cases e1;exact .inl e2
      ·obtain⟨more,z2⟩:=un.tbls b _ q;exact .inr ⟨z,_,(show s'.heap.get? b=some _ from hok' b _ z2)⟩
    refine⟨rfl,⟨λb o e=> ?_,λb o e=> ?_⟩,os,bare⟩
    ·rcases one b o e with z|⟨z,more,z2⟩
     ·exact .inl z
     ·obtain⟨c,hc,e2,_⟩:=hT' b z;rw [e] at e2;cases e2;refine .inr (.inl ⟨(hc.tab e).isCodeTable,rfl,#[],more,rfl,?_⟩);rw [z2];simp
    ·rcases one b o e with z|⟨z,more,z2⟩
     ·exact⟨_,z⟩
     ·exact⟨_,z2⟩
 have nT:a ∉ (wy K).map (·.2):=λz=>by
  obtain⟨c,_,e2,_⟩:=hT' a z;rw [ha] at e2;cases e2
 have okT: ∀ {H:Hp} (b:Addr),b∈(wy K).map (·.2)->ObjOk P w H s₁.heap b (.tbl #[]):=λb hb=>let ⟨_,_,e,_⟩:=hT' b hb;e
 cases hk:K.lookup a with
 |some o=>
  have e:=KX a o hk;rw [ha] at e;cases e;refine core (λb=>if b∈(wy K).map (·.2) then some (.tbl #[]) else none) (.inr ⟨_,vs.toArray,_,hk,rfl,rfl,rfl,by rw [D0,lenV];exact hz,by simpa using rv⟩) (λb u z=> ?_) (λb u z=> ?_) λb hb=>if_pos hb
  ·by_cases hb:b∈(wy K).map (·.2)
   ·have z':=(if_pos hb).symm.trans z;cases z';exact okT b hb
   ·have z':=(if_neg hb).symm.trans z;cases z'
  ·by_cases hb:b∈(wy K).map (·.2)
   ·have z':=(if_pos hb).symm.trans z;cases z';exact .inr ⟨hb,rfl⟩
   ·have z':=(if_neg hb).symm.trans z;cases z'
 |none=>
  refine core (λb=>if b=a then some (.frz {cls:= .type "list",data:= .seq vs.toArray} (.lst (ns.map V.int))) else if b∈(wy K).map (·.2) then some (.tbl #[]) else none) (.inl ⟨{cls:= .type "list",data:= .seq vs.toArray},if_pos rfl⟩) (λb u z=> ?_) (λb u z=> ?_) λb hb=> ?_
  ·by_cases hb:b=a
   ·have z':=(if_pos hb).symm.trans z;cases z';subst hb;exact⟨ha,by rw [G1];exact hz,vs,_,rv,ha⟩
   ·have z':=(if_neg hb).symm.trans z
    by_cases hb2:b∈(wy K).map (·.2)
    ·have z2:=(if_pos hb2).symm.trans z';cases z2;exact okT b hb2
    ·have z2:=(if_neg hb2).symm.trans z';cases z2
  ·by_cases hb:b=a
   ·have z':=(if_pos hb).symm.trans z;cases z';exact .inl ⟨hb,hk,_,_,rfl⟩
   ·have z':=(if_neg hb).symm.trans z
    by_cases hb2:b∈(wy K).map (·.2)
    ·have z2:=(if_pos hb2).symm.trans z';cases z2;exact .inr ⟨hb2,rfl⟩
    ·have z2:=(if_neg hb2).symm.trans z';cases z2
  ·have:b≠a:=λz=>nT (z ▸ hb)
   show (if b=a then _ else _)=_;rw [if_neg this,if_pos hb]
def Ts (q:Program)(K:PySem.W.Frag):Bool:=LN.all λx=>match PySem.W.tabIn K x with
 |some p=>(K.lookup p.2).isNone&&((PyProof.Rows.recsOf q).find? (λe=>e.name==x)).isSome
 |none=>true
theorem NE {l:PySem.W.OpenLaw}{k:Nat}{q:Program}{loose:List Str}{XP:(Str->Option Value)->Heap->Prop}{YP:World->Heap->Prop}{d:DefRec}{K:Params->PySem.W.Frag}{x:Str}(hn:l.most=some 63)(hdf:d.params.defaults= [])(hr:Room k callerA)
 (hY: ∀ (w:World) (h:Heap),YP w h->(K w.params).In h)(hB: ∀w:World,Ts q (K w.params)=true)
 (F: ∀ (w:World) (mg:Str->Option Value) (fa:Addr) (h:Heap),(K w.params).In h->h.Ns mainGlobals mg->mg d.name=some (.ref fa)->
  ∃fd:FuncData,(∀ (s:Shared) (u:Value),BindsTo s fd ⟨[u],[]⟩ [(x,u)])/\ ∀base:Heap,(K w.params).In base->base.Ns mainGlobals mg->Bm mg base->FnOk l.prog w (K w.params) mg base CX0 k fa fd [x] (LSp (K w.params) Rg)):
 PySem.W.WalkO q loose XP YP l.row.toRowW d [] (λf vs=>PySem.call f vs):=by
 refine Att.attach_call hn hdf λw s₀ s₁ mg mb fa o pm cd doc a vs ns G Y ho hd hcd hmg hobj hints hlen hg=> ?_
 have KX:=hY w _ Y;obtain⟨fd,hb,hF⟩:=F w mg fa _ KX G.T.g hmg;refine Rh KX G.T.g G.T.b G.T.builtins G.T.nolimit hg hobj hints hlen hr G.T.bmain hF hb λp hp=> ?_
 obtain⟨x,hx,e⟩:=U1.mp hp;have z:=S5.mp (hB w) x hx;rw [e] at z;simp only [T1,Option.isNone_iff_eq_none] at z;obtain⟨dd,hdd⟩:=E1.mp z.2;have t:=PySem.W.tab_of (c:=p.1) (P:=p.2) G.T KX hdd e;exact⟨t.1,t.2,z.1⟩
def XN:Expr->Bool
 | .Starred .. =>false
 |_=>true
theorem XO {e:Expr}{es:List Expr}{env:Env}(h:XN e=true):starEach (e::es) env=(false,eval e env)::starEach es env:=by
 cases e<;>first|rfl|cases h
theorem qac {e:Expr}{es:List Expr}{t:TAD}(ha:QE X e te)(hr:QA X es t)(h:XN e=true:=by rfl):QA X (e::es) (yu te t):=Fo ha hr (XO h)
theorem XQ {α:Type}{xs:List α}{i:Int}(h0:0<=i)(h1:i<xs.length): ∃x∈xs,atI xs i=some x:=by
 have hk:i.toNat<xs.length:=by omega
 have ek:i=((i.toNat:Nat):Int):=by omega
 have z:=wE (G0 hk);rw [<-ek] at z;exact⟨xs[i.toNat],D4 hk,z⟩
variable {h h':HD}{L:List D}
theorem Sub.both (s:Sub h h'):Sub (zY h p L) (zY h' p L):=⟨λa ds e=>(by
 by_cases q:a=p
 ·subst q;rw [jd] at e ⊢;exact e
 ·rw [wq q] at e ⊢;exact s a ds e),s.dc⟩
theorem Sub.newAt (s:Sub h h')(e:h' p=none):Sub h (zY h' p L):=s.trans (.new e)
structure But (p:Addr)(h h':HD):Prop where
 ls: ∀a ds,a≠p->h a=some ds->h' a=some ds
 dc: ∀a c,h.dc a=some c->h'.dc a=some c
instance {p:Addr}{h h':HD}:CoeFun (But p h h') λ_=> ∀a ds,a≠p->h a=some ds->h' a=some ds:=⟨But.ls⟩
variable {q:Addr}
theorem But.new (s:But p h h')(e:h' q=none):But p h (zY h' q L):=⟨λa ds n z=>(by
 have:=s a ds n z;rw [wq (λw=>by subst w;rw [e] at this;cases this)];exact this),s.dc⟩
theorem But.put (s:But p h h'):But p h (zY h' p L):=⟨λa ds n z=>(by rw [wq n];exact s a ds n z),s.dc⟩
theorem But.putNew (s:But p h h')(e:h q=none):But p h (zY h' q L):=⟨λa ds n z=>(by
 rw [wq (λw=>by subst w;rw [e] at z;cases z)];exact s a ds n z),s.dc⟩
theorem But.sub (s:But p h h')(e:h' p=some L):Sub (zY h p L) h':=⟨λa ds z=>(by
 by_cases q:a=p
 ·subst q;rw [jd] at z;cases z;exact e
 ·rw [wq q] at z;exact s a ds q z),s.dc⟩
theorem But.upd:But p h (zY h p L):=⟨λa ds n z=>(by rw [wq n];exact z),λ_ _ e=>e⟩
theorem jX (e:h p=some L)(f:h q=none):q≠p:=λz=>by subst z;rw [e] at f;cases f
theorem ju {M:List D}(e:h p=some L)(f:h q=none):zY h q M p=some L:=by rw [wq (λz=>by subst z;rw [e] at f;cases f)];exact e
theorem jw {a b:Addr}{M:List D}(n:b≠a)(e:h b=some M):zY h a L b=some M:=by rw [wq n];exact e
theorem ZX {n:Nat}{i:Nat}{d:D}(h:((List.range n).map λ(k:Nat)=>D.int (k:Int))[i]? =some d):i<n/\d= .int i:=by
 rw [P3] at h
 by_cases hi:i<n
 ·rw [B9 hi] at h;cases h;exact⟨hi,rfl⟩
 ·rw [C0 (by simpa using hi)] at h;cases h
variable {E:EndsD}{σ:SD}
theorem jh {t u:TSD}(V:SD->HD->Prop)(first: ∀K:SD->HD->Prop,(∀σ' h',V σ' h'->K σ' h')->t {E with nx:=K} σ h)(rest: ∀σ' h',V σ' h'->u E σ' h'):MR t u E σ h:=first (u E) rest
theorem Ri (b:But p h h')(e:h' q=none)(n:q≠p):h q=none:=by
 cases z:h q with
 |none=>rfl
 |some ds=>rw [b q ds n z] at e;cases e
def Nxt (E:EndsD)(V:SD->HD->Prop):EndsD:= {E with nx:=λσ3 h3=> ∃h4,Sub h4 h3/\V σ3 h4,ct:=λσ3 h3=> ∃h4,Sub h4 h3/\V σ3 h4,bk:=E.nx}
variable {h1:HD}
theorem Jw {ta:TAD}{g:TGD}{tb:TSD}(n:Nat)(W:Nat->SD->HD->Prop)(hn:n<1000000)
 (ht: ∀R:List D->HD->Prop,R [.int (n:Int)] h1->ta σ h R)(w0:W 0 σ h1)(done: ∀σ' h',W n σ' h'->E.nx σ' h')
 (turn: ∀i σ' h',i<n->W i σ' h'->g (.int (i:Int)) σ' h' λσ2 h2=>tb (Nxt E λσ3 h4=>i+1<=n/\W (i+1) σ3 h4) σ2 h2):AI (iR1 ta) g tb E σ h:=by
 refine ht _ ⟨(n:Int),rfl,by omega,by omega,n,λi σ' h'=>i<=n/\W i σ' h',⟨T3 _,w0⟩,?_⟩;rintro i σ' h' ⟨hi,w⟩;refine⟨_,rfl,by simp,λhl=> ?_,λd hd=> ?_⟩
 ·have:i=n:=by simp at hl;omega
  subst this;exact done _ _ w
 ·obtain⟨hi',e⟩:=ZX hd;have hi2:i<n:=by omega
  subst e;exact turn i σ' h' hi2 w
theorem NF {ti:TID}{g:TGD}{tb:TSD}{j:ItD}(ds:List D)(W:Nat->SD->HD->Prop)
 (ht: ∀R:ItD->HD->Prop,R j h1->ti σ h R)(hj: ∀i σ' h',W i σ' h'->j h'=some ds)(w0:W 0 σ h1)(done: ∀σ' h',W ds.length σ' h'->E.nx σ' h')
 (turn: ∀i d σ' h',ds[i]? =some d->W i σ' h'->g d σ' h' λσ2 h2=>tb (Nxt E λσ3 h4=>i+1<=ds.length/\W (i+1) σ3 h4) σ2 h2):AI ti g tb E σ h:=by
 refine ht _ ⟨ds.length,λi σ' h'=>i<=ds.length/\W i σ' h',⟨T3 _,w0⟩,?_⟩;rintro i σ' h' ⟨hi,w⟩;refine⟨ds,hj i σ' h' w,G9 _,λhl=> ?_,λd hd=>turn i d σ' h' hd w⟩;have:i=ds.length:=by omega
 subst this;exact done _ _ w
theorem ZY {g:TGD}{tb:TSD}{j:ItD}(ds:List D)(W:Nat->SD->HD->Prop)
 (hj: ∀i σ' h',W i σ' h'->j h'=some ds)(w0:W 0 σ h1)(done: ∀σ' h',W ds.length σ' h'->E.nx σ' h')
 (turn: ∀i d σ' h',ds[i]? =some d->W i σ' h'->g d σ' h' λσ2 h2=>tb (Nxt E λσ3 h4=>i+1<=ds.length/\W (i+1) σ3 h4) σ2 h2):
 ∃ (n:Nat) (W:Nat->SD->HD->Prop),W 0 σ h1/\ ∀i σ' h',W i σ' h'-> ∃ds,j h'=some ds/\ds.length<=n/\(ds.length<=i->E.nx σ' h')/\
  ∀d,ds[i]? =some d->g d σ' h' λσ2 h2=>tb {E with nx:=λσ3 h3=> ∃h4,Sub h4 h3/\W (i+1) σ3 h4,ct:=λσ3 h3=> ∃h4,Sub h4 h3/\W (i+1) σ3 h4,bk:=E.nx} σ2 h2:=by
 refine⟨ds.length,λi σ' h'=>i<=ds.length/\W i σ' h',⟨T3 _,w0⟩,?_⟩;rintro i σ' h' ⟨hi,w⟩;refine⟨ds,hj i σ' h' w,G9 _,λhl=> ?_,λd hd=>turn i d σ' h' hd w⟩;have:i=ds.length:=by omega
 subst this;exact done _ _ w
theorem Ed {i:Nat}{js:List Nat}{ta:TAD}{Q:KD}(n:Nat)(W:Nat->List D->HD->Prop)(hn:n<=1000)(ht: ∀R:List D->HD->Prop,R [.int (n:Int)] h1->ta σ h R)
 (w0:W 0 [] h1)(wl: ∀k ys h',W k ys h'->ys.length=k)(turn: ∀k ys h',k<n->W k ys h'->te ((jP js σ).set i (some (.int (k:Int)))) h' λy h4=> ∃h5,Sub h5 h4/\(k+1<=n/\W (k+1) (ys++ [y]) h5))
 (done: ∀ys h',W n ys h'-> ∀p,h' p=none->Q (.lst p) (zY h' p ys)):vb (bN i) js (iR1 ta) WS te σ h Q:=by
 refine ht _ ⟨(n:Int),rfl,by omega,by omega,n,λk ys h'=>k<=n/\W k ys h',⟨T3 _,w0⟩,?_⟩;rintro k ys h' ⟨hk,w⟩;refine⟨by rw [wl k ys h' w];exact D8 (jA (by omega)),_,rfl,by simp,λhl p hp=> ?_,λd hd=>⟨_,rfl,?_⟩⟩
 ·have:k=n:=by simp at hl;omega
  subst this;exact done ys h' w p hp
 ·obtain⟨hi',e⟩:=ZX hd;subst e;unfold WS;dsimp only;rw [if_pos rfl];exact turn k ys h' (by omega) w
end L2
namespace L2
open PySem PySem.Spec PyProof.Rows PySem.SeqAt
mutual
def ToP (h:HD):D->PyData->Prop
 |d,.none=>d= .non
 |d,.bool b=>d= .bl b
 |d,.int i=>d= .int i
 |d,.str x=>d= .str x
 |d,.tuple ps=> ∃ds,d= .tup ds/\ToPs h ds ps
 |d,.list ps=> ∃a ds,d= .lst a/\h a=some ds/\ToPs h ds ps
 |_,.dict _=>False
def ToPs (h:HD):List D->List PyData->Prop
 |ds,[]=>ds= []
 |ds,p::ps=> ∃d r,ds=d::r/\ToP h d p/\ToPs h r ps
end
section
variable {X:Cx}{pins:List (Addr×Obj)}{σ:St}{H:Hp}{s:Shared}{h:HD}
mutual
theorem zR (I:Inv X pins σ H s)(rh:RelH X.K h H): ∀ {p:PyData} {d:D} {v:V} {u:Value},ToP h d p->RelD X.K H d v->RelV v u-> ∃as,Reads s.heap u p as
 | .none,d,v,u,t,r,ru=>by cases (show d= .non from t);cases (show v= .non from r);cases (show u= .none from ru);exact⟨[],.none⟩
 | .bool b,d,v,u,t,r,ru=>by cases (show d= .bl b from t);cases (show v= .bl b from r);cases (show u= .bool b from ru);exact⟨[],.bool b⟩
 | .int i,d,v,u,t,r,ru=>by cases (show d= .int i from t);cases (show v= .int i from r);obtain⟨k,rfl⟩:=(show ∃t,u=Value.int i t from ru);exact⟨[],.int i k⟩
 | .str x,d,v,u,t,r,ru=>by cases (show d= .str x from t);cases (show v= .str x from r);obtain⟨k,rfl⟩:=(show ∃t,u=Value.str x t from ru);exact⟨[],.str x k⟩
 | .tuple ps,d,v,u,t,r,ru=>by
  obtain⟨ds,e,ts⟩:=(show ∃ds,d= .tup ds/\ToPs h ds ps from t);subst e;obtain⟨a,vs,e,hH,rs⟩:=(show ∃a vs,v= .ref a/\H a=some (.tup vs)/\RelDs X.K H ds vs from r);subst e;cases (show u= .ref a from ru);obtain⟨its,rv,ht,_⟩:=I.tuple (SqT.of hH);obtain⟨o,ho,hc,n,hd⟩:=ht;obtain⟨as,q⟩:=reads_Ds I rh ts rs rv;exact⟨as,.tuple ho hc hd q⟩
 | .list ps,d,v,u,t,r,ru=>by
  obtain⟨a,ds,e,ha,ts⟩:=(show ∃a ds,d= .lst a/\h a=some ds/\ToPs h ds ps from t);subst e;obtain⟨vs,hH,rs⟩:=rh a ds ha;have e:v= .ref a:=r.1;subst e;cases (show u= .ref a from ru);obtain⟨its,rv,pl,_⟩:=I.list (SqL.of hH);obtain⟨o,ho,hc,n,hd⟩:=pl.isList;obtain⟨as,q⟩:=reads_Ds I rh ts rs rv;exact⟨a::as,.list ho hc hd q⟩
 | .dict _,_,_,_,t,_,_=>(show False from t).elim
theorem reads_Ds (I:Inv X pins σ H s)(rh:RelH X.K h H): ∀ {ps:List PyData} {ds:List D} {vs:List V} {us:List Value},ToPs h ds ps->RelDs X.K H ds vs->Vals vs us-> ∃as,ReadsAll s.heap us ps as
 | [],ds,vs,us,t,r,rv=>by
  cases (show ds= [] from t);cases (show vs= [] from r);cases rv;exact⟨[],.nil⟩
 |p::ps,ds,vs,us,t,r,rv=>by
  obtain⟨d,dr,e,t1,t2⟩:=(show ∃d r,ds=d::r/\ToP h d p/\ToPs h r ps from t);subst e;obtain⟨v,vr,e,r1,r2⟩:=(show ∃v r,vs=v::r/\RelD X.K H d v/\RelDs X.K H dr r from r);subst e;cases rv with
  |cons ru rt=>
   obtain⟨as,q1⟩:=zR I rh t1 r1 ru;obtain⟨bs,q2⟩:=reads_Ds I rh t2 r2 rt;exact⟨as++bs,.cons q1 q2⟩
end
end
def eqE:RD2:=λx y h Q=>match x,y with
 | .int i,.int j=>Q (.bl (decide (i=j))) h
 | .bl i,.bl j=>Q (.bl (decide (i=j))) h
 | .str i,.str j=>Q (.bl (decide (i=j))) h
 |x,y=> ∃p q,ToP h x p/\ToP h y q/\shaped p=true/\shaped q=true/\Q (.bl (PyData.eqv p q)) h
def neE:RD2:=λx y h Q=>match x,y with
 | .int i,.int j=>Q (.bl (!decide (i=j))) h
 | .bl i,.bl j=>Q (.bl (!decide (i=j))) h
 | .str i,.str j=>Q (.bl (!decide (i=j))) h
 |x,y=> ∃p q,ToP h x p/\ToP h y q/\shaped p=true/\shaped q=true/\Q (.bl (!PyData.eqv p q)) h
section
variable {X:Cx}
def eqG:RD2:=λx y h Q=> ∃p q,ToP h x p/\ToP h y q/\shaped p=true/\shaped q=true/\Q (.bl (PyData.eqv p q)) h
def neG:RD2:=λx y h Q=> ∃p q,ToP h x p/\ToP h y q/\shaped p=true/\shaped q=true/\Q (.bl (!PyData.eqv p q)) h
theorem Ee (hu:X.A.units+64<cLine):OpQ X (compareOp .Eq) eqG:=by
 intro pins s σ H x y v u Q I rx ry h;obtain⟨dx,dy,h,Qd,r1,r2,rh,⟨p,q,t1,t2,s1,s2,qq⟩,post⟩:=h;obtain⟨as,a1⟩:=zR I rh t1 r1 rx;obtain⟨bs,b1⟩:=zR I rh t2 r2 ry;exact compareEq_shaped a1 b1 s1 s2 hu ⟨.bl _,H,I,rfl,post (.bl _) _ _ _ (.refl H) rh rfl qq⟩
theorem Ef (hu:X.A.units+64<cLine):OpQ X (compareOp .NotEq) neG:=by
 intro pins s σ H x y v u Q I rx ry h;obtain⟨dx,dy,h,Qd,r1,r2,rh,⟨p,q,t1,t2,s1,s2,qq⟩,post⟩:=h;obtain⟨as,a1⟩:=zR I rh t1 r1 rx;obtain⟨bs,b1⟩:=zR I rh t2 r2 ry;exact compareNe_shaped a1 b1 s1 s2 hu ⟨.bl _,H,I,rfl,post (.bl _) _ _ _ (.refl H) rh rfl qq⟩
theorem OpQ.or' {f:Value->Value->Sem Value}{r r' r2:RD2}(h:OpQ X f r)(h':OpQ X f r')(i: ∀x y hh Q,r2 x y hh Q->r x y hh Q\/r' x y hh Q):OpQ X f r2:=λpins s σ H x y v u Q I rx ry ⟨dx,dy,hd,Qd,r1,r2',rh,q,p⟩=>
 (i dx dy hd Qd q).elim (λz=>h pins s σ H x y v u Q I rx ry ⟨dx,dy,hd,Qd,r1,r2',rh,z,p⟩) λz=>h' pins s σ H x y v u Q I rx ry ⟨dx,dy,hd,Qd,r1,r2',rh,z,p⟩
theorem ZZ (hu:X.A.units+64<cLine):OpQ X (compareOp .Eq) eqE:=oq_eq.or' (Ee hu) λx y h Q q=>by
 unfold eqE at q;split at q
 ·exact .inl q
 ·exact .inl q
 ·exact .inl q
 ·exact .inr q
theorem Rj (hu:X.A.units+64<cLine):OpQ X (compareOp .NotEq) neE:=oq_ne.or' (Ef hu) λx y h Q q=>by
 unfold neE at q;split at q
 ·exact .inl q
 ·exact .inl q
 ·exact .inl q
 ·exact .inr q
end
end L2
namespace L2
open PySem PySem.Spec PyProof.Rows
theorem Ck: ∀ {ns:List Int} {us:List Value},Vals (ns.map V.int) us->IntsAre us ns
 | [],_,r=>by cases r;exact .nil
 |n::ns,_,r=>by
  cases r with
  |cons r t=>obtain⟨k,rfl⟩:=r;exact .cons n k (Ck t)
theorem Jd {K:PySem.W.Frag}{H:Hp}: ∀ {ns:List Int} {vs:List V},RelDs K H (ns.map D.int) vs->vs=ns.map V.int
 | [],_,h=>h
 |n::ns,vs,h=>by
  obtain⟨v,r,e,h1,h2⟩:=(show ∃v r,vs=v::r/\RelD K H (.int n) v/\RelDs K H (ns.map D.int) r from h);rw [e,Jd h2,(show v= .int n from h1)];rfl
structure JE (X:Cx)(e:Expr)(t:TED):Prop where
 to:QE X e t
structure JT (X:Cx)(e:Expr)(t:TTD):Prop where
 to:QT X e t
structure JW (X:Cx)(e:Expr)(t:TTD):Prop where
 to:QW X e t
structure JA (X:Cx)(e:List Expr)(t:TAD):Prop where
 to:QA X e t
structure JS (X:Cx)(e:Stmt)(t:TSD):Prop where
 to:QS X e t
structure JSs (X:Cx)(e:List Stmt)(t:TSD):Prop where
 to:QSs X e t
structure JG (X:Cx)(e:Expr)(t:TGD):Prop where
 to:QG X e t
structure JI (X:Cx)(tg e:Expr)(t:TID):Prop where
 to:QI X tg e t
structure JO (X:Cx)(e:Option Expr)(t:TOD):Prop where
 to:QO X e t
section
variable {X:Cx}{a b c e:Expr}{es rest:List Expr}{ta tb tc te:TED}{t u:TAD}{tt tu:TTD}{pos:Pos}{f r r':RD2}
theorem jv (i:Nat){x:Str}(hN:X.N[i]? =some x:=by rfl)(hv:Vis X.env.scope x:=by first|exact Or.inl rfl|exact Or.inr (Or.inl rfl)|exact Or.inr (Or.inr rfl))(hd:(x==("__debug__" :Str))=false:=by decide)(hcd:(x==("__classdict__" :Str))=false:=by decide):JE X (.Name x pos) (Nu i):=⟨qv (i:=i) (hN:=hN) (hv:=hv) (hd:=hd) (hcd:=hcd)⟩
theorem jK {i:Int}{j:Nat}:JE X (.Constant (.int i) j pos) (dC (.int i)):=⟨HK⟩
theorem jbl {i:Bool}{j:Nat}:JE X (.Constant (.bool i) j pos) (dC (.bl i)):=⟨qbl⟩
theorem FQ {x:Str}{i:Int}{tk:Tok}(hg:Gl X x)(hm:X.mg x=some (.int i tk))(hd:(x==("__debug__" :Str))=false:=by decide):JE X (.Name x pos) (dC (.int i)):=⟨SU (hg:=hg) (hm:=hm) (hd:=hd)⟩
theorem jop {op:Operator}(ho:OpQ X (binaryOp op) f)(ha:JE X a ta)(hb:JE X b tb):JE X (.BinOp a op b pos) (dOp f ta tb):=⟨qop (ho:=ho) (ha:=ha.to) (hb:=hb.to)⟩
variable {op:CmpOp}
theorem XA (ho:OpQ X (compareOp op) f)(ha:JE X a ta)(hb:JE X b tb)(hm:behindInMarks op b=false):JE X (.Compare a [op] [b] pos) (dOp f ta tb):=⟨HL (ho:=ho) (ha:=ha.to) (hb:=hb.to) (hm:=hm)⟩
theorem wc (ho:OpQ X (compareOp op) f)(ha:JE X a ta)(hb:JE X b tb)(hm:behindInMarks op b=false):JT X (.Compare a [op] [b] pos) (Zo (dOp f ta tb)):=⟨SV (ho:=ho) (ha:=ha.to) (hb:=hb.to) (hm:=hm)⟩
theorem Eg {op':CmpOp}(ho:OpQ X (compareOp op) r)(ho':OpQ X (compareOp op') r')(ha:JE X a ta)(hb:JE X b tb)(hc:JE X c tc)(hm:lastMarks [op,op'] [b,c]=false:=by with_unfolding_all rfl):JE X (.Compare a [op,op'] [b,c] pos) (ZW r r' ta tb tc):=⟨Ay (ho:=ho) (ho':=ho') (ha:=ha.to) (hb:=hb.to) (hc:=hc.to) (hm:=hm)⟩
theorem FR {op':CmpOp}(ho:OpQ X (compareOp op) r)(ho':OpQ X (compareOp op') r')(ha:JE X a ta)(hb:JE X b tb)(hc:JE X c tc)(hm:lastMarks [op,op'] [b,c]=false:=by with_unfolding_all rfl):JT X (.Compare a [op,op'] [b,c] pos) (Zo (ZW r r' ta tb tc)):=⟨Fn (ho:=ho) (ho':=ho') (ha:=ha.to) (hb:=hb.to) (hc:=hc.to) (hm:=hm)⟩
theorem yC (ha:JE X a ta)(he: ∀whole,isTrue a X.env whole=(do let v <-whole;standAt a.pos;holding [v] (truthy v)):=by intro _;rfl):JT X a (Zo ta):=⟨SW (ha:=ha.to) (he:=he)⟩
theorem FS (ha:JT X a tt):JW X (.BoolOp .And [a] pos) tt:=⟨SX (ha:=ha.to)⟩
theorem Oi (ha:JT X a tt):JW X (.BoolOp .Or [a] pos) tt:=⟨HM (ha:=ha.to)⟩
theorem FT (ha:JT X a tt)(hb:JW X (.BoolOp .And (b::rest) pos) tu):JW X (.BoolOp .And (a::b::rest) pos) (Fk tt tu):=⟨SY (ha:=ha.to) (hb:=hb.to)⟩
theorem Oj (ha:JT X a tt)(hb:JW X (.BoolOp .Or (b::rest) pos) tu):JW X (.BoolOp .Or (a::b::rest) pos) (Ao tt tu):=⟨HN (ha:=ha.to) (hb:=hb.to)⟩
theorem Jx (ha:JT X a tt):JT X (.UnaryOp .Not a pos) (DP tt):=⟨SZ (ha:=ha.to)⟩
theorem Rk {op:BoolOp}(ha:JE X a ta):JE X (.BoolOp op [a] pos) ta:=⟨HP (ha:=ha.to)⟩
theorem Cl (ha:JE X a ta)(hb:JE X (.BoolOp .And (b::rest) pos) tb):JE X (.BoolOp .And (a::b::rest) pos) (Nv ta tb):=⟨HQ (ha:=ha.to) (hb:=hb.to)⟩
theorem jor (ha:JE X a ta)(hb:JE X (.BoolOp .Or (b::rest) pos) tb):JE X (.BoolOp .Or (a::b::rest) pos) (SQ ta tb):=⟨qor (ha:=ha.to) (hb:=hb.to)⟩
theorem Ki (ha:JE X a ta):JE X (.UnaryOp .Not a pos) (Nw ta):=⟨HR (ha:=ha.to)⟩
theorem jc:JA X [] Uj:=⟨Az⟩
theorem Eh {k:Nat}(h:JA X es t):JE X (.Tuple es k pos) (SO t):=⟨HS (h:=h.to)⟩
theorem Gt (h:JA X es t):JE X (.List es pos) (An t):=⟨HU (h:=h.to)⟩
end
section
variable {X:Cx}{st:Stmt}{sts:List Stmt}{t u:TSD}{e:Expr}{te:TED}{pos:Pos}
theorem ze:JSs X [] Pl:=⟨AF⟩
theorem je (h1:JS X st t)(h2:JSs X sts u):JSs X (st::sts) (MR t u):=⟨Fv (h1:=h1.to) (h2:=h2.to)⟩
theorem jg (h1:JS X st t):JSs X [st] t:=⟨AG (h1:=h1.to)⟩
theorem Jy (he:JE X e te)(hs:swapsWith e none pos.line X.env=pure false:=by rfl):JS X (.Expr e pos) (Fp te):=⟨Td (he:=he.to) (hs:=hs)⟩
theorem wM (he:JE X e te):JS X (.Return (some e) pos) (DR te):=⟨HV (he:=he.to)⟩
theorem ZD {c:Expr}{a b:List Stmt}{tc:TTD}(hc:JT X c tc)(ha:JSs X a t)(hb:JSs X b u):JS X (.If c a b pos) (Fq tc t u):=⟨HW (hc:=hc.to) (ha:=ha.to) (hb:=hb.to)⟩
variable {i:Nat}{x:Str}
theorem yY {pos':Pos}(hN:X.N.Nodup)(hi:X.N[i]? =some x)(hx:Loc X.env.scope x)(he:JE X e te)(hs:swapsWith e (some (.Name x pos')) pos.line X.env=pure false:=by rfl)(hf:X.fn x=true\/X.env.scope.names.lookup x=some .local:=by first|exact .inl rfl|exact .inr rfl|assumption):JS X (.Assign [.Name x pos'] e pos) (Fr i te):=⟨HX (hN:=hN) (hi:=hi) (hx:=hx) (he:=he.to) (hs:=hs) (hf:=hf)⟩
theorem wG (hN:X.N.Nodup)(hi:X.N[i]? =some x)(hx:Loc X.env.scope x)(hf:X.fn x=true\/X.env.scope.names.lookup x=some .local:=by first|exact .inl rfl|exact .inr rfl|assumption):JG X (.Name x pos) (gN i):=⟨Fw (hN:=hN) (hi:=hi) (hx:=hx) (hf:=hf)⟩
theorem Ei {j:Nat}{y:Str}{p1 p2:Pos}{k:Nat}(hc:X.calm=true)(hN:X.N.Nodup)(hi:X.N[i]? =some x)(hj:X.N[j]? =some y)(hx:Loc X.env.scope x)(hy:Loc X.env.scope y)(hf:X.fn x=true\/X.env.scope.names.lookup x=some .local:=by first|exact .inl rfl|exact .inr rfl|assumption)(hf2:X.fn y=true\/X.env.scope.names.lookup y=some .local:=by first|exact .inl rfl|exact .inr rfl|assumption):JG X (.Tuple [.Name x p1,.Name y p2] k pos) (gT2 i j):=⟨AH (hc:=hc) (hN:=hN) (hi:=hi) (hj:=hj) (hx:=hx) (hy:=hy) (hf:=hf) (hf2:=hf2)⟩
theorem Sd {tg:Expr}{g:TGD}(he:JE X e te)(hg:JG X tg g)(hs:swapsWithSole [tg] e pos.line X.env=pure false:=by rfl)(hsw:swappedStores [tg] e X.env=pure none:=by rfl)(h1:(assignEach [tg] X.env).map (·.2)= [assign tg X.env]:=by rfl):JS X (.Assign [tg] e pos) (Ta te g):=⟨HY (he:=he.to) (hg:=hg.to) (hs:=hs) (hsw:=hsw) (h1:=h1)⟩
theorem Hn {j:Nat}{y:Str}{a b:Expr}{ta:TAD}{px py pt:Pos}{kt k2 pt2}(hc:X.calm=true)(hN:X.N.Nodup)(hi:X.N[i]? =some x)(hj:X.N[j]? =some y)(hij:i≠j)(hx:X.env.scope.names.lookup x=some .local)(hy:X.env.scope.names.lookup y=some .local)(ha:JA X [a,b] ta)(hw:swappedStores [.Tuple [.Name x px,.Name y py] kt pt] (.Tuple [a,b] k2 pt2) X.env=pure (some [x,y]))(hs:swapsWithSole [.Tuple [.Name x px,.Name y py] kt pt] (.Tuple [a,b] k2 pt2) pos.line X.env=pure false:=by rfl):JS X (.Assign [.Tuple [.Name x px,.Name y py] kt pt] (.Tuple [a,b] k2 pt2) pos) (Tb i j ta):=⟨HZ (hc:=hc) (hN:=hN) (hi:=hi) (hj:=hj) (hij:=hij) (hx:=hx) (hy:=hy) (ha:=ha.to) (hw:=hw) (hs:=hs)⟩
end
section
variable {X:Cx}{tg e iter elt:Expr}{te:TED}{ti:TID}{g:TGD}{tb:TSD}{tt:TTD}{pos:Pos}{ta:TAD}{scope:Scope}{js:List Nat}{ifs:List Expr}
theorem FU (he:JE X e te):JI X tg e (iL te):=⟨FA (he:=he.to)⟩
theorem Jz {p:Pos}{a:Expr}(hg:Gl X "range")(hm:X.mg "range" =none)(ha:JA X [a] ta)(hs:starEach [a] X.env= [(false,eval a X.env)]:=by rfl):JI X tg (.Call (.Name "range" p) [a] [] pos) (iR1 ta):=⟨Tg (hg:=hg) (hm:=hm) (ha:=ha.to) (hs:=hs)⟩
theorem MS {body:List Stmt}(hp:PassesOwn (model X.prog X.w) X.A X.env X.xe)(hc:X.calm=true)(hi:JI X tg iter ti)(hg:JG X tg g)(hb:JSs X body tb)(hs: ∀x,foldedSetIterable iter X.env x=pure x:=by intro _;rfl):JS X (.For tg iter body [] pos) (AI ti g tb):=⟨Ka (hp:=hp) (hc:=hc) (hi:=hi.to) (hg:=hg.to) (hb:=hb.to) (hs:=hs)⟩
theorem zc:PTs X [] (LT X.K WS):=FB
theorem JB {c:Expr}(hc:JT X c tt):PTs X [c] (LT X.K tt):=FC (hc:=hc.to)
theorem jlc {i:Nat}{x:Str}{p:Pos}(hc:X.calm=true)(S:BlockOk X scope js)(hi:JI X (.Name x p) iter ti)(hj:i∈js)(hN:X.N.Nodup)(hx:X.N[i]? =some x)(hl:scope.names.lookup x=some .local\/scope.names.lookup x=some .cell)(ht: ∀X',jk X scope X'->PTs X' ifs (LT X'.K tt))(he: ∀X',jk X scope X'->JE X' elt te)(hs: ∀x,foldedSetIterable iter X.env x=pure x:=by intro _;rfl):JE X (.ListComp elt [⟨.Name x p,iter,ifs,0⟩] scope pos) (vb (bN i) js ti tt te):=⟨qlc (hc:=hc) (S:=S) (hi:=hi.to) (hj:=hj) (hN:=hN) (hx:=hx) (hl:=hl) (ht:=ht) (he:=λX' hX=>(he X' hX).to) (hs:=hs)⟩
theorem Ho {i j:Nat}{x y:Str}{p1 p2 p3:Pos}{k:Nat}(hc:X.calm=true)(S:BlockOk X scope js)(hi:JI X (.Tuple [.Name x p1,.Name y p2] k p3) iter ti)(hj:i∈js)(hj2:j∈js)(hij:i≠j)(hN:X.N.Nodup)(hx:X.N[i]? =some x)(hy:X.N[j]? =some y)(hl:scope.names.lookup x=some .local\/scope.names.lookup x=some .cell)(hl2:scope.names.lookup y=some .local\/scope.names.lookup y=some .cell)(ht: ∀X',jk X scope X'->PTs X' ifs (LT X'.K tt))(he: ∀X',jk X scope X'->JE X' elt te)(hs: ∀x,foldedSetIterable iter X.env x=pure x:=by intro _;rfl):JE X (.ListComp elt [⟨.Tuple [.Name x p1,.Name y p2] k p3,iter,ifs,0⟩] scope pos) (vb (b2 i j) js ti tt te):=⟨Kb (hc:=hc) (S:=S) (hi:=hi.to) (hj:=hj) (hj2:=hj2) (hij:=hij) (hN:=hN) (hx:=hx) (hy:=hy) (hl:=hl) (hl2:=hl2) (ht:=ht) (he:=λX' hX=>(he X' hX).to) (hs:=hs)⟩
end
section
variable {X:Cx}{k:Nat}{f:Addr}{fd:FuncData}{ps:List Str}{spd:RDn}{x:Str}{p pos:Pos}{e:Expr}{es:List Expr}{t:TAD}
theorem jB (F:FnOk X.prog X.w X.K X.mg X.base CX0 k f fd ps (LSp X.K spd))(hr:Room k X.A)(hg:Gl X x)(hm:X.mg x=some (.ref f))(hk:PySem.W.keepIn X.K (.ref f)=true)(hb:Binds X.K fd ps [])(ha:JA X (e::es) t)(hdb:(x==("__debug__" :Str))=false:=by decide)(he:starEach (e::es) X.env=(false,eval e X.env)::starEach es X.env:=by rfl)(hpl:(backTo pos (starEach es X.env)).any (·.1)=false:=by rfl):JE X (.Call (.Name x p) (e::es) [] pos) (dCB spd t):=⟨Th (F:=F) (hr:=hr) (hg:=hg) (hm:=hm) (hk:=hk) (hb:=hb) (ha:=ha.to) (hdb:=hdb) (he:=he) (hpl:=hpl)⟩
theorem jJ {id:String}{r:RDn}(hc:Jb X (.builtin id) r)(hg:Gl X x)(hm:X.mg x=none)(hv:bootBuiltins x=some (.builtin id))(ha:JA X (e::es) t)(hn:x≠ "__name__" :=by decide)(hdb:(x==("__debug__" :Str))=false:=by decide)(he:starEach (e::es) X.env=(false,eval e X.env)::starEach es X.env:=by rfl)(hpl:(backTo pos (starEach es X.env)).any (·.1)=false:=by rfl):JE X (.Call (.Name x p) (e::es) [] pos) (dCB r t):=⟨AM (hc:=hc) (hg:=hg) (hm:=hm) (hv:=hv) (ha:=ha.to) (hn:=hn) (hdb:=hdb) (he:=he) (hpl:=hpl)⟩
theorem wH {T:String}{r:RDn}(hc:Jb X (.type T) r)(hg:Gl X x)(hm:X.mg x=none)(hv:bootBuiltins x=some (.type T))(ha:JA X (e::es) t)(hn:x≠ "__name__" :=by decide)(hdb:(x==("__debug__" :Str))=false:=by decide)(he:starEach (e::es) X.env=(false,eval e X.env)::starEach es X.env:=by rfl)(hpl:(backTo pos (starEach es X.env)).any (·.1)=false:=by rfl):JE X (.Call (.Name x p) (e::es) [] pos) (dCB r t):=⟨FE (hc:=hc) (hg:=hg) (hm:=hm) (hv:=hv) (ha:=ha.to) (hn:=hn) (hdb:=hdb) (he:=he) (hpl:=hpl)⟩
end
section
variable {X:Cx}{iter elt:Expr}{te:TED}{ti:TID}{tt:TTD}{pos spos:Pos}{scope:Scope}{js:List Nat}{ifs:List Expr}
theorem Cm {i k:Nat}{x y:Str}{p py:Pos}(hc:X.calm=true)(hN:X.N.Nodup)(hk:X.N[k]? =some y)(hy:Loc X.env.scope y)(S:BlockOk X scope js)(hi:JI X (.Name x p) iter ti)(hj:i∈js)(hx:X.N[i]? =some x)(hl:scope.names.lookup x=some .local\/scope.names.lookup x=some .cell)(ht: ∀X',jk X scope X'->PTs X' ifs (LT X'.K tt))(he: ∀X',jk X scope X'->JE X' elt te)(hsw:swapsWith (.ListComp elt [⟨.Name x p,iter,ifs,0⟩] scope pos) (some (.Name y py)) spos.line X.env=pure true:=by rfl)(hf:X.fn y=true\/X.env.scope.names.lookup y=some .local:=by first|exact .inl rfl|exact .inr rfl|assumption)(hs: ∀x,foldedSetIterable iter X.env x=pure x:=by intro _;rfl):JS X (.Assign [.Name y py] (.ListComp elt [⟨.Name x p,iter,ifs,0⟩] scope pos) spos) (Fr k (vb (bN i) js ti tt te)):=⟨AN (hc:=hc) (hN:=hN) (hk:=hk) (hy:=hy) (S:=S) (hi:=hi.to) (hj:=hj) (hx:=hx) (hl:=hl) (ht:=ht) (he:=λX' hX=>(he X' hX).to) (hsw:=hsw) (hf:=hf) (hs:=hs)⟩
end
section
variable {X:Cx}{iter iter' elt:Expr}{te:TED}{ti ti':TID}{tt tt':TTD}{pos:Pos}{scope:Scope}{js:List Nat}{ifs ifs':List Expr}
theorem Kj {i i':Nat}{x y:Str}{p py:Pos}(hc:X.calm=true)(S:BlockOk X scope js)(hi:JI X (.Name x p) iter ti)(hj:i∈js)(hj':i'∈js)(hne:i≠i')(hN:X.N.Nodup)(hx:X.N[i]? =some x)(hy:X.N[i']? =some y)(hl:scope.names.lookup x=some .local\/scope.names.lookup x=some .cell)(hl':scope.names.lookup y=some .local\/scope.names.lookup y=some .cell)(ht: ∀X',jk X scope X'->PTs X' ifs (LT X'.K tt))(hi': ∀X',jk X scope X'->JI X' (.Name y py) iter' ti')(ht': ∀X',jk X scope X'->PTs X' ifs' (LT X'.K tt'))(he: ∀X',jk X scope X'->JE X' elt te)(hs: ∀x,foldedSetIterable iter X.env x=pure x:=by intro _;rfl)(hs': ∀env x,foldedSetIterable iter' env x=pure x:=by intro _ _;rfl):JE X (.ListComp elt [⟨.Name x p,iter,ifs,0⟩,⟨.Name y py,iter',ifs',0⟩] scope pos) (FF (bN i) js ti tt i' ti' tt' te):=⟨Kc (hc:=hc) (S:=S) (hi:=hi.to) (hj:=hj) (hj':=hj') (hne:=hne) (hN:=hN) (hx:=hx) (hy:=hy) (hl:=hl) (hl':=hl') (ht:=ht) (hi':=λX' hX=>(hi' X' hX).to) (ht':=ht') (he:=λX' hX=>(he X' hX).to) (hs:=hs) (hs':=hs')⟩
end
section
variable {X:Cx}{a b e:Expr}{ta tb te:TED}{pos p2:Pos}
theorem jix (ha:JE X a ta)(hb:JE X b tb)(hs:XH b):JE X (.Subscript a b pos) (dOp ixD ta tb):=⟨qix (ha:=ha.to) (hb:=hb.to) (hs:=hs)⟩
end
variable {X:Cx}
theorem XR {a:Expr}{ta:TED}{T:String}{t:Str}{p p2 pos:Pos}(hT:T∈ ["tuple","int","bool","list","str"])(hg:Gl X "isinstance")(hm:X.mg "isinstance" =none)(hg2:Gl X t)(hm2:X.mg t=none)(hv:bootBuiltins t=some (.type T))(ha:JE X a ta)(hn:t≠ "__name__" :=by decide)(hd:(t==("__debug__" :Str))=false:=by decide)(h1:starEach [a,.Name t p2] X.env=(false,eval a X.env)::starEach [.Name t p2] X.env:=by rfl)(h2:(backTo pos (starEach [.Name t p2] X.env)).any (·.1)=false:=by rfl):JE X (.Call (.Name "isinstance" p) [a,.Name t p2] [] pos) (dIs T ta):=⟨Tp (hT:=hT) (hg:=hg) (hm:=hm) (hg2:=hg2) (hm2:=hm2) (hv:=hv) (ha:=ha.to) (hn:=hn) (hd:=hd) (h1:=h1) (h2:=h2)⟩
section
variable {X:Cx}{o e i:Expr}{to te ti:TED}{apos cpos pos:Pos}
theorem Se (ho:JE X o to)(he:JE X e te)(hbase:attributeBase o "append" X.env (eval o X.env)=eval o X.env:=by rfl)(hfew:((backTo cpos (starEach [e] X.env)).all (λx=> !x.1)&&(backToKw cpos (keywordEach [] X.env)).all (λx=>x.1.isSome)&&decide ([e].length+([]:List Keyword).length+(if ([]:List Keyword).isEmpty then 0 else 1)<30))=true:=by rfl)(hline:(apos.endLine==cpos.line)=true:=by rfl)(hs:starEach [e] X.env=(false,eval e X.env)::starEach [] X.env:=by rfl)(hplain:(backTo cpos (starEach [] X.env)).any (·.1)=false:=by rfl):JE X (.Call (.Attribute o "append" apos) [e] [] cpos) (Hk to te):=⟨Kf (ho:=ho.to) (he:=he.to) (hbase:=hbase) (hfew:=hfew) (hline:=hline) (hs:=hs) (hplain:=hplain)⟩
theorem Rl (ho:JE X o to)(hi:JE X i ti)(ha: ∀v,assign (.Subscript o i pos) X.env v=(do
 let ov <-holding [v] (eval o X.env)
 let iv <-holding [v,ov] (eval i X.env)
 standAt pos
 holding [v,ov,iv] (setItem ov iv v)
 release [v,ov,iv] []):=by intro _;rfl):JG X (.Subscript o i pos) (AU to ti):=⟨AV (ho:=ho.to) (hi:=hi.to) (ha:=ha)⟩
end
theorem jpt {e:Expr}{t:TTD}(h:JW X e t):JT X e t:=⟨qpt (h:=h.to)⟩
theorem Rm:JO X none Re:=⟨FN⟩
variable {te:TED}
theorem Vb {e:Expr}(he:JE X e te):JO X (some e) (AW te):=⟨FO (he:=he.to)⟩
theorem Rn {e:Expr}{lo hi:Option Expr}{tl th:TOD}{pos p2:Pos}(he:JE X e te)(hl:JO X lo tl)(hu:JO X hi th):JE X (.Subscript e (.Slice lo hi none p2) pos) (dSl te tl th):=⟨AX (he:=he.to) (hl:=hl.to) (hu:=hu.to)⟩
theorem Tt {a:Expr}{ta:TED}{pos:Pos}(ha:JE X a ta):JE X (.UnaryOp .USub a pos) (dUn Hm ta):=⟨Kh (ha:=ha.to)⟩
theorem zQ {tg e:Expr}(he:JE X e te):JI X tg e (iS te):=⟨Eb (he:=he.to)⟩
theorem Ys {st:Stmt}:JS X st Cj:=⟨Ec⟩
theorem jac {e:Expr}{es:List Expr}{t:TAD}(ha:JE X e te)(hr:JA X es t)(h:XN e=true:=by rfl):JA X (e::es) (yu te t):=⟨qac (ha:=ha.to) (hr:=hr.to) (h:=h)⟩
section
variable {P:Program}{w:World}{K:PySem.W.Frag}{mg:Str->Option Value}{base:Heap}
theorem Fun.okJ {x qual:Str}{st:Stmt}{f:Addr}{fd:FuncData}{N ps:List Str}{k:Nat}{spd:RDn}(F:Fun K x qual st f fd)(S:FnScope N ps (jf st))(len: ∀ds h Q,spd ds h Q->ds.length=ps.length)
 (tb:TSD)(hbody: ∀ (cdv:Value) (A:Around) (outer:List Env) (s:Shared) (H:Hp) (E:XK),Room k (A.deeper (envOfC qual (jf st) s.heap.objs.size f cdv))->JSs (BZ CX0 P w K mg base N qual (jf st) f cdv A outer s H E).nox (wo st) tb)
 (read: ∀ds h Q,spd ds h Q->tb (Nz Q) (yo N ds) h):FnOk P w K mg base CX0 (k+1) f fd ps (LSp K spd):=F.okD S len tb (λcdv A outer s H E hr=>(hbody cdv A outer s H E hr).to) read
end
def Up (r:List Int):D:= .tup (r.map D.int)
def jY (T:List (List Int)):D:= .tup (T.map Up)
def XS (n:Nat)(r:List Int):Prop:=r.length=n/\ ∀x∈r,0<=x/\x<=1000000
def GoodTab (n:Nat)(T:List (List Int)):Prop:=T.length=n/\ ∀r∈T,XS n r
structure Sq (n e:Nat)(T:List (List Int)):Prop where
 len:T.length=n
 row: ∀r∈T,r.length=n
 nn: ∀r∈T,∀x∈r,0<=x
 bit: ∀r∈T,∀x∈r,x<2^e
variable {n:Nat}{T:List (List Int)}
theorem GoodTab.sq (g:GoodTab n T):Sq n 20 T:=⟨g.1,λr hr=>(g.2 r hr).1,λr hr x hx=>((g.2 r hr).2 x hx).1,λr hr x hx=>Int.lt_of_le_of_lt ((g.2 r hr).2 x hx).2 (by decide)⟩
variable {e:Nat}
theorem Sq.mono {f:Nat}(h:Sq n e T)(l:e<=f):Sq n f T:=⟨h.len,h.row,h.nn,λr hr x hx=>Int.lt_of_lt_of_le (h.bit r hr x hx) (by
 have:(2:Nat)^e<=2^f:=W9 (by decide) l;have h2:((2^e:Nat):Int)<=((2^f:Nat):Int):=by exact_mod_cast this
 simpa using h2)⟩
def ent (T:List (List Int))(i j:Nat):Int:=(T.getD i []).getD j 0
def mkT (n:Nat)(f:Nat->Nat->Int):List (List Int):=(List.range n).map λi=>(List.range n).map λj=>f i j
theorem Yt {i j:Nat}{f:Nat->Nat->Int}(hi:i<n)(hj:j<n):ent (mkT n f) i j=f i j:=by
 unfold ent mkT;simp [P2,hi,hj]
theorem Je {α:Type}(xs:List α)(d:α):xs=(List.range xs.length).map λi=>xs.getD i d:=by
 apply G0t (by simp);intro i h1 h2;simp [P2,h1]
theorem Sq.eq_mk (h:Sq n e T):T=mkT n (ent T):=by
 have h1:=Je T [];rw [h.len] at h1;unfold mkT
 conv=>lhs;rw [h1]
 apply S9;intro i hi;have hi':i<T.length:=by rw [h.len];exact D1.mp hi
 have hr:(T.getD i []).length=n:=by
  rw [P2,G0 hi'];exact h.row _ (D4 hi')
 have h2:=Je (T.getD i []) 0;rw [hr] at h2;exact h2
theorem NG {f g:Nat->Nat->Int}(h: ∀i j,i<n->j<n->f i j=g i j):mkT n f=mkT n g:=by
 unfold mkT;apply S9;intro i hi;apply S9;intro j hj;exact h i j (D1.mp hi) (D1.mp hj)
theorem Sq.of_mk {f:Nat->Nat->Int}(h0: ∀i j,i<n->j<n->0<=f i j)(h1: ∀i j,i<n->j<n->f i j<2^e):Sq n e (mkT n f):=by
 have key: ∀r∈mkT n f,∃i,i<n/\r=(List.range n).map λj=>f i j:=λr hr=>by
  obtain⟨i,hi,e⟩:=P9.mp hr;exact⟨i,D1.mp hi,e.symm⟩
 refine⟨by simp [mkT],λr hr=> ?_,λr hr x hx=> ?_,λr hr x hx=> ?_⟩
 ·obtain⟨i,_,e⟩:=key r hr;rw [e];simp
 ·obtain⟨i,hi,e⟩:=key r hr;rw [e] at hx;obtain⟨j,hj,e2⟩:=P9.mp hx;rw [<-e2];exact h0 i j hi (D1.mp hj)
 ·obtain⟨i,hi,e⟩:=key r hr;rw [e] at hx;obtain⟨j,hj,e2⟩:=P9.mp hx;rw [<-e2];exact h1 i j hi (D1.mp hj)
theorem Sq.ent_nn (h:Sq n e T){i j:Nat}(hi:i<n)(hj:j<n):0<=ent T i j/\ent T i j<2^e:=by
 have hi':i<T.length:=by rw [h.len];exact hi
 have hr:T.getD i []=T[i]:=by rw [P2,G0 hi'];rfl
 have hm:T[i]∈T:=D4 hi';have hj':j<T[i].length:=by rw [h.row _ hm];exact hj
 have he:ent T i j=T[i][j]:=by unfold ent;rw [hr,List.getD_eq_getElem?_getD,List.getElem?_eq_getElem hj'];rfl
 rw [he];exact⟨h.nn _ hm _ (D4 hj'),h.bit _ hm _ (D4 hj')⟩
variable {U:List (List Int)}
theorem Sq.ext {f:Nat}(h:Sq n e T)(g:Sq n f U)(k: ∀i j,i<n->j<n->ent T i j=ent U i j):T=U:=by
 rw [h.eq_mk,g.eq_mk];exact NG k
def zn (n:Nat)(f:Nat->Int):Int:=((List.range n).map f).sum
theorem wR (f:Nat->Int):zn 0 f=0:=rfl
theorem jO (n:Nat)(f:Nat->Int):zn (n+1) f=zn n f+f n:=by
 unfold zn;rw [List.range_succ,List.map_append,List.sum_append];simp
variable {f:Nat->Int}
theorem zB {g:Nat->Int}(h: ∀k,k<n->f k=g k):zn n f=zn n g:=by
 unfold zn;congr 1;apply List.map_congr_left;intro k hk;exact h k (List.mem_range.mp hk)
theorem Vc (h: ∀k,k<n->0<=f k):0<=zn n f:=by
 induction n with
 |zero=>exact Int.le_refl _
 |succ n ih=>rw [jO];have:=ih λk hk=>h k (by omega);have:=h n (by omega);omega
theorem NH {b:Int}(h: ∀k,k<n->f k<=b):zn n f<=n*b:=by
 induction n with
 |zero=>simp [wR]
 |succ n ih=>
  rw [jO];have h1:=ih λk hk=>h k (by omega);have h2:=h n (by omega)
  have:((n+1:Nat):Int)*b=(n:Int)*b+b:=by rw [Int.natCast_add,Int.add_mul];simp
  omega
theorem Ro (n:Nat)(f g:Nat->Int):zn n (λk=>f k+g k)=zn n f+zn n g:=by
 induction n with
 |zero=>rfl
 |succ n ih=>rw [jO,jO,jO,ih];omega
theorem Wa (n:Nat)(c:Int)(f:Nat->Int):zn n (λk=>c*f k)=c*zn n f:=by
 induction n with
 |zero=>simp [wR]
 |succ n ih=>rw [jO,jO,ih,Int.mul_add]
theorem Pp (n:Nat)(c:Int)(f:Nat->Int):zn n (λk=>f k*c)=zn n f*c:=by
 rw [G00,<-Wa];exact zB λk _=>G00 _ _
theorem Pq (m n:Nat)(f:Nat->Nat->Int):zn m (λi=>zn n (f i))=zn n (λj=>zn m λi=>f i j):=by
 induction m with
 |zero=>
  rw [wR]
  induction n with
  |zero=>rfl
  |succ n ih=>rw [jO,<-ih,wR];rfl
 |succ m ih=>
  rw [jO,ih,<-Ro];exact zB λj _=>(jO m λi=>f i j).symm
theorem Uq {i:Nat}(hi:i<n)(h: ∀k,k<n->k≠i->f k=0):zn n f=f i:=by
 induction n with
 |zero=>omega
 |succ n ih=>
  rw [jO]
  by_cases e:i=n
  ·subst e;have:zn i f=0:=by
    have:zn i f=zn i (λ_=>0*1):=zB λk hk=>by rw [h k (by omega) (by omega)];rfl
    rw [this,Wa];simp
   omega
  ·rw [ih (by omega) λk hk hne=>h k (by omega) hne,h n (by omega) (by omega)];omega
theorem Rp (h: ∀k,k<n->0<=f k):0<zn n f↔ ∃k,k<n/\0<f k:=by
 induction n with
 |zero=>simp [wR]
 |succ n ih=>
  rw [jO];have h1:=Vc λk (hk:k<n)=>h k (by omega)
  have h2:=h n (by omega);have ih':=ih λk hk=>h k (by omega)
  constructor
  ·intro z
   by_cases q:0<f n
   ·exact⟨n,by omega,q⟩
   ·obtain⟨k,a,b⟩:=ih'.mp (by omega);exact⟨k,by omega,b⟩
  ·rintro ⟨k,a,b⟩
   by_cases q:k=n
   ·subst q;omega
   ·have:=ih'.mpr ⟨k,by omega,b⟩;omega
def XB (n:Nat)(T U:List (List Int)):List (List Int):=mkT n λi j=>zn n λk=>ent T i k*ent U k j
theorem Sq.mul {f:Nat}(h:Sq n e T)(g:Sq n f U)(hn:n<=8):Sq n (e+f+3) (XB n T U):=by
 have nn: ∀i j,i<n->j<n-> ∀k,k<n->0<=ent T i k*ent U k j:=λi j hi hj k hk=>Int.mul_nonneg (h.ent_nn hi hk).1 (g.ent_nn hk hj).1
 refine Sq.of_mk (λi j hi hj=>Vc (nn i j hi hj)) λi j hi hj=> ?_
 have hle: ∀k,k<n->ent T i k*ent U k j<=2^e*2^f-1:=λk hk=>by
  have a:=h.ent_nn hi hk;have b:=g.ent_nn hk hj;have:ent T i k*ent U k j<2^e*2^f:=by
   have p:(0:Int)<2^f:=G04 (by decide)
   calc ent T i k*ent U k j<=ent T i k*2^f:=Int.mul_le_mul_of_nonneg_left (Int.le_of_lt b.2) a.1
    _<2^e*2^f:=Int.mul_lt_mul_of_pos_right a.2 p
  omega
 have s:=NH hle;have p:(0:Int)<2^e*2^f:=Int.mul_pos (G04 (by decide)) (G04 (by decide));have e1:(2:Int)^(e+f+3)=8*(2^e*2^f):=by rw [Int.pow_add,Int.pow_add];rw [G00];rfl
 rw [e1];have hn':(n:Int)<=8:=by omega
 have:(n:Int)*(2^e*2^f-1)<=8*(2^e*2^f-1):=Int.mul_le_mul_of_nonneg_right hn' (by omega);omega
theorem vp {i j:Nat}(hi:i<n)(hj:j<n):ent (XB n T U) i j=zn n λk=>ent T i k*ent U k j:=Yt hi hj
def Rq (n:Nat):List (List Int):=mkT n λi j=>if i=j then 1 else 0
theorem Sq.one (n:Nat):Sq n 1 (Rq n):=Sq.of_mk (f:=λi j=>if i=j then 1 else 0) (λi j _ _=>by split<;>decide) λi j _ _=>by split<;>decide
theorem mul_assoc {f g:Nat}{V:List (List Int)}(hT:Sq n e T)(hU:Sq n f U)(hV:Sq n g V)(hn:n<=8):XB n (XB n T U) V=XB n T (XB n U V):=by
 refine((hT.mul hU hn).mul hV hn).ext (hT.mul (hU.mul hV hn) hn) λi j hi hj=> ?_
 rw [vp hi hj,vp hi hj];have e1:(zn n λk=>ent (XB n T U) i k*ent V k j)=zn n λk=>zn n λl=>ent T i l*ent U l k*ent V k j:=
  zB λk hk=>by rw [vp hi hk,<-Pp]
 have e2:(zn n λl=>ent T i l*ent (XB n U V) l j)=zn n λl=>zn n λk=>ent T i l*(ent U l k*ent V k j):=
  zB λl hl=>by rw [vp hl hj,<-Wa]
 rw [e1,e2,Pq];exact zB λl _=>zB λk _=>Int.mul_assoc _ _ _
theorem NI (hT:Sq n e T)(hn:n<=8):XB n (Rq n) T=T:=by
 refine((Sq.one n).mul hT hn).ext hT λi j hi hj=> ?_
 rw [vp hi hj,Uq hi λk hk hne=>by rw [Rq,Yt hi hk,if_neg (Ne.symm hne)];simp];rw [Rq,Yt hi hi,if_pos rfl];simp
theorem NJ (hT:Sq n e T)(hn:n<=8):XB n T (Rq n)=T:=by
 refine(hT.mul (Sq.one n) hn).ext hT λi j hi hj=> ?_
 rw [vp hi hj,Uq hj λk hk hne=>by rw [Rq,Yt hk hj,if_neg hne];simp];rw [Rq,Yt hj hj,if_pos rfl];simp
def Dc (n:Nat)(T:List (List Int)):Nat->List (List Int)
 |0=>Rq n
 |k+1=>XB n (Dc n T k) T
theorem Sq.pow (hT:Sq n e T)(hn:n<=8): ∀k,Sq n (k*(e+3)+1) (Dc n T k)
 |0=>(Sq.one n).mono (by omega)
 |k+1=>((Sq.pow hT hn k).mul hT hn).mono (by rw [G0B];omega)
theorem Rr {x:Int}(h0:0<=x)(h1:x<2^e):x.natAbs<2^e:=by
 have:((2^e:Nat):Int)=2^e:=by simp
 omega
section
variable {α β:Type}{i i':Nat}{js:List Nat}{ti ti':TID}{te:TED}{σ:SD}{h:HD}{Q:KD}{j:ItD}
theorem lcA (xs:List α)(c g:α->D)(hz:xs.length<=1000)(hj:j h=some (xs.map c))(ht: ∀R:ItD->HD->Prop,R j h->ti σ h R)
 (he: ∀x∈xs,∀Q':KD,Q' (g x) h->te ((jP js σ).set i (some (c x))) h Q')(hq: ∀p,h p=none->Q (.lst p) (zY h p (xs.map g))):vb (bN i) js ti WS te σ h Q:=by
 refine ht _ ⟨xs.length,λk ys h'=>h'=h/\ys=(xs.take k).map g,⟨rfl,by simp⟩,?_⟩;rintro k ys h' ⟨rfl,rfl⟩;refine⟨by simp only [G1,R1];exact D8 (jA (by omega)),xs.map c,hj,by simp,λhl p hp=> ?_,λd hd=>⟨_,rfl,?_⟩⟩
 ·rw [R5 (by simpa using hl)];exact hq p hp
 ·unfold WS;dsimp only;rw [if_pos rfl];rw [P3] at hd;cases hx:xs[k]? with
  |none=>rw [hx] at hd;cases hd
  |some x=>
   rw [hx] at hd;cases hd;refine he x (G6 hx) _ ⟨h',Sub.refl _,rfl,?_⟩;rw [M0,hx];simp
theorem lcF (xs:List α)(c g:α->D)(p:α->Bool){tt:TTD}(hz:xs.length<=1000)(hj:j h=some (xs.map c))(ht: ∀R:ItD->HD->Prop,R j h->ti σ h R)
 (hp: ∀x∈xs,∀Q':Bool->HD->Prop,Q' (p x) h->tt ((jP js σ).set i (some (c x))) h Q')(he: ∀x∈xs,p x=true-> ∀Q':KD,Q' (g x) h->te ((jP js σ).set i (some (c x))) h Q')(hq: ∀a,h a=none->Q (.lst a) (zY h a ((xs.filter p).map g))):vb (bN i) js ti tt te σ h Q:=by
 refine ht _ ⟨xs.length,λk ys h'=>h'=h/\ys=((xs.take k).filter p).map g,⟨rfl,by simp⟩,?_⟩;rintro k ys h' ⟨rfl,rfl⟩;refine⟨?_,xs.map c,hj,by simp,λhl a ha=> ?_,λd hd=>⟨_,rfl,?_⟩⟩
 ·have:=B0 p (xs.take k);simp only [G1,R1] at this ⊢;exact D8 (jA (by omega))
 ·rw [R5 (by simpa using hl)];exact hq a ha
 ·rw [P3] at hd;cases hx:xs[k]? with
  |none=>rw [hx] at hd;cases hd
  |some x=>
   rw [hx] at hd;cases hd;refine hp x (G6 hx) _ ?_;cases hb:p x with
   |true=>
    rw [if_pos rfl];refine he x (G6 hx) hb _ ⟨h',Sub.refl _,rfl,?_⟩;rw [M0,hx];simp [hb]
   |false=>
    rw [if_neg P6];refine⟨h',Sub.refl _,rfl,?_⟩;rw [M0,hx];simp [hb]
theorem Sf (xs:List α)(c g:α->D)(hz:xs.length<=1000)(hj:j h=some (xs.map c))(ht: ∀R:ItD->HD->Prop,R j h->ti σ h R)
 (he: ∀x∈xs,∀Q':KD,Q' (g x) h->te ((jP js σ).set i (some (c x))) h Q')(hq:Q (.tup (xs.map g)) h):dCB vc (yu (vb (bN i) js ti WS te) Uj) σ h Q:=by
 show vb (bN i) js ti WS te σ h (λx h1=>vc [x] h1 Q);exact lcA xs c g hz hj ht he λp hp=>(show ∃ys,zY h p (xs.map g) p=some ys/\Q (.tup ys) (YT (zY h p (xs.map g)) p) from ⟨_,jd,by rw [zK hp];exact hq⟩)
theorem Tu (xs:List α)(c g:α->D)(p:α->Bool){tt:TTD}(hz:xs.length<=1000)(hj:j h=some (xs.map c))(ht: ∀R:ItD->HD->Prop,R j h->ti σ h R)
 (hp: ∀x∈xs,∀Q':Bool->HD->Prop,Q' (p x) h->tt ((jP js σ).set i (some (c x))) h Q')(he: ∀x∈xs,p x=true-> ∀Q':KD,Q' (g x) h->te ((jP js σ).set i (some (c x))) h Q')(hq:Q (.tup ((xs.filter p).map g)) h):dCB vc (yu (vb (bN i) js ti tt te) Uj) σ h Q:=by
 show vb (bN i) js ti tt te σ h (λx h1=>vc [x] h1 Q);exact lcF xs c g p hz hj ht hp he λa ha=>(show ∃ys,zY h a ((xs.filter p).map g) a=some ys/\Q (.tup ys) (YT (zY h a ((xs.filter p).map g)) a) from ⟨_,jd,by rw [zK ha];exact hq⟩)
theorem Hq (xs:List α)(c:α->D)(g:α->Bool)(hz:xs.length<=1000)(hj:j h=some (xs.map c))(ht: ∀R:ItD->HD->Prop,R j h->ti σ h R)
 (he: ∀x∈xs,∀Q':KD,Q' (.bl (g x)) h->te ((jP js σ).set i (some (c x))) h Q')(hq:Q (.bl (xs.all g)) h):dCB FM (yu (vb (bN i) js ti WS te) Uj) σ h Q:=by
 show vb (bN i) js ti WS te σ h (λx h1=>FM [x] h1 Q);exact lcA xs c (λx=> .bl (g x)) hz hj ht he λp hp=>⟨p,xs.map g,rfl,by rw [jd,S6];rfl,by rw [zK hp,H0];exact hq⟩
theorem Kk (xs:List α)(c:α->D)(g:α->Bool)(hz:xs.length<=1000)(hj:j h=some (xs.map c))(ht: ∀R:ItD->HD->Prop,R j h->ti σ h R)
 (he: ∀x∈xs,∀Q':KD,Q' (.bl (g x)) h->te ((jP js σ).set i (some (c x))) h Q')(hq:Q (.bl (xs.any g)) h):dCB Tq (yu (vb (bN i) js ti WS te) Uj) σ h Q:=by
 show vb (bN i) js ti WS te σ h (λx h1=>Tq [x] h1 Q);exact lcA xs c (λx=> .bl (g x)) hz hj ht he λp hp=>⟨p,xs.map g,rfl,by rw [jd,S6];rfl,by rw [zK hp,G0Z];exact hq⟩
end
end L2
namespace L2
open PySem PySem.Spec PyProof.Rows PySem.SeqAt
def jx (o:List Nat):D:= .tup (o.map λ(k:Nat)=>D.int (k:Int))
def WT (o:List Nat):List Int:=o.map λ(k:Nat)=>(k:Int)
theorem FV (o:List Nat):jx o= .tup ((WT o).map D.int):=by unfold jx WT;rw [List.map_map];rfl
theorem Wb (h:HD): ∀ns:List Int,ToPs h (ns.map D.int) (ns.map PyData.int)
 | []=>rfl
 |n::ns=>⟨_,_,rfl,rfl,Wb h ns⟩
theorem vq: ∀ns:List Int,PyData.canLayAll0 (ns.map PyData.int)=true
 | []=>rfl
 |n::ns=>by show (PyData.canLay0 (.int n)&&_)=true;rw [vq ns];rfl
theorem JC: ∀ns:List Int,PyData.depthAll (ns.map PyData.int)<=1
 | []=>by simp [PyData.depthAll]
 |n::ns=>by
  have:=JC ns;simp only [S1,PyData.depthAll,PyData.depth];omega
theorem XT (ns:List Int):shaped (.list (ns.map .int))=true:=by
 unfold shaped;have h1:PyData.canLay0 (.list (ns.map .int))=true:=by simp only [PyData.canLay0];exact vq ns
 have h2:=JC ns;have h3:PyData.depth (.list (ns.map .int))<=64:=by simp only [PyData.depth];omega
 rw [h1,P0 h3];rfl
def Cn (r:List Int):PyData:= .tuple (r.map .int)
variable {n e:Nat}{T:List (List Int)}
theorem Wc (h:Sq n e T){i:Nat}(hi:i<n):atI (T.map Up) (i:Int)=some (Up (T.getD i [])):=by
 have hi':i<T.length:=by rw [h.len];exact hi
 exact wE (by rw [P3,P2,G0 hi'];rfl)
theorem Sq.getRow (h:Sq n e T){i:Nat}(hi:i<n):T.getD i []∈T:=by
 have hi':i<T.length:=by rw [h.len];exact hi
 rw [P2,G0 hi'];exact D4 hi'
theorem Vd {r:List Int}(h:r.length=n){j:Nat}(hj:j<n):atI (r.map D.int) (j:Int)=some (.int (r.getD j 0)):=by
 have hj':j<r.length:=by rw [h];exact hj
 exact wE (by rw [P3,P2,G0 hj'];rfl)
theorem pow_add (h:Sq n e T)(hn:n<=8)(a:Nat): ∀b,Dc n T (a+b)=XB n (Dc n T a) (Dc n T b)
 |0=>by rw [show Dc n T 0=Rq n from rfl,NJ (h.pow hn a) hn];rfl
 |b+1=>by
  show XB n (Dc n T (a+b)) T=XB n (Dc n T a) (XB n (Dc n T b) T);rw [pow_add h hn a b,mul_assoc (h.pow hn a) (h.pow hn b) h hn]
theorem FW (h:Sq n e T)(hn:n<=8):Dc n T 1=T:=NI h hn
variable {i:Nat}
theorem Ur {f j:Nat}{U:List (List Int)}(h:Sq n e T)(g:Sq n f U)(hi:i<n)(hj:j<n):ent (XB n T U) i j≠0↔ ∃k,k<n/\ent T i k≠0/\ent U k j≠0:=by
 rw [vp hi hj];have nn: ∀k,k<n->0<=ent T i k*ent U k j:=λk hk=>Int.mul_nonneg (h.ent_nn hi hk).1 (g.ent_nn hk hj).1
 have s:=Vc nn;have p:=Rp nn;constructor
 ·intro z;obtain⟨k,hk,w⟩:=p.mp (by omega);refine⟨k,hk,λq=> ?_,λq=> ?_⟩
  ·rw [q] at w;simp at w
  ·rw [q] at w;simp at w
 ·rintro ⟨k,hk,a,b⟩ z;have c:=(h.ent_nn hi hk).1;have d:=(g.ent_nn hk hj).1;have:0<ent T i k*ent U k j:=Int.mul_pos (by omega) (by omega);have:=p.mpr ⟨k,hk,this⟩;omega
section
variable {prog:Program}{w:World}{A:Around}{E:Value->Shared->Prop}{s:Shared}
variable {items:Array Value}
theorem Rs {it t:Addr}{i n:Nat}{d1 d2:Option Addr}{s1 s2:Array (Option Value)}{P:PySem.Fin->Shared->Prop}(a1:s.heap.get? it=some {cls:= .type "tuple_iterator",dict:=d1,data:= .fields #[.ref t,.int i 0],slots:=s1})(a2:s.heap.get? t=some {cls:= .type "tuple",dict:=d2,data:= .seq items n,slots:=s2})
 (more: ∀x h',items[i]? =some x->h'.IsTupleIter it t (i+1)->Heap.SameBut it s.heap h'->P (.done (.ret x)) {s with heap:=h'})
 (none_:items[i]? =none->wpAny (model prog w) A (do setField (.ref it) 0 .none;Builtin.SmallTypes.stopIteration) P E s):wpAny (model prog w) A (Builtin.«tuple_iterator.__next__» ⟨[.ref it],[]⟩) P E s:=by
 obtain⟨hp,g,d,tk,os⟩:=s
 wp_walk
 rw [Int.toNat_natCast];cases hx:items[i]? with
 |none=>exact wpAny_bind (X6 (none_ hx))
 |some x=>
  refine wpAny_bind (wpAny_setField a1 rfl (by simp) (P1 (more x _ hx ⟨_,J5 _ a1 ?_,rfl,?_⟩ (Q0 ..))))
  ·rfl
  ·simp [Obj.mapFields,rawInt]
theorem XU {Q:PySem.Fin->Shared->Prop}(hh:A.handled=none)(hE: ∀h' e,(∀b o,s.heap.get? b=some o->h'.get? b=some o)->(∃o,h'.get? e=some o/\o.cls= .type "StopIteration")->E (.ref e) {s with heap:=h'}):wpAny (model prog w) A Builtin.SmallTypes.stopIteration Q E s:=by
 obtain⟨hp,g,d,tk,os⟩:=s;unfold Builtin.SmallTypes.stopIteration
 wp_walk
 unfold raiseNew;refine wpAny_bind (wpAny_handled ?_);rw [hh];exact wpAny_bind (P1 (wpAny_throw (hE _ _ (λb o q=>G2 _ (G2 _ q)) ⟨_,R3 _ rfl,rfl⟩)))
theorem JD {it t:Addr}{i:Nat}{x:Value}{Q:Value->Shared->Prop}(hit:s.heap.IsTupleIter it t i)(ht:s.heap.IsTuple t items)(hx:items[i]? =some x)
 (hQ: ∀h',h'.IsTupleIter it t (i+1)->Heap.SameBut it s.heap h'->Q x {s with heap:=h'}):wpAny (model prog w) A (Builtin.SmallTypes.nextOf (.ref it)) Q E s:=by
 obtain⟨⟨c,d1,dt,s1⟩,ho,rfl,rfl⟩:=id hit;obtain⟨⟨c2,d2,dt2,s2⟩,hol,rfl,nl,rfl⟩:=ht;exact wpAny_bind (C1 hit.typeIs A1 (C7 A1 hit.typeIs Y0 (Rs ho hol (λy h' e b1 b2=>⟨y,rfl,P1 (by rw [hx] at e;cases e;exact hQ h' b1 b2)⟩) λe=>by rw [hx] at e;cases e) (X3 _)))
theorem zT {it t:Addr}{i:Nat}{Q:Value->Shared->Prop}(hh:A.handled=none)(hit:s.heap.IsTupleIter it t i)(ht:s.heap.IsTuple t items)(hx:items[i]? =none)
 (hE: ∀h' e,Heap.ExtBut it s.heap h'->(∃o,h'.get? e=some o/\o.cls= .type "StopIteration")->E (.ref e) {s with heap:=h'}):wpAny (model prog w) A (Builtin.SmallTypes.nextOf (.ref it)) Q E s:=by
 obtain⟨⟨c,d1,dt,s1⟩,ho,rfl,rfl⟩:=id hit;obtain⟨⟨c2,d2,dt2,s2⟩,hol,rfl,nl,rfl⟩:=ht;refine wpAny_bind (C1 hit.typeIs A1 (C7 A1 hit.typeIs Y0 (Rs ho hol (λy h' e b1 b2=>by rw [hx] at e;cases e) λ_=>wpAny_bind (wpAny_setField ho rfl (by simp) ?_)) (X3 _)));exact XU (s:= {s with heap:=_}) hh λh' e grown stop=>hE h' e (λb o ne q=>grown b o ((Q0 ..).extBut b o ne q)) stop
end
variable {prog:Program}{w:World}{A:Around}
theorem Rt (hh:A.handled=none)(it t:Addr)(hne:t≠it)(items:Array Value):
 Draws prog w A it [it,t] items.size (λi v=>items[i]? =some v) (λi h=>h.IsTupleIter it t i/\h.IsTuple t items) where
 live:=λ_ _ st=>let ⟨o,ho,_⟩:=st.1;⟨o,ho⟩
 frame:=λ_ _ _ st hk=>⟨st.1.at λo e=>hk it (by simp) o e,st.2.at λo e=>hk t (by simp) o e⟩
 item:=λi s Q E hi st hQ=>JD st.1 st.2 (x:=items[i]) (by simp [hi]) λh' hit' hs'=>hQ _ h' s.toks (by simp [hi]) ⟨hit',st.2.extBut hs'.extBut hne⟩ hs'
 done:=λs Q E st hE=>zT hh st.1 st.2 (by simp) hE
theorem Ru (hh:A.handled=none)(it t:Addr)(items:Array Value)(n:Nat)(hn:items.size<=n):
 Draws prog w A it [it,t] n (λ_ _=>False) (λi h=>i=n/\h.IsTupleIter it t n/\h.IsTuple t items) where
 live:=λ_ _ st=>let ⟨o,ho,_⟩:=st.2.1;⟨o,ho⟩
 frame:=λ_ _ _ st hk=>⟨st.1,st.2.1.at λo e=>hk it (by simp) o e,st.2.2.at λo e=>hk t (by simp) o e⟩
 item:=λi s Q E hi st hQ=>absurd st.1 (S3 hi)
 done:=λs Q E st hE=>zT hh st.2.1 st.2.2 (Array.getElem?_eq_none hn) hE
section
variable {prog:Program}{w:World}{A:Around}{E:Value->Shared->Prop}{s:Shared}
theorem Rv {l:Addr}{its:Array Value}{P:PySem.Fin->Shared->Prop}(at_:s.heap.IsTuple l its)
 (h: ∀h',IsEnum h' (s.heap.objs.size+1) s.heap.objs.size 0 .none->h'.IsTupleIter s.heap.objs.size l 0->(∀b o,s.heap.get? b=some o->h'.get? b=some o)->P (.done (.ret (.ref (s.heap.objs.size+1)))) {s with heap:=h'}):
 wpAny (model prog w) A (Builtin.«enumerate.__new__» ⟨[.type "enumerate",.ref l],[]⟩) P E s:=by
 have fine:=sub_enumerate;obtain⟨⟨c,dd,dt,sl⟩,there,rfl,n,rfl⟩:=id at_;obtain⟨hp,g,d,tk,os⟩:=s;have size: ∀o,(hp.push o).objs.size=hp.objs.size+1:=λo=>G0b ..
 have made:=R3 (hp.push {cls:= .type "tuple_iterator",data:= .fields #[.ref l,.int 0 0]}) (o:= {cls:= .type "enumerate",data:= .fields #[.none,.bool false,.ref hp.objs.size,rawInt 0,.none,.none]}) rfl;have fin:=h _ (by rw [<-size];exact made) ⟨_,G2 _ (R3 _ rfl),rfl,rfl⟩ λb o old=>G2 _ (G2 _ old)
 rw [<-size {cls:= .type "tuple_iterator",data:= .fields #[.ref l,.int 0 0]}] at fin
 wp_walk using Q7 there
 refine wpAny_stack_any λcalls=>P1 ?_
 split
 case h_1 c _ _ _ _ _=>cases c==Value.type "enumerate" <;>(wp_walk using Q7 there,J0 at_;exact fin)
 case h_2=>wp_walk using Q7 there,J0 at_;exact fin
theorem Ve {l:Addr}{items:Array Value}{Q:Value->Shared->Prop}(hL:s.heap.IsTuple l items)
 (h: ∀h',IsEnum h' (s.heap.objs.size+1) s.heap.objs.size 0 .none->h'.IsTupleIter s.heap.objs.size l 0->(∀b o,s.heap.get? b=some o->h'.get? b=some o)->Q (.ref (s.heap.objs.size+1)) {s with heap:=h'}):
 wpAny (model prog w) A (call (.type "enumerate") [.ref l]) Q E s:=
 callType_new F.called_enumerate (by decide) (F.typeCall_enumerate_1 _) (F.newCall_enumerate_1 _) (λ_=>F.args_object_init_2 _ _) F.entry_enumerate_new
  (S:=λ_ R s=>s.heap.IsTuple l items/\ ∀h',IsEnum h' (s.heap.objs.size+1) s.heap.objs.size 0 .none->h'.IsTupleIter s.heap.objs.size l 0->(∀b o,s.heap.get? b=some o->h'.get? b=some o)->R (.ok (.ret (.ref (s.heap.objs.size+1)))) {s with heap:=h'})
  (.of_wp λ_ _ _ _ _ ⟨tup,k⟩=>Rv tup λh' e i old=>⟨_,rfl,k h' e i old⟩) ⟨hL,λh' e i old=>⟨⟨_,e,rfl⟩,h h' e i old⟩⟩
end
section
variable {X:Cx}{pins:List (Addr×Obj)}{σ:List (Option V)}{H:Hp}{s:Shared}{h':Heap}
theorem Inv.turnL {t':Nat}{ch:List Addr}(I:Inv X pins σ H s)(k: ∀b o,b ∉ ch->s.heap.get? b=some o->h'.get? b=some o)(hc: ∀b∈ch,Db X pins H b):Inv X pins σ H {s with heap:=h',toks:=t'}:=by
 refine I.step (g':=s.gens) (d':=s.drawn) (ch:=ch) (λb hb=>let ⟨_,f1,_,f3,f4,f5⟩:=hc b hb;⟨f3,f1,f4,f5⟩) (λb o _ _ nb e _=>k b o nb e) (λb o _ _ nb e _=>⟨o.slots,k b o nb e⟩) (λ_ _ _ _ n=>n)
  (λb o nb e=>⟨o,k b o nb e⟩) (λ_ _ e=>e) (λ_ _ _ e=>e) (λb ps e=>⟨#[],by rw [e];simp⟩) (λm hm=> ?_) (λb u e=> ?_) I.bare
 ·obtain⟨o,es,ep,ho,r⟩:=hm;exact⟨o,es,ep,k _ o (λz=>(hc _ z).2.1 rfl) ho,r⟩
 ·refine(I.hok b u e).stay (λc v hb q=>k c v (λz=> ?_) q) (λ_ q=>q) λ_ _ q=>q
  have f:=(hc c z).1;rcases hb with w|w
  ·rw [w,e] at f;cases f
  ·rw [w] at f;cases f
theorem Inv.turnLaid {t':Nat}{ch:List Addr}{a:Addr}{o:HO}(I:Inv X pins σ H s)(k: ∀b u,b ∉ ch->s.heap.get? b=some u->h'.get? b=some u)(hc: ∀b∈ch,Db X pins H b)(hp:s.heap.objs.size<=a)
 (new:ObjOk X.prog X.w (upd H a o) h' a o):Inv X pins σ (upd H a o) {s with heap:=h',toks:=t'}:=by
 have hn:=I.hok.fresh hp;refine I.step (g':=s.gens) (d':=s.drawn) (ch:=ch) (λb hb=>let ⟨_,f1,_,f3,f4,f5⟩:=hc b hb;⟨f3,f1,f4,f5⟩) (λb u _ _ nb e _=>k b u nb e) (λb u _ _ nb e _=>⟨u.slots,k b u nb e⟩)
  (λb u _ e n=>by rw [jl (S3 (S0 (D5 e) hp))];exact n) (λb u nb e=>⟨u,k b u nb e⟩) (λb xs q=>by rw [jl (ji q hn)];exact q) (λb u xs q=>by rw [jl (ji q hn)];exact q)
  (λb ps q=>⟨#[],by rw [jl (ji q hn),q];simp⟩) (λm hm=> ?_) (λb u e=> ?_) I.bare
 ·obtain⟨u,es,ep,ho,r⟩:=hm;exact⟨u,es,ep,k _ u (λz=>(hc _ z).2.1 rfl) ho,r⟩
 ·by_cases hb:b=a
  ·subst hb;rw [jt] at e;cases e;exact new
  ·rw [jl hb] at e;refine(I.hok b u e).stay (λc v hb q=>k c v (λz=> ?_) q) (λc q=>by rw [jl (ji q hn)];exact q) λc xs q=>by rw [jl (ji q hn)];exact q
   have f:=(hc c z).1;rcases hb with w|w
   ·rw [w,e] at f;cases f
   ·rw [w] at f;cases f
end
def Ite (K:PySem.W.Frag)(a:Addr):It:=
 ⟨λi H=> ∃xs x,SqT K H a xs/\xs[i]? =some x,λi H x H'=> ∃p v,H p=none/\(∀xs,SqT K H a xs->xs[i]? =some v)/\x= .ref p/\H'=upd H p (.tup [.int i,v]),λi H=> ∃xs,SqT K H a xs/\xs.length<=i⟩
variable {K:PySem.W.Frag}
theorem Rw {P:Program}{es:List Expr}{k:Nat}{pos:Pos}(a it e:Addr)(hei:e≠it)(hae:a≠e)(hai:a≠it):Turn P w K (.Tuple es k pos) (Ite K a) [e,it] e (λi h=>(∃old,IsEnum h e it i old)/\h.IsTupleIter it a i) where
 mem:=by simp
 obj:=λi h st b hb=>by
  rcases R6.mp hb with z|z
  ·subst z;obtain⟨old,q⟩:=st.1;exact⟨_,q,λv z=>by cases z⟩
  ·have z:=G5.mp z;subst z;obtain⟨o,q,c,d⟩:=st.2;exact⟨o,q,λv z=>by rw [d] at z;cases z⟩
 keep:=λi h h' st k=>⟨let ⟨old,q⟩:=st.1;⟨old,k e (by simp) _ q⟩,st.2.at λo q=>k it (by simp) o q⟩
 item:=by
  intro X hP hw hK hc i pins s σ H E I hf st hg;subst hP hw hK;obtain⟨xs,x,hq,hx⟩:=hg;obtain⟨its,rv,p,hz⟩:=I.tuple hq;obtain⟨u,hu,ru⟩:=rv.get hx;have hi:i<its.toArray.size:=by have:=(G7.mp hu).1;simpa using this
  obtain⟨old,he⟩:=st.1;have helt:e<s.heap.objs.size:=D5 he;refine wpAny_pyNext_enum_itemD (Rt (prog:=X.prog) (w:=X.w) (A:=X.A.in1) (I.ok.hd hc) it a hai its.toArray) he ⟨st.2,p⟩ hi hei (by simp [hei,Ne.symm hae]) λx' h' tk hx' ho hs' hT hsz hk=> ?_
  have ex:x'=u:=M5 (hx'.symm.trans (show its.toArray[i]? =some u by simpa using hu));subst ex;refine⟨_,rfl,wpAny_letOwnedTupleGo_enum ho λh2 he2 hs2=> ?_⟩;have hn:H s.heap.objs.size=none:=I.hok.fresh (G9 _);have hT2:h2.get? s.heap.objs.size=some {cls:= .type "tuple",data:= .seq #[.int i tk,x']}:=(hs2.2 _ (J4 helt)).trans hT;refine⟨.ref s.heap.objs.size,upd H s.heap.objs.size (.tup [.int i,x]),?_,rfl,⟨_,x,hn,λys hy=>by rw [I.tuple_inj hy hq];exact hx,rfl,rfl⟩,⟨⟨x',by simpa using he2⟩,hs'.1.at λo y=>(hs2.2 it (Ne.symm hei)).trans y⟩,λb hb=> ?_⟩
  ·refine I.turnLaid (h':=h2) (t':=tk+1) (ch:= [e,it]) (λb u hb q=> ?_) hf (G9 _) ⟨by show 2<=sizeLine;decide,[.int i tk,x'],.cons ⟨tk,rfl⟩ (.cons ru .nil),⟨_,hT2,rfl,rfl,_,rfl⟩⟩;have b1:b≠e:=λz=>hb (by simp [z])
   have b2:b≠it:=λz=>hb (by simp [z])
   exact(hs2.2 b b1).trans (hk b u b1 b2 q)
  ·have f:=(hf b hb).1;have:b≠s.heap.objs.size:=λz=>by
    rcases R6.mp hb with w|w
    ·rw [<-w,z] at helt;exact absurd helt (B2 _)
    ·have w:=G5.mp w;obtain⟨o,ho',_⟩:=st.2;have:=D5 ho';rw [<-w,z] at this;exact absurd this (B2 _)
   rw [jl this];exact f
 done:=by
  intro X hP hw hK hc i pins s σ H E I hf st hg;subst hP hw hK;obtain⟨xs,hq,hx⟩:=hg;obtain⟨its,rv,p,hz⟩:=I.tuple hq;obtain⟨old,he⟩:=st.1;have hl:=rv.length;refine wpAny_pyNext_enum_endD (Ru (prog:=X.prog) (w:=X.w) (A:=X.A.in1) (I.ok.hd hc) it a its.toArray i (by simp;omega)) he ⟨rfl,st.2,p⟩ λh' hx'=>⟨rfl,I.turnL (t':=s.toks) (ch:= [it]) (λb o hb q=>hx' b o (λz=>hb (by simp [z])) q) λb hb=>hf b (R0 _ hb)⟩
 self:=λ_ _ _ _ _ st h=>let ⟨_,q⟩:=st.1;wpAny_pyIter_enum q h
section
variable {X:Cx}
def Hr (K:PySem.W.Frag)(ta:TA):TI:=λσ H R=>ta σ H λvs H1=> ∃a,vs= [.ref a]/\(∃xs,SqT K H1 a xs)/\R (Ite K a) H1
theorem FX {es:List Expr}{k:Nat}{tp:Pos}{a:Expr}{ta:TA}{p pos:Pos}(hg:Gl X "enumerate")(hm:X.mg "enumerate" =none)(ha:PA X [a] ta)(hs:starEach [a] X.env= [(false,eval a X.env)]:=by rfl):
 PI X (.Tuple es k tp) (.Call (.Name "enumerate" p) [a] [] pos) (Hr X.K ta):=by
 intro pins s σ H R I h;refine Call_ (Yg I hg hm (show bootBuiltins "enumerate" =some (.type "enumerate") by decide +kernel) (O6 (thn (ha pos pins s σ H _ I h) λus s1 ⟨vs,H1,I1,r1,q1⟩=> ?_) hs rfl));obtain⟨a,e,⟨xs,hq⟩,q⟩:=q1;subst e;cases r1 with
 |cons r rr=>
  cases rr;cases r;obtain⟨its,rv,p,hz⟩:=I1.tuple hq;have hlt:a<s1.heap.objs.size:=by obtain⟨o,ho,_⟩:=p;exact D5 ho
  refine Ve (show s1.heap.IsTuple a its.toArray from p) λh' he hit hk=> ?_
  refine wpAny_pyIter_enum he ?_;refine⟨s1.heap.objs.size+1,[s1.heap.objs.size+1,s1.heap.objs.size],_,_,H1,rfl,I1.kept (t':=s1.toks) hk,Rw a s1.heap.objs.size (s1.heap.objs.size+1) (J4 (L6 _)) (S3 (Nat.lt_succ_of_lt hlt)) (S3 hlt),⟨⟨_,he⟩,hit⟩,λb hb=> ?_,q⟩;have hb':s1.heap.objs.size<=b:=by
   rcases R6.mp hb with w|w
   ·rw [w];exact Nat.le_succ _
   ·rw [G5.mp w];exact G9 _
  exact I1.fpOk hb' (I1.hok.fresh hb')
end
def NK (ds:List D):List D:=ds.zipIdx.map λp=> .tup [.int (p.2:Int),p.1]
def iE (ta:TAD):TID:=λσ h R=>ta σ h λxs h1=> ∃ds,xs= [.tup ds]/\R (λ_=>some (NK ds)) h1
theorem Gu {ds:List D}{d:D}(h:(NK ds)[i]? =some d): ∃x,ds[i]? =some x/\d= .tup [.int (i:Int),x]:=by
 unfold NK at h;rw [P3,List.getElem?_zipIdx] at h;cases q:ds[i]? with
 |none=>rw [q] at h;cases h
 |some x=>
  rw [q] at h;refine⟨x,rfl,?_⟩;have h':some (D.tup [.int ((0+i:Nat):Int),x])=some d:=h;rw [J6] at h';exact(M5 h').symm
theorem vt (ds:List D):(NK ds).length=ds.length:=by simp [NK]
section
variable {K:PySem.W.Frag}
theorem Rx {H:Hp}{a:Addr}{vs:List V}{ds:List D}(hv:H a=some (.tup vs))(r:RelDs K H ds vs):Fx K H (λ_=>some (NK ds)) (Ite K a):=λH' h' k rh ds' e i=>by
 cases e;have hv':=k.tup _ _ hv;have r':=r.mono k;refine⟨λd hd=> ?_,λhl=>⟨vs,SqT.of hv',by rw [<-r.length,<-vt];exact hl⟩⟩;obtain⟨x,hx,ed⟩:=Gu hd;subst ed;obtain⟨v,e1,e2⟩:=r'.get hx;refine⟨⟨vs,v,SqT.of hv',e1⟩,λx' H'' ⟨p,v',hp,hx',ex,eH⟩=> ?_⟩;subst ex eH;have ev:v'=v:=by have:=hx' vs (SqT.of hv');rw [e1] at this;exact(M5 this).symm
 subst ev;have k2:Kept H' (upd H' p (.tup [.int i,v'])):= .new hp;exact⟨k2,RelH.new rh hp,p,[.int i,v'],rfl,jt,_,_,rfl,rfl,_,_,rfl,e2.mono k2,rfl⟩
theorem FY {ta:TAD}: ∀σ H R,LI K (iE ta) σ H R->Hr K (LA K ta) σ H R:=λσ H R ⟨σd,h,Rd,rs,rh,q,p⟩=>
 LA.bind rs rh q λds vs h1 H1 k1 rs1 rh1 r1 ⟨es,e,q1⟩=>by
  subst e;obtain⟨v,e,r2⟩:=jW r1;obtain⟨a,ws,e',hv,r⟩:=(show ∃a vs,v= .ref a/\H1 a=some (.tup vs)/\RelDs K H1 es vs from r2);subst e';exact⟨a,e,⟨ws,SqT.of hv⟩,p _ _ _ _ k1 rh1 (Rx hv r) q1⟩
end
section
variable {X:Cx}
theorem FZ {es:List Expr}{k:Nat}{tp:Pos}{a:Expr}{ta:TAD}{p pos:Pos}(hg:Gl X "enumerate")(hm:X.mg "enumerate" =none)(ha:JA X [a] ta)(hs:starEach [a] X.env= [(false,eval a X.env)]:=by rfl):
 JI X (.Tuple es k tp) (.Call (.Name "enumerate" p) [a] [] pos) (iE ta):=⟨(FX hg hm ha.to hs).imp FY⟩
end
def Ry (c:TTD)(tb:TSD):TSD:=λD σ h=> ∃W:Nat->SD->HD->Prop,(∃m,W m σ h)/\ ∀m σ' h',W m σ' h'->c σ' h' λb h1=>
 if b=true then tb {D with nx:=λσ2 h2=> ∃m' h3,m'<m/\Sub h3 h2/\W m' σ2 h3,ct:=λσ2 h2=> ∃m' h3,m'<m/\Sub h3 h2/\W m' σ2 h3,bk:=D.nx} σ' h1 else D.nx σ' h1
theorem NL {c:TTD}{tb:TSD}: ∀D σ H,LS K (Ry c tb) D σ H->BX (LT K c) (LS K tb) D σ H:=λD σ H ⟨σd,h,Dd,rs,rh,⟨W,⟨m0,w0⟩,turn⟩,nx,rt,bk,ct⟩=>by
 refine⟨λm σ' H'=>Kept H H'/\ ∃σd' h',RelS K H' σd' σ'/\RelH K h' H'/\W m σd' h',⟨m0,.refl _,σd,h,rs,rh,w0⟩,?_⟩;rintro m σ' H' ⟨kp,σd',h',rs',rh',w⟩;refine LT.bind rs' rh' (turn m σd' h' w) λb h1 H1 k1 rs1 rh1 q1=> ?_
 cases b with
 |false=>
  rw [if_neg P6] at q1 ⊢;exact nx _ _ _ _ (kp.trans k1) rs1 rh1 q1
 |true=>
  rw [if_pos rfl] at q1 ⊢;have kk:Kept H H1:=kp.trans k1;refine⟨λσ2 H2=>Kept H H2/\ ∃m',m'<m/\ ∃σd2 h2,RelS K H2 σd2 σ2/\RelH K h2 H2/\W m' σd2 h2,λσ2 H2 ⟨k2,m',hm,a,b,c,d,e⟩=>⟨m',hm,k2,a,b,c,d,e⟩,?_⟩;exact⟨σd',h1,_,rs1,rh1,q1,λa b c d k4 rs4 rh4 ⟨m',h4,hm,sb,w4⟩=>⟨kk.trans k4,m',hm,a,h4,rs4,rh4.sub sb,w4⟩,jV rt kk,λa b c d k4 rs4 rh4 q4=>nx a b c d (kk.trans k4) rs4 rh4 q4,λa b c d k4 rs4 rh4 ⟨m',h4,hm,sb,w4⟩=>⟨kk.trans k4,m',hm,a,h4,rs4,rh4.sub sb,w4⟩⟩
section
variable {X:Cx}{pos:Pos}
theorem Gv {c:Expr}{body:List Stmt}{tc:TTD}{tb:TSD}(hp:PassesOwn (model X.prog X.w) X.A X.env X.xe)(hc:JT X c tc)(hb:JSs X body tb):JS X (.While c body [] pos) (Ry tc tb):=⟨(Nf hp hc.to hb.to).imp NL⟩
end
variable {h:HD}
theorem ZE {c:TTD}{tb:TSD}{E:EndsD}{σ:SD}(W:Nat->SD->HD->Prop)(m:Nat)(w0:W m σ h)
 (turn: ∀m σ' h',W m σ' h'->c σ' h' λb h1=>if b=true then tb {E with nx:=λσ2 h2=> ∃m' h3,m'<m/\Sub h3 h2/\W m' σ2 h3,ct:=λσ2 h2=> ∃m' h3,m'<m/\Sub h3 h2/\W m' σ2 h3,bk:=E.nx} σ' h1 else E.nx σ' h1):Ry c tb E σ h:=⟨W,⟨m,w0⟩,turn⟩
def Off (W:List Addr)(h h':Heap):Prop:=h'.objs.size=h.objs.size/\ ∀b o,b ∉ W->h.get? b=some o->h'.get? b=some o
theorem Off.refl (W:List Addr)(h:Heap):Off W h h:=⟨rfl,λ_ _ _ e=>e⟩
theorem Off.of {c:Addr}{W:List Addr}{h h':Heap}(x:Heap.SameBut c h h')(m:c∈W):Off W h h':=⟨x.1,λb o n e=>x.extBut b o (λq=>n (q ▸ m)) e⟩
theorem Off.trans {W:List Addr}{h h' h'':Heap}(x:Off W h h')(y:Off W h' h''):Off W h h'':=⟨y.1.trans x.1,λb o n e=>y.2 b o n (x.2 b o n e)⟩
abbrev Rz (f0:Value)(b1:Bool)(TI TO:Addr):Obj:= {cls:= .type "zip",dict:=none,data:= .fields #[f0,.bool b1,.bool false,.ref TI,.ref TO],slots:= #[]}
def ZipAt (h:Heap)(z TI TO:Addr):Prop:= ∃f0 b1,h.get? z=some (Rz f0 b1 TI TO)/\(f0= .none\/ ∃a t,f0= .int a t)
theorem ZipAt.off {h h':Heap}{z TI TO:Addr}{W:List Addr}(Z:ZipAt h z TI TO)(o:Off W h h')(n:z ∉ W):ZipAt h' z TI TO:=let ⟨f,b,e,q⟩:=Z;⟨f,b,o.2 _ _ n e,q⟩
section
variable {prog:Program}{w:World}{A:Around}{E:Value->Shared->Prop}{s:Shared}{z TI TO i1 i2:Addr}
theorem NM {Q:Bool->Shared->Prop}(Z:ZipAt s.heap z TI TO)(k: ∀b h',ZipAt h' z TI TO->Off [z] s.heap h'->Q b {s with heap:=h'}):wpAny (model prog w) A (Builtin.SmallTypes.ownedTupleIsFree (.ref z)) Q E s:=by
 obtain⟨f0,b1,hz,hf⟩:=id Z;have stay:=λb=>k b s.heap Z (Off.refl _ _)
 rcases hf with rfl|⟨a,t,rfl⟩
 ·wp_walk
  exact stay true
 ·have read: ∀ {P:Option Obj->Shared->Prop} {E':Value->Shared->Prop},P (s.heap.get? a.toNat) s->wpAny (model prog w) A (loadIfAlive a.toNat) P E' s:=λp _ _ _=>p
  wp_walk using read
  cases s.heap.get? a.toNat with
  |none=>exact P1 (stay true)
  |some o=>
   wp_walk
   cases b1 with
   |true=>exact P1 (stay false)
   |false=>exact wpAny_bind <| wpAny_setField_rec hz (by simp) λh' z' same=>P1 (k false h' ⟨_,_,z',.inr ⟨a,t,rfl⟩⟩ (.of same (by simp)))
structure ZApart (z TI TO i1 i2:Addr):Prop where
 z1:z≠i1
 z2:z≠i2
 zO:z≠TO
 zI:z≠TI
 O1:TO≠i1
 O2:TO≠i2
 OI:TO≠TI
 I1:TI≠i1
 I2:TI≠i2
abbrev Ej (z:Addr)(h:Heap)(E:Value->Shared->Prop):Value->Shared->Prop:=λe s'=>(∀o,h.get? z=some o->s'.heap.get? z=some o)/\ ∀h',Heap.ExtBut z s'.heap h'->E e {s' with heap:=h'}
theorem RA {Q:Value->Shared->Prop}(ap:ZApart z TI TO i1 i2)(Z:ZipAt s.heap z TI TO)(hTI:IsPair s.heap TI (.ref i1) (.ref i2))(hTO: ∃a b,IsPair s.heap TO a b)
 (go: ∀h₁,Off [z] s.heap h₁->(∃o,h₁.get? z=some o/\o.cls= .type "zip")->wpAny (model prog w) A (Builtin.SmallTypes.nextOf (.ref i1)) (λx s₁=>Off [i1] h₁ s₁.heap/\ ∀h₂,Off [TO] s₁.heap h₂->
  wpAny (model prog w) A (Builtin.SmallTypes.nextOf (.ref i2)) (λy s₂=>Off [i2] h₂ s₂.heap/\ ∀h₃,(∀b o,b ∉ [z,TO]->s₂.heap.get? b=some o->h₃.get? b=some o)->IsPair h₃ s₂.heap.objs.size x y->
   ZipAt h₃ z TI TO->IsPair h₃ TI (.ref i1) (.ref i2)->(∃a b,IsPair h₃ TO a b)->Q (.ref s₂.heap.objs.size) {s₂ with heap:=h₃}) (Ej z h₂ E) {s₁ with heap:=h₂}) (Ej z h₁ E) {s with heap:=h₁}):
 wpAny (model prog w) A (Builtin.«zip.__next__» ⟨[.ref z],[]⟩) (λfin s'=> ∃v,fin= .done (.ret v)/\Q v s') E s:=by
 obtain⟨f0,b1,hz,hf⟩:=id Z;have ask:=λ{P:Bool->Shared->Prop} {E':Value->Shared->Prop} (k: ∀b h',ZipAt h' z TI TO->Off [z] s.heap h'->P b {s with heap:=h'})=>NM (prog:=prog) (w:=w) (A:=A) (E:=E') Z k
 wp_walk using ask
 intro b h₀ Z₀ off₀;have I₀:=off₀.2 _ _ (by simp [ap.zI.symm]) hTI;obtain⟨a',b',O₀⟩: ∃a b,IsPair h₀ TO a b:=let ⟨a,b,e⟩:=hTO;⟨a,b,off₀.2 _ _ (by simp [ap.zO.symm]) e⟩;cases b with
 |false=>
  have d1:=go h₀ off₀ (let ⟨_,_,e,_⟩:=Z₀;⟨_,e,rfl⟩);rw [if_neg (by decide)];refine wpAny_bind ?_;rw [<-Array.forIn_toList];simp only [X9,List.forIn_nil];refine wpAny_bind (wpAny_bind (F9 ?_));refine wpAny_bind (m:=Builtin.SmallTypes.nextOf (.ref i1)) (R7 d1 (λx s₁ d=>P1 (P1 ?_)) λe s' f=>f.2 s'.heap λ_ _ _ e=>e);obtain⟨o1,d2⟩:=d;refine wpAny_bind (wpAny_bind (F9 ?_));refine wpAny_bind (m:=Builtin.SmallTypes.nextOf (.ref i2)) (R7 (d2 s₁.heap (.refl _ _)) (λy s₂ d=>P1 (P1 (P1 ?_))) λe s' f=>f.2 s'.heap λ_ _ _ e=>e);obtain⟨o2,fin⟩:=d;show wpAny _ _ (newTuple [x,y] >>= _) _ _ _;have n1: ∀ {b},b≠i1->b ∉ [i1]:=λh=>by simpa using h
  have n2: ∀ {b},b≠i2->b ∉ [i2]:=λh=>by simpa using h
  have Z₂:=(Z₀.off o1 (n1 ap.z1)).off o2 (n2 ap.z2);have keep: ∀ {b o},b≠i1->b≠i2->h₀.get? b=some o->(s₂.heap.push {cls:= .type "tuple",data:= .seq #[x,y]}).get? b=some o:=λq1 q2 e=>G2 _ (o2.2 _ _ (n2 q2) (o1.2 _ _ (n1 q1) e))
  refine wpAny_bind (wpAny_newTuple (P1 ⟨_,rfl,fin _ (λb o _ e=>G2 _ e) (R3 _ rfl) ?_ (keep ap.I1 ap.I2 I₀) ⟨_,_,keep ap.O1 ap.O2 O₀⟩⟩));exact let ⟨f,b,e,q⟩:=Z₂;⟨f,b,G2 _ e,q⟩
 |true=>
  obtain⟨f0',b1',hz₀,_⟩:=Z₀;have note:=λ{P:Unit->Shared->Prop} {E':Value->Shared->Prop} (k: ∀h',h'.get? z=some (Rz .ellipsis b1' TI TO)->Heap.SameBut z h₀ h'->P () {s with heap:=h'})=>
   wpAny_setField_rec (prog:=prog) (w:=w) (A:=A) (E:=E') (s:= {s with heap:=h₀}) (k:=0) (x:= .ellipsis) hz₀ (by simp) k
  wp_walk using note
  intro h₁ z₁ same₁;have off₁:Off [z] s.heap h₁:=off₀.trans (.of same₁ (by simp));have O₁:=same₁.extBut _ _ ap.zO.symm O₀;have I₁:=same₁.extBut _ _ ap.zI.symm I₀;have fell: ∀ {h:Heap} {e:Value} {s':Shared},h.get? z=some (Rz .ellipsis b1' TI TO)->Ej z h E e s'->wpAny (model prog w) A (setField (.ref z) 0 .none) (λ_ s''=>E e s'') E s':=λhz' f=>
   wpAny_setField_rec (f.1 _ hz') (by simp) λh' _ same=>f.2 h' same.extBut
  have draw:=λ{P:Value->Shared->Prop} {E':Value->Shared->Prop} (k: ∀x s₁,_->P x s₁) (f: ∀e s',Ej z h₁ E e s'->E' e s')=>R7 (go h₁ off₁ ⟨_,z₁,rfl⟩) k f
  wp_walk using wpAny_onRaise,draw
  case f=>exact λe s' f=>fell z₁ f
  intro x s₁ ⟨o1,go2⟩;have z₂:=o1.2 _ _ (by simp [ap.z1]) z₁;have O₂:IsPair s₁.heap TO a' b':=o1.2 _ _ (by simp [ap.O1]) O₁;have I₂:=o1.2 _ _ (by simp [ap.I1]) I₁;have lay:=λ{P:Unit->Shared->Prop} {E':Value->Shared->Prop}=>wpAny_updateSeq_pair (prog:=prog) (w:=w) (A:=A) (E:=E') (s:=s₁) (k:=0) (x:=x) (Q:=P) O₂
  wp_walk using lay
  intro h₂ O₃ same₂
  replace O₃:IsPair h₂ TO x b':=O₃
  have z₃:=same₂.extBut _ _ ap.zO z₂;have I₃:=same₂.extBut _ _ ap.OI.symm I₂;have draw2:=λ{P:Value->Shared->Prop} {E':Value->Shared->Prop} (k: ∀y s₂,_->P y s₂) (f: ∀e s',Ej z h₂ E e s'->E' e s')=>R7 (go2 h₂ (.of same₂ (by simp))) k f
  wp_walk using wpAny_onRaise,draw2
  case f=>exact λe s' f=>fell z₃ f
  intro y s₂ ⟨o2,fin⟩;have z₄:=o2.2 _ _ (by simp [ap.z2]) z₃;have O₄:IsPair s₂.heap TO x b':=o2.2 _ _ (by simp [ap.O2]) O₃;have I₄:=o2.2 _ _ (by simp [ap.I2]) I₃;have lay2:=λ{P:Unit->Shared->Prop} {E':Value->Shared->Prop}=>wpAny_updateSeq_pair (prog:=prog) (w:=w) (A:=A) (E:=E') (s:=s₂) (k:=1) (x:=y) (Q:=P) O₄
  wp_walk using lay2
  intro h₄ O₅ same₃
  replace O₅:IsPair h₄ TO x y:=O₅
  have z₅:=same₃.extBut _ _ ap.zO z₄;have I₅:=same₃.extBut _ _ ap.OI.symm I₄
  wp_walk
  have size:h₄.objs.size=s₂.heap.objs.size:=same₃.1;have zp:=G2 {cls:= .type "tuple",data:= .seq #[x,y]} z₅;have zu:=J5 (Obj.mapFields λv=>v.setIfInBounds 0 (rawInt h₄.objs.size)) zp rfl;have zu':=J5 (Obj.mapFields λv=>v.setIfInBounds 1 (Value.bool false)) zu rfl;have away: ∀ {b o},b≠z->(h₄.push {cls:= .type "tuple",data:= .seq #[x,y]}).get? b=some o->
   (((h₄.push {cls:= .type "tuple",data:= .seq #[x,y]}).update z (Obj.mapFields λv=>v.setIfInBounds 0 (rawInt h₄.objs.size))).update z (Obj.mapFields λv=>v.setIfInBounds 1 (Value.bool false))).get? b=some o:=λn e=>
   (Q0 ..).extBut _ _ n ((Q0 ..).extBut _ _ n e)
  have new:=away (b:=h₄.objs.size) (λq=>B2 _ (q ▸ D5 z₅)) (R3 _ rfl);refine⟨_,rfl,?_⟩;have done:=fin _ (λb o n e=>away (λq=>n (by simp [q])) (G2 _ (same₃.extBut _ _ (λq=>n (by simp [q])) e))) (size ▸ new) ⟨_,_,zu',.inr ⟨_,_,rfl⟩⟩ (away ap.zI.symm (G2 _ I₅)) ⟨_,_,away ap.zO.symm (G2 _ O₅)⟩;rw [<-size] at done;exact done
theorem La {tg : Expr} {v : Value} {Q : Unit → Shared → Prop} (Z : ZipAt s.heap z TI TO) (k : ∀ h', ZipAt h' z TI TO → Off [z] s.heap h' → Q () { s with heap := h' }) : wpAny (model prog w) A (letOwnedTupleGo tg (.ref z) v) Q E s := by
  obtain ⟨f0, b1, hz, hf⟩ := id Z
  have stay := k s.heap Z (.refl _ _)
  have gone : wpAny (model prog w) A (updateField z 0 .none) Q E s := wpAny_setField_rec (k := 0) (x := .none) hz (by simp) fun h' z' same => k h' ⟨_, _, z', .inl rfl⟩ (.of same (by simp))
  unfold letOwnedTupleGo
  cases tg <;> first
    | exact P1 stay
    | (cases v <;> wp_walk <;> first
        | exact stay
        | (split
           · exact wpAny_bind (X6 gone)
           · exact P1 stay))
theorem NN {Q:Option Value->Shared->Prop}(Z:ZipAt s.heap z TI TO)
 (h:wpAny (model prog w) A.in1 (Builtin.«zip.__next__» ⟨[.ref z],[]⟩) (λfin s'=> ∃v,fin= .done (.ret v)/\Q (some v) s') (λe s'=>s'.TypeIs e "StopIteration" /\Q none s') s):wpAny (model prog w) A (pyNext (.ref z)) Q E s:=by
 obtain⟨_,_,hz,_⟩:=Z;have ty:s.TypeIs (.ref z) "zip" :=⟨_,hz,rfl⟩;have asked:=C7 F.slot_zip_next ty F.entry_zip_next h (F.args_zip_next_1 _);exact wpAny_bind (wpAny_attempt (C1 (name:= "__next__") ty F.slot_zip_next (R7 asked (λ_ _ q=>P1 q) λe s' q=>wpAny_bind (wpAny_isInstance (b:=true) q.1 isSubtype_stop (P1 q.2)))))
theorem NO {l1 l2:Addr}{xs ys:Array Value}{P:PySem.Fin->Shared->Prop}(t1:s.heap.IsTuple l1 xs)(t2:s.heap.IsTuple l2 ys)
 (h: ∀h' n,n=s.heap.objs.size->ZipAt h' (n+4) (n+2) (n+3)->IsPair h' (n+2) (.ref n) (.ref (n+1))->(∃a b,IsPair h' (n+3) a b)->h'.IsTupleIter n l1 0->h'.IsTupleIter (n+1) l2 0->
  (∀b o,s.heap.get? b=some o->h'.get? b=some o)->P (.done (.ret (.ref (n+4)))) {s with heap:=h'}):
 wpAny (model prog w) A (Builtin.«zip.__new__» ⟨[.type "zip",.ref l1,.ref l2],[]⟩) P E s:=by
 have fine:=sub_zip;obtain⟨hp,g,d,tk,os⟩:=s;have first:Heap.IsTuple (Shared.heap ⟨hp,g,d,tk,os⟩) l1 xs:=t1
 have second: ∀o,Heap.IsTuple (Shared.heap ⟨hp.push o,g,d,tk,os⟩) l2 ys:=λo=>Heap.IsTuple.push t2 o
 wp_walk using J0 first,J0 (second _)
 have size: ∀ (q:Heap) o,(q.push o).objs.size=q.objs.size+1:=λq o=>G0b ..
 have n2: ∀o1 o2,((hp.push o1).push o2).objs.size=hp.objs.size+2:=λ_ _=>by rw [size,size]
 have n3: ∀o1 o2 o3,(((hp.push o1).push o2).push o3).objs.size=hp.objs.size+3:=λ_ _ _=>by rw [size,n2]
 have n4: ∀o1 o2 o3 o4,((((hp.push o1).push o2).push o3).push o4).objs.size=hp.objs.size+4:=λ_ _ _ _=>by rw [size,n3]
 have up: ∀ {q:Heap} {b o} o',q.get? b=some o->(q.push o').get? b=some o:=λo' e=>G2 o' e
 show P (.done (.ret (.ref (Heap.objs (((((hp.push _).push _).push _).push _))).size))) _;rw [n4];have at1:=R3 (hp.push {cls:= .type "tuple_iterator",data:= .fields #[.ref l1,.int 0 0]}) (o:= {cls:= .type "tuple_iterator",data:= .fields #[.ref l2,.int 0 0]}) rfl;rw [size] at at1;have top: ∀ (q:Heap) (o:Obj) (m:Nat),q.objs.size=m->o.isFreed=false->(q.push o).get? m=some o:=λq o m e f=>e ▸ R3 q f
 refine h _ hp.objs.size rfl ⟨.none,false,(top _ _ _ (n4 ..) rfl).trans ?_,.inl rfl⟩ ((up _ (up _ (top _ _ _ (n2 ..) rfl))).trans ?_) ⟨.none,.none,up _ (top _ _ _ (n3 ..) rfl)⟩ ⟨_,up _ (up _ (up _ (up _ (R3 _ rfl)))),rfl,rfl⟩ ⟨_,up _ (up _ (up _ at1)),rfl,rfl⟩ λb o e=>up _ (up _ (up _ (up _ (up _ e))))
 ·simp only [size,E8];rfl
 ·simp only [size];rfl
theorem XV {T newId initId:String}{pos:List Value}{kw:List (Str×Value)}{Made:Value->Shared->Prop}{Q:Value->Shared->Prop}(ft:TypeCalled T newId initId)(fits:checkTypeCall T ⟨pos,kw⟩=pure ())
 (made:wpAny (model prog w) A.in1 (call (.builtin newId) (.type T::pos) kw) Made E s)
 (begun: ∀o s₁,Made o s₁->s₁.TypeIs o T/\wpAny (model prog w) A.in1 (callSpecial? o "__init__" pos kw) (λr s₂=>r=some .none/\Q o s₂) E s₁):
 wpAny (model prog w) A (call (.type T) pos kw) Q E s:=by
 have f1:=ft.notType;have f2:=ft.canCreate;have f3:=ft.made;have f4:=ft.sub;obtain⟨_,_,f5⟩:=ft.mro;have first:=λ{Q':Value->Shared->Prop} (k: ∀o s₁,Made o s₁->Q' o s₁)=>R7 (E':=E) made k λ_ _ z=>z
 refine wpAny_call (codeAny_of_tree (P1 ⟨Code.quiet_builtin _ (by decide +kernel),codeAny_builtin F.entry_type_call ?_⟩));rw [Around.under_plain (weight_type_call_type T pos kw) (units_type_call_type T pos kw)]
 wp_walk using first
 intro o s₁ m;obtain⟨ty,then_⟩:=begun o s₁ m;refine wpAny_bind (wpAny_isInstance (b:=true) ty f4 (wpAny_bind (F9 (R7 then_ (λr s₂ q=> ?_) λ_ _ z=>z))));obtain⟨rfl,q⟩:=q;exact P1 q
theorem Us {T newId:String}{o:Value}{pos:List Value}{kw:List (Str×Value)}{Q:Option Value->Shared->Prop}(ft:TypeCalled T newId "object.__init__")(other:(some newId !=some "object.__new__")=true)(ty:s.TypeIs o T)
 (fits:argsOk "object.__init__" ⟨o::pos,kw⟩)(q:Q (some .none) s):wpAny (model prog w) A (callSpecial? o "__init__" pos kw) Q E s:=by
 have f1:=ft.init.lookup;have f2:=ft.made;refine C1 ty ft.init (wpAny_call_entry_kw ft.init ty F.entry_object_init ?_ fits);cases e:(!pos.isEmpty|| !kw.isEmpty)<;>(wp_walk;exact⟨_,rfl,q⟩)
theorem Ut {l1 l2:Addr}{xs ys:Array Value}{Q:Value->Shared->Prop}(t1:s.heap.IsTuple l1 xs)(t2:s.heap.IsTuple l2 ys)
 (h: ∀h' n,n=s.heap.objs.size->ZipAt h' (n+4) (n+2) (n+3)->IsPair h' (n+2) (.ref n) (.ref (n+1))->(∃a b,IsPair h' (n+3) a b)->h'.IsTupleIter n l1 0->h'.IsTupleIter (n+1) l2 0->
  (∀b o,s.heap.get? b=some o->h'.get? b=some o)->Q (.ref (n+4)) {s with heap:=h'}):wpAny (model prog w) A (call (.type "zip") [.ref l1,.ref l2]) Q E s:=
 XV (Made:=λo s₁=>s₁.TypeIs o "zip" /\Q o s₁) F.called_zip (F.typeCall_zip_2 _ _)
  (wpAny_call (codeAny_call_builtin F.called_zip.plain F.entry_zip_new (wpAny_of_eq (F.newCall_zip_2 _ _) (NO t1 t2 λh' n en zp i o a b k=>⟨let ⟨_,_,e,_⟩:=zp;⟨_,e,rfl⟩,h h' n en zp i o a b k⟩))))
  λ_ _ ⟨ty,q⟩=>⟨ty,Us F.called_zip (by decide) ty (F.args_object_init_3 _ _ _) ⟨rfl,q⟩⟩
end
def Itz (K : PySem.W.Frag) (a b : Addr) : It :=
  ⟨fun i H => ∃ xs ys x y, SqT K H a xs ∧ SqT K H b ys ∧ xs[i]? = some x ∧ ys[i]? = some y,
   fun i H x H' => ∃ p v u, H p = none ∧ (∀ xs, SqT K H a xs → xs[i]? = some v) ∧ (∀ ys, SqT K H b ys → ys[i]? = some u) ∧ x = .ref p ∧ H' = upd H p (.tup [v, u]),
   fun i H => ∃ xs ys, SqT K H a xs ∧ SqT K H b ys ∧ (xs.length ≤ i ∨ ys.length ≤ i)⟩
theorem Uu {Q:Option Value->Shared->Prop}{E:Value->Shared->Prop}{s:Shared}{z TI TO i1 i2 l1 l2:Addr}{xs ys:Array Value}(calm:A.handled=none)(ap:ZApart z TI TO i1 i2)(n1:l1 ∉ [z,TO,i1,i2])(n2:l2 ∉ [z,TO,i1,i2])(i12:i1≠i2)
 (Z:ZipAt s.heap z TI TO)(hTI:IsPair s.heap TI (.ref i1) (.ref i2))(hTO: ∃a b,IsPair s.heap TO a b)(t1:s.heap.IsTuple l1 xs)(t2:s.heap.IsTuple l2 ys)(at1:s.heap.IsTupleIter i1 l1 i)(at2:s.heap.IsTupleIter i2 l2 i)
 (pair: ∀x y h' tk,xs[i]? =some x->ys[i]? =some y->(∀b o,b ∉ [z,TO,i1,i2]->s.heap.get? b=some o->h'.get? b=some o)->IsPair h' s.heap.objs.size x y->ZipAt h' z TI TO->IsPair h' TI (.ref i1) (.ref i2)->(∃a b,IsPair h' TO a b)->
  h'.IsTupleIter i1 l1 (i+1)->h'.IsTupleIter i2 l2 (i+1)->Q (some (.ref s.heap.objs.size)) {s with heap:=h',toks:=tk})
 (ended:(xs.size<=i\/ys.size<=i)-> ∀h' tk,(∀b o,b ∉ [z,TO,i1,i2]->s.heap.get? b=some o->h'.get? b=some o)->Q none {s with heap:=h',toks:=tk}):wpAny (model prog w) A (pyNext (.ref z)) Q E s:=by
 have sub: ∀ {b:Addr} {W:List Addr},b ∉ [z,TO,i1,i2]->(∀c∈W,c∈ [z,TO,i1,i2])->b ∉ W:=λn m q=>n (m _ q)
 have z': ∀c∈ [z],c∈ [z,TO,i1,i2]:=by simp
 have o': ∀c∈ [TO],c∈ [z,TO,i1,i2]:=by simp
 have a': ∀c∈ [i1],c∈ [z,TO,i1,i2]:=by simp
 have b': ∀c∈ [i2],c∈ [z,TO,i1,i2]:=by simp
 have zo: ∀c∈ [z,TO],c∈ [z,TO,i1,i2]:=by simp
 refine NN Z (RA ap Z hTI hTO λh₁ off₁ isz=> ?_);have u1:h₁.IsTuple l1 xs:=t1.at λo e=>off₁.2 _ _ (sub n1 z') e
 have v1:h₁.IsTupleIter i1 l1 i:=at1.at λo e=>off₁.2 _ _ (by simp [ap.z1.symm]) e
 have stop: ∀ {h h':Heap} {it e:Addr},z≠it->Heap.ExtBut it h h'->(∃o,h.get? z=some o/\o.cls= .type "zip")->(∃o,h'.get? e=some o/\o.cls= .type "StopIteration")->e≠z:=λnz x ⟨o,e1,c1⟩ ⟨o2,e2,c2⟩ q=>by
  subst q;rw [x _ _ nz e1] at e2;cases e2;rw [c1] at c2;simp at c2
 cases hx:xs[i]? with
 |none=>
  refine zT (s:= {s with heap:=h₁}) calm v1 u1 hx λh' e grown st=>⟨λo q=>grown _ _ ap.z1 q,λh2 k=>⟨?_,ended (.inl (Y9.mp hx)) _ _ λb o n q=>k _ _ (λy=>sub n z' (by simp [y])) (grown _ _ (λy=>sub n a' (by simp [y])) (off₁.2 _ _ (sub n z') q))⟩⟩
  have ne:=stop ap.z1 grown isz st;obtain⟨o,q,c⟩:=st;exact⟨o,k _ _ ne q,c⟩
 |some x=>
  refine JD (s:= {s with heap:=h₁}) v1 u1 hx λh1' w1 same₁=>⟨.of same₁ (by simp),λh₂ off₂=> ?_⟩
  have all: ∀ {b o},b ∉ [z,TO,i1,i2]->s.heap.get? b=some o->h₂.get? b=some o:=λn e=>off₂.2 _ _ (sub n o') (same₁.extBut _ _ (λy=>sub n a' (by simp [y])) (off₁.2 _ _ (sub n z') e))
  have u2:h₂.IsTuple l2 ys:=t2.at λo e=>all n2 e
  have v2:h₂.IsTupleIter i2 l2 i:=at2.at λo e=>off₂.2 _ _ (by simp [ap.O2.symm]) (same₁.extBut _ _ i12.symm (off₁.2 _ _ (by simp [ap.z2.symm]) e))
  have w2:h₂.IsTupleIter i1 l1 (i+1):=w1.at λo e=>off₂.2 _ _ (by simp [ap.O1.symm]) e
  have isz2: ∃o,h₂.get? z=some o/\o.cls= .type "zip" :=let ⟨o,e,c⟩:=isz;⟨o,off₂.2 _ _ (by simp [ap.zO]) (same₁.extBut _ _ ap.z1 e),c⟩;cases hy:ys[i]? with
  |none=>
   refine zT (s:= {s with heap:=h₂}) calm v2 u2 hy λh' e grown st=>⟨λo q=>grown _ _ ap.z2 q,λh3 k=>⟨?_,ended (.inr (Y9.mp hy)) _ _ λb o n q=>k _ _ (λy=>sub n z' (by simp [y])) (grown _ _ (λy=>sub n b' (by simp [y])) (all n q))⟩⟩
   have ne:=stop ap.z2 grown isz2 st;obtain⟨o,q,c⟩:=st;exact⟨o,k _ _ ne q,c⟩
  |some y=>
   refine JD (s:= {s with heap:=h₂}) v2 u2 hy λh2' w3 same₂=>⟨.of same₂ (by simp),λh₃ kept new zip its out=> ?_⟩
   have size:h2'.objs.size=s.heap.objs.size:=by rw [same₂.1,off₂.1,same₁.1,off₁.1]
   have done:=pair x y h₃ s.toks hx hy (λb o n e=>kept _ _ (sub n zo) (same₂.extBut _ _ (λy=>sub n b' (by simp [y])) (all n e))) (size ▸ new) zip its out
    (w2.at λo e=>kept _ _ (by simp [ap.z1.symm,ap.O1.symm]) (same₂.extBut _ _ i12 e)) (w3.at λo e=>kept _ _ (by simp [ap.z2.symm,ap.O2.symm]) e)
   rw [<-size] at done;exact done
theorem Pr (n:Nat):ZApart (n+4) (n+2) (n+3) n (n+1):=by
 have d: ∀ {i j:Nat},i≠j->n+i≠n+j:=λh q=>h (Nat.add_left_cancel q)
 exact⟨d (j:=0) (by decide),d (by decide),d (by decide),d (by decide),d (j:=0) (by decide),d (by decide),d (by decide),d (j:=0) (by decide),d (by decide)⟩
theorem Uv {c:Nat}(h:c<n):c ∉ [n+4,n+3,n,n+1]:=by
 simp only [R6,B1,G0m,not_or];omega
theorem NP {c:Nat}(h:c∈ [n+4,n+2,n+3,n,n+1]):n<=c:=by
 simp only [R6,B1,G0m] at h;omega
theorem Gw {E:Value->Shared->Prop}{s:Shared}{z TI TO:Addr}{Q:Value->Shared->Prop}(Z:ZipAt s.heap z TI TO)(h:Q (.ref z) s):wpAny (model prog w) A (pyIter (.ref z)) Q E s:=by
 obtain⟨_,_,hz,_⟩:=Z;have ty:s.TypeIs (.ref z) "zip" :=⟨_,hz,rfl⟩;exact wpAny_pyIter_slot ty F.slot_zip_iter (C7 F.slot_zip_iter ty F.entry_zip_iter (P1 ⟨_,rfl,_,_,ty,F.slot_zip_next.lookup,h⟩) (F.args_zip_iter_1 _))
theorem NQ {P:Program}(tg:Expr)(l1 l2 z TI TO i1 i2:Addr)(ap:ZApart z TI TO i1 i2)(n1:l1 ∉ [z,TO,i1,i2])(n2:l2 ∉ [z,TO,i1,i2])(i12:i1≠i2):
 Turn P w K tg (Itz K l1 l2) [z,TI,TO,i1,i2] z (λi h=>ZipAt h z TI TO/\IsPair h TI (.ref i1) (.ref i2)/\(∃a b,IsPair h TO a b)/\h.IsTupleIter i1 l1 i/\h.IsTupleIter i2 l2 i):=by
 have inW: ∀ {b:Addr},b ∉ [z,TI,TO,i1,i2]->b ∉ [z,TO,i1,i2]:=λn q=>n (by simp only [R6] at q ⊢;rcases q with q|q|q|q|q<;>simp [q] at*)
 have there: ∀ {i:Nat} {h:Heap},(ZipAt h z TI TO/\IsPair h TI (.ref i1) (.ref i2)/\(∃a b,IsPair h TO a b)/\h.IsTupleIter i1 l1 i/\h.IsTupleIter i2 l2 i)-> ∀b∈ [z,TI,TO,i1,i2],∃o,h.get? b=some o/\ ∀v,o.data≠ .cell v:=λ⟨⟨_,_,a1,_⟩,a2,⟨_,_,a3⟩,⟨o4,a4,_,d4⟩,⟨o5,a5,_,d5⟩⟩ b hb=>by
  simp only [R6,B1,G0m] at hb;rcases hb with e|e|e|e|e<;>subst e
  ·exact⟨_,a1,λv z=>by cases z⟩
  ·exact⟨_,a2,λv z=>by cases z⟩
  ·exact⟨_,a3,λv z=>by cases z⟩
  ·exact⟨o4,a4,λv z=>by rw [d4] at z;cases z⟩
  ·exact⟨o5,a5,λv z=>by rw [d5] at z;cases z⟩
 refine⟨by simp,λi h st=>there st,λi h h' ⟨⟨f,b,a1,qf⟩,a2,⟨x,y,a3⟩,a4,a5⟩ q=>⟨⟨f,b,q z (by simp) _ a1,qf⟩,q TI (by simp) _ a2,⟨x,y,q TO (by simp) _ a3⟩,a4.at λo e=>q i1 (by simp) o e,a5.at λo e=>q i2 (by simp) o e⟩,?_,?_,λ_ _ _ _ _ st h=>Gw st.1 h⟩
 ·intro X hP hw hK hc i pins s σ H E I hf st hg;subst hP hw hK;obtain⟨xs,ys,x,y,hq,hq2,hx,hy⟩:=hg;obtain⟨its,rv,p,_⟩:=I.tuple hq;obtain⟨jts,rw',p2,_⟩:=I.tuple hq2;obtain⟨u,hu,ru⟩:=rv.get hx;obtain⟨v,hv,rv'⟩:=rw'.get hy;obtain⟨a1,a2,a3,a4,a5⟩:=id st;have lt: ∀b∈ [z,TI,TO,i1,i2],b≠s.heap.objs.size:=λb hb=>let ⟨_,e,_⟩:=there st b hb;S3 (D5 e)
  have l1':i<its.toArray.size:=by have:=(G7.mp hu).1;simpa using this
  have l2':i<jts.toArray.size:=by have:=(G7.mp hv).1;simpa using this
  refine Uu (I.ok.hd hc) ap n1 n2 i12 a1 a2 a3 p p2 a4 a5 (λx' y' h' tk hx' hy' kept new zip it out w1 w2=>⟨_,rfl,?_⟩) λends=>absurd ends (by omega)
  have ex:x'=u:=by simp only [G0C] at hx';rw [hu] at hx';cases hx';rfl
  have ey:y'=v:=by simp only [G0C] at hy';rw [hv] at hy';cases hy';rfl
  subst ex ey;refine La (s:= {s with heap:=h',toks:=tk}) zip λh2 zip2 off=> ?_
  have hn:H s.heap.objs.size=none:=I.hok.fresh (G9 _);have nz: ∀ {b},b≠z->b ∉ [z]:=λh=>by simpa using h
  have T2:IsPair h2 s.heap.objs.size x' y':=off.2 _ _ (nz (lt z (by simp)).symm) new;refine⟨.ref s.heap.objs.size,upd H s.heap.objs.size (.tup [x,y]),?_,rfl,⟨_,x,y,hn,λws hw=>by rw [I.tuple_inj hw hq];exact hx,λws hw=>by rw [I.tuple_inj hw hq2];exact hy,rfl,rfl⟩,
   ⟨zip2,off.2 _ _ (nz ap.zI.symm) it,let ⟨a,b,e⟩:=out;⟨a,b,off.2 _ _ (nz ap.zO.symm) e⟩,w1.at λo e=>off.2 _ _ (nz ap.z1.symm) e,w2.at λo e=>off.2 _ _ (nz ap.z2.symm) e⟩,λb hb=> ?_⟩
  ·refine I.turnLaid (h':=h2) (t':=tk) (ch:= [z,TI,TO,i1,i2]) (λb u hb q=>off.2 _ _ (λy=>inW hb (by simp only [G5] at y;simp [y])) (kept b u (inW hb) q)) hf (G9 _) ⟨by show 2<=sizeLine;decide,[x',y'],.cons ru (.cons rv' .nil),⟨_,T2,rfl,rfl,_,rfl⟩⟩
  ·rw [jl (lt b hb)];exact(hf b hb).1
 ·intro X hP hw hK hc i pins s σ H E I hf st hg;subst hP hw hK;obtain⟨xs,ys,hq,hq2,hl⟩:=hg;obtain⟨its,rv,p,_⟩:=I.tuple hq;obtain⟨jts,rw',p2,_⟩:=I.tuple hq2;have e1:=rv.length;have e2:=rw'.length;obtain⟨a1,a2,a3,a4,a5⟩:=id st;refine Uu (I.ok.hd hc) ap n1 n2 i12 a1 a2 a3 p p2 a4 a5 (λx' y' h' tk hx' hy' _ _ _ _ _ _ _=> ?_) λ_ h' tk kept=>⟨rfl,I.turnL (ch:= [z,TI,TO,i1,i2]) (λb o hb q=>kept b o (inW hb) q) hf⟩
  have b1:=(Z0.mp hx').1;have b2:=(Z0.mp hy').1;simp only [D0] at b1 b2;omega
section
variable {X:Cx}
def Hs (K:PySem.W.Frag)(ta:TA):TI:=λσ H R=>ta σ H λvs H1=> ∃a b,vs= [.ref a,.ref b]/\(∃xs,SqT K H1 a xs)/\(∃ys,SqT K H1 b ys)/\R (Itz K a b) H1
theorem Ek {tg:Expr}{a b:Expr}{ta:TA}{p pos:Pos}(hg:Gl X "zip")(hm:X.mg "zip" =none)(ha:PA X [a,b] ta)(hs:starEach [a,b] X.env= [(false,eval a X.env),(false,eval b X.env)]:=by rfl)(hs2:starEach [b] X.env= [(false,eval b X.env)]:=by rfl):
 PI X tg (.Call (.Name "zip" p) [a,b] [] pos) (Hs X.K ta):=by
 intro pins s σ H R I h;refine Call_ (Yg I hg hm boot_zip (O6 (thn (ha pos pins s σ H _ I h) λus s1 ⟨vs,H1,I1,r1,q1⟩=> ?_) (by rw [hs,hs2]) (by rw [hs2];rfl)));obtain⟨a,b,e,⟨xs,hq⟩,⟨ys,hq2⟩,q⟩:=q1;subst e;cases r1 with
 |cons r rr=>
  cases rr with
  |cons r' rr=>
   cases rr;cases r;cases r';obtain⟨its,rv,p,_⟩:=I1.tuple hq;obtain⟨jts,rw',p2,_⟩:=I1.tuple hq2;have la:a<s1.heap.objs.size:=by obtain⟨o,ho,_⟩:=p;exact D5 ho
   have lb:b<s1.heap.objs.size:=by obtain⟨o,ho,_⟩:=p2;exact D5 ho
   refine Ut (show s1.heap.IsTuple a its.toArray from p) (show s1.heap.IsTuple b jts.toArray from p2) λh' n en z1 z2 z3 z4 z5 hk=> ?_
   subst en;refine Gw z1 ⟨s1.heap.objs.size+4,[s1.heap.objs.size+4,s1.heap.objs.size+2,s1.heap.objs.size+3,s1.heap.objs.size,s1.heap.objs.size+1],_,_,H1,rfl,I1.kept (t':=s1.toks) hk,
    NQ _ a b _ _ _ _ _ (Pr _) (Uv la) (Uv lb) (S3 (L6 _)),⟨z1,z2,z3,z4,z5⟩,λc hc=> ?_,q⟩
   have hb':s1.heap.objs.size<=c:=NP hc;exact I1.fpOk hb' (I1.hok.fresh hb')
end
def Co (ds es:List D):List D:=(ds.zip es).map λp=> .tup [p.1,p.2]
def iZ (ta:TAD):TID:=λσ h R=>ta σ h λxs h1=> ∃ds es,xs= [.tup ds,.tup es]/\R (λ_=>some (Co ds es)) h1
theorem NR {ds es:List D}{d:D}(h:(Co ds es)[i]? =some d): ∃x y,ds[i]? =some x/\es[i]? =some y/\d= .tup [x,y]:=by
 unfold Co at h;rw [P3] at h;cases q:(ds.zip es)[i]? with
 |none=>rw [q] at h;cases h
 |some p=>
  rw [q] at h;obtain⟨x,y⟩:=p;rw [List.getElem?_zip_eq_some] at q;exact⟨x,y,q.1,q.2,(M5 h).symm⟩
section
variable {K:PySem.W.Frag}
theorem NS {H:Hp}{a b:Addr}{vs us:List V}{ds es:List D}(hv:H a=some (.tup vs))(r:RelDs K H ds vs)(hu:H b=some (.tup us))(ru:RelDs K H es us):Fx K H (λ_=>some (Co ds es)) (Itz K a b):=λH' h' k rh ds' e i=>by
 cases e;have hv':=k.tup _ _ hv;have hu':=k.tup _ _ hu;have r':=r.mono k;have ru':=ru.mono k;refine⟨λd hd=> ?_,λhl=>⟨vs,us,SqT.of hv',SqT.of hu',?_⟩⟩
 ·obtain⟨x,y,hx,hy,ed⟩:=NR hd;subst ed;obtain⟨v,e1,e2⟩:=r'.get hx;obtain⟨u,e3,e4⟩:=ru'.get hy;refine⟨⟨vs,us,v,u,SqT.of hv',SqT.of hu',e1,e3⟩,λx' H'' ⟨p,v',u',hp,hx',hy',ex,eH⟩=> ?_⟩;subst ex eH;have ev:v'=v:=by have:=hx' vs (SqT.of hv');rw [e1] at this;exact(M5 this).symm
  have eu:u'=u:=by have:=hy' us (SqT.of hu');rw [e3] at this;exact(M5 this).symm
  subst ev eu;have k2:Kept H' (upd H' p (.tup [v',u'])):= .new hp;exact⟨k2,RelH.new rh hp,p,[v',u'],rfl,jt,_,_,rfl,e2.mono k2,_,_,rfl,e4.mono k2,rfl⟩
 ·have l1:=r.length;have l2:=ru.length;unfold Co at hl;rw [G1,List.length_zip] at hl;omega
theorem El {ta:TAD}: ∀σ H R,LI K (iZ ta) σ H R->Hs K (LA K ta) σ H R:=λσ H R ⟨σd,h,Rd,rs,rh,q,p⟩=>
 LA.bind rs rh q λds vs h1 H1 k1 rs1 rh1 r1 ⟨es,fs,e,q1⟩=>by
  subst e;obtain⟨v,w,e,r2,r3⟩:=yA r1;obtain⟨a,ws,e',hv,r⟩:=(show ∃a vs,v= .ref a/\H1 a=some (.tup vs)/\RelDs K H1 es vs from r2);obtain⟨b,us,e'',hu,r'⟩:=(show ∃a vs,w= .ref a/\H1 a=some (.tup vs)/\RelDs K H1 fs vs from r3);subst e' e'';exact⟨a,b,e,⟨ws,SqT.of hv⟩,⟨us,SqT.of hu⟩,p _ _ _ _ k1 rh1 (NS hv r hu r') q1⟩
end
section
variable {X:Cx}
theorem Em {tg:Expr}{a b:Expr}{ta:TAD}{p pos:Pos}(hg:Gl X "zip")(hm:X.mg "zip" =none)(ha:JA X [a,b] ta)(hs:starEach [a,b] X.env= [(false,eval a X.env),(false,eval b X.env)]:=by rfl)(hs2:starEach [b] X.env= [(false,eval b X.env)]:=by rfl):
 JI X tg (.Call (.Name "zip" p) [a,b] [] pos) (iZ ta):=⟨(Ek hg hm ha.to hs hs2).imp El⟩
end
def inE (neg:Bool):RD2:=λx y h Q=> ∃ (p:PyData) (ps:List PyData),ToP h x p/\(ToP h y (.list ps)\/ToP h y (.tuple ps))/\p.canLay0=true/\PyData.canLayAll0 ps=true/\p.depth<=60/\Q (.bl (neg !=ps.any λz=>PyData.eqv z p)) h
section
variable {X:Cx}
theorem En (hu:X.A.units+64<cLine):OpQ X (compareOp .In) (inE false):=by
 intro pins s σ H x y v u Q I rx ry h;obtain⟨dx,dy,h,Qd,r1,r2,rh,⟨p,ps,t1,t2,c1,c2,c3,qq⟩,post⟩:=h;obtain⟨as,a1⟩:=zR I rh t1 r1 rx;have hu':X.A.units+1+min (PyData.depthAll ps) p.depth<cLine:=by have:=W5 (PyData.depthAll ps) p.depth;omega
 have q':Qd (.bl (ps.any λz=>PyData.eqv z p)) h:=by simpa using qq
 rcases t2 with t2|t2
 ·obtain⟨bs,b1⟩:=zR I rh t2 r2 ry;exact in_list_reads b1 a1 c2 c1 hu' ⟨.bl _,H,I,rfl,post (.bl _) _ _ _ (.refl H) rh rfl q'⟩
 ·obtain⟨bs,b1⟩:=zR I rh t2 r2 ry;exact in_tuple_reads b1 a1 c2 c1 hu' ⟨.bl _,H,I,rfl,post (.bl _) _ _ _ (.refl H) rh rfl q'⟩
theorem NT (hu:X.A.units+64<cLine):OpQ X (compareOp .NotIn) (inE true):=by
 intro pins s σ H x y v u Q I rx ry h;obtain⟨dx,dy,h,Qd,r1,r2,rh,⟨p,ps,t1,t2,c1,c2,c3,qq⟩,post⟩:=h;obtain⟨as,a1⟩:=zR I rh t1 r1 rx;have hu':X.A.units+1+min (PyData.depthAll ps) p.depth<cLine:=by have:=W5 (PyData.depthAll ps) p.depth;omega
 have q':Qd (.bl (!ps.any λz=>PyData.eqv z p)) h:=by simpa using qq
 rcases t2 with t2|t2
 ·obtain⟨bs,b1⟩:=zR I rh t2 r2 ry;exact notIn_list_reads b1 a1 c2 c1 hu' ⟨.bl _,H,I,rfl,post (.bl _) _ _ _ (.refl H) rh rfl q'⟩
 ·obtain⟨bs,b1⟩:=zR I rh t2 r2 ry;exact notIn_tuple_reads b1 a1 c2 c1 hu' ⟨.bl _,H,I,rfl,post (.bl _) _ _ _ (.refl H) rh rfl q'⟩
end
def Ht (i:Nat)(f:Int->Int->Int)(te:TED):TSD:=λD σ h=> ∃x:Int,σ[i]? =some (some (.int x))/\te σ h λy h1=> ∃j:Int,y= .int j/\D.nx (σ.set i (some (.int (f x j)))) h1
theorem Eo {f:Int->Int->Int}{te:TED}: ∀D σ H,LS K (Ht i f te) D σ H->TU i (LE K te) (ipI f) D σ H:=λD σ H ⟨σd,h,Dd,rs,rh,⟨x,hx,q⟩,nx,rt,bk,ct⟩=>by
 obtain⟨v,e1,r1⟩:=rs.2 i _ hx;cases (show v= .int x from r1);exact⟨_,e1,LE.bind rs rh q λd u h1 H1 k1 rs1 rh1 r1 ⟨j,e,q1⟩=>by
  subst e;cases (show u= .int j from r1);exact⟨x,j,rfl,rfl,nx _ _ _ _ k1 (rs1.set (d:= .int (f x j)) rfl i) rh1 q1⟩⟩
section
variable {X:Cx}{i:Nat}{x:Str}{e:Expr}{te:TED}{pos pos':Pos}
theorem Lb (hN:X.N.Nodup)(hi:X.N[i]? =some x)(hx:Loc X.env.scope x)(he:JE X e te)(hf:X.fn x=true\/X.env.scope.names.lookup x=some .local:=by first|exact .inl rfl|exact .inr rfl|assumption):JS X (.AugAssign (.Name x pos') .Add e pos) (Ht i (λa b=>a+b) te):=⟨(OL hN hi hx he.to OM hf).imp Eo⟩
end
theorem NU {X:Cx}(hu:X.A.units+64<cLine):MtM X "list.index" (λx vs H Q=> ∃ (a:Addr) (y:V) (dy:D) (h:HD) (p:PyData) (ps:List PyData) (j:Nat) (z:PyData),x= .ref a/\vs= [y]/\RelD X.K H dy y/\RelH X.K h H/\ToP h (.lst a) (.list ps)/\ToP h dy p/\p.canLay0=true/\PyData.canLayAll0 ps=true/\p.depth<=60/\j<1000000/\ps[j]? =some z/\PyData.eqv z p=true/\(∀m y,m<j->ps[m]? =some y->PyData.eqv y p=false)/\Q (.int (j:Int)) H):=by
 intro pins s σ H x vs v us Q I rx rv h;obtain⟨a,y,dy,h,p,ps,j,z,rfl,rfl,rd,rh,t1,t2,c1,c2,c3,hj,hz,hit,hno,q⟩:=h;cases rx;obtain⟨u,rfl,ru⟩:=YL rv;obtain⟨a',ds,ea,ha,ts⟩:=(show ∃a' ds,D.lst a= .lst a'/\h a'=some ds/\ToPs h ds ps from t1);cases ea;obtain⟨ws,hH,_⟩:=rh a ds ha;obtain⟨as,r1⟩:=zR I rh t1 (show RelD X.K H (.lst a) (.ref a) from ⟨rfl,ws,hH⟩) (show RelV (.ref a) (.ref a) from rfl);obtain⟨bs,r2⟩:=zR I rh t2 rd ru;cases r1 with
 |list h1 h2 h3 h4=>
  rename_i o its n cs;have em:=readsAll_map ps _ _ c2 h4;have gm: ∀m (hm:m<its.size),ps[m]? =some (readOf s.heap its[m]):=λm hm=>by
   rw [<-em,P3,T9,Array.getElem?_eq_getElem hm];rfl
  have hlen:its.size=ps.length:=by rw [<-em,G1,T4]
  have hjs:j<its.size:=by rw [hlen];exact(G7.mp hz).1
  have hu':X.A.units+1+min (PyData.depthAll ps) p.depth<cLine:=by have:=W5 (PyData.depthAll ps) p.depth;omega
  obtain⟨oc,od,odt,osl⟩:=o;simp only at h2 h3;subst h2 h3;refine G0I F.slot_list_index ⟨_,h1,rfl⟩ F.entry_list_index (F.args_list_index_2 _ _) (list_indexAt a its n od osl u (λy=>PyData.eqv (readOf s.heap y) p) j hjs (by omega) ?_ ?_) ⟨h1,items_eqAt h4 r2 c2 c1 hu',?_⟩
  ·have:=gm j hjs;rw [hz] at this;injection this with this
   rw [<-this];exact hit
  ·intro m hm hmj;exact hno m _ hmj (gm m hm)
  ·exact⟨.int (j:Int),H,I.tok _,⟨_,rfl⟩,q⟩
def Kl (to te:TED):TED:=λσ h Q=>to σ h λx h1=> ∃a,x= .lst a/\te σ h1 λy h2=> ∃ (p:PyData) (ps:List PyData) (j:Nat) (z:PyData),ToP h2 (.lst a) (.list ps)/\ToP h2 y p/\p.canLay0=true/\PyData.canLayAll0 ps=true/\p.depth<=60/\j<1000000/\ps[j]? =some z/\PyData.eqv z p=true/\(∀m y,m<j->ps[m]? =some y->PyData.eqv y p=false)/\Q (.int (j:Int)) h2
section
variable {X:Cx}{o e i:Expr}{to te ti:TED}{apos cpos:Pos}
theorem Km (hu : X.A.units + 64 < cLine) (ho : JE X o to) (he : JE X e te) (hbase : attributeBase o "index" X.env (eval o X.env) = eval o X.env := by rfl)
    (hfew : ((backTo cpos (starEach [e] X.env)).all (fun x => !x.1) && (backToKw cpos (keywordEach [] X.env)).all (fun x => x.1.isSome) && decide ([e].length + ([] : List Keyword).length + (if ([] : List Keyword).isEmpty then 0 else 1) < 30)) = true := by rfl)
    (hline : (apos.endLine == cpos.line) = true := by rfl) (hs : starEach [e] X.env = (false, eval e X.env) :: starEach [] X.env := by rfl) (hplain : (backTo cpos (starEach [] X.env)).any (·.1) = false := by rfl) :
    JE X (.Call (.Attribute o "index" apos) [e] [] cpos) (Kl to te) :=
  ⟨(Ad G0n PySem.F.slot_list_index PySem.F.type_list_index (NU hu) ho.to (ZM he.to pa_nil hs) hbase hfew hline hs hplain).imp
    fun σ H Q ⟨σd, h, Qd, rs, rh, t, p⟩ => LE.bind rs rh t fun d v h1 H1 k1 rs1 rh1 r1 ⟨a, e, q⟩ => by
      subst e
      obtain ⟨e1, vs, hH⟩ := (show v = .ref a ∧ ∃ vs, H1 a = some (.lst vs) from r1)
      subst e1
      refine ⟨.inl ⟨rfl, vs, SqL.of hH⟩, ?_⟩
      refine LE.bind rs1 rh1 q fun y u h2 H2 k2 rs2 rh2 r2 ⟨pd, ps, j, z, t1, t2, c1, c2, c3, hj, hz, hit, hno, q2⟩ => ?_
      exact ⟨a, u, y, h2, pd, ps, j, z, rfl, rfl, r2, rh2, t1, t2, c1, c2, c3, hj, hz, hit, hno, p (.int _) _ _ _ (k1.trans k2) rh2 rfl q2⟩⟩
end
variable {Q:KD}
theorem Lc {js:List Nat}{ta:TAD}{tt:TTD}{te:TED}{σ:SD}{h1:HD}(n:Nat)(W:Nat->List D->HD->Prop)(hn:n<=1000)(ht: ∀R:List D->HD->Prop,R [.int (n:Int)] h1->ta σ h R)
 (w0:W 0 [] h1)(wl: ∀k ys h',W k ys h'->ys.length<=k)(turn: ∀k ys h',k<n->W k ys h'->tt ((jP js σ).set i (some (.int (k:Int)))) h' λb h3=>if b=true then te ((jP js σ).set i (some (.int (k:Int)))) h3 λy h4=> ∃h5,Sub h5 h4/\(k+1<=n/\W (k+1) (ys++ [y]) h5) else ∃h5,Sub h5 h3/\(k+1<=n/\W (k+1) ys h5))
 (done: ∀ys h',W n ys h'-> ∀p,h' p=none->Q (.lst p) (zY h' p ys)):vb (bN i) js (iR1 ta) tt te σ h Q:=by
 refine ht _ ⟨(n:Int),rfl,by omega,by omega,n,λk ys h'=>k<=n/\W k ys h',⟨T3 _,w0⟩,?_⟩;rintro k ys h' ⟨hk,w⟩;refine⟨D7 (wl k ys h' w) (D8 (jA (by omega))),_,rfl,by simp,λhl p hp=> ?_,λd hd=>⟨_,rfl,?_⟩⟩
 ·have:k=n:=by simp at hl;omega
  subst this;exact done _ _ w p hp
 ·obtain⟨hi',e⟩:=ZX hd;have hk2:k<n:=by omega
  subst e;exact turn k ys h' hk2 w
section
variable {α:Type}{i i':Nat}{js:List Nat}{ti:TID}{te:TED}{σ:SD}{h:HD}{Q:KD}{j:ItD}
theorem Kn (xs:List α)(c c' g:α->D)(hz:xs.length<=1000)(hj:j h=some (xs.map λx=> .tup [c x,c' x]))(ht: ∀R:ItD->HD->Prop,R j h->ti σ h R)
 (he: ∀x∈xs,∀Q':KD,Q' (g x) h->te (((jP js σ).set i (some (c x))).set i' (some (c' x))) h Q')(hq: ∀p,h p=none->Q (.lst p) (zY h p (xs.map g))):vb (b2 i i') js ti WS te σ h Q:=by
 refine ht _ ⟨xs.length,λk ys h'=>h'=h/\ys=(xs.take k).map g,⟨rfl,by simp⟩,?_⟩;rintro k ys h' ⟨rfl,rfl⟩;refine⟨by simp only [G1,R1];exact D8 (jA (by omega)),_,hj,by simp,λhl p hp=> ?_,λd hd=> ?_⟩
 ·rw [R5 (by simpa using hl)];exact hq p hp
 ·rw [P3] at hd;cases hx:xs[k]? with
  |none=>rw [hx] at hd;cases hd
  |some x=>
   rw [hx] at hd;cases hd;refine⟨_,⟨_,_,rfl,rfl⟩,?_⟩;unfold WS;dsimp only;rw [if_pos rfl];refine he x (G6 hx) _ ⟨h',Sub.refl _,rfl,?_⟩;rw [M0,hx];simp
theorem Tv (xs:List α)(c c':α->D)(g:α->Bool)(hz:xs.length<=1000)(hj:j h=some (xs.map λx=> .tup [c x,c' x]))(ht: ∀R:ItD->HD->Prop,R j h->ti σ h R)
 (he: ∀x∈xs,∀Q':KD,Q' (.bl (g x)) h->te (((jP js σ).set i (some (c x))).set i' (some (c' x))) h Q')(hq:Q (.bl (xs.all g)) h):dCB FM (yu (vb (b2 i i') js ti WS te) Uj) σ h Q:=by
 show vb (b2 i i') js ti WS te σ h (λx h1=>FM [x] h1 Q);exact Kn xs c c' (λx=> .bl (g x)) hz hj ht he λp hp=>⟨p,xs.map g,rfl,by rw [jd,S6];rfl,by rw [zK hp,H0];exact hq⟩
end
def IsS (n:Nat)(S:List Nat):Prop:= ∃p:Nat->Bool,S=(List.range n).filter p
variable {S:List Nat}
theorem IsS.lt (h:IsS n S){i:Nat}(hi:i∈S):i<n:=by
 obtain⟨p,rfl⟩:=h;exact D1.mp (S7.mp hi).1
theorem IsS.len (h:IsS n S):S.length<=n:=by
 obtain⟨p,rfl⟩:=h;have:=B0 p (List.range n)
 rwa [D9] at this
theorem IsS.rise (h:IsS n S):S.Pairwise (· < ·):=by
 obtain⟨p,rfl⟩:=h;exact List.pairwise_lt_range.filter p
def jL (n:Nat)(T:List (List Int))(S:List Nat):List Nat:=(List.range n).filter λj=>S.any λi=>decide (ent T i j≠0)
theorem IsS.step (T:List (List Int))(S:List Nat):IsS n (jL n T S):=⟨_,rfl⟩
def itF {α:Type}(f:α->α)(x:α):Nat->α
 |0=>x
 |k+1=>f (itF f x k)
variable {α:Type}
theorem XW (f:α->α)(x:α)(a:Nat): ∀b,itF f x (a+b)=itF f (itF f x a) b
 |0=>rfl
 |b+1=>by show f (itF f x (a+b))=f (itF f (itF f x a) b);rw [XW f x a b]
theorem Uw {α:Type}{f:α->α}{x:α}{a p:Nat}(e:itF f x (a+p)=itF f x a)(r:Nat): ∀q,itF f x (a+p*q+r)=itF f x (a+r)
 |0=>by simp
 |q+1=>by
  have h1:a+p*(q+1)+r=(a+p)+(p*q+r):=by rw [Nat.mul_succ];omega
  rw [h1,XW,e,<-XW,<-E8,Uw e r q]
theorem Ld {α:Type}{f:α->α}{x:α}{a m k:Nat}(e:itF f x m=itF f x a)(ha:a<m)(hk:a<=k):itF f x (a+(k-a)%(m-a))=itF f x k:=by
 have e':itF f x (a+(m-a))=itF f x a:=by rw [show a+(m-a)=m by omega];exact e
 have h:=Uw e' ((k-a)%(m-a)) ((k-a) / (m-a));have h2:=U6 (k-a) (m-a);rw [show a+(m-a)*((k-a) / (m-a))+(k-a)%(m-a)=k by omega] at h;exact h.symm
theorem IsS.it (h:IsS n S): ∀k,IsS n (itF (jL n T) S k)
 |0=>h
 |_+1=>IsS.step _ _
theorem Ux [DecidableEq α]: ∀ {l m:List α},l.Nodup->(∀x∈l,x∈m)->l.length<=m.length
 | [],_,_,_=>T3 _
 |a::l,m,nd,h=>by
  have hm:=h a P8;have h2:l.length<=(m.erase a).length:=Ux (O7.mp nd).2 λx hx=>by
   have hxa:x≠a:=λe=>(O7.mp nd).1 (e ▸ hx)
   exact(X0 hxa).mpr (h x (R0 _ hx))
  rw [Q8 hm] at h2;have:=A0 hm;simp only [D3];omega
def WU:Nat->List (List Nat)
 |0=> [[]]
 |n+1=>WU n++(WU n).map (· ++ [n])
theorem Uy: ∀n,(WU n).length=2^n
 |0=>rfl
 |n+1=>by
  show (WU n++(WU n).map (· ++ [n])).length=_;rw [G3,G1,Uy n,Nat.pow_succ];omega
theorem Wd (p:Nat->Bool): ∀n,(List.range n).filter p∈WU n
 |0=>by simp [WU]
 |n+1=>by
  rw [L0,C4];show _∈WU n++(WU n).map (· ++ [n]);cases e:p n with
  |true=>
   refine P7.mpr (.inr (P9.mpr ⟨_,Wd p n,?_⟩));simp [e]
  |false=>
   refine P7.mpr (.inl ?_);have: [n].filter p= []:=by simp [e]
   rw [this,B7];exact Wd p n
theorem NV (h6:n<=6){l:List (List Nat)}(nd:l.Nodup)(hS: ∀S∈l,IsS n S):l.length<=64:=by
 have h:=Ux nd (m:=WU n) λS hs=>by obtain⟨p,rfl⟩:=hS S hs;exact Wd p n
 rw [Uy] at h;exact D7 h (W9 (by decide) h6:2^n<=2^6)
def vV (S:List Nat):PyData:=Cn (WT S)
theorem yD (h:HD)(S:List Nat):ToP h (jx S) (vV S):=by rw [FV];exact⟨_,rfl,Wb h _⟩
theorem We (h:HD): ∀Ss:List (List Nat),ToPs h (Ss.map jx) (Ss.map vV)
 | []=>rfl
 |S::Ss=>⟨_,_,rfl,yD h S,We h Ss⟩
theorem wS (r:List Int):(Cn r).canLay0=true:=by unfold Cn;simp only [PyData.canLay0];exact vq r
theorem vw: ∀Ss:List (List Nat),PyData.canLayAll0 (Ss.map vV)=true
 | []=>rfl
 |S::Ss=>by show (PyData.canLay0 (vV S)&&_)=true;rw [vw Ss];rw [show (vV S).canLay0=true from wS _];rfl
theorem yE (r:List Int):(Cn r).depth<=2:=by unfold Cn;simp only [PyData.depth];have:=JC r;omega
theorem Yu: ∀a b:List Int,PyData.eqvAll (a.map PyData.int) (b.map PyData.int)=decide (a=b)
 | [],[]=>by simp [PyData.eqvAll]
 | [],_::_=>by simp [PyData.eqvAll]
 |_::_,[]=>by simp [PyData.eqvAll]
 |x::a,y::b=>by
  show ((x==y)&&PyData.eqvAll (a.map .int) (b.map .int))=_;rw [Yu a b,N5];simp
theorem Le (a b:List Int):PyData.eqv (Cn a) (Cn b)=decide (a=b):=Yu a b
theorem RB {a b:List Nat}(h:WT a=WT b):a=b:=by
 have:=congrArg (List.map Int.toNat) h;unfold WT at this;simpa [S6,G0g] using this
theorem vx (a b:List Nat):PyData.eqv (vV a) (vV b)=decide (a=b):=by
 unfold vV;rw [Le,N5,K1,K1];exact⟨RB,λe=>by rw [e]⟩
theorem Yv (r:List Int):shaped (Cn r)=true:=by
 unfold shaped;rw [wS,P0 (by have:=yE r;omega)];rfl
theorem Lf {neg:Bool}{Ss:List (List Nat)}{a:Addr}(ha:h a=some (Ss.map jx))(q:Q (.bl (neg !=decide (S∈Ss))) h):inE neg (jx S) (.lst a) h Q:=by
 refine⟨vV S,Ss.map vV,yD h S,.inl ⟨a,_,rfl,ha,We h Ss⟩,wS _,vw Ss,D7 (yE _) (by decide),?_⟩;have e:((Ss.map vV).any λz=>PyData.eqv z (vV S))=decide (S∈Ss):=by
  rw [N5,G0Z,G0u,K1];constructor
  ·rintro ⟨x,hx,e⟩;have:x=S:=by simpa [Q1,vx] using e
   rw [<-this];exact hx
  ·intro hi;exact⟨S,hi,by simp [Q1,vx]⟩
 rw [e];exact q
theorem Lg {Ss:List (List Nat)}{a:Addr}(ha:h a=some (Ss.map jx))(hS:S∈Ss)(hl:Ss.length<=1000)(q:Q (.int ((Ss.idxOf S:Nat):Int)) h):
 ∃ (p:PyData) (ps:List PyData) (j:Nat) (z:PyData),ToP h (.lst a) (.list ps)/\ToP h (jx S) p/\p.canLay0=true/\PyData.canLayAll0 ps=true/\p.depth<=60/\j<1000000/\ps[j]? =some z/\PyData.eqv z p=true/\(∀m y,m<j->ps[m]? =some y->PyData.eqv y p=false)/\Q (.int (j:Int)) h:=by
 have hj:=Q9.mpr hS;refine⟨vV S,Ss.map vV,Ss.idxOf S,vV S,⟨a,_,rfl,ha,We h Ss⟩,yD h S,wS _,vw Ss,D7 (yE _) (by decide),by omega,?_,by rw [vx,P0 rfl],λm y hm hy=> ?_,q⟩
 ·rw [P3,G0 hj,Z8 hj];rfl
 ·rw [P3] at hy;have hml:m<Ss.length:=by omega
  rw [G0 hml] at hy;cases hy;rw [vx];have:=List.not_of_lt_findIdx (p:=(· ==S)) (xs:=Ss) hm;simpa using this
theorem RC {α:Type}{f:Nat->α}{L:Nat}(h:1<=L):atI ((List.range L).map f) (-1)=some (f (L-1)):=by
 unfold atI ixN;rw [G1,D9,if_neg (by decide),if_pos (by omega)];show ((List.range L).map f)[(-1+(L:Int)).toNat]? =_;rw [show (-1+(L:Int)).toNat=L-1 by omega,P3,B9 (by omega)];rfl
theorem XX {α:Type}{f:Nat->α}{L:Nat}(h:i<L):atI ((List.range L).map f) (i:Int)=some (f i):=
 wE (by rw [P3,B9 h];rfl)
theorem Lh (xs:List α):VX xs (some 1) none=xs.drop 1:=by
 unfold VX;cases xs with
 |nil=>simp
 |cons x xs=>simp [HT.sIx]
theorem Li (S:List Nat):Co (S.map λ(k:Nat)=>D.int (k:Int)) (VX (S.map λ(k:Nat)=>D.int (k:Int)) (some 1) none)=(S.zip (S.drop 1)).map λp=>D.tup [.int (p.1:Int),.int (p.2:Int)]:=by
 rw [Lh];unfold Co;rw [<-List.map_drop,List.zip_map,S6];rfl
theorem Gx: ∀ {S:List Nat},S.Pairwise (· < ·)-> ∀p∈S.zip (S.drop 1),p.1<p.2
 | [],_,p,hp=>by simp at hp
 | [a],_,p,hp=>by simp at hp
 |a::b::l,h,p,hp=>by
  have h':=J1.mp h;rcases R6.mp (show p∈(a,b)::(b::l).zip ((b::l).drop 1) from hp) with e|e
  ·subst e;exact h'.1 b P8
  ·exact Gx h'.2 p e
theorem NW {js:List Nat}{ta:TAD}{tt:TTD}{te:TED}{σ:SD}{h1:HD}(n:Nat)(W:Nat->List D->HD->Prop)(hn:n<=1000)(ht: ∀R:List D->HD->Prop,R [.int (n:Int)] h1->ta σ h R)
 (w0:W 0 [] h1)(wl: ∀k ys h',W k ys h'->ys.length<=k)(turn: ∀k ys h',k<n->W k ys h'->tt ((jP js σ).set i (some (.int (k:Int)))) h' λb h3=>if b=true then te ((jP js σ).set i (some (.int (k:Int)))) h3 λy h4=> ∃h5,Sub h5 h4/\(k+1<=n/\W (k+1) (ys++ [y]) h5) else ∃h5,Sub h5 h3/\(k+1<=n/\W (k+1) ys h5))
 (done: ∀ys h',W n ys h'->Q (.tup ys) h'):dCB vc (yu (vb (bN i) js (iR1 ta) tt te) Uj) σ h Q:=by
 show vb (bN i) js (iR1 ta) tt te σ h (λx h1=>vc [x] h1 Q);exact Lc n W hn ht w0 wl turn λys h' w p hp=>(show ∃zs,zY h' p ys p=some zs/\Q (.tup zs) (YT (zY h' p ys) p) from ⟨_,jd,by rw [zK hp];exact done ys h' w⟩)
structure Enc {α:Type}[DecidableEq α](e:α->D)(p:α->PyData):Prop where
 to: ∀ (h:HD) a,ToP h (e a) (p a)
 lay: ∀a,(p a).canLay0=true
 dp: ∀a,(p a).depth<=60
 eq: ∀a b,PyData.eqv (p a) (p b)=decide (a=b)
section
variable {α:Type}[DecidableEq α]{e:α->D}{p:α->PyData}
theorem Enc.lays (E:Enc e p): ∀as:List α,PyData.canLayAll0 (as.map p)=true
 | []=>rfl
 |a::as=>by show (PyData.canLay0 (p a)&&_)=true;rw [E.lays as,E.lay a];rfl
end
def RP (n:Nat)(T:List (List Int))(k i j:Nat):Prop:=ent (Dc n T k) i j≠0
section
variable {n e:Nat}{T:List (List Int)}
theorem vd (h:Sq n e T)(hn:n<=8)(a b:Nat){i j:Nat}(hi:i<n)(hj:j<n):RP n T (a+b) i j↔ ∃k,k<n/\RP n T a i k/\RP n T b k j:=by
 unfold RP;rw [pow_add h hn a b];exact Ur (h.pow hn a) (h.pow hn b) hi hj
theorem zC {i j:Nat}(hi:i<n)(hj:j<n):RP n T 0 i j↔i=j:=by
 unfold RP;show ent (Rq n) i j≠0↔_;unfold Rq;rw [Yt hi hj]
 by_cases z:i=j
 ·simp [z]
 ·simp [z]
theorem Cp (h:Sq n e T)(hn:n<=8): ∀ (m:Nat) {i j:Nat},i<n->j<n->RP n T m i j-> ∃v:Nat->Nat,v 0=i/\v m=j/\(∀t,t<=m->v t<n)/\ ∀t,t<m->RP n T 1 (v t) (v (t+1))
 |0,i,j,hi,hj,r=>by
  have:=(zC hi hj).mp r;exact⟨λ_=>i,rfl,this,λ_ _=>hi,λt ht=>by omega⟩
 |m+1,i,j,hi,hj,r=>by
  obtain⟨k,hk,r1,r2⟩:=(vd h hn m 1 hi hj).mp r;obtain⟨v,v0,vm,vl,vr⟩:=Cp h hn m hi hk r1;refine⟨λt=>if t<=m then v t else j,?_,?_,λt _=> ?_,λt ht=> ?_⟩
  ·simp [v0]
  ·show (if m+1<=m then v (m+1) else j)=j;rw [if_neg (by omega)]
  ·show (if t<=m then v t else j)<n;split
   ·exact vl t (by assumption)
   ·exact hj
  ·show RP n T 1 (if t<=m then v t else j) (if t+1<=m then v (t+1) else j);rw [if_pos (by omega)]
   by_cases z:t+1<=m
   ·rw [if_pos z];exact vr t (by omega)
   ·rw [if_neg z,show t=m by omega,vm];exact r2
theorem Vf (h:Sq n e T)(hn:n<=8){m:Nat}{v:Nat->Nat}(vl: ∀t,t<=m->v t<n)(vr: ∀t,t<m->RP n T 1 (v t) (v (t+1)))(a:Nat): ∀b,a+b<=m->RP n T b (v a) (v (a+b))
 |0,hb=>(zC (vl a (by omega)) (vl a (by omega))).mpr rfl
 |b+1,hb=>(vd h hn b 1 (vl a (by omega)) (vl _ hb)).mpr ⟨v (a+b),vl _ (by omega),Vf h hn vl vr a b (by omega),vr (a+b) (by omega)⟩
end
theorem Lj (h:i<n):ixN n (i:Int)=some i:=by
 unfold ixN;simp;omega
theorem call_divmodB {X:Cx}:CallR X (.builtin "divmod") (λxs H Q=> ∃i j,xs= [.int i,.int j]/\(0<j/\j<2^200)/\ ∀p,H p=none->Q (.ref p) (upd H p (.tup [.int (i / j),.int (i%j)]))):=by
 intro pins s σ H xs us Q I r h;obtain⟨i,j,rfl,⟨h1,h2⟩,q⟩:=h;obtain⟨u,w',rfl,⟨t,rfl⟩,⟨t',rfl⟩⟩:=CS r;refine divmod_int (by omega) ?_ (.inl (PyProof.noPylong_of_log2 ?_))
 ·rw [Y6 i (by omega),Y7 i (by omega)];have hn:H s.heap.objs.size=none:=I.hok.fresh (G9 _);refine⟨.ref s.heap.objs.size,_,?_,rfl,q _ hn⟩;refine I.laid (λb o e=>G2 _ e) (G9 _) ⟨by simp only [D3,S8];rw [G0Q];decide,[.int (i / j) s.toks,.int (i%j) (s.toks+1)],.cons ⟨_,rfl⟩ (.cons ⟨_,rfl⟩ .nil),?_⟩;exact⟨_,R3 s.heap rfl,rfl,rfl,0,rfl⟩
 ·have h3:j.natAbs<2^200:=Rr (by omega) h2;have h4:=(Nat.log2_lt (by omega:j.natAbs≠0)).mpr h3;omega
def Lk:RDn:=λds h Q=> ∃i j:Int,ds= [.int i,.int j]/\(0<j/\j<2^200)/\Q (.tup [.int (i / j),.int (i%j)]) h
theorem Ps {X:Cx}:Jb X (.builtin "divmod") Lk:=call_divmodB.imp λxs H Q ⟨ds,h,Qd,r,rh,⟨i,j,e,c,q⟩,p⟩=>by
 subst e;obtain⟨v,w,e,r1,r2⟩:=yA r;cases (show v= .int i from r1);cases (show w= .int j from r2);exact⟨i,j,e,c,λa ha=>p (.tup [.int (i / j),.int (i%j)]) _ _ _ (.new ha) (rh.new ha) ⟨a,_,rfl,jt,.cons rfl (.cons rfl .nil)⟩ q⟩
def zd (d:D)(a b:Int):Bool:=match d with
 | .int x=>decide (a<=x)&&decide (x<=b)
 |_=>false
def XY (d:D)(m:Int):Bool:=match d with
 | .tup es=>es.all λx=>zd x 0 (m-1)
 |_=>false
end L2
set_option maxRecDepth 35000
namespace L2
open PySem PySem.Spec PyProof.Rows PySem.SeqAt
section
variable {α:Type}{i i':Nat}{js:List Nat}{ti:TID}{te:TED}{σ:SD}{h:HD}{Q:KD}{j:ItD}
theorem Ko (xs:List α)(c c' g:α->D)(p:α->Bool){tt:TTD}(hz:xs.length<=1000)(hj:j h=some (xs.map λx=> .tup [c x,c' x]))(ht: ∀R:ItD->HD->Prop,R j h->ti σ h R)
 (hp: ∀x∈xs,∀Q':Bool->HD->Prop,Q' (p x) h->tt (((jP js σ).set i (some (c x))).set i' (some (c' x))) h Q')(he: ∀x∈xs,p x=true-> ∀Q':KD,Q' (g x) h->te (((jP js σ).set i (some (c x))).set i' (some (c' x))) h Q')(hq: ∀a,h a=none->Q (.lst a) (zY h a ((xs.filter p).map g))):vb (b2 i i') js ti tt te σ h Q:=by
 refine ht _ ⟨xs.length,λk ys h'=>h'=h/\ys=((xs.take k).filter p).map g,⟨rfl,by simp⟩,?_⟩;rintro k ys h' ⟨rfl,rfl⟩;refine⟨?_,_,hj,by simp,λhl a ha=> ?_,λd hd=> ?_⟩
 ·have:=B0 p (xs.take k);simp only [G1,R1] at this ⊢;exact D8 (jA (by omega))
 ·rw [R5 (by simpa using hl)];exact hq a ha
 ·rw [P3] at hd;cases hx:xs[k]? with
  |none=>rw [hx] at hd;cases hd
  |some x=>
   rw [hx] at hd;cases hd;refine⟨_,⟨_,_,rfl,rfl⟩,?_⟩;refine hp x (G6 hx) _ ?_;cases hb:p x with
   |true=>
    rw [if_pos rfl];refine he x (G6 hx) hb _ ⟨_,Sub.refl _,rfl,?_⟩;rw [M0,hx];simp [hb]
   |false=>
    rw [if_neg (by decide)];refine⟨_,Sub.refl _,rfl,?_⟩;rw [M0,hx];simp [hb]
end
def XC (T:List (List Int))(n p:Nat):List Nat:=(List.range n).filter λj=>decide (ent T p j>0)
def cnt (T:List (List Int))(n o:Nat):Nat->Nat->Int
 |0,p=>if p=o then 1 else 0
 |t+1,p=>((XC T n p).map (cnt T n o t)).sum
section
variable {T:List (List Int)}{n o:Nat}
theorem Ep {p j:Nat}(h:j∈XC T n p):j<n:=D1.mp (S7.mp h).1
theorem Ll (p:Nat):(XC T n p).length<=n:=by
 have:=B0 (λj=>decide (ent T p j>0)) (List.range n)
 rwa [D9] at this
def Kp (T:List (List Int))(n o t p:Nat):Nat:=(XC T n p).findIdx λj=>decide (cnt T n o t j>0)
def nxt (T:List (List Int))(n o t p:Nat):Nat:=(XC T n p).getD (Kp T n o t p) 0
end
theorem NX {α:Type}{xs:List α}{x:α}(h1:1<=xs.length)(h:xs[xs.length-1]? =some x):atI xs (-1)=some x:=by
 unfold atI ixN;rw [if_neg (by decide),if_pos (by omega)];show xs[(-1+(xs.length:Int)).toNat]? =_;rw [show (-1+(xs.length:Int)).toNat=xs.length-1 by omega];exact h
end L2
namespace L2
open PySem PySem.Spec PyProof.Rows PySem.W
abbrev TXD:=SD->HD->(Str->HD->Prop)->Prop
abbrev RDx:=List D->HD->(Str->HD->Prop)->Prop
abbrev N1:List Str:= ["_law_call","_law_found","_law_e","_law_word"]
end L2
namespace L2
open PySem PySem.Spec PyProof.Rows PySem.SeqAt
section
variable {n e:Nat}{T:List (List Int)}
instance (k i j:Nat):Decidable (RP n T k i j):=inferInstanceAs (Decidable (ent (Dc n T k) i j≠0))
end
end L2
namespace L2
open PySem PySem.Spec PyProof.Rows
def TrV (K:PySem.W.Frag)(H:Hp):V->Bool->Prop
 | .bl b,c=>c=b
 | .int i,c=>c=(i !=0)
 | .non,c=>c=false
 | .ref a,c=> ∃xs,SqL K H a xs/\c= !xs.isEmpty
 |_,_=>False
def TrD (h:HD):D->Bool->Prop
 | .bl b,c=>c=b
 | .int i,c=>c=(i !=0)
 | .non,c=>c=false
 | .lst a,c=> ∃ds,h a=some ds/\c= !ds.isEmpty
 |_,_=>False
theorem TrD.to {K:PySem.W.Frag}{H:Hp}{h:HD}{d:D}{v:V}{c:Bool}(t:TrD h d c)(r:RelD K H d v)(rh:RelH K h H):TrV K H v c:=by
 cases d<;>try exact t.elim
 ·have e:v= .non:=r;subst e;exact t
 ·have e:v= .bl _:=r;subst e;exact t
 ·have e:v= .int _:=r;subst e;exact t
 ·obtain⟨e,_⟩:=r;subst e;obtain⟨ds,hd,e⟩:=t;obtain⟨vs,hv,r'⟩:=rh _ ds hd;refine⟨vs,SqL.of hv,?_⟩;rw [e];have:=r'.length;cases ds<;>cases vs<;>first|rfl|(simp at this)
section
variable {X:Cx}{pins:List (Addr×Obj)}{σ:St}{H:Hp}{s:Shared}{E:Value->Shared->Prop}
theorem Inv.trv {v:V}{u:Value}{c:Bool}{Q:Bool->Shared->Prop}(I:Inv X pins σ H s)(r:RelV v u)(t:TrV X.K H v c)(q: ∀s',Inv X pins σ H s'->Q c s'):wpAny (model X.prog X.w) X.A (truthy u) Q E s:=by
 cases v<;>try exact t.elim
 ·have e:u=Value.none:=r;subst e;have e:c=false:=t;subst e;exact truthy_none (q _ I)
 ·have e:u=Value.bool _:=r;subst e;have e:c=_:=t;subst e;exact N2 (q _ I)
 ·obtain⟨t',e⟩:=r;subst e;have e:c=_:=t;subst e;exact truthy_int (q _ I)
 ·have e:u=Value.ref _:=r;subst e;obtain⟨xs,hx,e⟩:=t;obtain⟨its,rv,p,hz⟩:=I.list hx;have hl:=rv.length;have e2:c= !its.toArray.isEmpty:=by
   rw [e];cases xs<;>cases its<;>first|rfl|(simp at hl)
  refine wpAny_truthy_list p.isList ?_ ?_
  ·have:xs.length<=16777216:=D7 hz (by decide);simp only [D0];have e3:((2:Int)^63)=9223372036854775808:=by decide
   rw [e3];omega
  ·rw [<-e2];exact q _ (I.tok _)
end
section
variable {X:Cx}{a b:Expr}{rest:List Expr}{pos:Pos}
def Hu (K:PySem.W.Frag)(t:TE):TT:=λσ H Q=>t σ H λx H1=> ∃c,TrV K H1 x c/\Q c H1
theorem Er {e:Expr}{t:TE}(h:PE X e t)(he: ∀whole,isTrue e X.env whole=(do let v <-whole;standAt e.pos;holding [v] (truthy v)):=by intro _;rfl):PT X e (Hu X.K t):=by
 intro pins s σ H Q I hw;refine isTrue_plain (thn (h pins s σ H _ I hw) λv s1 ⟨x,H1,I1,r1,q1⟩=> ?_) (he _);obtain⟨c,t1,q⟩:=q1;exact I1.trv r1 t1 λs' I'=>⟨H1,I',q⟩
def Hv (t:TED):TTD:=λσ h Q=>t σ h λx h1=> ∃c,TrD h1 x c/\Q c h1
variable {K:PySem.W.Frag}
theorem Es {t:TED}: ∀σ H Q,LT K (Hv t) σ H Q->Hu K (LE K t) σ H Q:=λσ H Q ⟨σd,h,Qd,rs,rh,t,p⟩=>
 LE.bind rs rh t λd v h1 H1 k1 rs1 rh1 r1 ⟨k,e,q⟩=>⟨k,e.to r1 rh1,p k h1 H1 k1 rh1 q⟩
theorem Tw {ta:TED}(ha:JE X a ta)(he: ∀whole,isTrue a X.env whole=(do let v <-whole;standAt a.pos;holding [v] (truthy v)):=by intro _;rfl):JT X a (Hv ta):=⟨(Er ha.to he).imp Es⟩
end
end L2
namespace L2
open PySem PySem.Spec PyProof.Rows PySem.SeqAt
section
variable {n e:Nat}{T:List (List Int)}
theorem wI (h:Sq n e T)(hn:n<=8){a b i j k:Nat}(hi:i<n)(hk:k<n)(hj:j<n)(x:RP n T a i k)(y:RP n T b k j):RP n T (a+b) i j:=(vd h hn a b hi hj).mpr ⟨k,hk,x,y⟩
theorem RD (h:Sq n e T)(hn:n<=8){c:Nat->Nat}(cl: ∀t,c t<n)(st: ∀t,RP n T 1 (c t) (c (t+1)))(t:Nat): ∀s,RP n T s (c t) (c (t+s))
 |0=>(zC (cl t) (cl t)).mpr rfl
 |s+1=>wI h hn (cl _) (cl (t+s)) (cl _) (RD h hn cl st t s) (st (t+s))
theorem yp (h:Sq n e T)(hn:n<=8){i j:Nat}:RP n T 1 i j↔ent T i j≠0:=by unfold RP;rw [FW h hn]
end
end L2
namespace L2
theorem IsS.ext {n:Nat}{S S':List Nat}(h:IsS n S)(h':IsS n S')(m: ∀j,j∈S↔j∈S'):S=S':=by
 obtain⟨p,rfl⟩:=h;obtain⟨q,rfl⟩:=h';refine List.filter_congr λj hj=> ?_
 have:=m j;rw [S7,S7] at this;have e:p j=true↔q j=true:=⟨λz=>(this.mp ⟨hj,z⟩).2,λz=>(this.mpr ⟨hj,z⟩).2⟩;cases hp:p j<;>cases hq:q j<;>simp_all
inductive Made (L:List Nat):Nat->Prop
 |z:Made L 0
 |s {n l:Nat}:Made L n->l∈L->Made L (n+l)
theorem Vg: ∀ (L:List Nat) (g d:Nat),d∣L.foldl Nat.gcd g↔d∣g/\ ∀l∈L,d∣l
 | [],g,d=>by simp
 |x::L,g,d=>by
  show d∣L.foldl Nat.gcd (Nat.gcd g x)↔_;rw [Vg L,Nat.dvd_gcd_iff];simp only [R6,forall_eq_or_imp];exact⟨λ⟨⟨a,b⟩,c⟩=>⟨a,b,c⟩,λ⟨a,b,c⟩=>⟨⟨a,b⟩,c⟩⟩
end L2
namespace HT
open PySem PyProof.Rows
section
variable {prog:Program}{w:World}{A:Around}{E:Value->Shared->Prop}{σ α β:Type}{J:Shared->Prop}
def Tm (prog:Program)(w:World)(A:Around)(E:Value->Shared->Prop)(J:Shared->Prop){σ α:Type}(m:StateT σ Sem α)(Q:α->σ->Prop)(st:σ):Prop:=
 ∀s,J s->wpAny (model prog w) A (m.run st) (λr s'=>Q r.1 r.2/\J s') E s
theorem Tm.pure {a:α}{Q:α->σ->Prop}{st:σ}(h:Q a st):Tm prog w A E J (Pure.pure a:StateT σ Sem α) Q st:=λs j=>by
 rw [StateT.run_pure];exact P1 ⟨h,j⟩
theorem Tm.bind {m:StateT σ Sem α}{f:α->StateT σ Sem β}{Q:β->σ->Prop}{st:σ}(h:Tm prog w A E J m (λa st'=>Tm prog w A E J (f a) Q st') st):Tm prog w A E J (m >>= f) Q st:=λs j=>by
 rw [StateT.run_bind];exact wpAny_bind (R7 (h s j) (λr s' x=>x.1 s' x.2) λ_ _ e=>e)
theorem Tm.get {Q:σ->σ->Prop}{st:σ}(h:Q st st):Tm prog w A E J (MonadState.get:StateT σ Sem σ) Q st:=λs j=>by
 show wpAny _ _ ((StateT.get:StateT σ Sem σ).run st) _ _ _;exact P1 ⟨h,j⟩
theorem Tm.mono {m:StateT σ Sem α}{Q Q':α->σ->Prop}{st:σ}(h:Tm prog w A E J m Q st)(q: ∀a st',Q a st'->Q' a st'):Tm prog w A E J m Q' st:=λs j=>
 R7 (h s j) (λr s' x=>⟨q _ _ x.1,x.2⟩) λ_ _ e=>e
theorem Tm.range' {f:Nat->β->StateT σ Sem (ForInStep β)}(I:Nat->β->σ->Prop){Q:β->σ->Prop}{b:Nat}(step: ∀i c st,i<b->I i c st->Tm prog w A E J (f i c) (λr st'=>match r with| .done c'=>Q c' st'| .yield c'=>I (i+1) c' st') st)(fin: ∀c st,I b c st->Q c st):
 ∀ (k i:Nat) (c:β) (st:σ),i+k=b->I i c st->Tm prog w A E J (forIn (List.range' i k) c f) Q st
 |0,i,c,st,e,h=>by
  rw [List.range'_zero,List.forIn_nil];exact .pure (fin c st (by rw [<-e];exact h))
 |k+1,i,c,st,e,h=>by
  rw [List.range'_succ,X9];refine .bind ((step i c st (by omega) h).mono λr st' x=> ?_);cases r with
  |done c'=>exact .pure x
  |yield c'=>exact Tm.range' I step fin k (i+1) c' st' (by omega) x
theorem Tm.range {f:Nat->β->StateT σ Sem (ForInStep β)}(I:Nat->β->σ->Prop){Q:β->σ->Prop}{a b:Nat}{c:β}{st:σ}(hab:a<=b)(h:I a c st)(step: ∀i c st,i<b->I i c st->Tm prog w A E J (f i c) (λr st'=>match r with| .done c'=>Q c' st'| .yield c'=>I (i+1) c' st') st)(fin: ∀c st,I b c st->Q c st):
 Tm prog w A E J (forIn [a:b] c f) Q st:=λs j=>by
 rw [Std.Legacy.Range.forIn_eq_forIn_range'];have e:([a:b]:Std.Legacy.Range).size=b-a:=by simp [Std.Legacy.Range.size]
 rw [e];exact Tm.range' I step fin (b-a) a c st (by omega) h s j
end
section
variable {prog:Program}{w:World}{A:Around}{E:Value->Shared->Prop}{J:Shared->Prop}{κ:SortKind}{U:Keyed->Prop}{R:Keyed->Keyed->Bool}
def Vh (prog:Program)(w:World)(A:Around)(J:Shared->Prop)(κ:SortKind)(U:Keyed->Prop)(R:Keyed->Keyed->Bool):Prop:=
 ∀x y,U x->U y-> ∀s,J s->wpAny (model prog w) A (keyLt' κ x.1 y.1) (λb s'=>b=R x y/\J s') (λ_ _=>False) s
theorem Tm.lt {x y:Keyed}{st:SortSt}{Q:Option Bool->SortSt->Prop}(a:Vh prog w A J κ U R)(k:kindOf st=κ)(hx:U x)(hy:U y)(q:Q (some (R x y)) st):Tm prog w A E J (lt' x y) Q st:=by
 rw [lt'_eq];refine .bind (.get ?_);rw [k];intro s j;rw [StateT.run_bind];refine wpAny_bind ?_;show wpAny _ _ ((StateT.lift _:StateT SortSt Sem _).run st) _ _ _;rw [StateT.run_lift];refine wpAny_bind (wpAny_attempt (R7 (a x y hx hy s j) (λb s' x=> ?_) λ_ _ e=>e.elim));obtain⟨rfl,j'⟩:=x;exact P1 (Tm.pure (prog:=prog) (w:=w) (A:=A) (E:=E) (J:=J) q s' j')
theorem Tm.elem {arr:Array Keyed}{i:Nat}{x:Keyed}{st:SortSt}{Q:Keyed->SortSt->Prop}(e:arr[i]? =some x)(q:Q x st):Tm prog w A E J (elem' arr i) Q st:=by
 rw [elem'_eq,e];exact .pure q
theorem Et {n lo hi:Nat}{g:Nat->Bool}{st:SortSt}{f:Nat->Option (Option Nat)×Nat×Nat->StateT SortSt Sem (ForInStep (Option (Option Nat)×Nat×Nat))}(anti: ∀i j,i<=j->j<n->g j=true->g i=true)
 (h1:lo<=hi)(h2:hi<=n)(a1: ∀i,i<lo->g i=true)(a2: ∀i,hi<=i->i<n->g i=false)
 (stop: ∀i l,Tm prog w A E J (f i (none,l,l)) (λr st'=>st'=st/\r= .done (none,l,l)) st)
 (step: ∀i l u,l<u->u<=n->Tm prog w A E J (f i (none,l,u)) (λr st'=>st'=st/\r=if g (l+(u-l) / 2)=true then .yield (none,l+(u-l) / 2+1,u) else .yield (none,l,l+(u-l) / 2)) st):
 Tm prog w A E J (forIn [0:n] (none,lo,hi) f) (λc st'=>st'=st/\c.1=none/\c.2.2<=n/\(∀i,i<c.2.2->g i=true)/\ ∀i,c.2.2<=i->i<n->g i=false) st:=by
 have no: ∀i j,i<=j->j<n->g i=false->g j=false:=λi j hij hj z=>by
  cases hb:g j with
  |false=>rfl
  |true=>rw [anti i j hij hj hb] at z;cases z
 refine Tm.range (λi c st'=>st'=st/\c.1=none/\c.2.1<=c.2.2/\c.2.2<=n/\(∀i,i<c.2.1->g i=true)/\(∀i,c.2.2<=i->i<n->g i=false)/\c.2.2-c.2.1+i<=n) (Nat.zero_le _) ⟨rfl,rfl,h1,h2,a1,a2,by dsimp only;omega⟩ ?_ ?_
 ·rintro i ⟨r,l,u⟩ _ hi ⟨rfl,hr,b1,b2,b3,b4,b5⟩;dsimp only at hr b1 b2 b3 b4 b5;subst hr
  by_cases z:l=u
  ·subst z;refine(stop i l).mono ?_;rintro _ _ ⟨rfl,rfl⟩;exact⟨rfl,rfl,b2,b3,b4⟩
  ·refine(step i l u (by omega) b2).mono ?_;rintro _ _ ⟨rfl,rfl⟩;cases hg:g (l+(u-l) / 2) with
   |true=>
    rw [if_pos rfl];exact⟨rfl,rfl,by dsimp only;omega,b2,λj hj=>anti j _ (by dsimp only at hj;omega) (by omega) hg,b4,by dsimp only;omega⟩
   |false=>
    rw [if_neg (by decide)];exact⟨rfl,rfl,by dsimp only;omega,by dsimp only;omega,b3,λj hj hn=>no _ j hj hn hg,by dsimp only;omega⟩
 ·rintro ⟨r,l,u⟩ _ ⟨rfl,hr,b1,b2,b3,b4,b5⟩;dsimp only at hr b1 b2 b3 b4 b5 ⊢;exact⟨rfl,hr,b2,λj hj=>b3 j (by omega),b4⟩
def gal:Bool->Keyed->Array Keyed->Nat->Nat->Nat->StateT SortSt Sem (Option Nat):=sortPriv% PySem.Builtin.gallop
def byd (R:Keyed->Keyed->Bool)(left:Bool)(key:Keyed)(arr:Array Keyed)(base i:Nat):Bool:=
 match arr[base+i]? with
 |some x=>if left=true then R x key else !R key x
 |none=>false
theorem RE {left:Bool}{key:Keyed}{arr:Array Keyed}{base n hint:Nat}{st:SortSt}{Q:Option Nat->SortSt->Prop}(a:Vh prog w A J κ U R)(k:kindOf st=κ)(uk:U key)(ua: ∀i,i<n-> ∃x,arr[base+i]? =some x/\U x)
 (anti: ∀i j,i<=j->j<n->byd R left key arr base j=true->byd R left key arr base i=true)(hh:hint<n)
 (q: ∀m,m<=n->(∀i,i<m->byd R left key arr base i=true)->(∀i,m<=i->i<n->byd R left key arr base i=false)->Q (some m) st):Tm prog w A E J (gal left key arr base n hint) Q st:=by
 have ask: ∀i (Q':Option Bool->SortSt->Prop),i<n->Q' (some (byd R left key arr base i)) st->Tm prog w A E J (do let x <-elem' arr (base+i);if left=true then lt' x key else do let b <-lt' key x;Pure.pure (b.map λz=> !z)) Q' st:=λi Q' hi q'=>by
  obtain⟨x,ex,ux⟩:=ua i hi;refine .bind (.elem ex ?_);unfold byd at q';rw [ex] at q';cases left with
  |true=>exact .lt a k ux uk q'
  |false=>exact .bind (.lt a k uk ux (.pure q'))
 have no: ∀i j,i<=j->j<n->byd R left key arr base i=false->byd R left key arr base j=false:=λi j hij hj z=>by
  cases hb:byd R left key arr base j with
  |false=>rfl
  |true=>rw [anti i j hij hj hb] at z;cases z
 unfold gal;refine .bind (ask hint _ hh ?_);dsimp only;cases hb:byd R left key arr base hint with
 |true=>
  rw [if_pos rfl];refine .bind (Tm.mono (Tm.range (λi c st'=>st'=st/\c.1=none/\c.2.1<c.2.2/\hint+c.2.1<n/\byd R left key arr base (hint+c.2.1)=true/\i+1<=c.2.2)
   (Q:=λc st'=>st'=st/\c.1=none/\c.2.1<c.2.2/\hint+c.2.1<n/\byd R left key arr base (hint+c.2.1)=true/\(n-hint<=c.2.2\/byd R left key arr base (hint+c.2.2)=false)) (T3 _) ⟨rfl,rfl,by decide,by omega,by simpa using hb,by decide⟩ ?_ ?_) ?_)
  ·rintro i ⟨r,lo,of⟩ _ hi ⟨rfl,hr,h1,h2,h3,h4⟩;dsimp only at hr h1 h2 h3 h4 ⊢;subst hr
   by_cases z:of>=n-hint
   ·rw [if_pos z];exact .pure ⟨rfl,rfl,h1,h2,h3,.inl z⟩
   ·rw [if_neg z];refine .bind (ask (hint+of) _ (by omega) ?_);dsimp only;cases hc:byd R left key arr base (hint+of) with
    |true=>exact .pure ⟨rfl,rfl,by dsimp only;omega,by dsimp only;omega,hc,by dsimp only;omega⟩
    |false=>exact .pure ⟨rfl,rfl,h1,h2,h3,.inr hc⟩
  ·rintro ⟨r,lo,of⟩ _ ⟨rfl,hr,h1,h2,h3,h4⟩;exact⟨rfl,hr,h1,h2,h3,.inl (by dsimp only at h4 ⊢;omega)⟩
  ·rintro ⟨r,lo,of⟩ _ ⟨rfl,hr,h1,h2,h3,h4⟩;dsimp only at hr h1 h2 h3 h4 ⊢;subst hr;dsimp only;refine .bind (Tm.mono (Et (g:=byd R left key arr base) anti (by omega) (by omega) (λi hi=>anti i _ (by omega) h2 h3) (λi hi hn=> ?_) (λi l=> ?_) (λi l u hl hu=> ?_)) ?_)
   ·rcases h4 with z|z
    ·omega
    ·exact no (hint+of) i (by omega) hn z
   ·rw [if_pos (G9 l)];exact .pure ⟨rfl,rfl⟩
   ·rw [if_neg (show ¬l>=u by omega)];refine .bind (ask (l+(u-l) / 2) _ (by omega) ?_);dsimp only;cases byd R left key arr base (l+(u-l) / 2)<;>exact .pure ⟨rfl,rfl⟩
   ·rintro ⟨r,l,u⟩ _ ⟨rfl,hr,b2,b3,b4⟩;dsimp only at hr b2 b3 b4 ⊢;subst hr;exact .pure (q u b2 b3 b4)
 |false=>
  rw [if_neg (by decide)];refine .bind (Tm.mono (Tm.range (λi c st'=>st'=st/\c.1=none/\c.2.1<c.2.2/\c.2.1<=hint/\byd R left key arr base (hint-c.2.1)=false/\i+1<=c.2.2)
   (Q:=λc st'=>st'=st/\c.1=none/\c.2.1<c.2.2/\c.2.1<=hint/\byd R left key arr base (hint-c.2.1)=false/\(hint+1<=c.2.2\/byd R left key arr base (hint-c.2.2)=true)) (Nat.zero_le _) ⟨rfl,rfl,by decide,by dsimp only;omega,by simpa using hb,by decide⟩ ?_ ?_) ?_)
  ·rintro i ⟨r,lo,of⟩ _ hi ⟨rfl,hr,h1,h2,h3,h4⟩;dsimp only at hr h1 h2 h3 h4 ⊢;subst hr
   by_cases z:of>=hint+1
   ·rw [if_pos z];exact .pure ⟨rfl,rfl,h1,h2,h3,.inl z⟩
   ·rw [if_neg z];refine .bind (ask (hint-of) _ (by omega) ?_);dsimp only;cases hc:byd R left key arr base (hint-of) with
    |false=>exact .pure ⟨rfl,rfl,by dsimp only;omega,by dsimp only;omega,hc,by dsimp only;omega⟩
    |true=>exact .pure ⟨rfl,rfl,h1,h2,h3,.inr hc⟩
  ·rintro ⟨r,lo,of⟩ _ ⟨rfl,hr,h1,h2,h3,h4⟩;exact⟨rfl,hr,h1,h2,h3,.inl (by dsimp only at h4 ⊢;omega)⟩
  ·rintro ⟨r,lo,of⟩ _ ⟨rfl,hr,h1,h2,h3,h4⟩;dsimp only at hr h1 h2 h3 h4 ⊢;subst hr;dsimp only;refine .bind (Tm.mono (Et (g:=byd R left key arr base) anti (by omega) (by omega) (λi hi=> ?_) (λi hi hn=>no _ i hi hn h3) (λi l=> ?_) (λi l u hl hu=> ?_)) ?_)
   ·rcases h4 with z|z
    ·omega
    ·exact anti i (hint-of) (by omega) (by omega) z
   ·rw [if_pos (G9 l)];exact .pure ⟨rfl,rfl⟩
   ·rw [if_neg (show ¬l>=u by omega)];refine .bind (ask (l+(u-l) / 2) _ (by omega) ?_);dsimp only;cases byd R left key arr base (l+(u-l) / 2)<;>exact .pure ⟨rfl,rfl⟩
   ·rintro ⟨r,l,u⟩ _ ⟨rfl,hr,b2,b3,b4⟩;dsimp only at hr b2 b3 b4 ⊢;subst hr;exact .pure (q u b2 b3 b4)
end
section
variable {κ:Type}{U:κ->Prop}{R:κ->κ->Bool}{al bl:List κ}
structure Ordd (U:κ->Prop)(R:κ->κ->Bool):Prop where
 asym: ∀x y,U x->U y->R x y=true->R y x=false
 neg: ∀x y z,U x->U y->U z->R x z=true->R x y=true\/R y z=true
theorem Ordd.refl (o:Ordd U R){x:κ}(u:U x):R x x=false:=by
 cases h:R x x with
 |false=>rfl
 |true=>have:=o.asym x x u u h;rw [h] at this;exact this
theorem Ordd.trans (o:Ordd U R){x y z:κ}(ux:U x)(uy:U y)(uz:U z)(a:R y x=false)(b:R z y=false):R z x=false:=by
 cases h:R z x with
 |false=>rfl
 |true=>
  rcases o.neg z y x uz uy ux h with z|z
  ·rw [b] at z;cases z
  ·rw [a] at z;cases z
abbrev Srt (R:κ->κ->Bool)(l:List κ):Prop:=l.Pairwise λx y=>R y x=false
structure MI (R:κ->κ->Bool)(al bl:List κ)(ia ib:Nat)(out:List κ):Prop where
 perm:out.Perm (al.take ia++bl.take ib)
 srt:Srt R out
 ra: ∀x∈out,∀y∈al.drop ia,R y x=false
 rb: ∀x∈out,∀y∈bl.drop ib,R y x=false
theorem zr {l:List κ}{i:Nat}{y:κ}(h:l[i]? =some y):l.drop i=y::l.drop (i+1):=by
 obtain⟨hi,e⟩:=G7.mp h;rw [List.drop_eq_getElem_cons hi,e]
theorem Wf {l:List κ}{i:Nat}{y:κ}(h:l[i]? =some y):l.take (i+1)=l.take i++ [y]:=by
 rw [M0,h];rfl
theorem MI.start (al bl:List κ):MI R al bl 0 0 []:=⟨.refl _,.nil,λx hx=>(B1 hx).elim,λx hx=>(B1 hx).elim⟩
variable {ia ib:Nat}
theorem MI.pushB {out:List κ}{y:κ}(m:MI R al bl ia ib out)(o:Ordd U R)(ua: ∀x∈al,U x)(ub: ∀x∈bl,U x)(sa:Srt R al)(sb:Srt R bl)(hy:bl[ib]? =some y)(lt: ∀z,al[ia]? =some z->R y z=true):MI R al bl ia (ib+1) (out++ [y]):=by
 have dy:=zr hy;have uy:=ub y (G6 hy);have sdb:Srt R (bl.drop ib):=sb.sublist (F6 _ _);rw [dy] at sdb;refine⟨?_,?_,λx hx z hz=> ?_,λx hx z hz=> ?_⟩
 ·rw [Wf hy,<-G8];exact m.perm.append_right _
 ·refine R9.mpr ⟨m.srt,T8 _ _,λx hx z hz=> ?_⟩;rw [G5.mp hz];exact m.rb x hx y (by rw [dy];exact P8 ..)
 ·rcases P7.mp hx with w|w
  ·exact m.ra x w z hz
  ·rw [G5.mp w];cases e:al[ia]? with
   |none=>rw [N7 (G0c.mp e)] at hz;cases hz
   |some a0=>
    have da:=zr e;have ua0:=ua a0 (G6 e);have sda:Srt R (al.drop ia):=sa.sublist (F6 _ _);rw [da] at sda hz;have l0:=o.asym y a0 uy ua0 (lt a0 e);rcases R6.mp hz with v|v
    ·rw [v];exact l0
    ·exact o.trans uy ua0 (ua z (M8 v)) l0 ((J1.mp sda).1 z v)
 ·rcases P7.mp hx with w|w
  ·exact m.rb x w z (by rw [dy];exact R0 _ hz)
  ·rw [G5.mp w];exact(J1.mp sdb).1 z hz
theorem MI.pushA {out:List κ}{y:κ}(m:MI R al bl ia ib out)(o:Ordd U R)(ua: ∀x∈al,U x)(ub: ∀x∈bl,U x)(sa:Srt R al)(sb:Srt R bl)(hy:al[ia]? =some y)(ge: ∀z,bl[ib]? =some z->R z y=false):MI R al bl (ia+1) ib (out++ [y]):=by
 have dy:=zr hy;have uy:=ua y (G6 hy);have sda:Srt R (al.drop ia):=sa.sublist (F6 _ _);rw [dy] at sda;refine⟨?_,?_,λx hx z hz=> ?_,λx hx z hz=> ?_⟩
 ·rw [Wf hy];refine(m.perm.append_right [y]).trans ?_;rw [G8,G8];exact(J7).append_left _
 ·refine R9.mpr ⟨m.srt,T8 _ _,λx hx z hz=> ?_⟩;rw [G5.mp hz];exact m.ra x hx y (by rw [dy];exact P8 ..)
 ·rcases P7.mp hx with w|w
  ·exact m.ra x w z (by rw [dy];exact R0 _ hz)
  ·rw [G5.mp w];exact(J1.mp sda).1 z hz
 ·rcases P7.mp hx with w|w
  ·exact m.rb x w z hz
  ·rw [G5.mp w];cases e:bl[ib]? with
   |none=>rw [N7 (G0c.mp e)] at hz;cases hz
   |some b0=>
    have db:=zr e;have ub0:=ub b0 (G6 e);have sdb:Srt R (bl.drop ib):=sb.sublist (F6 _ _);rw [db] at sdb hz;have l0:=ge b0 e;rcases R6.mp hz with v|v
    ·rw [v];exact l0
    ·exact o.trans uy ub0 (ub z (M8 v)) l0 ((J1.mp sdb).1 z v)
theorem MI.manyA (o:Ordd U R)(ua: ∀x∈al,U x)(ub: ∀x∈bl,U x)(sa:Srt R al)(sb:Srt R bl): ∀ (k:Nat) {ia:Nat} {out:List κ},MI R al bl ia ib out->ia+k<=al.length->(∀i,i<k-> ∀y,al[ia+i]? =some y-> ∀z,bl[ib]? =some z->R z y=false)->MI R al bl (ia+k) ib (out++(al.drop ia).take k)
 |0,ia,out,m,_,_=>by rw [V9,B7];exact m
 |k+1,ia,out,m,hk,h=>by
  obtain⟨y,hy⟩: ∃y,al[ia]? =some y:=⟨_,G0 (by omega)⟩;have m1:=m.pushA o ua ub sa sb hy (h 0 (by omega) y hy);have:=MI.manyA o ua ub sa sb k m1 (by omega) (λi hi y hy=>h (i+1) (by omega) y (by rw [show ia+(i+1)=ia+1+i by omega];exact hy));rw [show ia+(k+1)=ia+1+k by omega,zr hy,G0S,List.append_cons];exact this
theorem MI.manyB (o:Ordd U R)(ua: ∀x∈al,U x)(ub: ∀x∈bl,U x)(sa:Srt R al)(sb:Srt R bl): ∀ (k:Nat) {ib:Nat} {out:List κ},MI R al bl ia ib out->ib+k<=bl.length->(∀i,i<k-> ∀y,bl[ib+i]? =some y-> ∀z,al[ia]? =some z->R y z=true)->MI R al bl ia (ib+k) (out++(bl.drop ib).take k)
 |0,ib,out,m,_,_=>by rw [V9,B7];exact m
 |k+1,ib,out,m,hk,h=>by
  obtain⟨y,hy⟩: ∃y,bl[ib]? =some y:=⟨_,G0 (by omega)⟩;have m1:=m.pushB o ua ub sa sb hy (h 0 (by omega) y hy);have:=MI.manyB o ua ub sa sb k m1 (by omega) (λi hi y hy=>h (i+1) (by omega) y (by rw [show ib+(i+1)=ib+1+i by omega];exact hy));rw [show ib+(k+1)=ib+1+k by omega,zr hy,G0S,List.append_cons];exact this
theorem MI.all {out:List κ}(m:MI R al bl al.length bl.length out):out.Perm (al++bl)/\Srt R out:=by
 have:=m.perm;rw [E9,E9] at this;exact⟨this,m.srt⟩
theorem MI.done {out:List κ}(m:MI R al bl ia ib out)(o:Ordd U R)(ua: ∀x∈al,U x)(ub: ∀x∈bl,U x)(sa:Srt R al)(sb:Srt R bl)(ha:ia<=al.length)(hb:ib<=bl.length)(h:ia=al.length\/ib=bl.length):(out++al.drop ia++bl.drop ib).Perm (al++bl)/\Srt R (out++al.drop ia++bl.drop ib):=by
 have m1:=MI.manyA o ua ub sa sb (al.length-ia) m (by omega) (λi hi y hy z hz=>by
  have:=(G7.mp hz).1;omega)
 rw [show ia+(al.length-ia)=al.length by omega,R5 (by rw [T0];exact G9 _)] at m1;have m2:=MI.manyB o ua ub sa sb (bl.length-ib) m1 (by omega) (λi hi y hy z hz=>by
  have:=(G7.mp hz).1;omega)
 rw [show ib+(bl.length-ib)=bl.length by omega,R5 (l:=bl.drop ib) (by rw [T0];exact G9 _)] at m2;exact m2.all
theorem MI.lastA {out:List κ}(m:MI R al bl ia ib out)(o:Ordd U R)(ua: ∀x∈al,U x)(ub: ∀x∈bl,U x)(sa:Srt R al)(sb:Srt R bl)(ha:ia+1=al.length)(hb:ib<=bl.length)(h: ∀y∈bl,∀z,al[al.length-1]? =some z->R y z=true):(out++bl.drop ib++al.drop ia).Perm (al++bl)/\Srt R (out++bl.drop ib++al.drop ia):=by
 have m2:=MI.manyB o ua ub sa sb (bl.length-ib) m (by omega) (λi hi y hy z hz=>h y (G6 hy) z (by rw [<-ha];exact hz));rw [show ib+(bl.length-ib)=bl.length by omega,R5 (by rw [T0];exact G9 _)] at m2;have m1:=MI.manyA o ua ub sa sb (al.length-ia) m2 (by omega) (λi hi y hy z hz=>by
  have:=(G7.mp hz).1;omega)
 rw [show ia+(al.length-ia)=al.length by omega,R5 (l:=al.drop ia) (by rw [T0];exact G9 _)] at m1;exact m1.all
end
section
variable {prog:Program}{w:World}{A:Around}{E:Value->Shared->Prop}{J:Shared->Prop}{κ:SortKind}{U:Keyed->Prop}{R:Keyed->Keyed->Bool}
theorem Tm.rule {σ:Type}{x:String}{Q:Unit->σ->Prop}{st:σ}(q:Q () st):Tm prog w A E J (liftM (PySem.rule x):StateT σ Sem Unit) Q st:=λs j=>by
 show wpAny _ _ ((StateT.lift _:StateT σ Sem _).run st) _ _ _;rw [StateT.run_lift];exact wpAny_bind (X6 (P1 ⟨q,j⟩))
theorem Tm.modify {σ:Type}{f:σ->σ}{Q:Unit->σ->Prop}{st:σ}(q:Q () (f st)):Tm prog w A E J (_root_.modify f:StateT σ Sem PUnit) Q st:=λs j=>by
 rw [StateT.run_modify];exact P1 ⟨q,j⟩
def mLo:Array Keyed->Array Keyed->StateT SortSt Sem (Array Keyed):=sortPriv% PySem.Builtin.mergeLo
def Gal (st st':SortSt):Prop:=kindOf st'=kindOf st/\arrOf st'=arrOf st/\pendingOf st'=pendingOf st/\failedOf st'=failedOf st
theorem Gal.refl (st:SortSt):Gal st st:=⟨rfl,rfl,rfl,rfl⟩
theorem ZF (a:Array Keyed)(i:Nat):(a.extract i).toList=a.toList.drop i:=by
 rw [A7,List.extract_eq_drop_take];exact R5 (by simp)
theorem Gy (a:Array Keyed)(i k:Nat):(a.extract i (i+k)).toList=(a.toList.drop i).take k:=by
 rw [A7,List.extract_eq_drop_take,G0p]
def yZ (R:Keyed->Keyed->Bool)(a b c:Array Keyed):Prop:=c.toList.Perm (a.toList++b.toList)/\Srt R c.toList
structure Two (U:Keyed->Prop)(R:Keyed->Keyed->Bool)(a b:Array Keyed):Prop where
 o:Ordd U R
 ua: ∀x∈a.toList,U x
 ub: ∀x∈b.toList,U x
 sa:Srt R a.toList
 sb:Srt R b.toList
 last: ∀y∈b.toList,∀z,a.toList[a.toList.length-1]? =some z->R y z=true
abbrev MA (R:Keyed->Keyed->Bool)(a b:Array Keyed)(ia ib:Nat)(out:Array Keyed):Prop:=MI R a.toList b.toList ia ib out.toList
section
variable {a b out:Array Keyed}{ia ib:Nat}
theorem MA.done (t:Two U R a b)(m:MA R a b ia ib out)(ha:ia<=a.size)(hb:ib<=b.size)(h:ia=a.size\/ib=b.size):yZ R a b (out++a.extract ia++b.extract ib):=by
 have:=MI.done m t.o t.ua t.ub t.sa t.sb (by simpa using ha) (by simpa using hb) (by simpa using h);unfold yZ;rw [M6,M6,ZF,ZF];exact this
theorem MA.lastA (t:Two U R a b)(m:MA R a b ia ib out)(ha:ia+1=a.size)(hb:ib<=b.size):yZ R a b (out++b.extract ib++a.extract ia):=by
 have:=MI.lastA m t.o t.ua t.ub t.sa t.sb (by simpa using ha) (by simpa using hb) t.last;unfold yZ;rw [M6,M6,ZF,ZF];exact this
theorem MA.pushB (t:Two U R a b){y:Keyed}(m:MA R a b ia ib out)(hy:b.toList[ib]? =some y)(lt: ∀z,a.toList[ia]? =some z->R y z=true):MA R a b ia (ib+1) (out.push y):=by
 have:=MI.pushB m t.o t.ua t.ub t.sa t.sb hy lt;show MI R _ _ _ _ (out.push y).toList;rw [K2];exact this
theorem MA.pushA (t:Two U R a b){y:Keyed}(m:MA R a b ia ib out)(hy:a.toList[ia]? =some y)(ge: ∀z,b.toList[ib]? =some z->R z y=false):MA R a b (ia+1) ib (out.push y):=by
 have:=MI.pushA m t.o t.ua t.ub t.sa t.sb hy ge;show MI R _ _ _ _ (out.push y).toList;rw [K2];exact this
theorem MA.manyA (t:Two U R a b)(m:MA R a b ia ib out)(k:Nat)(hk:ia+k<=a.size)(h: ∀i,i<k-> ∀y,a.toList[ia+i]? =some y-> ∀z,b.toList[ib]? =some z->R z y=false):MA R a b (ia+k) ib (out++a.extract ia (ia+k)):=by
 have:=MI.manyA t.o t.ua t.ub t.sa t.sb k m (by simpa using hk) h;show MI R _ _ _ _ (out++a.extract ia (ia+k)).toList;rw [M6,Gy];exact this
theorem MA.manyB (t:Two U R a b)(m:MA R a b ia ib out)(k:Nat)(hk:ib+k<=b.size)(h: ∀i,i<k-> ∀y,b.toList[ib+i]? =some y-> ∀z,a.toList[ia]? =some z->R y z=true):MA R a b ia (ib+k) (out++b.extract ib (ib+k)):=by
 have:=MI.manyB t.o t.ua t.ub t.sa t.sb k m (by simpa using hk) h;show MI R _ _ _ _ (out++b.extract ib (ib+k)).toList;rw [M6,Gy];exact this
end
variable {arr:Array Keyed}{base:Nat}
theorem yq {left:Bool}{key x:Keyed}{i:Nat}(h:arr.toList[base+i]? =some x):byd R left key arr base i=if left=true then R x key else !R key x:=by
 unfold byd;rw [<-T9,h]
theorem Wg {l:List Keyed}(s:Srt R l)(o:Ordd U R)(u: ∀x∈l,U x){i j:Nat}{x y:Keyed}(hij:i<=j)(hx:l[i]? =some x)(hy:l[j]? =some y):R y x=false:=by
 by_cases z:i=j
 ·subst z;rw [hx] at hy;injection hy with hy;subst hy
  exact o.refl (u x (G6 hx))
 ·obtain⟨h1,e1⟩:=G7.mp hx;obtain⟨h2,e2⟩:=G7.mp hy;have:=A4.mp s i j h1 h2 (by omega);rw [e1,e2] at this;exact this
theorem Wh {i:Nat}(h:i<arr.size): ∃x,arr.toList[i]? =some x/\arr[i]? =some x:=⟨arr[i],by simp [h],by simp [h]⟩
theorem Hw {y:Keyed}{n hint:Nat}{st:SortSt}{Q:Option Nat->SortSt->Prop}(ak:Vh prog w A J κ U R)(kd:kindOf st=κ)(o:Ordd U R)(u: ∀x∈arr.toList,U x)(s:Srt R arr.toList)(uy:U y)(hn:base+n<=arr.size)(hh:hint<n)
 (q: ∀k,k<=n->(∀i,i<k-> ∀x,arr.toList[base+i]? =some x->R y x=false)->(∀i,k<=i->i<n-> ∀x,arr.toList[base+i]? =some x->R y x=true)->Q (some k) st):Tm prog w A E J (gal false y arr base n hint) Q st:=by
 refine RE ak kd uy (λi hi=> ?_) (λi j hij hj h=> ?_) hh (λk k1 k2 k3=>q k k1 (λi hi x hx=> ?_) (λi h1 h2 x hx=> ?_))
 ·obtain⟨x,lx,ex⟩:=Wh (show base+i<arr.size by omega);exact⟨x,ex,u x (G6 lx)⟩
 ·obtain⟨x,lx,_⟩:=Wh (show base+i<arr.size by omega);obtain⟨z,lz,_⟩:=Wh (show base+j<arr.size by omega);rw [yq lz] at h;rw [yq lx];have hz:R y z=false:=by simpa using h
  have:=o.trans (u x (G6 lx)) (u z (G6 lz)) uy (Wg s o u (by omega) lx lz) hz;simp [this]
 ·have:=k2 i hi;rw [yq hx] at this;simpa using this
 ·have:=k3 i h1 h2;rw [yq hx] at this;simpa using this
theorem Hx {y:Keyed}{n hint:Nat}{st:SortSt}{Q:Option Nat->SortSt->Prop}(ak:Vh prog w A J κ U R)(kd:kindOf st=κ)(o:Ordd U R)(u: ∀x∈arr.toList,U x)(s:Srt R arr.toList)(uy:U y)(hn:base+n<=arr.size)(hh:hint<n)
 (q: ∀k,k<=n->(∀i,i<k-> ∀x,arr.toList[base+i]? =some x->R x y=true)->(∀i,k<=i->i<n-> ∀x,arr.toList[base+i]? =some x->R x y=false)->Q (some k) st):Tm prog w A E J (gal true y arr base n hint) Q st:=by
 refine RE ak kd uy (λi hi=> ?_) (λi j hij hj h=> ?_) hh (λk k1 k2 k3=>q k k1 (λi hi x hx=> ?_) (λi h1 h2 x hx=> ?_))
 ·obtain⟨x,lx,ex⟩:=Wh (show base+i<arr.size by omega);exact⟨x,ex,u x (G6 lx)⟩
 ·obtain⟨x,lx,_⟩:=Wh (show base+i<arr.size by omega);obtain⟨z,lz,_⟩:=Wh (show base+j<arr.size by omega);rw [yq lz] at h;rw [yq lx];have hz:R z y=true:=by simpa using h
  rcases o.neg z x y (u z (G6 lz)) (u x (G6 lx)) uy hz with v|v
  ·rw [Wg s o u (by omega) lx lz] at v;cases v
  ·simp [v]
 ·have:=k2 i hi;rw [yq hx] at this;simpa using this
 ·have:=k3 i h1 h2;rw [yq hx] at this;simpa using this
section
variable {σ α β γ:Type}{c:Prop}[Decidable c]{t e:StateT σ Sem α}{Q:α->σ->Prop}{st:σ}{x y:β}{z:γ}
theorem Tm.if2 (T:c->Tm prog w A E J t Q st)(F: ¬c->Tm prog w A E J e Q st):Tm prog w A E J (if c then t else e) Q st:=by
 split
 ·exact T ‹_›
 ·exact F ‹_›
theorem Tm.eq2 {x y:Nat}(T:x=y->Tm prog w A E J t Q st)(F: ¬x=y->Tm prog w A E J e Q st):Tm prog w A E J (if (x==y)=true then t else e) Q st:=
 .if2 (λh=>T (eq_of_beq h)) λh=>F λg=>h (G0X.mpr g)
theorem Tm.both {f:β->StateT σ Sem α}(he:e=f y)(ht:t=f x)(H: ∀m,Tm prog w A E J (f m) Q st):Tm prog w A E J (if c then t else e) Q st:=by
 subst he ht;exact .if2 (λ_=>H _) λ_=>H _
theorem Tm.join {f:β->γ->StateT σ Sem α}{I:β->γ->Prop}(he:e=f x z)(G: ∀m o,I m o->Tm prog w A E J (f m o) Q st)(T:c->(∀m o,I m o->Tm prog w A E J (f m o) Q st)->Tm prog w A E J t Q st)(F: ¬c->I x z):Tm prog w A E J (if c then t else e) Q st:=by
 subst he;exact .if2 (λh=>T h G) λh=>G _ _ (F h)
end
theorem Sg {A B C D F:Type}{P:A×B×C×D×F->Prop}(h: ∀a b c d f,P (a,b,c,d,f)): ∀c,P c:=λc=>h c.1 c.2.1 c.2.2.1 c.2.2.2.1 c.2.2.2.2
theorem Sh {A B C D F G:Type}{P:A×B×C×D×F×G->Prop}(h: ∀a b c d f g,P (a,b,c,d,f,g)): ∀c,P c:=λc=>h c.1 c.2.1 c.2.2.1 c.2.2.2.1 c.2.2.2.2.1 c.2.2.2.2.2
theorem Si {A B C D F G H:Type}{P:A×B×C×D×F×G×H->Prop}(h: ∀a b c d f g k,P (a,b,c,d,f,g,k)): ∀c,P c:=λc=>h c.1 c.2.1 c.2.2.1 c.2.2.2.1 c.2.2.2.2.1 c.2.2.2.2.2.1 c.2.2.2.2.2.2
theorem wJ {a:Array Keyed}(u: ∀x∈a.toList,U x){i:Nat}(h:i<a.size){P:Prop}(q: ∀y,a[i]? =some y->a.toList[i]? =some y->U y->P):P:=q a[i] (by simp [h]) (by simp [h]) (u _ (by simp))
structure LoI (R:Keyed->Keyed->Bool)(a b:Array Keyed)(st st':SortSt)(n:Nat)(out:Array Keyed)(ia ib:Nat):Prop where
 g:Gal st st'
 m:MA R a b ia ib out
 a:ia+1<a.size
 b:ib<b.size
 n:n<=ia+ib
def LoO (R:Keyed->Keyed->Bool)(a b:Array Keyed)(st st':SortSt)(n:Nat)(r:Option (Array Keyed))(out:Array Keyed)(ia ib:Nat):Prop:=Gal st st'/\match r with|some c=>yZ R a b c|none=>LoI R a b st st' n out ia ib
section
variable {a b out:Array Keyed}{st st':SortSt}{n k ia ib:Nat}
theorem LoI.more (h:LoI R a b st st' n out ia ib)(l:k<=n):LoI R a b st st' k out ia ib:=⟨h.g,h.m,h.a,h.b,D7 l h.n⟩
theorem LoI.here (h:LoI R a b st st' n out ia ib):LoI R a b st st' (ia+ib) out ia ib:=⟨h.g,h.m,h.a,h.b,G9 _⟩
theorem LoI.at {s:SortSt}(h:LoI R a b st st' n out ia ib)(g:Gal st s)(l:k<=n):LoI R a b st s k out ia ib:=⟨g,h.m,h.a,h.b,D7 l h.n⟩
theorem LoI.never {P:Prop}(h:LoI R a b st st' n out ia ib)(l:a.size+b.size<=n):P:=absurd (D7 l h.n) (Nat.not_le_of_lt (Nat.add_lt_add (F7 h.a) h.b))
end
theorem Eu {a b:Array Keyed}{st:SortSt}{Q:Array Keyed->SortSt->Prop}(ak:Vh prog w A J κ U R)(kd:kindOf st=κ)(t:Two U R a b)
 (na:1<=a.size)(nb:1<=b.size)(first: ∀y z,b.toList[0]? =some y->a.toList[0]? =some z->R y z=true)
 (q: ∀c st',Gal st st'->yZ R a b c->Q c st'):Tm prog w A E J (mLo a b) Q st:=by
 refine .bind (.rule (.bind (wJ t.ub nb λb0 eb0 lb0 ub0=> .elem eb0 ?_)));have m0:MA R a b 0 1 #[b0]:=MA.pushB t (out:= #[]) (MI.start _ _) lb0 (λz hz=>first _ z lb0 hz);refine .eq2 (x:=1) (y:=b.size) (λz1=> .pure (q _ _ (Gal.refl st) (MA.done t m0 (T3 _) nb (.inr z1)))) λz1=> .eq2 (x:=0+1) (y:=a.size) (λz2=> .pure (q _ _ (Gal.refl st) (MA.lastA t m0 z2 nb))) λz2=> .bind (.get ?_)
 refine .bind (Tm.mono (Tm.range (λi c st'=>LoI R a b st st' (i+1) c.2.1 c.2.2.1 c.2.2.2.1)
  (Q:=λc st'=> ∃r,c.1=some r/\Gal st st'/\yZ R a b r) (T3 _) ⟨Gal.refl st,m0,N8 na z2,N8 nb z1,G9 _⟩ ?_ ?_) ?_)
 ·intro i c st1 hi;revert c;refine Sg λr out ia ib mg h=> ?_
  refine .bind (Tm.mono (Tm.range (λj c st'=>LoI R a b st st' (ia+ib+j) c.2.1 c.2.2.1 c.2.2.2.1)
   (Q:=λc st'=>LoO R a b st st' (ia+ib+1) c.1 c.2.1 c.2.2.1 c.2.2.2.1) (T3 _) h.here ?_ ?_) ?_)
  ·intro j c st2 hj;revert c;refine Sh λr out ja jb ac bc h=> ?_
   refine .bind (wJ t.ub h.b λy ey ly uy=> .elem ey (.bind (wJ t.ua (F7 h.a) λx ex lx ux=> .elem ex (.bind (.lt ak (h.g.1.trans kd) uy ux (.if2 (c:=R y x=true) (λhb=> .bind (.elem ey ?_)) λhb=> .bind (.elem ex ?_)))))))
   ·have m1:=MA.pushB t h.m ly (λz hz=>by rw [lx] at hz;injection hz with hz;rw [<-hz];exact hb);refine .eq2 (x:=jb+1) (y:=b.size) (λc1=> .pure ⟨h.g,MA.done t m1 (D8 (F7 h.a)) h.b (.inr c1)⟩) λc1=> ?_
    have d:LoI R a b st st2 (ia+ib+(j+1)) (out.push y) ja (jb+1):=⟨h.g,m1,h.a,N8 (V6 h.b) c1,W6 h.n⟩;exact .if2 (λ_=> .pure ⟨h.g,d.more (Q3 (J8 _ _) _)⟩) λ_=> .pure d
   ·have m1:=MA.pushA t h.m lx (λz hz=>by rw [ly] at hz;injection hz with hz;rw [<-hz];exact K3.mpr hb);refine .eq2 (x:=ja+1+1) (y:=a.size) (λc1=> .pure ⟨h.g,MA.lastA t m1 c1 (D8 h.b)⟩) λc1=> ?_
    have d:LoI R a b st st2 (ia+ib+(j+1)) (out.push x) (ja+1) jb:=⟨h.g,m1,N8 (V6 h.a) c1,h.b,D7 (W6 h.n) (A3 (Nat.succ_add _ _).symm)⟩;exact .if2 (λ_=> .pure ⟨h.g,d.more (Q3 (J8 _ _) _)⟩) λ_=> .pure d
  ·exact λc st2 h=>h.never (J8 _ _)
  ·intro c st2;revert c;refine Sh λr out ja jb ac bc h'=> ?_
   cases r with
   |some r=>exact .pure ⟨r,rfl,h'⟩
   |none=>
   replace h':=h'.2
   refine .bind (.rule (.bind (Tm.mono (Tm.range (λj c st'=>LoI R a b st st' (ja+jb+j) c.2.1 c.2.2.1 c.2.2.2.1)
    (Q:=λc st'=>LoO R a b st st' (ja+jb) c.1 c.2.1 c.2.2.1 c.2.2.2.1) (T3 _) h'.here ?_ ?_) ?_)))
   ·clear h;intro j c st2 hj;revert c;refine Si λr out pa pb mg ac bc h=> ?_
    refine wJ t.ub h.b λy ey ly uy=> ?_
    have g2:0<a.size-pa:=Nat.sub_pos_of_lt (F7 h.a);have g1:pa+(a.size-pa)<=a.size:=A3 (Y1 (D8 (F7 h.a)));refine Tm.both (y:=mg) (x:=mg-1) (by rfl) (by rfl) λmg=> ?_
    refine .bind (Tm.modify (.bind (.elem ey (.bind (Hw (base:=pa) (n:=a.size-pa) ak (h.g.1.trans kd) t.o t.ua t.sa uy g1 g2 λk k1 k2 k3=> ?_)))));refine Tm.join (I:=λo ia=>MA R a b ia pb o/\ia+1<a.size/\pa<=ia/\ ∀x,a.toList[ia]? =some x->R y x=true) (x:=out) (z:=pa) (by rfl) ?_ ?_ ?_
    ·refine λo qa i1=> ?_
     have M2:=MA.pushB t i1.1 ly i1.2.2.2;have p1:=F7 i1.2.1;refine .bind (.elem ey (.eq2 (x:=pb+1) (y:=b.size) (λc3=> .pure ⟨h.g,MA.done t M2 (D8 p1) (A3 c3) (.inr c3)⟩) λc3=> ?_));have c8:pb+1<b.size:=N8 (V6 h.b) c3;have g2:=Nat.sub_pos_of_lt c8;refine .bind (wJ t.ua p1 λx ex lx ux=> .elem ex (.bind (Hx (base:=pb+1) (n:=b.size-(pb+1)) ak (h.g.1.trans kd) t.o t.ub t.sb ux (A3 (Y1 (D8 c8))) g2 λk' q1 q2 q3=> ?_)));dsimp only;generalize ep:pb+1=p2 at M2 q1 q2 q3 c8 g2 ⊢;generalize eo:o.push y=o2 at M2 ⊢;refine Tm.join (I:=λo ib=>MA R a b qa ib o/\ib<b.size/\p2<=ib/\ ∀x',b.toList[ib]? =some x'->R x' x=false) (x:=o2) (z:=p2) (by rfl) ?_ ?_ ?_
     ·refine λo qb i2=> ?_
      have M4:=MA.pushA t i2.1 lx i2.2.2.2;refine .bind (.elem ex (.eq2 (x:=qa+1+1) (y:=a.size) (λc5=> .pure ⟨h.g,MA.lastA t M4 c5 (D8 i2.2.1)⟩) λc5=> ?_));have n1:ja+jb+j<=pa+pb:=h.n;have n2:ja+jb+(j+1)<=qa+1+qb:=by have:=i1.2.2.1;have:=i2.2.2.1;omega
      have d:LoI R a b st st2 (ja+jb+(j+1)) (o.push x) (qa+1) qb:=⟨h.g,M4,N8 (V6 i1.2.1) c5,i2.2.1,n2⟩;exact .if2 (λ_=> .pure ⟨h.g,d.at h.g (K6 _ _)⟩) λ_=> .pure (d.at h.g (G9 _))
     ·intro kz' H;have g3:p2+k'<=b.size:=D7 (Q3 q1 _) (A3 (Y1 (D8 c8)));have M3:=MA.manyB t M2 k' g3 (λi hi y' hy z hz=>by rw [lx] at hz;injection hz with hz;rw [<-hz];exact q2 i hi y' hy);exact .eq2 (x:=p2+k') (y:=b.size) (λc4=> .pure ⟨h.g,MA.done t M3 (D8 p1) g3 (.inr c4)⟩) λc4=>H _ _ ⟨M3,N8 g3 c4,K6 _ _,λz hz=>q3 k' (G9 _) (by omega) z hz⟩
     ·exact λkz'=>⟨M2,c8,G9 _,λz hz=>q3 0 (G0s kz') g2 z hz⟩
    ·intro kz H;have g3:pa+k<=a.size:=D7 (Q3 k1 _) g1;have m1:=MA.manyA t h.m k g3 (λi hi x hx z hz=>by rw [ly] at hz;injection hz with hz;rw [<-hz];exact k2 i hi x hx);exact .eq2 (x:=pa+k+1) (y:=a.size) (λc1=> .pure ⟨h.g,MA.lastA t m1 c1 (D8 h.b)⟩) λc1=> .eq2 (x:=pa+k) (y:=a.size) (λc2=> .pure ⟨h.g,MA.done t m1 g3 (D8 h.b) (.inl c2)⟩) λc2=>H _ _ ⟨m1,N8 (N8 g3 c2) c1,K6 _ _,λx hx=>k3 k (G9 _) (by omega) x hx⟩
    ·exact λkz=>⟨h.m,h.a,G9 _,λx hx=>k3 0 (G0s kz) g2 x hx⟩
   ·exact λc st3 h=>h.never (J8 _ _)
   ·intro c st3;revert c;refine Si λr out pa pb mg ac bc h3=> ?_
    cases r with
    |some r=>exact .pure ⟨r,rfl,h3⟩
    |none=>exact .bind (Tm.modify (.pure (h3.2.at h3.1 (D7 (W6 h.n) h'.n))))
 ·exact λc st1 h=>h.never (K6 _ _)
 ·intro c st1;revert c;refine Sg λr out ia ib mg h=> ?_
  obtain⟨c,rfl,gl,wh⟩:=h;exact .pure (q c st1 gl wh)
end
section
variable {prog:Program}{w:World}{A:Around}{E:Value->Shared->Prop}{J:Shared->Prop}{κ:SortKind}{U:Keyed->Prop}{R:Keyed->Keyed->Bool}
abbrev Flp (R:Keyed->Keyed->Bool):Keyed->Keyed->Bool:=λx y=>R y x
theorem Ordd.flip (o:Ordd U R):Ordd U (Flp R):=⟨λx y ux uy h=>o.asym y x uy ux h,λx y z ux uy uz h=>(o.neg z y x uz uy ux h).symm⟩
variable {l:List Keyed}
theorem zw (s:Srt R l):Srt (Flp R) l.reverse:=W3.mpr s
theorem Gz (s:Srt (Flp R) l):Srt R l.reverse:=W3.mpr s
variable {n:Nat}
theorem RF (h1:1<=n)(hn:n<=l.length):l.reverse[l.length-n]? =l[n-1]? :=by
 rw [J9 (by omega)]
 congr 1;omega
theorem wd {z:Keyed}(hn:n<=l.length)(h:l.reverse[l.length-n]? =some z):1<=n/\l[n-1]? =some z:=by
 have:=(G7.mp h).1;rw [S4] at this;have n1:1<=n:=by omega
 exact⟨n1,by rw [<-RF n1 hn];exact h⟩
theorem Jf (l:List Keyed){n:Nat}(hn:n<=l.length):l.reverse.drop (l.length-n)=(l.take n).reverse:=by
 rw [List.drop_reverse]
 congr 2;omega
def MH (R:Keyed->Keyed->Bool)(a b:Array Keyed)(na nb:Nat)(out:Array Keyed):Prop:=MI (Flp R) b.toList.reverse a.toList.reverse (b.toList.length-nb) (a.toList.length-na) out.toList
structure TwoH (U:Keyed->Prop)(R:Keyed->Keyed->Bool)(a b:Array Keyed):Prop where
 o:Ordd U R
 ua: ∀x∈a.toList,U x
 ub: ∀x∈b.toList,U x
 sa:Srt R a.toList
 sb:Srt R b.toList
 first: ∀z∈a.toList,∀y,b.toList[0]? =some y->R y z=true
section
variable {a b out:Array Keyed}{na nb:Nat}
theorem TwoH.fa (t:TwoH U R a b): ∀x∈a.toList.reverse,U x:=λx hx=>t.ua x (C9.mp hx)
theorem TwoH.fb (t:TwoH U R a b): ∀x∈b.toList.reverse,U x:=λx hx=>t.ub x (C9.mp hx)
theorem MH.start (a b:Array Keyed):MH R a b a.toList.length b.toList.length #[]:=by
 unfold MH;rw [Nat.sub_self,Nat.sub_self];exact MI.start _ _
theorem MH.pushA (t:TwoH U R a b){y:Keyed}(m:MH R a b na nb out)(h1:1<=na)(hn:na<=a.toList.length)(hb:nb<=b.toList.length)(hy:a.toList[na-1]? =some y)(lt: ∀z,1<=nb->b.toList[nb-1]? =some z->R z y=true):MH R a b (na-1) nb (out.push y):=by
 have:=MI.pushB m t.o.flip t.fb t.fa (zw t.sb) (zw t.sa) (by rw [RF h1 hn];exact hy) (λz hz=>lt z (wd hb hz).1 (wd hb hz).2);unfold MH;rw [K2,show a.toList.length-(na-1)=a.toList.length-na+1 by omega];exact this
theorem MH.pushB (t:TwoH U R a b){y:Keyed}(m:MH R a b na nb out)(h1:1<=nb)(hn:nb<=b.toList.length)(ha:na<=a.toList.length)(hy:b.toList[nb-1]? =some y)(ge: ∀z,1<=na->a.toList[na-1]? =some z->R y z=false):MH R a b na (nb-1) (out.push y):=by
 have:=MI.pushA m t.o.flip t.fb t.fa (zw t.sb) (zw t.sa) (by rw [RF h1 hn];exact hy) (λz hz=>ge z (wd ha hz).1 (wd ha hz).2);unfold MH;rw [K2,show b.toList.length-(nb-1)=b.toList.length-nb+1 by omega];exact this
theorem Jg (a:Array Keyed)(n:Nat):(a.extract 0 n).toList=a.toList.take n:=by
 rw [A7,List.extract_eq_drop_take,List.drop_zero,Nat.sub_zero]
theorem MH.done (t:TwoH U R a b)(m:MH R a b na nb out)(ha:na<=a.toList.length)(hb:nb<=b.toList.length)(h:na=0\/nb=0):yZ R a b (a.extract 0 na++b.extract 0 nb++out.reverse):=by
 have:=MI.done m t.o.flip t.fb t.fa (zw t.sb) (zw t.sa) (by rw [S4];omega) (by rw [S4];omega) (by rw [S4,S4];omega);rw [Jf _ ha,Jf _ hb] at this;have e:(a.extract 0 na++b.extract 0 nb++out.reverse).toList=(out.toList++(b.toList.take nb).reverse++(a.toList.take na).reverse).reverse:=by
  rw [M6,M6,Jg,Jg,X1];simp [G8]
 unfold yZ;rw [e];refine⟨(F8 _).trans (this.1.trans ?_),Gz this.2⟩;exact(List.Perm.append (F8 _) (F8 _)).trans J7
theorem MH.firstB (t:TwoH U R a b)(m:MH R a b na nb out)(ha:na<=a.toList.length)(hb:nb=1)(hb':1<=b.toList.length):yZ R a b (b.extract 0 nb++a.extract 0 na++out.reverse):=by
 subst hb;have:=MI.lastA m t.o.flip t.fb t.fa (zw t.sb) (zw t.sa) (by rw [S4];omega) (by rw [S4];omega) (λz hz y hy=>by
  rw [S4] at hy;have:=(wd hb' hy).2;exact t.first z (C9.mp hz) y (by simpa using this))
 rw [Jf _ ha,Jf _ hb'] at this;have e:(b.extract 0 1++a.extract 0 na++out.reverse).toList=(out.toList++(a.toList.take na).reverse++(b.toList.take 1).reverse).reverse:=by
  rw [M6,M6,Jg,Jg,X1];simp [G8]
 unfold yZ;rw [e];refine⟨(F8 _).trans (this.1.trans ?_),Gz this.2⟩;exact(List.Perm.append (F8 _) (F8 _)).trans J7
theorem GA (l:List Keyed){p n:Nat}(h1:p<=n)(hn:n<=l.length):(l.reverse.drop (l.length-n)).take (n-p)=((l.drop p).take (n-p)).reverse:=by
 rw [Jf l hn,List.take_reverse,R1,G0O,U7 hn,show n-(n-p)=p by omega]
theorem RG (a:Array Keyed){p n:Nat}(h:p<=n):(a.extract p n).reverse.toList=((a.toList.drop p).take (n-p)).reverse:=by
 rw [X1,A7,List.extract_eq_drop_take]
theorem MH.manyA (t:TwoH U R a b)(m:MH R a b na nb out)(p:Nat)(hp:p<=na)(hn:na<=a.toList.length)(hb:nb<=b.toList.length)(h: ∀i,p<=i->i<na-> ∀y,a.toList[i]? =some y-> ∀z,1<=nb->b.toList[nb-1]? =some z->R z y=true):MH R a b p nb (out++(a.extract p na).reverse):=by
 have:=MI.manyB t.o.flip t.fb t.fa (zw t.sb) (zw t.sa) (na-p) m (by rw [S4];omega) (λi hi y hy z hz=>by
  rw [J9 (by omega)] at hy;exact h _ (by omega) (by omega) y hy z (wd hb hz).1 (wd hb hz).2)
 rw [GA _ hp hn] at this;unfold MH;rw [M6,RG _ hp,show a.toList.length-p=a.toList.length-na+(na-p) by omega];exact this
theorem MH.manyB (t:TwoH U R a b)(m:MH R a b na nb out)(p:Nat)(hp:p<=nb)(hn:nb<=b.toList.length)(ha:na<=a.toList.length)(h: ∀i,p<=i->i<nb-> ∀y,b.toList[i]? =some y-> ∀z,1<=na->a.toList[na-1]? =some z->R y z=false):MH R a b na p (out++(b.extract p nb).reverse):=by
 have:=MI.manyA t.o.flip t.fb t.fa (zw t.sb) (zw t.sa) (nb-p) m (by rw [S4];omega) (λi hi y hy z hz=>by
  rw [J9 (by omega)] at hy;exact h _ (by omega) (by omega) y hy z (wd ha hz).1 (wd ha hz).2)
 rw [GA _ hp hn] at this;unfold MH;rw [M6,RG _ hp,show b.toList.length-p=b.toList.length-nb+(nb-p) by omega];exact this
end
def mHi:Array Keyed->Array Keyed->StateT SortSt Sem (Array Keyed):=sortPriv% PySem.Builtin.mergeHi
section
variable {arr:Array Keyed}{y:Keyed}{n hint:Nat}{st:SortSt}{Q:Option Nat->SortSt->Prop}
theorem Tx (ak:Vh prog w A J κ U R)(kd:kindOf st=κ)(o:Ordd U R)(u: ∀x∈arr.toList,U x)(s:Srt R arr.toList)(uy:U y)(hn:n<=arr.size)(hh:hint<n)
 (q: ∀k,k<=n->(∀i,i<k-> ∀x,arr.toList[i]? =some x->R y x=false)->(∀i,k<=i->i<n-> ∀x,arr.toList[i]? =some x->R y x=true)->Q (some k) st):Tm prog w A E J (gal false y arr 0 n hint) Q st:=
 Hw ak kd o u s uy (by rw [J6];exact hn) hh λk h k2 k3=>q k h (λi hi x hx=>k2 i hi x (by rw [J6];exact hx)) λi hi hj x hx=>k3 i hi hj x (by rw [J6];exact hx)
theorem Ty (ak:Vh prog w A J κ U R)(kd:kindOf st=κ)(o:Ordd U R)(u: ∀x∈arr.toList,U x)(s:Srt R arr.toList)(uy:U y)(hn:n<=arr.size)(hh:hint<n)
 (q: ∀k,k<=n->(∀i,i<k-> ∀x,arr.toList[i]? =some x->R x y=true)->(∀i,k<=i->i<n-> ∀x,arr.toList[i]? =some x->R x y=false)->Q (some k) st):Tm prog w A E J (gal true y arr 0 n hint) Q st:=
 Hx ak kd o u s uy (by rw [J6];exact hn) hh λk h k2 k3=>q k h (λi hi x hx=>k2 i hi x (by rw [J6];exact hx)) λi hi hj x hx=>k3 i hi hj x (by rw [J6];exact hx)
end
structure HiI (R:Keyed->Keyed->Bool)(a b:Array Keyed)(st st':SortSt)(n N na nb:Nat)(out:Array Keyed):Prop where
 g:Gal st st'
 m:MH R a b na nb out
 a':na<=a.size
 b':nb<=b.size
 a:1<=na
 b:2<=nb
 n:n+na+nb<=N
def HiO (R:Keyed->Keyed->Bool)(a b:Array Keyed)(st st':SortSt)(n N:Nat)(r:Option (Array Keyed))(na nb:Nat)(out:Array Keyed):Prop:=Gal st st'/\match r with|some c=>yZ R a b c|none=>HiI R a b st st' n N na nb out
section
variable {a b out:Array Keyed}{st st' s:SortSt}{n N k M na nb:Nat}
theorem HiI.at (h:HiI R a b st st' n N na nb out)(g:Gal st s)(l:n+na+nb<=N->k+na+nb<=M):HiI R a b st s k M na nb out:=⟨g,h.m,h.a',h.b',h.a,h.b,l h.n⟩
theorem HiI.here (h:HiI R a b st st' n N na nb out):HiI R a b st st' 0 (na+nb) na nb out:=h.at h.g λ_=>by omega
theorem HiI.never {P:Prop}(h:HiI R a b st st' n N na nb out)(l:N<=n):P:=by have:=h.n;have:=h.a;omega
theorem HiI.le (h:HiI R a b st st' n N na nb out):na+nb<=a.size+b.size:=Nat.add_le_add h.a' h.b'
theorem HiI.a1 (h:HiI R a b st st' n N na nb out):na-1<a.size:=S0 (V7 h.a Nat.one_pos) h.a'
theorem HiI.b1 (h:HiI R a b st st' n N na nb out):nb-1<b.size:=S0 (V7 (F7 h.b) Nat.one_pos) h.b'
end
theorem Cq (h:2<=n)(c: ¬n-1=1):2<=n-1:=by omega
theorem RH (c: ¬n-1=0):1<=n-1:=U8 c
theorem Ev {a b:Array Keyed}{st:SortSt}{Q:Array Keyed->SortSt->Prop}(ak:Vh prog w A J κ U R)(kd:kindOf st=κ)(t:TwoH U R a b)
 (na:1<=a.size)(nb:1<=b.size)(last: ∀y z,b.toList[b.size-1]? =some y->a.toList[a.size-1]? =some z->R y z=true)
 (q: ∀c st',Gal st st'->yZ R a b c->Q c st'):Tm prog w A E J (mHi a b) Q st:=by
 refine .bind (.rule (.bind (wJ t.ua (V7 na Nat.one_pos) λa0 ea0 la0 ua0=> .elem ea0 ?_)));have m0:MH R a b (a.size-1) b.size #[a0]:=MH.pushA t (MH.start (R:=R) a b) na (G9 _) (G9 _) la0 (λz _ hz=>last z a0 hz la0);have n1:a.size-1<=a.size:=Nat.sub_le _ _;refine .eq2 (x:=a.size-1) (y:=0) (λz1=> .pure (q _ _ (Gal.refl st) (MH.done t m0 n1 (G9 _) (.inl z1)))) λz1=> .eq2 (x:=b.size) (y:=1) (λz2=> .pure (q _ _ (Gal.refl st) (MH.firstB t m0 n1 z2 nb))) λz2=> .bind (.get ?_)
 refine .bind (Tm.mono (Tm.range (λi c st'=>HiI R a b st st' (i+1) (a.size+b.size) c.2.1 c.2.2.1 c.2.2.2.1)
  (Q:=λc st'=> ∃r,c.1=some r/\Gal st st'/\yZ R a b r) (Nat.zero_le _) ⟨Gal.refl st,m0,n1,Nat.le_refl _,RH z1,by dsimp only;omega,by dsimp only;omega⟩ ?_ ?_) ?_)
 ·intro i c st1 hi;revert c;refine Sg λr ia ib out mg h=> ?_
  refine .bind (Tm.mono (Tm.range (λj c st'=>HiI R a b st st' j (ia+ib) c.2.1 c.2.2.1 c.2.2.2.1)
   (Q:=λc st'=>HiO R a b st st' 1 (ia+ib) c.1 c.2.1 c.2.2.1 c.2.2.2.1) (T3 _) h.here ?_ ?_) ?_)
  ·intro j c st2 hj;revert c;refine Sh λr ja jb out ac bc h=> ?_
   refine .bind (wJ t.ub h.b1 λy ey ly uy=> .elem ey (.bind (wJ t.ua h.a1 λx ex lx ux=> .elem ex (.bind (.lt ak (h.g.1.trans kd) uy ux (.if2 (c:=R y x=true) (λhb=> .bind (.elem ex ?_)) λhb=> .bind (.elem ey ?_)))))))
   ·have m1:=MH.pushA t h.m h.a h.a' h.b' lx (λz _ hz=>by rw [ly] at hz;injection hz with hz;rw [<-hz];exact hb);refine .eq2 (x:=ja-1) (y:=0) (λc1=> .pure ⟨h.g,MH.done t m1 (D8 h.a1) h.b' (.inl c1)⟩) λc1=> ?_
    have d:HiI R a b st st2 (j+1) (ia+ib) (ja-1) jb (out.push x):=⟨h.g,m1,D8 h.a1,h.b',RH c1,h.b,by have:j+ja+jb<=ia+ib:=h.n;have:1<=ja:=h.a;have:2<=jb:=h.b;omega⟩;exact .if2 (λ_=> .pure ⟨h.g,d.at h.g λ_=>by omega⟩) λ_=> .pure d
   ·have m1:=MH.pushB t h.m (D8 h.b) h.b' h.a' ly (λz _ hz=>by rw [lx] at hz;injection hz with hz;rw [<-hz];exact K3.mpr hb);refine .eq2 (x:=jb-1) (y:=1) (λc1=> .pure ⟨h.g,MH.firstB t m1 h.a' c1 nb⟩) λc1=> ?_
    have d:HiI R a b st st2 (j+1) (ia+ib) ja (jb-1) (out.push y):=⟨h.g,m1,h.a',D8 h.b1,h.a,Cq h.b c1,by have:j+ja+jb<=ia+ib:=h.n;have:1<=ja:=h.a;have:2<=jb:=h.b;omega⟩;exact .if2 (λ_=> .pure ⟨h.g,d.at h.g λ_=>by omega⟩) λ_=> .pure d
  ·exact λc st2 h'=>h'.never h.le
  ·intro c st2;revert c;refine Sh λr ja jb out ac bc h'=> ?_
   cases r with
   |some r=>exact .pure ⟨r,rfl,h'⟩
   |none=>
   replace h':=h'.2
   refine .bind (.rule (.bind (Tm.mono (Tm.range (λj c st'=>HiI R a b st st' j (ja+jb) c.2.1 c.2.2.1 c.2.2.2.1)
    (Q:=λc st'=>HiO R a b st st' 0 (ja+jb) c.1 c.2.1 c.2.2.1 c.2.2.2.1) (T3 _) h'.here ?_ ?_) ?_)))
   ·clear h;intro j c st2 hj;revert c;refine Si λr pa pb out mg ac bc h=> ?_
    refine wJ t.ub h.b1 λy ey ly uy=> ?_
    refine Tm.both (y:=mg) (x:=mg-1) (by rfl) (by rfl) λmg=> ?_
    refine .bind (Tm.modify (.bind (.elem ey (.bind (Tx (n:=pa) ak (h.g.1.trans kd) t.o t.ua t.sa uy h.a' (V7 h.a Nat.one_pos) λk k1 k2 k3=> ?_)))));dsimp only;generalize eac:pa-k=ac;refine Tm.join (I:=λna o=>MH R a b na pb o/\1<=na/\na<=pa/\ ∀z,a.toList[na-1]? =some z->R y z=false) (x:=pa) (z:=out) (by rfl) ?_ ?_ ?_
    ·refine λqa o i1=> ?_
     have la:=D7 i1.2.2.1 h.a';have M2:=MH.pushB t i1.1 (D8 h.b) h.b' la ly (λz _ hz=>i1.2.2.2 z hz);refine .bind (.elem ey (.eq2 (x:=pb-1) (y:=1) (λc3=> .pure ⟨h.g,MH.firstB t M2 la c3 nb⟩) λc3=> ?_));have c8:=Cq h.b c3;have lb:=D8 h.b1;have n1:j+pa+pb<=ja+jb:=h.n;have n2:pb=pb-1+1:=(Nat.sub_add_cancel (D8 h.b)).symm;refine .bind (wJ t.ua (S0 (V7 i1.2.1 Nat.one_pos) la) λx ex lx ux=> .elem ex (.bind (Ty (n:=pb-1) ak (h.g.1.trans kd) t.o t.ub t.sb ux lb (V7 (F7 c8) Nat.one_pos) λk' q1 q2 q3=> ?_)));dsimp only;dsimp only at c8 lb;generalize ep:pb-1=p2 at M2 q1 q2 q3 c8 lb n2 ⊢;generalize eo:o.push y=o2 at M2 ⊢;generalize ebc:p2-k'=bc;refine Tm.join (I:=λnb o=>MH R a b qa nb o/\2<=nb/\nb<=p2/\ ∀z,b.toList[nb-1]? =some z->R z x=true) (x:=p2) (z:=o2) (by rfl) ?_ ?_ ?_
     ·refine λqb o i2=> ?_
      have lb':=D7 i2.2.2.1 lb;have M4:=MH.pushA t i2.1 i1.2.1 la lb' lx (λz _ hz=>i2.2.2.2 z hz);have la':=D7 (Nat.sub_le qa 1) la;refine .bind (.elem ex (.eq2 (x:=qa-1) (y:=0) (λc5=> .pure ⟨h.g,MH.done t M4 la' lb' (.inl c5)⟩) λc5=> ?_));have n3:j+1+(qa-1)+qb<=ja+jb:=by have:=i1.2.1;have:=i1.2.2.1;have:=i2.2.2.1;omega
      have d:HiI R a b st st2 (j+1) (ja+jb) (qa-1) qb (o.push x):=⟨h.g,M4,la',lb',RH c5,i2.2.1,n3⟩;exact .if2 (λ_=> .pure ⟨h.g,d.at h.g λ_=>by omega⟩) λ_=> .pure (d.at h.g id)
     ·intro kz' H;have M3:=MH.manyB t M2 k' q1 lb la (λi hi1 hi2 y' hy z hz1 hz=>by rw [lx] at hz;injection hz with hz;rw [<-hz];exact q3 i hi1 hi2 y' hy);exact .eq2 (x:=k') (y:=1) (λc4=> .pure ⟨h.g,MH.firstB t M3 la c4 nb⟩) λc4=> .eq2 (x:=k') (y:=0) (λc7=> .pure ⟨h.g,MH.done t M3 la (D7 q1 lb) (.inr c7)⟩) λc7=>H _ _ ⟨M3,by omega,q1,λz hz=>q2 (k'-1) (V7 (U8 c7) Nat.one_pos) z hz⟩
     ·exact λkz'=>⟨M2,c8,G9 _,λz hz=>q2 (p2-1) (by omega) z hz⟩
    ·intro kz H;have m1:=MH.manyA t h.m k k1 h.a' h.b' (λi hi1 hi2 x hx z hz1 hz=>by rw [ly] at hz;injection hz with hz;rw [<-hz];exact k3 i hi1 hi2 x hx);exact .eq2 (x:=k) (y:=0) (λc1=> .pure ⟨h.g,MH.done t m1 (D7 k1 h.a') h.b' (.inl c1)⟩) λc1=>H _ _ ⟨m1,U8 c1,k1,λz hz=>k2 (k-1) (V7 (U8 c1) Nat.one_pos) z hz⟩
    ·exact λkz=>⟨h.m,h.a,G9 _,λz hz=>k2 (pa-1) (by have:1<=pa:=h.a;omega) z hz⟩
   ·exact λc st3 h=>h.never h'.le
   ·intro c st3;revert c;refine Si λr pa pb out mg ac bc h3=> ?_
    cases r with
    |some r=>exact .pure ⟨r,rfl,h3⟩
    |none=>exact .bind (Tm.modify (.pure (h3.2.at h3.1 λl=>by have n1:i+1+ia+ib<=a.size+b.size:=h.n;have n2:1+ja+jb<=ia+ib:=h'.n;dsimp only at l ⊢;omega)))
 ·exact λc st1 h=>h.never (K6 _ _)
 ·intro c st1;revert c;refine Sg λr ia ib out mg h=> ?_
  obtain⟨c,rfl,gl,wh⟩:=h;exact .pure (q c st1 gl wh)
end
section
variable {prog:Program}{w:World}{A:Around}{E:Value->Shared->Prop}{J:Shared->Prop}{κ:SortKind}{U:Keyed->Prop}{R:Keyed->Keyed->Bool}
def seg (l:List Keyed)(p n:Nat):List Keyed:=(l.drop p).take n
variable {n:Nat}
theorem Yw {l:List Keyed}{p i:Nat}(hi:i<n):(seg l p n)[i]? =l[p+i]? :=by
 unfold seg;rw [Q5 hi,J3]
theorem Wi {l:List Keyed}{p:Nat}(h:p+n<=l.length):(seg l p n).length=n:=by
 unfold seg;rw [R1,T0];omega
theorem XZ {l:List Keyed}{p:Nat}{x:Keyed}(h:x∈seg l p n):x∈l:=M8 (N0 h)
theorem Hy {left:Bool}{arr:Array Keyed}{y:Keyed}{base hint:Nat}{st:SortSt}{Q:Option Nat->SortSt->Prop}(ak:Vh prog w A J κ U R)(kd:kindOf st=κ)(o:Ordd U R)(u: ∀x∈arr.toList,U x)(s:Srt R (seg arr.toList base n))(uy:U y)(hn:base+n<=arr.size)(hh:hint<n)
 (q: ∀k,k<=n->(∀x∈(seg arr.toList base n).take k,(if left=true then R x y else !R y x)=true)->(∀x∈(seg arr.toList base n).drop k,(if left=true then R x y else !R y x)=false)->Q (some k) st):Tm prog w A E J (gal left y arr base n hint) Q st:=by
 have ln:arr.toList.length=arr.size:=by simp
 have sl:(seg arr.toList base n).length=n:=Wi (by omega);have us: ∀x∈seg arr.toList base n,U x:=λx hx=>u x (XZ hx)
 refine RE ak kd uy (λi hi=> ?_) (λi j hij hj h=> ?_) hh (λk k1 k2 k3=>q k k1 (λx hx=> ?_) (λx hx=> ?_))
 ·obtain⟨x,lx,ex⟩:=Wh (show base+i<arr.size by omega);exact⟨x,ex,u x (G6 lx)⟩
 ·obtain⟨x,lx,_⟩:=Wh (show base+i<arr.size by omega);obtain⟨z,lz,_⟩:=Wh (show base+j<arr.size by omega);have ux:=u x (G6 lx);have uz:=u z (G6 lz);have le:=Wg s o us hij (by rw [Yw (by omega)];exact lx) (by rw [Yw hj];exact lz);rw [yq lz] at h;rw [yq lx];cases left with
  |true=>
   have hz:R z y=true:=by simpa using h
   rcases o.neg z x y uz ux uy hz with v|v
   ·rw [le] at v;cases v
   ·simp [v]
  |false=>
   have hz:R y z=false:=by simpa using h
   have:=o.trans ux uz uy le hz;simp [this]
 ·obtain⟨i,hi,e⟩:=N4 hx;rw [R1,sl] at hi;have lx:arr.toList[base+i]? =some x:=by
   rw [<-Yw (n:=n) (by omega),G0 (by omega),<-e,List.getElem_take]
  have:=k2 i (by omega);rw [yq lx] at this;exact this
 ·obtain⟨i,hi,e⟩:=N4 hx;rw [T0,sl] at hi;have lx:arr.toList[base+(k+i)]? =some x:=by
   rw [<-Yw (n:=n) (by omega),G0 (by omega),<-e,List.getElem_drop]
  have:=k3 (k+i) (by omega) (by omega);rw [yq lx] at this;exact this
theorem GC: ∀ (m:List Keyed) (arr:Array Keyed) (p d:Nat),p+d+m.length<=arr.size->((m.zipIdx d).foldl (λ(c:Array Keyed) (x:Keyed×Nat)=>c.setIfInBounds (p+x.2) x.1) arr).toList=arr.toList.take (p+d)++m++arr.toList.drop (p+d+m.length)
 | [],arr,p,d,_=>by simp
 |x::m,arr,p,d,h=>by
  rw [D3] at h;rw [List.zipIdx_cons,List.foldl_cons];rw [GC m _ p (d+1) (by rw [G0h];omega)];have hl:arr.toList.length=arr.size:=by simp
  rw [Z4];have e1:(arr.toList.set (p+d) x).take (p+(d+1))=arr.toList.take (p+d)++ [x]:=by
   rw [show p+(d+1)=p+d+1 by omega,M0,V0 (by omega)];rw [List.take_set_of_le (G9 _)];rfl
  have e2:(arr.toList.set (p+d) x).drop (p+(d+1)+m.length)=arr.toList.drop (p+d+(m.length+1)):=by
   rw [List.drop_set_of_lt (by omega),show p+(d+1)+m.length=p+d+(m.length+1) by omega]
  rw [e1,e2,D3];simp [G8]
end
section
variable {prog:Program}{w:World}{A:Around}{E:Value->Shared->Prop}{J:Shared->Prop}{κ:SortKind}{U:Keyed->Prop}{R:Keyed->Keyed->Bool}
theorem Tm.set {σ:Type}{st st':σ}{Q:PUnit->σ->Prop}(q:Q ⟨⟩ st'):Tm prog w A E J (MonadStateOf.set st':StateT σ Sem PUnit) Q st:=λs j=>by
 show wpAny _ _ ((StateT.set st':StateT σ Sem PUnit).run st) _ _ _;exact P1 ⟨q,j⟩
theorem RI (a:Array Keyed){p n:Nat}(h:p<=n):(a.extract p n).toList=seg a.toList p (n-p):=by
 rw [A7,List.extract_eq_drop_take];rfl
theorem RJ (o:Ordd U R){l:List Keyed}(u: ∀x∈l,U x)(s:Srt R l){z:Keyed}(hz:l[l.length-1]? =some z){x:Keyed}(hx:x∈l):R z x=false:=by
 obtain⟨i,hi,e⟩:=N4 hx;exact Wg s o u (show i<=l.length-1 by omega) (by rw [G0 hi,e]) hz
theorem GD (o:Ordd U R){l:List Keyed}(u: ∀x∈l,U x)(s:Srt R l){z:Keyed}(hz:l[0]? =some z){x:Keyed}(hx:x∈l):R x z=false:=by
 obtain⟨i,hi,e⟩:=N4 hx;exact Wg s o u (T3 _) hz (by rw [G0 hi,e])
theorem Wj (o:Ordd U R){X Y c:List Keyed}{k k2:Nat}{y0 x9:Keyed}(uX: ∀x∈X,U x)(uY: ∀x∈Y,U x)(sX:Srt R X)(sY:Srt R Y)(hy:Y[0]? =some y0)(hx:X[X.length-1]? =some x9)
 (f1: ∀x∈X.take k,R y0 x=false)(g2: ∀y∈Y.drop k2,R y x9=false)(hp:c.Perm (X.drop k++Y.take k2))(sc:Srt R c):(X.take k++c++Y.drop k2).Perm (X++Y)/\Srt R (X.take k++c++Y.drop k2):=by
 have uy0:=uY y0 (G6 hy);have ux9:=uX x9 (G6 hx);constructor
 ·have e:X++Y=X.take k++(X.drop k++Y.take k2)++Y.drop k2:=by
   rw [<-G8,R4,G8,R4]
  rw [e];exact(hp.append_left _).append_right _
 ·have inX: ∀x∈X.take k,∀z∈X.drop k,R z x=false:=λx hx z hz=>by
   have:Srt R (X.take k++X.drop k):=by rw [R4];exact sX
   exact(R9.mp this).2.2 x hx z hz
  have inY: ∀x∈Y.take k2,∀z∈Y.drop k2,R z x=false:=λx hx z hz=>by
   have:Srt R (Y.take k2++Y.drop k2):=by rw [R4];exact sY
   exact(R9.mp this).2.2 x hx z hz
  have xy: ∀x∈X.take k,∀y∈Y,R y x=false:=λx hx y hy'=>o.trans (uX x (N0 hx)) uy0 (uY y hy') (f1 x hx) (GD o uY sY hy hy')
  have yx: ∀x∈X,∀y∈Y.drop k2,R y x=false:=λx hx' y hy'=>o.trans (uX x hx') ux9 (uY y (M8 hy')) (RJ o uX sX hx hx') (g2 y hy')
  have xc: ∀x∈X.take k,∀z∈c,R z x=false:=λx hx z hz=>by
   rcases P7.mp (hp.mem_iff.mp hz) with v|v
   ·exact inX x hx z v
   ·exact xy x hx z (N0 v)
  refine R9.mpr ⟨R9.mpr ⟨sX.sublist (O5 _ _),sc,xc⟩,sY.sublist (F6 _ _),λx hx y hy=> ?_⟩;rcases P7.mp hx with v|v
  ·exact xy x v y (M8 hy)
  ·rcases P7.mp (hp.mem_iff.mp v) with v|v
   ·exact yx x (M8 v) y hy
   ·exact inY x v y hy
theorem Uz (l:List Keyed){p n m:Nat}:l=l.take p++(seg l p n++seg l (p+n) m)++l.drop (p+n+m):=by
 unfold seg;have e1:(l.drop (p+n)).take m++l.drop (p+n+m)=l.drop (p+n):=by
  rw [show l.drop (p+n+m)=(l.drop (p+n)).drop m by rw [A5],R4]
 have e2:(l.drop p).take n++l.drop (p+n)=l.drop p:=by
  rw [show l.drop (p+n)=(l.drop p).drop n by rw [A5],R4]
 rw [G8,G8,e1,e2,R4]
theorem Ew {st:SortSt}{Q:Bool->SortSt->Prop}{i sa na pw sb nb pw2:Nat}(ak:Vh prog w A J κ U R)(kd:kindOf st=κ)(o:Ordd U R)(u: ∀x∈(arrOf st).toList,U x)(p1:(pendingOf st)[i]? =some (sa,na,pw))(p2:(pendingOf st)[i+1]? =some (sb,nb,pw2))
 (hs:sa+na=sb)(n1:1<=na)(n2:1<=nb)(hz:sb+nb<=(arrOf st).size)(s1:Srt R (seg (arrOf st).toList sa na))(s2:Srt R (seg (arrOf st).toList sb nb))(hf:failedOf st=none)
 (q: ∀st' Z,kindOf st'=κ->failedOf st'=none->pendingOf st'=((pendingOf st).setIfInBounds i (sa,na+nb,pw)).eraseIdxIfInBounds (i+1)->(arrOf st').toList=(arrOf st).toList.take sa++Z++(arrOf st).toList.drop (sb+nb)->Z.Perm (seg (arrOf st).toList sa na++seg (arrOf st).toList sb nb)->Srt R Z->Q true st'):
 Tm prog w A E J (mergeAt' i) Q st:=by
 have ln:(arrOf st).toList.length=(arrOf st).size:=by simp
 unfold mergeAt';refine .bind (.get ?_);dsimp only;rw [p1,p2];dsimp only;refine .bind (Tm.set ?_);subst hs;have lX:(seg (arrOf st).toList sa na).length=na:=Wi (by omega);have lY:(seg (arrOf st).toList (sa+na) nb).length=nb:=Wi (by omega);have uX: ∀x∈seg (arrOf st).toList sa na,U x:=λx hx=>u x (XZ hx)
 have uY: ∀x∈seg (arrOf st).toList (sa+na) nb,U x:=λx hx=>u x (XZ hx)
 obtain⟨y0,ly0,ey0⟩:=Wh (arr:=arrOf st) (show sa+na<(arrOf st).size by omega);obtain⟨x9,lx9,ex9⟩:=Wh (arr:=arrOf st) (show sa+(na-1)<(arrOf st).size by omega);have hy:(seg (arrOf st).toList (sa+na) nb)[0]? =some y0:=by rw [Yw (by omega)];exact ly0
 have hx:(seg (arrOf st).toList sa na)[(seg (arrOf st).toList sa na).length-1]? =some x9:=by rw [lX,Yw (by omega)];exact lx9
 have uy0:=u y0 (G6 ly0);have ux9:=u x9 (G6 lx9);have c3:=Uz (arrOf st).toList (p:=sa) (n:=na) (m:=nb);have same: ∀ (st':SortSt),arrOf st'=arrOf st-> ∀k k2,(∀x∈(seg (arrOf st).toList sa na).take k,R y0 x=false)->(∀y∈(seg (arrOf st).toList (sa+na) nb).drop k2,R y x9=false)->(na<=k\/k2=0)->Srt R (seg (arrOf st).toList sa na++seg (arrOf st).toList (sa+na) nb):=λst' e k k2 f1 g2 h=>by
  have pl:(((seg (arrOf st).toList sa na).drop k++(seg (arrOf st).toList (sa+na) nb).take k2)).Perm ((seg (arrOf st).toList sa na).drop k++(seg (arrOf st).toList (sa+na) nb).take k2):= .refl _;have sc:Srt R ((seg (arrOf st).toList sa na).drop k++(seg (arrOf st).toList (sa+na) nb).take k2):=by
   rcases h with h|h
   ·rw [N7 (by omega),N6];exact s2.sublist (O5 _ _)
   ·rw [h,V9,B7];exact s1.sublist (F6 _ _)
  have:=(Wj o uX uY s1 s2 hy hx f1 g2 pl sc).2;rw [<-G8,R4,G8,R4] at this;exact this
 refine .bind (.elem ey0 (.bind (Hy (left:=false) ak kd o u s1 uy0 (show sa+na<=(arrOf st).size by omega) (by omega) λk k1 f1 f2=> ?_)));have f1: ∀x∈(seg (arrOf st).toList sa na).take k,R y0 x=false:=λx hx=>by simpa using f1 x hx
 have f2: ∀x∈(seg (arrOf st).toList sa na).drop k,R y0 x=true:=λx hx=>by simpa using f2 x hx
 dsimp only
 by_cases z1:na-k=0
 ·rw [if_pos (by simpa using z1)];refine .pure (q _ (seg (arrOf st).toList sa na++seg (arrOf st).toList (sa+na) nb) kd hf rfl c3 (.refl _) (same st rfl k nb f1 (λy hy=> ?_) (.inl (by omega))));rw [N7 (by omega)] at hy;cases hy
 rw [if_neg (by simpa using z1)];refine .bind (.elem (show _=some x9 by rw [show sa+k+(na-k)-1=sa+(na-1) by omega];exact ex9) (.bind (Hy (left:=true) ak kd o u s2 ux9 (show sa+na+nb<=(arrOf st).size by omega) (by omega) λk2 j1 g1 g2=> ?_)));have g1: ∀y∈(seg (arrOf st).toList (sa+na) nb).take k2,R y x9=true:=λx hx=>by simpa using g1 x hx
 have g2: ∀y∈(seg (arrOf st).toList (sa+na) nb).drop k2,R y x9=false:=λx hx=>by simpa using g2 x hx
 dsimp only
 by_cases z2:k2=0
 ·rw [if_pos (by simpa using z2)];exact .pure (q _ _ kd hf rfl c3 (.refl _) (same st rfl k k2 f1 g2 (.inr z2)))
 rw [if_neg (by simpa using z2)];have eX:((arrOf st).extract (sa+k) (sa+na)).toList=(seg (arrOf st).toList sa na).drop k:=by
  rw [RI _ (by omega)];unfold seg;rw [G0O,A5,show sa+na-(sa+k)=na-k by omega]
 have eY:((arrOf st).extract (sa+na) (sa+na+k2)).toList=(seg (arrOf st).toList (sa+na) nb).take k2:=by
  rw [RI _ (by omega)];unfold seg;rw [G0P,show sa+na+k2-(sa+na)=min k2 nb by omega]
 have sx:((arrOf st).extract (sa+k) (sa+na)).size=na-k:=by rw [<-T4,eX,T0,lX]
 have sy:((arrOf st).extract (sa+na) (sa+na+k2)).size=k2:=by rw [<-T4,eY,R1,lY];omega
 have hx2: ∀z,((seg (arrOf st).toList sa na).drop k)[((seg (arrOf st).toList sa na).drop k).length-1]? =some z->z=x9:=λz hz'=>by
  rw [T0,J3,lX,show k+(na-k-1)=na-1 by omega] at hz';rw [lX] at hx;rw [hx] at hz';injection hz' with hz';exact hz'.symm
 have hy2: ∀z,((seg (arrOf st).toList (sa+na) nb).take k2)[0]? =some z->z=y0:=λz hz'=>by
  rw [Q5 (by omega),hy] at hz';injection hz' with hz';exact hz'.symm
 have put: ∀c:Array Keyed,yZ R ((arrOf st).extract (sa+k) (sa+na)) ((arrOf st).extract (sa+na) (sa+na+k2)) c->(c.toList.zipIdx.foldl (λ(d:Array Keyed) (x:Keyed×Nat)=>d.setIfInBounds (sa+k+x.2) x.1) (arrOf st)).toList=(arrOf st).toList.take sa++((seg (arrOf st).toList sa na).take k++c.toList++(seg (arrOf st).toList (sa+na) nb).drop k2)++(arrOf st).toList.drop (sa+na+nb):=λc wh=>by
  have lc:c.toList.length=na-k+k2:=by
   rw [wh.1.length_eq,G3,T4,T4,sx,sy]
  have:=GC c.toList (arrOf st) (sa+k) 0 (by omega);rw [this,lc,W4,show sa+k+(na-k+k2)=sa+na+k2 by omega];have e1:(arrOf st).toList.take (sa+k)=(arrOf st).toList.take sa++(seg (arrOf st).toList sa na).take k:=by
   unfold seg;rw [G0P,U7 k1,List.take_add]
  have e2:(arrOf st).toList.drop (sa+na+k2)=(seg (arrOf st).toList (sa+na) nb).drop k2++(arrOf st).toList.drop (sa+na+nb):=by
   unfold seg;have h1:((arrOf st).toList.drop (sa+na)).drop k2=(((arrOf st).toList.drop (sa+na)).take nb++((arrOf st).toList.drop (sa+na)).drop nb).drop k2:=by rw [R4]
   rw [L7 (by rw [R1,T0];omega),A5,A5] at h1;exact h1
  rw [e1,e2];simp [G8]
 have jr: ∀c:Array Keyed,yZ R ((arrOf st).extract (sa+k) (sa+na)) ((arrOf st).extract (sa+na) (sa+na+k2)) c->_:=λc wh=>Wj o (c:=c.toList) uX uY s1 s2 hy hx f1 g2 (by have:=wh.1;rw [eX,eY] at this;exact this) wh.2
 by_cases z3:na-k<=k2
 ·rw [if_pos z3];refine .bind (Eu ak kd ⟨o,λx hx=> ?_,λx hx=> ?_,?_,?_,λy hy z hz'=> ?_⟩ (by rw [sx];omega) (by rw [sy];omega) (λy z hy' hz'=> ?_) λc st' gl wh=> .bind (Tm.modify (.bind (.get (.pure ?_)))))
  ·rw [eX] at hx;exact uX x (M8 hx)
  ·rw [eY] at hx;exact uY x (N0 hx)
  ·rw [eX];exact s1.sublist (F6 _ _)
  ·rw [eY];exact s2.sublist (O5 _ _)
  ·rw [eY] at hy;rw [eX] at hz';rw [hx2 z hz'];exact g1 y hy
  ·rw [eY] at hy';rw [eX] at hz';rw [hy2 y hy'];exact f2 z (G6 hz')
  ·have e:failedOf st'=none:=gl.2.2.2.trans hf;show Q (failedOf st').isNone _;rw [e];refine q _ _ (gl.1.trans kd) e gl.2.2.1 ?_ (jr c wh).1 (jr c wh).2;have ea:arrOf st'=arrOf st:=gl.2.1;show (c.toList.zipIdx.foldl _ (arrOf st')).toList=_;rw [ea];exact put c wh
 ·rw [if_neg z3];refine .bind (Ev ak kd ⟨o,λx hx=> ?_,λx hx=> ?_,?_,?_,λz hz' y hy'=> ?_⟩ (by rw [sx];omega) (by rw [sy];omega) (λy z hy' hz'=> ?_) λc st' gl wh=> .bind (Tm.modify (.bind (.get (.pure ?_)))))
  ·rw [eX] at hx;exact uX x (M8 hx)
  ·rw [eY] at hx;exact uY x (N0 hx)
  ·rw [eX];exact s1.sublist (F6 _ _)
  ·rw [eY];exact s2.sublist (O5 _ _)
  ·rw [eY] at hy';rw [eX] at hz';rw [hy2 y hy'];exact f2 z hz'
  ·rw [eY] at hy';rw [eX,sx] at hz';have:=hx2 z (by rw [T0,lX];exact hz');rw [this];exact g1 y (G6 hy')
  ·have e:failedOf st'=none:=gl.2.2.2.trans hf;show Q (failedOf st').isNone _;rw [e];refine q _ _ (gl.1.trans kd) e gl.2.2.1 ?_ (jr c wh).1 (jr c wh).2;have ea:arrOf st'=arrOf st:=gl.2.1;show (c.toList.zipIdx.foldl _ (arrOf st')).toList=_;rw [ea];exact put c wh
end
section
variable {prog:Program}{w:World}{A:Around}{E:Value->Shared->Prop}{J:Shared->Prop}{κ:SortKind}{U:Keyed->Prop}{R:Keyed->Keyed->Bool}
def Lies (st:SortSt)(P Z S:List Keyed):Prop:=(arrOf st).toList=P++Z++S
def Arr (st st':SortSt):Prop:=kindOf st'=kindOf st/\pendingOf st'=pendingOf st/\failedOf st'=failedOf st/\gallopOf st'=gallopOf st
theorem Arr.refl (st:SortSt):Arr st st:=⟨rfl,rfl,rfl,rfl⟩
theorem NY (xs:Array Keyed)(P Z S:List Keyed)(h:xs.toList=P++Z++S):(mirror xs P.length (P.length+Z.length) ((P.length+Z.length-P.length) / 2)).toList=P++Z.reverse++S:=by
 have hl:xs.size=P.length+Z.length+S.length:=by rw [<-T4,h];simp [E8]
 refine G0i λk=> ?_
 rw [T9,getElem?_mirror_all (by omega)]
 by_cases c:P.length<=k/\k<P.length+Z.length
 ·rw [if_pos c,<-T9,h,G8,G8];have e1:(P++(Z++S))[P.length+(P.length+Z.length)-1-k]? =Z[P.length+Z.length-1-k]? :=by
   rw [P4 (by omega),D2 (by omega)]
   congr 1;omega
  have e2:(P++(Z.reverse++S))[k]? =Z[P.length+Z.length-1-k]? :=by
   rw [P4 (by omega),D2 (by rw [S4];omega),J9 (by omega)]
   congr 1;omega
  rw [e1,e2]
 ·rw [if_neg c,<-T9,h,G8,G8]
  by_cases d:k<P.length
  ·rw [D2 d,D2 d]
  ·have e1:(P++(Z++S))[k]? =S[k-P.length-Z.length]? :=by
    rw [P4 (by omega),P4 (by omega)]
   have e2:(P++(Z.reverse++S))[k]? =S[k-P.length-Z.length]? :=by
    rw [P4 (by omega),P4 (by rw [S4];omega),S4]
   rw [e1,e2]
theorem Tm.rev {st:SortSt}{P Z S:List Keyed}{i j:Nat}{Q:Unit->SortSt->Prop}(h:Lies st P Z S)(hi:i=P.length)(hj:j=P.length+Z.length)(q: ∀st',Arr st st'->Lies st' P Z.reverse S->Q () st'):Tm prog w A E J (reverseSlice' i j) Q st:=by
 rw [reverseSlice'_eq];subst hi hj;exact .modify (q _ ⟨rfl,rfl,rfl,rfl⟩ (NY _ P Z S h))
theorem Tm.ltAt {st:SortSt}{x y:Keyed}{i j:Nat}{Q:Option Bool->SortSt->Prop}(ak:Vh prog w A J κ U R)(kd:kindOf st=κ)(hx:(arrOf st).toList[i]? =some x)(hy:(arrOf st).toList[j]? =some y)(ux:U x)(uy:U y)(q:Q (some (R x y)) st):Tm prog w A E J (ltAt' i j) Q st:=by
 rw [ltAt'_eq];exact .bind (.get (.bind (.elem (by rw [<-T9];exact hx) (.bind (.elem (by rw [<-T9];exact hy) (.lt ak kd ux uy q))))))
abbrev Dsc (R:Keyed->Keyed->Bool)(l:List Keyed):Prop:=l.Pairwise λx y=>R x y=false
theorem Lm {l:List Keyed}(d:Dsc R l):Srt R l.reverse:=W3.mpr d
theorem NZ (o:Ordd U R){l:List Keyed}{x y:Keyed}(u: ∀z∈l++ [x],U z)(uy:U y)(s:Srt R (l++ [x]))(h:R y x=false):Srt R (l++ [x]++ [y]):=by
 refine R9.mpr ⟨s,T8 _ _,λz hz v hv=> ?_⟩;rw [G5.mp hv];have ux:=u x (by simp);rcases P7.mp hz with w|w
 ·exact o.trans (u z hz) ux uy ((R9.mp s).2.2 z w x (by simp)) h
 ·rw [G5.mp w];exact h
theorem Ba {l m:List Keyed}(s:Dsc R (l++m))(alike: ∀x∈m,∀y∈m,R x y=false):Dsc R (l++m.reverse):=by
 obtain⟨a,b,c⟩:=R9.mp s;refine R9.mpr ⟨a,?_,λx hx y hy=>c x hx y (C9.mp hy)⟩;rw [A4];intro i j hi hj _;exact alike _ (C9.mp (D4 hi)) _ (C9.mp (D4 hj))
end
section
variable {prog:Program}{w:World}{A:Around}{E:Value->Shared->Prop}{J:Shared->Prop}{κ:SortKind}{U:Keyed->Prop}{R:Keyed->Keyed->Bool}
theorem Arr.trans {a b c:SortSt}(x:Arr a b)(y:Arr b c):Arr a c:=⟨y.1.trans x.1,y.2.1.trans x.2.1,y.2.2.1.trans x.2.2.1,y.2.2.2.trans x.2.2.2⟩
variable {P Z:List Keyed}
theorem Lies.rest {st:SortSt}{S:List Keyed}(h:Lies st P Z S){i:Nat}:(arrOf st).toList[P.length+Z.length+i]? =S[i]? :=by
 rw [h,P4 (by rw [G3];omega),G3]
 congr 1;omega
theorem Lies.end {st:SortSt}{W S:List Keyed}{x:Keyed}(h:Lies st P (W++ [x]) S):(arrOf st).toList[P.length+W.length]? =some x:=by
 rw [h,G8,P4 (by omega),G8,P4 (by omega)];simp
theorem Yx {l:List Keyed}(h:1<=l.length): ∃W x,l=W++ [x]:=by
 rcases List.eq_nil_or_concat l with e|⟨W,x,e⟩
 ·subst e;simp at h
 ·exact⟨W,x,by rw [e,List.concat_eq_append]⟩
structure Fall (R:Keyed->Keyed->Bool)(T Z1 Z2:List Keyed)(n:Nat):Prop where
 len:(Z1++Z2).length=n
 perm:(Z1++Z2).Perm (T.take n)
 dsc:Dsc R (Z1++Z2)
 alike: ∀x∈Z2,∀y∈Z2,R x y=false
 ne:1<=Z2.length
variable {T:List Keyed}{n:Nat}
theorem Fall.turn {Z1 Z2:List Keyed}(f:Fall R T Z1 Z2 n):Fall R T Z1 Z2.reverse n:=
 ⟨by have:=f.len;simp only [G3,S4] at this ⊢;exact this,((F8 Z2).append_left Z1).trans f.perm,Ba f.dsc f.alike,λx hx y hy=>f.alike x (C9.mp hx) y (C9.mp hy),by rw [S4];exact f.ne⟩
theorem Fall.mem {Z1 Z2:List Keyed}(f:Fall R T Z1 Z2 n){x:Keyed}(h:x∈Z1++Z2):x∈T:=N0 (f.perm.mem_iff.mp h)
theorem Jh {y:Keyed}(h:Z.Perm (T.take n))(hy:T[n]? =some y):(Z++ [y]).Perm (T.take (n+1)):=by
 rw [Wf hy];exact h.append_right _
theorem Fall.below (o:Ordd U R){T Z1 Z2:List Keyed}{n:Nat}{x y:Keyed}(u: ∀x∈T,U x)(f:Fall R T Z1 Z2 n)(hx:x∈Z2)(hy:T[n]? =some y)(h:R y x=true):Fall R T (Z1++Z2) [y] (n+1):=by
 have uy:=u y (G6 hy);have ux:=u x (f.mem (P7.mpr (.inr hx)));have xy:=o.asym y x uy ux h;refine⟨by rw [G3,f.len];rfl,Jh f.perm hy,?_,λa ha b hb=> ?_,by simp⟩
 ·refine R9.mpr ⟨f.dsc,T8 _ _,λz hz v hv=> ?_⟩;rw [G5.mp hv];have uz:=u z (f.mem hz);have zx:R z x=false:=by
   rcases P7.mp hz with w|w
   ·exact(R9.mp f.dsc).2.2 z w x hx
   ·exact f.alike z w x hx
  exact o.trans uy ux uz xy zx
 ·rw [G5.mp ha,G5.mp hb];exact o.refl uy
theorem Fall.like (o:Ordd U R){T Z1 Z2:List Keyed}{n:Nat}{x y:Keyed}(u: ∀x∈T,U x)(f:Fall R T Z1 Z2 n)(hx:x∈Z2)(hy:T[n]? =some y)(h:R y x=false)(h':R x y=false):Fall R T Z1 (Z2++ [y]) (n+1):=by
 have uy:=u y (G6 hy);have ux:=u x (f.mem (P7.mpr (.inr hx)));have zy: ∀z∈Z1++Z2,R z y=false:=λz hz=>by
  have uz:=u z (f.mem hz);have zx:R z x=false:=by
   rcases P7.mp hz with w|w
   ·exact(R9.mp f.dsc).2.2 z w x hx
   ·exact f.alike z w x hx
  exact o.trans uy ux uz h' zx
 have yz: ∀z∈Z2,R y z=false:=λz hz=>o.trans (u z (f.mem (P7.mpr (.inr hz)))) ux uy (f.alike x hx z hz) h
 refine⟨by rw [<-G8,G3,f.len];rfl,by rw [<-G8];exact Jh f.perm hy,?_,λa ha b hb=> ?_,by simp⟩
 ·rw [<-G8];refine R9.mpr ⟨f.dsc,T8 _ _,λz hz v hv=> ?_⟩;rw [G5.mp hv];exact zy z hz
 ·rcases P7.mp ha with p|p<;>rcases P7.mp hb with r|r
  ·exact f.alike a p b r
  ·rw [G5.mp r];exact zy a (P7.mpr (.inr p))
  ·rw [G5.mp p];exact yz b r
  ·rw [G5.mp p,G5.mp r];exact o.refl uy
theorem Lies.more {st:SortSt}{m:Nat}{y:Keyed}(L:Lies st P Z (T.drop m))(hy:T[m]? =some y):Lies st P (Z++ [y]) (T.drop (m+1)):=by
 unfold Lies at L ⊢;rw [L,zr hy];simp
theorem Lies.part {st:SortSt}{Z1 Z2 S:List Keyed}:Lies st P (Z1++Z2) S↔Lies st (P++Z1) Z2 S:=by
 unfold Lies;simp only [List.append_assoc]
theorem Lies.two {st:SortSt}{m:Nat}{y:Keyed}(L:Lies st P Z (T.drop m))(lz:Z.length=m)(m1:1<=m)(hy:T[m]? =some y):(arrOf st).toList[P.length+m]? =some y/\ ∃W x,Z=W++ [x]/\(arrOf st).toList[P.length+m-1]? =some x:=by
 have a:=L.rest (i:=0);rw [J3,lz,W4,W4,hy] at a;obtain⟨W,x,e⟩:=Yx (l:=Z) (by omega);subst e;refine⟨a,W,x,rfl,?_⟩;rw [<-L.end]
 congr 1
 rw [G3,N9] at lz;omega
section
variable {σ ρ τ α:Type}{st:σ}
theorem Tm.rangeN {f:Nat->Option ρ×τ->StateT σ Sem (ForInStep (Option ρ×τ))}(I:Nat->τ->σ->Prop){Q:τ->σ->Prop}{Q':Option ρ×τ->σ->Prop}{a b:Nat}{c:τ}(hab:a<=b)(h:I a c st)(step: ∀i c st,i<b->I i c st->Tm prog w A E J (f i (none,c)) (λr st'=>match r with| .done c'=>c'.1=none/\Q c'.2 st'| .yield c'=>c'.1=none/\I (i+1) c'.2 st') st)(fin: ∀c st,I b c st->Q c st)(q: ∀c st,Q c st->Q' (none,c) st):Tm prog w A E J (forIn [a:b] ((none:Option ρ),c) f) Q' st:=by
 refine Tm.mono (Tm.range (λi c st=>c.1=none/\I i c.2 st) (Q:=λc st=>c.1=none/\Q c.2 st) hab ⟨rfl,h⟩ ?_ λc st h=>⟨h.1,fin _ _ h.2⟩) ?_
 ·rintro i ⟨_,c⟩ st hi ⟨rfl,h⟩;exact(step i c st hi h).mono λr st' x=>by cases r<;>exact x
 ·rintro ⟨_,c⟩ st ⟨rfl,h⟩;exact q c st h
theorem Tm.fork {c:Prop}[Decidable c]{t e:StateT σ Sem α}{Q:α->σ->Prop}(I:σ->Prop)(G: ∀s,I s->Tm prog w A E J e Q s)(T:c->(∀s,I s->Tm prog w A E J e Q s)->Tm prog w A E J t Q st)(F: ¬c->I st):Tm prog w A E J (if c then t else e) Q st:=
 .if2 (λh=>T h G) λh=>G _ (F h)
end
section
variable {st:SortSt}{P T Z:List Keyed}{m:Nat}
theorem RK {f:Nat->Option (Option Nat)×Nat->StateT SortSt Sem (ForInStep (Option (Option Nat)×Nat))}{G:Nat->Option Bool->StateT SortSt Sem (ForInStep (Option (Option Nat)×Nat))}{Q:Option (Option Nat)×Nat->SortSt->Prop}(ak:Vh prog w A J κ U R)(kd:kindOf st=κ)(o:Ordd U R)(u: ∀x∈T,U x)
 (hf: ∀i n,f i (none,n)=ltAt' (P.length+n) (P.length+n-1) >>= G n)(hG: ∀n,G n (some true)=Pure.pure (.done (none,n))/\G n (some false)=Pure.pure (.yield (none,n+1)))
 (m1:1<=m)(m2:m<=T.length)(L:Lies st P Z (T.drop m))(p:Z.Perm (T.take m))(s:Srt R Z)
 (q: ∀n Z',1<=n->n<=T.length->Lies st P Z' (T.drop n)->Z'.Perm (T.take n)->Srt R Z'->(∀y,T[n]? =some y-> ∃W x,Z'=W++ [x]/\R y x=true)->Q (none,n) st):Tm prog w A E J (forIn [m:T.length] ((none:Option (Option Nat)),m) f) Q st:=by
 refine Tm.rangeN (λi c s=>s=st/\c=i/\1<=i/\ ∃Z,Lies st P Z (T.drop i)/\Z.Perm (T.take i)/\Srt R Z) (Q:=λn s=>s=st/\Q (none,n) st) m2 ⟨rfl,rfl,m1,Z,L,p,s⟩ ?_ ?_ λc s h=>h.1 ▸ h.2
 ·rintro _ i _ hi ⟨rfl,rfl,i1,Z,L,p,s⟩;have hy:=G0 hi;obtain⟨ay,W,x,rfl,ax⟩:=L.two (by rw [p.length_eq,R1,U7 (D8 hi)]) i1 hy;have uy:=u _ (D4 hi);have uZ: ∀z∈W++ [x],U z:=λz hz=>u z (N0 (p.mem_iff.mp hz))
  rw [hf];refine .bind (.ltAt ak kd ay ax uy (uZ x (by simp)) ?_);cases hb:R T[i] x with
  |true=>
   rw [(hG _).1];exact .pure ⟨rfl,rfl,q i _ i1 (D8 hi) L p s λy h=>⟨W,x,rfl,by rw [hy] at h;injection h with h;rw [<-h];exact hb⟩⟩
  |false=>
   rw [(hG _).2];exact .pure ⟨rfl,rfl,rfl,W6 (T3 _),_,L.more hy,Jh p hy,NZ o uZ uy s hb⟩
 ·rintro _ _ ⟨rfl,rfl,i1,Z,L,p,s⟩;exact⟨rfl,q _ Z i1 (G9 _) L p s λy h=>absurd (G7.mp h).1 (B2 _)⟩
end
def Fell (R:Keyed->Keyed->Bool)(P T:List Keyed)(st st':SortSt)(n k:Nat):Prop:=Arr st st'/\ ∃Z1 Z2,Lies st' P (Z1++Z2) (T.drop n)/\Fall R T Z1 Z2 n/\Z2.length=k+1
theorem Fell.rev {st s2:SortSt}{k:Nat}{Q:Unit->SortSt->Prop}(h:Fell R P T st s2 n k)(q: ∀s3,Fell R P T st s3 n k->Q () s3):Tm prog w A E J (reverseSlice' (P.length+n-(k+1)) (P.length+n)) Q s2:=by
 obtain⟨ar,Z1,Z2,L,F,l⟩:=h;have l12:=F.len;rw [G3] at l12;exact .rev (Lies.part.mp L) (by rw [G3];omega) (by rw [G3];omega) λs3 ar3 L3=>q s3 ⟨ar.trans ar3,Z1,_,Lies.part.mpr L3,F.turn,by rw [S4];exact l⟩
theorem Bb {st:SortSt}{Q:Option Nat->SortSt->Prop}(ak:Vh prog w A J κ U R)(kd:kindOf st=κ)(o:Ordd U R)(u: ∀x∈T,U x)(h:Lies st P [] T)(h1:1<=T.length)
 (q: ∀n st' Z,1<=n->n<=T.length->Arr st st'->Lies st' P Z (T.drop n)->Z.Perm (T.take n)->Srt R Z->Q (some n) st'):Tm prog w A E J (countRun' P.length T.length) Q st:=by
 refine .bind (RK (m:=1) (Z:=T.take 1) ak kd o u (by exact λi n=>rfl) (by exact λn=>⟨rfl,rfl⟩) (G9 _) h1 ?_ (.refl _) ?_ λn Z n1 n2 L p sr br=> ?_)
 ·unfold Lies at h ⊢;rw [h,B7,G8,R4]
 ·match T,h1 with
  |x::r,_=>exact T8 _ _
 refine .eq2 (x:=n) (y:=T.length) (λz1=> .pure (q n _ _ n1 n2 (Arr.refl _) L p sr)) λz1=> ?_
 have n3:n<T.length:=N8 n2 z1;have hy:=G0 n3;have uZ: ∀z∈Z,U z:=λz hz=>u z (N0 (p.mem_iff.mp hz))
 obtain⟨W,x,e,yx⟩:=br _ hy;have lz:Z.length=n:=by rw [p.length_eq,R1,U7 n2]
 have xin:x∈Z:=by rw [e];simp
 have xl:Z[Z.length-1]? =some x:=by rw [e];simp
 have F0:(∀p∈Z,∀r∈Z,R p r=false)->Fall R T [] Z n:=λal=>⟨lz,p,A4.mpr λi j hi hj _=>al _ (D4 hi) _ (D4 hj),al,by rw [lz];exact n1⟩
 refine Tm.fork (λs=>Fell R P T st s (n+1) 0) ?_ ?_ ?_
 ·intro s1 F1;refine .bind (.rule (.bind (Tm.rangeN (λi c s=>c.1=i/\Fell R P T st s c.1 c.2) (Q:=λc s=>c.1<=T.length/\Fell R P T st s c.1 c.2) n3 ⟨rfl,F1⟩ ?_ (λc s h=>⟨A3 h.1,h.2⟩) ?_)))
  ·intro i c s2 hi h2;have hc:c.1<T.length:=by rw [h2.1];exact hi
   have hy:=G0 hc;have uy:=u _ (D4 hc);obtain⟨e1,ar2,Z1,Z2,L2,F2,l2⟩:=h2;have l12:=F2.len;obtain⟨ay,W,x,eW,ax⟩:=L2.two l12 (by rw [<-l12,G3,l2];exact J8 _ _) hy;have xin:x∈Z2:=by
    obtain⟨V,v,e⟩:=Yx F2.ne;have e':=congrArg List.getLast? eW;rw [e,<-G8,G0K,G0K] at e';injection e' with e'
    rw [e,<-e'];simp
   have ux:=u x (F2.mem (P7.mpr (.inr xin)));refine .bind (.ltAt ak (ar2.1.trans kd) ay ax uy ux (.if2 (c:=R _ x=true) (λhb=> ?_) λhb=> .bind (.ltAt ak (ar2.1.trans kd) ax ay ux uy (.if2 (c:=R x _=true) (λhc'=> .pure ⟨rfl,D8 hc,ar2,Z1,Z2,L2,F2,l2⟩) λhc'=> ?_))))
   ·refine Tm.fork (λs=>Fell R P T st s (c.1+1) 0) (λs h=> .pure ⟨rfl,congrArg Nat.succ e1,h⟩) (λzq H=> .bind ?_) λzq=>⟨ar2,Z1++Z2,[T[c.1]],L2.more hy,F2.below o u xin hy hb,rfl⟩
    have l12':=l12;rw [G3] at l12';exact .rev (Lies.part.mp L2) (by rw [List.length_append];dsimp only;omega) (by rw [List.length_append];dsimp only;omega) λs3 ar3 L3=>H s3 ⟨ar2.trans ar3,Z1++Z2.reverse,[T[c.1]],(Lies.part.mpr L3).more hy,F2.turn.below o u (List.mem_reverse.mpr xin) hy hb,rfl⟩
   ·refine .pure ⟨rfl,congrArg Nat.succ e1,ar2,Z1,Z2++ [T[c.1]],?_,F2.like o u xin hy (K3.mpr hb) (K3.mpr hc'),by rw [G3,l2];rfl⟩;rw [<-G8];exact L2.more hy
  ·intro c s2 h2;refine Tm.fork (λs=> ∃k,Fell R P T st s c.1 k) ?_ (λzq H=> .bind (h2.2.rev λs h=>H s ⟨_,h⟩)) λzq=>⟨_,h2.2⟩
   intro s3 h3;obtain⟨k,ar3,Z1,Z2,L3,F3,l3⟩:=h3;have m1:1<=c.1:=by rw [<-F3.len,G3,l3];exact J8 _ _
   exact .bind (.rev L3 rfl (by rw [F3.len]) λs4 ar4 L4=> .bind (RK ak ((ar3.trans ar4).1.trans kd) o u (by exact λi n=>rfl) (by exact λn=>⟨rfl,rfl⟩) m1 h2.1 L4 ((F8 _).trans F3.perm) (Lm F3.dsc) λn Z n1 n2 L p sr _=> .pure (q n s4 Z n1 n2 (ar3.trans ar4) L p sr)))
 ·intro z2 H;obtain⟨x0,V,eV⟩: ∃x0 V,Z=x0::V:=by
   match Z,xin with
   |a::r,_=>exact⟨a,r,rfl⟩
  have ux:=uZ x xin;have ux0:=uZ x0 (by rw [eV];simp);have a0:(arrOf st).toList[P.length]? =some x0:=by rw [L,eV];simp
  have a1:(arrOf st).toList[P.length+n-1]? =some x:=by
   obtain⟨_,W',x',e',ax⟩:=L.two lz n1 hy;rw [e] at e';rw [ax,(List.append_inj' e' rfl).2 |> λh=>(List.cons.inj h).1]
  exact .bind (.ltAt ak kd a0 a1 ux0 ux (.if2 (c:=R x0 x=true) (λ_=> .pure (q n _ _ n1 n2 (Arr.refl _) L p sr)) λhr0=> .bind (.rev L rfl (by rw [lz]) λs1 ar1 L1=>H s1 ⟨ar1,_,_,L1.more hy,Fall.below o u (Z1:= []) (Fall.turn (F0 λp hp r hr=>o.trans (uZ r hr) ux (uZ p hp) (RJ o uZ sr xl hr) (K3.mpr λv=>(o.neg p x0 x (uZ p hp) ux0 ux v).elim (λv=>by rw [GD o uZ sr (z:=x0) (by rw [eV];rfl) hp] at v;cases v) hr0))) (C9.mpr xin) hy yx,rfl⟩)))
 ·intro z2;have w0:W= []:=I0 (by rw [e,G3,N9] at lz;omega);have f: ∀z∈Z,z=x:=λz hz=>by rw [e,w0] at hz;exact G5.mp hz
  exact⟨Arr.refl st,_,_,L.more hy,Fall.below o u (Z1:= []) (F0 λp hp r hr=>by rw [f p hp,f r hr];exact o.refl (uZ x xin)) xin hy yx,rfl⟩
end
section
variable {prog:Program}{w:World}{A:Around}{E:Value->Shared->Prop}{J:Shared->Prop}{κ:SortKind}{U:Keyed->Prop}{R:Keyed->Keyed->Bool}
theorem Bc (xs:Array Keyed)(P Z S:List Keyed)(y:Keyed)(l:Nat)(hl:l<=Z.length)(h:xs.toList=P++Z++y::S):(bubble xs (P.length+Z.length) (Z.length-l)).toList=P++(Z.take l++ [y]++Z.drop l)++S:=by
 have hz:xs.size=P.length+Z.length+(S.length+1):=by rw [<-T4,h];simp [E8]
 have at_: ∀k,xs[k]? =(P++Z++y::S)[k]? :=λk=>by rw [<-T9,h]
 refine G0i λk=> ?_
 rw [T9,getElem?_bubble (by omega) _ (by omega)];have lt:(Z.take l).length=l:=by rw [R1];omega
 by_cases c:k=P.length+Z.length-(Z.length-l)
 ·rw [if_pos c,at_];have e1:(P++Z++y::S)[P.length+Z.length]? =some y:=by
   rw [P4 (by rw [G3];omega),G3,G01];rfl
  have e2:(P++(Z.take l++ [y]++Z.drop l)++S)[k]? =some y:=by
   rw [G8,P4 (by omega),G8,G8,P4 (by rw [lt];omega),lt,show k-P.length-l=0 by omega];rfl
  rw [e1,e2]
 ·rw [if_neg c]
  by_cases d:P.length+Z.length-(Z.length-l)<k/\k<=P.length+Z.length
  ·rw [if_pos d,at_];have e1:(P++Z++y::S)[k-1]? =Z[k-1-P.length]? :=by
    rw [G8,P4 (by omega),D2 (by omega)]
   have e2:(P++(Z.take l++ [y]++Z.drop l)++S)[k]? =Z[k-1-P.length]? :=by
    rw [G8,P4 (by omega),D2 (by simp only [G3,R1,T0,N9];omega),P4 (by rw [G3,lt];simp;omega),G3,lt,J3]
    congr 1;simp;omega
   rw [e1,e2]
  ·rw [if_neg d,at_]
   by_cases f:k<P.length+l
   ·have e1:(P++Z++y::S)[k]? =(P++Z.take l)[k]? :=by
     have:P++Z++y::S=P++Z.take l++(Z.drop l++y::S):=by
      rw [G8,G8,<-G8 (Z.take l),R4]
     rw [this,D2 (by rw [G3,lt];omega)]
    have e2:(P++(Z.take l++ [y]++Z.drop l)++S)[k]? =(P++Z.take l)[k]? :=by
     have:P++(Z.take l++ [y]++Z.drop l)++S=P++Z.take l++([y]++Z.drop l++S):=by simp [G8]
     rw [this,D2 (by rw [G3,lt];omega)]
    rw [e1,e2]
   ·have e1:(P++Z++y::S)[k]? =S[k-P.length-Z.length-1]? :=by
     rw [P4 (by rw [G3];omega),G3,List.getElem?_cons,if_neg (by omega)]
     congr 1;omega
    have e2:(P++(Z.take l++ [y]++Z.drop l)++S)[k]? =S[k-P.length-Z.length-1]? :=by
     rw [P4 (by simp only [G3,R1,T0,N9];omega)]
     congr 1;simp only [G3,R1,T0,N9];omega
    rw [e1,e2]
theorem Ln (o:Ordd U R){Z:List Keyed}{y:Keyed}{l:Nat}(u: ∀z∈Z,U z)(uy:U y)(s:Srt R Z)(a: ∀z∈Z.take l,R y z=false)(b: ∀z∈Z.drop l,R y z=true):Srt R (Z.take l++ [y]++Z.drop l):=by
 have s':Srt R (Z.take l++Z.drop l):=by rw [R4];exact s
 obtain⟨s1,s2,s3⟩:=R9.mp s';refine R9.mpr ⟨R9.mpr ⟨s1,T8 _ _,λx hx z hz=> ?_⟩,s2,λx hx z hz=> ?_⟩
 ·rw [G5.mp hz];exact a x hx
 ·rcases P7.mp hx with v|v
  ·exact s3 x v z hz
  ·rw [G5.mp v];exact o.asym y z uy (u z (M8 hz)) (b z hz)
theorem Ex {st:SortSt}{Q:Bool->SortSt->Prop}{P T Z:List Keyed}{n k:Nat}(ak:Vh prog w A J κ U R)(kd:kindOf st=κ)(o:Ordd U R)(u: ∀x∈T,U x)(h:Lies st P Z (T.drop k))(hp:Z.Perm (T.take k))(hs:Srt R Z)(k1:1<=k)(kn:k<=n)(hn:n<=T.length)
 (q: ∀st' Z',Arr st st'->Lies st' P Z' (T.drop n)->Z'.Perm (T.take n)->Srt R Z'->Q true st'):Tm prog w A E J (binarySort' P.length n k) Q st:=by
 unfold binarySort';refine .bind (Tm.mono (Tm.range (λi c s1=>Arr st s1/\c.1=none/\1<=i/\ ∃Z,Lies s1 P Z (T.drop i)/\Z.Perm (T.take i)/\Srt R Z) (Q:=λc s1=>Arr st s1/\c.1=none/\ ∃Z,Lies s1 P Z (T.drop n)/\Z.Perm (T.take n)/\Srt R Z) (by omega) ⟨Arr.refl st,rfl,by omega,Z,by rw [Nat.max_eq_left k1];exact h,by rw [Nat.max_eq_left k1];exact hp,hs⟩ ?_ ?_) ?_)
 ·rintro i ⟨r,c2⟩ s1 hi ⟨ar,hr,i1,Z,L,p,s⟩;dsimp only at hr ⊢;subst hr;obtain⟨y,hy⟩: ∃y,T[i]? =some y:=⟨_,G0 (by omega)⟩;have uy:=u y (G6 hy);have lz:Z.length=i:=by rw [p.length_eq,R1];omega
  have uZ: ∀z∈Z,U z:=λz hz=>u z (N0 (p.mem_iff.mp hz))
  have ay:(arrOf s1).toList[P.length+i]? =some y:=by
   have:=L.rest (i:=0);rw [J3,lz] at this;rw [W4] at this;rw [this];exact hy
  have az: ∀m,m<i-> ∃z,Z[m]? =some z/\(arrOf s1).toList[P.length+m]? =some z:=λm hm=>by
   refine⟨Z[m],G0 (by omega),?_⟩;rw [L,G8,P4 (by omega),D2 (by omega),G0p,G0 (by omega)]
  refine .bind (Tm.mono (Tm.range (λj c s2=>s2=s1/\c.1=none/\c.2.1<=c.2.2/\c.2.2<=i/\(∀z∈Z.take c.2.1,R y z=false)/\(∀z∈Z.drop c.2.2,R y z=true)/\c.2.2-c.2.1+j<=i) (Q:=λc s2=>s2=s1/\c.1=none/\c.2.1<=i/\(∀z∈Z.take c.2.1,R y z=false)/\(∀z∈Z.drop c.2.1,R y z=true)) (Nat.zero_le _) ⟨rfl,rfl,Nat.zero_le _,Nat.le_refl _,λz hz=> ?_,λz hz=> ?_,by dsimp only;omega⟩ ?_ ?_) ?_)
  ·dsimp only at hz;rw [List.take_zero] at hz;cases hz
  ·dsimp only at hz;rw [List.drop_eq_nil_of_le (by omega)] at hz;cases hz
  ·rintro j ⟨r,l,v⟩ _ hj ⟨rfl,hr,b1,b2,b3,b4,b5⟩;dsimp only at hr b1 b2 b3 b4 b5 ⊢;subst hr
   by_cases c1:l>=v
   ·rw [if_pos c1];have:l=v:=by omega
    subst this;exact .pure ⟨rfl,rfl,b2,b3,b4⟩
   rw [if_neg c1];obtain⟨z,hz,ez⟩:=az ((l+v) / 2) (by omega);have uz:=uZ z (G6 hz);refine .bind (.ltAt ak (ar.1.trans kd) ay ez uy uz ?_);dsimp only;cases hb:R y z with
   |true=>
    rw [if_pos rfl];refine .pure ⟨rfl,rfl,by dsimp only;omega,by dsimp only;omega,b3,λx hx=> ?_,by dsimp only;omega⟩;dsimp only at hx;have zx:R x z=false:=by
     obtain⟨t,ht,e⟩:=N4 hx;rw [T0] at ht;exact Wg s o uZ (show (l+v) / 2<=(l+v) / 2+t by omega) hz (by rw [G0 (by omega),<-e,List.getElem_drop])
    rcases o.neg y x z uy (uZ x (M8 hx)) uz hb with w|w
    ·exact w
    ·rw [zx] at w;cases w
   |false=>
    rw [if_neg (by decide)];refine .pure ⟨rfl,rfl,by dsimp only;omega,b2,λx hx=> ?_,b4,by dsimp only;omega⟩;dsimp only at hx;have xz:R z x=false:=by
     obtain⟨t,ht,e⟩:=N4 hx;rw [R1] at ht;exact Wg s o uZ (show t<=(l+v) / 2 by omega) (by rw [G0 (by omega),<-e,List.getElem_take]) hz
    exact o.trans (uZ x (N0 hx)) uz uy xz hb
  ·rintro ⟨r,l,v⟩ _ ⟨rfl,hr,b1,b2,b3,b4,b5⟩;dsimp only at hr b1 b2 b3 b4 b5 ⊢;have:l=v:=by omega
   subst this;exact⟨rfl,hr,b2,b3,b4⟩
  ·rintro ⟨r,l,v⟩ s2 ⟨rfl,hr,b2,b3,b4⟩;dsimp only at hr b2 b3 b4 ⊢;subst hr;dsimp only;refine .bind ?_;show Tm prog w A E J (moveDown' (P.length+i) (P.length+l)) _ _;rw [moveDown'_eq];refine .modify (.pure ⟨ar.trans ⟨rfl,rfl,rfl,rfl⟩,rfl,by omega,Z.take l++ [y]++Z.drop l,?_,?_,Ln o uZ uy s b3 b4⟩)
   ·have:=Bc (arrOf s2) P Z (T.drop (i+1)) y l (by omega) (by rw [<-zr hy];exact L);rw [lz] at this;rw [show P.length+i-(P.length+l)=i-l by omega];exact this
   ·refine List.Perm.trans ?_ (Jh p hy);rw [G8];have e:Z++ [y]=Z.take l++(Z.drop l++ [y]):=by rw [<-G8,R4]
    rw [e];exact(J7).append_left _
 ·rintro ⟨r,c2⟩ s1 ⟨ar,hr,i1,Z,L,p,s⟩;exact⟨ar,hr,Z,L,p,s⟩
 ·rintro ⟨r,c2⟩ s1 ⟨ar,hr,Z,L,p,s⟩;dsimp only at hr ⊢;subst hr;exact .pure (q s1 Z ar L p s)
end
section
variable {prog:Program}{w:World}{A:Around}{E:Value->Shared->Prop}{J:Shared->Prop}{κ:SortKind}{U:Keyed->Prop}{R:Keyed->Keyed->Bool}
def Stk (R:Keyed->Keyed->Bool)(l:List Keyed):List (Nat×Nat×Nat)->Nat->Nat->Prop
 | [],s,e=>s=e
 |(p,n,_)::rest,s,e=>p=s/\1<=n/\Srt R (seg l p n)/\Stk R l rest (s+n) e
variable {l:List Keyed}
theorem Stk.le: ∀ {pl:List (Nat×Nat×Nat)} {s e:Nat},Stk R l pl s e->s+pl.length<=e
 | [],s,e,h=>by cases h;simp
 |(p,n,_)::rest,s,e,⟨_,n1,_,h⟩=>by have:=Stk.le h;simp only [D3];omega
theorem Bd {l':List Keyed}{p n e:Nat}(h:l.take e=l'.take e)(he:p+n<=e):seg l p n=seg l' p n:=by
 have cut: ∀k:List Keyed,seg k p n=seg (k.take e) p n:=λk=>by
  unfold seg;rw [G0O,G0P,U7 (by omega)]
 rw [cut l,cut l',h]
theorem Stk.same {l':List Keyed}: ∀ {pl:List (Nat×Nat×Nat)} {s e:Nat},Stk R l pl s e->l.take e=l'.take e->Stk R l' pl s e
 | [],s,e,h,_=>h
 |(p,n,_)::rest,s,e,⟨a,b,c,d⟩,h=>by
  have:=d.le;exact⟨a,b,by rw [<-Bd h (by omega)];exact c,d.same h⟩
theorem Stk.shift {l':List Keyed}: ∀ {pl:List (Nat×Nat×Nat)} {s e:Nat},Stk R l pl s e->l.drop s=l'.drop s->Stk R l' pl s e
 | [],s,e,h,_=>h
 |(p,n,_)::rest,s,e,⟨a,b,c,d⟩,h=>by
  subst a;refine⟨rfl,b,by unfold seg at c ⊢;rw [<-h];exact c,d.shift ?_⟩;rw [<-A5,<-A5,h]
theorem Stk.append: ∀ {a b:List (Nat×Nat×Nat)} {s e:Nat},Stk R l (a++b) s e↔ ∃m,Stk R l a s m/\Stk R l b m e
 | [],b,s,e=>⟨λh=>⟨s,rfl,h⟩,λ⟨m,h,h'⟩=>by cases h;exact h'⟩
 |(p,n,w)::a,b,s,e=>by
  constructor
  ·rintro ⟨x,y,z,h⟩;obtain⟨m,h1,h2⟩:=Stk.append.mp h;exact⟨m,⟨x,y,z,h1⟩,h2⟩
  ·rintro ⟨m,⟨x,y,z,h1⟩,h2⟩;exact⟨x,y,z,Stk.append.mpr ⟨m,h1,h2⟩⟩
structure Bt (R:Keyed->Keyed->Bool)(κ:SortKind)(l0:List Keyed)(lo:Nat)(st:SortSt):Prop where
 kind:kindOf st=κ
 failed:failedOf st=none
 perm:(arrOf st).toList.Perm l0
 stk:Stk R (arrOf st).toList (pendingOf st).toList 0 lo
variable {l0:List Keyed}{lo:Nat}
theorem Bt.size {st:SortSt}(b:Bt R κ l0 lo st):(arrOf st).size=l0.length:=by rw [<-T4,b.perm.length_eq]
theorem Bt.merge {st:SortSt}{Q:Bool->SortSt->Prop}{i:Nat}(ak:Vh prog w A J κ U R)(o:Ordd U R)(u: ∀x∈l0,U x)(b:Bt R κ l0 lo st)(hlo:lo<=l0.length)(hi:i+1<(pendingOf st).size)
 (q: ∀st',Bt R κ l0 lo st'->(pendingOf st').size+1=(pendingOf st).size->(arrOf st').toList.drop lo=(arrOf st).toList.drop lo->Q true st'):Tm prog w A E J (mergeAt' i) Q st:=by
 have lp:(pendingOf st).toList.length=(pendingOf st).size:=by simp
 obtain⟨⟨sa,na,pw⟩,hx⟩: ∃x,(pendingOf st).toList[i]? =some x:=⟨_,G0 (by omega)⟩;obtain⟨⟨sb,nb,pw2⟩,hy⟩: ∃y,(pendingOf st).toList[i+1]? =some y:=⟨_,G0 (by omega)⟩;have e:(pendingOf st).toList=(pendingOf st).toList.take i++(sa,na,pw)::(sb,nb,pw2)::(pendingOf st).toList.drop (i+2):=by
  rw [<-zr hy,<-zr hx,R4]
 have stk:=b.stk;rw [e] at stk;obtain⟨m,k1,em,n1,s1,eb,n2,s2,k2⟩:=Stk.append.mp stk;subst em;subst eb;have le:=k2.le;have sz:=b.size;have hz:sa+na+nb<=(arrOf st).size:=by omega
 have ln:(arrOf st).toList.length=(arrOf st).size:=by simp
 refine Ew ak b.kind o (λx hx=>u x (b.perm.mem_iff.mp hx)) (by rw [<-T9];exact hx) (by rw [<-T9];exact hy) rfl n1 n2 hz s1 s2 b.failed λst' Z kd hf hp ha pz sz'=> ?_
 have hpl:(pendingOf st').toList=(pendingOf st).toList.take i++(sa,na+nb,pw)::(pendingOf st).toList.drop (i+2):=by
  rw [hp,Array.eraseIdxIfInBounds_eq,dif_pos (by rw [G0h];exact hi),Array.toList_eraseIdx,Z4];generalize (pendingOf st).toList.drop (i+2)=B at e ⊢;have li:((pendingOf st).toList.take i).length=i:=by rw [R1];omega
  generalize (pendingOf st).toList.take i=A at e li ⊢;rw [e];subst li;simp [List.set_append,List.eraseIdx_append];intro z;omega
 have lZ:Z.length=na+nb:=by rw [pz.length_eq,G3,Wi (by omega),Wi (by omega)]
 have lt:((arrOf st).toList.take sa).length=sa:=by rw [R1];omega
 refine q st' ⟨kd,hf,?_,?_⟩ ?_ ?_
 ·rw [ha];refine List.Perm.trans ?_ b.perm;have c3:=Uz (arrOf st).toList (p:=sa) (n:=na) (m:=nb);have pp:=(pz.append_left ((arrOf st).toList.take sa)).append_right ((arrOf st).toList.drop (sa+na+nb));rw [<-c3] at pp;exact pp
 ·rw [hpl,ha];refine Stk.append.mpr ⟨sa,k1.same ?_,rfl,by omega,?_,?_⟩
  ·rw [G8,L8 (by omega),R5 (l:=(arrOf st).toList.take sa) (by omega)]
  ·unfold seg;rw [G8,L7 (by omega),N7 (by omega),N6,L8 (by omega),R5 (by omega)];exact sz'
  ·rw [<-E8];refine k2.shift ?_;have:((arrOf st).toList.take sa++Z).length=sa+na+nb:=by rw [G3,lt,lZ];omega
   rw [L7 (by omega),N7 (as:=(arrOf st).toList.take sa++Z) (by omega),N6]
 ·rw [<-T4,<-T4,hpl];have:(pendingOf st).toList.length=((pendingOf st).toList.take i++(sa,na,pw)::(sa+na,nb,pw2)::(pendingOf st).toList.drop (i+2)).length:=congrArg List.length e;rw [this];simp only [G3,D3];omega
 ·rw [ha];have c1:((arrOf st).toList.take sa++Z).length=sa+na+nb:=by rw [G3,lt,lZ];omega
  have c2:sa+na+nb<=lo:=by omega
  rw [List.drop_append,N7 (as:=(arrOf st).toList.take sa++Z) (by omega),N6,A5,c1]
  congr 1;omega
theorem Bt.run {Z:List Keyed}{n:Nat}{s1 s2:SortSt}(b:Bt R κ l0 lo s1)(hlo:lo<=l0.length)(ar:Arr s1 s2)(L:Lies s2 ((arrOf s1).toList.take lo) Z (((arrOf s1).toList.drop lo).drop n))(p:Z.Perm (((arrOf s1).toList.drop lo).take n))(sr:Srt R Z)(hn:n<=l0.length-lo):Bt R κ l0 lo s2/\Srt R (seg (arrOf s2).toList lo n):=by
 have ln:(arrOf s1).toList.length=l0.length:=b.perm.length_eq;have lP:((arrOf s1).toList.take lo).length=lo:=by rw [R1];omega
 have lZ:Z.length=n:=by rw [p.length_eq,R1,T0];omega
 have e:(arrOf s2).toList=(arrOf s1).toList.take lo++Z++((arrOf s1).toList.drop lo).drop n:=L;refine⟨⟨ar.1.trans b.kind,ar.2.2.1.trans b.failed,?_,?_⟩,?_⟩
 ·rw [e];refine List.Perm.trans ?_ b.perm;have pp:=(p.append_left ((arrOf s1).toList.take lo)).append_right (((arrOf s1).toList.drop lo).drop n);rw [G8 _ (((arrOf s1).toList.drop lo).take n),R4,R4] at pp;exact pp
 ·rw [ar.2.1];refine b.stk.same ?_;rw [e,G8,L8 (by omega),R5 (l:=(arrOf s1).toList.take lo) (by omega)]
 ·rw [e];unfold seg;rw [G8,L7 (by omega),N7 (by omega),N6,L8 (by omega),R5 (by omega)];exact sr
theorem Bt.push {n:Nat}{s:SortSt}(b:Bt R κ l0 lo s)(n1:1<=n)(g:Srt R (seg (arrOf s).toList lo n)):Bt R κ l0 (lo+n) (setPending s ((pendingOf s).push (lo,n,0))):=by
 refine⟨b.kind,b.failed,b.perm,?_⟩;show Stk R (arrOf s).toList ((pendingOf s).push (lo,n,0)).toList 0 (lo+n);rw [K2];exact Stk.append.mpr ⟨lo,b.stk,rfl,n1,g,rfl⟩
theorem Stk.mod {f:Nat×Nat×Nat->Nat×Nat×Nat}(hf: ∀x,(f x).1=x.1/\(f x).2.1=x.2.1): ∀ {pl:List (Nat×Nat×Nat)} {k s e:Nat},Stk R l pl s e->Stk R l (pl.modify k f) s e
 | [],k,s,e,h=>by rw [List.modify_nil];exact h
 |(p,n,w)::rest,0,s,e,⟨a,b,c,d⟩=>by
  rw [List.modify_zero_cons];have e1:=(hf (p,n,w)).1;have e2:=(hf (p,n,w)).2;generalize f (p,n,w)=x at e1 e2;obtain⟨p',n',w'⟩:=x;dsimp only at e1 e2;subst e1 e2;exact⟨a,b,c,d⟩
 |(p,n,w)::rest,k+1,s,e,⟨a,b,c,d⟩=>by
  rw [List.modify_succ_cons];exact⟨a,b,c,d.mod hf⟩
theorem Bt.mod {k:Nat}{s:SortSt}{f:Nat×Nat×Nat->Nat×Nat×Nat}(b:Bt R κ l0 lo s)(hf: ∀x,(f x).1=x.1/\(f x).2.1=x.2.1):Bt R κ l0 lo (setPending s ((pendingOf s).modify k f)):=by
 refine⟨b.kind,b.failed,b.perm,?_⟩;show Stk R (arrOf s).toList ((pendingOf s).modify k f).toList 0 lo;rw [Array.toList_modify];exact b.stk.mod hf
theorem Be (c:Bool)(x:Nat):(if c=true then x-1 else x)<=x:=by cases c<;>simp
theorem Lo {st:SortSt}{Q:Unit->SortSt->Prop}(ak:Vh prog w A J κ U R)(o:Ordd U R)(u: ∀x∈l0,U x)(kd:kindOf st=κ)(hf:failedOf st=none)(hp:pendingOf st= #[])(hl:(arrOf st).toList=l0)
 (q: ∀st',failedOf st'=none->(arrOf st').toList.Perm l0->Srt R (arrOf st').toList->Q () st'):Tm prog w A E J sortRuns' Q st:=by
 have b0:Bt R κ l0 0 st:=⟨kd,hf,by rw [hl],by rw [hp];rfl⟩;rw [sortRuns'_eq];refine .bind (.get ?_);dsimp only;rw [b0.size];generalize minRun' l0.length l0.length 0=mr;refine .bind (Tm.mono (Tm.range (λi c s1=>c.1=none/\c.2<=l0.length/\i<=c.2/\Bt R κ l0 c.2 s1) (Q:=λc s1=>c.1=none/\Bt R κ l0 l0.length s1) (T3 _) ⟨rfl,T3 _,T3 _,b0⟩ ?_ ?_) ?_)
 ·rintro i ⟨r,lo⟩ s1 hi ⟨hr,h1,h2,b⟩;dsimp only at hr h1 h2 b ⊢;subst hr
  by_cases z1:lo>=l0.length
  ·rw [if_pos z1];have:lo=l0.length:=by omega
   subst this;exact .pure ⟨rfl,b⟩
  rw [if_neg z1];have ln:(arrOf s1).toList.length=l0.length:=b.perm.length_eq;have lP:((arrOf s1).toList.take lo).length=lo:=by rw [R1];omega
  have lT:((arrOf s1).toList.drop lo).length=l0.length-lo:=by rw [T0,ln]
  have uT: ∀x∈(arrOf s1).toList.drop lo,U x:=λx hx=>u x (b.perm.mem_iff.mp (M8 hx))
  have ct:=λ{Q}=>Bb (prog:=prog) (w:=w) (A:=A) (E:=E) (J:=J) (Q:=Q) (st:=s1) (P:=(arrOf s1).toList.take lo) (T:=(arrOf s1).toList.drop lo) ak b.kind o uT (by unfold Lies;rw [List.append_nil,List.take_append_drop]) (by omega)
  rw [lP,lT] at ct;refine .bind (ct λn s2 Z n1 n2 ar L p sr=> ?_);dsimp only
  by_cases z2:n<mr
  ·rw [if_pos z2];have bn:=λ{Q}=>Ex (prog:=prog) (w:=w) (A:=A) (E:=E) (J:=J) (Q:=Q) (st:=s2) (P:=(arrOf s1).toList.take lo) (T:=(arrOf s1).toList.drop lo) (n:=min (l0.length-lo) mr) ak (ar.1.trans b.kind) o uT L p sr n1 (by omega) (by omega)
   rw [lP] at bn;refine .bind (.rule (.bind (bn λs3 Z3 ar3 L3 p3 sr3=> ?_)));obtain⟨B,G⟩:=b.run h1 (ar.trans ar3) L3 p3 sr3 (by omega);have N1:1<=min (l0.length-lo) mr:=by omega
   rw [if_neg (by decide)];refine .bind (.get ?_);split
   ·refine .bind (Tm.mono (Tm.range (λj c s4=>c.1=none/\Bt R κ l0 lo s4/\Srt R (seg (arrOf s4).toList lo (min (l0.length-lo) mr))) (Q:=λc s4=>c.1=none/\Bt R κ l0 lo s4/\Srt R (seg (arrOf s4).toList lo (min (l0.length-lo) mr))) (T3 _) ⟨rfl,B,G⟩ ?_ (λ_ _ h=>h)) ?_)
    ·rintro j ⟨r,c⟩ s4 hj ⟨hr,B4,G4⟩;dsimp only at hr ⊢;subst hr;refine .bind (.get ?_);split
     ·rename_i older heq;split
      ·exact .pure ⟨rfl,B4,G4⟩
      ·have two:(pendingOf s4).size>1:=G0d λz=>by rw [if_neg z] at heq;cases heq
       refine .bind (Bt.merge ak o u B4 h1 (by omega) λs5 B5 _ dr=> ?_);refine .pure ⟨rfl,B5,?_⟩;unfold seg at G4 ⊢;rw [dr];exact G4
     ·exact .pure ⟨rfl,B4,G4⟩
    ·rintro ⟨r,c⟩ s4 ⟨hr,B4,G4⟩;dsimp only at hr ⊢;subst hr;dsimp only;refine .bind (.modify (.bind (.modify (.pure ⟨rfl,?_,?_,Bt.push (Bt.mod B4 λx=>⟨rfl,rfl⟩) N1 G4⟩))))
     ·dsimp only;omega
     ·dsimp only;omega
   ·refine .bind (.modify (.pure ⟨rfl,?_,?_,Bt.push B N1 G⟩))
    ·dsimp only;omega
    ·dsimp only;omega
  ·rw [if_neg z2];obtain⟨B,G⟩:=b.run h1 ar L p sr n2;have N1:=n1;refine .bind (.get ?_);split
   ·refine .bind (Tm.mono (Tm.range (λj c s4=>c.1=none/\Bt R κ l0 lo s4/\Srt R (seg (arrOf s4).toList lo (n))) (Q:=λc s4=>c.1=none/\Bt R κ l0 lo s4/\Srt R (seg (arrOf s4).toList lo (n))) (T3 _) ⟨rfl,B,G⟩ ?_ (λ_ _ h=>h)) ?_)
    ·rintro j ⟨r,c⟩ s4 hj ⟨hr,B4,G4⟩;dsimp only at hr ⊢;subst hr;refine .bind (.get ?_);split
     ·rename_i older heq;split
      ·exact .pure ⟨rfl,B4,G4⟩
      ·have two:(pendingOf s4).size>1:=G0d λz=>by rw [if_neg z] at heq;cases heq
       refine .bind (Bt.merge ak o u B4 h1 (by omega) λs5 B5 _ dr=> ?_);refine .pure ⟨rfl,B5,?_⟩;unfold seg at G4 ⊢;rw [dr];exact G4
     ·exact .pure ⟨rfl,B4,G4⟩
    ·rintro ⟨r,c⟩ s4 ⟨hr,B4,G4⟩;dsimp only at hr ⊢;subst hr;dsimp only;refine .bind (.modify (.bind (.modify (.pure ⟨rfl,?_,?_,Bt.push (Bt.mod B4 λx=>⟨rfl,rfl⟩) N1 G4⟩))))
     ·dsimp only;omega
     ·dsimp only;omega
   ·refine .bind (.modify (.pure ⟨rfl,?_,?_,Bt.push B N1 G⟩))
    ·dsimp only;omega
    ·dsimp only;omega
 ·rintro ⟨r,lo⟩ s1 ⟨hr,h1,h2,b⟩;dsimp only at hr h1 h2 b;have:lo=l0.length:=by omega
  subst this;exact⟨hr,b⟩
 ·rintro ⟨r,lo⟩ s1 ⟨hr,b⟩;dsimp only at hr ⊢;subst hr;dsimp only;have le0:=b.stk.le;have lp0:(pendingOf s1).toList.length=(pendingOf s1).size:=by simp
  refine .bind (Tm.mono (Tm.range (λj c s4=>c.1=none/\Bt R κ l0 l0.length s4/\(pendingOf s4).size+j<=l0.length) (Q:=λc s4=>c.1=none/\Bt R κ l0 l0.length s4/\(pendingOf s4).size<=1) (T3 _) ⟨rfl,b,by omega⟩ ?_ (λc s4 ⟨x,y,z⟩=>⟨x,y,by omega⟩)) ?_)
  ·rintro j ⟨r,c⟩ s4 hj ⟨hr,B4,z4⟩;dsimp only at hr ⊢;subst hr;refine .bind (.get ?_)
   by_cases c1:(pendingOf s4).size<=1
   ·rw [if_pos c1];exact .pure ⟨rfl,B4,c1⟩
   rw [if_neg c1];refine .bind (Bt.merge ak o u B4 (G9 _) (U4 (Nat.add_le_add_right (Be _ _) 1) (by omega)) λs5 B5 z5 _=> ?_);exact .pure ⟨rfl,B5,by omega⟩
  ·rintro ⟨r,c⟩ s4 ⟨hr,B4,z4⟩;dsimp only at hr ⊢;subst hr;refine .pure (q s4 B4.failed B4.perm ?_);have stk:=B4.stk;have ln:(arrOf s4).toList.length=l0.length:=B4.perm.length_eq;have lp:(pendingOf s4).toList.length=(pendingOf s4).size:=by simp
   generalize (pendingOf s4).toList=pl at stk lp
   match pl,stk,lp with
   | [],e,_=>
    have:l0.length=0:=e.symm;have:(arrOf s4).toList= []:=E7.mp (by omega);rw [this];exact .nil
   | [(p,n,_)],⟨e1,_,sr,e2⟩,_=>
    subst e1;have en:n=l0.length:=by have:0+n=l0.length:=e2;omega
    unfold seg at sr;rw [List.drop_zero,R5 (by omega)] at sr;exact sr
   |_::_::_,_,h=>simp only [D3] at h;omega
end
section
variable {prog:Program}{w:World}{A:Around}{E:Value->Shared->Prop}{s:Shared}{κ:SortKind}{U:Keyed->Prop}{R:Keyed->Keyed->Bool}
def Ey (s:Shared)(a:Addr)(h':Heap):Prop:= ∀b o,b≠a->s.heap.get? b=some o->h'.get? b=some o
def Only (s:Shared)(h':Heap):Shared->Prop:=λs'=> ∃tk,s'= {s with heap:=h',toks:=tk}
theorem Bf {M:Model}{α β:Type}{c:Prop}[Decidable c]{m m':Sem α}{F:α->Sem β}{Q:β->Shared->Prop}(h:wpAny M A ((if c then m else m') >>= F) Q E s):wpAny M A (if c then m >>= F else m' >>= F) Q E s:=by
 by_cases z:c
 ·rw [if_pos z] at h ⊢;exact h
 ·rw [if_neg z] at h ⊢;exact h
theorem JF (vs:List Value):(vs.toArray.zip vs.toArray).toList=vs.map λv=>(v,v):=by
 rw [Array.toList_zip];show vs.zip vs=_
 induction vs with
 |nil=>rfl
 |cons v vs ih=>rw [U2,ih,S1]
theorem Bg {a:Addr}{vs:List Value}{n:Nat}{P:Fin->Shared->Prop}(ho:s.heap.get? a=some (seqObj "list" vs.toArray n))(hz:vs.length<=sizeLine)
 (hk:2<=vs.length-> ∀h',Ey s a h'->wpAny (model prog w) A (keyKind' vs.toArray) (λk s'=>k=κ/\Only s h' s') (λ_ _=>False) {s with heap:=h'})(ak: ∀h',Ey s a h'->Vh prog w A (Only s h') κ U R)(o:Ordd U R)(u: ∀v∈vs,U (v,v))
 (q: ∀ (out:List Value) (c tk:Nat) (h':Heap),Ey s a h'->h'.get? a=some (seqObj "list" out.toArray c)->out.Perm vs->(out.map λv=>(v,v)).Pairwise (λx y=>R y x=false)->P (.done (.ret .none)) {s with heap:=h',toks:=tk}):
 wpAny (model prog w) A (Builtin.«list.sort» ⟨[.ref a],[]⟩) P E s:=by
 have alt:=D5 ho;have sv:vs.toArray.size=vs.length:=D0 ..;rw [list_sort_plain];refine wpAny_bind (listItems_at ho rfl ?_);obtain⟨c1,ho1⟩: ∃c,(s.heap.update a (Obj.mapSeq λ_=>(#[]:Array Value))).get? a=some (seqObj "list" #[] c):=⟨_,get?_update_seq ho λ_=> #[]⟩;refine wpAny_bind (listUpdate_at ho rfl ?_ (by rw [sv];exact hz) (T3 _));refine wpAny_bind (seqEpoch_at ho1 rfl ?_);refine wpAny_bind (wpAny_newTuple ?_ hz);refine wpAny_bind (wpAny_newList ?_ (T3 _));refine F9 ?_;have past:Ey s a (((s.heap.update a (Obj.mapSeq λ_=>(#[]:Array Value))).push {cls:= .type "tuple",data:= .seq vs.toArray.toList.toArray}).push {cls:= .type "list",data:= .seq ([]:List Value).toArray}):=λb x ne e=>by
  refine G2 _ (G2 _ ?_);rw [Y2 _ _ _ _ ne];exact e
 have ho3:=G2 ({cls:= .type "list",data:= .seq ([]:List Value).toArray}:Obj) (G2 ({cls:= .type "tuple",data:= .seq vs.toArray.toList.toArray}:Obj) ho1);revert past ho3;generalize ((s.heap.update a (Obj.mapSeq λ_=>(#[]:Array Value))).push ({cls:= .type "tuple",data:= .seq vs.toArray.toList.toArray}:Obj)).push ({cls:= .type "list",data:= .seq ([]:List Value).toArray}:Obj)=H3;intro past ho3;have kd:wpAny (model prog w) A (if vs.toArray.size<2 then pure general' else keyKind' vs.toArray) (λk s0=>(2<=vs.length->k=κ)/\Only s H3 s0) (λ_ _=>False) {s with heap:=H3}:=by
  by_cases c:vs.toArray.size<2
  ·rw [if_pos c];exact P1 ⟨λz=>by omega,s.toks,rfl⟩
  ·rw [if_neg c];exact R7 (hk (by omega) H3 past) (λk s0 x=>⟨λ_=>x.1,x.2⟩) λ_ _ e=>e
 have rn: ∀k s0,(2<=vs.length->k=κ)->Only s H3 s0->wpAny (model prog w) A ((if vs.toArray.size<2 then pure () else sortRuns':StateT SortSt Sem Unit).run (SortSt.mk' k (vs.toArray.zip vs.toArray) #[] 7 none)) (λr s'=>(failedOf r.2=none/\(arrOf r.2).toList.Perm (vs.map λv=>(v,v))/\Srt R (arrOf r.2).toList)/\Only s H3 s') E s0:=by
  intro k s0 ek j
  by_cases c:vs.toArray.size<2
  ·rw [if_pos c,StateT.run_pure];refine P1 ⟨⟨rfl,?_,?_⟩,j⟩
   ·show (vs.toArray.zip vs.toArray).toList.Perm _;rw [JF]
   ·show Srt R (vs.toArray.zip vs.toArray).toList;rw [JF];rw [sv] at c
    match vs,c with
    | [],_=>exact List.Pairwise.nil
    | [v],_=>exact T8 _ _
  ·rw [if_neg c];have ek:=ek (by omega);subst ek;refine Lo (E:=E) (ak H3 past) o (l0:=vs.map λv=>(v,v)) (st:=SortSt.mk' k (vs.toArray.zip vs.toArray) #[] 7 none) (λx hx=> ?_) rfl rfl rfl (JF vs) (Q:=λ_ st'=>failedOf st'=none/\(arrOf st').toList.Perm (vs.map λv=>(v,v))/\Srt R (arrOf st').toList) (λst' a1 a2 a3=>⟨a1,a2,a3⟩) s0 j;obtain⟨v,hv,rfl⟩:=P9.mp hx;exact u v hv
 dsimp only;refine Bf (wpAny_bind (R7 kd (λk s0 x=> ?_) λ_ _ e=>e.elim));refine wpAny_bind (R7 (rn k s0 x.1 x.2) ?_ λ_ _ e=>e);rintro ⟨⟨⟩,st'⟩ s1 ⟨⟨hf,hp,hs⟩,tk,rfl⟩;dsimp only;have eo:((arrOf st').map λx=>x.2)=((arrOf st').toList.map λx=>x.2).toArray:=by
  rw [<-Array.toList_map,Array.toArray_toList]
 have two:(arrOf st').toList=((arrOf st').toList.map λx=>x.2).map λv=>(v,v):=by
  rw [S6];refine(G0q _).symm.trans (S9 λx hx=> ?_);obtain⟨v,_,rfl⟩:=P9.mp (hp.mem_iff.mp hx);rfl
 have po:((arrOf st').toList.map λx=>x.2).Perm vs:=by
  have:=hp.map λx=>x.2
  rw [S6] at this;refine this.trans ?_;rw [show ((λx:Keyed=>x.2)∘λv:Value=>(v,v))=id from rfl,G0q]
 rw [two] at hs;rw [eo];generalize (arrOf st').toList.map (λx=>x.2)=out at hs po;obtain⟨c2,ho4⟩: ∃c,(H3.update a (Obj.mapSeq λ_=>out.toArray)).get? a=some (seqObj "list" out.toArray c):=⟨_,get?_update_seq ho3 λ_=>out.toArray⟩;refine wpAny_bind (seqEpoch_at (s:= {s with heap:=H3,toks:=tk}) ho3 rfl ?_);refine wpAny_bind (listUpdate_at (s:= {s with heap:=H3,toks:=tk}) ho3 rfl ?_ (T3 _) (by rw [D0,po.length_eq];exact Nat.le_succ_of_le hz));rw [hf];simp only [bne_self_eq_false,Bool.false_eq_true,G03];refine P1 (q out c2 tk _ (λb x ne e=> ?_) ho4 po hs);rw [Y2 _ _ _ _ ne];exact past b x ne e
abbrev Wk (h h':Heap):Prop:= ∀b o,h.get? b=some o->h'.get? b=some o
theorem Pt {l:Addr}{vs:List Value}{Q:Value->Shared->Prop}(hl:s.heap.IsList l vs.toArray)(hz:vs.length<sizeLine)
 (hk:2<=vs.length-> ∀h',Wk s.heap h'->wpAny (model prog w) A.in1.in1 (keyKind' vs.toArray) (λk s'=>k=κ/\Only s h' s') (λ_ _=>False) {s with heap:=h'})(ak: ∀h',Wk s.heap h'->Vh prog w A.in1.in1 (Only s h') κ U R)(o:Ordd U R)(u: ∀v∈vs,U (v,v))
 (q: ∀ (h1 h':Heap) (tk c:Nat) (out:List Value),Wk s.heap h1->Wk h1 h'->h'.get? h1.objs.size=some (seqObj "list" out.toArray c)->out.Perm vs->(out.map λv=>(v,v)).Pairwise (λx y=>R y x=false)->Q (.ref h1.objs.size) {s with heap:=h',toks:=tk}):
 wpAny (model prog w) A (call (.builtin "sorted") [.ref l]) Q E s:=by
 refine Calls.call_function_entry kind_sorted plain_sorted entry_sorted (args_sorted1 _) (wpAny_bind (P1 (wpAny_bind (collect_list hl ?_ (by omega)))));have k1:Wk s.heap ((s.heap.push (seqObj "list" #[] 0)).update s.heap.objs.size (Obj.mapSeq (· ++vs.toArray))):=λb x e=>by
  rw [Y2 _ _ _ _ (S3 (D5 e))];exact G2 _ e
 revert k1;generalize (s.heap.push (seqObj "list" #[] 0)).update s.heap.objs.size (Obj.mapSeq (· ++vs.toArray))=H1;intro k1;have fresh:(H1.push (seqObj "list" vs.toArray 0)).get? H1.objs.size=some (seqObj "list" vs.toArray 0):=R3 _ rfl;have kp: ∀h',Ey {s with heap:=H1.push (seqObj "list" vs.toArray 0)} H1.objs.size h'->Wk H1 h':=λh' p b x e=>p b x (S3 (D5 e)) (G2 _ e)
 refine wpAny_bind (wpAny_newList (wpAny_bind (F9 (C7 slot_list_sort ⟨_,fresh,rfl⟩ entry_list_sort (Bg (s:= {s with heap:=H1.push (seqObj "list" vs.toArray 0)}) (κ:=κ) (U:=U) (R:=R) fresh (D8 hz) (λh2 h' p=>hk h2 h' λb x e=>kp h' p b x (k1 b x e)) (λh' p=>ak h' λb x e=>kp h' p b x (k1 b x e)) o u λout c tk h' p e1 e2 e3=>⟨_,rfl,?_⟩) (args_list_sort _)))) (D8 hz));exact P1 ⟨_,rfl,q H1 h' tk c out k1 (kp h' p) e1 e2 e3⟩
end
theorem JH: ∀a b:List Int,za a b=true->za b a=false
 | [],[],h=>rfl
 | [],_::_,_=>rfl
 |_::_,[],h=>by cases h
 |x::xs,y::ys,h=>by
  unfold za at h ⊢
  by_cases e:x=y
  ·subst e;rw [if_pos rfl] at h ⊢;exact JH xs ys h
  ·rw [if_neg e] at h;rw [if_neg (Ne.symm e)];have:=R8 h;exact D6 (by omega)
theorem Wl: ∀a b c:List Int,za a c=true->za a b=true\/za b c=true
 | [],[],c,h=> .inr h
 | [],_::_,_,_=> .inl rfl
 |_::_,_,[],h=>by cases h
 |x::xs,[],z::zs,h=> .inr rfl
 |x::xs,y::ys,z::zs,h=>by
  unfold za at h ⊢
  by_cases e:x=z
  ·subst e;rw [if_pos rfl] at h
   by_cases f:x=y
   ·subst f;rw [if_pos rfl,if_pos rfl];exact Wl xs ys zs h
   ·rw [if_neg f,if_neg (Ne.symm f)]
    by_cases g:x<y
    ·exact .inl (P0 g)
    ·exact .inr (P0 (by omega))
  ·rw [if_neg e] at h;have lt:=R8 h
   by_cases f:x=y
   ·subst f;rw [if_neg e];exact .inr h
   ·rw [if_neg f]
    by_cases g:x<y
    ·exact .inl (P0 g)
    ·refine .inr ?_;rw [if_neg (by omega)];exact P0 (by omega)
theorem Wm: ∀a b:List Int,za a b=false->za b a=false->a=b
 | [],[],_,_=>rfl
 | [],_::_,h,_=>by cases h
 |_::_,[],_,h=>by cases h
 |x::xs,y::ys,h,h'=>by
  unfold za at h h'
  by_cases e:x=y
  ·subst e;rw [if_pos rfl] at h h';rw [Wm xs ys h h']
  ·rw [if_neg e] at h;rw [if_neg (Ne.symm e)] at h';have:=of_decide_eq_false h;have:=of_decide_eq_false h';omega
theorem RL {U:Keyed->Prop}(key:Value->List Int):Ordd U (λx y=>za (key x.1) (key y.1)):=⟨λx y _ _ h=>JH _ _ h,λx y z _ _ _ h=>Wl _ _ _ h⟩
def IT (h:Heap)(v:Value)(ns:List Int):Prop:= ∃a its,v= .ref a/\IsTup h a its/\IntsAre its.toList ns
theorem IT.keeps {h h':Heap}{v:Value}{ns:List Int}(x:IT h v ns)(k:Wk h h'):IT h' v ns:=let ⟨a,its,e,t,i⟩:=x;⟨a,its,e,t.keeps k,i⟩
theorem GE: ∀ {vs:List Value} {ns ms:List Int},IntsAre vs ns->IntsAre vs ms->ns=ms
 |_,_,_,.nil,.nil=>rfl
 |_,_,_,.cons n t a,.cons _ _ b=>by rw [GE a b]
theorem IT.one {h:Heap}{v:Value}{ns ms:List Int}(x:IT h v ns)(y:IT h v ms):ns=ms:=by
 obtain⟨a,its,rfl,⟨o,e,c,n,d⟩,i⟩:=x;obtain⟨a',its',e2,⟨o',e',c',n',d'⟩,i'⟩:=y;cases e2;rw [e] at e';cases e';rw [d] at d';cases d';exact GE i i'
open Classical in
noncomputable def zt (h:Heap)(v:Value):List Int:=if e: ∃ns,IT h v ns then e.choose else []
theorem IT.nums {h:Heap}{v:Value}{ns:List Int}(x:IT h v ns):zt h v=ns:=by
 have e: ∃ns,IT h v ns:=⟨ns,x⟩;unfold zt;rw [dif_pos e];exact e.choose_spec.one x
section
variable {prog:Program}{w:World}{A:Around}{E:Value->Shared->Prop}{s:Shared}
theorem Ji {α β:Type}{M:Model}{f:α->Sem β}(r:α->β): ∀ (l:List α) {Q:List β->Shared->Prop},(∀v∈l,∀Q':β->Shared->Prop,Q' (r v) s->wpAny M A (f v) Q' E s)->Q (l.map r) s->wpAny M A (l.mapM f) Q E s
 | [],_,_,q=>by
  rw [List.mapM_nil];exact P1 q
 |v::l,Q,hf,q=>by
  rw [List.mapM_cons];refine wpAny_bind (hf v P8 _ (wpAny_bind ?_));exact Ji r l (λu hu=>hf u (R0 _ hu)) (P1 q)
def zE (h:Heap):Value->Option Value
 | .ref a=>match h.get? a with
  |some o=>match o.data with
   | .seq xs _=>xs[0]?
   |_=>none
  |none=>none
 |_=>none
variable {v:Value}{ns:List Int}
theorem Bh {Q:Option Value->Shared->Prop}(x:IT s.heap v ns)(q:Q (zE s.heap v) s):wpAny (model prog w) A (firstOfTuple' v) Q E s:=by
 obtain⟨a,its,rfl,⟨o,e,c,n,d⟩,i⟩:=x;have fe:zE s.heap (.ref a)=its[0]? :=by
  unfold zE;dsimp only;rw [e];dsimp only;rw [d]
 rw [PySem.W.kas_first_eq];refine wpAny_bind (PySem.W.Looks.here (show PySem.W.Looks (model prog w) s.heap (typeOf (.ref a)) o.cls from (PySem.W.Looks.ld e).andThen .now) ?_);rw [c,if_neg (by decide)];refine wpAny_bind (listItems_at e d (P1 ?_));rw [<-fe];exact q
variable {h:Heap}
theorem Pu (x:IT h v []):zE h v=none:=by
 obtain⟨a,its,rfl,⟨o,e,c,n,d⟩,i⟩:=x;unfold zE;dsimp only;rw [e];dsimp only;rw [d];dsimp only;obtain⟨l⟩:=its;cases i;rfl
theorem Yy {n:Int}(x:IT h v (n::ns)): ∃t,zE h v=some (.int n t):=by
 obtain⟨a,its,rfl,⟨o,e,c,k,d⟩,i⟩:=x;obtain⟨l⟩:=its;cases i with
 |cons _ t i=>exact⟨t,by unfold zE;dsimp only;rw [e];dsimp only;rw [d];rfl⟩
theorem Bi (x:IT h v ns):(zE h v).isSome= !ns.isEmpty:=by
 cases ns with
 |nil=>rw [Pu x];rfl
 |cons n ns=>obtain⟨t,e⟩:=Yy x;rw [e];rfl
noncomputable def RM (h:Heap)(vs:List Value):SortKind:=
 if (vs.all λv=> !(zt h v).isEmpty)=true then tuples' true else if ((vs[0]?.map λv=> !(zt h v).isEmpty)=some true) then general' else oneType'
theorem RN {vs:List Value}(h2:2<=vs.length)(x: ∀v∈vs,∃ns,IT h v ns){Q:SortKind->Shared->Prop}(e:Wk h s.heap)(q:Q (RM h vs) s):wpAny (model prog w) A (keyKind' vs.toArray) Q E s:=by
 have fr: ∀v∈vs,(zE s.heap v).isSome= !(zt h v).isEmpty:=λv hv=>by
  obtain⟨ns,t⟩:=x v hv;rw [t.nums,Bi (t.keeps e)]
 rw [keyKind'_eq,G0j,map_eq_pure_bind];refine wpAny_bind (wpAny_bind (Ji (zE s.heap) vs (λv hv Q' q'=> ?_) (P1 ?_)))
 ·obtain⟨ns,t⟩:=x v hv;exact Bh (t.keeps e) q'
 have all_:((vs.map (zE s.heap)).toArray.all λo=>o.isSome)=vs.all λv=> !(zt h v).isEmpty:=by
  rw [G0v,H0];rw [N5,S5,S5];exact⟨λz v hv=>by rw [<-fr v hv];exact z v hv,λz v hv=>by show (zE s.heap v).isSome=true;rw [fr v hv];exact z v hv⟩
 rw [all_];unfold RM at q
 by_cases a1:(vs.all λv=> !(zt h v).isEmpty)=true
 ·rw [if_pos a1] at q;rw [if_pos a1];refine wpAny_bind (X6 ?_);obtain⟨fs,efs,nums,ne⟩: ∃fs:List Value,vs.map (zE s.heap)=fs.map some/\(∀f∈fs,∃n t,f=Value.int n t)/\fs.length=vs.length:=by
   have go: ∀l:List Value,(∀v∈l,v∈vs)-> ∃fs:List Value,l.map (zE s.heap)=fs.map some/\(∀f∈fs,∃n t,f=Value.int n t)/\fs.length=l.length:=by
    intro l
    induction l with
    |nil=>exact λ_=>⟨[],rfl,λf hf=>absurd hf B1,rfl⟩
    |cons v l ih=>
     intro sub;obtain⟨fs,e1,e2,e3⟩:=ih λu hu=>sub u (R0 _ hu)
     have hv:=sub v P8;obtain⟨ns,t⟩:=x v hv;have ne:=S5.mp a1 v hv;rw [t.nums] at ne;cases ns with
     |nil=>cases ne
     |cons n ns=>
      obtain⟨tk,ef⟩:=Yy (t.keeps e);refine⟨.int n tk::fs,by rw [S1,S1,ef,e1],λf hf=> ?_,by rw [D3,D3,e3]⟩;rcases R6.mp hf with rfl|hf
      ·exact⟨n,tk,rfl⟩
      ·exact e2 f hf
   exact go vs λ_ hv=>hv
  rw [efs];have fm:((fs.map some).toArray.filterMap id)=fs.toArray:=by simp
  rw [fm,oneTypeOnly'_eq,G0j,map_eq_pure_bind];refine wpAny_bind (wpAny_bind (wpAny_bind (Ji (λ_=>Value.type "int") fs (λf hf Q' q'=> ?_) (P1 ?_))))
  ·obtain⟨n,t,rfl⟩:=nums f hf;exact P1 q'
  ·match fs,ne with
   | [],ne=>rw [S8] at ne;omega
   |f::fs,_=>
    have h0:(List.map (λ_=>Value.type "int") (f::fs)).toArray[0]? =some (Value.type "int"):=by simp
    have h1:((List.map (λ_=>Value.type "int") (f::fs)).toArray.all λy=>y==Value.type "int")=true:=by
     rw [G0v,H0,S5];exact λ_ _=>rfl
    rw [h0];simp only [h1,if_true];exact P1 (P1 q)
 rw [if_neg a1] at q;rw [if_neg a1]
 match vs,h2,x,fr,q with
 |v::vs,h2,x,fr,q=>
  have h0:((List.map (zE s.heap) (v::vs)).toArray[0]?.bind id).isSome= !(zt h v).isEmpty:=by
   rw [<-fr v P8];simp
  rw [h0];have h0':(((v::vs)[0]?.map λv=> !(zt h v).isEmpty)=some true)↔(!(zt h v).isEmpty)=true:=by simp
  by_cases a2:(!(zt h v).isEmpty)=true
  ·rw [if_pos (h0'.mpr a2)] at q;rw [if_pos a2];exact P1 q
  rw [if_neg λz=>a2 (h0'.mp z)] at q;rw [if_neg a2];rw [oneTypeOnly'_eq,G0j,map_eq_pure_bind];refine wpAny_bind (wpAny_bind (wpAny_bind (Ji (λ_=>Value.type "tuple") (v::vs) (λf hf Q' q'=> ?_) (P1 ?_))))
  ·obtain⟨ns,t⟩:=x f hf;obtain⟨a,its,rfl,⟨o,e1,c,n,d⟩,i⟩:=t.keeps e;refine PySem.W.Looks.here (show PySem.W.Looks (model prog w) s.heap (typeOf (.ref a)) o.cls from (PySem.W.Looks.ld e1).andThen .now) ?_;rw [c];exact q'
  ·have h3:(List.map (λ_=>Value.type "tuple") (v::vs)).toArray[0]? =some (Value.type "tuple"):=by simp
   have h1:((List.map (λ_=>Value.type "tuple") (v::vs)).toArray.all λy=>y==Value.type "tuple")=true:=by
    rw [G0v,H0,S5];exact λ_ _=>rfl
   rw [h3];simp only [h1,if_true];exact P1 (P1 q)
theorem GF {fin:Bool}{Q:Bool->Shared->Prop}{m n:Nat}(ef:fin=decide (m<n)): ∀ {vs us:List Value} {ns ms:List Int} (i:Nat),IntsAre vs ns->IntsAre us ms->ns.length+n=ms.length+m->Q (za ns ms) s->PySem.W.KatLex prog w A true fin Q (vs.zip us) i s
 |_,_,_,_,i,.nil,.nil,l,q=>by
  subst ef;rw [G0f];refine G0D ?_;rw [D6 (by rw [S8] at l;omega)];exact q
 |_,_,_,_,i,.nil,.cons c u y,l,q=>by
  subst ef;rw [G0f];refine G0D ?_;rw [P0 (by rw [S8,D3] at l;omega)];exact q
 |_,_,_,_,i,.cons a t x,.nil,l,q=>by
  subst ef;rw [List.zip_nil_right];refine G0D ?_;rw [D6 (by rw [S8,D3] at l;omega)];exact q
 |_,_,_,_,i,.cons a t x,.cons c u y,l,q=>by
  rw [U2];rw [Yh] at q;obtain⟨e,he,hiff⟩:=Gp A s a t c u;refine PySem.W.kat_cons (he prog w _ _ ?_);refine PySem.W.kat_go (λz=>PySem.W.kat_yes ?_) λz=>PySem.W.kat_no ?_
  ·rw [if_pos (hiff.mp z)] at q;exact GF ef (i+1) x y (by rw [D3,D3] at l;omega) q
  ·rw [if_neg λz'=>by rw [hiff.mpr z'] at z;cases z] at q;cases (true&&i==0) with
   |true=>exact oneLt_int q
   |false=>exact PySem.W.kat_one _ _ (G0R q)
theorem Ez {u:Value}{ms:List Int}{Q:Bool->Shared->Prop}(hu:A.units<cLine)(x:IT s.heap v ns)(y:IT s.heap u ms)(q:Q (za ns ms) s):wpAny (model prog w) A (oneLt' true v u) Q E s:=by
 obtain⟨a,its,rfl,⟨⟨cls,dd,data,sl⟩,e1,c,n,d⟩,i⟩:=x;obtain⟨b,its2,rfl,⟨⟨cls2,dd2,data2,sl2⟩,e2,c2,n2,d2⟩,i2⟩:=y;simp only at c d c2 d2;subst c d c2 d2;rw [oneLt'_eq];simp only [if_true];refine wpAny_bind (wpAny_cRoomFor hu (wpAny_bind (wpAny_callSpecialIfBound?_slot ⟨_,e1,rfl⟩ W0 (G0I W0 ⟨_,e1,rfl⟩ G0x (G0l _ _) (vX a b its its2 n n2 dd dd2 sl sl2 ns ms i i2) ⟨e1,e2,?_⟩))));exact N2 q
theorem EA {u:Value}{ms:List Int}{Q:Bool->Shared->Prop}(hu:A.units<cLine)(x:IT s.heap v ns)(y:IT s.heap u ms)(q:Q (za ns ms) s):wpAny (model prog w) A (oneLt' false v u) Q E s:=by
 obtain⟨a,its,rfl,t,i⟩:=x;obtain⟨b,its2,rfl,t2,i2⟩:=y;exact PySem.W.kat_one _ _ (Pf t t2 i i2 hu q)
theorem RO {vs:List Value}(hu:A.units<cLine){h':Heap}(k:Wk s.heap h'):Vh prog w A (Only s h') (RM s.heap vs) (λx=> ∃ns,IT s.heap x.1 ns) (λx y=>za (zt s.heap x.1) (zt s.heap y.1)):=by
 rintro ⟨x,x'⟩ ⟨y,y'⟩ ⟨ns,tx⟩ ⟨ms,ty⟩ s1 ⟨tk,rfl⟩;dsimp only at tx ty ⊢;have q:(za ns ms=za (zt s.heap x) (zt s.heap y)/\Only s h' {s with heap:=h',toks:=tk}):=⟨by rw [tx.nums,ty.nums],tk,rfl⟩;have kx:=tx.keeps k;have ky:=ty.keeps k;unfold RM
 by_cases a1:(vs.all λv=> !(zt s.heap v).isEmpty)=true
 ·rw [if_pos a1];obtain⟨a,its,rfl,⟨o,e1,c,n,d⟩,i⟩:=kx;obtain⟨b,its2,rfl,⟨o2,e2,c2,n2,d2⟩,i2⟩:=ky;refine PySem.W.kat_lt e1 d e2 d2 (GF rfl 0 i i2 ?_ q);have z1:=i.length;have z2:=i2.length;rw [T4] at z1 z2;omega
 rw [if_neg a1]
 by_cases a2:(vs[0]?.map λv=> !(zt s.heap v).isEmpty)=some true
 ·rw [if_pos a2];show wpAny _ _ (oneLt' false x y) _ _ _;exact EA hu kx ky q
 ·rw [if_neg a2,keyLt'_oneType];exact Ez hu kx ky q
theorem Qa {l:Addr}{vs:List Value}{Q:Value->Shared->Prop}(hu:A.in1.in1.units<cLine)(hl:s.heap.IsList l vs.toArray)(hz:vs.length<sizeLine)(x: ∀v∈vs,∃ns,IT s.heap v ns)
 (q: ∀ (h1 h':Heap) (tk c:Nat) (out:List Value),Wk s.heap h1->Wk h1 h'->h'.get? h1.objs.size=some (seqObj "list" out.toArray c)->out.Perm vs->out.Pairwise (λx y=>za (zt s.heap y) (zt s.heap x)=false)->Q (.ref h1.objs.size) {s with heap:=h',toks:=tk}):
 wpAny (model prog w) A (call (.builtin "sorted") [.ref l]) Q E s:=by
 refine Pt (κ:=RM s.heap vs) (U:=λx=> ∃ns,IT s.heap x.1 ns) (R:=λx y=>za (zt s.heap x.1) (zt s.heap y.1)) hl hz (λh2 h' k=> ?_) (λh' k=>RO hu k) (RL _) x λh1 h' tk c out k1 k2 e1 e2 e3=>q h1 h' tk c out k1 k2 e1 e2 ?_
 ·exact RN (s:= {s with heap:=h'}) h2 x k ⟨rfl,s.toks,rfl⟩
 ·rw [M9] at e3;exact e3
end
end HT
namespace L2
open PySem PySem.Spec PyProof.Rows PySem.SeqAt HT
theorem Wn {α β:Type}{f:α->β}: ∀ {out:List β} {l:List α},out.Perm (l.map f)-> ∃l':List α,l'.Perm l/\l'.map f=out
 | [],l,p=>by
  have e:=p.length_eq;rw [G1,S8] at e;exact⟨[],by rw [I0 e.symm],rfl⟩
 |x::out,l,p=>by
  obtain⟨y,hy,rfl⟩:=P9.mp (p.mem_iff.mp P8);obtain⟨l1,l2,rfl⟩:=List.append_of_mem hy;have p2:out.Perm ((l1++l2).map f):=by
   refine List.Perm.cons_inv (a:=f y) (p.trans ?_);rw [T7,T7,S1];exact List.perm_middle
  obtain⟨l',a,b⟩:=Wn p2;exact⟨y::l',(a.cons y).trans List.perm_middle.symm,by rw [S1,b]⟩
def Tz (H:Hp)(v:V)(ns:List Int):Prop:= ∃a,v= .ref a/\H a=some (.tup (ns.map V.int))
theorem UA {X:Cx}{k:Nat}(hr:Room k X.A):CallR X (.builtin "sorted") (λxs H Q=> ∃ (a:Addr) (ps:List (V×List Int)),xs= [.ref a]/\SqL X.K H a (ps.map (·.1))/\ps.length<sizeLine/\(∀p∈ps,Tz H p.1 p.2)/\ ∀ (q:Addr) (ps':List (V×List Int)),H q=none->ps'.Perm ps->(ps'.map (·.2)).Pairwise (λx y=>HT.za y x=false)->Q (.ref q) (upd H q (.lst (ps'.map (·.1))))):=by
 intro pins s σ H xs us Q I r h;obtain⟨a,ps,rfl,hS,hz,ht,q⟩:=h;obtain⟨u,rfl,ru⟩:=YL r;cases ru;obtain⟨its,rv,pl,hz'⟩:=I.list hS;obtain⟨zs,e1,e2,e3⟩: ∃zs:List (Value×V×List Int),its=zs.map (·.1)/\ps=zs.map (·.2)/\ ∀z∈zs,RelV z.2.1 z.1:=by
  clear hS q hz ht hz' pl
  induction ps generalizing its with
  |nil=>cases rv;exact⟨[],rfl,rfl,λz hz=>by cases hz⟩
  |cons p ps ih=>
   rw [S1] at rv;cases rv with
   |cons r1 r2=>
    obtain⟨zs,e1,e2,e3⟩:=ih _ r2;exact⟨(_,p)::zs,by rw [S1,<-e1],by rw [S1,<-e2],λz hz=>by
     rcases R6.mp hz with rfl|hz
     ·exact r1
     ·exact e3 z hz⟩
 subst e1 e2;have it: ∀z∈zs,IT s.heap z.1 z.2.2:=λz hm=>by
  obtain⟨b,eb,hb⟩:=ht z.2 (K9 hm);have rz:=e3 z hm;rw [eb] at rz;have rz:z.1= .ref b:=rz;obtain⟨_,us,r2,p⟩:=I.hok b _ hb;exact⟨b,us.toArray,rz,p.tup,Ck r2⟩
 have hu:X.A.in1.in1.units<cLine:=by
  have:=hr.un;show X.A.units+1+1<cLine;omega
 rw [G1] at hz;refine HT.Qa hu pl.isList (by rw [G1];exact hz) (λv hv=> ?_) λh1 h' tk c out k1 k2 e4 pm srt=> ?_
 ·obtain⟨z,hm,rfl⟩:=P9.mp hv;exact⟨_,it z hm⟩
 obtain⟨zs',pz,rfl⟩:=Wn pm;have I1:=I.kept (t':=s.toks) k1;have vv: ∀l:List (Value×V×List Int),(∀z∈l,z∈zs)->Vals ((l.map (·.2)).map (·.1)) (l.map (·.1)):=λl=>by
  induction l with
  |nil=>exact λ_=> .nil
  |cons z l ih=>exact λsub=> .cons (e3 z (sub z P8)) (ih λy hy=>sub y (R0 _ hy))
 refine⟨.ref _,_,I1.laid (t':=tk) (o:= .lst ((zs'.map (·.2)).map (·.1))) k2 (G9 _) ⟨?_,_,c,vv zs' λz hm=>pz.mem_iff.mp hm,e4⟩,rfl,q _ (zs'.map (·.2)) (I1.hok.fresh (G9 _)) (pz.map _) ?_⟩
 ·rw [G1,G1,pz.length_eq];exact D8 hz
 ·rw [M9,M9];rw [M9] at srt;refine srt.imp_of_mem λ{y z} hy hz e=> ?_
  rw [<- (it y (pz.mem_iff.mp hy)).nums,<- (it z (pz.mem_iff.mp hz)).nums];exact e
abbrev tI (ns:List Int):D:= .tup (ns.map D.int)
def Lp:RDn:=λds h Q=> ∃ (a:Addr) (nss:List (List Int)),ds= [.lst a]/\h a=some (nss.map tI)/\nss.length<sizeLine/\ ∀ (p:Addr) (mss:List (List Int)),h p=none->mss.Perm nss->mss.Pairwise (λx y=>HT.za y x=false)->Q (.lst p) (zY h p (mss.map tI))
theorem RQ {K:PySem.W.Frag}{H:Hp}: ∀ {nss:List (List Int)} {vs:List V},RelDs K H (nss.map tI) vs-> ∃ps:List (V×List Int),vs=ps.map (·.1)/\nss=ps.map (·.2)/\ ∀p∈ps,Tz H p.1 p.2
 | [],vs,r=>⟨[],r,rfl,λp hp=>by cases hp⟩
 |ns::nss,vs,r=>by
  obtain⟨v,us,e,r1,r2⟩:=(show ∃v r,vs=v::r/\RelD K H (tI ns) v/\RelDs K H (nss.map tI) r from r);obtain⟨ps,e1,e2,e3⟩:=RQ r2;obtain⟨a,ws,e4,hH,r4⟩:=(show ∃a vs,v= .ref a/\H a=some (.tup vs)/\RelDs K H (ns.map D.int) vs from r1);rw [Jd r4] at hH;exact⟨(v,ns)::ps,by rw [e,e1];rfl,by rw [e2];rfl,λp hp=>by
   rcases R6.mp hp with rfl|hp
   ·exact⟨a,e4,hH⟩
   ·exact e3 p hp⟩
theorem RR {K:PySem.W.Frag}{H:Hp}: ∀ {ps:List (V×List Int)},(∀p∈ps,Tz H p.1 p.2)->RelDs K H ((ps.map (·.2)).map tI) (ps.map (·.1))
 | [],_=> .nil
 |p::ps,h=> .cons (by
  obtain⟨a,e,hH⟩:=h p P8;exact⟨a,_,e,hH,yU _⟩) (RR λq hq=>h q (R0 _ hq))
theorem Yz {X:Cx}{k:Nat}(hr:Room k X.A):Jb X (.builtin "sorted") Lp:=(UA hr).imp λxs H Q ⟨ds,h,Qd,r,rh,⟨a,nss,e,hd,hz,q⟩,p⟩=>by
 subst e;obtain⟨v,e,r1⟩:=jW r;obtain⟨vs,hH,r2⟩:=rh a _ hd;have e1:v= .ref a:=r1.1;subst e e1;obtain⟨ps,rfl,rfl,ht⟩:=RQ r2;refine⟨a,ps,rfl,SqL.of hH,by rw [G1] at hz;exact hz,ht,λc ps' hc pm srt=> ?_⟩;exact p (.lst c) _ _ _ (.new hc) (rh.newL hc (RR λx hx=>ht x (pm.mem_iff.mp hx))) ⟨rfl,_,jt⟩ (q c _ (rh.free hc) (pm.map _) srt)
abbrev toI (S:List Nat):List Int:=S.map λ(k:Nat)=>(k:Int)
theorem Lq {S S':List Nat}(h:toI S=toI S'):S=S':=by
 have:=congrArg (List.map Int.toNat) h;rw [S6,S6] at this;have e:(Int.toNat∘λ(k:Nat)=>(k:Int))=id:=by funext k;exact Int.toNat_natCast k
 rw [e,G0q,G0q] at this;exact this
theorem RS (S:List Nat):tI (toI S)=jx S:=by
 show D.tup _=D.tup _;rw [S6];rfl
def leS (a b:List Nat):Bool:= !HT.za (toI b) (toI a)
theorem RT (a b c:List Nat)(h:leS a b=true)(h':leS b c=true):leS a c=true:=by
 unfold leS at*
 cases e:HT.za (toI c) (toI a) with
 |false=>rfl
 |true=>
  rcases Wl _ (toI b) _ e with z|z
  ·rw [z] at h';cases h'
  ·rw [z] at h;cases h
theorem RU (a b:List Nat):(leS a b||leS b a)=true:=by
 unfold leS;cases e:HT.za (toI b) (toI a) with
 |false=>rfl
 |true=>rw [JH _ _ e];rfl
theorem Bj {a b:List Nat}(h:leS a b=true)(h':leS b a=true):a=b:=by
 unfold leS at*
 refine Lq (Wm _ _ ?_ ?_)
 ·cases e:HT.za (toI a) (toI b) with
  |false=>rfl
  |true=>rw [e] at h';cases h'
 ·cases e:HT.za (toI b) (toI a) with
  |false=>rfl
  |true=>rw [e] at h;cases h
def Pv (l:List (List Nat)):List (List Nat):=l.mergeSort leS
theorem zj (l:List (List Nat)):(Pv l).Perm l:=List.mergeSort_perm _ _
theorem YA (l:List (List Nat)):(Pv l).Pairwise λa b=>leS a b=true:=List.pairwise_mergeSort RT RU l
theorem UB {l P:List (List Nat)}(p:P.Perm l)(r:P.Pairwise λa b=>leS a b=true):P=Pv l:=
 List.Perm.eq_of_pairwise (λa b _ _ x y=>Bj x y) r (YA l) (p.trans (zj l).symm)
theorem UC {l:List (List Nat)}{mss:List (List Int)}(p:mss.Perm (l.map toI))(r:mss.Pairwise λx y=>HT.za y x=false):mss.map tI=(Pv l).map jx:=by
 obtain⟨P,pP,rfl⟩:=Wn p;rw [M9] at r;rw [<-UB pP (r.imp λe=>by unfold leS;rw [e];rfl),List.map_map];exact S9 λS _=>RS S
end L2
namespace L2
open PySem PySem.Spec PyProof.Rows PySem.SeqAt
theorem GH: ∀l:List Int,PyData.canLayAll0 (l.map PyData.int)=true
 | []=>rfl
 |x::l=>by show (PyData.canLay0 (.int x)&&_)=true;rw [GH l];rfl
variable {S:List Nat}{h:HD}{Q:KD}
theorem RV {neg:Bool}{x:Nat}(q: ∀b:Bool,(b=true↔x∈S)->Q (.bl (neg !=b)) h):inE neg (.int (x:Int)) (jx S) h Q:=by
 refine⟨.int x,(WT S).map PyData.int,rfl,.inr (yD h S),rfl,GH _,(by show (0:Nat)<=60;decide),q _ ?_⟩;rw [G0u];constructor
 ·rintro ⟨z,hz,e⟩;obtain⟨m,hm,rfl⟩:=P9.mp hz;obtain⟨y,hy,rfl⟩:=P9.mp (show m∈S.map λ(k:Nat)=>(k:Int) from hm);have:(y:Int)=x:=by simpa [PyData.eqv] using e
  have:y=x:=by omega
  exact this ▸ hy
 ·intro z;exact⟨.int x,P9.mpr ⟨_,P9.mpr ⟨x,z,rfl⟩,rfl⟩,by simp [PyData.eqv]⟩
def jS (S:List Nat)(T:List (List Int)):List (List Int):=S.map λi=>S.map λj=>ent T i j
variable {n:Nat}{T:List (List Int)}
theorem Wo {e:Nat}(h:Sq n e T)(hS: ∀i∈S,i<n):Sq S.length e (jS S T):=by
 refine⟨by unfold jS;rw [List.length_map],λr hr=> ?_,λr hr x hx=> ?_,λr hr x hx=> ?_⟩<;>obtain⟨i,hi,rfl⟩:=P9.mp hr
 ·rw [G1]
 ·obtain⟨j,hj,rfl⟩:=P9.mp hx;exact(h.ent_nn (hS i hi) (hS j hj)).1
 ·obtain⟨j,hj,rfl⟩:=P9.mp hx;exact(h.ent_nn (hS i hi) (hS j hj)).2
theorem Lr {a b:List Nat}(e:a≠b)(q:Q (.bl false) h):eqE (jx a) (jx b) h Q:=⟨_,_,yD h a,yD h b,Yv _,Yv _,by rw [vx,D6 e];exact q⟩
theorem Ls {x:Nat}(q:Q (.bl (decide (x∈S))) h):inE false (.int (x:Int)) (jx S) h Q:=RV λbo hb=>by
 have:(false !=bo)=decide (x∈S):=by
  cases bo with
  |true=>rw [P0 (hb.mp rfl)];rfl
  |false=>rw [D6 λz=>by have:=hb.mpr z;cases this];rfl
 rw [this];exact q
theorem Vi {h':HD}{a:Addr}(sb:Sub h h')(e:h' a=none):h a=none:=by
 cases z:h a with
 |none=>rfl
 |some ds=>rw [sb a ds z] at e;cases e
theorem Sub.over {h':HD}{a:Addr}{ds:List D}(sb:Sub h h')(e:h a=none):Sub h (zY h' a ds):=⟨λb xs k=>jw (λz=>by subst z;rw [e] at k;cases k) (sb b xs k),sb.dc⟩
theorem Lt {A B:Addr}(k:h A=some (S.map λ(k:Nat)=>D.int (k:Int)))(k':h B=some [])(q:Q (.bl (decide (S= []))) h):eqE (.lst A) (.lst B) h Q:=by
 refine⟨.list ((WT S).map .int),.list [],⟨A,_,rfl,k,?_⟩,⟨B,_,rfl,k',rfl⟩,XT _,by decide +kernel,?_⟩
 ·have:=Wb h (WT S);unfold WT at this ⊢;rw [S6 (f:=λ(k:Nat)=>(k:Int)) (g:=D.int)] at this;exact this
 ·cases S with
  |nil=>exact q
  |cons x S=>exact q
theorem Lu {x:Nat}(q:Q (.bl (!decide (x∈S))) h):inE true (.int (x:Int)) (jx S) h Q:=RV λbo hb=>by
 have:(true !=bo)= !decide (x∈S):=by
  cases bo with
  |true=>rw [P0 (hb.mp rfl)];rfl
  |false=>rw [D6 λz=>by have:=hb.mpr z;cases this];rfl
 rw [this];exact q
structure GB (n:Nat)(h0 h:HD)(R:Addr)(rs:List Addr)(f:Nat->Nat->Bool):Prop where
 at_:h R=some (rs.map D.lst)
 len:rs.length=n
 nR:R ∉ rs
 nd:rs.Nodup
 sb:Sub h0 h
 row: ∀i a,rs[i]? =some a->h0 a=none/\h a=some ((List.range n).map λj=>D.bl (f i j))
section
variable {n:Nat}{h0 h:HD}{R:Addr}{rs:List Addr}{f g:Nat->Nat->Bool}
theorem GB.put (G:GB n h0 h R rs f){i j:Nat}{a:Addr}{v:Bool}(ha:rs[i]? =some a):GB n h0 (zY h a (((List.range n).map λj=>D.bl (f i j)).set j (.bl v))) R rs (λx y=>if x=i/\y=j then v else f x y):=by
 have hm:=G6 ha;have il:=(G7.mp ha).1;refine⟨jw (λz=>G.nR (z ▸ hm)) G.at_,G.len,G.nR,G.nd,G.sb.over (G.row i a ha).1,λx b hb=>⟨(G.row x b hb).1,?_⟩⟩
 by_cases z:x=i
 ·subst z;have eb:b=a:=by rw [ha] at hb;injection hb with hb;exact hb.symm
  subst eb;rw [jd];refine congrArg some (G0t (by simp) λm h1 h2=> ?_);rw [List.getElem_set];simp only [List.getElem_map,List.getElem_range]
  by_cases e:j=m
  ·subst e;simp
  ·rw [if_neg e,if_neg λw=>e w.2.symm]
 ·have ne:b≠a:=λw=>z ((List.getElem?_inj (G7.mp hb).1 G.nd).mp (hb.trans (by rw [w];exact ha.symm)))
  rw [jw ne (G.row x b hb).2];exact congrArg some (S9 λy _=>by rw [if_neg λw=>z w.1])
theorem GB.pick (G:GB n h0 h R rs f){i:Nat}(hi:i<n): ∃a,rs[i]? =some a/\atI (rs.map D.lst) (i:Int)=some (.lst a)/\h a=some ((List.range n).map λj=>D.bl (f i j)):=by
 have hi':i<rs.length:=by rw [G.len];exact hi
 exact⟨rs[i],G0 hi',wE (by rw [P3,G0 hi'];rfl),(G.row i _ (G0 hi')).2⟩
theorem GB.as (G:GB n h0 h R rs f)(e: ∀i j,i<n->j<n->f i j=g i j):GB n h0 h R rs g:=
 ⟨G.at_,G.len,G.nR,G.nd,G.sb,λi a ha=>⟨(G.row i a ha).1,by
  have hi:i<n:=by rw [<-G.len];exact(G7.mp ha).1
  rw [(G.row i a ha).2];exact congrArg some (S9 λj hj=>by rw [e i j hi (D1.mp hj)])⟩⟩
theorem GB.up (G:GB n h0 h R rs f){h':HD}(s:Sub h h'):GB n h0 h' R rs f:=⟨s _ _ G.at_,G.len,G.nR,G.nd,G.sb.trans s,λi a ha=>⟨(G.row i a ha).1,s _ _ (G.row i a ha).2⟩⟩
end
variable {j:Nat}
theorem GI {f:Nat->Bool}(hj:j<n):atI ((List.range n).map λj=>D.bl (f j)) (j:Int)=some (.bl (f j)):=XX hj
def wk (T:List (List Int)):Nat->Nat->Nat->Bool
 |0,i,j=>decide (i=j)|| !decide (ent T i j=0)
 |b+1,i,j=>wk T b i j||(wk T b i b&&wk T b b j)
theorem Vj (T:List (List Int)): ∀b i,wk T b i i=true
 |0,i=>by unfold wk;rw [decide_eq_true rfl];rfl
 |b+1,i=>by unfold wk;rw [Vj T b i];rfl
theorem Cr (T:List (List Int))(b i:Nat):wk T (b+1) i b=wk T b i b:=by
 show (wk T b i b||(wk T b i b&&wk T b b b))=_;cases wk T b i b<;>rfl
theorem Cs (T:List (List Int))(b j:Nat):wk T (b+1) b j=wk T b b j:=by
 show (wk T b b j||(wk T b b b&&wk T b b j))=_;cases wk T b b j<;>cases wk T b b b<;>rfl
variable {i:Nat}
theorem GJ (h:ent T i j≠0): ∀b,wk T b i j=true
 |0=>by unfold wk;rw [decide_eq_false h];simp
 |b+1=>by unfold wk;rw [GJ h b];rfl
variable {b:Nat}
theorem wk_by:wk T (b+1) i j=true↔wk T b i j=true\/(wk T b i b=true/\wk T b b j=true):=by
 show (wk T b i j||(wk T b i b&&wk T b b j))=true↔_;rw [U5,T1]
theorem zM: ∀ {b i k j:Nat},k<b->wk T b i k=true->wk T b k j=true->wk T b i j=true
 |b+1,i,k,j,hk,x,y=>by
  by_cases e:k=b
  ·subst e;rw [Cr] at x;rw [Cs] at y;exact wk_by.mpr (.inr ⟨x,y⟩)
  ·have lt:k<b:=by omega
   rcases wk_by.mp x with x|⟨x1,x2⟩
   ·rcases wk_by.mp y with y|⟨y1,y2⟩
    ·exact wk_by.mpr (.inl (zM lt x y))
    ·exact wk_by.mpr (.inr ⟨zM lt x y1,y2⟩)
   ·rcases wk_by.mp y with y|⟨y1,y2⟩
    ·exact wk_by.mpr (.inr ⟨x1,zM lt x2 y⟩)
    ·exact wk_by.mpr (.inr ⟨x1,y2⟩)
theorem ZG {P:Nat->Nat->Prop}(r: ∀i,P i i)(a: ∀i j,ent T i j≠0->P i j)(t: ∀i k j,P i k->P k j->P i j): ∀ {b i j:Nat},wk T b i j=true->P i j
 |0,i,j,h=>by
  have h:(decide (i=j)|| !decide (ent T i j=0))=true:=h;rw [U5] at h;rcases h with h|h
  ·rw [R8 h];exact r j
  ·exact a i j λz=>by rw [P0 z] at h;cases h
 |b+1,i,j,h=>by
  rcases wk_by.mp h with h|⟨h1,h2⟩
  ·exact ZG r a t h
  ·exact t _ _ _ (ZG r a t h1) (ZG r a t h2)
theorem Lv {e:Nat}(h:Sq n e T)(i j:Nat)(z:ent T i j≠0):j<n:=by
 by_cases hj:j<n
 ·exact hj
 ·exfalso;apply z;unfold ent
  by_cases hi:i<T.length
  ·have hr:=h.row (T.getD i []) (by rw [P2,G0 hi];exact D4 hi);rw [P2,C0 (by rw [hr];omega)];rfl
  ·rw [P2 (l:=T),C0 (by omega)];rfl
def fW (T:List (List Int))(b i j x y:Nat):Bool:=if x<i\/(x=i/\y<j) then wk T (b+1) x y else wk T b x y
theorem EB (T:List (List Int))(b i j x:Nat):fW T b i j x b=wk T b x b:=by
 unfold fW;rw [Cr]
 by_cases c:x<i\/(x=i/\b<j)
 ·rw [if_pos c]
 ·rw [if_neg c]
theorem EC (T:List (List Int))(b i j y:Nat):fW T b i j b y=wk T b b y:=by
 unfold fW;rw [Cs]
 by_cases c:b<i\/(b=i/\y<j)
 ·rw [if_pos c]
 ·rw [if_neg c]
theorem ED (h1:wk T b i b=true)(h2:wk T b b j=true)(x y:Nat):(if x=i/\y=j then true else fW T b i j x y)=fW T b i (j+1) x y:=by
 by_cases e:x=i/\y=j
 ·obtain⟨rfl,rfl⟩:=e;unfold fW;rw [if_pos ⟨rfl,rfl⟩,if_pos (.inr ⟨rfl,L6 _⟩)];exact(wk_by.mpr (.inr ⟨h1,h2⟩)).symm
 ·rw [if_neg e];unfold fW
  by_cases c:x<i\/(x=i/\y<j)
  ·rw [if_pos c,if_pos (by omega)]
  ·rw [if_neg c,if_neg (by omega)]
theorem RW (h: ¬ (wk T b i b=true/\wk T b b j=true))(x y:Nat):fW T b i j x y=fW T b i (j+1) x y:=by
 unfold fW
 by_cases c:x<i\/(x=i/\y<j)
 ·rw [if_pos c,if_pos (by omega)]
 ·rw [if_neg c]
  by_cases e:x=i/\y=j
  ·obtain⟨rfl,rfl⟩:=e;rw [if_pos (by omega),N5,wk_by];exact⟨.inl,λz=>z.resolve_right h⟩
  ·rw [if_neg (by omega)]
theorem Lw (T:List (List Int))(b i x y:Nat)(hy:y<n):fW T b i n x y=fW T b (i+1) 0 x y:=by
 unfold fW
 by_cases c:x<i\/(x=i/\y<n)
 ·rw [if_pos c,if_pos (by omega)]
 ·rw [if_neg c,if_neg (by omega)]
theorem EE (T:List (List Int))(b x y:Nat)(hx:x<n):fW T b n 0 x y=wk T (b+1) x y:=by
 unfold fW;rw [if_pos (.inl hx)]
theorem Lx (T:List (List Int))(b x y:Nat):wk T b x y=fW T b 0 0 x y:=by
 unfold fW;rw [if_neg (by omega)]
theorem yV {n:Nat}{a:Nat}(ha:a<S.length)(hb:b<S.length):ent (jS S T) a b=ent T (S.getD a 0) (S.getD b 0):=by
 unfold jS ent;simp [P2,ha,hb]
def inS (A B:List Nat):List Nat:=A.filter λj=>decide (j∈B)
section
variable {X:Cx}{iter iter' elt:Expr}{te:TED}{ti ti':TID}{tt tt':TTD}{pos spos:Pos}{scope:Scope}{js:List Nat}{ifs ifs':List Expr}
theorem Ly {i i' k:Nat}{x z y:Str}{p pz py:Pos}(hc:X.calm=true)(hN:X.N.Nodup)(hk:X.N[k]? =some y)(hy:Loc X.env.scope y)(S:BlockOk X scope js)(hi:JI X (.Name x p) iter ti)(hj:i∈js)(hj':i'∈js)(hne:i≠i')(hx:X.N[i]? =some x)(hz:X.N[i']? =some z)
 (hl:scope.names.lookup x=some .local\/scope.names.lookup x=some .cell)(hl':scope.names.lookup z=some .local\/scope.names.lookup z=some .cell)
 (ht: ∀X',jk X scope X'->PTs X' ifs (LT X'.K tt))(hi': ∀X',jk X scope X'->JI X' (.Name z pz) iter' ti')(ht': ∀X',jk X scope X'->PTs X' ifs' (LT X'.K tt'))(he: ∀X',jk X scope X'->JE X' elt te)
 (hsw:swapsWith (.ListComp elt [⟨.Name x p,iter,ifs,0⟩,⟨.Name z pz,iter',ifs',0⟩] scope pos) (some (.Name y py)) spos.line X.env=pure true:=by rfl)
 (hf:X.fn y=true\/X.env.scope.names.lookup y=some .local:=by first|exact .inl rfl|exact .inr rfl|assumption)(hs: ∀x,foldedSetIterable iter X.env x=pure x:=by intro _;rfl)(hs': ∀env x,foldedSetIterable iter' env x=pure x:=by intro _ _;rfl):
 JS X (.Assign [.Name y py] (.ListComp elt [⟨.Name x p,iter,ifs,0⟩,⟨.Name z pz,iter',ifs',0⟩] scope pos) spos) (Fr k (FF (bN i) js ti tt i' ti' tt' te)):=by
 have base:PS X (.Assign [.Name y py] (.ListComp elt [⟨.Name x p,iter,ifs,0⟩,⟨.Name z pz,iter',ifs',0⟩] scope pos) spos) (BW (Sc js (LI X.K ti) (wN i) (LT X.K tt) (LI X.K ti') (wN i') (LT X.K tt') (LE X.K te)) (wN k)):=
  DM hc S hi.to rfl (λX' hX=>by obtain⟨C,s₀,H₀,ex,rfl⟩:=hX;exact wx hN hx hl) (λX' hX=>by have:=ht X' hX;obtain⟨C,s₀,H₀,ex,rfl⟩:=hX;exact this)
   (λenv acc=>Pk (.ListComp elt [⟨.Name x p,iter,ifs,0⟩,⟨.Name z pz,iter',ifs',0⟩] scope pos) iter' env acc) (λ_ _ _=>DO ..)
   (λX' hX D=>by
    have a:=(hi' X' hX).to;have b:=ht' X' hX;have c:=(he X' hX).to;obtain⟨C,s₀,H₀,ex,rfl⟩:=hX;exact DN (g:=wN i') hc rfl a (wx hN hz hl') b c (hs' _))
   (vi hN hk hy hf) hsw hs
 exact⟨base.imp λD σ H h=>by
  obtain⟨σd,hd,Qd,rs,rh,t,p⟩:=DS (K:=X.K) D σ H h;exact Ce (Cd hj hj' hne) σ H _ ⟨σd,hd,Qd,rs,rh,t,p⟩⟩
end
def Lz (g:Nat->Nat->Bool)(w:List Nat)(j:Nat):Bool:=g (w.getLastD 0) j&&(decide (w.headD 0<j)&& !decide (j∈w))
def EF (g:Nat->Nat->Bool)(n:Nat)(w:List Nat):List (List Nat):=((List.range n).filter (Lz g w)).map λj=>w++ [j]
def lev (g:Nat->Nat->Bool)(n:Nat):Nat->List (List Nat)
 |0=>(List.range n).map λi=> [i]
 |t+1=>(lev g n t).flatMap (EF g n)
variable {α:Type}
theorem wr {p q:α->Bool}(h: ∀a,p a=true->q a=true): ∀l:List α,(l.filter p).Sublist (l.filter q)
 | []=> .slnil
 |a::l=>by
  cases e:p a with
  |true=>rw [C5 e,C5 (h a e)];exact(wr h l).cons₂ a
  |false=>
   rw [O0 (by rw [e];exact P6)];cases e':q a with
   |true=>rw [C5 e'];exact(wr h l).cons a
   |false=>rw [O0 (by rw [e'];exact P6)];exact wr h l
theorem Jj {β:Type}{f g:α->List β}(h: ∀a,(f a).Sublist (g a)): ∀ {l m:List α},l.Sublist m->(l.flatMap f).Sublist (m.flatMap g)
 |_,_,.slnil=> .slnil
 |_,_,.cons a s=>by rw [E3];exact(Jj h s).trans (List.sublist_append_right _ _)
 |_,_,.cons₂ a s=>by rw [E3,E3];exact(h a).append (Jj h s)
variable {g:Nat->Nat->Bool}
theorem ZH {g':Nat->Nat->Bool}(h: ∀i j,g i j=true->g' i j=true)(n:Nat): ∀t,(lev g n t).Sublist (lev g' n t)
 |0=>List.Sublist.refl _
 |t+1=>Jj (λw=>(wr (λj e=>by
  unfold Lz at*
  rw [T1] at*
  exact⟨h _ _ e.1,e.2⟩) (List.range n)).map _) (ZH h n t)
def Sj:Nat->Nat->Bool:=λ_ _=>true
theorem LB: ∀n,n<=6-> ∀t,t<=6->(lev Sj n t).length<=144:=by decide +kernel
variable {t:Nat}
theorem RX (h6:n<=6)(ht:t<=6):(lev g n t).length<=144:=D7 (ZH (λ_ _ _=>rfl) n t).length_le (LB n h6 t ht)
theorem Bk (n:Nat)(h6:n<=6):lev Sj n n= []:=by
 have: ∀n,n<=6->lev Sj n n= []:=by decide +kernel
 exact this n h6
theorem LD (h6:n<=6):lev g n n= []:=I0 (Nat.le_zero.mp (by rw [<-S8 (α:=List Nat),<-Bk n h6];exact(ZH (λ_ _ _=>rfl) n n).length_le))
theorem EG (h:lev g n t= []):lev g n (t+1)= []:=by
 show (lev g n t).flatMap _= [];rw [h];rfl
structure LevOk (n t:Nat)(w:List Nat):Prop where
 len:w.length=t+1
 lt: ∀i∈w,i<n
 nd:w.Nodup
 low: ∀i∈w,w.headD 0<=i
theorem ve: ∀ {t:Nat} {w:List Nat},w∈lev g n t->LevOk n t w
 |0,w,h=>by
  obtain⟨i,hi,rfl⟩:=P9.mp h;exact⟨rfl,λj hj=>by rw [G5.mp hj];exact D1.mp hi,T8 _ _,λj hj=>by rw [G5.mp hj];exact G9 _⟩
 |t+1,w,h=>by
  obtain⟨v,hv,hw⟩:=W7.mp h;have o:=ve hv;obtain⟨j,hj,rfl⟩:=P9.mp hw;obtain⟨hj1,hj2⟩:=S7.mp hj;unfold Lz at hj2;rw [T1,T1] at hj2;obtain⟨_,h3,h4⟩:=hj2;have h3:=R8 h3;have h4:j ∉ v:=λz=>by rw [P0 z] at h4;cases h4
  have hd:(v++ [j]).headD 0=v.headD 0:=by
   cases v with
   |nil=>have:=o.len;cases this
   |cons a v=>rfl
  refine⟨by rw [G3,o.len];rfl,λi hi=> ?_,?_,λi hi=> ?_⟩
  ·rcases P7.mp hi with z|z
   ·exact o.lt i z
   ·rw [G5.mp z];exact D1.mp hj1
  ·exact E4.mpr ⟨o.nd,T8 _ _,λa ha b hb e=>by rw [G5.mp hb] at e;subst e;exact h4 ha⟩
  ·rw [hd];rcases P7.mp hi with z|z
   ·exact o.low i z
   ·rw [G5.mp z];exact D8 h3
def Wp (g:Nat->Nat->Bool)(n:Nat):Nat->List (List Nat)
 |0=> []
 |t+1=>Wp g n t++(lev g n t).filter λw=>g (w.getLastD 0) (w.headD 0)
def yw (T:List (List Int))(i j:Nat):Bool:=decide (ent T i j>0)
def jC (T:List (List Int))(n:Nat):List (List Nat):=Pv (Wp (yw T) n n)
theorem UD {g':Nat->Nat->Bool}(h: ∀i j,g i j=true->g' i j=true)(n:Nat): ∀t,(Wp g n t).length<=(Wp g' n t).length
 |0=>G9 _
 |t+1=>by
  show (Wp g n t++_).length<=(Wp g' n t++_).length;rw [G3,G3];exact Nat.add_le_add (UD h n t) (((ZH h n t).filter _).trans (wr (λw e=>h _ _ e) _)).length_le
theorem LF: ∀n,n<=6-> ∀t,t<=6->(Wp Sj n t).length<=415:=by decide +kernel
theorem Vk (h6:n<=6)(ht:t<=6):(Wp g n t).length<=415:=D7 (UD (λ_ _ _=>rfl) n t) (LF n h6 t ht)
theorem UE: ∀ {t:Nat} (k:Nat),lev g n t= []->Wp g n (t+k)=Wp g n t/\lev g n (t+k)= []
 |t,0,h=>⟨rfl,h⟩
 |t,k+1,h=>by
  obtain⟨a,b⟩:=UE k h;refine⟨?_,EG b⟩;show Wp g n (t+k)++(lev g n (t+k)).filter _=_;rw [b,a,G0E,B7]
theorem Qb: ∀ {t:Nat} {w:List Nat},w∈Wp g n t-> ∃s,s<t/\LevOk n s w/\g (w.getLastD 0) (w.headD 0)=true
 |t+1,w,h=>by
  rcases P7.mp (show w∈Wp g n t++(lev g n t).filter _ from h) with z|z
  ·obtain⟨s,a,b⟩:=Qb z;exact⟨s,by omega,b⟩
  ·obtain⟨z1,z2⟩:=S7.mp z;exact⟨t,L6 t,ve z1,z2⟩
variable {w:List Nat}
theorem wT (h:w∈jC T n): ∃s,s<n/\LevOk n s w/\ent T (w.getLastD 0) (w.headD 0)>0:=by
 obtain⟨s,a,b,c⟩:=Qb ((zj _).mem_iff.mp h);exact⟨s,a,b,R8 c⟩
theorem YB (h6:n<=6):(jC T n).length<=415:=by
 unfold jC;rw [(zj _).length_eq];exact Vk h6 h6
theorem GK (h:w.length=t+1):atI (w.map λ(k:Nat)=>D.int (k:Int)) 0=some (.int ((w.headD 0:Nat):Int)):=by
 cases w with
 |nil=>cases h
 |cons a w=>exact wE (j:=0) rfl
theorem Ct (h:w.length=t+1):atI (w.map λ(k:Nat)=>D.int (k:Int)) (-1)=some (.int ((w.getLastD 0:Nat):Int)):=by
 refine NX (by rw [G1];omega) ?_;rw [G1,P3,S2,B8,G0 (by omega)];rfl
theorem RY (h:w.length=t+1):w.getLastD 0∈w:=by
 rw [S2,B8,G0 (by omega)];exact D4 _
theorem Bl (h:w.length=t+1):w.headD 0∈w:=by
 cases w with
 |nil=>cases h
 |cons a w=>exact P8
variable {β:Type}
theorem RZ (f:α->List β){xs:List α}{k:Nat}{x:α}(h:xs[k]? =some x):(xs.take (k+1)).flatMap f=(xs.take k).flatMap f++f x:=by
 rw [M0,h,Y3];simp
theorem Ma (p:α->Bool)(g:α->β){xs:List α}{k:Nat}{x:α}(h:xs[k]? =some x):((xs.take (k+1)).filter p).map g=((xs.take k).filter p).map g++if p x=true then [g x] else []:=by
 rw [M0,h,C4,T7]
 congr 1
 by_cases c:p x=true
 ·rw [if_pos c];simp [c]
 ·rw [if_neg c];simp [c]
theorem Zc (f:α->List β)(xs:List α)(k:Nat):((xs.take k).flatMap f).length<=(xs.flatMap f).length:=by
 conv=>rhs;rw [<-R4 k xs,Y3,G3]
 omega
section
variable {α β:Type}{i i':Nat}{js:List Nat}{ti ti':TID}{tt':TTD}{te:TED}{σ:SD}{h:HD}{Q:KD}{j:ItD}
theorem Cu (xs:List α)(c:α->D)(ys:α->List β)(c':β->D)(p:α->β->Bool)(g:α->β->D)(hz:(xs.flatMap λx=>((ys x).filter (p x)).map (g x)).length<=sizeLine)(hj: ∀h',Sub h h'->j h'=some (xs.map c))(ht: ∀R:ItD->HD->Prop,R j h->ti σ h R)
 (hin: ∀x∈xs,∀h',Sub h h'-> ∀R:ItD->HD->Prop,(∀j' h2,Sub h' h2->(∀h3,Sub h2 h3->j' h3=some ((ys x).map c'))->R j' h2)->ti' ((jP js σ).set i (some (c x))) h' R)
 (hp: ∀x∈xs,∀y∈ys x,∀h',Sub h h'-> ∀Q':Bool->HD->Prop,Q' (p x y) h'->tt' (((jP js σ).set i (some (c x))).set i' (some (c' y))) h' Q')
 (he: ∀x∈xs,∀y∈ys x,p x y=true-> ∀h',Sub h h'-> ∀Q':KD,Q' (g x y) h'->te (((jP js σ).set i (some (c x))).set i' (some (c' y))) h' Q')
 (hq: ∀a h',Sub h h'->h' a=none->Q (.lst a) (zY h' a (xs.flatMap λx=>((ys x).filter (p x)).map (g x)))):FF (bN i) js ti WS i' ti' tt' te σ h Q:=by
 refine ht _ ⟨xs.length,λk zs h'=>Sub h h'/\zs=(xs.take k).flatMap λx=>((ys x).filter (p x)).map (g x),⟨Sub.refl h,rfl⟩,?_⟩;rintro k zs h1 ⟨s1,rfl⟩;refine⟨D7 (Zc _ xs k) hz,xs.map c,hj h1 s1,by rw [G1];exact G9 _,λhl a ha=> ?_,λd hd=> ?_⟩
 ·rw [G1] at hl;rw [R5 hl];exact hq a h1 s1 ha
 rw [P3] at hd;cases ex:xs[k]? with
 |none=>rw [ex] at hd;cases hd
 |some x=>
  rw [ex] at hd;injection hd with hd
  subst hd;have mx:=G6 ex;refine⟨_,rfl,?_⟩;unfold WS;refine Yj ?_;refine hin x mx h1 s1 _ λj' h2 s2 hj'=>⟨(ys x).length,λm zs h'=>Sub h2 h'/\zs=((xs.take k).flatMap λx=>((ys x).filter (p x)).map (g x))++(((ys x).take m).filter (p x)).map (g x),⟨Sub.refl h2,by simp⟩,?_⟩
  rintro m zs h3 ⟨s3,rfl⟩;have s03:Sub h h3:=(s1.trans s2).trans s3;have tk:=RZ (λx=>((ys x).filter (p x)).map (g x)) ex;refine⟨?_,(ys x).map c',hj' h3 s3,by rw [G1];exact G9 _,λhl=> ?_,λd hd=> ?_⟩
  ·refine D7 ?_ (D7 (Zc (λx=>((ys x).filter (p x)).map (g x)) xs (k+1)) hz);rw [tk,G3,G3,G1,G1];have:=(O5 m (ys x)).filter (p x) |>.length_le;omega
  ·rw [G1] at hl;refine⟨h3,Sub.refl _,s03,?_⟩;rw [tk,R5 hl]
  ·rw [P3] at hd;cases ey:(ys x)[m]? with
   |none=>rw [ey] at hd;cases hd
   |some y=>
    rw [ey] at hd;injection hd with hd
    subst hd;have my:=G6 ey;have tf:=Ma (p x) (g x) ey;refine hp x mx y my h3 s03 _ ?_
    by_cases cp:p x y=true
    ·rw [if_pos cp] at tf ⊢;refine he x mx y my cp h3 s03 _ ⟨h3,Sub.refl _,s3,?_⟩;rw [tf,G8]
    ·rw [if_neg cp] at tf ⊢;refine⟨h3,Sub.refl _,s3,?_⟩;rw [tf,B7]
end
theorem encO:Enc jx vV:=⟨yD,λS=>wS _,λS=>D7 (yE _) (by decide),vx⟩
theorem YC: ∀P:List (List Nat),PyData.depthAll (P.map vV)<=3
 | []=>by simp [PyData.depthAll]
 |S::P=>by
  have:=YC P;have h2:PyData.depth (vV S)<=2:=yE _;simp only [S1,PyData.depthAll];omega
theorem wZ (P:List (List Nat)):shaped (.list (P.map vV))=true:=by
 unfold shaped;have h1:PyData.canLay0 (.list (P.map vV))=true:=by simp only [PyData.canLay0];exact encO.lays P
 have h2:=YC P;have h3:PyData.depth (.list (P.map vV))<=64:=by simp only [PyData.depth];omega
 rw [h1,P0 h3];rfl
end L2
namespace L2
open PySem PySem.Spec PyProof.Rows PySem.SeqAt HT
open Classical in
noncomputable def readOf (h:Heap)(v:Value):PyData:=if e: ∃p as,p.canLay0=true/\Reads h v p as then e.choose else .none
end L2
namespace L2
open PySem PySem.Spec PyProof.Rows
def s5:Nat->Nat
 |0=>0
 |d+1=>5*s5 d+1
def f5 (N:Nat):Nat->Nat->Nat
 |0,a=>a
 |d+1,a=>(f5 N d a*5+1)%N
theorem GL: ∀ (fuel k n:Nat),3<=k-> ∃m,3<=m/\SetTable.sizeAbove.go n fuel (2^k)=2^m/\(n<2^(k+fuel)->n<2^m)
 |0,k,n,h=>⟨k,h,rfl,λz=>z⟩
 |fuel+1,k,n,h=>by
  unfold SetTable.sizeAbove.go
  by_cases c:2^k<=n
  ·rw [if_pos c,<-Nat.pow_succ];obtain⟨m,a,b,d⟩:=GL fuel (k+1) n (by omega);exact⟨m,a,b,λz=>d (by rw [Nat.add_right_comm,E8];exact z)⟩
  ·rw [if_neg c];exact⟨k,h,rfl,λ_=>by omega⟩
theorem above {n:Nat}(h:n<2^67): ∃m,SetTable.sizeAbove n=2^m/\n<SetTable.sizeAbove n/\8<=SetTable.sizeAbove n:=by
 obtain⟨m,a,b,c⟩:=GL 64 3 n (by decide);have b:SetTable.sizeAbove n=2^m:=b;refine⟨m,b,by rw [b];exact c h,?_⟩;rw [b];exact W9 (show 0<2 by decide) a
end L2
namespace L2
open PySem PySem.Spec PyProof.Rows HT
def LH (h h':Heap):Prop:= ∀ (b:Addr) (o:Obj),o.cls= .type "tuple" ->h.get? b=some o->h'.get? b=some o
structure MemK (prog:Program)(w:World)(K:Type)[DecidableEq K] where
 is:Heap->K->Addr->Prop
 hash:K->Int
 inj: ∀ {h:Heap} {x y:K} {a:Addr},is h x a->is h y a->x=y
 keep: ∀ {h h':Heap} {x:K} {a:Addr},LH h h'->is h x a->is h' x a
 hashed: ∀ {A:Around} {E:Value->Shared->Prop} {s:Shared} {x:K} {a:Addr} {Q:Int->Shared->Prop},A.units+8<cLine->is s.heap x a->(∀tk,Q (hash x) {s with toks:=tk})->wpAny (model prog w) A (pyHash (.ref a)) Q E s
 same: ∀ {A:Around} {E:Value->Shared->Prop} {s:Shared} {x y:K} {a b:Addr} {Q:Bool->Shared->Prop},A.units+8<cLine->is s.heap x a->is s.heap y b->Q (decide (x=y)) s->wpAny (model prog w) A (eqBool (.ref a) (.ref b)) Q E s
 quiet: ∀ {A:Around} {E:Value->Shared->Prop} {s:Shared} {x:K} {a:Addr} {Q:Bool->Shared->Prop},is s.heap x a->Q true s->wpAny (model prog w) A (eqIsQuiet 8 (.ref a)) Q E s
 cls: ∀ {A:Around} {E:Value->Shared->Prop} {s:Shared} {x:K} {a:Addr} {Q:Bool->Shared->Prop},is s.heap x a->Q false s->wpAny (model prog w) A (ofAClassStatement 8 (.ref a)) Q E s
 byv: ∀ {A:Around} {E:Value->Shared->Prop} {s:Shared} {x:K} {a:Addr} {Q:Bool->Shared->Prop},is s.heap x a->Q true s->wpAny (model prog w) A (hashByValue 8 (.ref a)) Q E s
section
variable {prog:Program}{w:World}{A:Around}{E:Value->Shared->Prop}{s:Shared}{K:Type}[DecidableEq K]
theorem wU: ∀ {xs ys:List K},xs.Nodup->(∀x∈xs,x∈ys)->xs.length<=ys.length
 | [],_,_,_=>T3 _
 |x::xs,ys,nd,h=>by
  obtain⟨n1,n2⟩:=O7.mp nd;have le:=wU (ys:=ys.erase x) n2 λy hy=>(X0 (λ(e:y=x)=>n1 (by rw [<-e];exact hy))).mpr (h y (.tail _ hy))
  rw [Q8 (h x (.head _))] at le;have pos:=A0 (h x (.head _));rw [D3];omega
end
end L2
namespace L2
open PySem PySem.Spec PyProof.Rows PySem.SeqAt HT
def pcS (T:List (List Int))(n p:Nat):List Nat:=(List.range n).filter λj=>wk T n p j&&wk T n j p
def ya (T:List (List Int))(n:Nat):List (List Nat):=((List.range n).filter λp=>decide ((pcS T n p).headD 0=p)).map (pcS T n)
section
variable {T:List (List Int)}{n e:Nat}
theorem Qc (p:Nat):IsS n (pcS T n p):=⟨_,rfl⟩
variable {p:Nat}
theorem mem_pc {j:Nat}:j∈pcS T n p↔j<n/\wk T n p j=true/\wk T n j p=true:=by
 unfold pcS;rw [S7,D1,T1]
theorem Wq (hp:p<n):p∈pcS T n p:=mem_pc.mpr ⟨hp,Vj T n p,Vj T n p⟩
theorem Qe {q:Nat}(hp:p<n)(h:q∈pcS T n p):pcS T n q=pcS T n p:=by
 obtain⟨hq,h1,h2⟩:=mem_pc.mp h;refine(Qc q).ext (Qc p) λj=> ?_
 rw [mem_pc,mem_pc];exact⟨λ⟨a,b,c⟩=>⟨a,zM hq h1 b,zM hq c h2⟩,λ⟨a,b,c⟩=>⟨a,zM hp h2 b,zM hp c h1⟩⟩
theorem Mb (hp:p<n): ∃r,pcS T n p=(pcS T n p).headD 0::r:=by
 cases h:pcS T n p with
 |nil=>have:=Wq (T:=T) hp;rw [h] at this;cases this
 |cons x r=>exact⟨r,rfl⟩
theorem LJ (hp:p<n):(pcS T n p).headD 0<n/\pcS T n ((pcS T n p).headD 0)=pcS T n p:=by
 obtain⟨r,h⟩:=Mb (T:=T) hp;have m:(pcS T n p).headD 0∈pcS T n p:=by
  generalize (pcS T n p).headD 0=x at h;rw [h];exact P8
 exact⟨(mem_pc.mp m).1,Qe hp m⟩
theorem mem_pcs {S:List Nat}:S∈ya T n↔ ∃p,p<n/\S=pcS T n p:=by
 unfold ya;rw [P9];constructor
 ·rintro ⟨p,hp,rfl⟩;exact⟨p,D1.mp (S7.mp hp).1,rfl⟩
 ·rintro ⟨p,hp,rfl⟩;obtain⟨a,b⟩:=LJ (T:=T) hp;exact⟨(pcS T n p).headD 0,S7.mpr ⟨D1.mpr a,P0 (by rw [b])⟩,b⟩
theorem Mc: ∀S∈ya T n,IsS n S:=λS hS=>by
 obtain⟨p,_,rfl⟩:=mem_pcs.mp hS;exact Qc p
end
end L2
namespace L2
open PySem PySem.Spec PyProof.Rows PySem.W
structure DefIn (K:Frag)(x:Str)(st:Stmt)(f:Addr)(fd:FuncData):Prop where
 at_:nsIn K mainGlobals x=some (some (.ref f))
 fn:Fun K x x st f fd
variable {K:Frag}{h base:Heap}{mg:Str->Option Value}{x:Str}{st:Stmt}{f:Addr}{fd:FuncData}{P:Program}{w:World}{n:Nat}{ps:List Str}
theorem EH {oc:Value}{od an:Option Addr}{osl:Array (Option Value)}{kV doc pm cdv ct:Value}(a:nsIn K mainGlobals x=some (some (.ref f)))(l:K.lookup f=some ⟨oc,od,.func (fnOf x x (yy st) (wo st) (jf st) .none kV doc pm an cdv ct),osl⟩)
 (c:codeIn K cdv x=true)(k:keepIn K (.ref f)=true):DefIn K x st f (fnOf x x (yy st) (wo st) (jf st) .none kV doc pm an cdv ct):=⟨a,Ag l c k⟩
abbrev TB (x:Str)(st:Stmt)(ps:List Str):Prop:= ∀ (kV doc pm:Value) (an:Option Addr) (cdv ct:Value) (us:List Value),us.length=ps.length->bindArgs (fnOf x x (yy st) (wo st) (jf st) .none kV doc pm an cdv ct) ⟨us,[]⟩=pure (ps.zip us)
theorem DefIn.nm (d:DefIn K x st f fd)(X:K.In h)(G:h.Ns mainGlobals mg):mg x=some (.ref f):=mg_of X G d.at_
theorem DefIn.cal {sp:RDn}(d:DefIn K x st f fd)(l:OpenLaw)(w:World)(base:Heap)(X:K.In h)(G:h.Ns mainGlobals mg)(ok:FnOk l.prog w K mg base CX0 n f fd ps (LSp K sp))(b:TB x st ps:=by first|(exact λ_ _ _ _ _ _ us hl=>match us,hl with| [_],_=>rfl)|(exact λ_ _ _ _ _ _ us hl=>match us,hl with| [_,_],_=>rfl)|(exact λ_ _ _ _ _ _ us hl=>match us,hl with| [_,_,_],_=>rfl)|(exact λ_ _ _ _ _ _ us hl=>match us,hl with| [_,_,_,_],_=>rfl)|(exact λ_ _ _ _ _ _ us hl=>match us,hl with| [_,_,_,_,_],_=>rfl)):jp l.prog w K mg base n x ps sp:=⟨_,_,ok,d.fn.binds b,d.fn.kp,d.nm X G⟩
def zsB (K:Frag):Bool:= ["len","max","min","divmod","all","any","repr","sum","sorted","int","tuple","list","set","bool","isinstance","range","zip","enumerate","reversed"].all λx=>nsIn K mainGlobals (Str.ofString x)==some none
theorem TC (X:K.In h)(G:h.Ns mainGlobals mg)(e:zsB K=true):Zs mg:=by
 unfold zsB at e;rw [S5] at e;have m:=λ(x:String) hx=>mg_none_of X G (G0X.mp (e x hx))
 exact⟨m "len" (by decide),m "max" (by decide),m "min" (by decide),m "divmod" (by decide),m "all" (by decide),m "any" (by decide),m "repr" (by decide),m "sum" (by decide),m "sorted" (by decide),m "int" (by decide),m "tuple" (by decide),m "list" (by decide),m "set" (by decide),m "bool" (by decide),m "isinstance" (by decide),m "range" (by decide),m "zip" (by decide),m "enumerate" (by decide),m "reversed" (by decide)⟩
end L2
namespace L2
open PySem PySem.Spec PyProof.Rows
def kvV (kvs:List (Int×V)):List (Key×V):=kvs.map λp=>((Sum.inl p.1:Key),p.2)
def vf {α:Type}(kv:List (Int×α))(k:Int):Option α:=(kv.find? λp=>decide (p.1=k)).map (·.2)
def De {α:Type}(kv:List (Int×α))(k:Int)(d:α):List (Int×α):=if (vf kv k).isSome then kv.map (λp=>if p.1=k then (p.1,d) else p) else kv++ [(k,d)]
section
variable {α:Type}{kv r:List (Int×α)}{p:Int×α}{k:Int}
theorem Bn (e:p.1=k):vf (p::r) k=some p.2:=by simp [vf,O8,e]
theorem Bo (e: ¬p.1=k):vf (p::r) k=vf r k:=by simp [vf,O8,e]
end
section
variable {K:PySem.W.Frag}{H:Hp}{k:Int}
theorem yW: ∀ {kv:List (Int×D)} {kvs:List (Int×V)},kv.map (·.1)=kvs.map (·.1)->RelDs K H (kv.map (·.2)) (kvs.map (·.2))->(∀d,vf kv k=some d-> ∃v,WR (kvV kvs) (Sum.inl k)=some v/\RelD K H d v)/\(vf kv k=none->WR (kvV kvs) (Sum.inl k)=none)
 | [],[],_,_=>⟨λ_ z=>(nomatch z),λ_=>rfl⟩
 |p::r,[],e,_=>by cases e
 | [],q::s,e,_=>by cases e
 |p::r,q::s,e,h=>by
  rw [S1,S1] at e;injection e with e1 e2
  obtain⟨v,t,z,h1,h2⟩:=(show ∃v t,q.2::s.map (·.2)=v::t/\RelD K H p.2 v/\RelDs K H (r.map (·.2)) t from h);injection z with z1 z2
  subst z1;subst z2
  by_cases c:p.1=k
  ·rw [Bn c];refine⟨λd z=> ?_,λz=>by cases z⟩;injection z with z
   subst z;exact⟨q.2,ZA (by show (Sum.inl q.1:Key)=_;rw [<-e1,c]),h1⟩
  ·rw [Bo c];have n: ¬ (Sum.inl q.1:Key)=Sum.inl k:=λz=>by injection z with z;exact c (e1.trans z)
   show (∀d,_-> ∃v,WR ((Sum.inl q.1,q.2)::kvV s) _=_/\_)/\(_->WR ((Sum.inl q.1,q.2)::kvV s) _=_);rw [ZB n];exact yW e2 h2
theorem Bp {kv:List (Int×D)}{kvs:List (Int×V)}{d:D}{v:V}(e:kv.map (·.1)=kvs.map (·.1))(r:RelDs K H (kv.map (·.2)) (kvs.map (·.2)))(rd:RelD K H d v): ∃kvs',Gq (kvV kvs) (Sum.inl k) v=kvV kvs'/\(De kv k d).map (·.1)=kvs'.map (·.1)/\RelDs K H ((De kv k d).map (·.2)) (kvs'.map (·.2)):=by
 have g:=yW (k:=k) e r
 by_cases c:(vf kv k).isSome
 ·obtain⟨d0,hd0⟩:=E1.mp c;obtain⟨v0,hv0,_⟩:=g.1 d0 hd0;refine⟨kvs.map λp=>if p.1=k then (p.1,v) else p,?_,?_,?_⟩
  ·unfold Gq;rw [YO,hv0];show List.map _ (kvV kvs)=_;unfold kvV;rw [S6,S6];refine S9 λp _=> ?_
   show (if (Sum.inl p.1:Key)=Sum.inl k then _ else _)=_
   by_cases z:p.1=k
   ·rw [if_pos (by rw [z])];show _=((Sum.inl (if p.1=k then (p.1,v) else p).1:Key),(if p.1=k then (p.1,v) else p).2);rw [if_pos z]
   ·rw [if_neg (λw=>z (by injection w))];show _=((Sum.inl (if p.1=k then (p.1,v) else p).1:Key),(if p.1=k then (p.1,v) else p).2);rw [if_neg z]
  ·unfold De;rw [if_pos c,S6,S6];have a1:kv.map ((·.1)∘λp=>if p.1=k then (p.1,d) else p)=kv.map (·.1):=S9 λp _=>by show (if p.1=k then (p.1,d) else p).1=p.1;split<;>rfl
   have a2:kvs.map ((·.1)∘λp=>if p.1=k then (p.1,v) else p)=kvs.map (·.1):=S9 λp _=>by show (if p.1=k then (p.1,v) else p).1=p.1;split<;>rfl
   rw [a1,a2,e]
  ·unfold De;rw [if_pos c];clear g c hd0 hv0
   induction kv generalizing kvs with
   |nil=>cases kvs with
    |nil=>exact .nil
    |cons q s=>cases e
   |cons p t ih=>cases kvs with
    |nil=>cases e
    |cons q s=>
     rw [S1,S1] at e;injection e with e1 e2
     obtain⟨u,w,z,h1,h2⟩:=(show ∃v t',q.2::s.map (·.2)=v::t'/\RelD K H p.2 v/\RelDs K H (t.map (·.2)) t' from r);injection z with z1 z2
     subst z1;subst z2;refine⟨(if q.1=k then (q.1,v) else q).2,_,rfl,?_,ih e2 h2⟩;show RelD K H (if p.1=k then (p.1,d) else p).2 _
     by_cases z:p.1=k
     ·rw [if_pos z,if_pos (e1 ▸ z)];exact rd
     ·rw [if_neg z,if_neg (e1 ▸ z)];exact h1
 ·have hn:vf kv k=none:=by simpa using c
  refine⟨kvs++ [(k,v)],?_,?_,?_⟩
  ·rw [No v (g.2 hn)];unfold kvV;rw [List.map_append];rfl
  ·unfold De;rw [if_neg c,List.map_append,List.map_append,e];rfl
  ·unfold De;rw [if_neg c,List.map_append,List.map_append];exact r.append (.cons rd .nil)
end
def EI (x i:Int):TED:=λ_ h Q=> ∀p,h.dc p=none->Q (.dct p) (Cc h p (.ik [(x,.int i)]))
section
variable {X:Cx}
theorem EJ {x i:Int}{j k:Nat}{pos p1 p2:Pos}:JE X (.Dict [some (.Constant (.int x) j p1)] [.Constant (.int i) k p2] pos) (EI x i):=⟨by
 have h0:PPs X pos [some (.Constant (.int x) j p1)] [.Constant (.int i) k p2] [(tC (.int x),tC (.int i))]:=Nr pe_int pe_int Fe;refine PE.imp (Ff h0 rfl rfl (by simp) (by simp)) ?_;rintro σ H Q ⟨σd,h,Qd,rs,rh,t,p⟩ q hq;show upd H q (.dK []) q=some (.dK [])/\_;refine⟨jt,[((Sum.inl x:Key),V.int i)],rfl,by simp,?_⟩;rw [NC];exact p (.dct q) (.ref q) _ _ (.new hq) (rh.newC (c:= .ik [(x,.int i)]) hq ⟨[(x,.int i)],jt,rfl,.cons rfl .nil⟩) rfl (t q (rh.freeC hq))⟩
end
def ixC:RD2:=λx y h Q=> ∃a k kv d,x= .dct a/\y= .int k/\h.dc a=some (.ik kv)/\vf kv k=some d/\Q d h
def Kq:RDn:=λds h Q=> ∃a kv,ds= [.dct a]/\h.dc a=some (.ik kv)/\Q (.int ((kv.length:Nat):Int)) h
section
variable {X:Cx}
theorem Kr {k : Nat} {a b : Expr} {ta tb : TED} {pos : Pos} (hr : Room k X.A) (ha : JE X a ta) (hb : JE X b tb) (hs : SL b := by intro _ _; rfl) : JE X (.Subscript a b pos) (dOp ixC ta tb) :=
  ⟨(Fd (by have := hr.un; omega) ha.to hb.to hs).imp fun σ H Q ⟨σd, h, Qd, rs, rh, t, post⟩ => LE.bind rs rh t fun d v h1 H1 k1 rs1 rh1 r1 t1 => LE.bind rs1 rh1 t1 fun d2 v2 h2 H2 k2 rs2 rh2 r2 ⟨a, x, kv, d3, e1, e2, e, g, q⟩ => by
    subst e1 e2
    cases (show v = .ref a from r1)
    cases (show v2 = .int x from r2)
    obtain ⟨kvs, hH, ek, rv⟩ := (show ∃ kvs : List (Int × V), _ from rh2.dc a _ e)
    obtain ⟨u, hu, ru⟩ := (yW ek rv).1 d3 g
    refine ⟨a, u, rfl, ?_, post d3 u _ _ (k1.trans k2) rh2 ru q⟩
    rw [← hu]
    exact .k (k := Sum.inl x) hH⟩
theorem LK:Jb X (.builtin "len") Kq:=(show CallR X (.builtin "len") (λxs H Q=> ∃ (a:Addr) (kv:List (Key×V)),xs= [.ref a]/\H a=some (.dK kv)/\Q (.int ((kv.length:Nat):Int)) H) from by
 intro pins s σ H xs us Q I r h;obtain⟨a,kv,rfl,e,q⟩:=h;obtain⟨u,rfl,ru⟩:=YL r;cases ru;exact SK I (.inl e) λt s' I'=>⟨.int _,H,I',⟨_,rfl⟩,q⟩).imp λxs H Q ⟨ds,h,Qd,r,rh,⟨a,kv,e,z,q⟩,p⟩=>by
 subst e;obtain⟨v,e,r1⟩:=jW r;cases (show v= .ref a from r1);subst e;obtain⟨kvs,hH,ek,rv⟩:=(show ∃kvs:List (Int×V),_ from rh.dc a _ z);refine⟨a,_,rfl,hH,?_⟩;rw [show (kvs.map λp=>((Sum.inl p.1:Key),p.2)).length=kv.length by rw [G1];have:=congrArg List.length ek;simpa using this.symm];exact p (.int _) _ _ _ (.refl H) rh rfl q
end
theorem Sub.overC {h h':HD}{a:Addr}{c:DC}(sb:Sub h h')(e:h.dc a=none):Sub h (Cc h' a c):=⟨sb.ls,λb xs z=>by
 rw [YU (λw=>by subst w;rw [e] at z;cases z)];exact sb.dc b xs z⟩
end L2
namespace L2
variable {g:Nat->Nat->Bool}{n:Nat}
theorem GM: ∀ {t:Nat} {w:List Nat},w∈lev g n t-> ∀i x y,w[i]? =some x->w[i+1]? =some y->g x y=true
 |0,w,h=>λi x y e1 e2=>by
  obtain⟨z,_,rfl⟩:=P9.mp h;rw [C0 (by simp)] at e2;cases e2
 |t+1,w,h=>λi x y e1 e2=>by
  obtain⟨v,hv,hw⟩:=W7.mp h;obtain⟨j,hj,rfl⟩:=P9.mp hw;have fj:=(S7.mp hj).2;unfold Lz at fj;rw [T1] at fj;rcases O4 (i+1) v.length with z|z
  ·rw [D2 (by omega)] at e1;rw [D2 z] at e2;exact GM hv i x y e1 e2
  ·have hi:i+1=v.length:=by
    have:=(G7.mp e2).1;rw [G3,N9] at this;omega
   rw [D2 (by omega)] at e1;rw [P4 (by omega),hi,G01] at e2;injection e2 with e2
   subst e2;have lx:v.getLastD 0=x:=by
    rw [S2,B8,show v.length-1=i by omega,e1];rfl
   rw [<-lx];exact fj.1
theorem ZI {w:List Nat}: ∀ {t:Nat},w∈Wp g n t-> ∃s,s<t/\w∈lev g n s/\g (w.getLastD 0) (w.headD 0)=true
 |t+1,h=>by
  rcases P7.mp h with z|z
  ·obtain⟨s,a,b⟩:=ZI z;exact⟨s,by omega,b⟩
  ·obtain⟨a,b⟩:=S7.mp z;exact⟨t,by omega,a,b⟩
section
variable {n e:Nat}{T:List (List Int)}
theorem Vl (h:Sq n e T)(hn:n<=8){w:List Nat}(hw:w∈jC T n):1<=w.length/\w.length<=n/\(∀t,w.getD (t%w.length) 0<n)/\ ∀t,RP n T 1 (w.getD (t%w.length) 0) (w.getD ((t+1)%w.length) 0):=by
 obtain⟨s,hs,lv,back⟩:=ZI ((zj _).mem_iff.mp hw);have o:=ve lv;have l1:1<=w.length:=by rw [o.len];omega
 refine⟨l1,by rw [o.len];omega,λt=> ?_,λt=> ?_⟩
 ·have:=K4 t l1;rw [P2,G0 this];exact o.lt _ (D4 this)
 ·have m1:=K4 t l1;have e1:w.getD (t%w.length) 0=w[t%w.length]:=by rw [P2,G0 m1];rfl
  rw [yp h hn];rcases O4 (t%w.length+1) w.length with z|z
  ·have e2:(t+1)%w.length=t%w.length+1:=by rw [Nat.add_mod,L9 (show 1<w.length by omega),L9 z]
   have e3:w.getD ((t+1)%w.length) 0=w[t%w.length+1]:=by rw [e2,P2,G0 z];rfl
   rw [e1,e3];have:=R8 (GM lv (t%w.length) _ _ (G0 m1) (G0 z));omega
  ·have e2:(t+1)%w.length=0:=by
    rw [<-U6 t w.length,show w.length*(t / w.length)+t%w.length+1=w.length*(t / w.length+1) by rw [G0T];omega];exact Nat.mul_mod_right _ _
   have la:w.getLastD 0=w[t%w.length]:=by
    rw [S2,B8,show w.length-1=t%w.length by omega,G0 m1];rfl
   have he:w.headD 0=w.getD 0 0:=by cases w<;>rfl
   rw [e1,e2,<-he,<-la];have:=R8 back;omega
end
theorem Md {g:Nat->Nat->Bool}{n:Nat}: ∀ {t:Nat} {w:List Nat},w.length=t+1->(∀i∈w,i<n)->w.Nodup->(∀i∈w,w.headD 0<=i)->(∀i x y,w[i]? =some x->w[i+1]? =some y->g x y=true)->w∈lev g n t
 |0,w,hl,lt,_,_,_=>by
  obtain⟨a,rfl⟩:=G0y.mp hl;exact P9.mpr ⟨a,D1.mpr (lt a (by simp)),rfl⟩
 |t+1,w,hl,lt,nd,low,go=>by
  obtain⟨v,j,rfl⟩: ∃v j,w=v++ [j]:=⟨w.dropLast,w.getLast (by intro z;rw [z] at hl;cases hl),(List.dropLast_concat_getLast _).symm⟩;have lv:v.length=t+1:=by rw [G3,N9] at hl;omega
  have hd:(v++ [j]).headD 0=v.headD 0:=by cases v with|nil=>cases lv|cons a r=>rfl
  have nv:=E4.mp nd;have jn:j ∉ v:=λz=>nv.2.2 j z j (by simp) rfl
  have hh:v.headD 0∈v:=by cases v with|nil=>cases lv|cons a r=>exact P8 ..
  rw [hd] at low;have mv:=Md (g:=g) (n:=n) lv (λi hi=>lt i (T5 _ hi)) nv.1 (λi hi=>low i (T5 _ hi)) λi x y e1 e2=>go i x y (by rw [D2 (G7.mp e1).1];exact e1) (by rw [D2 (G7.mp e2).1];exact e2)
  refine W7.mpr ⟨v,mv,P9.mpr ⟨j,S7.mpr ⟨D1.mpr (lt j (by simp)),?_⟩,rfl⟩⟩;have la:v[t]? =some (v.getLastD 0):=by rw [S2,B8,lv,Nat.add_sub_cancel,G0 (by omega)];rfl
  have g1:=go t _ j (by rw [D2 (by omega)];exact la) (by rw [P4 (by omega),lv,G01];rfl);have lj:=low j (by simp);have ne:v.headD 0≠j:=λz=>jn (z ▸ hh)
  unfold Lz;rw [g1,P0 (show v.headD 0<j by omega),D6 jn];rfl
theorem Me {s:Nat}{w:List Nat}(h:w∈lev g n s)(b:g (w.getLastD 0) (w.headD 0)=true): ∀t,s<t->w∈Wp g n t
 |t+1,ht=>by
  rcases O4 s t with z|z
  ·exact T5 _ (Me h b t z)
  ·have:t=s:=by omega
   subst this;exact P5 _ (S7.mpr ⟨h,b⟩)
theorem Qf {w:List Nat}(nd:w.Nodup)(lt: ∀i∈w,i<n):w.length<=n:=by
 have:=wU (ys:=List.range n) nd λx hx=>D1.mpr (lt x hx)
 rwa [D9] at this
section
variable {n e:Nat}{T:List (List Int)}
theorem JJ {w:List Nat}(ne:w≠ [])(lt: ∀i∈w,i<n)(nd:w.Nodup)(low: ∀i∈w,w.headD 0<=i)(go: ∀i x y,w[i]? =some x->w[i+1]? =some y->ent T x y>0)(back:ent T (w.getLastD 0) (w.headD 0)>0):w∈jC T n:=by
 obtain⟨t,ht⟩: ∃t,w.length=t+1:=⟨w.length-1,by have:=List.length_pos_iff.mpr ne;omega⟩;have:=Qf nd lt;exact(zj _).mem_iff.mpr (Me (Md (g:=yw T) ht lt nd low λi x y e1 e2=>P0 (go i x y e1 e2)) (P0 back) n (by omega))
theorem Mf (h:Sq n e T){i j:Nat}(hi:i<n)(hj:j<n)(z:ent T i j≠0):ent T i j>0:=by have:=(h.ent_nn hi hj).1;omega
theorem Pw (h:Sq n e T)(hn:n<=8){m:Nat}(m1:1<=m){v:Nat->Nat}(vl: ∀t,v t<n)(per: ∀t,v (t+m)=v t)(inj: ∀a b,a<m->b<m->v a=v b->a=b)(st: ∀t,RP n T 1 (v t) (v (t+1))): ∃s,(List.range m).map (λt=>v (s+t))∈jC T n:=by
 obtain⟨s,hs⟩: ∃s,∀t,v s<=v t:=by
  have key: ∀k,∃s,∀t,t<k+1->v s<=v t:=λk=>by
   induction k with
   |zero=>exact⟨0,λt ht=>by rw [show t=0 by omega];exact G9 _⟩
   |succ k ih=>
    obtain⟨s,hs⟩:=ih;rcases O4 (v (k+1)) (v s) with z|z
    ·exact⟨k+1,λt ht=>by
      rcases O4 t (k+1) with y|y
      ·have:=hs t y;omega
      ·rw [show t=k+1 by omega];exact G9 _⟩
    ·exact⟨s,λt ht=>by
      rcases O4 t (k+1) with y|y
      ·exact hs t y
      ·rw [show t=k+1 by omega];exact z⟩
  obtain⟨s,hs⟩:=key m;have red: ∀t,v t=v (t%m):=λt=>by
   have: ∀q r,v (r+q*m)=v r:=λq r=>by
    induction q with
    |zero=>rw [Nat.zero_mul,W4]
    |succ q ih=>rw [G0B,<-E8,per,ih]
   have e:=this (t / m) (t%m);rw [G0Y,Nat.mod_add_div] at e;exact e
  exact⟨s,λt=>by rw [red t];exact hs _ (by have:=K4 t m1;omega)⟩
 have red: ∀t,v t=v (t%m):=λt=>by
  have: ∀q r,v (r+q*m)=v r:=λq r=>by
   induction q with
   |zero=>rw [Nat.zero_mul,W4]
   |succ q ih=>rw [G0B,<-E8,per,ih]
  have e:=this (t / m) (t%m);rw [G0Y,Nat.mod_add_div] at e;exact e
 have hd:((List.range m).map λt=>v (s+t)).headD 0=v s:=by
  obtain⟨k,rfl⟩: ∃k,m=k+1:=⟨m-1,by omega⟩;rw [O9];rfl
 refine⟨s,JJ ?_ (λi hi=>by obtain⟨t,_,rfl⟩:=P9.mp hi;exact vl _) ?_ (λi hi=>by obtain⟨t,_,rfl⟩:=P9.mp hi;rw [hd];exact hs _) (λi x y e1 e2=> ?_) ?_⟩
 ·intro z;have:=congrArg List.length z;rw [G1,D9] at this;simp at this;omega
 ·refine M9.mpr ((K7 (n:=m)).imp_of_mem λ{a b} ha hb ne z=> ?_);have ha:=D1.mp ha;have hb:=D1.mp hb;have z:v (s+a)=v (s+b):=z;rw [red (s+a),red (s+b)] at z;have:=inj _ _ (K4 _ m1) (K4 _ m1) z;refine ne ?_;have d1:=U6 (s+a) m;have d2:=U6 (s+b) m;rcases V8 ((s+a) / m) ((s+b) / m) with c|c|c
  ·have:=Q4 m (show (s+a) / m+1<=(s+b) / m from c);rw [G0T] at this;omega
  ·rw [c] at d1;omega
  ·have:=Q4 m (show (s+b) / m+1<=(s+a) / m from c);rw [G0T] at this;omega
 ·have h1:=(G7.mp e2).1;rw [G1,D9] at h1;rw [P3,B9 (by omega)] at e1 e2;injection e1 with e1
  injection e2 with e2
  subst e1;subst e2;exact Mf h (vl _) (vl _) ((yp h hn).mp (st (s+i)))
 ·have la:((List.range m).map λt=>v (s+t)).getLastD 0=v (s+(m-1)):=by
   rw [S2,B8,G1,D9,P3,B9 (by omega)];rfl
  rw [hd,la];have:=st (s+(m-1));rw [show s+(m-1)+1=s+m by omega,per] at this;exact Mf h (vl _) (vl _) ((yp h hn).mp this)
def Px (T:List (List Int))(n:Nat):Nat:=((jC T n).map List.length).foldl Nat.gcd 0
theorem UF {w:List Nat}(hw:w∈jC T n):Px T n∣w.length:=((Vg _ 0 (Px T n)).mp (G02 _)).2 _ (K9 hw)
theorem UG (h:Sq n e T)(hn:n<=8): ∀ (m:Nat) {p:Nat},p<n->RP n T m p p->Px T n∣m:=by
 intro m
 induction m using Nat.strongRecOn with
 |_ m ih=>
  intro p hp r;rcases Nat.eq_zero_or_pos m with z|m1
  ·rw [z];exact Nat.dvd_zero _
  obtain⟨v,v0,vm,vl,vr⟩:=Cp h hn m hp hp r
  by_cases c: ∃a b,a<b/\b<m/\v a=v b
  ·obtain⟨a,b,ab,bm,e1⟩:=c;have r1:=Vf h hn vl vr a (b-a) (by omega);rw [show a+(b-a)=b by omega,<-e1] at r1;have r2:=Vf h hn vl vr 0 a (by omega);rw [J6,v0] at r2;have r3:=Vf h hn vl vr b (m-b) (by omega);rw [show b+(m-b)=m by omega,vm,<-e1] at r3;have d1:=ih (b-a) (by omega) (vl a (by omega)) r1;have d2:=ih (a+(m-b)) (by omega) hp (wI h hn hp (vl a (by omega)) hp r2 r3);have:=Nat.dvd_add d1 d2
   rwa [show b-a+(a+(m-b))=m by omega] at this
  ·obtain⟨s,hs⟩:=Pw h hn (T:=T) (n:=n) m1 (v:=λt=>v (t%m)) (λt=>vl _ (by have:=K4 t m1;omega)) (λt=>by show v ((t+m)%m)=_;rw [Nat.add_mod_right]) (λa b ha hb z=>by
    have z:v (a%m)=v (b%m):=z;rw [L9 ha,L9 hb] at z;rcases V8 a b with y|y|y
    ·exact absurd ⟨a,b,y,hb,z⟩ c
    ·exact y
    ·exact absurd ⟨b,a,y,ha,z.symm⟩ c) (λt=>by
    show RP n T 1 (v (t%m)) (v ((t+1)%m));have lt:=K4 t m1;have:=vr (t%m) lt;rcases O4 (t%m+1) m with z|z
    ·rw [show (t+1)%m=t%m+1 by rw [Nat.add_mod,L9 (show 1<m by omega),L9 z]];exact this
    ·have e2:(t+1)%m=0:=by
      rw [<-U6 t m,show m*(t / m)+t%m+1=m*(t / m+1) by rw [G0T];omega];exact Nat.mul_mod_right _ _
     rw [e2,v0,<-vm,show m=t%m+1 by omega];rw [show t%(t%m+1)=t%m by rw [show t%m+1=m by omega]];exact this)
   have:=UF hs
   rwa [G1,D9] at this
theorem EK (h:Sq n e T)(hn:n<=8){i j:Nat}(hi:i<n)(w:wk T n i j=true):j<n/\ ∃k,RP n T k i j:=
 ZG (P:=λi j=>i<n->j<n/\ ∃k,RP n T k i j) (λi hi=>⟨hi,0,(zC hi hi).mpr rfl⟩) (λi j z hi=>⟨Lv h i j z,1,(yp h hn).mpr z⟩) (λi k j a b hi=>by
  obtain⟨hk,k1,r1⟩:=a hi;obtain⟨hj,k2,r2⟩:=b hk;exact⟨hj,k1+k2,wI h hn hi hk hj r1 r2⟩) w hi
theorem Py (h:Sq n e T)(hn:n<=8): ∀ (k:Nat) {i j:Nat},i<n->j<n->RP n T k i j->wk T n i j=true
 |0,i,j,hi,hj,r=>by rw [(zC hi hj).mp r];exact Vj T n j
 |k+1,i,j,hi,hj,r=>by
  obtain⟨x,hx,a,b⟩:=(vd h hn k 1 hi hj).mp r;exact zM hx (Py h hn k hi hx a) (GJ ((yp h hn).mp b) n)
theorem Qg (h:Sq n e T)(hn:n<=8)(one:(ya T n).length=1){i j:Nat}(hi:i<n)(hj:j<n): ∃k,RP n T k i j:=by
 obtain⟨S,e1⟩:=G0y.mp one;have a:pcS T n i∈ya T n:=mem_pcs.mpr ⟨i,hi,rfl⟩;have b:pcS T n j∈ya T n:=mem_pcs.mpr ⟨j,hj,rfl⟩;rw [e1] at a b;have:j∈pcS T n i:=by rw [G5.mp a,<-G5.mp b];exact Wq hj
 exact(EK h hn hi (mem_pc.mp this).2.1).2
theorem LL (h:Sq n e T)(hn:n<=8)(n1:1<=n)(all: ∀i j,i<n->j<n-> ∃k,RP n T k i j):(ya T n).length=1:=by
 have same: ∀p,p<n->pcS T n p=List.range n:=λp hp=>G0U.mpr λj hj=>by
  have hj:=D1.mp hj;obtain⟨k,r⟩:=all p j hp hj;obtain⟨k',r'⟩:=all j p hj hp;rw [Py h hn k hp hj r,Py h hn k' hj hp r'];rfl
 have hd:(List.range n).headD 0=0:=by
  obtain⟨k,rfl⟩: ∃k,n=k+1:=⟨n-1,by omega⟩;rw [O9];rfl
 unfold ya;rw [G1];have e1:((List.range n).filter λp=>decide ((pcS T n p).headD 0=p))= [0]:=by
  have:((List.range n).filter λp=>decide ((pcS T n p).headD 0=p))=(List.range n).filter λp=>decide (p=0):=List.filter_congr λp hp=>by
   rw [same p (D1.mp hp),hd];exact decide_eq_decide.mpr ⟨Eq.symm,Eq.symm⟩
  rw [this];obtain⟨k,rfl⟩: ∃k,n=k+1:=⟨n-1,by omega⟩;rw [O9,C5 (by decide),List.filter_map,G0z.mpr (by intro a _;simp),O3]
 rw [e1];rfl
theorem Bq (h:Sq n e T)(hn:n<=8)(one:(ya T n).length=1){a b i j:Nat}(hi:i<n)(hj:j<n)(n1:1<=n)(ra:RP n T a 0 i)(rb:RP n T b 0 j)(ar:ent T i j≠0){d:Nat}(hd:d∣Px T n):b%d=(a+1)%d:=by
 obtain⟨k,rk⟩:=Qg h hn one hj (show 0<n by omega);have z:0<n:=by omega
 have c1:=Nat.dvd_trans hd (UG h hn _ z (wI h hn z hj z (wI h hn z hi hj ra ((yp h hn).mpr ar)) rk));have c2:=Nat.dvd_trans hd (UG h hn _ z (wI h hn z hj z rb rk));obtain⟨x,hx⟩:=c1;obtain⟨y,hy⟩:=c2;rcases Nat.le_total x y with w|w
 ·have:b=a+1+d*(y-x):=by
   have:=Q4 d w;rw [Nat.mul_sub];omega
  rw [this,G0e]
 ·have:a+1=b+d*(x-y):=by
   have:=Q4 d w;rw [Nat.mul_sub];omega
  rw [this,G0e]
end
end L2
namespace L2
open PySem PySem.Spec PyProof.Rows
def Ks (td ty tx:TED):TED:=λσ h Q=>td σ h λx h1=> ∃a kv0,x= .dct a/\h1.dc a=some (.ik kv0)/\ty σ h1 λy h2=>tx σ h2 λz h3=> ∃k kv,y= .int k/\h3.dc a=some (.ik kv)/\kv.length<1000/\
 (∀d,vf kv k=some d->Q d h3)/\(vf kv k=none->Q z (Cc h3 a (.ik (De kv k z))))
theorem Kt {X:Cx}{n:Nat}{o e f:Expr}{td ty tx:TED}{apos cpos:Pos}(hr:Room n X.A)(ho:JE X o td)(he:JE X e ty)(hf:JE X f tx)(m:M2 X o "setdefault" apos e f cpos:=by exact⟨rfl,rfl,rfl,rfl⟩):JE X (.Call (.Attribute o "setdefault" apos) [e,f] [] cpos) (Ks td ty tx):=⟨λpins s σ H Q I ⟨σd,h,Qd,rs,rh,t,post⟩=>by
 have hw:LE X.K td σ H λx H1=> ∃a,x= .ref a/\IsD H1 a/\LE X.K ty σ H1 λy H2=>LE X.K tx σ H2 λz H3=> ∃k kvs,y= .int k/\H3 a=some (.dK (kvV kvs))/\kvs.length<1000/\(∀v,WR (kvV kvs) (Sum.inl k)=some v->Q v H3)/\(WR (kvV kvs) (Sum.inl k)=none->Q z (upd H3 a (.dK (Gq (kvV kvs) (Sum.inl k) z)))):=
  LE.bind rs rh t λd v h1 H1 k1 rs1 rh1 r1 ⟨a,kv0,e1,z1,t1⟩=>by
   subst e1;cases (show v= .ref a from r1);obtain⟨kvs0,hH0,_⟩:=(show ∃kvs:List (Int×V),_ from rh1.dc a _ z1);refine⟨a,rfl,.inl ⟨_,.inl hH0⟩,LE.bind rs1 rh1 t1 λd2 v2 h2 H2 k2 rs2 rh2 r2 t2=>LE.bind rs2 rh2 t2 λd3 v3 h3 H3 k3 rs3 rh3 r3 ⟨x,kv,e2,e,hl,q1,q2⟩=> ?_⟩;subst e2;cases (show v2= .int x from r2);obtain⟨kvs,hH,ek,rv⟩:=(show ∃kvs:List (Int×V),_ from rh3.dc a _ e);have ll:kvs.length=kv.length:=by have:=congrArg List.length ek;simpa using this.symm
   refine⟨x,kvs,rfl,hH,by omega,λu hu=> ?_,λhn=> ?_⟩
   ·cases g:vf kv x with
    |none=>rw [(yW ek rv).2 g] at hu;cases hu
    |some d=>obtain⟨u',hu',ru⟩:=(yW ek rv).1 d g;rw [hu] at hu';cases hu';exact post d u _ _ (k1.trans (k2.trans k3)) rh3 ru (q1 d g)
   ·cases g:vf kv x with
    |some d=>obtain⟨u',hu',ru⟩:=(yW ek rv).1 d g;rw [hn] at hu';cases hu'
    |none=>
     obtain⟨kvs',p1,p2,p3⟩:=Bp (k:=x) ek rv r3;have ob:DObj (.dK (kvV kvs)):= .inl ⟨kvs,rfl⟩;refine post d3 v3 _ _ (k1.trans (k2.trans (k3.trans (.putD hH ob)))) (rh3.putC (c:= .ik (De kv x d3)) hH ob ⟨kvs',?_,p2,p3.mono (.putD hH ob)⟩) (r3.mono (.putD hH ob)) (q2 g);rw [jt];exact congrArg (λz=>some (HO.dK z)) p1
 refine wpAny_Call_method m.base m.few m.line PySem.F.plainAttrs_dict X4 PySem.F.type_dict_setdefault (thn (ho.to pins s σ H _ I hw) λu s1 ⟨x,H1,I1,rx,a,ex,d,q1⟩=> ?_);subst ex;obtain rfl:u=Value.ref a:=rx;obtain⟨t1,t2,_⟩:=Aj I1 d;refine⟨t1,t2,?_⟩;rw [m.trees];refine Calls.callWith_builtin rfl (Calls.evalArgs_plain (Z6 (thn (he.to pins s1 σ H1 _ I1 q1) λiv s2 ⟨y,H2,I2,ry,q2⟩=>
  Z6 (thn (hf.to pins s2 σ H2 _ I2 q2) λfv s3 ⟨z,H3,I3,rz,k,kvs,ey,ea,hl,c1,c2⟩=>Calls.spliced_nil ?_))))
 subst ey;obtain⟨zl,hd,vs,rel,dd⟩:=Ai I3.hok ea;have l2:(kvV kvs).length<sizeLine:=Nat.lt_of_lt_of_le (show (kvV kvs).length<1000 by unfold kvV;rw [List.length_map];exact hl) (by decide);refine call_meetsIn X4 dd.typeIs PySem.F.entry_dict_setdefault (PySem.F.args_dict_setdefault_3 _ _ _) (kt_meets_setdefault (zA X.prog X.w) a (Np (k:=Sum.inl k) ry) hd fv) ⟨vs,dd,by rw [<-rel.length];exact zl,λv hv=> ?_,λhn h' dd' hs=> ?_⟩
 ·have rv:=rel.val (Sum.inl k);rw [hv] at rv;cases g:WR (kvV kvs) (Sum.inl k) with
  |none=>rw [g] at rv;exact absurd rv (by intro z;cases z)
  |some v0=>rw [g] at rv;exact⟨v0,H3,I3.tok _,rv,c1 v0 g⟩
 ·have rv:=rel.val (Sum.inl k);rw [hn] at rv;have g:WR (kvV kvs) (Sum.inl k)=none:=by
   cases g:WR (kvV kvs) (Sum.inl k) with
   |none=>rfl
   |some v0=>rw [g] at rv;exact absurd rv (by intro z;cases z)
  have he: ∃q,h'.get? a=some q:=let ⟨q,_,_,hq,_⟩:=dd';⟨q,hq⟩;have hl':(Gq (kvV kvs) (Sum.inl k) z).length<=sizeLine:=by have:=ZQ (kvV kvs) (Sum.inl k) z;omega
  exact⟨z,_,DI I3 (by rw [ea];exact True.intro) hs he (Cb hl' hd (rel.put (Sum.inl k) rz) dd'),rz,c2 g⟩⟩
variable {kv:List (Int×D)}{x:Int}
theorem GN {d:D}(h:vf kv x=some d):(x,d)∈kv:=by
 unfold vf at h;obtain⟨p,e,rfl⟩:=M7.mp h;have e0:=List.find?_some e;have e1:p.1=x:=R8 e0;rw [<-e1];exact List.mem_of_find?_eq_some e
theorem GO (h:x∈kv.map (·.1)):(vf kv x).isSome=true:=by
 obtain⟨p,hp,rfl⟩:=P9.mp h;unfold vf;rw [Option.isSome_map,List.find?_isSome];exact⟨p,hp,P0 rfl⟩
theorem Br (h:vf kv x=none):x ∉ kv.map (·.1):=λz=>by
 have:=GO z;rw [h] at this;cases this
theorem ZJ {d:D}(h:vf kv x=none):De kv x d=kv++ [(x,d)]:=by unfold De;rw [h];rfl
theorem ZK {d:D}(h:vf kv x=none)(y:Int):y∈(De kv x d).map (·.1)↔y∈kv.map (·.1)\/y=x:=by
 rw [ZJ h,T7,P7,S1,O3,G5]
section
variable {n e:Nat}{T:List (List Int)}
theorem GP (h:Sq n e T)(hn:n<=8){p:Nat}(hp:p<n): ∀ (m j:Nat),j∈itF (jL n T) [p] m↔j<n/\RP n T m p j
 |0,j=>by
  show j∈ [p]↔_;rw [G5];exact⟨λe=>⟨e ▸ hp,(zC hp (e ▸ hp)).mpr e.symm⟩,λ⟨hj,r⟩=>((zC hp hj).mp r).symm⟩
 |m+1,j=>by
  show j∈jL n T (itF (jL n T) [p] m)↔_;unfold jL;rw [S7,D1,G0u];constructor
  ·rintro ⟨hj,i,hi,r⟩;obtain⟨hi,ri⟩:=(GP h hn hp m i).mp hi;exact⟨hj,(vd h hn m 1 hp hj).mpr ⟨i,hi,ri,(yp h hn).mpr (R8 r)⟩⟩
  ·rintro ⟨hj,r⟩;obtain⟨i,hi,a,b⟩:=(vd h hn m 1 hp hj).mp r;exact⟨hj,i,(GP h hn hp m i).mpr ⟨hi,a⟩,P0 ((yp h hn).mp b)⟩
structure FI (n:Nat)(T:List (List Int))(s b:Nat)(kv:List (Int×D)):Prop where
 nd:(kv.map (·.1)).Nodup
 ok: ∀p∈kv,∃j v:Nat,p=((j:Int),.int (v:Int))/\j<n/\v<=b/\RP n T v 0 j
 all: ∀j v,j<n->v<=s->RP n T v 0 j->(j:Int)∈kv.map (·.1)
 zero:vf kv 0=some (.int 0)
theorem FI.first (n1:1<=n):FI n T 0 0 [(0,.int 0)]:=⟨by simp,λp hp=>by rw [G5.mp hp];exact⟨0,0,rfl,by omega,G9 _,(zC (by omega) (by omega)).mpr rfl⟩,λj v hj hv r=>by
 rw [show v=0 by omega] at r;rw [<- (zC (by omega) hj).mp r];simp,rfl⟩
variable {s b:Nat}{kv:List (Int×D)}
theorem FI.len (g:FI n T s b kv):kv.length<=n:=by
 have:=wU (ys:=(List.range n).map λ(i:Nat)=>(i:Int)) g.nd λx hx=>by
  obtain⟨p,hp,rfl⟩:=P9.mp hx;obtain⟨j,v,rfl,hj,_⟩:=g.ok p hp;exact P9.mpr ⟨j,D1.mpr hj,rfl⟩
 rw [G1,G1,D9] at this;exact this
theorem FI.full (g:FI n T s b kv)(hl:n<=kv.length){j:Nat}(hj:j<n):(j:Int)∈kv.map (·.1):=by
 rcases G0F ((j:Int)∈kv.map (·.1)) with z|z
 ·exact z
 ·have:=wU (ys:=((List.range n).erase j).map λ(i:Nat)=>(i:Int)) g.nd λx hx=>by
   obtain⟨p,hp,rfl⟩:=P9.mp hx;obtain⟨i,v,rfl,hi,_⟩:=g.ok p hp;exact P9.mpr ⟨i,(X0 (λw=>by subst w;exact z hx)).mpr (D1.mpr hi),rfl⟩
  rw [G1,G1,Q8 (D1.mpr hj),D9] at this;omega
theorem FI.get (g:FI n T s b kv){j:Nat}(h:(j:Int)∈kv.map (·.1)): ∃v:Nat,vf kv (j:Int)=some (.int (v:Int))/\v<=b/\RP n T v 0 j:=by
 obtain⟨d,hd⟩:=E1.mp (GO h);obtain⟨i,v,e1,hi,hv,r⟩:=g.ok _ (GN hd);injection e1 with e1 e2
 have:j=i:=by omega
 subst this;subst e2;exact⟨v,hd,hv,r⟩
theorem FI.put (g:FI n T s b kv){j v:Nat}(h:vf kv (j:Int)=none)(hj:j<n)(hv:v<=b)(r:RP n T v 0 j):FI n T s b (De kv (j:Int) (.int (v:Int))):=by
 refine⟨?_,λp hp=> ?_,λi w hi hw rw_=>(ZK h _).mpr (.inl (g.all i w hi hw rw_)),?_⟩
 ·rw [ZJ h,T7,E4];refine⟨g.nd,by simp,λa ha c hc e1=> ?_⟩;have:c=(j:Int):=by simpa using hc
  subst this;subst e1;exact Br h ha
 ·rw [ZJ h] at hp;rcases P7.mp hp with z|z
  ·exact g.ok p z
  ·rw [G5.mp z];exact⟨j,v,rfl,hj,hv,r⟩
 ·have:=g.zero;rw [ZJ h];unfold vf at this ⊢;rw [List.find?_append];cases q:kv.find? λp=>decide (p.1=0) with
  |none=>rw [q] at this;cases this
  |some p=>rw [q] at this;exact this
theorem FI.grow (h:Sq n e T)(hn:n<=8)(n1:1<=n)(one:(ya T n).length=1){s:Nat}{kv:List (Int×D)}(g:FI n T s s kv)(hl:kv.length<n): ∃v,v<n/\RP n T (s+1) 0 v/\(v:Int) ∉ kv.map (·.1):=by
 obtain⟨j,hj,jn⟩: ∃j,j<n/\(j:Int) ∉ kv.map (·.1):=by
  rcases G0F (∃j,j<n/\(j:Int) ∉ kv.map (·.1)) with z|z
  ·exact z
  ·have:=wU (xs:=(List.range n).map λ(i:Nat)=>(i:Int)) (ys:=kv.map (·.1)) (M9.mpr ((K7 (n:=n)).imp λ{a b} ne w=>ne (by omega))) λx hx=>by
    obtain⟨i,hi,rfl⟩:=P9.mp hx;exact Classical.byContradiction λw=>z ⟨i,D1.mp hi,w⟩
   rw [G1,D9,G1] at this;omega
 have key: ∀k j,j<n->(j:Int) ∉ kv.map (·.1)->RP n T k 0 j-> ∃v,v<n/\RP n T (s+1) 0 v/\(v:Int) ∉ kv.map (·.1):=λk=>by
  induction k with
  |zero=>exact λj hj jn r=>absurd (g.all j 0 hj (T3 _) r) jn
  |succ k ih=>
   intro j hj jn r;obtain⟨u,hu,a,b⟩:=(vd h hn k 1 (by omega) hj).mp r;rcases G0F ((u:Int)∈kv.map (·.1)) with z|z
   ·obtain⟨v,_,hv,rv⟩:=g.get z;have r2:=wI h hn (by omega) hu hj rv b;rcases O4 v s with y|y
    ·exact absurd (g.all j (v+1) hj (by omega) r2) jn
    ·exact⟨j,hj,by rw [show s+1=v+1 by omega];exact r2,jn⟩
   ·exact ih u hu z a
 obtain⟨k,r⟩:=Qg h hn one (show 0<n by omega) hj;exact key k j hj jn r
end
theorem Qh {n i:Nat}(hi:i<n):IsS n [i]:=by
 refine⟨λj=>decide (j=i),?_⟩
 induction n with
 |zero=>omega
 |succ n ih=>
  rw [L0,C4]
  by_cases z:i<n
  ·rw [<-ih z];have: ¬n=i:=by omega
   simp [this]
  ·have e:i=n:=by omega
   subst e;have:(List.range i).filter (λj=>decide (j=i))= []:=G0z.mpr λj hj=>by have:=D1.mp hj;simp;omega
   rw [this];simp
end L2
namespace L2
theorem UH {g:Nat->Nat->Bool}{n:Nat}: ∀t,(lev g n t).Nodup
 |0=>M9.mpr ((K7 (n:=n)).imp λ{a b} ne z=>ne (by injection z))
 |t+1=>by
  show ((lev g n t).flatMap (EF g n)).Pairwise (· ≠ ·);rw [G0G];refine⟨λw _=>M9.mpr (((K7 (n:=n)).filter _).imp λ{a b} ne z=>ne (by simpa using z)),(UH t).imp λ{a b} ne x hx y hy z=> ?_⟩;obtain⟨i,_,rfl⟩:=P9.mp hx;obtain⟨j,_,e⟩:=P9.mp hy;subst z;exact ne (List.append_inj_left' e rfl).symm
theorem YD {g:Nat->Nat->Bool}{n:Nat}: ∀t,(Wp g n t).Nodup
 |0=>List.nodup_nil
 |t+1=>by
  show (Wp g n t++(lev g n t).filter λw=>g (w.getLastD 0) (w.headD 0)).Nodup;rw [E4];refine⟨YD t,(UH t).filter _,λa ha b hb z=> ?_⟩;subst z;obtain⟨s,hs,o,_⟩:=Qb ha;have:=(ve (S7.mp hb).1).len;have:=o.len;omega
section
variable {n e:Nat}{T U:List (List Int)}
theorem Zd:(jC T n).Nodup:=(zj _).nodup_iff.mpr (YD n)
end
section
variable {n e:Nat}{T:List (List Int)}{S:List Nat}
theorem WV (i:Nat)(hi:i<S.length):S.getD i 0=S[i]:=by rw [P2,G0 hi];rfl
theorem Mg (h:Sq n e T)(hn:n<=8)(hS:IsS n S): ∀ (k:Nat) {i j:Nat},i<S.length->j<S.length->RP S.length (jS S T) k i j->RP n T k (S.getD i 0) (S.getD j 0)
 |0,i,j,hi,hj,r=>by
  rw [(zC hi hj).mp r];have lt:S.getD j 0<n:=by rw [WV j hj];exact hS.lt (D4 hj)
  exact(zC lt lt).mpr rfl
 |k+1,i,j,hi,hj,r=>by
  have hp:=Wo h λi hi=>hS.lt hi
  have l8:S.length<=8:=D7 hS.len hn;have lt: ∀x,x<S.length->S.getD x 0<n:=λx hx=>by rw [WV x hx];exact hS.lt (D4 hx)
  obtain⟨u,hu,a,b⟩:=(vd hp l8 k 1 hi hj).mp r;have b:=(yp hp l8).mp b;rw [yV (n:=n) hu hj] at b;exact wI h hn (lt i hi) (lt u hu) (lt j hj) (Mg h hn hS k hi hu a) ((yp h hn).mpr b)
theorem Mh (h:Sq n e T)(hn:n<=8){p:Nat}(hp:p<n): ∀ (k:Nat) {i j:Nat},i<(pcS T n p).length->j<(pcS T n p).length->RP n T k ((pcS T n p).getD i 0) ((pcS T n p).getD j 0)->RP (pcS T n p).length (jS (pcS T n p) T) k i j:=by
 have hS:IsS n (pcS T n p):=Qc p;have nd:(pcS T n p).Nodup:=hS.rise.imp λ{a b} z=>by omega
 have hq:=Wo h λi hi=>hS.lt hi
 have l8:(pcS T n p).length<=8:=D7 hS.len hn;intro k
 induction k with
 |zero=>
  intro i j hi hj r;have lt: ∀x,x<(pcS T n p).length->(pcS T n p).getD x 0<n:=λx hx=>by rw [WV x hx];exact hS.lt (D4 hx)
  have:=(zC (lt i hi) (lt j hj)).mp r;rw [WV i hi,WV j hj] at this;rw [(List.getElem_inj nd).mp this];exact(zC hj hj).mpr rfl
 |succ k ih=>
  intro i j hi hj r;have mi:(pcS T n p).getD i 0∈pcS T n p:=by rw [WV i hi];exact D4 hi
  have mj:(pcS T n p).getD j 0∈pcS T n p:=by rw [WV j hj];exact D4 hj
  obtain⟨i1,i2,i3⟩:=mem_pc.mp mi;obtain⟨j1,j2,j3⟩:=mem_pc.mp mj;obtain⟨u,hu,a,b⟩:=(vd h hn k 1 i1 j1).mp r;have mu:u∈pcS T n p:=mem_pc.mpr ⟨hu,zM i1 i2 (Py h hn k i1 hu a),zM j1 (Py h hn 1 hu j1 b) j3⟩;obtain⟨x,hx,ex⟩:=N4 mu;have ex':(pcS T n p).getD x 0=u:=by rw [WV x hx];exact ex
  refine wI hq l8 hi hx hj (ih hi hx (by rw [ex'];exact a)) ((yp hq l8).mpr ?_);rw [yV (n:=n) hx hj,ex'];exact(yp h hn).mp b
theorem GQ (h:Sq n e T)(hn:n<=8){p:Nat}(hp:p<n):(ya (jS (pcS T n p) T) (pcS T n p).length).length=1:=by
 have hS:IsS n (pcS T n p):=Qc p;have hq:=Wo h λi hi=>hS.lt hi
 refine LL hq (D7 hS.len hn) (A0 (Wq hp)) λi j hi hj=> ?_
 have mi:(pcS T n p).getD i 0∈pcS T n p:=by rw [WV i hi];exact D4 hi
 have mj:(pcS T n p).getD j 0∈pcS T n p:=by rw [WV j hj];exact D4 hj
 obtain⟨i1,i2,i3⟩:=mem_pc.mp mi;obtain⟨j1,j2,j3⟩:=mem_pc.mp mj;obtain⟨_,k,r⟩:=EK h hn i1 (zM hp i3 j2);exact⟨k,Mh h hn hp k hi hj r⟩
def upW (S w:List Nat):List Nat:=w.map λi=>S.getD i 0
theorem yX (hr:S.Pairwise (· < ·)){i j:Nat}(hi:i<S.length)(hj:j<S.length)(h:i<j):S.getD i 0<S.getD j 0:=by
 rw [WV i hi,WV j hj];exact A4.mp hr i j hi hj h
theorem Bs (h:Sq n e T)(hS:IsS n S){w:List Nat}(hw:w∈jC (jS S T) S.length):upW S w∈jC T n:=by
 obtain⟨s,hs,lv,back⟩:=ZI ((zj _).mem_iff.mp hw);have o:=ve lv;have ne:w≠ []:=λz=>by have:=o.len;rw [z] at this;cases this
 have inj: ∀i j,i<S.length->j<S.length->S.getD i 0=S.getD j 0->i=j:=λi j hi hj z=>by
  rcases V8 i j with c|c|c
  ·have:=yX hS.rise hi hj c;omega
  ·exact c
  ·have:=yX hS.rise hj hi c;omega
 have hd:(upW S w).headD 0=S.getD (w.headD 0) 0:=by cases w with|nil=>exact absurd rfl ne|cons a r=>rfl
 have la:(upW S w).getLastD 0=S.getD (w.getLastD 0) 0:=by
  unfold upW;rw [S2,S2,List.getLast?_map];cases q:w.getLast? with
  |none=>exact absurd (A6.mp q) ne
  |some x=>rfl
 have hm:w.headD 0∈w:=by cases w with|nil=>exact absurd rfl ne|cons a r=>exact P8 ..
 have lm:w.getLastD 0∈w:=by rw [S2];cases q:w.getLast? with
  |none=>exact absurd (A6.mp q) ne
  |some x=>exact G0L q
 refine JJ (λz=>ne (G0V.mp z)) (λi hi=> ?_) ?_ (λi hi=> ?_) (λi x y e1 e2=> ?_) ?_
 ·obtain⟨j,hj,rfl⟩:=P9.mp hi;rw [WV j (o.lt j hj)];exact hS.lt (D4 _)
 ·exact M9.mpr (o.nd.imp_of_mem λ{a b} ha hb ne z=>ne (inj a b (o.lt a ha) (o.lt b hb) z))
 ·obtain⟨j,hj,rfl⟩:=P9.mp hi;rw [hd];have:=o.low j hj;rcases Nat.eq_or_lt_of_le this with z|z
  ·rw [z];exact G9 _
  ·exact D8 (yX hS.rise (o.lt _ hm) (o.lt j hj) z)
 ·unfold upW at e1 e2;rw [P3] at e1 e2;obtain⟨a,ea,rfl⟩:=M7.mp e1;obtain⟨b,eb,rfl⟩:=M7.mp e2;have:=R8 (GM lv i a b ea eb)
  rwa [yV (n:=n) (o.lt a (G6 ea)) (o.lt b (G6 eb))] at this
 ·have:=R8 back;rw [yV (n:=n) (o.lt _ lm) (o.lt _ hm)] at this;rw [hd,la];exact this
theorem Pz (h:Sq n e T)(hn:n<=8){w:List Nat}(hw:w∈jC T n): ∃p,p<n/\ ∃v∈jC (jS (pcS T n p) T) (pcS T n p).length,w=upW (pcS T n p) v:=by
 obtain⟨s,hs,lv,back⟩:=ZI ((zj _).mem_iff.mp hw);have o:=ve lv;obtain⟨l1,_,cl,st⟩:=Vl h hn hw;have ne:w≠ []:=λz=>by have:=o.len;rw [z] at this;cases this
 have hm:w.headD 0∈w:=by cases w with|nil=>exact absurd rfl ne|cons a r=>exact P8 ..
 have go:=RD h hn (c:=λt=>w.getD (t%w.length) 0) cl st
 -- each two places of a round come to one another
 have all: ∀x∈w,∀y∈w,wk T n x y=true:=λx hx y hy=>by
  obtain⟨i,hi,ei⟩:=N4 hx;obtain⟨j,hj,ej⟩:=N4 hy;have r:=go i (w.length-i+j);have r:RP n T (w.length-i+j) (w.getD (i%w.length) 0) (w.getD ((i+(w.length-i+j))%w.length) 0):=r;rw [L9 hi,show i+(w.length-i+j)=j+w.length by omega,Nat.add_mod_right,L9 hj,WV i hi,WV j hj,ei,ej] at r;exact Py h hn _ (o.lt x hx) (o.lt y hy) r
 let p:=w.headD 0
 have hp:p<n:=o.lt _ hm;have hS:IsS n (pcS T n p):=Qc p;have inS: ∀x∈w,x∈pcS T n p:=λx hx=>mem_pc.mpr ⟨o.lt x hx,all _ hm x hx,all x hx _ hm⟩
 have ix: ∀x∈w,(pcS T n p).idxOf x<(pcS T n p).length/\(pcS T n p).getD ((pcS T n p).idxOf x) 0=x:=λx hx=>by
  have l:=Q9.mpr (inS x hx);exact⟨l,by rw [WV _ l,Z8 l]⟩
 have mono: ∀x∈w,∀y∈w,x<=y->(pcS T n p).idxOf x<=(pcS T n p).idxOf y:=λx hx y hy le=>by
  obtain⟨a1,a2⟩:=ix x hx;obtain⟨b1,b2⟩:=ix y hy;rcases O4 ((pcS T n p).idxOf y) ((pcS T n p).idxOf x) with z|z
  ·have:=yX hS.rise b1 a1 z;omega
  ·exact z
 have up:upW (pcS T n p) (w.map λx=>(pcS T n p).idxOf x)=w:=by
  unfold upW;rw [S6]
  conv=>rhs;rw [<-G0q w]
  exact S9 λx hx=>(ix x hx).2
 refine⟨p,hp,w.map λx=>(pcS T n p).idxOf x,?_,up.symm⟩;have hd:(w.map λx=>(pcS T n p).idxOf x).headD 0=(pcS T n p).idxOf (w.headD 0):=by cases w with|nil=>exact absurd rfl ne|cons a r=>rfl
 have lm:w.getLastD 0∈w:=by rw [S2];cases q:w.getLast? with
  |none=>exact absurd (A6.mp q) ne
  |some x=>exact G0L q
 have la:(w.map λx=>(pcS T n p).idxOf x).getLastD 0=(pcS T n p).idxOf (w.getLastD 0):=by
  rw [S2,S2,List.getLast?_map];cases q:w.getLast? with
  |none=>exact absurd (A6.mp q) ne
  |some x=>rfl
 refine JJ (λz=>ne (G0V.mp z)) (λi hi=> ?_) ?_ (λi hi=> ?_) (λi x y e1 e2=> ?_) ?_
 ·obtain⟨x,hx,rfl⟩:=P9.mp hi;exact(ix x hx).1
 ·exact M9.mpr (o.nd.imp_of_mem λ{a b} ha hb ne z=>ne (by rw [<- (ix a ha).2,<- (ix b hb).2,z]))
 ·obtain⟨x,hx,rfl⟩:=P9.mp hi;rw [hd];exact mono _ hm x hx (o.low x hx)
 ·rw [P3] at e1 e2;obtain⟨a,ea,rfl⟩:=M7.mp e1;obtain⟨b,eb,rfl⟩:=M7.mp e2;have ma:=G6 ea;have mb:=G6 eb;rw [yV (n:=n) (ix a ma).1 (ix b mb).1,(ix a ma).2,(ix b mb).2];exact R8 (GM lv i a b ea eb)
 ·rw [hd,la,yV (n:=n) (ix _ lm).1 (ix _ hm).1,(ix _ lm).2,(ix _ hm).2];exact R8 back
def wt (T:List (List Int))(Ss:List (List Nat)):List (List Nat):=Ss.flatMap λS=>(jC (jS S T) S.length).map (upW S)
theorem Mi (h:Sq n e T):(ya T n).Pairwise λa b=> ∀x∈a,x ∉ b:=by
 unfold ya;refine M9.mpr (((K7 (n:=n)).filter _).imp_of_mem λ{p q} hp hq ne x hx hy=> ?_);obtain⟨p1,p2⟩:=S7.mp hp;obtain⟨q1,q2⟩:=S7.mp hq;have p1:=D1.mp p1;have q1:=D1.mp q1;have a:=Qe p1 hx;have b:=Qe q1 hy;have c:pcS T n p=pcS T n q:=a.symm.trans b;have p2:=R8 p2;have q2:=R8 q2;exact ne (by rw [<-p2,<-q2,c])
theorem Jk (h:Sq n e T)(hn:n<=8):Pv (wt T (ya T n))=jC T n:=by
 refine(UB (List.perm_iff_count.mpr λa=> ?_) (YA _)).symm;have nd1:=Zd (T:=T) (n:=n);have nd2:(wt T (ya T n)).Nodup:=by
  unfold wt;show List.Pairwise _ _;rw [G0G];refine⟨λS hS=> ?_,(Mi h).imp_of_mem λ{A B} hA hB ap x hx y hy z=> ?_⟩
  ·have is:=Mc S hS;refine M9.mpr ((Zd (T:=jS S T) (n:=S.length)).imp_of_mem λ{v w} hv hw ne z=>ne ?_);obtain⟨_,_,o,_⟩:=wT hv;obtain⟨_,_,o',_⟩:=wT hw;have ll:=congrArg List.length z;unfold upW at ll z;rw [G1,G1] at ll;refine G0t ll λi h1 h2=> ?_
   have zi:=congrArg (λl=>l[i]?) z;simp only [P3,G0 h1,G0 h2,Option.map_some] at zi;injection zi with zi
   have a1:=o.lt _ (D4 h1);have a2:=o'.lt _ (D4 h2);rcases V8 v[i] w[i] with c|c|c
   ·have:=yX is.rise a1 a2 c;omega
   ·exact c
   ·have:=yX is.rise a2 a1 c;omega
  ·subst z;obtain⟨v,hv,e1⟩:=P9.mp hx;obtain⟨w,hw,e2⟩:=P9.mp hy;obtain⟨s,_,o,_⟩:=wT hv;obtain⟨s',_,o',_⟩:=wT hw;have l1:0<v.length:=by rw [o.len];omega
   have ll:v.length=w.length:=by
    have:=congrArg List.length (e1.trans e2.symm);unfold upW at this
    rwa [G1,G1] at this
   have z0:=congrArg (λl=>l[0]?) (e1.trans e2.symm);unfold upW at z0;simp only [P3,G0 l1,G0 (show 0<w.length by omega),Option.map_some] at z0;injection z0 with z0
   have a1:=o.lt _ (D4 l1);have a2:=o'.lt _ (D4 (show 0<w.length by omega));refine ap (A.getD v[0] 0) (by rw [WV _ a1];exact D4 _) ?_;rw [z0,WV _ a2];exact D4 _
 have mem: ∀x,x∈jC T n↔x∈wt T (ya T n):=λx=>by
  unfold wt;rw [W7];constructor
  ·intro hx;obtain⟨p,hp,v,hv,rfl⟩:=Pz h hn hx;exact⟨pcS T n p,mem_pcs.mpr ⟨p,hp,rfl⟩,P9.mpr ⟨v,hv,rfl⟩⟩
  ·rintro ⟨S,hS,hx⟩;obtain⟨v,hv,rfl⟩:=P9.mp hx;exact Bs h (Mc S hS) hv
 show List.count a (jC T n)=_;rw [nd1.count,nd2.count];simp only [mem a]
theorem Mj (h:Sq n e T)(hn:n<=8){p:Nat}(hp:p<n)(nz:Px (jS (pcS T n p) T) (pcS T n p).length≠0)(k:Nat): ∃y∈pcS T n p,RP n T k ((pcS T n p).getD 0 0) y:=by
 have hS:IsS n (pcS T n p):=Qc p;have hq:=Wo h λi hi=>hS.lt hi
 have l8:(pcS T n p).length<=8:=D7 hS.len hn;have l1:0<(pcS T n p).length:=A0 (Wq hp);have one:=GQ h hn hp
 -- an arrow from each place
 have out: ∀i,i<(pcS T n p).length-> ∃j,j<(pcS T n p).length/\RP (pcS T n p).length (jS (pcS T n p) T) 1 i j:=λi hi=>by
  have ne:jC (jS (pcS T n p) T) (pcS T n p).length≠ []:=λw=>nz (by unfold Px;rw [w];rfl)
  obtain⟨w,hw⟩:=K5 _ ne;obtain⟨wl,_,cl,st⟩:=Vl hq l8 hw;obtain⟨k,r⟩:=Qg hq l8 one hi (cl 0);rcases Nat.eq_zero_or_pos k with z|z
  ·rw [z] at r;have:=(zC hi (cl 0)).mp r;exact⟨_,cl 1,by rw [this];exact st 0⟩
  ·obtain⟨m,rfl⟩: ∃m,k=1+m:=⟨k-1,by omega⟩;obtain⟨u,hu,a,_⟩:=(vd hq l8 1 m hi (cl 0)).mp r;exact⟨u,hu,a⟩
 have: ∀k,∃j,j<(pcS T n p).length/\RP (pcS T n p).length (jS (pcS T n p) T) k 0 j:=λk=>by
  induction k with
  |zero=>exact⟨0,l1,(zC l1 l1).mpr rfl⟩
  |succ k ih=>
   obtain⟨j,hj,r⟩:=ih;obtain⟨u,hu,a⟩:=out j hj;exact⟨u,hu,wI hq l8 l1 hj hu r a⟩
 obtain⟨j,hj,r⟩:=this k;exact⟨(pcS T n p).getD j 0,by rw [WV j hj];exact D4 hj,Mg h hn hS k l1 hj r⟩
end
end L2
namespace My
open PySem L2
def top (i:Nat):Stmt:=PySem.Challenge.pw_firstpowers_k32_whole_rounds_in_pieces.main.body.getD i (.Pass ⟨0,0,0,0⟩)
abbrev JK:Stmt:=top 8
theorem Qi:FnScope ["thing"] ["thing"] (jf JK):=⟨rfl,rfl,rfl,by decide +kernel,rfl,by decide +kernel,by decide +kernel⟩
abbrev vy:Stmt:=top 9
theorem UI:FnScope ["thing","least","most"] ["thing","least","most"] (jf vy):=⟨rfl,rfl,rfl,by decide +kernel,rfl,by decide +kernel,by decide +kernel⟩
abbrev JL:Stmt:=top 10
theorem Qj:FnScope ["thing","size"] ["thing","size"] (jf JL):=⟨rfl,rfl,rfl,by decide +kernel,rfl,by decide +kernel,by decide +kernel⟩
abbrev yF:Stmt:=top 11
theorem Js:FnScope ["thing","size","each"] ["thing","size"] (jf yF):=⟨rfl,rfl,rfl,by decide +kernel,rfl,by decide +kernel,by decide +kernel⟩
abbrev Qk:Stmt:=top 12
theorem Pa:FnScope ["row","one","other"] ["row"] (jf Qk):=⟨rfl,rfl,rfl,by decide +kernel,rfl,by decide +kernel,by decide +kernel⟩
abbrev Vm:Stmt:=top 13
theorem Mk:FnScope ["thing","size"] ["thing","size"] (jf Vm):=⟨rfl,rfl,rfl,by decide +kernel,rfl,by decide +kernel,by decide +kernel⟩
abbrev wK:Stmt:=top 14
theorem yT:FnScope ["thing","size","number"] ["thing","size"] (jf wK):=⟨rfl,rfl,rfl,by decide +kernel,rfl,by decide +kernel,by decide +kernel⟩
abbrev zZ:Stmt:=top 15
theorem wW:FnScope ["thing","row"] ["thing"] (jf zZ):=⟨rfl,rfl,rfl,by decide +kernel,rfl,by decide +kernel,by decide +kernel⟩
abbrev yG:Stmt:=top 16
theorem Vn:FnScope ["thing"] ["thing"] (jf yG):=⟨rfl,rfl,rfl,by decide +kernel,rfl,by decide +kernel,by decide +kernel⟩
abbrev JM:Stmt:=top 17
theorem Ql:FnScope ["table","thing"] ["table","thing"] (jf JM):=⟨rfl,rfl,rfl,by decide +kernel,rfl,by decide +kernel,by decide +kernel⟩
abbrev yb:Stmt:=top 18
theorem WW:FnScope ["thing","least","most"] ["thing","least","most"] (jf yb):=⟨rfl,rfl,rfl,by decide +kernel,rfl,by decide +kernel,by decide +kernel⟩
abbrev Wr:Stmt:=top 20
theorem zS:FnScope ["table","size","come","by","one","other"] ["table"] (jf Wr):=⟨rfl,rfl,rfl,by decide +kernel,rfl,by decide +kernel,by decide +kernel⟩
abbrev vz:Stmt:=top 21
theorem zH:FnScope ["come","size","told","place","piece","other"] ["come"] (jf vz):=⟨rfl,rfl,rfl,by decide +kernel,rfl,by decide +kernel,by decide +kernel⟩
abbrev Vo:Stmt:=top 22
theorem Ml:FnScope ["table"] ["table"] (jf Vo):=⟨rfl,rfl,rfl,by decide +kernel,rfl,by decide +kernel,by decide +kernel⟩
abbrev Vp:Stmt:=top 23
theorem Mm:FnScope ["table"] ["table"] (jf Vp):=⟨rfl,rfl,rfl,by decide +kernel,rfl,by decide +kernel,by decide +kernel⟩
abbrev Mn:Stmt:=top 24
theorem Gm:FnScope ["table","some","one","other"] ["table","some"] (jf Mn):=⟨rfl,rfl,rfl,by decide +kernel,rfl,by decide +kernel,by decide +kernel⟩
abbrev Qm:Stmt:=top 26
theorem GZ:FnScope ["table","place","head","number"] ["table","place"] (jf Qm):=⟨rfl,rfl,rfl,by decide +kernel,rfl,by decide +kernel,by decide +kernel⟩
abbrev wu:Stmt:=top 28
theorem yt:FnScope ["one","other"] ["one","other"] (jf wu):=⟨rfl,rfl,rfl,by decide +kernel,rfl,by decide +kernel,by decide +kernel⟩
abbrev yH:Stmt:=top 29
theorem zm:FnScope ["table","told","paths","place","path","head"] ["table"] (jf yH):=⟨rfl,rfl,rfl,by decide +kernel,rfl,by decide +kernel,by decide +kernel⟩
abbrev Mo:Stmt:=top 30
theorem VU:FnScope ["table","told","each"] ["table"] (jf Mo):=⟨rfl,rfl,rfl,by decide +kernel,rfl,by decide +kernel,by decide +kernel⟩
abbrev yI:Stmt:=top 33
theorem ym:FnScope ["table","some","head","place"] ["table","some"] (jf yI):=⟨rfl,rfl,rfl,by decide +kernel,rfl,by decide +kernel,by decide +kernel⟩
abbrev vA:Stmt:=top 34
theorem wD:FnScope ["table","some","k","sets","later","start"] ["table","some","k"] (jf vA):=⟨rfl,rfl,rfl,by decide +kernel,rfl,by decide +kernel,by decide +kernel⟩
abbrev vB:Stmt:=top 37
theorem Zm:FnScope ["thing","size","d","rest"] ["thing","size","d"] (jf vB):=⟨rfl,rfl,rfl,by decide +kernel,rfl,by decide +kernel,by decide +kernel⟩
abbrev vC:Stmt:=top 38
theorem Zn:FnScope ["table","d","rests","place","head"] ["table","d","rests"] (jf vC):=⟨rfl,rfl,rfl,by decide +kernel,rfl,by decide +kernel,by decide +kernel⟩
abbrev zN:Stmt:=top 39
theorem jq:FnScope ["table","fewest","some","steps","place"] ["table"] (jf zN):=⟨rfl,rfl,rfl,by decide +kernel,rfl,by decide +kernel,by decide +kernel⟩
abbrev yJ:Stmt:=top 40
theorem Vq:FnScope ["table","thing"] ["table","thing"] (jf yJ):=⟨rfl,rfl,rfl,by decide +kernel,rfl,by decide +kernel,by decide +kernel⟩
abbrev JN:Stmt:=top 41
theorem vU:FnScope ["table","d","steps"] ["table"] (jf JN):=⟨rfl,rfl,rfl,by decide +kernel,rfl,by decide +kernel,by decide +kernel⟩
abbrev vD:Stmt:=top 43
theorem UJ:FnScope ["_law_script","_law_k"] ["_law_script","_law_k"] (jf vD):=⟨rfl,rfl,rfl,by decide +kernel,rfl,by decide +kernel,by decide +kernel⟩
abbrev JP:Stmt:=top 44
theorem WO:FnScope ["_law_cell_here","_law_left"] ["_law_cell_here"] (jf JP):=⟨rfl,rfl,rfl,by decide +kernel,rfl,by decide +kernel,by decide +kernel⟩
abbrev vE:Stmt:=top 45
theorem wC:FnScope ["_law_pen_here","_law_many","_law_left","_law_found","_law_stir"] ["_law_pen_here","_law_many"] (jf vE):=⟨rfl,rfl,rfl,by decide +kernel,rfl,by decide +kernel,by decide +kernel⟩
abbrev vF:Stmt:=top 46
theorem UK:FnScope ["_law_pen_here"] ["_law_pen_here"] (jf vF):=⟨rfl,rfl,rfl,by decide +kernel,rfl,by decide +kernel,by decide +kernel⟩
abbrev yK:Stmt:=top 47
theorem jy:FnScope ["_law_pen_here","_law_size_here","_law_way","_law_often","_law_most","_law_rows","_law_one","_law_row","_law_other","_law_goes"] ["_law_pen_here","_law_size_here"] (jf yK):=⟨rfl,rfl,rfl,by decide +kernel,rfl,by decide +kernel,by decide +kernel⟩
abbrev PB:Stmt:=top 48
theorem wX:FnScope ["_law_script","_law_cell_here","_law_pen_here","_law_table_here","_law_found","_law_piece","_law_small","_law_some","_law_later","_law_one","_law_place"] ["_law_script"] (jf PB):=⟨rfl,rfl,rfl,by decide +kernel,rfl,by decide +kernel,by decide +kernel⟩
section
variable {P:Program}{w:World}{K:PySem.W.Frag}{mg:Str->Option Value}{base:Heap}
/-- no def is asked of the script's list: a thing -/
def Mp:D->Bool
 | .int _=>true
 |_=>false
/-- a row of so many numbers from 0 on -/
def Sk:D->Bool
 | .int i=>decide (0<=i)
 |_=>false
def Cv (d:D)(k:Int):Bool:=match d with
 | .tup ds=>decide ((ds.length:Int)=k)&&ds.all Sk
 |_=>false
/-! every part has a kind that is told,and no tuple is long -/
mutual
def okD:D->Bool
 | .scr _=>false| .exc _=>false| .fn _=>false| .dct _=>false
 | .tup ds=>decide (ds.length<=1000)&&okDs ds
 |_=>true
def okDs:List D->Bool
 | []=>true
 |d::ds=>okD d&&okDs ds
end
theorem GR: ∀ {ds:List D},okDs ds=true-> ∀d∈ds,okD d=true
 |d::ds,h,x,hx=>by
  have h':(okD d&&okDs ds)=true:=h;rw [T1] at h';rcases R6.mp hx with e|e
  ·subst e;exact h'.1
  ·exact GR h'.2 x e
theorem Mq: ∀ {ds:List D},(∀d∈ds,okD d=true)->okDs ds=true
 | [],_=>rfl
 |d::ds,h=>by
  show (okD d&&okDs ds)=true;rw [h d P8,Mq λx hx=>h x (R0 _ hx)];rfl
theorem Ws {ds:List D}(h:okD (.tup ds)=true):ds.length<=1000/\ ∀d∈ds,okD d=true:=by
 have h':(decide (ds.length<=1000)&&okDs ds)=true:=h;rw [T1] at h';exact⟨R8 h'.1,GR h'.2⟩
theorem UL {ds:List D}(h:ds.length<=1000)(h2: ∀d∈ds,okD d=true):okD (.tup ds)=true:=by
 show (decide (ds.length<=1000)&&okDs ds)=true;rw [P0 h,Mq h2];rfl
theorem yc {d:D}(h:okD d=true): ∃n,Ul d=some n:=by
 cases d<;>first|exact⟨_,rfl⟩|cases h
/-- a table -/
def Ol:D->Bool
 | .tup rs=>decide (1<=rs.length)&&decide (rs.length<=6)&&rs.all λr=>Cv r rs.length
 |_=>false
def vG:RDn:=λds h Q=> ∃d n,ds= [d]/\Ul d=some n/\Q (.bl (Mp d)) h
variable {n:Nat}{f:Addr}{fd:FuncData}
theorem Qn (Z:Zs mg)(F:Fun K "is_whole" "is_whole" JK f fd):FnOk P w K mg base CX0 (n+1) f fd ["thing"] (LSp K vG):=by
 refine F.okJ Qi (λds h Q q=>by obtain⟨d,nm,e,hn,q⟩:=q;subst e;rfl) _ (λcdv A outer s H E hr=>(jg (wM (Cl (XR (T:= "int") (by decide) rfl Z.isinstance rfl Z.int (by decide +kernel) (jv 0)) (Rk (Ki (XR (T:= "bool") (by decide) rfl Z.isinstance rfl Z.bool (by decide +kernel) (jv 0)))))))) ?_;intro ds h Q q;obtain⟨d,nm,e,hn,q⟩:=q;subst e;simp only [DR,Nv,dIs,Nu,yo,S1,O3,D3,S8,A2,N6,C6,E5,D.bl.injEq,Nw,Nz,K0,hn];cases d<;>cases hn<;>exact⟨h,Sub.refl h,q⟩
def zW:RDn:=λds h Q=> ∃d,∃a b:Int,ds= [d,.int a,.int b]/\okD d=true/\Q (.bl (zd d a b)) h
theorem UM (Z:Zs mg)(F:Fun K "is_within" "is_within" vy f fd)(JR:jp P w K mg base n "is_whole" ["thing"] vG):FnOk P w K mg base CX0 (n+1) f fd ["thing","least","most"] (LSp K zW):=by
 obtain⟨Xl,VJ,JV,vK,vO,vR⟩:=JR;refine F.okJ UI (λds h Q q=>by obtain⟨d,a,b,e,ok,q⟩:=q;subst e;rfl) _ (λcdv A outer s H E hr=>(jg (wM (Cl (jB JV hr rfl vR vO vK (jac (jv 0) jc)) (Rk (Eg DW DW (jv 1) (jv 0) (jv 2))))))) ?_;intro ds h Q q;obtain⟨d,a,b,e,ok,q⟩:=q;subst e;obtain⟨nm,hn⟩:=yc ok;refine⟨_,rfl,d,nm,rfl,hn,Mp d,rfl,?_⟩;cases d with
 |int x=>
  refine Yj ⟨_,rfl,_,rfl,_,rfl,?_⟩;show if decide (a<=x)=true then _ else _
  by_cases h1:a<=x
  ·rw [P0 h1];simp only [zd,P0 h1,X5] at q;exact Yj ⟨_,rfl,h,Sub.refl h,q⟩
  ·rw [D6 h1];simp only [zd,D6 h1,G0N] at q;exact Ju ⟨h,Sub.refl h,q⟩
 |_=>exact Ju ⟨h,Sub.refl h,q⟩
def Wt:RDn:=λds h Q=> ∃d,∃n:Int,ds= [d,.int n]/\okD d=true/\Q (.bl (zd d 0 (n-1))) h
theorem Qo (Z:Zs mg)(F:Fun K "is_place" "is_place" JL f fd)(zF:jp P w K mg base n "is_within" ["thing","least","most"] zW):FnOk P w K mg base CX0 (n+1) f fd ["thing","size"] (LSp K Wt):=by
 obtain⟨yj,wL,zG,zf,zg,zh⟩:=zF;refine F.okJ Qj (λds h Q q=>by obtain⟨d,k,e,ok,q⟩:=q;subst e;rfl) _ (λcdv A outer s H E hr=>(jg (wM (jB zG hr rfl zh zg zf (jac (jv 0) (by exact(jac jK (by exact(jac (jop Yq (jv 1) jK) jc))))))))) ?_;intro ds h Q q;obtain⟨d,k,e,ok,q⟩:=q;subst e;exact⟨_,rfl,_,rfl,d,0,k-1,rfl,ok,h,Sub.refl h,q⟩
def Jl:RDn:=λds h Q=> ∃d,∃n:Int,ds= [d,.int n]/\okD d=true/\Q (.bl (XY d n)) h
theorem Vr (Z:Zs mg)(F:Fun K "are_places" "are_places" yF f fd)(PF:jp P w K mg base n "is_place" ["thing","size"] Wt):FnOk P w K mg base CX0 (n+1) f fd ["thing","size"] (LSp K Jl):=by
 obtain⟨Cz,BR,PK,QP,Gf,Gj⟩:=PF;refine F.okJ Js (λds h Q q=>by obtain⟨d,k,e,ok,q⟩:=q;subst e;rfl) _ (λcdv A outer s H E hr=>(jg (wM (Cl (XR (T:= "tuple") (by decide) rfl Z.isinstance rfl Z.tuple (by decide +kernel) (jv 0)) (Rk (jJ (Yr rfl) rfl Z.all L5 (jac (jlc (i:=2) (js:= [2]) rfl (jm (by rfl)) (zQ (jv 0)) (by decide) Js.nd rfl (by first|exact Or.inl rfl|exact Or.inr rfl) (λX' hX=>zc) (λX' hX=>by obtain⟨C,s₀,H₀,ex,rfl⟩:=hX;exact(jB PK hr rfl Gj Gf QP (jac (jv 2) (by exact(jac (jv 1) jc)))))) jc))))))) ?_;intro ds h Q q;obtain⟨d,k,e,ok,q⟩:=q;subst e;obtain⟨nm,hn⟩:=yc ok;refine⟨_,rfl,nm,hn,?_⟩;cases d with
 |tup es=>
  cases hn;obtain⟨hl,ht⟩:=Ws ok;refine⟨_,rfl,Yj ?_⟩;exact Hq es (λx=>x) (λx=>zd x 0 (k-1)) hl (by rw [List.map_id']) (λR r=>⟨_,rfl,r⟩) (λx hx Q' q'=>⟨_,rfl,_,rfl,x,k,rfl,ht x hx,q'⟩) ⟨h,Sub.refl h,q⟩
 |_=>cases hn<;>exact⟨_,rfl,Ju ⟨h,Sub.refl h,q⟩⟩
def GS:RDn:=λds h Q=> ∃S:List Nat,ds= [jx S]/\S.length<=1000/\Q (.bl ((S.zip (S.drop 1)).all λp=>decide ((p.1:Int)<(p.2:Int)))) h
theorem Bv (Z:Zs mg)(F:Fun K "rises" "rises" Qk f fd):FnOk P w K mg base CX0 (n+1) f fd ["row"] (LSp K GS):=by
 refine F.okJ Pa (λds h Q q=>by obtain⟨S,e,hl,q⟩:=q;subst e;rfl) _ (λcdv A outer s H E hr=>(jg (wM (jJ (Yr rfl) rfl Z.all L5 (jac (Ho (i:=1) (j:=2) (js:= [1,2]) rfl (jm (by rfl)) (Em rfl Z.zip (jac (jv 0) (by exact(jac (Rn (jv 0) (Vb jK) Rm) jc)))) (by decide) (by decide) (by decide) Pa.nd rfl rfl (by first|exact Or.inl rfl|exact Or.inr rfl) (by first|exact Or.inl rfl|exact Or.inr rfl) (λX' hX=>zc) (λX' hX=>by obtain⟨C,s₀,H₀,ex,rfl⟩:=hX;exact(XA NA (jv 1) (jv 2) (jz _)))) jc))))) ?_;intro ds h Q q;obtain⟨S,e,hl,q⟩:=q;subst e;refine Tv (j:=λ_=>some (Co (S.map λ(k:Nat)=>D.int (k:Int)) (VX (S.map λ(k:Nat)=>D.int (k:Int)) (some 1) none))) (S.zip (S.drop 1)) (λp=> .int (p.1:Int)) (λp=> .int (p.2:Int)) (λp=>decide ((p.1:Int)<(p.2:Int))) (by rw [List.length_zip];omega) (congrArg some (Li S)) (λR r=>⟨_,rfl,_,rfl,_,rfl,_,_,rfl,r⟩) (λp hp Q' q'=>⟨_,rfl,_,rfl,q'⟩) ⟨h,Sub.refl h,q⟩
theorem Bw {S:List Nat}(h:S.Pairwise (· < ·)):((S.zip (S.drop 1)).all λp=>decide ((p.1:Int)<(p.2:Int)))=true:=by
 rw [S5];intro p hp;have:=Gx h p hp;exact P0 (by omega)
def Ku (n:Nat)(d:D):Prop:=(okD d=true/\XY d (n:Int)=false)\/ ∃S:List Nat,d=jx S/\(∀i∈S,i<n)/\S.length<=1000/\((S.zip (S.drop 1)).all λp=>decide ((p.1:Int)<(p.2:Int)))=false
def UN:RDn:=λds h Q=> ∃d,∃n:Nat,ds= [d,.int (n:Int)]/\n<=6/\((∃S,d=jx S/\IsS n S/\Q (.bl true) h)\/(Ku n d/\Q (.bl false) h))
theorem Mr (Z:Zs mg)(F:Fun K "is_set" "is_set" Vm f fd)(LZ:jp P w K mg base n "rises" ["row"] GS)(UX:jp P w K mg base n "are_places" ["thing","size"] Jl):FnOk P w K mg base CX0 (n+1) f fd ["thing","size"] (LSp K UN):=by
 obtain⟨EX,On,Oa,BH,BT,BU⟩:=LZ;obtain⟨MU,ML,Xa,VF,VN,VR⟩:=UX;refine F.okJ Mk (λds h Q q=>by obtain⟨d,n,e,hn,q⟩:=q;subst e;rfl) _ (λcdv A outer s H E hr=>(jg (wM (Cl (jB Xa hr rfl VR VN VF (jac (jv 0) (by exact(jac (jv 1) jc)))) (Rk (jB Oa hr rfl BU BT BH (jac (jv 0) jc))))))) ?_;intro ds h Q q;obtain⟨d,n,e,hn,q⟩:=q;subst e;have okO: ∀S:List Nat,S.length<=1000->okD (jx S)=true:=λS hS=>UL (by rw [G1];exact hS) λd hd=>by obtain⟨x,_,rfl⟩:=P9.mp hd;rfl
 have plO: ∀S:List Nat,(∀i∈S,i<n)->XY (jx S) (n:Int)=true:=λS hS=>by
  show (S.map _).all _=true;rw [S5];intro x hx;obtain⟨i,hi,rfl⟩:=P9.mp hx;have:=hS i hi;show (decide ((0:Int)<=(i:Int))&&decide ((i:Int)<=(n:Int)-1))=true;rw [P0 (show (0:Int)<=(i:Int) by omega),P0 (show (i:Int)<=(n:Int)-1 by omega)];rfl
 rcases q with ⟨S,rfl,hS,q⟩|⟨⟨ok,bad⟩|⟨S,rfl,hS,hl,hr⟩,q⟩
 ·have hlen:=hS.len;refine⟨_,rfl,_,rfl,jx S,(n:Int),rfl,okO S (by omega),?_⟩;rw [plO S λi hi=>hS.lt hi];refine⟨_,rfl,Yj ⟨_,rfl,S,rfl,by omega,?_⟩⟩;rw [Bw hS.rise];exact⟨h,Sub.refl h,q⟩
 ·refine⟨_,rfl,_,rfl,d,(n:Int),rfl,ok,?_⟩;rw [bad];exact⟨_,rfl,Ju ⟨h,Sub.refl h,q⟩⟩
 ·refine⟨_,rfl,_,rfl,jx S,(n:Int),rfl,okO S hl,?_⟩;rw [plO S hS];refine⟨_,rfl,Yj ⟨_,rfl,S,rfl,hl,?_⟩⟩;rw [hr];exact⟨h,Sub.refl h,q⟩
def yL:RDn:=λds h Q=> ∃d k,ds= [d,.int k]/\okD d=true/\Q (.bl (Cv d k)) h
theorem Wu (Z:Zs mg)(F:Fun K "is_table_row" "is_table_row" wK f fd)(JR:jp P w K mg base n "is_whole" ["thing"] vG):FnOk P w K mg base CX0 (n+1) f fd ["thing","size"] (LSp K yL):=by
 obtain⟨Xl,VJ,JV,vK,vO,vR⟩:=JR;refine F.okJ yT (λds h Q q=>by obtain⟨d,k,e,ok,q⟩:=q;subst e;rfl) _ (λcdv A outer s H E hr=>(je (ZD (jpt (Oj (Jx (yC (XR (T:= "tuple") (by decide) rfl Z.isinstance rfl Z.tuple (by decide +kernel) (jv 0)))) (Oi (wc oq_ne (jJ zL rfl Z.len T6 (jac (jv 0) jc)) (jv 1) (jz _))))) (jg (wM jbl)) ze) (by exact(jg (wM (jJ (Yr rfl) rfl Z.all L5 (jac (jlc (i:=2) (js:= [2]) rfl (jm (by rfl)) (zQ (jv 0)) (by decide) yT.nd rfl (by first|exact Or.inl rfl|exact Or.inr rfl) (λX' hX=>zc) (λX' hX=>by obtain⟨C,s₀,H₀,ex,rfl⟩:=hX;exact(Cl (jB JV hr rfl vR vO vK (jac (jv 2) jc)) (Rk (XA FH (jv 2) jK (jz _)))))) jc))))))) ?_;intro ds h Q q;obtain⟨d,k,e,ok,q⟩:=q;subst e;obtain⟨nm,hn⟩:=yc ok;simp only [MR,Fq,Ao,DP,Zo,dIs,Nu,yo,S1,O3,D3,S8,List.replicate,A2,N6,C6,E5,D.bl.injEq,DR,dC,Nz,Pl,dCB,yu,Uj,dOp,AQ,U9,neD,K0,hn];cases d with
 |tup es=>
  cases hn;obtain⟨hl,ht⟩:=Ws ok;simp only [AS]
  by_cases hk:(es.length:Int)=k
  ·simp only [hk];simp;refine Rc (ds:=es) (h1:=h) (j:=λ_=>some es) (λx=> .bl (Sk x)) (D8 (jA hl)) rfl (λR r=>⟨.tup es,rfl,r⟩) (λd hd Q' q'=> ?_) (λp hp=> ?_)
   ·obtain⟨nn,hnn⟩:=yc (ht d hd);refine⟨d,rfl,d,nn,rfl,hnn,Mp d,rfl,?_⟩;cases d with
    |int i=>exact Yj ⟨.int i,rfl,q'⟩
    |_=>exact Ju q'
   ·refine⟨p,es.map Sk,rfl,by rw [jd];simp,h,?_,?_⟩
    ·rw [zK hp];exact Sub.refl h
    ·simpa [Cv,hk,H0,G0g] using q
  ·simp [hk];exact⟨h,Sub.refl h,by simpa [Cv,hk] using q⟩
 |_=>cases hn<;>exact⟨h,Sub.refl h,q⟩
def wV:RDn:=λds h Q=> ∃d,ds= [d]/\okD d=true/\Q (.bl (Ol d)) h
theorem JQ (Z:Zs mg)(F:Fun K "has_table_form" "has_table_form" zZ f fd)(WY:jp P w K mg base n "is_table_row" ["thing","size"] yL)(vJ: ∃tk,mg "MOST_ROWS" =some (.int 6 tk)):FnOk P w K mg base CX0 (n+1) f fd ["thing"] (LSp K wV):=by
 obtain⟨Df,PY,WZ,WC,WI,WL⟩:=WY;obtain⟨tk_MOST_ROWS,m_MOST_ROWS⟩:=vJ;refine F.okJ wW (λds h Q q=>by obtain⟨d,e,ok,q⟩:=q;subst e;rfl) _ (λcdv A outer s H E hr=>(je (ZD (jpt (Oj (Jx (yC (XR (T:= "tuple") (by decide) rfl Z.isinstance rfl Z.tuple (by decide +kernel) (jv 0)))) (Oi (Jx (FR DW DW jK (jJ zL rfl Z.len T6 (jac (jv 0) jc)) (FQ rfl m_MOST_ROWS)))))) (jg (wM jbl)) ze) (by exact(jg (wM (jJ (Yr rfl) rfl Z.all L5 (jac (jlc (i:=1) (js:= [1]) rfl (jm (by rfl)) (zQ (jv 0)) (by decide) wW.nd rfl (by first|exact Or.inl rfl|exact Or.inr rfl) (λX' hX=>zc) (λX' hX=>by obtain⟨C,s₀,H₀,ex,rfl⟩:=hX;exact(jB WZ hr rfl WL WI WC (jac (jv 1) (by exact(jac (jJ zL rfl Z.len T6 (jac (jv 0) jc)) jc)))))) jc))))))) ?_;intro ds h Q q;obtain⟨d,e,ok,q⟩:=q;subst e;obtain⟨nm,hn⟩:=yc ok;simp only [MR,Fq,Ao,DP,Zo,dIs,Nu,yo,S1,O3,D3,S8,List.replicate,A2,N6,C6,E5,D.bl.injEq,DR,dC,Nz,Pl,dCB,yu,Uj,ZW,AQ,Cf,K0,hn];cases d with
 |tup es=>
  cases hn;obtain⟨hl,ht⟩:=Ws ok;simp only [AS]
  by_cases h1:1<=es.length
  ·by_cases h6:es.length<=6
   ·have h1':(1:Int)<=es.length:=by omega
    have h6':(es.length:Int)<=6:=by omega
    simp [h1',h6'];refine Rc (ds:=es) (h1:=h) (j:=λ_=>some es) (λx=> .bl (Cv x es.length)) (D8 (jA hl)) rfl (λR r=>⟨.tup es,rfl,r⟩) (λd hd Q' q'=> ?_) (λp hp=> ?_)
    ·exact⟨d,rfl,.tup es,rfl,d,es.length,rfl,ht d hd,q'⟩
    ·refine⟨p,es.map λx=>Cv x es.length,rfl,by rw [jd];simp,h,?_,?_⟩
     ·rw [zK hp];exact Sub.refl h
     ·simpa [Ol,h1,h6,H0,G0g] using q
   ·have h1':(1:Int)<=es.length:=by omega
    have h6': ¬ (es.length:Int)<=6:=by omega
    simp [h1',h6'];exact⟨h,Sub.refl h,by simpa [Ol,h1,h6] using q⟩
  ·have h1': ¬ (1:Int)<=es.length:=by omega
   simp [h1'];exact⟨h,Sub.refl h,by simpa [Ol,h1] using q⟩
 |_=>cases hn<;>exact⟨h,Sub.refl h,q⟩
theorem LM {x:Int}(h:0<=x):Sk (.int x)=true:=P0 h
variable {e:Nat}{T:List (List Int)}
theorem LP (h:Sq n e T){r:List Int}(hr:r∈T):Cv (Up r) n=true:=by
 simp only [Cv,Up,G1,h.row r hr,decide_true,X5,H0,S5,Q1];intro x hx;exact LM (h.nn r hr x hx)
theorem LQ (h:Sq n e T)(h1:1<=n)(h6:n<=6):Ol (jY T)=true:=by
 simp only [Ol,jY,G1,h.len,P0 h1,P0 h6,X5,H0,S5,Q1];intro r hr;exact LP h hr
theorem EL (h:Sq n e T)(h6:n<=6):okD (jY T)=true:=
 UL (by rw [G1,h.len];omega) λd hd=>by
  obtain⟨r,hr,rfl⟩:=P9.mp hd;exact UL (by rw [G1,h.row r hr];omega) λd hd=>by obtain⟨x,_,rfl⟩:=P9.mp hd;rfl
def zk:RDn:=λds h Q=> ∃T,∃n e:Nat,ds= [jY T]/\Sq n e T/\1<=n/\n<=6/\Q .non h
theorem Vs (Z:Zs mg)(F:Fun K "want_table" "want_table" yG f fd)(Zr:jp P w K mg base n "has_table_form" ["thing"] wV):FnOk P w K mg base CX0 (n+1) f fd ["thing"] (LSp K zk):=by
 obtain⟨GX,Ga,Zt,JY,JZ,Za⟩:=Zr;refine F.okJ Vn (λds h Q q=>by obtain⟨T,k,b,e,hT,h1,h6,q⟩:=q;subst e;rfl) _ (λcdv A outer s H E hr=>(jg (ZD (Jx (yC (jB Zt hr rfl Za JZ JY (jac (jv 0) jc)))) (jg Ys) ze))) ?_;intro ds h Q q;obtain⟨T,k,b,e,hT,h1,h6,q⟩:=q;subst e;refine⟨_,rfl,jY T,rfl,EL hT h6,_,rfl,?_⟩;rw [LQ hT h1 h6];exact Ju ⟨h,Sub.refl h,q⟩
def vH:RDn:=λds h Q=> ∃ (T:List (List Int)) (S:List Nat) (n:Nat),ds= [jY T,jx S]/\T.length=n/\IsS n S/\n<=6/\Q .non h
theorem Qp (Z:Zs mg)(F:Fun K "want_set" "want_set" JM f fd)(BF:jp P w K mg base n "is_set" ["thing","size"] UN):FnOk P w K mg base CX0 (n+1) f fd ["table","thing"] (LSp K vH):=by
 obtain⟨Om,Oe,BG,MD,MO,MP⟩:=BF;refine F.okJ Ql (λds h Q q=>by obtain⟨T,S,k,e,hT,hS,h6,q⟩:=q;subst e;rfl) _ (λcdv A outer s H E hr=>(jg (ZD (Jx (yC (jB BG hr rfl MP MO MD (jac (jv 1) (by exact(jac (jJ zL rfl Z.len T6 (jac (jv 0) jc)) jc)))))) (jg Ys) ze))) ?_;intro ds h Q q;obtain⟨T,S,k,e,hT,hS,h6,q⟩:=q;subst e;refine⟨_,rfl,_,rfl,_,k,by rw [G1,hT],h6,.inl ⟨S,rfl,hS,_,rfl,?_⟩⟩;exact Ju ⟨h,Sub.refl h,q⟩
def vg:RDn:=λds h Q=> ∃k lo hi:Int,ds= [.int k,.int lo,.int hi]/\lo<=k/\k<=hi/\Q .non h
theorem WX (Z:Zs mg)(F:Fun K "want_number" "want_number" yb f fd)(zF:jp P w K mg base n "is_within" ["thing","least","most"] zW):FnOk P w K mg base CX0 (n+1) f fd ["thing","least","most"] (LSp K vg):=by
 obtain⟨yj,wL,zG,zf,zg,zh⟩:=zF;refine F.okJ WW (λds h Q q=>by obtain⟨k,lo,hi,e,h1,h2,q⟩:=q;subst e;rfl) _ (λcdv A outer s H E hr=>(jg (ZD (Jx (yC (jB zG hr rfl zh zg zf (jac (jv 0) (by exact(jac (jv 1) (by exact(jac (jv 2) jc)))))))) (jg Ys) ze))) ?_;intro ds h Q q;obtain⟨k,lo,hi,e,h1,h2,q⟩:=q;subst e;refine⟨_,rfl,_,rfl,_,rfl,.int k,lo,hi,rfl,rfl,_,rfl,?_⟩;have e0:zd (.int k) lo hi=true:=by
  show (decide (lo<=k)&&decide (k<=hi))=true;rw [P0 h1,P0 h2];rfl
 rw [e0];exact Ju ⟨h,Sub.refl h,q⟩
def YE:RDn:=λds h Q=> ∃T,∃n e:Nat,ds= [jY T]/\Sq n e T/\n<=6/\ ∀R rs h',GB n h h' R rs (wk T n)->Q (.lst R) h'
theorem PC (Z:Zs mg)(F:Fun K "reaches" "reaches" Wr f fd):FnOk P w K mg base CX0 (n+1) f fd ["table"] (LSp K YE):=by
 refine F.okJ zS (λds h Q q=>by obtain⟨T,n,b,e,hT,h6,q⟩:=q;subst e;rfl) _ (λcdv A outer s H E hr=>(je (yY (i:=1) zS.nd rfl (by first|exact Or.inr rfl|exact Or.inl rfl) (jJ zL rfl Z.len T6 (jac (jv 0) jc))) (by exact(je (Cm (i:=4) (k:=2) (js:= [4]) rfl zS.nd rfl (Or.inl rfl) (jm (by rfl)) (Jz rfl Z.range (jac (jv 1) jc)) (by decide) rfl (by first|exact Or.inl rfl|exact Or.inr rfl) (λX' hX=>zc) (λX' hX=>by obtain⟨C,s₀,H₀,ex,rfl⟩:=hX;exact(jlc (i:=5) (js:= [5]) rfl (jm (by rfl)) (Jz rfl Z.range (jac (jv 1) jc)) (by decide) zS.nd rfl (by first|exact Or.inl rfl|exact Or.inr rfl) (λX' hX=>zc) (λX' hX=>by obtain⟨C,s₀,H₀,ex,rfl⟩:=hX;exact(jor (XA (ZZ hr.units) (jv 4) (jv 5) (jz _)) (Rk (XA oq_ne (jix (jix (jv 0) (jv 4) (λ_ _=>rfl)) (jv 5) (λ_ _=>rfl)) jK (jz _)))))))) (by exact(je (MS N3 rfl (Jz rfl Z.range (jac (jv 1) jc)) (wG (i:=3) zS.nd rfl (Or.inl rfl)) (jg (MS N3 rfl (Jz rfl Z.range (jac (jv 1) jc)) (wG (i:=4) zS.nd rfl (by first|exact Or.inr rfl|exact Or.inl rfl)) (jg (MS N3 rfl (Jz rfl Z.range (jac (jv 1) jc)) (wG (i:=5) zS.nd rfl (by first|exact Or.inr rfl|exact Or.inl rfl)) (jg (ZD (jpt (FT (yC (jix (jix (jv 2) (jv 4) (λ_ _=>rfl)) (jv 3) (λ_ _=>rfl))) (FS (yC (jix (jix (jv 2) (jv 3) (λ_ _=>rfl)) (jv 5) (λ_ _=>rfl)))))) (jg (Sd jbl (Rl (jix (jv 2) (jv 4) (λ_ _=>rfl)) (jv 5)))) ze))))))) (by exact(jg (wM (jv 2)))))))))) ?_;intro ds h Q q;obtain⟨T,n,b,e,hT,h6,q⟩:=q;subst e;refine jh (λσ' h'=>σ'= [some (jY T),some (.int (n:Int)),none,none,none,none]/\h=h') (λC hC=>⟨_,rfl,hC _ _ ⟨by rw [G1,hT.len];rfl,rfl⟩⟩) ?_;rintro _ _ ⟨rfl,rfl⟩;refine jh (λσ' h'=> ∃R rs u v w,σ'= [some (jY T),some (.int (n:Int)),some (.lst R),u,v,w]/\GB n h h' R rs (wk T 0)) (λC hC=> ?_) ?_
 ·refine Ed (h1:=h) n (λi ys h'=> ∃rs,ys=rs.map D.lst/\rs.length=i/\Sub h h'/\rs.Nodup/\ ∀m a,rs[m]? =some a->h a=none/\h' a=some ((List.range n).map λj=>D.bl (wk T 0 m j))) (by omega) (λR r=>⟨_,rfl,r⟩) ⟨[],rfl,rfl,Sub.refl h,List.nodup_nil,by simp⟩ (λi ys h' ⟨rs,e,el,_⟩=>by rw [e,G1];exact el) ?_ ?_
  ·rintro i ys h3 hi ⟨rs,rfl,lrs,sb3,nd3,rows3⟩;refine lcA (List.range n) (λj=> .int (j:Int)) (λj=> .bl (wk T 0 i j)) (by rw [D9];omega) rfl (λR r=>⟨_,rfl,(n:Int),rfl,by omega,by omega,r⟩) (λj hj Q' q'=>⟨_,rfl,_,rfl,_,rfl,?_⟩) (λp5 e5=> ?_)
   ·have hj:=D1.mp hj;have q':Q' (.bl (decide (i=j)|| !decide (ent T i j=0))) h3:=q';have ed:decide ((i:Int)=(j:Int))=decide (i=j):=by rw [N5,M1,M1];omega
    rw [ed]
    by_cases c:i=j
    ·rw [P0 c] at q' ⊢;exact Yj q'
    ·rw [D6 c] at q' ⊢;exact Ju ⟨_,rfl,_,rfl,_,Wc hT hi,_,rfl,_,Vd (hT.row _ (Sq.getRow hT hi)) hj,q'⟩
   ·refine⟨_,Sub.refl _,by omega,rs++ [p5],by rw [T7];rfl,by rw [G3,lrs];rfl,Sub.newAt sb3 e5,?_,λm a ha=> ?_⟩
    ·rw [E4];refine⟨nd3,by simp,λa ha b hb z=> ?_⟩;rw [G5.mp hb] at z;subst z;obtain⟨m,hm⟩:=G0M ha;rw [(rows3 m _ hm).2] at e5;cases e5
    ·by_cases hm:m<rs.length
     ·rw [D2 hm] at ha;exact⟨(rows3 m a ha).1,ju (rows3 m a ha).2 e5⟩
     ·rw [P4 (by omega)] at ha;have em:m-rs.length=0:=by
       have:=(G7.mp ha).1;simp at this;omega
      rw [em] at ha;have ea:p5=a:=by simpa using ha
      subst ea;have:m=i:=by omega
      subst this;exact⟨Vi sb3 e5,jd⟩
  ·rintro ys h3 ⟨rs,rfl,lrs,sb3,nd3,rows3⟩ R eR;refine hC _ _ ⟨R,rs,_,_,_,rfl,jd,lrs,λhR=> ?_,nd3,Sub.newAt sb3 eR,λi a ha=>⟨(rows3 i a ha).1,ju (rows3 i a ha).2 eR⟩⟩;obtain⟨m,hm⟩:=G0M hR;rw [(rows3 m _ hm).2] at eR;cases eR
 rintro _ h3 ⟨R,rs,u,v,w,rfl,G⟩;refine jh (λσ' h'=> ∃u v w,σ'= [some (jY T),some (.int (n:Int)),some (.lst R),u,v,w]/\GB n h h' R rs (wk T n)) (λC hC=> ?_) ?_
 ·refine Jw n (λk σ' h'=> ∃u v w,σ'= [some (jY T),some (.int (n:Int)),some (.lst R),u,v,w]/\GB n h h' R rs (wk T k)) (by omega) (λR r=>⟨_,rfl,r⟩) ⟨u,v,w,rfl,G⟩ (λσ' h' z=>hC _ _ z) ?_;clear G;rintro k _ h4 hk ⟨u,v,w,rfl,G⟩;refine Jw n (λi σ' h'=> ∃v w,σ'= [some (jY T),some (.int (n:Int)),some (.lst R),some (.int (k:Int)),v,w]/\GB n h h' R rs (fW T k i 0)) (by omega) (λR r=>⟨_,rfl,r⟩) ⟨v,w,rfl,G.as λx y _ _=>Lx T k x y⟩ (λσ' h' ⟨v,w,e,G⟩=>⟨_,Sub.refl _,by omega,_,v,w,e,G.as λx y hx _=>EE T k x y hx⟩) ?_;clear G;rintro i _ h5 hi ⟨v,w,rfl,G⟩;refine Jw n (λj σ' h'=> ∃w,σ'= [some (jY T),some (.int (n:Int)),some (.lst R),some (.int (k:Int)),some (.int (i:Int)),w]/\GB n h h' R rs (fW T k i j)) (by omega) (λR r=>⟨_,rfl,r⟩) ⟨w,rfl,G⟩ (λσ' h' ⟨w,e,G⟩=>⟨_,Sub.refl _,by omega,_,w,e,G.as λx y _ hy=>Lw T k i x y hy⟩) ?_;clear G;rintro j _ h6' hj ⟨w,rfl,G⟩;obtain⟨a,ha,a1,a2⟩:=G.pick hi;obtain⟨c,hc,c1,c2⟩:=G.pick hk;refine⟨_,rfl,_,rfl,_,_,G.at_,a1,_,rfl,_,_,a2,GI hk,_,rfl,?_⟩;rw [EB];refine VW (λz1=> ?_) λz1=> ?_
  ·refine⟨_,rfl,_,rfl,_,_,G.at_,c1,_,rfl,_,_,c2,GI hj,_,rfl,?_⟩;rw [EC];refine VW (λz2=> ?_) λz2=> ?_
   ·exact⟨_,rfl,_,rfl,_,_,G.at_,a1,_,rfl,a,(j:Int),_,j,rfl,rfl,a2,Lj (by rw [G1,D9];exact hj),_,Sub.refl _,by omega,_,rfl,(G.put ha).as λx y _ _=>ED z1 z2 x y⟩
   ·exact⟨_,Sub.refl _,by omega,_,rfl,G.as λx y _ _=>RW (λz=>z2 z.2) x y⟩
  ·exact⟨_,Sub.refl _,by omega,_,rfl,G.as λx y _ _=>RW (λz=>z1 z.1) x y⟩
 rintro _ h4 ⟨u,v,w,rfl,G⟩;exact⟨_,rfl,_,Sub.refl _,q R rs h4 G⟩
def Ze:RDn:=λds h Q=> ∃R rs h0 T,∃n:Nat,ds= [.lst R]/\GB n h0 h R rs (wk T n)/\n<=6/\ ∀A h',h A=none->h' A=some ((ya T n).map jx)->Sub h h'->Q (.lst A) h'
theorem UO (Z:Zs mg)(F:Fun K "pieces_by" "pieces_by" vz f fd):FnOk P w K mg base CX0 (n+1) f fd ["come"] (LSp K Ze):=by
 refine F.okJ zH (λds h Q q=>by obtain⟨R,rs,h0,T,n,e,G,h6,q⟩:=q;subst e;rfl) _ (λcdv A outer s H E hr=>(je (yY (i:=1) zH.nd rfl (Or.inl rfl) (jJ zL rfl Z.len T6 (jac (jv 0) jc))) (by exact(je (yY (i:=2) zH.nd rfl (Or.inl rfl) (Gt jc)) (by exact(je (MS N3 rfl (Jz rfl Z.range (jac (jv 1) jc)) (wG (i:=3) zH.nd rfl (by first|exact Or.inr rfl|exact Or.inl rfl)) (je (yY (i:=4) zH.nd rfl (Or.inl rfl) (wH wQ rfl Z.tuple (by decide +kernel) (jac (jlc (i:=5) (js:= [5]) rfl (jm (by rfl)) (Jz rfl Z.range (jac (jv 1) jc)) (by decide) zH.nd rfl (by first|exact Or.inl rfl|exact Or.inr rfl) (λX' hX=>by obtain⟨C,s₀,H₀,ex,rfl⟩:=hX;exact JB (jpt (FT (yC (jix (jix (jv 0) (jv 3) (λ_ _=>rfl)) (jv 5) (λ_ _=>rfl))) (FS (yC (jix (jix (jv 0) (jv 5) (λ_ _=>rfl)) (jv 3) (λ_ _=>rfl))))))) (λX' hX=>by obtain⟨C,s₀,H₀,ex,rfl⟩:=hX;exact(jv 5))) jc))) (by exact(jg (ZD (wc (ZZ hr.units) (jix (jv 4) jK (λ_ _=>rfl)) (jv 3) (jz _)) (jg (Jy (Se (jv 2) (jv 4)))) ze))))) (by exact(jg (wM (jv 2)))))))))) ?_;intro ds h Q q;obtain⟨R,rs,h0,T,n,e,G,h6,q⟩:=q;subst e;refine jh (λσ' h'=>σ'= [some (.lst R),some (.int (n:Int)),none,none,none,none]/\h=h') (λC hC=> ?_) ?_
 ·exact⟨_,rfl,_,G.at_,hC _ _ ⟨by rw [G1,G.len];rfl,rfl⟩⟩
 rintro _ _ ⟨rfl,rfl⟩;refine jh (λσ' h'=> ∃A,σ'= [some (.lst R),some (.int (n:Int)),some (.lst A),none,none,none]/\h A=none/\Sub h h'/\h' A=some []) (λC hC=>⟨(by show 0<=sizeLine;decide),λA eA=>hC _ _ ⟨A,rfl,eA,Sub.newAt (Sub.refl h) eA,jd⟩⟩) ?_;rintro _ h1 ⟨A,rfl,nA,sb,kA⟩;refine jh (λσ' h'=> ∃u v w,σ'= [some (.lst R),some (.int (n:Int)),some (.lst A),u,v,w]/\Sub h h'/\h' A=some ((ya T n).map jx)) (λC hC=> ?_) ?_
 ·refine Jw n (λk σ' h'=> ∃u v w,σ'= [some (.lst R),some (.int (n:Int)),some (.lst A),u,v,w]/\Sub h h'/\h' A=some (((((List.range k).filter (λp=>decide ((pcS T n p).headD 0=p))).map (pcS T n))).map jx)) (by omega) (λR r=>⟨_,rfl,r⟩) ⟨_,_,_,rfl,sb,kA⟩ (λσ' h' z=>hC _ _ z) ?_;clear sb kA;rintro k _ h2 hk ⟨u,v,w,rfl,sb,kA⟩;have GG:=G.up sb;obtain⟨a,ha,a1,a2⟩:=GG.pick hk;refine jh (λσ' h'=> ∃w,σ'= [some (.lst R),some (.int (n:Int)),some (.lst A),some (.int (k:Int)),some (jx (pcS T n k)),w]/\h2=h') (λC hC=> ?_) ?_
  ·refine NW n (λj ys h'=>h'=h2/\ys=((List.range j).filter λi=>wk T n k i&&wk T n i k).map λ(i:Nat)=>D.int (i:Int)) (by omega) (λR r=>⟨_,rfl,r⟩) ⟨rfl,rfl⟩ (λj ys h' w=> ?_) (λj ys h' hj w=> ?_) (λys h' w=> ?_)
   ·rw [w.2,G1];exact D7 (B0 _ _) (by rw [D9];exact G9 _)
   ·obtain⟨rfl,rfl⟩:=w;obtain⟨c,hc,c1,c2⟩:=GG.pick hj;refine⟨_,rfl,_,rfl,_,_,GG.at_,a1,_,rfl,_,_,a2,GI hj,_,rfl,VW (λz1=> ?_) λz1=> ?_⟩
    ·refine⟨_,rfl,_,rfl,_,_,GG.at_,c1,_,rfl,_,_,c2,GI hk,_,rfl,VW (λz2=> ?_) λz2=> ?_⟩
     ·refine⟨_,rfl,_,Sub.refl _,by omega,rfl,?_⟩;rw [L0,C4,T7,C5 (by rw [z1,z2];rfl)];rfl
     ·refine⟨_,Sub.refl _,by omega,rfl,?_⟩;rw [L0,C4,T7,O0 (by rw [T1];exact λz=>z2 z.2)];simp
    ·refine⟨_,Sub.refl _,by omega,rfl,?_⟩;rw [L0,C4,T7,O0 (by rw [T1];exact λz=>z1 z.1)];simp
   ·obtain⟨rfl,rfl⟩:=w;exact hC _ _ ⟨_,rfl,rfl⟩
  rintro _ _ ⟨w',rfl,rfl⟩;obtain⟨r,er⟩:=Mb (T:=T) hk;have a0:((pcS T n k).map λ(i:Nat)=>D.int (i:Int))[0]? =some (.int (((pcS T n k).headD 0:Nat):Int)):=by
   cases z:pcS T n k with
   |nil=>rw [z] at er;cases er
   |cons x r=>rfl
  refine⟨_,rfl,_,wE (j:=0) a0,_,rfl,?_⟩;show ∃k_1,D.bl (decide ((((pcS T n k).headD 0:Nat):Int)=(k:Int)))= .bl k_1/\_;refine⟨_,rfl,VW (λz=> ?_) λz=> ?_⟩
  ·have z:(pcS T n k).headD 0=k:=by have:=R8 z;omega
   refine⟨_,rfl,A,rfl,_,rfl,_,kA,?_,_,Sub.refl _,by omega,_,_,_,rfl,sb.over nA,?_⟩
   ·rw [G1,G1];exact jA (D7 (B0 _ _) (by rw [D9];omega))
   ·rw [jd,L0,C4,C5 (by rw [M1];exact z),G0E,T7,T7];rfl
  ·have z: ¬ (pcS T n k).headD 0=k:=λe=>z (P0 (by omega))
   refine⟨_,Sub.refl _,by omega,_,_,_,rfl,sb,?_⟩;rw [kA,L0,C4,O0 (by rw [M1];exact z),G0E,B7]
 rintro _ h4 ⟨u,v,w,rfl,sb4,k4⟩;exact⟨_,rfl,_,Sub.refl _,q A h4 nA k4 sb4⟩
def Wv:RDn:=λds h Q=> ∃T,∃n e:Nat,ds= [jY T]/\Sq n e T/\1<=n/\n<=6/\ ∀A h',h A=none->h' A=some ((ya T n).map jx)->Sub h h'->Q (.lst A) h'
theorem Ms (Z:Zs mg)(F:Fun K "pieces" "pieces" Vo f fd)(jQ:jp P w K mg base n "want_table" ["thing"] zk)(Qz:jp P w K mg base n "pieces_by" ["come"] Ze)(Mz:jp P w K mg base n "reaches" ["table"] YE):FnOk P w K mg base CX0 (n+1) f fd ["table"] (LSp K Wv):=by
 obtain⟨zU,zP,jR,jD,jE,jF⟩:=jQ;obtain⟨BO,Na,QK,Xg,Xs,Xy⟩:=Qz;obtain⟨Od,CB,MC,PM,PZ,Da⟩:=Mz;refine F.okJ Ml (λds h Q q=>by obtain⟨T,n,b,e,hT,h1,h6,q⟩:=q;subst e;rfl) _ (λcdv A outer s H E hr=>(je (Jy (jB jR hr rfl jF jE jD (jac (jv 0) jc))) (by exact(jg (wM (jB QK hr rfl Xy Xs Xg (jac (jB MC hr rfl Da PZ PM (jac (jv 0) jc)) jc))))))) ?_;intro ds h Q q;obtain⟨T,n,b,e,hT,h1,h6,q⟩:=q;subst e;refine jh (λσ' h'=>σ'= [some (jY T)]/\h=h') (λC hC=>⟨_,rfl,T,n,b,rfl,hT,h1,h6,hC _ _ ⟨rfl,rfl⟩⟩) ?_;rintro _ _ ⟨rfl,rfl⟩;exact⟨_,rfl,T,n,b,rfl,hT,h6,λR rs h2 G=>⟨R,rs,h,T,n,rfl,G,h6,λA h3 nA kA sb=>⟨_,Sub.refl _,q A h3 (Vi G.sb nA) kA ((G.sb).trans sb)⟩⟩⟩
def Ww:RDn:=λds h Q=> ∃T,∃n e:Nat,ds= [jY T]/\Sq n e T/\1<=n/\n<=6/\Q (.bl (decide ((ya T n).length=1))) h
theorem Mt (Z:Zs mg)(F:Fun K "joined" "joined" Vp f fd)(Vz:jp P w K mg base n "pieces" ["table"] Wv):FnOk P w K mg base CX0 (n+1) f fd ["table"] (LSp K Ww):=by
 obtain⟨PV,Gc,VC,WE,WK,WN⟩:=Vz;refine F.okJ Mm (λds h Q q=>by obtain⟨T,n,b,e,hT,h1,h6,q⟩:=q;subst e;rfl) _ (λcdv A outer s H E hr=>(jg (wM (XA oq_eq (jJ zL rfl Z.len T6 (jac (jB VC hr rfl WN WK WE (jac (jv 0) jc)) jc)) jK (jz _))))) ?_;intro ds h Q q;obtain⟨T,n,b,e,hT,h1,h6,q⟩:=q;subst e;refine⟨_,rfl,T,n,b,rfl,hT,h1,h6,λA h2 nA kA sb=>⟨_,kA,?_⟩⟩;show ∃h0,Sub h0 h2/\Q (.bl (decide (((((ya T n).map jx).length:Nat):Int)=1))) h0;refine⟨h,sb,?_⟩;rw [G1,show decide ((((ya T n).length:Nat):Int)=1)=decide ((ya T n).length=1) from by rw [N5,M1,M1];omega];exact q
def Mu:RDn:=λds h Q=> ∃T S,∃n e:Nat,ds= [jY T,jx S]/\Sq n e T/\1<=n/\n<=6/\IsS n S/\S≠ []/\Q (jY (jS S T)) h
theorem LU (Z:Zs mg)(F:Fun K "part" "part" Mn f fd)(jQ:jp P w K mg base n "want_table" ["thing"] zk)(JU:jp P w K mg base n "want_set" ["table","thing"] vH):FnOk P w K mg base CX0 (n+1) f fd ["table","some"] (LSp K Mu):=by
 obtain⟨zU,zP,jR,jD,jE,jF⟩:=jQ;obtain⟨Xm,VL,JX,vM,vQ,vT⟩:=JU;refine F.okJ Gm (λds h Q q=>by obtain⟨T,S,n,b,e,hT,h1,h6,hS,ne,q⟩:=q;subst e;rfl) _ (λcdv A outer s H E hr=>(je (Jy (jB jR hr rfl jF jE jD (jac (jv 0) jc))) (by exact(je (Jy (jB JX hr rfl vT vQ vM (jac (jv 0) (by exact(jac (jv 1) jc))))) (by exact(je (ZD (wc (ZZ hr.units) (jv 1) (Eh jc) (jz _)) (jg Ys) ze) (by exact(jg (wM (wH wQ rfl Z.tuple (by decide +kernel) (jac (jlc (i:=2) (js:= [2]) rfl (jm (by rfl)) (zQ (jv 1)) (by decide) Gm.nd rfl (by first|exact Or.inl rfl|exact Or.inr rfl) (λX' hX=>zc) (λX' hX=>by obtain⟨C,s₀,H₀,ex,rfl⟩:=hX;exact(wH wQ rfl Z.tuple (by decide +kernel) (jac (jlc (i:=3) (js:= [3]) rfl (jm (by rfl)) (zQ (jv 1)) (by decide) Gm.nd rfl (by first|exact Or.inl rfl|exact Or.inr rfl) (λX' hX=>zc) (λX' hX=>by obtain⟨C,s₀,H₀,ex,rfl⟩:=hX;exact(jix (jix (jv 0) (jv 2) (λ_ _=>rfl)) (jv 3) (λ_ _=>rfl)))) jc)))) jc))))))))))) ?_;intro ds h Q q;obtain⟨T,S,n,b,e,hT,h1,h6,hS,ne,q⟩:=q;subst e;refine jh (λσ' h'=>σ'= [some (jY T),some (jx S),none,none]/\h=h') (λC hC=>⟨_,rfl,T,n,b,rfl,hT,h1,h6,hC _ _ ⟨rfl,rfl⟩⟩) ?_;rintro _ _ ⟨rfl,rfl⟩;refine jh (λσ' h'=>σ'= [some (jY T),some (jx S),none,none]/\h=h') (λC hC=>⟨_,rfl,_,rfl,T,S,n,rfl,hT.len,hS,h6,hC _ _ ⟨rfl,rfl⟩⟩) ?_;rintro _ _ ⟨rfl,rfl⟩;refine jh (λσ' h'=>σ'= [some (jY T),some (jx S),none,none]/\h=h') (λC hC=>⟨_,rfl,(by show 0<=sizeLine;decide),Lr (b:= []) ne ⟨_,rfl,Ju (hC _ _ ⟨rfl,rfl⟩)⟩⟩) ?_;rintro _ _ ⟨rfl,rfl⟩;have lS:=hS.len;refine Sf S (λ(i:Nat)=> .int (i:Int)) (λi=> .tup (S.map λj=> .int (ent T i j))) (by omega) rfl (λR r=>⟨_,rfl,r⟩) (λi hi Q' q'=> ?_) ⟨h,Sub.refl h,?_⟩
 ·exact Sf S (λ(j:Nat)=> .int (j:Int)) (λj=> .int (ent T i j)) (by omega) rfl (λR r=>⟨_,rfl,r⟩) (λj hj Q'' q''=>⟨_,rfl,_,rfl,_,Wc hT (hS.lt hi),_,rfl,_,Vd (hT.row _ (Sq.getRow hT (hS.lt hi))) (hS.lt hj),q''⟩) q'
 ·have e:jY (jS S T)= .tup (S.map λi=> .tup (S.map λj=> .int (ent T i j))):=by
   unfold jY jS;rw [S6];refine congrArg D.tup (S9 λi _=> ?_);show D.tup _=_;rw [S6];rfl
  rw [e] at q;exact q
theorem LV {r:List Int}(h:r.length=n):NK (r.map D.int)=(List.range n).map λ(j:Nat)=>D.tup [.int (j:Int),.int (r.getD j 0)]:=by
 apply G0i;intro i
 by_cases hi:i<n
 ·have hi':i<(NK (r.map D.int)).length:=by rw [vt,G1,h];exact hi
  obtain⟨x,hx,ed⟩:=Gu (G0 hi');rw [G0 hi',ed];rw [P3,B9 hi];rw [P3,G0 (by omega)] at hx;injection hx with hx
  rw [<-hx];show some (D.tup [D.int (i:Int),D.int r[i]])=some (D.tup [D.int (i:Int),D.int (r.getD i 0)]);rw [P2,G0 (show i<r.length by omega)];rfl
 ·rw [C0 (by rw [vt,G1];omega),C0 (by simp;omega)]
def Vt:RDn:=λds h Q=> ∃T,∃n e p:Nat,ds= [jY T,.int (p:Int)]/\Sq n e T/\n<=6/\p<n/\ ∀F,h F=none->Q (.lst F) (zY h F ((XC T n p).map λ(k:Nat)=>D.int (k:Int)))
theorem Bx (Z:Zs mg)(F:Fun K "heads" "heads" Qm f fd):FnOk P w K mg base CX0 (n+1) f fd ["table","place"] (LSp K Vt):=by
 refine F.okJ GZ (λds h Q q=>by obtain⟨T,n,bb,p,e,hT,n6,hp,q⟩:=q;subst e;rfl) _ (λcdv A outer s H E hr=>(jg (wM (Ho (i:=2) (j:=3) (js:= [2,3]) rfl (jm (by rfl)) (FZ rfl Z.enumerate (jac (jix (jv 0) (jv 1) (λ_ _=>rfl)) jc)) (by decide) (by decide) (by decide) GZ.nd rfl rfl (by first|exact Or.inl rfl|exact Or.inr rfl) (by first|exact Or.inl rfl|exact Or.inr rfl) (λX' hX=>by obtain⟨C,s₀,H₀,ex,rfl⟩:=hX;exact JB (wc oq_ne (jv 3) jK (jz _))) (λX' hX=>by obtain⟨C,s₀,H₀,ex,rfl⟩:=hX;exact(jv 2)))))) ?_;intro ds h Q q;obtain⟨T,n,bb,p,e,hT,n6,hp,q⟩:=q;subst e;refine Ko (j:=λ_=>some (NK ((T.getD p []).map D.int))) (List.range n) (λj=> .int (j:Int)) (λj=> .int ((T.getD p []).getD j 0)) (λj=> .int (j:Int)) (λj=>decide (ent T p j>0)) (by rw [D9];omega) (congrArg some (LV (hT.row _ (Sq.getRow hT hp)))) (λR r=>⟨_,rfl,_,rfl,_,Wc hT hp,_,rfl,r⟩) (λx hx Q' q'=>⟨_,rfl,_,rfl,?_⟩) (λx hx _ Q' q'=>⟨_,rfl,q'⟩) (λF eF=>⟨_,Sub.refl _,q F eF⟩);have hnn:=(hT.ent_nn hp (D1.mp hx)).1;have e4:(!decide (((T.getD p []).getD x 0)=0))=decide (ent T p x>0):=by
  show (!decide (ent T p x=0))=_
  by_cases z:ent T p x=0
  ·rw [z];rfl
  ·rw [D6 z,P0 (by omega)];rfl
 rw [<-e4] at q';exact q'
theorem ifT {c:Bool}{A B:Prop}(e:c=true)(a:A):if c=true then A else B:=by rw [if_pos e];exact a
theorem ifF {c:Bool}{A B:Prop}(e:c=false)(b:B):if c=true then A else B:=by subst e;exact b
def yr:RDn:=λds h Q=> ∃a b:Nat,ds= [.int (a:Int),.int (b:Int)]/\Q (.int ((Nat.gcd a b:Nat):Int)) h
theorem Zq (Z:Zs mg)(F:Fun K "greatest_into" "greatest_into" wu f fd):FnOk P w K mg base CX0 (n+1) f fd ["one","other"] (LSp K yr):=by
 refine F.okJ yt (λds h Q q=>by obtain⟨a,b,e,q⟩:=q;subst e;rfl) _ (λcdv A outer s H E hr=>(je (Gv N3 (wc oq_ne (jv 1) jK (jz _)) (jg (Hn (i:=0) (j:=1) rfl yt.nd rfl rfl (by decide) rfl rfl (jac (jv 1) (by exact(jac (jop yB (jv 0) (jv 1)) jc))) rfl))) (by exact(jg (wM (jv 0)))))) ?_;intro ds h Q q;obtain⟨a,b,e,q⟩:=q;subst e;refine jh (λσ' h'=> ∃d,σ'= [some (.int ((Nat.gcd a b:Nat):Int)),d]/\h=h') (λC hC=> ?_) ?_
 ·refine ZE (λm σ' h'=> ∃x:Nat,σ'= [some (.int (x:Int)),some (.int (m:Int))]/\h=h'/\Nat.gcd x m=Nat.gcd a b) b ⟨a,rfl,rfl,rfl⟩ ?_;rintro m _ _ ⟨x,rfl,rfl,hg⟩;refine⟨_,rfl,_,rfl,?_⟩
  by_cases z:m=0
  ·subst z;rw [Nat.gcd_zero_right] at hg;subst hg;exact ifF (by decide) (hC _ _ ⟨_,rfl,rfl⟩)
  ·refine ifT (congrArg not (D6 (show ¬ (m:Int)=0 by omega))) ⟨_,rfl,_,rfl,_,rfl,(by omega:(0:Int)<(m:Int)),_,_,rfl,x%m,_,K4 _ (by omega),Sub.refl _,m,?_,rfl,?_⟩
   ·rw [W8];rfl
   ·rw [Nat.gcd_comm,<-Nat.gcd_rec,Nat.gcd_comm];exact hg
 rintro _ _ ⟨d,rfl,rfl⟩;exact⟨_,rfl,h,Sub.refl h,q⟩
theorem Mv (w:List Nat):((XC T n (w.getLastD 0)).filter λj=>decide (w.headD 0<j)&& !decide (j∈w)).map (λj=>jx (w++ [j]))=(EF (yw T) n w).map jx:=by
 unfold EF XC;rw [List.filter_filter,S6];have:(λj=>(decide (w.headD 0<j)&& !decide (j∈w))&&decide (ent T (w.getLastD 0) j>0))=Lz (yw T) w:=by
  funext j
  unfold Lz yw;rw [Bool.and_comm]
 rw [this];rfl
theorem GT {t:Nat}:((lev (yw T) n t).flatMap λw=>((XC T n (w.getLastD 0)).filter λj=>decide (w.headD 0<j)&& !decide (j∈w)).map λj=>jx (w++ [j]))=(lev (yw T) n (t+1)).map jx:=by
 show _=((lev (yw T) n t).flatMap (EF (yw T) n)).map jx;rw [List.map_flatMap];exact congrArg (λf=>(lev (yw T) n t).flatMap f) (funext λw=>Mv w)
def ye:RDn:=λds h Q=> ∃T,∃n e:Nat,ds= [jY T]/\Sq n e T/\1<=n/\n<=6/\ ∀A h',h A=none->h' A=some ((jC T n).map jx)->Sub h h'->Q (.lst A) h'
theorem Vu (Z:Zs mg)(F:Fun K "all_rounds" "all_rounds" yH f fd)(jQ:jp P w K mg base n "want_table" ["thing"] zk)(Qy:jp P w K mg base n "heads" ["table","place"] Vt):FnOk P w K mg base CX0 (n+1) f fd ["table"] (LSp K ye):=by
 obtain⟨zU,zP,jR,jD,jE,jF⟩:=jQ;obtain⟨MG,PX,QJ,VG,VO,VS⟩:=Qy;refine F.okJ zm (λds h Q q=>by obtain⟨T,n,b,e,hT,h1,h6,q⟩:=q;subst e;rfl) _ (λcdv A outer s H E hr=>(je (Jy (jB jR hr rfl jF jE jD (jac (jv 0) jc))) (by exact(je (yY (i:=1) zm.nd rfl (Or.inl rfl) (Gt jc)) (by exact(je (Cm (i:=3) (k:=2) (js:= [3]) rfl zm.nd rfl (Or.inl rfl) (jm (by rfl)) (Jz rfl Z.range (jac (jJ zL rfl Z.len T6 (jac (jv 0) jc)) jc)) (by decide) rfl (by first|exact Or.inl rfl|exact Or.inr rfl) (λX' hX=>zc) (λX' hX=>by obtain⟨C,s₀,H₀,ex,rfl⟩:=hX;exact(Eh (jac (jv 3) jc)))) (by exact(je (Gv N3 (Tw (jv 2)) (je (yY (i:=1) zm.nd rfl (Or.inl rfl) (jop wP (jv 1) (jlc (i:=4) (js:= [4]) rfl (jm (by rfl)) (zQ (jv 2)) (by decide) zm.nd rfl (by first|exact Or.inl rfl|exact Or.inr rfl) (λX' hX=>by obtain⟨C,s₀,H₀,ex,rfl⟩:=hX;exact JB (wc oq_ne (jix (jix (jv 0) (jix (jv 4) (Tt jK) (λ_ _=>rfl)) (λ_ _=>rfl)) (jix (jv 4) jK (λ_ _=>rfl)) (λ_ _=>rfl)) jK (jz _))) (λX' hX=>by obtain⟨C,s₀,H₀,ex,rfl⟩:=hX;exact(jv 4))))) (by exact(jg (Ly (i:=4) (i':=5) (k:=2) (js:= [4,5]) rfl zm.nd rfl (Or.inl rfl) (jm (by rfl)) (zQ (jv 2)) (by decide) (by decide) (by decide) rfl rfl (by first|exact Or.inl rfl|exact Or.inr rfl) (by first|exact Or.inl rfl|exact Or.inr rfl) (λX' hX=>zc) (λX' hX=>by obtain⟨C,s₀,H₀,ex,rfl⟩:=hX;exact(zQ (jB QJ hr rfl VS VO VG (jac (jv 0) (by exact(jac (jix (jv 4) (Tt jK) (λ_ _=>rfl)) jc)))))) (λX' hX=>by obtain⟨C,s₀,H₀,ex,rfl⟩:=hX;exact JB (jpt (FT (wc Tj (jv 5) (jix (jv 4) jK (λ_ _=>rfl)) (jz _)) (FS (wc (NT hr.units) (jv 5) (jv 4) (by with_unfolding_all rfl)))))) (λX' hX=>by obtain⟨C,s₀,H₀,ex,rfl⟩:=hX;exact(jop wP (jv 4) (Eh (jac (jv 5) jc))))))))) (by exact(jg (wM (jJ (Yz hr) rfl Z.sorted (by decide +kernel) (jac (jv 1) jc))))))))))))) ?_;intro ds h Q q;obtain⟨T,n,b,e,hT,h1,h6,q⟩:=q;subst e;refine jh (λσ' h'=>σ'= [some (jY T),none,none,none,none,none]/\h=h') (λC hC=>⟨_,rfl,T,n,b,rfl,hT,h1,h6,hC _ _ ⟨rfl,rfl⟩⟩) ?_;rintro _ _ ⟨rfl,rfl⟩;refine jh (λσ' h'=> ∃A,σ'= [some (jY T),some (.lst A),none,none,none,none]/\h' A=some []/\Sub h h') (λC hC=>⟨(by show 0<=sizeLine;decide),λA eA=>hC _ _ ⟨A,rfl,jd,Sub.newAt (Sub.refl h) eA⟩⟩) ?_;rintro _ h2 ⟨A,rfl,kA,sA⟩;refine jh (λσ' h'=> ∃B c,σ'= [some (jY T),some (.lst A),some (.lst B),c,none,none]/\h' A=some ((Wp (yw T) n 0).map jx)/\h' B=some ((lev (yw T) n 0).map jx)/\Sub h h') (λC hC=> ?_) ?_
 ·refine lcA (List.range n) (λj=> .int (j:Int)) (λi=>jx [i]) (by rw [D9];omega) rfl (λR r=>⟨_,rfl,(n:Int),by rw [G1,hT.len],by omega,by omega,r⟩) (λj hj Q' q'=>⟨_,rfl,(by show 1<=sizeLine;decide),q'⟩) (λB eB=>hC _ _ ⟨B,_,rfl,ju kA eB,?_,Sub.newAt sA eB⟩);rw [jd];show _=some (((List.range n).map λi=> [i]).map jx);rw [S6];rfl
 rintro _ h3 ⟨B,c,rfl,kA,kB,sb⟩;refine jh (λσ' h'=> ∃A B c,σ'= [some (jY T),some (.lst A),some (.lst B),c,none,none]/\h' A=some ((Wp (yw T) n n).map jx)/\Sub h h') (λC hC=> ?_) ?_
 ·refine ZE (λm σ' h'=> ∃ (t:Nat) (A B:Addr) (c:Option D),σ'= [some (jY T),some (.lst A),some (.lst B),c,none,none]/\m=n-t/\t<=n/\h' A=some ((Wp (yw T) n t).map jx)/\h' B=some ((lev (yw T) n t).map jx)/\Sub h h') n ⟨0,A,B,c,rfl,rfl,T3 _,kA,kB,sb⟩ ?_;clear kA kB sb;rintro m _ h4 ⟨t,A,B,c,rfl,rfl,tn,kA,kB,sb⟩;refine⟨_,rfl,!((lev (yw T) n t).map jx).isEmpty,⟨_,kB,rfl⟩,?_⟩
  by_cases z:(lev (yw T) n t)= []
  ·rw [z];refine Ju (hC _ _ ⟨A,B,c,rfl,?_,sb⟩);have:=(UE (n-t) z).1;rw [show t+(n-t)=n by omega] at this;rw [this];exact kA
  ·have tl:t<n:=by
    rcases O4 t n with w|w
    ·exact w
    ·have:t=n:=by omega
     subst this;exact absurd (LD h6) z
   have ll:=RX (g:=yw T) h6 (show t<=6 by omega);have rl:=Vk (g:=yw T) h6 (show t<=6 by omega);have l2:=RX (g:=yw T) h6 (show t+1<=6 by omega);rw [show (!((lev (yw T) n t).map jx).isEmpty)=true from by cases e:(lev (yw T) n t) with|nil=>exact absurd e z|cons _ _=>rfl];refine Yj ?_;refine jh (λσ' h'=> ∃A,σ'= [some (jY T),some (.lst A),some (.lst B),c,none,none]/\h' A=some ((Wp (yw T) n (t+1)).map jx)/\h' B=some ((lev (yw T) n t).map jx)/\Sub h h') (λC hC=>⟨_,rfl,?_⟩) ?_
   ·refine lcF (j:=λh=>h B) (lev (yw T) n t) jx jx (λw=>yw T (w.getLastD 0) (w.headD 0)) (by omega) kB (λR r=>⟨_,rfl,r⟩) (λw hw Q' q'=> ?_) (λw hw _ Q' q'=>⟨_,rfl,q'⟩) (λF eF=>⟨_,_,ju kA eF,jd,?_,λp e=>hC _ _ ⟨p,rfl,?_,ju (ju kB eF) e,(((sb).newAt eF).newAt e)⟩⟩)
    ·have o:=ve hw;have he:=o.lt _ (RY o.len);have hh:=o.lt _ (Bl o.len);refine⟨_,rfl,_,rfl,_,Ct o.len,_,Wc hT he,_,rfl,_,GK o.len,_,Vd (hT.row _ (Sq.getRow hT he)) hh,?_⟩;have nn:=(hT.ent_nn he hh).1;have:(!decide (ent T (w.getLastD 0) (w.headD 0)=0))=yw T (w.getLastD 0) (w.headD 0):=by
      unfold yw;rw [N5,M1,Bool.not_eq_true',G0o];omega
     rw [<-this] at q';exact⟨_,rfl,q'⟩
    ·have:=B0 (λw=>yw T (w.getLastD 0) (w.headD 0)) (lev (yw T) n t);rw [G1,G1];exact D8 (jA (by omega))
    ·rw [jd];show _=some (((Wp (yw T) n t)++(lev (yw T) n t).filter λw=>yw T (w.getLastD 0) (w.headD 0)).map jx);rw [T7]
   clear kA kB sb;rintro _ h5 ⟨A,rfl,kA,kB,sb⟩;refine Cu (j:=λh=>h B) (lev (yw T) n t) jx (λw=>XC T n (w.getLastD 0)) (λ(j:Nat)=> .int (j:Int)) (λw j=>decide (w.headD 0<j)&& !decide (j∈w)) (λw j=>jx (w++ [j])) ?_ (λh' s=>s _ _ kB) (λR r=>⟨_,rfl,r⟩) (λw hw h' s R r=> ?_) (λw hw j hj h' s Q' q'=> ?_) (λw hw j hj _ h' s Q' q'=> ?_) (λa h' s ea=> ?_)
   ·rw [GT,G1];exact D8 (jA (by omega))
   ·have o:=ve hw;exact⟨_,rfl,_,rfl,_,Ct o.len,T,n,b,w.getLastD 0,rfl,hT,h6,o.lt _ (RY o.len),λF eF=>r _ _ (Sub.newAt (Sub.refl _) eF) λh3 s3=>s3 _ _ jd⟩
   ·have o:=ve hw;refine⟨_,rfl,_,rfl,_,GK o.len,?_⟩;show ∃k,D.bl (decide (((w.headD 0:Nat):Int)<(j:Int)))=D.bl k/\_;rw [show decide (((w.headD 0:Nat):Int)<(j:Int))=decide (w.headD 0<j) from by rw [N5,M1,M1];omega];refine⟨_,rfl,?_⟩
    by_cases c:w.headD 0<j
    ·rw [P0 c] at q' ⊢;exact Yj ⟨_,rfl,_,rfl,Lu ⟨_,rfl,q'⟩⟩
    ·rw [D6 c] at q' ⊢;exact Ju q'
   ·have o:=ve hw;have e:jx (w++ [j])= .tup ((w.map λ(k:Nat)=>D.int (k:Int))++ [.int (j:Int)]):=by unfold jx;rw [List.map_append];rfl
    rw [e] at q';refine⟨_,rfl,_,rfl,(by show 1<=sizeLine;decide),?_,q'⟩;rw [G1,o.len];exact D8 (jA (by simp only [D3,S8];omega))
   ·rw [GT];exact⟨n-(t+1),_,by omega,Sub.refl _,t+1,A,a,_,rfl,rfl,by omega,ju (s _ _ kA) ea,jd,(((sb).trans s).newAt ea)⟩
 clear kA kB sb;rintro _ h4 ⟨A,B,c,rfl,kA,sb⟩;refine⟨_,rfl,A,(Wp (yw T) n n).map toI,rfl,?_,?_,λp mss hp pm sr=>⟨_,Sub.refl _,q p _ (Vi sb hp) (by rw [jd,UC pm sr];rfl) (Sub.newAt sb hp)⟩⟩
 ·rw [kA,S6];exact congrArg some (S9 λS _=>(RS S).symm)
 ·rw [G1];have:=Vk (g:=yw T) h6 h6;exact jA (by omega)
/-- the greatest number that goes into the lengths of all jC -/
def we (T:List (List Int))(n:Nat):Nat:=((jC T n).map List.length).foldl Nat.gcd 0
def Qq:RDn:=λds h Q=> ∃T,∃n e:Nat,ds= [jY T]/\Sq n e T/\1<=n/\n<=6/\(ya T n).length=1/\Q (.int ((we T n:Nat):Int)) h
theorem LW (Z:Zs mg)(F:Fun K "beat" "beat" Mo f fd)(Vy:jp P w K mg base n "joined" ["table"] Ww)(yO:jp P w K mg base n "all_rounds" ["table"] ye)(WA:jp P w K mg base n "greatest_into" ["one","other"] yr):FnOk P w K mg base CX0 (n+1) f fd ["table"] (LSp K Qq):=by
 obtain⟨PU,Gb,VB,WD,WJ,WM⟩:=Vy;obtain⟨Yc,WG,wB,wf,wg,wj⟩:=yO;obtain⟨PR,GY,WB,Zu,Zw,Zx⟩:=WA;refine F.okJ VU (λds h Q q=>by obtain⟨T,n,b,e,hT,h1,h6,one,q⟩:=q;subst e;rfl) _ (λcdv A outer s H E hr=>(je (ZD (Jx (yC (jB VB hr rfl WM WJ WD (jac (jv 0) jc)))) (jg Ys) ze) (by exact(je (yY (i:=1) VU.nd rfl (Or.inl rfl) jK) (by exact(je (MS N3 rfl (zQ (jB wB hr rfl wj wg wf (jac (jv 0) jc))) (wG (i:=2) VU.nd rfl (Or.inl rfl)) (jg (yY (i:=1) VU.nd rfl (Or.inl rfl) (jB WB hr rfl Zx Zw Zu (jac (jv 1) (by exact(jac (jJ zL rfl Z.len T6 (jac (jv 2) jc)) jc))))))) (by exact(jg (wM (jv 1)))))))))) ?_;intro ds h Q q;obtain⟨T,n,b,e,hT,h1,h6,one,q⟩:=q;subst e;refine jh (λσ' h'=>σ'= [some (jY T),none,none]/\h=h') (λC hC=>⟨_,rfl,T,n,b,rfl,hT,h1,h6,_,rfl,?_⟩) ?_
 ·rw [P0 one];exact Ju (hC _ _ ⟨rfl,rfl⟩)
 rintro _ _ ⟨rfl,rfl⟩;refine jh (λσ' h'=>σ'= [some (jY T),some (.int 0),none]/\h=h') (λC hC=>hC _ _ ⟨rfl,rfl⟩) ?_;rintro _ _ ⟨rfl,rfl⟩;refine jh (λσ' h'=> ∃v,σ'= [some (jY T),some (.int ((we T n:Nat):Int)),v]/\Sub h h') (λC hC=>⟨_,rfl,T,n,b,rfl,hT,h1,h6,λA h2 nA kA sb=> ?_⟩) (λ_ h' ⟨v,e,sb⟩=>by subst e;exact⟨_,rfl,_,sb,q⟩);refine ZY (j:=λh=>h A) ((jC T n).map jx) (λi σ' h'=> ∃v,σ'= [some (jY T),some (.int (((((jC T n).take i).map List.length).foldl Nat.gcd 0:Nat):Int)),v]/\h2=h') (λi σ' h' ⟨_,_,z⟩=>by rw [<-z];exact kA) ⟨_,rfl,rfl⟩ (λσ' h' ⟨v,e,z⟩=>hC _ _ ⟨v,by rw [e,G1,E9];rfl,by rw [<-z];exact sb⟩) ?_;rintro i d _ _ hi ⟨v,rfl,rfl⟩;rw [P3] at hi;obtain⟨W,hW,rfl⟩:=M7.mp hi;have hil:=(G7.mp hW).1;refine⟨_,rfl,_,rfl,_,_,rfl,_,Sub.refl _,by rw [G1];omega,some (jx W),?_,rfl⟩;rw [M0,hW,T7,List.foldl_append,G1];rfl
def yf:RDn:=λds h Q=> ∃T S,∃n e:Nat,ds= [jY T,jx S]/\Sq n e T/\IsS n S/\n<=6/\Q (jx (jL n T S)) h
theorem Vv (Z:Zs mg)(F:Fun K "step_after" "step_after" yI f fd):FnOk P w K mg base CX0 (n+1) f fd ["table","some"] (LSp K yf):=by
 refine F.okJ ym (λds h Q q=>by obtain⟨T,S,k,b,e,hT,hS,h6,q⟩:=q;subst e;rfl) _ (λcdv A outer s H E hr=>(jg (wM (wH wQ rfl Z.tuple (by decide +kernel) (jac (jlc (i:=2) (js:= [2]) rfl (jm (by rfl)) (Jz rfl Z.range (jac (jJ zL rfl Z.len T6 (jac (jv 0) jc)) jc)) (by decide) ym.nd rfl (by first|exact Or.inl rfl|exact Or.inr rfl) (λX' hX=>by obtain⟨C,s₀,H₀,ex,rfl⟩:=hX;exact JB (yC (jJ (AT rfl) rfl Z.any (by decide +kernel) (jac (jlc (i:=3) (js:= [3]) rfl (jm (by rfl)) (zQ (jv 1)) (by decide) ym.nd rfl (by first|exact Or.inl rfl|exact Or.inr rfl) (λX' hX=>zc) (λX' hX=>by obtain⟨C,s₀,H₀,ex,rfl⟩:=hX;exact(XA oq_ne (jix (jix (jv 0) (jv 3) (λ_ _=>rfl)) (jv 2) (λ_ _=>rfl)) jK (jz _)))) jc)))) (λX' hX=>by obtain⟨C,s₀,H₀,ex,rfl⟩:=hX;exact(jv 2))) jc))))) ?_;intro ds h Q q;obtain⟨T,S,k,b,e,hT,hS,h6,q⟩:=q;subst e;have hlen:=hS.len;refine Tu (List.range k) (λj=> .int (j:Int)) (λj=> .int (j:Int)) (λj=>S.any λi=>decide (ent T i j≠0)) (by rw [D9];omega) rfl (λR r=>⟨_,rfl,(k:Int),by rw [G1,hT.len],by omega,by omega,r⟩) (λj hj Q' q'=> ?_) (λj hj hp Q' q'=>⟨_,rfl,q'⟩) ⟨h,Sub.refl h,q⟩;refine Kk S (λi=> .int (i:Int)) (λi=>decide (ent T i j≠0)) (by omega) rfl (λR r=>⟨_,rfl,r⟩) (λi hi Q'' q''=> ?_) ⟨_,rfl,q'⟩;have hi':=hS.lt hi;refine⟨_,rfl,_,rfl,_,Wc hT hi',_,rfl,_,Vd (hT.row _ (Sq.getRow hT hi')) (D1.mp hj),?_⟩;have e:(!decide (((T.getD i []).getD j 0)=0))=decide (ent T i j≠0):=by simp [ent]
 rw [<-e] at q'';exact q''
def Zf:RDn:=λds h Q=> ∃T S,∃n e k:Nat,ds= [jY T,jx S,.int (k:Int)]/\Sq n e T/\1<=n/\n<=6/\IsS n S/\k<=1000000000/\Q (jx (itF (jL n T) S k)) h
theorem UP (Z:Zs mg)(F:Fun K "set_after" "set_after" vA f fd)(jQ:jp P w K mg base n "want_table" ["thing"] zk)(JU:jp P w K mg base n "want_set" ["table","thing"] vH)(VA:jp P w K mg base n "want_number" ["thing","least","most"] vg)(yP:jp P w K mg base n "step_after" ["table","some"] yf)(yR: ∃tk,mg "MOST_STEPS" =some (.int 1000000000 tk)):FnOk P w K mg base CX0 (n+1) f fd ["table","some","k"] (LSp K Zf):=by
 obtain⟨zU,zP,jR,jD,jE,jF⟩:=jQ;obtain⟨Xm,VL,JX,vM,vQ,vT⟩:=JU;obtain⟨MJ,Dg,VD,Ya,Ye,Yf⟩:=VA;obtain⟨Yd,WH,yQ,yg,yk,yl⟩:=yP;obtain⟨tk_MOST_STEPS,m_MOST_STEPS⟩:=yR;refine F.okJ wD (λds h Q q=>by obtain⟨T,S,n,bb,k,e,hT,h1,h6,hS,hk,q⟩:=q;subst e;rfl) _ (λcdv A outer s H E hr=>(je (Jy (jB jR hr rfl jF jE jD (jac (jv 0) jc))) (by exact(je (Jy (jB JX hr rfl vT vQ vM (jac (jv 0) (by exact(jac (jv 1) jc))))) (by exact(je (Jy (jB VD hr rfl Yf Ye Ya (jac (jv 2) (by exact(jac jK (by exact(jac (FQ rfl m_MOST_STEPS) jc))))))) (by exact(je (yY (i:=3) wD.nd rfl (Or.inl rfl) (Gt (jac (jv 1) jc))) (by exact(je (Gv N3 (wc DW (jJ zL rfl Z.len T6 (jac (jv 3) jc)) (jv 2) (jz _)) (je (yY (i:=4) wD.nd rfl (Or.inl rfl) (jB yQ hr rfl yl yk yg (jac (jv 0) (by exact(jac (jix (jv 3) (Tt jK) (λ_ _=>rfl)) jc))))) (by exact(je (ZD (wc (En hr.units) (jv 4) (jv 3) (by with_unfolding_all rfl)) (je (yY (i:=5) wD.nd rfl (Or.inl rfl) (Km hr.units (jv 3) (jv 4))) (by exact(jg (wM (jix (jv 3) (jop wP (jv 5) (jop yB (jop Yq (jv 2) (jv 5)) (jop Yq (jJ zL rfl Z.len T6 (jac (jv 3) jc)) (jv 5)))) (λ_ _=>rfl)))))) ze) (by exact(jg (Jy (Se (jv 3) (jv 4))))))))) (by exact(jg (wM (jix (jv 3) (jv 2) (λ_ _=>rfl))))))))))))))) ?_;intro ds h Q q;obtain⟨T,S,n,bb,k,e,hT,h1,h6,hS,hk,q⟩:=q;subst e;refine jh (λσ' h'=>σ'= [some (jY T),some (jx S),some (.int (k:Int)),none,none,none]/\h=h') (λC hC=>⟨_,rfl,T,n,bb,rfl,hT,h1,h6,hC _ _ ⟨rfl,rfl⟩⟩) ?_;rintro _ _ ⟨rfl,rfl⟩;refine jh (λσ' h'=>σ'= [some (jY T),some (jx S),some (.int (k:Int)),none,none,none]/\h=h') (λC hC=>⟨_,rfl,_,rfl,T,S,n,rfl,hT.len,hS,h6,hC _ _ ⟨rfl,rfl⟩⟩) ?_;rintro _ _ ⟨rfl,rfl⟩;refine jh (λσ' h'=>σ'= [some (jY T),some (jx S),some (.int (k:Int)),none,none,none]/\h=h') (λC hC=>⟨_,rfl,(k:Int),0,1000000000,rfl,by omega,by omega,hC _ _ ⟨rfl,rfl⟩⟩) ?_;rintro _ _ ⟨rfl,rfl⟩;have itS: ∀j,IsS n (itF (jL n T) S j):=λj=>hS.it j
 refine jh (λσ' h'=> ∃A,σ'= [some (jY T),some (jx S),some (.int (k:Int)),some (.lst A),none,none]/\h A=none/\h' A=some ((List.range 1).map λj=>jx (itF (jL n T) S j))/\Sub h h') (λC hC=> ?_) ?_
 ·exact⟨_,rfl,(by show 1<=sizeLine;decide),λA eA=>hC _ _ ⟨A,rfl,eA,jd,Sub.newAt (Sub.refl h) eA⟩⟩
 rintro _ h1' ⟨A,rfl,fA,kA,sbA⟩;refine jh (λσ' h'=> ∃a b,σ'= [some (jY T),some (jx S),some (.int (k:Int)),some (.lst A),a,b]/\h' A=some ((List.range (k+1)).map λj=>jx (itF (jL n T) S j))/\Sub h h') (λC hC=> ?_) ?_
 ·refine ZE (λm σ' h'=> ∃L a b,σ'= [some (jY T),some (jx S),some (.int (k:Int)),some (.lst A),a,b]/\h' A=some ((List.range L).map λj=>jx (itF (jL n T) S j))/\Sub h h'/\1<=L/\L<=k+1/\m=k+1-L/\((List.range L).map (itF (jL n T) S)).Nodup) k ⟨1,none,none,rfl,kA,sbA,by decide,by omega,by omega,by simp⟩ ?_;rintro m _ h2 ⟨L,a,b,rfl,kA2,sb2,hL1,hLk,hm,nd⟩;have hL64:L<=64:=by
   have:=NV h6 nd λX hX=>by obtain⟨j,_,rfl⟩:=P9.mp hX;exact itS j
   simpa using this
  refine⟨_,rfl,_,kA2,_,rfl,_,rfl,VW (λc=> ?_) (λc=> ?_)⟩
  rotate_left
  ·have c': ¬ (((List.range L).map λj=>jx (itF (jL n T) S j)).length:Int)<=(k:Int):=λz=>c (P0 z)
   rw [G1,D9] at c';have eL:L=k+1:=by omega
   subst eL;exact hC _ _ ⟨a,b,rfl,kA2,sb2⟩
  have c':(((List.range L).map λj=>jx (itF (jL n T) S j)).length:Int)<=(k:Int):=R8 c;rw [G1,D9] at c';have hLk2:L<=k:=by omega
  have eqL:jL n T (itF (jL n T) S (L-1))=itF (jL n T) S L:=by
   obtain⟨L',rfl⟩: ∃L',L=L'+1:=⟨L-1,by omega⟩;rfl
  refine jh (λσ' h'=>σ'= [some (jY T),some (jx S),some (.int (k:Int)),some (.lst A),some (jx (itF (jL n T) S L)),b]/\h2=h') (λC2 hC2=> ?_) ?_
  ·refine⟨_,rfl,_,rfl,_,_,kA2,RC hL1,T,_,n,bb,rfl,hT,itS _,h6,hC2 _ _ ⟨?_,rfl⟩⟩;rw [eqL];rfl
  rintro _ _ ⟨rfl,rfl⟩;have kA3:h2 A=some (((List.range L).map (itF (jL n T) S)).map jx):=by rw [kA2,S6];rfl
  refine jh (λσ' h'=>σ'= [some (jY T),some (jx S),some (.int (k:Int)),some (.lst A),some (jx (itF (jL n T) S L)),b]/\h2=h'/\itF (jL n T) S L ∉ (List.range L).map (itF (jL n T) S)) (λC2 hC2=> ?_) ?_
  ·refine⟨_,rfl,_,rfl,Lf kA3 ⟨_,rfl,VW (λc=> ?_) (λc=>hC2 _ _ ⟨rfl,rfl,λz=>c (by rw [P0 z];rfl)⟩)⟩⟩;have hin:itF (jL n T) S L∈(List.range L).map (itF (jL n T) S):=by
    cases z:decide (itF (jL n T) S L∈(List.range L).map (itF (jL n T) S)) with
    |true=>exact R8 z
    |false=>rw [z] at c;exact absurd c (by decide)
   have hjl:=Q9.mpr hin;have hat:=Z8 hjl;generalize hJ:((List.range L).map (itF (jL n T) S)).idxOf (itF (jL n T) S L)=J at hjl hat;have hJL:J<L:=by simpa using hjl
   have hJe:itF (jL n T) S L=itF (jL n T) S J:=by
    rw [<-hat];simp
   refine jh (λσ' h'=>σ'= [some (jY T),some (jx S),some (.int (k:Int)),some (.lst A),some (jx (itF (jL n T) S L)),some (.int (J:Int))]/\h2=h') (λC3 hC3=> ?_) ?_
   ·refine⟨_,rfl,A,rfl,_,rfl,?_⟩;obtain⟨pd,ps,jj,zz,t1,t2,c1,c2,c3,c4,c5,c6,c7,ej⟩:=Lg (Q:=λd _=>d= .int (J:Int)) kA3 hin (by simp;omega) (by rw [hJ]);have ejj:jj=J:=by injection ej with ej;omega
    subst ejj;exact⟨pd,ps,jj,zz,t1,t2,c1,c2,c3,c4,c5,c6,c7,hC3 _ _ ⟨rfl,rfl⟩⟩
   rintro _ _ ⟨rfl,rfl⟩;have hpos:(0:Int)<(((List.range L).map λj=>jx (itF (jL n T) S j)).length:Int)-(J:Int):=by
    rw [G1,D9];omega
   have hix:(J:Int)+((k:Int)-(J:Int))%((((List.range L).map λj=>jx (itF (jL n T) S j)).length:Int)-(J:Int))=((J+(k-J)%(L-J):Nat):Int):=by
    rw [G1,D9,Int.natCast_add,W8,Int.natCast_sub (by omega),Int.natCast_sub (by omega)]
   have hlt:J+(k-J)%(L-J)<L:=by
    have:=K4 (k-J) (show 0<L-J by omega);omega
   refine⟨_,rfl,_,rfl,_,rfl,_,rfl,_,rfl,_,kA2,_,rfl,hpos,_,jx (itF (jL n T) S (J+(k-J)%(L-J))),kA2,?_,h,sb2,?_⟩
   ·rw [hix];exact XX hlt
   ·rw [Ld hJe hJL (by omega)];exact q
  rintro _ _ ⟨rfl,rfl,hni⟩;refine⟨_,rfl,A,rfl,_,rfl,_,kA2,?_,k+1-(L+1),_,by omega,Sub.refl _,L+1,_,_,rfl,?_,?_,by omega,by omega,rfl,?_⟩
  ·rw [G1,D9];exact jA (by omega)
  ·rw [jd,L0,T7];rfl
  ·exact(sb2).over fA
  ·rw [L0,T7,E4];exact⟨nd,by simp,λx hx y hy=>by rw [G5.mp (show y∈ [itF (jL n T) S L] from hy)];intro e;exact hni (e ▸ hx)⟩
 rintro _ h3 ⟨a,b,rfl,kA3,sb3⟩;exact⟨_,rfl,_,rfl,_,_,kA3,XX (by omega),h,sb3,q⟩
def yM (d:D)(n k:Int):Bool:=match d with
 | .tup es=>decide ((es.length:Int)=n)&&es.all (λx=>zd x 0 (k-1))
 |_=>false
def Zg:RDn:=λds h Q=> ∃d,∃n k:Int,ds= [d,.int n,.int k]/\okD d=true/\Q (.bl (yM d n k)) h
theorem UQ (Z:Zs mg)(F:Fun K "are_rests" "are_rests" vB f fd)(zF:jp P w K mg base n "is_within" ["thing","least","most"] zW):FnOk P w K mg base CX0 (n+1) f fd ["thing","size","d"] (LSp K Zg):=by
 obtain⟨yj,wL,zG,zf,zg,zh⟩:=zF;refine F.okJ Zm (λds h Q q=>by obtain⟨d,n,k,e,ok,q⟩:=q;subst e;rfl) _ (λcdv A outer s H E hr=>(je (ZD (jpt (Oj (Jx (yC (XR (T:= "tuple") (by decide) rfl Z.isinstance rfl Z.tuple (by decide +kernel) (jv 0)))) (Oi (wc oq_ne (jJ zL rfl Z.len T6 (jac (jv 0) jc)) (jv 1) (jz _))))) (jg (wM jbl)) ze) (by exact(jg (wM (jJ (Yr rfl) rfl Z.all L5 (jac (jlc (i:=3) (js:= [3]) rfl (jm (by rfl)) (zQ (jv 0)) (by decide) Zm.nd rfl (by first|exact Or.inl rfl|exact Or.inr rfl) (λX' hX=>zc) (λX' hX=>by obtain⟨C,s₀,H₀,ex,rfl⟩:=hX;exact(jB zG hr rfl zh zg zf (jac (jv 3) (by exact(jac jK (by exact(jac (jop Yq (jv 2) jK) jc)))))))) jc))))))) ?_;intro ds h Q q;obtain⟨d,n,k,e,ok,q⟩:=q;subst e;obtain⟨nm,hn⟩:=yc ok;cases d with
 |tup es=>
  obtain⟨hl,ht⟩:=Ws ok;refine jh (λσ' h'=>(es.length:Int)=n/\σ'= [some (.tup es),some (.int n),some (.int k),none]/\h=h') (λC hC=>⟨_,rfl,_,rfl,_,rfl,Ju ⟨_,rfl,_,rfl,?_⟩⟩) ?_
  ·show ∃b,D.bl (!decide ((es.length:Int)=n))= .bl b/\_
   by_cases z:(es.length:Int)=n
   ·rw [P0 z];exact⟨_,rfl,Ju (hC _ _ ⟨z,rfl,rfl⟩)⟩
   ·have e:yM (.tup es) n k=false:=by show (decide _&&_)=false;rw [D6 z];rfl
    rw [e] at q;rw [D6 z];exact⟨_,rfl,Yj ⟨h,Sub.refl h,q⟩⟩
  rintro _ _ ⟨z,rfl,rfl⟩;have e:yM (.tup es) n k=es.all (λx=>zd x 0 (k-1)):=by show (decide _&&_)=_;rw [P0 z];rfl
  rw [e] at q;exact Hq es (λx=>x) (λx=>zd x 0 (k-1)) hl (by rw [List.map_id']) (λR r=>⟨_,rfl,r⟩) (λx hx Q' q'=>⟨_,rfl,_,rfl,x,0,k-1,rfl,ht x hx,q'⟩) ⟨h,Sub.refl h,q⟩
 |_=>cases hn<;>exact jh (λ_ _=>False) (λC hC=>⟨_,rfl,_,rfl,_,rfl,Yj (Yj ⟨h,Sub.refl h,q⟩)⟩) (λ_ _ z=>z.elim)
variable {b:D->SD->SD->Prop}{js:List Nat}{ti:TID}{tt:TTD}{te:TED}{σ:SD}{h:HD}
theorem By {ti':TID}{tt':TTD}{i':Nat}{E:EndsD}(x:FF b js ti tt i' ti' tt' te σ h λv h1=>FM [v] h1 λd h2=>E.rt d h2):DR (dCB FM (yu (FF b js ti tt i' ti' tt' te) Uj)) E σ h:=x
theorem GU {α:Type}{f:Nat->List α}: ∀ {xs:List Nat},(∀x∈xs,(f x).length<=6)->(xs.flatMap f).length<=6*xs.length
 | [],_=>T3 _
 |x::xs,h=>by
  have a:=h x P8;have b:=GU (xs:=xs) λy hy=>h y (R0 _ hy)
  rw [E3,G3,D3];omega
def wz (d:D)(j:Nat):Int:=match d with
 | .tup es=>(match es.getD j .non with| .int x=>x|_=>0)
 |_=>0
def EM (T:List (List Int))(n:Nat)(x:D)(k:Int):Bool:=(List.range n).all λp=>(XC T n p).all λj=>decide (wz x j=(wz x p+1)%k)
/-- turns of a table,whatever both are -/
def UR (T:List (List Int))(n:Nat)(d x:D):Bool:=match d with
 | .int k=>zd (.int k) 1 6&&(yM x n k&&EM T n x k)
 |_=>false
theorem Bz {es:List D}{n k:Int}(h:yM (.tup es) n k=true):(es.length:Int)=n/\ ∀j:Nat,j<es.length-> ∃r:Int,atI es (j:Int)=some (.int r)/\wz (.tup es) j=r/\0<=r/\r<=k-1:=by
 have h':(decide ((es.length:Int)=n)&&es.all (λx=>zd x 0 (k-1)))=true:=h;rw [T1,M1,S5] at h';refine⟨h'.1,λj hj=> ?_⟩;have w:=h'.2 es[j] (D4 hj);cases e:es[j] with
 |int r=>
  rw [e] at w;have w':(decide ((0:Int)<=r)&&decide (r<=k-1))=true:=w;rw [T1,M1,M1] at w';refine⟨r,wE (by rw [G0 hj,e]),?_,w'.1,w'.2⟩;unfold wz;dsimp only;rw [P2,G0 hj,e];rfl
 |_=>rw [e] at w;cases w
theorem Mw {α β:Type}{f g:α->List β}: ∀ {xs:List α},(∀x∈xs,f x=g x)->xs.flatMap f=xs.flatMap g
 | [],_=>rfl
 |x::xs,h=>by rw [E3,E3,h x P8,Mw λy hy=>h y (R0 _ hy)]
def Zh:RDn:=λds h Q=> ∃T d x,∃n e:Nat,ds= [jY T,d,x]/\Sq n e T/\1<=n/\n<=6/\okD d=true/\okD x=true/\Q (.bl (UR T n d x)) h
theorem US (Z:Zs mg)(F:Fun K "are_turns" "are_turns" vC f fd)(Qw:jp P w K mg base n "are_rests" ["thing","size","d"] Zg)(zF:jp P w K mg base n "is_within" ["thing","least","most"] zW)(Qy:jp P w K mg base n "heads" ["table","place"] Vt)(yS: ∃tk,mg "MOST_TURNS" =some (.int 6 tk)):FnOk P w K mg base CX0 (n+1) f fd ["table","d","rests"] (LSp K Zh):=by
 obtain⟨BL,MY,QF,Xe,Xq,Xw⟩:=Qw;obtain⟨yj,wL,zG,zf,zg,zh⟩:=zF;obtain⟨MG,PX,QJ,VG,VO,VS⟩:=Qy;obtain⟨tk_MOST_TURNS,m_MOST_TURNS⟩:=yS;refine F.okJ Zn (λds h Q q=>by obtain⟨T,d,x,n,b,e,hT,h1,h6,okd,okx,q⟩:=q;subst e;rfl) _ (λcdv A outer s H E hr=>(je (ZD (jpt (Oj (Jx (yC (jB zG hr rfl zh zg zf (jac (jv 1) (by exact(jac jK (by exact(jac (FQ rfl m_MOST_TURNS) jc)))))))) (Oi (Jx (yC (jB QF hr rfl Xw Xq Xe (jac (jv 2) (by exact(jac (jJ zL rfl Z.len T6 (jac (jv 0) jc)) (by exact(jac (jv 1) jc))))))))))) (jg (wM jbl)) ze) (by exact(jg (wM (jJ (Yr rfl) rfl Z.all L5 (jac (Kj (i:=3) (i':=4) (js:= [3,4]) rfl (jm (by rfl)) (Jz rfl Z.range (jac (jJ zL rfl Z.len T6 (jac (jv 0) jc)) jc)) (by decide) (by decide) (by decide) Zn.nd rfl rfl (by first|exact Or.inl rfl|exact Or.inr rfl) (by first|exact Or.inl rfl|exact Or.inr rfl) (λX' hX=>zc) (λX' hX=>by obtain⟨C,s₀,H₀,ex,rfl⟩:=hX;exact(zQ (jB QJ hr rfl VS VO VG (jac (jv 0) (by exact(jac (jv 3) jc)))))) (λX' hX=>zc) (λX' hX=>by obtain⟨C,s₀,H₀,ex,rfl⟩:=hX;exact(XA oq_eq (jix (jv 2) (jv 4) (λ_ _=>rfl)) (jop yB (jop wP (jix (jv 2) (jv 3) (λ_ _=>rfl)) jK) (jv 1)) (jz _)))) jc))))))) ?_;intro ds h Q q;obtain⟨T,d,x,n,b,e,hT,h1,h6,okd,okx,q⟩:=q;subst e;have hlen:(((T.map Up).length:Nat):Int)=(n:Int):=by rw [G1,hT.len]
 refine jh (λσ' h'=> ∃k es,d= .int k/\x= .tup es/\zd (.int k) 1 6=true/\yM (.tup es) n k=true/\σ'= [some (jY T),some (.int k),some (.tup es),none,none]/\h=h') (λC hC=>⟨_,rfl,d,1,6,rfl,okd,_,rfl,?_⟩) ?_
 ·cases hw:zd d 1 6 with
  |false=>
   have e:UR T n d x=false:=by
    cases d with
    |int k=>show (zd (.int k) 1 6&&_)=false;rw [hw];rfl
    |_=>rfl
   rw [e] at q;exact Yj (Yj ⟨h,Sub.refl h,q⟩)
  |true=>
   cases d with
   |int k=>
    refine Ju ⟨_,rfl,_,rfl,_,rfl,x,_,k,rfl,okx,_,rfl,?_⟩;rw [hlen];cases hr:yM x n k with
    |false=>
     have e:UR T n (.int k) x=false:=by show (_&&(yM x n k&&_))=false;rw [hr,G0N,Bool.and_false]
     rw [e] at q;exact Yj ⟨h,Sub.refl h,q⟩
    |true=>
     cases x with
     |tup es=>exact Ju (hC _ _ ⟨k,es,rfl,rfl,hw,hr,rfl,rfl⟩)
     |_=>cases hr
   |_=>cases hw
 rintro _ _ ⟨k,es,rfl,rfl,hw,hr,rfl,rfl⟩;have e:UR T n (.int k) (.tup es)=EM T n (.tup es) k:=by show (_&&(yM _ n k&&_))=_;rw [hw,hr];rfl
 rw [e] at q;obtain⟨el,at_⟩:=Bz hr;have kp:0<k:=by
  have w':(decide ((1:Int)<=k)&&decide (k<=6))=true:=hw;rw [T1,M1] at w';omega
 refine By (Cu (List.range n) (λ(i:Nat)=> .int (i:Int)) (λp=>XC T n p) (λ(j:Nat)=> .int (j:Int)) (λ_ _=>true) (λp j=> .bl (decide (wz (.tup es) j=(wz (.tup es) p+1)%k))) ?_ (λh' _=>rfl) (λR r=>⟨_,rfl,(n:Int),by rw [G1,hT.len],by omega,by omega,r⟩) (λp hp h' s R r=>⟨_,rfl,_,rfl,T,n,b,p,rfl,hT,h6,D1.mp hp,λF eF=>r (λh=>h F) _ (Sub.newAt (Sub.refl _) eF) λh3 s3=>s3 _ _ jd⟩) (λp hp j hj h' s Q' q'=>q') (λp hp j hj _ h' s Q' q'=> ?_) λa h' s ha=> ?_)
 ·exact D7 (GU λp _=>by rw [G1];exact D7 (B0 _ _) (D7 (Ll p) h6)) (D8 (jA (by rw [D9];omega)))
 ·have hp:=D1.mp hp;have hj:=Ep hj;obtain⟨r,a1,a2,_⟩:=at_ j (by omega);obtain⟨r',b1,b2,_⟩:=at_ p (by omega);rw [a2,b2] at q';exact⟨_,rfl,_,rfl,_,a1,_,rfl,_,rfl,_,b1,_,rfl,kp,q'⟩
 ·refine⟨a,(List.range n).flatMap λp=>(XC T n p).map λj=>decide (wz (.tup es) j=(wz (.tup es) p+1)%k),rfl,?_,?_⟩
  ·rw [jd,List.map_flatMap];refine congrArg some (Mw λp _=> ?_);rw [G0U.mpr (λ_ _=>rfl),S6];rfl
  ·rw [zK ha,List.all_flatMap];refine⟨h,s,?_⟩;rw [show ((List.range n).all λp=>((XC T n p).map λj=>decide (wz (.tup es) j=(wz (.tup es) p+1)%k)).all id)=EM T n (.tup es) k from congrArg (List.all (List.range n)) (funext λp=>by rw [H0];rfl)];exact q
theorem EN {E:EndsD}(x:vb b js ti tt te σ h λv h1=>E.rt v h1):DR (vb b js ti tt te) E σ h:=x
def wv:RDn:=λds h Q=> ∃T,∃n e:Nat,ds= [jY T]/\Sq n e T/\1<=n/\n<=6/\(ya T n).length=1/\ ∀ (st:List Nat) (A:Addr) (h':HD),st.length=n->(∀j,j<n->RP n T (st.getD j 0) 0 j)->st.getD 0 0=0->h' A=some (st.map λ(k:Nat)=>D.int (k:Int))->Sub h h'->Q (.lst A) h'
theorem vI (Z:Zs mg)(F:Fun K "steps_from_start" "steps_from_start" zN f fd)(yP:jp P w K mg base n "step_after" ["table","some"] yf):FnOk P w K mg base CX0 (n+1) f fd ["table"] (LSp K wv):=by
 obtain⟨Yd,WH,yQ,yg,yk,yl⟩:=yP;refine F.okJ jq (λds h Q q=>by obtain⟨T,n,b,e,hT,n1,n6,one,q⟩:=q;subst e;rfl) _ (λcdv A outer s H E hr=>(je (yY (i:=1) jq.nd rfl (by first|exact Or.inr rfl|exact Or.inl rfl) EJ) (by exact(je (yY (i:=2) jq.nd rfl (Or.inl rfl) (Eh (jac jK jc))) (by exact(je (yY (i:=3) jq.nd rfl (Or.inl rfl) jK) (by exact(je (Gv N3 (wc NA (jJ LK rfl Z.len T6 (jac (jv 1) jc)) (jJ zL rfl Z.len T6 (jac (jv 0) jc)) (jz _)) (je (yY (i:=2) jq.nd rfl (Or.inl rfl) (jB yQ hr rfl yl yk yg (jac (jv 0) (by exact(jac (jv 2) jc))))) (by exact(je (Lb (i:=3) jq.nd rfl (Or.inl rfl) jK) (by exact(jg (MS N3 rfl (zQ (jv 2)) (wG (i:=4) jq.nd rfl (Or.inl rfl)) (jg (Jy (Kt hr (jv 1) (jv 4) (jv 3))))))))))) (by exact(jg (wM (jlc (i:=4) (js:= [4]) rfl (jm (by rfl)) (Jz rfl Z.range (jac (jJ zL rfl Z.len T6 (jac (jv 0) jc)) jc)) (by decide) jq.nd rfl (by first|exact Or.inl rfl|exact Or.inr rfl) (λX' hX=>zc) (λX' hX=>by obtain⟨C,s₀,H₀,ex,rfl⟩:=hX;exact(Kr hr (jv 1) (jv 4))))))))))))))) ?_;intro ds h Q q;obtain⟨T,n,b,e,hT,n1,n6,one,q⟩:=q;subst e;have h8:n<=8:=by omega
 have hlen:(((T.map Up).length:Nat):Int)=(n:Int):=by rw [G1,hT.len]
 refine jh (λσ' h'=> ∃a,σ'= [some (jY T),some (.dct a),none,none,none]/\h.dc a=none/\h'.dc a=some (.ik [(0,.int 0)])/\Sub h h') (λC hC=>λa ea=>hC _ _ ⟨a,rfl,ea,Ja,.newC ea⟩) ?_;rintro _ h1 ⟨a,rfl,fa,ka,sb⟩;refine jh (λσ' h'=>σ'= [some (jY T),some (.dct a),some (jx [0]),none,none]/\h1=h') (λC hC=>⟨(by show 1<=sizeLine;decide),hC _ _ ⟨rfl,rfl⟩⟩) ?_;rintro _ _ ⟨rfl,rfl⟩;refine jh (λσ' h'=>σ'= [some (jY T),some (.dct a),some (jx [0]),some (.int 0),none]/\h1=h') (λC hC=>hC _ _ ⟨rfl,rfl⟩) ?_;rintro _ _ ⟨rfl,rfl⟩;refine jh (λσ' h'=> ∃kv s x2 x3 x4,σ'= [some (jY T),some (.dct a),x2,x3,x4]/\h'.dc a=some (.ik kv)/\FI n T s s kv/\n<=kv.length/\Sub h h') (λC hC=> ?_) ?_
 ·refine ZE (λm σ' h'=> ∃ (kv:List (Int×D)) (s:Nat) (x4:Option D),σ'= [some (jY T),some (.dct a),some (jx (itF (jL n T) [0] s)),some (.int (s:Int)),x4]/\m=n-kv.length/\h'.dc a=some (.ik kv)/\FI n T s s kv/\Sub h h') (n-1) ⟨_,0,none,rfl,rfl,ka,.first n1,sb⟩ ?_;clear ka sb;rintro m _ h2 ⟨kv,s,x4,rfl,rfl,ka,g,sb⟩;refine⟨_,rfl,a,kv,rfl,ka,_,rfl,_,rfl,?_⟩;show if decide (((kv.length:Nat):Int)<(((T.map Up).length:Nat):Int))=true then _ else _
  rw [hlen];have gl:=g.len
  by_cases full:kv.length<n
  ·rw [P0 (by omega)];refine Yj ?_;have isS:IsS n (itF (jL n T) [0] s):=(Qh (show 0<n by omega)).it s;refine jh (λσ' h'=>σ'= [some (jY T),some (.dct a),some (jx (itF (jL n T) [0] (s+1))),some (.int (s:Int)),x4]/\h2=h') (λC hC=>⟨_,rfl,_,rfl,T,_,n,b,rfl,hT,isS,n6,hC _ _ ⟨rfl,rfl⟩⟩) ?_;rintro _ _ ⟨rfl,rfl⟩;refine jh (λσ' h'=>σ'= [some (jY T),some (.dct a),some (jx (itF (jL n T) [0] (s+1))),some (.int ((s+1:Nat):Int)),x4]/\h2=h') (λC hC=>⟨_,rfl,1,rfl,hC _ _ ⟨rfl,rfl⟩⟩) ?_;rintro _ _ ⟨rfl,rfl⟩;have mem:=GP hT h8 (show 0<n by omega) (s+1);generalize hSe:itF (jL n T) [0] (s+1)=S at mem;refine NF (j:=λ_=>some (S.map λ(k:Nat)=>D.int (k:Int))) (S.map λ(k:Nat)=>D.int (k:Int)) (λi σ' h'=> ∃ (kv':List (Int×D)) (x4:Option D),σ'= [some (jY T),some (.dct a),some (jx S),some (.int ((s+1:Nat):Int)),x4]/\h'.dc a=some (.ik kv')/\FI n T s (s+1) kv'/\(∀y∈kv.map (·.1),y∈kv'.map (·.1))/\(∀j∈S.take i,(j:Int)∈kv'.map (·.1))/\Sub h h') (λR r=>⟨_,rfl,r⟩) (λ_ _ _ _=>rfl) ⟨kv,x4,rfl,ka,⟨g.nd,λp hp=>by
    obtain⟨j,v,e1,hj,hv,r⟩:=g.ok p hp;exact⟨j,v,e1,hj,by omega,r⟩,g.all,g.zero⟩,λy hy=>hy,(λj hj=>by rw [V9] at hj;cases hj),sb⟩ ?_ ?_
   ·rintro _ h3 ⟨kv',x4',rfl,ka',g',old,new,sb'⟩;rw [G1,E9] at new;obtain⟨v,hv,rv,vn⟩:=FI.grow hT h8 n1 one g full;have big:kv.length<kv'.length:=by
     have:=wU (xs:=(v:Int)::kv.map (·.1)) (ys:=kv'.map (·.1)) (O7.mpr ⟨vn,g.nd⟩) λy hy=>by
      rcases R6.mp hy with z|z
      ·rw [z];exact new v ((mem v).mpr ⟨hv,rv⟩)
      ·exact old y z
     rw [D3,G1,G1] at this;omega
    refine⟨n-kv'.length,h3,by omega,Sub.refl _,kv',s+1,x4',?_,rfl,ka',⟨g'.nd,g'.ok,λj w hj hw r=> ?_,g'.zero⟩,sb'⟩
    ·rw [hSe]
    ·rcases O4 s w with z|z
     ·rw [show w=s+1 by omega] at r;exact new j ((mem j).mpr ⟨hj,r⟩)
     ·exact g'.all j w hj z r
   ·rintro i d _ h3 hd ⟨kv',x4',rfl,ka',g',old,new,sb'⟩;rw [P3] at hd;obtain⟨j,hj,rfl⟩:=M7.mp hd;have il:i<(S.map λ(k:Nat)=>D.int (k:Int)).length:=by rw [G1];exact(G7.mp hj).1
    obtain⟨jn,rj⟩:=(mem j).mp (G6 hj);have tk:S.take (i+1)=S.take i++ [j]:=by rw [M0,hj];rfl
    refine⟨_,rfl,a,kv',rfl,ka',_,rfl,_,rfl,(j:Int),kv',rfl,ka',by have:=g'.len;omega,λd hd=> ?_,λhn=> ?_⟩
    ·refine⟨_,Sub.refl _,by omega,kv',_,rfl,ka',g',old,λx hx=> ?_,sb'⟩;rw [tk] at hx;rcases P7.mp hx with z|z
     ·exact new x z
     ·rw [G5.mp z];exact P9.mpr ⟨_,GN hd,rfl⟩
    ·refine⟨_,Sub.refl _,by omega,_,_,rfl,Ja,g'.put hn jn (G9 _) rj,λy hy=>(ZK hn y).mpr (.inl (old y hy)),λx hx=> ?_,sb'.overC fa⟩;rw [tk] at hx;rcases P7.mp hx with z|z
     ·exact(ZK hn _).mpr (.inl (new x z))
     ·rw [G5.mp z];exact(ZK hn _).mpr (.inr rfl)
  ·rw [D6 (by omega)];exact Ju (hC _ _ ⟨kv,s,_,_,_,rfl,ka,g,by omega,sb⟩)
 rintro _ h2 ⟨kv,s,x2,x3,x4,rfl,ka',g,fl,sb⟩;have get:=λj hj=>g.get (j:=j) (g.full fl hj)
 refine EN (lcA (List.range n) (λ(i:Nat)=> .int (i:Int)) (λ(i:Nat)=>(vf kv (i:Int)).getD .non) (by rw [D9];omega) rfl (λR r=>⟨_,rfl,(n:Int),by rw [hlen],by omega,by omega,r⟩) (λi hi Q' q'=> ?_) λA eA=> ?_)
 ·obtain⟨v,hv,_⟩:=get i (D1.mp hi);rw [hv] at q';exact⟨_,rfl,_,rfl,a,_,kv,_,rfl,rfl,ka',hv,q'⟩
 ·let st:List Nat:=(List.range n).map λ(j:Nat)=>match vf kv (j:Int) with
   |some (.int v)=>v.toNat
   |_=>0
  have at_: ∀j,j<n-> ∃v:Nat,vf kv (j:Int)=some (.int (v:Int))/\st.getD j 0=v/\RP n T v 0 j:=λj hj=>by
   obtain⟨v,hv,_,r⟩:=get j hj;refine⟨v,hv,?_,r⟩;show ((List.range n).map _).getD j 0=v;rw [P2,P3,B9 hj];show (match vf kv (j:Int) with|some (.int v)=>v.toNat|_=>0)=v;rw [hv];rfl
  refine⟨_,Sub.refl _,q st A _ (by show ((List.range n).map _).length=n;rw [G1,D9]) (λj hj=>by obtain⟨v,_,e1,r⟩:=at_ j hj;rw [e1];exact r) ?_ ?_ (sb.newAt eA)⟩
  ·obtain⟨v,hv,e1,_⟩:=at_ 0 (by omega);have:=g.zero;rw [show (0:Int)=((0:Nat):Int) from rfl,hv] at this;injection this with this
   injection this with this
   rw [e1];omega
  ·rw [jd];show _=some (((List.range n).map _).map _);rw [S6];refine congrArg some (S9 λj hj=> ?_);obtain⟨v,hv,e1,_⟩:=at_ j (D1.mp hj);show (vf kv (j:Int)).getD .non=D.int (((match vf kv (j:Int) with|some (.int v)=>v.toNat|_=>0:Nat)):Int);rw [hv];rfl
/-- a number of turns and a rest for each place -/
def BA (T:List (List Int))(n:Nat)(d:D):Bool:=match d with
 | .tup [a,x]=>UR T n a x
 |_=>false
theorem EO {es:List D}(h:((es.length:Nat):Int)=2): ∃a x,es= [a,x]:=by
 cases es with
 |nil=>cases h
 |cons a r=>cases r with
  |nil=>cases h
  |cons x r=>cases r with
   |nil=>exact⟨a,x,rfl⟩
   |cons y r=>simp only [D3] at h;omega
theorem BB {es:List D}(h: ¬ ((es.length:Nat):Int)=2):BA T n (.tup es)=false:=by
 unfold BA;split
 ·rename_i e;injection e with e;rw [e] at h;exact absurd rfl h
 ·rfl
def Jm:RDn:=λds h Q=> ∃T d,∃n e:Nat,ds= [jY T,d]/\Sq n e T/\1<=n/\n<=6/\okD d=true/\Q (.bl (BA T n d)) h
theorem Vw (Z:Zs mg)(F:Fun K "turns_hold" "turns_hold" yJ f fd)(jQ:jp P w K mg base n "want_table" ["thing"] zk)(Qx:jp P w K mg base n "are_turns" ["table","d","rests"] Zh):FnOk P w K mg base CX0 (n+1) f fd ["table","thing"] (LSp K Jm):=by
 obtain⟨zU,zP,jR,jD,jE,jF⟩:=jQ;obtain⟨BM,MZ,QH,Xf,Xr,Xx⟩:=Qx;refine F.okJ Vq (λds h Q q=>by obtain⟨T,d,n,b,e,hT,h1,h6,ok,q⟩:=q;subst e;rfl) _ (λcdv A outer s H E hr=>(je (Jy (jB jR hr rfl jF jE jD (jac (jv 0) jc))) (by exact(je (ZD (jpt (Oj (Jx (yC (XR (T:= "tuple") (by decide) rfl Z.isinstance rfl Z.tuple (by decide +kernel) (jv 1)))) (Oi (wc oq_ne (jJ zL rfl Z.len T6 (jac (jv 1) jc)) jK (jz _))))) (jg (wM jbl)) ze) (by exact(jg (wM (jB QH hr rfl Xx Xr Xf (jac (jv 0) (by exact(jac (jix (jv 1) jK (λ_ _=>rfl)) (by exact(jac (jix (jv 1) jK (λ_ _=>rfl)) jc))))))))))))) ?_;intro ds h Q q;obtain⟨T,d,n,b,e,hT,h1,h6,ok,q⟩:=q;subst e;refine jh (λσ' h'=>σ'= [some (jY T),some d]/\h=h') (λC hC=>⟨_,rfl,T,n,b,rfl,hT,h1,h6,hC _ _ ⟨rfl,rfl⟩⟩) ?_;rintro _ _ ⟨rfl,rfl⟩;obtain⟨nm,hn⟩:=yc ok;cases d with
 |tup es=>
  cases hn;obtain⟨hl,ht⟩:=Ws ok;refine jh (λσ' h'=>(∃a x,es= [a,x])/\σ'= [some (jY T),some (.tup es)]/\h=h') (λC hC=>⟨_,rfl,"tuple",rfl,_,rfl,Ju ⟨_,rfl,_,rfl,?_⟩⟩) ?_
  ·show if (!decide (((es.length:Nat):Int)=2))=true then _ else _
   by_cases z:((es.length:Nat):Int)=2
   ·rw [P0 z];exact Ju (hC _ _ ⟨EO z,rfl,rfl⟩)
   ·rw [D6 z];rw [BB z] at q;exact Yj ⟨h,Sub.refl h,q⟩
  rintro _ _ ⟨⟨a,x,rfl⟩,rfl,rfl⟩;exact⟨_,rfl,_,rfl,_,rfl,_,rfl,_,rfl,T,a,x,n,b,rfl,hT,h1,h6,ht a (by simp),ht x (by simp),_,Sub.refl h,q⟩
 |_=>cases hn<;>exact jh (λ_ _=>False) (λC hC=>⟨_,rfl,_,rfl,_,rfl,Yj ⟨h,Sub.refl h,q⟩⟩) (λ_ _ z=>z.elim)
/-- turns: a rest for each place,that go on by one along arrows -/
structure TurnsOf (T:List (List Int))(n d:Nat)(rs:List Nat):Prop where
 len:rs.length=n
 lt: ∀j,j<n->rs.getD j 0<d
 go: ∀i j,i<n->j<n->ent T i j≠0->rs.getD j 0=(rs.getD i 0+1)%d
variable {Q:KD}
theorem BC (x:ti σ h λj h1=>dCB vc (yu (vb b js (λ_ _ R=>R j h1) tt te) Uj) σ h1 Q):dCB vc (yu (vb b js ti tt te) Uj) σ h Q:=x
theorem YF (h6:n<=6)(nz:we T n≠0):1<=we T n/\we T n<=6:=by
 have ne:jC T n≠ []:=λz=>nz (by show ((jC T n).map List.length).foldl Nat.gcd 0=0;rw [z];rfl)
 obtain⟨w,hw⟩:=K5 _ ne;obtain⟨s,hs,o,_⟩:=wT hw;have dv:we T n∣w.length:=((Vg ((jC T n).map List.length) 0 (we T n)).mp (G02 _)).2 _ (K9 hw);have:=Nat.le_of_dvd (by rw [o.len];omega) dv;have:=o.len;omega
def Wx:RDn:=λds h Q=> ∃T,∃n e:Nat,ds= [jY T]/\Sq n e T/\1<=n/\n<=6/\(ya T n).length=1/\we T n≠0/\ ∀ (rs:List Nat) (h':HD),TurnsOf T n (we T n) rs->rs.getD 0 0=0->Sub h h'->Q (.tup [.int ((we T n:Nat):Int),jx rs]) h'
theorem Qr (Z:Zs mg)(F:Fun K "turns_of" "turns_of" JN f fd)(Mx:jp P w K mg base n "beat" ["table"] Qq)(Jo:jp P w K mg base n "steps_from_start" ["table"] wv):FnOk P w K mg base CX0 (n+1) f fd ["table"] (LSp K Wx):=by
 obtain⟨BN,MM,MB,QN,Ge,Gi⟩:=Mx;obtain⟨XD,Xn,Jp,vL,vP,vS⟩:=Jo;refine F.okJ vU (λds h Q q=>by obtain⟨T,n,b,e,hT,n1,n6,one,nz,q⟩:=q;subst e;rfl) _ (λcdv A outer s H E hr=>(je (yY (i:=1) vU.nd rfl (by first|exact Or.inr rfl|exact Or.inl rfl) (jB MB hr rfl Gi Ge QN (jac (jv 0) jc))) (by exact(je (ZD (wc oq_eq (jv 1) jK (jz _)) (jg Ys) ze) (by exact(jg (wM (Eh (jac (jv 1) (by exact(jac (wH wQ rfl Z.tuple (by decide +kernel) (jac (jlc (i:=2) (js:= [2]) rfl (jm (by rfl)) (zQ (jB Jp hr rfl vS vP vL (jac (jv 0) jc))) (by decide) vU.nd rfl (by first|exact Or.inl rfl|exact Or.inr rfl) (λX' hX=>zc) (λX' hX=>by obtain⟨C,s₀,H₀,ex,rfl⟩:=hX;exact(jop yB (jv 2) (jv 1)))) jc)) jc))))))))))) ?_;intro ds h Q q;obtain⟨T,n,b,e,hT,n1,n6,one,nz,q⟩:=q;subst e;obtain⟨b1,b6⟩:=YF n6 nz;refine jh (λσ' h'=>σ'= [some (jY T),some (.int ((we T n:Nat):Int)),none]/\h=h') (λC hC=>⟨_,rfl,T,n,b,rfl,hT,n1,n6,one,hC _ _ ⟨rfl,rfl⟩⟩) ?_;rintro _ _ ⟨rfl,rfl⟩;refine jh (λσ' h'=>σ'= [some (jY T),some (.int ((we T n:Nat):Int)),none]/\h=h') (λC hC=>⟨_,rfl,_,rfl,?_⟩) ?_
 ·show if decide (((we T n:Nat):Int)=0)=true then _ else _
  rw [D6 (by omega)];exact Ju (hC _ _ ⟨rfl,rfl⟩)
 rintro _ _ ⟨rfl,rfl⟩;refine⟨_,rfl,BC ⟨_,rfl,T,n,b,rfl,hT,n1,n6,one,λst A h' sl sr s0 kA sb=> ?_⟩⟩;refine Sf (j:=λh=>h A) st (λ(k:Nat)=> .int (k:Int)) (λ(k:Nat)=> .int ((k%we T n:Nat):Int)) (by omega) kA (λR r=>r) (λk hk Q' q'=>⟨_,rfl,_,rfl,by omega,?_⟩) ⟨(by show 2<=sizeLine;decide),h,sb,?_⟩
 ·rw [<-W8];exact q'
 ·have at_: ∀j,(st.map λk=>k%we T n).getD j 0=st.getD j 0%we T n:=λj=>by
   rw [P2,P2,P3];cases st[j]? with
   |none=>rw [Option.map_none];exact(Nat.zero_mod _).symm
   |some x=>rfl
  have:=q (st.map λk=>k%we T n) h ⟨by rw [G1];exact sl,λj hj=>by rw [at_];exact K4 _ b1,λi j hi hj ar=>by
   rw [at_,at_,Nat.mod_add_mod];exact Bq hT (by omega) one hi hj n1 (sr i hi) (sr j hj) ar (G02 (we T n))⟩ (by rw [at_,s0];exact Nat.zero_mod _) (Sub.refl h)
  unfold jx at this;rw [S6] at this;exact this
def Zi:RDn:=λds h Q=> ∃ns k,ds= [.scr ns,.int k]/\0<=k/\ ∀n,Q (.int n) h
theorem UT (Z:Zs mg)(F:Fun K "_law_cell" "_law_cell" vD f fd):FnOk P w K mg base CX0 (n+1) f fd ["_law_script","_law_k"] (LSp K Zi):=by
 refine F.okJ UJ (λds h Q q=>by obtain⟨ns,k,e,h0,q⟩:=q;subst e;rfl) _ (λcdv A outer s H E hr=>(je (ZD (wc NA (jv 1) (jJ zL rfl Z.len T6 (jac (jv 0) jc)) (jz _)) (jg (wM (jix (jv 0) (jv 1) (λ_ _=>rfl)))) ze) (by exact(jg (wM jK))))) ?_;intro ds h Q q;obtain⟨ns,k,e,h0,q⟩:=q;subst e;simp only [MR,Fq,Zo,dOp,Nu,yo,S1,O3,D3,S8,A2,N6,U9,C6,E5,dCB,yu,Uj,AQ,Cf,D.bl.injEq,DR,ixD,Nz,K0,Pl,dC];refine VW (λc=> ?_) (λ_=>⟨h,Sub.refl h,q 0⟩);have c':k<(ns.length:Int):=R8 c;have hk:k.toNat<ns.length:=by omega
 have ek:k=((k.toNat:Nat):Int):=by omega
 have z:=wE (G0 hk);rw [<-ek] at z;exact⟨ns[k.toNat],z,h,Sub.refl h,q _⟩
def Wy:RDn:=λds h Q=> ∃c,ds= [.int c]/\ ∀p l fl,h p=none->0<=l->(fl=0\/fl=1)->Q (.lst p) (zY h p [.int l,.int fl])
theorem Qs (Z:Zs mg)(F:Fun K "_law_pen" "_law_pen" JP f fd):FnOk P w K mg base CX0 (n+1) f fd ["_law_cell_here"] (LSp K Wy):=by
 refine F.okJ WO (λds h Q q=>by obtain⟨c,e,q⟩:=q;subst e;rfl) _ (λcdv A outer s H E hr=>(je (yY (i:=1) WO.nd rfl (Or.inl rfl) (jJ (AR rfl) rfl Z.max (by decide +kernel) (jac (jv 0) (by exact(jac (jop Yq jK (jv 0)) jc))))) (by exact(jg (wM (Gt (jac (jv 1) (by exact(jac (wH Ch rfl Z.int (by decide +kernel) (jac (XA FH (jv 1) (jop DV jK jK) (jz _)) jc)) jc))))))))) ?_;intro ds h Q q;obtain⟨c,e,q⟩:=q;subst e;simp only [MR,Fr,dCB,yu,Nu,yo,S1,O3,D3,S8,List.replicate,A2,N6,C6,E5,dOp,dC,Hh,Uj,Tn,DR,An,List.set_cons_succ,List.set_cons_zero,U9,Hj,Cf,Tl,Nz,K0];refine⟨⟨by decide,by decide,by decide⟩,by decide,λp hp=>⟨_,Sub.refl _,q p _ _ hp ?_ ?_⟩⟩
 ·split<;>omega
 ·split<;>simp<;>omega
def wA:RDn:=λds h Q=> ∃p l fl m,ds= [.lst p,.int m]/\h p=some [.int l,.int fl]/\0<=l/\0<m/\m<2^200/\ ∀r l',0<=r->r<m->0<=l'->Q (.int r) (zY h p [.int l',.int fl])
theorem UU (Z:Zs mg)(F:Fun K "_law_draw" "_law_draw" vE f fd):FnOk P w K mg base CX0 (n+1) f fd ["_law_pen_here","_law_many"] (LSp K wA):=by
 refine F.okJ wC (λds h Q q=>by obtain⟨p,l,fl,m,e,hp,h0,hm,hm2,q⟩:=q;subst e;rfl) _ (λcdv A outer s H E hr=>(je (ZD (wc oq_eq (jix (jv 0) jK (λ_ _=>rfl)) jK (jz _)) (je (Sd (jJ Ps rfl Z.divmod (by decide +kernel) (jac (jix (jv 0) jK (λ_ _=>rfl)) (by exact(jac (jv 1) jc)))) (Ei (i:=2) (j:=3) rfl wC.nd rfl rfl (Or.inl rfl) (Or.inl rfl))) (by exact(je (Sd (jv 2) (Rl (jv 0) jK)) (by exact(jg (wM (jv 3))))))) ze) (by exact(je (yY (i:=4) wC.nd rfl (Or.inl rfl) (jop yB (jop Va (jop wP (jop yB (jix (jv 0) jK (λ_ _=>rfl)) jK) jK) jK) jK)) (by exact(je (yY (i:=4) wC.nd rfl (Or.inl rfl) (jop yB (jop wP (jop Va (jv 4) (jv 4)) jK) jK)) (by exact(je (Sd (jop yB (jop wP (jop Va (jv 4) jK) jK) jK) (Rl (jv 0) jK)) (by exact(jg (wM (jop yB (jop FG (jix (jv 0) jK (λ_ _=>rfl)) jK) (jv 1))))))))))))) ?_;intro ds h Q q;obtain⟨p,l,fl,m,e,hp,h0,hm,hm2,q⟩:=q;subst e;refine jh (λσ' h'=>σ'= [some (.lst p),some (.int m),none,none,none]/\h=h') (λC hC=>⟨_,rfl,_,_,hp,rfl,?_⟩) ?_
 ·show ∃k,D.bl (decide (fl=1))= .bl k/\_;refine⟨_,rfl,VW (λ_=> ?_) λ_=>hC _ _ ⟨rfl,rfl⟩⟩;exact⟨_,rfl,_,_,hp,rfl,_,rfl,_,_,rfl,⟨hm,hm2⟩,_,_,rfl,_,rfl,_,rfl,p,0,_,0,rfl,rfl,hp,rfl,_,rfl,_,Sub.refl _,q (l%m) (l / m) (Y4 _ (Int.ne_of_gt hm)) (Z9 _ hm) (Int.ediv_nonneg h0 (Int.le_of_lt hm))⟩
 rintro _ _ ⟨rfl,rfl⟩;refine jh (λσ' h'=> ∃z:Int,σ'= [some (.lst p),some (.int m),none,none,some (.int z)]/\(0<=z/\z<2147483629)/\h=h') (λC hC=>⟨_,rfl,_,_,hp,rfl,by decide,.inr ⟨by decide,by decide⟩,by decide,hC _ _ ⟨_,rfl,⟨Y4 _ (by decide),Z9 _ (by decide)⟩,rfl⟩⟩) ?_;rintro _ _ ⟨z,rfl,⟨z0,z1⟩,rfl⟩;refine jh (λσ' h'=> ∃y:Int,σ'= [some (.lst p),some (.int m),none,none,some (.int y)]/\h=h') (λC hC=>⟨_,rfl,_,rfl,.inl ⟨Int.lt_of_lt_of_le (by decide) z0,Int.lt_trans z1 (by decide)⟩,by decide,hC _ _ ⟨_,rfl,rfl⟩⟩) ?_;rintro _ _ ⟨y,rfl,rfl⟩;refine jh (λσ' h'=> ∃x:Int,σ'= [some (.lst p),some (.int m),none,none,some (.int y)]/\0<=x/\h'=zY h p [.int x,.int fl]) (λC hC=>⟨_,rfl,.inr ⟨by decide,by decide⟩,by decide,_,rfl,p,0,_,0,rfl,rfl,hp,rfl,hC _ _ ⟨_,rfl,Y4 _ (by decide),rfl⟩⟩) ?_;rintro _ _ ⟨x,rfl,x0,rfl⟩;exact⟨_,rfl,_,_,jd,rfl,⟨by decide,by decide⟩,_,rfl,hm,_,Sub.refl _,q (x / 32%m) x (Y4 _ (Int.ne_of_gt hm)) (Z9 _ hm) x0⟩
def Zj:RDn:=λds h Q=> ∃p l fl,ds= [.lst p]/\h p=some [.int l,.int fl]/\0<=l/\ ∀ (k:Nat) l',1<=k->k<=6->0<=l'->Q (.int (k:Int)) (zY h p [.int l',.int fl])
theorem UV (Z:Zs mg)(F:Fun K "_law_size" "_law_size" vF f fd)(ww:jp P w K mg base n "_law_draw" ["_law_pen_here","_law_many"] wA):FnOk P w K mg base CX0 (n+1) f fd ["_law_pen_here"] (LSp K Zj):=by
 obtain⟨Jr,vh,jT,jG,jH,jI⟩:=ww;refine F.okJ UK (λds h Q q=>by obtain⟨p,l,fl,e,hp,h0,q⟩:=q;subst e;rfl) _ (λcdv A outer s H E hr=>(jg (wM (jix (Gt (jac jK (by exact(jac jK (by exact(jac jK (by exact(jac jK (by exact(jac jK (by exact(jac jK (by exact(jac jK (by exact(jac jK (by exact(jac jK (by exact(jac jK (by exact(jac jK (by exact(jac jK jc)))))))))))))))))))))))) (jB jT hr rfl jI jH jG (jac (jv 0) (by exact(jac jK jc)))) (λ_ _=>rfl))))) ?_;intro ds h Q q;obtain⟨p,l,fl,e,hp,h0,q⟩:=q;subst e;simp only [DR,dOp,An,yu,dC,Uj,D3,S8,dCB,Nu,yo,S1,O3,A2,N6,C6,E5,ixD,Nz,K0];refine⟨by decide,λp1 e1=>⟨p,l,fl,12,rfl,ju hp e1,h0,by decide,by decide,λr l' r0 r1 l0=> ?_⟩⟩;obtain⟨d,hd,ed⟩:=XQ (xs:= [D.int 1,D.int 2,D.int 3,D.int 4,D.int 5,D.int 3,D.int 4,D.int 2,D.int 6,D.int 5,D.int 4,D.int 3]) r0 r1;refine⟨_,d,jw (jX hp e1) jd,ed,_,Sub.both (Sub.newAt (Sub.refl h) e1),?_⟩;have q': ∀k:Nat,1<=k->k<=6->Q (.int (k:Int)) (zY h p [.int l',.int fl]):=λk a b=>q k l' a b l0
 simp only [R6,B1,G0m] at hd;rcases hd with e|e|e|e|e|e|e|e|e|e|e|e<;>subst e
 ·exact q' 1 (by decide) (by decide)
 ·exact q' 2 (by decide) (by decide)
 ·exact q' 3 (by decide) (by decide)
 ·exact q' 4 (by decide) (by decide)
 ·exact q' 5 (by decide) (by decide)
 ·exact q' 3 (by decide) (by decide)
 ·exact q' 4 (by decide) (by decide)
 ·exact q' 2 (by decide) (by decide)
 ·exact q' 6 (by decide) (by decide)
 ·exact q' 5 (by decide) (by decide)
 ·exact q' 4 (by decide) (by decide)
 ·exact q' 3 (by decide) (by decide)
def Jn:RDn:=λds h Q=> ∃p l fl,∃k:Nat,ds= [.lst p,.int (k:Int)]/\h p=some [.int l,.int fl]/\0<=l/\1<=k/\k<=6/\ ∀T l',GoodTab k T->0<=l'->Q (jY T) (zY h p [.int l',.int fl])
theorem Vx (Z:Zs mg)(F:Fun K "_law_table" "_law_table" yK f fd)(ww:jp P w K mg base n "_law_draw" ["_law_pen_here","_law_many"] wA):FnOk P w K mg base CX0 (n+1) f fd ["_law_pen_here","_law_size_here"] (LSp K Jn):=by
 obtain⟨Jr,vh,jT,jG,jH,jI⟩:=ww;refine F.okJ jy (λds h Q q=>by obtain⟨p,l,fl,k,e,hp,h0,hk1,hk6,q⟩:=q;subst e;rfl) _ (λcdv A outer s H E hr=>(je (Hn (i:=2) (j:=3) rfl jy.nd rfl rfl (by decide) rfl rfl (jac (jB jT hr rfl jI jH jG (jac (jv 0) (by exact(jac jK jc)))) (by exact(jac (jix (Gt (jac jK (by exact(jac jK (by exact(jac jK jc)))))) (jB jT hr rfl jI jH jG (jac (jv 0) (by exact(jac jK jc)))) (λ_ _=>rfl)) jc))) rfl) (by exact(je (yY (i:=4) jy.nd rfl (Or.inl rfl) (jix (Gt (jac jK (by exact(jac jK (by exact(jac jK (by exact(jac (jop DV jK jK) jc)))))))) (jB jT hr rfl jI jH jG (jac (jv 0) (by exact(jac jK jc)))) (λ_ _=>rfl))) (by exact(je (yY (i:=5) jy.nd rfl (Or.inl rfl) (Gt jc)) (by exact(je (MS N3 rfl (Jz rfl Z.range (jac (jv 1) jc)) (wG (i:=6) jy.nd rfl (Or.inl rfl)) (je (yY (i:=7) jy.nd rfl (Or.inl rfl) (Gt jc)) (by exact(je (MS N3 rfl (Jz rfl Z.range (jac (jv 1) jc)) (wG (i:=8) jy.nd rfl (Or.inl rfl)) (je (yY (i:=9) jy.nd rfl (Or.inl rfl) (XA oq_eq (jB jT hr rfl jI jH jG (jac (jv 0) (by exact(jac (jv 3) jc)))) jK (jz _))) (by exact(je (ZD (wc NA (jv 2) jK (jz _)) (jg (yY (i:=9) jy.nd rfl (Or.inl rfl) (jor (XA oq_eq (jv 8) (jop yB (jop wP (jv 6) jK) (jv 1)) (jz _)) (Rk (Cl (jv 9) (Rk (XA (ZZ hr.units) (jB jT hr rfl jI jH jG (jac (jv 0) (by exact(jac jK jc)))) (jv 2) (jz _)))))))) ze) (by exact(je (ZD (wc oq_eq (jv 2) jK (jz _)) (jg (yY (i:=9) jy.nd rfl (Or.inl rfl) (jor (Cl (jv 9) (Rk (XA oq_eq (jop yB (jop Yq (jv 8) (jv 6)) jK) jK (jz _)))) (Rk (XA (ZZ hr.units) (jv 8) (jop wP (jv 6) jK) (jz _)))))) ze) (by exact(je (ZD (wc oq_eq (jv 2) jK (jz _)) (jg (yY (i:=9) jy.nd rfl (Or.inl rfl) (Cl (jv 9) (Rk (XA FH (jv 8) (jv 6) (jz _)))))) ze) (by exact(jg (Jy (Se (jv 7) (jop Va (wH Ch rfl Z.int (by decide +kernel) (jac (jv 9) jc)) (jop wP jK (jB jT hr rfl jI jH jG (jac (jv 0) (by exact(jac (jv 4) jc)))))))))))))))))) (by exact(jg (Jy (Se (jv 5) (wH cq_tuple rfl Z.tuple (by decide +kernel) (jac (jv 7) jc)))))))))) (by exact(jg (wM (wH cq_tuple rfl Z.tuple (by decide +kernel) (jac (jv 5) jc))))))))))))) ?_;intro ds h Q q;obtain⟨p,l,fl,k,e,hp,h0,hk1,hk6,q⟩:=q;subst e;refine jh (λσ' h'=> ∃way o l2,σ'= [some (.lst p),some (.int (k:Int)),some (.int way),some (.int o),none,none,none,none,none,none]/\0<o/\o<1000/\0<=l2/\h' p=some [.int l2,.int fl]/\But p h h') (λC hC=>⟨_,rfl,p,l,fl,6,rfl,hp,h0,by decide,by decide,λway l1 w0 w1 l10=>⟨(by show 3<=sizeLine;decide),λp1 e1=>⟨_,rfl,p,l1,fl,3,rfl,ju jd e1,l10,by decide,by decide,λr l2 r0 r1 l20=> ?_⟩⟩⟩) ?_
 ·obtain⟨oft,ho,eo⟩:=XQ (xs:= [D.int 2,D.int 3,D.int 5]) r0 r1;obtain⟨o,e,o1,o2⟩: ∃o:Int,oft= .int o/\0<o/\o<1000:=by
   simp only [R6,B1,G0m] at ho;rcases ho with e|e|e<;>exact⟨_,e,by decide,by decide⟩
  subst e;exact⟨_,_,jw (jX jd e1) jd,eo,_,_,rfl,hC _ _ ⟨way,o,l2,rfl,o1,o2,l20,jd,((But.upd).new e1).put⟩⟩
 rintro _ h1 ⟨way,o,l2,rfl,o1,o2,l20,kA,bA⟩;refine jh (λσ' h'=> ∃m l3,σ'= [some (.lst p),some (.int (k:Int)),some (.int way),some (.int o),some (.int m),none,none,none,none,none]/\0<m/\m<=1000000/\0<=l3/\h' p=some [.int l3,.int fl]/\But p h h') (λC hC=>⟨⟨by decide,by decide,by decide⟩,(by show 4<=sizeLine;decide),λp1 e1=>⟨_,rfl,p,l2,fl,4,rfl,ju kA e1,l20,by decide,by decide,λr l3 r0 r1 l30=> ?_⟩⟩) ?_
 ·obtain⟨most,ho,eo⟩:=XQ (xs:= [D.int 1,D.int 1,D.int 3,D.int (10^Int.toNat 6)]) r0 r1;obtain⟨m,e,m1,m2⟩: ∃o:Int,most= .int o/\0<o/\o<=1000000:=by
   simp only [R6,B1,G0m] at ho;rcases ho with e|e|e|e<;>exact⟨_,e,by decide,by decide⟩
  subst e;exact⟨_,_,jw (jX kA e1) jd,eo,hC _ _ ⟨m,l3,rfl,m1,m2,l30,jd,(bA.new e1).put⟩⟩
 clear kA bA;rintro _ h2 ⟨m,l3,rfl,m1,m2,l30,kB,bB⟩;refine jh (λσ' h'=> ∃R,σ'= [some (.lst p),some (.int (k:Int)),some (.int way),some (.int o),some (.int m),some (.lst R),none,none,none,none]/\R≠p/\h R=none/\h' R=some []/\h' p=some [.int l3,.int fl]/\But p h h') (λC hC=>⟨(by show 0<=sizeLine;decide),λR eR=>hC _ _ ⟨R,rfl,jX kB eR,Ri bB eR (jX kB eR),jd,ju kB eR,bB.new eR⟩⟩) ?_;clear kB bB;rintro _ h3 ⟨R,rfl,nR,fR,kR,kC,bC⟩;refine jh (λσ' h'=> ∃a b c d l4 rows,σ'= [some (.lst p),some (.int (k:Int)),some (.int way),some (.int o),some (.int m),some (.lst R),a,b,c,d]/\0<=l4/\h' p=some [.int l4,.int fl]/\h' R=some (rows.map Up)/\But p h h'/\GoodTab k rows) (λC hC=> ?_) (λσ' h' ⟨a,b,c,d,l4,rows,e,l40,kD,kE,bD,g⟩=>by subst e;exact⟨_,rfl,_,kE,_,bD.sub kD,q rows l4 g l40⟩);refine Jw k (λi σ' h'=> ∃a b c d l4 rows,σ'= [some (.lst p),some (.int (k:Int)),some (.int way),some (.int o),some (.int m),some (.lst R),a,b,c,d]/\0<=l4/\h' p=some [.int l4,.int fl]/\h' R=some (rows.map Up)/\But p h h'/\rows.length=i/\ ∀r∈rows,XS k r) (by omega) (λR' r=>⟨_,rfl,r⟩)
  ⟨none,none,none,none,l3,[],rfl,l30,kC,kR,bC,rfl,λr hr=>nomatch hr⟩ (λσ' h' z=>hC _ _ z) ?_
 clear kC kR bC;rintro i _ h4 hi ⟨a,b,c,d,l4,rows,rfl,l40,kD,kE,bD,g1,g2⟩;refine jh (λσ' h'=> ∃S,σ'= [some (.lst p),some (.int (k:Int)),some (.int way),some (.int o),some (.int m),some (.lst R),some (.int (i:Int)),some (.lst S),c,d]/\S≠p/\S≠R/\h S=none/\h' S=some []/\h' p=some [.int l4,.int fl]/\h' R=some (rows.map Up)/\But p h h') (λC hC=>⟨(by show 0<=sizeLine;decide),λS eS=>hC _ _ ⟨S,rfl,jX kD eS,jX kE eS,Ri bD eS (jX kD eS),jd,ju kD eS,ju kE eS,bD.new eS⟩⟩) ?_;clear kD kE bD;rintro _ h5 ⟨S,rfl,nS,nSR,fS,kS,kD,kE,bD⟩;refine jh (λσ' h'=> ∃c d l5 row,σ'= [some (.lst p),some (.int (k:Int)),some (.int way),some (.int o),some (.int m),some (.lst R),some (.int (i:Int)),some (.lst S),c,d]/\0<=l5/\h' p=some [.int l5,.int fl]/\h' R=some (rows.map Up)/\h' S=some (row.map D.int)/\But p h h'/\XS k row) (λC hC=> ?_) ?_
 rotate_left
 ·rintro _ h6 ⟨c,d,l5,row,rfl,l50,kD,kE,kF,bD,g⟩;refine⟨_,rfl,R,rfl,_,rfl,_,kF,_,kE,?_,_,Sub.refl _,by omega,_,_,_,_,l5,rows++ [row],rfl,l50,jw (Ne.symm nR) kD,?_,bD.putNew fR,by rw [G3,g1];rfl,?_⟩
  ·rw [G1];exact U4 (show rows.length<=1000 by omega) (by decide)
  ·rw [jd,T7];rfl
  ·intro r hr;rcases P7.mp hr with z|z
   ·exact g2 r z
   ·rw [G5.mp z];exact g
 refine Jw k (λj σ' h'=> ∃c d l5 row,σ'= [some (.lst p),some (.int (k:Int)),some (.int way),some (.int o),some (.int m),some (.lst R),some (.int (i:Int)),some (.lst S),c,d]/\0<=l5/\h' p=some [.int l5,.int fl]/\h' R=some (rows.map Up)/\h' S=some (row.map D.int)/\But p h h'/\row.length=j/\ ∀x∈row,0<=x/\x<=1000000) (by omega) (λR' r=>⟨_,rfl,r⟩)
  ⟨_,_,l4,[],rfl,l40,kD,kE,kS,bD,rfl,λr hr=>nomatch hr⟩ (λσ' h' z=>hC _ _ z) ?_
 clear kD kE kS bD;rintro j _ h6 hj ⟨c,d,l5,row,rfl,l50,kD,kE,kF,bD,g1',g2'⟩;refine jh (λσ' h'=> ∃ (g:Bool) (l6:Int),σ'= [some (.lst p),some (.int (k:Int)),some (.int way),some (.int o),some (.int m),some (.lst R),some (.int (i:Int)),some (.lst S),some (.int (j:Int)),some (.bl g)]/\0<=l6/\h' p=some [.int l6,.int fl]/\h' R=some (rows.map Up)/\h' S=some (row.map D.int)/\But p h h') (λC hC=>⟨_,rfl,_,rfl,p,l5,fl,o,rfl,kD,l50,o1,by omega,λr l6 r0 r1 l60=>hC _ _ ⟨_,l6,rfl,l60,jd,jw nR kE,jw nS kF,bD.put⟩⟩) ?_;clear kD kE kF bD;rintro _ _ ⟨g,l6,rfl,l60,kD,kE,kF,bD⟩;refine jh (λσ' h'=> ∃ (g:Bool) (l6:Int),σ'= [some (.lst p),some (.int (k:Int)),some (.int way),some (.int o),some (.int m),some (.lst R),some (.int (i:Int)),some (.lst S),some (.int (j:Int)),some (.bl g)]/\0<=l6/\h' p=some [.int l6,.int fl]/\h' R=some (rows.map Up)/\h' S=some (row.map D.int)/\But p h h') (λC hC=>⟨_,rfl,_,rfl,VW (λ_=>⟨_,rfl,_,rfl,_,rfl,by omega,_,rfl,VW (λ_=>hC _ _ ⟨_,l6,rfl,l60,kD,kE,kF,bD⟩) λ_=>⟨_,rfl,_,rfl,VW (λ_=>⟨_,rfl,p,l6,fl,2,rfl,kD,l60,by decide,by decide,λr l7 r0 r1 l70=>⟨_,rfl,hC _ _ ⟨_,l7,rfl,l70,jd,jw nR kE,jw nS kF,bD.put⟩⟩⟩) λ_=>hC _ _ ⟨_,l6,rfl,l60,kD,kE,kF,bD⟩⟩⟩) λ_=>hC _ _ ⟨_,l6,rfl,l60,kD,kE,kF,bD⟩⟩) ?_;clear kD kE kF bD;rintro _ _ ⟨g,l6,rfl,l60,kD,kE,kF,bD⟩;refine jh (λσ' h'=> ∃ (g:Bool) (l6:Int),σ'= [some (.lst p),some (.int (k:Int)),some (.int way),some (.int o),some (.int m),some (.lst R),some (.int (i:Int)),some (.lst S),some (.int (j:Int)),some (.bl g)]/\0<=l6/\h' p=some [.int l6,.int fl]/\h' R=some (rows.map Up)/\h' S=some (row.map D.int)/\But p h h') (λC hC=>⟨_,rfl,_,rfl,VW (λ_=>⟨_,rfl,_,rfl,VW (λ_=>⟨_,rfl,_,rfl,by decide,_,rfl,VW (λ_=>hC _ _ ⟨_,l6,rfl,l60,kD,kE,kF,bD⟩) λ_=>⟨_,rfl,_,rfl,hC _ _ ⟨_,l6,rfl,l60,kD,kE,kF,bD⟩⟩⟩) λ_=>⟨_,rfl,VW (λ_=>hC _ _ ⟨_,l6,rfl,l60,kD,kE,kF,bD⟩) λ_=>⟨_,rfl,_,rfl,hC _ _ ⟨_,l6,rfl,l60,kD,kE,kF,bD⟩⟩⟩⟩) λ_=>hC _ _ ⟨_,l6,rfl,l60,kD,kE,kF,bD⟩⟩) ?_;clear kD kE kF bD;rintro _ _ ⟨g,l6,rfl,l60,kD,kE,kF,bD⟩;refine jh (λσ' h'=> ∃ (g:Bool) (l6:Int),σ'= [some (.lst p),some (.int (k:Int)),some (.int way),some (.int o),some (.int m),some (.lst R),some (.int (i:Int)),some (.lst S),some (.int (j:Int)),some (.bl g)]/\0<=l6/\h' p=some [.int l6,.int fl]/\h' R=some (rows.map Up)/\h' S=some (row.map D.int)/\But p h h') (λC hC=>⟨_,rfl,_,rfl,VW (λ_=>⟨_,rfl,_,rfl,VW (λ_=>⟨_,rfl,_,rfl,hC _ _ ⟨_,l6,rfl,l60,kD,kE,kF,bD⟩⟩) λ_=>hC _ _ ⟨_,l6,rfl,l60,kD,kE,kF,bD⟩⟩) λ_=>hC _ _ ⟨_,l6,rfl,l60,kD,kE,kF,bD⟩⟩) ?_;clear kD kE kF bD;rintro _ _ ⟨g,l6,rfl,l60,kD,kE,kF,bD⟩;have gi: ∀x r:Int,0<=r->r<m->x=0\/x=1->CMul x (1+r)/\0<=x*(1+r)/\x*(1+r)<=1000000:=λx r r0 r1 hx=>by
  rcases hx with e|e<;>subst e
  ·exact⟨.inl ⟨by decide,by decide⟩,by omega,by omega⟩
  ·exact⟨.inl ⟨by decide,by decide⟩,by omega,by omega⟩
 refine⟨_,rfl,S,rfl,_,rfl,_,rfl,_,rfl,p,l6,fl,m,rfl,kD,l60,m1,by omega,λr l7 r0 r1 l70=> ?_⟩;have gg:=gi (if g=true then 1 else 0) r r0 r1 (by cases g<;>decide);refine⟨gg.1,_,jw nS kF,?_,_,Sub.refl _,by omega,_,_,l7,row++ [(if g=true then 1 else 0)*(1+r)],rfl,l70,jw (Ne.symm nS) jd,jw (Ne.symm nSR) (jw nR kE),?_,(bD.put).putNew fS,by rw [G3,g1'];rfl,?_⟩
 ·rw [G1];exact U4 (show row.length<=1000 by omega) (by decide)
 ·rw [jd,T7];rfl
 ·intro x hx;rcases P7.mp hx with z|z
  ·exact g2' x z
  ·rw [G5.mp z];exact gg.2
theorem hds_in {p j:Nat}:j∈XC T n p↔j<n/\ent T p j>0:=by unfold XC;rw [List.mem_filter,List.mem_range,decide_eq_true_iff]
theorem BD {x:D}{k:Int}(h: ∀p j,p<n->j<n->ent T p j>0->wz x j=(wz x p+1)%k):EM T n x k=true:=
 S5.mpr λp hp=>S5.mpr λj hj=>P0 (h p j (D1.mp hp) (hds_in.mp hj).1 (hds_in.mp hj).2)
theorem YG {rs:List Nat}{j:Nat}:wz (jx rs) j=(rs.getD j 0:Int):=by
 unfold wz jx;dsimp only;rw [P2,P2,P3];cases rs[j]? with
 |none=>rfl
 |some x=>rfl
theorem TurnsOf.hold {d:Nat}{rs:List Nat}(t:TurnsOf T n d rs)(d1:1<=d)(d6:d<=6):BA T n (.tup [.int (d:Int),jx rs])=true:=by
 show (zd (.int (d:Int)) 1 6&&(yM (jx rs) n (d:Int)&&EM T n (jx rs) (d:Int)))=true;have a:zd (.int (d:Int)) 1 6=true:=by show (decide ((1:Int)<=d)&&decide ((d:Int)<=6))=true;rw [P0 (by omega),P0 (by omega)];rfl
 have b:yM (jx rs) n (d:Int)=true:=by
  show (decide (((rs.map λ(k:Nat)=>D.int (k:Int)).length:Int)=n)&&(rs.map λ(k:Nat)=>D.int (k:Int)).all (λx=>zd x 0 ((d:Int)-1)))=true;rw [G1,t.len,P0 rfl,X5,H0,S5];intro x hx;obtain⟨j,hj,rfl⟩:=N4 hx;have:=t.lt j (by rw [<-t.len];exact hj);rw [P2,G0 hj] at this;have this:rs[j]<d:=this;show (decide ((0:Int)<=(rs[j]:Int))&&decide ((rs[j]:Int)<=(d:Int)-1))=true;rw [P0 (by omega),P0 (by omega)];rfl
 rw [a,b,BD λp j hp hj ar=>by rw [YG,YG,t.go p j hp hj (by omega),W8];rfl];rfl
theorem yN: ∀S:List (List Nat),ToPs h (S.map jx) (S.map vV)
 | []=>rfl
 |a::S=>⟨_,_,rfl,yD h a,yN S⟩
theorem LX {A B:Addr}{S:List (List Nat)}(k:h A=some (S.map jx))(k':h B=some [])(q:Q (.bl (!decide (S= []))) h):neE (.lst A) (.lst B) h Q:=by
 refine⟨.list (S.map vV),.list [],⟨A,_,rfl,k,yN S⟩,⟨B,_,rfl,k',rfl⟩,wZ S,by decide +kernel,?_⟩;cases S with
 |nil=>exact q
 |cons a S=>exact q
theorem EQ {t2:TED}{f:RD2}{A B:TSD}{E:EndsD}(x:vb b js ti tt te σ h λy h1=>t2 σ h1 λd h2=>f y d h2 λz h3=> ∃k,z= .bl k/\if k=true then A E σ h3 else B E σ h3):Fq (Zo (dOp f (vb b js ti tt te) t2)) A B E σ h:=x
theorem LY {A B:Addr}{S:List (List Nat)}(k:h A=some (S.map jx))(k':h B=some [])(q:Q (.bl (decide (S= []))) h):eqE (.lst A) (.lst B) h Q:=by
 refine⟨.list (S.map vV),.list [],⟨A,_,rfl,k,yN S⟩,⟨B,_,rfl,k',rfl⟩,wZ S,by decide +kernel,?_⟩;cases S with
 |nil=>exact q
 |cons a S=>exact q
theorem Wz: ∀P:List (List Nat),PyData.eqvAll (P.map vV) (P.map vV)=true
 | []=>by simp [PyData.eqvAll]
 |a::P=>by simp only [S1,PyData.eqvAll,vx,decide_true,X5];exact Wz P
theorem BE {A B:Addr}{S:List (List Nat)}(k:h A=some (S.map jx))(k':h B=some (S.map jx))(q:Q (.bl false) h):neE (.lst A) (.lst B) h Q:=by
 refine⟨.list (S.map vV),.list (S.map vV),⟨A,_,rfl,k,yN S⟩,⟨B,_,rfl,k',yN S⟩,wZ S,wZ S,?_⟩;rw [show PyData.eqv (.list (S.map vV)) (.list (S.map vV))=true by simp only [PyData.eqv];exact Wz S];exact q
theorem ER {a b:Bool}(e:a=b)(q:Q (.bl false) h):neE (.bl a) (.bl b) h Q:=by
 subst e;show Q (.bl (!decide (a=a))) h;rw [P0 rfl];exact q
theorem YH (h:Sq n e T)(hn:n<=6)(i:Nat):(wt T ((ya T n).take i)).length<=415:=by
 have a:(wt T (ya T n)).length<=415:=by
  rw [<- (zj _).length_eq,Jk h (by omega)];exact YB hn
 refine D7 ?_ a;unfold wt;exact(Jj (λa=>List.Sublist.refl _) (O5 i (ya T n))).length_le
theorem ES (Z:Zs mg)(F:Fun K "law" "law" PB f fd)(Qt:jp P w K mg base n "_law_cell" ["_law_script","_law_k"] Zi)(PD:jp P w K mg base n "_law_pen" ["_law_cell_here"] Wy)(UW:jp P w K mg base n "_law_table" ["_law_pen_here","_law_size_here"] Jn)(Qu:jp P w K mg base n "_law_size" ["_law_pen_here"] Zj)(Vz:jp P w K mg base n "pieces" ["table"] Wv)(EU:jp P w K mg base n "part" ["table","some"] Mu)(yO:jp P w K mg base n "all_rounds" ["table"] ye)(Mx:jp P w K mg base n "beat" ["table"] Qq)(Vy:jp P w K mg base n "joined" ["table"] Ww)(UY:jp P w K mg base n "turns_hold" ["table","thing"] Jm)(PH:jp P w K mg base n "turns_of" ["table"] Wx)(QB:jp P w K mg base n "set_after" ["table","some","k"] Zf)(ww:jp P w K mg base n "_law_draw" ["_law_pen_here","_law_many"] wA):FnOk P w K mg base CX0 (n+1) f fd ["_law_script"] (LSp K Rg):=by
 obtain⟨BJ,MW,QC,Xc,Xo,Xu⟩:=Qt;obtain⟨Cy,BQ,PJ,QM,Gd,Gh⟩:=PD;obtain⟨MT,MK,UZ,VE,VM,VQ⟩:=UW;obtain⟨BK,MX,QD,Xd,Xp,Xv⟩:=Qu;obtain⟨PV,Gc,VC,WE,WK,WN⟩:=Vz;obtain⟨Sl,EY,EV,Ob,Of,Og⟩:=EU;obtain⟨Yc,WG,wB,wf,wg,wj⟩:=yO;obtain⟨BN,MM,MB,QN,Ge,Gi⟩:=Mx;obtain⟨PU,Gb,VB,WD,WJ,WM⟩:=Vy;obtain⟨MV,MN,Xb,VH,VP,VT⟩:=UY;obtain⟨CA,BS,PL,QQ,Gg,Gk⟩:=PH;obtain⟨BP,Nb,QL,Xh,Xt,Xz⟩:=QB;obtain⟨Jr,vh,jT,jG,jH,jI⟩:=ww;refine F.okJ wX (λds h Q q=>by obtain⟨ns,e,hh,hns,q⟩:=q;subst e;rfl) _ (λcdv A outer s H E hr=>(je (MS N3 rfl (FU (jop wP (Gt (jac (jB QC hr rfl Xu Xo Xc (jac (jv 0) (by exact(jac jK jc)))) jc)) (Rn (jv 0) (Vb jK) (Vb jK)))) (wG (i:=1) wX.nd rfl (Or.inl rfl)) (je (yY (i:=2) wX.nd rfl (Or.inl rfl) (jB PJ hr rfl Gh Gd QM (jac (jv 1) jc))) (by exact(je (yY (i:=3) wX.nd rfl (Or.inl rfl) (jB UZ hr rfl VQ VM VE (jac (jv 2) (by exact(jac (jB QD hr rfl Xv Xp Xd (jac (jv 2) jc)) jc))))) (by exact(je (yY (i:=4) wX.nd rfl (Or.inl rfl) (Gt jc)) (by exact(je (MS N3 rfl (zQ (jB VC hr rfl WN WK WE (jac (jv 3) jc))) (wG (i:=5) wX.nd rfl (by first|exact Or.inr rfl|exact Or.inl rfl)) (je (yY (i:=6) wX.nd rfl (Or.inl rfl) (jB EV hr rfl Og Of Ob (jac (jv 3) (by exact(jac (jv 5) jc))))) (by exact(je (yY (i:=7) wX.nd rfl (Or.inl rfl) (jB wB hr rfl wj wg wf (jac (jv 6) jc))) (by exact(je (ZD (jpt (Oj (Jx (yC (jB VB hr rfl WM WJ WD (jac (jv 6) jc)))) (Oi (wc (Rj hr.units) (XA oq_eq (jB MB hr rfl Gi Ge QN (jac (jv 6) jc)) jK (jz _)) (XA (ZZ hr.units) (jv 7) (Gt jc) (jz _)) (jz _))))) (jg (wM jbl)) ze) (by exact(je (yY (i:=4) wX.nd rfl (Or.inl rfl) (jop wP (jv 4) (jlc (i:=9) (js:= [9]) rfl (jm (by rfl)) (zQ (jv 7)) (by decide) wX.nd rfl (by first|exact Or.inl rfl|exact Or.inr rfl) (λX' hX=>zc) (λX' hX=>by obtain⟨C,s₀,H₀,ex,rfl⟩:=hX;exact(wH wQ rfl Z.tuple (by decide +kernel) (jac (jlc (i:=10) (js:= [10]) rfl (jm (by rfl)) (zQ (jv 9)) (by decide) wX.nd rfl (by first|exact Or.inl rfl|exact Or.inr rfl) (λX' hX=>zc) (λX' hX=>by obtain⟨C,s₀,H₀,ex,rfl⟩:=hX;exact(jix (jv 5) (jv 10) (λ_ _=>rfl)))) jc)))))) (by exact(jg (ZD (wc (Rj hr.units) (jv 7) (Gt jc) (jz _)) (je (ZD (Jx (yC (jB Xb hr rfl VT VP VH (jac (jv 6) (by exact(jac (jB PL hr rfl Gk Gg QQ (jac (jv 6) jc)) jc)))))) (jg (wM jbl)) ze) (by exact(je (yY (i:=8) wX.nd rfl (Or.inl rfl) (jB QL hr rfl Xz Xt Xh (jac (jv 3) (by exact(jac (Rn (jv 5) Rm (Vb jK)) (by exact(jac (jop wP (jop DV jK jK) (jB jT hr rfl jI jH jG (jac (jv 2) (by exact(jac jK jc))))) jc))))))) (by exact(jg (ZD (wc (ZZ hr.units) (jlc (i:=10) (js:= [10]) rfl (jm (by rfl)) (zQ (jv 8)) (by decide) wX.nd rfl (by first|exact Or.inl rfl|exact Or.inr rfl) (λX' hX=>by obtain⟨C,s₀,H₀,ex,rfl⟩:=hX;exact JB (wc (En hr.units) (jv 10) (jv 5) (by with_unfolding_all rfl))) (λX' hX=>by obtain⟨C,s₀,H₀,ex,rfl⟩:=hX;exact(jv 10))) (Gt jc) (jz _)) (jg (wM jbl)) ze)))))) ze))))))))))) (by exact(jg (ZD (wc (Rj hr.units) (jJ (Yz hr) rfl Z.sorted (by decide +kernel) (jac (jv 4) jc)) (jB wB hr rfl wj wg wf (jac (jv 3) jc)) (jz _)) (jg (wM jbl)) ze))))))))))) (by exact(jg (wM jbl))))) ?_;intro ds h Q q;obtain⟨ns,e,hh,hns,q⟩:=q;subst e;refine jh (λσ' h'=>True) (λC hC=> ?_) (λσ' h3 hV=>⟨h3,Sub.refl _,q h3⟩);refine⟨_,rfl,ns,0,rfl,(by decide),λn0=>⟨(by show 1<=sizeLine;decide),λp1 e1=>⟨_,rfl,_,rfl,_,rfl,λp2 e2=>⟨_,_,ju jd e2,jd,?_,λp3 e3=>⟨p3,rfl,?_⟩⟩⟩⟩⟩
 ·have:(VX ns (some 1) (some 3)).length<=ns.length:=by unfold VX;rw [List.length_take,List.length_drop];omega
  rw [G1];exact D8 (jA (by simp only [D3,S8];omega))
 generalize hcs:([D.int n0]++(VX ns (some 1) (some 3)).map D.int)=cs;have hint: ∀d∈cs,∃c,d= .int c:=λd hd=>by
  rw [<-hcs] at hd;rcases P7.mp hd with z|z
  ·exact⟨n0,G5.mp z⟩
  ·obtain⟨x,_,e⟩:=P9.mp z;exact⟨x,e.symm⟩
 refine ZY cs (λi σ' h'=> ∃a1 a2 a3 a4 a5 a6 a7 a8 a9 a10,σ'= [some (.scr ns),a1,a2,a3,a4,a5,a6,a7,a8,a9,a10]/\h' p3=some cs) (λi σ' h' ⟨_,_,_,_,_,_,_,_,_,_,_,k⟩=>k) ⟨_,_,_,_,_,_,_,_,_,_,rfl,jd⟩ (λσ' h' _=>hC _ _ True.intro) ?_;rintro i d _ h4 hi ⟨b1,b2,b3,b4,b5,b6,b7,b8,b9,b10,rfl,k3⟩;obtain⟨c,rfl⟩:=hint d (G6 hi);have hil:i<cs.length:=(G7.mp hi).1;show MR _ _ _ [some (.scr ns),some (.int c),b2,b3,b4,b5,b6,b7,b8,b9,b10] h4;refine jh (λσ' h'=> ∃p l fl,σ'= [some (.scr ns),some (.int c),some (.lst p),b3,b4,b5,b6,b7,b8,b9,b10]/\h' p=some [.int l,.int fl]/\0<=l/\h' p3=some cs/\p3≠p) (λC hC=> ?_) ?_
 ·refine⟨_,rfl,c,rfl,λp l fl ep l0 _=>hC _ _ ⟨p,l,fl,rfl,jd,l0,ju k3 ep,Ne.symm (jX k3 ep)⟩⟩
 rintro _ h5 ⟨p,l,fl,rfl,kp,l0,k3,n3⟩;refine jh (λσ' h'=> ∃ (n:Nat) (T:List (List Int)) (l2:Int),σ'= [some (.scr ns),some (.int c),some (.lst p),some (jY T),b4,b5,b6,b7,b8,b9,b10]/\1<=n/\n<=6/\Sq n 20 T/\h' p=some [.int l2,.int fl]/\0<=l2/\h' p3=some cs) (λC hC=>⟨_,rfl,_,rfl,p,l,fl,rfl,kp,l0,λn l2 n1 n6 l20=>⟨p,l2,fl,n,rfl,jd,l20,n1,n6,λT l3 gT l30=>hC _ _ ⟨n,T,l3,rfl,n1,n6,gT.sq,jd,l30,jw n3 (jw n3 k3)⟩⟩⟩) ?_;clear kp l0 k3;rintro _ h6 ⟨n,T,l2,rfl,n1,n6,hT,kp,l20,k3⟩;have h8:n<=8:=by omega
 refine jh (λσ' h'=> ∃F,σ'= [some (.scr ns),some (.int c),some (.lst p),some (jY T),some (.lst F),b5,b6,b7,b8,b9,b10]/\F≠p/\h' F=some []/\h' p=some [.int l2,.int fl]/\0<=l2/\h' p3=some cs) (λC hC=>⟨(by show 0<=sizeLine;decide),λF eF=>hC _ _ ⟨F,rfl,jX kp eF,jd,ju kp eF,l20,ju k3 eF⟩⟩) ?_;clear kp l20 k3;rintro _ h7 ⟨F,rfl,nF,kF,kp,l20,k3⟩;refine jh (λσ' h'=> ∃F x5 x6 x7 x8 x9 x10,σ'= [some (.scr ns),some (.int c),some (.lst p),some (jY T),some (.lst F),x5,x6,x7,x8,x9,x10]/\h' F=some ((wt T (ya T n)).map jx)/\h' p3=some cs) (λC hC=>⟨_,rfl,T,n,20,rfl,hT,n1,n6,λA h8' fA kA sA=> ?_⟩) ?_
 ·have nA:A≠p:=λz=>by subst z;rw [kp] at fA;cases fA
  refine ZY (j:=λh=>h A) ((ya T n).map jx) (λi σ' h'=> ∃F x5 x6 x7 x8 x9 x10 l2,σ'= [some (.scr ns),some (.int c),some (.lst p),some (jY T),some (.lst F),x5,x6,x7,x8,x9,x10]/\F≠p/\h' F=some ((wt T ((ya T n).take i)).map jx)/\h' A=some ((ya T n).map jx)/\h' p=some [.int l2,.int fl]/\0<=l2/\h' p3=some cs) (λi σ' h' ⟨_,_,_,_,_,_,_,_,_,_,_,z,_⟩=>z) ⟨F,_,_,_,_,_,_,l2,rfl,nF,by rw [V9];exact sA _ _ kF,kA,sA _ _ kp,l20,sA _ _ k3⟩ (λσ' h' ⟨F,x5,x6,x7,x8,x9,x10,l2,e,_,kF,_,_,_,k3⟩=>hC _ _ ⟨F,x5,x6,x7,x8,x9,x10,e,by rw [G1,E9] at kF;exact kF,k3⟩) ?_;clear kF kA kp k3 l20 nF fA sA;rintro i d _ h9 hd ⟨F,x5,x6,x7,x8,x9,x10,l2,rfl,nF,kF,kA,kp,l20,k3⟩;have il:=(G7.mp hd).1;rw [P3] at hd;obtain⟨S,hSi,rfl⟩:=M7.mp hd;have hSm:=G6 hSi;have is:=Mc S hSm;obtain⟨pp,hpp,eS⟩:=mem_pcs.mp hSm;have m1:1<=S.length:=by rw [eS];exact A0 (Wq hpp)
  have m6:S.length<=6:=D7 is.len n6;have neS:S≠ []:=λz=>by rw [z] at m1;simp at m1
  have hU:Sq S.length 20 (jS S T):=Wo hT λi hi=>is.lt hi
  have oneU:(ya (jS S T) S.length).length=1:=by rw [eS];exact GQ hT h8 hpp
  have rl:=YB (T:=(jS S T)) m6;show MR _ _ _ [some (.scr ns),some (.int c),some (.lst p),some (jY T),some (.lst F),some (jx S),x6,x7,x8,x9,x10] h9;refine jh (λσ' h'=>σ'= [some (.scr ns),some (.int c),some (.lst p),some (jY T),some (.lst F),some (jx S),some (jY (jS S T)),x7,x8,x9,x10]/\h9=h') (λC2 hC2=>⟨_,rfl,_,rfl,T,S,n,20,rfl,hT,n1,n6,is,neS,hC2 _ _ ⟨rfl,rfl⟩⟩) ?_;rintro _ _ ⟨rfl,rfl⟩;refine jh (λσ' h'=> ∃B,σ'= [some (.scr ns),some (.int c),some (.lst p),some (jY T),some (.lst F),some (jx S),some (jY (jS S T)),some (.lst B),x8,x9,x10]/\B≠p/\h' B=some ((jC (jS S T) S.length).map jx)/\Sub h9 h') (λC2 hC2=>⟨_,rfl,(jS S T),S.length,20,rfl,hU,m1,m6,λB h' fB kB sB=>hC2 _ _ ⟨B,rfl,(λz=>by subst z;rw [kp] at fB;cases fB),kB,sB⟩⟩) ?_;rintro _ hA ⟨B,rfl,nB,kB,sB⟩;have kF:=sB _ _ kF;have kA:=sB _ _ kA;have kp:=sB _ _ kp;have k3:=sB _ _ k3;have bz:decide (((we (jS S T) S.length:Nat):Int)=0)=decide (jC (jS S T) S.length= []):=decide_eq_decide.mpr ⟨λz=>by
   rcases G0F (jC (jS S T) S.length= []) with w|w
   ·exact w
   ·obtain⟨v,hv⟩:=K5 _ w;have dv:we (jS S T) S.length∣v.length:=UF hv;have l1:=(Vl hU (by omega) hv).1;rw [show we (jS S T) S.length=0 by omega] at dv;have:=Nat.eq_zero_of_zero_dvd dv;omega,λz=>by unfold we;rw [z];rfl⟩
  refine jh (λσ' h'=>σ'= [some (.scr ns),some (.int c),some (.lst p),some (jY T),some (.lst F),some (jx S),some (jY (jS S T)),some (.lst B),x8,x9,x10]/\Sub hA h') (λC2 hC2=>⟨_,rfl,(jS S T),S.length,20,rfl,hU,m1,m6,_,rfl,?_⟩) ?_
  ·rw [P0 oneU];refine Ju ⟨_,rfl,(jS S T),S.length,20,rfl,hU,m1,m6,oneU,_,rfl,(by show 0<=sizeLine;decide),λG eG=>LY (ju kB eG) jd (ER bz ⟨_,rfl,Ju (hC2 _ _ ⟨rfl,(Sub.refl hA).newAt eG⟩)⟩)⟩
  rintro _ hB ⟨rfl,sB2⟩;have kF:=sB2 _ _ kF;have kA:=sB2 _ _ kA;have kp:=sB2 _ _ kp;have k3:=sB2 _ _ k3;have kB:=sB2 _ _ kB;have tk:wt T ((ya T n).take (i+1))=wt T ((ya T n).take i)++(jC (jS S T) S.length).map (upW S):=by
   unfold wt;rw [M0,hSi,Y3];simp
  have flen:=YH hT n6 (i+1);refine jh (λσ' h'=> ∃F,σ'= [some (.scr ns),some (.int c),some (.lst p),some (jY T),some (.lst F),some (jx S),some (jY (jS S T)),some (.lst B),x8,x9,x10]/\F≠p/\h' F=some ((wt T ((ya T n).take (i+1))).map jx)/\Sub hB h') (λC2 hC2=>⟨_,rfl,lcA (j:=λh=>h B) (jC (jS S T) S.length) jx (λw=>jx (upW S w)) (by omega) kB (λR r=>⟨_,rfl,r⟩) (λw hw Q' q'=> ?_) λG eG=>⟨_,_,ju kF eG,jd,?_,λF2 eF2=>hC2 _ _ ⟨F2,rfl,jX (ju kp eG) eF2,?_,((Sub.refl hB).newAt eG).newAt eF2⟩⟩⟩) ?_
  ·obtain⟨s,hs,o,_⟩:=wT hw;refine Sf w (λ(k:Nat)=> .int (k:Int)) (λ(k:Nat)=> .int ((S.getD k 0:Nat):Int)) (by rw [o.len];omega) rfl (λR r=>⟨_,rfl,r⟩) (λk hk Q2 q2=>⟨_,rfl,_,rfl,_,wE (by rw [P3,G0 (o.lt k hk)];rfl),?_⟩) ?_
   ·rw [WV k (o.lt k hk)] at q2;exact q2
   ·have:jx (upW S w)= .tup (w.map λ(k:Nat)=>D.int ((S.getD k 0:Nat):Int)):=by unfold jx upW;rw [List.map_map];rfl
    rw [<-this];exact q'
  ·rw [tk,G3,G1] at flen;rw [G1,G1];exact D8 (jA (by omega))
  ·rw [jd,tk,T7,S6];rfl
  rintro _ hC' ⟨F2,rfl,nF2,kF2,sC⟩;have kA:=sC _ _ kA;have kp:=sC _ _ kp;have k3:=sC _ _ k3;have kB:=sC _ _ kB;refine⟨_,rfl,(by show 0<=sizeLine;decide),λG eG=>LX (ju kB eG) jd ⟨_,rfl,?_⟩⟩
  by_cases nil:jC (jS S T) S.length= []
  ·rw [P0 nil];exact Ju ⟨hC',(Sub.refl _).newAt eG,by rw [G1];rw [G1] at il;omega,F2,_,_,_,_,_,_,l2,rfl,nF2,kF2,kA,kp,l20,k3⟩
  ·rw [D6 nil];have nz:we (jS S T) S.length≠0:=λz=>by
    have:decide (((we (jS S T) S.length:Nat):Int)=0)=true:=P0 (by omega);rw [bz] at this;exact nil (R8 this)
   obtain⟨b1,b6⟩:=YF m6 nz;have kA:=ju (M:= []) kA eG;have kp:=ju (M:= []) kp eG;have k3:=ju (M:= []) k3 eG;have kF2:=ju (M:= []) kF2 eG;generalize zY hC' G []=hG at kA kp k3 kF2;refine Yj ?_;refine jh (λσ' h'=>σ'= [some (.scr ns),some (.int c),some (.lst p),some (jY T),some (.lst F2),some (jx S),some (jY (jS S T)),some (.lst B),x8,x9,x10]/\Sub hG h') (λC2 hC2=>⟨_,rfl,_,rfl,(jS S T),S.length,20,rfl,hU,m1,m6,oneU,nz,λrs h' tr _ sb=>⟨(jS S T),_,S.length,20,rfl,hU,m1,m6,?_,_,rfl,?_⟩⟩) ?_
   ·refine UL (by show 2<=1000;decide) λd hd=> ?_
    simp only [R6,B1,G0m] at hd;rcases hd with e|e<;>subst e
    ·rfl
    ·exact UL (by rw [G1,tr.len];omega) λd hd=>by obtain⟨x,_,rfl⟩:=P9.mp hd;rfl
   ·rw [tr.hold b1 b6];exact Ju (hC2 _ _ ⟨rfl,sb⟩)
   rintro _ hH ⟨rfl,sH⟩;have kA:=sH _ _ kA;have kp:=sH _ _ kp;have k3:=sH _ _ k3;have kF2:=sH _ _ kF2;have s0:S.getD 0 0∈S:=by rw [WV 0 (by omega)];exact D4 _
   have c1:D.tup (VX (S.map λ(k:Nat)=>D.int (k:Int)) none (some 1))=jx [S.getD 0 0]:=by
    rw [Rf];cases S with
    |nil=>exact absurd rfl neS
    |cons a r=>rfl
   refine jh (λσ' h'=> ∃ (k:Nat) (l2:Int),σ'= [some (.scr ns),some (.int c),some (.lst p),some (jY T),some (.lst F2),some (jx S),some (jY (jS S T)),some (.lst B),some (jx (itF (jL n T) [S.getD 0 0] k)),x9,x10]/\0<=l2/\h'=zY hH p [.int l2,.int fl]) (λC2 hC2=>⟨_,rfl,_,rfl,_,rfl,⟨by decide,by decide,by decide⟩,_,rfl,p,l2,fl,60,rfl,kp,l20,by decide,by decide,λx l4 x0 x1 l40=>⟨T,[S.getD 0 0],n,20,1000000+x.toNat,?_,hT,n1,n6,Qh (is.lt s0),by omega,hC2 _ _ ⟨1000000+x.toNat,l4,rfl,l40,rfl⟩⟩⟩) ?_
   ·rw [c1,show ((1000000+x.toNat:Nat):Int)=(10:Int)^Int.toNat 6+x by rw [show (10:Int)^Int.toNat 6=1000000 by decide];omega]
   rintro _ _ ⟨k,l4,rfl,l40,rfl⟩;obtain⟨y,hy,ry⟩: ∃y∈S,RP n T k (S.getD 0 0) y:=by rw [eS];exact Mj hT h8 hpp (by rw [<-eS];exact nz) k
   have yi:y∈itF (jL n T) [S.getD 0 0] k:=(GP hT h8 (is.lt s0) k y).mpr ⟨is.lt hy,ry⟩;have isI:IsS n (itF (jL n T) [S.getD 0 0] k):=(Qh (is.lt s0)).it k;refine EQ (lcF (itF (jL n T) [S.getD 0 0] k) (λ(k:Nat)=> .int (k:Int)) (λ(k:Nat)=> .int (k:Int)) (λy=>decide (y∈S)) (by have:=isI.len;omega) rfl (λR r=>⟨_,rfl,r⟩) (λy _ Q' q'=>⟨_,rfl,_,rfl,Ls ⟨_,rfl,q'⟩⟩) (λy _ _ Q' q'=>⟨_,rfl,q'⟩) λM eM=>⟨(by show 0<=sizeLine;decide),λN eN=>Lt (ju jd eN) jd ⟨_,rfl,?_⟩⟩);rw [D6 λz=>by
    have:y∈(itF (jL n T) [S.getD 0 0] k).filter λy=>decide (y∈S):=S7.mpr ⟨yi,P0 hy⟩
    rw [z] at this;cases this]
   have nA':A≠p:=nA;exact Ju ⟨zY hH p [.int l4,.int fl],((Sub.refl _).newAt eM).newAt eN,by rw [G1];rw [G1] at il;omega,F2,_,_,_,_,_,_,l4,rfl,nF2,jw nF2 kF2,jw nA kA,jd,l40,jw n3 k3⟩
 clear kF kp k3 l20 nF;rintro _ hA ⟨F,x5,x6,x7,x8,x9,x10,rfl,kF,k3⟩;refine⟨_,rfl,F,(wt T (ya T n)).map toI,rfl,?_,?_,λG mss eG pm sr=>⟨_,rfl,T,n,20,rfl,hT,n1,n6,λE hE fE kE sE=>BE (S:=jC T n) (sE _ _ (by rw [jd,UC pm sr,Jk hT h8])) kE ⟨_,rfl,Ju ⟨hA,((Sub.refl hA).newAt eG).trans sE,by omega,_,_,_,_,_,_,_,_,_,_,rfl,k3⟩⟩⟩⟩
 ·rw [kF,S6];exact congrArg some (S9 λS _=>(RS S).symm)
 ·have:=YH hT n6 (ya T n).length;rw [E9] at this;rw [G1];exact jA (by omega)
end
theorem ET {l:PySem.W.OpenLaw}{w:World}{K:PySem.W.Frag}{h:Heap}{mg:Str->Option Value}{fa:Addr}(X:K.In h)(G:h.Ns mainGlobals mg)(hfa:mg "law" =some (.ref fa))
 {f0:Addr}{e0:FuncData}(d0:DefIn K "is_whole" JK f0 e0)
 {f1:Addr}{e1:FuncData}(d1:DefIn K "is_within" vy f1 e1)
 {f2:Addr}{e2:FuncData}(d2:DefIn K "is_place" JL f2 e2)
 {f3:Addr}{e3:FuncData}(d3:DefIn K "are_places" yF f3 e3)
 {f4:Addr}{e4:FuncData}(d4:DefIn K "rises" Qk f4 e4)
 {f5:Addr}{e5:FuncData}(d5:DefIn K "is_set" Vm f5 e5)
 {f6:Addr}{e6:FuncData}(d6:DefIn K "is_table_row" wK f6 e6)
 {f7:Addr}{e7:FuncData}(d7:DefIn K "has_table_form" zZ f7 e7)
 {f8:Addr}{e8:FuncData}(d8:DefIn K "want_table" yG f8 e8)
 {f9:Addr}{e9:FuncData}(d9:DefIn K "want_set" JM f9 e9)
 {f10:Addr}{e10:FuncData}(d10:DefIn K "want_number" yb f10 e10)
 {f11:Addr}{e11:FuncData}(d11:DefIn K "reaches" Wr f11 e11)
 {f12:Addr}{e12:FuncData}(d12:DefIn K "pieces_by" vz f12 e12)
 {f13:Addr}{e13:FuncData}(d13:DefIn K "pieces" Vo f13 e13)
 {f14:Addr}{e14:FuncData}(d14:DefIn K "joined" Vp f14 e14)
 {f15:Addr}{e15:FuncData}(d15:DefIn K "part" Mn f15 e15)
 {f16:Addr}{e16:FuncData}(d16:DefIn K "heads" Qm f16 e16)
 {f17:Addr}{e17:FuncData}(d17:DefIn K "greatest_into" wu f17 e17)
 {f18:Addr}{e18:FuncData}(d18:DefIn K "all_rounds" yH f18 e18)
 {f19:Addr}{e19:FuncData}(d19:DefIn K "beat" Mo f19 e19)
 {f20:Addr}{e20:FuncData}(d20:DefIn K "step_after" yI f20 e20)
 {f21:Addr}{e21:FuncData}(d21:DefIn K "set_after" vA f21 e21)
 {f22:Addr}{e22:FuncData}(d22:DefIn K "are_rests" vB f22 e22)
 {f23:Addr}{e23:FuncData}(d23:DefIn K "are_turns" vC f23 e23)
 {f24:Addr}{e24:FuncData}(d24:DefIn K "steps_from_start" zN f24 e24)
 {f25:Addr}{e25:FuncData}(d25:DefIn K "turns_hold" yJ f25 e25)
 {f26:Addr}{e26:FuncData}(d26:DefIn K "turns_of" JN f26 e26)
 {f27:Addr}{e27:FuncData}(d27:DefIn K "_law_cell" vD f27 e27)
 {f28:Addr}{e28:FuncData}(d28:DefIn K "_law_pen" JP f28 e28)
 {f29:Addr}{e29:FuncData}(d29:DefIn K "_law_draw" vE f29 e29)
 {f30:Addr}{e30:FuncData}(d30:DefIn K "_law_size" vF f30 e30)
 {f31:Addr}{e31:FuncData}(d31:DefIn K "_law_table" yK f31 e31)
 {f32:Addr}{e32:FuncData}(d32:DefIn K "law" PB f32 e32)
 {tk0:Tok}(v0:PySem.W.nsIn K mainGlobals "MOST_ROWS" =some (some (.int 6 tk0)))
 {tk1:Tok}(v1:PySem.W.nsIn K mainGlobals "MOST_STEPS" =some (some (.int 1000000000 tk1)))
 {tk2:Tok}(v2:PySem.W.nsIn K mainGlobals "MOST_TURNS" =some (some (.int 6 tk2)))
 (z:zsB K=true)
 : ∃fd:FuncData,(∀ (s:Shared) (v:Value),BindsTo s fd ⟨[v],[]⟩ [("_law_script",v)])/\ ∀base:Heap,K.In base->base.Ns mainGlobals mg->Bm mg base->FnOk l.prog w K mg base CX0 9 fa fd ["_law_script"] (LSp K Rg):=by
 have e:=hfa.symm.trans (d32.nm X G);cases e;have vJ: ∃tk,mg "MOST_ROWS" =some (.int 6 tk):=⟨_,G0W X G v0⟩;have yR: ∃tk,mg "MOST_STEPS" =some (.int 1000000000 tk):=⟨_,G0W X G v1⟩;have yS: ∃tk,mg "MOST_TURNS" =some (.int 6 tk):=⟨_,G0W X G v2⟩;have Z:=TC X G z;obtain⟨_,_,kV,dc,pm,an,cd,ct,_,rfl,_⟩:=d32.fn.ex;refine⟨PySem.W.fnOf "law" "law" (yy PB) (wo PB) (jf PB) .none kV dc pm an cd ct,λs v=> .of_eq rfl,λbase _ _ B=> ?_⟩;have YI:=λn=>d0.cal l w base X G (Qn (n:=n+0) Z d0.fn)
 have yh:=λn=>d1.cal l w base X G (UM (n:=n+1) Z d1.fn (YI (n+0)))
 have PP:=λn=>d2.cal l w base X G (Qo (n:=n+2) Z d2.fn (yh (n+0)))
 have Xj:=λn=>d3.cal l w base X G (Vr (n:=n+3) Z d3.fn (PP (n+0)))
 have Oc:=λn=>d4.cal l w base X G (Bv (n:=n+0) Z d4.fn)
 have BI:=λn=>d5.cal l w base X G (Mr (n:=n+4) Z d5.fn (Oc (n+3)) (Xj (n+0)))
 have Yb:=λn=>d6.cal l w base X G (Wu (n:=n+1) Z d6.fn (YI (n+0)))
 have Zv:=λn=>d7.cal l w base X G (JQ (n:=n+2) Z d7.fn (Yb (n+0)) vJ)
 have zX:=λn=>d8.cal l w base X G (Vs (n:=n+3) Z d8.fn (Zv (n+0)))
 have YJ:=λn=>d9.cal l w base X G (Qp (n:=n+5) Z d9.fn (BI (n+0)))
 have VI:=λn=>d10.cal l w base X G (WX (n:=n+2) Z d10.fn (yh (n+0)))
 have MF:=λn=>d11.cal l w base X G (PC (n:=n+0) Z d11.fn)
 have QY:=λn=>d12.cal l w base X G (UO (n:=n+0) Z d12.fn)
 have GW:=λn=>d13.cal l w base X G (Ms (n:=n+4) Z d13.fn (zX (n+0)) (QY (n+3)) (MF (n+3)))
 have GV:=λn=>d14.cal l w base X G (Mt (n:=n+5) Z d14.fn (GW (n+0)))
 have EW:=λn=>d15.cal l w base X G (LU (n:=n+6) Z d15.fn (zX (n+2)) (YJ (n+0)))
 have ME:=λn=>d16.cal l w base X G (Bx (n:=n+0) Z d16.fn)
 have WF:=λn=>d17.cal l w base X G (Zq (n:=n+0) Z d17.fn)
 have Zk:=λn=>d18.cal l w base X G (Vu (n:=n+4) Z d18.fn (zX (n+0)) (ME (n+3)))
 have Cw:=λn=>d19.cal l w base X G (LW (n:=n+6) Z d19.fn (GV (n+0)) (Zk (n+1)) (WF (n+5)))
 have Zl:=λn=>d20.cal l w base X G (Vv (n:=n+0) Z d20.fn)
 have QZ:=λn=>d21.cal l w base X G (UP (n:=n+6) Z d21.fn (zX (n+2)) (YJ (n+0)) (VI (n+3)) (Zl (n+5)) yR)
 have QV:=λn=>d22.cal l w base X G (UQ (n:=n+2) Z d22.fn (yh (n+0)))
 have QX:=λn=>d23.cal l w base X G (US (n:=n+3) Z d23.fn (QV (n+0)) (yh (n+1)) (ME (n+2)) yS)
 have Jq:=λn=>d24.cal l w base X G (vI (n:=n+1) Z d24.fn (Zl (n+0)))
 have Xk:=λn=>d25.cal l w base X G (Vw (n:=n+4) Z d25.fn (zX (n+0)) (QX (n+0)))
 have PQ:=λn=>d26.cal l w base X G (Qr (n:=n+7) Z d26.fn (Cw (n+0)) (Jq (n+5)))
 have QR:=λn=>d27.cal l w base X G (UT (n:=n+0) Z d27.fn)
 have PN:=λn=>d28.cal l w base X G (Qs (n:=n+0) Z d28.fn)
 have vN:=λn=>d29.cal l w base X G (UU (n:=n+0) Z d29.fn)
 have QU:=λn=>d30.cal l w base X G (UV (n:=n+1) Z d30.fn (vN (n+0)))
 have Xi:=λn=>d31.cal l w base X G (Vx (n:=n+1) Z d31.fn (vN (n+0)))
 exact ES (n:=8) Z d32.fn (QR 7) (PN 7) (Xi 6) (QU 6) (GW 3) (EW 1) (Zk 3) (Cw 1) (GV 2) (Xk 3) (PQ 0) (QZ 1) (vN 7)
end My
namespace PySem.W.Fast
def tw465985130588584446:=()
def tw14386571939444017620:=()
def tw11518903303364654736:=()
def tw12041912388853873011:=()
def tw13992292977418255591:=()
def tw9266208956630171188:=()
def tw15648899109460851777:=()
def tw16714725526755344959:=()
def tw16204669838347065924:=()
def tw7948419117980761169:=()
def tw13069051255551567952:=()
def tw9838076187565279167:=()
def tw4934174730879455838:=()
def tw8282984154837262091:=()
def tw15793183920131914866:=()
def tw5390198270856356091:=()
def tw4532078710409158118:=()
def tw12447836305513971211:=()
def tw8656857154491876622:=()
def tw12589155345387019897:=()
def tw9305279004166958102:=()
def tw7010624112551946222:=()
def tw544895229831815072:=()
def tw7102167690688171912:=()
def tw11962340826911791106:=()
def tw1884499690470497647:=()
def tw3411873240270818865:=()
def tw5106781183693410803:=()
def tw12961716938864429229:=()
def tw303605939187496762:=()
def tw6383030710174444881:=()
def tw10422102473408114830:=()
def tw10980572208412659815:=()
def tw11125456614212665728:=()
def tw12828446865796270679:=()
def tw816277762988890072:=()
def tw6795888755721257916:=()
def tw17617548959497354676:=()
def tw1114318570527568041:=()
def tw1909801524528325407:=()
def tw15068489424010012664:=()
def tw8764947788005999980:=()
def tw346790354322375110:=()
def tw10803360150939029719:=()
def tw10294503897697015934:=()
def tw18014065057389313016:=()
def tw10658796748348434055:=()
def tw17418308965235912892:=()
def tw9764572536082152667:=()
def tw14530712147413454401:=()
def tw497244323885728699:=()
def tw3709214538920820603:=()
def tw17552013626550482722:=()
def tw1926368448197197862:=()
def tw455200780136124440:=()
def tw1601254858511366381:=()
def tw8780644484868952820:=()
def tw12094539303026300173:=()
def tw15974996459536892785:=()
def tw10108467477593024482:=()
def tw12058977304511423597:=()
def tw18340836836197417674:=()
def tw14219283347634892609:=()
def tw13583193170077093165:=()
def tw779826539585325832:=()
def tw12590937155977565276:=()
def tw2014867937581229826:=()
def tw15391160989054080337:=()
def tw3833438196823748253:=()
def tw7914803193780997987:=()
def tw5180987192839826201:=()
def tw1279182846497408742:=()
def tw15339465163878265907:=()
def tw13362686333049660022:=()
def tw965099536949635995:=()
def tw4862038267105227915:=()
def tw1761884242484175727:=()
def tw9154699005816378163:=()
def tw15142271696028456750:=()
def tw5248789732580334646:=()
def tw649840250583480711:=()
def tw11300524041897149252:=()
def tw7993310601844441461:=()
def tw2652774722236519652:=()
def tw10208687595420956876:=()
def tw15656436432829055249:=()
def tw2118293475377181143:=()
def tw18132084696444115193:=()
def tw11364455343080556460:=()
def tw8846170845126646026:=()
def tw11601537635264609224:=()
def tw5813814082994980754:=()
def tw289331164625532570:=()
def tw12691121908799194248:=()
def tw12910539851150275715:=()
def tw589130786980544659:=()
def tw11399628538177106031:=()
def tw5245021483910693826:=()
def tw11565617808032161027:=()
def tw15267007299202055496:=()
def tw9289864943287476783:=()
def tw4395977960726823843:=()
def tw4151507565817790383:=()
def tw12734311112610285846:=()
def tw8504498396507656667:=()
def tw8126155155725131100:=()
def tw9821778359614106601:=()
def tw5460832427584992002:=()
def tw11094852459136632517:=()
def tw10173807133897934505:=()
def tw16271888105873431220:=()
def tw1242526130319625613:=()
def tw15429476269605839912:=()
def tw8352655517321401515:=()
def tw13847606772837328532:=()
def tw8769922237747856541:=()
def tw2893087581424971061:=()
def tw12419780422461205187:=()
def tw15906894128158564211:=()
def tw15280287487412275958:=()
def tw12828732820175476293:=()
end PySem.W.Fast
open PySem PySem.W PyProof.Rows
set_option maxRecDepth 100000 in
set_option maxHeartbeats 0 in
theorem PySem.Challenge.cw_firstpowers_k32_whole_rounds_in_pieces_holds : PySem.Challenge.rw_firstpowers_k32_whole_rounds_in_pieces.Holds := by
  w_on; o_law; k_head; (case hw => w_witness2)
  k_fill
  refine L2.NE (l := PySem.Challenge.rw_firstpowers_k32_whole_rounds_in_pieces) (k := 9) (x := "_law_script") rfl rfl ⟨rfl, by decide, by decide, rfl⟩ (fun w h Y => PySem.W.kIn_of Y) ?B ?F
  case B => intro w; kernel_rfl
  case F =>
    intro w mg fa h KX G hmg
    refine' My.ET KX G hmg ?d0 ?d1 ?d2 ?d3 ?d4 ?d5 ?d6 ?d7 ?d8 ?d9 ?d10 ?d11 ?d12 ?d13 ?d14 ?d15 ?d16 ?d17 ?d18 ?d19 ?d20 ?d21 ?d22 ?d23 ?d24 ?d25 ?d26 ?d27 ?d28 ?d29 ?d30 ?d31 ?d32 ?v0 ?v1 ?v2 ?z
    case d0 | d1 | d2 | d3 | d4 | d5 | d6 | d7 | d8 | d9 | d10 | d11 | d12 | d13 | d14 | d15 | d16 | d17 | d18 | d19 | d20 | d21 | d22 | d23 | d24 | d25 | d26 | d27 | d28 | d29 | d30 | d31 | d32 => refine' L2.EH ?a ?l ?c ?k; (case a => k_is); (case l => k_is); (case c => k_is); (case k => k_is)
    case v0 | v1 | v2 => k_is
    case z => kernel_rfl
