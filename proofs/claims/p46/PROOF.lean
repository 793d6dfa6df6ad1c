import PyProof.Rows.All
import Wide.All
import OpenK.AllK
import Wide.FinOn
import Lean
import PyProof.EqAt
import PyProof.EqKinds
import PyProof.TupleCall
import PyProof.Rows.TopTwo
import KE.KIsAll
import PyProof.ExcAttrAll.ValueError
import KE.KTryMore
import KE.KRevIter
import PyProof.SetRoads
import PySem.Challenge.RW_firstpowers_k46_calendars_by_anybody
set_option Elab.async false
set_option linter.all false
set_option maxRecDepth 100000
set_option maxHeartbeats 8000000
abbrev G0:= @List.length_map
abbrev G1:= @PySem.Heap.get?_push_of_some
abbrev G2:= @PySem.wpAny_pure
abbrev G3:= @List.getElem?_eq_getElem
abbrev G4:= @List.mem_cons
abbrev G5:= @Nat.le_refl
abbrev G6:= @List.getElem?_map
abbrev G7:= @List.size_toArray
abbrev G8:= @List.mem_singleton
abbrev G9:= @List.getElem?_eq_some_iff
abbrev P0:= @List.mem_cons_of_mem
abbrev P1:= @Bool.false_ne_true
abbrev P2:= @Array.length_toList
abbrev P3:= @List.mem_cons_self
abbrev P4:= @List.length_range
abbrev P5:= @List.not_mem_nil
abbrev P6:= @PySem.Heap.lt_size
abbrev P7:= @List.length_append
abbrev P8:= @List.length_cons
abbrev P9:= @List.getD_eq_getElem?_getD
abbrev D0:= @List.mem_append_right
abbrev D1:= @PySem.Heap.get?_push_size
abbrev D2:= @Nat.lt_of_lt_of_le
abbrev D3:= @List.mem_range
abbrev D4:= @List.mem_append
abbrev D5:= @decide_eq_true
abbrev D6:= @List.mem_map
abbrev D7:= @Nat.le_trans
abbrev D8:= @decide_eq_false
abbrev D9:= @Nat.ne_of_lt
abbrev R0:= @List.map_cons
abbrev R1:= @Bool.false_eq_true
abbrev R3:= @PySem.boot_len
abbrev R4:= @Bool.and_eq_true
abbrev R5:= @List.all_eq_true
abbrev R6:= @List.getElem_mem
abbrev R7:= @Array.getElem?_eq_some_iff
abbrev R8:= @List.mem_of_getElem?
abbrev R9:= @List.getElem?_cons_zero
abbrev S0:= @Option.some.inj
abbrev S1:= @Nat.lt_irrefl
abbrev S4:= @List.length_nil
abbrev S5:= @List.map_map
abbrev S6:= @List.pairwise_iff_getElem
abbrev S7:= @PySem.wpAny_mono
abbrev S8:= @PyProof.Rows.slot_tuple_getitem
abbrev S9:= @PySem.wpAny_callSpecial?_slot
abbrev T1:= @List.length_take
abbrev T3:= @List.map_append
abbrev T4:= @or_false
abbrev T5:= @Nat.le_of_lt
abbrev T6:= @List.map_congr_left
abbrev T7:= @Function.comp_apply
abbrev T8:= @PySem.PassesOwn.never
abbrev T9:= @PySem.wpAny_newObj_type
abbrev M0:= @Option.some.injEq
abbrev M1:= @List.mem_append_left
abbrev M2:= @List.getElem_range
abbrev M3:= @decide_eq_true_iff
abbrev M4:= @PySem.W.kia_one
abbrev M5:= @List.nodup_cons
abbrev M6:= @List.nil_append
abbrev M7:= @PySem.wpAny_holding
abbrev M8:= @PySem.wpAny_call_entry
abbrev M9:= @List.cons_append
abbrev N0:= @List.getElem?_range
abbrev N1:= @PySem.Heap.get?_update_self
abbrev N2:= @Nat.pow_succ
abbrev N3:= @Array.forIn_toList
abbrev N4:= @List.getElem?_cons_succ
abbrev N5:= @exists_eq_left'
abbrev N6:= @List.getElem?_set_ne
abbrev N7:= @Nat.pow_le_pow_right
abbrev N8:= @List.length_drop
abbrev N9:= @List.lookup_cons
abbrev B0:= @List.take_of_length_le
abbrev B1:= @PySem.wpAny_truthy_bool
abbrev B2:= @List.replicate_succ
abbrev B3:= @PySem.Heap.SameBut.update
abbrev B4:= @Array.getElem?_eq_getElem
abbrev B5:= @PyProof.Rows.boot_all
abbrev B6:= @Nat.lt_of_le_of_lt
abbrev B7:= @Nat.zero_le
abbrev B8:= @List.map_nil
abbrev B9:= @List.take_add_one
abbrev C0:= @List.pairwise_map
abbrev C1:= @PySem.wpAny_setState_of
abbrev C3:= @PyProof.Rows.callWith_type1
abbrev C4:= @Bool.eq_iff_iff
abbrev C5:= @Nat.add_sub_cancel'
abbrev C6:= @PySem.F.slot_tuple_iterator_next
abbrev C7:= @Array.getElem?_eq_none_iff
abbrev C8:= @Nat.lt_succ_self
abbrev C9:= @beq_self_eq_true
abbrev F0:= @PySem.wpAny_pyIter_tuple
abbrev F1:= @Array.getElem?_toList
abbrev F2:= @Nat.lt_or_ge
abbrev F3:= @List.getElem?_append_left
abbrev F4:= @Classical.byContradiction
abbrev F5:= @PySem.wpAny_passesOwn
abbrev F6:= @List.flatten_cons
abbrev F7:= @decide_eq_true_eq
abbrev F8:= @List.length_erase_of_mem
abbrev F9:= @beq_eq_false_iff_ne
abbrev H0:= @PySem.mem_of_lookup
abbrev L0:= @List.length_reverse
abbrev L1:= @Nat.mul_le_mul_left
abbrev L3:= @List.length_pos_of_mem
abbrev L4:= @Nat.div_div_eq_div_mul
abbrev L5:= @List.mem_filterMap
abbrev L6:= @List.map_inj_right
abbrev L7:= @Nat.ne_of_gt
abbrev L8:= @Nat.lt_trans
abbrev L9:= @List.getElem?_eq_none
abbrev O0:= @List.all_map
abbrev O3:= @List.range_succ
abbrev O4:= @Nat.not_lt_zero
abbrev O5:= @Array.getD_eq_getD_getElem?
abbrev O6:= @PySem.wpAny_pyIter_list
abbrev O7:= @of_decide_eq_true
abbrev O8:= @List.getElem?_append_right
abbrev O9:= @List.mem_erase_of_ne
abbrev A0:= @List.getElem?_of_mem
abbrev A1:= @Decidable.byContradiction
abbrev A2:= @PySem.wpAny_seqItems
abbrev A3:= @Option.getD_some
abbrev A4:= @List.take_length
abbrev A5:= @Int.toNat_of_nonneg
abbrev A6:= @PySem.F.args_tuple_add_2
abbrev A7:= @PySem.AutoSeq1.wpAny_loadPart'
abbrev A8:= @Nat.succ_pos
abbrev A9:= @PySem.SetTable.toList_insertAt
abbrev E1:= @PySem.F.entry_tuple_add
abbrev E2:= @List.forIn_cons
abbrev E3:= @List.length_eq_zero_iff
abbrev E4:= @PySem.F.plainAttrs_list
abbrev E5:= @PySem.wpAny_specialOf
abbrev E6:= @PySem.F.slot_tuple_add
abbrev E7:= @Option.map_eq_some_iff
abbrev E8:= @PySem.SetTable.insertAt_perm
abbrev E9:= @List.getElem?_set
abbrev I0:= @Nat.lt_of_succ_le
abbrev J0:= @List.reverse_cons
abbrev J1:= @Nat.log2_lt
abbrev J2:= @PySem.Heap.size_push
abbrev J3:= @PySem.isSubtype_type
abbrev J4:= @PySem.wpAny_typeOf
abbrev J5:= @Nat.mul_comm
abbrev J6:= @Nat.zero_add
abbrev J7:= @PySem.ofString_length
abbrev J8:= @Nat.pow_zero
abbrev J9:= @Nat.min_le_right
abbrev K0:= @PySem.wpAny_isInstance
abbrev K1:= @List.getElem_map
abbrev K2:= @PySem.codeAny_call_builtin
abbrev K3:= @Array.getElem_toList
abbrev K4:= @PySem.F.args_tuple_iterator_next_1
abbrev K5:= @Bool.not_true
abbrev K6:= @PySem.wpAny_execs_nil
abbrev K7:= @List.of_mem_zip
abbrev K8:= @PySem.wpAny_field
abbrev K9:= @PyProof.Rows.entry_tuple_getitem
abbrev Q0:= @PySem.F.slot_int_rmul
abbrev Q1:= @Bool.or_eq_true
abbrev Q2:= @PySem.F.entry_tuple_iterator_next
abbrev Q4:= @List.length_zip
abbrev Q5:= @Int.emod_nonneg
abbrev Q6:= @PySem.Calls.Name_function_global
abbrev Q7:= @Int.fdiv_eq_ediv_of_nonneg
abbrev Q8:= @Int.fmod_eq_emod_of_nonneg
abbrev Q9:= @Array.isEmpty_eq_false_iff
abbrev U0:= @PyProof.Rows.assignInOrder_cons
abbrev U1:= @PySem.wpAny_Call_Name_kw
abbrev U2:= @PyProof.Rows.args_tuple_getitem
abbrev U3:= @List.getElem?_take
abbrev U5:= @List.getElem?_drop
abbrev U6:= @Int.emod_lt_of_pos
abbrev U7:= @PyProof.Rows.slicePart_none
abbrev U8:= @PySem.wpAny_binaryOp_repeat_ref
abbrev U9:= @Option.isSome_iff_exists
abbrev V0:= @PySem.wpAny_sequenceKey
abbrev V1:= @List.append_assoc
abbrev V2:= @Nat.lt_succ_of_lt
abbrev V3:= @Array.toList_push
abbrev V4:= @Function.comp_def
abbrev V5:= @Nat.mod_lt
abbrev V6:= @List.nodup_append
abbrev V7:= @PySem.wpAny_standAt
abbrev V8:= @List.getElem?_replicate
abbrev V9:= @List.map_drop
abbrev W0:= @Nat.add_mul
abbrev W1:= @Bool.and_true
abbrev W2:= @Bool.true_and
abbrev W3:= @PySem.noFill_tuple_add
abbrev W4:= @List.getElem?_set_self
abbrev W5:= @PySem.W.cellsFrom_some
abbrev W6:= @Array.getElem?_eq_none
abbrev W7:= @List.mem_filter
abbrev W8:= @List.append_nil
abbrev W9:= @List.length_singleton
abbrev X0:= @Nat.le_of_eq
abbrev X1:= @Nat.min_eq_left
abbrev X2:= @PySem.codeAny_builtin
abbrev X3:= @List.getElem?_toArray
abbrev X4:= @Nat.add_zero
abbrev X5:= @PySem.wpAny_rule
abbrev X6:= @PySem.wpAny_call
abbrev X7:= @PySem.typeIs_int
abbrev X8:= @PySem.call_meets
abbrev X9:= @Nat.not_lt
abbrev Y0:= @Array.mem_toList_iff
abbrev Y1:= @Bool.or_eq_false_iff
abbrev Y2:= @PySem.intBits_le_iff
abbrev Y3:= @List.drop_zero
abbrev Y4:= @Bool.and_false
abbrev Y5:= @List.filterMap_cons
abbrev Y6:= @List.mem_map_of_mem
abbrev Y7:= @Int.le_refl
abbrev Y8:= @Nat.mul_add
abbrev Y9:= @Nat.div_one
abbrev Z0:= @if_false
abbrev Z1:= @List.map_take
abbrev Z2:= @Nat.mul_assoc
abbrev Z3:= @beq_iff_eq
abbrev Z4:= @Nat.add_comm
abbrev Z5:= @Nat.sub_zero
abbrev Z6:= @Int.mul_comm
abbrev Z7:= @Int.pow_pos
abbrev Z8:= @Nat.pow_pos
namespace L2
open PySem PySem.Spec PyProof.Rows
abbrev Key:=Sum Int Str
def Xb:Key->Value->Bool
 | .inl k,v=>Value.isInt k v
 | .inr x,v=>Value.isStrOf x v
def EB (w:World):Key->Int
 | .inl k=>hashInt k
 | .inr x=>hashStr w x
theorem jT: ∀ {k:Key} {v:Value},Xb k v=true->(∃i t,k=Sum.inl i/\v=Value.int i t)\/(∃x t,k=Sum.inr x/\v=Value.str x t)
 | .inl i,v,h=>by
  obtain⟨t,e⟩:=Value.isInt_shape (k:=i) (v:=v) h;exact .inl ⟨i,t,rfl,e⟩
 | .inr x,v,h=>by
  obtain⟨t,e⟩:=Value.isStrOf_shape (x:=x) (v:=v) h;exact .inr ⟨x,t,rfl,e⟩
theorem GW (i:Int)(t:Tok):Xb (.inl i) (.int i t)=true:=by simp [Xb,Value.isInt]
theorem GX (x:Str)(t:Tok):Xb (.inr x) (.str x t)=true:=by simp [Xb,Value.isStrOf]
theorem CQ (a b:Int):decide ((Sum.inl a:Key)=Sum.inl b)=(a==b):=by
 by_cases e:a=b
 ·subst e;simp
 ·have h: ¬ (Sum.inl a:Key)=Sum.inl b:=λq=>e (Sum.inl.inj q)
  rw [D8 h];exact(F9.mpr e).symm
theorem CS (a b:Str):decide ((Sum.inr a:Key)=Sum.inr b)=decide (a=b):=by
 by_cases e:a=b
 ·subst e;simp
 ·have h: ¬ (Sum.inr a:Key)=Sum.inr b:=λq=>e (Sum.inr.inj q)
  rw [D8 h,D8 e]
theorem CT (a:Int)(b:Str):decide ((Sum.inl a:Key)=Sum.inr b)=false:=D8 (λq=>nomatch q)
theorem CU (a:Str)(b:Int):decide ((Sum.inr a:Key)=Sum.inl b)=false:=D8 (λq=>nomatch q)
def wW (prog:Program)(w:World):PySem.KeyKind prog w Key where
 is:=Xb
 hash:=EB w
 inj:=λv a b ha hb=>by
  rcases jT ha with ⟨i,t,rfl,rfl⟩|⟨x,t,rfl,rfl⟩
  ·rcases jT hb with ⟨j,u,rfl,e⟩|⟨y,u,rfl,e⟩
   ·injection e with e1 _;rw [e1]
   ·exact nomatch e
  ·rcases jT hb with ⟨j,u,rfl,e⟩|⟨y,u,rfl,e⟩
   ·exact nomatch e
   ·injection e with e1 _;rw [e1]
 byValue:=λk v h=>by
  rcases jT h with ⟨i,t,rfl,rfl⟩|⟨x,t,rfl,rfl⟩<;>rfl
 pyHash:=λhv h=>by
  rcases jT hv with ⟨i,t,rfl,rfl⟩|⟨x,t,rfl,rfl⟩
  ·exact wpAny_pyHash_int h
  ·exact wpAny_pyHash_str h
 eqBool:=λhu hv h=>by
  rcases jT hu with ⟨i,t,rfl,rfl⟩|⟨x,t,rfl,rfl⟩
  ·rcases jT hv with ⟨j,u,rfl,rfl⟩|⟨y,u,rfl,rfl⟩
   ·rw [CQ] at h;exact wpAny_eqBool_int h
   ·rw [CT] at h;exact SeqAt.EqAt.int_str i t y u _ _ _ _ h
  ·rcases jT hv with ⟨j,u,rfl,rfl⟩|⟨y,u,rfl,rfl⟩
   ·rw [CU] at h;exact SeqAt.EqAt.str_int x t j u _ _ _ _ h
   ·rw [CS] at h;exact wpAny_eqBool_str h
 «strs» :=λk x t v h=>by
  rcases jT h with ⟨i,u,rfl,e⟩|⟨y,u,rfl,e⟩
  ·exact nomatch e
  ·injection e with e1 _
   subst e1;cases v<;>rfl
theorem Xc (prog:Program)(w:World)(i:Int)(t:Tok):(wW prog w).is (.inl i) (.int i t)=true:=GW i t
theorem Xd (prog:Program)(w:World)(x:Str)(t:Tok):(wW prog w).is (.inr x) (.str x t)=true:=GX x t
inductive V where
 |non|bl (b:Bool)|int (i:Int)|str (x:Str)|byt (b:Array UInt8)|flt (b:UInt64)|ref (a:Addr)|ty (n:String)
 deriving DecidableEq
def RelV:V->Value->Prop
 | .non,u=>u=Value.none
 | .bl b,u=>u=Value.bool b
 | .int i,u=> ∃t,u=Value.int i t
 | .str x,u=> ∃t,u=Value.str x t
 | .byt b,u=> ∃t,u=Value.bytes b t
 | .flt b,u=> ∃t,u=Value.float b t
 | .ref a,u=>u=Value.ref a
 | .ty n,u=>u=Value.type n
abbrev Vals:List V->List Value->Prop:=Paired RelV
theorem Vals.length {xs:List V}{us:List Value}(r:Vals xs us):xs.length=us.length:=Paired.length r
theorem Vals.get: ∀ {xs:List V} {us:List Value} {i:Nat} {x:V},Vals xs us->xs[i]? =some x-> ∃u,us[i]? =some u/\RelV x u
 |_,_,_,_,.nil,e=>by simp at e
 |_,_,0,_,.cons r _,e=>by simp at e;subst e;exact⟨_,rfl,r⟩
 |_,_,i+1,x,.cons _ t,e=>by
  obtain⟨u,h1,h2⟩:=Vals.get (i:=i) (x:=x) t (by simpa using e);exact⟨u,by simpa using h1,h2⟩
variable {u:Value}
theorem Vals.set {x:V}(r:RelV x u): ∀ {xs:List V} {us:List Value} (i:Nat),Vals xs us->Vals (xs.set i x) (us.set i u)
 |_,_,_,.nil=> .nil
 |_,_,0,.cons _ t=> .cons r t
 |_,_,i+1,.cons q t=> .cons q (Vals.set r i t)
theorem Vals.append: ∀ {xs ys:List V} {us ws:List Value},Vals xs us->Vals ys ws->Vals (xs++ys) (us++ws)
 |_,_,_,_,.nil,s=>s
 |_,_,_,_,.cons r t,s=> .cons r (Vals.append t s)
theorem Vals.take: ∀ {xs:List V} {us:List Value} (n:Nat),Vals xs us->Vals (xs.take n) (us.take n)
 |_,_,0,_=> .nil
 |_,_,_+1,.nil=> .nil
 |_,_,n+1,.cons r t=> .cons r (Vals.take n t)
theorem Vals.drop: ∀ {xs:List V} {us:List Value} (n:Nat),Vals xs us->Vals (xs.drop n) (us.drop n)
 |_,_,0,r=>r
 |_,_,_+1,.nil=> .nil
 |_,_,n+1,.cons _ t=>Vals.drop n t
def Oy:Option V->Option Value->Prop
 |some v,some u=>RelV v u
 |none,none=>True
 |_,_=>False
def KV {κ:Type}:List (κ×V)->List (κ×Value)->Prop:=Paired λ(p:κ×V) (q:κ×Value)=>p.1=q.1/\RelV p.2 q.2
def kV:Key->V
 | .inl i=> .int i
 | .inr x=> .str x
inductive HO where
 /-- a list -/
 |lst (xs:List V)
 /-- a tuple (never changes) -/
 |tup (xs:List V)
 /-- a dict whose keys are ints and texts;one whose keys are tuples of ints and texts (the empty one is both) -/
 |dK (kvs:List (Key×V))|dT (kvs:List (List Key×V))
 /-- a set of ints: its members,its size -/
 |set (S:Int->Bool) (n:Nat)
 /-- an instance of the class at C,its dict at dx,its attributes -/
 |ins (C dx:Addr) (fs:List (Str×V))
 /-- the dict of the instance at x -/
 |own (x:Addr)
 /-- the dict of an exception -/
 |xd (fs:List (Str×V))
 /-- a bound method,f of x -/
 |met (f x:Addr)
 /-- a range object lo,lo+1,.. below hi -/
 |rng (lo hi:Int)
 /-- a thing that is known to the object (the script;a dict while a loop walks it):read,never written while it is so -/
 |frz (o:Obj) (u:HO)
 /-- a code object's table -/
 |tbl (ps:Array Value)
 /-- any other thing,by what is true of its one object (a def of one's own: SetO a S n:=HO.ext λh=> ..) -/
 |ext (φ:Heap->Prop)
abbrev Hp:=Addr->Option HO
def upd (H:Hp)(a:Addr)(o:HO):Hp:=λb=>if b=a then some o else H b
variable {H:Hp}{a:Addr}{o:HO}
theorem jy:upd H a o a=some o:=by unfold upd;rw [if_pos rfl]
variable {b:Addr}
theorem jx (h:b≠a):upd H a o b=H b:=by unfold upd;rw [if_neg h]
theorem Ge {u:HO}(h:H a=some o)(h':H b=some u)(d:o≠u):a≠b:=by
 intro e;subst e;rw [h] at h';exact d (S0 h')
theorem ju (h:H a=some o)(h':H b=none):a≠b:=by
 intro e;subst e;rw [h] at h';cases h'
def IsTupN (h:Heap)(a:Addr)(items:Array Value):Prop:= ∃o,h.get? a=some o/\o.cls= .type "tuple" /\o.dict=none/\ ∃n,o.data= .seq items n
theorem IsTupN.tup {h:Heap}{a:Addr}{items:Array Value}(x:IsTupN h a items):IsTup h a items:=let ⟨o,e,c,_,n,d⟩:=x;⟨o,e,c,n,d⟩
theorem IsTupN.new (h:Heap)(items:Array Value):IsTupN (h.push {cls:= .type "tuple",data:= .seq items}) h.objs.size items:=⟨_,D1 _ rfl,rfl,rfl,_,rfl⟩
section
variable (P:Program)(w:World)
def ObjOk (H:Hp)(h:Heap)(a:Addr):HO->Prop
 | .lst xs=>xs.length<=sizeLine/\ ∃ (its:List Value) (n:Nat),Vals xs its/\h.get? a=some {cls:= .type "list",data:= .seq its.toArray n}
 | .tup xs=>xs.length<=sizeLine/\ ∃its:List Value,Vals xs its/\IsTupN h a its.toArray
 | .dK kvs=>kvs.length<=sizeLine/\(a==sysModules)=false/\ ∃vs,KV kvs vs/\h.DictOf (wW P w) a vs
 | .dT kvs=>kvs.length<=sizeLine/\(a==sysModules)=false/\ ∃xs:List (List Key×Addr×Value),
  Paired (λ(p:List Key×V) (q:List Key×Addr×Value)=>p.1=q.1/\H q.2.1=some (.tup (p.1.map kV))/\RelV p.2 q.2.2) kvs xs/\
  ∃o es ep,h.get? a=some o/\o.ExactDict/\o.data= .dict es ep/\es.toList=xs.map (entryOfKey (tupleKind (wW P w)))/\(xs.map (·.1)).Nodup
 | .set S n=>h.SetOf (intKind P w) a S n
 | .ins C dx fs=>H dx=some (.own a)/\fs.length<=1000/\dx≠a/\h.get? a=some (PySem.W.instObj C dx)/\
  ∃mA,h.Ns1 dx mA/\(∀f,Oy (fs.lookup f) (mA f))/\PySem.Within mA (fs.map (·.1))
 | .own _=> ∃o,h.get? a=some o
 | .xd fs=> ∃mA,h.Ns1 a mA/\ ∀f,Oy (fs.lookup f) (mA f)
 | .rng lo hi=> ∃t u v,h.get? a=some {cls:= .type "range",data:= .fields #[.int lo t,.int hi u,.int 1 v]}
 | .frz o u=>h.get? a=some o/\ObjOk H h a u
 | .tbl ps=>h.get? a=some {cls:= .none,data:= .fields ps}
 | .met f x=>h.get? a=some (PySem.W.methodObj (.ref f) (.ref x))
 | .ext φ=>φ h/\(∃o,h.get? a=some o)/\ ∀h1 h2:Heap,φ h1->(∀o,h1.get? a=some o->h2.get? a=some o)->φ h2
def HOk (H:Hp)(h:Heap):Prop:= ∀a o,H a=some o->ObjOk P w H h a o
end
section
variable {P:Program}{w:World}{H H':Hp}{h h':Heap}{a:Addr}{o:HO}
theorem ObjOk.lt (x:ObjOk P w H h a o):a<h.objs.size:=by
 cases o with
 |lst xs=>obtain⟨_,_,_,_,e⟩:=x;exact P6 e
 |tup xs=>obtain⟨_,_,_,p⟩:=x;exact p.tup.lt
 |dK kvs=>obtain⟨_,_,_,_,o,_,_,e,_⟩:=x;exact P6 e
 |dT kvs=>obtain⟨_,_,_,_,o,_,_,e,_⟩:=x;exact P6 e
 |set S n=>obtain⟨o,_,_,_,e,_⟩:=x;exact P6 e
 |ins C dx fs=>obtain⟨_,_,_,e,_⟩:=x;exact P6 e
 |own y=>obtain⟨_,e⟩:=x;exact P6 e
 |xd fs=>obtain⟨_,⟨_,_,_,e,_⟩,_⟩:=x;exact P6 e
 |rng lo hi=>obtain⟨_,_,_,e⟩:=x;exact P6 e
 |frz ob u=>obtain⟨e,_⟩:=x;exact P6 e
 |tbl ps=>exact P6 (show h.get? a=some _ from x)
 |met f y=>exact P6 (show h.get? a=some _ from x)
 |ext φ=>obtain⟨_,⟨_,e⟩,_⟩:=x;exact P6 e
theorem Paired.mapP {α β:Type}{F G:α->β->Prop}: ∀ {l₁:List α} {l₂:List β},Paired F l₁ l₂->(∀a b,F a b->G a b)->Paired G l₁ l₂
 |_,_,.nil,_=> .nil
 |_,_,.cons r t,f=> .cons (f _ _ r) (Paired.mapP t f)
theorem ObjOk.stay (x:ObjOk P w H h a o)(k: ∀b u,(b=a\/H b=some (.own a))->h.get? b=some u->h'.get? b=some u)
 (ho: ∀b,H b=some (.own a)->H' b=some (.own a))(ht: ∀b xs,H b=some (.tup xs)->H' b=some (.tup xs)):ObjOk P w H' h' a o:=by
 induction o with
 |lst xs=>obtain⟨z,its,n,r,e⟩:=x;exact⟨z,its,n,r,k _ _ (.inl rfl) e⟩
 |tup xs=>obtain⟨z,its,r,ob,e,c⟩:=x;exact⟨z,its,r,ob,k _ _ (.inl rfl) e,c⟩
 |dK kvs=>obtain⟨z,y,vs,r,ob,es,ep,e,c⟩:=x;exact⟨z,y,vs,r,ob,es,ep,k _ _ (.inl rfl) e,c⟩
 |dT kvs=>
  obtain⟨z,y,xs,r,ob,es,ep,e,c⟩:=x;exact⟨z,y,xs,Paired.mapP r λp q z=>⟨z.1,ht _ _ z.2.1,z.2.2⟩,ob,es,ep,k _ _ (.inl rfl) e,c⟩
 |set S n=>obtain⟨ob,es,ep,t,e,c⟩:=x;exact⟨ob,es,ep,t,k _ _ (.inl rfl) e,c⟩
 |ins C dx fs=>
  obtain⟨d,z,ne,e,mA,⟨od,es,ep,e2,c⟩,r⟩:=x;exact⟨ho _ d,z,ne,k _ _ (.inl rfl) e,mA,⟨od,es,ep,k _ _ (.inr d) e2,c⟩,r⟩
 |own y=>obtain⟨ob,e⟩:=x;exact⟨ob,k _ _ (.inl rfl) e⟩
 |xd fs=>obtain⟨mA,⟨od,es,ep,e,c⟩,r⟩:=x;exact⟨mA,⟨od,es,ep,k _ _ (.inl rfl) e,c⟩,r⟩
 |rng lo hi=>obtain⟨t,u,v,e⟩:=x;exact⟨t,u,v,k _ _ (.inl rfl) e⟩
 |frz ob u ih=>obtain⟨e,q⟩:=x;exact⟨k _ _ (.inl rfl) e,ih q⟩
 |tbl ps=>
  have e:h.get? a=some {cls:= .none,data:= .fields ps}:=x;show h'.get? a=some {cls:= .none,data:= .fields ps};exact k a _ (.inl rfl) e
 |met f y=>
  have e:h.get? a=some (PySem.W.methodObj (.ref f) (.ref y)):=x;show h'.get? a=some (PySem.W.methodObj (.ref f) (.ref y));exact k a _ (.inl rfl) e
 |ext φ=>obtain⟨p,⟨o,e⟩,st⟩:=x;exact⟨st _ _ p λo q=>k _ _ (.inl rfl) q,⟨o,k _ _ (.inl rfl) e⟩,st⟩
theorem HOk.lt (x:HOk P w H h)(e:H a=some o):a<h.objs.size:=(x a o e).lt
theorem HOk.fresh (x:HOk P w H h)(e:h.objs.size<=a):H a=none:=by
 cases q:H a with
 |none=>rfl
 |some u=>exact absurd (D2 (x.lt q) e) (S1 _)
theorem HOk.kept (x:HOk P w H h)(k: ∀b u,h.get? b=some u->h'.get? b=some u):HOk P w H h':=λa o e=>
 (x a o e).stay (λb u _ q=>k b u q) (λ_ q=>q) λ_ _ q=>q
theorem HOk.laid (x:HOk P w H h)(k: ∀b u,h.get? b=some u->h'.get? b=some u)(hp:h.objs.size<=a)(new:ObjOk P w (upd H a o) h' a o):HOk P w (upd H a o) h':=λb u e=>by
 have hn:=x.fresh hp
 by_cases hb:b=a
 ·subst hb;rw [jy] at e;cases e;exact new
 ·rw [jx hb] at e;exact(x b u e).stay (λc v _ q=>k c v q) (λc q=>by rw [jx (ju q hn)];exact q) λc xs q=>by rw [jx (ju q hn)];exact q
end
def Rd (H:Hp)(a:Addr)(u:HO):Prop:=H a=some u\/ ∃o,H a=some (.frz o u)
variable {P:Program}{w:World}{h:Heap}
theorem Rd.ok {u:HO}(r:Rd H a u)(x:HOk P w H h):ObjOk P w H h a u:=by
 rcases r with r|⟨o,r⟩
 ·exact x a u r
 ·obtain⟨_,q⟩:=x a _ r;exact q
def Mut:Option HO->Prop
 |some (.lst _)=>True
 |some (.dK _)=>True
 |some (.dT _)=>True
 |some (.set _ _)=>True
 |some (.ins _ _ _)=>True
 |some (.ext _)=>True
 |_=>False
section
variable {P:Program}{w:World}{H:Hp}{h h':Heap}{x e:Addr}{o':HO}
theorem HOk.write (ok:HOk P w H h)(mu:Mut (H x))(he:e=x\/H e=some (.own x))(k: ∀b u,b≠e->h.get? b=some u->h'.get? b=some u)(heo: ∃u,h'.get? e=some u)
 (new:ObjOk P w (upd H x o') h' x o'):HOk P w (upd H x o') h':=λb u q=>by
 have nown: ∀c y,H c=some (.own y)->c≠x:=λc y r z=>by subst z;rw [r] at mu;exact mu
 have ntup: ∀c xs,H c=some (.tup xs)->c≠x:=λc xs r z=>by subst z;rw [r] at mu;exact mu
 by_cases hb:b=x
 ·subst hb;rw [jy] at q;cases q;exact new
 ·rw [jx hb] at q
  by_cases hbe:b=e
  ·have q':H b=some (.own x):=by
    rcases he with z|z
    ·exact absurd (hbe.trans z) hb
    ·rw [hbe];exact z
   rw [q] at q';cases q';obtain⟨v,hv⟩:=heo;exact⟨v,by rw [hbe];exact hv⟩
  ·refine(ok b u q).stay (λc v hc r=>k c v ?_ r) (λc r=>by rw [jx (nown c b r)];exact r) λc xs r=>by rw [jx (ntup c xs r)];exact r
   rcases hc with rfl|hc
   ·exact hbe
   ·rintro rfl;rcases he with z|z
    ·exact nown c b hc z
    ·rw [hc] at z;cases z;exact hb rfl
end
structure Un (fs ex:List Addr)(H H':Hp)(h h':Heap):Prop where
 keep: ∀b o,h.get? b=some o->H b=none->b ∉ fs->b ∉ ex->h'.get? b=some o
 slot: ∀b o,h.get? b=some o->H b=none->b∈fs->b ∉ ex-> ∃sl,h'.get? b=some {o with slots:=sl}
 free: ∀b o,h.get? b=some o->H b=none->b ∉ ex->H' b=none
 there: ∀b o,h.get? b=some o->b ∉ ex-> ∃o',h'.get? b=some o'
 tups: ∀b xs,H b=some (.tup xs)->H' b=some (.tup xs)
 frzs: ∀b o u,H b=some (.frz o u)->H' b=some (.frz o u)
 tbls: ∀b ps,H b=some (.tbl ps)-> ∃more,H' b=some (.tbl (ps++more))
section
variable {fs fs' ex ex':List Addr}{H H1 H2:Hp}{h h1 h2 h':Heap}{a x e:Addr}{o:HO}
theorem Un.any (u:Un fs ex H H1 h h1){b:Addr}{ob:Obj}(q:h.get? b=some ob)(n:H b=none)(hx:b ∉ ex): ∃sl,h1.get? b=some {ob with slots:=sl}:=by
 by_cases hb:b∈fs
 ·exact u.slot b ob q n hb hx
 ·exact⟨ob.slots,u.keep b ob q n hb hx⟩
theorem Un.kept (k: ∀b u,h.get? b=some u->h'.get? b=some u):Un fs ex H H h h':=
 ⟨λb ob q _ _ _=>k b ob q,λb ob q _ _ _=>⟨ob.slots,k b ob q⟩,λ_ _ _ n _=>n,λb ob q _=>⟨ob,k b ob q⟩,λ_ _ q=>q,λ_ _ _ q=>q,λ_ ps q=>⟨#[],by rw [q];simp⟩⟩
theorem Un.refl:Un fs ex H H h h:=Un.kept λ_ _ q=>q
theorem Un.laid (k: ∀b u,h.get? b=some u->h'.get? b=some u)(hp:h.objs.size<=a)(hn:H a=none):Un fs ex H (upd H a o) h h' where
 keep:=λb u q _ _ _=>k b u q
 slot:=λb u q _ _ _=>⟨u.slots,k b u q⟩
 free:=λb u q n _=>by rw [jx (D9 (D2 (P6 q) hp))];exact n
 there:=λb u q _=>⟨u,k b u q⟩
 tups:=λb xs q=>by rw [jx (ju q hn)];exact q
 frzs:=λb u xs q=>by rw [jx (ju q hn)];exact q
 tbls:=λb ps q=>⟨#[],by rw [jx (ju q hn),q];simp⟩
theorem Un.write (mu:Mut (H x))(he:e=x\/H e=some (.own x))(k: ∀b u,b≠e->h.get? b=some u->h'.get? b=some u)(heo: ∃u,h'.get? e=some u):Un fs ex H (upd H x o) h h':=by
 have hx: ∀b,H b=none->b≠x:=λb n z=>by subst z;rw [n] at mu;exact mu
 have hb: ∀b,H b=none->b≠e:=λb n z=>by
  subst z;rcases he with r|r
  ·exact hx b n r
  ·rw [n] at r;cases r
 have hm: ∀b u,H b=some u-> ¬Mut (some u)->b≠x:=λb u q nm z=>by subst z;rw [q] at mu;exact nm mu
 refine⟨λb u q n _ _=>k b u (hb b n) q,λb u q n _ _=>⟨u.slots,k b u (hb b n) q⟩,λb u q n _=>by rw [jx (hx b n)];exact n,λb u q _=> ?_,
  λb xs q=>by rw [jx (hm b _ q λz=>z)];exact q,λb u xs q=>by rw [jx (hm b _ q λz=>z)];exact q,λb ps q=>⟨#[],by rw [jx (hm b _ q λz=>z),q];simp⟩⟩
 by_cases hbe:b=e
 ·subst hbe;exact heo
 ·exact⟨u,k b u hbe q⟩
end
def trk (h:Heap)(H:Hp):List Addr:=(List.range h.objs.size).filter λa=>(H a).isSome
def RH (h:Heap)(H:Hp):Heap:=PySem.W.hideAll h (trk h H)
theorem GY (h:Heap)(H:Hp):(RH h H).objs.size=h.objs.size:=PySem.W.hideAll_size _ _
theorem Yu {o:Obj}(e:h.get? b=some o)(n:H b=none):(RH h H).get? b=some o:=
 PySem.W.hideAll_get _ e λhm=>by
  have q:(H b).isSome=true:=(W7.mp hm).2;rw [n] at q;simp at q
theorem NR {o:Obj}(e:(RH h H).get? b=some o):h.get? b=some o/\H b=none:=by
 have e':h.get? b=some o:=PySem.W.of_hideAll (trk h H) e;refine⟨e',?_⟩;cases q:H b with
 |none=>rfl
 |some x=>
  have hm:b∈trk h H:=W7.mpr ⟨D3.mpr (P6 e'),by simp [q]⟩;have z:(RH h H).get? b=none:=PySem.W.hideAll_none (trk h H) hm;rw [z] at e;cases e
def NS (g h:Heap)(L:Addr):List (Addr×Obj):=(List.range h.objs.size).filterMap λa=>if a=L\/(g.get? a).isSome=true then none else (h.get? a).map λo=>(a,o)
def rest (g h:Heap)(L d:Addr):List (Addr×Obj):=(NS g h L).filter λp=>decide (p.1≠d)
structure Mod (K:PySem.W.Frag)(mg:Str->Option Value)(base:Heap):Prop where
 kin:K.In base
 glob:base.Ns mainGlobals mg
 blt: ∃mb,base.Ns builtinsNs mb/\ ∀x:Str,x≠ "__name__" ->mb x=bootBuiltins x
 nolimit:base.NoLimit
structure Cx where
 prog:Program
 w:World
 K:PySem.W.Frag
 mg:Str->Option Value
 base:Heap
 A:Around
 N:List Str
 s₀:Shared
 H₀:Hp
 env:Env
 outer:List Env
 stack:List Env
 ex:List Addr
 fn:Str->Bool
 calm:Bool
 pn:List (Addr×Obj)
 xe:Value->Shared->Prop
def frs (l:List Env):List Addr:=l.filterMap (·.frame)
abbrev Cx.fs (X:Cx):List Addr:=frs X.outer
def Vis (sc:Scope)(x:Str):Prop:=sc.names.lookup x=some .local\/sc.names.lookup x=some .cell\/sc.names.lookup x=some .free
def Loc (sc:Scope)(x:Str):Prop:=sc.names.lookup x=some .local\/sc.names.lookup x=some .cell
def EC (env:Env)(h:Heap)(m:Str->Option Value)(x:Str)(u:Value):Prop:=
 (env.kindOf x=some .local/\m x=some u)\/((env.kindOf x=some .cell\/env.kindOf x=some .free)/\ ∃c,env.cells.lookup x=some c/\h.IsCell c (some u))
structure Cx.Ok (X:Cx):Prop where
 mod:Mod X.K X.mg X.base
 kind:X.env.scope.kind= .function
 glob:X.env.globals=mainGlobals
 blt:X.env.builtins=builtinsNs
 above:X.s₀.heap.objs.size<=X.env.locals
 inj: ∀x y c,X.env.cells.lookup x=some c->X.env.cells.lookup y=some c->x=y
 has: ∀x,(X.env.kindOf x=some .cell\/X.env.kindOf x=some .free)-> ∃c,X.env.cells.lookup x=some c
 cab: ∀x c,X.fn x=true->X.env.cells.lookup x=some c->X.s₀.heap.objs.size<=c
 hd:X.calm=true->X.A.handled=none
 frames:X.A.frames=some X.stack
 stk:X.stack=X.outer\/(X.stack=X.env::X.outer/\X.env.frame=some X.env.locals)
 exf: ∀b∈X.ex,b≠X.env.locals/\ ∀x c,X.env.cells.lookup x=some c->c≠b
 bs: ∀b o,X.base.get? b=some o->X.s₀.heap.get? b=some o/\X.H₀ b=none
 bsz:X.base.objs.size<=X.s₀.heap.objs.size
 noex: ∀b o,X.base.get? b=some o->b ∉ X.ex
 exfs: ∀b∈X.ex,b ∉ X.fs
 funs:X.s₀.heap.FunFrames X.base X.outer
 frf: ∀b∈X.fs,X.H₀ b=none
structure Inv (X:Cx)(pins:List (Addr×Obj))(σ:List (Option V))(H:Hp)(s:Shared):Prop where
 ok:X.Ok
 os:s.os=X.s₀.os
 bare:AllBare s.gens
 base:Un X.fs X.ex X.H₀ H X.s₀.heap s.heap
 loc: ∃m,s.heap.Ns X.env.locals m/\ ∀ (i:Nat) (x:Str) (v:V),X.N[i]? =some x->σ[i]? =some (some v)->Vis X.env.scope x-> ∃u,RelV v u/\EC X.env s.heap m x u
 cell: ∀x c,X.env.cells.lookup x=some c-> ∃v,s.heap.IsCell c v
 free:H X.env.locals=none
 freeC: ∀x c,X.env.cells.lookup x=some c->H c=none
 pin: ∀p∈X.pn++pins,s.heap.get? p.1=some p.2/\H p.1=none/\p.1≠X.env.locals/\p.1 ∉ X.fs/\ ∀v,p.2.data≠ .cell v
 hok:HOk X.prog X.w H s.heap
 len:σ.length=X.N.length
section
variable {X:Cx}{pins:List (Addr×Obj)}{σ:List (Option V)}{H H':Hp}{s:Shared}{h':Heap}
theorem Cx.Ok.nofr (ok:X.Ok){b:Addr}{o:Obj}(e:X.base.get? b=some o):b ∉ X.fs:=λhb=>by
 have:=(ok.funs.mem hb).1;rw [e] at this;cases this
theorem Inv.bs (I:Inv X pins σ H s): ∀b o,X.base.get? b=some o->s.heap.get? b=some o/\H b=none:=λb o e=>
 ⟨I.base.keep b o (I.ok.bs b o e).1 (I.ok.bs b o e).2 (I.ok.nofr e) (I.ok.noex b o e),I.base.free b o (I.ok.bs b o e).1 (I.ok.bs b o e).2 (I.ok.noex b o e)⟩
theorem Inv.bk (I:Inv X pins σ H s): ∀b o,X.base.get? b=some o->s.heap.get? b=some o:=λb o e=>(I.bs b o e).1
theorem Inv.mod (I:Inv X pins σ H s):Mod X.K X.mg X.base:=I.ok.mod
theorem Inv.kIn (I:Inv X pins σ H s):X.K.In s.heap:=I.ok.mod.kin.keeps I.bk
theorem Inv.lt (I:Inv X pins σ H s):X.env.locals<s.heap.objs.size:=let ⟨_,hn,_⟩:=I.loc;hn.lt
theorem Inv.sz (I:Inv X pins σ H s):X.s₀.heap.objs.size<=s.heap.objs.size:=D7 I.ok.above (T5 I.lt)
theorem Inv.nofs (I:Inv X pins σ H s){a:Addr}(h:s.heap.objs.size<=a):a ∉ X.fs:=λhb=>by
 obtain⟨_,o,ho,_⟩:=I.ok.funs.mem hb;exact absurd (D2 (P6 ho) (D7 I.sz h)) (S1 _)
theorem Inv.cne (I:Inv X pins σ H s): ∀x c,X.env.cells.lookup x=some c->c≠X.env.locals:=λx c e z=>by
 obtain⟨v,o,ho,hd⟩:=I.cell x c e;obtain⟨m,⟨o',es,ep,ho',hd',_⟩,_⟩:=I.loc;rw [z,ho'] at ho;cases ho;rw [hd'] at hd;cases hd
theorem Inv.funs (I:Inv X pins σ H s):s.heap.FunFrames X.base X.outer:=by
 have all: ∀ (l:List Env),(∀b∈frs l,b∈X.fs)->X.s₀.heap.FunFrames X.base l->s.heap.FunFrames X.base l:=by
  intro l
  induction l with
  |nil=>intro _ _;trivial
  |cons env r ih=>
   intro hs hl;obtain⟨hk,⟨L,o,hf,hn,ho,hd⟩,hr⟩:=hl;have hL:L∈X.fs:=hs L (by unfold frs;rw [List.filterMap_cons,hf];exact List.mem_cons_self);obtain⟨sl,e⟩:=I.base.slot L o ho (I.ok.frf L hL) hL λz=>I.ok.exfs L z hL
   exact⟨hk,⟨L,_,hf,hn,e,hd⟩,ih (λb hb=>hs b (by unfold frs;rw [List.filterMap_cons,hf];exact List.mem_cons_of_mem _ hb)) hr⟩
 exact all X.outer (λ_ hb=>hb) I.ok.funs
theorem Inv.stack (I:Inv X pins σ H s):s.heap.FunFrames X.base X.stack:=by
 rcases I.ok.stk with e|⟨e,hf⟩
 ·rw [e];exact I.funs
 ·rw [e];obtain⟨m,hn,_⟩:=I.loc;refine .cons (by rw [I.ok.kind];decide) hf hn ?_ I.funs;exact Heap.get?_none_of_le (D7 I.ok.bsz I.ok.above)
theorem Inv.stkSub (I:Inv X pins σ H s): ∀b∈frs X.stack,b∈X.env.locals::X.fs:=λb hb=>by
 rcases I.ok.stk with e|⟨e,hf⟩
 ·rw [e] at hb;exact P0 _ hb
 ·rw [e] at hb;unfold frs at hb;rw [Y5,hf] at hb;exact hb
theorem Inv.stkFree (I:Inv X pins σ H s): ∀b∈frs X.stack,H b=none:=λb hb=>by
 rcases G4.mp (I.stkSub b hb) with e|hb
 ·rw [e];exact I.free
 ·obtain⟨_,o,ho,_⟩:=I.ok.funs.mem hb;exact I.base.free b o ho (I.ok.frf b hb) λz=>I.ok.exfs b z hb
variable {t':Nat}
theorem Inv.step {g':Array GenState}{d':Drawn}{ch:List Addr}(I:Inv X pins σ H s)
 (hch: ∀b∈ch,(b∈X.ex\/X.s₀.heap.objs.size<=b)/\b≠X.env.locals/\(∀x c,X.env.cells.lookup x=some c->c≠b)/\ ∀p∈X.pn++pins,p.1≠b)
 (keep: ∀b o,b≠X.env.locals->b ∉ X.fs->b ∉ ch->s.heap.get? b=some o->H b=none->h'.get? b=some o)
 (slot: ∀b o,b≠X.env.locals->b∈X.fs->b ∉ ch->s.heap.get? b=some o->H b=none-> ∃sl,h'.get? b=some {o with slots:=sl})(free: ∀b o,b ∉ ch->s.heap.get? b=some o->H b=none->H' b=none)
 (there: ∀b o,b ∉ ch->s.heap.get? b=some o-> ∃o',h'.get? b=some o')
 (tups: ∀b xs,H b=some (.tup xs)->H' b=some (.tup xs))(frzs: ∀b o u,H b=some (.frz o u)->H' b=some (.frz o u))(tbls: ∀b ps,H b=some (.tbl ps)-> ∃more,H' b=some (.tbl (ps++more)))
 (ns: ∀m,s.heap.Ns X.env.locals m->h'.Ns X.env.locals m)(hok:HOk X.prog X.w H' h')(hg:AllBare g'):
 Inv X pins σ H' {s with heap:=h',gens:=g',drawn:=d',toks:=t'}:=by
 have neL: ∀b o,X.s₀.heap.get? b=some o->b≠X.env.locals:=λb o e=>D9 (D2 (P6 e) I.ok.above)
 have neC: ∀b o,X.s₀.heap.get? b=some o->b ∉ X.ex->b ∉ ch:=λb o e hx hb=>by
  rcases (hch b hb).1 with z|z
  ·exact hx z
  ·exact absurd (D2 (P6 e) z) (S1 _)
 have cellK: ∀x c,X.env.cells.lookup x=some c-> ∀v,s.heap.IsCell c v->h'.IsCell c v:=λx c e v ⟨o,ho,hd⟩=>by
  have nch:c ∉ ch:=λz=>(hch c z).2.2.1 x c e rfl
  by_cases hc:c∈X.fs
  ·obtain⟨sl,q⟩:=slot c o (I.cne x c e) hc nch ho (I.freeC x c e);exact⟨_,q,hd⟩
  ·exact⟨o,keep c o (I.cne x c e) hc nch ho (I.freeC x c e),hd⟩
 refine⟨I.ok,I.os,hg,⟨λb o e n hb hx=> ?_,λb o e n hb hx=> ?_,λb o e n hx=> ?_,λb o e hx=> ?_,λb xs e=>tups b xs (I.base.tups b xs e),λb o xs e=>frzs b o xs (I.base.frzs b o xs e),λb ps e=> ?_⟩,?_,λx c e=> ?_,?_,λx c e=> ?_,λp hp=> ?_,hok,I.len⟩
 ·exact keep b o (neL b o e) hb (neC b o e hx) (I.base.keep b o e n hb hx) (I.base.free b o e n hx)
 ·obtain⟨sl,e1⟩:=I.base.slot b o e n hb hx;obtain⟨sl',e2⟩:=slot b _ (neL b o e) hb (neC b o e hx) e1 (I.base.free b o e n hx);exact⟨sl',e2⟩
 ·obtain⟨o',e1⟩:=I.base.there b o e hx;exact free b o' (neC b o e hx) e1 (I.base.free b o e n hx)
 ·obtain⟨o',e1⟩:=I.base.there b o e hx;exact there b o' (neC b o e hx) e1
 ·obtain⟨m1,e1⟩:=I.base.tbls b ps e;obtain⟨m2,e2⟩:=tbls b _ e1;exact⟨m1++m2,by rw [e2,Array.append_assoc]⟩
 ·obtain⟨m,hn,hl⟩:=I.loc;refine⟨m,ns m hn,λi x v e1 e2 e3=> ?_⟩;obtain⟨u,r,l⟩:=hl i x v e1 e2 e3;refine⟨u,r,?_⟩;rcases l with l|⟨k,c,e,z⟩
  ·exact .inl l
  ·exact .inr ⟨k,c,e,cellK x c e _ z⟩
 ·obtain⟨v,z⟩:=I.cell x c e;exact⟨v,cellK x c e v z⟩
 ·obtain⟨m,⟨o,_,_,ho,_⟩,_⟩:=I.loc;exact free _ o (λz=>(hch _ z).2.1 rfl) ho I.free
 ·obtain⟨v,o,ho,hd⟩:=I.cell x c e;exact free c o (λz=>(hch c z).2.2.1 x c e rfl) ho (I.freeC x c e)
 ·obtain⟨e,n,ne,nf,d⟩:=I.pin p hp;have nch:p.1 ∉ ch:=λz=>(hch p.1 z).2.2.2 p hp rfl
  exact⟨keep p.1 p.2 ne nf nch e n,free p.1 p.2 nch e n,ne,nf,d⟩
theorem Inv.un (I:Inv X pins σ H s)(u:Un X.fs [] H H' s.heap h')(hok:HOk X.prog X.w H' h'):Inv X pins σ H' {s with heap:=h',toks:=t'}:=by
 obtain⟨m,⟨o,es,ep,ho,r⟩,_⟩:=id I.loc;obtain⟨sl,hL⟩:=u.any ho I.free (by simp);exact I.step (g':=s.gens) (d':=s.drawn) (ch:= []) (λ_ z=>nomatch z) (λb o _ hb _ e n=>u.keep b o e n hb (by simp)) (λb o _ hb _ e n=>u.slot b o e n hb (by simp)) (λb o _ e n=>u.free b o e n (by simp)) (λb o _ e=>u.there b o e (by simp)) u.tups u.frzs u.tbls (λm' hm=>by
  obtain⟨o',es',ep',ho',r'⟩:=hm;rw [ho] at ho';cases ho';exact⟨_,es',ep',hL,r'⟩) hok I.bare
theorem Inv.call {g':Array GenState}{d':Drawn}{ch:List Addr}(I:Inv X pins σ H s)(u:Un (frs X.stack) ch H H' s.heap h')(hok:HOk X.prog X.w H' h')(hg:AllBare g')
 (hch: ∀b∈ch,(b∈X.ex\/X.s₀.heap.objs.size<=b)/\b≠X.env.locals/\(∀x c,X.env.cells.lookup x=some c->c≠b)/\ ∀p∈X.pn++pins,p.1≠b):
 Inv X pins σ H' {s with heap:=h',gens:=g',drawn:=d',toks:=t'}:=by
 obtain⟨m,⟨o,es,ep,ho,r⟩,_⟩:=id I.loc;obtain⟨sl,hL⟩:=u.any ho I.free λz=>(hch _ z).2.1 rfl
 exact I.step (ch:=ch) hch (λb o hL hb hc e n=>u.keep b o e n (λz=>(G4.mp (I.stkSub b z)).elim hL hb) hc) (λb o _ _ hc e n=>u.any e n hc) (λb o hc e n=>u.free b o e n hc) (λb o hc e=>u.there b o e hc) u.tups u.frzs u.tbls (λm' hm=>by
  obtain⟨o',es',ep',ho',r'⟩:=hm;rw [ho] at ho';cases ho';exact⟨_,es',ep',hL,r'⟩) hok hg
theorem Inv.turned {it:Addr}(I:Inv X pins σ H s)(k: ∀b o,b≠it->s.heap.get? b=some o->h'.get? b=some o)(hn:H it=none)(hL:it≠X.env.locals)
 (h1:it∈X.ex\/X.s₀.heap.objs.size<=it)(h2: ∀x c,X.env.cells.lookup x=some c->c≠it)(h3: ∀p∈X.pn++pins,p.1≠it):Inv X pins σ H {s with heap:=h',toks:=t'}:=by
 have nit: ∀b u,H b=some u->b≠it:=λb u e z=>by rw [z,hn] at e;cases e
 refine I.step (g':=s.gens) (d':=s.drawn) (ch:= [it]) (λb hb=> ?_) (λb o _ _ hc e _=>k b o (λz=>hc (by simp [z])) e) (λb o _ _ hc e _=>⟨o.slots,k b o (λz=>hc (by simp [z])) e⟩) (λ_ _ _ _ n=>n)
  (λb o hc e=>⟨o,k b o (λz=>hc (by simp [z])) e⟩) (λ_ _ e=>e) (λ_ _ _ e=>e) (λb ps e=>⟨#[],by rw [e];simp⟩) (λm hm=> ?_) (λb u e=> ?_) I.bare
 ·have e:b=it:=by simpa using hb
  subst e;exact⟨h1,hL,h2,h3⟩
 ·obtain⟨o,es,ep,ho,r⟩:=hm;exact⟨o,es,ep,k _ o (Ne.symm hL) ho,r⟩
 ·refine(I.hok b u e).stay (λc v hc q=>k c v ?_ q) (λ_ q=>q) λ_ _ q=>q
  rcases hc with z|z
  ·rw [z];exact nit b u e
  ·exact nit c _ z
theorem Inv.tok (I:Inv X pins σ H s)(t:Nat):Inv X pins σ H {s with toks:=t}:=I.un (h':=s.heap) (t':=t) Un.refl I.hok
theorem Inv.kept (I:Inv X pins σ H s)(k: ∀b u,s.heap.get? b=some u->h'.get? b=some u):Inv X pins σ H {s with heap:=h',toks:=t'}:=I.un (Un.kept k) (I.hok.kept k)
theorem Inv.laid {a:Addr}{o:HO}(I:Inv X pins σ H s)(k: ∀b u,s.heap.get? b=some u->h'.get? b=some u)(hp:s.heap.objs.size<=a)(new:ObjOk X.prog X.w (upd H a o) h' a o):
 Inv X pins σ (upd H a o) {s with heap:=h',toks:=t'}:=I.un (Un.laid k hp (I.hok.fresh hp)) (I.hok.laid k hp new)
theorem Inv.write {x e:Addr}{o:HO}(I:Inv X pins σ H s)(mu:Mut (H x))(he:e=x\/H e=some (.own x))(k: ∀b u,b≠e->s.heap.get? b=some u->h'.get? b=some u)(heo: ∃u,h'.get? e=some u)
 (new:ObjOk X.prog X.w (upd H x o) h' x o):Inv X pins σ (upd H x o) {s with heap:=h',toks:=t'}:=I.un (Un.write mu he k heo) (I.hok.write mu he k heo new)
theorem Inv.weak {σ':List (Option V)}(I:Inv X pins σ H s)(hl:σ'.length=σ.length)(w: ∀ (i:Nat) v,σ'[i]? =some (some v)->σ[i]? =some (some v)):Inv X pins σ' H s:=
 ⟨I.ok,I.os,I.bare,I.base,let ⟨m,hn,hl'⟩:=I.loc;⟨m,hn,λi x v e1 e2 e3=>hl' i x v e1 (w i v e2) e3⟩,I.cell,I.free,I.freeC,I.pin,I.hok,hl.trans I.len⟩
theorem Inv.pins_of {pins':List (Addr×Obj)}(I:Inv X pins σ H s)(h: ∀p∈pins',s.heap.get? p.1=some p.2/\H p.1=none/\p.1≠X.env.locals/\p.1 ∉ X.fs/\ ∀v,p.2.data≠ .cell v):Inv X pins' σ H s:=
 ⟨I.ok,I.os,I.bare,I.base,I.loc,I.cell,I.free,I.freeC,λp hp=>(D4.mp hp).elim (λz=>I.pin p (M1 _ z)) (h p),I.hok,I.len⟩
theorem Qp {N:List Str}(hN:N.Nodup){i j:Nat}{x:Str}(a:N[i]? =some x)(b:N[j]? =some x):i=j:=by
 obtain⟨h1,e1⟩:=G9.mp a;obtain⟨h2,e2⟩:=G9.mp b;exact(List.getElem_inj hN).mp (e1.trans e2.symm)
theorem Pa {M:Model}{A:Around}{E:Value->Shared->Prop}{i:Nat}{x:Str}{v:V}{u:Value}{Q:Unit->Shared->Prop}(I:Inv X pins σ H s)(hN:X.N.Nodup)(hi:X.N[i]? =some x)(hx:Loc X.env.scope x)(r:RelV v u)
 (h: ∀s',Inv X pins (σ.set i (some v)) H s'->(∃a,Heap.SameBut a s.heap s'.heap/\(a=X.env.locals\/X.env.cells.lookup x=some a))->Q () s')(hf:X.fn x=true\/X.env.scope.names.lookup x=some .local:=by first|exact .inl rfl|exact .inr rfl|assumption):wpAny M A (storeName X.env x u) Q E s:=by
 obtain⟨m,hn,hl⟩:=id I.loc;have hcls:(X.env.scope.kind== .class||(X.env.scope.kind== .module&&X.env.locals !=X.env.globals))=false:=by rw [I.ok.kind];rfl
 have hiσ:i<σ.length:=by rw [I.len];exact(G9.mp hi).1
 have cne:=I.cne;have tracked: ∀ {a:Addr} {h':Heap},(∃o,s.heap.get? a=some o/\H a=none)->Heap.SameBut a s.heap h'->HOk X.prog X.w H h':=λ{a h'} ha hs b ob e=>by
  obtain⟨_,_,hfree⟩:=ha;refine(I.hok b ob e).stay (λc w' hc q=>(hs.2 c ?_).trans q) (λ_ q=>q) λ_ _ q=>q
  rintro rfl;rcases hc with rfl|hc
  ·rw [hfree] at e;cases e
  ·rw [hfree] at hc;cases hc
 rcases hx with hk|hk
 ·refine wpAny_storeName_local hk hn (λh' hn' hs=> ?_) hcls;obtain⟨oL,_,_,hoL,_⟩:=id hn;refine h _ ⟨I.ok,I.os,I.bare,⟨λb o e n hb hx=> ?_,λb o e n hb hx=> ?_,I.base.free,λb o e hx=> ?_,I.base.tups,I.base.frzs,I.base.tbls⟩,⟨_,hn',λj y v' e1 e2 e3=> ?_⟩,λy c e=> ?_,I.free,I.freeC,λp hp=> ?_,tracked ⟨oL,hoL,I.free⟩ hs,by simpa using I.len⟩ ⟨_,hs,.inl rfl⟩
  ·exact(hs.2 b (D9 (D2 (P6 e) I.ok.above))).trans (I.base.keep b o e n hb hx)
  ·obtain⟨sl,e1⟩:=I.base.slot b o e n hb hx;exact⟨sl,(hs.2 b (D9 (D2 (P6 e) I.ok.above))).trans e1⟩
  ·obtain⟨o',e1⟩:=I.base.there b o e hx;exact⟨o',(hs.2 b (D9 (D2 (P6 e) I.ok.above))).trans e1⟩
  ·by_cases hj:j=i
   ·subst hj;rw [hi] at e1;cases e1;rw [W4 hiσ] at e2;cases e2;exact⟨u,r,.inl ⟨hk,by simp⟩⟩
   ·rw [N6 (Ne.symm hj)] at e2;obtain⟨u',r',q⟩:=hl j y v' e1 e2 e3;refine⟨u',r',?_⟩;rcases q with ⟨k,e⟩|⟨k,c,e,z⟩
    ·refine .inl ⟨k,?_⟩;have:y≠x:=λe=>hj (Qp hN e1 (e ▸ hi))
     simp [this,e]
    ·exact .inr ⟨k,c,e,z.sameBut hs (cne y c e)⟩
  ·obtain⟨w',z⟩:=I.cell y c e;exact⟨w',z.sameBut hs (cne y c e)⟩
  ·obtain⟨e,n,ne,nf,d⟩:=I.pin p hp;exact⟨(hs.2 p.1 ne).trans e,n,ne,nf,d⟩
 ·have hfn:X.fn x=true:=by
   rcases hf with z|z
   ·exact z
   ·rw [z] at hk;cases hk
  obtain⟨c,hc⟩:=I.ok.has x (.inl hk);obtain⟨w',z⟩:=I.cell x c hc;refine wpAny_storeName_cell I.ok.kind hk hc z (λh' hc' hs=> ?_);obtain⟨oc,hoc,hocd⟩:=id z;refine h {s with heap:=h'} ⟨I.ok,I.os,I.bare,⟨λb o e n hb hx=> ?_,λb o e n hb hx=> ?_,I.base.free,λb o e hx=> ?_,I.base.tups,I.base.frzs,I.base.tbls⟩,⟨m,hn.sameBut hs (Ne.symm (cne x c hc)),λj y v' e1 e2 e3=> ?_⟩,λy c' e=> ?_,I.free,I.freeC,λp hp=> ?_,tracked ⟨oc,hoc,I.freeC x c hc⟩ hs,by simpa using I.len⟩ ⟨c,hs,.inr hc⟩
  ·exact(hs.2 b (D9 (D2 (P6 e) (I.ok.cab x c hfn hc)))).trans (I.base.keep b o e n hb hx)
  ·obtain⟨sl,e1⟩:=I.base.slot b o e n hb hx;exact⟨sl,(hs.2 b (D9 (D2 (P6 e) (I.ok.cab x c hfn hc)))).trans e1⟩
  ·obtain⟨o',e1⟩:=I.base.there b o e hx;exact⟨o',(hs.2 b (D9 (D2 (P6 e) (I.ok.cab x c hfn hc)))).trans e1⟩
  ·by_cases hj:j=i
   ·subst hj;rw [hi] at e1;cases e1;rw [W4 hiσ] at e2;cases e2;exact⟨u,r,.inr ⟨.inl hk,c,hc,hc'⟩⟩
   ·rw [N6 (Ne.symm hj)] at e2;obtain⟨u',r',q⟩:=hl j y v' e1 e2 e3;refine⟨u',r',?_⟩;rcases q with q|⟨k,c',e,z'⟩
    ·exact .inl q
    ·refine .inr ⟨k,c',e,z'.sameBut hs ?_⟩;rintro rfl;exact hj (Qp hN e1 (I.ok.inj _ _ _ e hc ▸ hi))
  ·by_cases hcc:c'=c
   ·subst hcc;exact⟨_,hc'⟩
   ·obtain⟨w2,z2⟩:=I.cell y c' e;exact⟨w2,z2.sameBut hs hcc⟩
  ·obtain⟨e,n,ne,nf,d⟩:=I.pin p hp;refine⟨(hs.2 p.1 ?_).trans e,n,ne,nf,d⟩;intro q;rw [q,hoc] at e;have q':oc=p.2:=S0 e;exact d w' (by rw [<-q'];exact hocd)
theorem ZM {M:Model}{A:Around}{E:Value->Shared->Prop}{i:Nat}{x:Str}{v:V}{u:Value}{Q:Unit->Shared->Prop}(I:Inv X pins σ H s)(hN:X.N.Nodup)(hi:X.N[i]? =some x)(hx:Loc X.env.scope x)(r:RelV v u)
 (h: ∀s',Inv X pins (σ.set i (some v)) H s'->Q () s')(hf:X.fn x=true\/X.env.scope.names.lookup x=some .local:=by first|exact .inl rfl|exact .inr rfl|assumption):wpAny M A (storeName X.env x u) Q E s:=
 Pa I hN hi hx r (λs' I' _=>h s' I') hf
theorem Inv.call' {s':Shared}{ch:List Addr}(I:Inv X pins σ H s)(ho:s'.os=s.os)(u:Un (frs X.stack) ch H H' s.heap s'.heap)(hok:HOk X.prog X.w H' s'.heap)(hg:AllBare s'.gens)
 (hch: ∀b∈ch,(b∈X.ex\/X.s₀.heap.objs.size<=b)/\b≠X.env.locals/\(∀x c,X.env.cells.lookup x=some c->c≠b)/\ ∀p∈X.pn++pins,p.1≠b):Inv X pins σ H' s':=by
 obtain⟨h',g',d',t',o'⟩:=s';have e:o'=s.os:=ho;subst e;exact I.call (g':=g') (t':=t') (d':=d') u hok hg hch
end
abbrev XK:=Value->Option Addr->Hp->Prop
abbrev St:=List (Option V)
abbrev VK:=V->Hp->Prop
abbrev TE:=St->Hp->VK->Prop
abbrev TT:=St->Hp->(Bool->Hp->Prop)->Prop
abbrev TA:=St->Hp->(List V->Hp->Prop)->Prop
structure Ends where
 nx:St->Hp->Prop
 rt:VK
 bk:St->Hp->Prop:=λ_ _=>False
 ct:St->Hp->Prop:=λ_ _=>False
abbrev TS:=Ends->St->Hp->Prop
def EP (X:Cx)(pins:List (Addr×Obj))(σ:St)(Q:VK)(u:Value)(s':Shared):Prop:= ∃v H',Inv X pins σ H' s'/\RelV v u/\Q v H'
def TP (X:Cx)(pins:List (Addr×Obj))(σ:St)(Q:Bool->Hp->Prop)(b:Bool)(s':Shared):Prop:= ∃H',Inv X pins σ H' s'/\Q b H'
def AP (X:Cx)(pins:List (Addr×Obj))(σ:St)(Q:List V->Hp->Prop)(us:List Value)(s':Shared):Prop:= ∃vs H',Inv X pins σ H' s'/\Vals vs us/\Q vs H'
def SP (X:Cx)(pins:List (Addr×Obj))(D:Ends)(f:Flow)(s':Shared):Prop:=
 match f with
 | .next=> ∃σ' H',Inv X pins σ' H' s'/\D.nx σ' H'
 | .brk=> ∃σ' H',Inv X pins σ' H' s'/\D.bk σ' H'
 | .cont=> ∃σ' H',Inv X pins σ' H' s'/\D.ct σ' H'
 | .ret u=> ∃v σ' H',Inv X pins σ' H' s'/\RelV v u/\D.rt v H'
def PE (X:Cx)(e:Expr)(t:TE):Prop:=
 ∀ (pins:List (Addr×Obj)) (s:Shared) (σ:St) (H:Hp) (Q:VK),Inv X pins σ H s->t σ H Q->wpAny (model X.prog X.w) X.A (eval e X.env) (EP X pins σ Q) X.xe s
def PT (X:Cx)(e:Expr)(t:TT):Prop:=
 ∀ (pins:List (Addr×Obj)) (s:Shared) (σ:St) (H:Hp) (Q:Bool->Hp->Prop),Inv X pins σ H s->t σ H Q->wpAny (model X.prog X.w) X.A (isTrue e X.env (eval e X.env)) (TP X pins σ Q) X.xe s
def PW (X:Cx)(e:Expr)(t:TT):Prop:=
 ∀ (whole:Sem Value) (pins:List (Addr×Obj)) (s:Shared) (σ:St) (H:Hp) (Q:Bool->Hp->Prop),Inv X pins σ H s->t σ H Q->wpAny (model X.prog X.w) X.A (isTrue e X.env whole) (TP X pins σ Q) X.xe s
variable {X:Cx}
theorem PW.pt {e:Expr}{t:TT}(h:PW X e t):PT X e t:=h _
def PA (X:Cx)(es:List Expr)(t:TA):Prop:=
 ∀ (pos:Pos) (pins:List (Addr×Obj)) (s:Shared) (σ:St) (H:Hp) (Q:List V->Hp->Prop),Inv X pins σ H s->t σ H Q->wpAny (model X.prog X.w) X.A (spliced (backTo pos (starEach es X.env))) (AP X pins σ Q) X.xe s
def PS (X:Cx)(st:Stmt)(t:TS):Prop:=
 ∀ (pins:List (Addr×Obj)) (s:Shared) (σ:St) (H:Hp) (D:Ends),Inv X pins σ H s->t D σ H->wpAny (model X.prog X.w) X.A (exec st X.env) (SP X pins D) X.xe s
def PSs (X:Cx)(st:List Stmt)(t:TS):Prop:=
 ∀ (pins:List (Addr×Obj)) (s:Shared) (σ:St) (H:Hp) (D:Ends),Inv X pins σ H s->t D σ H->wpAny (model X.prog X.w) X.A (execs st X.env) (SP X pins D) X.xe s
variable {A:Around}{s:Shared}
theorem thn {α:Type}{t:Sem α}{Q Q':α->Shared->Prop}{M:Model}{E:Value->Shared->Prop}(h:wpAny M A t Q E s)(hQ: ∀a s,Q a s->Q' a s):wpAny M A t Q' E s:=S7 h hQ λ_ _ x=>x
section
variable {X:Cx}
def Oz (i:Nat):TE:=λσ H Q=> ∃v,σ[i]? =some (some v)/\Q v H
def tC (v:V):TE:=λ_ H Q=>Q v H
variable {x:Str}
theorem Ni {i:Nat}{pos:Pos}(hN:X.N[i]? =some x)(hv:Vis X.env.scope x)(hd:(x==("__debug__" :Str))=false:=by decide)(hcd:(x==("__classdict__" :Str))=false:=by decide):PE X (.Name x pos) (Oz i):=by
 intro pins s σ H Q I h;obtain⟨v,e,h⟩:=h;obtain⟨m,hn,hl⟩:=I.loc;obtain⟨u,r,l⟩:=hl i x v hN e hv;have fin:EP X pins σ Q u s:=⟨v,H,I,r,h⟩;rcases l with ⟨hk,hm⟩|⟨hk,c,hc,hcell⟩
 ·exact wpAny_Name (wpAny_loadName_local I.ok.kind hk hn hm fin) hd
 ·rcases hk with hk|hk
  ·exact wpAny_Name (wpAny_loadName_cell I.ok.kind hk hc hcell fin) hd
  ·exact wpAny_Name (wpAny_loadName_free I.ok.kind hk hc hcell fin hcd) hd
theorem pe_int {i j pos}:PE X (.Constant (.int i) j pos) (tC (.int i)):=λ_ _ _ H _ I h=>wpAny_Constant_int ⟨.int i,H,I.tok _,⟨_,rfl⟩,h⟩
theorem pe_bl {b j pos}:PE X (.Constant (.bool b) j pos) (tC (.bl b)):=λ_ _ _ H _ I h=>Constant_bool ⟨.bl b,H,I,rfl,h⟩
theorem pe_non {j pos}:PE X (.Constant .none j pos) (tC .non):=λ_ _ _ H _ I h=>Constant_none ⟨.non,H,I,rfl,h⟩
theorem pe_str {x j pos}:PE X (.Constant (.str x) j pos) (tC (.str x)):=λ_ _ _ H _ I h=>Calls.Constant_str ⟨.str x,H,I.tok _,⟨_,rfl⟩,h⟩
def Gl (X:Cx)(x:Str):Prop:=X.env.kindOf x=some .globalImplicit
variable {u:Value}
theorem Pb {E:Value->Shared->Prop}{pins:List (Addr×Obj)}{s:Shared}{σ:St}{H:Hp}{pos:Pos}{Q:Value->Shared->Prop}(I:Inv X pins σ H s)(hg:Gl X x)(hm:X.mg x=some u)(h:Q u s)
 (hd:(x==("__debug__" :Str))=false:=by decide):wpAny (model X.prog X.w) X.A (eval (.Name x pos) X.env) Q E s:=
 Q6 I.ok.kind hg (Calls.loadGlobal_global (by rw [I.ok.glob];exact I.mod.glob.keeps I.bk) hm h) hd
theorem WX {E:Value->Shared->Prop}{pins:List (Addr×Obj)}{s:Shared}{σ:St}{H:Hp}{pos:Pos}{Q:Value->Shared->Prop}(I:Inv X pins σ H s)(hg:Gl X x)(hm:X.mg x=none)(hv:bootBuiltins x=some u)(h:Q u s)
 (hn:x≠ "__name__" :=by decide)(hd:(x==("__debug__" :Str))=false:=by decide):wpAny (model X.prog X.w) X.A (eval (.Name x pos) X.env) Q E s:=by
 obtain⟨mb,h1,h2⟩:=I.mod.blt;exact Q6 I.ok.kind hg (Calls.loadGlobal_builtin (by rw [I.ok.glob];exact I.mod.glob.keeps I.bk) hm (by rw [I.ok.blt];exact h1.keeps I.bk) ((h2 x hn).trans hv) h) hd
theorem NT {v:V}{pos:Pos}(hg:Gl X x)(hm:X.mg x=some u)(r:RelV v u)(hd:(x==("__debug__" :Str))=false:=by decide):PE X (.Name x pos) (tC v):=
 λ_ _ _ H _ I h=>Pb I hg hm ⟨v,H,I,r,h⟩ hd
theorem NU {v:V}{pos:Pos}(hg:Gl X x)(hm:X.mg x=none)(hv:bootBuiltins x=some u)(r:RelV v u)(hn:x≠ "__name__" :=by decide)(hd:(x==("__debug__" :Str))=false:=by decide):PE X (.Name x pos) (tC v):=
 λ_ _ _ H _ I h=>WX I hg hm hv ⟨v,H,I,r,h⟩ hn hd
variable {a b:Expr}{ta tb:TE}{pos:Pos}
def tB (t:TE):TT:=λσ H Q=>t σ H λx H1=> ∃c,x= .bl c/\Q c H1
theorem CV {e:Expr}{t:TE}(h:PE X e t)(he: ∀whole,isTrue e X.env whole=(do let v <-whole;standAt e.pos;holding [v] (truthy v)):=by intro _;rfl):PT X e (tB t):=by
 intro pins s σ H Q I hw;refine isTrue_plain (thn (h pins s σ H _ I hw) λv s1 ⟨x,H1,I1,r1,q1⟩=> ?_) (he _);obtain⟨d,rfl,q⟩:=q1;cases r1;exact B1 ⟨H1,I1,q⟩
variable {tA tB':TT}{rest:List Expr}
def AQ (t u:TT):TT:=λσ H Q=>t σ H λc H1=>if c=true then u σ H1 Q else Q false H1
def tOr (t u:TT):TT:=λσ H Q=>t σ H λc H1=>if c=true then Q true H1 else u σ H1 Q
def AR (t:TT):TT:=λσ H Q=>t σ H λc H1=>Q (!c) H1
theorem NV (ha:PT X a tA):PW X (.BoolOp .And [a] pos) tA:=by
 intro wh pins s σ H Q I h;refine isTrue_and (thn (ha pins s σ H Q I h) λc s1 e=> ?_);cases c with
 |true=>exact isTrue_and_nil e
 |false=>exact e
theorem CW (ha:PT X a tA):PW X (.BoolOp .Or [a] pos) tA:=by
 intro wh pins s σ H Q I h;refine isTrue_or (thn (ha pins s σ H Q I h) λc s1 e=> ?_);cases c with
 |false=>exact isTrue_or_nil e
 |true=>exact e
theorem CY (ha:PT X a tA)(hb:PW X (.BoolOp .And (b::rest) pos) tB'):PW X (.BoolOp .And (a::b::rest) pos) (AQ tA tB'):=by
 intro wh pins s σ H Q I h;refine isTrue_and (thn (ha pins s σ H _ I h) λc s1 ⟨H1,I1,q1⟩=> ?_);cases c with
 |true=>exact hb wh pins s1 σ H1 Q I1 q1
 |false=>exact⟨H1,I1,q1⟩
theorem OA (ha:PT X a tA)(hb:PW X (.BoolOp .Or (b::rest) pos) tB'):PW X (.BoolOp .Or (a::b::rest) pos) (tOr tA tB'):=by
 intro wh pins s σ H Q I h;refine isTrue_or (thn (ha pins s σ H _ I h) λc s1 ⟨H1,I1,q1⟩=> ?_);cases c with
 |true=>exact⟨H1,I1,q1⟩
 |false=>exact hb wh pins s1 σ H1 Q I1 q1
theorem CZ (ha:PT X a tA):PT X (.UnaryOp .Not a pos) (AR tA):=by
 intro pins s σ H Q I h;exact isTrue_not (ha pins s σ H (λc H1=>Q (!c) H1) I h)
def Fa (ta tb:TE):TE:=λσ H Q=>ta σ H λx H1=> ∃c,x= .bl c/\if c=true then tb σ H1 Q else Q (.bl false) H1
def AS (ta tb:TE):TE:=λσ H Q=>ta σ H λx H1=> ∃c,x= .bl c/\if c=true then Q (.bl true) H1 else tb σ H1 Q
def Fb (ta:TE):TE:=λσ H Q=>ta σ H λx H1=> ∃c,x= .bl c/\Q (.bl (!c)) H1
theorem Fc {op}{t:TE}(h:PE X a t):PE X (.BoolOp op [a] pos) t:=λpins s σ H Q I hw=>BoolOp_one (h pins s σ H Q I hw)
theorem Fd (ha:PE X a ta)(hb:PE X (.BoolOp .And (b::rest) pos) tb):PE X (.BoolOp .And (a::b::rest) pos) (Fa ta tb):=by
 intro pins s σ H Q I h;refine BoolOp_and (thn (ha pins s σ H _ I h) λv s1 ⟨x,H1,I1,r1,q1⟩=> ?_);obtain⟨c,rfl,q1⟩:=q1;cases r1;refine B1 ?_;cases c with
 |true=>exact hb pins s1 σ H1 Q I1 q1
 |false=>exact⟨.bl false,H1,I1,rfl,q1⟩
theorem OB (ha:PE X a ta)(hb:PE X (.BoolOp .Or (b::rest) pos) tb):PE X (.BoolOp .Or (a::b::rest) pos) (AS ta tb):=by
 intro pins s σ H Q I h;refine BoolOp_or (thn (ha pins s σ H _ I h) λv s1 ⟨x,H1,I1,r1,q1⟩=> ?_);obtain⟨c,rfl,q1⟩:=q1;cases r1;refine B1 ?_;cases c with
 |false=>exact hb pins s1 σ H1 Q I1 q1
 |true=>exact⟨.bl true,H1,I1,rfl,q1⟩
theorem Fe (ha:PE X a ta):PE X (.UnaryOp .Not a pos) (Fb ta):=by
 intro pins s σ H Q I h;refine UnaryOp_ (thn (ha pins s σ H _ I h) λv s1 ⟨x,H1,I1,r1,q1⟩=> ?_);obtain⟨c,rfl,q1⟩:=q1;cases r1;exact not_of (B1 ⟨.bl (!c),H1,I1,rfl,q1⟩)
def tIf (t:TT)(ta tb:TE):TE:=λσ H Q=>t σ H λc H1=>if c=true then ta σ H1 Q else tb σ H1 Q
theorem RI {c:Expr}(hc:PT X c tA)(ha:PE X a ta)(hb:PE X b tb):PE X (.IfExp c a b pos) (tIf tA ta tb):=by
 intro pins s σ H Q I h;refine wpAny_IfExp (thn (hc pins s σ H _ I h) λd s1 ⟨H1,I1,q1⟩=> ?_);cases d with
 |true=>exact ha pins s1 σ H1 Q I1 q1
 |false=>exact hb pins s1 σ H1 Q I1 q1
end
def SqL (K:PySem.W.Frag)(H:Hp)(a:Addr)(xs:List V):Prop:=
 Rd H a (.lst xs)\/
  ∃ (o:Obj) (its:Array Value) (n:Nat),K.lookup a=some o/\o.cls= .type "list" /\o.dict=none/\o.data= .seq its n/\its.size<=sizeLine/\Vals xs its.toList
def SqT (K:PySem.W.Frag)(H:Hp)(a:Addr)(xs:List V):Prop:=
 Rd H a (.tup xs)\/
  ∃ (o:Obj) (its:Array Value) (n:Nat),K.lookup a=some o/\o.cls= .type "tuple" /\o.data= .seq its n/\its.size<=sizeLine/\Vals xs its.toList
def ED:Value->Option V
 | .none=>some .non
 | .bool b=>some (.bl b)
 | .int i _=>some (.int i)
 | .str x _=>some (.str x)
 | .bytes b _=>some (.byt b)
 | .float b _=>some (.flt b)
 | .ref a=>some (.ref a)
 | .type n=>some (.ty n)
 |_=>none
theorem RelV.abs {x:V}(r:RelV x u):ED u=some x:=by
 cases x with
 |non=>cases r;rfl
 |bl _=>cases r;rfl
 |int _=>obtain⟨t,rfl⟩:=r;rfl
 |str _=>obtain⟨t,rfl⟩:=r;rfl
 |byt _=>obtain⟨t,rfl⟩:=r;rfl
 |flt _=>obtain⟨t,rfl⟩:=r;rfl
 |ref _=>cases r;rfl
 |ty _=>cases r;rfl
theorem RelV.inj {x y:V}(r:RelV x u)(q:RelV y u):x=y:=S0 (r.abs.symm.trans q.abs)
theorem Vals.inj: ∀ {xs ys:List V} {us:List Value},Vals xs us->Vals ys us->xs=ys
 |_,_,_,.nil,.nil=>rfl
 |_,_,_,.cons r t,.cons r' t'=>by rw [r.inj r',Vals.inj t t']
section
variable {X:Cx}{pins:List (Addr×Obj)}{σ:St}{H:Hp}{s:Shared}{a:Addr}{xs ys:List V}
theorem SqL.of {K:PySem.W.Frag}(h:H a=some (.lst xs)):SqL K H a xs:= .inl (.inl h)
theorem SqT.of {K:PySem.W.Frag}(h:H a=some (.tup xs)):SqT K H a xs:= .inl (.inl h)
theorem Inv.list (I:Inv X pins σ H s)(h:SqL X.K H a xs): ∃its:List Value,Vals xs its/\PlainL s.heap a its.toArray/\xs.length<=sizeLine:=by
 rcases h with h|⟨o,its,n,hk,hc,hd,hs,hz,r⟩
 ·obtain⟨z,its,n,r,e⟩:=h.ok I.hok;exact⟨its,r,⟨_,n,e,rfl,rfl,rfl⟩,z⟩
 ·refine⟨its.toList,r,⟨o,n,I.kIn a o hk,hc,hd,by simpa using hs⟩,?_⟩;have e:=r.length;simp only [P2] at e;omega
theorem Inv.tuple (I:Inv X pins σ H s)(h:SqT X.K H a xs): ∃its:List Value,Vals xs its/\IsTup s.heap a its.toArray/\xs.length<=sizeLine:=by
 rcases h with h|⟨o,its,n,hk,hc,hs,hz,r⟩
 ·obtain⟨z,its,r,p⟩:=h.ok I.hok;exact⟨its,r,p.tup,z⟩
 ·refine⟨its.toList,r,⟨o,I.kIn a o hk,hc,n,by simpa using hs⟩,?_⟩;have e:=r.length;simp only [P2] at e;omega
theorem Inv.list_inj (I:Inv X pins σ H s)(h:SqL X.K H a xs)(h':SqL X.K H a ys):xs=ys:=by
 obtain⟨its,r,⟨o,n,e,_,_,d⟩,_⟩:=I.list h;obtain⟨its',r',⟨o',n',e',_,_,d'⟩,_⟩:=I.list h';rw [e] at e';cases e';rw [d] at d';injection d' with d1 _
 have:its=its':=by simpa using congrArg Array.toList d1
 subst this;exact r.inj r'
theorem Inv.tuple_inj (I:Inv X pins σ H s)(h:SqT X.K H a xs)(h':SqT X.K H a ys):xs=ys:=by
 obtain⟨its,r,⟨o,e,_,n,d⟩,_⟩:=I.tuple h;obtain⟨its',r',⟨o',e',_,n',d'⟩,_⟩:=I.tuple h';rw [e] at e';cases e';rw [d] at d';injection d' with d1 _
 have:its=its':=by simpa using congrArg Array.toList d1
 subst this;exact r.inj r'
end
abbrev Cx.wish (X:Cx)(E:Value->Shared->Prop):Cx:= {X with xe:=E}
abbrev Cx.nox (X:Cx):Cx:=X.wish λ_ _=>False
theorem Cx.Ok.wish (ok:X.Ok)(E:Value->Shared->Prop):(X.wish E).Ok:=
 ⟨ok.mod,ok.kind,ok.glob,ok.blt,ok.above,ok.inj,ok.has,ok.cab,ok.hd,ok.frames,ok.stk,ok.exf,ok.bs,ok.bsz,ok.noex,ok.exfs,ok.funs,ok.frf⟩
theorem Cx.Ok.unwish {E:Value->Shared->Prop}(ok:(X.wish E).Ok):X.Ok:=
 ⟨ok.mod,ok.kind,ok.glob,ok.blt,ok.above,ok.inj,ok.has,ok.cab,ok.hd,ok.frames,ok.stk,ok.exf,ok.bs,ok.bsz,ok.noex,ok.exfs,ok.funs,ok.frf⟩
section
variable {X:Cx}{pins:List (Addr×Obj)}{σ:St}{H:Hp}{s:Shared}{E:Value->Shared->Prop}
theorem Inv.wish (I:Inv X pins σ H s)(E:Value->Shared->Prop):Inv (X.wish E) pins σ H s:=⟨I.ok.wish E,I.os,I.bare,I.base,I.loc,I.cell,I.free,I.freeC,I.pin,I.hok,I.len⟩
theorem Inv.unwish (I:Inv (X.wish E) pins σ H s):Inv X pins σ H s:=⟨I.ok.unwish,I.os,I.bare,I.base,I.loc,I.cell,I.free,I.freeC,I.pin,I.hok,I.len⟩
theorem SP.unwish {D:Ends}{f:Flow}{s':Shared}(h:SP (X.wish E) pins D f s'):SP X pins D f s':=by
 cases f with
 |next=>obtain⟨σ',H',I,q⟩:=h;exact⟨σ',H',I.unwish,q⟩
 |brk=>obtain⟨σ',H',I,q⟩:=h;exact⟨σ',H',I.unwish,q⟩
 |cont=>obtain⟨σ',H',I,q⟩:=h;exact⟨σ',H',I.unwish,q⟩
 |ret u=>obtain⟨v,σ',H',I,r,q⟩:=h;exact⟨v,σ',H',I.unwish,r,q⟩
theorem PSs.nox {st:List Stmt}{t:TS}(h:PSs X.nox st t):PSs X st t:=λpins s σ H D I hw=>
 S7 (h pins s σ H D (I.wish _) hw) (λ_ _ q=>q.unwish) λ_ _ z=>False.elim z
end
section
variable {X:Cx}{st:Stmt}{rest:List Stmt}{t u:TS}{e:Expr}{te:TE}{pos:Pos}
def Ff:TS:=λD σ H=>D.nx σ H
def AT (t u:TS):TS:=λD σ H=>t {D with nx:=u D} σ H
theorem pss_nil:PSs X [] Ff:=λ_ _ σ H _ I h=>K6 ⟨σ,H,I,h⟩
theorem RJ (h1:PS X st t)(h2:PSs X rest u):PSs X (st::rest) (AT t u):=by
 intro pins s σ H D I h;refine wpAny_execs_cons (thn (h1 pins s σ H {D with nx:=u D} I h) λf s1 q=> ?_);cases f with
 |next=>
  obtain⟨σ',H',I',q⟩:=q;exact h2 pins s1 σ' H' D I' q
 |ret v=>exact q
 |brk=>exact q
 |cont=>exact q
theorem NW (h1:PS X st t):PSs X [st] t:=by
 intro pins s σ H D I h;refine wpAny_execs_cons (thn (h1 pins s σ H D I h) λf s1 q=> ?_);cases f with
 |next=>exact K6 q
 |ret v=>exact q
 |brk=>exact q
 |cont=>exact q
theorem Inv.quiet {pins:List (Addr×Obj)}{σ:St}{H:Hp}{s:Shared}(I:Inv X pins σ H s):interactive X.env=false:=by simp [interactive,I.ok.kind]
def Fg (te:TE):TS:=λD σ H=>te σ H λ_ H1=>D.nx σ H1
theorem NX (he:PE X e te)(hs:swapsWith e none pos.line X.env=pure false:=by rfl):PS X (.Expr e pos) (Fg te):=by
 intro pins s σ H D I h;exact wpAny_Expr_any (thn (he pins s σ H _ I h) λv s1 ⟨x,H1,I1,r1,q1⟩=>⟨σ,H1,I1,q1⟩) I.quiet hs
def AU (te:TE):TS:=λD σ H=>te σ H D.rt
theorem Fh (he:PE X e te):PS X (.Return (some e) pos) (AU te):=by
 intro pins s σ H D I h;exact wpAny_Return_some (thn (he pins s σ H _ I h) λv s1 ⟨x,H1,I1,r1,q1⟩=>⟨x,σ,H1,I1,r1,q1⟩)
def AV (c:TT)(t u:TS):TS:=λD σ H=>c σ H λb H1=>if b=true then t D σ H1 else u D σ H1
theorem OC {c:Expr}{a b:List Stmt}{tc:TT}(hc:PT X c tc)(ha:PSs X a t)(hb:PSs X b u):PS X (.If c a b pos) (AV tc t u):=by
 intro pins s σ H D I h;refine wpAny_If (thn (hc pins s σ H _ I h) λd s1 ⟨H1,I1,q1⟩=> ?_);cases d with
 |true=>exact ha pins s1 σ H1 D I1 q1
 |false=>exact hb pins s1 σ H1 D I1 q1
end
abbrev TG:=V->St->Hp->(St->Hp->Prop)->Prop
abbrev TGs:=List V->St->Hp->(St->Hp->Prop)->Prop
def PG (X:Cx)(target:Expr)(t:TG):Prop:=
 ∀ (pins:List (Addr×Obj)) (s:Shared) (σ:St) (H:Hp) (v:V) (u:Value) (Q:St->Hp->Prop),Inv X pins σ H s->RelV v u->t v σ H Q->
  wpAny (model X.prog X.w) X.A (assign target X.env u) (λ_ s'=> ∃σ' H',Inv X pins σ' H' s'/\Q σ' H') X.xe s
def PGs (X:Cx)(ts:List Expr)(t:TGs):Prop:=
 ∀ (pins:List (Addr×Obj)) (s:Shared) (σ:St) (H:Hp) (vs:List V) (us:List Value) (Q:St->Hp->Prop),Inv X pins σ H s->Vals vs us->t vs σ H Q->
  wpAny (model X.prog X.w) X.A (assignInOrder ((assignEach ts X.env).map (·.2)) us) (λ_ s'=> ∃σ' H',Inv X pins σ' H' s'/\Q σ' H') X.xe s
abbrev OD:=V->V->V->Hp->(Hp->Prop)->Prop
def AW (X:Cx)(t:OD):Prop:=
 ∀ (pins:List (Addr×Obj)) (s:Shared) (σ:St) (H:Hp) (o i v:V) (ov iv u:Value) (Q:Hp->Prop),Inv X pins σ H s->RelV o ov->RelV i iv->RelV v u->t o i v H Q->
  wpAny (model X.prog X.w) X.A (setItem ov iv u) (λ_ s'=> ∃H',Inv X pins σ H' s'/\Q H') X.xe s
section
variable {X:Cx}{pos:Pos}
def vR (i:Nat):TG:=λv σ H Q=>Q (σ.set i (some v)) H
theorem yt {i:Nat}{x:Str}(hN:X.N.Nodup)(hi:X.N[i]? =some x)(hx:Loc X.env.scope x)(hf:X.fn x=true\/X.env.scope.names.lookup x=some .local:=by first|exact .inl rfl|exact .inr rfl|assumption):PG X (.Name x pos) (vR i):=by
 intro pins s σ H v u Q I r h;exact wpAny_assign_Name (ZM I hN hi hx r (λs' I'=>⟨_,H,I',h⟩) hf)
def Os:TGs:=λvs σ H Q=>vs= []/\Q σ H
def VF (t:TG)(u:TGs):TGs:=λvs σ H Q=> ∃v r,vs=v::r/\t v σ H λσ' H'=>u r σ' H' Q
theorem Xe:PGs X [] Os:=by
 intro pins s σ H vs us Q I r h;obtain⟨e,h⟩:=h;subst e;cases r;exact assignInOrder_nil ⟨σ,H,I,h⟩
theorem yu {e:Expr}{es:List Expr}{t:TG}{u:TGs}(h1:PG X e t)(h2:PGs X es u)
 (hs:(assignEach (e::es) X.env).map (·.2)=assign e X.env::(assignEach es X.env).map (·.2):=by rfl):PGs X (e::es) (VF t u):=by
 intro pins s σ H vs us Q I r h;obtain⟨v,vr,e1,h⟩:=h;subst e1;cases r with
 |cons r rr=>
  rw [hs];refine U0 (thn (h1 pins s σ H _ _ _ I r h) λ_ s1 ⟨σ1,H1,I1,q1⟩=> ?_);exact h2 pins s1 σ1 H1 _ _ Q I1 rr q1
def Ot (K:PySem.W.Frag)(n:Nat)(t:TGs):TG:=λv σ H Q=> ∃a xs,v= .ref a/\SqT K H a xs/\xs.length=n/\t xs σ H Q
theorem Pc {es:List Expr}{k:Nat}{t:TGs}{n:Nat}(hc:X.calm=true)(h:PGs X es t)
 (hn:(assignEach es X.env).length=n:=by rfl)(hst:(assignEach es X.env).findIdx? (·.1)=none:=by rfl):PG X (.Tuple es k pos) (Ot X.K n t):=by
 intro pins s σ H v u Q I r hw;obtain⟨a,xs,e1,hq,hl,hw⟩:=hw;subst e1;cases r;obtain⟨its,rv,ht,hz⟩:=I.tuple hq;refine assign_Tuple_tuple (I.ok.hd hc) ht (by simp [hn,<-hl,rv.length]) hst λh' hx=> ?_
 have I1:Inv X pins σ H {s with heap:=h'}:=I.kept (t':=s.toks) λb o e=>hx b o (D9 (P6 e)) e
 exact h pins _ σ H xs _ Q I1 (by simpa using rv) hw
def EE (to ti:TE)(t:OD):TG:=λv σ H Q=>to σ H λo H1=>ti σ H1 λi H2=>t o i v H2 λH3=>Q σ H3
theorem Fi {o i:Expr}{to ti:TE}{t:OD}(ho:PE X o to)(hi:PE X i ti)(hs:AW X t)
 (ha: ∀v,assign (.Subscript o i pos) X.env v=(do
  let ov <-holding [v] (eval o X.env)
  let iv <-holding [v,ov] (eval i X.env)
  standAt pos
  holding [v,ov,iv] (setItem ov iv v)
  release [v,ov,iv] []):=by intro _;rfl):PG X (.Subscript o i pos) (EE to ti t):=by
 intro pins s σ H v u Q I r h;rw [ha];refine wpAny_bind (M7 (thn (ho pins s σ H _ I h) λov s1 ⟨x,H1,I1,r1,q1⟩=> ?_));refine wpAny_bind (M7 (thn (hi pins s1 σ H1 _ I1 q1) λiv s2 ⟨y,H2,I2,r2,q2⟩=> ?_));refine wpAny_bind (V7 (wpAny_bind (M7 (thn (hs pins s2 σ H2 x y v ov iv u _ I2 r1 r2 r q2) λ_ s3 ⟨H3,I3,q3⟩=> ?_))));exact wpAny_release ⟨σ,H3,I3,q3⟩
def NY (te:TE)(g:TG):TS:=λD σ H=>te σ H λx H1=>g x σ H1 D.nx
theorem Fj {tg e:Expr}{te:TE}{g:TG}(he:PE X e te)(hg:PG X tg g)(hs:swapsWithSole [tg] e pos.line X.env=pure false:=by rfl)(hw:swappedStores [tg] e X.env=pure none:=by rfl)
 (h1:(assignEach [tg] X.env).map (·.2)= [assign tg X.env]:=by rfl):PS X (.Assign [tg] e pos) (NY te g):=by
 intro pins s σ H D I h;refine wpAny_Assign_stores (thn (he pins s σ H _ I h) λv s1 ⟨x,H1,I1,r1,q1⟩=> ?_) hs hw;rw [h1];exact thn (hg pins s1 σ H1 x v _ I1 r1 q1) λ_ s2 q=>q
theorem Fk {i:Nat}{x:Str}{e:Expr}{te:TE}{pos':Pos}(hN:X.N.Nodup)(hi:X.N[i]? =some x)(hx:Loc X.env.scope x)(he:PE X e te)(hs:swapsWith e (some (.Name x pos')) pos.line X.env=pure false:=by rfl)(hf:X.fn x=true\/X.env.scope.names.lookup x=some .local:=by first|exact .inl rfl|exact .inr rfl|assumption):
 PS X (.Assign [.Name x pos'] e pos) (NY te (vR i)):=by
 intro pins s σ H D I h;refine wpAny_Assign_Name (thn (he pins s σ H _ I h) λv s1 ⟨y,H1,I1,r1,q1⟩=> ?_) hs;exact ZM I1 hN hi hx r1 (λs2 I2=>⟨_,H1,I2,q1⟩) hf
def AX (i j:Nat)(ta:TA):TS:=λD σ H=>ta σ H λvs H1=> ∃v w,vs= [v,w]/\D.nx ((σ.set i (some v)).set j (some w)) H1
theorem Fl {i j:Nat}{x y:Str}{a b:Expr}{ta:TA}{px py pt:Pos}{kt k2 pt2}(hc:X.calm=true)(hN:X.N.Nodup)(hi:X.N[i]? =some x)(hj:X.N[j]? =some y)(hij:i≠j)
 (hx:X.env.scope.names.lookup x=some .local)(hy:X.env.scope.names.lookup y=some .local)(ha:PA X [a,b] ta)
 (hw:swappedStores [.Tuple [.Name x px,.Name y py] kt pt] (.Tuple [a,b] k2 pt2) X.env=pure (some [x,y]))
 (hs:swapsWithSole [.Tuple [.Name x px,.Name y py] kt pt] (.Tuple [a,b] k2 pt2) pos.line X.env=pure false:=by rfl):
 PS X (.Assign [.Tuple [.Name x px,.Name y py] kt pt] (.Tuple [a,b] k2 pt2) pos) (AX i j ta):=by
 intro pins s σ H D I h;rw [exec_Assign_arm];refine wpAny_bind (V7 ?_);rw [hs];refine wpAny_bind (G2 ?_);rw [if_neg (by decide)];refine wpAny_bind (Tuple_ (thn (ha _ pins s σ H _ I h) λus s1 ⟨vs,H1,I1,r1,q1⟩=> ?_));obtain⟨v,w,e1,q1⟩:=q1;subst e1;obtain⟨u1,u2,rfl,rv,rw'⟩: ∃u1 u2,us= [u1,u2]/\RelV v u1/\RelV w u2:=by
  cases r1 with
  |cons p q=>
   cases q with
   |cons p' q'=>
    cases q';exact⟨_,_,rfl,p,p'⟩
 refine T9 ?_ (by show 2<=sizeLine;decide);have I2:Inv X pins σ H1 {s1 with heap:=s1.heap.push {cls:= .type "tuple",data:= .seq [u1,u2].toArray}}:=I1.kept (t':=s1.toks) λb o e=>G1 _ e
 rw [hw];refine wpAny_bind (G2 ?_);show wpAny (model X.prog X.w) X.A (do rule "assign.swapped-stores";let items <-unpackItems (.ref s1.heap.objs.size) 2 none;assignInOrder [λv=>bindName X.env y v,λv=>bindName X.env x v] items.reverse;pure Flow.next) _ _ _;refine wpAny_bind (X5 (wpAny_bind (unpackItems_tuple (items:= #[u1,u2]) (I.ok.hd hc) (IsTup.new s1.heap _) λh' hx'=> ?_)));have I3:=I2.kept (h':=h') (t':=s1.toks) λb o e=>hx' b o (D9 (P6 e)) e
 show wpAny _ _ (assignInOrder [λv=>bindName X.env y v,λv=>bindName X.env x v] [u2,u1] >>= λ_=>pure Flow.next) _ _ _;refine wpAny_bind (U0 (wpAny_bindName (ZM I3 hN hj (.inl hy) rw' (λs2 I4=> ?_) (.inr hy))));refine U0 (wpAny_bindName (ZM I4 hN hi (.inl hx) rv (λs3 I5=>assignInOrder_nil (G2 ?_)) (.inr hx)));rw [List.set_comm _ _ (Ne.symm hij)] at I5;exact⟨_,H1,I5,q1⟩
def Nj (c:TT)(tb:TS):TS:=λD σ H=> ∃W:Nat->St->Hp->Prop,(∃m,W m σ H)/\ ∀m σ H,W m σ H->
 c σ H λb H1=>if b=true then ∃N:St->Hp->Prop,(∀σ' H',N σ' H'-> ∃m',m'<m/\W m' σ' H')/\tb {D with nx:=N,ct:=N,bk:=D.nx} σ H1 else D.nx σ H1
theorem RK {c:Expr}{body:List Stmt}{tc:TT}{tb:TS}(hp:PassesOwn (model X.prog X.w) X.A X.env X.xe)(hc:PT X c tc)(hb:PSs X body tb):PS X (.While c body [] pos) (Nj tc tb):=by
 intro pins s σ H D I h;obtain⟨W,⟨m0,w0⟩,turn⟩:=h;refine wpAny_While (codeAny_whileLoop (λn s'=> ∃σ' H',Inv X pins σ' H' s'/\W n σ' H') ?_ m0 ⟨σ,H,I,w0⟩);rintro n s1 ⟨σ1,H1,I1,w1⟩;refine F5 hp (thn (hc pins s1 σ1 H1 _ I1 (turn n σ1 H1 w1)) λb s2 ⟨H2,I2,q2⟩=> ?_);cases b with
 |true=>
  obtain⟨N,hN,q2⟩:=q2;rw [if_pos rfl];refine F5 hp (thn (hb pins s2 σ1 H2 _ I2 q2) λf s3 q3=> ?_);cases f with
  |next=>
   obtain⟨σ3,H3,I3,n3⟩:=q3;obtain⟨m',hm,w3⟩:=hN σ3 H3 n3;exact⟨m',hm,σ3,H3,I3,w3⟩
  |cont=>
   obtain⟨σ3,H3,I3,n3⟩:=q3;obtain⟨m',hm,w3⟩:=hN σ3 H3 n3;exact⟨m',hm,σ3,H3,I3,w3⟩
  |brk=>exact q3
  |ret v=>exact q3
 |false=>
  rw [if_neg P1];exact K6 ⟨σ1,H2,I2,q2⟩
end
structure It where
 go:Nat->Hp->Prop
 yld:Nat->Hp->V->Hp->Prop
 stop:Nat->Hp->Prop
def Pd (X:Cx)(pins:List (Addr×Obj))(H:Hp)(b:Addr):Prop:=
 H b=none/\b≠X.env.locals/\b ∉ X.fs/\(b∈X.ex\/X.s₀.heap.objs.size<=b)/\(∀x c,X.env.cells.lookup x=some c->c≠b)/\ ∀p∈X.pn++pins,p.1≠b
theorem Inv.fpOk {pins:List (Addr×Obj)}{σ:St}{H':Hp}(I:Inv X pins σ H s)(hb:s.heap.objs.size<=b)(hn:H' b=none):Pd X pins H' b:=by
 refine⟨hn,L7 (D2 I.lt hb),I.nofs hb,.inr (D7 I.sz hb),λx c e z=> ?_,λp hp z=> ?_⟩
 ·obtain⟨v,q⟩:=I.cell x c e;exact absurd (D2 q.lt (by rw [z];exact hb)) (S1 _)
 ·exact absurd (D2 (P6 (I.pin p hp).1) (by rw [z];exact hb)) (S1 _)
structure Turn (P:Program)(w:World)(K:PySem.W.Frag)(tg:Expr)(J:It)(fp:List Addr)(it:Addr)(tn:Nat->Heap->Prop):Prop where
 mem:it∈fp
 obj: ∀i h,tn i h-> ∀b∈fp,∃o,h.get? b=some o/\ ∀v,o.data≠ .cell v
 keep: ∀i h h',tn i h->(∀b∈fp,∀o,h.get? b=some o->h'.get? b=some o)->tn i h'
 item: ∀ (X:Cx),X.prog=P->X.w=w->X.K=K->X.calm=true-> ∀ (i:Nat) (pins:List (Addr×Obj)) (s:Shared) (σ:St) (H:Hp) (E:Value->Shared->Prop),Inv X pins σ H s->(∀b∈fp,Pd X pins H b)->tn i s.heap->J.go i H->
  wpAny (model P w) X.A (pyNext (.ref it)) (λr s1=> ∃u,r=some u/\
   wpAny (model P w) X.A (letOwnedTupleGo tg (.ref it) u) (λ_ s2=> ∃x H',Inv X pins σ H' s2/\RelV x u/\J.yld i H x H'/\tn (i+1) s2.heap/\ ∀b∈fp,H' b=none) E s1) E s
 done: ∀ (X:Cx),X.prog=P->X.w=w->X.K=K->X.calm=true-> ∀ (i:Nat) (pins:List (Addr×Obj)) (s:Shared) (σ:St) (H:Hp) (E:Value->Shared->Prop),Inv X pins σ H s->(∀b∈fp,Pd X pins H b)->tn i s.heap->J.stop i H->
  wpAny (model P w) X.A (pyNext (.ref it)) (λr s1=>r=none/\Inv X pins σ H s1) E s
 self: ∀ (A:Around) (i:Nat) (s:Shared) (Q:Value->Shared->Prop) (E:Value->Shared->Prop),tn i s.heap->Q (.ref it) s->wpAny (model P w) A (pyIter (.ref it)) Q E s
abbrev TI:=St->Hp->(It->Hp->Prop)->Prop
def PIE (X:Cx)(pins:List (Addr×Obj))(σ:St)(tg:Expr)(R:It->Hp->Prop)(itv:Value)(s2:Shared):Prop:=
 ∃ (it:Addr) (fp:List Addr) (tn:Nat->Heap->Prop) (J:It) (H':Hp),itv= .ref it/\Inv X pins σ H' s2/\Turn X.prog X.w X.K tg J fp it tn/\tn 0 s2.heap/\(∀b∈fp,Pd X pins H' b)/\R J H'
def PI (X:Cx)(tg iter:Expr)(wi:TI):Prop:=
 ∀ (pins:List (Addr×Obj)) (s:Shared) (σ:St) (H:Hp) (R:It->Hp->Prop),Inv X pins σ H s->wi σ H R->
  wpAny (model X.prog X.w) X.A (eval iter X.env) (λv s1=>wpAny (model X.prog X.w) X.A (pyIter v) (PIE X pins σ tg R) X.xe s1) X.xe s
variable {tg:Expr}
theorem NZ {M : Model} {E : Value → Shared → Prop} {it : Addr} {o : Obj} {n : String} {vs : Array Value} {Q : Unit → Shared → Prop} (ho : s.heap.get? it = some o) (hc : o.cls = .type n) (hd : o.data = .fields vs)
    (hn : ["enumerate", "zip", "dict_itemiterator", "dict_reverseitemiterator", "odict_iterator", "itertools.zip_longest", "itertools.pairwise"].contains n = false) (hQ : Q () s) : wpAny M A (letOwnedTupleGo tg (.ref it) u) Q E s := by
  unfold letOwnedTupleGo
  cases tg <;> first
    | exact G2 hQ
    | (cases u <;> first
        | exact G2 hQ
        | (refine wpAny_bind (wpAny_load ho ?_)
           rw [hc, hd]
           show wpAny M A (if (["enumerate", "zip", "dict_itemiterator", "dict_reverseitemiterator", "odict_iterator", "itertools.zip_longest", "itertools.pairwise"].contains n && vs[0]? == some (rawInt _)) = true then _ else _) Q E s
           rw [if_neg (by intro h; rw [hn, Bool.false_and] at h; cases h)]
           exact G2 hQ))
def Itl (K:PySem.W.Frag)(a:Addr):It:=
 ⟨λi H=> ∃xs x,SqL K H a xs/\xs[i]? =some x,λi H x H'=>H'=H/\ ∀xs,SqL K H a xs->xs[i]? =some x,λi H=> ∃xs,SqL K H a xs/\xs.length<=i⟩
def Itt (K:PySem.W.Frag)(a:Addr):It:=
 ⟨λi H=> ∃xs x,SqT K H a xs/\xs[i]? =some x,λi H x H'=>H'=H/\ ∀xs,SqT K H a xs->xs[i]? =some x,λi H=> ∃xs,SqT K H a xs/\xs.length<=i⟩
def Itr (lo:Int)(n:Nat):It:=⟨λi _=>i<n,λi H x H'=>H'=H/\x= .int (lo+i),λi _=>n<=i⟩
variable {K:PySem.W.Frag}
theorem VG (a it:Addr):Turn P w K tg (Itl K a) [it] it (λi h=>h.IsListIter it a i) where
 mem:=by simp
 obj:=λi h st b hb=>by
  have e:b=it:=by simpa using hb
  subst e;obtain⟨o,e,c,d⟩:=st;exact⟨o,e,λv z=>by rw [d] at z;cases z⟩
 keep:=λi h h' st k=>st.at λo e=>k it (by simp) o e
 item:=by
  intro X hP hw hK hc i pins s σ H E I hf st hg;subst hP hw hK;obtain⟨xs,x,hq,hx⟩:=hg;obtain⟨its,rv,p,hz⟩:=I.list hq;obtain⟨u,hu,ru⟩:=rv.get hx;obtain⟨f0,f1,f2,f3,f4,f5⟩:=hf it (by simp);refine wpAny_pyNext_list_item st p.isList (x:=u) (by simpa using hu) λh' st' sb=> ?_
  have I1:Inv X pins σ H {s with heap:=h'}:=I.turned (t':=s.toks) (λb o hb e=>(sb.2 b hb).trans e) f0 f1 f3 f4 f5;obtain⟨o,e,c,d⟩:=id st';exact⟨u,rfl,NZ (s:= {s with heap:=h'}) e c d (by decide) ⟨x,H,I1,ru,⟨rfl,λys hy=>by rw [I.list_inj hy hq];exact hx⟩,st',λb hb=>(hf b hb).1⟩⟩
 done:=by
  intro X hP hw hK hc i pins s σ H E I hf st hg;subst hP hw hK;obtain⟨xs,hq,hx⟩:=hg;obtain⟨its,rv,p,hz⟩:=I.list hq;obtain⟨f0,f1,f2,f3,f4,f5⟩:=hf it (by simp);have hl:=rv.length;exact wpAny_pyNext_list_end (I.ok.hd hc) st p.isList (by simp;omega) λh' eb=>⟨rfl,I.turned (t':=s.toks) (λb o hb e=>eb b o hb e) f0 f1 f3 f4 f5⟩
 self:=λ_ _ _ _ _ st h=>wpAny_pyIter_listiter st h
theorem Gf (a it:Addr):Turn P w K tg (Itt K a) [it] it (λi h=>h.IsTupleIter it a i) where
 mem:=by simp
 obj:=λi h st b hb=>by
  have e:b=it:=by simpa using hb
  subst e;obtain⟨o,e,c,d⟩:=st;exact⟨o,e,λv z=>by rw [d] at z;cases z⟩
 keep:=λi h h' st k=>st.at λo e=>k it (by simp) o e
 item:=by
  intro X hP hw hK hc i pins s σ H E I hf st hg;subst hP hw hK;obtain⟨xs,x,hq,hx⟩:=hg;obtain⟨its,rv,p,hz⟩:=I.tuple hq;obtain⟨u,hu,ru⟩:=rv.get hx;obtain⟨f0,f1,f2,f3,f4,f5⟩:=hf it (by simp);refine wpAny_pyNext_tuple_item st (show s.heap.IsTuple a its.toArray from p) (x:=u) (by simpa using hu) λh' st' sb=> ?_
  have I1:Inv X pins σ H {s with heap:=h'}:=I.turned (t':=s.toks) (λb o hb e=>(sb.2 b hb).trans e) f0 f1 f3 f4 f5;obtain⟨o,e,c,d⟩:=id st';exact⟨u,rfl,NZ (s:= {s with heap:=h'}) e c d (by decide) ⟨x,H,I1,ru,⟨rfl,λys hy=>by rw [I.tuple_inj hy hq];exact hx⟩,st',λb hb=>(hf b hb).1⟩⟩
 done:=by
  intro X hP hw hK hc i pins s σ H E I hf st hg;subst hP hw hK;obtain⟨xs,hq,hx⟩:=hg;obtain⟨its,rv,p,hz⟩:=I.tuple hq;obtain⟨f0,f1,f2,f3,f4,f5⟩:=hf it (by simp);have hl:=rv.length;exact wpAny_pyNext_tuple_end (I.ok.hd hc) st (show s.heap.IsTuple a its.toArray from p) (by simp;omega) λh' eb=>⟨rfl,I.turned (t':=s.toks) (λb o hb e=>eb b o hb e) f0 f1 f3 f4 f5⟩
 self:=λ_ _ _ _ _ st h=>wpAny_pyIter_tupleiter st h
theorem Gg (it:Addr)(lo:Int)(n:Nat):Turn P w K tg (Itr lo n) [it] it (λi h=>IsRangeIter h it (lo+(i:Nat)*1) ((n:Int)-(i:Nat)) 1) where
 mem:=by simp
 obj:=λi h st b hb=>by
  have e:b=it:=by simpa using hb
  subst e;exact⟨_,st,λv z=>by
   have z':Data.fields _=Data.cell v:=z;cases z'⟩
 keep:=λi h h' st k=>k it (by simp) _ st
 item:=by
  intro X hP hw hK hc i pins s σ H E I hf st hg;subst hP hw hK;obtain⟨f0,f1,f2,f3,f4,f5⟩:=hf it (by simp);have W:=Walks.range (prog:=X.prog) (w:=X.w) (I.ok.hd hc) it lo 1 n;refine W.item i s _ _ hg st λv h' tk hv st' kk=> ?_
  obtain⟨t,rfl⟩:=hv;have I1:Inv X pins σ H {s with heap:=h',toks:=tk}:=I.turned (λb o hb e=>kk b o (by simpa using hb) e) f0 f1 f3 f4 f5;refine⟨_,rfl,NZ (s:= {s with heap:=h',toks:=tk}) (n:= "range_iterator") st' rfl rfl (by decide) ⟨.int (lo+i),H,I1,⟨t,?_⟩,⟨rfl,rfl⟩,st',λb hb=>(hf b hb).1⟩⟩;rw [Int.mul_one]
 done:=by
  intro X hP hw hK hc i pins s σ H E I hf st hg;subst hP hw hK;obtain⟨f0,f1,f2,f3,f4,f5⟩:=hf it (by simp);exact wpAny_pyNext_range_end (I.ok.hd hc) st (by have:n<=i:=hg;omega) λh' eb=>⟨rfl,I.turned (t':=s.toks) (λb o hb e=>eb b o hb e) f0 f1 f3 f4 f5⟩
 self:=λ_ _ _ _ _ st h=>wpAny_pyIter_rangeiter st h
section
variable {X:Cx}{tg:Expr}
def Fm (K:PySem.W.Frag)(tl:TE):TI:=λσ H R=>tl σ H λx H1=> ∃a,x= .ref a/\(∃xs,SqL K H1 a xs)/\R (Itl K a) H1
theorem Ba {l:Expr}{tl:TE}(hl:PE X l tl):PI X tg l (Fm X.K tl):=by
 intro pins s σ H R I h;refine thn (hl pins s σ H _ I h) λv s1 ⟨x,H1,I1,r1,q1⟩=> ?_
 obtain⟨a,e,⟨xs,hq⟩,q⟩:=q1;subst e;cases r1;obtain⟨its,rv,p,hz⟩:=I1.list hq;refine O6 p.isList ?_;refine⟨s1.heap.objs.size,[s1.heap.objs.size],_,_,H1,rfl,I1.kept (t':=s1.toks) λb o e=>G1 _ e,VG a _,⟨_,D1 _ rfl,rfl,rfl⟩,λb hb=> ?_,q⟩;have e:b=s1.heap.objs.size:=by simpa using hb
 subst e;exact I1.fpOk (G5 _) (I1.hok.fresh (G5 _))
variable {pins:List (Addr×Obj)}
theorem RL {σ:St}{H:Hp}{s:Shared}{R:It->Hp->Prop}{E:Value->Shared->Prop}{lo hi:Int}{t u v:Tok}{tk:Nat}(I:Inv X pins σ H s)(h1: -(2^62)<=lo)(h2:lo<2^62)(h3: -(2^62)<=hi)(h4:hi<2^62)
 (q:R (Itr lo (hi-lo).toNat) H):wpAny (model X.prog X.w) X.A (pyIter (.ref s.heap.objs.size)) (PIE X pins σ tg R) E {s with heap:=s.heap.push {cls:= .type "range",data:= .fields #[.int lo t,.int hi u,.int 1 v]},toks:=tk}:=by
 refine wpAny_pyIter_range (IsRange.new ..) (small_one h1 h2 h3 h4) ?_;have I1:Inv X pins σ H {s with heap:=s.heap.push {cls:= .type "range",data:= .fields #[.int lo t,.int hi u,.int 1 v]},toks:=tk}:=I.kept λb o e=>G1 _ e
 refine⟨(s.heap.push {cls:= .type "range",data:= .fields #[.int lo t,.int hi u,.int 1 v]}).objs.size,[(s.heap.push {cls:= .type "range",data:= .fields #[.int lo t,.int hi u,.int 1 v]}).objs.size],_,_,H,rfl,
  I1.kept (t':=tk) λb o e=>G1 _ e,Gg _ lo (hi-lo).toNat,?_,λb hb=> ?_,q⟩
 ·have e1:lo+((0:Nat):Int)*1=lo:=by simp
  have e2:(((hi-lo).toNat:Nat):Int)-((0:Nat):Int)=Builtin.Range.rangeSize lo hi 1:=by rw [rangeSize_one];split<;>omega
  show IsRangeIter _ _ (lo+((0:Nat):Int)*1) ((((hi-lo).toNat:Nat):Int)-((0:Nat):Int)) 1;rw [e1,e2];exact D1 _ rfl
 ·have e:b=(s.heap.push {cls:= .type "range",data:= .fields #[.int lo t,.int hi u,.int 1 v]}).objs.size:=by simpa using hb
  subst e;exact I1.fpOk (G5 _) (I1.hok.fresh (G5 _))
def Fn (ta:TA):TI:=λσ H R=>ta σ H λvs H1=> ∃j:Int,vs= [.int j]/\ -(2^62)<=j/\j<2^62/\R (Itr 0 j.toNat) H1
theorem Pe {a:Expr}{ta:TA}{p pos:Pos}(hg:Gl X "range")(hm:X.mg "range" =none)(ha:PA X [a] ta)(hs:starEach [a] X.env= [(false,eval a X.env)]:=by rfl):PI X tg (.Call (.Name "range" p) [a] [] pos) (Fn ta):=by
 intro pins s σ H R I h;refine Call_ (WX I hg hm boot_range (C3 (thn (ha pos pins s σ H _ I h) λus s1 ⟨vs,H1,I1,r1,q1⟩=> ?_) hs rfl));obtain⟨j,e,q1,q2,q⟩:=q1;subst e;cases r1 with
 |cons r rr=>
  cases rr;obtain⟨t,rfl⟩:=r;exact call_range_1 (RL I1 (by omega) (by omega) q1 q2 (by simpa using q))
def AY (wi:TI)(g:TG)(tb:TS):TS:=λD σ H=>wi σ H λJ H1=> ∃W:Nat->Nat->St->Hp->Prop,(∃m,W 0 m σ H1)/\ ∀i m σ H,W i m σ H->
 (J.stop i H/\D.nx σ H)\/(J.go i H/\ ∃N:St->Hp->Prop,(∀σ' H',N σ' H'-> ∃m',m'<m/\W (i+1) m' σ' H')/\ ∀x H',J.yld i H x H'->g x σ H' λσ2 H2=>tb {D with nx:=N,ct:=N,bk:=D.nx} σ2 H2)
def ZT (fp:List Addr)(h:Heap):List (Addr×Obj):=fp.filterMap λb=>(h.get? b).map λo=>(b,o)
theorem vA {fp:List Addr}{h:Heap}{b:Addr}{o:Obj}(hb:b∈fp)(e:h.get? b=some o):(b,o)∈ZT fp h:=L5.mpr ⟨b,hb,by rw [e];rfl⟩
theorem VH {fp:List Addr}{h:Heap}{p:Addr×Obj}(hp:p∈ZT fp h):p.1∈fp/\h.get? p.1=some p.2:=by
 obtain⟨b,hb,e⟩:=L5.mp hp;cases q:h.get? b with
 |none=>rw [q] at e;cases e
 |some o=>
  rw [q] at e;have e':(b,o)=p:=S0 e;subst e';exact⟨hb,q⟩
theorem Inv.pinned {σ:St}{H:Hp}{s:Shared}{fp:List Addr}(I:Inv X pins σ H s)(hf: ∀b∈fp,Pd X pins H b)(ho: ∀b∈fp,∃o,s.heap.get? b=some o/\ ∀v,o.data≠ .cell v):Inv X (pins++ZT fp s.heap) σ H s:=
 I.pins_of λp hp=>(D4.mp hp).elim (λz=>I.pin p (D0 _ z)) λz=>by
  obtain⟨hb,e⟩:=VH z;obtain⟨f0,f1,f2,_⟩:=hf p.1 hb;obtain⟨o,e',d⟩:=ho p.1 hb;rw [e] at e';cases e';exact⟨e,f0,f1,f2,d⟩
theorem Inv.unpinned {pl:List (Addr×Obj)}{σ:St}{H:Hp}{s:Shared}(I:Inv X (pins++pl) σ H s):Inv X pins σ H s:=I.pins_of λp hp=>I.pin p (D0 _ (M1 _ hp))
theorem Fo {iter:Expr}{body:List Stmt}{wi:TI}{g:TG}{tb:TS}{pos:Pos}(hp:PassesOwn (model X.prog X.w) X.A X.env X.xe)(hc:X.calm=true)(hi:PI X tg iter wi)(hg:PG X tg g)(hb:PSs X body tb)
 (hs: ∀x,foldedSetIterable iter X.env x=pure x:=by intro _;rfl):PS X (.For tg iter body [] pos) (AY wi g tb):=by
 intro pins s σ H D I h;refine wpAny_For (thn (hi pins s σ H _ I h) λv s1 h1=>thn h1 λitv s2 h2=> ?_) hs;obtain⟨it,fp,tn,J,H2,e,I2,T,st2,f2,W,⟨m0,w0⟩,turn⟩:=h2;subst e
 -- what stays true of the iterator's objects through the loop
 have stat: ∀ {H':Hp},(∀b∈fp,H' b=none)-> ∀b∈fp,Pd X pins H' b:=λhn b hb=>⟨hn b hb,(f2 b hb).2⟩
 refine codeAny_forLoop_any (λn s'=> ∃i σ' H',Inv X pins σ' H' s'/\tn i s'.heap/\(∀b∈fp,H' b=none)/\W i n σ' H') ?_ m0 ⟨0,σ,H2,I2,st2,λb hb=>(f2 b hb).1,w0⟩;rintro n s3 ⟨i,σ3,H3,I3,st3,fr3,w3⟩;rcases turn i n σ3 H3 w3 with ⟨stop,qn⟩|⟨go,N,hN,step⟩
 ·refine F5 hp (thn (T.done X rfl rfl rfl hc i pins s3 σ3 H3 X.xe I3 (stat fr3) st3 stop) λr s4 ⟨hr,I4⟩=> ?_);subst hr;exact K6 ⟨σ3,H3,I4,qn⟩
 ·refine F5 hp (thn (T.item X rfl rfl rfl hc i pins s3 σ3 H3 X.xe I3 (stat fr3) st3 go) λr s4 ⟨u,hr,h4⟩=> ?_);subst hr;refine F5 hp (thn h4 λ_ s5 ⟨x,H5,I5,r5,y5,st5,fr5⟩=> ?_);have I5':=I5.pinned (stat fr5) (T.obj _ _ st5);refine F5 hp (thn (hg _ s5 σ3 H5 x u _ I5' r5 (step x H5 y5)) λ_ s6 ⟨σ6,H6,I6,q6⟩=> ?_);refine F5 hp (thn (hb _ s6 σ6 H6 _ I6 q6) λf s7 q7=> ?_);have again: ∀ {σ7:St} {H7:Hp},Inv X (pins++ZT fp s5.heap) σ7 H7 s7->N σ7 H7-> ∃m,m<n/\ ∃i σ' H',Inv X pins σ' H' s7/\tn i s7.heap/\(∀b∈fp,H' b=none)/\W i m σ' H':=λ{σ7 H7} I7 n7=>by
   obtain⟨m',hm,w7⟩:=hN σ7 H7 n7;refine⟨m',hm,i+1,σ7,H7,I7.unpinned,T.keep _ _ _ st5 λb hb o e=>(I7.pin (b,o) (D0 _ (D0 _ (vA hb e)))).1,λb hb=> ?_,w7⟩;obtain⟨o,e,d⟩:=T.obj _ _ st5 b hb;exact(I7.pin (b,o) (D0 _ (D0 _ (vA hb e)))).2.1
  cases f with
  |next=>obtain⟨σ7,H7,I7,n7⟩:=q7;exact again I7 n7
  |cont=>obtain⟨σ7,H7,I7,n7⟩:=q7;exact again I7 n7
  |brk=>obtain⟨σ7,H7,I7,q7⟩:=q7;exact⟨σ7,H7,I7.unpinned,q7⟩
  |ret v=>obtain⟨x7,σ7,H7,I7,r7,q7⟩:=q7;exact⟨x7,σ7,H7,I7.unpinned,r7,q7⟩
end
abbrev R2:=V->V->Hp->VK->Prop
def OpR (X:Cx)(f:Value->Value->Sem Value)(r:R2):Prop:=
 ∀ (pins:List (Addr×Obj)) (s:Shared) (σ:St) (H:Hp) (x y:V) (v u:Value) (Q:VK),Inv X pins σ H s->RelV x v->RelV y u->r x y H Q->
  wpAny (model X.prog X.w) X.A (f v u) (EP X pins σ Q) X.xe s
def UnR (X:Cx)(f:Value->Sem Value)(r:V->Hp->VK->Prop):Prop:=
 ∀ (pins:List (Addr×Obj)) (s:Shared) (σ:St) (H:Hp) (x:V) (v:Value) (Q:VK),Inv X pins σ H s->RelV x v->r x H Q->
  wpAny (model X.prog X.w) X.A (f v) (EP X pins σ Q) X.xe s
def CallR (X:Cx)(f:Value)(r:List V->Hp->VK->Prop):Prop:=
 ∀ (pins:List (Addr×Obj)) (s:Shared) (σ:St) (H:Hp) (xs:List V) (us:List Value) (Q:VK),Inv X pins σ H s->Vals xs us->r xs H Q->
  wpAny (model X.prog X.w) X.A (call f us) (EP X pins σ Q) X.xe s
def tOp (r:R2)(ta tb:TE):TE:=λσ H Q=>ta σ H λx H1=>tb σ H1 λy H2=>r x y H2 Q
def tUn (r:V->Hp->VK->Prop)(ta:TE):TE:=λσ H Q=>ta σ H λx H1=>r x H1 Q
def rI (C:Int->Int->Prop)(g:Int->Int->V):R2:=λx y H Q=> ∃i j,x= .int i/\y= .int j/\C i j/\Q (g i j) H
def rI0 (g:Int->Int->V):R2:=λx y H Q=> ∃i j,x= .int i/\y= .int j/\Q (g i j) H
def rU (g:Int->V):V->Hp->VK->Prop:=λx H Q=> ∃i,x= .int i/\Q (g i) H
section
variable {X:Cx}{a b c:Expr}{ta tb tc:TE}{pos:Pos}
theorem OE (ha:PE X a ta)(hb:PE X b tb){pins:List (Addr×Obj)}{s:Shared}{σ:St}{H:Hp}{R:V->V->Hp->Prop}(I:Inv X pins σ H s)
 (h:ta σ H λx H1=>tb σ H1 λy H2=>R x y H2){Q:Value->Shared->Prop}{f:Value->Value->Sem Value}
 (hf: ∀v u s2 x y H2,Inv X pins σ H2 s2->RelV x v->RelV y u->R x y H2->wpAny (model X.prog X.w) X.A (f v u) Q X.xe s2):
 wpAny (model X.prog X.w) X.A (eval a X.env) (λv s₁=>wpAny (model X.prog X.w) X.A (eval b X.env) (λu s₂=>wpAny (model X.prog X.w) X.A (f v u) Q X.xe s₂) X.xe s₁) X.xe s:=by
 refine thn (ha pins s σ H _ I h) λv s1 ⟨x,H1,I1,r1,q1⟩=> ?_
 refine thn (hb pins s1 σ H1 _ I1 q1) λu s2 ⟨y,H2,I2,r2,q2⟩=> ?_
 exact hf v u s2 x y H2 I2 r1 r2 q2
theorem OF {op:Operator}{r:R2}(ho:OpR X (binaryOp op) r)(ha:PE X a ta)(hb:PE X b tb):PE X (.BinOp a op b pos) (tOp r ta tb):=by
 intro pins s σ H Q I h;exact wpAny_BinOp (OE ha hb I h λv u s2 x y H2 I2 rx ry q=>ho pins s2 σ H2 x y v u Q I2 rx ry q)
theorem OG {op:UnaryOp}{r:V->Hp->VK->Prop}(ho:UnR X (unaryOp op) r)(ha:PE X a ta):PE X (.UnaryOp op a pos) (tUn r ta):=by
 intro pins s σ H Q I h;exact UnaryOp_ (thn (ha pins s σ H _ I h) λv s1 ⟨x,H1,I1,r1,q1⟩=>ho pins s1 σ H1 x v Q I1 r1 q1)
variable {f:Value->Value->Sem Value}
theorem opI {C:Int->Int->Prop}{g:Int->Int->Int}
 (rule: ∀ (i j:Int) (t u:Tok) (s:Shared) (Q:Value->Shared->Prop) (E:Value->Shared->Prop),C i j->Q (.int (g i j) s.toks) {s with toks:=s.toks+1}->wpAny (model X.prog X.w) X.A (f (.int i t) (.int j u)) Q E s):
 OpR X f (rI C λi j=> .int (g i j)):=by
 intro pins s σ H x y v u Q I rx ry h;obtain⟨i,j,rfl,rfl,hc,q⟩:=h;obtain⟨t,rfl⟩:=rx;obtain⟨t',rfl⟩:=ry;exact rule i j t t' s _ _ hc ⟨.int (g i j),H,I.tok _,⟨_,rfl⟩,q⟩
theorem AZ {g:Int->Int->Int}
 (rule: ∀ (i j:Int) (t u:Tok) (s:Shared) (Q:Value->Shared->Prop) (E:Value->Shared->Prop),Q (.int (g i j) s.toks) {s with toks:=s.toks+1}->wpAny (model X.prog X.w) X.A (f (.int i t) (.int j u)) Q E s):
 OpR X f (rI0 λi j=> .int (g i j)):=by
 intro pins s σ H x y v u Q I rx ry h;obtain⟨i,j,rfl,rfl,q⟩:=h;obtain⟨t,rfl⟩:=rx;obtain⟨t',rfl⟩:=ry;exact rule i j t t' s _ _ ⟨.int (g i j),H,I.tok _,⟨_,rfl⟩,q⟩
theorem Ou {g:Int->Int->Bool}
 (rule: ∀ (i j:Int) (t u:Tok) (s:Shared) (Q:Value->Shared->Prop) (E:Value->Shared->Prop),Q (.bool (g i j)) s->wpAny (model X.prog X.w) X.A (f (.int i t) (.int j u)) Q E s):
 OpR X f (rI0 λi j=> .bl (g i j)):=by
 intro pins s σ H x y v u Q I rx ry h;obtain⟨i,j,rfl,rfl,q⟩:=h;obtain⟨t,rfl⟩:=rx;obtain⟨t',rfl⟩:=ry;exact rule i j t t' s _ _ ⟨.bl (g i j),H,I,rfl,q⟩
def Ea (i j:Int):Prop:=0<j/\j<1073741824
def Eb (i j:Int):Prop:=0<=j/\j<=1000000/\i.natAbs<2^64
def CMul (i j:Int):Prop:=(-(2^64)<i/\i<2^64)\/(-(2^64)<j/\j<2^64)
theorem CMul.ok {i j:Int}(h:CMul i j):IntMulOk i j:=by
 rcases h with ⟨h1,h2⟩|⟨h1,h2⟩
 ·exact .of_left (intBits_le_64 h1 h2)
 ·exact .of_right (intBits_le_64 h1 h2)
theorem op_add:OpR X (binaryOp .Add) (rI0 λi j=> .int (i+j)):=AZ λ_ _ _ _ _ _ _ q=>add_int q
theorem Fp:OpR X (binaryOp .Sub) (rI0 λi j=> .int (i-j)):=AZ λ_ _ _ _ _ _ _ q=>sub_int q
theorem op_mul:OpR X (binaryOp .Mult) (rI CMul λi j=> .int (i*j)):=opI λ_ _ _ _ _ _ _ hc q=>mul_int q hc.ok
theorem Bb:OpR X (binaryOp .FloorDiv) (rI Ea λi j=> .int (i / j)):=opI λi j _ _ _ _ _ hc q=>by
 have h1:(0:Int)<j:=hc.1;have h2:j<1073741824:=hc.2;exact floordiv_int (by omega) (by rw [Q7 i (by omega)];exact q) (.inl (PyProof.noPylong_small (by omega)))
theorem Fq:OpR X (binaryOp .Mod) (rI (λ_ j=>0<j) λi j=> .int (i%j)):=opI λi j _ _ _ _ _ hc q=>by
 have h1:(0:Int)<j:=hc;exact mod_int' (by omega) (by rw [Q8 i (by omega)];exact q)
theorem Fr:OpR X (binaryOp .Pow) (rI Eb λi j=> .int (i^j.toNat)):=opI λ_ _ _ _ _ _ _ hc q=>pow_int_small hc.1 hc.2.1 hc.2.2 q
theorem unI {f:Value->Sem Value}{g:Int->Int}
 (rule: ∀ (i:Int) (t:Tok) (s:Shared) (Q:Value->Shared->Prop) (E:Value->Shared->Prop),Q (.int (g i) s.toks) {s with toks:=s.toks+1}->wpAny (model X.prog X.w) X.A (f (.int i t)) Q E s):
 UnR X f (rU λi=> .int (g i)):=by
 intro pins s σ H x v Q I rx h;obtain⟨i,rfl,q⟩:=h;obtain⟨t,rfl⟩:=rx;exact rule i t s _ _ ⟨.int (g i),H,I.tok _,⟨_,rfl⟩,q⟩
theorem Fs:UnR X (unaryOp .USub) (rU λi=> .int (-i)):=unI λ_ _ _ _ _ q=>neg_int q
end
def Ec:V->V->Bool
 | .non,.non=>true| .non,.int _=>true| .int _,.non=>true| .non,.bl _=>true| .bl _,.non=>true| .non,.str _=>true| .str _,.non=>true
 | .int _,.int _=>true| .bl _,.bl _=>true| .str _,.str _=>true| .byt _,.byt _=>true
 | .int _,.str _=>true| .str _,.int _=>true| .bl _,.str _=>true| .str _,.bl _=>true
 |_,_=>false
def rEq:R2:=λx y H Q=>Ec x y=true/\Q (.bl (decide (x=y))) H
def rNe:R2:=λx y H Q=>Ec x y=true/\Q (.bl (!decide (x=y))) H
theorem Pf {i j:Int}:decide (V.int i=V.int j)=(i==j):=by
 rw [C4];simp
theorem Nk {i j:Bool}:decide (V.bl i=V.bl j)=(i==j):=by
 rw [C4];simp
theorem Pg {i j:Str}:decide (V.str i=V.str j)=(i==j):=by
 rw [C4];simp
theorem Ph {i j:Array UInt8}:decide (V.byt i=V.byt j)=(i.toList==j.toList):=by
 rw [C4];cases i;cases j;simp
section
variable {X:Cx}{a b c:Expr}{ta tb tc:TE}{pos:Pos}
theorem jM {pins:List (Addr×Obj)}{σ:St}{H:Hp}{s:Shared}{Q:VK}{k k':Bool}(I:Inv X pins σ H s)(q:Q (.bl k) H)(e:k=k'):EP X pins σ Q (.bool k') s:=by
 subst e;exact⟨.bl k,H,I,rfl,q⟩
theorem op_eq:OpR X (compareOp .Eq) rEq:=by
 intro pins s σ H x y v u Q I rx ry h;obtain⟨hs,q⟩:=h;cases x with
 |non=>
  cases rx;cases y with
  |non=>cases ry;exact PySem.EqNone.eq_none_none (jM I q (by simp))
  |bl j=>cases ry;exact PySem.EqNone.eq_none_bool (jM I q (by simp))
  |int j=>obtain⟨t',rfl⟩:=ry;exact PySem.EqNone.eq_none_int (jM I q (by simp))
  |str j=>obtain⟨t',rfl⟩:=ry;exact PySem.EqNone.eq_none_str (jM I q (by simp))
  |_=>exact absurd (show false=true from hs) P1
 |bl i=>
  cases rx;cases y with
  |non=>cases ry;exact PySem.EqNone.eq_bool_none (jM I q (by simp))
  |bl j=>cases ry;exact eq_bool (jM I q Nk)
  |str j=>obtain⟨t',rfl⟩:=ry;exact PySem.EqMixed.eq_bool_str (jM I q (by simp))
  |_=>exact absurd (show false=true from hs) P1
 |int i=>
  obtain⟨t,rfl⟩:=rx;cases y with
  |non=>cases ry;exact PySem.EqNone.eq_int_none (jM I q (by simp))
  |int j=>obtain⟨t',rfl⟩:=ry;exact eq_int (jM I q Pf)
  |str j=>obtain⟨t',rfl⟩:=ry;exact PySem.EqMixed.eq_int_str (jM I q (by simp))
  |_=>exact absurd (show false=true from hs) P1
 |str i=>
  obtain⟨t,rfl⟩:=rx;cases y with
  |non=>cases ry;exact PySem.EqNone.eq_str_none (jM I q (by simp))
  |bl j=>cases ry;exact PySem.EqMixed.eq_str_bool (jM I q (by simp))
  |int j=>obtain⟨t',rfl⟩:=ry;exact PySem.EqMixed.eq_str_int (jM I q (by simp))
  |str j=>obtain⟨t',rfl⟩:=ry;exact eq_str (jM I q Pg)
  |_=>exact absurd (show false=true from hs) P1
 |byt i=>
  obtain⟨t,rfl⟩:=rx;cases y with
  |byt j=>obtain⟨t',rfl⟩:=ry;exact PySem.W.eq_bytes (jM I q Ph)
  |_=>exact absurd (show false=true from hs) P1
 |_=>cases y<;>exact absurd (show false=true from hs) P1
theorem op_ne:OpR X (compareOp .NotEq) rNe:=by
 intro pins s σ H x y v u Q I rx ry h;obtain⟨hs,q⟩:=h;cases x with
 |non=>
  cases rx;cases y with
  |non=>cases ry;exact PySem.EqNone.ne_none_none (jM I q (by simp))
  |bl j=>cases ry;exact PySem.EqNone.ne_none_bool (jM I q (by simp))
  |int j=>obtain⟨t',rfl⟩:=ry;exact PySem.EqNone.ne_none_int (jM I q (by simp))
  |str j=>obtain⟨t',rfl⟩:=ry;exact PySem.EqNone.ne_none_str (jM I q (by simp))
  |_=>exact absurd (show false=true from hs) P1
 |bl i=>
  cases rx;cases y with
  |non=>cases ry;exact PySem.EqNone.ne_bool_none (jM I q (by simp))
  |bl j=>cases ry;exact ne_bool (jM I q (congrArg not Nk))
  |str j=>obtain⟨t',rfl⟩:=ry;exact PySem.EqMixed.ne_bool_str (jM I q (by simp))
  |_=>exact absurd (show false=true from hs) P1
 |int i=>
  obtain⟨t,rfl⟩:=rx;cases y with
  |non=>cases ry;exact PySem.EqNone.ne_int_none (jM I q (by simp))
  |int j=>obtain⟨t',rfl⟩:=ry;exact ne_int (jM I q (congrArg not Pf))
  |str j=>obtain⟨t',rfl⟩:=ry;exact PySem.EqMixed.ne_int_str (jM I q (by simp))
  |_=>exact absurd (show false=true from hs) P1
 |str i=>
  obtain⟨t,rfl⟩:=rx;cases y with
  |non=>cases ry;exact PySem.EqNone.ne_str_none (jM I q (by simp))
  |bl j=>cases ry;exact PySem.EqMixed.ne_str_bool (jM I q (by simp))
  |int j=>obtain⟨t',rfl⟩:=ry;exact PySem.EqMixed.ne_str_int (jM I q (by simp))
  |str j=>obtain⟨t',rfl⟩:=ry;exact ne_str (jM I q (congrArg not Pg))
  |_=>exact absurd (show false=true from hs) P1
 |byt i=>
  obtain⟨t,rfl⟩:=rx;cases y with
  |byt j=>obtain⟨t',rfl⟩:=ry;exact PySem.W.ne_bytes (jM I q (congrArg not Ph))
  |_=>exact absurd (show false=true from hs) P1
 |_=>cases y<;>exact absurd (show false=true from hs) P1
theorem OH:OpR X (compareOp .Lt) (rI0 λi j=> .bl (decide (i<j))):=Ou λ_ _ _ _ _ _ _ q=>lt_int q
theorem OJ:OpR X (compareOp .LtE) (rI0 λi j=> .bl (decide (i<=j))):=Ou λ_ _ _ _ _ _ _ q=>le_int q
theorem OK:OpR X (compareOp .Gt) (rI0 λi j=> .bl (decide (j<i))):=Ou λ_ _ _ _ _ _ _ q=>gt_int q
theorem OL:OpR X (compareOp .GtE) (rI0 λi j=> .bl (decide (j<=i))):=Ou λ_ _ _ _ _ _ _ q=>ge_int q
variable {r:R2}
theorem OpR.or {f:Value->Value->Sem Value}{r':R2}(h:OpR X f r)(h':OpR X f r'):OpR X f (λx y H Q=>r x y H Q\/r' x y H Q):=by
 intro pins s σ H x y v u Q I rx ry q;rcases q with q|q
 ·exact h pins s σ H x y v u Q I rx ry q
 ·exact h' pins s σ H x y v u Q I rx ry q
theorem jF (b:Expr){op:CmpOp}(h:op≠ .In:=by decide)(h2:op≠ .NotIn:=by decide):behindInMarks op b=false:=by
 have e1:(op==CmpOp.In)=false:=by cases op<;>first|rfl|exact absurd rfl h
 have e2:(op==CmpOp.NotIn)=false:=by cases op<;>first|rfl|exact absurd rfl h2
 cases b<;>simp [behindInMarks,e1,e2]
theorem Bc {op:CmpOp}(ho:OpR X (compareOp op) r)(ha:PE X a ta)(hb:PE X b tb)(hm:behindInMarks op b=false):PE X (.Compare a [op] [b] pos) (tOp r ta tb):=by
 intro pins s σ H Q I h;exact wpAny_Compare1 (OE ha hb I h λv u s2 x y H2 I2 rx ry q=>ho pins s2 σ H2 x y v u Q I2 rx ry q) hm
def Bd (t:TE):TT:=λσ H Q=>t σ H λx H'=> ∃k,x= .bl k/\Q k H'
theorem Be {op:CmpOp}(ho:OpR X (compareOp op) r)(ha:PE X a ta)(hb:PE X b tb)(hm:behindInMarks op b=false):PT X (.Compare a [op] [b] pos) (Bd (tOp r ta tb)):=by
 intro pins s σ H Q I h;refine wpAny_isTrue_Compare1 (thn (ha pins s σ H _ I h) λv s1 ⟨x,H1,I1,r1,q1⟩=>thn (hb pins s1 σ H1 _ I1 q1) λu s2 ⟨y,H2,I2,r2,q2⟩=>
  thn (ho pins s2 σ H2 x y v u _ I2 r1 r2 q2) λc s3 ⟨z,H3,I3,r3,k,e,q3⟩=> ?_) hm
 subst e;cases r3;exact B1 ⟨H3,I3,q3⟩
def Nl (r r':R2)(ta tb tc:TE):TE:=λσ H Q=>ta σ H λx H1=>tb σ H1 λy H2=>r x y H2 λz H3=> ∃k,z= .bl k/\
 (if k=true then tc σ H3 λw' H4=>r' y w' H4 Q else Q (.bl false) H3)
theorem RM {op op':CmpOp}{r':R2}(ho:OpR X (compareOp op) r)(ho':OpR X (compareOp op') r')(ha:PE X a ta)(hb:PE X b tb)(hc:PE X c tc)
 (hm:lastMarks [op,op'] [b,c]=false:=by with_unfolding_all rfl):PT X (.Compare a [op,op'] [b,c] pos) (Bd (Nl r r' ta tb tc)):=by
 intro pins s σ H Q I h;refine isTrue_chain (thn (ha pins s σ H _ I h) λv s1 ⟨x,H1,I1,r1,q1⟩=>test_link (thn (hb pins s1 σ H1 _ I1 q1) λu s2 ⟨y,H2,I2,r2,q2⟩=>
  thn (ho pins s2 σ H2 x y v u _ I2 r1 r2 q2) λd s3 ⟨z,H3,I3,r3,k,e,q3⟩=> ?_)) hm
 subst e;cases r3;refine B1 ?_;cases k with
 |false=>
  obtain⟨k',e',q'⟩:=q3;cases e';exact ite_ff ⟨H3,I3,q'⟩
 |true=>
  refine ite_tt (test_last (thn (hc pins s3 σ H3 _ I3 q3) λw' s4 ⟨z',H4,I4,r4,q4⟩=>thn (ho' pins s4 σ H4 y z' u w' _ I4 r2 r4 q4) λd' s5 ⟨z2,H5,I5,r5,k2,e2,q5⟩=> ?_));subst e2;cases r5;exact B1 ⟨H5,I5,q5⟩
theorem VI:(sizeLine:Nat)<2^63:=by rw [sizeLine_eq];decide
theorem ZB {x:V}{us:List Value}(r:Vals [x] us): ∃u,us= [u]/\RelV x u:=by
 cases r with
 |cons r1 r2=>cases r2;exact⟨_,rfl,r1⟩
theorem RN {x y:V}{us:List Value}(r:Vals [x,y] us): ∃u w',us= [u,w']/\RelV x u/\RelV y w':=by
 cases r with
 |cons r1 r2=>
  cases r2 with
  |cons r3 r4=>cases r4;exact⟨_,_,rfl,r1,r3⟩
theorem Pi (hc:X.calm=true):CallR X (.builtin "max") (λxs H Q=> ∃i j,xs= [.int i,.int j]/\Q (.int (if j>i then j else i)) H):=by
 intro pins s σ H xs us Q I r h;obtain⟨i,j,rfl,q⟩:=h;obtain⟨u,w',rfl,⟨t,rfl⟩,⟨t',rfl⟩⟩:=RN r;refine max_two_ints (I.ok.hd hc) λh' tk k=>⟨_,H,I.kept k,?_,q⟩
 by_cases hj:j>i
 ·rw [if_pos hj,if_pos hj];exact⟨_,rfl⟩
 ·rw [if_neg hj,if_neg hj];exact⟨_,rfl⟩
theorem call_int1:CallR X (.type "int") (λxs H Q=>(∃i,xs= [.int i]/\Q (.int i) H)\/ ∃k,xs= [.bl k]/\Q (.int (if k then 1 else 0)) H):=by
 intro pins s σ H xs us Q I r h;rcases h with ⟨i,rfl,q⟩|⟨k,rfl,q⟩
 ·obtain⟨u,rfl,t,rfl⟩:=ZB r;exact call_int_int ⟨.int i,H,I,⟨_,rfl⟩,q⟩
 ·obtain⟨u,rfl,r1⟩:=ZB r;cases r1;exact call_int_bool ⟨.int (if k then 1 else 0),H,I.tok _,⟨_,rfl⟩,q⟩
end
structure ObjM (h:Heap)(x dx C:Addr)(mA:Str->Option Value):Prop where
 obj:h.get? x=some (PySem.W.instObj C dx)
 ns:h.Ns1 dx mA
 ne:dx≠x
theorem Pj {dx:Addr}{mA:Str->Option Value}(n:h.Ns1 dx mA): ∃od,h.get? dx=some od/\ ∀name,PySem.W.lookIn name od=some (mA name):=by
 obtain⟨o,es,ep,ho,hd,hk,_,hm⟩:=n;refine⟨o,ho,λname=> ?_⟩;have e:=hm name;unfold nsFind findBy at e;rw [<-Array.find?_toList] at e;unfold PySem.W.lookIn;rw [hd];dsimp only;split
 ·rename_i y q;rw [q] at e;exact congrArg some e
 ·rename_i q;rw [q] at e;have a:es.toList.any (·.refKey)=false:=by
   rw [List.any_eq_false];intro y hy;obtain⟨z,t,hkey⟩:=hk y (Y0.mp hy);simp [DictEntry.refKey,hkey]
  have a': ¬es.toList.any (·.refKey)=true:=by rw [a];exact P1
  rw [if_neg a'];exact congrArg some e
theorem ObjM.look {x dx C:Addr}{mA:Str->Option Value}(I:ObjM h x dx C mA): ∃od,PySem.W.InstAt h x (PySem.W.instObj C dx) C (some od)/\ ∀name,PySem.W.lookIn name od=some (mA name):=
 let ⟨od,ho,hl⟩:=Pj I.ns
 ⟨od,⟨I.obj,rfl,rfl,ho⟩,hl⟩
section
variable {P:Program}{w:World}{H H':Hp}{h h':Heap}{a C dx:Addr}{fs fs':List (Str×V)}
theorem Bf (hok:HOk P w H h)(e:H a=some (.ins C dx fs)): ∃mA,ObjM h a dx C mA/\(∀f,Oy (fs.lookup f) (mA f))/\PySem.Within mA (fs.map (·.1))/\fs.length<=1000/\H dx=some (.own a):=by
 obtain⟨d,z,ne,ob,mA,n,r,q⟩:=(show ObjOk P w H h a (.ins C dx fs) from hok a _ e);exact⟨mA,⟨ob,n,ne⟩,r,q,z,d⟩
end
structure Cls (K:PySem.W.Frag)(C:Addr):Prop where
 pg:PySem.W.plainGet K C Str.empty=true
 hd:PySem.W.hasDictIn K C=true
 po:PySem.W.plainOver K C=true
 sa:PySem.W.findIn K (.ref C) "__setattr__" =some (some (.builtin "object.__setattr__"))
theorem Cls.get {C:Addr}(c:Cls K C)(f:Str):PySem.W.plainGet K C f=true:=c.pg
section
variable {X:Cx}{pins:List (Addr×Obj)}{σ:St}{H:Hp}{s:Shared}{A:Around}{E:Value->Shared->Prop}{Q:Value->Shared->Prop}{c:Value}{b:Bool}
inductive TyOf (K:PySem.W.Frag)(H:Hp):V->Value->Prop where
 |non:TyOf K H .non (.type "NoneType")
 |bl (x:Bool):TyOf K H (.bl x) (.type "bool")
 |int (i:Int):TyOf K H (.int i) (.type "int")
 |str (x:Str):TyOf K H (.str x) (.type "str")
 |flt (x:UInt64):TyOf K H (.flt x) (.type "float")
 |lst {a:Addr} {xs:List V} (e:H a=some (.lst xs)):TyOf K H (.ref a) (.type "list")
 |frz {a:Addr} {o:Obj} {xs:List V} (e:H a=some (.frz o (.lst xs))):TyOf K H (.ref a) (.type "list")
 |tup {a:Addr} {xs:List V} (e:H a=some (.tup xs)):TyOf K H (.ref a) (.type "tuple")
 |dK {a:Addr} {kvs:List (Key×V)} (e:H a=some (.dK kvs)):TyOf K H (.ref a) (.type "dict")
 |dT {a:Addr} {kvs:List (List Key×V)} (e:H a=some (.dT kvs)):TyOf K H (.ref a) (.type "dict")
 |ins {a C dx:Addr} {fs:List (Str×V)} (e:H a=some (.ins C dx fs)) (cl:Cls K C) (ha:PySem.W.findIn K (.ref C) "__class__" =some (some (.builtin "object.__class__")))
  (hn:PySem.W.specialIn K (.builtin "object.__class__") "__get__" =some (some (.builtin "getset_descriptor.__get__"))) (htk:PySem.W.takesIn K (.builtin "object.__class__")=some true)
  (hm:PySem.W.mroIn K C (.type "object")=some true):TyOf K H (.ref a) (.ref C)
theorem Pk {x:V}{u t:Value}(I:Inv X pins σ H s)(rx:RelV x u)(ty:TyOf X.K H x t)(e:PySem.W.kitOne X.K t c=some b)(h: ∀tk,Q (.bool b) {s with toks:=tk}):
 wpAny (model X.prog X.w) A (call (.builtin "isinstance") [u,c]) Q E s:=by
 cases ty with
 |non=>cases (show u=Value.none from rx);exact M4 PySem.W.kitx_none I.kIn True.intro e (λz=>nomatch z) h
 |bl y=>cases (show u=Value.bool y from rx);exact M4 PySem.W.kitx_bool I.kIn True.intro e (λz=>nomatch z) h
 |int i=>obtain⟨t,q⟩:=(show ∃t,u=Value.int i t from rx);cases q;exact M4 PySem.W.kitx_int I.kIn True.intro e (λz=>nomatch z) h
 |str y=>obtain⟨t,q⟩:=(show ∃t,u=Value.str y t from rx);cases q;exact M4 PySem.W.kitx_str I.kIn True.intro e (λz=>nomatch z) h
 |flt y=>obtain⟨t,q⟩:=(show ∃t,u=Value.float y t from rx);cases q;exact M4 PySem.W.kitx_float I.kIn True.intro e (λz=>nomatch z) h
 | @lst a xs ea=>
  cases (show u=Value.ref a from rx);obtain⟨_,_,n,_,h1⟩:=(show ObjOk X.prog X.w H s.heap a (.lst xs) from I.hok a _ ea);exact M4 PySem.W.kitx_list I.kIn ⟨_,h1,rfl⟩ e (λz=>nomatch z) h
 | @frz a ob xs ea=>
  cases (show u=Value.ref a from rx);obtain⟨_,_,_,n,_,h1⟩:=(show ObjOk X.prog X.w H s.heap a (.frz ob (.lst xs)) from I.hok a _ ea);exact M4 PySem.W.kitx_list I.kIn ⟨_,h1,rfl⟩ e (λz=>nomatch z) h
 | @tup a xs ea=>
  cases (show u=Value.ref a from rx);obtain⟨_,_,_,p⟩:=(show ObjOk X.prog X.w H s.heap a (.tup xs) from I.hok a _ ea);obtain⟨o,h1,h2,_⟩:=p;exact M4 PySem.W.kitx_tuple I.kIn ⟨o,h1,h2⟩ e (λz=>nomatch z) h
 | @dK a kvs ea=>
  cases (show u=Value.ref a from rx);obtain⟨_,_,vs,_,p⟩:=(show ObjOk X.prog X.w H s.heap a (.dK kvs) from I.hok a _ ea);obtain⟨o,es,ep,h1,h2,_⟩:=p;exact M4 PySem.W.kitx_dict I.kIn ⟨o,h1,h2.1⟩ e (λz=>nomatch z) h
 | @dT a kvs ea=>
  cases (show u=Value.ref a from rx);obtain⟨_,_,xs,_,o,es,ep,h1,h2,_⟩:=(show ObjOk X.prog X.w H s.heap a (.dT kvs) from I.hok a _ ea);exact M4 PySem.W.kitx_dict I.kIn ⟨o,h1,h2.1⟩ e (λz=>nomatch z) h
 | @ins a C dx fs ea cl ha hn htk hm=>
  cases (show u=Value.ref a from rx);obtain⟨mA,O,_⟩:=Bf I.hok ea;obtain⟨od,J,_⟩:=O.look;exact M4 (PySem.W.kitx_own (cl.get _) cl.hd ha hn htk hm) I.kIn J e (λz=>nomatch z) h
end
structure Room (k:Nat)(A:Around):Prop where
 hd:A.handled=none
 dp:A.depth+3*k+5<recursionLimit
 un:A.units+16*k+200<cLine
 gd:A.guards=some []
variable {k:Nat}
theorem Room.deeper (r:Room (k+1) A)(env:Env):Room k (A.deeper env):=
 ⟨r.hd,by have:=r.dp;show A.depth+1+3*k+5<_;omega,by have:=r.un;show A.units+3+16*k+200<_;omega,r.gd⟩
theorem Room.depth (r:Room k A):A.depth<recursionLimit:=by have:=r.dp;omega
theorem Room.units (r:Room k A):A.units+64<cLine:=by have:=r.un;omega
def Ed:TA:=λ_ H Q=>Q [] H
def Ft (ta:TE)(tr:TA):TA:=λσ H Q=>ta σ H λx H1=>tr σ H1 λxs H2=>Q (x::xs) H2
section
variable {X:Cx}{e:Expr}{es:List Expr}{te:TE}{t:TA}{pos:Pos}
theorem pa_nil:PA X [] Ed:=λ_ _ _ _ H Q I h=>Calls.spliced_nil ⟨[],H,I,.nil,h⟩
theorem yT (ha:PE X e te)(hr:PA X es t)(hs:starEach (e::es) X.env=(false,eval e X.env)::starEach es X.env:=by rfl):PA X (e::es) (Ft te t):=by
 intro pos pins s σ H Q I h;rw [hs];show wpAny _ _ (spliced ((false,eval e X.env)::backTo pos (starEach es X.env))) _ _ s;refine Calls.spliced_cons (thn (ha pins s σ H _ I h) λu s1 ⟨x,H1,I1,r1,q1⟩=> ?_);exact thn (hr pos pins s1 σ H1 _ I1 q1) λus s2 ⟨xs,H2,I2,r2,q2⟩=>⟨x::xs,H2,I2,.cons r1 r2,q2⟩
def Ee (t:TA):TE:=λσ H Q=>t σ H λxs H1=>xs.length<=sizeLine/\ ∀p,H1 p=none->Q (.ref p) (upd H1 p (.tup xs))
def Ef (t:TA):TE:=λσ H Q=>t σ H λxs H1=>xs.length<=sizeLine/\ ∀p,H1 p=none->Q (.ref p) (upd H1 p (.lst xs))
theorem Fu {x1}(h:PA X es t):PE X (.Tuple es x1 pos) (Ee t):=by
 intro pins s σ H Q I hq;refine wpAny_Tuple_spliced (thn (h pos pins s σ H _ I hq) λus s1 ⟨xs,H1,I1,r,z,q⟩=>⟨by rw [<-r.length];exact z,?_⟩);have hf:H1 s1.heap.objs.size=none:=I1.hok.fresh (G5 _);refine⟨.ref s1.heap.objs.size,upd H1 s1.heap.objs.size (.tup xs),I1.laid (t':=s1.toks) (λb u e=>G1 _ e) (G5 _) ?_,rfl,q _ hf⟩;exact⟨z,us,r,IsTupN.new _ _⟩
theorem Fv (h:PA X es t):PE X (.List es pos) (Ef t):=by
 intro pins s σ H Q I hq;refine wpAny_List_spliced (thn (h pos pins s σ H _ I hq) λus s1 ⟨xs,H1,I1,r,z,q⟩=>⟨by rw [<-r.length];exact z,?_⟩);have hf:H1 s1.heap.objs.size=none:=I1.hok.fresh (G5 _);refine⟨.ref s1.heap.objs.size,upd H1 s1.heap.objs.size (.lst xs),I1.laid (t':=s1.toks) (λb u e=>G1 _ e) (G5 _) ?_,rfl,q _ hf⟩;exact⟨z,us,0,r,D1 _ rfl⟩
end
abbrev Sp:=List V->Hp->VK->XK->Prop
abbrev CXT:=List Env->Hp->Shared->XK->Value->Shared->Prop
structure Env0 (P:Program)(w:World)(K:PySem.W.Frag)(mg:Str->Option Value)(base:Heap)(A:Around)(outer:List Env)(s:Shared)(H:Hp):Prop where
 frames:A.frames=some outer
 mod:Mod K mg base
 bs: ∀b o,base.get? b=some o->s.heap.get? b=some o/\H b=none
 bsz:base.objs.size<=s.heap.objs.size
 funs:s.heap.FunFrames base outer
 frf: ∀b∈frs outer,H b=none
 hok:HOk P w H s.heap
 bare:AllBare s.gens
def CE (outer:List Env)(P:Program)(w:World)(H:Hp)(s:Shared)(Q:VK)(u:Value)(s':Shared):Prop:=
 ∃v H',s'.os=s.os/\AllBare s'.gens/\Un (frs outer) [] H H' s.heap s'.heap/\HOk P w H' s'.heap/\RelV v u/\Q v H'
def CR (CX:CXT)(outer:List Env)(P:Program)(w:World)(H:Hp)(s:Shared)(Q:VK)(E:XK)(r:Result)(s':Shared):Prop:=
 match r with
 | .ok (.ret u)=>CE outer P w H s Q u s'
 | .ok _=>False
 | .error e=>CX outer H s E e s'
structure FnOk (P:Program)(w:World)(K:PySem.W.Frag)(mg:Str->Option Value)(base:Heap)(CX:CXT)(k:Nat)(f:Addr)(fd:FuncData)(ps:List Str)(sp:Sp):Prop where
 len: ∀vs H Q E,sp vs H Q E->vs.length=ps.length
 run: ∀ (A:Around) (outer:List Env) (s:Shared) (H:Hp) (args:Args) (us:List Value) (vs:List V) (Q:VK) (E:XK),Room k A->Env0 P w K mg base A outer s H->BindsTo s fd args (ps.zip us)->Vals vs us->sp vs H Q E->
  codeAny (model P w) A (.call (.ref f) args) (CR CX outer P w H s Q E) s
section
variable {X:Cx}{pins:List (Addr×Obj)}{σ:St}{H:Hp}{s s':Shared}
theorem Inv.env0 (I:Inv X pins σ H s):Env0 X.prog X.w X.K X.mg X.base X.A X.stack s H:=
 ⟨I.ok.frames,I.ok.mod,I.bs,D7 I.ok.bsz I.sz,I.stack,I.stkFree,I.hok,I.bare⟩
theorem Inv.after {Q:VK}{u:Value}(I:Inv X pins σ H s)(h:CE X.stack X.prog X.w H s Q u s'):EP X pins σ Q u s':=by
 obtain⟨v,H',os,bare,un,hok,r,q⟩:=h;obtain⟨hh,g,d,t,os'⟩:=s';obtain rfl:os'=s.os:=os;exact⟨v,H',I.call (h':=hh) (g':=g) (d':=d) (t':=t) (ch:= []) un hok bare (λb z=>absurd z (by simp)),r,q⟩
end
def Fw (sp:Sp)(dvs:List V)(E:XK)(t:TA):TE:=λσ H Q=>t σ H λvs H1=>sp (vs++dvs) H1 Q E
def Binds (K:PySem.W.Frag)(fd:FuncData)(ps:List Str)(ds:List Value):Prop:=
 ∀ (s:Shared) (us:List Value),K.In s.heap->(us++ds).length=ps.length->BindsTo s fd ⟨us,[]⟩ (ps.zip (us++ds))
theorem Binds.all {fd:FuncData}{ps:List Str}(h: ∀us:List Value,us.length=ps.length->bindArgs fd ⟨us,[]⟩=pure (ps.zip us)):Binds K fd ps []:=λs us _ hl=>by
 rw [W8] at hl ⊢;exact .of_eq (h us hl)
def Pl (CX:CXT)(X:Cx)(E:XK):Prop:= ∀ (pins:List (Addr×Obj)) (σ:St) (H:Hp) (s:Shared) (e:Value) (s':Shared),Inv X pins σ H s->CX X.stack H s E e s'->X.xe e s'
section
variable {X:Cx}{CX:CXT}{k:Nat}{f C:Addr}{fd:FuncData}{ps:List Str}{sp:Sp}{dvs:List V}{ds:List Value}{E:XK}{x m:Str}{p pos apos:Pos}{e o:Expr}{es:List Expr}{ta:TE}{t:TA}
theorem Fx {pins:List (Addr×Obj)}{σ:St}{H:Hp}{s:Shared}{Q:VK}{us:List Value}{vs:List V}(F:FnOk X.prog X.w X.K X.mg X.base CX k f fd ps sp)(hr:Room k X.A)(hb:Binds X.K fd ps ds)(hd:Vals dvs ds)(hx:Pl CX X E)
 (I:Inv X pins σ H s)(r:Vals vs us)(h:sp (vs++dvs) H Q E):wpAny (model X.prog X.w) X.A (call (.ref f) us) (EP X pins σ Q) X.xe s:=by
 have r2:Vals (vs++dvs) (us++ds):=r.append hd;have hl:(us++ds).length=ps.length:=by rw [<-r2.length];exact F.len _ _ _ _ h
 refine X6 (codeAny_mono (F.run X.A X.stack s H ⟨us,[]⟩ (us++ds) (vs++dvs) Q E hr I.env0 (hb s us I.kIn hl) r2 h) λr s' hq=> ?_);cases r with
 |error e=>exact hx pins σ H s e s' I hq
 |ok fl=>
  cases fl with
  |ret u=>exact I.after hq
  |next=>exact False.elim hq
  |brk=>exact False.elim hq
  |cont=>exact False.elim hq
theorem Bg (F:FnOk X.prog X.w X.K X.mg X.base CX k f fd ps sp)(hr:Room k X.A)(hg:Gl X x)(hm:X.mg x=some (.ref f))(hk:PySem.W.keepIn X.K (.ref f)=true)(hb:Binds X.K fd ps ds)(hd:Vals dvs ds)(hx:Pl CX X E)
 (ha:PA X (e::es) t)(hdb:(x==("__debug__" :Str))=false:=by decide)(he:starEach (e::es) X.env=(false,eval e X.env)::starEach es X.env:=by rfl)(hpl:(backTo pos (starEach es X.env)).any (·.1)=false:=by rfl):
 PE X (.Call (.Name x p) (e::es) [] pos) (Fw sp dvs E t):=by
 intro pins s σ H Q I h;refine U1 (Pb I hg hm ?_ hdb);refine PySem.W.callWith_K (h₀:=X.base) I.ok.mod.kin hk (thn (ha pos pins s σ H _ I h) λus s1 ⟨vs,H1,I1,r,q⟩=>⟨I1.kIn,?_⟩) he hpl;exact Fx F hr hb hd hx I1 r q
end
structure FnScope (N P:List Str)(sc:Scope):Prop where
 kind:sc.kind= .function
 co:sc.isCoroutine=false
 gen:sc.isGenerator=false
 nd:N.Nodup
 pre:N.take P.length=P
 par: ∀x∈P,sc.names.lookup x=some .local\/sc.names.lookup x=some .cell
 nofree: ∀y∈sc.names,y.2≠ .free
variable {kindOf:Str->Option NameKind}{x:Str}
theorem VJ: ∀ {binds:List (Str×Value)} {m:Str->Option Value},(∀v,(x,v) ∉ binds)->bindL kindOf binds m x=m x
 | [],_,_=>rfl
 |(n,v)::r,m,h=>by
  unfold bindL;rw [VJ λw hw=>h w (P0 _ hw)];split
  ·have:x≠n:=by rintro rfl;exact h v P3
   simp [this]
  ·rfl
theorem VL: ∀ {binds:List (Str×Value)} {m:Str->Option Value},(∀v,(x,v) ∉ binds)->bindC kindOf binds m x=m x
 | [],_,_=>rfl
 |(n,v)::r,m,h=>by
  unfold bindC;rw [VL λw hw=>h w (P0 _ hw)];split
  ·rfl
  ·have:x≠n:=by rintro rfl;exact h v P3
   simp [this]
theorem VM {v:Value}: ∀ {P:List Str} {vs:List Value} {i:Nat} {m:Str->Option Value},P.Nodup->P[i]? =some x->vs[i]? =some v->kindOf x=some .local->
 bindL kindOf (P.zip vs) m x=some v
 | [],_,_,_,_,h,_,_=>by simp at h
 |_::_,[],_,_,_,_,h,_=>by simp at h
 |p::P,w::vs,0,m,nd,h1,h2,hk=>by
  simp at h1 h2;subst h1;subst h2;show bindL kindOf ((p,w)::P.zip vs) m p=_;unfold bindL;rw [VJ λv hv=>(M5.mp nd).1 (K7 hv).1,if_pos hk];simp
 |p::P,w::vs,i+1,m,nd,h1,h2,hk=>by
  show bindL kindOf ((p,w)::P.zip vs) m x=_;unfold bindL;exact VM (i:=i) (M5.mp nd).2 (by simpa using h1) (by simpa using h2) hk
theorem VN {v:Value}: ∀ {P:List Str} {vs:List Value} {i:Nat} {m:Str->Option Value},P.Nodup->P[i]? =some x->vs[i]? =some v->kindOf x≠some .local->
 bindC kindOf (P.zip vs) m x=some v
 | [],_,_,_,_,h,_,_=>by simp at h
 |_::_,[],_,_,_,_,h,_=>by simp at h
 |p::P,w::vs,0,m,nd,h1,h2,hk=>by
  simp at h1 h2;subst h1;subst h2;show bindC kindOf ((p,w)::P.zip vs) m p=_;unfold bindC;rw [VL λv hv=>(M5.mp nd).1 (K7 hv).1,if_neg hk];simp
 |p::P,w::vs,i+1,m,nd,h1,h2,hk=>by
  show bindC kindOf ((p,w)::P.zip vs) m x=_;unfold bindC;exact VN (i:=i) (M5.mp nd).2 (by simpa using h1) (by simpa using h2) hk
def ZU (N:List Str)(vs:List V):St:=vs.map some++List.replicate (N.length-vs.length) none
def Nm (CX:CXT)(P:Program)(w:World)(K:PySem.W.Frag)(mg:Str->Option Value)(base:Heap)(N:List Str)(qual:Str)(scope:Scope)(f:Addr)(cd:Value)(A:Around)(outer:List Env)(s:Shared)(H:Hp)(E:XK):Cx where
 prog:=P
 w:=w
 K:=K
 mg:=mg
 base:=base
 A:=A.deeper (envOfC qual scope s.heap.objs.size f cd)
 N:=N
 s₀:=s
 H₀:=H
 env:=envOfC qual scope s.heap.objs.size f cd
 outer:=outer
 stack:=envOfC qual scope s.heap.objs.size f cd::outer
 ex:= []
 calm:=true
 fn:=λ_=>true
 pn:= []
 xe:=λe s'=>wpAny (model P w) (A.deeper (envOfC qual scope s.heap.objs.size f cd)) (leaving (envOfC qual scope s.heap.objs.size f cd) e) (λ_ s''=>CX outer H s E e s'') (λe' s''=>CX outer H s E e' s'') s'
theorem ZN {sc:Scope}{n:Nat}(h:sc.names.lookup x=some .cell): ∃c,(cellsFrom n sc.names []).lookup x=some c:=by
 have q:=W5 sc.names n [] (.inl h);exact U9.mp q
theorem Pm {CX:CXT}{mg:Str->Option Value}{base:Heap}{N ps:List Str}{qual:Str}{scope:Scope}{f:Addr}{cd:Value}{outer:List Env}{s1:Shared}{E:XK}{us:List Value}{vs:List V}
 (S:FnScope N ps scope)(hd:A.handled=none)(e0:Env0 P w K mg base A outer s H)(hl:vs.length=ps.length)(r:Vals vs us)
 (x:InCallC s s.heap.objs.size (bindL (envOfC qual scope s.heap.objs.size f cd).kindOf (ps.zip us) λ_=>none) (cellsFrom (s.heap.objs.size+1) scope.names []) (bindC (envOfC qual scope s.heap.objs.size f cd).kindOf (ps.zip us) λ_=>none) s1):
 Inv (Nm CX P w K mg base N qual scope f cd A outer s H E) [] (ZU N vs) H s1:=by
 have hpl:ps.length<=N.length:=by have:=congrArg List.length S.pre;rw [T1] at this;omega
 obtain⟨h1,tk,rfl,hk⟩:=x.done;have noA: ∀b:Addr,b ∉ (Nm CX P w K mg base N qual scope f cd A outer s H E).ex:=λb z=>absurd (show b∈([]:List Addr) from z) (by simp)
 refine⟨⟨e0.mod,S.kind,rfl,rfl,G5 _,λy z c h1 h2=> ?_,λy hy=> ?_,λy c _ h=> ?_,λ_=>hd,Around.frames_deeper e0.frames,.inr ⟨rfl,rfl⟩,λb z=>absurd z (noA b),e0.bs,e0.bsz,λb _ _=>noA b,λb z=>absurd z (noA b),e0.funs,e0.frf⟩,
  rfl,e0.bare,Un.kept hk,⟨_,x.toInCall.ns,λi y v h1 h2 h3=> ?_⟩,λy c h=>⟨_,x.cell y c h⟩,e0.hok.fresh (G5 _),λy c h=> ?_,λp hp=>absurd (show p∈([]:List (Addr×Obj)) from hp) (by simp),e0.hok.kept hk,?_⟩
 ·exact name_of_addr x.apart (H0 h1) (H0 h2)
 ·have hy:scope.names.lookup y=some .cell\/scope.names.lookup y=some .free:=hy;rcases hy with hy|hy
  ·exact ZN hy
  ·exact absurd rfl (S.nofree _ (H0 hy))
 ·exact T5 (x.above y c (H0 h))
 ·have hi:i<vs.length:=by
   unfold ZU at h2
   by_cases hi:i<vs.length
   ·exact hi
   ·rw [O8 (by simpa using hi)] at h2;rw [V8] at h2;split at h2<;>cases h2
  have ha:vs[i]? =some v:=by
   unfold ZU at h2;rw [F3 (by simpa using hi),G6] at h2;cases e:vs[i]? with
   |none=>rw [e] at h2;cases h2
   |some a=>rw [e] at h2;cases h2;rfl
  obtain⟨u,hu,rv⟩:=r.get ha;have hp:ps[i]? =some y:=by
   rw [<-S.pre,List.getElem?_take_of_lt (by omega)];exact h1
  have ndP:ps.Nodup:=by rw [<-S.pre];exact S.nd.sublist (List.take_sublist _ _)
  refine⟨u,rv,?_⟩;rcases S.par y (R8 hp) with k|k
  ·exact .inl ⟨k,VM ndP hp hu k⟩
  ·obtain⟨c,e⟩:=ZN (n:=s.heap.objs.size+1) k;refine .inr ⟨.inl k,c,e,?_⟩;have q:=x.cell y c e;rw [VN ndP hp hu (by show scope.names.lookup y≠_;rw [k];decide)] at q;exact q
 ·exact e0.hok.fresh (T5 (x.above y c (H0 h)))
 ·unfold ZU;show _=N.length;rw [P7,G0,List.length_replicate];omega
theorem OM {CX:CXT}{mg:Str->Option Value}{base:Heap}{f:Addr}{name qual:Str}{params:Arguments}{body:List Stmt}{scope:Scope}{dV kV doc pm cdv ct oc:Value}{an od:Option Addr}{osl:Array (Option Value)}{N ps:List Str}{sp:Sp}(lk:K.lookup f=some ⟨oc,od,.func (PySem.W.fnOf name qual params body scope dV kV doc pm an cdv ct),osl⟩)(hcd:PySem.W.codeIn K cdv qual=true)(S:FnScope N ps scope)
 (len: ∀vs H Q E,sp vs H Q E->vs.length=ps.length)
 (hbody: ∀ (A:Around) (outer:List Env) (s:Shared) (H:Hp) (vs:List V) (Q:VK) (E:XK),Room k (A.deeper (envOfC qual scope s.heap.objs.size f cdv))->sp vs H Q E->
  ∃t,PSs (Nm CX P w K mg base N qual scope f cdv A outer s H E) body t/\t {nx:=λ_ H'=>Q .non H',rt:=Q} (ZU N vs) H):
 FnOk P w K mg base CX (k+1) f (PySem.W.fnOf name qual params body scope dV kV doc pm an cdv ct) ps sp:=by
 refine⟨len,λA outer s H args us vs Q E hr e0 hb r hsp=> ?_⟩;have hl:=len _ _ _ _ hsp;have KX:K.In s.heap:=e0.mod.kin.keeps λb o e=>(e0.bs b o e).1
 have lim:s.heap.NoLimit:=e0.mod.nolimit.keeps λb o e=>(e0.bs b o e).1
 have hkind: ∀y∈ps.zip us,scope.names.lookup y.1=some .local\/(scope.names.lookup y.1=some .cell/\((cellsFrom (s.heap.objs.size+1) scope.names []).lookup y.1).isSome=true):=λ⟨n,v⟩ hy=>by
  rcases S.par n (K7 hy).1 with q|q
  ·exact .inl q
  ·exact .inr ⟨q,W5 _ _ _ (.inl q)⟩
 refine codeAny_call_function hr.depth (KX _ _ lk) rfl S.co S.gen rfl (PySem.W.codeRec_of KX hcd) (hb _ _ _ _ ?_);refine wpAny_newFunctionEnv_cells S.kind hkind λenv he s1 x=> ?_
 subst he;refine⟨lim.keeps x.toInCall.keep,codeAny_func ?_⟩;obtain⟨t,ht,hq⟩:=hbody A outer s H vs Q E (hr.deeper _) hsp;have I:Inv (Nm CX P w K mg base N qual scope f cdv A outer s H E) [] (ZU N vs) H s1:=Pm S hr.hd e0 hl r x;refine S7 (ht [] s1 (ZU N vs) H _ I hq) (λfl s' hs=> ?_) λe s' hs=>hs
 have fin: ∀ {σ':St} {H':Hp} {v:V} {u:Value},Inv (Nm CX P w K mg base N qual scope f cdv A outer s H E) [] σ' H' s'->RelV v u->Q v H'->CE outer P w H s Q u s':=
  λ{σ' H' v u} J rv q=>⟨v,H',J.os,J.bare,J.base,J.hok,rv,q⟩
 cases fl with
 |ret u=>
  obtain⟨v,σ',H',J,rv,q⟩:=hs;exact fin J rv q
 |next=>
  obtain⟨σ',H',J,q⟩:=hs;exact fin (v:=V.non) (u:=Value.none) J rfl q
 |brk=>
  obtain⟨_,_,_,q⟩:=hs;exact False.elim q
 |cont=>
  obtain⟨_,_,_,q⟩:=hs;exact False.elim q
section
variable {X:Cx}{x:Str}{p pos:Pos}{e:Expr}{es:List Expr}{t:TA}{id T:String}{r:List V->Hp->VK->Prop}
def tCB (r:List V->Hp->VK->Prop)(t:TA):TE:=λσ H Q=>t σ H λvs H1=>r vs H1 Q
theorem Yv (hc:CallR X (.builtin id) r)(hg:Gl X x)(hm:X.mg x=none)(hv:bootBuiltins x=some (.builtin id))(ha:PA X (e::es) t)(hn:x≠ "__name__" :=by decide)(hdb:(x==("__debug__" :Str))=false:=by decide)
 (he:starEach (e::es) X.env=(false,eval e X.env)::starEach es X.env:=by rfl)(hpl:(backTo pos (starEach es X.env)).any (·.1)=false:=by rfl):PE X (.Call (.Name x p) (e::es) [] pos) (tCB r t):=by
 intro pins s σ H Q I h;refine U1 (WX I hg hm hv ?_ hn hdb);exact PyProof.Rows.callWith_builtin1 (thn (ha pos pins s σ H _ I h) λus s1 ⟨vs,H1,I1,r1,q1⟩=>hc pins s1 σ H1 vs us Q I1 r1 q1) he hpl
theorem VO (hc:CallR X (.type T) r)(hg:Gl X x)(hm:X.mg x=none)(hv:bootBuiltins x=some (.type T))(ha:PA X (e::es) t)(hn:x≠ "__name__" :=by decide)(hdb:(x==("__debug__" :Str))=false:=by decide)
 (he:starEach (e::es) X.env=(false,eval e X.env)::starEach es X.env:=by rfl)(hpl:(backTo pos (starEach es X.env)).any (·.1)=false:=by rfl):PE X (.Call (.Name x p) (e::es) [] pos) (tCB r t):=by
 intro pins s σ H Q I h;refine U1 (WX I hg hm hv ?_ hn hdb);exact C3 (thn (ha pos pins s σ H _ I h) λus s1 ⟨vs,H1,I1,r1,q1⟩=>hc pins s1 σ H1 vs us Q I1 r1 q1) he hpl
end
end L2
namespace HT
open PySem PyProof.Rows
section
variable {prog:Program}{w:World}{A:Around}{E:Value->Shared->Prop}{s:Shared}
theorem Bh {t b:Addr}{vs ws:List Value}{Q:Value->Shared->Prop}(ht:IsTup s.heap t vs.toArray)(hb:IsTup s.heap b ws.toArray)(hv:vs≠ [])
 (h1:ws= []->Q (.ref t) s)(h2:ws≠ []->Q (.ref s.heap.objs.size) {s with heap:=s.heap.push {cls:= .type "tuple",data:= .seq (vs++ws).toArray}})
 (hsz:vs.length+ws.length<=sizeLine):wpAny (model prog w) A (binaryOp .Add (.ref t) (.ref b)) Q E s:=by
 obtain⟨⟨cls,dd,data,sl⟩,ho,hc,n,hd⟩:=id ht;obtain⟨⟨cls2,dd2,data2,sl2⟩,ho2,hc2,n2,hd2⟩:=id hb;simp only at hc hd hc2 hd2;subst hc hd hc2 hd2;have e:vs.toArray++ws.toArray=(vs++ws).toArray:=by simp
 by_cases hw:ws= []
 ·exact concat_meets ⟨_,ho,rfl⟩ ⟨_,ho2,rfl⟩ W3 seq_tuple_add E6 E1 (A6 _ _)
   (tuple_addW1 t b vs.toArray ws.toArray n n2 dd dd2 sl sl2 (by simpa using hv) (by simp [hw])) ⟨ho,ho2,h1 hw⟩
 ·refine concat_meets ⟨_,ho,rfl⟩ ⟨_,ho2,rfl⟩ W3 seq_tuple_add E6 E1 (A6 _ _)
   (tuple_addW2 t b vs.toArray ws.toArray n n2 dd dd2 sl sl2 (by simpa using hv) (by simpa using hw) (by rw [G7,G7];exact hsz)) ⟨ho,ho2,?_⟩
  rw [e];exact h2 hw
def sIx (n d:Nat):Option Int->Nat
 |none=>d
 |some v=>if v<0 then (v+(n:Int)).toNat else min v.toNat n
theorem Fy (n d:Nat)(hd:d<=n)(o:Option Int):sIx n d o<=n:=by
 cases o with
 |none=>exact hd
 |some v=>
  show (if v<0 then (v+(n:Int)).toNat else min v.toNat n)<=n
  by_cases hv:v<0
  ·rw [if_pos hv];omega
  ·rw [if_neg hv];exact J9 _ _
theorem Pn (v:Int)(n d:Nat):(if v<0 then max (v+(n:Int)) 0 else min v (n:Int))=((sIx n d (some v):Nat):Int):=by
 show (if v<0 then max (v+(n:Int)) 0 else min v (n:Int))=(((if v<0 then (v+(n:Int)).toNat else min v.toNat n):Nat):Int)
 by_cases hv:v<0
 ·simp only [if_pos hv];omega
 ·simp only [if_neg hv];omega
theorem Gh (lo hi:Option Int)(n:Nat):Builtin.Slice.sliceAdjust lo hi 1 (n:Int)=(((sIx n 0 lo:Nat):Int),((sIx n n hi:Nat):Int)):=by
 have h1: ¬ ((1:Int)<0):=by omega
 unfold Builtin.Slice.sliceAdjust;simp only [h1,Z0];refine Prod.ext ?_ ?_
 ·cases lo with
  |none=>rfl
  |some v=>exact Pn v n 0
 ·cases hi with
  |none=>rfl
  |some v=>exact Pn v n n
theorem Gi (i j:Nat):Builtin.Slice.slicePlaces (i:Int) (j:Int) 1=j-i:=by
 unfold Builtin.Slice.slicePlaces;have h1:(1:Int)>0:=by omega
 simp only [h1,if_true,Int.ediv_one];split<;>omega
theorem WY {v:Value}{o:Option Int}{Q:Option Int->Shared->Prop}(p:IsPart v o)(h:Q o s):wpAny (model prog w) A (Builtin.Slice.slicePartIndex v) Q E s:=by
 cases p with
 |none=>exact U7 h
 |int i t=>exact slicePart_int h
theorem yP {sl:Addr}{vl vu:Value}{lo hi:Option Int}{n:Nat}{Q:Int×Int×Nat->Shared->Prop}(hs:s.heap.IsSliceOf sl vl vu .none)(pl:IsPart vl lo)(pu:IsPart vu hi)
 (h:Q (((sIx n 0 lo:Nat):Int),1,sIx n n hi-sIx n 0 lo) s):wpAny (model prog w) A (Builtin.Slice.sliceApplied (.ref sl) (pure (n:Int))) Q E s:=by
 obtain⟨os,hos,hcs,hds⟩:=id hs;unfold Builtin.Slice.sliceApplied Builtin.Slice.sliceFields;refine wpAny_bind (wpAny_bind (K8 hos hds (x:=vl) rfl (wpAny_bind (K8 hos hds (x:=vu) rfl (wpAny_bind (K8 hos hds (x:= .none) rfl (G2 ?_)))))));refine wpAny_bind (U7 ?_);show wpAny _ _ (if ((1:Int)==0)=true then _ else _) _ _ s;rw [if_neg (by decide)];refine wpAny_bind (WY pl (wpAny_bind (WY pu (wpAny_bind (G2 ?_)))));show wpAny _ _ (match Builtin.Slice.sliceAdjust lo hi 1 (n:Int) with|(lo,hi)=>pure (lo,(1:Int),Builtin.Slice.slicePlaces lo hi 1)) _ _ s;rw [Gh lo hi n];show wpAny _ _ (pure (((sIx n 0 lo:Nat):Int),(1:Int),Builtin.Slice.slicePlaces ((sIx n 0 lo:Nat):Int) ((sIx n n hi:Nat):Int) 1)) _ _ s;rw [Gi];exact G2 h
theorem RO (xs:Array Value)(i k:Nat):((List.range k).filterMap λ(m:Nat)=>xs[((i:Int)+(m:Int)*1).toNat]?).toArray=((xs.toList.drop i).take k).toArray:=by
 have e:(λ(m:Nat)=>xs[((i:Int)+(m:Int)*1).toNat]?)=λm=>xs[i+m]? :=by
  funext m
  have:((i:Int)+(m:Int)*1).toNat=i+m:=by omega
  rw [this]
 rw [e];have:=pick_run xs i k;rw [List.filterMap_map] at this;have e2:((λx=>xs[x]?)∘λx=>i+x)=λm=>xs[i+m]? :=rfl
 rw [e2] at this;rw [this]
theorem JL {t sl:Addr}{items:Array Value}{vl vu:Value}{lo hi:Option Int}{Q:Value->Shared->Prop}(ht:IsTup s.heap t items)(hs:s.heap.IsSliceOf sl vl vu .none)(pl:IsPart vl lo)(pu:IsPart vu hi)
 (hw: ¬ (sIx items.size 0 lo=0/\sIx items.size items.size hi=items.size))
 (h:Q (.ref s.heap.objs.size) {s with heap:=s.heap.push {cls:= .type "tuple",data:= .seq ((items.toList.drop (sIx items.size 0 lo)).take (sIx items.size items.size hi-sIx items.size 0 lo)).toArray}})
 (hsz:items.size<=sizeLine):wpAny (model prog w) A (getItem (.ref t) (.ref sl)) Q E s:=by
 have htake:sizeOk (.seq ((items.toList.drop (sIx items.size 0 lo)).take (sIx items.size items.size hi-sIx items.size 0 lo)).toArray):=by
  show ((items.toList.drop (sIx items.size 0 lo)).take (sIx items.size items.size hi-sIx items.size 0 lo)).toArray.size<=sizeLine;rw [G7,T1,N8,P2];omega
 have hj:sIx items.size items.size hi<=items.size:=Fy _ _ (G5 _) hi;obtain⟨os,hos,hcs,hds⟩:=id hs;have hTs:s.TypeIs (.ref sl) "slice" :=⟨os,hos,hcs⟩;unfold getItem
 try with_reducible refine M7 ?_
 first|refine wpAny_bind (G2 ?_)|skip
 refine wpAny_bind (V0 ht.typeIs (by decide) ?_);refine wpAny_bind (S9 (name:=Str.ofString "__getitem__") ht.typeIs S8
  (M8 S8 ht.typeIs K9 ?_ (U2 _ _)))
 show wpAny _ _ (Builtin.Tuple.tupleItemsOf (.ref t) >>= _) _ _ s;refine wpAny_bind (tupleItemsOf_ ht ?_);refine wpAny_bind (J4 hTs ?_);rw [if_pos (by decide)];refine wpAny_bind (yP hs pl pu ?_);have hno: ¬ ((((sIx items.size 0 lo:Nat):Int)==0&&(1:Int)==1&&(sIx items.size items.size hi-sIx items.size 0 lo)==items.size)=true):=by
  intro q;rw [R4,R4] at q;have q1:((sIx items.size 0 lo:Nat):Int)=0:=eq_of_beq q.1.1;have q2:sIx items.size items.size hi-sIx items.size 0 lo=items.size:=eq_of_beq q.2;exact hw ⟨by omega,by omega⟩
 show wpAny _ _ (if (((sIx items.size 0 lo:Nat):Int)==0&&(1:Int)==1&&(sIx items.size items.size hi-sIx items.size 0 lo)==items.size)=true then _ else _) _ _ s;rw [if_neg hno,RO]
 first
  |exact wpAny_bind (m:=Builtin.Tuple.tupleExact _) (T9 (G2 ⟨_,rfl,G2 h⟩) htake)
  |exact wpAny_bind (m:=Builtin.Tuple.tupleExact _) (T9 (wpAny_bind (G2 (G2 ⟨_,rfl,G2 h⟩))) htake)
  |exact wpAny_bind (wpAny_bind (m:=Builtin.Tuple.tupleExact _) (T9 (G2 (G2 ⟨_,rfl,G2 h⟩)) htake))
  |exact wpAny_bind (wpAny_bind (m:=Builtin.Tuple.tupleExact _) (T9 (G2 ⟨_,rfl,G2 h⟩) htake))
end
end HT
namespace L2
open PySem PySem.Spec PyProof.Rows
abbrev TO:=St->Hp->(Option Int->Hp->Prop)->Prop
def PO (X:Cx)(e:Option Expr)(t:TO):Prop:=
 ∀ (pins:List (Addr×Obj)) (s:Shared) (σ:St) (H:Hp) (Q:Option Int->Hp->Prop),Inv X pins σ H s->t σ H Q->
  wpAny (model X.prog X.w) X.A (evalPart e X.env) (λu s'=> ∃o H',Inv X pins σ H' s'/\IsPart u o/\Q o H') X.xe s
def Bi:TO:=λ_ H Q=>Q none H
def ON (t:TE):TO:=λσ H Q=>t σ H λx H1=> ∃i,x= .int i/\Q (some i) H1
section
variable {X:Cx}{e:Expr}{te:TE}{lo hi:Option Expr}{tl th:TO}{pos p2:Pos}
theorem po_none:PO X none Bi:=by
 intro pins s σ H Q I h;rw [evalPart_none];exact G2 ⟨none,H,I,.none,h⟩
theorem Bj (h:PE X e te):PO X (some e) (ON te):=by
 intro pins s σ H Q I hw;rw [evalPart_some];refine thn (h pins s σ H _ I hw) λu s1 ⟨x,H1,I1,r1,q1⟩=> ?_
 obtain⟨i,rfl,q⟩:=q1;obtain⟨t,rfl⟩:=r1;exact⟨some i,H1,I1,.int i t,q⟩
def SlR (X:Cx)(r:V->Option Int->Option Int->Hp->VK->Prop):Prop:=
 ∀ (pins:List (Addr×Obj)) (s:Shared) (σ:St) (H:Hp) (x:V) (v vl vu:Value) (lo hi:Option Int) (sl:Addr) (Q:VK),Inv X pins σ H s->RelV x v->s.heap.IsSliceOf sl vl vu .none->IsPart vl lo->IsPart vu hi->r x lo hi H Q->
  ∃T id,typeLookup (.type T) "__getitem__" =pure (some (.builtin id))/\s.TypeIs v T/\wpAny (model X.prog X.w) X.A (getItem v (.ref sl)) (EP X pins σ Q) X.xe s
theorem SlR.or {r r':V->Option Int->Option Int->Hp->VK->Prop}(h:SlR X r)(h':SlR X r'):SlR X (λx lo hi H Q=>r x lo hi H Q\/r' x lo hi H Q):=by
 intro pins s σ H x v vl vu lo hi sl Q I rx hs pl pu q;rcases q with q|q
 ·exact h pins s σ H x v vl vu lo hi sl Q I rx hs pl pu q
 ·exact h' pins s σ H x v vl vu lo hi sl Q I rx hs pl pu q
def tSl (r:V->Option Int->Option Int->Hp->VK->Prop)(te:TE)(tl th:TO):TE:=λσ H Q=>te σ H λx H1=>tl σ H1 λl H2=>th σ H2 λu H3=>r x l u H3 Q
theorem RQ {r:V->Option Int->Option Int->Hp->VK->Prop}(hr:SlR X r)(he:PE X e te)(hl:PO X lo tl)(hu:PO X hi th):PE X (.Subscript e (.Slice lo hi none p2) pos) (tSl r te tl th):=by
 intro pins s σ H Q I h;refine Subscript_ (thn (he pins s σ H _ I h) λv s1 ⟨x,H1,I1,r1,q1⟩=> ?_);refine wpAny_Slice (thn (hl pins s1 σ H1 _ I1 q1) λvl s2 ⟨l,H2,I2,pl,q2⟩=>thn (hu pins s2 σ H2 _ I2 q2) λvu s3 ⟨u,H3,I3,pu,q3⟩=> ?_);rw [evalPart_none];refine G2 ?_;have I4:Inv X pins σ H3 {s3 with heap:=s3.heap.push {cls:= .type "slice",data:= .fields #[vl,vu,.none]}}:=I3.kept (t':=s3.toks) λb ob q=>G1 _ q
 obtain⟨T,id,hT,ht,hg⟩:=hr pins {s3 with heap:=s3.heap.push {cls:= .type "slice",data:= .fields #[vl,vu,.none]}} σ H3 x v vl vu l u s3.heap.objs.size Q I4 r1 (Heap.IsSliceOf.new ..) pl pu q3;show wpAny (model X.prog X.w) X.A (subscriptTail e (.Slice lo hi none p2) v (.ref s3.heap.objs.size)) (EP X pins σ Q) X.xe {s3 with heap:=s3.heap.push {cls:= .type "slice",data:= .fields #[vl,vu,.none]}};exact tail_any (ops:= [.ref s3.heap.objs.size,v]) ht hT hg (by with_unfolding_all rfl)
def Rx (xs:List V)(lo hi:Option Int):List V:=(xs.drop (HT.sIx xs.length 0 lo)).take (HT.sIx xs.length xs.length hi-HT.sIx xs.length 0 lo)
theorem ZV (xs:List V)(lo hi:Option Int):(Rx xs lo hi).length<=xs.length:=by
 unfold Rx;rw [T1,N8];omega
def EF (K:PySem.W.Frag):V->Option Int->Option Int->Hp->VK->Prop:=λx lo hi H Q=> ∃a xs,x= .ref a/\SqT K H a xs/\
 ¬ (HT.sIx xs.length 0 lo=0/\HT.sIx xs.length xs.length hi=xs.length)/\ ∀p,H p=none->Q (.ref p) (upd H p (.tup (Rx xs lo hi)))
theorem sl_tup:SlR X (EF X.K):=by
 intro pins s σ H x v vl vu lo hi sl Q I rx hs pl pu h;obtain⟨a,xs,rfl,hx,hw,q⟩:=h;cases rx;obtain⟨its,r,ht,hz⟩:=I.tuple hx;have hlen:its.toArray.size=xs.length:=by rw [G7];exact r.length.symm
 refine⟨"tuple",_,PyProof.Rows.slot_tuple_getitem.lookup,ht.typeIs,?_⟩;refine HT.JL ht hs pl pu (by rw [hlen];exact hw) ?_ (by rw [hlen];exact hz);rw [hlen];refine⟨.ref s.heap.objs.size,_,I.laid (t':=s.toks) (o:= .tup (Rx xs lo hi)) (λb ob q=>G1 _ q) (G5 _) ?_,rfl,q _ (I.hok.fresh (G5 _))⟩;exact⟨D7 (ZV xs lo hi) hz,_,(r.drop (HT.sIx xs.length 0 lo)).take (HT.sIx xs.length xs.length hi-HT.sIx xs.length 0 lo),IsTupN.new _ _⟩
def OO (K:PySem.W.Frag):R2:=λx y H Q=> ∃a b xs ys,x= .ref a/\y= .ref b/\SqT K H a xs/\SqT K H b ys/\xs≠ []/\xs.length+ys.length<=sizeLine/\
 (ys= []->Q (.ref a) H)/\(ys≠ []-> ∀p,H p=none->Q (.ref p) (upd H p (.tup (xs++ys))))
theorem Vals.nil_iff {xs:List V}{us:List Value}(r:Vals xs us):us= []↔xs= []:=by
 cases r with
 |nil=>simp
 |cons _ _=>simp
theorem op_catT:OpR X (binaryOp .Add) (OO X.K):=by
 intro pins s σ H x y v u Q I rx ry h;obtain⟨a,b,xs,ys,rfl,rfl,ha,hb,hx,hz,q1,q2⟩:=h;cases rx;cases ry;obtain⟨its,r1,p1,_⟩:=I.tuple ha;obtain⟨its2,r2,p2,_⟩:=I.tuple hb;refine HT.Bh p1 p2 (λz=>hx (r1.nil_iff.mp z)) (λz=>⟨.ref a,H,I,rfl,q1 (r2.nil_iff.mp z)⟩) (λz=> ?_) (by rw [<-r1.length,<-r2.length];exact hz);refine⟨.ref s.heap.objs.size,_,I.laid (t':=s.toks) (o:= .tup (xs++ys)) (λb ob q=>G1 _ q) (G5 _) ?_,rfl,q2 (λw=>z (r2.nil_iff.mpr w)) _ (I.hok.fresh (G5 _))⟩;exact⟨by rw [P7];exact hz,_,r1.append r2,IsTupN.new _ _⟩
end
def ixN (n:Nat)(i:Int):Option Nat:=if 0<=i then (if i<n then some i.toNat else none) else if-(n:Int)<=i then some (i+n).toNat else none
def atI {α:Type}(xs:List α)(i:Int):Option α:=(ixN xs.length i).bind λj=>xs[j]?
theorem Po {n:Nat}{i:Int}{j:Nat}(h:ixN n i=some j):seqIndex? i n=some j/\j<n/\ -(n:Int)<=i/\i<n:=by
 unfold ixN at h
 by_cases h0:0<=i
 ·rw [if_pos h0] at h
  by_cases h1:i<n
  ·rw [if_pos h1] at h;have e:i.toNat=j:=S0 h;exact⟨by rw [seqIndex_of h0 h1,e],by omega,by omega,h1⟩
  ·rw [if_neg h1] at h;cases h
 ·rw [if_neg h0] at h
  by_cases h1: -(n:Int)<=i
  ·rw [if_pos h1] at h;have e:(i+n).toNat=j:=S0 h;exact⟨by rw [seqIndex_neg (by omega) h1,e],by omega,h1,by omega⟩
  ·rw [if_neg h1] at h;cases h
theorem Xf {α:Type}{xs:List α}{i:Int}{v:α}(h:atI xs i=some v): ∃j,seqIndex? i xs.length=some j/\xs[j]? =some v/\j<xs.length/\ -(xs.length:Int)<=i/\i<xs.length:=by
 unfold atI at h;cases e:ixN xs.length i with
 |none=>rw [e] at h;cases h
 |some j=>
  rw [e] at h;obtain⟨h1,h2,h3,h4⟩:=Po e;exact⟨j,h1,h,h2,h3,h4⟩
theorem zX {α:Type}{xs:List α}{j:Nat}{v:α}(h:xs[j]? =some v):atI xs (j:Int)=some v:=by
 have hj:j<xs.length:=(G9.mp h).1;have e:ixN xs.length (j:Int)=some j:=by
  unfold ixN;rw [if_pos (by omega),if_pos (by omega)];simp
 unfold atI;rw [e];exact h
def Xg (b:Expr):Prop:= ∀o i,subscripted b false o i=operate [o,i] (getItem o i)
def IxR (X:Cx)(r:R2):Prop:=
 ∀ (value slice:Expr) (pins:List (Addr×Obj)) (s:Shared) (σ:St) (H:Hp) (x y:V) (v u:Value) (Q:VK),Inv X pins σ H s->RelV x v->RelV y u->r x y H Q->
  subscripted slice false v u=operate [v,u] (getItem v u)->wpAny (model X.prog X.w) X.A (subscriptTail value slice v u) (EP X pins σ Q) X.xe s
def MtR (X:Cx)(id:String)(r:V->List V->Hp->VK->Prop):Prop:=
 ∀ (pins:List (Addr×Obj)) (s:Shared) (σ:St) (H:Hp) (x:V) (xs:List V) (v:Value) (us:List Value) (Q:VK),Inv X pins σ H s->RelV x v->Vals xs us->r x xs H Q->
  wpAny (model X.prog X.w) X.A (call (.builtin id) (v::us)) (EP X pins σ Q) X.xe s
section
variable {X:Cx}{a b:Expr}{ta tb:TE}{pos:Pos}
theorem IxR.or {r r':R2}(h:IxR X r)(h':IxR X r'):IxR X (λx y H Q=>r x y H Q\/r' x y H Q):=by
 intro value slice pins s σ H x y v u Q I rx ry q hs;rcases q with q|q
 ·exact h value slice pins s σ H x y v u Q I rx ry q hs
 ·exact h' value slice pins s σ H x y v u Q I rx ry q hs
theorem OP {r:R2}(hr:IxR X r)(ha:PE X a ta)(hb:PE X b tb)(hs:Xg b):PE X (.Subscript a b pos) (tOp r ta tb):=by
 intro pins s σ H Q I h;exact Subscript_ (OE ha hb I h λv u s2 x y H2 I2 rx ry q=>hr a b pins s2 σ H2 x y v u Q I2 rx ry q (hs _ _))
def Eg (K:PySem.W.Frag):R2:=λx y H Q=> ∃p xs i v,x= .ref p/\y= .int i/\SqL K H p xs/\atI xs i=some v/\Q v H
def Eh (K:PySem.W.Frag):R2:=λx y H Q=> ∃p xs i v,x= .ref p/\y= .int i/\SqT K H p xs/\atI xs i=some v/\Q v H
def Ei:R2:=λx y H Q=> ∃z i c,x= .str z/\y= .int i/\z.length<=sizeLine/\atI z.cps.toList i=some c/\Q (.str ⟨#[c]⟩) H
theorem ix_list:IxR X (Eg X.K):=by
 intro value slice pins s σ H x y v u Q I rx ry h hs;obtain⟨p,xs,i,z,rfl,rfl,hq,he,q⟩:=h;cases rx;obtain⟨t,rfl⟩:=ry;obtain⟨its,r,pl,hz⟩:=I.list hq;obtain⟨j,h1,h2,h3,h4,h5⟩:=Xf he;obtain⟨w,ew,rw'⟩:=r.get h2;have hl:=r.length;have hn:=VI;have fin:EP X pins σ Q w s:=⟨z,H,I,rw',q⟩
 by_cases h0:0<=i
 ·have hj:i.toNat=j:=by
   rw [seqIndex_of h0 h5] at h1;exact S0 h1
  exact item_listR pl.isList h0 (by omega) (by rw [hj];simpa using ew) fin hs
 ·have hj:(i+(its.toArray.size:Int)).toNat=j:=by
   rw [seqIndex_neg (by omega) h4] at h1;rw [G7,<-hl];exact S0 h1
  exact subscriptTail_builtinR (x:=w) pl.isList.typeIs slot_list_getitem.lookup
   (wpAny_getItem_list_neg (Q:=λr s'=>r=w/\EP X pins σ Q r s') pl.isList (by omega) (by rw [G7]<;>omega) (by omega) (by rw [hj];simpa using ew) ⟨rfl,fin⟩) hs
theorem ix_tup:IxR X (Eh X.K):=by
 intro value slice pins s σ H x y v u Q I rx ry h hs;obtain⟨p,xs,i,z,rfl,rfl,hq,he,q⟩:=h;cases rx;obtain⟨t,rfl⟩:=ry;obtain⟨its,r,pl,hz⟩:=I.tuple hq;obtain⟨j,h1,h2,h3,h4,h5⟩:=Xf he;obtain⟨w,ew,rw'⟩:=r.get h2;have hl:=r.length;have hn:=VI;have fin:EP X pins σ Q w s:=⟨z,H,I,rw',q⟩;exact subscriptTail_builtinR (x:=w) pl.typeIs slot_tuple_getitem.lookup
  (getItem_tuple (j:=j) (Q:=λr s'=>r=w/\EP X pins σ Q r s') pl (by omega) (by omega) (by rw [G7,<-hl];exact h1) (by simpa using ew) ⟨rfl,fin⟩) hs
theorem Fz:IxR X Ei:=by
 intro value slice pins s σ H x y v u Q I rx ry h hs;obtain⟨z,i,c,rfl,rfl,hz,he,q⟩:=h;obtain⟨t,rfl⟩:=rx;obtain⟨t',rfl⟩:=ry;obtain⟨j,h1,h2,h3,h4,h5⟩:=Xf he;have hl:z.cps.toList.length=z.length:=by simp [Str.length]
 rw [hl] at h1 h4 h5;have hn:=VI;exact tail_any (typeIs_str s z t) slot_str_getitem.lookup (getItem_str (c:=c) (by
  have e1:decide (i< -(2^63:Int))=false:=D8 (by omega);have e2:decide (i>=2^63)=false:=D8 (by omega);rw [e1,e2,Bool.or_false]) (by rw [h1];simpa using h2) ⟨.str ⟨#[c]⟩,H,I.tok _,⟨_,rfl⟩,q⟩) hs
def rIx (K:PySem.W.Frag):R2:=λx y H Q=>Eg K x y H Q\/Eh K x y H Q\/Ei x y H Q
theorem FA:IxR X (rIx X.K):=ix_list.or (ix_tup.or Fz)
theorem Gj (its:List Value)(n j:Nat)(u:Value):Obj.mapSeq (·.setIfInBounds j u) {cls:= .type "list",data:= .seq its.toArray n}= {cls:= .type "list",data:= .seq (its.set j u).toArray n}:=by
 simp [Obj.mapSeq]
theorem Inv.lst {pins:List (Addr×Obj)}{σ:St}{H:Hp}{s:Shared}{p:Addr}{xs:List V}(I:Inv X pins σ H s)(h:H p=some (.lst xs)):
 ∃ (its:List Value) (n:Nat),Vals xs its/\s.heap.get? p=some {cls:= .type "list",data:= .seq its.toArray n}/\xs.length<=sizeLine:=by
 obtain⟨z,its,n,r,e⟩:=I.hok p _ h;exact⟨its,n,r,e,z⟩
theorem Inv.lstUpd {pins:List (Addr×Obj)}{σ:St}{H:Hp}{s:Shared}{p:Addr}{xs ys:List V}{its its':List Value}{n n':Nat}{f:Obj->Obj}(I:Inv X pins σ H s)(h:H p=some (.lst xs))
 (ho:s.heap.get? p=some {cls:= .type "list",data:= .seq its.toArray n})(hf:f {cls:= .type "list",data:= .seq its.toArray n}= {cls:= .type "list",data:= .seq its'.toArray n'})(r:Vals ys its')(hz:ys.length<=sizeLine)(t:Nat):
 Inv X pins σ (upd H p (.lst ys)) {s with heap:=s.heap.update p f,toks:=t}:=by
 have e:(s.heap.update p f).get? p=some {cls:= .type "list",data:= .seq its'.toArray n'}:=by
  rw [N1 f ho (by rw [hf]<;>rfl),hf]
 refine I.write (x:=p) (e:=p) (by rw [h];trivial) (.inl rfl) (λb u hb q=>(Heap.get?_update_other _ _ (Ne.symm hb)).trans q) ⟨_,e⟩ ?_;exact⟨hz,its',n',r,e⟩
def OQ:V->V->V->Hp->(Hp->Prop)->Prop:=λo i v H Q=> ∃p xs k j,o= .ref p/\i= .int k/\H p=some (.lst xs)/\ixN xs.length k=some j/\Q (upd H p (.lst (xs.set j v)))
theorem RR:AW X OQ:=by
 intro pins s σ H o i v ov iv u Q I ro ri rv h;obtain⟨p,xs,k,j,rfl,rfl,hp,hj,q⟩:=h;cases ro;obtain⟨t,rfl⟩:=ri;obtain⟨its,n,r,ho,hz⟩:=I.lst hp;obtain⟨h1,h2,h3,h4⟩:=Po hj;have hl:=r.length;have hn:=VI;have I':Inv X pins σ (upd H p (.lst (xs.set j v))) {s with heap:=s.heap.update p (Obj.mapSeq (·.setIfInBounds j u))}:=
  I.lstUpd hp ho (Gj its n j u) (r.set rv j) (by rw [List.length_set];exact hz) s.toks
 by_cases h0:0<=k
 ·have hk:k.toNat=j:=by
   rw [seqIndex_of h0 h4] at h1;exact S0 h1
  exact PySem.W.ki_setAt ho h0 (by omega) (by rw [G7,<-hl];exact h4) (by rw [hk];exact⟨_,I',q⟩)
 ·have hk:(k+(its.toArray.size:Int)).toNat=j:=by
   rw [seqIndex_neg (by omega) h3] at h1;rw [G7,<-hl];exact S0 h1
  exact PySem.W.ki_setBack ho (by omega) (by rw [G7,<-hl];exact h3) (by omega) (by rw [hk];exact⟨_,I',q⟩)
theorem VP (lo hi:Option Int)(n:Nat):(sliceBounds lo hi none n).1=((HT.sIx n 0 lo:Nat):Int)/\(sliceBounds lo hi none n).2.1=((HT.sIx n n hi:Nat):Int)/\(sliceBounds lo hi none n).2.2=1:=by
 refine⟨?_,?_,rfl⟩
 ·cases lo with
  |none=>simp [sliceBounds,HT.sIx]
  |some i=>
   simp only [sliceBounds,HT.sIx,Option.getD_none,show (1:Int)>0 by decide,if_true]
   by_cases h:i<0
   ·simp only [h,if_true]<;>omega
   ·simp only [h,Z0]<;>omega
 ·cases hi with
  |none=>simp [sliceBounds,HT.sIx]
  |some i=>
   simp only [sliceBounds,HT.sIx,Option.getD_none,show (1:Int)>0 by decide,if_true]
   by_cases h:i<0
   ·simp only [h,if_true]<;>omega
   ·simp only [h,Z0]<;>omega
theorem Yw (its:List Value)(lo hi:Option Int):slicePick its.toArray lo hi none=((its.drop (HT.sIx its.length 0 lo)).take (HT.sIx its.length its.length hi-HT.sIx its.length 0 lo)).toArray:=by
 obtain⟨h1,h2,h3⟩:=VP lo hi its.toArray.size;unfold slicePick;rw [h1,h2,h3];simp only [sliceRange_one,pick_run,G7]<;>rfl
def EG (K:PySem.W.Frag):V->Option Int->Option Int->Hp->VK->Prop:=λx lo hi H Q=> ∃a xs,x= .ref a/\SqL K H a xs/\ ∀p,H p=none->Q (.ref p) (upd H p (.lst (Rx xs lo hi)))
theorem Bk:SlR X (EG X.K):=by
 intro pins s σ H x v vl vu lo hi sl Q I rx hs pl pu h;obtain⟨a,xs,rfl,hx,q⟩:=h;cases rx;obtain⟨its,r,ht,hz⟩:=I.list hx;have hlen:=r.length;refine⟨"list",_,slot_list_getitem.lookup,ht.isList.typeIs,?_⟩;refine wpAny_getItem_list_slice ht.isList hs pl pu .none (by simp) ?_ (by rw [G7]<;>omega);rw [Yw,<-hlen];refine⟨.ref s.heap.objs.size,_,I.laid (t':=s.toks) (o:= .lst (Rx xs lo hi)) (λb ob q=>G1 _ q) (G5 _) ?_,rfl,q _ (I.hok.fresh (G5 _))⟩;exact⟨D7 (ZV xs lo hi) hz,_,0,(r.drop (HT.sIx xs.length 0 lo)).take (HT.sIx xs.length xs.length hi-HT.sIx xs.length 0 lo),D1 _ rfl⟩
theorem call_len_seq:CallR X (.builtin "len") (λxs H Q=> ∃p ys,xs= [.ref p]/\(SqL X.K H p ys\/SqT X.K H p ys)/\Q (.int ys.length) H):=by
 intro pins s σ H xs us Q I r h;obtain⟨p,ys,rfl,hq,q⟩:=h;obtain⟨u,rfl,rx⟩:=ZB r;cases rx;have hn:=VI;rcases hq with hq|hq
 ·obtain⟨its,r',pl,hz⟩:=I.list hq;have hlen:=r'.length;exact Calls.call_len_list pl.isList (by simp only [G7]<;>omega) ⟨.int ys.length,H,I.tok _,⟨s.toks+1,by rw [G7,hlen]⟩,q⟩
 ·obtain⟨its,r',pl,hz⟩:=I.tuple hq;have hlen:=r'.length;exact len_tuple pl (by simp only [G7]<;>omega) ⟨.int ys.length,H,I.tok _,⟨s.toks+1,by rw [G7,hlen]⟩,q⟩
theorem call_list_of:CallR X (.type "list") (λxs H Q=> ∃p ys,xs= [.ref p]/\(SqL X.K H p ys\/SqT X.K H p ys)/\ ∀l,H l=none->Q (.ref l) (upd H l (.lst ys))):=by
 intro pins s σ H xs us Q I r h;obtain⟨p,ys,rfl,hq,q⟩:=h;obtain⟨u,rfl,rx⟩:=ZB r;cases rx;have fin: ∀ (its:List Value),Vals ys its->ys.length<=sizeLine-> ∀ (h':Heap) (c':Nat),(∀b o',s.heap.get? b=some o'->h'.get? b=some o')->
  h'.get? s.heap.objs.size=some {cls:= .type "list",dict:=none,data:= .seq its.toArray c',slots:= #[]}->EP X pins σ Q (.ref s.heap.objs.size) {s with heap:=h'}:=λits r' hz h' c' kp e=>
  ⟨.ref s.heap.objs.size,_,I.laid (t':=s.toks) kp (G5 _) (show ObjOk X.prog X.w _ h' _ (.lst ys) from ⟨hz,its,c',r',e⟩),rfl,q _ (I.hok.fresh (G5 _))⟩
 rcases hq with hq|hq
 ·obtain⟨its,r',pl,hz⟩:=I.list hq;have hlen:=r'.length;obtain⟨o,ho,hc,n,hd⟩:=pl.isList;exact call_list_seq p (.inl rfl) ho hc hd (λh' c' kp e=>fin its r' hz h' c' kp e) (by simp only [G7]<;>omega)
 ·obtain⟨its,r',pl,hz⟩:=I.tuple hq;have hlen:=r'.length;obtain⟨o,ho,hc,n,hd⟩:=pl;exact call_list_seq p (.inr rfl) ho hc hd (λh' c' kp e=>fin its r' hz h' c' kp e) (by simp only [G7]<;>omega)
theorem call_tuple_of:CallR X (.type "tuple") (λxs H Q=> ∃p ys,xs= [.ref p]/\((SqL X.K H p ys/\ ∀l,H l=none->Q (.ref l) (upd H l (.tup ys)))\/(SqT X.K H p ys/\Q (.ref p) H))):=by
 intro pins s σ H xs us Q I r h;obtain⟨p,ys,rfl,h⟩:=h;obtain⟨u,rfl,rx⟩:=ZB r;cases rx;rcases h with ⟨hq,q⟩|⟨hq,q⟩
 ·obtain⟨its,r',pl,hz⟩:=I.list hq;have hlen:=r'.length;refine call_tuple_list pl.isList (λh' kp=> ?_) (by simp only [G7]<;>omega);have I1:Inv X pins σ H {s with heap:=h'}:=I.kept (t':=s.toks) kp;have I2:Inv X pins σ (upd H h'.objs.size (.tup ys)) {s with heap:=h'.push {cls:= .type "tuple",data:= .seq its.toArray}}:=
   I1.laid (t':=s.toks) (λb o e=>G1 _ e) (G5 _) (show ObjOk X.prog X.w _ _ _ (.tup ys) from ⟨hz,its,r',IsTupN.new _ _⟩)
  exact⟨.ref h'.objs.size,_,I2,rfl,q _ (I1.hok.fresh (G5 _))⟩
 ·obtain⟨its,r',pl,hz⟩:=I.tuple hq;exact call_tuple_same pl ⟨.ref p,H,I,rfl,q⟩
def tyV (K:PySem.W.Frag)(T:String)(x:V)(H:Hp):Prop:=match x with
 | .str _=>T= "str"
 | .int _=>T= "int"
 | .ref p=>(T= "list" /\ ∃xs,SqL K H p xs)\/(T= "tuple" /\ ∃o,K.lookup p=some o/\o.cls= .type "tuple" /\o.dict=none)\/
  (T= "dict" /\((∃kvs,H p=some (.dK kvs))\/ ∃kvs,H p=some (.dT kvs)))\/(T= "set" /\ ∃S n,H p=some (.set S n))
 |_=>False
theorem FB {pins:List (Addr×Obj)}{σ:St}{H:Hp}{s:Shared}{T:String}{x:V}{v:Value}(I:Inv X pins σ H s)(r:RelV x v)(ty:tyV X.K T x H):
 s.TypeIs v T/\ ∀a,v= .ref a-> ∃ob,s.heap.get? a=some ob/\ob.dict=none:=by
 cases x with
 |str z=>
  obtain⟨t,rfl⟩:=r;cases (show T= "str" from ty);exact⟨typeIs_str s z t,λ_ e=>nomatch e⟩
 |int i=>
  obtain⟨t,rfl⟩:=r;cases (show T= "int" from ty);exact⟨X7 s i t,λ_ e=>nomatch e⟩
 |ref p=>
  cases r;rcases ty with ⟨rfl,xs,hq⟩|⟨rfl,o,hk,hc,hd⟩|⟨rfl,hk⟩|⟨rfl,S,n,hk⟩
  ·obtain⟨its,_,pl,_⟩:=I.list hq;refine⟨pl.isList.typeIs,λa e=> ?_⟩;cases e;obtain⟨o,n,e,c,hd,_⟩:=pl;exact⟨o,e,hd⟩
  ·refine⟨⟨o,I.kIn p o hk,hc⟩,λa e=> ?_⟩;cases e;exact⟨o,I.kIn _ o hk,hd⟩
  ·have z: ∃o,s.heap.get? p=some o/\o.ExactDict:=by
    rcases hk with ⟨kvs,hk⟩|⟨kvs,hk⟩
    ·obtain⟨_,_,_,_,o,_,_,e,ex,_⟩:=I.hok p _ hk;exact⟨o,e,ex⟩
    ·obtain⟨_,_,_,_,o,_,_,e,ex,_⟩:=I.hok p _ hk;exact⟨o,e,ex⟩
   obtain⟨o,e,ex⟩:=z;refine⟨⟨o,e,ex.1⟩,λa e2=> ?_⟩;cases e2;exact⟨o,e,ex.2.1⟩
  ·obtain⟨o,_,_,_,e,ex,_⟩:=I.hok p _ hk;refine⟨⟨o,e,ex.1⟩,λa e2=> ?_⟩;cases e2;exact⟨o,e,ex.2.1⟩
 |_=>exact False.elim ty
def tBM (K:PySem.W.Frag)(T:String)(r:V->List V->Hp->VK->Prop)(to:TE)(t:TA):TE:=λσ H Q=>to σ H λx H1=>tyV K T x H1/\t σ H1 λxs H2=>r x xs H2 Q
variable {o e:Expr}{es:List Expr}{to:TE}{t:TA}{name:Str}{apos cpos:Pos}{T id:String}{r:V->List V->Hp->VK->Prop}
theorem Bl (pa:PlainAttrs T)(slot:Slot T name id)(hty:typeOf (.builtin id)=pure (.type "method_descriptor"))(hm:MtR X id r)(ho:PE X o to)(ha:PA X (e::es) t)
 (hbase:attributeBase o name X.env (eval o X.env)=eval o X.env:=by rfl)
 (hfew:((backTo cpos (starEach (e::es) X.env)).all (λx=> !x.1)&&(backToKw cpos (keywordEach [] X.env)).all (λx=>x.1.isSome)
  &&decide ((e::es).length+([]:List Keyword).length+(if ([]:List Keyword).isEmpty then 0 else 1)<30))=true:=by rfl)
 (hline:(apos.endLine==cpos.line)=true:=by rfl)(hs:starEach (e::es) X.env=(false,eval e X.env)::starEach es X.env:=by rfl)(hplain:(backTo cpos (starEach es X.env)).any (·.1)=false:=by rfl):
 PE X (.Call (.Attribute o name apos) (e::es) [] cpos) (tBM X.K T r to t):=by
 intro pins s σ H Q I h;refine wpAny_Call_method_late hbase hfew hline rfl (thn (ho pins s σ H _ I h) λv s1 ⟨x,H1,I1,r1,ty,q1⟩=> ?_);obtain⟨h1,h2⟩:=FB I1 r1 ty;refine⟨T,id,pa,slot,hty,h1,h2,?_⟩;have hA:=ha cpos pins s1 σ H1 _ I1 q1;rw [hs] at hA ⊢;refine Calls.callWith_builtin (by show (false||(backTo cpos (starEach es X.env)).any (·.1))=false;rw [hplain]<;>rfl) (Calls.evalArgs_plain ?_);exact thn hA λus s2 ⟨vs,H2,I2,r2,q2⟩=>hm pins s2 σ H2 x vs v us Q I2 r1 r2 q2
end
def MtM (X:Cx)(id:String)(r:V->List V->Hp->VK->Prop):Prop:=
 ∀ (pins:List (Addr×Obj)) (s:Shared) (σ:St) (H:Hp) (x:V) (xs:List V) (v:Value) (us:List Value) (Q:VK),Inv X pins σ H s->RelV x v->Vals xs us->r x xs H Q->
  wpAny (model X.prog X.w) X.A (call (.builtin id) (v::us)) (EP X pins σ Q) X.xe s
theorem Vals.one: ∀ {x:V} {us:List Value},Vals [x] us-> ∃u,us= [u]/\RelV x u
 |_,_,.cons r .nil=>⟨_,rfl,r⟩
theorem Vals.rep {xs:List V}{us:List Value}(h:Vals xs us): ∀k:Nat,Vals (List.replicate k xs).flatten (List.replicate k us).flatten
 |0=> .nil
 |k+1=>by
  rw [B2,B2,F6,F6];exact Vals.append h (Vals.rep h k)
theorem ZW (its:List Value): ∀ (k:Nat) (acc:List Value),
 List.foldl (λx1 x2=>x1++x2) acc.toArray (List.replicate k its.toArray)=(acc++(List.replicate k its).flatten).toArray
 |0,acc=>by simp
 |k+1,acc=>by
  have e:acc.toArray++its.toArray=(acc++its).toArray:=by simp
  have e2:(acc++its)++(List.replicate k its).flatten=acc++(List.replicate (k+1) its).flatten:=by
   rw [B2,F6,V1]
  rw [<-e2,<-ZW its k (acc++its),<-e,B2,List.foldl_cons]
section
variable {X:Cx}{pins:List (Addr×Obj)}{σ:St}{H:Hp}{s:Shared}{l b:Addr}{xs ys zs:List V}
theorem Inv.lset {its its':List Value}{n:Nat}{f:Array Value->Array Value}{t':Nat}(I:Inv X pins σ H s)(hH:H l=some (.lst xs))
 (e:s.heap.get? l=some {cls:= .type "list",data:= .seq its.toArray n})(hf:f its.toArray=its'.toArray)(hv:Vals ys its')(hz:ys.length<=sizeLine):
 Inv X pins σ (upd H l (.lst ys)) {s with heap:=s.heap.update l (Obj.mapSeq f),toks:=t'}:=by
 have q:=PySem.IsL.update e f;rw [hf] at q;refine I.write (x:=l) (e:=l) (by rw [hH];exact trivial) (.inl rfl) (λb' u hb hu=>(Heap.get?_update_other s.heap (Obj.mapSeq f) (Ne.symm hb)).trans hu) ⟨_,q⟩ ?_;exact⟨hz,its',_,hv,q⟩
theorem Inv.lnew {its:List Value}{t':Nat}(I:Inv X pins σ H s)(hv:Vals ys its)(hz:ys.length<=sizeLine):
 Inv X pins σ (upd H s.heap.objs.size (.lst ys)) {s with heap:=s.heap.push {cls:= .type "list",data:= .seq its.toArray},toks:=t'}:=
 I.laid (λ_ _ q=>G1 _ q) (G5 _) ⟨hz,its,0,hv,D1 _ rfl⟩
theorem Inv.fresh (I:Inv X pins σ H s):H s.heap.objs.size=none:=I.hok.fresh (G5 _)
theorem Inv.lstM (I:Inv X pins σ H s)(hH:H l=some (.lst xs)):xs.length<=sizeLine/\ ∃ (its:List Value) (n:Nat),Vals xs its/\xs.length=its.length/\s.heap.get? l=some {cls:= .type "list",data:= .seq its.toArray n}:=by
 obtain⟨z,its,n,r,e⟩:=I.hok l _ hH;exact⟨z,its,n,r,r.length,e⟩
theorem RS {n:Nat}(h:n<=sizeLine):Builtin.List.listTooLong n=false:=by
 unfold Builtin.List.listTooLong;exact D8 (by omega)
end
section
variable {X:Cx}
def Bn:V->List V->Hp->VK->Prop:=λx vs H Q=> ∃l xs y,x= .ref l/\vs= [y]/\H l=some (.lst xs)/\xs.length<sizeLine/\Q .non (upd H l (.lst (xs++ [y])))
theorem Pp:MtM X "list.append" Bn:=by
 intro pins s σ H x vs v us Q I rx rv h;obtain⟨l,xs,y,rfl,rfl,hH,hz,q⟩:=h;cases rx;obtain⟨u,rfl,ru⟩:=rv.one;obtain⟨z,its,n,r,hl,e⟩:=I.lstM hH;refine X8 F.slot_list_append ⟨_,e,rfl⟩ F.entry_list_append (F.args_list_append_2 _ _) (PySem.list_append l its.toArray n u (by rw [G7];omega)) ⟨e,?_⟩;refine⟨.non,_,I.lset (its':=its++ [u]) hH e (by simp) (r.append (.cons ru .nil)) ?_,rfl,q⟩;rw [P7,W9];omega
def EH:R2:=λx y H Q=> ∃l b xs zs,x= .ref l/\y= .ref b/\H l=some (.lst xs)/\H b=some (.lst zs)/\xs.length+zs.length<=sizeLine/\ ∀p,H p=none->Q (.ref p) (upd H p (.lst (xs++zs)))
theorem FC:OpR X (binaryOp .Add) EH:=by
 intro pins s σ H x y v u Q I rx ry h;obtain⟨l,b,xs,zs,rfl,rfl,hH,hB,hz,q⟩:=h;cases rx;cases ry;obtain⟨z,its,n,r,hl,e⟩:=I.lstM hH;obtain⟨z2,its2,n2,r2,hl2,e2⟩:=I.lstM hB;refine PySem.P.add_list e e2 ?_ (by rw [G7,G7];omega);have ea:its.toArray++its2.toArray=(its++its2).toArray:=by simp
 rw [ea];exact⟨.ref _,_,I.lnew (t':=s.toks) (r.append r2) (by rw [P7];omega),rfl,q _ I.fresh⟩
def EI:R2:=λx y H Q=> ∃l k xs,x= .ref l/\y= .int k/\H l=some (.lst xs)/\ -(2^63)<=k/\k<2^63/\xs.length*k.toNat<=sizeLine/\
 ∀p,H p=none->Q (.ref p) (upd H p (.lst (List.replicate k.toNat xs).flatten))
theorem Xh {α:Type}(xs:List α)(k:Nat):(List.replicate k xs).flatten.length=k*xs.length:=by
 induction k with
 |zero=>simp
 |succ k ih=>rw [B2,F6,P7,ih,Nat.succ_mul,Z4]
theorem FD:OpR X (binaryOp .Mult) EI:=by
 intro pins s σ H x y v u Q I rx ry h;obtain⟨l,k,xs,rfl,rfl,hH,h1,h2,hz,q⟩:=h;cases rx;obtain⟨t,rfl⟩:=ry;obtain⟨z,its,n,r,hl,e⟩:=I.lstM hH;have hlen:its.toArray.size*k.toNat<=sizeLine:=by rw [G7,<-hl];exact hz
 have hcap: ¬its.toArray.size*k.toNat>(2^63-1) / 8:=by
  have:(sizeLine:Nat)<=(2^63-1) / 8:=by decide
  omega
 have hfit: ¬ (!Builtin.List.listFitsIndex k)=true:=by
  rw [fitsIndex_both h1 h2];exact P1
 have hlong: ¬Builtin.List.listTooLong (its.toArray.size*k.toNat)=true:=by
  rw [RS hlen];exact P1
 have hnew:List.foldl (λx1 x2=>x1++x2) #[] (List.replicate (if its.toArray.isEmpty=true then 0 else k.toNat) its.toArray)=(List.replicate k.toNat its).flatten.toArray:=by
  have f0: ∀m:Nat,List.foldl (λx1 x2=>x1++x2) #[] (List.replicate m its.toArray)=(List.replicate m its).flatten.toArray:=λm=>by
   have:=ZW its m [];rw [M6] at this;exact this
  rw [f0];cases its with
  |nil=>simp
  |cons a r'=>rw [if_neg (by simp)]
 refine U8 (T:= "list") (U:= "int") (by decide) ⟨_,e,rfl⟩ (λs'=>X7 s' k t) noFill_list_mul F.fills_int_mul Q0 repeat_list F.slot_int_index.lookup
  (X8 Q0 (X7 s k t) F.entry_int_rmul (F.args_int_rmul_2 _ _) (int___rmul___int_list k t l its.toArray n)
   ⟨e,rfl,⟨_,e,rfl⟩,X8 F.slot_list_mul ⟨_,e,rfl⟩ F.entry_list_mul (F.args_list_mul_2 _ _) (AutoListH.list___mul___list_int_3 l its.toArray n k t hfit hcap hlong) ⟨e,?_⟩⟩)
 rw [hnew];exact⟨.ref _,_,I.lnew (t':=s.toks) (r.rep k.toNat) (by rw [Xh,J5];exact hz),rfl,q _ I.fresh⟩
end
end L2
namespace Att
open PySem PySem.W PySem.Calls PyProof.Rows
theorem ZX {P:Params}{h:Heap}: ∀ (ns:List Int) (vs:List Value),WellAll P h vs (ns.map WData.int)->IntsAre vs ns:=by
 intro ns
 induction ns with
 |nil=>
  intro vs w;rw [B8] at w;cases w;exact .nil
 |cons n ns ih=>
  intro vs w;rw [R0] at w;cases w with
  |cons a b=>
   cases a;exact .cons _ _ (ih _ b)
theorem Pq {l:OpenLaw}{n:Nat}(hn:l.most=some n){P:Params}{h:Heap}{args:List WData}{vals:List Value}
 (hpre:l.row.toRowW.claim.pre args=true)(hwl:WellAll P h vals args):
 ∃a vs ns,vals= [Value.ref a]/\args= [WData.list (ns.map WData.int)]/\h.get? a=some {cls:= .type "list",data:= .seq vs.toArray}/\IntsAre vs ns/\ns.length<=n:=by
 have hsh:WShape.hasAll [] args [.list .int]=true:=(pre_splitW hpre).1;have hc:l.pre.holds [] {args:=args}=true:=(pre_splitW hpre).2;obtain⟨d,r,rfl,h1,h2⟩:=hasAllW_cons hsh;obtain rfl:=hasAllW_nil h2;obtain⟨xs,rfl,h3⟩:=hasW_list h1;obtain⟨ns,rfl⟩:=items_int h3;have hlen:ns.length<=n:=by
  unfold OpenLaw.pre at hc;have h4:(WTm.not (.lt (.lit (.int (n:Int))) (.len (.arg 0)))).holds [] {args:= [.list (ns.map .int)]}=true:=by
   have h4:=(holds_andW hc).1;rw [hn] at h4;exact h4
  have h5:=condW_of h4 (w_not (w_lt w_lit (w_len_list (w_arg rfl))));rw [G0] at h5;refine Nat.le_of_not_lt λq=> ?_
  have q':(n:Int)<((ns.length:Nat):Int):=by omega
  first
   |(rw [D5 q'] at h5;exact absurd h5 (by decide))
   |(simp at h5;omega)
 cases hwl with
 |cons w1 w2=>
  cases w2;cases w1 with
  |list ho hall=>exact⟨_,_,ns,rfl,rfl,ho,ZX ns _ hall,hlen⟩
theorem Pr (l:OpenLaw)(args:List WData):l.row.toRowW.claim.post args (.bool true) args=true:=
 postW_of (r:=l.row.toRowW) (X:=(true==true))
  (show WShape.has [] (.bool true) .bool=true by first|rfl|decide|simp [WShape.has,WShape.arms,WShape.armsAll])
  (show (WTm.eq .res (.lit (.bool true))).value [] {args:=args,res:=some (.bool true),after:=args}=some (.bool (true==true)) from w_eq_bool (w_res rfl) w_lit) rfl
theorem attach_call {l:OpenLaw}{n:Nat}{q:Program}{loose:List Str}{XP:(Str->Option Value)->Heap->Prop}{YP:World->Heap->Prop}{d:DefRec}
 (hn:l.most=some n)(hdf:d.params.defaults= [])
 (call: ∀ (w:World) (s₀ s₁:Shared) (mg mb:Str->Option Value) (fa:Addr) (o:Obj) (pm cd doc:Value) (a:Addr) (vs:List Value) (ns:List Int),
  Ground q loose [] XP w s₀ mg mb s₁.heap->YP w s₁.heap->
  s₁.heap.get? fa=some o->o.data= .func (docDef d.name d.params d.body d.scope pm cd doc)->s₁.heap.CodeRec cd d.name->mg d.name=some (.ref fa)->
  s₁.heap.get? a=some {cls:= .type "list",data:= .seq vs.toArray}->IntsAre vs ns->ns.length<=n->s₁.gens= #[]->
  codeAny (model l.prog w) callerA (.call (.ref fa) ⟨[.ref a],[]⟩) (λr s'=>r= .ok (.ret (.bool true))/\OldK s₁.heap s'.heap/\s'.os=s₁.os/\AllBare s'.gens) s₁):
 WalkO q loose XP YP l.row.toRowW d [] (λf vs=>PySem.call f vs):=by
 intro w s₀ s₁ mg mb G Y fa o pm cd doc dV kV ho hd hcd hD hmg hg args vals as hpre hlay hrd hwl hlo;obtain rfl:dV= .none:=Dflts.none hD hdf;obtain rfl:kV= .none:=Dflts.noKw hD;obtain⟨a,vs,ns,rfl,rfl,hobj,hints,hlen⟩:=Pq hn hpre hwl;refine enter_call (codeAny_mono (call w s₀ s₁ mg mb fa o pm cd doc a vs ns G Y ho (fd_plain hd) hcd hmg hobj hints hlen hg) λr s' hq=> ?_);obtain⟨rfl,h2,h3,h4⟩:=hq;exact⟨.inl ⟨.bool true,.bool true,[],rfl,λ_=>rfl,.bool true,Pr l _,λ_=>⟨List.Pairwise.nil,λ_ hm=>(nomatch hm)⟩⟩,h2,h3,h4⟩
end Att
namespace L2
open PySem PySem.Spec PyProof.Rows
theorem VQ: ∀ {vs:List Value} {ns:List Int},IntsAre vs ns->Vals (ns.map V.int) vs
 |_,_,.nil=> .nil
 |_,_,.cons n t h=> .cons ⟨t,rfl⟩ (VQ h)
def yU (s:Stmt):Arguments:=match s with
 | .FunctionDef _ a _ _ _ _ _ _ _ _=>a
 |_=> {posonlyargs:= [],args:= [],vararg:=none,kwonlyargs:= [],kw_defaults:= [],kwarg:=none,defaults:= []}
def wC (s:Stmt):List Stmt:=match s with
 | .FunctionDef _ _ b _ _ _ _ _ _ _=>b
 |_=> []
def jk (s:Stmt):Scope:=match s with
 | .FunctionDef _ _ _ _ _ _ sc _ _ _=>sc
 |_=> {kind:= .function,names:= [],isGenerator:=false,isCoroutine:=false}
abbrev CX0:CXT:=λ_ _ _ _ _ _=>False
abbrev E0:XK:=λ_ _ _=>False
variable {X:Cx}
theorem OR:Pl CX0 X E0:=λ_ _ _ _ _ _ _ h=>h.elim
structure Fun (K:PySem.W.Frag)(x qual:Str)(st:Stmt)(f:Addr)(fd:FuncData):Prop where
 ex: ∃ (oc:Value) (od:Option Addr) (kV doc pm:Value) (an:Option Addr) (cdv ct:Value) (osl:Array (Option Value)),
  fd=PySem.W.fnOf x qual (yU st) (wC st) (jk st) .none kV doc pm an cdv ct/\K.lookup f=some ⟨oc,od,.func fd,osl⟩/\PySem.W.codeIn K cdv qual=true
 kp:PySem.W.keepIn K (.ref f)=true
section
variable {P:Program}{w:World}{K:PySem.W.Frag}{mg:Str->Option Value}{base:Heap}
variable {qual:Str}
theorem Fun.ok {x:Str}{st:Stmt}{f:Addr}{fd:FuncData}{N ps:List Str}{k:Nat}{sp:Sp}(F:Fun K x qual st f fd)(S:FnScope N ps (jk st))(len: ∀vs H Q E,sp vs H Q E->vs.length=ps.length)
 (hbody: ∀ (cdv:Value) (A:Around) (outer:List Env) (s:Shared) (H:Hp) (vs:List V) (Q:VK) (E:XK),Room k (A.deeper (envOfC qual (jk st) s.heap.objs.size f cdv))->sp vs H Q E->
  ∃t,PSs (Nm CX0 P w K mg base N qual (jk st) f cdv A outer s H E).nox (wC st) t/\t {nx:=λ_ H'=>Q .non H',rt:=Q} (ZU N vs) H):FnOk P w K mg base CX0 (k+1) f fd ps sp:=by
 obtain⟨oc,od,kV,doc,pm,an,cdv,ct,osl,rfl,lk,hcd⟩:=F.ex;refine OM lk hcd S len λA outer s H vs Q E hr hsp=> ?_
 obtain⟨t,h,q⟩:=hbody cdv A outer s H vs Q E hr hsp;exact⟨t,h.nox,q⟩
theorem Fun.binds {x:Str}{st:Stmt}{f:Addr}{fd:FuncData}{ps:List Str}(F:Fun K x qual st f fd)
 (h: ∀ (kV doc pm:Value) (an:Option Addr) (cdv ct:Value) (us:List Value),us.length=ps.length->bindArgs (PySem.W.fnOf x qual (yU st) (wC st) (jk st) .none kV doc pm an cdv ct) ⟨us,[]⟩=pure (ps.zip us)):Binds K fd ps []:=by
 obtain⟨oc,od,kV,doc,pm,an,cdv,ct,osl,rfl,lk,hcd⟩:=F.ex;exact .all (h kV doc pm an cdv ct)
theorem FE {x:Str}{st:Stmt}{f:Addr}{oc:Value}{od an:Option Addr}{osl:Array (Option Value)}{kV doc pm cdv ct:Value}(l:K.lookup f=some ⟨oc,od,.func (PySem.W.fnOf x qual (yU st) (wC st) (jk st) .none kV doc pm an cdv ct),osl⟩)
 (c:PySem.W.codeIn K cdv qual=true)(k:PySem.W.keepIn K (.ref f)=true):Fun K x qual st f (PySem.W.fnOf x qual (yU st) (wC st) (jk st) .none kV doc pm an cdv ct):=⟨⟨oc,od,kV,doc,pm,an,cdv,ct,osl,rfl,l,c⟩,k⟩
end
theorem zr {n:Nat}(h:n<=1000):n<sizeLine:=B6 h (by decide)
section
variable {X:Cx}
theorem pv (i:Nat){x:Str}{pos:Pos}(hN:X.N[i]? =some x:=by rfl)(hv:Vis X.env.scope x:=by first|exact Or.inl rfl|exact Or.inr (Or.inl rfl)|exact Or.inr (Or.inr rfl))(hd:(x==("__debug__" :Str))=false:=by decide)
 (hcd:(x==("__classdict__" :Str))=false:=by decide):PE X (.Name x pos) (Oz i):=Ni hN hv hd hcd
end
theorem yS {A B:Prop}(h:B):if false=true then A else B:=by
 rw [if_neg P1];exact h
theorem vS {A B:Prop}(h:A):if true=true then A else B:=by
 rw [if_pos rfl];exact h
theorem VR {c A B:Prop}[Decidable c](h1:c->A)(h2: ¬c->B):if c then A else B:=by
 by_cases h:c
 ·rw [if_pos h];exact h1 h
 ·rw [if_neg h];exact h2 h
section
variable {κ:Type}[DecidableEq κ]
def Nn (kvs:List (κ×V))(k:κ)(v:V):List (κ×V):=
 if (kvs.any λkv=>decide (kv.1=k))=true then kvs.map (λkv=>if kv.1=k then (kv.1,v) else kv) else kvs++ [(k,v)]
theorem Xi (kvs:List (κ×V))(k:κ)(v:V):(Nn kvs k v).length<=kvs.length+1:=by
 unfold Nn;split
 ·rw [G0];omega
 ·rw [P7,P8,S4];omega
theorem KV.any {kvs:List (κ×V)}{vs:List (κ×Value)}(r:KV kvs vs)(k:κ):(kvs.any λkv=>decide (kv.1=k))=vs.any λkv=>decide (kv.1=k):=by
 unfold KV at r
 induction r with
 |nil=>rfl
 |cons h t ih=>rw [List.any_cons,List.any_cons,ih,h.1]
theorem KV.repl {kvs:List (κ×V)}{vs:List (κ×Value)}(r:KV kvs vs)(k:κ){y:V}{u:Value}(ry:RelV y u):
 KV (kvs.map λkv=>if kv.1=k then (kv.1,y) else kv) (vs.map λkv=>if kv.1=k then (kv.1,u) else kv):=by
 unfold KV at r ⊢
 induction r with
 |nil=>exact .nil
 | @cons p q ps qs h t ih=>
  rw [R0,R0];refine .cons ?_ ih;obtain⟨h1,h2⟩:=h
  by_cases e:p.1=k
  ·rw [if_pos e,if_pos (h1.symm.trans e)];exact⟨h1,ry⟩
  ·rw [if_neg e,if_neg (λz=>e (h1.trans z))];exact⟨h1,h2⟩
theorem KV.put {kvs:List (κ×V)}{vs:List (κ×Value)}(r:KV kvs vs)(k:κ){y:V}{u:Value}(ry:RelV y u):KV (Nn kvs k y) (stored vs k u):=by
 unfold Nn stored;rw [r.any k]
 by_cases e:(vs.any λkv=>decide (kv.1=k))=true
 ·rw [if_pos e,if_pos e];exact r.repl k ry
 ·rw [if_neg e,if_neg e];exact Paired.snoc r ⟨rfl,ry⟩
end
variable {P:Program}{w:World}
theorem OS {k:Key}{u:Value}(r:RelV (kV k) u):(wW P w).is k u=true:=by
 cases k with
 |inl i=>obtain⟨t,e⟩:=(show ∃t,u=Value.int i t from r);subst e;exact Xc P w i t
 |inr x=>obtain⟨t,e⟩:=(show ∃t,u=Value.str x t from r);subst e;exact Xd P w x t
section
variable {P:Program}{w:World}{H:Hp}{h:Heap}{a:Addr}
theorem OT {u:HO}(ok:HOk P w H h)(e:Rd H a u):ObjOk P w H h a u:=e.ok ok
theorem OU {kvs:List (Key×V)}(ok:HOk P w H h)(e:Rd H a (.dK kvs)):kvs.length<=sizeLine/\(a==sysModules)=false/\ ∃vs,KV kvs vs/\h.DictOf (wW P w) a vs:=
 show ObjOk P w H h a (.dK kvs) from OT ok e
theorem OV {kvs:List (Key×V)}(ok:HOk P w H h)(e:H a=some (.dK kvs)):kvs.length<=sizeLine/\(a==sysModules)=false/\ ∃vs,KV kvs vs/\h.DictOf (wW P w) a vs:=OU ok (.inl e)
end
section
variable {X:Cx}{pins:List (Addr×Obj)}{σ:St}{H:Hp}{s:Shared}{a:Addr}{y v:V}{u r:Value}{o:Option V}{A:Around}{E:Value->Shared->Prop}
theorem Inv.big (I:Inv X pins σ H s):sysModules<s.heap.objs.size:=by
 have h:mainGlobals<s.heap.objs.size:=(I.mod.glob.keeps I.bk).lt;exact L8 (by decide) h
theorem Bo {h':Heap}{t':Nat}{ob:HO}(I:Inv X pins σ H s)(mu:Mut (H a))(hs:Heap.SameBut a s.heap h')(he: ∃q,h'.get? a=some q)(new:ObjOk X.prog X.w (upd H a ob) h' a ob):
 Inv X pins σ (upd H a ob) {s with heap:=h',toks:=t'}:=
 I.write (x:=a) (e:=a) mu (.inl rfl) (λb q hb z=>(hs.2 b hb).trans z) he new
theorem FF {P:Program}{w:World}{H':Hp}{h':Heap}{kvs:List (Key×V)}{vs:List (Key×Value)}(z:kvs.length<=sizeLine)(hd:(a==sysModules)=false)(rel:KV kvs vs)(dd:h'.DictOf (wW P w) a vs):
 ObjOk P w H' h' a (.dK kvs):=⟨z,hd,vs,rel,dd⟩
end
theorem RT {H:Hp}(h:Heap)(hb:sysModules<h.objs.size):ObjOk P w H (h.push {cls:= .type "dict",data:= .dict #[]}) h.objs.size (.dK []):=
 ⟨B7 _,F9.mpr (Ne.symm (D9 hb)),[],.nil,Heap.DictOf.new h⟩
def Ps:List (TE×TE)->St->Hp->(List (V×V)->Hp->Prop)->Prop
 | [],_,H,Q=>Q [] H
 |(tk,tv)::r,σ,H,Q=>tk σ H λx H1=>tv σ H1 λy H2=>Ps r σ H2 λps H3=>Q ((x,y)::ps) H3
abbrev VV:List (V×V)->List (Value×Value)->Prop:=Paired λp q=>RelV p.1 q.1/\RelV p.2 q.2
def PPs (X:Cx)(pos:Pos)(keys:List (Option Expr))(values:List Expr)(trs:List (TE×TE)):Prop:=
 ∀ (pins:List (Addr×Obj)) (s:Shared) (σ:St) (H:Hp) (Q:List (V×V)->Hp->Prop),Inv X pins σ H s->Ps trs σ H Q->
  wpAny (model X.prog X.w) X.A (evalPairs (pairTrees keys values X.env pos)) (λvs s'=> ∃ps H',Inv X pins σ H' s'/\VV ps vs/\Q ps H') X.xe s
variable {pos:Pos}
theorem Bp:PPs X pos [] [] []:=λpins s σ H Q I h=>pairTrees_nil_walk ⟨[],H,I,.nil,h⟩
theorem RU {k v:Expr}{ks:List (Option Expr)}{vs:List Expr}{tk tv:TE}{trs:List (TE×TE)}(hk:PE X k tk)(hv:PE X v tv)(hr:PPs X pos ks vs trs):
 PPs X pos (some k::ks) (v::vs) ((tk,tv)::trs):=λpins s σ H Q I h=>
 pairTrees_cons_walk (thn (hk pins s σ H _ I h) λu s1 ⟨x,H1,I1,rx,q1⟩=>thn (hv pins s1 σ H1 _ I1 q1) λw2 s2 ⟨y,H2,I2,ry,q2⟩=>
  thn (hr pins s2 σ H2 _ I2 q2) λws s3 ⟨ps,H3,I3,rel,q3⟩=>⟨(x,y)::ps,H3,I3,.cons ⟨rx,ry⟩ rel,q3⟩)
def VS (kvs more:List (Key×V)):List (Key×V):=more.foldl (λacc kv=>Nn acc kv.1 kv.2) kvs
theorem KV.merge: ∀ {more:List (Key×V)} {rs:List (Key×Value)} {kvs:List (Key×V)} {vs:List (Key×Value)},KV more rs->KV kvs vs->KV (VS kvs more) (merged vs rs):=by
 intro more rs kvs vs r;unfold KV at r
 induction r generalizing kvs vs with
 |nil=>intro q;exact q
 | @cons p q ps qs h t ih=>
  intro r0;have e:KV (Nn kvs p.1 p.2) (stored vs q.1 q.2):=by
   have:=r0.put p.1 h.2;rw [<-h.1];exact this
  exact ih e
theorem Jp: ∀ (more kvs:List (Key×V)),(VS kvs more).length<=kvs.length+more.length
 | [],kvs=>by show kvs.length<=kvs.length+0;omega
 |p::r,kvs=>by
  have h1:=Jp r (Nn kvs p.1 p.2);have h2:=Xi kvs p.1 p.2;show (VS (Nn kvs p.1 p.2) r).length<=_;rw [P8];omega
theorem WZ {P:Program}{w:World}: ∀ {kvs:List (Key×V)} {ws:List (Value×Value)},VV (kvs.map λkv=>(kV kv.1,kv.2)) ws-> ∃rs,Carries (wW P w) ws rs/\KV kvs rs
 | [],_,r=>by rw [B8] at r;cases r;exact⟨[],True.intro,.nil⟩
 |p::kvs,_,r=>by
  rw [R0] at r;cases r with
  | @cons a b as bs h t=>
   obtain⟨rs,c,q⟩:=WZ (P:=P) (w:=w) t;obtain⟨b1,b2⟩:=b;exact⟨(p.1,b2)::rs,⟨OS h.1,rfl,c⟩,.cons ⟨rfl,h.2⟩ q⟩
def OW (trs:List (TE×TE)):TE:=λσ H Q=> ∀p,H p=none->Ps trs σ (upd H p (.dK [])) λps H2=>H2 p=some (.dK [])/\ ∃kvs:List (Key×V),ps=kvs.map (λkv=>(kV kv.1,kv.2))/\kvs.length<=15/\Q (.ref p) (upd H2 p (.dK (VS [] kvs)))
theorem Bq {keys:List (Option Expr)}{values:List Expr}{trs:List (TE×TE)}(h:PPs X pos keys values trs)(hall:keys.all (·.isSome)=true)(hl:keys.length=values.length)(h0:keys≠ [])
 (h15:keys.length<=15):PE X (.Dict keys values pos) (OW trs):=by
 intro pins s σ H Q I q;have hn:=I.hok.fresh (G5 s.heap.objs.size);have I1:=I.laid (a:=s.heap.objs.size) (o:= .dK []) (h':=s.heap.push {cls:= .type "dict",data:= .dict #[]}) (t':=s.toks) (λ_ _ q=>G1 _ q) (G5 _) (RT s.heap I.big);refine wpAny_Dict_walk (knd:=wW X.prog X.w) hall hl h0 h15 (thn (h pins _ σ _ _ I1 (q _ hn)) λws s2 ⟨ps,H2,I2,rel,e,kvs,ep,lk,q2⟩=> ?_);subst ep;obtain⟨rs,c,rk⟩:=WZ (P:=X.prog) (w:=X.w) rel;obtain⟨z,hd,vs0,r0,dd⟩:=OV I2.hok e;cases r0;refine⟨rs,c,dd,λh' dd' hs=>⟨.ref s.heap.objs.size,_,?_,rfl,q2⟩⟩;have hz:(VS [] kvs).length<=sizeLine:=by
  have h1:=Jp kvs [];rw [S4] at h1;rw [sizeLine_eq];omega
 have he: ∃q,h'.get? s.heap.objs.size=some q:=let ⟨q,_,_,hq,_⟩:=dd';⟨q,hq⟩;exact Bo I2 (by rw [e];exact True.intro) hs he (FF hz hd (rk.merge .nil) dd')
def wX (names:List (Str×NameKind))(env:Env)(cs:List (Str×Addr)):List (Str×Addr):=
 names.foldl (λcs p=>if p.2= .free then (match env.cells.lookup p.1 with|some c=>(p.1,c)::cs|none=>cs) else cs) cs
theorem zU (p:Str×NameKind)(l:List (Str×NameKind))(env:Env)(cs:List (Str×Addr)):
 wX (p::l) env cs=wX l env (if p.2= .free then (match env.cells.lookup p.1 with|some c=>(p.1,c)::cs|none=>cs) else cs):=rfl
variable {env:Env}
theorem ZY {f:Str×NameKind->List (Str×Addr)->Sem (ForInStep (List (Str×Addr)))}
 (h1: ∀p cs,p.2≠ .free->f p cs=pure (.yield cs))(h2: ∀p cs c,p.2= .free->env.cells.lookup p.1=some c->f p cs=pure (.yield ((p.1,c)::cs))):
 ∀ (l:List (Str×NameKind)) (cs:List (Str×Addr)),(∀p∈l,p.2= .free-> ∃c,env.cells.lookup p.1=some c)->forIn l cs f=pure (wX l env cs)
 | [],cs,_=>rfl
 |p::l,cs,h=>by
  have ih:=ZY h1 h2 l
  by_cases hp:p.2= .free
  ·obtain⟨c,hc⟩:=h p P3 hp;rw [E2,h2 p cs c hp hc,pure_bind];show forIn l ((p.1,c)::cs) f=_;rw [ih _ λq hq=>h q (P0 _ hq),zU,if_pos hp,hc]
  ·rw [E2,h1 p cs hp,pure_bind];show forIn l cs f=_;rw [ih _ λq hq=>h q (P0 _ hq),zU,if_neg hp]
variable {scope:Scope}
theorem Yx (h: ∀p∈scope.names,p.2= .free-> ∃c,env.cells.lookup p.1=some c):closureFor scope env=pure (wX scope.names env []):=by
 simp only [closureFor];rw [ZY (env:=env) (λp cs hp=> ?_) (λp cs c hp hc=> ?_) _ _ h]
 ·rfl
 ·obtain⟨n,k⟩:=p;have hb:(k==NameKind.free)=false:=by simpa using hp
  simp only [hb,R1,Z0]
 ·obtain⟨n,k⟩:=p;have hb:(k==NameKind.free)=true:=by simpa using hp
  have hc':env.cells.lookup n=some c:=hc;simp only [hb,if_true,cellOf,hc',pure_bind]
theorem ZZ: ∀ (l:List (Str×NameKind)) (cs:List (Str×Addr)),(∀p∈cs,env.cells.lookup p.1=some p.2)-> ∀p∈wX l env cs,env.cells.lookup p.1=some p.2
 | [],cs,h,p,hp=>h p hp
 |q::l,cs,h,p,hp=>by
  rw [zU] at hp;refine ZZ l _ (λr hr=> ?_) p hp
  by_cases hq:q.2= .free
  ·rw [if_pos hq] at hr;cases e:env.cells.lookup q.1 with
   |none=>rw [e] at hr;exact h r hr
   |some c=>
    rw [e] at hr;rcases G4.mp hr with rfl|hr
    ·exact e
    ·exact h r hr
  ·rw [if_neg hq] at hr;exact h r hr
theorem Wa: ∀ (l:List (Str×NameKind)) (cs:List (Str×Addr)),∀p∈cs,p∈wX l env cs
 | [],cs,p,hp=>hp
 |q::l,cs,p,hp=>by
  rw [zU];refine Wa l _ p ?_
  by_cases hq:q.2= .free
  ·rw [if_pos hq];cases e:env.cells.lookup q.1 with
   |none=>exact hp
   |some c=>exact P0 _ hp
  ·rw [if_neg hq];exact hp
variable {x:Str}
theorem Wb {c:Addr}(hc:env.cells.lookup x=some c): ∀ (l:List (Str×NameKind)) (cs:List (Str×Addr)),(x,NameKind.free)∈l->(x,c)∈wX l env cs
 |q::l,cs,h=>by
  rw [zU];rcases G4.mp h with e|h
  ·subst e;rw [if_pos rfl,hc];exact Wa l _ _ P3
  ·exact Wb hc l _ h
theorem wA {α:Type}: ∀ {l:List (Str×α)} {x:Str} {c:α},l.lookup x=some c->(x,c)∈l
 | [],_,_,h=>by simp at h
 |(n,k)::r,x,c,h=>by
  rw [N9] at h;cases hx:x==n with
  |true=>
   rw [hx] at h;have e:x=n:=eq_of_beq hx;cases h;subst e;exact P3
  |false=>rw [hx] at h;exact P0 _ (wA h)
theorem Ya {α:Type}: ∀ {l:List (Str×α)} {x:Str} {c:α},(x,c)∈l-> ∃c',l.lookup x=some c'
 |(n,k)::r,x,c,h=>by
  rw [N9];cases hx:x==n with
  |true=>exact⟨_,rfl⟩
  |false=>
   rcases G4.mp h with e|h
   ·cases e;simp at hx
   ·exact Ya h
theorem Yb {l:List (Str×NameKind)}{c:Addr}(h:(wX l env []).lookup x=some c):env.cells.lookup x=some c:=
 ZZ l [] (λ_ z=>nomatch z) (x,c) (wA h)
theorem Pt {l:List (Str×NameKind)}{c:Addr}(hc:env.cells.lookup x=some c)(h:(x,NameKind.free)∈l):(wX l env []).lookup x=some c:=by
 obtain⟨c',e⟩:=Ya (Wb hc l [] h);have:=Yb e;rw [hc] at this;cases this;exact e
theorem yw {κ:Type}{f:Str×κ->Str×κ}{g:Str->κ->κ}(hf: ∀n k,f (n,k)=(n,g n k))(x:Str): ∀l:List (Str×κ),(l.map f).lookup x=(l.lookup x).map (g x)
 | []=>rfl
 |(n,k)::r=>by
  rw [R0,hf,N9,N9,yw hf x r];cases same:x==n with
  |false=>rfl
  |true=>rw [eq_of_beq same];rfl
theorem ze {names:List (Str×NameKind)}{k:NameKind}(found:
 (names.map λ(n,k)=>if (k==NameKind.free&&env.scope.kind== .function&&env.kindOf n==some .cell) then (n,NameKind.cell) else (n,k)).lookup x=some k):
  names.lookup x=some k\/names.lookup x=some .free:=by
 rw [yw (g:=λn k=>if (k==NameKind.free&&env.scope.kind== .function&&env.kindOf n==some .cell) then .cell else k) (λn k=>by dsimp only;split<;>rfl)] at found;obtain⟨k0,was,now⟩:=E7.mp found;split at now
 ·rename_i c;simp only [R4,Z3] at c;exact .inr (by rw [was,c.1.1])
 ·exact .inl (by rw [was,now])
theorem wm: ∀ (names:List (Str×NameKind)) (n:Nat) (acc:List (Str×Addr)) (p:Str×Addr),p∈cellsFrom n names acc->p∈acc\/(n<=p.2/\(p.1,NameKind.cell)∈names)
 | [],_,_,_,h=> .inl h
 |(x,k)::r,n,acc,p,h=>by
  unfold cellsFrom at h;split at h
  ·rename_i hk;rcases wm r (n+1) _ p h with z|⟨z1,z2⟩
   ·rcases G4.mp z with e|z
    ·subst e;have:k= .cell:=by simpa using hk
     subst this;exact .inr ⟨G5 _,P3⟩
    ·exact .inl z
   ·exact .inr ⟨by omega,P0 _ z2⟩
  ·rcases wm r n acc p h with z|⟨z1,z2⟩
   ·exact .inl z
   ·exact .inr ⟨z1,P0 _ z2⟩
theorem jW: ∀ (names:List (Str×NameKind)) (n:Nat) (acc:List (Str×Addr)),cellsFrom n names acc=cellsFrom n names []++acc
 | [],_,_=>rfl
 |(x,k)::r,n,acc=>by
  unfold cellsFrom;split
  ·rw [jW r (n+1) ((x,n)::acc),jW r (n+1) [(x,n)],V1];rfl
  ·exact jW r n acc
theorem JM {α:Type}(l l':List (Str×α))(x:Str):(l++l').lookup x=(match l.lookup x with|some c=>some c|none=>l'.lookup x):=by
 induction l with
 |nil=>rfl
 |cons p l ih=>
  obtain⟨n,c⟩:=p;rw [M9,N9,N9];cases x==n with
  |true=>rfl
  |false=>exact ih
theorem vT {names:List (Str×NameKind)}(here:names.lookup x=some .cell):
 (names.map λ(n,k)=>if (k==NameKind.free&&env.scope.kind== .function&&env.kindOf n==some .cell) then (n,NameKind.cell) else (n,k)).lookup x=some .cell:=by
 rw [yw (g:=λn k=>if (k==NameKind.free&&env.scope.kind== .function&&env.kindOf n==some .cell) then .cell else k) (λn k=>by dsimp only;split<;>rfl),here];simp
section
variable {M:Model}{A:Around}{E:Value->Shared->Prop}{s:Shared}
theorem Gk (h:Heap)(names:List (Str×NameKind)):(∀n c,(n,c)∈cellsFrom h.objs.size names []->(pushCells h names).IsCell c none/\h.objs.size<=c)/\(cellsFrom h.objs.size names []).Pairwise λx y=>x.2≠y.2:=
 have laid:=cellsFrom_ok names h h.objs.size [] ⟨by simp,.nil⟩ (G5 _)
 ⟨laid.empty,laid.apart⟩
theorem VT {scope:Scope}{globals:Addr}{closure:List (Str×Addr)}{qual:Str}{func:Option Addr}{code:Value}{outer:Env}{builtins:Addr}{Q:Env->Shared->Prop}
 (hQ: ∀h',h'.Ns s.heap.objs.size (λ_=>none)->(∀b o,s.heap.get? b=some o->h'.get? b=some o)->(∀n c,(n,c)∈cellsFrom (s.heap.objs.size+1) scope.names []->h'.IsCell c none/\s.heap.objs.size+1<=c)->
  ((cellsFrom (s.heap.objs.size+1) scope.names []).Pairwise λx y=>x.2≠y.2)->
  Q (newEnv scope s.heap.objs.size globals (cellsFrom (s.heap.objs.size+1) scope.names closure) qual func code (some outer) builtins) {s with heap:=h'}):
 wpAny M A (newFunctionEnv scope globals closure [] qual func code (some outer) builtins) Q E s:=by
 have names:=Gk (s.heap.push {cls:= .type "dict",data:= .dict #[]}) scope.names;have first:(s.heap.push {cls:= .type "dict",data:= .dict #[]}).objs.size=s.heap.objs.size+1:=J2 ..
 rw [first] at names;unfold newFunctionEnv;refine wpAny_bind (wpAny_alloc (wpAny_bind (wpAny_layCells _ (λn k cs=>rfl) _ _ _ _ ?_)));simp only [Option.isSome_some,if_true];rw [first];exact wpAny_bind (G2 (G2 (hQ _ ((Heap.Ns.new _ _).keeps (pushCells_keeps _ _)) (λb o here=>pushCells_keeps _ _ b o (G1 _ here)) names.1 names.2)))
end
def jP (X:Cx)(scope:Scope)(C:Addr):List (Str×Addr):=cellsFrom (C+1) scope.names (wX scope.names X.env [])
def Yy (X:Cx)(scope:Scope)(C:Addr)(s₀:Shared)(H₀:Hp)(ex:List Addr):Cx:=
 {X with s₀:=s₀,H₀:=H₀,env:=compEnvC scope (jP X scope C) C X.env,outer:=X.stack,ex:=ex,fn:=λx=>scope.names.lookup x==some .cell,pn:= [],xe:=λ_ _=>False}
def jK (X:Cx)(scope:Scope)(X':Cx):Prop:= ∃C s₀ H₀ ex,X'=Yy X scope C s₀ H₀ ex
structure BlockOk (X:Cx)(scope:Scope)(js:List Nat):Prop where
 kind:scope.kind= .function
 locs: ∀p∈scope.names,p.2= .local->scope.names.lookup p.1=some .local
 cels: ∀p∈scope.names,p.2= .cell->scope.names.lookup p.1=some .cell
 free: ∀p∈scope.names,p.2= .free->X.env.scope.names.lookup p.1=some .cell\/X.env.scope.names.lookup p.1=some .free
 js: ∀ (i:Nat) (x:Str),X.N[i]? =some x->(scope.names.lookup x=some .local\/scope.names.lookup x=some .cell)->i∈js
variable {js:List Nat}
theorem yi (S:BlockOk X scope js){C:Addr}{x:Str}{c:Addr}(h:(jP X scope C).lookup x=some c):
 (scope.names.lookup x≠some .cell/\X.env.cells.lookup x=some c)\/(scope.names.lookup x=some .cell/\(x,c)∈cellsFrom (C+1) scope.names []):=by
 unfold jP at h;rw [jW,JM] at h;cases e:(cellsFrom (C+1) scope.names []).lookup x with
 |some d=>
  rw [e] at h;cases h;have m:=wA e;rcases wm _ _ _ _ m with z|⟨_,z⟩
  ·exact absurd z (by simp)
  ·exact .inr ⟨S.cels _ z rfl,m⟩
 |none=>
  rw [e] at h;refine .inl ⟨λz=> ?_,Yb h⟩;obtain⟨d,hd⟩:=ZN (sc:=scope) (n:=C+1) z;rw [e] at hd;cases hd
theorem Zn (S:BlockOk X scope js){C:Addr}{x:Str}{c:Addr}(hc:X.env.cells.lookup x=some c)(h:(x,NameKind.free)∈scope.names)(hn:scope.names.lookup x≠some .cell):(jP X scope C).lookup x=some c:=by
 unfold jP;rw [jW,JM];cases e:(cellsFrom (C+1) scope.names []).lookup x with
 |some d=>
  rcases wm _ _ _ _ (wA e) with z|⟨_,z⟩
  ·exact absurd z (by simp)
  ·exact absurd (S.cels _ z rfl) hn
 |none=>exact Pt hc h
def yj:List Nat->St->St
 | [],σ=>σ
 |j::js,σ=>yj js (σ.set j none)
theorem Yc: ∀ (js:List Nat) (σ:St),(yj js σ).length=σ.length
 | [],_=>rfl
 |j::js,σ=>by rw [yj,Yc js];simp
theorem Wc: ∀ (js:List Nat) (σ:St) (i:Nat) (v:V),(yj js σ)[i]? =some (some v)->σ[i]? =some (some v)
 | [],_,_,_,h=>h
 |j::js,σ,i,v,h=>by
  have h1:=Wc js _ i v h
  by_cases e:i=j
  ·subst e;rw [E9] at h1;simp at h1
  ·rwa [N6 (Ne.symm e)] at h1
theorem wD: ∀ (js:List Nat) (σ:St) (i:Nat) (v:V),i∈js-> ¬ (yj js σ)[i]? =some (some v)
 |j::js,σ,i,v,hm,h=>by
  rcases G4.mp hm with rfl|hm
  ·have h1:=Wc js _ i v h;rw [E9] at h1;simp at h1
  ·exact wD js _ i v hm h
theorem HOk.track {H:Hp}{h:Heap}{a:Addr}{o:HO}(x:HOk P w H h)(hn:H a=none)(new:ObjOk P w (upd H a o) h a o):HOk P w (upd H a o) h:=λb u e=>by
 by_cases hb:b=a
 ·subst hb;rw [jy] at e;cases e;exact new
 ·rw [jx hb] at e;exact(x b u e).stay (λc v _ q=>q) (λc q=>by rw [jx (ju q hn)];exact q) λc xs q=>by rw [jx (ju q hn)];exact q
def Agree (σ σ':St):Prop:=σ'.length=σ.length/\ ∀ (i:Nat) (v:V),σ[i]? =some (some v)->σ'[i]? =some (some v)
theorem Agree.set {σ:St}{j:Nat}(v:V)(h: ∀u,¬σ[j]? =some (some u)):Agree σ (σ.set j (some v)):=⟨by simp,λi u q=>by
 by_cases e:j=i
 ·subst e;exact absurd q (h u)
 ·rw [N6 e];exact q⟩
theorem Agree.trans {a b c:St}(x:Agree a b)(y:Agree b c):Agree a c:=⟨y.1.trans x.1,λi v h=>y.2 i v (x.2 i v h)⟩
def PTs (X:Cx)(ifs:List Expr)(t:TT):Prop:=
 ∀ (pins:List (Addr×Obj)) (s:Shared) (σ:St) (H:Hp) (Q:Bool->Hp->Prop),Inv X pins σ H s->t σ H Q->
  wpAny (model X.prog X.w) X.A (forIn ifs true λc r=>if r=true then do let ok <-isTrue c X.env (eval c X.env);pure (ForInStep.yield ok) else pure (ForInStep.yield r)) (TP X pins σ Q) X.xe s
def Ej:TT:=λ_ H Q=>Q true H
theorem Br:PTs X [] Ej:=λ_ _ _ H _ I h=>wpAny_tests_nil ⟨H,I,h⟩
def Qq (iter target:Expr)(ifs:List Expr)(it:Value)(env:Env)(act:Sem Unit)(nxt:Code):Sem PySem.Fin:=do
 standAt iter.pos
 match <-pyNext it with
 |none=>pure (.done .next)
 |some v=>
  letOwnedTupleGo target it v
  assign target env v
  let mut ok:=true
  for c in ifs do
   if ok then ok <-isTrue c env (eval c env)
  if ok then act
  again nxt
variable {elt iter:Expr}{ifs:List Expr}
theorem RV {prog:Program}{A:Around}{R:Result->Shared->Prop}{s:Shared}{target:Expr}{gens:List Comprehension}{depth:Nat}{it acc:Value}{act:Sem Unit}(I:Nat->Shared->Prop)
 (heq:compTurn (.ListComp elt gens scope pos) depth it acc env=Qq iter target ifs it env act (.compLoop (.ListComp elt gens scope pos) depth it acc env))
 (turn: ∀n s,I n s->wpAny (model prog w) A (pyNext it) (λr s₁=>match r with
  |none=>R (.ok .next) s₁
  |some v=>wpAny (model prog w) A (letOwnedTupleGo target it v) (λ_ s₁=>wpAny (model prog w) A (assign target env v) (λ_ s₂=>
   wpAny (model prog w) A (forIn ifs true λc r=>if r=true then do let ok <-PySem.isTrue c env (eval c env);pure (ForInStep.yield ok) else pure (ForInStep.yield r)) (λok s₃=>
    if ok=true then wpAny (model prog w) A act (λ_ s₅=> ∃m,m<n/\I m s₅) (λ_ _=>False) s₃
    else ∃m,m<n/\I m s₃) (λ_ _=>False) s₂) (λ_ _=>False) s₁) (λ_ _=>False) s₁) (λ_ _=>False) s)
 (n:Nat)(h:I n s):
 codeAny (model prog w) A (.compLoop (.ListComp elt gens scope pos) depth it acc env) R s:=by
 refine codeAny_loop rfl I (λn s hI=> ?_) n h;show wpAny _ A ((compTurn (.ListComp elt gens scope pos) depth it acc env).onRaise (λx=>do noteFrame x env;theTreesLotGoes x)) _ _ s;refine wpAny_noted ?_;rw [heq];unfold Qq;refine wpAny_bind (V7 (wpAny_bind (S7 (turn n s hI) (λr s₁ h₁=> ?_) λ_ _ h'=>h'.elim)));cases r with
 |none=>exact G2 h₁
 |some v=>
  refine wpAny_bind (S7 h₁ (λ_ s₁ h₁=> ?_) λ_ _ h'=>h'.elim);refine wpAny_bind (S7 h₁ (λ_ s₂ h₂=>wpAny_bind (S7 h₂ (λok s₃ h₃=> ?_) λ_ _ h'=>h'.elim)) λ_ _ h'=>h'.elim);cases ok with
  |false=>exact G2 ⟨rfl,h₃⟩
  |true=>exact wpAny_bind (S7 h₃ (λ_ s₅ h₅=>G2 ⟨rfl,h₅⟩) λ_ _ h'=>h'.elim)
abbrev TM:=St->Hp->List V->(List V->Hp->Prop)->Prop
def OX (X:Cx)(D:Addr)(act:Sem Unit)(t:TM):Prop:=
 ∀ (pins:List (Addr×Obj)) (s:Shared) (σ:St) (H:Hp) (ys:List V) (us:List Value) (Q:List V->Hp->Prop),Inv X ([(D,LCg.lst us)]++pins) σ H s->Vals ys us->ys.length<=sizeLine->D∈X.ex->(∀x c,X.env.cells.lookup x=some c->c≠D)->(∀p∈X.pn++pins,p.1≠D)->t σ H ys Q->
  wpAny (model X.prog X.w) X.A act (λ_ s'=> ∃ys' us' H',Vals ys' us'/\Inv X ([(D,LCg.lst us')]++pins) σ H' s'/\Q ys' H') (λ_ _=>False) s
def Ek (te:TE):TM:=λσ H ys Q=>te σ H λy H1=>Q (ys++ [y]) H1
def Qr (elt:Expr)(env:Env)(acc:Value):Sem Unit:=do let _ <-call (.builtin "list.append") [acc,<-eval elt env]
theorem Qs {D:Addr}{te:TE}(hx:X.xe=λ_ _=>False)(he:PE X elt te):OX X D (Qr elt X.env (.ref D)) (Ek te):=by
 intro pins s σ H ys us Q I hv hz DX cD pD h;have q:=he _ s σ H _ I h;rw [hx] at q;unfold Qr;refine wpAny_bind (S7 q (λy s1 ⟨yv,H1,I1,r1,q1⟩=> ?_) λ_ _ z=>z);have zD:=I1.pin (D,LCg.lst us) (D0 _ (M1 _ P3));refine wpAny_bind (append_at (its:=us.toArray) (n:=us.length) zD.1 (λh11 hs11 hD11=>G2 ?_) (by rw [G7,<-hv.length];exact hz));have I10u:Inv X pins σ H1 s1:=I1.pins_of λp hp=>I1.pin p (D0 _ (D0 _ hp))
 have I11:Inv X pins σ H1 {s1 with heap:=h11}:=I10u.turned (t':=s1.toks) (it:=D) (λb o hb e=>hs11.extBut b o hb e) zD.2.1 zD.2.2.1 (.inl DX) cD pD;have eD:h11.get? D=some (LCg.lst (us++ [y])):=by rw [hD11];exact congrArg some (LCg.lst_snoc us y)
 refine⟨ys++ [yv],us++ [y],H1,hv.append (.cons r1 .nil),I11.pins_of λp hp=> ?_,q1⟩;rcases D4.mp hp with z|z
 ·rcases G8.mp z with rfl
  exact⟨eD,zD.2.1,zD.2.2.1,zD.2.2.2.1,λv z=>by cases z⟩
 ·exact I11.pin p (D0 _ z)
def OY (js : List Nat) (wi : TI) (g : TG) (tt : TT) (tm : TM) : TE := fun σ H Q => wi σ H fun J H1 =>
  ∃ W : Nat → Nat → List V → Hp → Prop, (∃ m, W 0 m [] H1) ∧ ∀ i m ys H, W i m ys H → ys.length ≤ sizeLine ∧
    ((J.stop i H ∧ ∀ p, H p = none → Q (.ref p) (upd H p (.lst ys))) ∨
     (J.go i H ∧ ∀ x H', J.yld i H x H' → g x (yj js σ) H' fun σ2 H2 => Agree (yj js σ) σ2 ∧ tt σ2 H2 fun b H3 =>
        if b = true then tm σ2 H3 ys fun ys' H4 => ∃ m', m' < m ∧ W (i + 1) m' ys' H4 else ∃ m', m' < m ∧ W (i + 1) m' ys H3))
def tLC (js:List Nat)(wi:TI)(g:TG)(tt:TT)(te:TE):TE:=OY js wi g tt (Ek te)
variable {tg:Expr}{wi:TI}{g:TG}{tt:TT}
theorem No {e:Expr}{rest:List Comprehension}{pos0:Pos}{tm:TM}{use:Option (Value->Sem Unit)}{Qv:Value->Shared->Prop}(hc:X.calm=true)(S:BlockOk X scope js)(hi:PI X tg iter wi)
 (he0:e= .ListComp elt (⟨tg,iter,ifs,0⟩::rest) scope pos)
 (hg: ∀X',jK X scope X'->PG X' tg g)(ht: ∀X',jK X scope X'->PTs X' ifs tt)
 (act:Env->Value->Sem Unit)(hturn: ∀it acc env,compTurn e 0 it acc env=Qq iter tg ifs it env (act env acc) (.compLoop e 0 it acc env))(he: ∀X',jK X scope X'-> ∀D,OX X' D (act X'.env (.ref D)) tm)
 (hs: ∀x,foldedSetIterable iter X.env x=pure x){pins:List (Addr×Obj)}{s:Shared}{σ:St}{H:Hp}{Q:VK}(I:Inv X pins σ H s)(h:OY js wi g tt tm σ H Q)
 (fin: ∀ (D C:Addr) (H':Hp) (s':Shared) (m:Str->Option Value),s'.heap.Ns C m->(∀h',Heap.SameBut C s'.heap h'->Inv X pins σ H' {s' with heap:=h'})->H' C=none->C≠X.env.locals->C ∉ X.fs->X.s₀.heap.objs.size<=C->(∀x c,X.env.cells.lookup x=some c->c≠C)->(∀p∈X.pn++pins,p.1≠C)->
  Q (.ref D) H'->compPost (model X.prog X.w) X.A X.xe use Qv (.ref D) C (.ok .next) s'):
 wpAny (model X.prog X.w) X.A (comprehension e scope X.env pos0 (newList []) false (eval iter X.env) use) Qv X.xe s:=by
 have hclos:=Yx (scope:=scope) (env:=X.env) (λp hp e=>I.ok.has p.1 (S.free p hp e));subst he0;refine wpAny_comprehension_free (use:=use) rfl hs hclos S.kind S.locs (thn (hi pins s σ H _ I h) λv s1 h1=>thn h1 λitv s2 h2=> ?_);obtain⟨it,fp,tn,J,H2,e,I2,T,st2,f2,W,⟨m0,w0⟩,turn⟩:=h2;subst e;refine T9 (VT (λh₁ hns₁ hkp₁ hcl₁ hap₁=> ?_));dsimp only at hns₁ hkp₁ hcl₁ hap₁ ⊢;generalize hD:s2.heap.objs.size=D;generalize hH3:s2.heap.push {cls:= .type "list",dict:=none,data:= .seq ([]:List Value).toArray}=h3 at hns₁ hkp₁ hcl₁ hap₁ ⊢;have sz3:h3.objs.size=D+1:=by rw [<-hH3,J2,hD]
 have up3: ∀b o,s2.heap.get? b=some o->h3.get? b=some o:=λb o e=>hH3 ▸ G1 _ e
 have I3:Inv X pins σ H2 {s2 with heap:=h3}:=I2.kept (t':=s2.toks) up3;have hD3:h3.get? D=some (LCg.lst []):=by rw [<-hH3,<-hD];exact D1 _ rfl
 have fD:Pd X pins H2 D:=I2.fpOk (by rw [hD];exact G5 _) (I2.hok.fresh (by rw [hD];exact G5 _));have obf: ∀b∈fp,∃o,s2.heap.get? b=some o/\ ∀v,o.data≠ .cell v:=T.obj _ _ st2;have ltf: ∀b∈fp,b<D:=λb hb=>by obtain⟨o,e,_⟩:=obf b hb;rw [<-hD];exact P6 e
 generalize hC:h3.objs.size=C at hns₁ hcl₁ hap₁ ⊢;have CD:C=D+1:=hC.symm.trans sz3;have upC: ∀b o,h3.get? b=some o->h₁.get? b=some o:=hkp₁;generalize hX:Yy X scope C {s2 with heap:=h3} H2 (fp++ [D])=X';have iX:jK X scope X':=⟨C,_,_,_,hX.symm⟩;have hf: ∀b∈fp++ [D],Pd X pins H2 b:=λb hb=>(D4.mp hb).elim (f2 b) λz=>by rw [G8.mp z];exact fD
 have cl: ∀x c,(jP X scope C).lookup x=some c->X.env.cells.lookup x=some c\/C<c:=λx c e=>by
  rcases yi S e with ⟨_,z⟩|⟨_,z⟩
  ·exact .inl z
  ·exact .inr (I0 (hcl₁ x c z).2)
 have olt: ∀x c,X.env.cells.lookup x=some c->c<C:=λx c e=>by obtain⟨v,q⟩:=I3.cell x c e;rw [<-hC];exact q.lt
 have ltb: ∀b∈fp++ [D],b<C:=λb hb=>(D4.mp hb).elim (λz=>by have:=ltf b z;rw [CD];exact V2 this) λz=>by rw [G8.mp z,CD];exact C8 _
 have okX:X'.Ok:=by
  subst hX;refine⟨I.ok.mod,S.kind,I.ok.glob,I.ok.blt,X0 hC,λx y c e1 e2=> ?_,λx hx=> ?_,λx c z e=> ?_,I.ok.hd,I.ok.frames,.inl rfl,λb hb=>⟨D9 (ltb b hb),λx c e=>(cl x c e).elim (λz=>(hf b hb).2.2.2.2.1 x c z) λz=>L7 (L8 (ltb b hb) z)⟩,
   I3.bs,D7 I.ok.bsz I3.sz,λb o e hb=> ?_,λb hb z=> ?_,I3.stack,I3.stkFree⟩
  ·rcases yi S e1 with ⟨_,z1⟩|⟨_,z1⟩<;>rcases yi S e2 with ⟨_,z2⟩|⟨_,z2⟩
   ·exact I.ok.inj x y c z1 z2
   ·exact absurd (L8 (olt x c z1) (I0 (hcl₁ y c z2).2)) (S1 _)
   ·exact absurd (L8 (olt y c z2) (I0 (hcl₁ x c z1).2)) (S1 _)
   ·exact name_of_addr hap₁ z1 z2
  ·have own:scope.names.lookup x=some .cell-> ∃c,(jP X scope C).lookup x=some c:=λz=>by
    obtain⟨c,hc⟩:=ZN (sc:=scope) (n:=C+1) z;exact⟨c,by unfold jP;rw [jW,JM,hc]⟩
   have shr:scope.names.lookup x=some .free-> ∃c,(jP X scope C).lookup x=some c:=λz=>by
    have fm:=wA z;obtain⟨c,hc⟩:=I.ok.has x (S.free _ fm rfl);exact⟨c,Zn S hc fm (by rw [z];decide)⟩
   rcases hx with hx|hx
   ·rcases ze (env:=X.env) hx with z|z
    ·exact own z
    ·exact shr z
   ·rcases ze (env:=X.env) hx with z|z<;>exact shr z
  ·have z':scope.names.lookup x=some .cell:=by
    have z2:(scope.names.lookup x==some NameKind.cell)=true:=z;simpa using z2
   rcases yi S e with ⟨n,_⟩|⟨_,m⟩
   ·exact absurd z' n
   ·show h3.objs.size<=c;rw [hC];exact T5 (I0 (hcl₁ x c m).2)
  ·rcases (hf b hb).2.2.2.1 with z|z
   ·exact I.ok.noex b o e z
   ·exact absurd (D2 (P6 e) (D7 I.ok.bsz z)) (S1 _)
  ·rcases G4.mp (I.stkSub b z) with q|q
   ·exact(hf b hb).2.1 q
   ·exact(hf b hb).2.2.1 q
 -- the block's first state
 have I4:Inv X' [(D,LCg.lst [])] (yj js σ) H2 {s2 with heap:=h₁}:=by
  subst hX;have hDC:D≠C:=by rw [CD];exact D9 (C8 _)
  refine⟨okX,rfl,I2.bare,Un.kept (λb u e=>upC b u e),⟨_,hns₁,λi x v e1 e2 e3=> ?_⟩,λx c e=> ?_,I3.hok.fresh (X0 hC),λx c e=>(cl x c e).elim (λz=>I2.freeC x c z) (λz=>I3.hok.fresh (by rw [<-hC] at z;exact T5 z)),λp hp=> ?_,I3.hok.kept upC,(Yc js σ).trans I2.len⟩
  ·have fr:scope.names.lookup x=some .free:=by
    rcases e3 with e3|e3|e3
    ·rcases ze (env:=X.env) e3 with z|z
     ·exact absurd e2 (wD js σ i v (S.js i x e1 (.inl z)))
     ·exact z
    ·rcases ze (env:=X.env) e3 with z|z
     ·exact absurd e2 (wD js σ i v (S.js i x e1 (.inr z)))
     ·exact z
    ·rcases ze (env:=X.env) e3 with z|z<;>exact z
   have fm:=wA fr;obtain⟨m,hm,hl⟩:=I2.loc;have vis:=S.free _ fm rfl;obtain⟨u,r,lk⟩:=hl i x v e1 (Wc js σ i v e2) (.inr vis);have kd:(relabel scope X.env).names.lookup x=some .cell\/(relabel scope X.env).names.lookup x=some .free:=by
    rcases e3 with e3|e3|e3
    ·rcases ze (env:=X.env) e3 with z|z
     ·rw [fr] at z;cases z
     ·exfalso;have z2:=e3
      -- a local's kind stays
      exact absurd e2 (wD js σ i v (S.js i x e1 (.inl (by
       have q: ∀ (l:List (Str×NameKind)),(l.map λ(n,k)=>if (k==NameKind.free&&X.env.scope.kind== .function&&X.env.kindOf n==some .cell) then (n,NameKind.cell) else (n,k)).lookup x=some .local->l.lookup x=some .local:=by
        intro l
        induction l with
        |nil=>intro h;simp at h
        |cons p l ih=>
         obtain⟨n,k'⟩:=p;intro h;have h':List.lookup x ((if (k'==NameKind.free&&X.env.scope.kind== .function&&X.env.kindOf n==some .cell)=true then (n,NameKind.cell) else (n,k'))::(l.map λ(n,k)=>if (k==NameKind.free&&X.env.scope.kind== .function&&X.env.kindOf n==some .cell) then (n,NameKind.cell) else (n,k)))=some .local:=h;rw [N9]
         by_cases hc:(k'==NameKind.free&&X.env.scope.kind== .function&&X.env.kindOf n==some .cell)=true
         ·rw [if_pos hc,N9] at h';cases hx:x==n with
          |true=>rw [hx] at h';cases h'
          |false=>rw [hx] at h';exact ih h'
         ·rw [if_neg hc,N9] at h';cases hx:x==n with
          |true=>rw [hx] at h';exact h'
          |false=>rw [hx] at h';exact ih h'
       exact q _ z2))))
    ·exact .inl e3
    ·exact .inr e3
   rcases lk with ⟨k,_⟩|⟨_,c,hc,hcell⟩
   ·have k':X.env.scope.names.lookup x=some .local:=k;rcases vis with z|z<;>(rw [k'] at z;cases z)
   ·refine⟨u,r,.inr ⟨kd,c,Zn S hc fm (by rw [fr];decide),?_⟩⟩;obtain⟨o,ho,hd⟩:=hcell;exact⟨o,upC _ _ (up3 _ _ ho),hd⟩
  ·rcases yi S e with ⟨_,z⟩|⟨_,z⟩
   ·obtain⟨v,o,ho,hd⟩:=I2.cell x c z;exact⟨v,o,upC _ _ (up3 _ _ ho),hd⟩
   ·exact⟨none,(hcl₁ x c z).1⟩
  ·have hp':p∈ [(D,LCg.lst [])]:=hp;rcases G8.mp hp' with rfl
   refine⟨upC _ _ hD3,fD.1,hDC,λz=> ?_,λv z=>by cases z⟩;rcases G4.mp (I.stkSub D z) with q|q
   ·exact fD.2.1 q
   ·exact fD.2.2.1 q
 have st4:tn 0 h₁:=T.keep _ _ _ st2 λb _ o e=>upC _ _ (up3 _ _ e)
 have eA:X'.A=X.A:=by rw [<-hX];rfl
 have eP:X'.prog=X.prog:=by rw [<-hX];rfl
 have eW:X'.w=X.w:=by rw [<-hX];rfl
 have eK:X'.K=X.K:=by rw [<-hX];rfl
 have eC:X'.calm=true:=by rw [<-hX];exact hc
 have eV:X'.env=compEnvC scope (jP X scope C) C X.env:=by rw [<-hX];rfl
 have eE:X'.xe=λ_ _=>False:=by rw [<-hX];rfl
 -- what stays true of the iterator's objects
 have stat: ∀ {us:List Value} {H':Hp},(∀b∈fp,H' b=none)-> ∀b∈fp,Pd X' [(D,LCg.lst us)] H' b:=λ{us H'} hn b hb=>by
  have q:=hf b (M1 _ hb);subst hX;refine⟨hn b hb,D9 (ltb b (M1 _ hb)),λz=> ?_,.inl (M1 _ hb),λx c e=>(cl x c e).elim (λz=>q.2.2.2.2.1 x c z) (λz=>L7 (L8 (ltb b (M1 _ hb)) z)),λp hp=> ?_⟩
  ·rcases G4.mp (I.stkSub b z) with r|r
   ·exact q.2.1 r
   ·exact q.2.2.1 r
  ·have hp':p∈ [(D,LCg.lst us)]:=hp;rcases G8.mp hp' with rfl
   exact L7 (ltf b hb)
 have loop: ∀s₃:Shared,s₃= {s2 with heap:=h₁}->
  codeAny (model X.prog X.w) X.A (.compLoop (.ListComp elt (⟨tg,iter,ifs,0⟩::rest) scope pos) 0 (.ref it) (.ref D) (compEnvC scope (jP X scope C) C X.env))
   (compPost (model X.prog X.w) X.A X.xe use Qv (.ref D) C) s₃:=by
  rintro s₃ rfl;refine RV (act:=act (compEnvC scope (jP X scope C) C X.env) (.ref D)) (λn s'=> ∃i ys us H',Vals ys us/\Inv X' [(D,LCg.lst us)] (yj js σ) H' s'/\tn i s'.heap/\(∀b∈fp,H' b=none)/\W i n ys H') (hturn _ _ _) ?_ m0
   ⟨0,[],[],H2,.nil,I4,st4,λb hb=>(f2 b hb).1,w0⟩
  rintro n s5 ⟨i,ys,us,H5,hv5,I5,st5,fr5,w5⟩;obtain⟨hz,tr⟩:=turn i n ys H5 w5;rcases tr with ⟨stop,qn⟩|⟨go,step⟩
  ·have q:=T.done X' eP eW eK eC i _ s5 _ H5 (λ_ _=>False) I5 (stat fr5) st5 stop;rw [eA] at q;refine S7 q (λr s6 ⟨hr,I6⟩=> ?_) λ_ _ z=>z
   subst hr;obtain⟨m6,hm6,_⟩:=I6.loc;rw [eV] at hm6;have zD:=I6.pin (D,LCg.lst us) (D0 _ P3);have HD:H5 D=none:=zD.2.1;have oD:s6.heap.get? D=some (LCg.lst us):=zD.1;have hDC:D≠C:=by rw [CD];exact D9 (C8 _)
   have HC:H5 C=none:=by have z:=I6.free;rw [eV] at z;exact z
   have B:=I6.base;have os6:s6.os=s2.os:=by have z:=I6.os;rw [<-hX] at z;exact z
   have Bu:Un (frs X.stack) (fp++ [D]) H2 H5 h3 s6.heap:=by rw [<-hX] at B;exact B
   have neC: ∀b o,h3.get? b=some o->b≠C:=λb o e=>by rw [<-hC];exact D9 (P6 e)
   refine fin D C (upd H5 D (.lst ys)) s6 m6 hm6 (λh' hs'=> ?_) (by rw [jx (Ne.symm hDC)];exact HC) ?_ ?_ ?_ (λx c e=>D9 (olt x c e)) ?_ (qn D HD)
   ·have hk5:HOk X.prog X.w H5 h':=λb u e=>by
     have z:=I6.hok b u e;rw [eP,eW] at z;refine z.stay (λc v hc q=>hs'.extBut c v ?_ q) (λ_ q=>q) λ_ _ q=>q
     rcases hc with rfl|hc
     ·exact ju e HC
     ·exact ju hc HC
    refine I3.call' (ch:=fp++ [D]) os6 ⟨λb o e n hb hx=> ?_,λb o e n hb hx=> ?_,λb o e n hx=> ?_,λb o e hx=> ?_,λb xs e=> ?_,λb o u e=> ?_,λb ps e=> ?_⟩ (hk5.track HD ?_) I6.bare λb hb=> ?_
    ·exact hs'.extBut b o (neC b o e) (Bu.keep b o e n hb hx)
    ·obtain⟨sl,q⟩:=Bu.slot b o e n hb hx;exact⟨sl,hs'.extBut b _ (neC b o e) q⟩
    ·rw [jx λz=>hx (by rw [z];exact D0 _ P3)];exact Bu.free b o e n hx
    ·obtain⟨o',q⟩:=Bu.there b o e hx;exact⟨o',hs'.extBut b _ (neC b o e) q⟩
    ·have z:=Bu.tups b xs e;rw [jx (ju z HD)];exact z
    ·have z:=Bu.frzs b o u e;rw [jx (ju z HD)];exact z
    ·obtain⟨more,z⟩:=Bu.tbls b ps e;exact⟨more,by rw [jx (ju z HD)];exact z⟩
    ·exact⟨hz,us,us.length,hv5,hs'.extBut D _ hDC oD⟩
    ·have q:=hf b hb;exact⟨q.2.2.2.1,q.2.1,q.2.2.2.2.1,q.2.2.2.2.2⟩
   ·rw [<-hC];exact L7 I3.lt
   ·exact I3.nofs (X0 hC)
   ·rw [<-hC];exact I3.sz
   ·intro p hp;have:=(I3.pin p hp).1;rw [<-hC];exact D9 (P6 this)
  ·have q:=T.item X' eP eW eK eC i _ s5 _ H5 (λ_ _=>False) I5 (stat fr5) st5 go;rw [eA] at q;refine S7 q (λr s6 ⟨u,hr,h6⟩=> ?_) λ_ _ z=>z
   subst hr;refine S7 h6 (λ_ s7 ⟨x,H7,I7,r7,y7,st7,fr7⟩=> ?_) λ_ _ z=>z
   have I7':=I7.pinned (stat fr7) (T.obj _ _ st7);have q7:=hg X' iX _ s7 _ H7 x u _ I7' r7 (step x H7 y7);rw [eP,eW,eA,eV,eE] at q7;refine S7 q7 (λ_ s8 ⟨σ8,H8,I8,ag8,q8⟩=> ?_) λ_ _ z=>z
   have q9:=ht X' iX _ s8 σ8 H8 _ I8 q8;rw [eP,eW,eA,eV,eE] at q9;refine S7 q9 (λok s9 ⟨H9,I9,q9⟩=> ?_) λ_ _ z=>z
   have keepT: ∀ {σ':St} {H':Hp} {s':Shared} {us:List Value},Inv X' ([(D,LCg.lst us)]++ZT fp s7.heap) σ' H' s'->tn (i+1) s'.heap/\ ∀b∈fp,H' b=none:=λ{σ' H' s' us} I'=>
    ⟨T.keep _ _ _ st7 λb hb o e=>(I'.pin (b,o) (D0 _ (D0 _ (vA hb e)))).1,λb hb=>by
     obtain⟨o,e,_⟩:=T.obj _ _ st7 b hb;exact(I'.pin (b,o) (D0 _ (D0 _ (vA hb e)))).2.1⟩
   cases ok with
   |false=>
    have q9: ∃m',m'<n/\W (i+1) m' ys H9:=q9;obtain⟨m',hm,w9⟩:=q9;obtain⟨t9,f9⟩:=keepT I9;exact⟨m',hm,i+1,ys,us,H9,hv5,(I9.unpinned).weak ag8.1.symm ag8.2,t9,f9,w9⟩
   |true=>
    have q9:tm σ8 H9 ys λys' H4=> ∃m',m'<n/\W (i+1) m' ys' H4:=q9
    have DX:D∈X'.ex:=by rw [<-hX];exact D0 _ P3
    have pD: ∀p∈X'.pn++ZT fp s7.heap,p.1≠D:=λp hp=>by
     have hp':p∈ZT fp s7.heap:=by rw [<-hX] at hp;simpa [Yy] using hp
     exact D9 (ltf _ (VH hp').1)
    have cD: ∀x c,X'.env.cells.lookup x=some c->c≠D:=λx c e=>by
     rw [eV] at e;exact(cl x c e).elim (λz=>fD.2.2.2.2.1 x c z) λz=>L7 (L8 (by rw [CD];exact C8 _) z)
    have q10:=he X' iX D _ s9 σ8 H9 ys us _ I9 hv5 hz DX cD pD q9;rw [eP,eW,eA,eV] at q10;show wpAny _ _ (act _ _) _ _ s9;refine S7 q10 (λ_ s10 ⟨ys',us',H10,hv10,I10,m',hm,w10⟩=> ?_) λ_ _ z=>z
    obtain⟨t10,f10⟩:=keepT I10;exact⟨m',hm,i+1,ys',us',H10,hv10,(I10.unpinned).weak ag8.1.symm ag8.2,t10,f10,w10⟩
 exact codeAny_compStart_list (loop _ rfl) (T.self X.A 0 _ _ _ st4 (loop _ rfl))
theorem FG {te:TE}(hc:X.calm=true)(S:BlockOk X scope js)(hi:PI X tg iter wi)
 (hg: ∀X',jK X scope X'->PG X' tg g)(ht: ∀X',jK X scope X'->PTs X' ifs tt)(he: ∀X',jK X scope X'->PE X' elt te)
 (hs: ∀x,foldedSetIterable iter X.env x=pure x:=by intro _;rfl):PE X (.ListComp elt [⟨tg,iter,ifs,0⟩] scope pos) (tLC js wi g tt te):=by
 intro pins s σ H Q I h;rw [eval_ListComp];exact No (use:=none) hc S hi rfl hg ht (Qr elt) (λ_ _ _=>rfl) (λX' hX D=>Qs (by obtain⟨_,_,_,_,rfl⟩:=hX;rfl) (he X' hX)) hs I h
  λD C H' s' m hn hk _ _ _ _ _ _ q=>⟨m,hn,λh' hs'=>⟨.ref D,H',hk h' hs',rfl,q⟩⟩
theorem Bs {e:Expr}{rest:List Comprehension}{pos' spos:Pos}{g':TG}{tm:TM}(hc:X.calm=true)(S:BlockOk X scope js)(hi:PI X tg iter wi)
 (he0:e= .ListComp elt (⟨tg,iter,ifs,0⟩::rest) scope pos)(hg: ∀X',jK X scope X'->PG X' tg g)(ht: ∀X',jK X scope X'->PTs X' ifs tt)
 (act:Env->Value->Sem Unit)(hturn: ∀it acc env,compTurn e 0 it acc env=Qq iter tg ifs it env (act env acc) (.compLoop e 0 it acc env))(he: ∀X',jK X scope X'-> ∀D,OX X' D (act X'.env (.ref D)) tm)
 (hg':PG X (.Name x pos') g')(hsw:swapsWith e (some (.Name x pos')) spos.line X.env=pure true)
 (hs: ∀x,foldedSetIterable iter X.env x=pure x):PS X (.Assign [.Name x pos'] e spos) (NY (OY js wi g tt tm) g'):=by
 intro pins s σ H Dn I h;rw [exec_Assign_Name_used _ _ _ _ hsw];refine wpAny_bind (V7 (wpAny_bind ?_));subst he0;rw [arm_evalThenUse_ListComp];show wpAny _ X.A (do let _ <-comprehension (.ListComp elt (⟨tg,iter,ifs,0⟩::rest) scope pos) scope X.env _ (newList []) false (eval iter X.env) (some (assign (.Name x pos') X.env))) _ _ s;refine wpAny_bind (S7 (No (use:=some (assign (.Name x pos') X.env)) (Qv:=λ_ s'=>SP X pins Dn .next s') hc S hi rfl hg ht act hturn he hs I h ?_) (λ_ s' hq=>G2 (G2 hq)) λ_ _ e=>e);intro D C H' s' m hn hk HC nL nf sz ncell npin q;show wpAny _ X.A (assign (.Name x pos') X.env (.ref D)) _ _ s';obtain⟨o,es,ep,ho,hd,hr⟩:=id hn;have I1:Inv X pins σ H' s':=hk s'.heap (Heap.SameBut.refl ..);have I2:Inv X (pins++ [(C,o)]) σ H' s':=I1.pins_of λp hp=>by
  rcases D4.mp hp with z|z
  ·exact I1.pin p (D0 _ z)
  ·rcases G8.mp z with rfl
   exact⟨ho,HC,nL,nf,λv z=>by rw [hd] at z;cases z⟩
 refine S7 (hg' _ s' σ H' (.ref D) (.ref D) _ I2 rfl q) (λ_ s3 ⟨σ3,H3,I3,q3⟩=> ?_) λ_ _ z=>z
 have pC:=I3.pin (C,o) (D0 _ (D0 _ P3));refine⟨m,hn.at' λo' e'=> ?_,λh' hs'=> ?_⟩
 ·rw [ho] at e';cases e';exact pC.1
 ·exact⟨σ3,H3,(I3.unpinned).turned (t':=s3.toks) (it:=C) (λb o hb e=>hs'.extBut b o hb e) pC.2.1 nL (.inr sz) ncell npin,q3⟩
theorem RX {pos' spos:Pos}{g':TG}{te:TE}(hc:X.calm=true)(S:BlockOk X scope js)(hi:PI X tg iter wi)
 (hg: ∀X',jK X scope X'->PG X' tg g)(ht: ∀X',jK X scope X'->PTs X' ifs tt)(he: ∀X',jK X scope X'->PE X' elt te)
 (hg':PG X (.Name x pos') g')(hsw:swapsWith (.ListComp elt [⟨tg,iter,ifs,0⟩] scope pos) (some (.Name x pos')) spos.line X.env=pure true)
 (hs: ∀x,foldedSetIterable iter X.env x=pure x:=by intro _;rfl):PS X (.Assign [.Name x pos'] (.ListComp elt [⟨tg,iter,ifs,0⟩] scope pos) spos) (NY (tLC js wi g tt te) g'):=
 Bs hc S hi rfl hg ht (Qr elt) (λ_ _ _=>rfl) (λX' hX D=>Qs (by obtain⟨_,_,_,_,rfl⟩:=hX;rfl) (he X' hX)) hg' hsw hs
inductive D where
 |non|bl (b:Bool)|int (i:Int)|str (x:Str)|tup (ds:List D)|lst (a:Addr)|dic (x:Str) (i:Int)|dct (a:Addr)|scr (ns:List Int)|exc (C:Addr)|fn (a:Addr)
def Scr (K:PySem.W.Frag)(H:Hp)(a:Addr)(ns:List Int):Prop:=
 (∃o,H a=some (.frz o (.lst (ns.map V.int))))\/
  ∃ (o:Obj) (its:Array Value) (n:Nat),K.lookup a=some o/\o.cls= .type "list" /\o.dict=none/\o.data= .seq its n/\its.size<=sizeLine/\Vals (ns.map V.int) its.toList
theorem Scr.sq {K:PySem.W.Frag}{H:Hp}{a:Addr}{ns:List Int}(h:Scr K H a ns):SqL K H a (ns.map V.int):=h.elim (λz=> .inl (.inr z)) .inr
mutual
def RelD (K:PySem.W.Frag)(H:Hp):D->V->Prop
 | .non,v=>v= .non
 | .bl b,v=>v= .bl b
 | .int i,v=>v= .int i
 | .str x,v=>v= .str x
 | .tup ds,v=> ∃a vs,v= .ref a/\H a=some (.tup vs)/\RelDs K H ds vs
 | .lst a,v=>v= .ref a/\ ∃vs,H a=some (.lst vs)
 | .dic x i,v=> ∃a,v= .ref a/\H a=some (.dK [(Sum.inr x,V.int i)])
 | .dct a,v=>v= .ref a
 | .scr ns,v=> ∃a,v= .ref a/\Scr K H a ns
 | .exc C,v=> ∃x o vs,v= .ref x/\H x=some (.frz o (.own 0))/\o.cls= .ref C/\o.data= .fields vs
 | .fn a,v=>v= .ref a/\PySem.W.keepIn K (.ref a)=true
def RelDs (K:PySem.W.Frag)(H:Hp):List D->List V->Prop
 | [],vs=>vs= []
 |d::ds,vs=> ∃v r,vs=v::r/\RelD K H d v/\RelDs K H ds r
end
structure Kept (H H':Hp):Prop where
 tup: ∀a xs,H a=some (.tup xs)->H' a=some (.tup xs)
 lst: ∀a xs,H a=some (.lst xs)-> ∃ys,H' a=some (.lst ys)
 dic: ∀a x i,H a=some (.dK [(Sum.inr x,V.int i)])->H' a=some (.dK [(Sum.inr x,V.int i)])
 frz: ∀a o u,H a=some (.frz o u)->H' a=some (.frz o u)
theorem Kept.refl (H:Hp):Kept H H:=⟨λ_ _ h=>h,λ_ xs h=>⟨xs,h⟩,λ_ _ _ h=>h,λ_ _ _ h=>h⟩
theorem Kept.trans {A B C:Hp}(x:Kept A B)(y:Kept B C):Kept A C:=
 ⟨λa xs h=>y.tup a xs (x.tup a xs h),λa xs h=>let ⟨_,e⟩:=x.lst a xs h;y.lst a _ e,λa k i h=>y.dic a k i (x.dic a k i h),λa o u h=>y.frz a o u (x.frz a o u h)⟩
theorem Kept.new {H:Hp}{p:Addr}{o:HO}(h:H p=none):Kept H (upd H p o):=
 ⟨λa xs e=>by rw [jx (ju e h)];exact e,λa xs e=>⟨xs,by rw [jx (ju e h)];exact e⟩,λa k i e=>by rw [jx (ju e h)];exact e,λa o u e=>by rw [jx (ju e h)];exact e⟩
theorem Kept.put {H:Hp}{p:Addr}{xs ys:List V}(h:H p=some (.lst xs)):Kept H (upd H p (.lst ys)):=
 ⟨λa zs e=>by rw [jx (Ge e h (by intro z;cases z))];exact e,λa zs e=>by
  by_cases q:a=p
  ·subst q;exact⟨ys,jy⟩
  ·exact⟨zs,by rw [jx q];exact e⟩,
  λa k i e=>by rw [jx (Ge e h (by intro z;cases z))];exact e,λa o u e=>by rw [jx (Ge e h (by intro z;cases z))];exact e⟩
def DObj (o:HO):Prop:=(∃kvs:List (Int×V),o= .dK (kvs.map λp=>((Sum.inl p.1:Key),p.2)))\/ ∃φ,o= .ext φ
theorem DObj.no {o:HO}(d:DObj o):(∀xs,o≠ .tup xs)/\(∀xs,o≠ .lst xs)/\(∀x i,o≠ .dK [(Sum.inr x,V.int i)])/\(∀p u,o≠ .frz p u)/\ ∀ps,o≠ .tbl ps:=by
 rcases d with ⟨kvs,rfl⟩|⟨φ,rfl⟩
 ·refine⟨λ_ z=>(nomatch z),λ_ z=>(nomatch z),λx i z=> ?_,λ_ _ z=>(nomatch z),λ_ z=>(nomatch z)⟩;injection z with z
  cases kvs with
  |nil=>cases z
  |cons p r=>injection z with z _;injection z with z _;cases z
 ·exact⟨λ_ z=>(nomatch z),λ_ z=>(nomatch z),λ_ _ z=>(nomatch z),λ_ _ z=>(nomatch z),λ_ z=>(nomatch z)⟩
mutual
theorem RelD.mono {K:PySem.W.Frag}{H H':Hp}(k:Kept H H'): ∀ {d:D} {v:V},RelD K H d v->RelD K H' d v
 | .non,_,h=>h
 | .bl _,_,h=>h
 | .int _,_,h=>h
 | .str _,_,h=>h
 | .tup ds,v,h=>by
  obtain⟨a,vs,e,h1,h2⟩:=(show ∃a vs,v= .ref a/\H a=some (.tup vs)/\RelDs K H ds vs from h);exact⟨a,vs,e,k.tup _ _ h1,RelDs.mono k h2⟩
 | .lst a,v,h=>by
  obtain⟨e,vs,h1⟩:=(show v= .ref a/\ ∃vs,H a=some (.lst vs) from h);exact⟨e,k.lst _ _ h1⟩
 | .dic x i,v,h=>by
  obtain⟨a,e,h1⟩:=(show ∃a,v= .ref a/\H a=some (.dK [(Sum.inr x,V.int i)]) from h);exact⟨a,e,k.dic _ _ _ h1⟩
 | .dct a,v,h=>h
 | .scr ns,v,h=>by
  obtain⟨a,e,h1⟩:=(show ∃a,v= .ref a/\Scr K H a ns from h);exact⟨a,e,h1.elim (λ⟨o,z⟩=> .inl ⟨o,k.frz _ _ _ z⟩) .inr⟩
 | .exc C,v,h=>by
  obtain⟨x,o,vs,e,h1,r⟩:=(show ∃x o vs,v= .ref x/\H x=some (.frz o (.own 0))/\o.cls= .ref C/\o.data= .fields vs from h);exact⟨x,o,vs,e,k.frz _ _ _ h1,r⟩
 | .fn a,v,h=>h
theorem RelDs.mono {K:PySem.W.Frag}{H H':Hp}(k:Kept H H'): ∀ {ds:List D} {vs:List V},RelDs K H ds vs->RelDs K H' ds vs
 | [],_,h=>h
 |d::ds,vs,h=>by
  obtain⟨v,r,e,h1,h2⟩:=(show ∃v r,vs=v::r/\RelD K H d v/\RelDs K H ds r from h);exact⟨v,r,e,RelD.mono k h1,RelDs.mono k h2⟩
end
section
variable {K:PySem.W.Frag}{H:Hp}
theorem RelDs.nil:RelDs K H [] []:=rfl
theorem RelDs.cons {d:D}{v:V}{ds:List D}{vs:List V}(h:RelD K H d v)(t:RelDs K H ds vs):RelDs K H (d::ds) (v::vs):=⟨v,vs,rfl,h,t⟩
theorem RelDs.length: ∀ {ds:List D} {vs:List V},RelDs K H ds vs->ds.length=vs.length
 | [],_,h=>by cases (show _= [] from h);rfl
 |d::ds,vs,h=>by
  obtain⟨v,r,e,_,h2⟩:=(show ∃v r,vs=v::r/\RelD K H d v/\RelDs K H ds r from h);subst e;simp [RelDs.length h2]
theorem RelDs.append: ∀ {ds es:List D} {vs us:List V},RelDs K H ds vs->RelDs K H es us->RelDs K H (ds++es) (vs++us)
 | [],_,_,_,h,g=>by cases (show _= [] from h);exact g
 |d::ds,es,vs,us,h,g=>by
  obtain⟨v,r,e,h1,h2⟩:=(show ∃v r,vs=v::r/\RelD K H d v/\RelDs K H ds r from h);subst e;exact .cons h1 (RelDs.append h2 g)
theorem RelDs.get: ∀ {ds:List D} {vs:List V} {i:Nat} {d:D},RelDs K H ds vs->ds[i]? =some d-> ∃v,vs[i]? =some v/\RelD K H d v
 |d'::ds,vs,i,d,h,e=>by
  obtain⟨v,r,q,h1,h2⟩:=(show ∃v r,vs=v::r/\RelD K H d' v/\RelDs K H ds r from h);subst q;cases i with
  |zero=>simp at e;subst e;exact⟨v,rfl,h1⟩
  |succ i=>
   obtain⟨u,q1,q2⟩:=RelDs.get h2 (i:=i) (d:=d) (by simpa using e);exact⟨u,by simpa using q1,q2⟩
theorem RelDs.take (n:Nat): ∀ {ds:List D} {vs:List V},RelDs K H ds vs->RelDs K H (ds.take n) (vs.take n):=by
 induction n with
 |zero=>intro ds vs _;exact(rfl:RelDs K H [] [])
 |succ n ih=>
  intro ds vs h;cases ds with
  |nil=>cases (show vs= [] from h);exact .nil
  |cons d ds=>
   obtain⟨v,r,e,h1,h2⟩:=(show ∃v r,vs=v::r/\RelD K H d v/\RelDs K H ds r from h);subst e;exact .cons h1 (ih h2)
theorem RelDs.drop (n:Nat): ∀ {ds:List D} {vs:List V},RelDs K H ds vs->RelDs K H (ds.drop n) (vs.drop n):=by
 induction n with
 |zero=>intro ds vs h;exact h
 |succ n ih=>
  intro ds vs h;cases ds with
  |nil=>cases (show vs= [] from h);exact .nil
  |cons d ds=>
   obtain⟨v,r,e,h1,h2⟩:=(show ∃v r,vs=v::r/\RelD K H d v/\RelDs K H ds r from h);subst e;exact ih h2
theorem RelDs.set {d:D}{v:V}(q:RelD K H d v): ∀ {ds:List D} {vs:List V} (i:Nat),RelDs K H ds vs->RelDs K H (ds.set i d) (vs.set i v)
 | [],_,_,h=>by cases (show _= [] from h);exact .nil
 |e::ds,vs,i,h=>by
  obtain⟨u,r,z,h1,h2⟩:=(show ∃u r,vs=u::r/\RelD K H e u/\RelDs K H ds r from h);subst z;cases i with
  |zero=>exact .cons q h2
  |succ i=>exact .cons h1 (RelDs.set q i h2)
theorem JN: ∀ns:List Int,RelDs K H (ns.map D.int) (ns.map V.int)
 | []=> .nil
 |n::ns=> .cons rfl (JN ns)
end
inductive DC where
 |ik (kv:List (Int×D))
 |tk (kv:List (List (List Int)×D))
structure HD where
 ls:Addr->Option (List D)
 dc:Addr->Option DC
instance:CoeFun HD λ_=>Addr->Option (List D):=⟨HD.ls⟩
def zY (h:HD)(a:Addr)(ds:List D):HD:=⟨λb=>if b=a then some ds else h b,h.dc⟩
def zd (h:HD)(a:Addr):HD:=⟨λb=>if b=a then none else h b,h.dc⟩
theorem jb {h:HD}{a:Addr}{ds:List D}:zY h a ds a=some ds:=if_pos rfl
theorem wE {h:HD}{a b:Addr}{ds:List D}(e:b≠a):zY h a ds b=h b:=if_neg e
theorem wF {h:HD}{a:Addr}{ds:List D}(e:h a=none):zd (zY h a ds) a=h:=by
 obtain⟨l,d⟩:=h;refine congrArg (HD.mk · d) ?_
 funext b
 show (if b=a then none else if b=a then some ds else l b)=l b
 by_cases q:b=a
 ·subst q;rw [if_pos rfl];exact e.symm
 ·rw [if_neg q,if_neg q]
def LN:List Str:= ["law","_law_right","_law_words","_law_other_words","_law_many_right","_law_all","_law_told_row","_law_all_right","_law_desk_right","_law_signs_right","_law_lists_right","_law_text_right"]
def TabK (K:PySem.W.Frag)(P:Addr):Prop:= ∃x∈LN,∃c,PySem.W.tabIn K x=some (c,P)
def CodesOk (H:Hp)(ps:Array Value):Prop:=TriplesOk ps.toList/\ ∀pos cv,codeAmong pos ps.toList=some cv-> ∃ (c:Addr) (o:Obj) (vs:Array Value) (q:Str) (t:Tok),cv= .ref c/\H c=some (.frz o (.own 0))/\o.data= .fields vs/\vs[1]? =some (.str q t)
def CTabs (K:PySem.W.Frag)(H:Hp):Prop:= ∀P,TabK K P-> ∃ps,H P=some (.tbl ps)/\CodesOk H ps
theorem CodesOk.mono {H H':Hp}{ps:Array Value}(k: ∀a o u,H a=some (.frz o u)->H' a=some (.frz o u))(c:CodesOk H ps):CodesOk H' ps:=
 ⟨c.1,λpos cv e=>let ⟨c',o,vs,q,t,e1,e2,r⟩:=c.2 pos cv e;⟨c',o,vs,q,t,e1,k _ _ _ e2,r⟩⟩
theorem CTabs.mono {K:PySem.W.Frag}{H H':Hp}(x:CTabs K H)(k: ∀a o u,H a=some (.frz o u)->H' a=some (.frz o u))(kt: ∀a ps,H a=some (.tbl ps)->H' a=some (.tbl ps)):CTabs K H':=λP hP=>
 let ⟨ps,e,c⟩:=x P hP;⟨ps,kt _ _ e,c.mono k⟩
theorem CTabs.new {K:PySem.W.Frag}{H:Hp}{p:Addr}{o:HO}(x:CTabs K H)(e:H p=none):CTabs K (upd H p o):=
 x.mono (λa o' u h=>by rw [jx (ju h e)];exact h) λa ps h=>by rw [jx (ju h e)];exact h
theorem CTabs.put {K:PySem.W.Frag}{H:Hp}{p:Addr}{o:HO}{xs:List V}(x:CTabs K H)(e:H p=some (.lst xs)):CTabs K (upd H p o):=
 x.mono (λa o' u h=>by rw [jx (Ge h e (by intro z;cases z))];exact h) λa ps h=>by rw [jx (Ge h e (by intro z;cases z))];exact h
def Bt (T:List (List Int)):Int:=reduceHash (Builtin.Tuple.tupleHashOf (T.map λr=>reduceHash (Builtin.Tuple.tupleHashOf (r.map hashInt))))
def EJ (a:Addr)(xs:List (List (List Int)×Addr×V)):HO:= .ext λh=>(a==sysModules)=false/\xs.length<=sizeLine/\ ∃ys:List (List (List Int)×Addr×Value),Paired (λp q=>p.1=q.1/\p.2.1=q.2.1/\RelV p.2.2 q.2.2) xs ys/\
 ∃o es ep,h.get? a=some o/\o.ExactDict/\o.data= .dict es ep/\es.toList=ys.map λx=>⟨Bt x.1,.ref x.2.1,x.2.2⟩
def DRel (K:PySem.W.Frag)(H:Hp)(a:Addr):DC->Prop
 | .ik kv=> ∃kvs:List (Int×V),H a=some (.dK (kvs.map λp=>((Sum.inl p.1:Key),p.2)))/\kv.map (·.1)=kvs.map (·.1)/\RelDs K H (kv.map (·.2)) (kvs.map (·.2))
 | .tk kv=> ∃xs:List (List (List Int)×Addr×V),H a=some (EJ a xs)/\(kv.map (·.1)).Nodup/\kv.map (·.1)=xs.map (·.1)/\(∀x∈xs,RelD K H (.tup (x.1.map λr=> .tup (r.map D.int))) (.ref x.2.1))/\RelDs K H (kv.map (·.2)) (xs.map (·.2.2))
theorem DRel.obj {K:PySem.W.Frag}{H:Hp}{a:Addr}: ∀ {c:DC},DRel K H a c-> ∃o,H a=some o/\DObj o
 | .ik _,⟨kvs,e,_⟩=>⟨_,e,.inl ⟨kvs,rfl⟩⟩
 | .tk _,⟨xs,e,_⟩=>⟨_,e,.inr ⟨_,rfl⟩⟩
theorem DRel.mono {K:PySem.W.Frag}{H H':Hp}{a:Addr}(k:Kept H H')(z: ∀o,H a=some o->H' a=some o): ∀ {c:DC},DRel K H a c->DRel K H' a c
 | .ik _,⟨kvs,e,q,r⟩=>⟨kvs,z _ e,q,r.mono k⟩
 | .tk _,⟨xs,e,n,q,t,r⟩=>⟨xs,z _ e,n,q,λx hx=>(t x hx).mono k,r.mono k⟩
structure RelH (K:PySem.W.Frag)(h:HD)(H:Hp):Prop where
 ls: ∀a ds,h a=some ds-> ∃vs,H a=some (.lst vs)/\RelDs K H ds vs
 tb:CTabs K H
 dc: ∀a c,h.dc a=some c->DRel K H a c
instance {K:PySem.W.Frag}{h:HD}{H:Hp}:CoeFun (RelH K h H) λ_=> ∀a ds,h a=some ds-> ∃vs,H a=some (.lst vs)/\RelDs K H ds vs:=⟨RelH.ls⟩
structure Sub (h h':HD):Prop where
 ls: ∀a ds,h a=some ds->h' a=some ds
 dc: ∀a c,h.dc a=some c->h'.dc a=some c
instance {h h':HD}:CoeFun (Sub h h') λ_=> ∀a ds,h a=some ds->h' a=some ds:=⟨Sub.ls⟩
theorem Sub.refl (h:HD):Sub h h:=⟨λ_ _ e=>e,λ_ _ e=>e⟩
theorem Sub.trans {a b c:HD}(x:Sub a b)(y:Sub b c):Sub a c:=⟨λd ds e=>y d ds (x d ds e),λd ds e=>y.dc d ds (x.dc d ds e)⟩
theorem Sub.drop (h:HD)(a:Addr):Sub (zd h a) h:=⟨λb ds e=>by
 have e:(if b=a then none else h b)=some ds:=e;split at e
 ·cases e
 ·exact e,λ_ _ e=>e⟩
theorem Sub.new {h:HD}{p:Addr}{ds:List D}(e:h p=none):Sub h (zY h p ds):=⟨λa es q=>(by
 rw [wE];exact q;intro z;subst z;rw [e] at q;cases q),λ_ _ e=>e⟩
section
variable {K:PySem.W.Frag}{h h':HD}{H:Hp}
theorem RelH.sub (r:RelH K h H)(s:Sub h' h):RelH K h' H:=⟨λa ds e=>r a ds (s a ds e),r.tb,λa c e=>r.dc a c (s.dc a c e)⟩
theorem RelH.free (r:RelH K h H){p:Addr}(e:H p=none):h p=none:=by
 cases q:h p with
 |none=>rfl
 |some ds=>obtain⟨vs,z,_⟩:=r p ds q;rw [e] at z;cases z
theorem RelH.freeC (r:RelH K h H){p:Addr}(e:H p=none):h.dc p=none:=by
 cases q:h.dc p with
 |none=>rfl
 |some c=>obtain⟨o,z,_⟩:=(r.dc p c q).obj;rw [e] at z;cases z
theorem RelH.dcN (r:RelH K h H){p:Addr}{o:HO}(e:H p=none): ∀a c,h.dc a=some c->DRel K (upd H p o) a c:=λa c q=>
 (r.dc a c q).mono (.new e) λu z=>by rw [jx (ju z e)];exact z
theorem RelH.new (r:RelH K h H){p:Addr}{o:HO}(e:H p=none):RelH K h (upd H p o):=⟨λa ds q=>by
 obtain⟨vs,z,w⟩:=r a ds q;exact⟨vs,by rw [jx (ju z e)];exact z,w.mono (.new e)⟩,r.tb.new e,r.dcN e⟩
theorem RelH.newL (r:RelH K h H){p:Addr}{ds:List D}{vs:List V}(e:H p=none)(q:RelDs K H ds vs):RelH K (zY h p ds) (upd H p (.lst vs)):=⟨λa es z=>by
 by_cases w:a=p
 ·subst w;rw [jb] at z;cases z;exact⟨vs,jy,q.mono (.new e)⟩
 ·rw [wE w] at z;obtain⟨us,z1,z2⟩:=r a es z;exact⟨us,by rw [jx w];exact z1,z2.mono (.new e)⟩,r.tb.new e,r.dcN e⟩
theorem RelH.put (r:RelH K h H){p:Addr}{ds:List D}{vs us:List V}(e:H p=some (.lst us))(q:RelDs K H ds vs):RelH K (zY h p ds) (upd H p (.lst vs)):=⟨λa es z=>by
 by_cases w:a=p
 ·subst w;rw [jb] at z;cases z;exact⟨vs,jy,q.mono (.put e)⟩
 ·rw [wE w] at z;obtain⟨us,z1,z2⟩:=r a es z;exact⟨us,by rw [jx w];exact z1,z2.mono (.put e)⟩,r.tb.put e,λa c z=>(r.dc a c z).mono (.put e) λo w=>by
   obtain⟨u,w',d⟩:=(r.dc a c z).obj;rw [jx (Ge w' e (d.no.2.1 _))];exact w⟩
end
abbrev SD:=List (Option D)
def RelS (K:PySem.W.Frag)(H:Hp)(σd:SD)(σ:St):Prop:=σd.length=σ.length/\ ∀ (i:Nat) (d:D),σd[i]? =some (some d)-> ∃v,σ[i]? =some (some v)/\RelD K H d v
theorem RelS.mono {K:PySem.W.Frag}{H H':Hp}{σd:SD}{σ:St}(r:RelS K H σd σ)(k:Kept H H'):RelS K H' σd σ:=⟨r.1,λi d e=>let ⟨v,a,b⟩:=r.2 i d e;⟨v,a,b.mono k⟩⟩
theorem RelS.set {K:PySem.W.Frag}{H:Hp}{σd:SD}{σ:St}{d:D}{v:V}(r:RelS K H σd σ)(q:RelD K H d v)(i:Nat):RelS K H (σd.set i (some d)) (σ.set i (some v)):=⟨by simp [r.1],λj e h=>by
 by_cases z:i=j
 ·subst z;rw [E9] at h ⊢
  by_cases hl:i<σd.length
  ·rw [if_pos rfl,if_pos hl] at h;rw [if_pos rfl,if_pos (by rw [<-r.1];exact hl)];cases h;exact⟨v,rfl,q⟩
  ·rw [if_pos rfl,if_neg hl] at h;cases h
 ·rw [N6 z] at h ⊢;exact r.2 j e h⟩
theorem RelS.clear1 {K:PySem.W.Frag}{H:Hp}{σd:SD}{σ:St}(r:RelS K H σd σ)(i:Nat):RelS K H (σd.set i none) (σ.set i none):=⟨by simp [r.1],λj e h=>by
 by_cases z:i=j
 ·subst z;rw [E9] at h;split at h
  ·split at h<;>cases h
  ·contradiction
 ·rw [N6 z] at h ⊢;exact r.2 j e h⟩
def wN:List Nat->SD->SD
 | [],σ=>σ
 |j::js,σ=>wN js (σ.set j none)
theorem RelS.clear {K:PySem.W.Frag}{H:Hp}: ∀ (js:List Nat) {σd:SD} {σ:St},RelS K H σd σ->RelS K H (wN js σd) (yj js σ)
 | [],_,_,r=>r
 |j::js,_,_,r=>RelS.clear js (r.clear1 j)
abbrev KD:=D->HD->Prop
abbrev TED:=SD->HD->KD->Prop
abbrev TTD:=SD->HD->(Bool->HD->Prop)->Prop
abbrev TAD:=SD->HD->(List D->HD->Prop)->Prop
abbrev RD2:=D->D->HD->KD->Prop
abbrev RDn:=List D->HD->KD->Prop
structure EndsD where
 nx:SD->HD->Prop
 rt:KD
 bk:SD->HD->Prop:=λ_ _=>False
 ct:SD->HD->Prop:=λ_ _=>False
abbrev TSD:=EndsD->SD->HD->Prop
abbrev TGD:=D->SD->HD->(SD->HD->Prop)->Prop
def Bv (K:PySem.W.Frag)(H:Hp)(Qd:KD)(Q:VK):Prop:= ∀d v h' H',Kept H H'->RelH K h' H'->RelD K H' d v->Qd d h'->Q v H'
def LE (K:PySem.W.Frag)(t:TED):TE:=λσ H Q=> ∃σd h Qd,RelS K H σd σ/\RelH K h H/\t σd h Qd/\Bv K H Qd Q
def LT (K:PySem.W.Frag)(t:TTD):TT:=λσ H Q=> ∃σd h Qd,RelS K H σd σ/\RelH K h H/\t σd h Qd/\ ∀b h' H',Kept H H'->RelH K h' H'->Qd b h'->Q b H'
def LA (K:PySem.W.Frag)(t:TAD):TA:=λσ H Q=> ∃σd h Qd,RelS K H σd σ/\RelH K h H/\t σd h Qd/\ ∀ds vs h' H',Kept H H'->RelH K h' H'->RelDs K H' ds vs->Qd ds h'->Q vs H'
def LR (K:PySem.W.Frag)(f:RD2):R2:=λx y H Q=> ∃dx dy h Qd,RelD K H dx x/\RelD K H dy y/\RelH K h H/\f dx dy h Qd/\Bv K H Qd Q
def LC (K:PySem.W.Frag)(f:RDn):List V->Hp->VK->Prop:=λxs H Q=> ∃ds h Qd,RelDs K H ds xs/\RelH K h H/\f ds h Qd/\Bv K H Qd Q
def LG (K:PySem.W.Frag)(g:TGD):TG:=λv σ H Q=> ∃d σd h Qd,RelD K H d v/\RelS K H σd σ/\RelH K h H/\g d σd h Qd/\ ∀σd' h' σ' H',Kept H H'->RelS K H' σd' σ'->RelH K h' H'->Qd σd' h'->Q σ' H'
def LS (K:PySem.W.Frag)(t:TSD):TS:=λD₀ σ H=> ∃σd h Dd,RelS K H σd σ/\RelH K h H/\t Dd σd h/\
 (∀σd' h' σ' H',Kept H H'->RelS K H' σd' σ'->RelH K h' H'->Dd.nx σd' h'->D₀.nx σ' H')/\Bv K H Dd.rt D₀.rt/\
 (∀σd' h' σ' H',Kept H H'->RelS K H' σd' σ'->RelH K h' H'->Dd.bk σd' h'->D₀.bk σ' H')/\(∀σd' h' σ' H',Kept H H'->RelS K H' σd' σ'->RelH K h' H'->Dd.ct σd' h'->D₀.ct σ' H')
theorem PE.imp {X:Cx}{e:Expr}{t t':TE}(h:PE X e t)(i: ∀σ H Q,t' σ H Q->t σ H Q):PE X e t':=λpins s σ H Q I q=>h pins s σ H Q I (i σ H Q q)
theorem PT.imp {X:Cx}{e:Expr}{t t':TT}(h:PT X e t)(i: ∀σ H Q,t' σ H Q->t σ H Q):PT X e t':=λpins s σ H Q I q=>h pins s σ H Q I (i σ H Q q)
theorem PW.imp {X:Cx}{e:Expr}{t t':TT}(h:PW X e t)(i: ∀σ H Q,t' σ H Q->t σ H Q):PW X e t':=λwh pins s σ H Q I q=>h wh pins s σ H Q I (i σ H Q q)
theorem PA.imp {X:Cx}{e:List Expr}{t t':TA}(h:PA X e t)(i: ∀σ H Q,t' σ H Q->t σ H Q):PA X e t':=λpos pins s σ H Q I q=>h pos pins s σ H Q I (i σ H Q q)
theorem PS.imp {X:Cx}{e:Stmt}{t t':TS}(h:PS X e t)(i: ∀D σ H,t' D σ H->t D σ H):PS X e t':=λpins s σ H D I q=>h pins s σ H D I (i D σ H q)
theorem PSs.imp {X:Cx}{e:List Stmt}{t t':TS}(h:PSs X e t)(i: ∀D σ H,t' D σ H->t D σ H):PSs X e t':=λpins s σ H D I q=>h pins s σ H D I (i D σ H q)
theorem PG.imp {X:Cx}{e:Expr}{t t':TG}(h:PG X e t)(i: ∀v σ H Q,t' v σ H Q->t v σ H Q):PG X e t':=λpins s σ H v u Q I r q=>h pins s σ H v u Q I r (i v σ H Q q)
theorem OpR.imp {X:Cx}{f:Value->Value->Sem Value}{r r':R2}(h:OpR X f r)(i: ∀x y H Q,r' x y H Q->r x y H Q):OpR X f r':=λpins s σ H x y v u Q I a b q=>h pins s σ H x y v u Q I a b (i x y H Q q)
theorem CallR.imp {X:Cx}{f:Value}{r r':List V->Hp->VK->Prop}(h:CallR X f r)(i: ∀xs H Q,r' xs H Q->r xs H Q):CallR X f r':=λpins s σ H xs us Q I a q=>h pins s σ H xs us Q I a (i xs H Q q)
def Gm (i:Nat):TED:=λσ h Q=> ∃d,σ[i]? =some (some d)/\Q d h
def dC (d:D):TED:=λ_ h Q=>Q d h
def dOp (f:RD2)(ta tb:TED):TED:=λσ h Q=>ta σ h λx h1=>tb σ h1 λy h2=>f x y h2 Q
def UY:TAD:=λ_ h Q=>Q [] h
def yV (ta:TED)(tr:TAD):TAD:=λσ h Q=>ta σ h λx h1=>tr σ h1 λxs h2=>Q (x::xs) h2
def Ov (t:TAD):TED:=λσ h Q=>t σ h λds h1=>ds.length<=sizeLine/\Q (.tup ds) h1
def CL (t:TAD):TED:=λσ h Q=>t σ h λds h1=>ds.length<=sizeLine/\ ∀p,h1 p=none->Q (.lst p) (zY h1 p ds)
def dCB (r:RDn)(t:TAD):TED:=λσ h Q=>t σ h λds h1=>r ds h1 Q
def Jq (t:TED):TTD:=λσ h Q=>t σ h λx h1=> ∃k,x= .bl k/\Q k h1
def Yd (r r':RD2)(ta tb tc:TED):TED:=λσ h Q=>ta σ h λx h1=>tb σ h1 λy h2=>r x y h2 λz h3=> ∃k,z= .bl k/\
 (if k=true then tc σ h3 λw h4=>r' y w h4 Q else Q (.bl false) h3)
def Bw (t u:TTD):TTD:=λσ h Q=>t σ h λc h1=>if c=true then u σ h1 Q else Q false h1
def Bx (t u:TTD):TTD:=λσ h Q=>t σ h λc h1=>if c=true then Q true h1 else u σ h1 Q
def VU (t:TTD):TTD:=λσ h Q=>t σ h λc h1=>Q (!c) h1
def Pu (ta tb:TED):TED:=λσ h Q=>ta σ h λx h1=> ∃c,x= .bl c/\if c=true then tb σ h1 Q else Q (.bl false) h1
def OZ (ta tb:TED):TED:=λσ h Q=>ta σ h λx h1=> ∃c,x= .bl c/\if c=true then Q (.bl true) h1 else tb σ h1 Q
def Pv (ta:TED):TED:=λσ h Q=>ta σ h λx h1=> ∃c,x= .bl c/\Q (.bl (!c)) h1
def dIf (t:TTD)(ta tb:TED):TED:=λσ h Q=>t σ h λc h1=>if c=true then ta σ h1 Q else tb σ h1 Q
section
variable {K:PySem.W.Frag}
theorem FH (i:Nat): ∀σ H Q,LE K (Gm i) σ H Q->Oz i σ H Q:=λσ H Q ⟨σd,h,Qd,rs,rh,⟨d,e,q⟩,p⟩=>let ⟨v,e1,e2⟩:=rs.2 i d e;⟨v,e1,p d v h H (.refl H) rh e2 q⟩
theorem FI {d:D}{v:V}(r: ∀H,RelD K H d v): ∀σ H Q,LE K (dC d) σ H Q->tC v σ H Q:=λσ H Q ⟨σd,h,Qd,rs,rh,q,p⟩=>p d v h H (.refl H) rh (r H) q
variable {H:Hp}
theorem jL {H1:Hp}{Qd:KD}{Q:VK}(p:Bv K H Qd Q)(k:Kept H H1):Bv K H1 Qd Q:=λd v h' H' k'=>p d v h' H' (k.trans k')
variable {ta:TED}
theorem LE.bind {σ:St}{σd:SD}{h:HD}{kd:KD}{k:VK}(rs:RelS K H σd σ)(rh:RelH K h H)(t:ta σd h kd)(f: ∀d v h' H',Kept H H'->RelS K H' σd σ->RelH K h' H'->RelD K H' d v->kd d h'->k v H'):LE K ta σ H k:=
 ⟨σd,h,kd,rs,rh,t,λd v h' H' kp r1 r2 q=>f d v h' H' kp (rs.mono kp) r1 r2 q⟩
theorem LT.bind {ta:TTD}{σ:St}{σd:SD}{h:HD}{kd:Bool->HD->Prop}{k:Bool->Hp->Prop}(rs:RelS K H σd σ)(rh:RelH K h H)(t:ta σd h kd)(f: ∀b h' H',Kept H H'->RelS K H' σd σ->RelH K h' H'->kd b h'->k b H'):LT K ta σ H k:=
 ⟨σd,h,kd,rs,rh,t,λb h' H' kp r1 q=>f b h' H' kp (rs.mono kp) r1 q⟩
theorem LA.bind {ta:TAD}{σ:St}{σd:SD}{h:HD}{kd:List D->HD->Prop}{k:List V->Hp->Prop}(rs:RelS K H σd σ)(rh:RelH K h H)(t:ta σd h kd)(f: ∀ds vs h' H',Kept H H'->RelS K H' σd σ->RelH K h' H'->RelDs K H' ds vs->kd ds h'->k vs H'):LA K ta σ H k:=
 ⟨σd,h,kd,rs,rh,t,λd v h' H' kp r1 r2 q=>f d v h' H' kp (rs.mono kp) r1 r2 q⟩
variable {tb:TED}
theorem By {f:RD2}: ∀σ H Q,LE K (dOp f ta tb) σ H Q->tOp (LR K f) (LE K ta) (LE K tb) σ H Q:=λσ H Q ⟨σd,h,Qd,rs,rh,t,p⟩=>
 LE.bind rs rh t λd v h1 H1 k1 rs1 rh1 r1 t1=>LE.bind rs1 rh1 t1 λd2 v2 h2 H2 k2 rs2 rh2 r2 t2=>⟨d,d2,h2,Qd,r1.mono k2,r2,rh2,t2,jL p (k1.trans k2)⟩
theorem FJ: ∀σ H Q,LA K UY σ H Q->Ed σ H Q:=λσ H Q ⟨σd,h,Qd,rs,rh,t,p⟩=>p [] [] h H (.refl H) rh rfl t
theorem Bz {tr:TAD}: ∀σ H Q,LA K (yV ta tr) σ H Q->Ft (LE K ta) (LA K tr) σ H Q:=λσ H Q ⟨σd,h,Qd,rs,rh,t,p⟩=>
 LE.bind rs rh t λd v h1 H1 k1 rs1 rh1 r1 t1=>LA.bind rs1 rh1 t1 λds vs h2 H2 k2 rs2 rh2 r2 t2=>p _ _ h2 H2 (k1.trans k2) rh2 (.cons (r1.mono k2) r2) t2
theorem FK {t:TAD}: ∀σ H Q,LE K (Ov t) σ H Q->Ee (LA K t) σ H Q:=λσ H Q ⟨σd,h,Qd,rs,rh,t,p⟩=>
 LA.bind rs rh t λds vs h1 H1 k1 rs1 rh1 r1 ⟨z,q⟩=>⟨by rw [<-r1.length];exact z,λa ha=>p (.tup ds) (.ref a) h1 _ (k1.trans (.new ha)) (rh1.new ha) ⟨a,vs,rfl,jy,r1.mono (.new ha)⟩ q⟩
theorem FL {t:TAD}: ∀σ H Q,LE K (CL t) σ H Q->Ef (LA K t) σ H Q:=λσ H Q ⟨σd,h,Qd,rs,rh,t,p⟩=>
 LA.bind rs rh t λds vs h1 H1 k1 rs1 rh1 r1 ⟨z,q⟩=>⟨by rw [<-r1.length];exact z,λa ha=>p (.lst a) (.ref a) _ _ (k1.trans (.new ha)) (rh1.newL ha r1) ⟨rfl,vs,jy⟩ (q a (rh1.free ha))⟩
theorem FM {r:RDn}{t:TAD}: ∀σ H Q,LE K (dCB r t) σ H Q->tCB (LC K r) (LA K t) σ H Q:=λσ H Q ⟨σd,h,Qd,rs,rh,t,p⟩=>
 LA.bind rs rh t λds vs h1 H1 k1 rs1 rh1 r1 q=>⟨ds,h1,Qd,r1,rh1,q,jL p k1⟩
theorem Pw {t:TED}: ∀σ H Q,LT K (Jq t) σ H Q->Bd (LE K t) σ H Q:=λσ H Q ⟨σd,h,Qd,rs,rh,t,p⟩=>
 LE.bind rs rh t λd v h1 H1 k1 rs1 rh1 r1 ⟨k,e,q⟩=>by subst e;exact⟨k,r1,p k h1 H1 k1 rh1 q⟩
theorem RY {t:TED}: ∀σ H Q,LT K (Jq t) σ H Q->tB (LE K t) σ H Q:=λσ H Q ⟨σd,h,Qd,rs,rh,t,p⟩=>
 LE.bind rs rh t λd v h1 H1 k1 rs1 rh1 r1 ⟨k,e,q⟩=>by subst e;exact⟨k,r1,p k h1 H1 k1 rh1 q⟩
theorem Ma {r r':RD2}{tc:TED}: ∀σ H Q,LE K (Yd r r' ta tb tc) σ H Q->Nl (LR K r) (LR K r') (LE K ta) (LE K tb) (LE K tc) σ H Q:=λσ H Q ⟨σd,h,Qd,rs,rh,t,p⟩=>
 LE.bind rs rh t λd v h1 H1 k1 rs1 rh1 r1 t1=>LE.bind rs1 rh1 t1 λd2 v2 h2 H2 k2 rs2 rh2 r2 t2=>⟨d,d2,h2,_,r1.mono k2,r2,rh2,t2,λd3 v3 h3 H3 k3 rh3 r3 ⟨k,e,q⟩=>by
  subst e;refine⟨k,r3,?_⟩;cases k with
  |true=>
   rw [if_pos rfl] at q ⊢;exact LE.bind (rs2.mono k3) rh3 q λd4 v4 h4 H4 k4 rs4 rh4 r4 t4=>⟨d2,d4,h4,Qd,(r2.mono k3).mono k4,r4,rh4,t4,jL p (k1.trans (k2.trans (k3.trans k4)))⟩
  |false=>
   rw [if_neg P1] at q ⊢;exact p (.bl false) _ h3 H3 (k1.trans (k2.trans k3)) rh3 rfl q⟩
variable {t:TTD}
theorem FN {u:TTD}: ∀σ H Q,LT K (Bw t u) σ H Q->AQ (LT K t) (LT K u) σ H Q:=λσ H Q ⟨σd,h,Qd,rs,rh,t,p⟩=>
 LT.bind rs rh t λb h1 H1 k1 rs1 rh1 q=>by
  cases b with
  |true=>rw [if_pos rfl] at q ⊢;exact⟨σd,h1,Qd,rs1,rh1,q,λb h' H' k=>p b h' H' (k1.trans k)⟩
  |false=>rw [if_neg P1] at q ⊢;exact p _ _ _ k1 rh1 q
theorem Aa {u:TTD}: ∀σ H Q,LT K (Bx t u) σ H Q->tOr (LT K t) (LT K u) σ H Q:=λσ H Q ⟨σd,h,Qd,rs,rh,t,p⟩=>
 LT.bind rs rh t λb h1 H1 k1 rs1 rh1 q=>by
  cases b with
  |true=>rw [if_pos rfl] at q ⊢;exact p _ _ _ k1 rh1 q
  |false=>rw [if_neg P1] at q ⊢;exact⟨σd,h1,Qd,rs1,rh1,q,λb h' H' k=>p b h' H' (k1.trans k)⟩
theorem FO: ∀σ H Q,LT K (VU t) σ H Q->AR (LT K t) σ H Q:=λσ H Q ⟨σd,h,Qd,rs,rh,t,p⟩=>
 LT.bind rs rh t λb h1 H1 k1 rs1 rh1 q=>p _ _ _ k1 rh1 q
theorem FP: ∀σ H Q,LE K (Pu ta tb) σ H Q->Fa (LE K ta) (LE K tb) σ H Q:=λσ H Q ⟨σd,h,Qd,rs,rh,t,p⟩=>
 LE.bind rs rh t λd v h1 H1 k1 rs1 rh1 r1 ⟨c,e,q⟩=>by
  subst e;refine⟨c,r1,?_⟩;cases c with
  |true=>rw [if_pos rfl] at q ⊢;exact⟨σd,h1,Qd,rs1,rh1,q,jL p k1⟩
  |false=>rw [if_neg P1] at q ⊢;exact p (.bl false) _ _ _ k1 rh1 rfl q
theorem Ab: ∀σ H Q,LE K (OZ ta tb) σ H Q->AS (LE K ta) (LE K tb) σ H Q:=λσ H Q ⟨σd,h,Qd,rs,rh,t,p⟩=>
 LE.bind rs rh t λd v h1 H1 k1 rs1 rh1 r1 ⟨c,e,q⟩=>by
  subst e;refine⟨c,r1,?_⟩;cases c with
  |true=>rw [if_pos rfl] at q ⊢;exact p (.bl true) _ _ _ k1 rh1 rfl q
  |false=>rw [if_neg P1] at q ⊢;exact⟨σd,h1,Qd,rs1,rh1,q,jL p k1⟩
theorem FQ: ∀σ H Q,LE K (Pv ta) σ H Q->Fb (LE K ta) σ H Q:=λσ H Q ⟨σd,h,Qd,rs,rh,t,p⟩=>
 LE.bind rs rh t λd v h1 H1 k1 rs1 rh1 r1 ⟨c,e,q⟩=>by subst e;exact⟨c,r1,p (.bl (!c)) _ _ _ k1 rh1 rfl q⟩
theorem Ac: ∀σ H Q,LE K (dIf t ta tb) σ H Q->tIf (LT K t) (LE K ta) (LE K tb) σ H Q:=λσ H Q ⟨σd,h,Qd,rs,rh,t,p⟩=>
 LT.bind rs rh t λb h1 H1 k1 rs1 rh1 q=>by
  cases b with
  |true=>rw [if_pos rfl] at q ⊢;exact⟨σd,h1,Qd,rs1,rh1,q,jL p k1⟩
  |false=>rw [if_neg P1] at q ⊢;exact⟨σd,h1,Qd,rs1,rh1,q,jL p k1⟩
end
abbrev QE (X:Cx)(e:Expr)(t:TED):Prop:=PE X e (LE X.K t)
abbrev QT (X:Cx)(e:Expr)(t:TTD):Prop:=PT X e (LT X.K t)
abbrev QW (X:Cx)(e:Expr)(t:TTD):Prop:=PW X e (LT X.K t)
abbrev QA (X:Cx)(es:List Expr)(t:TAD):Prop:=PA X es (LA X.K t)
abbrev QS (X:Cx)(s:Stmt)(t:TSD):Prop:=PS X s (LS X.K t)
abbrev QSs (X:Cx)(s:List Stmt)(t:TSD):Prop:=PSs X s (LS X.K t)
abbrev QG (X:Cx)(e:Expr)(t:TGD):Prop:=PG X e (LG X.K t)
abbrev OpQ (X:Cx)(f:Value->Value->Sem Value)(r:RD2):Prop:=OpR X f (LR X.K r)
abbrev vU (X:Cx)(f:Value)(r:RDn):Prop:=CallR X f (LC X.K r)
section
variable {X:Cx}{a b c e:Expr}{es rest:List Expr}{ta tb tc te:TED}{t u:TAD}{tt tu:TTD}{pos:Pos}{f r r':RD2}
theorem qv (i:Nat){x:Str}(hN:X.N[i]? =some x:=by rfl)(hv:Vis X.env.scope x:=by first|exact Or.inl rfl|exact Or.inr (Or.inl rfl)|exact Or.inr (Or.inr rfl))(hd:(x==("__debug__" :Str))=false:=by decide)
 (hcd:(x==("__classdict__" :Str))=false:=by decide):QE X (.Name x pos) (Gm i):=(Ni hN hv hd hcd).imp (FH i)
variable {j:Nat}
theorem El {i:Int}:QE X (.Constant (.int i) j pos) (dC (.int i)):=pe_int.imp (FI λ_=>rfl)
theorem qbl {i:Bool}:QE X (.Constant (.bool i) j pos) (dC (.bl i)):=pe_bl.imp (FI λ_=>rfl)
theorem EK:QE X (.Constant .none j pos) (dC .non):=pe_non.imp (FI λ_=>rfl)
theorem EL {x:Str}:QE X (.Constant (.str x) j pos) (dC (.str x)):=pe_str.imp (FI λ_=>rfl)
theorem Ad {x:Str}{i:Int}{tk:Tok}(hg:Gl X x)(hm:X.mg x=some (.int i tk))(hd:(x==("__debug__" :Str))=false:=by decide):QE X (.Name x pos) (dC (.int i)):=
 (NT (v:= .int i) hg hm ⟨tk,rfl⟩ hd).imp (FI λ_=>rfl)
theorem qop {op:Operator}(ho:OpQ X (binaryOp op) f)(ha:QE X a ta)(hb:QE X b tb):QE X (.BinOp a op b pos) (dOp f ta tb):=(OF ho ha hb).imp By
theorem EM {op:CmpOp}(ho:OpQ X (compareOp op) f)(ha:QE X a ta)(hb:QE X b tb)(hm:behindInMarks op b=false):QE X (.Compare a [op] [b] pos) (dOp f ta tb):=(Bc ho ha hb hm).imp By
theorem Ae {op:CmpOp}(ho:OpQ X (compareOp op) f)(ha:QE X a ta)(hb:QE X b tb)(hm:behindInMarks op b=false):QT X (.Compare a [op] [b] pos) (Jq (dOp f ta tb)):=
 (Be ho ha hb hm).imp λσ H Q h=>by
  obtain⟨σd,h,Qd,rs,rh,t,p⟩:=Pw (t:=dOp f ta tb) σ H Q h;exact By σ H _ ⟨σd,h,Qd,rs,rh,t,p⟩
theorem BA {op op':CmpOp}(ho:OpQ X (compareOp op) r)(ho':OpQ X (compareOp op') r')(ha:QE X a ta)(hb:QE X b tb)(hc:QE X c tc)(hm:lastMarks [op,op'] [b,c]=false:=by with_unfolding_all rfl):
 QT X (.Compare a [op,op'] [b,c] pos) (Jq (Yd r r' ta tb tc)):=(RM ho ho' ha hb hc hm).imp λσ H Q h=>by
 obtain⟨σd,h,Qd,rs,rh,t,p⟩:=Pw (t:=Yd r r' ta tb tc) σ H Q h;exact Ma σ H _ ⟨σd,h,Qd,rs,rh,t,p⟩
theorem Af (ha:QE X a ta)(he: ∀whole,isTrue a X.env whole=(do let v <-whole;standAt a.pos;holding [v] (truthy v)):=by intro _;rfl):QT X a (Jq ta):=(CV ha he).imp RY
theorem Ag (ha:QT X a tt):QW X (.BoolOp .And [a] pos) tt:=NV ha
theorem EN (ha:QT X a tt):QW X (.BoolOp .Or [a] pos) tt:=CW ha
theorem Ah (ha:QT X a tt)(hb:QW X (.BoolOp .And (b::rest) pos) tu):QW X (.BoolOp .And (a::b::rest) pos) (Bw tt tu):=(CY ha hb).imp FN
theorem EO (ha:QT X a tt)(hb:QW X (.BoolOp .Or (b::rest) pos) tu):QW X (.BoolOp .Or (a::b::rest) pos) (Bx tt tu):=(OA ha hb).imp Aa
theorem Ai (ha:QT X a tt):QT X (.UnaryOp .Not a pos) (VU tt):=(CZ ha).imp FO
theorem EQ {op:BoolOp}(ha:QE X a ta):QE X (.BoolOp op [a] pos) ta:=Fc ha
theorem ER (ha:QE X a ta)(hb:QE X (.BoolOp .And (b::rest) pos) tb):QE X (.BoolOp .And (a::b::rest) pos) (Pu ta tb):=(Fd ha hb).imp FP
theorem qor (ha:QE X a ta)(hb:QE X (.BoolOp .Or (b::rest) pos) tb):QE X (.BoolOp .Or (a::b::rest) pos) (OZ ta tb):=(OB ha hb).imp Ab
theorem ES (ha:QE X a ta):QE X (.UnaryOp .Not a pos) (Pv ta):=(Fe ha).imp FQ
theorem qif {c:Expr}(hc:QT X c tt)(ha:QE X a ta)(hb:QE X b tb):QE X (.IfExp c a b pos) (dIf tt ta tb):=(RI hc ha hb).imp Ac
theorem FR:QA X [] UY:=pa_nil.imp FJ
theorem BB (ha:QE X e te)(hr:QA X es t)(hs:starEach (e::es) X.env=(false,eval e X.env)::starEach es X.env:=by rfl):QA X (e::es) (yV te t):=(yT ha hr hs).imp Bz
theorem ET {k:Nat}(h:QA X es t):QE X (.Tuple es k pos) (Ov t):=(Fu h).imp FK
theorem EU (h:QA X es t):QE X (.List es pos) (CL t):=(Fv h).imp FL
end
def Yz:TSD:=λD σ h=>D.nx σ h
def Px (t u:TSD):TSD:=λD σ h=>t {D with nx:=u D} σ h
def BC (te:TED):TSD:=λD σ h=>te σ h λ_ h1=>D.nx σ h1
def Xj (te:TED):TSD:=λD σ h=>te σ h D.rt
def Mb (c:TTD)(t u:TSD):TSD:=λD σ h=>c σ h λb h1=>if b=true then t D σ h1 else u D σ h1
def BD (i:Nat)(te:TED):TSD:=λD σ h=>te σ h λd h1=>D.nx (σ.set i (some d)) h1
def Aj (te:TED)(g:TGD):TSD:=λD σ h=>te σ h λx h1=>g x σ h1 D.nx
def Ak (i j:Nat)(ta:TAD):TSD:=λD σ h=>ta σ h λds h1=> ∃v w,ds= [v,w]/\D.nx ((σ.set i (some v)).set j (some w)) h1
def gN (i:Nat):TGD:=λd σ h Q=>Q (σ.set i (some d)) h
def gT2 (i j:Nat):TGD:=λd σ h Q=> ∃x y,d= .tup [x,y]/\Q ((σ.set i (some x)).set j (some y)) h
section
variable {K:PySem.W.Frag}
theorem LS.of {t:TSD}{D₀:Ends}{σ:St}{H:Hp}{σd:SD}{h:HD}{Dd:EndsD}(rs:RelS K H σd σ)(rh:RelH K h H)(q:t Dd σd h)
 (nx: ∀σd' h' σ' H',Kept H H'->RelS K H' σd' σ'->RelH K h' H'->Dd.nx σd' h'->D₀.nx σ' H')(rt:Bv K H Dd.rt D₀.rt)
 (bk: ∀σd' h' σ' H',Kept H H'->RelS K H' σd' σ'->RelH K h' H'->Dd.bk σd' h'->D₀.bk σ' H')(ct: ∀σd' h' σ' H',Kept H H'->RelS K H' σd' σ'->RelH K h' H'->Dd.ct σd' h'->D₀.ct σ' H'):LS K t D₀ σ H:=⟨σd,h,Dd,rs,rh,q,nx,rt,bk,ct⟩
theorem BE: ∀D σ H,LS K Yz D σ H->Ff D σ H:=λD σ H ⟨σd,h,Dd,rs,rh,q,nx,_⟩=>nx σd h σ H (.refl H) rs rh q
theorem FS {t u:TSD}: ∀D σ H,LS K (Px t u) D σ H->AT (LS K t) (LS K u) D σ H:=λD σ H ⟨σd,h,Dd,rs,rh,q,nx,rt,bk,ct⟩=>
 LS.of rs rh q (λσd' h' σ' H' k rs' rh' q'=>⟨σd',h',Dd,rs',rh',q',λa b c d k'=>nx a b c d (k.trans k'),jL rt k,λa b c d k'=>bk a b c d (k.trans k'),λa b c d k'=>ct a b c d (k.trans k')⟩) rt bk ct
variable {te:TED}
theorem BF: ∀D σ H,LS K (BC te) D σ H->Fg (LE K te) D σ H:=λD σ H ⟨σd,h,Dd,rs,rh,q,nx,rt,bk,ct⟩=>
 LE.bind rs rh q λd v h1 H1 k1 rs1 rh1 r1 q1=>nx _ _ _ _ k1 rs1 rh1 q1
theorem FT: ∀D σ H,LS K (Xj te) D σ H->AU (LE K te) D σ H:=λD σ H ⟨σd,h,Dd,rs,rh,q,nx,rt,bk,ct⟩=>⟨σd,h,Dd.rt,rs,rh,q,rt⟩
theorem Al {c:TTD}{t u:TSD}: ∀D σ H,LS K (Mb c t u) D σ H->AV (LT K c) (LS K t) (LS K u) D σ H:=λD σ H ⟨σd,h,Dd,rs,rh,q,nx,rt,bk,ct⟩=>
 LT.bind rs rh q λb h1 H1 k rs1 rh1 q1=>by
  cases b with
  |true=>rw [if_pos rfl] at q1 ⊢;exact⟨σd,h1,Dd,rs1,rh1,q1,λa b c d k'=>nx a b c d (k.trans k'),jL rt k,λa b c d k'=>bk a b c d (k.trans k'),λa b c d k'=>ct a b c d (k.trans k')⟩
  |false=>rw [if_neg P1] at q1 ⊢;exact⟨σd,h1,Dd,rs1,rh1,q1,λa b c d k'=>nx a b c d (k.trans k'),jL rt k,λa b c d k'=>bk a b c d (k.trans k'),λa b c d k'=>ct a b c d (k.trans k')⟩
theorem Np {i:Nat}: ∀D σ H,LS K (BD i te) D σ H->NY (LE K te) (vR i) D σ H:=λD σ H ⟨σd,h,Dd,rs,rh,q,nx,rt,bk,ct⟩=>
 LE.bind rs rh q λd v h1 H1 k1 rs1 rh1 r1 q1=>nx _ _ _ _ k1 (rs1.set r1 i) rh1 q1
theorem FU {g:TGD}: ∀D σ H,LS K (Aj te g) D σ H->NY (LE K te) (LG K g) D σ H:=λD σ H ⟨σd,h,Dd,rs,rh,q,nx,rt,bk,ct⟩=>
 LE.bind rs rh q λd v h1 H1 k1 rs1 rh1 r1 q1=>⟨d,σd,h1,_,r1,rs1,rh1,q1,λa b c e k'=>nx a b c e (k1.trans k')⟩
theorem FV {i j:Nat}{ta:TAD}: ∀D σ H,LS K (Ak i j ta) D σ H->AX i j (LA K ta) D σ H:=λD σ H ⟨σd,h,Dd,rs,rh,q,nx,rt,bk,ct⟩=>
 LA.bind rs rh q λds vs h1 H1 k1 rs1 rh1 r1 ⟨x,y,e,q1⟩=>by
  subst e;obtain⟨v,r,e,r2,r3⟩:=(show ∃v r,vs=v::r/\RelD K H1 x v/\RelDs K H1 [y] r from r1);obtain⟨w,r',e',r4,r5⟩:=(show ∃v r',r=v::r'/\RelD K H1 y v/\RelDs K H1 [] r' from r3);cases (show r'= [] from r5);subst e' e;exact⟨v,w,rfl,nx _ _ _ _ k1 ((rs1.set r2 i).set r4 j) rh1 q1⟩
theorem BG (i:Nat): ∀v σ H Q,LG K (gN i) v σ H Q->vR i v σ H Q:=λv σ H Q ⟨d,σd,h,Qd,r,rs,rh,q,p⟩=>p _ _ _ _ (.refl H) (rs.set r i) rh q
theorem yk {H:Hp}{x y:D}{vs:List V}(r:RelDs K H [x,y] vs): ∃v w,vs= [v,w]/\RelD K H x v/\RelD K H y w:=by
 obtain⟨v,r1,e,r2,r3⟩:=(show ∃v r,vs=v::r/\RelD K H x v/\RelDs K H [y] r from r);obtain⟨w,z,e',r4,r5⟩:=(show ∃v z,r1=v::z/\RelD K H y v/\RelDs K H [] z from r3);cases (show z= [] from r5);subst e' e;exact⟨v,w,rfl,r2,r4⟩
theorem jJ {H:Hp}{x:D}{vs:List V}(r:RelDs K H [x] vs): ∃v,vs= [v]/\RelD K H x v:=by
 obtain⟨v,r1,e,r2,r3⟩:=(show ∃v r,vs=v::r/\RelD K H x v/\RelDs K H [] r from r);cases (show r1= [] from r3);exact⟨v,e,r2⟩
theorem FW (i j:Nat): ∀v σ H Q,LG K (gT2 i j) v σ H Q->Ot K 2 (VF (vR i) (VF (vR j) Os)) v σ H Q:=λv σ H Q ⟨d,σd,h,Qd,r,rs,rh,⟨x,y,e,q⟩,p⟩=>by
 subst e;obtain⟨a,vs,e,hH,r1⟩:=(show ∃a vs,v= .ref a/\H a=some (.tup vs)/\RelDs K H [x,y] vs from r);obtain⟨v1,v2,e1,r2,r3⟩:=yk r1;subst e e1;exact⟨a,[v1,v2],rfl,SqT.of hH,rfl,v1,[v2],rfl,v2,[],rfl,rfl,p _ _ _ _ (.refl H) ((rs.set r2 i).set r3 j) rh q⟩
end
section
variable {X:Cx}{st:Stmt}{sts:List Stmt}{t u:TSD}{e:Expr}{te:TED}{pos:Pos}
theorem FX:QSs X [] Yz:=pss_nil.imp BE
theorem BH (h1:QS X st t)(h2:QSs X sts u):QSs X (st::sts) (Px t u):=(RJ h1 h2).imp FS
theorem FY (h1:QS X st t):QSs X [st] t:=NW h1
theorem Am (he:QE X e te)(hs:swapsWith e none pos.line X.env=pure false:=by rfl):QS X (.Expr e pos) (BC te):=(NX he hs).imp BF
theorem EV (he:QE X e te):QS X (.Return (some e) pos) (Xj te):=(Fh he).imp FT
theorem EW {c:Expr}{a b:List Stmt}{tc:TTD}(hc:QT X c tc)(ha:QSs X a t)(hb:QSs X b u):QS X (.If c a b pos) (Mb tc t u):=(OC hc ha hb).imp Al
variable {i:Nat}{x:Str}
theorem EX {pos':Pos}(hN:X.N.Nodup)(hi:X.N[i]? =some x)(hx:Loc X.env.scope x)(he:QE X e te)(hs:swapsWith e (some (.Name x pos')) pos.line X.env=pure false:=by rfl)
 (hf:X.fn x=true\/X.env.scope.names.lookup x=some .local:=by first|exact .inl rfl|exact .inr rfl|assumption):QS X (.Assign [.Name x pos'] e pos) (BD i te):=(Fk hN hi hx he hs hf).imp Np
theorem BI (hN:X.N.Nodup)(hi:X.N[i]? =some x)(hx:Loc X.env.scope x)(hf:X.fn x=true\/X.env.scope.names.lookup x=some .local:=by first|exact .inl rfl|exact .inr rfl|assumption):QG X (.Name x pos) (gN i):=
 (yt hN hi hx hf).imp (BG i)
theorem FZ {j:Nat}{y:Str}{p1 p2:Pos}{k:Nat}(hc:X.calm=true)(hN:X.N.Nodup)(hi:X.N[i]? =some x)(hj:X.N[j]? =some y)(hx:Loc X.env.scope x)(hy:Loc X.env.scope y)
 (hf:X.fn x=true\/X.env.scope.names.lookup x=some .local:=by first|exact .inl rfl|exact .inr rfl|assumption)(hf2:X.fn y=true\/X.env.scope.names.lookup y=some .local:=by first|exact .inl rfl|exact .inr rfl|assumption):
 QG X (.Tuple [.Name x p1,.Name y p2] k pos) (gT2 i j):=(Pc hc (yu (yt hN hi hx hf) (yu (yt hN hj hy hf2) Xe))).imp (FW i j)
theorem EY {tg:Expr}{g:TGD}(he:QE X e te)(hg:QG X tg g)(hs:swapsWithSole [tg] e pos.line X.env=pure false:=by rfl)(hsw:swappedStores [tg] e X.env=pure none:=by rfl)
 (h1:(assignEach [tg] X.env).map (·.2)= [assign tg X.env]:=by rfl):QS X (.Assign [tg] e pos) (Aj te g):=(Fj he hg hs hsw h1).imp FU
theorem EZ {j:Nat}{y:Str}{a b:Expr}{ta:TAD}{px py pt:Pos}{kt k2 pt2}(hc:X.calm=true)(hN:X.N.Nodup)(hi:X.N[i]? =some x)(hj:X.N[j]? =some y)(hij:i≠j)
 (hx:X.env.scope.names.lookup x=some .local)(hy:X.env.scope.names.lookup y=some .local)(ha:QA X [a,b] ta)
 (hw:swappedStores [.Tuple [.Name x px,.Name y py] kt pt] (.Tuple [a,b] k2 pt2) X.env=pure (some [x,y]))
 (hs:swapsWithSole [.Tuple [.Name x px,.Name y py] kt pt] (.Tuple [a,b] k2 pt2) pos.line X.env=pure false:=by rfl):
 QS X (.Assign [.Tuple [.Name x px,.Name y py] kt pt] (.Tuple [a,b] k2 pt2) pos) (Ak i j ta):=(Fl hc hN hi hj hij hx hy ha hw hs).imp FV
end
abbrev ItD:=HD->Option (List D)
def BJ (K:PySem.W.Frag)(H:Hp)(j:ItD)(J:It):Prop:= ∀H' h',Kept H H'->RelH K h' H'-> ∀ds,j h'=some ds-> ∀i:Nat,
 (∀d,ds[i]? =some d->J.go i H'/\ ∀x H'',J.yld i H' x H''->Kept H' H''/\RelH K h' H''/\RelD K H'' d x)/\(ds.length<=i->J.stop i H')
abbrev TID:=SD->HD->(ItD->HD->Prop)->Prop
def LI (K:PySem.W.Frag)(t:TID):TI:=λσ H R=> ∃σd h Rd,RelS K H σd σ/\RelH K h H/\t σd h Rd/\ ∀j J h' H',Kept H H'->RelH K h' H'->BJ K H' j J->Rd j h'->R J H'
abbrev QI (X:Cx)(tg iter:Expr)(t:TID):Prop:=PI X tg iter (LI X.K t)
theorem PI.imp {X:Cx}{tg e:Expr}{t t':TI}(h:PI X tg e t)(i: ∀σ H R,t' σ H R->t σ H R):PI X tg e t':=λpins s σ H R I q=>h pins s σ H R I (i σ H R q)
def iL (te:TED):TID:=λσ h R=>te σ h λx h1=> ∃a,x= .lst a/\R (λh=>h a) h1
def iR1 (ta:TAD):TID:=λσ h R=>ta σ h λds h1=> ∃n:Int,ds= [.int n]/\ -(2^62)<=n/\n<2^62/\R (λ_=>some ((List.range n.toNat).map λ(k:Nat)=>D.int (k:Int))) h1
section
variable {K:PySem.W.Frag}
theorem VW (H:Hp)(a:Addr):BJ K H (λh=>h a) (Itl K a):=λH' h' k rh ds e i=>by
 obtain⟨vs,hv,r⟩:=rh a ds e;refine⟨λd hd=> ?_,λhl=>⟨vs,SqL.of hv,by rw [<-r.length];exact hl⟩⟩;obtain⟨v,e1,e2⟩:=r.get hd;refine⟨⟨vs,v,SqL.of hv,e1⟩,λx H'' ⟨eH,hx⟩=> ?_⟩;subst eH;have:=hx vs (SqL.of hv);rw [e1] at this;cases this;exact⟨.refl _,rh,e2⟩
theorem Mc {H:Hp}{a:Addr}{vs:List V}{ds:List D}(hv:H a=some (.tup vs))(r:RelDs K H ds vs):BJ K H (λ_=>some ds) (Itt K a):=λH' h' k rh ds' e i=>by
 cases e;have hv':=k.tup _ _ hv;have r':=r.mono k;refine⟨λd hd=> ?_,λhl=>⟨vs,SqT.of hv',by rw [<-r.length];exact hl⟩⟩;obtain⟨v,e1,e2⟩:=r'.get hd;refine⟨⟨vs,v,SqT.of hv',e1⟩,λx H'' ⟨eH,hx⟩=> ?_⟩;subst eH;have:=hx vs (SqT.of hv');rw [e1] at this;cases this;exact⟨.refl _,rh,e2⟩
theorem Gn (H:Hp)(lo:Int)(n:Nat)(ds:List D)(hd:ds=(List.range n).map λ(k:Nat)=>D.int (lo+(k:Int))):BJ K H (λ_=>some ds) (Itr lo n):=λH' h' k rh ds' e i=>by
 cases e;subst hd;refine⟨λd hd=> ?_,λhl=>(show n<=i by simpa using hl)⟩;rw [G6] at hd;have hi:i<n:=by
  by_cases z:i<n
  ·exact z
  ·rw [L9 (by simpa using z)] at hd;cases hd
 rw [N0 hi] at hd;cases hd;refine⟨hi,λx H'' ⟨eH,hx⟩=> ?_⟩;subst eH hx;exact⟨.refl _,rh,rfl⟩
theorem BK {te:TED}: ∀σ H R,LI K (iL te) σ H R->Fm K (LE K te) σ H R:=λσ H R ⟨σd,h,Rd,rs,rh,q,p⟩=>
 LE.bind rs rh q λd v h1 H1 k1 rs1 rh1 r1 ⟨a,e,q1⟩=>by
  subst e;obtain⟨e,vs,hv⟩:=(show v= .ref a/\ ∃vs,H1 a=some (.lst vs) from r1);exact⟨a,e,⟨vs,SqL.of hv⟩,p _ _ _ _ k1 rh1 (VW H1 a) q1⟩
theorem An {ta:TAD}: ∀σ H R,LI K (iR1 ta) σ H R->Fn (LA K ta) σ H R:=λσ H R ⟨σd,h,Rd,rs,rh,q,p⟩=>
 LA.bind rs rh q λds vs h1 H1 k1 rs1 rh1 r1 ⟨n,e,b1,b2,q1⟩=>by
  subst e;obtain⟨v,e,r2⟩:=jJ r1;cases (show v= .int n from r2);exact⟨n,e,b1,b2,p _ _ _ _ k1 rh1 (Gn H1 0 n.toNat _ (by simp)) q1⟩
end
def La (ti:TID)(g:TGD)(tb:TSD):TSD:=λD σ h=>ti σ h λj h1=> ∃ (n:Nat) (W:Nat->SD->HD->Prop),W 0 σ h1/\ ∀i σ' h',W i σ' h'-> ∃ds,j h'=some ds/\ds.length<=n/\(ds.length<=i->D.nx σ' h')/\
 ∀d,ds[i]? =some d->g d σ' h' λσ2 h2=>tb {D with nx:=λσ3 h3=> ∃h4,Sub h4 h3/\W (i+1) σ3 h4,ct:=λσ3 h3=> ∃h4,Sub h4 h3/\W (i+1) σ3 h4,bk:=D.nx} σ2 h2
theorem Lb {K:PySem.W.Frag}{ti:TID}{g:TGD}{tb:TSD}: ∀D σ H,LS K (La ti g tb) D σ H->AY (LI K ti) (LG K g) (LS K tb) D σ H:=λD σ H ⟨σd,h,Dd,rs,rh,q,nx,rt,bk,ct⟩=>by
 refine⟨σd,h,_,rs,rh,q,λj J h1 H1 k1 rh1 jo ⟨n,W,w0,turn⟩=> ?_⟩;refine⟨λi m σ' H'=>m=n-i/\Kept H1 H'/\ ∃σd' h',RelS K H' σd' σ'/\RelH K h' H'/\W i σd' h',⟨n-0,rfl,.refl _,σd,h1,rs.mono k1,rh1,w0⟩,?_⟩;rintro i m σ' H' ⟨rfl,kp,σd',h',rs',rh',w⟩;obtain⟨ds,ej,hn,stop,go⟩:=turn i σd' h' w;have jo':=jo H' h' kp rh' ds ej i
 by_cases hi:i<ds.length
 ·obtain⟨g1,y1⟩:=jo'.1 ds[i] (G3 hi);refine .inr ⟨g1,λσ2 H2=>Kept H1 H2/\ ∃σd2 h2,RelS K H2 σd2 σ2/\RelH K h2 H2/\W (i+1) σd2 h2,λσ2 H2 ⟨k2,a,b,c,d,e⟩=>⟨n-(i+1),by omega,rfl,k2,a,b,c,d,e⟩,λx H'' y=> ?_⟩;obtain⟨k2,rh2,r2⟩:=y1 x H'' y;refine⟨ds[i],σd',h',_,r2,rs'.mono k2,rh2,go ds[i] (G3 hi),λσd3 h3 σ3 H3 k3 rs3 rh3 q3=> ?_⟩;have kk:Kept H H3:=k1.trans (kp.trans (k2.trans k3));have kk1:Kept H1 H3:=kp.trans (k2.trans k3);exact⟨σd3,h3,_,rs3,rh3,q3,λa b c d k4 rs4 rh4 ⟨h4,sb,w4⟩=>⟨kk1.trans k4,a,h4,rs4,rh4.sub sb,w4⟩,jL rt kk,λa b c d k4 rs4 rh4 q4=>nx a b c d (kk.trans k4) rs4 rh4 q4,λa b c d k4 rs4 rh4 ⟨h4,sb,w4⟩=>⟨kk1.trans k4,a,h4,rs4,rh4.sub sb,w4⟩⟩
 ·exact .inl ⟨jo'.2 (X9.mp hi),nx _ _ _ _ (k1.trans kp) rs' rh' (stop (X9.mp hi))⟩
def WI:TTD:=λ_ h Q=>Q true h
def Ye (bind:D->SD->SD->Prop)(js:List Nat)(ti:TID)(tt:TTD)(te:TED):TED:=λσ h Q=>ti σ h λj h1=> ∃ (n:Nat) (W:Nat->List D->HD->Prop),W 0 [] h1/\ ∀i ys h',W i ys h'->ys.length<=sizeLine/\
 ∃ds,j h'=some ds/\ds.length<=n/\(ds.length<=i-> ∀p,h' p=none->Q (.lst p) (zY h' p ys))/\
  ∀d,ds[i]? =some d-> ∃σ2,bind d (wN js σ) σ2/\tt σ2 h' λb h3=>if b=true then te σ2 h3 λy h4=> ∃h5,Sub h5 h4/\W (i+1) (ys++ [y]) h5 else ∃h5,Sub h5 h3/\W (i+1) ys h5
def bN (i:Nat):D->SD->SD->Prop:=λd σ σ2=>σ2=σ.set i (some d)
def b2 (i j:Nat):D->SD->SD->Prop:=λd σ σ2=> ∃x y,d= .tup [x,y]/\σ2=(σ.set i (some x)).set j (some y)
theorem Lc {K:PySem.W.Frag}: ∀σ H Q,LT K WI σ H Q->Ej σ H Q:=λσ H Q ⟨σd,h,Qd,rs,rh,q,p⟩=>p true h H (.refl H) rh q
def Py (K:PySem.W.Frag)(js:List Nat)(bind:D->SD->SD->Prop)(g:TG):Prop:= ∀ (σ:St) (σd σd2:SD) (H:Hp) (d:D) (v:V) (Q:St->Hp->Prop),RelS K H (wN js σd) (yj js σ)->RelD K H d v->bind d (wN js σd) σd2->
 (∀σ2,Agree (yj js σ) σ2->RelS K H σd2 σ2->Q σ2 H)->g v (yj js σ) H Q
theorem Ld {K:PySem.W.Frag}{js:List Nat}{i:Nat}(hi:i∈js):Py K js (bN i) (vR i):=λσ σd σd2 H d v Q rs r b q=>by
 cases (show σd2=_ from b);exact q _ (.set v λu=>wD js σ i u hi) (rs.set r i)
theorem Ao {K:PySem.W.Frag}{js:List Nat}{i j:Nat}(hi:i∈js)(hj:j∈js)(hij:i≠j):Py K js (b2 i j) (Ot K 2 (VF (vR i) (VF (vR j) Os))):=λσ σd σd2 H d v Q rs r b q=>by
 obtain⟨x,y,e,e2⟩:=b;subst e e2;obtain⟨a,vs,e,hH,r1⟩:=(show ∃a vs,v= .ref a/\H a=some (.tup vs)/\RelDs K H [x,y] vs from r);obtain⟨v1,v2,e1,r2,r3⟩:=yk r1;subst e e1;refine⟨a,[v1,v2],rfl,SqT.of hH,rfl,v1,[v2],rfl,v2,[],rfl,rfl,q _ (.trans (.set v1 λu=>wD js σ i u hi) (.set v2 λu z=> ?_)) ((rs.set r2 i).set r3 j)⟩;rw [N6 hij] at z;exact wD js σ j u hj z
theorem BL {K:PySem.W.Frag}{bind:D->SD->SD->Prop}{js:List Nat}{ti:TID}{tt:TTD}{te:TED}{g:TG}(hb:Py K js bind g): ∀σ H Q,LE K (Ye bind js ti tt te) σ H Q->tLC js (LI K ti) g (LT K tt) (LE K te) σ H Q:=
 λσ H Q ⟨σd,h,Qd,rs,rh,q,p⟩=>by
  refine⟨σd,h,_,rs,rh,q,λj J h1 H1 k1 rh1 jo ⟨n,W,w0,turn⟩=> ?_⟩;refine⟨λi m ys H'=>m=n-i/\Kept H1 H'/\ ∃ds h',RelDs K H' ds ys/\RelH K h' H'/\W i ds h',⟨n-0,rfl,.refl _,[],h1,rfl,rh1,w0⟩,?_⟩;rintro i m ys H' ⟨rfl,kp,yd,h',ry,rh',w⟩;obtain⟨hz,ds,ej,hn,stop,go⟩:=turn i yd h' w;refine⟨by rw [<-ry.length];exact hz,?_⟩;have jo':=jo H' h' kp rh' ds ej i;have kk:Kept H H':=k1.trans kp
  by_cases hi:i<ds.length
  ·obtain⟨g1,y1⟩:=jo'.1 ds[i] (G3 hi);refine .inr ⟨g1,λx H'' y=> ?_⟩;obtain⟨k2,rh2,r2⟩:=y1 x H'' y;obtain⟨σd2,bd,q2⟩:=go ds[i] (G3 hi);refine hb σ σd σd2 H'' ds[i] x _ (((rs.mono (kk.trans k2))).clear js) r2 bd λσ2 ag rs2=>⟨ag,?_⟩
   refine LT.bind rs2 rh2 q2 λb h3 H3 k3 rs3 rh3 q3=> ?_
   cases b with
   |true=>
    rw [if_pos rfl] at q3 ⊢;refine LE.bind rs3 rh3 q3 λd4 v4 h4 H4 k4 rs4 rh4 r4 ⟨h5,sb,w5⟩=>⟨n-(i+1),by omega,rfl,kp.trans (k2.trans (k3.trans k4)),yd++ [d4],h5,(ry.mono (k2.trans (k3.trans k4))).append (.cons r4 .nil),rh4.sub sb,w5⟩
   |false=>
    rw [if_neg P1] at q3 ⊢;obtain⟨h5,sb,w5⟩:=q3;exact⟨n-(i+1),by omega,rfl,kp.trans (k2.trans k3),yd,h5,ry.mono (k2.trans k3),rh3.sub sb,w5⟩
  ·refine .inl ⟨jo'.2 (X9.mp hi),λa ha=>p (.lst a) (.ref a) _ _ (kk.trans (.new ha)) (rh'.newL ha ry) ⟨rfl,ys,jy⟩ (stop (X9.mp hi) a (rh'.free ha))⟩
theorem ZO {X:Cx}{scope:Scope}{C:Addr}{s₀:Shared}{H₀:Hp}{ex:List Addr}{i:Nat}{x:Str}{p:Pos}(hN:X.N.Nodup)(hx:X.N[i]? =some x)(hl:scope.names.lookup x=some .local\/scope.names.lookup x=some .cell):
 PG (Yy X scope C s₀ H₀ ex) (.Name x p) (vR i):=by
 rcases hl with z|z
 ·exact yt hN hx (.inl (lookup_relabel_local z)) (.inr (lookup_relabel_local z))
 ·exact yt hN hx (.inr (vT z)) (.inl (by show (scope.names.lookup x==some NameKind.cell)=true;rw [z];rfl))
section
variable {X:Cx}{tg e iter elt:Expr}{te:TED}{ti:TID}{g:TGD}{tb:TSD}{tt:TTD}{pos:Pos}{ta:TAD}{scope:Scope}{js:List Nat}{ifs:List Expr}
theorem BM (he:QE X e te):QI X tg e (iL te):=(Ba he).imp BK
theorem Ap {p:Pos}{a:Expr}(hg:Gl X "range")(hm:X.mg "range" =none)(ha:QA X [a] ta)(hs:starEach [a] X.env= [(false,eval a X.env)]:=by rfl):QI X tg (.Call (.Name "range" p) [a] [] pos) (iR1 ta):=(Pe hg hm ha hs).imp An
theorem Sa {body:List Stmt}(hp:PassesOwn (model X.prog X.w) X.A X.env X.xe)(hc:X.calm=true)(hi:QI X tg iter ti)(hg:QG X tg g)(hb:QSs X body tb)(hs: ∀x,foldedSetIterable iter X.env x=pure x:=by intro _;rfl):
 QS X (.For tg iter body [] pos) (La ti g tb):=(Fo hp hc hi hg hb hs).imp Lb
theorem BN:PTs X [] (LT X.K WI):=λpins s σ H Q I h=>Br pins s σ H Q I (Lc σ H Q h)
theorem qlc {i:Nat}{x:Str}{p:Pos}(hc:X.calm=true)(S:BlockOk X scope js)(hi:QI X (.Name x p) iter ti)(hj:i∈js)(hN:X.N.Nodup)(hx:X.N[i]? =some x)(hl:scope.names.lookup x=some .local\/scope.names.lookup x=some .cell)
 (ht: ∀X',jK X scope X'->PTs X' ifs (LT X'.K tt))(he: ∀X',jK X scope X'->QE X' elt te)(hs: ∀x,foldedSetIterable iter X.env x=pure x:=by intro _;rfl):
 QE X (.ListComp elt [⟨.Name x p,iter,ifs,0⟩] scope pos) (Ye (bN i) js ti tt te):=
 (FG hc S hi (λX' hX=>by obtain⟨C,s₀,H₀,ex,rfl⟩:=hX;exact ZO hN hx hl) (λX' hX=>by have:=ht X' hX;obtain⟨C,s₀,H₀,ex,rfl⟩:=hX;exact this)
  (λX' hX=>by have:=he X' hX;obtain⟨C,s₀,H₀,ex,rfl⟩:=hX;exact this) hs).imp (BL (Ld hj))
theorem Sb {i j:Nat}{x y:Str}{p1 p2 p3:Pos}{k:Nat}(hc:X.calm=true)(S:BlockOk X scope js)(hi:QI X (.Tuple [.Name x p1,.Name y p2] k p3) iter ti)(hj:i∈js)(hj2:j∈js)(hij:i≠j)(hN:X.N.Nodup)(hx:X.N[i]? =some x)(hy:X.N[j]? =some y)
 (hl:scope.names.lookup x=some .local\/scope.names.lookup x=some .cell)(hl2:scope.names.lookup y=some .local\/scope.names.lookup y=some .cell)
 (ht: ∀X',jK X scope X'->PTs X' ifs (LT X'.K tt))(he: ∀X',jK X scope X'->QE X' elt te)(hs: ∀x,foldedSetIterable iter X.env x=pure x:=by intro _;rfl):
 QE X (.ListComp elt [⟨.Tuple [.Name x p1,.Name y p2] k p3,iter,ifs,0⟩] scope pos) (Ye (b2 i j) js ti tt te):=
 (FG hc S hi (λX' hX=>by
  obtain⟨C,s₀,H₀,ex,rfl⟩:=hX;exact Pc hc (yu (ZO hN hx hl) (yu (ZO hN hy hl2) Xe))) (λX' hX=>by have:=ht X' hX;obtain⟨C,s₀,H₀,ex,rfl⟩:=hX;exact this)
  (λX' hX=>by have:=he X' hX;obtain⟨C,s₀,H₀,ex,rfl⟩:=hX;exact this) hs).imp (BL (Ao hj hj2 hij))
end
def LSp (K:PySem.W.Frag)(spd:RDn):Sp:=λvs H Q _=>LC K spd vs H Q
theorem BO {K:PySem.W.Frag}{spd:RDn}{t:TAD}{E:XK}: ∀σ H Q,LE K (dCB spd t) σ H Q->Fw (LSp K spd) [] E (LA K t) σ H Q:=λσ H Q ⟨σd,h,Qd,rs,rh,t,p⟩=>
 LA.bind rs rh t λds vs h1 H1 k1 rs1 rh1 r1 q=>by rw [W8];exact⟨ds,h1,Qd,r1,rh1,q,jL p k1⟩
section
variable {X:Cx}{k:Nat}{f:Addr}{fd:FuncData}{ps:List Str}{spd:RDn}{x:Str}{p pos:Pos}{e:Expr}{es:List Expr}{t:TAD}
theorem Aq (F:FnOk X.prog X.w X.K X.mg X.base CX0 k f fd ps (LSp X.K spd))(hr:Room k X.A)(hg:Gl X x)(hm:X.mg x=some (.ref f))(hk:PySem.W.keepIn X.K (.ref f)=true)(hb:Binds X.K fd ps [])
 (ha:QA X (e::es) t)(hdb:(x==("__debug__" :Str))=false:=by decide)(he:starEach (e::es) X.env=(false,eval e X.env)::starEach es X.env:=by rfl)(hpl:(backTo pos (starEach es X.env)).any (·.1)=false:=by rfl):
 QE X (.Call (.Name x p) (e::es) [] pos) (dCB spd t):=(Bg F hr hg hm hk hb .nil OR ha hdb he hpl).imp BO
theorem Le {id:String}{r:RDn}(hc:vU X (.builtin id) r)(hg:Gl X x)(hm:X.mg x=none)(hv:bootBuiltins x=some (.builtin id))(ha:QA X (e::es) t)(hn:x≠ "__name__" :=by decide)(hdb:(x==("__debug__" :Str))=false:=by decide)
 (he:starEach (e::es) X.env=(false,eval e X.env)::starEach es X.env:=by rfl)(hpl:(backTo pos (starEach es X.env)).any (·.1)=false:=by rfl):QE X (.Call (.Name x p) (e::es) [] pos) (dCB r t):=(Yv hc hg hm hv ha hn hdb he hpl).imp FM
theorem BP {T:String}{r:RDn}(hc:vU X (.type T) r)(hg:Gl X x)(hm:X.mg x=none)(hv:bootBuiltins x=some (.type T))(ha:QA X (e::es) t)(hn:x≠ "__name__" :=by decide)(hdb:(x==("__debug__" :Str))=false:=by decide)
 (he:starEach (e::es) X.env=(false,eval e X.env)::starEach es X.env:=by rfl)(hpl:(backTo pos (starEach es X.env)).any (·.1)=false:=by rfl):QE X (.Call (.Name x p) (e::es) [] pos) (dCB r t):=(VO hc hg hm hv ha hn hdb he hpl).imp FM
end
def wG (N:List Str)(ds:List D):SD:=ds.map some++List.replicate (N.length-ds.length) none
theorem Go {K:PySem.W.Frag}{H:Hp}{N:List Str}{ds:List D}{vs:List V}(r:RelDs K H ds vs):RelS K H (wG N ds) (ZU N vs):=by
 have hl:=r.length;refine⟨by unfold wG ZU;simp [hl],λi d e=> ?_⟩;unfold wG at e;unfold ZU
 by_cases hi:i<ds.length
 ·rw [F3 (by simpa using hi),G6] at e;cases q:ds[i]? with
  |none=>rw [q] at e;cases e
  |some d'=>
   rw [q] at e;cases e;obtain⟨v,e1,e2⟩:=r.get q;exact⟨v,by rw [F3 (by simpa [<-hl] using hi),G6,e1];rfl,e2⟩
 ·rw [O8 (by simpa using hi),V8] at e;split at e<;>cases e
def Xk (Q:KD):EndsD:= {nx:=λ_ h=> ∃h',Sub h' h/\Q .non h',rt:=λd h=> ∃h',Sub h' h/\Q d h'}
section
variable {P:Program}{w:World}{K:PySem.W.Frag}{mg:Str->Option Value}{base:Heap}
theorem Fun.okD {x qual:Str}{st:Stmt}{f:Addr}{fd:FuncData}{N ps:List Str}{k:Nat}{spd:RDn}(F:Fun K x qual st f fd)(S:FnScope N ps (jk st))(len: ∀ds h Q,spd ds h Q->ds.length=ps.length)
 (tb:TSD)(hbody: ∀ (cdv:Value) (A:Around) (outer:List Env) (s:Shared) (H:Hp) (E:XK),Room k (A.deeper (envOfC qual (jk st) s.heap.objs.size f cdv))->QSs (Nm CX0 P w K mg base N qual (jk st) f cdv A outer s H E).nox (wC st) tb)
 (read: ∀ds h Q,spd ds h Q->tb (Xk Q) (wG N ds) h):FnOk P w K mg base CX0 (k+1) f fd ps (LSp K spd):=by
 refine F.ok S (λvs H Q E h=> ?_) (λcdv A outer s H vs Q E hr h=> ?_)
 ·obtain⟨ds,h,Qd,r,rh,q,p⟩:=h;rw [<-r.length];exact len _ _ _ q
 ·obtain⟨ds,h,Qd,r,rh,q,p⟩:=h;refine⟨_,hbody cdv A outer s H E hr,wG N ds,h,Xk Qd,Go r,rh,read ds h Qd q,λσd' h' σ' H' k rs' rh' ⟨h2,sb,q'⟩=>p .non .non h2 H' k (rh'.sub sb) rfl q',λd v h' H' k rh' r' ⟨h2,sb,q'⟩=>p d v h2 H' k (rh'.sub sb) r' q',λ_ _ _ _ _ _ _ z=>z.elim,λ_ _ _ _ _ _ _ z=>z.elim⟩
end
section
variable {X:Cx}{iter elt:Expr}{te:TED}{ti:TID}{tt:TTD}{pos spos:Pos}{scope:Scope}{js:List Nat}{ifs:List Expr}
theorem Lf {i k:Nat}{x y:Str}{p py:Pos}(hc:X.calm=true)(hN:X.N.Nodup)(hk:X.N[k]? =some y)(hy:Loc X.env.scope y)(S:BlockOk X scope js)(hi:QI X (.Name x p) iter ti)(hj:i∈js)(hx:X.N[i]? =some x)(hl:scope.names.lookup x=some .local\/scope.names.lookup x=some .cell)
 (ht: ∀X',jK X scope X'->PTs X' ifs (LT X'.K tt))(he: ∀X',jK X scope X'->QE X' elt te)
 (hsw:swapsWith (.ListComp elt [⟨.Name x p,iter,ifs,0⟩] scope pos) (some (.Name y py)) spos.line X.env=pure true:=by rfl)
 (hf:X.fn y=true\/X.env.scope.names.lookup y=some .local:=by first|exact .inl rfl|exact .inr rfl|assumption)(hs: ∀x,foldedSetIterable iter X.env x=pure x:=by intro _;rfl):
 QS X (.Assign [.Name y py] (.ListComp elt [⟨.Name x p,iter,ifs,0⟩] scope pos) spos) (BD k (Ye (bN i) js ti tt te)):=by
 have base:PS X (.Assign [.Name y py] (.ListComp elt [⟨.Name x p,iter,ifs,0⟩] scope pos) spos) (NY (tLC js (LI X.K ti) (vR i) (LT X.K tt) (LE X.K te)) (vR k)):=
  RX hc S hi (λX' hX=>by obtain⟨C,s₀,H₀,ex,rfl⟩:=hX;exact ZO hN hx hl) (λX' hX=>by have:=ht X' hX;obtain⟨C,s₀,H₀,ex,rfl⟩:=hX;exact this)
   (λX' hX=>by have:=he X' hX;obtain⟨C,s₀,H₀,ex,rfl⟩:=hX;exact this) (yt hN hk hy hf) hsw hs
 exact base.imp λD σ H h=>by
  obtain⟨σd,hd,Qd,rs,rh,t,p⟩:=Np (K:=X.K) D σ H h;exact BL (Ld hj) σ H _ ⟨σd,hd,Qd,rs,rh,t,p⟩
end
def Em:RD2:=λx y h Q=>match x,y with
 | .int i,.int j=>Q (.int (i+j)) h
 | .tup a,.tup b=>a.length+b.length<=sizeLine/\Q (.tup (a++b)) h
 | .lst a,.lst b=> ∃xs ys,h a=some xs/\h b=some ys/\xs.length+ys.length<=sizeLine/\ ∀p,h p=none->Q (.lst p) (zY h p (xs++ys))
 |_,_=>False
def En:RD2:=λx y h Q=>match x,y with
 | .int i,.int j=>Q (.int (i-j)) h
 |_,_=>False
def Eo:RD2:=λx y h Q=>match x,y with
 | .int i,.int j=>CMul i j/\Q (.int (i*j)) h
 | .lst a,.int k=> ∃xs,h a=some xs/\ -(2^63)<=k/\k<2^63/\xs.length*k.toNat<=sizeLine/\ ∀p,h p=none->Q (.lst p) (zY h p (List.replicate k.toNat xs).flatten)
 |_,_=>False
def Sc:RD2:=λx y h Q=>match x,y with
 | .int i,.int j=>0<j/\Q (.int (i%j)) h
 |_,_=>False
def Ar:RD2:=λx y h Q=>match x,y with
 | .int i,.int j=>Ea i j/\Q (.int (i / j)) h
 |_,_=>False
def As:RD2:=λx y h Q=>match x,y with
 | .int i,.int j=>Eb i j/\Q (.int (i^j.toNat)) h
 |_,_=>False
def Md (p:Int->Int->Bool):RD2:=λx y h Q=>match x,y with
 | .int i,.int j=>Q (.bl (p i j)) h
 |_,_=>False
def eqD:RD2:=λx y h Q=>match x,y with
 | .int i,.int j=>Q (.bl (decide (i=j))) h
 | .bl i,.bl j=>Q (.bl (decide (i=j))) h
 | .str i,.str j=>Q (.bl (decide (i=j))) h
 |_,_=>False
def neD:RD2:=λx y h Q=>match x,y with
 | .int i,.int j=>Q (.bl (!decide (i=j))) h
 | .bl i,.bl j=>Q (.bl (!decide (i=j))) h
 | .str i,.str j=>Q (.bl (!decide (i=j))) h
 |_,_=>False
section
variable {X:Cx}
theorem YA {f:Value->Value->Sem Value}{C:Int->Int->Prop}{g:Int->Int->V}{gd:Int->Int->D}{r:RD2}(ho:OpR X f (rI C g))(hg: ∀i j H,RelD X.K H (gd i j) (g i j))
 (hr: ∀x y h Q,r x y h Q-> ∃i j,x= .int i/\y= .int j/\C i j/\Q (gd i j) h):OpQ X f r:=ho.imp λx y H Q ⟨dx,dy,h,Qd,rx,ry,rh,q,p⟩=>by
 obtain⟨i,j,e1,e2,c,q'⟩:=hr dx dy h Qd q;subst e1 e2;exact⟨i,j,rx,ry,c,p _ _ _ _ (.refl H) rh (hg i j H) q'⟩
theorem Jr {f:Value->Value->Sem Value}{g:Int->Int->V}{gd:Int->Int->D}{r:RD2}(ho:OpR X f (rI0 g))(hg: ∀i j H,RelD X.K H (gd i j) (g i j))
 (hr: ∀x y h Q,r x y h Q-> ∃i j,x= .int i/\y= .int j/\Q (gd i j) h):OpQ X f r:=ho.imp λx y H Q ⟨dx,dy,h,Qd,rx,ry,rh,q,p⟩=>by
 obtain⟨i,j,e1,e2,q'⟩:=hr dx dy h Qd q;subst e1 e2;exact⟨i,j,rx,ry,p _ _ _ _ (.refl H) rh (hg i j H) q'⟩
theorem yQ:OpQ X (binaryOp .Sub) En:=Jr (gd:=λi j=> .int (i-j)) Fp (λ_ _ _=>rfl) λx y h Q q=>by
 cases x<;>cases y<;>first|exact False.elim q|exact⟨_,_,rfl,rfl,q⟩
theorem vP:OpQ X (binaryOp .Mod) Sc:=YA (gd:=λi j=> .int (i%j)) Fq (λ_ _ _=>rfl) λx y h Q q=>by
 cases x<;>cases y<;>first|exact False.elim q|exact⟨_,_,rfl,rfl,q.1,q.2⟩
theorem BQ:OpQ X (binaryOp .FloorDiv) Ar:=YA (gd:=λi j=> .int (i / j)) Bb (λ_ _ _=>rfl) λx y h Q q=>by
 cases x<;>cases y<;>first|exact False.elim q|exact⟨_,_,rfl,rfl,q.1,q.2⟩
theorem Qt:OpQ X (binaryOp .Pow) As:=YA (gd:=λi j=> .int (i^j.toNat)) Fr (λ_ _ _=>rfl) λx y h Q q=>by
 cases x<;>cases y<;>first|exact False.elim q|exact⟨_,_,rfl,rfl,q.1,q.2⟩
theorem YB {p:Int->Int->Bool}: ∀x y h Q,Md p x y h Q-> ∃i j,x= .int i/\y= .int j/\Q (.bl (p i j)) h:=λx y h Q q=>by
 cases x<;>cases y<;>first|exact False.elim q|exact⟨_,_,rfl,rfl,q⟩
theorem Me:OpQ X (compareOp .Lt) (Md λi j=>decide (i<j)):=Jr (gd:=λi j=> .bl (decide (i<j))) OH (λ_ _ _=>rfl) YB
theorem Mf:OpQ X (compareOp .LtE) (Md λi j=>decide (i<=j)):=Jr (gd:=λi j=> .bl (decide (i<=j))) OJ (λ_ _ _=>rfl) YB
theorem Lg:OpQ X (compareOp .Gt) (Md λi j=>decide (j<i)):=Jr (gd:=λi j=> .bl (decide (j<i))) OK (λ_ _ _=>rfl) YB
theorem Pz:OpQ X (compareOp .GtE) (Md λi j=>decide (j<=i)):=Jr (gd:=λi j=> .bl (decide (j<=i))) OL (λ_ _ _=>rfl) YB
theorem CM {α:Type}[DecidableEq α]{f:α->V}(hf: ∀a b,f a=f b->a=b)(a b:α):decide (f a=f b)=decide (a=b):=by
 by_cases h:a=b
 ·subst h;simp
 ·rw [D8 h,D8 (λe=>h (hf a b e))]
theorem oq_eq:OpQ X (compareOp .Eq) eqD:=op_eq.imp λx y H Q ⟨dx,dy,h,Qd,rx,ry,rh,q,p⟩=>by
 cases dx<;>cases dy<;>first
  |exact False.elim q
  |(cases (show x= .int _ from rx);cases (show y= .int _ from ry);refine⟨rfl,p _ _ _ _ (.refl H) rh ?_ q⟩;rw [CM (f:=V.int) (λa b e=>by cases e;rfl)];rfl)
  |(cases (show x= .bl _ from rx);cases (show y= .bl _ from ry);refine⟨rfl,p _ _ _ _ (.refl H) rh ?_ q⟩;rw [CM (f:=V.bl) (λa b e=>by cases e;rfl)];rfl)
  |(cases (show x= .str _ from rx);cases (show y= .str _ from ry);refine⟨rfl,p _ _ _ _ (.refl H) rh ?_ q⟩;rw [CM (f:=V.str) (λa b e=>by cases e;rfl)];rfl)
theorem oq_ne:OpQ X (compareOp .NotEq) neD:=op_ne.imp λx y H Q ⟨dx,dy,h,Qd,rx,ry,rh,q,p⟩=>by
 cases dx<;>cases dy<;>first
  |exact False.elim q
  |(cases (show x= .int _ from rx);cases (show y= .int _ from ry);refine⟨rfl,p _ _ _ _ (.refl H) rh ?_ q⟩;rw [CM (f:=V.int) (λa b e=>by cases e;rfl)];rfl)
  |(cases (show x= .bl _ from rx);cases (show y= .bl _ from ry);refine⟨rfl,p _ _ _ _ (.refl H) rh ?_ q⟩;rw [CM (f:=V.bl) (λa b e=>by cases e;rfl)];rfl)
  |(cases (show x= .str _ from rx);cases (show y= .str _ from ry);refine⟨rfl,p _ _ _ _ (.refl H) rh ?_ q⟩;rw [CM (f:=V.str) (λa b e=>by cases e;rfl)];rfl)
def Lh (K:PySem.W.Frag):R2:=λx y H Q=> ∃a b xs ys,x= .ref a/\y= .ref b/\SqT K H a xs/\SqT K H b ys/\xs= []/\Q (.ref b) H
theorem op_catT0:OpR X (binaryOp .Add) (Lh X.K):=by
 intro pins s σ H x y v u Q I rx ry h;obtain⟨a,b,xs,ys,rfl,rfl,ha,hb,hx,q⟩:=h;cases rx;cases ry;obtain⟨its,r1,p1,_⟩:=I.tuple ha;obtain⟨its2,r2,p2,_⟩:=I.tuple hb;have hv:its= []:=r1.nil_iff.mpr hx;obtain⟨⟨cls,dd,data,sl⟩,ho,hc,n,hd⟩:=id p1;obtain⟨⟨cls2,dd2,data2,sl2⟩,ho2,hc2,n2,hd2⟩:=id p2;simp only at hc hd hc2 hd2;subst hc hd hc2 hd2;exact concat_meets ⟨_,ho,rfl⟩ ⟨_,ho2,rfl⟩ W3 seq_tuple_add E6 E1 (A6 _ _)
  (tuple_addW0 a b its.toArray its2.toArray n n2 dd dd2 sl sl2 (by simp [hv])) ⟨ho,ho2,.ref b,H,I,rfl,q⟩
theorem jA:OpQ X (binaryOp .Add) Em:=(op_add.or (op_catT.or (op_catT0.or FC))).imp λx y H Q ⟨dx,dy,h,Qd,rx,ry,rh,q,p⟩=>by
 cases dx<;>cases dy<;>first
  |exact False.elim q
  |skip
 ·exact .inl ⟨_,_,rx,ry,p (.int _) _ _ _ (.refl H) rh rfl q⟩
 ·rename_i ds es;obtain⟨a,vs,e1,h1,r1⟩:=(show ∃a vs,x= .ref a/\H a=some (.tup vs)/\RelDs X.K H ds vs from rx);obtain⟨b,us,e2,h2,r2⟩:=(show ∃a vs,y= .ref a/\H a=some (.tup vs)/\RelDs X.K H es vs from ry);subst e1 e2;obtain⟨hz,q⟩:=q
  by_cases hv:vs= []
  ·subst hv;have e:ds= []:=E3.mp r1.length;subst e;exact .inr (.inr (.inl ⟨a,b,[],us,rfl,rfl,SqT.of h1,SqT.of h2,rfl,p (.tup es) _ _ _ (.refl H) rh ⟨b,us,rfl,h2,r2⟩ q⟩))
  ·refine .inr (.inl ⟨a,b,vs,us,rfl,rfl,SqT.of h1,SqT.of h2,hv,by rw [<-r1.length,<-r2.length];exact hz,λe=> ?_,λ_ c hc=> ?_⟩)
   ·subst e;have e:es= []:=E3.mp r2.length;subst e;rw [W8] at q;exact p (.tup ds) _ _ _ (.refl H) rh ⟨a,vs,rfl,h1,r1⟩ q
   ·exact p (.tup (ds++es)) _ _ _ (.new hc) (rh.new hc) ⟨c,vs++us,rfl,jy,(r1.append r2).mono (.new hc)⟩ q
 ·rename_i a b;obtain⟨xs,ys,h1,h2,hz,q⟩:=q;obtain⟨vs,e1,r1⟩:=rh a xs h1;obtain⟨us,e2,r2⟩:=rh b ys h2;refine .inr (.inr (.inr ⟨a,b,vs,us,rx.1,ry.1,e1,e2,by rw [<-r1.length,<-r2.length];exact hz,λc hc=> ?_⟩));exact p (.lst c) _ _ _ (.new hc) (rh.newL hc (r1.append r2)) ⟨rfl,_,jy⟩ (q c (rh.free hc))
theorem RelDs.flat {K:PySem.W.Frag}{H:Hp}{ds:List D}{vs:List V}(r:RelDs K H ds vs): ∀k:Nat,RelDs K H (List.replicate k ds).flatten (List.replicate k vs).flatten
 |0=>by simp;exact .nil
 |k+1=>by rw [B2,B2,F6,F6];exact r.append (RelDs.flat r k)
theorem oq_mul:OpQ X (binaryOp .Mult) Eo:=(op_mul.or FD).imp λx y H Q ⟨dx,dy,h,Qd,rx,ry,rh,q,p⟩=>by
 cases dx<;>cases dy<;>first
  |exact False.elim q
  |skip
 ·exact .inl ⟨_,_,rx,ry,q.1,p (.int _) _ _ _ (.refl H) rh rfl q.2⟩
 ·obtain⟨xs,h1,b1,b2,hz,q⟩:=q;obtain⟨vs,e1,r1⟩:=rh _ xs h1;refine .inr ⟨_,_,vs,rx.1,ry,e1,b1,b2,by rw [<-r1.length];exact hz,λc hc=> ?_⟩;exact p (.lst c) _ _ _ (.new hc) (rh.newL hc (r1.flat _)) ⟨rfl,_,jy⟩ (q c (rh.free hc))
end
def ixD:RD2:=λx y h Q=>match x,y with
 | .tup ds,.int i=> ∃d,atI ds i=some d/\Q d h
 | .lst a,.int i=> ∃ds d,h a=some ds/\atI ds i=some d/\Q d h
 | .scr ns,.int i=> ∃n,atI ns i=some n/\Q (.int n) h
 |_,_=>False
theorem PB {K:PySem.W.Frag}{H:Hp}{ds:List D}{vs:List V}(r:RelDs K H ds vs){i:Int}{d:D}(e:atI ds i=some d): ∃v,atI vs i=some v/\RelD K H d v:=by
 unfold atI at e ⊢;rw [<-r.length];cases q:ixN ds.length i with
 |none=>rw [q] at e;cases e
 |some j=>rw [q] at e;exact r.get e
theorem BR {α β:Type}(f:α->β){xs:List α}{i:Int}{x:α}(e:atI xs i=some x):atI (xs.map f) i=some (f x):=by
 unfold atI at e ⊢;rw [G0];cases q:ixN xs.length i with
 |none=>rw [q] at e;cases e
 |some j=>
  rw [q] at e;show (xs.map f)[j]? =_;rw [G6,(show xs[j]? =some x from e)];rfl
section
variable {X:Cx}{a b e:Expr}{ta tb te:TED}{pos p2:Pos}
theorem At: ∀σ H Q,LE X.K (dOp ixD ta tb) σ H Q->tOp (rIx X.K) (LE X.K ta) (LE X.K tb) σ H Q:=λσ H Q ⟨σd,h,Qd,rs,rh,t,p⟩=>
 LE.bind rs rh t λdx x h1 H1 k1 rs1 rh1 r1 t1=>LE.bind rs1 rh1 t1 λdy y h2 H2 k2 rs2 rh2 ry q=>by
  have rx:=r1.mono k2;have kk:=k1.trans k2;cases dx<;>cases dy<;>first
   |exact False.elim q
   |skip
  ·rename_i ds i;obtain⟨d,e,q⟩:=q;obtain⟨a,vs,e1,hH,r⟩:=(show ∃a vs,x= .ref a/\H2 a=some (.tup vs)/\RelDs X.K H2 ds vs from rx);obtain⟨v,e2,rv⟩:=PB r e;exact .inr (.inl ⟨a,vs,i,v,e1,ry,SqT.of hH,e2,p _ _ _ _ kk rh2 rv q⟩)
  ·rename_i a i;obtain⟨ds,d,hd,e,q⟩:=q;obtain⟨vs,hH,r⟩:=rh2 a ds hd;obtain⟨v,e2,rv⟩:=PB r e;exact .inl ⟨a,vs,i,v,rx.1,ry,SqL.of hH,e2,p _ _ _ _ kk rh2 rv q⟩
  ·rename_i ns i;obtain⟨n,e,q⟩:=q;obtain⟨a,e1,hS⟩:=(show ∃a,x= .ref a/\Scr X.K H2 a ns from rx);exact .inl ⟨a,_,i,.int n,e1,ry,hS.sq,BR V.int e,p (.int n) _ _ _ kk rh2 rfl q⟩
theorem qix (ha:QE X a ta)(hb:QE X b tb)(hs:Xg b):QE X (.Subscript a b pos) (dOp ixD ta tb):=(OP FA ha hb hs).imp At
end
def BS:RDn:=λds h Q=>match ds with
 | [.tup xs]=>Q (.int xs.length) h
 | [.lst a]=> ∃xs,h a=some xs/\Q (.int xs.length) h
 | [.scr ns]=>Q (.int ns.length) h
 |_=>False
def Au:RDn:=λds h Q=>match ds with
 | [.int i]=>Q (.int i) h
 | [.bl k]=>Q (.int (if k then 1 else 0)) h
 |_=>False
def Av:RDn:=λds h Q=>match ds with
 | [.int i,.int j]=>Q (.int (if j>i then j else i)) h
 |_=>False
def Nq:RDn:=λds h Q=>match ds with
 | [.tup xs]=>Q (.tup xs) h
 | [.lst a]=> ∃xs,h a=some xs/\Q (.tup xs) h
 |_=>False
def Qu:RDn:=λds h Q=>match ds with
 | [.lst a]=> ∃xs,h a=some xs/\Q (.tup xs) (zd h a)
 |_=>False
def Li:RDn:=λds h Q=>match ds with
 | [.tup xs]=> ∀p,h p=none->Q (.lst p) (zY h p xs)
 | [.lst a]=> ∃xs,h a=some xs/\ ∀p,h p=none->Q (.lst p) (zY h p xs)
 |_=>False
section
variable {X:Cx}
theorem zH:vU X (.builtin "len") BS:=call_len_seq.imp λxs H Q ⟨ds,h,Qd,r,rh,q,p⟩=>by
 unfold BS at q;split at q
 ·rename_i es;obtain⟨v,e,r1⟩:=jJ r;obtain⟨a,vs,e1,hH,r2⟩:=(show ∃a vs,v= .ref a/\H a=some (.tup vs)/\RelDs X.K H es vs from r1);subst e e1;exact⟨a,vs,rfl,.inr (SqT.of hH),by rw [<-r2.length];exact p (.int _) _ _ _ (.refl H) rh rfl q⟩
 ·rename_i a;obtain⟨es,hd,q⟩:=q;obtain⟨v,e,r1⟩:=jJ r;obtain⟨vs,hH,r2⟩:=rh a es hd;have e1:v= .ref a:=r1.1;subst e e1;exact⟨a,vs,rfl,.inl (SqL.of hH),by rw [<-r2.length];exact p (.int _) _ _ _ (.refl H) rh rfl q⟩
 ·rename_i ns;obtain⟨v,e,r1⟩:=jJ r;obtain⟨a,e1,hS⟩:=(show ∃a,v= .ref a/\Scr X.K H a ns from r1);subst e e1;exact⟨a,_,rfl,.inl hS.sq,by rw [G0];exact p (.int _) _ _ _ (.refl H) rh rfl q⟩
 ·exact q.elim
theorem PC:vU X (.type "int") Au:=call_int1.imp λxs H Q ⟨ds,h,Qd,r,rh,q,p⟩=>by
 unfold Au at q;split at q
 ·rename_i i;obtain⟨v,e,r1⟩:=jJ r;cases (show v= .int i from r1);exact .inl ⟨i,e,p (.int i) _ _ _ (.refl H) rh rfl q⟩
 ·rename_i k;obtain⟨v,e,r1⟩:=jJ r;cases (show v= .bl k from r1);exact .inr ⟨k,e,p (.int _) _ _ _ (.refl H) rh rfl q⟩
 ·exact q.elim
theorem Lj (hc:X.calm=true):vU X (.builtin "max") Av:=(Pi hc).imp λxs H Q ⟨ds,h,Qd,r,rh,q,p⟩=>by
 unfold Av at q;split at q
 ·rename_i i j;obtain⟨v,w,e,r1,r2⟩:=yk r;cases (show v= .int i from r1);cases (show w= .int j from r2);exact⟨i,j,e,p (.int _) _ _ _ (.refl H) rh rfl q⟩
 ·exact q.elim
theorem cq_tuple:vU X (.type "tuple") Nq:=call_tuple_of.imp λxs H Q ⟨ds,h,Qd,r,rh,q,p⟩=>by
 unfold Nq at q;split at q
 ·rename_i es;obtain⟨v,e,r1⟩:=jJ r;obtain⟨a,vs,e1,hH,r2⟩:=(show ∃a vs,v= .ref a/\H a=some (.tup vs)/\RelDs X.K H es vs from r1);subst e e1;exact⟨a,vs,rfl,.inr ⟨SqT.of hH,p (.tup es) _ _ _ (.refl H) rh ⟨a,vs,rfl,hH,r2⟩ q⟩⟩
 ·rename_i a;obtain⟨es,hd,q⟩:=q;obtain⟨v,e,r1⟩:=jJ r;obtain⟨vs,hH,r2⟩:=rh a es hd;have e1:v= .ref a:=r1.1;subst e e1;exact⟨a,vs,rfl,.inl ⟨SqL.of hH,λc hc=>p (.tup es) _ _ _ (.new hc) (rh.new hc) ⟨c,vs,rfl,jy,r2.mono (.new hc)⟩ q⟩⟩
 ·exact q.elim
theorem zV:vU X (.type "tuple") Qu:=cq_tuple.imp λxs H Q ⟨ds,h,Qd,r,rh,q,p⟩=>by
 unfold Qu at q;split at q
 ·rename_i a;obtain⟨es,hd,q⟩:=q;exact⟨[.lst a],h,λd h'=>Qd d (zd h' a),r,rh,⟨es,hd,q⟩,λd v h' H' k rh' rd q'=>p d v _ H' k (rh'.sub (Sub.drop h' a)) rd q'⟩
 ·exact q.elim
theorem Xl:vU X (.type "list") Li:=call_list_of.imp λxs H Q ⟨ds,h,Qd,r,rh,q,p⟩=>by
 unfold Li at q;split at q
 ·rename_i es;obtain⟨v,e,r1⟩:=jJ r;obtain⟨a,vs,e1,hH,r2⟩:=(show ∃a vs,v= .ref a/\H a=some (.tup vs)/\RelDs X.K H es vs from r1);subst e e1;exact⟨a,vs,rfl,.inr (SqT.of hH),λc hc=>p (.lst c) _ _ _ (.new hc) (rh.newL hc r2) ⟨rfl,_,jy⟩ (q c (rh.free hc))⟩
 ·rename_i a;obtain⟨es,hd,q⟩:=q;obtain⟨v,e,r1⟩:=jJ r;obtain⟨vs,hH,r2⟩:=rh a es hd;have e1:v= .ref a:=r1.1;subst e e1;exact⟨a,vs,rfl,.inl (SqL.of hH),λc hc=>p (.lst c) _ _ _ (.new hc) (rh.newL hc r2) ⟨rfl,_,jy⟩ (q c (rh.free hc))⟩
 ·exact q.elim
end
def VX:D->Option String
 | .non=>some "NoneType" | .bl _=>some "bool" | .int _=>some "int" | .str _=>some "str" | .tup _=>some "tuple" | .lst _=>some "list" | .dic _ _=>some "dict" | .dct _=>none| .scr _=>none| .exc _=>none| .fn _=>none
def BT (T:String)(n:String):Bool:=n==T||(T== "int" &&n== "bool")
theorem Mg {K:PySem.W.Frag}{H:Hp}{d:D}{v:V}{n:String}(r:RelD K H d v)(e:VX d=some n):TyOf K H v (.type n):=by
 cases d with
 |non=>cases (show v= .non from r);cases e;exact .non
 |bl b=>cases (show v= .bl b from r);cases e;exact .bl b
 |int i=>cases (show v= .int i from r);cases e;exact .int i
 |str x=>cases (show v= .str x from r);cases e;exact .str x
 |tup ds=>
  obtain⟨a,vs,e1,hH,_⟩:=(show ∃a vs,v= .ref a/\H a=some (.tup vs)/\RelDs K H ds vs from r);subst e1;cases e;exact .tup hH
 |lst a=>
  obtain⟨e1,vs,hH⟩:=(show v= .ref a/\ ∃vs,H a=some (.lst vs) from r);subst e1;cases e;exact .lst hH
 |dic x i=>
  obtain⟨a,e1,hH⟩:=(show ∃a,v= .ref a/\H a=some (.dK [(Sum.inr x,V.int i)]) from r);subst e1;cases e;exact .dK hH
 |dct a=>cases e
 |scr ns=>cases e
 |exc C=>cases e
 |fn a=>cases e
def BU:List String:= ["NoneType","bool","int","str","tuple","list","dict"]
theorem Gp {d:D}{n:String}(e:VX d=some n):n∈BU:=by
 cases d<;>cases e<;>decide
def Aw (K:PySem.W.Frag):Prop:= ∀n∈BU,∀T∈ ["tuple","int","bool","list","str"],PySem.W.kitOne K (.type n) (.type T)=some (BT T n)
theorem BV (K:PySem.W.Frag):Aw K:=by
 intro n hn T hT;simp only [BU,G4,P5,T4] at hn hT;rcases hn with rfl|rfl|rfl|rfl|rfl|rfl|rfl<;>rcases hT with rfl|rfl|rfl|rfl|rfl<;>with_unfolding_all rfl
theorem PD {X:Cx}(T:String):CallR X (.builtin "isinstance") (λxs H Q=> ∃x t b,xs= [x,.ty T]/\TyOf X.K H x t/\PySem.W.kitOne X.K t (.type T)=some b/\Q (.bl b) H):=by
 intro pins s σ H xs us Q I r h;obtain⟨x,t,b,rfl,ty,e,q⟩:=h;obtain⟨u,w',rfl,rx,rt⟩:=RN r;cases (show w'=Value.type T from rt);exact Pk I rx ty e λtk=>⟨.bl b,H,I.tok tk,rfl,q⟩
def dIs (T:String)(ta:TED):TED:=λσ h Q=>ta σ h λx h1=> ∃n,VX x=some n/\Q (.bl (BT T n)) h1
theorem Ax {X:Cx}{a:Expr}{ta:TED}{T:String}{t:Str}{p p2 pos:Pos}(hT:T∈ ["tuple","int","bool","list","str"])(hg:Gl X "isinstance")(hm:X.mg "isinstance" =none)(hg2:Gl X t)(hm2:X.mg t=none)(hv:bootBuiltins t=some (.type T))(ha:QE X a ta)
 (hn:t≠ "__name__" :=by decide)(hd:(t==("__debug__" :Str))=false:=by decide)
 (h1:starEach [a,.Name t p2] X.env=(false,eval a X.env)::starEach [.Name t p2] X.env:=by rfl)(h2:(backTo pos (starEach [.Name t p2] X.env)).any (·.1)=false:=by rfl):
 QE X (.Call (.Name "isinstance" p) [a,.Name t p2] [] pos) (dIs T ta):=
 (Yv (PD T) hg hm PyProof.Rows.boot_isinstance (yT ha (yT (NU (v:= .ty T) hg2 hm2 hv rfl hn hd) pa_nil (by rfl)) h1) (by decide) (by decide) h1 h2).imp
  λσ H Q ⟨σd,h,Qd,rs,rh,t,p⟩=>LE.bind rs rh t λd v h1 H1 k1 rs1 rh1 r1 ⟨n,e,q⟩=>⟨v,.type n,BT T n,rfl,Mg r1 e,BV _ n (Gp e) T hT,p (.bl _) _ _ _ k1 rh1 rfl q⟩
theorem PF (bs:List Bool):(List.range bs.length).all (λi=>bs.getD i false)=bs.all id:=by
 induction bs with
 |nil=>rfl
 |cons b bs ih=>
  rw [P8,List.range_succ_eq_map,List.all_cons,O0,List.all_cons];show (b&&_)=(b&&bs.all id);rw [<-ih];rfl
theorem PH {bs:List Bool}{its:List Value}(r:Vals (bs.map V.bl) its){i:Nat}{v:Value}(e:its[i]? =some v):v= .bool (bs.getD i false):=by
 have hl:=r.length;rw [G0] at hl;have hi:i<its.length:=(G9.mp e).1;have hb:(bs.map V.bl)[i]? =some (.bl bs[i]):=by rw [G6,G3 (by omega)];rfl
 obtain⟨u,e1,r1⟩:=r.get hb;rw [e] at e1;cases e1;rw [P9,G3 (by omega)];exact r1
section
variable {X:Cx}
theorem YC (hc:X.calm=true):CallR X (.builtin "all") (λxs H Q=> ∃ (a:Addr) (bs:List Bool),xs= [.ref a]/\SqL X.K H a (bs.map V.bl)/\Q (.bl (bs.all id)) H):=by
 intro pins s σ H xs us Q I r h;obtain⟨a,bs,rfl,hS,q⟩:=h;obtain⟨u,rfl,ru⟩:=ZB r;cases ru;obtain⟨its,rv,pl,hz⟩:=I.list hS;have hl:=pl.isList;have hlt:a<s.heap.objs.size:=by obtain⟨_,e,_⟩:=hl;exact P6 e
 refine call_all_walk (O6 hl ?_);refine⟨s.heap.objs.size,_,_,_,_,_,λi=>bs.getD i false,rfl,Walks.list (A:=X.A.in1) (show X.A.in1.handled=none from I.ok.hd hc) s.heap.objs.size a (D9 hlt) its.toArray,⟨⟨_,D1 _ rfl,rfl,rfl⟩,hl.push _⟩,?_,λh' tk hk=> ?_⟩
 ·intro i v s' Q' E' hP hQ;have e:its[i]? =some v:=by simpa using hP
  rw [PH rv e];exact B1 hQ
 ·have hn:its.toArray.size=bs.length:=by rw [G7,<-rv.length,G0]
  rw [hn,PF];exact⟨.bl _,H,I.kept (t':=tk) (λb o e=>hk b o (λz=>by rw [G8.mp z] at e;exact absurd (P6 e) (S1 _)) (G1 _ e)),rfl,q⟩
theorem Wd {K:PySem.W.Frag}{H:Hp}: ∀ {bs:List Bool} {vs:List V},RelDs K H (bs.map D.bl) vs->vs=bs.map V.bl
 | [],_,h=>h
 |b::bs,vs,h=>by
  obtain⟨v,r,e,h1,h2⟩:=(show ∃v r,vs=v::r/\RelD K H (.bl b) v/\RelDs K H (bs.map D.bl) r from h);rw [e,Wd h2,(show v= .bl b from h1)];rfl
def Lk:RDn:=λds h Q=> ∃ (a:Addr) (bs:List Bool),ds= [.lst a]/\h a=some (bs.map D.bl)/\Q (.bl (bs.all id)) (zd h a)
theorem Yf (hc:X.calm=true):vU X (.builtin "all") Lk:=(YC hc).imp λxs H Q ⟨ds,h,Qd,r,rh,⟨a,bs,e,hd,q⟩,p⟩=>by
 subst e;obtain⟨v,e,r1⟩:=jJ r;obtain⟨vs,hH,r2⟩:=rh a _ hd;have e1:v= .ref a:=r1.1;rw [Wd r2] at hH;subst e e1;exact⟨a,bs,rfl,SqL.of hH,p (.bl _) _ _ _ (.refl H) (rh.sub (Sub.drop h a)) rfl q⟩
end
def Ep (to:TED)(te:TED):TED:=λσ h Q=>to σ h λx h1=> ∃a,x= .lst a/\te σ h1 λy h2=> ∃xs,h2 a=some xs/\xs.length<sizeLine/\Q .non (zY h2 a (xs++ [y]))
section
variable {X:Cx}{o e i:Expr}{to te ti:TED}{apos cpos pos:Pos}
theorem Sd (ho:QE X o to)(he:QE X e te)(hbase:attributeBase o "append" X.env (eval o X.env)=eval o X.env:=by rfl)
 (hfew:((backTo cpos (starEach [e] X.env)).all (λx=> !x.1)&&(backToKw cpos (keywordEach [] X.env)).all (λx=>x.1.isSome)&&decide ([e].length+([]:List Keyword).length+(if ([]:List Keyword).isEmpty then 0 else 1)<30))=true:=by rfl)
 (hline:(apos.endLine==cpos.line)=true:=by rfl)(hs:starEach [e] X.env=(false,eval e X.env)::starEach [] X.env:=by rfl)(hplain:(backTo cpos (starEach [] X.env)).any (·.1)=false:=by rfl):
 QE X (.Call (.Attribute o "append" apos) [e] [] cpos) (Ep to te):=
 (Bl E4 PySem.F.slot_list_append PySem.F.type_list_append Pp ho (yT he pa_nil hs) hbase hfew hline hs hplain).imp
  λσ H Q ⟨σd,h,Qd,rs,rh,t,p⟩=>LE.bind rs rh t λd v h1 H1 k1 rs1 rh1 r1 ⟨a,e,q⟩=>by
   subst e;obtain⟨e1,vs,hH⟩:=(show v= .ref a/\ ∃vs,H1 a=some (.lst vs) from r1);subst e1;refine⟨.inl ⟨rfl,vs,SqL.of hH⟩,?_⟩;refine LE.bind rs1 rh1 q λy u h2 H2 k2 rs2 rh2 r2 ⟨xs,hx,hz,q2⟩=> ?_
   obtain⟨ws,hW,r3⟩:=rh2 a xs hx;refine⟨a,ws,u,rfl,rfl,hW,by rw [<-r3.length];exact hz,p .non _ _ _ (k1.trans (k2.trans (.put hW))) (rh2.put hW (r3.append (.cons r2 .nil))) rfl q2⟩
def Ll (to ti:TED):TGD:=λd σ h Q=>to σ h λo h1=>ti σ h1 λi h2=> ∃a k xs j,o= .lst a/\i= .int k/\h2 a=some xs/\ixN xs.length k=some j/\Q σ (zY h2 a (xs.set j d))
theorem Lm (ho:QE X o to)(hi:QE X i ti)
 (ha: ∀v,assign (.Subscript o i pos) X.env v=(do
  let ov <-holding [v] (eval o X.env)
  let iv <-holding [v,ov] (eval i X.env)
  standAt pos
  holding [v,ov,iv] (setItem ov iv v)
  release [v,ov,iv] []):=by intro _;rfl):QG X (.Subscript o i pos) (Ll to ti):=
 (Fi ho hi RR ha).imp λv σ H Q ⟨d,σd,h,Qd,r,rs,rh,q,p⟩=>
  LE.bind rs rh q λd1 v1 h1 H1 k1 rs1 rh1 r1 q1=>LE.bind rs1 rh1 q1 λd2 v2 h2 H2 k2 rs2 rh2 r2 ⟨a,k,xs,j,e1,e2,hx,hj,q2⟩=>by
   subst e1 e2;have e3:v1= .ref a:=(r1.mono k2).1;obtain⟨ws,hW,r3⟩:=rh2 a xs hx;refine⟨a,ws,k,j,e3,r2,hW,by rw [<-r3.length];exact hj,p _ _ _ _ (k1.trans (k2.trans (.put hW))) (rs2.mono (.put hW)) (rh2.put hW (RelDs.set ((r.mono k1).mono k2) j r3)) q2⟩
end
def Nr (N:List Str)(sc:List (Str×NameKind))(scope:Scope)(js:List Nat):Bool:=
 scope.kind== .function&&scope.names.all (λp=>p.2 != .cell||scope.names.lookup p.1==some .cell)&&scope.names.all (λp=>p.2 != .local||scope.names.lookup p.1==some .local)&&
 scope.names.all (λp=>p.2 != .free||sc.lookup p.1==some .cell||sc.lookup p.1==some .free)&&
 (List.range N.length).all λi=>(scope.names.lookup (N.getD i Str.empty) !=some .local&&scope.names.lookup (N.getD i Str.empty) !=some .cell)||js.contains i
theorem jz {X:Cx}{scope:Scope}{js:List Nat}(h:Nr X.N X.env.scope.names scope js=true):BlockOk X scope js:=by
 unfold Nr at h;simp only [R4] at h;obtain⟨⟨⟨⟨h1,h2⟩,h3⟩,h4⟩,h5⟩:=h;refine⟨eq_of_beq h1,λp hp e=> ?_,λp hp e=> ?_,λp hp e=> ?_,λi x e1 e2=> ?_⟩
 ·have:=R5.mp h3 p hp;rw [e] at this;simpa using this
 ·have:=R5.mp h2 p hp;rw [e] at this;simpa using this
 ·have:=R5.mp h4 p hp;rw [e] at this;simpa using this
 ·have hi:i<X.N.length:=(G9.mp e1).1;have:=R5.mp h5 i (D3.mpr hi);rw [P9,e1,A3] at this;rcases e2 with e2|e2<;>(rw [e2] at this;simpa using this)
theorem qpt {X:Cx}{e:Expr}{t:TTD}(h:QW X e t):QT X e t:=h.pt
theorem Xm {i:Nat}{js:List Nat}{ti:TID}{te:TED}{σ:SD}{h h1:HD}{Q:KD}{ds:List D}{j:ItD}(f:D->D)(hz:ds.length<=sizeLine)(hj:j h1=some ds)
 (ht: ∀R:ItD->HD->Prop,R j h1->ti σ h R)(he: ∀d∈ds,∀Q':KD,Q' (f d) h1->te ((wN js σ).set i (some d)) h1 Q')(hq: ∀p,h1 p=none->Q (.lst p) (zY h1 p (ds.map f))):Ye (bN i) js ti WI te σ h Q:=by
 refine ht _ ⟨ds.length,λk ys h'=>h'=h1/\ys=(ds.take k).map f,⟨rfl,by simp⟩,?_⟩;rintro k ys h' ⟨rfl,rfl⟩;refine⟨by simp only [G0,T1];omega,ds,hj,G5 _,λhl p hp=> ?_,λd hd=>⟨_,rfl,?_⟩⟩
 ·rw [B0 hl];exact hq p hp
 ·unfold WI;dsimp only;rw [if_pos rfl];refine he d (R8 hd) _ ⟨h',Sub.refl _,rfl,?_⟩;rw [B9,hd];simp
end L2
namespace HT
open PySem PySem.Spec PyProof.Rows
section
variable {prog:Program}{w:World}{A:Around}{E:Value->Shared->Prop}{s:Shared}
theorem vV {t sl:Addr}{items:Array Value}{vl vu:Value}{lo hi:Option Int}{Q:Value->Shared->Prop}(ht:IsTup s.heap t items)(hs:s.heap.IsSliceOf sl vl vu .none)(pl:IsPart vl lo)(pu:IsPart vu hi)
 (hw:sIx items.size 0 lo=0/\sIx items.size items.size hi=items.size)(h:Q (.ref t) s):wpAny (model prog w) A (getItem (.ref t) (.ref sl)) Q E s:=by
 obtain⟨os,hos,hcs,hds⟩:=id hs;have hTs:s.TypeIs (.ref sl) "slice" :=⟨os,hos,hcs⟩;unfold getItem
 try with_reducible refine M7 ?_
 first|refine wpAny_bind (G2 ?_)|skip
 refine wpAny_bind (V0 ht.typeIs (by decide) ?_);refine wpAny_bind (S9 (name:=Str.ofString "__getitem__") ht.typeIs S8
  (M8 S8 ht.typeIs K9 ?_ (U2 _ _)))
 show wpAny _ _ (Builtin.Tuple.tupleItemsOf (.ref t) >>= _) _ _ s;refine wpAny_bind (tupleItemsOf_ ht ?_);refine wpAny_bind (J4 hTs ?_);rw [if_pos (by decide)];refine wpAny_bind (yP hs pl pu ?_);have hyes:((((sIx items.size 0 lo:Nat):Int)==0&&(1:Int)==1&&(sIx items.size items.size hi-sIx items.size 0 lo)==items.size)=true):=by
  rw [hw.1,hw.2];simp
 show wpAny _ _ (if (((sIx items.size 0 lo:Nat):Int)==0&&(1:Int)==1&&(sIx items.size items.size hi-sIx items.size 0 lo)==items.size)=true then _ else _) _ _ s;rw [if_pos hyes];refine wpAny_bind (m:=Builtin.Tuple.tupleIsExact (.ref t)) ?_;unfold Builtin.Tuple.tupleIsExact;refine wpAny_bind (J4 ht.typeIs (G2 ?_));rw [if_pos (by decide)];exact wpAny_bind (X5 (G2 ⟨_,rfl,G2 h⟩))
end
end HT
namespace L2
open PySem PySem.Spec PyProof.Rows
def Se (K:PySem.W.Frag):V->Option Int->Option Int->Hp->VK->Prop:=λx lo hi H Q=> ∃a xs,x= .ref a/\SqT K H a xs/\(HT.sIx xs.length 0 lo=0/\HT.sIx xs.length xs.length hi=xs.length)/\Q (.ref a) H
variable {X:Cx}
theorem sl_whole:SlR X (Se X.K):=by
 intro pins s σ H x v vl vu lo hi sl Q I rx hs pl pu h;obtain⟨a,xs,rfl,hx,hw,q⟩:=h;cases rx;obtain⟨its,r,ht,hz⟩:=I.tuple hx;have hlen:its.toArray.size=xs.length:=by rw [G7];exact r.length.symm
 refine⟨"tuple",_,PyProof.Rows.slot_tuple_getitem.lookup,ht.typeIs,?_⟩;exact HT.vV ht hs pl pu (by rw [hlen];exact hw) ⟨.ref a,H,I,rfl,q⟩
def vB {α:Type}(xs:List α)(lo hi:Option Int):List α:=(xs.drop (HT.sIx xs.length 0 lo)).take (HT.sIx xs.length xs.length hi-HT.sIx xs.length 0 lo)
abbrev TOD:=SD->HD->(Option Int->HD->Prop)->Prop
def PJ:TOD:=λ_ h Q=>Q none h
def Ln (t:TED):TOD:=λσ h Q=>t σ h λx h1=> ∃i,x= .int i/\Q (some i) h1
def LO (K:PySem.W.Frag)(t:TOD):TO:=λσ H Q=> ∃σd h Qd,RelS K H σd σ/\RelH K h H/\t σd h Qd/\ ∀o h' H',Kept H H'->RelH K h' H'->Qd o h'->Q o H'
theorem LO.bind {K:PySem.W.Frag}{ta:TOD}{σ:St}{H:Hp}{σd:SD}{h:HD}{kd:Option Int->HD->Prop}{k:Option Int->Hp->Prop}(rs:RelS K H σd σ)(rh:RelH K h H)(t:ta σd h kd)(f: ∀o h' H',Kept H H'->RelS K H' σd σ->RelH K h' H'->kd o h'->k o H'):LO K ta σ H k:=
 ⟨σd,h,kd,rs,rh,t,λo h' H' kp r1 q=>f o h' H' kp (rs.mono kp) r1 q⟩
theorem PO.imp {e:Option Expr}{t t':TO}(h:PO X e t)(i: ∀σ H Q,t' σ H Q->t σ H Q):PO X e t':=λpins s σ H Q I q=>h pins s σ H Q I (i σ H Q q)
abbrev QO (X:Cx)(e:Option Expr)(t:TOD):Prop:=PO X e (LO X.K t)
theorem BW:QO X none PJ:=po_none.imp λσ H Q ⟨σd,h,Qd,rs,rh,q,p⟩=>p none h H (.refl H) rh q
theorem BX {e:Expr}{te:TED}(he:QE X e te):QO X (some e) (Ln te):=(Bj he).imp λσ H Q ⟨σd,h,Qd,rs,rh,q,p⟩=>
 LE.bind rs rh q λd v h1 H1 k1 rs1 rh1 r1 ⟨i,e,q1⟩=>by subst e;exact⟨i,r1,p _ _ _ k1 rh1 q1⟩
def slD:D->Option Int->Option Int->HD->KD->Prop:=λx lo hi h Q=>match x with
 | .tup ds=>Q (.tup (vB ds lo hi)) h
 | .scr ns=> ∀p,h p=none->Q (.lst p) (zY h p ((vB ns lo hi).map D.int))
 | .lst a=> ∃ds,h a=some ds/\ ∀p,h p=none->Q (.lst p) (zY h p (vB ds lo hi))
 |_=>False
def dSl (te:TED)(tl th:TOD):TED:=λσ h Q=>te σ h λx h1=>tl σ h1 λl h2=>th σ h2 λu h3=>slD x l u h3 Q
theorem YD {K:PySem.W.Frag}{H:Hp}{ds:List D}{vs:List V}(r:RelDs K H ds vs)(lo hi:Option Int):RelDs K H (vB ds lo hi) (Rx vs lo hi):=by
 unfold vB Rx;rw [r.length];exact(r.drop _).take _
theorem BY {α β:Type}(f:α->β)(xs:List α)(lo hi:Option Int):vB (xs.map f) lo hi=(vB xs lo hi).map f:=by
 unfold vB;rw [G0,Z1,V9]
theorem Lo {e:Expr}{te:TED}{lo hi:Option Expr}{tl th:TOD}{pos p2:Pos}(he:QE X e te)(hl:QO X lo tl)(hu:QO X hi th):QE X (.Subscript e (.Slice lo hi none p2) pos) (dSl te tl th):=
 (RQ (sl_tup.or (sl_whole.or Bk)) he hl hu).imp λσ H Q ⟨σd,h,Qd,rs,rh,q,p⟩=>
  LE.bind rs rh q λd v h1 H1 k1 rs1 rh1 r1 q1=>LO.bind rs1 rh1 q1 λl h2 H2 k2 rs2 rh2 q2=>LO.bind rs2 rh2 q2 λu h3 H3 k3 rs3 rh3 q3=>by
   have rv:=(r1.mono k2).mono k3;have kk:=k1.trans (k2.trans k3);cases d<;>first
    |exact False.elim q3
    |skip
   ·rename_i ds;obtain⟨a,vs,e1,hH,r⟩:=(show ∃a vs,v= .ref a/\H3 a=some (.tup vs)/\RelDs X.K H3 ds vs from rv)
    by_cases hw:HT.sIx vs.length 0 l=0/\HT.sIx vs.length vs.length u=vs.length
    ·refine .inr (.inl ⟨a,vs,e1,SqT.of hH,hw,p (.tup (vB ds l u)) _ _ _ kk rh3 ⟨a,vs,rfl,hH,?_⟩ q3⟩);have z:=YD r l u;have e:Rx vs l u=vs:=by unfold Rx;rw [hw.1,hw.2];simp
     rwa [e] at z
    ·exact .inl ⟨a,vs,e1,SqT.of hH,hw,λc hc=>p (.tup (vB ds l u)) _ _ _ (kk.trans (.new hc)) (rh3.new hc) ⟨c,_,rfl,jy,(YD r l u).mono (.new hc)⟩ q3⟩
   ·rename_i a;obtain⟨ds,hd,q3⟩:=q3;obtain⟨vs,hH,r⟩:=rh3 a ds hd;exact .inr (.inr ⟨a,vs,rv.1,SqL.of hH,λc hc=>p (.lst c) _ _ _ (kk.trans (.new hc)) (rh3.newL hc (YD r l u)) ⟨rfl,_,jy⟩ (q3 c (rh3.free hc))⟩)
   ·rename_i ns;obtain⟨a,e1,hS⟩:=(show ∃a,v= .ref a/\Scr X.K H3 a ns from rv);refine .inr (.inr ⟨a,_,e1,hS.sq,λc hc=>p (.lst c) _ _ _ (kk.trans (.new hc)) (rh3.newL hc ?_) ⟨rfl,_,jy⟩ (q3 c (rh3.free hc))⟩);have z:=YD (JN (K:=X.K) (H:=H3) ns) l u
    rwa [BY] at z
end L2
namespace HT
open PySem PySem.Spec PyProof.Rows
open Sem (wp)
open Builtin
theorem ZC:fillsNumberSlot (.type "tuple") "mul" =pure false:=
 PySem.fillsNumberSlot_seq (id:= "tuple.__mul__") (r:=some (.builtin "tuple.__rmul__")) F.slot_tuple_mul.lookup (by decide +kernel) F.slot_tuple_rmul.lookup (by decide +kernel)
theorem VY:seqRepeat? (.type "tuple")=pure (some (.builtin "tuple.__mul__")):=by
 unfold seqRepeat?;rw [PySem.seqSlot_of (T:= "tuple") (name:= "__mul__") (id:= "tuple.__mul__") F.slot_tuple_mul.lookup (by decide +kernel),PySem.seqSlot_of (T:= "tuple") (name:= "__rmul__") (id:= "tuple.__rmul__") F.slot_tuple_rmul.lookup (by decide +kernel)];rfl
section
variable {prog:Program}{w:World}{A:Around}{E:Value->Shared->Prop}{s:Shared}
theorem YE {k:Int}{t:Tok}{l:Addr}{o:Obj}{its:Array Value}{n:Nat}{P:PySem.Fin->Shared->Prop}(at_:s.heap.get? l=some o)(tup:o.cls= .type "tuple")(dat:o.data= .seq its n)(h:P (.done (.ret .notImplemented)) s):wpAny (model prog w) A (Builtin.«int.__rmul__» ⟨[.int k t,.ref l],[]⟩) P E s:=by
 obtain⟨c,dd,dt,sl⟩:=o;cases tup;cases dat;obtain⟨hp,g,d,tk,os⟩:=s
 wp_walk
 exact h
theorem Xn {l:Addr}{its:Array Value}{n:Nat}{x:Int}{u:Tok}{dd:Option Addr}{sl:Array (Option Value)}{P:PySem.Fin->Shared->Prop}(at_:s.heap.get? l=some {cls:= .type "tuple",dict:=dd,data:= .seq its n,slots:=sl})(fits: -(2^63)<=x/\x<2^63)
 (same:(its.isEmpty||x==1)=true->P (.done (.ret (.ref l))) s)
 (gone:(its.isEmpty||x==1)=false->(decide (x<=0)||its.isEmpty)=true->P (.done (.ret (.ref s.heap.objs.size))) {s with heap:=s.heap.push {cls:= .type "tuple",data:= .seq #[]}})
 (more:(its.isEmpty||x==1)=false->(decide (x<=0)||its.isEmpty)=false-> ¬ (its.size:Int)*x>(2^63-1) / 8/\Builtin.Tuple.tupleTooMany ((its.size:Int)*x)=false/\((List.replicate x.toNat its).foldl (· ++ ·) #[]).size<=sizeLine/\
  P (.done (.ret (.ref s.heap.objs.size))) {s with heap:=s.heap.push {cls:= .type "tuple",data:= .seq ((List.replicate x.toNat its).foldl (· ++ ·) #[])}}):
 wpAny (model prog w) A (Builtin.«tuple.__mul__» ⟨[.ref l,.int x u],[]⟩) P E s:=by
 obtain⟨hp,g,d,tk,os⟩:=s
 wp_walk
 rw [if_neg (by simp only [Q1,F7];omega)]
 wp_walk
 cases c1:(its.isEmpty||x==1) with
 |true=>
  rw [if_pos rfl]
  wp_walk
  exact same c1
 |false=>
  rw [if_neg P1];cases c2:(decide (x<=0)||its.isEmpty) with
  |true=>
   rw [if_pos rfl]
   wp_walk
   exact gone c1 c2
  |false=>
   obtain⟨m1,m2,m3,m4⟩:=more c1 c2;rw [if_neg P1];dsimp only;rw [if_neg m1,m2,if_neg P1]
   wp_walk
   exact m4
end
end HT
namespace L2
open PySem PySem.Spec PyProof.Rows
def Ay (K:PySem.W.Frag):R2:=λx y H Q=> ∃ (a:Addr) (k:Int) (xs:List V),x= .ref a/\y= .int k/\SqT K H a xs/\ -(2^63)<=k/\k<2^63/\xs.length*k.toNat<=sizeLine/\
 ((xs= []\/k=1)->Q (.ref a) H)/\(¬ (xs= []\/k=1)-> ∀p,H p=none->Q (.ref p) (upd H p (.tup (List.replicate k.toNat xs).flatten)))
theorem ZP {l:List Value}:l.toArray= #[]↔l= []:=by cases l<;>simp
theorem BZ {X:Cx}:OpR X (binaryOp .Mult) (Ay X.K):=by
 intro pins s σ H x y v u Q I rx ry h;obtain⟨a,k,xs,rfl,rfl,hH,h1,h2,hz,q1,q2⟩:=h;cases rx;obtain⟨t,rfl⟩:=ry;obtain⟨its,r,ht,_⟩:=I.tuple hH;obtain⟨⟨cls,dd,data,sl⟩,ho,hc,n,hd⟩:=id ht;simp only at hc hd;subst hc hd;have hl:=r.length;have hnew:(List.replicate k.toNat its.toArray).foldl (· ++ ·) #[]=(List.replicate k.toNat its).flatten.toArray:=by
  have:=ZW its k.toNat [];rw [M6] at this;exact this
 have few:its.length*k.toNat<=sizeLine:=by rw [<-hl];exact hz
 have free:=I.hok.fresh (G5 _);refine U8 (T:= "tuple") (U:= "int") (by decide) ⟨_,ho,rfl⟩ (λs'=>X7 s' k t) HT.ZC F.fills_int_mul Q0 HT.VY F.slot_int_index.lookup
  (M8 Q0 (X7 s k t) F.entry_int_rmul (HT.YE ho rfl rfl ⟨_,rfl,rfl,⟨_,ho,rfl⟩,M8 F.slot_tuple_mul ⟨_,ho,rfl⟩ F.entry_tuple_mul (HT.Xn ho ⟨h1,h2⟩ (λc=> ?_) (λc c0=> ?_) (λc c0=> ?_)) (F.args_tuple_mul_2 _ _)⟩) (F.args_int_rmul_2 _ _))
 ·refine⟨_,rfl,.ref a,H,I,rfl,q1 ?_⟩;simp only [Q1,Z3,Array.isEmpty_iff,ZP] at c;exact c.imp (λe=>r.nil_iff.mp e) id
 ·simp only [Y1,F9,Q9,ne_eq,ZP] at c;have k0:k.toNat=0:=by
   simp only [Q1,F7,Array.isEmpty_iff,ZP] at c0;have:=c0.resolve_right c.1;omega
  have last:=q2 (λz=>z.elim (λe=>c.1 (r.nil_iff.mpr e)) c.2) _ free;rw [k0] at last;exact⟨_,rfl,.ref s.heap.objs.size,_,I.laid (t':=s.toks) (o:= .tup []) (λb ob q=>G1 _ q) (G5 _) ⟨by decide,[],.nil,IsTupN.new _ _⟩,rfl,last⟩
 ·simp only [Y1,F9,Q9,ne_eq,ZP,decide_eq_false_iff_not] at c c0;have em:((its.toArray.size:Nat):Int)*k=((its.length*k.toNat:Nat):Int):=by rw [Int.natCast_mul,G7,show ((k.toNat:Nat):Int)=k by omega]
  have cap:(sizeLine:Nat)<=(2^63-1) / 8:=by decide
  rw [em,hnew];refine⟨by omega,by unfold Builtin.Tuple.tupleTooMany;exact decide_eq_false (by omega),by rw [List.size_toArray,Xh,Nat.mul_comm];exact few,_,rfl,.ref s.heap.objs.size,_,I.laid (t':=s.toks) (o:= .tup (List.replicate k.toNat xs).flatten) (λb ob q=>Heap.get?_push_of_some _ q) (Nat.le_refl _) ⟨by rw [Xh,Nat.mul_comm];exact hz,_,r.rep k.toNat,IsTupN.new _ _⟩,rfl,q2 (λz=>z.elim (λe=>c.1 (r.nil_iff.mpr e)) c.2) _ free⟩
def Eq:RD2:=λx y h Q=>match x,y with
 | .tup ds,.int k=> -(2^63)<=k/\k<2^63/\ds.length*k.toNat<=sizeLine/\Q (.tup (List.replicate k.toNat ds).flatten) h
 |x,y=>Eo x y h Q
theorem We {X:Cx}:OpQ X (binaryOp .Mult) Eq:=(oq_mul.or BZ).imp λx y H Q ⟨dx,dy,h,Qd,rx,ry,rh,q,p⟩=>by
 by_cases ht: ∃ds k,dx= .tup ds/\dy= .int k
 ·obtain⟨ds,k,e1,e2⟩:=ht;subst e1 e2;obtain⟨b1,b2,hz,q⟩:=q;obtain⟨a,vs,e,hH,r⟩:=(show ∃a vs,x= .ref a/\H a=some (.tup vs)/\RelDs X.K H ds vs from rx);refine .inr ⟨a,k,vs,e,ry,SqT.of hH,b1,b2,by rw [<-r.length];exact hz,λhs=> ?_,λ_ c hc=>p (.tup _) _ _ _ (.new hc) (rh.new hc) ⟨c,_,rfl,jy,(r.flat _).mono (.new hc)⟩ q⟩;refine p (.tup _) _ _ _ (.refl H) rh ⟨a,vs,rfl,hH,?_⟩ q;rcases hs with e0|e1
  ·subst e0;have:ds= []:=E3.mp r.length;subst this;simpa using r
  ·subst e1;simpa using r
 ·refine .inl ⟨dx,dy,h,Qd,rx,ry,rh,?_,p⟩;unfold Eq at q;split at q
  ·exact absurd ⟨_,_,rfl,rfl⟩ ht
  ·exact q
def Ow:D->HD->KD->Prop:=λx h Q=>match x with
 | .int i=>Q (.int (-i)) h
 |_=>False
def dUn (f:D->HD->KD->Prop)(ta:TED):TED:=λσ h Q=>ta σ h λx h1=>f x h1 Q
theorem Er {X:Cx}{a:Expr}{ta:TED}{pos:Pos}(ha:QE X a ta):QE X (.UnaryOp .USub a pos) (dUn Ow ta):=
 (OG Fs ha).imp λσ H Q ⟨σd,h,Qd,rs,rh,t,p⟩=>LE.bind rs rh t λd v h1 H1 k1 rs1 rh1 r1 q=>by
  cases d<;>first
   |exact False.elim q
   |exact⟨_,r1,p (.int _) _ _ _ k1 rh1 rfl q⟩
end L2
namespace HT
open PySem PySem.Spec PyProof.Rows
section
variable {prog:Program}{w:World}{A:Around}{E:Value->Shared->Prop}{s:Shared}
theorem Gq (n:Nat):Builtin.Slice.sliceAdjust none none (-1) (n:Int)=((n:Int)-1,-1):=rfl
theorem Gr (n:Nat):Builtin.Slice.slicePlaces ((n:Int)-1) (-1) (-1)=n:=by
 unfold Builtin.Slice.slicePlaces;have h1: ¬ ((-1:Int)>0):=by omega
 simp only [h1,Z0,show (- -1:Int)=1 by decide,Int.ediv_one];split<;>omega
theorem Mh (xs:Array Value):((List.range xs.size).filterMap λ(k:Nat)=>xs[((xs.size:Int)-1+(k:Int)*(-1)).toNat]?).toArray=xs.toList.reverse.toArray:=by
 have e:(λ(k:Nat)=>xs[((xs.size:Int)-1+(k:Int)*(-1)).toNat]?)=(λk=>xs[xs.size-1-k]?):=by
  funext k
  have:((xs.size:Int)-1+(k:Int)*(-1)).toNat=xs.size-1-k:=by omega
  rw [this]
 rw [e];have h2:(List.range xs.size).filterMap (λk=>xs[xs.size-1-k]?)=((List.range xs.size).map (λk=>xs.size-1-k)).filterMap (xs[·]?):=by rw [List.filterMap_map];rfl
 rw [h2,PySem.W.krv_range,List.filterMap_reverse,PySem.W.krv_all]
theorem JP {t sl:Addr}{items:Array Value}{u:Tok}{Q:Value->Shared->Prop}(ht:IsTup s.heap t items)(hs:s.heap.IsSliceOf sl .none .none (.int (-1) u))
 (h:Q (.ref s.heap.objs.size) {s with heap:=s.heap.push {cls:= .type "tuple",data:= .seq items.toList.reverse.toArray}})
 (hsz:items.size<=sizeLine):wpAny (model prog w) A (getItem (.ref t) (.ref sl)) Q E s:=by
 have htake:sizeOk (.seq items.toList.reverse.toArray):=by
  show items.toList.reverse.toArray.size<=sizeLine;rw [G7,L0,P2];exact hsz
 obtain⟨os,hos,hcs,hds⟩:=id hs;have hTs:s.TypeIs (.ref sl) "slice" :=⟨os,hos,hcs⟩;unfold getItem
 try with_reducible refine M7 ?_
 first|refine wpAny_bind (G2 ?_)|skip
 refine wpAny_bind (V0 ht.typeIs (by decide) ?_);refine wpAny_bind (S9 (name:=Str.ofString "__getitem__") ht.typeIs S8
  (M8 S8 ht.typeIs K9 ?_ (U2 _ _)))
 show wpAny _ _ (Builtin.Tuple.tupleItemsOf (.ref t) >>= _) _ _ s;refine wpAny_bind (tupleItemsOf_ ht ?_);refine wpAny_bind (J4 hTs ?_);rw [if_pos (by decide)];have ap:wpAny (model prog w) A.in1 (Builtin.Slice.sliceApplied (.ref sl) (pure (items.size:Int))) (λr s'=>r=((items.size:Int)-1,-1,items.size)/\s'=s) (λ_ _=>False) s:=by
  unfold Builtin.Slice.sliceApplied Builtin.Slice.sliceFields;refine wpAny_bind (wpAny_bind (K8 hos hds (x:= .none) rfl (wpAny_bind (K8 hos hds (x:= .none) rfl (wpAny_bind (K8 hos hds (x:= .int (-1) u) rfl (G2 ?_)))))));refine wpAny_bind (slicePart_int ?_);show wpAny _ _ (if ((-1:Int)==0)=true then _ else _) _ _ s;rw [if_neg (by decide)];refine wpAny_bind (U7 (wpAny_bind (U7 (wpAny_bind (G2 ?_)))));show wpAny _ _ (match Builtin.Slice.sliceAdjust none none (-1) (items.size:Int) with|(lo,hi)=>pure (lo,(-1:Int),Builtin.Slice.slicePlaces lo hi (-1))) _ _ s;rw [Gq];show wpAny _ _ (pure ((items.size:Int)-1,(-1:Int),Builtin.Slice.slicePlaces ((items.size:Int)-1) (-1) (-1))) _ _ s;rw [Gr];exact G2 ⟨rfl,rfl⟩
 refine wpAny_bind (S7 ap (λr s' e=> ?_) λ_ _ z=>z.elim);obtain⟨rfl,rfl⟩:=e;have hno: ¬ ((((items.size:Int)-1)==0&&(-1:Int)==1&&items.size==items.size)=true):=by
  rw [show ((-1:Int)==1)=false by decide];simp
 show wpAny _ _ (if ((((items.size:Int)-1)==0&&(-1:Int)==1&&items.size==items.size)=true) then _ else _) _ _ s';rw [if_neg hno,Mh]
 first
  |exact wpAny_bind (m:=Builtin.Tuple.tupleExact _) (T9 (G2 ⟨_,rfl,G2 h⟩) htake)
  |exact wpAny_bind (m:=Builtin.Tuple.tupleExact _) (T9 (wpAny_bind (G2 (G2 ⟨_,rfl,G2 h⟩))) htake)
  |exact wpAny_bind (wpAny_bind (m:=Builtin.Tuple.tupleExact _) (T9 (G2 (G2 ⟨_,rfl,G2 h⟩)) htake))
  |exact wpAny_bind (wpAny_bind (m:=Builtin.Tuple.tupleExact _) (T9 (G2 ⟨_,rfl,G2 h⟩) htake))
end
end HT
namespace L2
open PySem PySem.Spec PyProof.Rows
def Es (te:TED):TED:=λσ h Q=>te σ h λx h1=> ∃ds,x= .tup ds/\Q (.tup ds.reverse) h1
theorem Vals.rev: ∀ {xs:List V} {us:List Value},Vals xs us->Vals xs.reverse us.reverse
 |_,_,.nil=> .nil
 |_,_,.cons r t=>by rw [J0,J0];exact(Vals.rev t).append (.cons r .nil)
variable {K:PySem.W.Frag}
theorem RelDs.rev {H:Hp}: ∀ {ds:List D} {vs:List V},RelDs K H ds vs->RelDs K H ds.reverse vs.reverse
 | [],_,h=>by cases (show _= [] from h);exact .nil
 |d::ds,vs,h=>by
  obtain⟨v,r,e,h1,h2⟩:=(show ∃v r,vs=v::r/\RelD K H d v/\RelDs K H ds r from h);subst e;rw [J0,J0];exact(RelDs.rev h2).append (.cons h1 .nil)
variable {X:Cx}{e:Expr}{te:TED}
theorem Sf {pos p2 p3 p4:Pos}{j:Nat}(he:QE X e te):QE X (.Subscript e (.Slice none none (some (.UnaryOp .USub (.Constant (.int 1) j p4) p3)) p2) pos) (Es te):=by
 intro pins s σ H Q I h;obtain⟨σd,h,Qd,rs,rh,t,p⟩:=h;refine Subscript_ (thn (he pins s σ H _ I (LE.bind rs rh t λd v h1 H1 k1 rs1 rh1 r1 q1=>(show ∃σd h1 d,RelS X.K H1 σd σ/\RelH X.K h1 H1/\RelD X.K H1 d v/\Kept H H1/\ ∃ds,d= .tup ds/\Qd (.tup ds.reverse) h1 from ⟨σd,h1,d,rs1,rh1,r1,k1,q1⟩))) λv s1 ⟨x,H1,I1,r1,q1⟩=> ?_);obtain⟨σd1,h1,d,rs1,rh1,rd,k1,ds,e1,q1⟩:=q1;subst e1;obtain⟨a,vs,e2,hH,r2⟩:=(show ∃a vs,x= .ref a/\H1 a=some (.tup vs)/\RelDs X.K H1 ds vs from rd);subst e2;cases r1;refine wpAny_Slice ?_;rw [evalPart_none];refine G2 ?_;refine G2 ?_;rw [evalPart_some];have hneg:LE X.K (dUn Ow (dC (.int 1))) σ H1 (λv H'=>v=V.int (-1)/\RelH X.K h1 H'/\Kept H1 H'):=
  ⟨σd1,h1,λd h'=>d= .int (-1)/\h'=h1,rs1,rh1,⟨rfl,rfl⟩,λd v h' H' k rh' r' e=>by
   obtain⟨e1,e2⟩:=e;subst e1 e2;exact⟨r',rh',k⟩⟩
 refine thn ((Er (El (X:=X) (i:=1) (j:=j) (pos:=p4)) (pos:=p3)) pins s1 σ H1 _ I1 hneg) λu s2 ⟨y,H2,I2,ry,ey,rh2,k2⟩=> ?_
 subst ey;obtain⟨tk,rfl⟩:=ry;have hH2:=k2.tup _ _ hH;have I4:Inv X pins σ H2 {s2 with heap:=s2.heap.push {cls:= .type "slice",data:= .fields #[.none,.none,.int (-1) tk]}}:=I2.kept (t':=s2.toks) λb ob q=>G1 _ q
 obtain⟨its,r,ht,hz⟩:=I4.tuple (SqT.of hH2);have hlen:its.toArray.size=vs.length:=by rw [G7];exact r.length.symm
 show wpAny (model X.prog X.w) X.A (subscriptTail e (.Slice none none (some (.UnaryOp .USub (.Constant (.int 1) j p4) p3)) p2) (.ref a) (.ref s2.heap.objs.size)) (EP X pins σ Q) X.xe {s2 with heap:=s2.heap.push {cls:= .type "slice",data:= .fields #[.none,.none,.int (-1) tk]}};refine tail_any (ops:= [.ref a,.ref s2.heap.objs.size]) ht.typeIs PyProof.Rows.slot_tuple_getitem.lookup ?_ (by with_unfolding_all rfl);refine HT.JP ht (Heap.IsSliceOf.new ..) ?_ (by rw [hlen];exact hz);have hf:=I4.hok.fresh (G5 _);refine⟨.ref _,_,I4.laid (t':=s2.toks) (o:= .tup vs.reverse) (λb ob q=>G1 _ q) (G5 _) ⟨by rw [L0];exact hz,_,Vals.rev r,IsTupN.new _ _⟩,rfl,?_⟩;exact p (.tup ds.reverse) _ _ _ (k1.trans (k2.trans (.new hf))) (rh2.new hf) ⟨_,_,rfl,jy,((r2.mono k2).rev).mono (.new hf)⟩ q1
def Qw (x:Str)(i:Int):TED:=λ_ h Q=>Q (.dic x i) h
variable {p:Addr}
theorem Mi {H:Hp}{a b:HO}:upd (upd H p a) p b=upd H p b:=by
 funext q;unfold upd;split<;>rfl
variable {x:Str}
theorem Lp {i:Int}{j k:Nat}{pos p1 p2:Pos}:QE X (.Dict [some (.Constant (.str x) j p1)] [.Constant (.int i) k p2] pos) (Qw x i):=by
 have h0:PPs X pos [some (.Constant (.str x) j p1)] [.Constant (.int i) k p2] [(tC (.str x),tC (.int i))]:=RU pe_str pe_int Bp;refine PE.imp (Bq h0 rfl rfl (by simp) (by simp)) ?_;rintro σ H Q ⟨σd,h,Qd,rs,rh,t,p⟩ q hq;show upd H q (.dK []) q=some (.dK [])/\_;refine⟨jy,[((Sum.inr x:Key),V.int i)],rfl,by simp,?_⟩;rw [Mi];exact p (.dic x i) (.ref q) h _ (.new hq) (rh.new hq) ⟨q,rfl,jy⟩ t
def Xo:List (Option Expr)->List Expr->Option (Str×Int)
 | [some (.Constant (.str x) _ _)],[.Constant (.int i) _ _]=>some (x,i)
 |_,_=>none
theorem Lq {ks:List (Option Expr)}{vs:List Expr}{pos:Pos}{i:Int}(h:Xo ks vs=some (x,i):=by rfl):QE X (.Dict ks vs pos) (Qw x i):=by
 unfold Xo at h;split at h
 ·cases h;exact Lp
 ·cases h
def Lr (K:PySem.W.Frag)(tl:TE):TI:=λσ H R=>tl σ H λx H1=> ∃a,x= .ref a/\((∃xs,SqL K H1 a xs/\R (Itl K a) H1)\/ ∃xs,SqT K H1 a xs/\R (Itt K a) H1)
theorem Ls {tg l:Expr}{tl:TE}(hl:PE X l tl):PI X tg l (Lr X.K tl):=by
 intro pins s σ H R I h;refine thn (hl pins s σ H _ I h) λv s1 ⟨x,H1,I1,r1,q1⟩=> ?_
 obtain⟨a,e,q⟩:=q1;subst e;cases r1;rcases q with ⟨xs,hq,q⟩|⟨xs,hq,q⟩
 ·obtain⟨its,rv,p,hz⟩:=I1.list hq;refine O6 p.isList ?_;refine⟨s1.heap.objs.size,[s1.heap.objs.size],_,_,H1,rfl,I1.kept (t':=s1.toks) λb o e=>G1 _ e,VG a _,⟨_,D1 _ rfl,rfl,rfl⟩,λb hb=> ?_,q⟩;have e:b=s1.heap.objs.size:=by simpa using hb
  subst e;exact I1.fpOk (G5 _) (I1.hok.fresh (G5 _))
 ·obtain⟨its,rv,p,hz⟩:=I1.tuple hq;refine F0 (show s1.heap.IsTuple a its.toArray from p) ?_;refine⟨s1.heap.objs.size,[s1.heap.objs.size],_,_,H1,rfl,I1.kept (t':=s1.toks) λb o e=>G1 _ e,Gf a _,⟨_,D1 _ rfl,rfl,rfl⟩,λb hb=> ?_,q⟩;have e:b=s1.heap.objs.size:=by simpa using hb
  subst e;exact I1.fpOk (G5 _) (I1.hok.fresh (G5 _))
def iS (te:TED):TID:=λσ h R=>te σ h λx h1=>match x with
 | .lst a=>R (λh=>h a) h1
 | .tup ds=>R (λ_=>some ds) h1
 | .scr ns=>R (λ_=>some (ns.map D.int)) h1
 |_=>False
variable {a:Addr}
theorem Mj {H:Hp}{ns:List Int}(hs:Scr K H a ns):BJ K H (λ_=>some (ns.map D.int)) (Itl K a):=λH' h' k rh ds' e i=>by
 cases e;have hs':Scr K H' a ns:=hs.elim (λ⟨o,z⟩=> .inl ⟨o,k.frz _ _ _ z⟩) .inr;refine⟨λd hd=> ?_,λhl=>⟨_,hs'.sq,by simpa using hl⟩⟩;obtain⟨v,e1,e2⟩:=(JN (K:=K) (H:=H') ns).get hd;refine⟨⟨_,v,hs'.sq,e1⟩,λx H'' ⟨eH,hx⟩=> ?_⟩;subst eH;have:=hx _ hs'.sq;rw [e1] at this;cases this;exact⟨.refl _,rh,e2⟩
theorem Lt: ∀σ H R,LI K (iS te) σ H R->Lr K (LE K te) σ H R:=λσ H R ⟨σd,h,Rd,rs,rh,q,p⟩=>
 LE.bind rs rh q λd v h1 H1 k1 rs1 rh1 r1 q1=>by
  cases d<;>first
   |exact False.elim q1
   |skip
  ·rename_i ds;obtain⟨a,vs,e,hv,r⟩:=(show ∃a vs,v= .ref a/\H1 a=some (.tup vs)/\RelDs K H1 ds vs from r1);exact⟨a,e,.inr ⟨vs,SqT.of hv,p _ _ _ _ k1 rh1 (Mc hv r) q1⟩⟩
  ·rename_i a;obtain⟨e,vs,hv⟩:=(show v= .ref a/\ ∃vs,H1 a=some (.lst vs) from r1);exact⟨a,e,.inl ⟨vs,SqL.of hv,p _ _ _ _ k1 rh1 (VW H1 a) q1⟩⟩
  ·rename_i ns;obtain⟨a,e,hS⟩:=(show ∃a,v= .ref a/\Scr K H1 a ns from r1);exact⟨a,e,.inl ⟨_,hS.sq,p _ _ _ _ k1 rh1 (Mj hS) q1⟩⟩
theorem Lu {tg:Expr}(he:QE X e te):QI X tg e (iS te):=(Ls he).imp Lt
def Nt:TSD:=λ_ _ _=>False
theorem Lv {st:Stmt}:QS X st Nt:=λ_ _ _ _ _ _ ⟨_,_,_,_,_,z,_⟩=>z.elim
structure Zs (mg:Str->Option Value):Prop where
 len:mg "len" =none
 max:mg "max" =none
 min:mg "min" =none
 divmod:mg "divmod" =none
 all:mg "all" =none
 any:mg "any" =none
 repr:mg "repr" =none
 sum:mg "sum" =none
 sorted:mg "sorted" =none
 int:mg "int" =none
 tuple:mg "tuple" =none
 list:mg "list" =none
 set:mg "set" =none
 bool:mg "bool" =none
 isinstance:mg "isinstance" =none
 range:mg "range" =none
 zip:mg "zip" =none
 enumerate:mg "enumerate" =none
 reversed:mg "reversed" =none
def jC (P:Program)(w:World)(K:PySem.W.Frag)(mg:Str->Option Value)(base:Heap)(n:Nat)(x:Str)(ps:List Str)(sp:RDn):Prop:=
 ∃ (g:Addr) (gd:FuncData),FnOk P w K mg base CX0 n g gd ps (LSp K sp)/\Binds K gd ps []/\PySem.W.keepIn K (.ref g)=true/\mg x=some (.ref g)
def PK:RDn:=λds h Q=> ∃ns,ds= [.scr ns]/\(∀a,h a=none)/\ns.length<=63/\ ∀h',Q (.bl true) h'
def Bm (mg:Str->Option Value)(base:Heap):Prop:= ∃bm ob,mg "__builtins__" =some (.ref bm)/\bm≠builtinsNs/\base.get? bm=some ob/\ob.cls= .type "module" /\ob.dict=some builtinsNs/\ob.data= .plain
def wO (K:PySem.W.Frag):List (Addr×Addr):=LN.filterMap (PySem.W.tabIn K)
theorem TabK.mem {P:Addr}(h:TabK K P): ∃c,(c,P)∈wO K:=let ⟨x,hx,c,e⟩:=h;⟨c,L5.mpr ⟨x,hx,e⟩⟩
theorem PL {P:Program}{w:World}{mg mb:Str->Option Value}{k:Nat}{fa:Addr}{fd:FuncData}{s₁:Shared}{vs:List Value}{ns:List Int}
 (KX:K.In s₁.heap)(hns:s₁.heap.Ns mainGlobals mg)(hb:s₁.heap.Ns builtinsNs mb)(hbb: ∀x:Str,x≠ "__name__" ->mb x=bootBuiltins x)(hlim:s₁.heap.NoLimit)(hg:s₁.gens= #[])
 (ha:s₁.heap.get? a=some {cls:= .type "list",data:= .seq vs.toArray})(hi:IntsAre vs ns)(hl:ns.length<=63)(hr:Room k callerA)
 (hbm:Bm mg s₁.heap)(F: ∀base:Heap,K.In base->base.Ns mainGlobals mg->Bm mg base->FnOk P w K mg base CX0 k fa fd [x] (LSp K PK))(hbind: ∀ (s:Shared) (u:Value),BindsTo s fd ⟨[u],[]⟩ [(x,u)])
 (hT: ∀p∈wO K,PySem.W.CodeHd s₁.heap p.1 p.2/\s₁.heap.get? p.2=some (PySem.W.tabObj #[])/\K.lookup p.2=none):
 codeAny (model P w) callerA (.call (.ref fa) ⟨[.ref a],[]⟩) (λr s'=>r= .ok (.ret (.bool true))/\OldK s₁.heap s'.heap/\s'.os=s₁.os/\AllBare s'.gens) s₁:=by
 have rv:=VQ hi;have lenV:=hi.length;have hz:ns.length<=sizeLine:=D7 hl (by decide);have hT': ∀b,b∈(wO K).map (·.2)-> ∃c,PySem.W.CodeHd s₁.heap c b/\s₁.heap.get? b=some (PySem.W.tabObj #[])/\K.lookup b=none:=λb hb=>by
  obtain⟨p,hp,rfl⟩:=D6.mp hb;exact⟨p.1,hT p hp⟩
 have core: ∀H:Hp,Scr K H a ns->HOk P w H s₁.heap->(∀b u,H b=some u->(b=a/\K.lookup a=none/\ ∃o xs,u= .frz o (.lst xs))\/(b∈(wO K).map (·.2)/\u= .tbl #[]))->(∀b,b∈(wO K).map (·.2)->H b=some (.tbl #[]))->
  codeAny (model P w) callerA (.call (.ref fa) ⟨[.ref a],[]⟩) (λr s'=>r= .ok (.ret (.bool true))/\OldK s₁.heap s'.heap/\s'.os=s₁.os/\AllBare s'.gens) s₁:=by
  intro H hS hok hA hTt;have noA: ∀ {b:Addr} {o:Obj} {es:Array DictEntry} {ep:Nat},s₁.heap.get? b=some o->o.data= .dict es ep->H b=none:=λ{b o es ep} e d=>by
   cases q:H b with
   |none=>rfl
   |some u=>
    rcases hA b u q with ⟨rfl,_,_⟩|⟨z,_⟩
    ·rw [ha] at e;cases e;have d':Data.seq vs.toArray _=Data.dict es ep:=d;cases d'
    ·obtain⟨c,_,e2,_⟩:=hT' b z;rw [e2] at e;cases e;have d':Data.fields _=Data.dict es ep:=d;cases d'
  have nsK: ∀ {b:Addr} {m:Str->Option Value},s₁.heap.Ns b m->(RH s₁.heap H).Ns b m:=λ{b m} ⟨o,es,ep,e,d,r⟩=>⟨o,es,ep,Yu e (noA e d),d,r⟩
  have hKb:K.In (RH s₁.heap H):=λb o e=>Yu (KX b o e) (by
   cases q:H b with
   |none=>rfl
   |some u=>
    rcases hA b u q with ⟨rfl,z,_⟩|⟨z,_⟩
    ·rw [z] at e;cases e
    ·obtain⟨c,_,_,z2⟩:=hT' b z;rw [z2] at e;cases e)
  have hM:Mod K mg (RH s₁.heap H):=⟨hKb,nsK hns,⟨mb,nsK hb,hbb⟩,let ⟨mc,h1,h2⟩:=hlim;⟨mc,nsK h1,h2⟩⟩;have e0:Env0 P w K mg (RH s₁.heap H) callerA [] s₁ H:=⟨rfl,hM,λb o e=>NR e,X0 (GY _ _),trivial,λb hb=>absurd (show b∈([]:List Addr) from hb) (by simp),hok,.of_eq hg⟩;have hsp:LSp K PK [.ref a] H (λv _=>v= .bl true) (λ_ _ _=>False):=by
   refine⟨[.scr ns],⟨λ_=>none,λ_=>none⟩,λd _=>d= .bl true,⟨.ref a,[],rfl,⟨a,rfl,hS⟩,rfl⟩,⟨λb ds e=>(by cases e),λp hp=> ?_,λb c e=>(by cases e)⟩,⟨ns,rfl,λ_=>rfl,hl,λ_=>rfl⟩,?_⟩
   ·obtain⟨c,hc⟩:=hp.mem;exact⟨#[],hTt p (Y6 (f:=(·.2)) hc),trivial,λpos cv e=>(by cases e)⟩
   ·intro d v h' H' _ _ r e;subst e;exact r
  have hBm:Bm mg (RH s₁.heap H):=by
   obtain⟨bm,ob,b1,b2,b3,b4,r⟩:=hbm;refine⟨bm,ob,b1,b2,Yu b3 ?_,b4,r⟩;cases q:H bm with
   |none=>rfl
   |some u=>
    rcases hA bm u q with ⟨rfl,_,_⟩|⟨z,_⟩
    ·rw [ha] at b3;cases b3;exact absurd (Value.type.inj b4) (by decide)
    ·obtain⟨c,_,e2,_⟩:=hT' bm z;rw [e2] at b3;cases b3;cases b4
  refine codeAny_mono ((F _ hKb (nsK hns) hBm).run callerA [] s₁ H ⟨[.ref a],[]⟩ [.ref a] [.ref a] _ _ hr e0 (hbind s₁ (.ref a)) (.cons rfl .nil) hsp) λr s' h=> ?_
  cases r with
  |error e=>exact False.elim h
  |ok fl=>
   cases fl with
   |next=>exact False.elim h
   |brk=>exact False.elim h
   |cont=>exact False.elim h
   |ret u=>
    obtain⟨v,H',os,bare,un,hok',r',q⟩:=h;have q':v= .bl true:=q;subst q';obtain rfl:u=Value.bool true:=r';have one: ∀b o,s₁.heap.get? b=some o->s'.heap.get? b=some o\/(b∈(wO K).map (·.2)/\ ∃more,s'.heap.get? b=some (PySem.W.tabObj more)):=λb o e=>by
     cases q:H b with
     |none=>exact .inl (un.keep b o e q (by intro z;exact absurd (show b∈([]:List Addr) from z) (by simp)) (by simp))
     |some u=>
      rcases hA b u q with ⟨rfl,_,ob,xs,rfl⟩|⟨z,rfl⟩
      ·have z2:=un.frzs _ ob _ q;obtain⟨e1,_⟩:=hok _ _ q;obtain⟨e2,_⟩:=hok' _ _ z2;rw [e] at e1;cases e1;exact .inl e2
      ·obtain⟨more,z2⟩:=un.tbls b _ q;exact .inr ⟨z,_,(show s'.heap.get? b=some _ from hok' b _ z2)⟩
    refine⟨rfl,⟨λb o e=> ?_,λb o e=> ?_⟩,os,bare⟩
    ·rcases one b o e with z|⟨z,more,z2⟩
     ·exact .inl z
     ·obtain⟨c,hc,e2,_⟩:=hT' b z;rw [e] at e2;cases e2;refine .inr (.inl ⟨(hc.tab e).isCodeTable,rfl,#[],more,rfl,?_⟩);rw [z2];simp
    ·rcases one b o e with z|⟨z,more,z2⟩
     ·exact⟨_,z⟩
     ·exact⟨_,z2⟩
 have nT:a ∉ (wO K).map (·.2):=λz=>by
  obtain⟨c,_,e2,_⟩:=hT' a z;rw [ha] at e2;cases e2
 have okT: ∀ {H:Hp} (b:Addr),b∈(wO K).map (·.2)->ObjOk P w H s₁.heap b (.tbl #[]):=λb hb=>let ⟨_,_,e,_⟩:=hT' b hb;e
 cases hk:K.lookup a with
 |some o=>
  have e:=KX a o hk;rw [ha] at e;cases e;refine core (λb=>if b∈(wO K).map (·.2) then some (.tbl #[]) else none) (.inr ⟨_,vs.toArray,_,hk,rfl,rfl,rfl,by rw [G7,lenV];exact hz,by simpa using rv⟩) (λb u z=> ?_) (λb u z=> ?_) λb hb=>if_pos hb
  ·by_cases hb:b∈(wO K).map (·.2)
   ·have z':=(if_pos hb).symm.trans z;cases z';exact okT b hb
   ·have z':=(if_neg hb).symm.trans z;cases z'
  ·by_cases hb:b∈(wO K).map (·.2)
   ·have z':=(if_pos hb).symm.trans z;cases z';exact .inr ⟨hb,rfl⟩
   ·have z':=(if_neg hb).symm.trans z;cases z'
 |none=>
  refine core (λb=>if b=a then some (.frz {cls:= .type "list",data:= .seq vs.toArray} (.lst (ns.map V.int))) else if b∈(wO K).map (·.2) then some (.tbl #[]) else none) (.inl ⟨{cls:= .type "list",data:= .seq vs.toArray},if_pos rfl⟩) (λb u z=> ?_) (λb u z=> ?_) λb hb=> ?_
  ·by_cases hb:b=a
   ·have z':=(if_pos hb).symm.trans z;cases z';subst hb;exact⟨ha,by rw [G0];exact hz,vs,_,rv,ha⟩
   ·have z':=(if_neg hb).symm.trans z
    by_cases hb2:b∈(wO K).map (·.2)
    ·have z2:=(if_pos hb2).symm.trans z';cases z2;exact okT b hb2
    ·have z2:=(if_neg hb2).symm.trans z';cases z2
  ·by_cases hb:b=a
   ·have z':=(if_pos hb).symm.trans z;cases z';exact .inl ⟨hb,hk,_,_,rfl⟩
   ·have z':=(if_neg hb).symm.trans z
    by_cases hb2:b∈(wO K).map (·.2)
    ·have z2:=(if_pos hb2).symm.trans z';cases z2;exact .inr ⟨hb2,rfl⟩
    ·have z2:=(if_neg hb2).symm.trans z';cases z2
  ·have:b≠a:=λz=>nT (z ▸ hb)
   show (if b=a then _ else _)=_;rw [if_neg this,if_pos hb]
def Az (q:Program)(K:PySem.W.Frag):Bool:=LN.all λx=>match PySem.W.tabIn K x with
 |some p=>(K.lookup p.2).isNone&&((PyProof.Rows.recsOf q).find? (λe=>e.name==x)).isSome
 |none=>true
theorem Mk {l:PySem.W.OpenLaw}{k:Nat}{q:Program}{loose:List Str}{XP:(Str->Option Value)->Heap->Prop}{YP:World->Heap->Prop}{d:DefRec}{K:Params->PySem.W.Frag}(hn:l.most=some 63)(hdf:d.params.defaults= [])(hr:Room k callerA)
 (hY: ∀ (w:World) (h:Heap),YP w h->(K w.params).In h)(hB: ∀w:World,Az q (K w.params)=true)
 (F: ∀ (w:World) (mg:Str->Option Value) (fa:Addr) (h:Heap),(K w.params).In h->h.Ns mainGlobals mg->mg d.name=some (.ref fa)->
  ∃fd:FuncData,(∀ (s:Shared) (u:Value),BindsTo s fd ⟨[u],[]⟩ [(x,u)])/\ ∀base:Heap,(K w.params).In base->base.Ns mainGlobals mg->Bm mg base->FnOk l.prog w (K w.params) mg base CX0 k fa fd [x] (LSp (K w.params) PK)):
 PySem.W.WalkO q loose XP YP l.row.toRowW d [] (λf vs=>PySem.call f vs):=by
 refine Att.attach_call hn hdf λw s₀ s₁ mg mb fa o pm cd doc a vs ns G Y ho hd hcd hmg hobj hints hlen hg=> ?_
 have KX:=hY w _ Y;obtain⟨fd,hb,hF⟩:=F w mg fa _ KX G.T.g hmg;refine PL KX G.T.g G.T.b G.T.builtins G.T.nolimit hg hobj hints hlen hr G.T.bmain hF hb λp hp=> ?_
 obtain⟨x,hx,e⟩:=L5.mp hp;have z:=R5.mp (hB w) x hx;rw [e] at z;simp only [R4,Option.isNone_iff_eq_none] at z;obtain⟨dd,hdd⟩:=U9.mp z.2;have t:=PySem.W.tab_of (c:=p.1) (P:=p.2) G.T KX hdd e;exact⟨t.1,t.2,z.1⟩
def Xp:Expr->Bool
 | .Starred .. =>false
 |_=>true
theorem Xq {es:List Expr}{env:Env}(h:Xp e=true):starEach (e::es) env=(false,eval e env)::starEach es env:=by
 cases e<;>first|rfl|cases h
theorem qac {es:List Expr}{t:TAD}(ha:QE X e te)(hr:QA X es t)(h:Xp e=true:=by rfl):QA X (e::es) (yV te t):=BB ha hr (Xq h)
theorem zw {α:Type}{xs:List α}{i:Int}(h0:0<=i)(h1:i<xs.length): ∃x∈xs,atI xs i=some x:=by
 have hk:i.toNat<xs.length:=by omega
 have ek:i=((i.toNat:Nat):Int):=by omega
 have z:=zX (G3 hk);rw [<-ek] at z;exact⟨xs[i.toNat],R6 hk,z⟩
variable {h h':HD}{L:List D}
theorem Sub.both (s:Sub h h'):Sub (zY h p L) (zY h' p L):=⟨λa ds e=>(by
 by_cases q:a=p
 ·subst q;rw [jb] at e ⊢;exact e
 ·rw [wE q] at e ⊢;exact s a ds e),s.dc⟩
theorem Sub.newAt (s:Sub h h')(e:h' p=none):Sub h (zY h' p L):=s.trans (.new e)
structure But (p:Addr)(h h':HD):Prop where
 ls: ∀a ds,a≠p->h a=some ds->h' a=some ds
 dc: ∀a c,h.dc a=some c->h'.dc a=some c
instance {p:Addr}{h h':HD}:CoeFun (But p h h') λ_=> ∀a ds,a≠p->h a=some ds->h' a=some ds:=⟨But.ls⟩
theorem But.refl (p:Addr)(h:HD):But p h h:=⟨λ_ _ _ e=>e,λ_ _ e=>e⟩
theorem But.trans {a b c:HD}(x:But p a b)(y:But p b c):But p a c:=⟨λd ds n e=>y d ds n (x d ds n e),λd ds e=>y.dc d ds (x.dc d ds e)⟩
variable {q:Addr}
theorem But.new (s:But p h h')(e:h' q=none):But p h (zY h' q L):=⟨λa ds n z=>(by
 have:=s a ds n z;rw [wE (λw=>by subst w;rw [e] at this;cases this)];exact this),s.dc⟩
theorem But.put (s:But p h h'):But p h (zY h' p L):=⟨λa ds n z=>(by rw [wE n];exact s a ds n z),s.dc⟩
theorem But.putNew (s:But p h h')(e:h q=none):But p h (zY h' q L):=⟨λa ds n z=>(by
 rw [wE (λw=>by subst w;rw [e] at z;cases z)];exact s a ds n z),s.dc⟩
theorem But.sub (s:But p h h')(e:h' p=some L):Sub (zY h p L) h':=⟨λa ds z=>(by
 by_cases q:a=p
 ·subst q;rw [jb] at z;cases z;exact e
 ·rw [wE q] at z;exact s a ds q z),s.dc⟩
theorem But.upd:But p h (zY h p L):=⟨λa ds n z=>(by rw [wE n];exact z),λ_ _ e=>e⟩
theorem jl (e:h p=some L)(f:h q=none):q≠p:=λz=>by subst z;rw [e] at f;cases f
theorem jc {M:List D}(e:h p=some L)(f:h q=none):zY h q M p=some L:=by rw [wE (λz=>by subst z;rw [e] at f;cases f)];exact e
theorem Ca {b:Addr}(e:zY h a L b=none):b≠a:=λz=>by subst z;rw [jb] at e;cases e
theorem jh {b:Addr}{M:List D}(n:b≠a)(e:h b=some M):zY h a L b=some M:=by rw [wE n];exact e
theorem VZ {n:Nat}{i:Nat}{d:D}(h:((List.range n).map λ(k:Nat)=>D.int (k:Int))[i]? =some d):i<n/\d= .int i:=by
 rw [G6] at h
 by_cases hi:i<n
 ·rw [N0 hi] at h;cases h;exact⟨hi,rfl⟩
 ·rw [L9 (by simpa using hi)] at h;cases h
variable {E:EndsD}{σ:SD}
theorem jj {t u:TSD}(V:SD->HD->Prop)(first: ∀K:SD->HD->Prop,(∀σ' h',V σ' h'->K σ' h')->t {E with nx:=K} σ h)(rest: ∀σ' h',V σ' h'->u E σ' h'):Px t u E σ h:=first (u E) rest
theorem YF (b:But p h h')(e:h' q=none)(n:q≠p):h q=none:=by
 cases z:h q with
 |none=>rfl
 |some ds=>rw [b q ds n z] at e;cases e
def Nxt (E:EndsD)(V:SD->HD->Prop):EndsD:= {E with nx:=λσ3 h3=> ∃h4,Sub h4 h3/\V σ3 h4,ct:=λσ3 h3=> ∃h4,Sub h4 h3/\V σ3 h4,bk:=E.nx}
variable {h1:HD}
theorem YG {ta:TAD}{g:TGD}{tb:TSD}(n:Nat)(W:Nat->SD->HD->Prop)(hn:n<1000000)
 (ht: ∀R:List D->HD->Prop,R [.int (n:Int)] h1->ta σ h R)(w0:W 0 σ h1)(done: ∀σ' h',W n σ' h'->E.nx σ' h')
 (turn: ∀i σ' h',i<n->W i σ' h'->g (.int (i:Int)) σ' h' λσ2 h2=>tb (Nxt E λσ3 h4=>i+1<=n/\W (i+1) σ3 h4) σ2 h2):La (iR1 ta) g tb E σ h:=by
 refine ht _ ⟨(n:Int),rfl,by omega,by omega,n,λi σ' h'=>i<=n/\W i σ' h',⟨B7 _,w0⟩,?_⟩;rintro i σ' h' ⟨hi,w⟩;refine⟨_,rfl,by simp,λhl=> ?_,λd hd=> ?_⟩
 ·have:i=n:=by simp at hl;omega
  subst this;exact done _ _ w
 ·obtain⟨hi',e⟩:=VZ hd;have hi2:i<n:=by omega
  subst e;exact turn i σ' h' hi2 w
theorem Js {ti:TID}{g:TGD}{tb:TSD}{j:ItD}(ds:List D)(W:Nat->SD->HD->Prop)
 (ht: ∀R:ItD->HD->Prop,R j h1->ti σ h R)(hj: ∀i σ' h',W i σ' h'->j h'=some ds)(w0:W 0 σ h1)(done: ∀σ' h',W ds.length σ' h'->E.nx σ' h')
 (turn: ∀i d σ' h',ds[i]? =some d->W i σ' h'->g d σ' h' λσ2 h2=>tb (Nxt E λσ3 h4=>i+1<=ds.length/\W (i+1) σ3 h4) σ2 h2):La ti g tb E σ h:=by
 refine ht _ ⟨ds.length,λi σ' h'=>i<=ds.length/\W i σ' h',⟨B7 _,w0⟩,?_⟩;rintro i σ' h' ⟨hi,w⟩;refine⟨ds,hj i σ' h' w,G5 _,λhl=> ?_,λd hd=>turn i d σ' h' hd w⟩;have:i=ds.length:=by omega
 subst this;exact done _ _ w
theorem Ua {g:TGD}{tb:TSD}{j:ItD}(ds:List D)(W:Nat->SD->HD->Prop)
 (hj: ∀i σ' h',W i σ' h'->j h'=some ds)(w0:W 0 σ h1)(done: ∀σ' h',W ds.length σ' h'->E.nx σ' h')
 (turn: ∀i d σ' h',ds[i]? =some d->W i σ' h'->g d σ' h' λσ2 h2=>tb (Nxt E λσ3 h4=>i+1<=ds.length/\W (i+1) σ3 h4) σ2 h2):
 ∃ (n:Nat) (W:Nat->SD->HD->Prop),W 0 σ h1/\ ∀i σ' h',W i σ' h'-> ∃ds,j h'=some ds/\ds.length<=n/\(ds.length<=i->E.nx σ' h')/\
  ∀d,ds[i]? =some d->g d σ' h' λσ2 h2=>tb {E with nx:=λσ3 h3=> ∃h4,Sub h4 h3/\W (i+1) σ3 h4,ct:=λσ3 h3=> ∃h4,Sub h4 h3/\W (i+1) σ3 h4,bk:=E.nx} σ2 h2:=by
 refine⟨ds.length,λi σ' h'=>i<=ds.length/\W i σ' h',⟨B7 _,w0⟩,?_⟩;rintro i σ' h' ⟨hi,w⟩;refine⟨ds,hj i σ' h' w,G5 _,λhl=> ?_,λd hd=>turn i d σ' h' hd w⟩;have:i=ds.length:=by omega
 subst this;exact done _ _ w
theorem Lw {i:Nat}{js:List Nat}{ta:TAD}{Q:KD}(n:Nat)(W:Nat->List D->HD->Prop)(hn:n<=1000)(ht: ∀R:List D->HD->Prop,R [.int (n:Int)] h1->ta σ h R)
 (w0:W 0 [] h1)(wl: ∀k ys h',W k ys h'->ys.length=k)(turn: ∀k ys h',k<n->W k ys h'->te ((wN js σ).set i (some (.int (k:Int)))) h' λy h4=> ∃h5,Sub h5 h4/\(k+1<=n/\W (k+1) (ys++ [y]) h5))
 (done: ∀ys h',W n ys h'-> ∀p,h' p=none->Q (.lst p) (zY h' p ys)):Ye (bN i) js (iR1 ta) WI te σ h Q:=by
 refine ht _ ⟨(n:Int),rfl,by omega,by omega,n,λk ys h'=>k<=n/\W k ys h',⟨B7 _,w0⟩,?_⟩;rintro k ys h' ⟨hk,w⟩;refine⟨by rw [wl k ys h' w];exact T5 (zr (by omega)),_,rfl,by simp,λhl p hp=> ?_,λd hd=>⟨_,rfl,?_⟩⟩
 ·have:k=n:=by simp at hl;omega
  subst this;exact done ys h' w p hp
 ·obtain⟨hi',e⟩:=VZ hd;subst e;unfold WI;dsimp only;rw [if_pos rfl];exact turn k ys h' (by omega) w
end L2
namespace L2
open PySem PySem.Spec PyProof.Rows PySem.SeqAt
mutual
def ToP (h:HD):D->PyData->Prop
 |d,.none=>d= .non
 |d,.bool b=>d= .bl b
 |d,.int i=>d= .int i
 |d,.str x=>d= .str x
 |d,.tuple ps=> ∃ds,d= .tup ds/\ToPs h ds ps
 |d,.list ps=> ∃a ds,d= .lst a/\h a=some ds/\ToPs h ds ps
 |_,.dict _=>False
def ToPs (h:HD):List D->List PyData->Prop
 |ds,[]=>ds= []
 |ds,p::ps=> ∃d r,ds=d::r/\ToP h d p/\ToPs h r ps
end
section
variable {X:Cx}{pins:List (Addr×Obj)}{σ:St}{H:Hp}{s:Shared}{h:HD}
mutual
theorem zx (I:Inv X pins σ H s)(rh:RelH X.K h H): ∀ {p:PyData} {d:D} {v:V} {u:Value},ToP h d p->RelD X.K H d v->RelV v u-> ∃as,Reads s.heap u p as
 | .none,d,v,u,t,r,ru=>by cases (show d= .non from t);cases (show v= .non from r);cases (show u= .none from ru);exact⟨[],.none⟩
 | .bool b,d,v,u,t,r,ru=>by cases (show d= .bl b from t);cases (show v= .bl b from r);cases (show u= .bool b from ru);exact⟨[],.bool b⟩
 | .int i,d,v,u,t,r,ru=>by cases (show d= .int i from t);cases (show v= .int i from r);obtain⟨k,rfl⟩:=(show ∃t,u=Value.int i t from ru);exact⟨[],.int i k⟩
 | .str x,d,v,u,t,r,ru=>by cases (show d= .str x from t);cases (show v= .str x from r);obtain⟨k,rfl⟩:=(show ∃t,u=Value.str x t from ru);exact⟨[],.str x k⟩
 | .tuple ps,d,v,u,t,r,ru=>by
  obtain⟨ds,e,ts⟩:=(show ∃ds,d= .tup ds/\ToPs h ds ps from t);subst e;obtain⟨a,vs,e,hH,rs⟩:=(show ∃a vs,v= .ref a/\H a=some (.tup vs)/\RelDs X.K H ds vs from r);subst e;cases (show u= .ref a from ru);obtain⟨its,rv,ht,_⟩:=I.tuple (SqT.of hH);obtain⟨o,ho,hc,n,hd⟩:=ht;obtain⟨as,q⟩:=reads_Ds I rh ts rs rv;exact⟨as,.tuple ho hc hd q⟩
 | .list ps,d,v,u,t,r,ru=>by
  obtain⟨a,ds,e,ha,ts⟩:=(show ∃a ds,d= .lst a/\h a=some ds/\ToPs h ds ps from t);subst e;obtain⟨vs,hH,rs⟩:=rh a ds ha;have e:v= .ref a:=r.1;subst e;cases (show u= .ref a from ru);obtain⟨its,rv,pl,_⟩:=I.list (SqL.of hH);obtain⟨o,ho,hc,n,hd⟩:=pl.isList;obtain⟨as,q⟩:=reads_Ds I rh ts rs rv;exact⟨a::as,.list ho hc hd q⟩
 | .dict _,_,_,_,t,_,_=>(show False from t).elim
theorem reads_Ds (I:Inv X pins σ H s)(rh:RelH X.K h H): ∀ {ps:List PyData} {ds:List D} {vs:List V} {us:List Value},ToPs h ds ps->RelDs X.K H ds vs->Vals vs us-> ∃as,ReadsAll s.heap us ps as
 | [],ds,vs,us,t,r,rv=>by
  cases (show ds= [] from t);cases (show vs= [] from r);cases rv;exact⟨[],.nil⟩
 |p::ps,ds,vs,us,t,r,rv=>by
  obtain⟨d,dr,e,t1,t2⟩:=(show ∃d r,ds=d::r/\ToP h d p/\ToPs h r ps from t);subst e;obtain⟨v,vr,e,r1,r2⟩:=(show ∃v r,vs=v::r/\RelD X.K H d v/\RelDs X.K H dr r from r);subst e;cases rv with
  |cons ru rt=>
   obtain⟨as,q1⟩:=zx I rh t1 r1 ru;obtain⟨bs,q2⟩:=reads_Ds I rh t2 r2 rt;exact⟨as++bs,.cons q1 q2⟩
end
end
def eqE:RD2:=λx y h Q=>match x,y with
 | .int i,.int j=>Q (.bl (decide (i=j))) h
 | .bl i,.bl j=>Q (.bl (decide (i=j))) h
 | .str i,.str j=>Q (.bl (decide (i=j))) h
 |x,y=> ∃p q,ToP h x p/\ToP h y q/\shaped p=true/\shaped q=true/\Q (.bl (PyData.eqv p q)) h
def neE:RD2:=λx y h Q=>match x,y with
 | .int i,.int j=>Q (.bl (!decide (i=j))) h
 | .bl i,.bl j=>Q (.bl (!decide (i=j))) h
 | .str i,.str j=>Q (.bl (!decide (i=j))) h
 |x,y=> ∃p q,ToP h x p/\ToP h y q/\shaped p=true/\shaped q=true/\Q (.bl (!PyData.eqv p q)) h
section
variable {X:Cx}
def eqG:RD2:=λx y h Q=> ∃p q,ToP h x p/\ToP h y q/\shaped p=true/\shaped q=true/\Q (.bl (PyData.eqv p q)) h
def neG:RD2:=λx y h Q=> ∃p q,ToP h x p/\ToP h y q/\shaped p=true/\shaped q=true/\Q (.bl (!PyData.eqv p q)) h
theorem Lx (hu:X.A.units+64<cLine):OpQ X (compareOp .Eq) eqG:=by
 intro pins s σ H x y v u Q I rx ry h;obtain⟨dx,dy,h,Qd,r1,r2,rh,⟨p,q,t1,t2,s1,s2,qq⟩,post⟩:=h;obtain⟨as,a1⟩:=zx I rh t1 r1 rx;obtain⟨bs,b1⟩:=zx I rh t2 r2 ry;exact compareEq_shaped a1 b1 s1 s2 hu ⟨.bl _,H,I,rfl,post (.bl _) _ _ _ (.refl H) rh rfl qq⟩
theorem Ly (hu:X.A.units+64<cLine):OpQ X (compareOp .NotEq) neG:=by
 intro pins s σ H x y v u Q I rx ry h;obtain⟨dx,dy,h,Qd,r1,r2,rh,⟨p,q,t1,t2,s1,s2,qq⟩,post⟩:=h;obtain⟨as,a1⟩:=zx I rh t1 r1 rx;obtain⟨bs,b1⟩:=zx I rh t2 r2 ry;exact compareNe_shaped a1 b1 s1 s2 hu ⟨.bl _,H,I,rfl,post (.bl _) _ _ _ (.refl H) rh rfl qq⟩
theorem OpQ.or' {f:Value->Value->Sem Value}{r r' r2:RD2}(h:OpQ X f r)(h':OpQ X f r')(i: ∀x y hh Q,r2 x y hh Q->r x y hh Q\/r' x y hh Q):OpQ X f r2:=λpins s σ H x y v u Q I rx ry ⟨dx,dy,hd,Qd,r1,r2',rh,q,p⟩=>
 (i dx dy hd Qd q).elim (λz=>h pins s σ H x y v u Q I rx ry ⟨dx,dy,hd,Qd,r1,r2',rh,z,p⟩) λz=>h' pins s σ H x y v u Q I rx ry ⟨dx,dy,hd,Qd,r1,r2',rh,z,p⟩
theorem Ub (hu:X.A.units+64<cLine):OpQ X (compareOp .Eq) eqE:=oq_eq.or' (Lx hu) λx y h Q q=>by
 unfold eqE at q;split at q
 ·exact .inl q
 ·exact .inl q
 ·exact .inl q
 ·exact .inr q
theorem PM (hu:X.A.units+64<cLine):OpQ X (compareOp .NotEq) neE:=oq_ne.or' (Ly hu) λx y h Q q=>by
 unfold neE at q;split at q
 ·exact .inl q
 ·exact .inl q
 ·exact .inl q
 ·exact .inr q
end
end L2
namespace HT
open PySem PySem.Spec PyProof.Rows
section
variable {prog:Program}{w:World}{A:Around}{E:Value->Shared->Prop}{s:Shared}
theorem PN (k:Int){vs:List Value}{ns:List Int}(hi:IntsAre vs ns)(j:Nat)(h:j<ns.length): ∃t,vs[j]? =some (.int ns[j] t):=by
 induction hi generalizing j with
 |nil=>simp at h
 |cons n t r ih=>
  cases j with
  |zero=>exact⟨t,rfl⟩
  |succ j=>obtain⟨u,e⟩:=ih j (by simpa using h);exact⟨u,by simpa using e⟩
end
end HT
namespace L2
open PySem PySem.Spec PyProof.Rows
theorem PP: ∀ {ns:List Int} {us:List Value},Vals (ns.map V.int) us->IntsAre us ns
 | [],_,r=>by cases r;exact .nil
 |n::ns,_,r=>by
  cases r with
  |cons r t=>obtain⟨k,rfl⟩:=r;exact .cons n k (PP t)
theorem yx {K:PySem.W.Frag}{H:Hp}: ∀ {ns:List Int} {vs:List V},RelDs K H (ns.map D.int) vs->vs=ns.map V.int
 | [],_,h=>h
 |n::ns,vs,h=>by
  obtain⟨v,r,e,h1,h2⟩:=(show ∃v r,vs=v::r/\RelD K H (.int n) v/\RelDs K H (ns.map D.int) r from h);rw [e,yx h2,(show v= .int n from h1)];rfl
theorem Yg (ns:List Int): ∀k,k<=ns.length->preSum (λi=>ns.getD i 0) k=(ns.take k).sum
 |0,_=>by simp [preSum]
 |k+1,h=>by
  have hk:k<ns.length:=by omega
  rw [preSum,Yg ns k (by omega),B9,G3 hk,List.sum_append,P9,G3 hk];simp
variable {X:Cx}
theorem YH (hc:X.calm=true):CallR X (.builtin "sum") (λxs H Q=> ∃ (a:Addr) (ns:List Int),xs= [.ref a]/\SqL X.K H a (ns.map V.int)/\Q (.int ns.sum) H):=by
 intro pins s σ H xs us Q I r h;obtain⟨a,ns,rfl,hS,q⟩:=h;obtain⟨u,rfl,ru⟩:=ZB r;cases ru;obtain⟨its,rv,pl,hz⟩:=I.list hS;have hl:=pl.isList;have hlt:a<s.heap.objs.size:=by obtain⟨_,e,_⟩:=hl;exact P6 e
 have hi:=PP rv;have hn:its.length=ns.length:=hi.length;refine call_sum_walkAnyS (O6 hl ?_);refine⟨s.heap.objs.size,_,_,_,_,_,_,λi=>ns.getD i 0,rfl,(Walks.list (A:=X.A.in1) (show X.A.in1.handled=none from I.ok.hd hc) s.heap.objs.size a (D9 hlt) its.toArray).toS,⟨⟨_,D1 _ rfl,rfl,rfl⟩,hl.push _⟩,?_,?_,λs' t' hm=> ?_⟩
 ·intro b hb;simp only [G4,P5,T4] at hb;show b<(s.heap.push _).objs.size;rw [J2];rcases hb with e|e
  ·rw [e];exact C8 _
  ·rw [e];exact V2 hlt
 ·intro i v hP;have e:its[i]? =some v:=by simpa using hP
  have hil:i<ns.length:=by rw [<-hn];exact(G9.mp e).1
  obtain⟨t,e2⟩:=HT.PN 0 hi i hil;rw [e] at e2;cases e2;refine⟨t,?_⟩;show Value.int ns[i] t=Value.int (ns.getD i 0) t;rw [P9,G3 hil];rfl
 ·have e:preSum (λi=>ns.getD i 0) its.toArray.size=ns.sum:=by
   rw [G7,hn,Yg ns _ (G5 _),A4]
  rw [e];obtain⟨h',g',d',tk',o'⟩:=s';obtain⟨m1,m2,m3,m4,_⟩:=hm;simp only at m1 m2 m3 m4;subst m2 m3 m4;refine⟨.int ns.sum,H,I.kept (t':=tk') (λb o e=>m1 b o (λz=> ?_) (G1 _ e)),⟨_,rfl⟩,q⟩;rw [G8.mp z] at e;exact absurd (P6 e) (S1 _)
def AA:RDn:=λds h Q=> ∃ (a:Addr) (ns:List Int),ds= [.lst a]/\h a=some (ns.map D.int)/\Q (.int ns.sum) (zd h a)
theorem PQ (hc:X.calm=true):vU X (.builtin "sum") AA:=(YH hc).imp λxs H Q ⟨ds,h,Qd,r,rh,⟨a,ns,e,hd,q⟩,p⟩=>by
 subst e;obtain⟨v,e,r1⟩:=jJ r;obtain⟨vs,hH,r2⟩:=rh a _ hd;have e1:v= .ref a:=r1.1;rw [yx r2] at hH;subst e e1;exact⟨a,ns,rfl,SqL.of hH,p (.int _) _ _ _ (.refl H) (rh.sub (Sub.drop h a)) rfl q⟩
def Et (to ti te:TED):TED:=λσ h Q=>to σ h λx h1=> ∃a,x= .lst a/\ti σ h1 λi h2=>te σ h2 λy h3=> ∃ (k:Nat) (xs:List D),i= .int (k:Int)/\k<=1000/\h3 a=some xs/\xs.length<sizeLine/\Q .non (zY h3 a (xs.take k++y::xs.drop k))
theorem PR:MtM X "list.insert" (λx vs H Q=> ∃ (l:Addr) (xs:List V) (k:Nat) (y:V),x= .ref l/\vs= [.int (k:Int),y]/\H l=some (.lst xs)/\k<=1000/\xs.length<sizeLine/\Q .non (upd H l (.lst (xs.take k++y::xs.drop k)))):=by
 intro pins s σ H x vs v us Q I rx rv h;obtain⟨l,xs,k,y,rfl,rfl,hH,hk,hz,q⟩:=h;cases rx;obtain⟨u,w',rfl,⟨t,rfl⟩,ry⟩:=RN rv;obtain⟨z,its,n,r,hl,e⟩:=I.lstM hH;have hfit: ¬ (!Builtin.List.listFitsIndex (k:Int))=true:=by rw [fitsIndex_both (by omega) (by omega)];exact P1
 have hsz:its.toArray.size<=sizeLine:=by rw [G7];omega
 generalize har:its.toArray=ar at e hsz;obtain⟨kk,hkk⟩: ∃kk:Int,kk=(k:Int):=⟨_,rfl⟩;rw [<-hkk] at hfit ⊢;refine X8 F.slot_list_insert ⟨_,e,rfl⟩ F.entry_list_insert (F.args_list_insert_3 _ _ _) (AutoListH.list_insert_list_int_val_1 l ar n kk t w' hfit hsz) ⟨e,?_⟩;subst har hkk;refine⟨.non,_,I.lset (its':=its.take k++w'::its.drop k) hH e ?_ ((r.take k).append (.cons ry (r.drop k))) ?_,rfl,q⟩
 ·have hk0: ¬ ((k:Int)<0):=by omega
  simp only [hk0,Z0,Int.toNat_natCast,G7];have e1:its.take (min k its.length)=its.take k:=by
   by_cases hh:k<=its.length
   ·rw [X1 hh]
   ·rw [Nat.min_eq_right (by omega),A4,B0 (by omega)]
  have e2:its.drop (min k its.length)=its.drop k:=by
   by_cases hh:k<=its.length
   ·rw [X1 hh]
   ·rw [Nat.min_eq_right (by omega),List.drop_length,List.drop_of_length_le (by omega)]
  have e3:(its.drop k).take (its.length-min k its.length)=its.drop k:=B0 (by rw [N8];omega);apply Array.ext';simp only [Array.toList_append,V3,List.extract_toArray,List.extract_eq_drop_take,Y3,Z5];rw [e1,e2,e3,V1];rfl
 ·rw [P7,P8,T1,N8];omega
section
variable {X:Cx}{o e i:Expr}{to te ti:TED}{apos cpos:Pos}
theorem Sg (ho:QE X o to)(hi:QE X i ti)(he:QE X e te)(hbase:attributeBase o "insert" X.env (eval o X.env)=eval o X.env:=by rfl)
 (hfew:((backTo cpos (starEach [i,e] X.env)).all (λx=> !x.1)&&(backToKw cpos (keywordEach [] X.env)).all (λx=>x.1.isSome)&&decide ([i,e].length+([]:List Keyword).length+(if ([]:List Keyword).isEmpty then 0 else 1)<30))=true:=by rfl)
 (hline:(apos.endLine==cpos.line)=true:=by rfl)(hs:starEach [i,e] X.env=(false,eval i X.env)::starEach [e] X.env:=by rfl)(hs2:starEach [e] X.env=(false,eval e X.env)::starEach [] X.env:=by rfl)(hplain:(backTo cpos (starEach [e] X.env)).any (·.1)=false:=by rfl):
 QE X (.Call (.Attribute o "insert" apos) [i,e] [] cpos) (Et to ti te):=
 (Bl E4 PySem.F.slot_list_insert PySem.F.type_list_insert PR ho (yT hi (yT he pa_nil hs2) hs) hbase hfew hline hs hplain).imp
  λσ H Q ⟨σd,h,Qd,rs,rh,t,p⟩=>LE.bind rs rh t λd v h1 H1 k1 rs1 rh1 r1 ⟨a,e,q⟩=>by
   subst e;obtain⟨e1,vs,hH⟩:=(show v= .ref a/\ ∃vs,H1 a=some (.lst vs) from r1);subst e1;refine⟨.inl ⟨rfl,vs,SqL.of hH⟩,?_⟩;refine LE.bind rs1 rh1 q λdi vi h2 H2 k2 rs2 rh2 r2 q2=>LE.bind rs2 rh2 q2 λy u h3 H3 k3 rs3 rh3 r3 ⟨k,xs,ei,hk,hx,hz,q3⟩=> ?_
   subst ei;have ev:vi= .int (k:Int):=r2;obtain⟨ws,hW,r4⟩:=rh3 a xs hx;refine⟨a,ws,k,u,rfl,by rw [ev],hW,hk,by rw [<-r4.length];exact hz,p .non _ _ _ (k1.trans (k2.trans (k3.trans (.put hW)))) (rh3.put hW ((r4.take k).append (.cons r3 (r4.drop k)))) rfl q3⟩
end
structure JE (X:Cx)(e:Expr)(t:TED):Prop where
 to:QE X e t
structure JT (X:Cx)(e:Expr)(t:TTD):Prop where
 to:QT X e t
structure JW (X:Cx)(e:Expr)(t:TTD):Prop where
 to:QW X e t
structure JA (X:Cx)(e:List Expr)(t:TAD):Prop where
 to:QA X e t
structure JS (X:Cx)(e:Stmt)(t:TSD):Prop where
 to:QS X e t
structure JSs (X:Cx)(e:List Stmt)(t:TSD):Prop where
 to:QSs X e t
structure JG (X:Cx)(e:Expr)(t:TGD):Prop where
 to:QG X e t
structure JI (X:Cx)(tg e:Expr)(t:TID):Prop where
 to:QI X tg e t
structure JO (X:Cx)(e:Option Expr)(t:TOD):Prop where
 to:QO X e t
section
variable {X:Cx}{a b c e:Expr}{es rest:List Expr}{ta tb tc te:TED}{t u:TAD}{tt tu:TTD}{pos:Pos}{f r r':RD2}
theorem jv (i:Nat){x:Str}(hN:X.N[i]? =some x:=by rfl)(hv:Vis X.env.scope x:=by first|exact Or.inl rfl|exact Or.inr (Or.inl rfl)|exact Or.inr (Or.inr rfl))(hd:(x==("__debug__" :Str))=false:=by decide)(hcd:(x==("__classdict__" :Str))=false:=by decide):JE X (.Name x pos) (Gm i):=⟨qv (i:=i) (hN:=hN) (hv:=hv) (hd:=hd) (hcd:=hcd)⟩
variable {j:Nat}
theorem jp {i:Int}:JE X (.Constant (.int i) j pos) (dC (.int i)):=⟨El⟩
theorem jbl {i:Bool}:JE X (.Constant (.bool i) j pos) (dC (.bl i)):=⟨qbl⟩
theorem Lz:JE X (.Constant .none j pos) (dC .non):=⟨EK⟩
theorem AB {x:Str}:JE X (.Constant (.str x) j pos) (dC (.str x)):=⟨EL⟩
theorem AC {x:Str}{i:Int}{tk:Tok}(hg:Gl X x)(hm:X.mg x=some (.int i tk))(hd:(x==("__debug__" :Str))=false:=by decide):JE X (.Name x pos) (dC (.int i)):=⟨Ad (hg:=hg) (hm:=hm) (hd:=hd)⟩
theorem jop {op:Operator}(ho:OpQ X (binaryOp op) f)(ha:JE X a ta)(hb:JE X b tb):JE X (.BinOp a op b pos) (dOp f ta tb):=⟨qop (ho:=ho) (ha:=ha.to) (hb:=hb.to)⟩
theorem Uc {op:CmpOp}(ho:OpQ X (compareOp op) f)(ha:JE X a ta)(hb:JE X b tb)(hm:behindInMarks op b=false):JE X (.Compare a [op] [b] pos) (dOp f ta tb):=⟨EM (ho:=ho) (ha:=ha.to) (hb:=hb.to) (hm:=hm)⟩
theorem zZ {op:CmpOp}(ho:OpQ X (compareOp op) f)(ha:JE X a ta)(hb:JE X b tb)(hm:behindInMarks op b=false):JT X (.Compare a [op] [b] pos) (Jq (dOp f ta tb)):=⟨Ae (ho:=ho) (ha:=ha.to) (hb:=hb.to) (hm:=hm)⟩
theorem PU {op op':CmpOp}(ho:OpQ X (compareOp op) r)(ho':OpQ X (compareOp op') r')(ha:JE X a ta)(hb:JE X b tb)(hc:JE X c tc)(hm:lastMarks [op,op'] [b,c]=false:=by with_unfolding_all rfl):JT X (.Compare a [op,op'] [b,c] pos) (Jq (Yd r r' ta tb tc)):=⟨BA (ho:=ho) (ho':=ho') (ha:=ha.to) (hb:=hb.to) (hc:=hc.to) (hm:=hm)⟩
theorem wM (ha:JE X a ta)(he: ∀whole,isTrue a X.env whole=(do let v <-whole;standAt a.pos;holding [v] (truthy v)):=by intro _;rfl):JT X a (Jq ta):=⟨Af (ha:=ha.to) (he:=he)⟩
theorem AD (ha:JT X a tt):JW X (.BoolOp .And [a] pos) tt:=⟨Ag (ha:=ha.to)⟩
theorem Qx (ha:JT X a tt):JW X (.BoolOp .Or [a] pos) tt:=⟨EN (ha:=ha.to)⟩
theorem LB (ha:JT X a tt)(hb:JW X (.BoolOp .And (b::rest) pos) tu):JW X (.BoolOp .And (a::b::rest) pos) (Bw tt tu):=⟨Ah (ha:=ha.to) (hb:=hb.to)⟩
theorem VA (ha:JT X a tt)(hb:JW X (.BoolOp .Or (b::rest) pos) tu):JW X (.BoolOp .Or (a::b::rest) pos) (Bx tt tu):=⟨EO (ha:=ha.to) (hb:=hb.to)⟩
theorem wn (ha:JT X a tt):JT X (.UnaryOp .Not a pos) (VU tt):=⟨Ai (ha:=ha.to)⟩
theorem PV {op:BoolOp}(ha:JE X a ta):JE X (.BoolOp op [a] pos) ta:=⟨EQ (ha:=ha.to)⟩
theorem Ml (ha:JE X a ta)(hb:JE X (.BoolOp .And (b::rest) pos) tb):JE X (.BoolOp .And (a::b::rest) pos) (Pu ta tb):=⟨ER (ha:=ha.to) (hb:=hb.to)⟩
theorem jor (ha:JE X a ta)(hb:JE X (.BoolOp .Or (b::rest) pos) tb):JE X (.BoolOp .Or (a::b::rest) pos) (OZ ta tb):=⟨qor (ha:=ha.to) (hb:=hb.to)⟩
theorem Eu (ha:JE X a ta):JE X (.UnaryOp .Not a pos) (Pv ta):=⟨ES (ha:=ha.to)⟩
theorem jif {c:Expr}(hc:JT X c tt)(ha:JE X a ta)(hb:JE X b tb):JE X (.IfExp c a b pos) (dIf tt ta tb):=⟨qif (hc:=hc.to) (ha:=ha.to) (hb:=hb.to)⟩
theorem ja:JA X [] UY:=⟨FR⟩
theorem wg {k:Nat}(h:JA X es t):JE X (.Tuple es k pos) (Ov t):=⟨ET (h:=h.to)⟩
theorem yW (h:JA X es t):JE X (.List es pos) (CL t):=⟨EU (h:=h.to)⟩
end
section
variable {X:Cx}{st:Stmt}{sts:List Stmt}{t u:TSD}{e:Expr}{te:TED}{pos:Pos}
theorem jY:JSs X [] Yz:=⟨FX⟩
theorem jd (h1:JS X st t)(h2:JSs X sts u):JSs X (st::sts) (Px t u):=⟨BH (h1:=h1.to) (h2:=h2.to)⟩
theorem jq (h1:JS X st t):JSs X [st] t:=⟨FY (h1:=h1.to)⟩
theorem Xr (he:JE X e te)(hs:swapsWith e none pos.line X.env=pure false:=by rfl):JS X (.Expr e pos) (BC te):=⟨Am (he:=he.to) (hs:=hs)⟩
theorem wB (he:JE X e te):JS X (.Return (some e) pos) (Xj te):=⟨EV (he:=he.to)⟩
theorem Zo {c:Expr}{a b:List Stmt}{tc:TTD}(hc:JT X c tc)(ha:JSs X a t)(hb:JSs X b u):JS X (.If c a b pos) (Mb tc t u):=⟨EW (hc:=hc.to) (ha:=ha.to) (hb:=hb.to)⟩
variable {i:Nat}{x:Str}
theorem wo {pos':Pos}(hN:X.N.Nodup)(hi:X.N[i]? =some x)(hx:Loc X.env.scope x)(he:JE X e te)(hs:swapsWith e (some (.Name x pos')) pos.line X.env=pure false:=by rfl)(hf:X.fn x=true\/X.env.scope.names.lookup x=some .local:=by first|exact .inl rfl|exact .inr rfl|assumption):JS X (.Assign [.Name x pos'] e pos) (BD i te):=⟨EX (hN:=hN) (hi:=hi) (hx:=hx) (he:=he.to) (hs:=hs) (hf:=hf)⟩
theorem yX (hN:X.N.Nodup)(hi:X.N[i]? =some x)(hx:Loc X.env.scope x)(hf:X.fn x=true\/X.env.scope.names.lookup x=some .local:=by first|exact .inl rfl|exact .inr rfl|assumption):JG X (.Name x pos) (gN i):=⟨BI (hN:=hN) (hi:=hi) (hx:=hx) (hf:=hf)⟩
theorem Ud {j:Nat}{y:Str}{p1 p2:Pos}{k:Nat}(hc:X.calm=true)(hN:X.N.Nodup)(hi:X.N[i]? =some x)(hj:X.N[j]? =some y)(hx:Loc X.env.scope x)(hy:Loc X.env.scope y)(hf:X.fn x=true\/X.env.scope.names.lookup x=some .local:=by first|exact .inl rfl|exact .inr rfl|assumption)(hf2:X.fn y=true\/X.env.scope.names.lookup y=some .local:=by first|exact .inl rfl|exact .inr rfl|assumption):JG X (.Tuple [.Name x p1,.Name y p2] k pos) (gT2 i j):=⟨FZ (hc:=hc) (hN:=hN) (hi:=hi) (hj:=hj) (hx:=hx) (hy:=hy) (hf:=hf) (hf2:=hf2)⟩
theorem Mm {tg:Expr}{g:TGD}(he:JE X e te)(hg:JG X tg g)(hs:swapsWithSole [tg] e pos.line X.env=pure false:=by rfl)(hsw:swappedStores [tg] e X.env=pure none:=by rfl)(h1:(assignEach [tg] X.env).map (·.2)= [assign tg X.env]:=by rfl):JS X (.Assign [tg] e pos) (Aj te g):=⟨EY (he:=he.to) (hg:=hg.to) (hs:=hs) (hsw:=hsw) (h1:=h1)⟩
theorem Ev {j:Nat}{y:Str}{a b:Expr}{ta:TAD}{px py pt:Pos}{kt k2 pt2}(hc:X.calm=true)(hN:X.N.Nodup)(hi:X.N[i]? =some x)(hj:X.N[j]? =some y)(hij:i≠j)(hx:X.env.scope.names.lookup x=some .local)(hy:X.env.scope.names.lookup y=some .local)(ha:JA X [a,b] ta)(hw:swappedStores [.Tuple [.Name x px,.Name y py] kt pt] (.Tuple [a,b] k2 pt2) X.env=pure (some [x,y]))(hs:swapsWithSole [.Tuple [.Name x px,.Name y py] kt pt] (.Tuple [a,b] k2 pt2) pos.line X.env=pure false:=by rfl):JS X (.Assign [.Tuple [.Name x px,.Name y py] kt pt] (.Tuple [a,b] k2 pt2) pos) (Ak i j ta):=⟨EZ (hc:=hc) (hN:=hN) (hi:=hi) (hj:=hj) (hij:=hij) (hx:=hx) (hy:=hy) (ha:=ha.to) (hw:=hw) (hs:=hs)⟩
end
section
variable {X:Cx}{tg e iter elt:Expr}{te:TED}{ti:TID}{g:TGD}{tb:TSD}{tt:TTD}{pos:Pos}{ta:TAD}{scope:Scope}{js:List Nat}{ifs:List Expr}
theorem PX (he:JE X e te):JI X tg e (iL te):=⟨BM (he:=he.to)⟩
theorem YI {p:Pos}{a:Expr}(hg:Gl X "range")(hm:X.mg "range" =none)(ha:JA X [a] ta)(hs:starEach [a] X.env= [(false,eval a X.env)]:=by rfl):JI X tg (.Call (.Name "range" p) [a] [] pos) (iR1 ta):=⟨Ap (hg:=hg) (hm:=hm) (ha:=ha.to) (hs:=hs)⟩
theorem PY {body:List Stmt}(hp:PassesOwn (model X.prog X.w) X.A X.env X.xe)(hc:X.calm=true)(hi:JI X tg iter ti)(hg:JG X tg g)(hb:JSs X body tb)(hs: ∀x,foldedSetIterable iter X.env x=pure x:=by intro _;rfl):JS X (.For tg iter body [] pos) (La ti g tb):=⟨Sa (hp:=hp) (hc:=hc) (hi:=hi.to) (hg:=hg.to) (hb:=hb.to) (hs:=hs)⟩
theorem jZ:PTs X [] (LT X.K WI):=BN
theorem jlc {i:Nat}{x:Str}{p:Pos}(hc:X.calm=true)(S:BlockOk X scope js)(hi:JI X (.Name x p) iter ti)(hj:i∈js)(hN:X.N.Nodup)(hx:X.N[i]? =some x)(hl:scope.names.lookup x=some .local\/scope.names.lookup x=some .cell)(ht: ∀X',jK X scope X'->PTs X' ifs (LT X'.K tt))(he: ∀X',jK X scope X'->JE X' elt te)(hs: ∀x,foldedSetIterable iter X.env x=pure x:=by intro _;rfl):JE X (.ListComp elt [⟨.Name x p,iter,ifs,0⟩] scope pos) (Ye (bN i) js ti tt te):=⟨qlc (hc:=hc) (S:=S) (hi:=hi.to) (hj:=hj) (hN:=hN) (hx:=hx) (hl:=hl) (ht:=ht) (he:=λX' hX=>(he X' hX).to) (hs:=hs)⟩
theorem Sh {i j:Nat}{x y:Str}{p1 p2 p3:Pos}{k:Nat}(hc:X.calm=true)(S:BlockOk X scope js)(hi:JI X (.Tuple [.Name x p1,.Name y p2] k p3) iter ti)(hj:i∈js)(hj2:j∈js)(hij:i≠j)(hN:X.N.Nodup)(hx:X.N[i]? =some x)(hy:X.N[j]? =some y)(hl:scope.names.lookup x=some .local\/scope.names.lookup x=some .cell)(hl2:scope.names.lookup y=some .local\/scope.names.lookup y=some .cell)(ht: ∀X',jK X scope X'->PTs X' ifs (LT X'.K tt))(he: ∀X',jK X scope X'->JE X' elt te)(hs: ∀x,foldedSetIterable iter X.env x=pure x:=by intro _;rfl):JE X (.ListComp elt [⟨.Tuple [.Name x p1,.Name y p2] k p3,iter,ifs,0⟩] scope pos) (Ye (b2 i j) js ti tt te):=⟨Sb (hc:=hc) (S:=S) (hi:=hi.to) (hj:=hj) (hj2:=hj2) (hij:=hij) (hN:=hN) (hx:=hx) (hy:=hy) (hl:=hl) (hl2:=hl2) (ht:=ht) (he:=λX' hX=>(he X' hX).to) (hs:=hs)⟩
end
section
variable {X:Cx}{k:Nat}{f:Addr}{fd:FuncData}{ps:List Str}{spd:RDn}{x:Str}{p pos:Pos}{e:Expr}{es:List Expr}{t:TAD}
theorem jB (F:FnOk X.prog X.w X.K X.mg X.base CX0 k f fd ps (LSp X.K spd))(hr:Room k X.A)(hg:Gl X x)(hm:X.mg x=some (.ref f))(hk:PySem.W.keepIn X.K (.ref f)=true)(hb:Binds X.K fd ps [])(ha:JA X (e::es) t)(hdb:(x==("__debug__" :Str))=false:=by decide)(he:starEach (e::es) X.env=(false,eval e X.env)::starEach es X.env:=by rfl)(hpl:(backTo pos (starEach es X.env)).any (·.1)=false:=by rfl):JE X (.Call (.Name x p) (e::es) [] pos) (dCB spd t):=⟨Aq (F:=F) (hr:=hr) (hg:=hg) (hm:=hm) (hk:=hk) (hb:=hb) (ha:=ha.to) (hdb:=hdb) (he:=he) (hpl:=hpl)⟩
theorem jO {id:String}{r:RDn}(hc:vU X (.builtin id) r)(hg:Gl X x)(hm:X.mg x=none)(hv:bootBuiltins x=some (.builtin id))(ha:JA X (e::es) t)(hn:x≠ "__name__" :=by decide)(hdb:(x==("__debug__" :Str))=false:=by decide)(he:starEach (e::es) X.env=(false,eval e X.env)::starEach es X.env:=by rfl)(hpl:(backTo pos (starEach es X.env)).any (·.1)=false:=by rfl):JE X (.Call (.Name x p) (e::es) [] pos) (dCB r t):=⟨Le (hc:=hc) (hg:=hg) (hm:=hm) (hv:=hv) (ha:=ha.to) (hn:=hn) (hdb:=hdb) (he:=he) (hpl:=hpl)⟩
theorem jU {T:String}{r:RDn}(hc:vU X (.type T) r)(hg:Gl X x)(hm:X.mg x=none)(hv:bootBuiltins x=some (.type T))(ha:JA X (e::es) t)(hn:x≠ "__name__" :=by decide)(hdb:(x==("__debug__" :Str))=false:=by decide)(he:starEach (e::es) X.env=(false,eval e X.env)::starEach es X.env:=by rfl)(hpl:(backTo pos (starEach es X.env)).any (·.1)=false:=by rfl):JE X (.Call (.Name x p) (e::es) [] pos) (dCB r t):=⟨BP (hc:=hc) (hg:=hg) (hm:=hm) (hv:=hv) (ha:=ha.to) (hn:=hn) (hdb:=hdb) (he:=he) (hpl:=hpl)⟩
end
section
variable {X:Cx}{iter elt:Expr}{te:TED}{ti:TID}{tt:TTD}{pos spos:Pos}{scope:Scope}{js:List Nat}{ifs:List Expr}
theorem LD {i k:Nat}{x y:Str}{p py:Pos}(hc:X.calm=true)(hN:X.N.Nodup)(hk:X.N[k]? =some y)(hy:Loc X.env.scope y)(S:BlockOk X scope js)(hi:JI X (.Name x p) iter ti)(hj:i∈js)(hx:X.N[i]? =some x)(hl:scope.names.lookup x=some .local\/scope.names.lookup x=some .cell)(ht: ∀X',jK X scope X'->PTs X' ifs (LT X'.K tt))(he: ∀X',jK X scope X'->JE X' elt te)(hsw:swapsWith (.ListComp elt [⟨.Name x p,iter,ifs,0⟩] scope pos) (some (.Name y py)) spos.line X.env=pure true:=by rfl)(hf:X.fn y=true\/X.env.scope.names.lookup y=some .local:=by first|exact .inl rfl|exact .inr rfl|assumption)(hs: ∀x,foldedSetIterable iter X.env x=pure x:=by intro _;rfl):JS X (.Assign [.Name y py] (.ListComp elt [⟨.Name x p,iter,ifs,0⟩] scope pos) spos) (BD k (Ye (bN i) js ti tt te)):=⟨Lf (hc:=hc) (hN:=hN) (hk:=hk) (hy:=hy) (S:=S) (hi:=hi.to) (hj:=hj) (hx:=hx) (hl:=hl) (ht:=ht) (he:=λX' hX=>(he X' hX).to) (hsw:=hsw) (hf:=hf) (hs:=hs)⟩
end
section
variable {X:Cx}{a b e:Expr}{ta tb te:TED}{pos p2:Pos}
theorem jix (ha:JE X a ta)(hb:JE X b tb)(hs:Xg b):JE X (.Subscript a b pos) (dOp ixD ta tb):=⟨qix (ha:=ha.to) (hb:=hb.to) (hs:=hs)⟩
end
variable {pos:Pos}
theorem JQ {a:Expr}{ta:TED}{T:String}{t:Str}{p p2:Pos}(hT:T∈ ["tuple","int","bool","list","str"])(hg:Gl X "isinstance")(hm:X.mg "isinstance" =none)(hg2:Gl X t)(hm2:X.mg t=none)(hv:bootBuiltins t=some (.type T))(ha:JE X a ta)(hn:t≠ "__name__" :=by decide)(hd:(t==("__debug__" :Str))=false:=by decide)(h1:starEach [a,.Name t p2] X.env=(false,eval a X.env)::starEach [.Name t p2] X.env:=by rfl)(h2:(backTo pos (starEach [.Name t p2] X.env)).any (·.1)=false:=by rfl):JE X (.Call (.Name "isinstance" p) [a,.Name t p2] [] pos) (dIs T ta):=⟨Ax (hT:=hT) (hg:=hg) (hm:=hm) (hg2:=hg2) (hm2:=hm2) (hv:=hv) (ha:=ha.to) (hn:=hn) (hd:=hd) (h1:=h1) (h2:=h2)⟩
section
variable {X:Cx}{o e i:Expr}{to te ti:TED}{apos cpos pos:Pos}
theorem Ox (ho:JE X o to)(he:JE X e te)(hbase:attributeBase o "append" X.env (eval o X.env)=eval o X.env:=by rfl)(hfew:((backTo cpos (starEach [e] X.env)).all (λx=> !x.1)&&(backToKw cpos (keywordEach [] X.env)).all (λx=>x.1.isSome)&&decide ([e].length+([]:List Keyword).length+(if ([]:List Keyword).isEmpty then 0 else 1)<30))=true:=by rfl)(hline:(apos.endLine==cpos.line)=true:=by rfl)(hs:starEach [e] X.env=(false,eval e X.env)::starEach [] X.env:=by rfl)(hplain:(backTo cpos (starEach [] X.env)).any (·.1)=false:=by rfl):JE X (.Call (.Attribute o "append" apos) [e] [] cpos) (Ep to te):=⟨Sd (ho:=ho.to) (he:=he.to) (hbase:=hbase) (hfew:=hfew) (hline:=hline) (hs:=hs) (hplain:=hplain)⟩
theorem Qy (ho:JE X o to)(hi:JE X i ti)(ha: ∀v,assign (.Subscript o i pos) X.env v=(do
 let ov <-holding [v] (eval o X.env)
 let iv <-holding [v,ov] (eval i X.env)
 standAt pos
 holding [v,ov,iv] (setItem ov iv v)
 release [v,ov,iv] []):=by intro _;rfl):JG X (.Subscript o i pos) (Ll to ti):=⟨Lm (ho:=ho.to) (hi:=hi.to) (ha:=ha)⟩
end
theorem jpt {e:Expr}{t:TTD}(h:JW X e t):JT X e t:=⟨qpt (h:=h.to)⟩
theorem zj:JO X none PJ:=⟨BW⟩
variable {te:TED}
theorem za {e:Expr}(he:JE X e te):JO X (some e) (Ln te):=⟨BX (he:=he.to)⟩
theorem zJ {e:Expr}{lo hi:Option Expr}{tl th:TOD}{p2:Pos}(he:JE X e te)(hl:JO X lo tl)(hu:JO X hi th):JE X (.Subscript e (.Slice lo hi none p2) pos) (dSl te tl th):=⟨Lo (he:=he.to) (hl:=hl.to) (hu:=hu.to)⟩
theorem LF {a:Expr}{ta:TED}(ha:JE X a ta):JE X (.UnaryOp .USub a pos) (dUn Ow ta):=⟨Er (ha:=ha.to)⟩
theorem AE {e:Expr}{p2 p3 p4:Pos}{j:Nat}(he:JE X e te):JE X (.Subscript e (.Slice none none (some (.UnaryOp .USub (.Constant (.int 1) j p4) p3)) p2) pos) (Es te):=⟨Sf (he:=he.to)⟩
theorem LH {ks:List (Option Expr)}{vs:List Expr}{x:Str}{i:Int}(h:Xo ks vs=some (x,i):=by rfl):JE X (.Dict ks vs pos) (Qw x i):=⟨Lq (h:=h)⟩
theorem wH {tg e:Expr}(he:JE X e te):JI X tg e (iS te):=⟨Lu (he:=he.to)⟩
theorem LJ {st:Stmt}:JS X st Nt:=⟨Lv⟩
theorem jac {e:Expr}{es:List Expr}{t:TAD}(ha:JE X e te)(hr:JA X es t)(h:Xp e=true:=by rfl):JA X (e::es) (yV te t):=⟨qac (ha:=ha.to) (hr:=hr.to) (h:=h)⟩
section
variable {X:Cx}{o e i:Expr}{to te ti:TED}{apos cpos:Pos}
theorem Si (ho:JE X o to)(hi:JE X i ti)(he:JE X e te)(hbase:attributeBase o "insert" X.env (eval o X.env)=eval o X.env:=by rfl)(hfew:((backTo cpos (starEach [i,e] X.env)).all (λx=> !x.1)&&(backToKw cpos (keywordEach [] X.env)).all (λx=>x.1.isSome)&&decide ([i,e].length+([]:List Keyword).length+(if ([]:List Keyword).isEmpty then 0 else 1)<30))=true:=by rfl)(hline:(apos.endLine==cpos.line)=true:=by rfl)(hs:starEach [i,e] X.env=(false,eval i X.env)::starEach [e] X.env:=by rfl)(hs2:starEach [e] X.env=(false,eval e X.env)::starEach [] X.env:=by rfl)(hplain:(backTo cpos (starEach [e] X.env)).any (·.1)=false:=by rfl):JE X (.Call (.Attribute o "insert" apos) [i,e] [] cpos) (Et to ti te):=⟨Sg (ho:=ho.to) (hi:=hi.to) (he:=he.to) (hbase:=hbase) (hfew:=hfew) (hline:=hline) (hs:=hs) (hs2:=hs2) (hplain:=hplain)⟩
end
section
variable {P:Program}{w:World}{K:PySem.W.Frag}{mg:Str->Option Value}{base:Heap}
theorem Fun.okJ {x qual:Str}{st:Stmt}{f:Addr}{fd:FuncData}{N ps:List Str}{k:Nat}{spd:RDn}(F:Fun K x qual st f fd)(S:FnScope N ps (jk st))(len: ∀ds h Q,spd ds h Q->ds.length=ps.length)
 (tb:TSD)(hbody: ∀ (cdv:Value) (A:Around) (outer:List Env) (s:Shared) (H:Hp) (E:XK),Room k (A.deeper (envOfC qual (jk st) s.heap.objs.size f cdv))->JSs (Nm CX0 P w K mg base N qual (jk st) f cdv A outer s H E).nox (wC st) tb)
 (read: ∀ds h Q,spd ds h Q->tb (Xk Q) (wG N ds) h):FnOk P w K mg base CX0 (k+1) f fd ps (LSp K spd):=F.okD S len tb (λcdv A outer s H E hr=>(hbody cdv A outer s H E hr).to) read
end
def zK (r:List Int):D:= .tup (r.map D.int)
def jr (T:List (List Int)):D:= .tup (T.map zK)
def yy (n:Nat)(r:List Int):Prop:=r.length=n/\ ∀x∈r,0<=x/\x<=1000000
def GoodTab (n:Nat)(T:List (List Int)):Prop:=T.length=n/\ ∀r∈T,yy n r
structure Sq (n e:Nat)(T:List (List Int)):Prop where
 len:T.length=n
 row: ∀r∈T,r.length=n
 nn: ∀r∈T,∀x∈r,0<=x
 bit: ∀r∈T,∀x∈r,x<2^e
variable {n:Nat}{T:List (List Int)}
theorem GoodTab.sq (g:GoodTab n T):Sq n 20 T:=⟨g.1,λr hr=>(g.2 r hr).1,λr hr x hx=>((g.2 r hr).2 x hx).1,λr hr x hx=>Int.lt_of_le_of_lt ((g.2 r hr).2 x hx).2 (by decide)⟩
variable {e f:Nat}
theorem Sq.mono (h:Sq n e T)(l:e<=f):Sq n f T:=⟨h.len,h.row,h.nn,λr hr x hx=>Int.lt_of_lt_of_le (h.bit r hr x hx) (by
 have:(2:Nat)^e<=2^f:=N7 (by decide) l;have h2:((2^e:Nat):Int)<=((2^f:Nat):Int):=by exact_mod_cast this
 simpa using h2)⟩
def ent (T:List (List Int))(i j:Nat):Int:=(T.getD i []).getD j 0
def mkT (n:Nat)(f:Nat->Nat->Int):List (List Int):=(List.range n).map λi=>(List.range n).map λj=>f i j
theorem Zp {i j:Nat}{f:Nat->Nat->Int}(hi:i<n)(hj:j<n):ent (mkT n f) i j=f i j:=by
 unfold ent mkT;simp [P9,hi,hj]
theorem zE {α:Type}(xs:List α)(d:α):xs=(List.range xs.length).map λi=>xs.getD i d:=by
 apply List.ext_getElem (by simp);intro i h1 h2;simp [P9,h1]
theorem Sq.eq_mk (h:Sq n e T):T=mkT n (ent T):=by
 have h1:=zE T [];rw [h.len] at h1;unfold mkT
 conv=>lhs;rw [h1]
 apply T6;intro i hi;have hi':i<T.length:=by rw [h.len];exact D3.mp hi
 have hr:(T.getD i []).length=n:=by
  rw [P9,G3 hi'];exact h.row _ (R6 hi')
 have h2:=zE (T.getD i []) 0;rw [hr] at h2;exact h2
theorem Qz {f g:Nat->Nat->Int}(h: ∀i j,i<n->j<n->f i j=g i j):mkT n f=mkT n g:=by
 unfold mkT;apply T6;intro i hi;apply T6;intro j hj;exact h i j (D3.mp hi) (D3.mp hj)
theorem Sq.of_mk {f:Nat->Nat->Int}(h0: ∀i j,i<n->j<n->0<=f i j)(h1: ∀i j,i<n->j<n->f i j<2^e):Sq n e (mkT n f):=by
 have key: ∀r∈mkT n f,∃i,i<n/\r=(List.range n).map λj=>f i j:=λr hr=>by
  obtain⟨i,hi,e⟩:=D6.mp hr;exact⟨i,D3.mp hi,e.symm⟩
 refine⟨by simp [mkT],λr hr=> ?_,λr hr x hx=> ?_,λr hr x hx=> ?_⟩
 ·obtain⟨i,_,e⟩:=key r hr;rw [e];simp
 ·obtain⟨i,hi,e⟩:=key r hr;rw [e] at hx;obtain⟨j,hj,e2⟩:=D6.mp hx;rw [<-e2];exact h0 i j hi (D3.mp hj)
 ·obtain⟨i,hi,e⟩:=key r hr;rw [e] at hx;obtain⟨j,hj,e2⟩:=D6.mp hx;rw [<-e2];exact h1 i j hi (D3.mp hj)
theorem Sq.ent_nn (h:Sq n e T){i j:Nat}(hi:i<n)(hj:j<n):0<=ent T i j/\ent T i j<2^e:=by
 have hi':i<T.length:=by rw [h.len];exact hi
 have hr:T.getD i []=T[i]:=by rw [P9,G3 hi'];rfl
 have hm:T[i]∈T:=R6 hi';have hj':j<T[i].length:=by rw [h.row _ hm];exact hj
 have he:ent T i j=T[i][j]:=by unfold ent;rw [hr,List.getD_eq_getElem?_getD,List.getElem?_eq_getElem hj'];rfl
 rw [he];exact⟨h.nn _ hm _ (R6 hj'),h.bit _ hm _ (R6 hj')⟩
variable {U:List (List Int)}
theorem Sq.ext (h:Sq n e T)(g:Sq n f U)(k: ∀i j,i<n->j<n->ent T i j=ent U i j):T=U:=by
 rw [h.eq_mk,g.eq_mk];exact Qz k
def jI (n:Nat)(f:Nat->Int):Int:=((List.range n).map f).sum
theorem ym (f:Nat->Int):jI 0 f=0:=rfl
theorem jH (n:Nat)(f:Nat->Int):jI (n+1) f=jI n f+f n:=by
 unfold jI;rw [List.range_succ,List.map_append,List.sum_append];simp
theorem zy {f g:Nat->Int}(h: ∀k,k<n->f k=g k):jI n f=jI n g:=by
 unfold jI;congr 1;apply List.map_congr_left;intro k hk;exact h k (List.mem_range.mp hk)
theorem vC {f:Nat->Int}(h: ∀k,k<n->0<=f k):0<=jI n f:=by
 induction n with
 |zero=>exact Y7 _
 |succ n ih=>rw [jH];have:=ih λk hk=>h k (by omega);have:=h n (by omega);omega
theorem ZQ {f:Nat->Int}{b:Int}(h: ∀k,k<n->f k<=b):jI n f<=n*b:=by
 induction n with
 |zero=>simp [ym]
 |succ n ih=>
  rw [jH];have h1:=ih λk hk=>h k (by omega);have h2:=h n (by omega)
  have:((n+1:Nat):Int)*b=(n:Int)*b+b:=by rw [Int.natCast_add,Int.add_mul];simp
  omega
theorem Da (n:Nat)(f g:Nat->Int):jI n (λk=>f k+g k)=jI n f+jI n g:=by
 induction n with
 |zero=>rfl
 |succ n ih=>rw [jH,jH,jH,ih];omega
theorem Wf (n:Nat)(c:Int)(f:Nat->Int):jI n (λk=>c*f k)=c*jI n f:=by
 induction n with
 |zero=>simp [ym]
 |succ n ih=>rw [jH,jH,ih,Int.mul_add]
theorem Gs (n:Nat)(c:Int)(f:Nat->Int):jI n (λk=>f k*c)=jI n f*c:=by
 rw [Z6,<-Wf];exact zy λk _=>Z6 _ _
theorem Gt (m n:Nat)(f:Nat->Nat->Int):jI m (λi=>jI n (f i))=jI n (λj=>jI m λi=>f i j):=by
 induction m with
 |zero=>
  rw [ym]
  induction n with
  |zero=>rfl
  |succ n ih=>rw [jH,<-ih,ym];rfl
 |succ m ih=>
  rw [jH,ih,<-Da];exact zy λj _=>(jH m λi=>f i j).symm
theorem Ue {f:Nat->Int}{i:Nat}(hi:i<n)(h: ∀k,k<n->k≠i->f k=0):jI n f=f i:=by
 induction n with
 |zero=>omega
 |succ n ih=>
  rw [jH]
  by_cases e:i=n
  ·subst e;have:jI i f=0:=by
    have:jI i f=jI i (λ_=>0*1):=zy λk hk=>by rw [h k (by omega) (by omega)];rfl
    rw [this,Wf];simp
   omega
  ·rw [ih (by omega) λk hk hne=>h k (by omega) hne,h n (by omega) (by omega)];omega
theorem Db {f:Nat->Int}(h: ∀k,k<n->0<=f k):0<jI n f↔ ∃k,k<n/\0<f k:=by
 induction n with
 |zero=>simp [ym]
 |succ n ih=>
  rw [jH];have h1:=vC λk (hk:k<n)=>h k (by omega)
  have h2:=h n (by omega);have ih':=ih λk hk=>h k (by omega)
  constructor
  ·intro z
   by_cases q:0<f n
   ·exact⟨n,by omega,q⟩
   ·obtain⟨k,a,b⟩:=ih'.mp (by omega);exact⟨k,by omega,b⟩
  ·rintro ⟨k,a,b⟩
   by_cases q:k=n
   ·subst q;omega
   ·have:=ih'.mpr ⟨k,by omega,b⟩;omega
def vD (n:Nat)(T U:List (List Int)):List (List Int):=mkT n λi j=>jI n λk=>ent T i k*ent U k j
theorem Sq.mul (h:Sq n e T)(g:Sq n f U)(hn:n<=8):Sq n (e+f+3) (vD n T U):=by
 have nn: ∀i j,i<n->j<n-> ∀k,k<n->0<=ent T i k*ent U k j:=λi j hi hj k hk=>Int.mul_nonneg (h.ent_nn hi hk).1 (g.ent_nn hk hj).1
 refine Sq.of_mk (λi j hi hj=>vC (nn i j hi hj)) λi j hi hj=> ?_
 have hle: ∀k,k<n->ent T i k*ent U k j<=2^e*2^f-1:=λk hk=>by
  have a:=h.ent_nn hi hk;have b:=g.ent_nn hk hj;have:ent T i k*ent U k j<2^e*2^f:=by
   have p:(0:Int)<2^f:=Z7 (by decide)
   calc ent T i k*ent U k j<=ent T i k*2^f:=Int.mul_le_mul_of_nonneg_left (Int.le_of_lt b.2) a.1
    _<2^e*2^f:=Int.mul_lt_mul_of_pos_right a.2 p
  omega
 have s:=ZQ hle;have p:(0:Int)<2^e*2^f:=Int.mul_pos (Z7 (by decide)) (Z7 (by decide));have e1:(2:Int)^(e+f+3)=8*(2^e*2^f):=by rw [Int.pow_add,Int.pow_add];rw [Z6];rfl
 rw [e1];have hn':(n:Int)<=8:=by omega
 have:(n:Int)*(2^e*2^f-1)<=8*(2^e*2^f-1):=Int.mul_le_mul_of_nonneg_right hn' (by omega);omega
theorem vW {i j:Nat}(hi:i<n)(hj:j<n):ent (vD n T U) i j=jI n λk=>ent T i k*ent U k j:=Zp hi hj
def GT (n:Nat):List (List Int):=mkT n λi j=>if i=j then 1 else 0
theorem Sq.one (n:Nat):Sq n 1 (GT n):=Sq.of_mk (f:=λi j=>if i=j then 1 else 0) (λi j _ _=>by split<;>decide) λi j _ _=>by split<;>decide
theorem mul_assoc {g:Nat}{V:List (List Int)}(hT:Sq n e T)(hU:Sq n f U)(hV:Sq n g V)(hn:n<=8):vD n (vD n T U) V=vD n T (vD n U V):=by
 refine((hT.mul hU hn).mul hV hn).ext (hT.mul (hU.mul hV hn) hn) λi j hi hj=> ?_
 rw [vW hi hj,vW hi hj];have e1:(jI n λk=>ent (vD n T U) i k*ent V k j)=jI n λk=>jI n λl=>ent T i l*ent U l k*ent V k j:=
  zy λk hk=>by rw [vW hi hk,<-Gs]
 have e2:(jI n λl=>ent T i l*ent (vD n U V) l j)=jI n λl=>jI n λk=>ent T i l*(ent U l k*ent V k j):=
  zy λl hl=>by rw [vW hl hj,<-Wf]
 rw [e1,e2,Gt];exact zy λl _=>zy λk _=>Int.mul_assoc _ _ _
theorem Mn (hT:Sq n e T)(hn:n<=8):vD n (GT n) T=T:=by
 refine((Sq.one n).mul hT hn).ext hT λi j hi hj=> ?_
 rw [vW hi hj,Ue hi λk hk hne=>by rw [GT,Zp hi hk,if_neg (Ne.symm hne)];simp];rw [GT,Zp hi hi,if_pos rfl];simp
theorem Mo (hT:Sq n e T)(hn:n<=8):vD n T (GT n)=T:=by
 refine(hT.mul (Sq.one n) hn).ext hT λi j hi hj=> ?_
 rw [vW hi hj,Ue hj λk hk hne=>by rw [GT,Zp hk hj,if_neg hne];simp];rw [GT,Zp hj hj,if_pos rfl];simp
def wY (n:Nat)(T:List (List Int)):Nat->List (List Int)
 |0=>GT n
 |k+1=>vD n (wY n T k) T
theorem Sq.pow (hT:Sq n e T)(hn:n<=8): ∀k,Sq n (k*(e+3)+1) (wY n T k)
 |0=>(Sq.one n).mono (by omega)
 |k+1=>((Sq.pow hT hn k).mul hT hn).mono (by rw [Nat.succ_mul];omega)
def jw (n:Nat)(T:List (List Int)):List (List Int):=mkT n λi j=>if ent T i j=0 then 0 else 1
theorem Sq.mark (T:List (List Int)):Sq n 1 (jw n T):=Sq.of_mk (f:=λi j=>if ent T i j=0 then 0 else 1) (λi j _ _=>by split<;>decide) λi j _ _=>by split<;>decide
structure Ord (n:Nat)(o:List Nat):Prop where
 len:o.length=n
 all: ∀i,i<n->i∈o
def MulOk (i j:Int):Prop:= ∃m n:Nat,i.natAbs<2^m/\j.natAbs<2^n/\m+n<=134217728
theorem MulOk.ok {i j:Int}(h:MulOk i j):IntMulOk i j:=by
 obtain⟨m,n,a,b,c⟩:=h;exact .of_le (Y2.mpr a) (Y2.mpr b) c
theorem Cb:OpR X (binaryOp .Mult) (rI MulOk λi j=> .int (i*j)):=opI λ_ _ _ _ _ _ _ hc q=>mul_int q hc.ok
def Sj:RD2:=λx y h Q=>match x,y with
 | .int i,.int j=>MulOk i j/\Q (.int (i*j)) h
 |_,_=>False
theorem Dc:OpQ X (binaryOp .Mult) Sj:=YA (gd:=λi j=> .int (i*j)) Cb (λ_ _ _=>rfl) λx y h Q q=>by
 cases x<;>cases y<;>first|exact False.elim q|exact⟨_,_,rfl,rfl,q.1,q.2⟩
theorem yY {x:Int}(h0:0<=x)(h1:x<2^e):x.natAbs<2^e:=by
 have:((2^e:Nat):Int)=2^e:=by simp
 omega
theorem QB {x y:Int}(hx:0<=x/\x<2^e)(hy:0<=y/\y<2^f)(h:e+f<=134217728):MulOk x y:=⟨e,f,yY hx.1 hx.2,yY hy.1 hy.2,h⟩
section
variable {α β:Type}{i i':Nat}{js:List Nat}{ti ti':TID}{te:TED}{σ:SD}{h:HD}{Q:KD}{j:ItD}
theorem lcA (xs:List α)(c g:α->D)(hz:xs.length<=1000)(hj:j h=some (xs.map c))(ht: ∀R:ItD->HD->Prop,R j h->ti σ h R)
 (he: ∀x∈xs,∀Q':KD,Q' (g x) h->te ((wN js σ).set i (some (c x))) h Q')(hq: ∀p,h p=none->Q (.lst p) (zY h p (xs.map g))):Ye (bN i) js ti WI te σ h Q:=by
 refine ht _ ⟨xs.length,λk ys h'=>h'=h/\ys=(xs.take k).map g,⟨rfl,by simp⟩,?_⟩;rintro k ys h' ⟨rfl,rfl⟩;refine⟨by simp only [G0,T1];exact T5 (zr (by omega)),xs.map c,hj,by simp,λhl p hp=> ?_,λd hd=>⟨_,rfl,?_⟩⟩
 ·rw [B0 (by simpa using hl)];exact hq p hp
 ·unfold WI;dsimp only;rw [if_pos rfl];rw [G6] at hd;cases hx:xs[k]? with
  |none=>rw [hx] at hd;cases hd
  |some x=>
   rw [hx] at hd;cases hd;refine he x (R8 hx) _ ⟨h',Sub.refl _,rfl,?_⟩;rw [B9,hx];simp
theorem Nu (xs:List α)(c g:α->D)(hz:xs.length<=1000)(hj:j h=some (xs.map c))(ht: ∀R:ItD->HD->Prop,R j h->ti σ h R)
 (he: ∀x∈xs,∀Q':KD,Q' (g x) h->te ((wN js σ).set i (some (c x))) h Q')(hq:Q (.tup (xs.map g)) h):dCB Qu (yV (Ye (bN i) js ti WI te) UY) σ h Q:=by
 show Ye (bN i) js ti WI te σ h (λx h1=>Qu [x] h1 Q);exact lcA xs c g hz hj ht he λp hp=>(show ∃ys,zY h p (xs.map g) p=some ys/\Q (.tup ys) (zd (zY h p (xs.map g)) p) from ⟨_,jb,by rw [wF hp];exact hq⟩)
theorem Ew (xs:List α)(c:α->D)(g:α->Int)(hz:xs.length<=1000)(hj:j h=some (xs.map c))(ht: ∀R:ItD->HD->Prop,R j h->ti σ h R)
 (he: ∀x∈xs,∀Q':KD,Q' (.int (g x)) h->te ((wN js σ).set i (some (c x))) h Q')(hq:Q (.int (xs.map g).sum) h):dCB AA (yV (Ye (bN i) js ti WI te) UY) σ h Q:=by
 show Ye (bN i) js ti WI te σ h (λx h1=>AA [x] h1 Q);exact lcA xs c (λx=> .int (g x)) hz hj ht he λp hp=>⟨p,xs.map g,rfl,by rw [jb,S5];rfl,by rw [wF hp];exact hq⟩
theorem Ex (xs:List α)(c:α->D)(g:α->Bool)(hz:xs.length<=1000)(hj:j h=some (xs.map c))(ht: ∀R:ItD->HD->Prop,R j h->ti σ h R)
 (he: ∀x∈xs,∀Q':KD,Q' (.bl (g x)) h->te ((wN js σ).set i (some (c x))) h Q')(hq:Q (.bl (xs.all g)) h):dCB Lk (yV (Ye (bN i) js ti WI te) UY) σ h Q:=by
 show Ye (bN i) js ti WI te σ h (λx h1=>Lk [x] h1 Q);exact lcA xs c (λx=> .bl (g x)) hz hj ht he λp hp=>⟨p,xs.map g,rfl,by rw [jb,S5];rfl,by rw [wF hp,O0];exact hq⟩
end
end L2
namespace L2
open PySem PySem.Spec PyProof.Rows PySem.SeqAt
def Ry (o:List Nat):D:= .tup (o.map λ(k:Nat)=>D.int (k:Int))
def Ordr (n:Nat)(o:List Nat):Prop:=o.Perm (List.range n)
variable {n:Nat}
theorem Ordr.ord {o:List Nat}(h:Ordr n o):Ord n o:=⟨by rw [h.length_eq,P4],λi hi=>h.mem_iff.mpr (D3.mpr hi)⟩
theorem Ordr.insert {o:List Nat}(h:Ordr n o)(k:Nat):Ordr (n+1) (o.take k++n::o.drop k):=by
 unfold Ordr;rw [O3];refine List.perm_middle.trans ?_;rw [List.take_append_drop];exact(List.Perm.cons n h).trans (List.perm_append_singleton n _).symm
theorem Uf (h:HD): ∀ns:List Int,ToPs h (ns.map D.int) (ns.map PyData.int)
 | []=>rfl
 |n::ns=>⟨_,_,rfl,rfl,Uf h ns⟩
theorem Wg: ∀ns:List Int,PyData.canLayAll0 (ns.map PyData.int)=true
 | []=>rfl
 |n::ns=>by show (PyData.canLay0 (.int n)&&_)=true;rw [Wg ns];rfl
theorem Yh: ∀ns:List Int,PyData.depthAll (ns.map PyData.int)<=1
 | []=>by simp [PyData.depthAll]
 |n::ns=>by
  have:=Yh ns;simp only [R0,PyData.depthAll,PyData.depth];omega
def Wh (r:List Int):PyData:= .tuple (r.map .int)
def Zq (T:List (List Int)):PyData:= .tuple (T.map Wh)
theorem Ug (h:HD): ∀T:List (List Int),ToPs h (T.map zK) (T.map Wh)
 | []=>rfl
 |r::T=>⟨_,_,rfl,⟨_,rfl,Uf h r⟩,Ug h T⟩
theorem yZ (h:HD)(T:List (List Int)):ToP h (jr T) (Zq T):=⟨_,rfl,Ug h T⟩
theorem yz: ∀T:List (List Int),PyData.canLayAll0 (T.map Wh)=true
 | []=>rfl
 |r::T=>by
  show (PyData.canLay0 (Wh r)&&_)=true;rw [yz T];have:PyData.canLay0 (Wh r)=true:=by unfold Wh;simp only [PyData.canLay0];exact Wg r
  rw [this];rfl
theorem vE: ∀T:List (List Int),PyData.depthAll (T.map Wh)<=3
 | []=>by simp [PyData.depthAll]
 |r::T=>by
  have:=vE T;have h2:=Yh r;simp only [R0,PyData.depthAll,PyData.depth,Wh];omega
theorem vF (T:List (List Int)):shaped (Zq T)=true:=by
 unfold shaped;have h1:PyData.canLay0 (Zq T)=true:=by unfold Zq;simp only [PyData.canLay0];exact yz T
 have h2:=vE T;have h3:PyData.depth (Zq T)<=64:=by unfold Zq;simp only [PyData.depth];omega
 rw [h1,D5 h3];rfl
variable {e:Nat}{T:List (List Int)}
theorem De (h:Sq n e T){i:Nat}(hi:i<n):atI (T.map zK) (i:Int)=some (zK (T.getD i [])):=by
 have hi':i<T.length:=by rw [h.len];exact hi
 exact zX (by rw [G6,P9,G3 hi'];rfl)
theorem Sq.getRow (h:Sq n e T){i:Nat}(hi:i<n):T.getD i []∈T:=by
 have hi':i<T.length:=by rw [h.len];exact hi
 rw [P9,G3 hi'];exact R6 hi'
theorem YJ {r:List Int}(h:r.length=n){j:Nat}(hj:j<n):atI (r.map D.int) (j:Int)=some (.int (r.getD j 0)):=by
 have hj':j<r.length:=by rw [h];exact hj
 exact zX (by rw [G6,P9,G3 hj'];rfl)
theorem Df (T:List (List Int))(f:Int->Int):D.tup (T.map λr=>D.tup (r.map λx=>D.int (f x)))=jr (T.map λr=>r.map f):=by
 unfold jr zK;rw [S5]
 congr 1
 apply T6;intro r _;simp [S5,V4]
theorem Dg (h:Sq n e T):jw n T=T.map λr=>r.map λx=>if x≠0 then 1 else 0:=by
 conv=>rhs;rw [h.eq_mk]
 unfold jw mkT;rw [S5];apply T6;intro i _;simp only [T7,S5];apply T6;intro j _;simp only [T7]
 by_cases z:ent T i j=0
 ·rw [if_pos z,if_neg (by simpa using z)]
 ·rw [if_neg z,if_pos z]
variable {U:List (List Int)}
theorem QC (h:Sq n e T):(T.map λr=>D.tup ((List.range n).map λj=>D.int (jI n λm=>r.getD m 0*ent U m j)))=(vD n T U).map zK:=by
 conv=>lhs;rw [zE T [],h.len]
 unfold vD mkT;rw [S5,S5];apply T6;intro i _;simp only [T7,zK,S5];rfl
theorem pow_add (h:Sq n e T)(hn:n<=8)(a:Nat): ∀b,wY n T (a+b)=vD n (wY n T a) (wY n T b)
 |0=>by rw [show wY n T 0=GT n from rfl,Mo (h.pow hn a) hn];rfl
 |b+1=>by
  show vD n (wY n T (a+b)) T=vD n (wY n T a) (vD n (wY n T b) T);rw [pow_add h hn a b,mul_assoc (h.pow hn a) (h.pow hn b) h hn]
variable {i:Nat}
theorem Mp {j:Nat}(hi:i<n)(hj:j<n):ent (jw n T) i j=if ent T i j=0 then 0 else 1:=Zp hi hj
theorem QD (h: ∀i j,i<n->j<n->(ent T i j=0↔ent U i j=0)):jw n T=jw n U:=Qz λi j hi hj=>by
 by_cases z:ent T i j=0
 ·rw [if_pos z,if_pos ((h i j hi hj).mp z)]
 ·rw [if_neg z,if_neg (λw=>z ((h i j hi hj).mpr w))]
theorem va {j:Nat}(hi:i<n)(hj:j<n):ent (jw n T) i j=0↔ent T i j=0:=by
 rw [Mp hi hj]
 by_cases z:ent T i j=0
 ·rw [if_pos z];simp [z]
 ·rw [if_neg z];simp [z]
theorem Uh (T:List (List Int)):jw n (jw n T)=jw n T:=QD λi j hi hj=>va hi hj
theorem vb {f j:Nat}(h:Sq n e T)(g:Sq n f U)(hi:i<n)(hj:j<n):ent (vD n T U) i j≠0↔ ∃k,k<n/\ent T i k≠0/\ent U k j≠0:=by
 rw [vW hi hj];have nn: ∀k,k<n->0<=ent T i k*ent U k j:=λk hk=>Int.mul_nonneg (h.ent_nn hi hk).1 (g.ent_nn hk hj).1
 have s:=vC nn;have p:=Db nn;constructor
 ·intro z;obtain⟨k,hk,w⟩:=p.mp (by omega);refine⟨k,hk,λq=> ?_,λq=> ?_⟩
  ·rw [q] at w;simp at w
  ·rw [q] at w;simp at w
 ·rintro ⟨k,hk,a,b⟩ z;have c:=(h.ent_nn hi hk).1;have d:=(g.ent_nn hk hj).1;have:0<ent T i k*ent U k j:=Int.mul_pos (by omega) (by omega);have:=p.mpr ⟨k,hk,this⟩;omega
theorem ZR {f:Nat}(h:Sq n e T)(g:Sq n f U):jw n (vD n T U)=jw n (vD n (jw n T) (jw n U)):=
 QD λi j hi hj=>by
  have a:=vb h g hi hj;have b:=vb (Sq.mark (n:=n) T) (Sq.mark (n:=n) U) hi hj;have c:(∃k,k<n/\ent T i k≠0/\ent U k j≠0)↔ ∃k,k<n/\ent (jw n T) i k≠0/\ent (jw n U) k j≠0:=
   ⟨λ⟨k,hk,x,y⟩=>⟨k,hk,λz=>x ((va hi hk).mp z),λz=>y ((va hk hj).mp z)⟩,λ⟨k,hk,x,y⟩=>⟨k,hk,λz=>x ((va hi hk).mpr z),λz=>y ((va hk hj).mpr z)⟩⟩
  exact⟨λz=>A1 λw=>(a.mpr (c.mpr (b.mp w))) z,λz=>A1 λw=>(b.mpr (c.mp (a.mp w))) z⟩
section
variable {prog:Program}{w:World}{A:Around}{E:Value->Shared->Prop}{s:Shared}
variable {items:Array Value}
theorem Dh {it t:Addr}{i n:Nat}{d1 d2:Option Addr}{s1 s2:Array (Option Value)}{P:PySem.Fin->Shared->Prop}(a1:s.heap.get? it=some {cls:= .type "tuple_iterator",dict:=d1,data:= .fields #[.ref t,.int i 0],slots:=s1})(a2:s.heap.get? t=some {cls:= .type "tuple",dict:=d2,data:= .seq items n,slots:=s2})
 (more: ∀x h',items[i]? =some x->h'.IsTupleIter it t (i+1)->Heap.SameBut it s.heap h'->P (.done (.ret x)) {s with heap:=h'})
 (none_:items[i]? =none->wpAny (model prog w) A (do setField (.ref it) 0 .none;Builtin.SmallTypes.stopIteration) P E s):wpAny (model prog w) A (Builtin.«tuple_iterator.__next__» ⟨[.ref it],[]⟩) P E s:=by
 obtain⟨hp,g,d,tk,os⟩:=s
 wp_walk
 rw [Int.toNat_natCast];cases hx:items[i]? with
 |none=>exact wpAny_bind (X5 (none_ hx))
 |some x=>
  refine wpAny_bind (wpAny_setField a1 rfl (by simp) (G2 (more x _ hx ⟨_,N1 _ a1 ?_,rfl,?_⟩ (B3 ..))))
  ·rfl
  ·simp [Obj.mapFields,rawInt]
theorem Xs {Q:PySem.Fin->Shared->Prop}(hh:A.handled=none)(hE: ∀h' e,(∀b o,s.heap.get? b=some o->h'.get? b=some o)->(∃o,h'.get? e=some o/\o.cls= .type "StopIteration")->E (.ref e) {s with heap:=h'}):wpAny (model prog w) A Builtin.SmallTypes.stopIteration Q E s:=by
 obtain⟨hp,g,d,tk,os⟩:=s;unfold Builtin.SmallTypes.stopIteration
 wp_walk
 unfold raiseNew;refine wpAny_bind (wpAny_handled ?_);rw [hh];exact wpAny_bind (G2 (wpAny_throw (hE _ _ (λb o q=>G1 _ (G1 _ q)) ⟨_,D1 _ rfl,rfl⟩)))
theorem JR {it t:Addr}{i:Nat}{x:Value}{Q:Value->Shared->Prop}(hit:s.heap.IsTupleIter it t i)(ht:s.heap.IsTuple t items)(hx:items[i]? =some x)
 (hQ: ∀h',h'.IsTupleIter it t (i+1)->Heap.SameBut it s.heap h'->Q x {s with heap:=h'}):wpAny (model prog w) A (Builtin.SmallTypes.nextOf (.ref it)) Q E s:=by
 obtain⟨⟨c,d1,dt,s1⟩,ho,rfl,rfl⟩:=id hit;obtain⟨⟨c2,d2,dt2,s2⟩,hol,rfl,nl,rfl⟩:=ht;exact wpAny_bind (S9 hit.typeIs C6 (M8 C6 hit.typeIs Q2 (Dh ho hol (λy h' e b1 b2=>⟨y,rfl,G2 (by rw [hx] at e;cases e;exact hQ h' b1 b2)⟩) λe=>by rw [hx] at e;cases e) (K4 _)))
theorem zS {it t:Addr}{i:Nat}{Q:Value->Shared->Prop}(hh:A.handled=none)(hit:s.heap.IsTupleIter it t i)(ht:s.heap.IsTuple t items)(hx:items[i]? =none)
 (hE: ∀h' e,Heap.ExtBut it s.heap h'->(∃o,h'.get? e=some o/\o.cls= .type "StopIteration")->E (.ref e) {s with heap:=h'}):wpAny (model prog w) A (Builtin.SmallTypes.nextOf (.ref it)) Q E s:=by
 obtain⟨⟨c,d1,dt,s1⟩,ho,rfl,rfl⟩:=id hit;obtain⟨⟨c2,d2,dt2,s2⟩,hol,rfl,nl,rfl⟩:=ht;refine wpAny_bind (S9 hit.typeIs C6 (M8 C6 hit.typeIs Q2 (Dh ho hol (λy h' e b1 b2=>by rw [hx] at e;cases e) λ_=>wpAny_bind (wpAny_setField ho rfl (by simp) ?_)) (K4 _)));exact Xs (s:= {s with heap:=_}) hh λh' e grown stop=>hE h' e (λb o ne q=>grown b o ((B3 ..).extBut b o ne q)) stop
end
variable {prog:Program}{w:World}{A:Around}
theorem Di (hh:A.handled=none)(it t:Addr)(hne:t≠it)(items:Array Value):
 Draws prog w A it [it,t] items.size (λi v=>items[i]? =some v) (λi h=>h.IsTupleIter it t i/\h.IsTuple t items) where
 live:=λ_ _ st=>let ⟨o,ho,_⟩:=st.1;⟨o,ho⟩
 frame:=λ_ _ _ st hk=>⟨st.1.at λo e=>hk it (by simp) o e,st.2.at λo e=>hk t (by simp) o e⟩
 item:=λi s Q E hi st hQ=>JR st.1 st.2 (x:=items[i]) (by simp [hi]) λh' hit' hs'=>hQ _ h' s.toks (by simp [hi]) ⟨hit',st.2.extBut hs'.extBut hne⟩ hs'
 done:=λs Q E st hE=>zS hh st.1 st.2 (by simp) hE
theorem Dj (hh:A.handled=none)(it t:Addr)(items:Array Value)(n:Nat)(hn:items.size<=n):
 Draws prog w A it [it,t] n (λ_ _=>False) (λi h=>i=n/\h.IsTupleIter it t n/\h.IsTuple t items) where
 live:=λ_ _ st=>let ⟨o,ho,_⟩:=st.2.1;⟨o,ho⟩
 frame:=λ_ _ _ st hk=>⟨st.1,st.2.1.at λo e=>hk it (by simp) o e,st.2.2.at λo e=>hk t (by simp) o e⟩
 item:=λi s Q E hi st hQ=>absurd st.1 (D9 hi)
 done:=λs Q E st hE=>zS hh st.2.1 st.2.2 (W6 hn) hE
section
variable {prog:Program}{w:World}{A:Around}{E:Value->Shared->Prop}{s:Shared}
theorem Dk {l:Addr}{its:Array Value}{P:PySem.Fin->Shared->Prop}(at_:s.heap.IsTuple l its)
 (h: ∀h',IsEnum h' (s.heap.objs.size+1) s.heap.objs.size 0 .none->h'.IsTupleIter s.heap.objs.size l 0->(∀b o,s.heap.get? b=some o->h'.get? b=some o)->P (.done (.ret (.ref (s.heap.objs.size+1)))) {s with heap:=h'}):
 wpAny (model prog w) A (Builtin.«enumerate.__new__» ⟨[.type "enumerate",.ref l],[]⟩) P E s:=by
 have fine:=sub_enumerate;obtain⟨⟨c,dd,dt,sl⟩,there,rfl,n,rfl⟩:=id at_;obtain⟨hp,g,d,tk,os⟩:=s;have size: ∀o,(hp.push o).objs.size=hp.objs.size+1:=λo=>J2 ..
 have made:=D1 (hp.push {cls:= .type "tuple_iterator",data:= .fields #[.ref l,.int 0 0]}) (o:= {cls:= .type "enumerate",data:= .fields #[.none,.bool false,.ref hp.objs.size,rawInt 0,.none,.none]}) rfl;have fin:=h _ (by rw [<-size];exact made) ⟨_,G1 _ (D1 _ rfl),rfl,rfl⟩ λb o old=>G1 _ (G1 _ old)
 rw [<-size {cls:= .type "tuple_iterator",data:= .fields #[.ref l,.int 0 0]}] at fin
 wp_walk using A7 there
 refine wpAny_stack_any λcalls=>G2 ?_
 split
 case h_1 c _ _ _ _ _=>cases c==Value.type "enumerate" <;>(wp_walk using A7 there,F0 at_;exact fin)
 case h_2=>wp_walk using A7 there,F0 at_;exact fin
theorem YK {l:Addr}{items:Array Value}{Q:Value->Shared->Prop}(hL:s.heap.IsTuple l items)
 (h: ∀h',IsEnum h' (s.heap.objs.size+1) s.heap.objs.size 0 .none->h'.IsTupleIter s.heap.objs.size l 0->(∀b o,s.heap.get? b=some o->h'.get? b=some o)->Q (.ref (s.heap.objs.size+1)) {s with heap:=h'}):
 wpAny (model prog w) A (call (.type "enumerate") [.ref l]) Q E s:=
 callType_new F.called_enumerate (by decide) (F.typeCall_enumerate_1 _) (F.newCall_enumerate_1 _) (λ_=>F.args_object_init_2 _ _) F.entry_enumerate_new
  (S:=λ_ R s=>s.heap.IsTuple l items/\ ∀h',IsEnum h' (s.heap.objs.size+1) s.heap.objs.size 0 .none->h'.IsTupleIter s.heap.objs.size l 0->(∀b o,s.heap.get? b=some o->h'.get? b=some o)->R (.ok (.ret (.ref (s.heap.objs.size+1)))) {s with heap:=h'})
  (.of_wp λ_ _ _ _ _ ⟨tup,k⟩=>Dk tup λh' e i old=>⟨_,rfl,k h' e i old⟩) ⟨hL,λh' e i old=>⟨⟨_,e,rfl⟩,h h' e i old⟩⟩
end
section
variable {X:Cx}{pins:List (Addr×Obj)}{σ:List (Option V)}{H:Hp}{s:Shared}{h':Heap}
theorem Inv.turnL {t':Nat}{ch:List Addr}(I:Inv X pins σ H s)(k: ∀b o,b ∉ ch->s.heap.get? b=some o->h'.get? b=some o)(hc: ∀b∈ch,Pd X pins H b):Inv X pins σ H {s with heap:=h',toks:=t'}:=by
 refine I.step (g':=s.gens) (d':=s.drawn) (ch:=ch) (λb hb=>let ⟨_,f1,_,f3,f4,f5⟩:=hc b hb;⟨f3,f1,f4,f5⟩) (λb o _ _ nb e _=>k b o nb e) (λb o _ _ nb e _=>⟨o.slots,k b o nb e⟩) (λ_ _ _ _ n=>n)
  (λb o nb e=>⟨o,k b o nb e⟩) (λ_ _ e=>e) (λ_ _ _ e=>e) (λb ps e=>⟨#[],by rw [e];simp⟩) (λm hm=> ?_) (λb u e=> ?_) I.bare
 ·obtain⟨o,es,ep,ho,r⟩:=hm;exact⟨o,es,ep,k _ o (λz=>(hc _ z).2.1 rfl) ho,r⟩
 ·refine(I.hok b u e).stay (λc v hb q=>k c v (λz=> ?_) q) (λ_ q=>q) λ_ _ q=>q
  have f:=(hc c z).1;rcases hb with w|w
  ·rw [w,e] at f;cases f
  ·rw [w] at f;cases f
theorem Inv.turnLaid {t':Nat}{ch:List Addr}{a:Addr}{o:HO}(I:Inv X pins σ H s)(k: ∀b u,b ∉ ch->s.heap.get? b=some u->h'.get? b=some u)(hc: ∀b∈ch,Pd X pins H b)(hp:s.heap.objs.size<=a)
 (new:ObjOk X.prog X.w (upd H a o) h' a o):Inv X pins σ (upd H a o) {s with heap:=h',toks:=t'}:=by
 have hn:=I.hok.fresh hp;refine I.step (g':=s.gens) (d':=s.drawn) (ch:=ch) (λb hb=>let ⟨_,f1,_,f3,f4,f5⟩:=hc b hb;⟨f3,f1,f4,f5⟩) (λb u _ _ nb e _=>k b u nb e) (λb u _ _ nb e _=>⟨u.slots,k b u nb e⟩)
  (λb u _ e n=>by rw [jx (D9 (D2 (P6 e) hp))];exact n) (λb u nb e=>⟨u,k b u nb e⟩) (λb xs q=>by rw [jx (ju q hn)];exact q) (λb u xs q=>by rw [jx (ju q hn)];exact q)
  (λb ps q=>⟨#[],by rw [jx (ju q hn),q];simp⟩) (λm hm=> ?_) (λb u e=> ?_) I.bare
 ·obtain⟨u,es,ep,ho,r⟩:=hm;exact⟨u,es,ep,k _ u (λz=>(hc _ z).2.1 rfl) ho,r⟩
 ·by_cases hb:b=a
  ·subst hb;rw [jy] at e;cases e;exact new
  ·rw [jx hb] at e;refine(I.hok b u e).stay (λc v hb q=>k c v (λz=> ?_) q) (λc q=>by rw [jx (ju q hn)];exact q) λc xs q=>by rw [jx (ju q hn)];exact q
   have f:=(hc c z).1;rcases hb with w|w
   ·rw [w,e] at f;cases f
   ·rw [w] at f;cases f
end
def Ite (K:PySem.W.Frag)(a:Addr):It:=
 ⟨λi H=> ∃xs x,SqT K H a xs/\xs[i]? =some x,λi H x H'=> ∃p v,H p=none/\(∀xs,SqT K H a xs->xs[i]? =some v)/\x= .ref p/\H'=upd H p (.tup [.int i,v]),λi H=> ∃xs,SqT K H a xs/\xs.length<=i⟩
theorem Dl {P:Program}{K:PySem.W.Frag}{es:List Expr}{k:Nat}{pos:Pos}(a it e:Addr)(hei:e≠it)(hae:a≠e)(hai:a≠it):Turn P w K (.Tuple es k pos) (Ite K a) [e,it] e (λi h=>(∃old,IsEnum h e it i old)/\h.IsTupleIter it a i) where
 mem:=by simp
 obj:=λi h st b hb=>by
  rcases G4.mp hb with z|z
  ·subst z;obtain⟨old,q⟩:=st.1;exact⟨_,q,λv z=>by cases z⟩
  ·have z:=G8.mp z;subst z;obtain⟨o,q,c,d⟩:=st.2;exact⟨o,q,λv z=>by rw [d] at z;cases z⟩
 keep:=λi h h' st k=>⟨let ⟨old,q⟩:=st.1;⟨old,k e (by simp) _ q⟩,st.2.at λo q=>k it (by simp) o q⟩
 item:=by
  intro X hP hw hK hc i pins s σ H E I hf st hg;subst hP hw hK;obtain⟨xs,x,hq,hx⟩:=hg;obtain⟨its,rv,p,hz⟩:=I.tuple hq;obtain⟨u,hu,ru⟩:=rv.get hx;have hi:i<its.toArray.size:=by have:=(G9.mp hu).1;simpa using this
  obtain⟨old,he⟩:=st.1;have helt:e<s.heap.objs.size:=P6 he;refine wpAny_pyNext_enum_itemD (Di (prog:=X.prog) (w:=X.w) (A:=X.A.in1) (I.ok.hd hc) it a hai its.toArray) he ⟨st.2,p⟩ hi hei (by simp [hei,Ne.symm hae]) λx' h' tk hx' ho hs' hT hsz hk=> ?_
  have ex:x'=u:=S0 (hx'.symm.trans (show its.toArray[i]? =some u by simpa using hu));subst ex;refine⟨_,rfl,wpAny_letOwnedTupleGo_enum ho λh2 he2 hs2=> ?_⟩;have hn:H s.heap.objs.size=none:=I.hok.fresh (G5 _);have hT2:h2.get? s.heap.objs.size=some {cls:= .type "tuple",data:= .seq #[.int i tk,x']}:=(hs2.2 _ (L7 helt)).trans hT;refine⟨.ref s.heap.objs.size,upd H s.heap.objs.size (.tup [.int i,x]),?_,rfl,⟨_,x,hn,λys hy=>by rw [I.tuple_inj hy hq];exact hx,rfl,rfl⟩,⟨⟨x',by simpa using he2⟩,hs'.1.at λo y=>(hs2.2 it (Ne.symm hei)).trans y⟩,λb hb=> ?_⟩
  ·refine I.turnLaid (h':=h2) (t':=tk+1) (ch:= [e,it]) (λb u hb q=> ?_) hf (G5 _) ⟨by show 2<=sizeLine;decide,[.int i tk,x'],.cons ⟨tk,rfl⟩ (.cons ru .nil),⟨_,hT2,rfl,rfl,_,rfl⟩⟩;have b1:b≠e:=λz=>hb (by simp [z])
   have b2:b≠it:=λz=>hb (by simp [z])
   exact(hs2.2 b b1).trans (hk b u b1 b2 q)
  ·have f:=(hf b hb).1;have:b≠s.heap.objs.size:=λz=>by
    rcases G4.mp hb with w|w
    ·rw [<-w,z] at helt;exact absurd helt (S1 _)
    ·have w:=G8.mp w;obtain⟨o,ho',_⟩:=st.2;have:=P6 ho';rw [<-w,z] at this;exact absurd this (S1 _)
   rw [jx this];exact f
 done:=by
  intro X hP hw hK hc i pins s σ H E I hf st hg;subst hP hw hK;obtain⟨xs,hq,hx⟩:=hg;obtain⟨its,rv,p,hz⟩:=I.tuple hq;obtain⟨old,he⟩:=st.1;have hl:=rv.length;refine wpAny_pyNext_enum_endD (Dj (prog:=X.prog) (w:=X.w) (A:=X.A.in1) (I.ok.hd hc) it a its.toArray i (by simp;omega)) he ⟨rfl,st.2,p⟩ λh' hx'=>⟨rfl,I.turnL (t':=s.toks) (ch:= [it]) (λb o hb q=>hx' b o (λz=>hb (by simp [z])) q) λb hb=>hf b (P0 _ hb)⟩
 self:=λ_ _ _ _ _ st h=>let ⟨_,q⟩:=st.1;wpAny_pyIter_enum q h
section
variable {X:Cx}
def Ey (K:PySem.W.Frag)(ta:TA):TI:=λσ H R=>ta σ H λvs H1=> ∃a,vs= [.ref a]/\(∃xs,SqT K H1 a xs)/\R (Ite K a) H1
theorem Cc {es:List Expr}{k:Nat}{tp:Pos}{a:Expr}{ta:TA}{p pos:Pos}(hg:Gl X "enumerate")(hm:X.mg "enumerate" =none)(ha:PA X [a] ta)(hs:starEach [a] X.env= [(false,eval a X.env)]:=by rfl):
 PI X (.Tuple es k tp) (.Call (.Name "enumerate" p) [a] [] pos) (Ey X.K ta):=by
 intro pins s σ H R I h;refine Call_ (WX I hg hm (show bootBuiltins "enumerate" =some (.type "enumerate") by decide +kernel) (C3 (thn (ha pos pins s σ H _ I h) λus s1 ⟨vs,H1,I1,r1,q1⟩=> ?_) hs rfl));obtain⟨a,e,⟨xs,hq⟩,q⟩:=q1;subst e;cases r1 with
 |cons r rr=>
  cases rr;cases r;obtain⟨its,rv,p,hz⟩:=I1.tuple hq;have hlt:a<s1.heap.objs.size:=by obtain⟨o,ho,_⟩:=p;exact P6 ho
  refine YK (show s1.heap.IsTuple a its.toArray from p) λh' he hit hk=> ?_
  refine wpAny_pyIter_enum he ?_;refine⟨s1.heap.objs.size+1,[s1.heap.objs.size+1,s1.heap.objs.size],_,_,H1,rfl,I1.kept (t':=s1.toks) hk,Dl a s1.heap.objs.size (s1.heap.objs.size+1) (L7 (C8 _)) (D9 (V2 hlt)) (D9 hlt),⟨⟨_,he⟩,hit⟩,λb hb=> ?_,q⟩;have hb':s1.heap.objs.size<=b:=by
   rcases G4.mp hb with w|w
   ·rw [w];exact Nat.le_succ _
   ·rw [G8.mp w];exact G5 _
  exact I1.fpOk hb' (I1.hok.fresh hb')
end
def QF (ds:List D):List D:=ds.zipIdx.map λp=> .tup [.int (p.2:Int),p.1]
def iE (ta:TAD):TID:=λσ h R=>ta σ h λxs h1=> ∃ds,xs= [.tup ds]/\R (λ_=>some (QF ds)) h1
theorem YL {ds:List D}{d:D}(h:(QF ds)[i]? =some d): ∃x,ds[i]? =some x/\d= .tup [.int (i:Int),x]:=by
 unfold QF at h;rw [G6,List.getElem?_zipIdx] at h;cases q:ds[i]? with
 |none=>rw [q] at h;cases h
 |some x=>
  rw [q] at h;refine⟨x,rfl,?_⟩;have h':some (D.tup [.int ((0+i:Nat):Int),x])=some d:=h;rw [J6] at h';exact(S0 h').symm
theorem wI (ds:List D):(QF ds).length=ds.length:=by simp [QF]
section
variable {K:PySem.W.Frag}
theorem Dm {H:Hp}{a:Addr}{vs:List V}{ds:List D}(hv:H a=some (.tup vs))(r:RelDs K H ds vs):BJ K H (λ_=>some (QF ds)) (Ite K a):=λH' h' k rh ds' e i=>by
 cases e;have hv':=k.tup _ _ hv;have r':=r.mono k;refine⟨λd hd=> ?_,λhl=>⟨vs,SqT.of hv',by rw [<-r.length,<-wI];exact hl⟩⟩;obtain⟨x,hx,ed⟩:=YL hd;subst ed;obtain⟨v,e1,e2⟩:=r'.get hx;refine⟨⟨vs,v,SqT.of hv',e1⟩,λx' H'' ⟨p,v',hp,hx',ex,eH⟩=> ?_⟩;subst ex eH;have ev:v'=v:=by have:=hx' vs (SqT.of hv');rw [e1] at this;exact(S0 this).symm
 subst ev;have k2:Kept H' (upd H' p (.tup [.int i,v'])):= .new hp;exact⟨k2,RelH.new rh hp,p,[.int i,v'],rfl,jy,_,_,rfl,rfl,_,_,rfl,e2.mono k2,rfl⟩
theorem Cd {ta:TAD}: ∀σ H R,LI K (iE ta) σ H R->Ey K (LA K ta) σ H R:=λσ H R ⟨σd,h,Rd,rs,rh,q,p⟩=>
 LA.bind rs rh q λds vs h1 H1 k1 rs1 rh1 r1 ⟨es,e,q1⟩=>by
  subst e;obtain⟨v,e,r2⟩:=jJ r1;obtain⟨a,ws,e',hv,r⟩:=(show ∃a vs,v= .ref a/\H1 a=some (.tup vs)/\RelDs K H1 es vs from r2);subst e';exact⟨a,e,⟨ws,SqT.of hv⟩,p _ _ _ _ k1 rh1 (Dm hv r) q1⟩
end
section
variable {X:Cx}
theorem Xt {es:List Expr}{k:Nat}{tp:Pos}{a:Expr}{ta:TAD}{p pos:Pos}(hg:Gl X "enumerate")(hm:X.mg "enumerate" =none)(ha:JA X [a] ta)(hs:starEach [a] X.env= [(false,eval a X.env)]:=by rfl):
 JI X (.Tuple es k tp) (.Call (.Name "enumerate" p) [a] [] pos) (iE ta):=⟨(Cc hg hm ha.to hs).imp Cd⟩
end
def Do (c:TTD)(tb:TSD):TSD:=λD σ h=> ∃W:Nat->SD->HD->Prop,(∃m,W m σ h)/\ ∀m σ' h',W m σ' h'->c σ' h' λb h1=>
 if b=true then tb {D with nx:=λσ2 h2=> ∃m' h3,m'<m/\Sub h3 h2/\W m' σ2 h3,ct:=λσ2 h2=> ∃m' h3,m'<m/\Sub h3 h2/\W m' σ2 h3,bk:=D.nx} σ' h1 else D.nx σ' h1
theorem Mq {K:PySem.W.Frag}{c:TTD}{tb:TSD}: ∀D σ H,LS K (Do c tb) D σ H->Nj (LT K c) (LS K tb) D σ H:=λD σ H ⟨σd,h,Dd,rs,rh,⟨W,⟨m0,w0⟩,turn⟩,nx,rt,bk,ct⟩=>by
 refine⟨λm σ' H'=>Kept H H'/\ ∃σd' h',RelS K H' σd' σ'/\RelH K h' H'/\W m σd' h',⟨m0,.refl _,σd,h,rs,rh,w0⟩,?_⟩;rintro m σ' H' ⟨kp,σd',h',rs',rh',w⟩;refine LT.bind rs' rh' (turn m σd' h' w) λb h1 H1 k1 rs1 rh1 q1=> ?_
 cases b with
 |false=>
  rw [if_neg P1] at q1 ⊢;exact nx _ _ _ _ (kp.trans k1) rs1 rh1 q1
 |true=>
  rw [if_pos rfl] at q1 ⊢;have kk:Kept H H1:=kp.trans k1;refine⟨λσ2 H2=>Kept H H2/\ ∃m',m'<m/\ ∃σd2 h2,RelS K H2 σd2 σ2/\RelH K h2 H2/\W m' σd2 h2,λσ2 H2 ⟨k2,m',hm,a,b,c,d,e⟩=>⟨m',hm,k2,a,b,c,d,e⟩,?_⟩;exact⟨σd',h1,_,rs1,rh1,q1,λa b c d k4 rs4 rh4 ⟨m',h4,hm,sb,w4⟩=>⟨kk.trans k4,m',hm,a,h4,rs4,rh4.sub sb,w4⟩,jL rt kk,λa b c d k4 rs4 rh4 q4=>nx a b c d (kk.trans k4) rs4 rh4 q4,λa b c d k4 rs4 rh4 ⟨m',h4,hm,sb,w4⟩=>⟨kk.trans k4,m',hm,a,h4,rs4,rh4.sub sb,w4⟩⟩
section
variable {X:Cx}{pos:Pos}
theorem LK {c:Expr}{body:List Stmt}{tc:TTD}{tb:TSD}(hp:PassesOwn (model X.prog X.w) X.A X.env X.xe)(hc:JT X c tc)(hb:JSs X body tb):JS X (.While c body [] pos) (Do tc tb):=⟨(RK hp hc.to hb.to).imp Mq⟩
end
theorem Mr {c:TTD}{tb:TSD}{E:EndsD}{σ:SD}{h:HD}(W:Nat->SD->HD->Prop)(m:Nat)(w0:W m σ h)
 (turn: ∀m σ' h',W m σ' h'->c σ' h' λb h1=>if b=true then tb {E with nx:=λσ2 h2=> ∃m' h3,m'<m/\Sub h3 h2/\W m' σ2 h3,ct:=λσ2 h2=> ∃m' h3,m'<m/\Sub h3 h2/\W m' σ2 h3,bk:=E.nx} σ' h1 else E.nx σ' h1):Do c tb E σ h:=⟨W,⟨m,w0⟩,turn⟩
def Off (W:List Addr)(h h':Heap):Prop:=h'.objs.size=h.objs.size/\ ∀b o,b ∉ W->h.get? b=some o->h'.get? b=some o
theorem Off.refl (W:List Addr)(h:Heap):Off W h h:=⟨rfl,λ_ _ _ e=>e⟩
theorem Off.of {c:Addr}{W:List Addr}{h h':Heap}(x:Heap.SameBut c h h')(m:c∈W):Off W h h':=⟨x.1,λb o n e=>x.extBut b o (λq=>n (q ▸ m)) e⟩
theorem Off.trans {W:List Addr}{h h' h'':Heap}(x:Off W h h')(y:Off W h' h''):Off W h h'':=⟨y.1.trans x.1,λb o n e=>y.2 b o n (x.2 b o n e)⟩
abbrev Dp (f0:Value)(b1:Bool)(TI TO:Addr):Obj:= {cls:= .type "zip",dict:=none,data:= .fields #[f0,.bool b1,.bool false,.ref TI,.ref TO],slots:= #[]}
def ZipAt (h:Heap)(z TI TO:Addr):Prop:= ∃f0 b1,h.get? z=some (Dp f0 b1 TI TO)/\(f0= .none\/ ∃a t,f0= .int a t)
theorem ZipAt.off {h h':Heap}{z TI TO:Addr}{W:List Addr}(Z:ZipAt h z TI TO)(o:Off W h h')(n:z ∉ W):ZipAt h' z TI TO:=let ⟨f,b,e,q⟩:=Z;⟨f,b,o.2 _ _ n e,q⟩
section
variable {prog:Program}{w:World}{A:Around}{E:Value->Shared->Prop}{s:Shared}{z TI TO i1 i2:Addr}
theorem Ms {Q:Bool->Shared->Prop}(Z:ZipAt s.heap z TI TO)(k: ∀b h',ZipAt h' z TI TO->Off [z] s.heap h'->Q b {s with heap:=h'}):wpAny (model prog w) A (Builtin.SmallTypes.ownedTupleIsFree (.ref z)) Q E s:=by
 obtain⟨f0,b1,hz,hf⟩:=id Z;have stay:=λb=>k b s.heap Z (Off.refl _ _)
 rcases hf with rfl|⟨a,t,rfl⟩
 ·wp_walk
  exact stay true
 ·have read: ∀ {P:Option Obj->Shared->Prop} {E':Value->Shared->Prop},P (s.heap.get? a.toNat) s->wpAny (model prog w) A (loadIfAlive a.toNat) P E' s:=λp _ _ _=>p
  wp_walk using read
  cases s.heap.get? a.toNat with
  |none=>exact G2 (stay true)
  |some o=>
   wp_walk
   cases b1 with
   |true=>exact G2 (stay false)
   |false=>exact wpAny_bind <| wpAny_setField_rec hz (by simp) λh' z' same=>G2 (k false h' ⟨_,_,z',.inr ⟨a,t,rfl⟩⟩ (.of same (by simp)))
structure ZApart (z TI TO i1 i2:Addr):Prop where
 z1:z≠i1
 z2:z≠i2
 zO:z≠TO
 zI:z≠TI
 O1:TO≠i1
 O2:TO≠i2
 OI:TO≠TI
 I1:TI≠i1
 I2:TI≠i2
abbrev LL (z:Addr)(h:Heap)(E:Value->Shared->Prop):Value->Shared->Prop:=λe s'=>(∀o,h.get? z=some o->s'.heap.get? z=some o)/\ ∀h',Heap.ExtBut z s'.heap h'->E e {s' with heap:=h'}
theorem Dq {Q:Value->Shared->Prop}(ap:ZApart z TI TO i1 i2)(Z:ZipAt s.heap z TI TO)(hTI:IsPair s.heap TI (.ref i1) (.ref i2))(hTO: ∃a b,IsPair s.heap TO a b)
 (go: ∀h₁,Off [z] s.heap h₁->(∃o,h₁.get? z=some o/\o.cls= .type "zip")->wpAny (model prog w) A (Builtin.SmallTypes.nextOf (.ref i1)) (λx s₁=>Off [i1] h₁ s₁.heap/\ ∀h₂,Off [TO] s₁.heap h₂->
  wpAny (model prog w) A (Builtin.SmallTypes.nextOf (.ref i2)) (λy s₂=>Off [i2] h₂ s₂.heap/\ ∀h₃,(∀b o,b ∉ [z,TO]->s₂.heap.get? b=some o->h₃.get? b=some o)->IsPair h₃ s₂.heap.objs.size x y->
   ZipAt h₃ z TI TO->IsPair h₃ TI (.ref i1) (.ref i2)->(∃a b,IsPair h₃ TO a b)->Q (.ref s₂.heap.objs.size) {s₂ with heap:=h₃}) (LL z h₂ E) {s₁ with heap:=h₂}) (LL z h₁ E) {s with heap:=h₁}):
 wpAny (model prog w) A (Builtin.«zip.__next__» ⟨[.ref z],[]⟩) (λfin s'=> ∃v,fin= .done (.ret v)/\Q v s') E s:=by
 obtain⟨f0,b1,hz,hf⟩:=id Z;have ask:=λ{P:Bool->Shared->Prop} {E':Value->Shared->Prop} (k: ∀b h',ZipAt h' z TI TO->Off [z] s.heap h'->P b {s with heap:=h'})=>Ms (prog:=prog) (w:=w) (A:=A) (E:=E') Z k
 wp_walk using ask
 intro b h₀ Z₀ off₀;have I₀:=off₀.2 _ _ (by simp [ap.zI.symm]) hTI;obtain⟨a',b',O₀⟩: ∃a b,IsPair h₀ TO a b:=let ⟨a,b,e⟩:=hTO;⟨a,b,off₀.2 _ _ (by simp [ap.zO.symm]) e⟩;cases b with
 |false=>
  have d1:=go h₀ off₀ (let ⟨_,_,e,_⟩:=Z₀;⟨_,e,rfl⟩);rw [if_neg (by decide)];refine wpAny_bind ?_;rw [<-N3];simp only [E2,List.forIn_nil];refine wpAny_bind (wpAny_bind (M7 ?_));refine wpAny_bind (m:=Builtin.SmallTypes.nextOf (.ref i1)) (S7 d1 (λx s₁ d=>G2 (G2 ?_)) λe s' f=>f.2 s'.heap λ_ _ _ e=>e);obtain⟨o1,d2⟩:=d;refine wpAny_bind (wpAny_bind (M7 ?_));refine wpAny_bind (m:=Builtin.SmallTypes.nextOf (.ref i2)) (S7 (d2 s₁.heap (.refl _ _)) (λy s₂ d=>G2 (G2 (G2 ?_))) λe s' f=>f.2 s'.heap λ_ _ _ e=>e);obtain⟨o2,fin⟩:=d;show wpAny _ _ (newTuple [x,y] >>= _) _ _ _;have n1: ∀ {b},b≠i1->b ∉ [i1]:=λh=>by simpa using h
  have n2: ∀ {b},b≠i2->b ∉ [i2]:=λh=>by simpa using h
  have Z₂:=(Z₀.off o1 (n1 ap.z1)).off o2 (n2 ap.z2);have keep: ∀ {b o},b≠i1->b≠i2->h₀.get? b=some o->(s₂.heap.push {cls:= .type "tuple",data:= .seq #[x,y]}).get? b=some o:=λq1 q2 e=>G1 _ (o2.2 _ _ (n2 q2) (o1.2 _ _ (n1 q1) e))
  refine wpAny_bind (wpAny_newTuple (G2 ⟨_,rfl,fin _ (λb o _ e=>G1 _ e) (D1 _ rfl) ?_ (keep ap.I1 ap.I2 I₀) ⟨_,_,keep ap.O1 ap.O2 O₀⟩⟩));exact let ⟨f,b,e,q⟩:=Z₂;⟨f,b,G1 _ e,q⟩
 |true=>
  obtain⟨f0',b1',hz₀,_⟩:=Z₀;have note:=λ{P:Unit->Shared->Prop} {E':Value->Shared->Prop} (k: ∀h',h'.get? z=some (Dp .ellipsis b1' TI TO)->Heap.SameBut z h₀ h'->P () {s with heap:=h'})=>
   wpAny_setField_rec (prog:=prog) (w:=w) (A:=A) (E:=E') (s:= {s with heap:=h₀}) (k:=0) (x:= .ellipsis) hz₀ (by simp) k
  wp_walk using note
  intro h₁ z₁ same₁;have off₁:Off [z] s.heap h₁:=off₀.trans (.of same₁ (by simp));have O₁:=same₁.extBut _ _ ap.zO.symm O₀;have I₁:=same₁.extBut _ _ ap.zI.symm I₀;have fell: ∀ {h:Heap} {e:Value} {s':Shared},h.get? z=some (Dp .ellipsis b1' TI TO)->LL z h E e s'->wpAny (model prog w) A (setField (.ref z) 0 .none) (λ_ s''=>E e s'') E s':=λhz' f=>
   wpAny_setField_rec (f.1 _ hz') (by simp) λh' _ same=>f.2 h' same.extBut
  have draw:=λ{P:Value->Shared->Prop} {E':Value->Shared->Prop} (k: ∀x s₁,_->P x s₁) (f: ∀e s',LL z h₁ E e s'->E' e s')=>S7 (go h₁ off₁ ⟨_,z₁,rfl⟩) k f
  wp_walk using wpAny_onRaise,draw
  case f=>exact λe s' f=>fell z₁ f
  intro x s₁ ⟨o1,go2⟩;have z₂:=o1.2 _ _ (by simp [ap.z1]) z₁;have O₂:IsPair s₁.heap TO a' b':=o1.2 _ _ (by simp [ap.O1]) O₁;have I₂:=o1.2 _ _ (by simp [ap.I1]) I₁;have lay:=λ{P:Unit->Shared->Prop} {E':Value->Shared->Prop}=>wpAny_updateSeq_pair (prog:=prog) (w:=w) (A:=A) (E:=E') (s:=s₁) (k:=0) (x:=x) (Q:=P) O₂
  wp_walk using lay
  intro h₂ O₃ same₂
  replace O₃:IsPair h₂ TO x b':=O₃
  have z₃:=same₂.extBut _ _ ap.zO z₂;have I₃:=same₂.extBut _ _ ap.OI.symm I₂;have draw2:=λ{P:Value->Shared->Prop} {E':Value->Shared->Prop} (k: ∀y s₂,_->P y s₂) (f: ∀e s',LL z h₂ E e s'->E' e s')=>S7 (go2 h₂ (.of same₂ (by simp))) k f
  wp_walk using wpAny_onRaise,draw2
  case f=>exact λe s' f=>fell z₃ f
  intro y s₂ ⟨o2,fin⟩;have z₄:=o2.2 _ _ (by simp [ap.z2]) z₃;have O₄:IsPair s₂.heap TO x b':=o2.2 _ _ (by simp [ap.O2]) O₃;have I₄:=o2.2 _ _ (by simp [ap.I2]) I₃;have lay2:=λ{P:Unit->Shared->Prop} {E':Value->Shared->Prop}=>wpAny_updateSeq_pair (prog:=prog) (w:=w) (A:=A) (E:=E') (s:=s₂) (k:=1) (x:=y) (Q:=P) O₄
  wp_walk using lay2
  intro h₄ O₅ same₃
  replace O₅:IsPair h₄ TO x y:=O₅
  have z₅:=same₃.extBut _ _ ap.zO z₄;have I₅:=same₃.extBut _ _ ap.OI.symm I₄
  wp_walk
  have size:h₄.objs.size=s₂.heap.objs.size:=same₃.1;have zp:=G1 {cls:= .type "tuple",data:= .seq #[x,y]} z₅;have zu:=N1 (Obj.mapFields λv=>v.setIfInBounds 0 (rawInt h₄.objs.size)) zp rfl;have zu':=N1 (Obj.mapFields λv=>v.setIfInBounds 1 (Value.bool false)) zu rfl;have away: ∀ {b o},b≠z->(h₄.push {cls:= .type "tuple",data:= .seq #[x,y]}).get? b=some o->
   (((h₄.push {cls:= .type "tuple",data:= .seq #[x,y]}).update z (Obj.mapFields λv=>v.setIfInBounds 0 (rawInt h₄.objs.size))).update z (Obj.mapFields λv=>v.setIfInBounds 1 (Value.bool false))).get? b=some o:=λn e=>
   (B3 ..).extBut _ _ n ((B3 ..).extBut _ _ n e)
  have new:=away (b:=h₄.objs.size) (λq=>S1 _ (q ▸ P6 z₅)) (D1 _ rfl);refine⟨_,rfl,?_⟩;have done:=fin _ (λb o n e=>away (λq=>n (by simp [q])) (G1 _ (same₃.extBut _ _ (λq=>n (by simp [q])) e))) (size ▸ new) ⟨_,_,zu',.inr ⟨_,_,rfl⟩⟩ (away ap.zI.symm (G1 _ I₅)) ⟨_,_,away ap.zO.symm (G1 _ O₅)⟩;rw [<-size] at done;exact done
theorem Ce {tg : Expr} {v : Value} {Q : Unit → Shared → Prop} (Z : ZipAt s.heap z TI TO) (k : ∀ h', ZipAt h' z TI TO → Off [z] s.heap h' → Q () { s with heap := h' }) : wpAny (model prog w) A (letOwnedTupleGo tg (.ref z) v) Q E s := by
  obtain ⟨f0, b1, hz, hf⟩ := id Z
  have stay := k s.heap Z (.refl _ _)
  have gone : wpAny (model prog w) A (updateField z 0 .none) Q E s := wpAny_setField_rec (k := 0) (x := .none) hz (by simp) fun h' z' same => k h' ⟨_, _, z', .inl rfl⟩ (.of same (by simp))
  unfold letOwnedTupleGo
  cases tg <;> first
    | exact G2 stay
    | (cases v <;> wp_walk <;> first
        | exact stay
        | (split
           · exact wpAny_bind (X5 gone)
           · exact G2 stay))
theorem Mt {Q:Option Value->Shared->Prop}(Z:ZipAt s.heap z TI TO)
 (h:wpAny (model prog w) A.in1 (Builtin.«zip.__next__» ⟨[.ref z],[]⟩) (λfin s'=> ∃v,fin= .done (.ret v)/\Q (some v) s') (λe s'=>s'.TypeIs e "StopIteration" /\Q none s') s):wpAny (model prog w) A (pyNext (.ref z)) Q E s:=by
 obtain⟨_,_,hz,_⟩:=Z;have ty:s.TypeIs (.ref z) "zip" :=⟨_,hz,rfl⟩;have asked:=M8 F.slot_zip_next ty F.entry_zip_next h (F.args_zip_next_1 _);exact wpAny_bind (wpAny_attempt (S9 (name:= "__next__") ty F.slot_zip_next (S7 asked (λ_ _ q=>G2 q) λe s' q=>wpAny_bind (K0 (b:=true) q.1 isSubtype_stop (G2 q.2)))))
theorem Mu {l1 l2:Addr}{xs ys:Array Value}{P:PySem.Fin->Shared->Prop}(t1:s.heap.IsTuple l1 xs)(t2:s.heap.IsTuple l2 ys)
 (h: ∀h' n,n=s.heap.objs.size->ZipAt h' (n+4) (n+2) (n+3)->IsPair h' (n+2) (.ref n) (.ref (n+1))->(∃a b,IsPair h' (n+3) a b)->h'.IsTupleIter n l1 0->h'.IsTupleIter (n+1) l2 0->
  (∀b o,s.heap.get? b=some o->h'.get? b=some o)->P (.done (.ret (.ref (n+4)))) {s with heap:=h'}):
 wpAny (model prog w) A (Builtin.«zip.__new__» ⟨[.type "zip",.ref l1,.ref l2],[]⟩) P E s:=by
 have fine:=sub_zip;obtain⟨hp,g,d,tk,os⟩:=s;have first:Heap.IsTuple (Shared.heap ⟨hp,g,d,tk,os⟩) l1 xs:=t1
 have second: ∀o,Heap.IsTuple (Shared.heap ⟨hp.push o,g,d,tk,os⟩) l2 ys:=λo=>Heap.IsTuple.push t2 o
 wp_walk using F0 first,F0 (second _)
 have size: ∀ (q:Heap) o,(q.push o).objs.size=q.objs.size+1:=λq o=>J2 ..
 have n2: ∀o1 o2,((hp.push o1).push o2).objs.size=hp.objs.size+2:=λ_ _=>by rw [size,size]
 have n3: ∀o1 o2 o3,(((hp.push o1).push o2).push o3).objs.size=hp.objs.size+3:=λ_ _ _=>by rw [size,n2]
 have n4: ∀o1 o2 o3 o4,((((hp.push o1).push o2).push o3).push o4).objs.size=hp.objs.size+4:=λ_ _ _ _=>by rw [size,n3]
 have up: ∀ {q:Heap} {b o} o',q.get? b=some o->(q.push o').get? b=some o:=λo' e=>G1 o' e
 show P (.done (.ret (.ref (Heap.objs (((((hp.push _).push _).push _).push _))).size))) _;rw [n4];have at1:=D1 (hp.push {cls:= .type "tuple_iterator",data:= .fields #[.ref l1,.int 0 0]}) (o:= {cls:= .type "tuple_iterator",data:= .fields #[.ref l2,.int 0 0]}) rfl;rw [size] at at1;have top: ∀ (q:Heap) (o:Obj) (m:Nat),q.objs.size=m->o.isFreed=false->(q.push o).get? m=some o:=λq o m e f=>e ▸ D1 q f
 refine h _ hp.objs.size rfl ⟨.none,false,(top _ _ _ (n4 ..) rfl).trans ?_,.inl rfl⟩ ((up _ (up _ (top _ _ _ (n2 ..) rfl))).trans ?_) ⟨.none,.none,up _ (top _ _ _ (n3 ..) rfl)⟩ ⟨_,up _ (up _ (up _ (up _ (D1 _ rfl)))),rfl,rfl⟩ ⟨_,up _ (up _ (up _ at1)),rfl,rfl⟩ λb o e=>up _ (up _ (up _ (up _ (up _ e))))
 ·simp only [size,Nat.add_assoc];rfl
 ·simp only [size];rfl
theorem Wi {T newId initId:String}{pos:List Value}{kw:List (Str×Value)}{Made:Value->Shared->Prop}{Q:Value->Shared->Prop}(ft:TypeCalled T newId initId)(fits:checkTypeCall T ⟨pos,kw⟩=pure ())
 (made:wpAny (model prog w) A.in1 (call (.builtin newId) (.type T::pos) kw) Made E s)
 (begun: ∀o s₁,Made o s₁->s₁.TypeIs o T/\wpAny (model prog w) A.in1 (callSpecial? o "__init__" pos kw) (λr s₂=>r=some .none/\Q o s₂) E s₁):
 wpAny (model prog w) A (call (.type T) pos kw) Q E s:=by
 have f1:=ft.notType;have f2:=ft.canCreate;have f3:=ft.made;have f4:=ft.sub;obtain⟨_,_,f5⟩:=ft.mro;have first:=λ{Q':Value->Shared->Prop} (k: ∀o s₁,Made o s₁->Q' o s₁)=>S7 (E':=E) made k λ_ _ z=>z
 refine X6 (codeAny_of_tree (G2 ⟨Code.quiet_builtin _ (by decide +kernel),X2 F.entry_type_call ?_⟩));rw [Around.under_plain (weight_type_call_type T pos kw) (units_type_call_type T pos kw)]
 wp_walk using first
 intro o s₁ m;obtain⟨ty,then_⟩:=begun o s₁ m;refine wpAny_bind (K0 (b:=true) ty f4 (wpAny_bind (M7 (S7 then_ (λr s₂ q=> ?_) λ_ _ z=>z))));obtain⟨rfl,q⟩:=q;exact G2 q
theorem Ui {T newId:String}{o:Value}{pos:List Value}{kw:List (Str×Value)}{Q:Option Value->Shared->Prop}(ft:TypeCalled T newId "object.__init__")(other:(some newId !=some "object.__new__")=true)(ty:s.TypeIs o T)
 (fits:argsOk "object.__init__" ⟨o::pos,kw⟩)(q:Q (some .none) s):wpAny (model prog w) A (callSpecial? o "__init__" pos kw) Q E s:=by
 have f1:=ft.init.lookup;have f2:=ft.made;refine S9 ty ft.init (wpAny_call_entry_kw ft.init ty F.entry_object_init ?_ fits);cases e:(!pos.isEmpty|| !kw.isEmpty)<;>(wp_walk;exact⟨_,rfl,q⟩)
theorem Uj {l1 l2:Addr}{xs ys:Array Value}{Q:Value->Shared->Prop}(t1:s.heap.IsTuple l1 xs)(t2:s.heap.IsTuple l2 ys)
 (h: ∀h' n,n=s.heap.objs.size->ZipAt h' (n+4) (n+2) (n+3)->IsPair h' (n+2) (.ref n) (.ref (n+1))->(∃a b,IsPair h' (n+3) a b)->h'.IsTupleIter n l1 0->h'.IsTupleIter (n+1) l2 0->
  (∀b o,s.heap.get? b=some o->h'.get? b=some o)->Q (.ref (n+4)) {s with heap:=h'}):wpAny (model prog w) A (call (.type "zip") [.ref l1,.ref l2]) Q E s:=
 Wi (Made:=λo s₁=>s₁.TypeIs o "zip" /\Q o s₁) F.called_zip (F.typeCall_zip_2 _ _)
  (X6 (K2 F.called_zip.plain F.entry_zip_new (wpAny_of_eq (F.newCall_zip_2 _ _) (Mu t1 t2 λh' n en zp i o a b k=>⟨let ⟨_,_,e,_⟩:=zp;⟨_,e,rfl⟩,h h' n en zp i o a b k⟩))))
  λ_ _ ⟨ty,q⟩=>⟨ty,Ui F.called_zip (by decide) ty (F.args_object_init_3 _ _ _) ⟨rfl,q⟩⟩
end
def Itz (K : PySem.W.Frag) (a b : Addr) : It :=
  ⟨fun i H => ∃ xs ys x y, SqT K H a xs ∧ SqT K H b ys ∧ xs[i]? = some x ∧ ys[i]? = some y,
   fun i H x H' => ∃ p v u, H p = none ∧ (∀ xs, SqT K H a xs → xs[i]? = some v) ∧ (∀ ys, SqT K H b ys → ys[i]? = some u) ∧ x = .ref p ∧ H' = upd H p (.tup [v, u]),
   fun i H => ∃ xs ys, SqT K H a xs ∧ SqT K H b ys ∧ (xs.length ≤ i ∨ ys.length ≤ i)⟩
theorem Uk {Q:Option Value->Shared->Prop}{E:Value->Shared->Prop}{s:Shared}{z TI TO i1 i2 l1 l2:Addr}{xs ys:Array Value}(calm:A.handled=none)(ap:ZApart z TI TO i1 i2)(n1:l1 ∉ [z,TO,i1,i2])(n2:l2 ∉ [z,TO,i1,i2])(i12:i1≠i2)
 (Z:ZipAt s.heap z TI TO)(hTI:IsPair s.heap TI (.ref i1) (.ref i2))(hTO: ∃a b,IsPair s.heap TO a b)(t1:s.heap.IsTuple l1 xs)(t2:s.heap.IsTuple l2 ys)(at1:s.heap.IsTupleIter i1 l1 i)(at2:s.heap.IsTupleIter i2 l2 i)
 (pair: ∀x y h' tk,xs[i]? =some x->ys[i]? =some y->(∀b o,b ∉ [z,TO,i1,i2]->s.heap.get? b=some o->h'.get? b=some o)->IsPair h' s.heap.objs.size x y->ZipAt h' z TI TO->IsPair h' TI (.ref i1) (.ref i2)->(∃a b,IsPair h' TO a b)->
  h'.IsTupleIter i1 l1 (i+1)->h'.IsTupleIter i2 l2 (i+1)->Q (some (.ref s.heap.objs.size)) {s with heap:=h',toks:=tk})
 (ended:(xs.size<=i\/ys.size<=i)-> ∀h' tk,(∀b o,b ∉ [z,TO,i1,i2]->s.heap.get? b=some o->h'.get? b=some o)->Q none {s with heap:=h',toks:=tk}):wpAny (model prog w) A (pyNext (.ref z)) Q E s:=by
 have sub: ∀ {b:Addr} {W:List Addr},b ∉ [z,TO,i1,i2]->(∀c∈W,c∈ [z,TO,i1,i2])->b ∉ W:=λn m q=>n (m _ q)
 have z': ∀c∈ [z],c∈ [z,TO,i1,i2]:=by simp
 have o': ∀c∈ [TO],c∈ [z,TO,i1,i2]:=by simp
 have a': ∀c∈ [i1],c∈ [z,TO,i1,i2]:=by simp
 have b': ∀c∈ [i2],c∈ [z,TO,i1,i2]:=by simp
 have zo: ∀c∈ [z,TO],c∈ [z,TO,i1,i2]:=by simp
 refine Mt Z (Dq ap Z hTI hTO λh₁ off₁ isz=> ?_);have u1:h₁.IsTuple l1 xs:=t1.at λo e=>off₁.2 _ _ (sub n1 z') e
 have v1:h₁.IsTupleIter i1 l1 i:=at1.at λo e=>off₁.2 _ _ (by simp [ap.z1.symm]) e
 have stop: ∀ {h h':Heap} {it e:Addr},z≠it->Heap.ExtBut it h h'->(∃o,h.get? z=some o/\o.cls= .type "zip")->(∃o,h'.get? e=some o/\o.cls= .type "StopIteration")->e≠z:=λnz x ⟨o,e1,c1⟩ ⟨o2,e2,c2⟩ q=>by
  subst q;rw [x _ _ nz e1] at e2;cases e2;rw [c1] at c2;simp at c2
 cases hx:xs[i]? with
 |none=>
  refine zS (s:= {s with heap:=h₁}) calm v1 u1 hx λh' e grown st=>⟨λo q=>grown _ _ ap.z1 q,λh2 k=>⟨?_,ended (.inl (C7.mp hx)) _ _ λb o n q=>k _ _ (λy=>sub n z' (by simp [y])) (grown _ _ (λy=>sub n a' (by simp [y])) (off₁.2 _ _ (sub n z') q))⟩⟩
  have ne:=stop ap.z1 grown isz st;obtain⟨o,q,c⟩:=st;exact⟨o,k _ _ ne q,c⟩
 |some x=>
  refine JR (s:= {s with heap:=h₁}) v1 u1 hx λh1' w1 same₁=>⟨.of same₁ (by simp),λh₂ off₂=> ?_⟩
  have all: ∀ {b o},b ∉ [z,TO,i1,i2]->s.heap.get? b=some o->h₂.get? b=some o:=λn e=>off₂.2 _ _ (sub n o') (same₁.extBut _ _ (λy=>sub n a' (by simp [y])) (off₁.2 _ _ (sub n z') e))
  have u2:h₂.IsTuple l2 ys:=t2.at λo e=>all n2 e
  have v2:h₂.IsTupleIter i2 l2 i:=at2.at λo e=>off₂.2 _ _ (by simp [ap.O2.symm]) (same₁.extBut _ _ i12.symm (off₁.2 _ _ (by simp [ap.z2.symm]) e))
  have w2:h₂.IsTupleIter i1 l1 (i+1):=w1.at λo e=>off₂.2 _ _ (by simp [ap.O1.symm]) e
  have isz2: ∃o,h₂.get? z=some o/\o.cls= .type "zip" :=let ⟨o,e,c⟩:=isz;⟨o,off₂.2 _ _ (by simp [ap.zO]) (same₁.extBut _ _ ap.z1 e),c⟩;cases hy:ys[i]? with
  |none=>
   refine zS (s:= {s with heap:=h₂}) calm v2 u2 hy λh' e grown st=>⟨λo q=>grown _ _ ap.z2 q,λh3 k=>⟨?_,ended (.inr (C7.mp hy)) _ _ λb o n q=>k _ _ (λy=>sub n z' (by simp [y])) (grown _ _ (λy=>sub n b' (by simp [y])) (all n q))⟩⟩
   have ne:=stop ap.z2 grown isz2 st;obtain⟨o,q,c⟩:=st;exact⟨o,k _ _ ne q,c⟩
  |some y=>
   refine JR (s:= {s with heap:=h₂}) v2 u2 hy λh2' w3 same₂=>⟨.of same₂ (by simp),λh₃ kept new zip its out=> ?_⟩
   have size:h2'.objs.size=s.heap.objs.size:=by rw [same₂.1,off₂.1,same₁.1,off₁.1]
   have done:=pair x y h₃ s.toks hx hy (λb o n e=>kept _ _ (sub n zo) (same₂.extBut _ _ (λy=>sub n b' (by simp [y])) (all n e))) (size ▸ new) zip its out
    (w2.at λo e=>kept _ _ (by simp [ap.z1.symm,ap.O1.symm]) (same₂.extBut _ _ i12 e)) (w3.at λo e=>kept _ _ (by simp [ap.z2.symm,ap.O2.symm]) e)
   rw [<-size] at done;exact done
theorem Gu (n:Nat):ZApart (n+4) (n+2) (n+3) n (n+1):=by
 have d: ∀ {i j:Nat},i≠j->n+i≠n+j:=λh q=>h (Nat.add_left_cancel q)
 exact⟨d (j:=0) (by decide),d (by decide),d (by decide),d (by decide),d (j:=0) (by decide),d (by decide),d (by decide),d (j:=0) (by decide),d (by decide)⟩
theorem Ul {c:Nat}(h:c<n):c ∉ [n+4,n+3,n,n+1]:=by
 simp only [G4,P5,T4,not_or];omega
theorem Mv {c:Nat}(h:c∈ [n+4,n+2,n+3,n,n+1]):n<=c:=by
 simp only [G4,P5,T4] at h;omega
theorem QH {E:Value->Shared->Prop}{s:Shared}{z TI TO:Addr}{Q:Value->Shared->Prop}(Z:ZipAt s.heap z TI TO)(h:Q (.ref z) s):wpAny (model prog w) A (pyIter (.ref z)) Q E s:=by
 obtain⟨_,_,hz,_⟩:=Z;have ty:s.TypeIs (.ref z) "zip" :=⟨_,hz,rfl⟩;exact wpAny_pyIter_slot ty F.slot_zip_iter (M8 F.slot_zip_iter ty F.entry_zip_iter (G2 ⟨_,rfl,_,_,ty,F.slot_zip_next.lookup,h⟩) (F.args_zip_iter_1 _))
theorem Mw {P:Program}{K:PySem.W.Frag}(tg:Expr)(l1 l2 z TI TO i1 i2:Addr)(ap:ZApart z TI TO i1 i2)(n1:l1 ∉ [z,TO,i1,i2])(n2:l2 ∉ [z,TO,i1,i2])(i12:i1≠i2):
 Turn P w K tg (Itz K l1 l2) [z,TI,TO,i1,i2] z (λi h=>ZipAt h z TI TO/\IsPair h TI (.ref i1) (.ref i2)/\(∃a b,IsPair h TO a b)/\h.IsTupleIter i1 l1 i/\h.IsTupleIter i2 l2 i):=by
 have inW: ∀ {b:Addr},b ∉ [z,TI,TO,i1,i2]->b ∉ [z,TO,i1,i2]:=λn q=>n (by simp only [G4] at q ⊢;rcases q with q|q|q|q|q<;>simp [q] at*)
 have there: ∀ {i:Nat} {h:Heap},(ZipAt h z TI TO/\IsPair h TI (.ref i1) (.ref i2)/\(∃a b,IsPair h TO a b)/\h.IsTupleIter i1 l1 i/\h.IsTupleIter i2 l2 i)-> ∀b∈ [z,TI,TO,i1,i2],∃o,h.get? b=some o/\ ∀v,o.data≠ .cell v:=λ⟨⟨_,_,a1,_⟩,a2,⟨_,_,a3⟩,⟨o4,a4,_,d4⟩,⟨o5,a5,_,d5⟩⟩ b hb=>by
  simp only [G4,P5,T4] at hb;rcases hb with e|e|e|e|e<;>subst e
  ·exact⟨_,a1,λv z=>by cases z⟩
  ·exact⟨_,a2,λv z=>by cases z⟩
  ·exact⟨_,a3,λv z=>by cases z⟩
  ·exact⟨o4,a4,λv z=>by rw [d4] at z;cases z⟩
  ·exact⟨o5,a5,λv z=>by rw [d5] at z;cases z⟩
 refine⟨by simp,λi h st=>there st,λi h h' ⟨⟨f,b,a1,qf⟩,a2,⟨x,y,a3⟩,a4,a5⟩ q=>⟨⟨f,b,q z (by simp) _ a1,qf⟩,q TI (by simp) _ a2,⟨x,y,q TO (by simp) _ a3⟩,a4.at λo e=>q i1 (by simp) o e,a5.at λo e=>q i2 (by simp) o e⟩,?_,?_,λ_ _ _ _ _ st h=>QH st.1 h⟩
 ·intro X hP hw hK hc i pins s σ H E I hf st hg;subst hP hw hK;obtain⟨xs,ys,x,y,hq,hq2,hx,hy⟩:=hg;obtain⟨its,rv,p,_⟩:=I.tuple hq;obtain⟨jts,rw',p2,_⟩:=I.tuple hq2;obtain⟨u,hu,ru⟩:=rv.get hx;obtain⟨v,hv,rv'⟩:=rw'.get hy;obtain⟨a1,a2,a3,a4,a5⟩:=id st;have lt: ∀b∈ [z,TI,TO,i1,i2],b≠s.heap.objs.size:=λb hb=>let ⟨_,e,_⟩:=there st b hb;D9 (P6 e)
  have l1':i<its.toArray.size:=by have:=(G9.mp hu).1;simpa using this
  have l2':i<jts.toArray.size:=by have:=(G9.mp hv).1;simpa using this
  refine Uk (I.ok.hd hc) ap n1 n2 i12 a1 a2 a3 p p2 a4 a5 (λx' y' h' tk hx' hy' kept new zip it out w1 w2=>⟨_,rfl,?_⟩) λends=>absurd ends (by omega)
  have ex:x'=u:=by simp only [X3] at hx';rw [hu] at hx';cases hx';rfl
  have ey:y'=v:=by simp only [X3] at hy';rw [hv] at hy';cases hy';rfl
  subst ex ey;refine Ce (s:= {s with heap:=h',toks:=tk}) zip λh2 zip2 off=> ?_
  have hn:H s.heap.objs.size=none:=I.hok.fresh (G5 _);have nz: ∀ {b},b≠z->b ∉ [z]:=λh=>by simpa using h
  have T2:IsPair h2 s.heap.objs.size x' y':=off.2 _ _ (nz (lt z (by simp)).symm) new;refine⟨.ref s.heap.objs.size,upd H s.heap.objs.size (.tup [x,y]),?_,rfl,⟨_,x,y,hn,λws hw=>by rw [I.tuple_inj hw hq];exact hx,λws hw=>by rw [I.tuple_inj hw hq2];exact hy,rfl,rfl⟩,
   ⟨zip2,off.2 _ _ (nz ap.zI.symm) it,let ⟨a,b,e⟩:=out;⟨a,b,off.2 _ _ (nz ap.zO.symm) e⟩,w1.at λo e=>off.2 _ _ (nz ap.z1.symm) e,w2.at λo e=>off.2 _ _ (nz ap.z2.symm) e⟩,λb hb=> ?_⟩
  ·refine I.turnLaid (h':=h2) (t':=tk) (ch:= [z,TI,TO,i1,i2]) (λb u hb q=>off.2 _ _ (λy=>inW hb (by simp only [G8] at y;simp [y])) (kept b u (inW hb) q)) hf (G5 _) ⟨by show 2<=sizeLine;decide,[x',y'],.cons ru (.cons rv' .nil),⟨_,T2,rfl,rfl,_,rfl⟩⟩
  ·rw [jx (lt b hb)];exact(hf b hb).1
 ·intro X hP hw hK hc i pins s σ H E I hf st hg;subst hP hw hK;obtain⟨xs,ys,hq,hq2,hl⟩:=hg;obtain⟨its,rv,p,_⟩:=I.tuple hq;obtain⟨jts,rw',p2,_⟩:=I.tuple hq2;have e1:=rv.length;have e2:=rw'.length;obtain⟨a1,a2,a3,a4,a5⟩:=id st;refine Uk (I.ok.hd hc) ap n1 n2 i12 a1 a2 a3 p p2 a4 a5 (λx' y' h' tk hx' hy' _ _ _ _ _ _ _=> ?_) λ_ h' tk kept=>⟨rfl,I.turnL (ch:= [z,TI,TO,i1,i2]) (λb o hb q=>kept b o (inW hb) q) hf⟩
  have b1:=(R7.mp hx').1;have b2:=(R7.mp hy').1;simp only [G7] at b1 b2;omega
section
variable {X:Cx}
def Ez (K:PySem.W.Frag)(ta:TA):TI:=λσ H R=>ta σ H λvs H1=> ∃a b,vs= [.ref a,.ref b]/\(∃xs,SqT K H1 a xs)/\(∃ys,SqT K H1 b ys)/\R (Itz K a b) H1
theorem LM {tg:Expr}{a b:Expr}{ta:TA}{p pos:Pos}(hg:Gl X "zip")(hm:X.mg "zip" =none)(ha:PA X [a,b] ta)(hs:starEach [a,b] X.env= [(false,eval a X.env),(false,eval b X.env)]:=by rfl)(hs2:starEach [b] X.env= [(false,eval b X.env)]:=by rfl):
 PI X tg (.Call (.Name "zip" p) [a,b] [] pos) (Ez X.K ta):=by
 intro pins s σ H R I h;refine Call_ (WX I hg hm boot_zip (C3 (thn (ha pos pins s σ H _ I h) λus s1 ⟨vs,H1,I1,r1,q1⟩=> ?_) (by rw [hs,hs2]) (by rw [hs2];rfl)));obtain⟨a,b,e,⟨xs,hq⟩,⟨ys,hq2⟩,q⟩:=q1;subst e;cases r1 with
 |cons r rr=>
  cases rr with
  |cons r' rr=>
   cases rr;cases r;cases r';obtain⟨its,rv,p,_⟩:=I1.tuple hq;obtain⟨jts,rw',p2,_⟩:=I1.tuple hq2;have la:a<s1.heap.objs.size:=by obtain⟨o,ho,_⟩:=p;exact P6 ho
   have lb:b<s1.heap.objs.size:=by obtain⟨o,ho,_⟩:=p2;exact P6 ho
   refine Uj (show s1.heap.IsTuple a its.toArray from p) (show s1.heap.IsTuple b jts.toArray from p2) λh' n en z1 z2 z3 z4 z5 hk=> ?_
   subst en;refine QH z1 ⟨s1.heap.objs.size+4,[s1.heap.objs.size+4,s1.heap.objs.size+2,s1.heap.objs.size+3,s1.heap.objs.size,s1.heap.objs.size+1],_,_,H1,rfl,I1.kept (t':=s1.toks) hk,
    Mw _ a b _ _ _ _ _ (Gu _) (Ul la) (Ul lb) (D9 (C8 _)),⟨z1,z2,z3,z4,z5⟩,λc hc=> ?_,q⟩
   have hb':s1.heap.objs.size<=c:=Mv hc;exact I1.fpOk hb' (I1.hok.fresh hb')
end
def Nv (ds es:List D):List D:=(ds.zip es).map λp=> .tup [p.1,p.2]
def iZ (ta:TAD):TID:=λσ h R=>ta σ h λxs h1=> ∃ds es,xs= [.tup ds,.tup es]/\R (λ_=>some (Nv ds es)) h1
theorem Mx {ds es:List D}{d:D}(h:(Nv ds es)[i]? =some d): ∃x y,ds[i]? =some x/\es[i]? =some y/\d= .tup [x,y]:=by
 unfold Nv at h;rw [G6] at h;cases q:(ds.zip es)[i]? with
 |none=>rw [q] at h;cases h
 |some p=>
  rw [q] at h;obtain⟨x,y⟩:=p;rw [List.getElem?_zip_eq_some] at q;exact⟨x,y,q.1,q.2,(S0 h).symm⟩
section
variable {K:PySem.W.Frag}
theorem Mz {H:Hp}{a b:Addr}{vs us:List V}{ds es:List D}(hv:H a=some (.tup vs))(r:RelDs K H ds vs)(hu:H b=some (.tup us))(ru:RelDs K H es us):BJ K H (λ_=>some (Nv ds es)) (Itz K a b):=λH' h' k rh ds' e i=>by
 cases e;have hv':=k.tup _ _ hv;have hu':=k.tup _ _ hu;have r':=r.mono k;have ru':=ru.mono k;refine⟨λd hd=> ?_,λhl=>⟨vs,us,SqT.of hv',SqT.of hu',?_⟩⟩
 ·obtain⟨x,y,hx,hy,ed⟩:=Mx hd;subst ed;obtain⟨v,e1,e2⟩:=r'.get hx;obtain⟨u,e3,e4⟩:=ru'.get hy;refine⟨⟨vs,us,v,u,SqT.of hv',SqT.of hu',e1,e3⟩,λx' H'' ⟨p,v',u',hp,hx',hy',ex,eH⟩=> ?_⟩;subst ex eH;have ev:v'=v:=by have:=hx' vs (SqT.of hv');rw [e1] at this;exact(S0 this).symm
  have eu:u'=u:=by have:=hy' us (SqT.of hu');rw [e3] at this;exact(S0 this).symm
  subst ev eu;have k2:Kept H' (upd H' p (.tup [v',u'])):= .new hp;exact⟨k2,RelH.new rh hp,p,[v',u'],rfl,jy,_,_,rfl,e2.mono k2,_,_,rfl,e4.mono k2,rfl⟩
 ·have l1:=r.length;have l2:=ru.length;unfold Nv at hl;rw [G0,Q4] at hl;omega
theorem LP {ta:TAD}: ∀σ H R,LI K (iZ ta) σ H R->Ez K (LA K ta) σ H R:=λσ H R ⟨σd,h,Rd,rs,rh,q,p⟩=>
 LA.bind rs rh q λds vs h1 H1 k1 rs1 rh1 r1 ⟨es,fs,e,q1⟩=>by
  subst e;obtain⟨v,w,e,r2,r3⟩:=yk r1;obtain⟨a,ws,e',hv,r⟩:=(show ∃a vs,v= .ref a/\H1 a=some (.tup vs)/\RelDs K H1 es vs from r2);obtain⟨b,us,e'',hu,r'⟩:=(show ∃a vs,w= .ref a/\H1 a=some (.tup vs)/\RelDs K H1 fs vs from r3);subst e' e'';exact⟨a,b,e,⟨ws,SqT.of hv⟩,⟨us,SqT.of hu⟩,p _ _ _ _ k1 rh1 (Mz hv r hu r') q1⟩
end
section
variable {X:Cx}
theorem LQ {tg:Expr}{a b:Expr}{ta:TAD}{p pos:Pos}(hg:Gl X "zip")(hm:X.mg "zip" =none)(ha:JA X [a,b] ta)(hs:starEach [a,b] X.env= [(false,eval a X.env),(false,eval b X.env)]:=by rfl)(hs2:starEach [b] X.env= [(false,eval b X.env)]:=by rfl):
 JI X tg (.Call (.Name "zip" p) [a,b] [] pos) (iZ ta):=⟨(LM hg hm ha.to hs hs2).imp LP⟩
end
def inE (neg:Bool):RD2:=λx y h Q=> ∃ (p:PyData) (ps:List PyData),ToP h x p/\(ToP h y (.list ps)\/ToP h y (.tuple ps))/\p.canLay0=true/\PyData.canLayAll0 ps=true/\p.depth<=60/\Q (.bl (neg !=ps.any λz=>PyData.eqv z p)) h
section
variable {X:Cx}
theorem AF (hu:X.A.units+64<cLine):OpQ X (compareOp .In) (inE false):=by
 intro pins s σ H x y v u Q I rx ry h;obtain⟨dx,dy,h,Qd,r1,r2,rh,⟨p,ps,t1,t2,c1,c2,c3,qq⟩,post⟩:=h;obtain⟨as,a1⟩:=zx I rh t1 r1 rx;have hu':X.A.units+1+min (PyData.depthAll ps) p.depth<cLine:=by have:=J9 (PyData.depthAll ps) p.depth;omega
 have q':Qd (.bl (ps.any λz=>PyData.eqv z p)) h:=by simpa using qq
 rcases t2 with t2|t2
 ·obtain⟨bs,b1⟩:=zx I rh t2 r2 ry;exact in_list_reads b1 a1 c2 c1 hu' ⟨.bl _,H,I,rfl,post (.bl _) _ _ _ (.refl H) rh rfl q'⟩
 ·obtain⟨bs,b1⟩:=zx I rh t2 r2 ry;exact in_tuple_reads b1 a1 c2 c1 hu' ⟨.bl _,H,I,rfl,post (.bl _) _ _ _ (.refl H) rh rfl q'⟩
theorem MA (hu:X.A.units+64<cLine):OpQ X (compareOp .NotIn) (inE true):=by
 intro pins s σ H x y v u Q I rx ry h;obtain⟨dx,dy,h,Qd,r1,r2,rh,⟨p,ps,t1,t2,c1,c2,c3,qq⟩,post⟩:=h;obtain⟨as,a1⟩:=zx I rh t1 r1 rx;have hu':X.A.units+1+min (PyData.depthAll ps) p.depth<cLine:=by have:=J9 (PyData.depthAll ps) p.depth;omega
 have q':Qd (.bl (!ps.any λz=>PyData.eqv z p)) h:=by simpa using qq
 rcases t2 with t2|t2
 ·obtain⟨bs,b1⟩:=zx I rh t2 r2 ry;exact notIn_list_reads b1 a1 c2 c1 hu' ⟨.bl _,H,I,rfl,post (.bl _) _ _ _ (.refl H) rh rfl q'⟩
 ·obtain⟨bs,b1⟩:=zx I rh t2 r2 ry;exact notIn_tuple_reads b1 a1 c2 c1 hu' ⟨.bl _,H,I,rfl,post (.bl _) _ _ _ (.refl H) rh rfl q'⟩
end
end L2
namespace L2
open PySem PySem.Spec PyProof.Rows
structure ShowOk (p:PyData):Prop where
 sh:p.showable=true
 dp:p.depth<=60
 ln:p.shown.length<=sizeLine
mutual
theorem JU {h:HD}: ∀ {p:PyData} {d:D},ToP h d p->p.hasDict=false
 | .none,_,_=>rfl
 | .bool _,_,_=>rfl
 | .int _,_,_=>rfl
 | .str _,_,_=>rfl
 | .tuple ps,d,t=>by
  obtain⟨ds,_,ts⟩:=(show ∃ds,d= .tup ds/\ToPs h ds ps from t);simpa only [PyData.hasDict] using noDict_ToPs ts
 | .list ps,d,t=>by
  obtain⟨a,ds,_,_,ts⟩:=(show ∃a ds,d= .lst a/\h a=some ds/\ToPs h ds ps from t);simpa only [PyData.hasDict] using noDict_ToPs ts
 | .dict _,_,t=>(show False from t).elim
theorem noDict_ToPs {h:HD}: ∀ {ps:List PyData} {ds:List D},ToPs h ds ps->PyData.hasDictAll ps=false
 | [],_,_=>rfl
 |p::ps,ds,t=>by
  obtain⟨d,r,_,t1,t2⟩:=(show ∃d r,ds=d::r/\ToP h d p/\ToPs h r ps from t);simp only [PyData.hasDictAll,JU t1,noDict_ToPs t2,Bool.or_self]
end
def LU:RDn:=λds h Q=> ∃d p,ds= [d]/\ToP h d p/\ShowOk p/\Q (.str p.shown) h
theorem MB {X:Cx}{k:Nat}(hr:Room k X.A):vU X (.builtin "repr") LU:=by
 intro pins s σ H xs us Q I r h;obtain⟨ds,h,Qd,rs,rh,⟨d,p,e,t,so,q⟩,post⟩:=h;subst e;obtain⟨v,e,r1⟩:=jJ rs;subst e;obtain⟨u,rfl,ru⟩:=ZB r;have fin: ∀t',EP X pins σ Q (.str p.shown t') {s with toks:=s.toks+1}:=λt'=>⟨.str p.shown,H,I.tok _,⟨_,rfl⟩,post (.str _) _ _ _ (.refl H) rh rfl q⟩
 have fin0: ∀t',EP X pins σ Q (.str p.shown t') s:=λt'=>⟨.str p.shown,H,I,⟨_,rfl⟩,post (.str _) _ _ _ (.refl H) rh rfl q⟩
 have big: ∀a,u= .ref a->wpAny (model X.prog X.w) X.A (call (.builtin "repr") [.ref a]) (EP X pins σ Q) X.xe s:=λa e=>by
  obtain⟨as,rd⟩:=zx I rh t r1 ru;subst e;exact repr_of_reads' rd so.sh (PyData.noDict_hsm (JU t)) hr.gd (by have:=hr.units;have:=so.dp;omega) (λ_ _ e=>e)
   (λh' u' tk hk=>⟨.str p.shown,H,I.kept hk,⟨_,rfl⟩,post (.str _) _ _ _ (.refl H) rh rfl q⟩) so.ln
 cases p with
 |none=>
  cases (show d= .non from t);cases (show v= .non from r1);cases (show u= .none from ru);exact PySem.P.repr_of_none (fin _)
 |bool b=>
  cases (show d= .bl b from t);cases (show v= .bl b from r1);cases (show u= .bool b from ru);exact PySem.P.repr_of_bool (fin _)
 |int i=>
  cases (show d= .int i from t);cases (show v= .int i from r1);obtain⟨k,rfl⟩:=(show ∃t,u=Value.int i t from ru);exact PySem.P.repr_of_int (by simpa [PyData.showable] using so.sh) (fin _)
 |str x=>
  cases (show d= .str x from t);cases (show v= .str x from r1);obtain⟨k,rfl⟩:=(show ∃t,u=Value.str x t from ru);exact PySem.P.repr_of_str (fin _) so.ln
 |tuple ps=>
  obtain⟨ds,e,ts⟩:=(show ∃ds,d= .tup ds/\ToPs h ds ps from t);subst e;obtain⟨a,vs,e,hH,rs⟩:=(show ∃a vs,v= .ref a/\H a=some (.tup vs)/\RelDs X.K H ds vs from r1);subst e;cases (show u= .ref a from ru);exact big a rfl
 |list ps=>
  obtain⟨a,ds,e,ha,ts⟩:=(show ∃a ds,d= .lst a/\h a=some ds/\ToPs h ds ps from t);subst e;have e:v= .ref a:=r1.1;subst e;cases (show u= .ref a from ru);exact big a rfl
 |dict _=>exact(show False from t).elim
theorem Dr {x:Int}{e:Nat}(h0:0<=x)(h1:x<2^e)(he:e<=1919):x.natAbs.log2<1920:=by
 have h2:x.natAbs<2^e:=yY h0 h1
 by_cases z:x.natAbs=0
 ·rw [z];decide
 ·have h3:=J1 z |>.mpr (D2 h2 (N7 (by decide) (show e<=1920 by omega)));exact h3
theorem wZ: ∀ {ps:List PyData},(∀p∈ps,p.showable=true)->PyData.showableAll ps=true
 | [],_=>rfl
 |p::ps,h=>by
  simp only [PyData.showableAll,h p P3,wZ λx hx=>h x (P0 _ hx),Bool.and_self]
theorem zW: ∀ps:List PyData,PyData.shownAll ps=ps.map PyData.shown
 | []=>rfl
 |p::ps=>by simp only [PyData.shownAll,R0,zW ps]
theorem vX {k:Nat}: ∀ {ps:List PyData},(∀p∈ps,p.depth<=k)->PyData.depthAll ps<=k
 | [],_=>by simp [PyData.depthAll]
 |p::ps,h=>by
  simp only [PyData.depthAll];have:=h p P3;have:=vX λx hx=>h x (P0 _ hx)
  omega
theorem Ds {b:Nat}: ∀ {l:List Nat},(∀x∈l,x<=b)->l.sum<=b*l.length
 | [],_=>by simp
 |x::l,h=>by
  have h1:=h x P3;have h2:=Ds λy hy=>h y (P0 _ hy)
  simp only [List.sum_cons,P8,Nat.mul_succ];omega
structure ShowB (p:PyData)(k b:Nat):Prop where
 sh:p.showable=true
 dp:p.depth<=k
 ln:p.shown.length<=b
theorem ShowB.ok {p:PyData}{k b:Nat}(h:ShowB p k b)(hk:k<=60)(hb:b<=16777216):ShowOk p:=⟨h.sh,D7 h.dp hk,D7 h.ln hb⟩
theorem ShowB.mono {p:PyData}{k b k' b':Nat}(h:ShowB p k b)(hk:k<=k')(hb:b<=b'):ShowB p k' b':=⟨h.sh,D7 h.dp hk,D7 h.ln hb⟩
theorem Dt {x:Int}{e:Nat}(h0:0<=x)(h1:x<2^e)(he:e<=1919):ShowB (.int x) 0 (e+2):=by
 refine⟨by simpa [PyData.showable] using Dr h0 h1 he,by simp [PyData.depth],?_⟩;show (Str.ofString (toString x)).length<=e+2;rw [J7];have h2:x.natAbs<2^e:=yY h0 h1;refine int_text_length_le (by omega) ?_
 by_cases z:x.natAbs=0
 ·rw [z];exact A8 _
 ·exact(J1 z).mpr (D2 h2 (N7 (by decide) (by omega)))
theorem ShowB.tup {ps:List PyData}{k b:Nat}(h: ∀p∈ps,ShowB p k b):ShowB (.tuple ps) (k+1) ((b+2)*ps.length+3):=by
 refine⟨?_,?_,?_⟩
 ·simpa only [PyData.showable] using wZ λp hp=>(h p hp).sh
 ·simp only [PyData.depth];have:=vX λp hp=>(h p hp).dp;omega
 ·simp only [PyData.shown];have h1:=tupleText_len_le (PyData.shownAll ps);rw [zW,G0,S5] at h1;have h2:((ps.map ((λx=>x.length)∘PyData.shown))).sum<=b*ps.length:=by
   have:=Ds (b:=b) (l:=ps.map ((λx:Str=>x.length)∘PyData.shown)) (λx hx=>by obtain⟨p,hp,e⟩:=D6.mp hx;rw [<-e];exact(h p hp).ln);rw [G0] at this;exact this
  rw [zW,W0];omega
theorem ShowB.lst {ps:List PyData}{k b:Nat}(h: ∀p∈ps,ShowB p k b):ShowB (.list ps) (k+1) ((b+2)*ps.length+3):=by
 refine⟨?_,?_,?_⟩
 ·simpa only [PyData.showable] using wZ λp hp=>(h p hp).sh
 ·simp only [PyData.depth];have:=vX λp hp=>(h p hp).dp;omega
 ·simp only [PyData.shown];have h1:=listText_len_le (PyData.shownAll ps);rw [zW,G0,S5] at h1;have h2:((ps.map ((λx=>x.length)∘PyData.shown))).sum<=b*ps.length:=by
   have:=Ds (b:=b) (l:=ps.map ((λx:Str=>x.length)∘PyData.shown)) (λx hx=>by obtain⟨p,hp,e⟩:=D6.mp hx;rw [<-e];exact(h p hp).ln);rw [G0] at this;exact this
  rw [zW,W0];omega
theorem Du {r:List Int}{e:Nat}(h0: ∀x∈r,0<=x)(h1: ∀x∈r,x<2^e)(he:e<=1919):ShowB (.tuple (r.map .int)) 1 ((e+4)*r.length+3):=by
 have:=ShowB.tup (ps:=r.map PyData.int) (k:=0) (b:=e+2) λp hp=>by obtain⟨x,hx,e⟩:=D6.mp hp;rw [<-e];exact Dt (h0 x hx) (h1 x hx) he
 rw [G0] at this;exact this
theorem Dv {n e:Nat}{T:List (List Int)}(h:Sq n e T)(h6:n<=6)(he:e<=1919):ShowB (Zq T) 2 (60*e+300):=by
 have:=ShowB.tup (ps:=T.map λr=>PyData.tuple (r.map .int)) (k:=1) (b:=(e+4)*6+3) λp hp=>by
  obtain⟨r,hr,ep⟩:=D6.mp hp;rw [<-ep];refine(Du (h.nn r hr) (h.bit r hr) he).mono (G5 _) ?_;have:=L1 (e+4) (show r.length<=6 by rw [h.row r hr];exact h6);omega
 rw [G0,h.len] at this;refine this.mono (G5 _) ?_;have:=L1 ((e+4)*6+3+2) h6;omega
end L2
namespace L2
open PySem PySem.Spec PyProof.Rows PySem.SeqAt
variable {X:Cx}
theorem MC (hu:X.A.units+64<cLine):MtM X "list.index" (λx vs H Q=> ∃ (a:Addr) (y:V) (dy:D) (h:HD) (p:PyData) (ps:List PyData) (j:Nat) (z:PyData),x= .ref a/\vs= [y]/\RelD X.K H dy y/\RelH X.K h H/\ToP h (.lst a) (.list ps)/\ToP h dy p/\p.canLay0=true/\PyData.canLayAll0 ps=true/\p.depth<=60/\j<1000000/\ps[j]? =some z/\PyData.eqv z p=true/\(∀m y,m<j->ps[m]? =some y->PyData.eqv y p=false)/\Q (.int (j:Int)) H):=by
 intro pins s σ H x vs v us Q I rx rv h;obtain⟨a,y,dy,h,p,ps,j,z,rfl,rfl,rd,rh,t1,t2,c1,c2,c3,hj,hz,hit,hno,q⟩:=h;cases rx;obtain⟨u,rfl,ru⟩:=ZB rv;obtain⟨a',ds,ea,ha,ts⟩:=(show ∃a' ds,D.lst a= .lst a'/\h a'=some ds/\ToPs h ds ps from t1);cases ea;obtain⟨ws,hH,_⟩:=rh a ds ha;obtain⟨as,r1⟩:=zx I rh t1 (show RelD X.K H (.lst a) (.ref a) from ⟨rfl,ws,hH⟩) (show RelV (.ref a) (.ref a) from rfl);obtain⟨bs,r2⟩:=zx I rh t2 rd ru;cases r1 with
 |list h1 h2 h3 h4=>
  rename_i o its n cs;have em:=readsAll_map ps _ _ c2 h4;have gm: ∀m (hm:m<its.size),ps[m]? =some (readOf s.heap its[m]):=λm hm=>by
   rw [<-em,G6,F1,B4 hm];rfl
  have hlen:its.size=ps.length:=by rw [<-em,G0,P2]
  have hjs:j<its.size:=by rw [hlen];exact(G9.mp hz).1
  have hu':X.A.units+1+min (PyData.depthAll ps) p.depth<cLine:=by have:=J9 (PyData.depthAll ps) p.depth;omega
  obtain⟨oc,od,odt,osl⟩:=o;simp only at h2 h3;subst h2 h3;refine X8 F.slot_list_index ⟨_,h1,rfl⟩ F.entry_list_index (F.args_list_index_2 _ _) (list_indexAt a its n od osl u (λy=>PyData.eqv (readOf s.heap y) p) j hjs (by omega) ?_ ?_) ⟨h1,items_eqAt h4 r2 c2 c1 hu',?_⟩
  ·have:=gm j hjs;rw [hz] at this;injection this with this
   rw [<-this];exact hit
  ·intro m hm hmj;exact hno m _ hmj (gm m hm)
  ·exact⟨.int (j:Int),H,I.tok _,⟨_,rfl⟩,q⟩
def Sk (to te:TED):TED:=λσ h Q=>to σ h λx h1=> ∃a,x= .lst a/\te σ h1 λy h2=> ∃ (p:PyData) (ps:List PyData) (j:Nat) (z:PyData),ToP h2 (.lst a) (.list ps)/\ToP h2 y p/\p.canLay0=true/\PyData.canLayAll0 ps=true/\p.depth<=60/\j<1000000/\ps[j]? =some z/\PyData.eqv z p=true/\(∀m y,m<j->ps[m]? =some y->PyData.eqv y p=false)/\Q (.int (j:Int)) h2
section
variable {X:Cx}{o e i:Expr}{to te ti:TED}{apos cpos:Pos}
theorem Sl (hu : X.A.units + 64 < cLine) (ho : JE X o to) (he : JE X e te) (hbase : attributeBase o "index" X.env (eval o X.env) = eval o X.env := by rfl)
    (hfew : ((backTo cpos (starEach [e] X.env)).all (fun x => !x.1) && (backToKw cpos (keywordEach [] X.env)).all (fun x => x.1.isSome) && decide ([e].length + ([] : List Keyword).length + (if ([] : List Keyword).isEmpty then 0 else 1) < 30)) = true := by rfl)
    (hline : (apos.endLine == cpos.line) = true := by rfl) (hs : starEach [e] X.env = (false, eval e X.env) :: starEach [] X.env := by rfl) (hplain : (backTo cpos (starEach [] X.env)).any (·.1) = false := by rfl) :
    JE X (.Call (.Attribute o "index" apos) [e] [] cpos) (Sk to te) :=
  ⟨(Bl E4 PySem.F.slot_list_index PySem.F.type_list_index (MC hu) ho.to (yT he.to pa_nil hs) hbase hfew hline hs hplain).imp
    fun σ H Q ⟨σd, h, Qd, rs, rh, t, p⟩ => LE.bind rs rh t fun d v h1 H1 k1 rs1 rh1 r1 ⟨a, e, q⟩ => by
      subst e
      obtain ⟨e1, vs, hH⟩ := (show v = .ref a ∧ ∃ vs, H1 a = some (.lst vs) from r1)
      subst e1
      refine ⟨.inl ⟨rfl, vs, SqL.of hH⟩, ?_⟩
      refine LE.bind rs1 rh1 q fun y u h2 H2 k2 rs2 rh2 r2 ⟨pd, ps, j, z, t1, t2, c1, c2, c3, hj, hz, hit, hno, q2⟩ => ?_
      exact ⟨a, u, y, h2, pd, ps, j, z, rfl, rfl, r2, rh2, t1, t2, c1, c2, c3, hj, hz, hit, hno, p (.int _) _ _ _ (k1.trans k2) rh2 rfl q2⟩⟩
end
section
variable {α:Type}{i i':Nat}{js:List Nat}{ti:TID}{te:TED}{σ:SD}{h:HD}{Q:KD}{j:ItD}
theorem Sn (xs:List α)(c c' g:α->D)(hz:xs.length<=1000)(hj:j h=some (xs.map λx=> .tup [c x,c' x]))(ht: ∀R:ItD->HD->Prop,R j h->ti σ h R)
 (he: ∀x∈xs,∀Q':KD,Q' (g x) h->te (((wN js σ).set i (some (c x))).set i' (some (c' x))) h Q')(hq: ∀p,h p=none->Q (.lst p) (zY h p (xs.map g))):Ye (b2 i i') js ti WI te σ h Q:=by
 refine ht _ ⟨xs.length,λk ys h'=>h'=h/\ys=(xs.take k).map g,⟨rfl,by simp⟩,?_⟩;rintro k ys h' ⟨rfl,rfl⟩;refine⟨by simp only [G0,T1];exact T5 (zr (by omega)),_,hj,by simp,λhl p hp=> ?_,λd hd=> ?_⟩
 ·rw [B0 (by simpa using hl)];exact hq p hp
 ·rw [G6] at hd;cases hx:xs[k]? with
  |none=>rw [hx] at hd;cases hd
  |some x=>
   rw [hx] at hd;cases hd;refine⟨_,⟨_,_,rfl,rfl⟩,?_⟩;unfold WI;dsimp only;rw [if_pos rfl];refine he x (R8 hx) _ ⟨h',Sub.refl _,rfl,?_⟩;rw [B9,hx];simp
theorem AG (xs:List α)(c c':α->D)(g:α->Bool)(hz:xs.length<=1000)(hj:j h=some (xs.map λx=> .tup [c x,c' x]))(ht: ∀R:ItD->HD->Prop,R j h->ti σ h R)
 (he: ∀x∈xs,∀Q':KD,Q' (.bl (g x)) h->te (((wN js σ).set i (some (c x))).set i' (some (c' x))) h Q')(hq:Q (.bl (xs.all g)) h):dCB Lk (yV (Ye (b2 i i') js ti WI te) UY) σ h Q:=by
 show Ye (b2 i i') js ti WI te σ h (λx h1=>Lk [x] h1 Q);exact Sn xs c c' (λx=> .bl (g x)) hz hj ht he λp hp=>⟨p,xs.map g,rfl,by rw [jb,S5];rfl,by rw [wF hp,O0];exact hq⟩
end
def itF {α:Type}(f:α->α)(x:α):Nat->α
 |0=>x
 |k+1=>f (itF f x k)
theorem Wj {α:Type}[DecidableEq α]: ∀ {l m:List α},l.Nodup->(∀x∈l,x∈m)->l.length<=m.length
 | [],_,_,_=>B7 _
 |a::l,m,nd,h=>by
  have hm:=h a P3;have h2:l.length<=(m.erase a).length:=Wj (M5.mp nd).2 λx hx=>by
   have hxa:x≠a:=λe=>(M5.mp nd).1 (e ▸ hx)
   exact(O9 hxa).mpr (h x (P0 _ hx))
  rw [F8 hm] at h2;have:=L3 hm;simp only [P8];omega
theorem Yi: ∀a b:List Int,PyData.eqvAll (a.map PyData.int) (b.map PyData.int)=decide (a=b)
 | [],[]=>by simp [PyData.eqvAll]
 | [],_::_=>by simp [PyData.eqvAll]
 |_::_,[]=>by simp [PyData.eqvAll]
 |x::a,y::b=>by
  show ((x==y)&&PyData.eqvAll (a.map .int) (b.map .int))=_;rw [Yi a b,C4];simp
theorem Cf (a b:List Int):PyData.eqv (Wh a) (Wh b)=decide (a=b):=Yi a b
theorem Cg {α:Type}(xs:List α):vB xs (some 1) none=xs.drop 1:=by
 unfold vB;cases xs with
 |nil=>simp
 |cons x xs=>simp [HT.sIx]
structure Enc {α:Type}[DecidableEq α](e:α->D)(p:α->PyData):Prop where
 to: ∀ (h:HD) a,ToP h (e a) (p a)
 lay: ∀a,(p a).canLay0=true
 dp: ∀a,(p a).depth<=60
 eq: ∀a b,PyData.eqv (p a) (p b)=decide (a=b)
section
variable {α:Type}[DecidableEq α]{e:α->D}{p:α->PyData}
theorem Enc.tos (E:Enc e p)(h:HD): ∀as:List α,ToPs h (as.map e) (as.map p)
 | []=>rfl
 |a::as=>⟨_,_,rfl,E.to h a,E.tos h as⟩
theorem Enc.lays (E:Enc e p): ∀as:List α,PyData.canLayAll0 (as.map p)=true
 | []=>rfl
 |a::as=>by show (PyData.canLay0 (p a)&&_)=true;rw [E.lays as,E.lay a];rfl
theorem LV (E:Enc e p){neg:Bool}{x:α}{as:List α}{a:Addr}{h:HD}{Q:KD}(ha:h a=some (as.map e))(q: ∀b:Bool,(b=true↔x∈as)->Q (.bl (neg !=b)) h):inE neg (e x) (.lst a) h Q:=by
 refine⟨p x,as.map p,E.to h x,.inl ⟨a,_,rfl,ha,E.tos h as⟩,E.lay x,E.lays as,E.dp x,q _ ?_⟩;rw [List.any_map,List.any_eq_true];constructor
 ·rintro ⟨y,hy,z⟩;have:y=x:=by simpa [T7,E.eq] using z
  rw [<-this];exact hy
 ·intro hi;exact⟨x,hi,by simp [T7,E.eq]⟩
theorem LW (E:Enc e p){x:α}{as:List α}{a:Addr}{h:HD}(ha:h a=some (as.map e))(hx:x∈as)(hl:as.length<=100000):
 ∃ (j:Nat) (q:PyData) (qs:List PyData) (z:PyData),as[j]? =some x/\ToP h (.lst a) (.list qs)/\ToP h (e x) q/\q.canLay0=true/\PyData.canLayAll0 qs=true/\q.depth<=60/\j<1000000/\qs[j]? =some z/\PyData.eqv z q=true/\(∀m y,m<j->qs[m]? =some y->PyData.eqv y q=false):=by
 have hj:=List.idxOf_lt_length_iff.mpr hx;have ex:as[as.idxOf x]? =some x:=by rw [G3 hj,List.getElem_idxOf hj]
 refine⟨as.idxOf x,p x,as.map p,p x,ex,⟨a,_,rfl,ha,E.tos h as⟩,E.to h x,E.lay x,E.lays as,E.dp x,by omega,?_,by rw [E.eq,D5 rfl],λm y hm hy=> ?_⟩
 ·rw [G6,ex];rfl
 ·rw [G6] at hy;have hml:m<as.length:=by omega
  rw [G3 hml] at hy;cases hy;rw [E.eq];have:=List.not_of_lt_findIdx (p:=(· ==x)) (xs:=as) hm;simpa using this
end
theorem zk: ∀a b:List (List Int),PyData.eqvAll (a.map Wh) (b.map Wh)=decide (a=b)
 | [],[]=>by simp [PyData.eqvAll]
 | [],_::_=>by simp [PyData.eqvAll]
 |_::_,[]=>by simp [PyData.eqvAll]
 |x::a,y::b=>by
  show (PyData.eqv (Wh x) (Wh y)&&PyData.eqvAll (a.map Wh) (b.map Wh))=_;rw [zk a b,Cf,C4];simp
theorem encT:Enc jr Zq:=⟨yZ,λT=>by unfold Zq;simp only [PyData.canLay0];exact yz T,λT=>by unfold Zq;simp only [PyData.depth];have:=vE T;omega,zk⟩
def mk1 (n:Nat)(T:List (List Int))(M:List (List Int)):List (List Int):=jw n (vD n M T)
def jS (n:Nat)(T:List (List Int))(i:Nat):List (List Int):=itF (mk1 n T) (jw n T) i
theorem Dw (n:Nat)(T:List (List Int)): ∀i,∃M,jS n T i=jw n M
 |0=>⟨T,rfl⟩
 |_+1=>⟨_,rfl⟩
theorem zL (n:Nat)(T:List (List Int))(i:Nat):Sq n 1 (jS n T i):=by
 obtain⟨M,e⟩:=Dw n T i;rw [e];exact Sq.mark M
variable {n:Nat}
theorem Jt {e:Nat}{T:List (List Int)}(h:Sq n e T)(hn:n<=8): ∀i,jS n T i=jw n (wY n T (i+1))
 |0=>by
  show jw n T=jw n (vD n (GT n) T);rw [Mn h hn]
 |i+1=>by
  show jw n (vD n (jS n T i) T)=jw n (vD n (wY n T (i+1)) T);rw [Jt h hn i,ZR (Sq.mark (n:=n) _) h,ZR (h.pow hn (i+1)) h,Uh]
def RP (n:Nat)(T:List (List Int))(k i j:Nat):Prop:=ent (wY n T k) i j≠0
section
variable {n e:Nat}{T:List (List Int)}
theorem Wk (h:Sq n e T)(hn:n<=8)(a b:Nat){i j:Nat}(hi:i<n)(hj:j<n):RP n T (a+b) i j↔ ∃k,k<n/\RP n T a i k/\RP n T b k j:=by
 unfold RP;rw [pow_add h hn a b];exact vb (h.pow hn a) (h.pow hn b) hi hj
theorem vY (h:Sq n e T)(hn:n<=8){c x:Nat}(hx:x<n)(l:RP n T c x x): ∀q,RP n T (c*(q+1)) x x
 |0=>by rw [J6,Nat.mul_one];exact l
 |q+1=>by
  rw [Nat.mul_succ];exact(Wk h hn _ _ hx hx).mpr ⟨x,hx,vY h hn hx l q,l⟩
theorem Dx {i j:Nat}(hi:i<n)(hj:j<n):RP n T 0 i j↔i=j:=by
 unfold RP;show ent (GT n) i j≠0↔_;unfold GT;rw [Zp hi hj]
 by_cases z:i=j
 ·simp [z]
 ·simp [z]
theorem Nw (h:Sq n e T)(hn:n<=8): ∀ (m:Nat) {i j:Nat},i<n->j<n->RP n T m i j-> ∃v:Nat->Nat,v 0=i/\v m=j/\(∀t,t<=m->v t<n)/\ ∀t,t<m->RP n T 1 (v t) (v (t+1))
 |0,i,j,hi,hj,r=>by
  have:=(Dx hi hj).mp r;exact⟨λ_=>i,rfl,this,λ_ _=>hi,λt ht=>by omega⟩
 |m+1,i,j,hi,hj,r=>by
  obtain⟨k,hk,r1,r2⟩:=(Wk h hn m 1 hi hj).mp r;obtain⟨v,v0,vm,vl,vr⟩:=Nw h hn m hi hk r1;refine⟨λt=>if t<=m then v t else j,?_,?_,λt _=> ?_,λt ht=> ?_⟩
  ·simp [v0]
  ·show (if m+1<=m then v (m+1) else j)=j;rw [if_neg (by omega)]
  ·show (if t<=m then v t else j)<n;split
   ·exact vl t (by assumption)
   ·exact hj
  ·show RP n T 1 (if t<=m then v t else j) (if t+1<=m then v (t+1) else j);rw [if_pos (by omega)]
   by_cases z:t+1<=m
   ·rw [if_pos z];exact vr t (by omega)
   ·rw [if_neg z,show t=m by omega,vm];exact r2
theorem YM (h:Sq n e T)(hn:n<=8){m:Nat}{v:Nat->Nat}(vl: ∀t,t<=m->v t<n)(vr: ∀t,t<m->RP n T 1 (v t) (v (t+1)))(a:Nat): ∀b,a+b<=m->RP n T b (v a) (v (a+b))
 |0,hb=>(Dx (vl a (by omega)) (vl a (by omega))).mpr rfl
 |b+1,hb=>(Wk h hn b 1 (vl a (by omega)) (vl _ hb)).mpr ⟨v (a+b),vl _ (by omega),YM h hn vl vr a b (by omega),vr (a+b) (by omega)⟩
theorem LX {n:Nat}{v:Nat->Nat}(hv: ∀t,t<=n->v t<n): ∃a b,a<b/\b<=n/\v a=v b:=by
 by_cases z: ∃a b,a<b/\b<=n/\v a=v b
 ·exact z
 ·exfalso;have nd:((List.range (n+1)).map v).Nodup:=by
   unfold List.Nodup;rw [C0];refine List.Pairwise.imp_of_mem (λ{a b} _ hb hab=> ?_) (List.pairwise_lt_range (n:=n+1));intro e;exact z ⟨a,b,hab,by have:=D3.mp hb;omega,e⟩
  have:=Wj nd (m:=List.range n) λx hx=>by
   obtain⟨t,ht,e⟩:=D6.mp hx;rw [<-e];exact D3.mpr (hv t (by have:=D3.mp ht;omega))
  simp at this;omega
theorem Ch (h:Sq n e T)(h6:n<=6){m i j:Nat}(hm:n<=m)(hi:i<n)(hj:j<n)(r:RP n T m i j):RP n T (m+60) i j:=by
 have hn:n<=8:=by omega
 obtain⟨v,v0,vm,vl,vr⟩:=Nw h hn m hi hj r;obtain⟨a,b,hab,hbn,eq⟩:=LX (n:=n) (v:=v) λt ht=>vl t (by omega)
 have ha:=vl a (by omega);have p1:RP n T a i (v a):=by have:=YM h hn vl vr 0 a (by omega);rw [v0,J6] at this;exact this
 have p2:RP n T (b-a) (v a) (v a):=by
  have:=YM h hn vl vr a (b-a) (by omega);rw [show a+(b-a)=b by omega,<-eq] at this;exact this
 have p3:RP n T (m-a) (v a) j:=by
  have:=YM h hn vl vr a (m-a) (by omega);rw [show a+(m-a)=m by omega,vm] at this;exact this
 have p4:RP n T 60 (v a) (v a):=by
  have hc:b-a=1\/b-a=2\/b-a=3\/b-a=4\/b-a=5\/b-a=6:=by omega
  rcases hc with c|c|c|c|c|c<;>rw [c] at p2
  ·exact vY h hn ha p2 59
  ·exact vY h hn ha p2 29
  ·exact vY h hn ha p2 19
  ·exact vY h hn ha p2 14
  ·exact vY h hn ha p2 11
  ·exact vY h hn ha p2 9
 have p5:RP n T (60+(m-a)) (v a) j:=(Wk h hn _ _ ha hj).mpr ⟨v a,ha,p4,p3⟩;have p6:RP n T (a+(60+(m-a))) i j:=(Wk h hn _ _ hi hj).mpr ⟨v a,ha,p1,p5⟩;rw [show a+(60+(m-a))=m+60 by omega] at p6;exact p6
end
theorem yn {f g:Nat->Int}(h: ∀k,k<n->f k<=g k):jI n f<=jI n g:=by
 induction n with
 |zero=>exact Y7 _
 |succ n ih=>rw [jH,jH];have:=ih λk hk=>h k (by omega);have:=h n (by omega);omega
theorem JV {f g:Nat->Int}(h: ∀k,k<n->f k<=g k)(e:jI n g<=jI n f): ∀k,k<n->f k=g k:=by
 induction n with
 |zero=>intro k hk;omega
 |succ n ih=>
  rw [jH,jH] at e;have a:=yn λk (hk:k<n)=>h k (by omega)
  have b:=h n (by omega);intro k hk
  by_cases z:k=n
  ·subst z;omega
  ·exact ih (λk hk=>h k (by omega)) (by omega) k (by omega)
section
variable {n e:Nat}{T:List (List Int)}
def tot (n:Nat)(T:List (List Int))(k:Nat):Int:=jI n λi=>jI n λj=>ent (jw n (wY n T k)) i j
theorem yo {M:List (List Int)}{i j:Nat}(hi:i<n)(hj:j<n):ent (jw n M) i j=if ent M i j=0 then 0 else 1:=Zp hi hj
theorem Dy (h:Sq n e T)(h6:n<=6){m:Nat}(hm:n<=m): ∀i j,i<n->j<n->ent (jw n (wY n T m)) i j<=ent (jw n (wY n T (m+60))) i j:=λi j hi hj=>by
 rw [yo hi hj,yo hi hj]
 by_cases z:ent (wY n T m) i j=0
 ·rw [if_pos z];split<;>omega
 ·rw [if_neg z,if_neg (Ch h h6 hm hi hj z)];exact Y7 _
theorem MD (h:Sq n e T)(h6:n<=6){m:Nat}(hm:n<=m):jw n (wY n T m)=jw n (wY n T (m+60))\/tot n T m+1<=tot n T (m+60):=by
 have le:=Dy h h6 hm;have a:tot n T m<=tot n T (m+60):=yn λi hi=>yn λj hj=>le i j hi hj
 by_cases z:tot n T (m+60)<=tot n T m
 ·left;refine(Sq.mark (n:=n) _).ext (Sq.mark (n:=n) _) λi j hi hj=> ?_
  have b:=JV (λi hi=>yn λj hj=>le i j hi hj) z i hi;exact JV (λj hj=>le i j hi hj) (by rw [b];exact Y7 _) j hj
 ·right;omega
theorem Um (k:Nat)(h6:n<=6):0<=tot n T k/\tot n T k<=36:=by
 have r: ∀i,i<n->0<=(jI n λj=>ent (jw n (wY n T k)) i j)/\(jI n λj=>ent (jw n (wY n T k)) i j)<=6:=λi hi=>by
  have a: ∀j,j<n->0<=ent (jw n (wY n T k)) i j/\ent (jw n (wY n T k)) i j<=1:=λj hj=>by
   rw [yo hi hj];split<;>omega
  refine⟨vC λj hj=>(a j hj).1,?_⟩;have:=ZQ (f:=λj=>ent (jw n (wY n T k)) i j) λj hj=>(a j hj).2
  omega
 refine⟨vC λi hi=>(r i hi).1,?_⟩;have b:=ZQ (f:=λi=>jI n λj=>ent (jw n (wY n T k)) i j) λi hi=>(r i hi).2
 unfold tot;omega
theorem Gv (h:Sq n e T)(h6:n<=6): ∃t,t<=36/\jw n (wY n T (n+60*t))=jw n (wY n T (n+60*(t+1))):=by
 by_cases z: ∃t,t<=36/\jw n (wY n T (n+60*t))=jw n (wY n T (n+60*(t+1)))
 ·exact z
 ·exfalso;have g: ∀t:Nat,t<=37->(t:Int)<=tot n T (n+60*t):=by
   intro t
   induction t with
   |zero=>intro _;exact(Um _ h6).1
   |succ t ih=>
    intro ht;have a:=ih (by omega);rcases MD h h6 (m:=n+60*t) (by omega) with b|b
    ·exact(z ⟨t,by omega,by rw [b];rfl⟩).elim
    ·have e1:n+60*t+60=n+60*(t+1):=by omega
     rw [e1] at b;omega
  have a:=g 37 (G5 _);have b:=(Um (T:=T) (n+60*37) h6).2;omega
theorem Dz (h:Sq n e T)(h1:1<=n)(h6:n<=6){L:Nat}(nd:((List.range L).map (jS n T)).Nodup):L<=2225:=by
 by_cases z:L<=2225
 ·exact z
 ·exfalso;obtain⟨t,ht,eq⟩:=Gv h h6;have e1:jS n T (n+60*t-1)=jS n T (n+60*t+59):=by
   rw [Jt h (by omega),Jt h (by omega),show n+60*t-1+1=n+60*t by omega,show n+60*t+59+1=n+60*(t+1) by omega];exact eq
  have inj:=nd;unfold List.Nodup at inj;rw [C0] at inj;have h2:=S6.mp inj (n+60*t-1) (n+60*t+59) (by simp;omega) (by simp;omega) (by omega);simp only [M2] at h2;exact h2 e1
structure Course (n:Nat)(T:List (List Int))(L J:Nat):Prop where
 nd:((List.range L).map (jS n T)).Nodup
 lt:J<L
 eq:jS n T L=jS n T J
theorem AH {L a b:Nat}{f:Nat->List (List Int)}(nd:((List.range L).map f).Nodup)(hab:a<b)(hb:b<L):f a≠f b:=by
 unfold List.Nodup at nd;rw [C0] at nd;have h2:=S6.mp nd a b (by simp;omega) (by simp;omega) hab;simpa using h2
end
structure Grid (n:Nat)(h0 h:HD)(p R:Addr)(rs:List Addr):Prop where
 at_:h R=some (rs.map D.lst)
 len:rs.length=n
 nR:R ∉ rs
 fR:h0 R=none
 np:p ∉ rs
 nRp:R≠p
 row: ∀a∈rs,h0 a=none/\ ∃r,h a=some (r.map D.int)/\yy n r
section
variable {n:Nat}{h0 h:HD}{p R:Addr}{rs:List Addr}
theorem Grid.pen (g:Grid n h0 h p R rs)(ds:List D):Grid n h0 (zY h p ds) p R rs:=
 ⟨jh g.nRp g.at_,g.len,g.nR,g.fR,g.np,g.nRp,λa ha=>⟨(g.row a ha).1,let ⟨r,e,gr⟩:=(g.row a ha).2;⟨r,jh (λz=>g.np (z ▸ ha)) e,gr⟩⟩⟩
theorem Grid.pick (g:Grid n h0 h p R rs){i:Nat}(hi:i<n): ∃a r,atI (rs.map D.lst) (i:Int)=some (.lst a)/\a∈rs/\h a=some (r.map D.int)/\yy n r/\h0 a=none/\a≠p:=by
 have hi':i<rs.length:=by rw [g.len];exact hi
 have hm:=R6 hi';obtain⟨f,r,e,gr⟩:=g.row _ hm;exact⟨rs[i],r,zX (by rw [G6,G3 hi'];rfl),hm,e,gr,f,λz=>g.np (z ▸ hm)⟩
theorem Grid.set (g:Grid n h0 h p R rs){a:Addr}{r:List Int}(ha:a∈rs)(e:h a=some (r.map D.int))(gr:yy n r){j:Nat}{v:Int}(v0:0<=v)(v1:v<=1000000):Grid n h0 (zY h a ((r.map D.int).set j (.int v))) p R rs:=by
 refine⟨jh (λz=>g.nR (z ▸ ha)) g.at_,g.len,g.nR,g.fR,g.np,g.nRp,λb hb=>⟨(g.row b hb).1,?_⟩⟩
 by_cases z:b=a
 ·subst z;refine⟨r.set j v,by rw [jb,List.map_set],by rw [List.length_set];exact gr.1,λx hx=> ?_⟩;rcases List.mem_or_eq_of_mem_set hx with y|y
  ·exact gr.2 x y
  ·subst y;exact⟨v0,v1⟩
 ·obtain⟨r',e',gr'⟩:=(g.row b hb).2;exact⟨r',jh z e',gr'⟩
theorem Grid.tab (g:Grid n h0 h p R rs): ∃T,GoodTab n T/\(rs.map λa=>D.tup ((h a).getD []))=T.map zK:=by
 have key: ∀l:List Addr,(∀a∈l,∃r,h a=some (r.map D.int)/\yy n r)-> ∃T:List (List Int),T.length=l.length/\(∀r∈T,yy n r)/\(l.map λa=>D.tup ((h a).getD []))=T.map zK:=by
  intro l
  induction l with
  |nil=>intro _;exact⟨[],rfl,by simp,rfl⟩
  |cons a l ih=>
   intro hl;obtain⟨T,a1,a2,a3⟩:=ih λb hb=>hl b (P0 _ hb)
   obtain⟨r,e,gr⟩:=hl a P3;refine⟨r::T,by simp [a1],λx hx=> ?_,?_⟩
   ·rcases G4.mp hx with z|z
    ·subst z;exact gr
    ·exact a2 x z
   ·rw [R0,R0,a3,e];rfl
 obtain⟨T,a1,a2,a3⟩:=key rs λa ha=>(g.row a ha).2
 exact⟨T,⟨by rw [a1,g.len],a2⟩,a3⟩
end
theorem Ci {i:Nat}{js:List Nat}{ti:TID}{te:TED}{σ:SD}{h h1:HD}{Q:KD}(ds:List D)(W:Nat->List D->HD->Prop)(hn:ds.length<=1000)(ht: ∀R:ItD->HD->Prop,R (λ_=>some ds) h1->ti σ h R)
 (w0:W 0 [] h1)(wl: ∀k ys h',W k ys h'->ys.length<=k)(turn: ∀k ys h' d,ds[k]? =some d->W k ys h'->te ((wN js σ).set i (some d)) h' λy h4=> ∃h5,Sub h5 h4/\(k+1<=ds.length/\W (k+1) (ys++ [y]) h5))
 (done: ∀ys h',W ds.length ys h'-> ∀p,h' p=none->Q (.lst p) (zY h' p ys)):Ye (bN i) js ti WI te σ h Q:=by
 refine ht _ ⟨ds.length,λk ys h'=>k<=ds.length/\W k ys h',⟨B7 _,w0⟩,?_⟩;rintro k ys h' ⟨hk,w⟩;refine⟨D7 (wl k ys h' w) (T5 (zr (by omega))),ds,rfl,G5 _,λhl p hp=> ?_,λd hd=>⟨_,rfl,?_⟩⟩
 ·have:k=ds.length:=by omega
  subst this;exact done _ _ w p hp
 ·unfold WI;dsimp only;rw [if_pos rfl];exact turn k ys h' d hd w
theorem Cj {o:List Nat}(ho:Ordr n o){i:Nat}(hi:i<n): ∃k,k<n/\atI (o.map λ(k:Nat)=>D.int (k:Int)) (i:Int)=some (.int (k:Int)):=by
 have hi':i<o.length:=by rw [ho.ord.len];exact hi
 refine⟨o[i],D3.mp (ho.mem_iff.mp (R6 hi')),zX (by rw [G6,G3 hi'];rfl)⟩
theorem Xu {i:Nat}(h:i<n):ixN n (i:Int)=some i:=by
 unfold ixN;simp;omega
theorem YN {e:Nat}{T:List (List Int)}(h:Sq n e T)(i:Nat):jw n (vD n (jS n T i) (jw n T))=jS n T (i+1):=by
 show _=jw n (vD n (jS n T i) T);rw [ZR (zL n T i) (Sq.mark (n:=n) T),ZR (zL n T i) h,Uh]
theorem call_divmodB:CallR X (.builtin "divmod") (λxs H Q=> ∃i j,xs= [.int i,.int j]/\(0<j/\j<2^200)/\ ∀p,H p=none->Q (.ref p) (upd H p (.tup [.int (i / j),.int (i%j)]))):=by
 intro pins s σ H xs us Q I r h;obtain⟨i,j,rfl,⟨h1,h2⟩,q⟩:=h;obtain⟨u,w',rfl,⟨t,rfl⟩,⟨t',rfl⟩⟩:=RN r;refine divmod_int (by omega) ?_ (.inl (PyProof.noPylong_of_log2 ?_))
 ·rw [Q7 i (by omega),Q8 i (by omega)];have hn:H s.heap.objs.size=none:=I.hok.fresh (G5 _);refine⟨.ref s.heap.objs.size,_,?_,rfl,q _ hn⟩;refine I.laid (λb o e=>G1 _ e) (G5 _) ⟨by simp only [P8,S4];rw [sizeLine_eq];decide,[.int (i / j) s.toks,.int (i%j) (s.toks+1)],.cons ⟨_,rfl⟩ (.cons ⟨_,rfl⟩ .nil),?_⟩;exact⟨_,D1 s.heap rfl,rfl,rfl,0,rfl⟩
 ·have h3:j.natAbs<2^200:=yY (by omega) h2;have h4:=(J1 (by omega:j.natAbs≠0)).mpr h3;omega
def Ck:RDn:=λds h Q=> ∃i j:Int,ds= [.int i,.int j]/\(0<j/\j<2^200)/\Q (.tup [.int (i / j),.int (i%j)]) h
theorem Gw:vU X (.builtin "divmod") Ck:=call_divmodB.imp λxs H Q ⟨ds,h,Qd,r,rh,⟨i,j,e,c,q⟩,p⟩=>by
 subst e;obtain⟨v,w,e,r1,r2⟩:=yk r;cases (show v= .int i from r1);cases (show w= .int j from r2);exact⟨i,j,e,c,λa ha=>p (.tup [.int (i / j),.int (i%j)]) _ _ _ (.new ha) (rh.new ha) ⟨a,_,rfl,jy,.cons rfl (.cons rfl .nil)⟩ q⟩
theorem Xv {A B:List (List Int)}{h:HD}{Q:KD}(q:Q (.bl (decide (A=B))) h):eqE (jr A) (jr B) h Q:=
 ⟨_,_,yZ _ _,yZ _ _,vF _,vF _,by rw [show PyData.eqv (Zq A) (Zq B)=decide (A=B) from zk A B];exact q⟩
def VB (x:Str)(i:Int):PyData:= .dict [(.str x,.int i)]
theorem DA {pins:List (Addr×Obj)}{σ:St}{H:Hp}{s:Shared}{x:Str}{i:Int}{v:V}{u:Value}(I:Inv X pins σ H s)(r:RelD X.K H (.dic x i) v)(ru:RelV v u): ∃a,Reads s.heap u (VB x i) [a]/\a≠sysModules:=by
 obtain⟨a,e,hH⟩:=(show ∃a,v= .ref a/\H a=some (.dK [(Sum.inr x,V.int i)]) from r);subst e;cases (show u= .ref a from ru);obtain⟨-,hy,vs,kv,o,es,ep,hg,ex,hd,-,pr,-⟩:=(show ObjOk X.prog X.w H s.heap a (.dK [(Sum.inr x,V.int i)]) from I.hok a _ hH);cases kv with
 |cons q t=>
  cases t;generalize hes:es.toList=es' at pr;cases pr with
  |cons k1 k2 k3=>
   cases k3;rename_i b e;obtain⟨q1,q2⟩:=q;obtain⟨t,ht⟩:=(show ∃t,b.2=Value.int i t from q2);have k1':Xb (Sum.inr x) e.key=true:=by
    rw [show (Sum.inr x:Key)=b.1 from q1];exact k1
   rcases jT k1' with ⟨_,_,z,_⟩|⟨y,t2,z,hk⟩
   ·cases z
   ·cases z;refine⟨a,?_,F9.mp hy⟩;refine Reads.dict (as:= []) (bs:= []) hg ex.1 hd ?_ ?_
    ·rw [hes];show ReadsAll s.heap [e.key] [.str x] [];rw [hk];exact .cons (.str x t2) .nil
    ·rw [hes];show ReadsAll s.heap [e.val] [.int i] [];rw [k2,ht];exact .cons (.int i t) .nil
def LY:RDn:=λds h Q=>LU ds h Q\/ ∃a d x i p,ds= [.lst a]/\h a=some [d,.dic x i]/\ToP h d p/\ShowOk (.list [p,VB x i])/\Q (.str (PyData.list [p,VB x i]).shown) h
theorem QJ {k:Nat}(hr:Room k X.A):vU X (.builtin "repr") LY:=by
 intro pins s σ H xs us Q I r h;obtain⟨ds,h,Qd,rs,rh,q,post⟩:=h;rcases q with q|⟨a,d,x,i,p,e,ha,t,so,q⟩
 ·exact MB hr pins s σ H xs us Q I r ⟨ds,h,Qd,rs,rh,q,post⟩
 subst e;obtain⟨v,e,r1⟩:=jJ rs;subst e;obtain⟨u,rfl,ru⟩:=ZB r;obtain⟨vs,hH,rd⟩:=rh a _ ha;have e:v= .ref a:=r1.1;subst e;cases (show u= .ref a from ru);obtain⟨its,rv,pl,_⟩:=I.list (SqL.of hH);obtain⟨o,ho,hc,n,hd⟩:=pl.isList;obtain⟨v1,vr,e,rd1,rd'⟩:=(show ∃v r,vs=v::r/\RelD X.K H d v/\RelDs X.K H [.dic x i] r from rd);subst e;obtain⟨v2,e,rd2⟩:=jJ rd';subst e;cases rv with
 |cons ru1 rt=>
  cases rt with
  |cons ru2 rt2=>
   cases rt2;rename_i u1 u2;obtain⟨as1,q1⟩:=zx I rh t rd1 ru1;obtain⟨a2,q2,n2⟩:=DA I rd2 ru2;have hall:ReadsAll s.heap [u1,u2] [p,VB x i] (as1++([a2]++ [])):= .cons q1 (.cons q2 .nil);have hs:=so.sh;have hz':(listText (PyData.shownAll [p,VB x i])).length<=sizeLine:=by simpa only [PyData.shown] using so.ln
   have hsa:PyData.showableAll [p,VB x i]=true:=by simpa [PyData.showable] using hs
   have hs1:PyData.showableAll [p]=true/\PyData.showableAll [VB x i]=true:=by
    simp only [PyData.showableAll,W1,R4] at hsa ⊢;exact hsa
   obtain⟨b1,hb1,k1⟩:=ReprAllK.of_readsAll (prog:=X.prog) (w:=X.w) (.cons q1 .nil) hs1.1 (λhx=>by simp [PyData.hasDictAll,JU t] at hx) (λt ht=>D7 (listText_mem_le (ts:=PyData.shownAll [p,VB x i]) (by simp only [PyData.shownAll,G8] at ht ⊢;rw [ht];exact P3)) hz');obtain⟨b2,hb2,k2⟩:=ReprAllK.of_readsAll (prog:=X.prog) (w:=X.w) (.cons q2 .nil) hs1.2 (λ_ hm=>by simp at hm;exact n2 hm.symm) (λt ht=>D7 (listText_mem_le (ts:=PyData.shownAll [p,VB x i]) (by simp only [PyData.shownAll,G8] at ht ⊢;rw [ht];exact P0 _ P3)) hz');have d1:PyData.depthAll [p]<=PyData.depthAll [p,VB x i]:=by simp only [PyData.depthAll];omega
   have d2:PyData.depthAll [VB x i]<=PyData.depthAll [p,VB x i]:=by simp only [PyData.depthAll];omega
   have hb:ReadAtMost s.heap (PyData.depthAll [p,VB x i]) (b1++b2):=(hb1.mono d1).append (hb2.mono d2);have hk:ReprAllK X.prog X.w (b1++b2) s.heap (PyData.depthAll [p,VB x i]) [u1,u2] (PyData.shownAll [p,VB x i]):=by
    cases k1.more_le (λb hb=>M1 b2 hb) d1 with
    |cons a1 _=>
     cases k2.more_le (λb hb=>D0 b1 hb) d2 with
     |cons a2 _=>exact .cons a1 (.cons a2 .nil)
   have hna:a ∉ b1++b2:=not_mem_of_deeper (.list ho hc hd hall) (by simp only [PyData.depth];omega) hb;have hdp:=so.dp;have hun:=hr.units;simp only [PyData.depth] at hdp;refine call_repr_slot (by omega) ⟨o,ho,hc⟩ F.slot_list_repr.toG ?_;exact call_list_reprK ho hc hd hna (by simpa using hk.length_eq) (λi y e=>hk.item i y (by simpa using e)) hr.gd (λb _=>Clear.nil b) (by show X.A.units+1+_<cLine;omega) (λ_ _ e=>e)
    (λh' u' tk hk=>⟨_,_,rfl,⟨.str (PyData.list [p,VB x i]).shown,H,I.kept hk,⟨u',by simp only [PyData.shown]⟩,post (.str _) _ _ _ (.refl H) rh rfl q⟩⟩) hz'
end L2
set_option maxRecDepth 35000
namespace L2
open PySem PySem.Spec PyProof.Rows PySem.SeqAt
def Sm (k b:Nat)(d:D):Prop:= ∃p:PyData,(∀h,ToP h d p)/\ShowB p k b/\p.canLay0=true
theorem Sm.mono {k b k' b':Nat}{d:D}(h:Sm k b d)(hk:k<=k')(hb:b<=b'):Sm k' b' d:=let ⟨p,t,s,c⟩:=h;⟨p,t,s.mono hk hb,c⟩
theorem LZ:Sm 0 200 .non:=⟨.none,λ_=>rfl,⟨rfl,by decide,by decide⟩,rfl⟩
theorem AI (b:Bool):Sm 0 200 (.bl b):=⟨.bool b,λ_=>rfl,by cases b<;>exact⟨rfl,by decide,by decide⟩,rfl⟩
theorem Nx {i:Int}(h:i.natAbs<2^100):Sm 0 200 (.int i):=by
 refine⟨.int i,λ_=>rfl,⟨?_,by simp [PyData.depth],?_⟩,rfl⟩
 ·have:i.natAbs.log2<1920:=by
   by_cases z:i.natAbs=0
   ·rw [z];decide
   ·exact(J1 z).mpr (D2 h (N7 (by decide) (by decide)))
  simpa [PyData.showable] using this
 ·show (Str.ofString (toString i)).length<=200;rw [J7];refine int_text_length_le (by decide) ?_
  by_cases z:i.natAbs=0
  ·rw [z];decide
  ·exact(J1 z).mpr (D2 h (N7 (by decide) (by decide)))
theorem sms {k b:Nat}: ∀ {ds:List D},(∀d∈ds,Sm k b d)-> ∃ps:List PyData,ps.length=ds.length/\(∀h,ToPs h ds ps)/\(∀p∈ps,ShowB p k b)/\PyData.canLayAll0 ps=true
 | [],_=>⟨[],rfl,λ_=>rfl,by simp,rfl⟩
 |d::ds,h=>by
  obtain⟨p,t,s,c⟩:=h d P3;obtain⟨ps,l,ts,ss,cs⟩:=sms λx hx=>h x (P0 _ hx)
  refine⟨p::ps,by simp [l],λh=>⟨d,ds,rfl,t h,ts h⟩,λq hq=> ?_,by simp [PyData.canLayAll0,c,cs]⟩;rcases G4.mp hq with e|e
  ·rw [e];exact s
  ·exact ss q e
theorem Sm.tup {k b m:Nat}{ds:List D}(h: ∀d∈ds,Sm k b d)(hm:ds.length<=m):Sm (k+1) ((b+2)*m+3) (.tup ds):=by
 obtain⟨ps,l,ts,ss,cs⟩:=sms h;refine⟨.tuple ps,λh=>⟨ds,rfl,ts h⟩,(ShowB.tup ss).mono (G5 _) ?_,by simpa only [PyData.canLay0] using cs⟩;have:=L1 (b+2) (show ps.length<=m by omega);omega
def Th (h:HD)(d:D):Prop:=Sm 2 5000000 d\/(∃a ds,d= .lst a/\h a=some ds/\ds.length<=155/\ ∀x∈ds,Sm 1 35000 x)\/d= .dic (Str.ofString "a") 1
theorem DB:ShowB (VB (Str.ofString "a") 1) 50 200:=⟨by decide +kernel,by decide +kernel,by decide +kernel⟩
theorem Oa {x:Str}(h:x=Str.ofString "1" \/x=Str.ofString "" \/x=Str.ofString "0"):Sm 0 200 (.str x):=by
 rcases h with e|e|e<;>subst e<;>exact⟨.str _,λ_=>rfl,⟨by decide +kernel,by decide +kernel,by decide +kernel⟩,by decide +kernel⟩
def bnd:Nat->Nat
 |0=>200
 |k+1=>(bnd k+2)*155+3
theorem Ny: ∀k,200<=bnd k
 |0=>G5 _
 |k+1=>by have:=Ny k;show 200<=(bnd k+2)*155+3;omega
mutual
def smB:Nat->D->Bool
 |_,.non=>true
 |_,.bl _=>true
 |_,.int i=>decide (i.natAbs<2^100)
 |_,.str x=>decide (x=Str.ofString "1")||decide (x=Str.ofString "")||decide (x=Str.ofString "0")
 |k+1,.tup ds=>decide (ds.length<=155)&&smBs k ds
 |_,_=>false
def smBs:Nat->List D->Bool
 |_,[]=>true
 |k,d::ds=>smB k d&&smBs k ds
end
theorem QK {k:Nat}: ∀ {ds:List D},smBs k ds=true-> ∀d∈ds,smB k d=true
 |d::ds,h,x,hx=>by
  have h':(smB k d&&smBs k ds)=true:=h;rw [R4] at h';rcases G4.mp hx with e|e
  ·rw [e];exact h'.1
  ·exact QK h'.2 x e
def SmK (k:Nat)(d:D):Prop:=Sm k (bnd k) d
theorem SmK.up {k:Nat}{d:D}(h:SmK k d):SmK (k+1) d:=Sm.mono h (by omega) (by show bnd k<=(bnd k+2)*155+3;omega)
theorem SmK.of0 {d:D}(h:Sm 0 200 d)(k:Nat):SmK k d:=Sm.mono h (by omega) (Ny k)
theorem SmK.tup {k:Nat}{ds:List D}(h: ∀d∈ds,SmK k d)(hm:ds.length<=155):SmK (k+1) (.tup ds):=Sm.tup h hm
theorem DD: ∀ (k:Nat) (d:D),smB k d=true->SmK k d
 |k,.non,_=>SmK.of0 LZ k
 |k,.bl b,_=>SmK.of0 (AI b) k
 |k,.int i,h=>SmK.of0 (Nx (by cases k<;>exact O7 h)) k
 |k,.str x,h=>SmK.of0 (Oa (by
  have h':(decide (x=Str.ofString "1")||decide (x=Str.ofString "")||decide (x=Str.ofString "0"))=true:=by cases k<;>exact h
  simp only [Q1,F7] at h';rcases h' with (a|b)|c
  ·exact .inl a
  ·exact .inr (.inl b)
  ·exact .inr (.inr c))) k
 |0,.tup ds,h=>by cases h
 |k+1,.tup ds,h=>by
  have h':(decide (ds.length<=155)&&smBs k ds)=true:=h;rw [R4,F7] at h';exact SmK.tup (λd hd=>DD k d (QK h'.2 d hd)) h'.1
 |0,.lst _,h=>by cases h
 |_+1,.lst _,h=>by cases h
 |0,.dic _ _,h=>by cases h
 |_+1,.dic _ _,h=>by cases h
 |0,.dct _,h=>by cases h
 |_+1,.dct _,h=>by cases h
 |0,.scr _,h=>by cases h
 |_+1,.scr _,h=>by cases h
theorem SmK.th {h:HD}{d:D}(s:SmK 2 d):Th h d:= .inl (Sm.mono s (G5 _) (by decide))
theorem Th.lst {h:HD}{a:Addr}{ds:List D}(ha:h a=some ds)(hl:ds.length<=155)(hs: ∀x∈ds,SmK 1 x):Th h (.lst a):= .inr (.inl ⟨a,ds,rfl,ha,hl,λx hx=>Sm.mono (hs x hx) (G5 _) (by decide)⟩)
structure SmN (n:Nat)(ds:List D):Prop where
 len:ds.length<=n
 sm: ∀d∈ds,SmK 1 d
theorem SmN.app {m n:Nat}{a b:List D}(x:SmN m a)(y:SmN n b):SmN (m+n) (a++b):=⟨by rw [P7];have:=x.len;have:=y.len;omega,λd hd=>(D4.mp hd).elim (x.sm d) (y.sm d)⟩
theorem SmN.cut {n:Nat}{a:List D}(x:SmN n a)(lo hi:Option Int):SmN n (vB a lo hi):=⟨by have:=x.len;unfold vB;rw [List.length_take,List.length_drop];omega,λd hd=>x.sm d (List.mem_of_mem_drop (List.mem_of_mem_take hd))⟩
theorem SmN.one {d:D}(h:SmK 1 d):SmN 1 [d]:=⟨G5 _,λx hx=>by rw [G8.mp hx];exact h⟩
theorem SmN.rev {n:Nat}{a:List D}(x:SmN n a):SmN n a.reverse:=⟨by rw [L0];exact x.len,λd hd=>x.sm d (List.mem_reverse.mp hd)⟩
theorem SmN.th {n:Nat}{a:List D}{h:HD}(x:SmN n a)(hn:n<=155:=by decide):Th h (.tup a):=(SmK.tup x.sm (D7 x.len hn)).th
theorem SmN.ord {W:List Nat}{n m:Nat}(hW: ∀i∈W,i<n)(hn:n<=100)(hl:W.length<=m):SmN m (W.map λ(k:Nat)=>D.int (k:Int)):=⟨by rw [G0];exact hl,λd hd=>by
 obtain⟨i,hi,rfl⟩:=D6.mp hd;have:=hW i hi;exact SmK.of0 (Nx (D2 (show ((i:Nat):Int).natAbs<100 by rw [Int.natAbs_natCast];omega) (by decide))) 1⟩
theorem wJ {h:HD}{p a:Addr}{ds:List D}(n:a≠p)(e:h a=some ds):zd h p a=some ds:=(if_neg n).trans e
theorem zi {h h':HD}{p:Addr}(b:But p h h'):Sub (zd h p) (zd h' p):=⟨λa ds e=>(by
 have e:(if a=p then none else h a)=some ds:=e;show (if a=p then none else h' a)=some ds
 by_cases z:a=p
 ·rw [if_pos z] at e;cases e
 ·rw [if_neg z] at e ⊢;exact b a ds z e),b.dc⟩
theorem ME {h:HD}{p:Addr}:Sub (zd h p) h:= .drop h p
def AJ (T:List (List Int))(n p:Nat):List Nat:=(List.range n).filter λj=>decide (ent T p j>0)
def cnt (T:List (List Int))(n o:Nat):Nat->Nat->Int
 |0,p=>if p=o then 1 else 0
 |t+1,p=>((AJ T n p).map (cnt T n o t)).sum
section
variable {T:List (List Int)}{n o:Nat}
def So (T:List (List Int))(n o t p:Nat):Nat:=(AJ T n p).findIdx λj=>decide (cnt T n o t j>0)
def nxt (T:List (List Int))(n o t p:Nat):Nat:=(AJ T n p).getD (So T n o t p) 0
end
theorem QL {α:Type}{xs:List α}{x:α}(h1:1<=xs.length)(h:xs[xs.length-1]? =some x):atI xs (-1)=some x:=by
 unfold atI ixN;rw [if_neg (by decide),if_pos (by omega)];show xs[(-1+(xs.length:Int)).toNat]? =_;rw [show (-1+(xs.length:Int)).toNat=xs.length-1 by omega];exact h
end L2
namespace L2
open PySem PySem.Spec PyProof.Rows PySem.W
abbrev TXD:=SD->HD->(Str->HD->Prop)->Prop
abbrev RDx:=List D->HD->(Str->HD->Prop)->Prop
end L2
namespace L2
open PySem PySem.Spec PyProof.Rows PySem.SeqAt
section
variable {n e:Nat}{T:List (List Int)}
instance (k i j:Nat):Decidable (RP n T k i j):=inferInstanceAs (Decidable (ent (wY n T k) i j≠0))
end
def gT3 (i j k:Nat):TGD:=λd σ h Q=> ∃x y z,d= .tup [x,y,z]/\Q (((σ.set i (some x)).set j (some y)).set k (some z)) h
theorem AK {K:PySem.W.Frag}(i j k:Nat): ∀v σ H Q,LG K (gT3 i j k) v σ H Q->Ot K 3 (VF (vR i) (VF (vR j) (VF (vR k) Os))) v σ H Q:=λv σ H Q ⟨d,σd,h,Qd,r,rs,rh,⟨x,y,z,e,q⟩,p⟩=>by
 subst e;obtain⟨a,vs,e,hH,rr⟩:=(show ∃a vs,v= .ref a/\H a=some (.tup vs)/\RelDs K H [x,y,z] vs from r);subst e;obtain⟨v1,vr,e1,r1,rr⟩:=(show ∃v r,vs=v::r/\RelD K H x v/\RelDs K H [y,z] r from rr);obtain⟨v2,v3,e2,r2,r3⟩:=yk rr;subst e1 e2;exact⟨a,[v1,v2,v3],rfl,SqT.of hH,rfl,v1,[v2,v3],rfl,v2,[v3],rfl,v3,[],rfl,rfl,p _ _ _ _ (.refl H) (((rs.set r1 i).set r2 j).set r3 k) rh q⟩
section
variable {X:Cx}{pos:Pos}
theorem Cl {i j l:Nat}{x y z:Str}{p1 p2 p3:Pos}{k:Nat}(hc:X.calm=true)(hN:X.N.Nodup)(hi:X.N[i]? =some x)(hj:X.N[j]? =some y)(hl:X.N[l]? =some z)(hx:Loc X.env.scope x)(hy:Loc X.env.scope y)(hz:Loc X.env.scope z)
 (hf:X.fn x=true\/X.env.scope.names.lookup x=some .local:=by first|exact .inl rfl|exact .inr rfl|assumption)(hf2:X.fn y=true\/X.env.scope.names.lookup y=some .local:=by first|exact .inl rfl|exact .inr rfl|assumption)(hf3:X.fn z=true\/X.env.scope.names.lookup z=some .local:=by first|exact .inl rfl|exact .inr rfl|assumption):
 JG X (.Tuple [.Name x p1,.Name y p2,.Name z p3] k pos) (gT3 i j l):=⟨(Pc hc (yu (yt hN hi hx hf) (yu (yt hN hj hy hf2) (yu (yt hN hl hz hf3) Xe)))).imp (AK i j l)⟩
end
end L2
namespace HT
open PySem PySem.Spec PyProof.Rows
variable {j:Nat}
theorem YO {xs:Array Nat}(r:xs.toList.Pairwise (· < ·)): ∀ (fuel lo hi:Nat),hi-lo<=fuel->hi<=xs.size->lo<=hi->(∀i,i<lo-> ∀v,xs[i]? =some v->v<j)->(∀i,hi<=i-> ∀v,xs[i]? =some v->j<=v)->
 (∀i,i<SetTable.below.go xs j fuel lo hi-> ∀v,xs[i]? =some v->v<j)/\(∀i,SetTable.below.go xs j fuel lo hi<=i-> ∀v,xs[i]? =some v->j<=v)/\SetTable.below.go xs j fuel lo hi<=xs.size
 |0,lo,hi,f,hs,lh,a,b=>by
  have:lo=hi:=by omega
  subst this;exact⟨a,b,hs⟩
 |fuel+1,lo,hi,f,hs,lh,a,b=>by
  unfold SetTable.below.go
  by_cases c:lo<hi
  ·rw [if_pos c];have hm:(lo+hi) / 2<xs.size:=by omega
   have mono: ∀ (i k u v:Nat),i<=k->xs[i]? =some u->xs[k]? =some v->u<=v:=λi k u v ik e1 e2=>by
    rcases F2 i k with z|z
    ·have i1:=(R7.mp e1);have i2:=(R7.mp e2);obtain⟨h1,e1'⟩:=i1;obtain⟨h2,e2'⟩:=i2;have:=S6.mp r i k (by simpa using h1) (by simpa using h2) z;simp only [K3] at this;omega
    ·have:i=k:=by omega
     subst this;rw [e1] at e2;cases e2;exact G5 _
   have em:xs.getD ((lo+hi) / 2) j=xs[(lo+hi) / 2]:=by simp [Array.getD,hm]
   dsimp only
   by_cases d:xs.getD ((lo+hi) / 2) j<j
   ·rw [if_pos d];refine YO r fuel _ hi (by omega) hs (by omega) (λi hi' v hv=> ?_) b;have:=mono i ((lo+hi) / 2) v xs[(lo+hi) / 2] (by omega) hv (by simp [hm]);omega
   ·rw [if_neg d];refine YO r fuel lo _ (by omega) (by omega) (by omega) a (λi hi' v hv=> ?_);have:=mono ((lo+hi) / 2) i xs[(lo+hi) / 2] v hi' (by simp [hm]) hv;omega
  ·rw [if_neg c];have:lo=hi:=by omega
   subst this;exact⟨a,b,hs⟩
theorem YQ {xs:Array Nat}(r:xs.toList.Pairwise (· < ·))(j:Nat):(∀i,i<SetTable.below xs j-> ∀v,xs[i]? =some v->v<j)/\(∀i,SetTable.below xs j<=i-> ∀v,xs[i]? =some v->j<=v)/\SetTable.below xs j<=xs.size:=
 YO r xs.size 0 xs.size (by omega) (G5 _) (B7 _) (λi h=>absurd h (O4 _)) (λi h v e=>by rw [W6 h] at e;cases e)
theorem Xw {xs:Array Nat}(r:xs.toList.Pairwise (· < ·))(no:xs[SetTable.below xs j]? ≠some j):(SetTable.insertAt xs (SetTable.below xs j) j).toList.Pairwise (· < ·):=by
 obtain⟨a,b,hs⟩:=YQ r j;rw [A9,List.pairwise_append,List.pairwise_cons];have low: ∀v∈xs.toList.take (SetTable.below xs j),v<j:=λv hv=>by
  obtain⟨i,hi⟩:=A0 hv;rw [U3] at hi;split at hi
  ·rename_i c;exact a i c v (by simpa using hi)
  ·cases hi
 have high: ∀v∈xs.toList.drop (SetTable.below xs j),j<v:=λv hv=>by
  obtain⟨i,hi⟩:=A0 hv;rw [U5] at hi;have hi':xs[SetTable.below xs j+i]? =some v:=by simpa using hi
  have le:=b _ (Nat.le_add_right _ _) v hi';rcases F2 j v with z|z
  ·exact z
  ·have ev:v=j:=by omega
   subst ev;cases i with
   |zero=>exact(no hi').elim
   |succ i=>
    obtain⟨h1,e1⟩:=R7.mp hi';have h0:SetTable.below xs v<xs.size:=by omega
    have le0:=b _ (G5 _) xs[SetTable.below xs v] (by simp [h0]);have lt:=S6.mp r (SetTable.below xs v) (SetTable.below xs v+(i+1)) (by simpa using h0) (by simpa using h1) (by omega);simp only [K3] at lt;omega
 exact⟨r.sublist (List.take_sublist _ _),⟨high,r.sublist (List.drop_sublist _ _)⟩,λu hu v hv=>by
  rcases G4.mp hv with e|e
  ·rw [e];exact low u hu
  ·exact L8 (low u hu) (high v e)⟩
structure Tab (L:Bool)(n:Nat)(t:SetTable):Prop where
 fits:t.fits n=true
 led:t.led=L
 dum:t.dummies= #[]
 rise:t.plain=true\/n<=1->t.place.toList.Pairwise (· < ·)
theorem Gx {t:SetTable}(h:t.slot j= .empty):t.place[SetTable.below t.place j]? ≠some j:=λe=>by
 unfold SetTable.slot at h;dsimp only at h;rw [if_pos (by rw [e];exact C9 _)] at h;cases h
theorem Yj {t:SetTable}(d:t.dummies= #[]):t.slot j≠ .dummy:=λh=>by
 unfold SetTable.slot at h;dsimp only at h;split at h
 ·cases h
 ·rw [d] at h;have:SetTable.has #[] j=false:=by unfold SetTable.has;simp
  rw [this] at h;cases h
theorem YR (f:Nat->Option Nat): ∀l:List Nat,((l.filterMap λj=>(f j).map (j,·)).map (·.1)).Sublist l
 | []=> .slnil
 |j::l=>by
  rw [Y5];cases e:(f j).map (j,·) with
  |none=>exact(YR f l).cons _
  |some q=>
   obtain⟨v,_,rfl⟩:=E7.mp e;exact(YR f l).cons₂ _
abbrev Wl (es:Array (Int×Value))(ep:Nat)(t:SetTable):Obj:= {cls:= .type "set",dict:=none,data:= .set es ep t,slots:= #[]}
def EA (e:Int×Value):Int:=match e.2 with
 | .int n _=>n
 |_=>0
structure SetI (L:Bool)(es:Array (Int×Value))(t:SetTable)(ns:List Int):Prop where
 tab:Tab L es.size t
 nums: ∀e∈es.toList,∃n tk,e=(hashInt n,.int n tk)
 nd:(es.toList.map EA).Nodup
 mem: ∀n,n∈es.toList.map EA↔n∈ns
theorem Wm:plainId "set.update.loop" =true:=by decide +kernel
theorem Uo:entryFor table "set.update.loop" =some Builtin.«set.update.loop» :=entryFor_of_fast (by kernel_rfl)
theorem WJ:entryFor table "set.__init__" =some Builtin.«set.__init__» :=entryFor_of_fast (by kernel_rfl)
abbrev Wn (w:World):Bool:= !(w.params.followText "set-order")
theorem MF (L:Bool):SetI L #[] (.fresh 0 0 L) []:=⟨⟨rfl,rfl,rfl,λ_=> .nil⟩,λe he=>by simp at he,by simp,λn=>by simp⟩
theorem Wo:isSubtype (.type "set") (.type "set")=pure true:=by rw [J3];kernel_rfl
theorem Up:isSubtype (.type "list") (.type "set")=pure false:=by rw [J3];kernel_rfl
theorem Uq:isSubtype (.type "list") (.type "frozenset")=pure false:=by rw [J3];kernel_rfl
theorem Xx:isSubtype (.type "tuple") (.type "set")=pure false:=by rw [J3];kernel_rfl
theorem Xy:isSubtype (.type "tuple") (.type "frozenset")=pure false:=by rw [J3];kernel_rfl
section
variable {prog:Program}{w:World}{A:Around}{E:Value->Shared->Prop}{s:Shared}
theorem MG {x:Value}{P:PySem.Fin->Shared->Prop}(h:P (.done (.ret (.ref s.heap.objs.size))) {s with heap:=s.heap.push (Wl #[] 0 (.fresh 0 0 (Wn w)))}):
 wpAny (model prog w) A (Builtin.«set.__new__» ⟨[.type "set",x],[]⟩) P E s:=by
 have fine:=Wo;obtain⟨hp,g,d,tk,os⟩:=s;have told: ∀ {Q:Setting->Shared->Prop} {E':Value->Shared->Prop} {A':Around} {s':Shared},Q ⟨prog,w.params⟩ s'->wpAny (model prog w) A' ask Q E' s':=λq=>wpAny_askSetting q
 wp_walk using told
 exact h
theorem YS {M:Model}{o x:Value}{Q:Unit->Shared->Prop}(ty:s.TypeIs o "set")(q:Q () s):wpAny M A (checkBuiltinCall "set.__init__" ⟨[o,x],[]⟩) Q E s:=by
 have fine:=Wo;unfold checkBuiltinCall;rw [kind_set_init,split_set_init,sig_set_init]
 wp_walk using PyProof.Rows.printed_name (n:= "set") (by decide),PyProof.Rows.printed_star (self:=o) rfl ty
 exact q
end
end HT
namespace L2
inductive Made (L:List Nat):Nat->Prop
 |z:Made L 0
 |s {n l:Nat}:Made L n->l∈L->Made L (n+l)
end L2
namespace L2
open PySem PySem.Spec PyProof.Rows PySem.SeqAt
theorem Sr {α:Type}(xs:List α)(a:Nat)(h:a<=xs.length):vB xs (some (a:Int)) none=xs.drop a:=by
 have e: ¬((a:Int)<0):=by omega
 unfold vB HT.sIx;simp [e,X1 h];exact B0 (by simp)
theorem Sub.over {h h':HD}{a:Addr}{ds:List D}(sb:Sub h h')(e:h a=none):Sub h (zY h' a ds):=⟨λb xs k=>jh (λz=>by subst z;rw [e] at k;cases k) (sb b xs k),sb.dc⟩
end L2
namespace L2
open PySem PySem.Spec PyProof.Rows PySem.SeqAt HT
open Classical in
noncomputable def readOf (h:Heap)(v:Value):PyData:=if e: ∃p as,p.canLay0=true/\Reads h v p as then e.choose else .none
end L2
namespace L2
open PySem PySem.Spec PyProof.Rows
def s5:Nat->Nat
 |0=>0
 |d+1=>5*s5 d+1
theorem DE: ∀d,4*s5 d+1=5^d
 |0=>rfl
 |d+1=>by have:=DE d;rw [N2];show 4*(5*s5 d+1)+1=_;omega
theorem Nz (a:Nat): ∀b,s5 (a+b)=5^b*s5 a+s5 b
 |0=>by show s5 a=1*s5 a+0;omega
 |b+1=>by
  show 5*s5 (a+b)+1=5^(b+1)*s5 a+(5*s5 b+1);rw [Nz a b,N2,Y8,J5 (5^b) 5,Z2];omega
theorem NA: ∀d,s5 d%2=d%2
 |0=>rfl
 |d+1=>by have:=NA d;show (5*s5 d+1)%2=_;omega
theorem Ob (m:Nat):s5 (2*m)=2*(s5 m*(2*s5 m+1)):=by
 rw [Nat.two_mul,Nz,<-DE m];have:(4*s5 m+1)*s5 m+s5 m=2*(s5 m*(2*s5 m+1)):=by
  rw [W0,Y8,Y8];have e1:4*s5 m*s5 m=4*(s5 m*s5 m):=Z2 ..;have e2:s5 m*(2*s5 m)=2*(s5 m*s5 m):=by rw [Nat.mul_left_comm]
  rw [e1,e2];omega
 exact this
theorem NB (k x:Nat):Nat.Coprime (2^k) (2*x+1):=by
 refine Nat.Coprime.pow_left k ?_;show Nat.gcd 2 (2*x+1)=1;rw [Nat.gcd_rec,show (2*x+1)%2=1 by omega];rfl
theorem NC: ∀ (k d:Nat),2^k∣s5 d->2^k∣d
 |0,d,_=>by rw [J8];exact Nat.one_dvd _
 |k+1,d,h=>by
  have ev:d%2=0:=by
   rw [<-NA d];exact Nat.mod_eq_zero_of_dvd (Nat.dvd_trans ⟨2^k,by rw [N2,J5]⟩ h)
  obtain⟨m,rfl⟩: ∃m,d=2*m:=⟨d / 2,by omega⟩;rw [Ob,N2,J5] at h;have h1:2^k∣s5 m*(2*s5 m+1):=Nat.dvd_of_mul_dvd_mul_left (by decide) h;have h2:=NC k m ((NB k (s5 m)).dvd_of_dvd_mul_right h1);rw [N2,J5];exact Nat.mul_dvd_mul_left 2 h2
def f5 (N:Nat):Nat->Nat->Nat
 |0,a=>a
 |d+1,a=>(f5 N d a*5+1)%N
variable {N:Nat}
theorem Oc (a:Nat): ∀d,f5 N d a%N=(5^d*a+s5 d)%N
 |0=>by show a%N=(1*a+0)%N;rw [Nat.one_mul,X4]
 |d+1=>by
  show (f5 N d a*5+1)%N%N=(5^(d+1)*a+(5*s5 d+1))%N;rw [Nat.mod_mod,Nat.add_mod,Nat.mul_mod,Oc a d,<-Nat.mul_mod,<-Nat.add_mod,W0,N2]
  congr 1
  have:5^d*a*5=5^d*5*a:=by rw [Nat.mul_right_comm]
  omega
theorem Od (hN:0<N){a:Nat}(ha:a<N): ∀d,f5 N d a<N
 |0=>ha
 |d+1=>V5 _ hN
theorem ND (a:Nat)(b:Nat): ∀d,f5 N (b+d) a=f5 N d (f5 N b a)
 |0=>rfl
 |d+1=>by show (f5 N (b+d) a*5+1)%N=_;rw [ND a b d];rfl
variable {k:Nat}
theorem MH {a d:Nat}(ha:a<2^k)(d0:0<d)(hd:d<2^k):f5 (2^k) d a≠a:=λe=>by
 have e1:=Oc (N:=2^k) a d;rw [e] at e1;have le:a<=5^d*a+s5 d:=D7 (Nat.le_mul_of_pos_left a (Z8 (by decide))) (Nat.le_add_right _ _);have dv:2^k∣5^d*a+s5 d-a:=Nat.dvd_of_mod_eq_zero (Nat.sub_mod_eq_zero_of_mod_eq e1.symm);have e2:5^d*a+s5 d-a=s5 d*(2*(2*a)+1):=by
  rw [<-DE d,W0,Y8];have:4*s5 d*a=s5 d*(2*(2*a)):=by
   rw [J5 4,Z2];congr 1;omega
  omega
 rw [e2] at dv;have:=Nat.le_of_dvd d0 (NC k d ((NB k (2*a)).dvd_of_dvd_mul_right dv));omega
theorem Cm {a:Nat}(hN:N=2^k)(ha:a<N): ∀ {i j:Nat},i<j->j<N->f5 N i a≠f5 N j a:=λ{i j} ij jN e=>by
 subst hN;have:=ND (N:=2^k) a i (j-i);rw [C5 (T5 ij)] at this;exact MH (Od (Z8 (by decide)) ha i) (by omega) (by omega) ((this.symm.trans e.symm))
theorem Cn: ∀ {xs:List Nat},xs.Nodup->(∀x∈xs,x<N)->N<=xs.length-> ∀e,e<N->e∈xs:=λ{xs} nd lt le e he=>by
 have p:(List.range N).length<=(xs.filter λx=>decide (x<N)).length:=by
  rw [P4,List.filter_eq_self.mpr λx hx=>D5 (lt x hx)];exact le
 refine F4 λno=> ?_
 have key: ∀ (ys zs:List Nat),ys.Nodup->(∀y∈ys,y∈zs)->ys.length<=zs.length:=by
  intro ys
  induction ys with
  |nil=>intro zs _ _;exact B7 _
  |cons y ys ih=>
   intro zs d s;obtain⟨d1,d2⟩:=M5.mp d;have hy:=s y P3;have:=ih (zs.erase y) d2 λx hx=>(O9 (show x≠y from λq=>d1 (by rw [<-q];exact hx))).mpr (s x (P0 _ hx))
   rw [F8 hy] at this;have:0<zs.length:=L3 hy;rw [P8];omega
 have:=key (e::xs) (List.range N) (M5.mpr ⟨no,nd⟩) λy hy=>by
  rcases G4.mp hy with q|q
  ·rw [q];exact D3.mpr he
  ·exact D3.mpr (lt y q)
 rw [P8,P4] at this;omega
theorem NE {a e:Nat}(hN:N=2^k)(ha:a<N)(he:e<N): ∃m,m<N/\f5 N m a=e:=by
 have nd:((List.range N).map λm=>f5 N m a).Nodup:=by
  rw [List.Nodup,C0];refine S6.mpr λi j hi hj ij=> ?_
  rw [M2,M2];rw [P4] at hj;exact Cm hN ha ij hj
 have:=Cn nd (λx hx=>by
  obtain⟨m,_,rfl⟩:=D6.mp hx;exact Od (by rw [hN];exact Z8 (by decide)) ha m) (by rw [G0,P4];exact G5 _) e he
 obtain⟨m,hm,e⟩:=D6.mp this;exact⟨m,D3.mp hm,e⟩
def zC (t:SetTable):Nat->SetTable.Probe->SetTable.Probe
 |0,p=>p
 |n+1,p=>zC t n (t.advance p)
theorem Ju (t:SetTable): ∀ (a b:Nat) (p:SetTable.Probe),zC t (a+b) p=zC t b (zC t a p)
 |0,b,p=>by rw [J6];rfl
 |a+1,b,p=>by rw [Nat.add_right_comm];exact Ju t a b _
def Xz (t:SetTable)(i q:Nat)(d:Option Nat):SetTable.Probe:= {j:=i,more:=SetTable.runEnd t.mask i-i,i:=i,perturb:=q,dummy:=d}
theorem vZ (t:SetTable): ∀ (m:Nat) (p:SetTable.Probe),p.more=m->zC t (m+1) p=Xz t ((p.i*5+1+p.perturb / 32)%(t.mask+1)) (p.perturb / 32) p.dummy
 |0,p,e=>by
  show t.advance p=_;unfold SetTable.advance;rw [if_neg (by omega)];rfl
 |m+1,p,e=>by
  have a:t.advance p= {p with j:=p.j+1,more:=p.more-1}:=by unfold SetTable.advance;rw [if_pos (by omega)]
  show zC t (m+1) (t.advance p)=_;rw [a,vZ t m _ (by show p.more-1=m;omega)]
theorem DF (mask i:Nat):SetTable.runEnd mask i-i<=9:=by unfold SetTable.runEnd;split<;>omega
def VC (N:Nat)(b:Nat):Nat->Nat
 |0=>b%N
 |L+1=>(VC N b L*5+1+b / 32^(L+1))%N
theorem DG (t:SetTable)(h:Int): ∀L,∃n,n<=10*L/\zC t n (t.probeStart h)=Xz t (VC (t.mask+1) (SetTable.bits h) L) (SetTable.bits h / 32^L) none
 |0=>⟨0,G5 _,by rw [J8,Y9];rfl⟩
 |L+1=>by
  obtain⟨n,hn,e⟩:=DG t h L;have s:=DF t.mask (VC (t.mask+1) (SetTable.bits h) L);refine⟨n+(SetTable.runEnd t.mask (VC (t.mask+1) (SetTable.bits h) L)-VC (t.mask+1) (SetTable.bits h) L+1),by omega,?_⟩;rw [Ju,e];refine(vZ t _ (Xz t _ _ none) rfl).trans ?_;show Xz t ((VC (t.mask+1) (SetTable.bits h) L*5+1+SetTable.bits h / 32^L / 32)%(t.mask+1)) (SetTable.bits h / 32^L / 32) none=_;rw [L4,<-N2];rfl
theorem Co (h:Int):SetTable.bits h<2^64:=by unfold SetTable.bits;omega
theorem YT (h:Int): ∀m,VC N (SetTable.bits h) (13+m)=f5 N m (VC N (SetTable.bits h) 13)
 |0=>rfl
 |m+1=>by
  show (VC N (SetTable.bits h) (13+m)*5+1+SetTable.bits h / 32^(13+m+1))%N=(f5 N m (VC N (SetTable.bits h) 13)*5+1)%N;rw [YT h m,Nat.div_eq_of_lt (D2 (Co h) ?_),X4];exact D7 (show 2^64<=32^13 by decide) (N7 (by decide) (by omega))
variable {t:SetTable}
theorem MI (hN:t.mask+1=2^k)(h:Int){e:Nat}(he:e<=t.mask): ∃n,n<10*SetTable.turns t.mask/\(zC t n (t.probeStart h)).j=e:=by
 obtain⟨m,hm,em⟩:=NE hN (a:=VC (t.mask+1) (SetTable.bits h) 13) (V5 _ (A8 _)) (show e<t.mask+1 by omega);obtain⟨n,hn,en⟩:=DG t h (13+m);refine⟨n,by unfold SetTable.turns;omega,?_⟩;rw [en,<-em,<-YT h m];rfl
theorem DH {P:Nat->Prop}: ∀n,P n-> ∃m,m<=n/\P m/\ ∀k,k<m-> ¬P k:=λn=>by
 induction n using Nat.strongRecOn with
 |ind n ih=>
  intro h;rcases Classical.em (∃k,k<n/\P k) with ⟨k,lt,pk⟩|no
  ·obtain⟨m,a,b,c⟩:=ih k lt pk;exact⟨m,by omega,b,c⟩
  ·exact⟨n,G5 _,h,λk lt pk=>no ⟨k,lt,pk⟩⟩
variable {h:Int}
theorem NF {f:Nat->Int}(d:t.dummies= #[]): ∀ (n fuel:Nat) (p:SetTable.Probe),n<fuel->t.slot (zC t n p).j= .empty->(∀k,k<n->t.slot (zC t k p).j≠ .empty)->p.dummy=none->
 (SetTable.probe.go t f h fuel p=some (.empty (zC t n p).j none)/\ ∀k,k<n-> ∀i,t.slot (zC t k p).j= .live i->f i≠h)\/
 (∃k i,k<n/\t.slot (zC t k p).j= .live i/\f i=h/\(∀k',k'<k-> ∀i',t.slot (zC t k' p).j= .live i'->f i'≠h)/\SetTable.probe.go t f h fuel p=some (.candidate (zC t k p).j i (zC t (k+1) p)))
 |_,0,_,lt,_,_,_=>absurd lt (O4 _)
 |0,fuel+1,p,_,he,_,hd=>by
  refine .inl ⟨?_,λk hk=>absurd hk (O4 _)⟩;have he:t.slot p.j= .empty:=he;unfold SetTable.probe.go;rw [he,hd];rfl
 |n+1,fuel+1,p,lt,he,ne,hd=>by
  have h0:t.slot p.j≠ .empty:=ne 0 (A8 _);cases hs:t.slot p.j with
  |empty=>exact absurd hs h0
  |dummy=>exact absurd hs (HT.Yj d)
  |live i=>
   by_cases e:f i=h
   ·refine .inr ⟨0,i,A8 _,hs,e,λk' hk=>absurd hk (O4 _),?_⟩;unfold SetTable.probe.go;rw [hs];show (if (f i==h)=true then _ else _)=_;rw [if_pos (by rw [e];exact C9 h)];rfl
   ·have ad:(t.advance p).dummy=none:=by unfold SetTable.advance;split<;>exact hd
    have step:SetTable.probe.go t f h (fuel+1) p=SetTable.probe.go t f h fuel (t.advance p):=by
     conv=>lhs;unfold SetTable.probe.go
     rw [hs];show (if (f i==h)=true then _ else _)=_;rw [if_neg (by simpa using e)]
    rcases NF d n fuel (t.advance p) (by omega) he (λk hk=>ne (k+1) (by omega)) ad with ⟨a,b⟩|⟨k,i',hk,a,b,c,g⟩
    ·refine .inl ⟨by rw [step];exact a,λk hk i2 hi=> ?_⟩;cases k with
     |zero=>rw [show t.slot (zC t 0 p).j= .live i from hs] at hi;cases hi;exact e
     |succ k=>exact b k (by omega) i2 hi
    ·refine .inr ⟨k+1,i',by omega,a,b,λk' hk' i2 hi=> ?_,by rw [step];exact g⟩;cases k' with
     |zero=>rw [show t.slot (zC t 0 p).j= .live i from hs] at hi;cases hi;exact e
     |succ k'=>exact c k' (by omega) i2 hi
theorem XA (hN:t.mask+1=2^k)(h:Int){e:Nat}(he:e<=t.mask)(em:t.slot e= .empty): ∃n,n<10*SetTable.turns t.mask/\t.slot (zC t n (t.probeStart h)).j= .empty/\ ∀m,m<n->t.slot (zC t m (t.probeStart h)).j≠ .empty:=by
 obtain⟨n,hn,ej⟩:=MI hN h he;obtain⟨m,a,b,c⟩:=DH (P:=λn=>t.slot (zC t n (t.probeStart h)).j= .empty) n (by rw [ej];exact em);exact⟨m,by omega,b,c⟩
theorem DI (r:t.place.toList.Pairwise (· < ·)){i j:Nat}(h:t.place[i]? =some j):t.slot j= .live i:=by
 obtain⟨lo,hi,_⟩:=HT.YQ r j;have e:SetTable.below t.place j=i:=by
  rcases Nat.lt_trichotomy (SetTable.below t.place j) i with z|z|z
  ·obtain⟨hlt,ev⟩:=R7.mp h;have hb:SetTable.below t.place j<t.place.size:=by omega
   have a:=hi (SetTable.below t.place j) (G5 _) t.place[SetTable.below t.place j] (B4 hb);have b:=S6.mp r (SetTable.below t.place j) i (by simpa using hb) (by simpa using hlt) z;simp only [K3] at b;omega
  ·exact z
  ·exact absurd (lo i z j h) (S1 _)
 unfold SetTable.slot;dsimp only;rw [e,h,if_pos (C9 _)]
theorem DJ {i j:Nat}(h:t.slot j= .live i):t.place[i]? =some j:=by
 unfold SetTable.slot at h;dsimp only at h;split at h
 ·rename_i c;injection h with h
  subst h;exact eq_of_beq c
 ·split at h<;>cases h
theorem Jv (d:t.dummies= #[])(r:t.place.toList.Pairwise (· < ·)){j:Nat}:t.slot j= .empty↔ ∀i:Nat,t.place[i]? ≠some j:=by
 constructor
 ·intro h i e;rw [DI r e] at h;cases h
 ·intro h;cases e:t.slot j with
  |empty=>rfl
  |dummy=>exact absurd e (HT.Yj d)
  |live i=>exact absurd (DJ e) (h i)
variable {u:SetTable}
theorem MJ (e:t.mask=u.mask)(p:SetTable.Probe):t.advance p=u.advance p:=by
 unfold SetTable.advance;rw [e]
theorem vc (e:t.mask=u.mask): ∀ (n:Nat) (p:SetTable.Probe),zC t n p=zC u n p
 |0,_=>rfl
 |n+1,p=>by show zC t n (t.advance p)=zC u n (u.advance p);rw [MJ e,vc e n]
theorem vG (e:t.mask=u.mask)(h:Int):t.probeStart h=u.probeStart h:=by
 unfold SetTable.probeStart;rw [e]
def Way (t:SetTable)(h:Int)(j:Nat):Prop:= ∃n,(zC t n (t.probeStart h)).j=j/\ ∀m,m<n->t.slot (zC t m (t.probeStart h)).j≠ .empty
theorem Way.more (e:t.mask=u.mask)(f: ∀j,u.slot j= .empty->t.slot j= .empty){h:Int}{j:Nat}(w:Way t h j):Way u h j:=by
 obtain⟨n,a,b⟩:=w;refine⟨n,by rw [<-vG e,<-vc e];exact a,λm hm z=>b m hm ?_⟩;rw [<-vG e,<-vc e] at z;exact f _ z
theorem NG {α:Type}(xs:List α)(x:α){p:Nat}(hp:p<=xs.length)(i:Nat):(xs.take p++x::xs.drop p)[i]? =if i<p then xs[i]? else if i=p then some x else xs[i-1]? :=by
 have tl:(xs.take p).length=p:=by rw [T1];omega
 by_cases a:i<p
 ·rw [if_pos a,F3 (by omega),U3,if_pos a]
 ·rw [if_neg a,O8 (by omega),tl]
  by_cases b:i=p
  ·rw [if_pos b,b,Nat.sub_self];rfl
  ·rw [if_neg b,show i-p=(i-p-1)+1 by omega,N4,U5]
   congr 1;omega
structure Laid (t:SetTable)(hs:List Int):Prop where
 pow: ∃k,t.mask+1=2^k
 big:7<=t.mask
 dum:t.dummies= #[]
 rise:t.place.toList.Pairwise (· < ·)
 size:t.place.size=hs.length
 room:hs.length<=t.mask
 low: ∀ (i j:Nat),t.place[i]? =some j->j<=t.mask
 way: ∀ (i:Nat) (h:Int) (j:Nat),hs[i]? =some h->t.place[i]? =some j->Way t h j
variable {hs:List Int}
theorem Laid.free (l:Laid t hs): ∃e,e<=t.mask/\t.slot e= .empty:=by
 refine F4 λno=> ?_
 have nd:t.place.toList.Nodup:=l.rise.imp λ{a b} z=>D9 z
 have all: ∀e,e<t.mask+1->e∈t.place.toList:=λe he=>by
  refine F4 λz=>no ⟨e,by omega,(Jv l.dum l.rise).mpr λi q=>z ?_⟩
  exact Y0.mpr (Array.mem_of_getElem? q)
 have key: ∀ (ys zs:List Nat),ys.Nodup->(∀y∈ys,y∈zs)->ys.length<=zs.length:=by
  intro ys
  induction ys with
  |nil=>intro zs _ _;exact B7 _
  |cons y ys ih=>
   intro zs d s;obtain⟨d1,d2⟩:=M5.mp d;have hy:=s y P3;have:=ih (zs.erase y) d2 λx hx=>(O9 (show x≠y from λq=>d1 (by rw [<-q];exact hx))).mpr (s x (P0 _ hx))
   rw [F8 hy] at this;have:0<zs.length:=L3 hy;rw [P8];omega
 have:=key (List.range (t.mask+1)) t.place.toList List.nodup_range λy hy=>all y (D3.mp hy)
 rw [P4,P2,l.size] at this;have:=l.room;omega
theorem Laid.search (l:Laid t hs)(h:Int): ∃n,n<10*SetTable.turns t.mask/\t.slot (zC t n (t.probeStart h)).j= .empty/\(∀m,m<n->t.slot (zC t m (t.probeStart h)).j≠ .empty)/\ ∀i:Nat,hs[i]? =some h-> ∃m,m<n/\t.slot (zC t m (t.probeStart h)).j= .live i:=by
 obtain⟨k,hk⟩:=l.pow;obtain⟨e,he,em⟩:=l.free;obtain⟨n,a,b,c⟩:=XA hk h he em;refine⟨n,a,b,c,λi hi=> ?_⟩;obtain⟨j,hj⟩: ∃j,t.place[i]? =some j:=⟨t.place[i]'(by rw [l.size];exact(G9.mp hi).1),B4 _⟩;obtain⟨m,x,y⟩:=l.way i h j hi hj;have lv:t.slot (zC t m (t.probeStart h)).j= .live i:=by rw [x];exact DI l.rise hj
 refine⟨m,?_,lv⟩;rcases Nat.lt_trichotomy m n with z|z|z
 ·exact z
 ·rw [z,b] at lv;cases lv
 ·exact absurd b (y n z)
theorem DK (t:SetTable)(j:Nat):(t.put j).1.place.toList=t.place.toList.take (SetTable.below t.place j)++j::t.place.toList.drop (SetTable.below t.place j):=A9 ..
theorem DL (d:t.dummies= #[])(j:Nat):(t.put j).1.dummies= #[]:=by
 show (if SetTable.has t.dummies j then _ else t.dummies)= #[];rw [d,if_neg (by simp [SetTable.has])]
theorem Laid.put (l:Laid t hs){h:Int}{j:Nat}(em:t.slot j= .empty)(jm:j<=t.mask)(w:Way t h j)(room:hs.length+1<=t.mask):Laid (t.put j).1 (hs.take (t.put j).2++h::hs.drop (t.put j).2):=by
 have pe:(t.put j).2=SetTable.below t.place j:=rfl;have me:t.mask=(t.put j).1.mask:=rfl;have pl:=DK t j;have hp:SetTable.below t.place j<=t.place.size:=(HT.YQ l.rise j).2.2;have hp1:SetTable.below t.place j<=t.place.toList.length:=by rw [P2];exact hp
 have hp2:SetTable.below t.place j<=hs.length:=by rw [<-l.size];exact hp
 have rise:(t.put j).1.place.toList.Pairwise (· < ·):=HT.Xw l.rise (HT.Gx em);have at1: ∀i:Nat,(t.put j).1.place[i]? =if i<SetTable.below t.place j then t.place[i]? else if i=SetTable.below t.place j then some j else t.place[i-1]? :=λi=>by
  have:=NG t.place.toList j hp1 i;rw [<-pl] at this;simpa using this
 have sl: ∀x,(t.put j).1.slot x= .empty->t.slot x= .empty:=λx hx=>by
  rw [Jv (DL l.dum j) rise] at hx;rw [Jv l.dum l.rise];intro i e
  by_cases c:i<SetTable.below t.place j
  ·exact hx i (by rw [at1,if_pos c];exact e)
  ·exact hx (i+1) (by rw [at1,if_neg (by omega),if_neg (by omega)];exact e)
 rw [pe];refine⟨l.pow,l.big,DL l.dum j,rise,?_,?_,λi x hx=> ?_,λi g x hg hx=> ?_⟩
 ·rw [<-P2,pl];simp only [P7,P8,T1,N8,P2];have:=l.size;omega
 ·show _<=t.mask;simp only [P7,P8,T1,N8];omega
 ·rw [at1] at hx;split at hx
  ·exact l.low _ _ hx
  ·split at hx
   ·injection hx with hx;subst hx;exact jm
   ·exact l.low _ _ hx
 ·rw [at1] at hx;rw [NG hs h hp2] at hg
  by_cases c:i<SetTable.below t.place j
  ·rw [if_pos c] at hg hx;exact(l.way i g x hg hx).more me sl
  ·rw [if_neg c] at hg hx
   by_cases b:i=SetTable.below t.place j
   ·rw [if_pos b] at hg hx;injection hg with hg;injection hx with hx
    subst hg hx;exact w.more me sl
   ·rw [if_neg b] at hg hx;exact(l.way (i-1) g x hg hx).more me sl
theorem Gy (a b:Nat)(led:Bool):Laid (.fresh a b led) []:=⟨⟨3,rfl⟩,G5 7,rfl,List.Pairwise.nil,rfl,B7 _,λi j h=>by simp [SetTable.fresh] at h,λi h j e=>by simp at e⟩
theorem NH (t:SetTable): ∀ (k i q m j:Nat) (d:Option Nat),k<=m->zC t k ⟨j,m,i,q,d⟩=⟨j+k,m-k,i,q,d⟩
 |0,i,q,m,j,d,_=>rfl
 |k+1,i,q,m,j,d,h=>by
  have a:t.advance ⟨j,m,i,q,d⟩=⟨j+1,m-1,i,q,d⟩:=by unfold SetTable.advance;rw [if_pos (show m>0 by omega)]
  show zC t k (t.advance ⟨j,m,i,q,d⟩)=_;rw [a,NH t k i q (m-1) (j+1) d (by omega)]
  congr 1<;>omega
def AL (t:SetTable)(E:Nat->Bool)(h:Int)(j:Nat):Prop:= ∃n,(zC t n (t.probeStart h)).j=j/\ ∀m,m<n->E (zC t m (t.probeStart h)).j=false
variable {owner:Array (Option Nat)}
theorem QM: ∀ (fuel L n:Nat) {j:Nat},zC t n (t.probeStart h)=Xz t (VC (t.mask+1) (SetTable.bits h) L) (SetTable.bits h / 32^L) none->(∀m,m<n->(owner.getD (zC t m (t.probeStart h)).j (some 0)).isNone=false)->
 SetTable.layClean.free t.mask owner fuel (VC (t.mask+1) (SetTable.bits h) L) (SetTable.bits h / 32^L)=some j->(owner.getD j (some 0)).isNone=true/\AL t (λx=>(owner.getD x (some 0)).isNone) h j
 |0,_,_,_,_,_,e=>by cases e
 |fuel+1,L,n,j,hn,ne,e=>by
  unfold SetTable.layClean.free at e;generalize hI:VC (t.mask+1) (SetTable.bits h) L=I at hn e;have run: ∀k,k<=SetTable.runEnd t.mask I-I->(zC t (n+k) (t.probeStart h)).j=I+k:=λk hk=>by
   rw [Ju,hn];exact congrArg SetTable.Probe.j (NH t k I _ _ I none hk)
  have re:I<=SetTable.runEnd t.mask I:=by unfold SetTable.runEnd;split<;>omega
  split at e
  ·rename_i k hk;injection e with e
   subst e;obtain⟨a,b,c⟩:=List.find?_range_eq_some.mp hk;have kl:=D3.mp b;refine⟨a,n+k,run k (by omega),λm hm=> ?_⟩;rcases F2 m n with z|z
   ·exact ne m z
   ·have:=c (m-n) (by omega);have r:=run (m-n) (by omega);rw [C5 z] at r;show (owner.getD (zC t m (t.probeStart h)).j (some 0)).isNone=false;rw [r];simpa using this
  ·rename_i hk;have none:=List.find?_eq_none.mp hk;have nx:=vZ t _ (Xz t I (SetTable.bits h / 32^L) .none) rfl;refine QM fuel (L+1) (n+(SetTable.runEnd t.mask I-I+1)) (j:=j) ?_ (λm hm=> ?_) ?_
   ·rw [Ju,hn];refine nx.trans ?_;show Xz t ((I*5+1+SetTable.bits h / 32^L / 32)%(t.mask+1)) (SetTable.bits h / 32^L / 32) .none=_;rw [L4,<-N2,<-hI];rfl
   ·rcases F2 m n with z|z
    ·exact ne m z
    ·have:=none (m-n) (D3.mpr (by omega));have r:=run (m-n) (by omega);rw [C5 z] at r;rw [r];exact Bool.eq_false_iff.mpr this
   ·rw [show SetTable.leap t.mask I (SetTable.bits h / 32^L)=((I*5+1+SetTable.bits h / 32^L / 32)%(t.mask+1),SetTable.bits h / 32^L / 32) from rfl] at e;dsimp only at e;rw [L4,<-N2,<-hI] at e;exact e
theorem DM (hN:t.mask+1=2^k){e:Nat}(he:e<=t.mask)(em:(owner.getD e (some 0)).isNone=true): ∃j,SetTable.layClean.free t.mask owner (SetTable.turns t.mask) (SetTable.bits h%(t.mask+1)) (SetTable.bits h)=some j:=by
 obtain⟨m,hm,e1⟩:=NE hN (a:=VC (t.mask+1) (SetTable.bits h) 13) (V5 _ (A8 _)) (show e<t.mask+1 by omega);rw [<-YT h m] at e1;have go: ∀ (fuel L:Nat),(∃L',L<=L'/\L'<L+fuel/\VC (t.mask+1) (SetTable.bits h) L'=e)-> ∃j,SetTable.layClean.free t.mask owner fuel (VC (t.mask+1) (SetTable.bits h) L) (SetTable.bits h / 32^L)=some j:=by
  intro fuel
  induction fuel with
  |zero=>rintro L ⟨L',a,b,_⟩;omega
  |succ fuel ih=>
   rintro L ⟨L',a,b,c⟩;unfold SetTable.layClean.free;generalize hI:VC (t.mask+1) (SetTable.bits h) L=I;split
   ·rename_i k hk;exact⟨_,rfl⟩
   ·rename_i hk;have none:=List.find?_eq_none.mp hk;have ne:I≠e:=λz=>by
     have re:I<=SetTable.runEnd t.mask I:=by unfold SetTable.runEnd;split<;>omega
     have:=none 0 (D3.mpr (by omega));rw [X4,z] at this;exact this em
    have lt:L+1<=L':=by
     rcases F2 L L' with z|z
     ·exact z
     ·have:L=L':=by omega
      subst this;exact absurd (hI.symm.trans c) ne
    obtain⟨j,hj⟩:=ih (L+1) ⟨L',lt,by omega,c⟩;refine⟨j,?_⟩;rw [show SetTable.leap t.mask I (SetTable.bits h / 32^L)=((I*5+1+SetTable.bits h / 32^L / 32)%(t.mask+1),SetTable.bits h / 32^L / 32) from rfl];dsimp only;rw [L4,<-N2,<-hI];exact hj
 have:=go (SetTable.turns t.mask) 0 ⟨13+m,Nat.zero_le _,by unfold SetTable.turns;omega,e1⟩;rw [J8,Y9] at this;exact this
def emO (owner:Array (Option Nat))(x:Nat):Bool:=(owner.getD x (some 0)).isNone
theorem emO_iff {x:Nat}:emO owner x=true↔owner[x]? =some none:=by
 unfold emO;rw [O5];cases owner[x]? with
 |none=>simp
 |some o=>cases o<;>simp
structure Own (t:SetTable)(hs:List Int)(owner:Array (Option Nat))(k:Nat):Prop where
 size:owner.size=t.mask+1
 lt: ∀x i:Nat,owner[x]? =some (some i)->i<k
 inj: ∀x y i:Nat,owner[x]? =some (some i)->owner[y]? =some (some i)->x=y
 all: ∀i,i<k-> ∃x:Nat,owner[x]? =some (some i)
 way: ∀ (x i:Nat) (h:Int),owner[x]? =some (some i)->hs[i]? =some h->AL t (emO owner) h x
theorem Own.free (o:Own t hs owner k)(room:k<=t.mask): ∃e,e<=t.mask/\emO owner e=true:=by
 refine F4 λno=> ?_
 have got: ∀x,x<t.mask+1-> ∃i,owner[x]? =some (some i):=λx hx=>by
  have hs':x<owner.size:=by rw [o.size];exact hx
  cases e:owner[x]? with
  |none=>rw [C7] at e;omega
  |some v=>
   cases v with
   |none=>exact absurd ⟨x,by omega,emO_iff.mpr e⟩ no
   |some i=>exact⟨i,rfl⟩
 have gi: ∀x,x<t.mask+1->owner[x]? =some (some (((owner[x]?).getD none).getD 0)):=λx hx=>by
  obtain⟨i,e⟩:=got x hx;rw [e];rfl
 have nd:((List.range (t.mask+1)).map λx=>((owner[x]?).getD none).getD 0).Nodup:=by
  rw [List.Nodup,C0];refine S6.mpr λa b ha hb ab e=> ?_
  rw [M2,M2] at e;rw [P4] at ha hb;have x1:=gi a ha;have x2:=gi b hb;rw [e] at x1;have:=o.inj a b _ x1 x2;omega
 have:=Wj (m:=List.range k) nd λy hy=>by
  obtain⟨x,hx,rfl⟩:=D6.mp hy;exact D3.mpr (o.lt x _ (gi x (D3.mp hx)))
 rw [G0,P4,P4] at this;omega
variable {n:Nat}
theorem Own.step (hN:t.mask+1=2^n)(o:Own t hs owner k)(room:k<=t.mask)(hk:hs[k]? =some h): ∃j,SetTable.layClean.free t.mask owner (SetTable.turns t.mask) (SetTable.bits h%(t.mask+1)) (SetTable.bits h)=some j/\Own t hs (owner.setIfInBounds j (some k)) (k+1):=by
 obtain⟨e,he,em⟩:=o.free room;obtain⟨j,hj⟩:=DM (h:=h) hN he em;have w:=QM (t:=t) (owner:=owner) (h:=h) (SetTable.turns t.mask) 0 0 (j:=j) (by rw [J8,Y9];rfl) (λm hm=>absurd hm (O4 _)) (by rw [J8,Y9];exact hj);have jn:owner[j]? =some none:=emO_iff.mp w.1;have js:j<owner.size:=(R7.mp jn).1;have at1: ∀x:Nat,(owner.setIfInBounds j (some k))[x]? =if j=x then some (some k) else owner[x]? :=λx=>by
  rw [Array.getElem?_setIfInBounds]
  by_cases c:j=x
  ·rw [if_pos c,if_pos c,if_pos js]
  ·rw [if_neg c,if_neg c]
 have old: ∀x i:Nat,(owner.setIfInBounds j (some k))[x]? =some (some i)->(x=j/\i=k)\/(x≠j/\owner[x]? =some (some i)):=λx i hx=>by
  rw [at1] at hx;split at hx
  ·rename_i c;injection hx with hx;injection hx with hx;exact .inl ⟨c.symm,hx.symm⟩
  ·rename_i c;exact .inr ⟨Ne.symm c,hx⟩
 have emm: ∀x,emO owner x=false->emO (owner.setIfInBounds j (some k)) x=false:=λx hx=>by
  refine Bool.eq_false_iff.mpr λz=> ?_
  rw [emO_iff,at1] at z;split at z
  ·cases z
  ·rw [emO_iff.mpr z] at hx;cases hx
 refine⟨j,hj,by rw [Array.size_setIfInBounds];exact o.size,λx i hx=> ?_,λx y i hx hy=> ?_,λi hi=> ?_,λx i g hx hg=> ?_⟩
 ·rcases old x i hx with ⟨_,e⟩|⟨_,e⟩
  ·omega
  ·have:=o.lt x i e;omega
 ·rcases old x i hx with ⟨a,b⟩|⟨a,b⟩<;>rcases old y i hy with ⟨c,d⟩|⟨c,d⟩
  ·rw [a,c]
  ·have:=o.lt y i d;omega
  ·have:=o.lt x i b;omega
  ·exact o.inj x y i b d
 ·by_cases c:i=k
  ·exact⟨j,by rw [at1,if_pos rfl,c]⟩
  ·obtain⟨x,hx⟩:=o.all i (by omega);have ne: ¬j=x:=λz=>by rw [<-z,jn] at hx;cases hx
   exact⟨x,by rw [at1,if_neg ne];exact hx⟩
 ·rcases old x i hx with ⟨a,b⟩|⟨a,b⟩
  ·rw [b,hk] at hg;injection hg with hg
   rw [a,<-hg];obtain⟨m,p,q⟩:=w.2;exact⟨m,p,λm' hm=>emm _ (q m' hm)⟩
  ·obtain⟨m,p,q⟩:=o.way x i g b hg;exact⟨m,p,λm' hm=>emm _ (q m' hm)⟩
theorem MK (t:SetTable)(hs:List Int):Own t hs (Array.replicate (t.mask+1) none) 0:=by
 have no: ∀x i:Nat,(Array.replicate (t.mask+1) (none:Option Nat))[x]? ≠some (some i):=λx i e=>by
  rw [Array.getElem?_replicate] at e;split at e<;>cases e
 exact⟨Array.size_replicate,λx i e=>absurd e (no x i),λx y i e=>absurd e (no x i),λi hi=>absurd hi (O4 _),λx i h e=>absurd e (no x i)⟩
theorem QN (hN:t.mask+1=2^n)(room:hs.length<=t.mask){F:Option (Array (Option Nat)×Nat)->Int->Option (Array (Option Nat)×Nat)}
 (hF: ∀owner k h j,SetTable.layClean.free t.mask owner (SetTable.turns t.mask) (SetTable.bits h%(t.mask+1)) (SetTable.bits h)=some j->F (some (owner,k)) h=some (owner.setIfInBounds j (some k),k+1)): ∀ (rest:List Int) (k:Nat) (owner:Array (Option Nat)),Own t hs owner k->k<=hs.length->hs.drop k=rest-> ∃owner',rest.foldl F (some (owner,k))=some (owner',hs.length)/\Own t hs owner' hs.length
 | [],k,owner,o,kl,e=>by
  have:k=hs.length:=by have:=List.drop_eq_nil_iff.mp e;omega
  subst this;exact⟨owner,rfl,o⟩
 |h::rest,k,owner,o,kl,e=>by
  have hk:hs[k]? =some h:=by
   have:(hs.drop k)[0]? =some h:=by rw [e];rfl
   rwa [U5,X4] at this
  have lt:k<hs.length:=(G9.mp hk).1;obtain⟨j,hj,o'⟩:=o.step hN (by omega) hk;have e2:hs.drop (k+1)=rest:=by rw [<-List.tail_drop,e];rfl
  obtain⟨owner',a,b⟩:=QN hN room hF rest (k+1) _ o' lt e2;exact⟨owner',by rw [List.foldl_cons,hF _ _ _ _ hj];exact a,b⟩
theorem ML (hN:t.mask+1=2^n)(room:hs.length<=t.mask){F:Option (Array (Option Nat)×Nat)->Int->Option (Array (Option Nat)×Nat)}
 (hF: ∀owner k h j,SetTable.layClean.free t.mask owner (SetTable.turns t.mask) (SetTable.bits h%(t.mask+1)) (SetTable.bits h)=some j->F (some (owner,k)) h=some (owner.setIfInBounds j (some k),k+1)): ∃owner,(hs.foldl F (some (Array.replicate (t.mask+1) none,0))).map (·.1)=some owner/\Own t hs owner hs.length:=by
 obtain⟨owner,a,b⟩:=QN hN room hF hs 0 _ (MK t hs) (B7 _) rfl;exact⟨owner,by rw [a];rfl,b⟩
theorem Cp {hashes:Array Int}(hN:t.mask+1=2^n)(room:hashes.size<=t.mask): ∃owner,SetTable.layClean t.mask hashes=some owner/\Own t hashes.toList owner hashes.toList.length:=by
 unfold SetTable.layClean;rw [<-Array.foldl_toList];refine ML hN (by rw [P2];exact room) λowner k h j hj=> ?_
 show (SetTable.layClean.free t.mask owner _ _ _).bind _=_;rw [hj];rfl
theorem XB: ∀ (n:Nat) (p:SetTable.Probe),p.j+p.more<=t.mask->(zC t n p).j<=t.mask
 |0,p,h=>by show p.j<=t.mask;omega
 |n+1,p,h=>by
  refine XB n (t.advance p) ?_;unfold SetTable.advance;split
  ·show p.j+1+(p.more-1)<=t.mask;omega
  ·have:(p.i*5+1+p.perturb / 32)%(t.mask+1)<t.mask+1:=V5 _ (A8 _);show (p.i*5+1+p.perturb / 32)%(t.mask+1)+(SetTable.runEnd t.mask ((p.i*5+1+p.perturb / 32)%(t.mask+1))-(p.i*5+1+p.perturb / 32)%(t.mask+1))<=t.mask;unfold SetTable.runEnd;split<;>omega
theorem Ur (t:SetTable)(h:Int):(t.probeStart h).j+(t.probeStart h).more<=t.mask:=by
 have:SetTable.bits h%(t.mask+1)<t.mask+1:=V5 _ (A8 _);show SetTable.bits h%(t.mask+1)+(SetTable.runEnd t.mask (SetTable.bits h%(t.mask+1))-SetTable.bits h%(t.mask+1))<=t.mask;unfold SetTable.runEnd;split<;>omega
theorem Oe {T0 T':SetTable}{E:Nat->Bool}{j:Nat}(em:T0.mask=T'.mask)(f: ∀y,y<=T0.mask->E y=false->T'.slot y≠ .empty)(w:AL T0 E h j):Way T' h j:=by
 obtain⟨n,a,b⟩:=w;refine⟨n,by rw [<-vG em,<-vc em];exact a,λm hm=> ?_⟩;rw [<-vG em,<-vc em];exact f _ (XB m _ (Ur T0 h)) (b m hm)
theorem Cq {mask finger moves:Nat}{led plain:Bool}{hashes:Array Int}(hN:mask+1=2^n)(h7:7<=mask)(room:hashes.size<=mask): ∃t' order,SetTable.laid mask finger moves led plain hashes=some (t',order)/\t'.mask=mask/\t'.led=led/\t'.plain=plain/\order.toList.Perm (List.range hashes.size)/\Laid t' (order.toList.map λi=>hashes.toList.getD i 0):=by
 obtain⟨T0,hm⟩: ∃T0:SetTable,T0.mask=mask:=⟨{SetTable.fresh 0 0 true with mask:=mask},rfl⟩;subst hm;obtain⟨owner,ho,own⟩:=Cp (t:=T0) (hashes:=hashes) hN room;unfold SetTable.laid;rw [ho];refine⟨_,_,rfl,rfl,rfl,rfl,?_⟩;generalize hl:((List.range (T0.mask+1)).filterMap λj=>(owner.getD j none).map (j,·))=live;have osz:owner.size=T0.mask+1:=own.size;have mem: ∀x i:Nat,(x,i)∈live↔owner[x]? =some (some i):=λx i=>by
  rw [<-hl,L5];constructor
  ·rintro ⟨j,hj,e⟩;rw [O5] at e;cases z:owner[j]? with
   |none=>rw [z] at e;cases e
   |some v=>
    rw [z] at e;cases v with
    |none=>cases e
    |some w=>cases e;exact z
  ·intro e;have lt:x<owner.size:=(R7.mp e).1;refine⟨x,D3.mpr (by omega),?_⟩;rw [O5,e];rfl
 have sub:(live.map (·.1)).Sublist (List.range (T0.mask+1)):=by rw [<-hl];exact HT.YR _ _
 have rise:(live.map (·.1)).Pairwise (· < ·):=List.pairwise_lt_range.sublist sub;have nd:(live.map (·.2)).Nodup:=by
  rw [List.Nodup,C0];rw [C0] at rise;refine rise.imp_of_mem λ{a b} ha hb lt e=> ?_
  have:=own.inj a.1 b.1 a.2 ((mem _ _).mp ha) (by rw [e];exact(mem _ _).mp hb);omega
 have len0:hashes.toList.length=hashes.size:=P2;have pm:(live.map (·.2)).Perm (List.range hashes.size):=by
  refine(List.perm_ext_iff_of_nodup nd List.nodup_range).mpr λi=> ?_
  rw [D3];constructor
  ·intro h;obtain⟨⟨x,i'⟩,a,rfl⟩:=D6.mp h;have:=own.lt x i' ((mem _ _).mp a);omega
  ·intro h;obtain⟨x,hx⟩:=own.all i (by omega);exact D6.mpr ⟨(x,i),(mem _ _).mpr hx,rfl⟩
 have ll:live.length=hashes.size:=by have:=pm.length_eq;rwa [G0,P4] at this
 refine⟨pm,⟨n,hN⟩,h7,rfl,rise,?_,?_,λi j hj=> ?_,λi h x hh hx=> ?_⟩
 ·simp
 ·show _<=T0.mask;simp only [G0];omega
 ·have hj:(live.map (·.1))[i]? =some j:=by simpa using hj
  have:=D3.mp (sub.subset (R8 hj));show j<=T0.mask;omega
 ·have hx:(live.map (·.1))[i]? =some x:=by simpa using hx
  have hh:((live.map (·.2)).map λi=>hashes.toList.getD i 0)[i]? =some h:=hh;rw [G6] at hx;obtain⟨⟨x',i'⟩,e1,e2⟩:=E7.mp hx;have e2:x'=x:=e2;subst e2;rw [G6,G6,e1] at hh;have hh:hashes.toList.getD i' 0=h:=by injection hh
  have ow:=(mem _ _).mp (R8 e1);have lt:=own.lt _ _ ow;have hg:hashes.toList[i']? =some h:=by
   rw [<-hh,P9,G3 lt];rfl
  refine Oe (T0:=T0) rfl (λy hy hb z=> ?_) (own.way _ _ _ ow hg);rw [Jv rfl rise] at z;cases e:owner[y]? with
  |none=>rw [C7] at e;omega
  |some v=>
   cases v with
   |none=>rw [emO_iff.mpr e] at hb;cases hb
   |some w=>
    obtain⟨i2,h2⟩:=A0 (D6.mpr ⟨(y,w),(mem _ _).mpr e,rfl⟩:y∈live.map (·.1));exact z i2 (by simpa using h2)
theorem Laid.stands (l:Laid t hs):t.gaveWay=false:=by
 obtain⟨k,hk⟩:=l.pow;have b:=l.big;cases k with
 |zero=>rw [J8] at hk;omega
 |succ k=>
  rw [N2] at hk;unfold SetTable.gaveWay;refine beq_false_of_ne ?_;omega
theorem QP: ∀ (fuel k n:Nat),3<=k-> ∃m,3<=m/\SetTable.sizeAbove.go n fuel (2^k)=2^m/\(n<2^(k+fuel)->n<2^m)
 |0,k,n,h=>⟨k,h,rfl,λz=>z⟩
 |fuel+1,k,n,h=>by
  unfold SetTable.sizeAbove.go
  by_cases c:2^k<=n
  ·rw [if_pos c,<-N2];obtain⟨m,a,b,d⟩:=QP fuel (k+1) n (by omega);exact⟨m,a,b,λz=>d (by rw [Nat.add_right_comm,Nat.add_assoc];exact z)⟩
  ·rw [if_neg c];exact⟨k,h,rfl,λ_=>by omega⟩
theorem above (h:n<2^67): ∃m,SetTable.sizeAbove n=2^m/\n<SetTable.sizeAbove n/\8<=SetTable.sizeAbove n:=by
 obtain⟨m,a,b,c⟩:=QP 64 3 n (by decide);have b:SetTable.sizeAbove n=2^m:=b;refine⟨m,b,by rw [b];exact c h,?_⟩;rw [b];exact N7 (show 0<2 by decide) a
end L2
namespace L2
open PySem PySem.Spec PyProof.Rows HT
variable {prog:Program}{w:World}{A:Around}{E:Value->Shared->Prop}{s:Shared}{a:Addr}{es:Array (Int×Value)}{ep:Nat}{t:SetTable}
theorem Laid.fits {hs:List Int}(l:Laid t hs){n:Nat}(e:hs.length=n):t.fits n=true:=by
 have a:=l.size;have b:=l.room;have c:=l.dum;simp only [SetTable.fits,SetTable.fill,R4,Z3,F7,c];simp;omega
theorem QQ (t:SetTable):t.sameMemory t.moves t.mask=some true:=by
 unfold SetTable.sameMemory;rw [if_pos (C9 _)]
theorem QR {b:Addr}{Q:Bool->Shared->Prop}(q:Q true s):wpAny (model prog w) A (isSame (.ref b) (.ref b)) Q E s:=by
 unfold isSame;dsimp only;rw [if_pos (C9 _)];exact G2 q
variable {eqk:Nat->Bool}
theorem XC {Q:SetFound->Shared->Prop}{x:Value}{h:Int}{n:Nat}(l:Laid t (es.toList.map (·.1)))(ho:s.heap.get? a=some (Wl es ep t))
 (refs: ∀ (i:Nat) (y:Value),es[i]? =some (h,y)-> ∃b,y= .ref b)
 (seen: ∀Q':Bool->Shared->Prop,Q' false s->wpAny (model prog w) A (searchCouldBeSeen x ((es.filter (·.1==h)).toList.map (·.2))) Q' E s)
 (cmp: ∀ (i:Nat) (y:Value),es[i]? =some (h,y)-> ∀Q':Bool->Shared->Prop,Q' (eqk i) s->wpAny (model prog w) A (holding [y] (eqBool y x)) Q' E s)
 (em:t.slot (zC t n (t.probeStart h)).j= .empty)(nb:n<10*SetTable.turns t.mask)(ne: ∀m,m<n->t.slot (zC t m (t.probeStart h)).j≠ .empty)
 (free:(∀m i,m<n->t.slot (zC t m (t.probeStart h)).j= .live i->(es[i]?.map (·.1)).getD 0=h->eqk i=false)->Q (.free (zC t n (t.probeStart h)).j false) s)
 (there: ∀ (i:Nat) (y:Value),es[i]? =some (h,y)->eqk i=true->Q (.there none) s):
 ∀ (r k fuel:Nat) (stand:Option SetTable.Probe),k+r=n->r<fuel->stand.getD (t.probeStart h)=zC t k (t.probeStart h)->(∀m i,m<k->t.slot (zC t m (t.probeStart h)).j= .live i->(es[i]?.map (·.1)).getD 0=h->eqk i=false)->
  wpAny (model prog w) A (setSearchFrom a x h true fuel stand) Q E s:=by
 intro r
 induction r using Nat.strongRecOn with
 |ind r ih=>
 intro k fuel stand kr rf st old;obtain⟨fuel,rfl⟩: ∃f,fuel=f+1:=⟨fuel-1,by omega⟩;have fit:t.fits es.size=true:=l.fits (by rw [G0,P2]);unfold setSearchFrom;refine wpAny_bind (C1 ho rfl fit ?_);dsimp only;rw [l.stands];simp only [R1,↓reduceIte];have ad: ∀m,zC t m (zC t k (t.probeStart h))=zC t (k+m) (t.probeStart h):=λm=>(Ju t k m _).symm
 have dn: ∀ (m:Nat) (p:SetTable.Probe),p.dummy=none->(zC t m p).dummy=none:=λm=>by
  induction m with
  |zero=>exact λp hp=>hp
  |succ m ihm=>exact λp hp=>ihm _ (by unfold SetTable.advance;split<;>exact hp)
 have out:=NF (f:=λi=>(es[i]?.map (·.1)).getD 0) (h:=h) l.dum r (10*SetTable.turns t.mask) (zC t k (t.probeStart h)) (by omega) (by rw [ad,kr];exact em) (λm hm=>by rw [ad];exact ne _ (by omega)) (dn _ _ rfl);have e0:t.probe (λi=>(es[i]?.map (·.1)).getD 0) h (stand.getD (t.probeStart h))=SetTable.probe.go t (λi=>(es[i]?.map (·.1)).getD 0) h (10*SetTable.turns t.mask) (zC t k (t.probeStart h)):=by rw [st];rfl
 rw [<-e0] at out;split
 ·rename_i met hmet;have hmet:t.probe (λi=>(es[i]?.map (·.1)).getD 0) h (stand.getD (t.probeStart h))=some met:=hmet;rw [hmet] at out;rcases out with ⟨e,no⟩|⟨m,i,mr,sl,hi,no,e⟩
  ·injection e with e
   subst e;dsimp only;refine G2 ?_;rw [ad,kr];refine free λm i hm sl hi=> ?_
   rcases F2 m k with z|z
   ·exact old m i z sl hi
   ·refine absurd hi (no (m-k) (by omega) i ?_);rw [ad,C5 z];exact sl
  ·injection e with e
   subst e;dsimp only;obtain⟨y,ei⟩: ∃y,es[i]? =some (h,y):=by
    obtain⟨lt,_⟩:=R7.mp (DJ sl);have sz:i<es.size:=by have:=l.size;rw [G0,P2] at this;omega
    rw [B4 sz] at hi ⊢;have hi:es[i].1=h:=hi;exact⟨es[i].2,by rw [<-hi]⟩
   cases hl:t.led
   ·simp only [Bool.not_false,↓reduceIte];refine wpAny_bind (seen _ ?_);simp only [R1,↓reduceIte];rw [ei];dsimp only;refine wpAny_bind (cmp i y ei _ ?_);refine wpAny_bind (C1 ho rfl fit ?_);dsimp only;cases ek:eqk i with
    |true=>simp only [W1,↓reduceIte];exact G2 (there i y ei ek)
    |false=>
     simp only [Y4,R1,↓reduceIte,QQ,sl,ei];obtain⟨b,rfl⟩:=refs i y ei;refine wpAny_bind (QR ?_);refine wpAny_bind (G2 ?_);simp only [↓reduceIte];refine ih (r-(m+1)) (by omega) (k+(m+1)) fuel (some _) (by omega) (by omega) (by show zC t (m+1) _=_;rw [ad]) (λm' i' hm' sl' hi'=> ?_);rcases F2 m' k with z|z
     ·exact old m' i' z sl' hi'
     ·have e1:zC t m' (t.probeStart h)=zC t (m'-k) (zC t k (t.probeStart h)):=by rw [ad,C5 z]
      rw [e1] at sl';rcases F2 (m'-k) m with y|y
      ·exact absurd hi' (no (m'-k) y i' sl')
      ·have e2:m'-k=m:=by omega
       rw [e2,sl] at sl';injection sl' with sl'
       rw [<-sl'];exact ek
   ·simp only [K5,R1,↓reduceIte];rw [ei];dsimp only;refine wpAny_bind (cmp i y ei _ ?_);refine wpAny_bind (C1 ho rfl fit ?_);dsimp only;cases ek:eqk i with
    |true=>simp only [W1,↓reduceIte];exact G2 (there i y ei ek)
    |false=>
     simp only [Y4,R1,↓reduceIte,QQ,sl,ei];obtain⟨b,rfl⟩:=refs i y ei;refine wpAny_bind (QR ?_);refine wpAny_bind (G2 ?_);simp only [↓reduceIte];refine ih (r-(m+1)) (by omega) (k+(m+1)) fuel (some _) (by omega) (by omega) (by show zC t (m+1) _=_;rw [ad]) (λm' i' hm' sl' hi'=> ?_);rcases F2 m' k with z|z
     ·exact old m' i' z sl' hi'
     ·have e1:zC t m' (t.probeStart h)=zC t (m'-k) (zC t k (t.probeStart h)):=by rw [ad,C5 z]
      rw [e1] at sl';rcases F2 (m'-k) m with y|y
      ·exact absurd hi' (no (m'-k) y i' sl')
      ·have e2:m'-k=m:=by omega
       rw [e2,sl] at sl';injection sl' with sl'
       rw [<-sl'];exact ek
 ·rename_i hmet;rcases out with ⟨e,_⟩|⟨_,_,_,_,_,_,e⟩<;>exact(hmet _ e).elim
theorem Gz {Q:SetFound->Shared->Prop}{x:Value}{h:Int}(l:Laid t (es.toList.map (·.1)))(few:t.mask<=9000)(ho:s.heap.get? a=some (Wl es ep t))
 (refs: ∀ (i:Nat) (y:Value),es[i]? =some (h,y)-> ∃b,y= .ref b)
 (seen: ∀Q':Bool->Shared->Prop,Q' false s->wpAny (model prog w) A (searchCouldBeSeen x ((es.filter (·.1==h)).toList.map (·.2))) Q' E s)
 (cmp: ∀ (i:Nat) (y:Value),es[i]? =some (h,y)-> ∀Q':Bool->Shared->Prop,Q' (eqk i) s->wpAny (model prog w) A (holding [y] (eqBool y x)) Q' E s)
 (free: ∀j,(∀ (i:Nat) (y:Value),es[i]? =some (h,y)->eqk i=false)->t.slot j= .empty->j<=t.mask->Way t h j->Q (.free j false) s)
 (there: ∀ (i:Nat) (y:Value),es[i]? =some (h,y)->eqk i=true->Q (.there none) s):wpAny (model prog w) A (setSearch a x h true) Q E s:=by
 obtain⟨n,nb,em,ne,met⟩:=l.search h;refine XC l ho refs seen cmp em nb ne (λal=>free _ (λi y e=> ?_) em (XB n _ (Ur t h)) ⟨n,rfl,ne⟩) there n 0 100000 none (Nat.zero_add n) (by unfold SetTable.turns at nb;omega) rfl (λm i hm=>absurd hm (Nat.not_lt_zero _));have e1:(es.toList.map (·.1))[i]? =some h:=by
  rw [G6,F1,e];rfl
 obtain⟨m,hm,sl⟩:=met i e1;exact al m i hm sl (by rw [e];rfl)
theorem Laid.plain {hs:List Int}(l:Laid t hs)(b:Bool):Laid {t with plain:=b} hs:=
 ⟨l.pow,l.big,l.dum,l.rise,l.size,l.room,l.low,λi h j x y=>Way.more (t:=t) (u:= {t with plain:=b}) rfl (λ_ z=>z) (l.way i h j x y)⟩
theorem GA (es:Array (Int×Value))(h:Int)(x:Value)(p:Nat):(SetTable.insertAt es p (h,x)).toList.map (·.1)=(es.toList.map (·.1)).take p++h::(es.toList.map (·.1)).drop p:=by
 rw [A9,T3,R0,Z1,V9]
theorem QU: ∀ (fuel k n:Nat),SetTable.sizeAbove.go n fuel (2^k)<=2^k\/SetTable.sizeAbove.go n fuel (2^k)<=2*n
 |0,k,n=> .inl (G5 _)
 |fuel+1,k,n=>by
  unfold SetTable.sizeAbove.go
  by_cases c:2^k<=n
  ·rw [if_pos c,<-N2];rcases QU fuel (k+1) n with z|z
   ·refine .inr (D7 z ?_);rw [N2];omega
   ·exact .inr z
  ·rw [if_neg c];exact .inl (G5 _)
theorem XD {hashes:Array Int}{w:Nat}(hw:hashes.size<=w)(few:w<=40000):SetTable.sizeAbove w<=80008/\ ∃t' order,t.relaid hashes w=some (t',order)/\t'.led=t.led/\w<=t'.mask/\t'.mask<=2*w+8/\order.toList.Perm (List.range hashes.size)/\Laid t' (order.toList.map λi=>hashes.toList.getD i 0):=by
 obtain⟨m,a,b,c⟩:=above (n:=w) (by omega);have u:SetTable.sizeAbove w<=8\/SetTable.sizeAbove w<=2*w:=QU 64 3 w;refine⟨by omega,?_⟩;obtain⟨t',order,x,mk,y,z,p,q⟩:=Cq (mask:=SetTable.sizeAbove w-1) (finger:=t.finger) (moves:=t.movedTo (SetTable.sizeAbove w-1)) (led:=t.led) (plain:=t.plain) (hashes:=hashes) (n:=m) (by rw [<-a];omega) (by omega) (by omega);exact⟨t',order,x,y,by rw [mk];omega,by rw [mk];omega,p,q⟩
theorem DN {Q:Unit->Shared->Prop}{wd:Nat}(l:Laid t (es.toList.map (·.1)))(ho:s.heap.get? a=some (Wl es ep t))(hw:es.size<=wd)(few:wd<=40000)
 (k: ∀es' t' h',es'.toList.Perm es.toList->Laid t' (es'.toList.map (·.1))->t'.led=t.led->wd<=t'.mask->t'.mask<=2*wd+8->h'.get? a=some (Wl es' (ep+1) t')->Heap.SameBut a s.heap h'->Q () {s with heap:=h'}):wpAny (model prog w) A (setRelay a wd) Q E s:=by
 have fit:t.fits es.size=true:=l.fits (by rw [G0,P2]);obtain⟨up,t',order,er,ld,m1,m2,pm,l'⟩:=XD (t:=t) (hashes:=es.map (·.1)) (w:=wd) (by rw [Array.size_map];exact hw) few;unfold setRelay;refine wpAny_bind (C1 ho rfl fit ?_);dsimp only;rw [er];have sl: ¬SetTable.sizeAbove wd>sizeLine:=X9.mpr (D7 up (by decide));simp only [sl,↓reduceIte];have fe: ∀l:List Nat,(∀i∈l,i<es.size)->l.filterMap (λi=>es[i]?)=l.map (λi=>es.toList.getD i (0,.none)):=λl=>by
  induction l with
  |nil=>exact λ_=>rfl
  |cons i l ih=>
   intro h;have hi:=h i P3;have e:es[i]? =some (es.toList.getD i (0,.none)):=by
    rw [P9,F1,B4 hi];rfl
   rw [List.filterMap_cons_some e,R0,ih λx hx=>h x (P0 _ hx)]
 rw [Array.size_map] at pm;have lt: ∀i∈order.toList,i<es.size:=λi hi=>D3.mp (pm.mem_iff.mp hi)
 have e1:(order.filterMap (es[·]?)).toList=order.toList.map (λi=>es.toList.getD i (0,.none)):=by
  rw [Array.toList_filterMap];exact fe _ lt
 have e2:es.toList=(List.range es.size).map (λi=>es.toList.getD i (0,.none)):=by
  have:=zE es.toList (0,(.none:Value))
  rwa [P2] at this
 have pe:(order.filterMap (es[·]?)).toList.Perm es.toList:=by
  have:=pm.map (λi=>es.toList.getD i (0,.none));rw [<-e2] at this;rw [e1];exact this
 have sz:(order.filterMap (es[·]?)).size=es.size:=by have:=pe.length_eq;rwa [P2,P2] at this
 have hh:(order.filterMap (es[·]?)).toList.map (·.1)=order.toList.map λi=>(es.map (·.1)).toList.getD i 0:=by
  rw [e1,S5];refine T6 λi hi=> ?_
  show (es.toList.getD i (0,.none)).1=(es.map (·.1)).toList.getD i 0;have z:i<es.toList.length:=by rw [P2];exact lt i hi
  rw [Array.toList_map,P9,P9,G6,G3 z];rfl
 rw [<-hh] at l';refine wpAny_bind ?_;show wpAny _ _ (ite _ _ _) _ _ _;rw [if_neg (by rw [sz];simp)];refine G2 ?_;dsimp only;exact wpAny_storeSet_of (s:=s) ho rfl (k _ t' _ pe l' ld m1 m2 (N1 _ ho rfl) (B3 ..)) (by rw [sz];exact D7 (show es.size<=40000 by omega) (by decide))
theorem Cr {Q:Bool->Shared->Prop}{b:Addr}{h:Int}{bv:Bool}{fuel:Nat}(l:Laid t (es.toList.map (·.1)))(few:t.mask<=9000)(lean:es.size*5<t.mask*3)(ho:s.heap.get? a=some (Wl es ep t))
 (refs: ∀ (i:Nat) (y:Value),es[i]? =some (h,y)-> ∃b,y= .ref b)
 (seen: ∀Q':Bool->Shared->Prop,Q' false s->wpAny (model prog w) A (searchCouldBeSeen (.ref b) ((es.filter (·.1==h)).toList.map (·.2))) Q' E s)
 (cmp: ∀ (i:Nat) (y:Value),es[i]? =some (h,y)-> ∀Q':Bool->Shared->Prop,Q' (eqk i) s->wpAny (model prog w) A (holding [y] (eqBool y (.ref b))) Q' E s)
 (byv: ∀Q':Bool->Shared->Prop,Q' bv s->wpAny (model prog w) A (hashByValue 8 (.ref b)) Q' E s)
 (new:(∀ (i:Nat) (y:Value),es[i]? =some (h,y)->eqk i=false)-> ∀es' ep' t' h',es'.toList.Perm (es.push (h,.ref b)).toList->Laid t' (es'.toList.map (·.1))->t'.mask<=max t.mask (8*es.size+16)->es'.size*5<t'.mask*3->t'.led=t.led->h'.get? a=some (Wl es' ep' t')->Heap.SameBut a s.heap h'->Q true {s with heap:=h'})
 (there: ∀ (i:Nat) (y:Value),es[i]? =some (h,y)->eqk i=true->Q false s):wpAny (model prog w) A (setAddHashedIn a (.ref b) h (fuel+1)) Q E s:=by
 have fit:t.fits es.size=true:=l.fits (by rw [G0,P2]);have sz:(es.toList.map (·.1)).length=es.size:=by rw [G0,P2]
 unfold setAddHashedIn;refine wpAny_bind (C1 ho rfl fit ?_);dsimp only;rw [show byScan (.ref b) es=false from rfl];simp only [R1,↓reduceIte];refine wpAny_bind (Gz (eqk:=eqk) l few ho refs seen cmp (λj no em jm wy=> ?_) (λi y e ek=> ?_))
 ·dsimp only;refine wpAny_bind (C1 ho rfl fit ?_);dsimp only;have l1:=l.put em jm wy (by rw [sz];have:=l.big;omega);have l1:=(congrArg (Laid (t.put j).1) (GA es h (.ref b) (t.put j).2)).mpr l1;have z0:(SetTable.insertAt es (t.put j).2 (h,.ref b)).size=es.size+1:=by
   have:=(E8 es (t.put j).2 (h,(.ref b:Value))).length_eq;rw [P2,P2,Array.size_push] at this;exact this
  have z1:(SetTable.insertAt es (t.put j).2 (h,.ref b)).size<=sizeLine:=by
   rw [z0];exact D7 (show es.size+1<=10000 by omega) (by decide)
  have rest: ∀t2:SetTable,Laid t2 ((SetTable.insertAt es (t.put j).2 (h,.ref b)).toList.map (·.1))->t2.led=t.led->t2.mask=t.mask->wpAny (model prog w) A (do storeSet a (SetTable.insertAt es (t.put j).2 (h,.ref b)) t2;if (!false&&t2.tooFull)=true then (do setRelay a (SetTable.grown (es.size+1));pure true) else pure true) Q E s:=λt2 l2 ld mk=>by
   refine wpAny_bind (wpAny_storeSet_of (s:=s) ho rfl ?_ z1);have o1:(s.heap.update a (Obj.putSet (SetTable.insertAt es (t.put j).2 (h,.ref b)) t2)).get? a=some (Wl (SetTable.insertAt es (t.put j).2 (h,.ref b)) (ep+1) t2):=N1 _ ho rfl;cases tf:t2.tooFull with
   |true=>
    simp only [Bool.not_false,W1,↓reduceIte];refine wpAny_bind (DN (wd:=SetTable.grown (es.size+1)) (ep:=ep+1) l2 o1 (by rw [z0];unfold SetTable.grown;split<;>omega) (by unfold SetTable.grown;split<;>omega) λes' t' h' pe l' ld' m1 m2 o2 sb=> ?_);refine G2 (new no es' (ep+1+1) t' h' (pe.trans (E8 ..)) l' ?_ ?_ (ld'.trans ld) o2 (Heap.SameBut.trans (B3 ..) sb))
    ·unfold SetTable.grown at m2;split at m2<;>omega
    ·have:=pe.length_eq;rw [P2,P2,z0] at this;unfold SetTable.grown at m1;split at m1<;>omega
   |false=>
   simp only [Y4,R1,↓reduceIte];refine G2 (new no _ (ep+1) t2 _ (E8 ..) l2 (by omega) ?_ ld (N1 _ ho rfl) (B3 ..));rw [z0];have s2:=l2.size;rw [G0,P2,z0] at s2;have: ¬ (t2.fill*5>=t2.mask*3):=by simpa [SetTable.tooFull] using tf
   have f2:t2.fill=es.size+1:=by unfold SetTable.fill;rw [l2.dum,s2];rfl
   omega
  cases hp:(t.put j).1.plain
  ·simp only [R1,↓reduceIte];refine wpAny_bind (G2 ?_);simp only [↓reduceIte];exact rest (t.put j).1 l1 rfl rfl
  ·simp only [↓reduceIte];refine wpAny_bind (byv _ ?_);cases bv
   ·simp only [R1,↓reduceIte];exact rest _ (l1.plain false) rfl rfl
   ·simp only [↓reduceIte];exact rest (t.put j).1 l1 rfl rfl
 ·exact G2 (there i y e ek)
end L2
namespace L2
open PySem PySem.Spec PyProof.Rows HT
def DO (h h':Heap):Prop:= ∀ (b:Addr) (o:Obj),o.cls= .type "tuple" ->h.get? b=some o->h'.get? b=some o
theorem vd {α β:Type}{M:Model}{A:Around}{E:Value->Shared->Prop}{s:Shared}{f:α->β->Sem (ForInStep β)}{r:β}{Q:β->Shared->Prop}: ∀ (l:List α),(∀x∈l,∀Q':ForInStep β->Shared->Prop,Q' (.yield r) s->wpAny M A (f x r) Q' E s)->Q r s->wpAny M A (forIn l r f) Q E s
 | [],_,q=>G2 q
 |x::l,h,q=>by
  rw [E2];exact wpAny_bind (h x (.head _) _ (vd l (λy hy=>h y (.tail _ hy)) q))
structure MemK (prog:Program)(w:World)(K:Type)[DecidableEq K] where
 is:Heap->K->Addr->Prop
 hash:K->Int
 inj: ∀ {h:Heap} {x y:K} {a:Addr},is h x a->is h y a->x=y
 keep: ∀ {h h':Heap} {x:K} {a:Addr},DO h h'->is h x a->is h' x a
 hashed: ∀ {A:Around} {E:Value->Shared->Prop} {s:Shared} {x:K} {a:Addr} {Q:Int->Shared->Prop},A.units+8<cLine->is s.heap x a->(∀tk,Q (hash x) {s with toks:=tk})->wpAny (model prog w) A (pyHash (.ref a)) Q E s
 same: ∀ {A:Around} {E:Value->Shared->Prop} {s:Shared} {x y:K} {a b:Addr} {Q:Bool->Shared->Prop},A.units+8<cLine->is s.heap x a->is s.heap y b->Q (decide (x=y)) s->wpAny (model prog w) A (eqBool (.ref a) (.ref b)) Q E s
 quiet: ∀ {A:Around} {E:Value->Shared->Prop} {s:Shared} {x:K} {a:Addr} {Q:Bool->Shared->Prop},is s.heap x a->Q true s->wpAny (model prog w) A (eqIsQuiet 8 (.ref a)) Q E s
 cls: ∀ {A:Around} {E:Value->Shared->Prop} {s:Shared} {x:K} {a:Addr} {Q:Bool->Shared->Prop},is s.heap x a->Q false s->wpAny (model prog w) A (ofAClassStatement 8 (.ref a)) Q E s
 byv: ∀ {A:Around} {E:Value->Shared->Prop} {s:Shared} {x:K} {a:Addr} {Q:Bool->Shared->Prop},is s.heap x a->Q true s->wpAny (model prog w) A (hashByValue 8 (.ref a)) Q E s
section
variable {prog:Program}{w:World}{A:Around}{E:Value->Shared->Prop}{s:Shared}{K:Type}[DecidableEq K]
theorem Cs (M:MemK prog w K){x:K}{a:Addr}{stored:List Value}{Q:Bool->Shared->Prop}(hx:M.is s.heap x a)(hs: ∀y∈stored,∃k b,y= .ref b/\M.is s.heap k b)(q:Q false s):wpAny (model prog w) A (searchCouldBeSeen (.ref a) stored) Q E s:=by
 unfold searchCouldBeSeen;refine wpAny_bind (vd stored (λy hy Q' q'=> ?_) (G2 q));obtain⟨k,b,rfl,hk⟩:=hs y hy
 by_cases c:(a==b)=true
 ·simp only [c,Bool.true_or,↓reduceIte];exact G2 q'
 ·simp only [c,show carriedByValue (.ref a)=false from rfl,Bool.false_and,Bool.or_false,R1,↓reduceIte];refine wpAny_bind (M.quiet hx (wpAny_bind (M.quiet hk (wpAny_bind (M.cls hx (wpAny_bind (M.cls hk ?_)))))));exact G2 q'
structure SetT (M:MemK prog w K)(L:Bool)(is:K->Addr->Prop)(f:Int×Value->K)(es:Array (Int×Value))(t:SetTable)(ks:List K):Prop where
 laid:Laid t (es.toList.map (·.1))
 led:t.led=L
 lean:es.size*5<t.mask*3
 mask:t.mask<=8*ks.length+16
 each: ∀e∈es.toList,e.1=M.hash (f e)/\ ∃b,e.2= .ref b/\is (f e) b
 nd:(es.toList.map f).Nodup
 mem: ∀k,k∈es.toList.map f↔k∈ks
theorem ve: ∀ {xs ys:List K},xs.Nodup->(∀x∈xs,x∈ys)->xs.length<=ys.length
 | [],_,_,_=>B7 _
 |x::xs,ys,nd,h=>by
  obtain⟨n1,n2⟩:=M5.mp nd;have le:=ve (ys:=ys.erase x) n2 λy hy=>(O9 (λ(e:y=x)=>n1 (by rw [<-e];exact hy))).mpr (h y (.tail _ hy))
  rw [F8 (h x (.head _))] at le;have pos:=L3 (h x (.head _));rw [P8];omega
variable {is:K->Addr->Prop}{es:Array (Int×Value)}
theorem SetT.size {M:MemK prog w K}{L:Bool}{f:Int×Value->K}{t:SetTable}{ks:List K}(S:SetT M L is f es t ks):es.size<=ks.length:=by
 have:=ve S.nd λk hk=>(S.mem k).mp hk
 rwa [G0,P2] at this
theorem SetT.tab {M:MemK prog w K}{L:Bool}{f:Int×Value->K}{t:SetTable}{ks:List K}(S:SetT M L is f es t ks):Tab L es.size t:=
 ⟨S.laid.fits (by rw [G0,P2]),S.led,S.laid.dum,λ_=>S.laid.rise⟩
theorem DP {M:MemK prog w K}{L:Bool}{f:Int×Value->K}{ep:Nat}{t:SetTable}{ks:List K}{a b:Addr}{k:K}{Q:Bool->Shared->Prop}(hu:A.units+8<cLine)(S:SetT M L is f es t ks)(ho:s.heap.get? a=some (Wl es ep t))(few:ks.length<1000)(to: ∀k b,is k b->M.is s.heap k b)(hk:is k b)
 (q: ∀r f' es' ep' t' h' tk,SetT M L is f' es' t' (k::ks)->h'.get? a=some (Wl es' ep' t')->Heap.SameBut a s.heap h'->Q r {s with heap:=h',toks:=tk}):wpAny (model prog w) A (setAdd a (.ref b)) Q E s:=by
 refine M7 (wpAny_bind (M.hashed hu (to _ _ hk) λtk=>M7 ?_));show wpAny _ _ (setAddHashedIn a (.ref b) (M.hash k) (99999+1)) _ _ _;have at_: ∀ (i:Nat) (y:Value),es[i]? =some (M.hash k,y)->(M.hash k,y)∈es.toList:=λi y e=>by
  rw [<-F1] at e;exact R8 e
 refine Cr (s:= {s with toks:=tk}) (eqk:=λi=>match es[i]? with
  |some e=>decide (f e=k)
  |none=>false) (bv:=true) S.laid (D7 S.mask (by omega)) S.lean ho (λi y e=> ?_) (λQ' q'=> ?_) (λi y e Q' q'=> ?_) (λQ' q'=>M.byv (to _ _ hk) q') (λno es' ep' t' h' pe l' mk ln ld o' sb=> ?_) (λi y e ek=> ?_)
 ·obtain⟨_,c,d,_⟩:=S.each _ (at_ i y e);exact⟨c,d⟩
 ·refine Cs M (to _ _ hk) (λy hy=> ?_) q';obtain⟨e,he,rfl⟩:=D6.mp hy;obtain⟨_,c,d,i⟩:=S.each e (by rw [Array.toList_filter] at he;exact(W7.mp he).1);exact⟨_,c,d,to _ _ i⟩
 ·obtain⟨_,c,d,i'⟩:=S.each _ (at_ i y e);have d:y= .ref c:=d;subst d;simp only [e] at q';exact M7 (M.same hu (to _ _ i') (to _ _ hk) q')
 ·have kn:k ∉ ks:=λz=>by
   obtain⟨e,he,fe⟩:=D6.mp ((S.mem k).mpr z);obtain⟨i,hi⟩:=A0 he;obtain⟨e1,e2⟩:=e;have h1:=(S.each _ he).1;rw [fe] at h1;have h1:e1=M.hash k:=h1;subst h1;have hi:es[i]? =some (M.hash k,e2):=by rw [<-F1];exact hi
   have:=no i e2 hi;simp only [hi,fe,decide_true] at this;cases this
  have same: ∀e∈es.toList,(if e=(M.hash k,.ref b) then k else f e)=f e:=λe he=>by
   by_cases c:e=(M.hash k,.ref b)
   ·rw [if_pos c];obtain⟨_,c',d,i⟩:=S.each e he;rw [c] at d;cases d;exact M.inj (to _ _ hk) (to _ _ i)
   ·rw [if_neg c]
  have me:(es.toList.map λe=>if e=(M.hash k,.ref b) then k else f e)=es.toList.map f:=T6 same;have pk:=pe.map λe=>if e=(M.hash k,.ref b) then k else f e
  rw [V3,T3,me] at pk;have one:(List.map (λe=>if e=(M.hash k,.ref b) then k else f e) [(M.hash k,.ref b)])= [k]:=by simp
  rw [one] at pk;have sz:=S.size;refine q true (λe=>if e=(M.hash k,.ref b) then k else f e) es' ep' t' h' tk ⟨l',ld.trans S.led,ln,?_,λe he=> ?_,pk.nodup_iff.mpr ?_,λm=>pk.mem_iff.trans ?_⟩ o' sb
  ·have:=S.mask;rw [P8];omega
  ·have z:=pe.mem_iff.mp he;rw [V3] at z;rcases D4.mp z with z|z
   ·rw [same e z];exact S.each e z
   ·have z:=G8.mp z;subst z;rw [if_pos rfl];exact⟨rfl,b,rfl,hk⟩
  ·rw [V6];refine⟨S.nd,by simp,λx hx y hy e=> ?_⟩;have:y=k:=by simpa using hy
   subst this;subst e;exact kn ((S.mem _).mp hx)
  ·rw [D4,S.mem m,G8,G4,or_comm]
 ·have hin:k∈ks:=by
   simp only [e,F7] at ek;rw [<-ek];exact(S.mem _).mp (Y6 (at_ i y e))
  refine q false f es ep t s.heap tk ⟨S.laid,S.led,S.lean,?_,S.each,S.nd,λm=>(S.mem m).trans ?_⟩ ho (Heap.SameBut.refl _ _)
  ·have:=S.mask;rw [P8];omega
  ·rw [G4];exact⟨.inr,λz=>z.elim (λe=>e ▸ hin) id⟩
end
section
variable {prog:Program}{w:World}{A:Around}{E:Value->Shared->Prop}{s:Shared}
theorem Ct (n:Nat){v:Value}(h:carriedByValue v=true):ofAClassStatement n v=pure false:=by
 cases v<;>first|(cases h;done)|simp [ofAClassStatement]
theorem NI {n:Int}{v:Value}(h:(intKind prog w).is n v=true): ∃tk,v= .int n tk:=by
 cases v<;>simp [intKind,Value.isInt] at h;exact⟨_,by rw [h]⟩
theorem GB {ks:List Int}{vs:List Value}(h:ItemsAre (intKind prog w) ks vs): ∀v∈vs,∃n tk,v= .int n tk:=by
 induction h with
 |nil=>exact λv hv=>absurd hv P5
 |cons h1 _ ih=>
  intro v hv;rcases G4.mp hv with rfl|hv
  ·obtain⟨tk,e⟩:=NI h1;exact⟨_,tk,e⟩
  ·exact ih v hv
theorem DQ (d:Nat){x:List Int}{a:Addr}{Q:Bool->Shared->Prop}:IsTupleKey (intKind prog w) s.heap x a->Q false s->wpAny (model prog w) A (ofAClassStatement (d+1) (.ref a)) Q E s
 |⟨_,_,_,ho,hc,hd,hi⟩,q=>by
  unfold ofAClassStatement;refine wpAny_bind (J4 (T:= "tuple") ⟨_,ho,hc⟩ ?_);simp only [C9,↓reduceIte,pure_bind,K5,R1];refine wpAny_bind (A2 ho hd (wpAny_bind ?_));simp only [<-N3];refine vd _ (λv hv Q' q'=> ?_) (G2 q);rw [Ct d (hi.byValue v hv)];exact G2 q'
theorem Cu (d:Nat)(m:Int)(tk:Tok):hashByValue d (.int m tk)=pure true:=by cases d<;>rfl
theorem DR (d:Nat){x:List Int}{a:Addr}{Q:Bool->Shared->Prop}:IsTupleKey (intKind prog w) s.heap x a->Q true s->wpAny (model prog w) A (hashByValue (d+1) (.ref a)) Q E s
 |⟨_,_,_,ho,hc,hd,hi⟩,q=>by
  unfold hashByValue;refine wpAny_bind (E5 (T:= "tuple") ⟨_,ho,hc⟩ F.slot_tuple_hash.lookup ?_);refine wpAny_bind (A2 ho hd (wpAny_bind ?_));simp only [A3,<-N3];refine vd _ (λv hv Q' q'=> ?_) (G2 q);obtain⟨m,tk,rfl⟩:=GB hi v hv;rw [Cu];exact G2 q'
def Ss (prog:Program)(w:World):MemK prog w (List Int) where
 is:=λh x a=>IsTupleKey (intKind prog w) h x a
 hash:=tupleKeyHash (intKind prog w)
 inj:=λhx hy=>hx.inj hy
 keep:=λk ⟨o,items,n,ho,hc,hd,hi⟩=>⟨o,items,n,k _ o hc ho,hc,hd,hi⟩
 hashed:=λhu hk q=>wpAny_pyHash_tuple (by omega) hk (q _)
 same:=λhu hx hy q=>wpAny_eqBool_tuple (by omega) hx hy q
 quiet:=λhk q=>wpAny_eqIsQuiet_tuple hk q
 cls:=λhk q=>DQ 7 hk q
 byv:=λhk q=>DR 7 hk q
end
end L2
namespace L2
open PySem PySem.Spec PyProof.Rows HT PySem.SeqAt
section
variable {prog:Program}{w:World}{A:Around}{E:Value->Shared->Prop}{a I:Addr}{fp wr:List Addr}{n:Nat}{P:Nat->Value->Prop}{St:Nat->Heap->Prop}{K:Type}[DecidableEq K]{M:MemK prog w K}{L:Bool}{is:K->Addr->Prop}{key:Nat->K}
theorem JX {R:Result->Shared->Prop}(hu:A.units+16<cLine)(W:Walks prog w A.in1 I fp wr n P St)(num: ∀i v,P i v-> ∃b,v= .ref b/\is (key i) b)(na:a ∉ fp)(few:n<1000)(nt: ∀i h,St i h-> ∀b∈wr,∀o,h.get? b=some o->o.cls≠ .type "tuple"):
 ∀ (k i:Nat) (s:Shared) (f:Int×Value->K) (es:Array (Int×Value)) (ep:Nat) (t:SetTable),i+k=n->St i s.heap->s.heap.get? a=some (Wl es ep t)->(∀k b,is k b->M.is s.heap k b)->SetT M L is f es t ((List.range i).map key).reverse->
  (∀h' tk f' es' ep' t',h'.get? a=some (Wl es' ep' t')->SetT M L is f' es' t' ((List.range n).map key).reverse->(∀b o,b≠a->b ∉ wr->s.heap.get? b=some o->h'.get? b=some o)->R (.ok (.ret .none)) {s with heap:=h',toks:=tk})->
  codeAny (model prog w) A (.builtin "set.update.loop" ⟨[.ref a,.ref I],[]⟩) R s
 |0,i,s,f,es,ep,t,hk,st,ha,to,S,q=>by
  obtain rfl:i=n:=by omega
  refine X2 Uo ?_;rw [Around.under_plainId Wm];exact wpAny_bind (W.done s _ _ st λh' tk kept=>G2 (q h' tk f es ep t (kept _ _ (λz=>na (W.sub _ z)) ha) S λb o _ nb e=>kept b o nb e))
 |k+1,i,s,f,es,ep,t,hk,st,ha,to,S,q=>by
  refine X2 Uo ?_;rw [Around.under_plainId Wm];refine wpAny_bind (W.item i s _ _ (by omega) st λv h1 tk1 pv st1 kept1=> ?_);obtain⟨b,rfl,hb⟩:=num i v pv;have ha1:=kept1 _ _ (λz=>na (W.sub _ z)) ha;have to1: ∀k b,is k b->M.is h1 k b:=λk b z=>M.keep (λc o hc e=>kept1 c o (λm=>nt i _ st c m o e hc) e) (to k b z)
  refine wpAny_bind (M7 (DP (s:= {s with heap:=h1,toks:=tk1}) (show A.units+1+8<cLine by omega) S ha1 (by simp;omega) to1 hb λr f2 es2 ep2 t2 h2 tk2 S2 ha2 same2=>G2 ⟨plainId_quiet Wm _,?_⟩));have S3:SetT M L is f2 es2 t2 ((List.range (i+1)).map key).reverse:=by
   rw [O3,T3,List.reverse_append];exact S2
  have kep: ∀c o,o.cls= .type "tuple" ->h1.get? c=some o->h2.get? c=some o:=λc o hc e=>same2.extBut _ _ (λz=>by
   subst z;rw [show h1.get? c=some (Wl es ep t) from ha1] at e;cases e;exact absurd (show Value.type "set" =Value.type "tuple" from hc) (by decide)) e
  refine JX hu W num na few nt k (i+1) {s with heap:=h2,toks:=tk2} f2 es2 ep2 t2 (by omega) (W.frame _ _ _ st1 λb hb o e=>same2.extBut _ _ (λz=>na (z ▸ hb)) e) ha2 (λk b z=>M.keep kep (to1 k b z)) S3 λh' tk' f' es' ep' t' ha' S' kept'=> ?_
  exact q h' tk' f' es' ep' t' ha' S' λb o ba bw e=>kept' b o ba bw (same2.extBut _ _ ba (kept1 b o bw e))
theorem QV (L:Bool)(f:Int×Value->K):SetT M L is f #[] (.fresh 0 0 L) []:=⟨Gy 0 0 L,rfl,(by show 0*5<7*3;decide),(by show 7<=8*0+16;decide),λe he=>absurd he (by simp),by simp,λk=>by simp⟩
variable {s:Shared}
theorem DS {l:Addr}{vs:List Value}{ep:Nat}{T:String}{Q:Option Value->Shared->Prop}(hu:A.units+32<cLine)(calm:A.handled=none)(hT:T= "list" \/T= "tuple")
 (hl: ∃o,s.heap.get? l=some o/\o.cls= .type T/\ ∃c,o.data= .seq vs.toArray c)(hM: ∀i v,vs[i]? =some v-> ∃b,v= .ref b/\is (key i) b)(to: ∀k b,is k b->M.is s.heap k b)(few:vs.length<1000)(ha:s.heap.get? a=some (Wl #[] ep (.fresh 0 0 (Wn w))))(la:l≠a)
 (k: ∀h' tk f' es' ep' t',h'.get? a=some (Wl es' ep' t')->SetT M (Wn w) is f' es' t' ((List.range vs.length).map key).reverse->(∀b o,b≠a->s.heap.get? b=some o->h'.get? b=some o)->Q (some .none) {s with heap:=h',toks:=tk}):
 wpAny (model prog w) A (callSpecial? (.ref a) "__init__" [.ref l]) Q E s:=by
 have ty:s.TypeIs (.ref a) "set" :=⟨_,ha,rfl⟩;refine S9 ty F.called_set.init (X6 (K2 F.called_set.init.plain WJ (YS ty ?_)));have f1:=Up;have f2:=Uq;have f3:=Xx;have f4:=Xy;obtain⟨⟨oc,od,odt,osl⟩,hol,hc,c,hd⟩:=hl;simp only at hc hd;subst hc hd;have state:=λ{P:Array (Int×Value)×Nat×SetTable->Shared->Prop} {E':Value->Shared->Prop} {A':Around}=>C1 (prog:=prog) (w:=w) (A:=A') (E:=E') (Q:=P) (s:=s) ha rfl (MF (Wn w)).tab.fits
 have far:a≠s.heap.objs.size:=λz=>S1 _ (z ▸ P6 ha)
 have lfar:l≠s.heap.objs.size:=λz=>S1 _ (z ▸ P6 hol)
 have na:a ∉ [s.heap.objs.size,l]:=by simp [far,la.symm]
 have sv:vs.toArray.size=vs.length:=G7 ..;have fin: ∀ {o:Obj} h' tk f' es' ep' t',h'.get? a=some (Wl es' ep' t')->SetT M (Wn w) is f' es' t' ((List.range vs.toArray.size).map key).reverse->(∀b ob,b≠a->b ∉ [s.heap.objs.size]->(s.heap.push o).get? b=some ob->h'.get? b=some ob)->Q (some .none) {s with heap:=h',toks:=tk}:=λh' tk f' es' ep' t' e S kept=>by
  rw [sv] at S;exact k h' tk f' es' ep' t' e S λb ob nb q=>kept b ob nb (λz=>S1 _ (G8.mp z ▸ P6 q)) (G1 _ q)
 have to1: ∀ (o:Obj) (k:K) (b:Addr),is k b->M.is (s.heap.push o) k b:=λo k b z=>M.keep (λc ob hc e=>G1 _ e) (to k b z)
 rcases hT with rfl|rfl
 ·have tl:s.TypeIs (.ref l) "list" :=⟨_,hol,rfl⟩;have isl:s.heap.IsList l vs.toArray:=⟨_,hol,rfl,c,rfl⟩
  wp_walk using state,O6 isl
  refine JX (f:=λ_=>key 0) (M:=M) (is:=is) (key:=key) (show A.units+1+16<cLine by omega) (Walks.list (prog:=prog) (w:=w) (A:=A.in1.in1) calm s.heap.objs.size l lfar vs.toArray) (λi v hv=>hM i v (by simpa using hv)) na (by rw [sv];exact few) (λi h st b hb o e=> ?_) vs.toArray.size 0 _ #[] ep _ (J6 _) ⟨⟨_,D1 _ rfl,rfl,rfl⟩,⟨_,G1 _ hol,rfl,c,rfl⟩⟩ (G1 _ ha) (to1 _) (QV _ _) λh' tk f' es' ep' t' e S kept=>G2 (G2 (fin h' tk f' es' ep' t' e S kept))
  obtain⟨⟨o',e',c',_⟩,_⟩:=st;rw [G8.mp hb,e'] at e;cases e;rw [c'];decide
 ·have tl:s.TypeIs (.ref l) "tuple" :=⟨_,hol,rfl⟩;have isl:s.heap.IsTuple l vs.toArray:=⟨_,hol,rfl,c,rfl⟩
  wp_walk using state,F0 isl
  refine JX (f:=λ_=>key 0) (M:=M) (is:=is) (key:=key) (show A.units+1+16<cLine by omega) (Walks.tuple (prog:=prog) (w:=w) (A:=A.in1.in1) calm s.heap.objs.size l lfar vs.toArray) (λi v hv=>hM i v (by simpa using hv)) na (by rw [sv];exact few) (λi h st b hb o e=> ?_) vs.toArray.size 0 _ #[] ep _ (J6 _) ⟨⟨_,D1 _ rfl,rfl,rfl⟩,⟨_,G1 _ hol,rfl,c,rfl⟩⟩ (G1 _ ha) (to1 _) (QV _ _) λh' tk f' es' ep' t' e S kept=>G2 (G2 (fin h' tk f' es' ep' t' e S kept))
  obtain⟨⟨o',e',c',_⟩,_⟩:=st;rw [G8.mp hb,e'] at e;cases e;rw [c'];decide
theorem MM {l:Addr}{vs:List Value}{T:String}{Q:Value->Shared->Prop}(hu:A.units+40<cLine)(calm:A.handled=none)(hT:T= "list" \/T= "tuple")
 (hl: ∃o,s.heap.get? l=some o/\o.cls= .type T/\ ∃c,o.data= .seq vs.toArray c)(hM: ∀i v,vs[i]? =some v-> ∃b,v= .ref b/\is (key i) b)(to: ∀k b,is k b->M.is s.heap k b)(few:vs.length<1000)
 (k: ∀h' tk f' es' ep' t',h'.get? s.heap.objs.size=some (Wl es' ep' t')->SetT M (Wn w) is f' es' t' ((List.range vs.length).map key).reverse->(∀b o,s.heap.get? b=some o->h'.get? b=some o)->Q (.ref s.heap.objs.size) {s with heap:=h',toks:=tk}):
 wpAny (model prog w) A (call (.type "set") [.ref l]) Q E s:=by
 have fits:checkTypeCall "set" ⟨[.ref l],[]⟩=pure ():=by kernel_rfl
 have newFits:checkBuiltinCall "set.__new__" ⟨[.type "set",.ref l],[]⟩=pure ():=by kernel_rfl
 obtain⟨o,hol,r⟩:=hl;refine L2.Wi (Made:=λv s₁=>v= .ref s.heap.objs.size/\s₁= {s with heap:=s.heap.push (Wl #[] 0 (.fresh 0 0 (Wn w)))}) F.called_set fits
  (X6 (K2 F.called_set.plain F.entry_set_new (wpAny_of_eq newFits (MG ⟨rfl,rfl⟩)))) λv s₁ ⟨ev,es⟩=> ?_
 subst ev es;have at_:(s.heap.push (Wl #[] 0 (.fresh 0 0 (Wn w)))).get? s.heap.objs.size=some (Wl #[] 0 (.fresh 0 0 (Wn w))):=D1 _ rfl;refine⟨⟨_,at_,rfl⟩,DS (s:= {s with heap:=s.heap.push (Wl #[] 0 (.fresh 0 0 (Wn w)))}) (M:=M) (is:=is) (key:=key) (show A.units+1+32<cLine by omega) calm hT ⟨o,G1 _ hol,r⟩ hM (λk b z=>M.keep (λc o hc e=>G1 _ e) (to k b z)) few at_ (λz=>S1 _ (z ▸ P6 hol)) λh' tk f' es' ep' t' e S kept=>⟨rfl,k h' tk f' es' ep' t' e S λb ob q=>kept b ob (λz=>S1 _ (z ▸ P6 q)) (G1 _ q)⟩⟩
end
theorem Yk {prog:Program}{w:World}: ∀ {vs:List Value} {ns:List Int},IntsAre vs ns->ItemsAre (intKind prog w) ns vs
 |_,_,.nil=> .nil
 |_,_,.cons n t a=> .cons (by simp [intKind,Value.isInt]) (Yk a)
variable {X:Cx}{pins:List (Addr×Obj)}{H:Hp}
theorem Of {σ:St}{s:Shared}(I:Inv X pins σ H s)(k:List Int)(b:Addr)(h:H b=some (.tup (k.map V.int))):(Ss X.prog X.w).is s.heap k b:=by
 obtain⟨_,us,r2,o,e,c,_,n,d⟩:=I.hok b _ h;exact⟨o,us.toArray,n,e,c,d,Yk (PP r2)⟩
section
variable {prog:Program}{w:World}{A:Around}{E:Value->Shared->Prop}{s:Shared}
inductive RowsIn (prog:Program)(w:World)(h:Heap):List (List Int)->List Value->Prop
 |nil:RowsIn prog w h [] []
 |cons {r:List Int} {b:Addr} {T:List (List Int)} {vs:List Value}:IsTupleKey (intKind prog w) h r b->RowsIn prog w h T vs->RowsIn prog w h (r::T) (.ref b::vs)
variable {h:Heap}
theorem RowsIn.one: ∀ {T U:List (List Int)} {vs:List Value},RowsIn prog w h T vs->RowsIn prog w h U vs->T=U
 |_,_,_,.nil,.nil=>rfl
 |_,_,_,.cons a x,.cons b y=>by rw [a.inj b,x.one y]
theorem RowsIn.keep {h':Heap}(k:DO h h'): ∀ {T:List (List Int)} {vs:List Value},RowsIn prog w h T vs->RowsIn prog w h' T vs
 |_,_,.nil=> .nil
 |_,_,.cons ⟨o,items,n,ho,hc,hd,hi⟩ x=> .cons ⟨o,items,n,k _ o hc ho,hc,hd,hi⟩ (x.keep k)
theorem RowsIn.each: ∀ {T:List (List Int)} {vs:List Value},RowsIn prog w h T vs-> ∀v∈vs,∃r b,v= .ref b/\IsTupleKey (intKind prog w) h r b
 |_,_,.nil,v,hv=>absurd hv P5
 |_,_,.cons a x,v,hv=>by
  rcases G4.mp hv with e|hv
  ·exact⟨_,_,e,a⟩
  ·exact x.each v hv
def XE (prog:Program)(w:World)(h:Heap)(T:List (List Int))(a:Addr):Prop:= ∃o items n,h.get? a=some o/\o.cls= .type "tuple" /\o.data= .seq items n/\RowsIn prog w h T items.toList
def Cv (prog:Program)(w:World)(T:List (List Int)):Int:=reduceHash (Builtin.Tuple.tupleHashOf (T.map (tupleKeyHash (intKind prog w))))
theorem Ut {Q:Array Int->Shared->Prop}(hu:A.units+4<cLine): ∀ {vs:List Value} {U:List (List Int)} (b:Array Int) (s1:Shared),s1.heap=s.heap->RowsIn prog w s.heap U vs->(∀tk,Q (b++(U.map (tupleKeyHash (intKind prog w))).toArray) {s1 with toks:=tk})->
 wpAny (model prog w) A (forIn vs b λx r=>do let h <-pyHash x;pure (ForInStep.yield (r.push h))) Q E s1
 |_,_,b,s1,_,.nil,q=>G2 (by have:=q s1.toks;simpa using this)
 |_,_,b,s1,e1,.cons (r:=r) (T:=U) a x,q=>by
  rw [E2];refine wpAny_bind (wpAny_bind (wpAny_pyHash_tuple (by omega) (by rw [e1];exact a) (G2 ?_)));exact Ut hu (b.push (tupleKeyHash (intKind prog w) r)) _ e1 x λtk=>by
   have:=q tk;rw [R0] at this;simpa using this
variable {T:List (List Int)}{a:Addr}
theorem MN {Q:Int->Shared->Prop}(hu:A.units+8<cLine)(hT:XE prog w s.heap T a)(q: ∀tk,Q (Cv prog w T) {s with toks:=tk}):wpAny (model prog w) A (pyHash (.ref a)) Q E s:=by
 obtain⟨o,items,n,ho,hc,hd,hi⟩:=hT;have ty:s.TypeIs (.ref a) "tuple" :=⟨o,ho,hc⟩;have room:A.units<cLine:=by omega
 have slot:=λ{M:Model} {A':Around} {E':Value->Shared->Prop} {P:Option Value->Shared->Prop}=>E5 (M:=M) (A:=A') (E:=E') (Q:=P) ty F.slot_tuple_hash.lookup
 unfold pyHash pyHashByItsType;refine wpAny_bind (wpAny_cRoomFor_or (.inr room) (wpAny_bind (slot ?_)));rw [if_neg (by simp)];refine wpAny_bind (slot (wpAny_bind (wpAny_callSpecialIfBoundUnlessNone?_slot ty F.slot_tuple_hash (M8 F.slot_tuple_hash ty F.entry_tuple_hash ?_ (F.args_tuple_hash_1 _)))));show wpAny _ _ (Builtin.Tuple.tupleItemsOf (.ref a) >>= _) _ _ s;refine wpAny_bind (wpAny_tupleItemsOf ho hd (wpAny_bind ?_));rw [<-N3];refine Ut (A:=A.in1) (show A.units+1+4<cLine by omega) #[] s rfl hi λtk=> ?_
 have told:=q (tk+1);unfold Cv reduceHash at told;show wpAny _ _ (retInt (Builtin.Tuple.tupleHashOf ((#[]:Array Int)++(T.map (tupleKeyHash (intKind prog w))).toArray).toList)) _ _ _;rw [show ((#[]:Array Int)++(T.map (tupleKeyHash (intKind prog w))).toArray).toList=T.map (tupleKeyHash (intKind prog w)) by simp];refine wpAny_ret_mkInt ?_;show wpAny _ _ (pyHashByItsType.reduced _) _ _ _;unfold pyHashByItsType.reduced;split
 ·rename_i c;rw [if_pos c] at told;exact G2 told
 ·rename_i c;rw [if_neg c] at told;exact wpAny_bind (X5 (G2 told))
theorem DT (d:Nat){x:List Int}{a:Addr}{Q:Bool->Shared->Prop}:IsTupleKey (intKind prog w) s.heap x a->Q true s->wpAny (model prog w) A (eqIsQuiet (d+1) (.ref a)) Q E s
 |⟨_,_,_,ho,hc,hd,hi⟩,q=>by
  unfold eqIsQuiet;refine wpAny_bind (E5 (T:= "tuple") ⟨_,ho,hc⟩ F.slot_tuple_eq.lookup (wpAny_bind (K0 (T:= "tuple") ⟨_,ho,hc⟩ isSubtype_tuple_tuple ?_)));simp only [K5,R1,↓reduceIte];refine wpAny_bind (A2 ho hd (wpAny_bind ?_));simp only [A3,<-N3];refine vd _ (λv hv Q' q'=> ?_) (G2 q);rw [eqIsQuiet_byValue d (hi.byValue v hv)];exact G2 q'
variable {Q:Bool->Shared->Prop}
theorem DU:XE prog w s.heap T a->Q true s->wpAny (model prog w) A (eqIsQuiet 8 (.ref a)) Q E s
 |⟨_,_,_,ho,hc,hd,hi⟩,q=>by
  unfold eqIsQuiet;refine wpAny_bind (E5 (T:= "tuple") ⟨_,ho,hc⟩ F.slot_tuple_eq.lookup (wpAny_bind (K0 (T:= "tuple") ⟨_,ho,hc⟩ isSubtype_tuple_tuple ?_)));simp only [K5,R1,↓reduceIte];refine wpAny_bind (A2 ho hd (wpAny_bind ?_));simp only [A3,<-N3];refine vd _ (λv hv Q' q'=> ?_) (G2 q);obtain⟨r,b,rfl,hr⟩:=hi.each v hv;exact wpAny_bind (DT 6 hr (G2 q'))
theorem Cw:XE prog w s.heap T a->Q false s->wpAny (model prog w) A (ofAClassStatement 8 (.ref a)) Q E s
 |⟨_,_,_,ho,hc,hd,hi⟩,q=>by
  unfold ofAClassStatement;refine wpAny_bind (J4 (T:= "tuple") ⟨_,ho,hc⟩ ?_);simp only [C9,↓reduceIte,pure_bind,K5,R1];refine wpAny_bind (A2 ho hd (wpAny_bind ?_));simp only [<-N3];refine vd _ (λv hv Q' q'=> ?_) (G2 q);obtain⟨r,b,rfl,hr⟩:=hi.each v hv;exact wpAny_bind (DQ 6 hr (G2 q'))
theorem Cy:XE prog w s.heap T a->Q true s->wpAny (model prog w) A (hashByValue 8 (.ref a)) Q E s
 |⟨_,_,_,ho,hc,hd,hi⟩,q=>by
  unfold hashByValue;refine wpAny_bind (E5 (T:= "tuple") ⟨_,ho,hc⟩ F.slot_tuple_hash.lookup (wpAny_bind (A2 ho hd (wpAny_bind ?_))));simp only [A3,<-N3];refine vd _ (λv hv Q' q'=> ?_) (G2 q);obtain⟨r,b,rfl,hr⟩:=hi.each v hv;exact wpAny_bind (DR 6 hr (G2 q'))
theorem Yl: ∀ {ks:List Int} {vs:List Value},ItemsAre (intKind prog w) ks vs->ReadsAll h vs (ks.map PyData.int) []
 |_,_,.nil=> .nil
 |_,_,.cons a x=>by
  obtain⟨tk,rfl⟩:=NI a;exact .cons (as:= []) (bs:= []) (.int _ _) (Yl x)
theorem JY: ∀ {T:List (List Int)} {vs:List Value},RowsIn prog w h T vs->ReadsAll h vs (T.map Wh) []
 |_,_,.nil=> .nil
 |_,_,.cons ⟨_,_,_,ho,hc,hd,hi⟩ x=> .cons (as:= []) (bs:= []) (.tuple ho hc hd (Yl hi)) (JY x)
theorem Cz {U:List (List Int)}{b:Addr}(hu:A.units+8<cLine)(hT:XE prog w s.heap T a)(hU:XE prog w s.heap U b)(q:Q (decide (T=U)) s):wpAny (model prog w) A (eqBool (.ref a) (.ref b)) Q E s:=by
 obtain⟨_,_,_,ho,hc,hd,hi⟩:=hT;obtain⟨_,_,_,ho',hc',hd',hi'⟩:=hU;have lay: ∀V:List (List Int),PyData.canLay0 (.tuple (V.map Wh))=true:=λV=>by simp only [PyData.canLay0];exact yz V
 have dep:PyData.depth (.tuple (T.map Wh))<=4:=by simp only [PyData.depth];have:=vE T;omega
 refine eqBoolOverData prog w A E s _ _ _ _ _ _ Q (.tuple ho hc hd (JY hi)) (.tuple ho' hc' hd' (JY hi')) (lay T) (lay U) (by have:=Nat.min_le_left (PyData.depth (.tuple (T.map Wh))) (PyData.depth (.tuple (U.map Wh)));omega) ?_;show Q (PyData.eqvAll (T.map Wh) (U.map Wh)) s;rw [zk];exact q
def AM (prog:Program)(w:World):MemK prog w (List (List Int)) where
 is:=λh T a=>XE prog w h T a
 hash:=Cv prog w
 inj:=λ⟨_,_,_,ho,_,hd,hi⟩ ⟨_,_,_,ho',_,hd',hi'⟩=>by
  rw [ho] at ho';cases ho';rw [hd] at hd';cases hd';exact hi.one hi'
 keep:=λk ⟨o,items,n,ho,hc,hd,hi⟩=>⟨o,items,n,k _ o hc ho,hc,hd,hi.keep k⟩
 hashed:=λhu hk q=>MN hu hk q
 same:=λhu hx hy q=>Cz hu hx hy q
 quiet:=λhk q=>DU hk q
 cls:=λhk q=>Cw hk q
 byv:=λhk q=>Cy hk q
end
theorem XF {K:Type}[DecidableEq K]{xs ys:List K}(nd:xs.Nodup)(m: ∀x,x∈xs↔x∈ys):xs.length=ys.length↔ys.Nodup:=by
 refine⟨λe=> ?_,λh=>Nat.le_antisymm (ve nd λx hx=>(m x).mp hx) (ve h λx hx=>(m x).mpr hx)⟩;have key: ∀l:List K,l.Nodup\/ ∃l':List K,l'.length<l.length/\ ∀x∈l,x∈l':=by
  intro l
  induction l with
  |nil=>exact .inl List.nodup_nil
  |cons a l ih=>
   by_cases c:a∈l
   ·exact .inr ⟨l,by rw [P8];omega,λx hx=>by rcases G4.mp hx with rfl|hx<;>assumption⟩
   ·rcases ih with z|⟨l',z1,z2⟩
    ·exact .inl (M5.mpr ⟨c,z⟩)
    ·exact .inr ⟨a::l',by rw [P8,P8];omega,λx hx=>by
      rcases G4.mp hx with rfl|hx
      ·exact P3
      ·exact P0 _ (z2 x hx)⟩
 rcases key ys with z|⟨l',z1,z2⟩
 ·exact z
 ·have:=ve nd λx hx=>z2 x ((m x).mp hx)
  omega
def MP (H:Hp):List V->List (List Int)->Prop
 | [],[]=>True
 |v::vs,r::T=>(∃c,v= .ref c/\H c=some (.tup (r.map V.int)))/\MP H vs T
 |_,_=>False
def CN (H:Hp)(T:List (List Int))(b:Addr):Prop:= ∃us,H b=some (.tup us)/\MP H us T
def QX (prog:Program)(w:World)(H:Hp)(o:Obj)(Ts:List (List (List Int))):Prop:= ∃es ep t f,o=Wl es ep t/\SetT (AM prog w) (Wn w) (CN H) f es t Ts
theorem DV {σ:St}{s:Shared}(I:Inv X pins σ H s): ∀ {vs:List V} {T:List (List Int)} {us:List Value},MP H vs T->Vals vs us->RowsIn X.prog X.w s.heap T us
 | [],[],_,_,.nil=> .nil
 |_::_,r::_,_,⟨⟨c,e,hc⟩,x⟩,.cons rv y=>by
  subst e;cases rv;exact .cons (Of I r c hc) (DV I x y)
theorem Og {σ:St}{s:Shared}(I:Inv X pins σ H s)(T:List (List Int))(b:Addr)(h:CN H T b):(AM X.prog X.w).is s.heap T b:=by
 obtain⟨us,hb,x⟩:=h;obtain⟨_,its,rv,o,e,c,_,n,d⟩:=I.hok b _ hb;exact⟨o,its.toArray,n,e,c,d,by rw [List.toList_toArray];exact DV I x rv⟩
theorem XG {k:Nat}(hc:X.calm=true)(hr:Room k X.A):CallR X (.type "set") (λxs H Q=> ∃ (a:Addr) (ps:List (Addr×List (List Int))),xs= [.ref a]/\SqT X.K H a (ps.map λp=>V.ref p.1)/\ps.length<1000/\(∀p∈ps,CN H p.2 p.1)/\ ∀ (p:Addr) (o:Obj),H p=none->QX X.prog X.w H o (ps.map (·.2)).reverse->Q (.ref p) (upd H p (.frz o (.own 0)))):=by
 intro pins s σ H xs us Q I r h;obtain⟨a,ps,rfl,hS,few,ht,q⟩:=h;obtain⟨u,rfl,ru⟩:=ZB r;cases ru;obtain⟨its,rv,pl,hz⟩:=I.tuple hS;have len:its.length=ps.length:=by have:=rv.length;rw [G0] at this;exact this.symm
 have hu:X.A.units+40<cLine:=by have:=hr.un;omega
 have at_: ∀i v,its[i]? =some v-> ∃b,v= .ref b/\CN H ((ps.map (·.2)).getD i []) b:=by
  clear hS q few hz pl len
  induction ps generalizing its with
  |nil=>cases rv;exact λi v e=>by cases e
  |cons p ps ih=>
   rw [R0] at rv;cases rv with
   |cons r1 r2=>
    intro i v e;cases i with
    |zero=>
     cases e;exact⟨p.1,r1,ht p P3⟩
    |succ i=>exact ih (λp hp=>ht p (P0 _ hp)) _ r2 i v e
 have rng:(List.range its.length).map (λi=>(ps.map (·.2)).getD i [])=ps.map (·.2):=by
  have:=zE (ps.map (·.2)) ([]:List (List Int));rw [G0] at this;rw [len];exact this.symm
 obtain⟨o,e1,e2,c,e3⟩:=pl;refine MM (M:=AM X.prog X.w) (is:=CN H) hu (I.ok.hd hc) (.inr rfl) ⟨o,e1,e2,c,e3⟩ at_ (Og I) (by omega) λh' tk f es ep t e S kept=> ?_
 rw [rng] at S;exact⟨.ref _,_,I.laid (t':=tk) (o:= .frz (Wl es ep t) (.own 0)) kept (G5 _) ⟨e,⟨_,e⟩⟩,rfl,q _ _ (I.hok.fresh (G5 _)) ⟨es,ep,t,f,rfl,S⟩⟩
theorem XH:CallR X (.builtin "len") (λxs H Q=> ∃ (p:Addr) (o:Obj) (Ts:List (List (List Int))) (H':Hp),xs= [.ref p]/\H p=some (.frz o (.own 0))/\QX X.prog X.w H' o Ts/\Ts.length<1000/\ ∀k:Nat,k<=Ts.length->(k=Ts.length↔Ts.Nodup)->Q (.int (k:Int)) H):=by
 intro pins s σ H xs us Q I r h;obtain⟨p,o,Ts,H',rfl,hp,⟨es,ep,t,f,rfl,S⟩,few,q⟩:=h;obtain⟨u,rfl,ru⟩:=ZB r;cases ru;have sz:es.size=(es.toList.map f).length:=by rw [G0,P2]
 have le:=S.size;refine call_len_set (I.hok p _ hp).1 ⟨rfl,rfl,rfl⟩ rfl S.tab.fits (by omega) ?_;exact⟨.int _,H,I.tok _,⟨_,rfl⟩,q es.size le (by rw [sz];exact XF S.nd S.mem)⟩
theorem DW {K:PySem.W.Frag}: ∀ {T:List (List Int)} {vs:List V},RelDs K H (T.map zK) vs->MP H vs T
 | [],vs,r=>by
  have:vs= []:=r;subst this;exact True.intro
 |row::T,vs,r=>by
  obtain⟨v,us,e,r1,r2⟩:=(show ∃v r,vs=v::r/\RelD K H (zK row) v/\RelDs K H (T.map zK) r from r);obtain⟨a,ws,e4,hH,r4⟩:=(show ∃a vs,v= .ref a/\H a=some (.tup vs)/\RelDs K H (row.map D.int) vs from r1);rw [yx r4] at hH;subst e;exact⟨⟨a,e4,hH⟩,DW r2⟩
theorem DY {K:PySem.W.Frag}: ∀ {Ts:List (List (List Int))} {vs:List V},RelDs K H (Ts.map jr) vs-> ∃ps:List (Addr×List (List Int)),vs=ps.map (λp=>V.ref p.1)/\Ts=ps.map (·.2)/\ ∀p∈ps,CN H p.2 p.1
 | [],vs,r=>⟨[],r,rfl,λp hp=>by cases hp⟩
 |T::Ts,vs,r=>by
  obtain⟨v,us,e,r1,r2⟩:=(show ∃v r,vs=v::r/\RelD K H (jr T) v/\RelDs K H (Ts.map jr) r from r);obtain⟨ps,e1,e2,e3⟩:=DY r2;obtain⟨a,ws,e4,hH,r4⟩:=(show ∃a vs,v= .ref a/\H a=some (.tup vs)/\RelDs K H (T.map zK) vs from r1);exact⟨(a,T)::ps,by rw [e,e1,e4];rfl,by rw [e2];rfl,λp hp=>by
   rcases G4.mp hp with rfl|hp
   ·exact⟨ws,hH,DW r4⟩
   ·exact e3 p hp⟩
theorem GC {α:Type}{l:List α}:l.reverse.Nodup↔l.Nodup:=by
 unfold List.Nodup;rw [List.pairwise_reverse];exact⟨λh=>h.imp λz=>z.symm,λh=>h.imp λz=>z.symm⟩
def dLT (ta:TAD):TED:=λσ h Q=>ta σ h λds h1=> ∃Ts:List (List (List Int)),ds= [.tup (Ts.map jr)]/\Ts.length<1000/\ ∀k:Nat,k<=Ts.length->(k=Ts.length↔Ts.Nodup)->Q (.int (k:Int)) h1
theorem CA {k : Nat} {a : Expr} {ta : TAD} {p p2 pos pos2 : Pos} (hr : Room k X.A) (hc : X.calm = true) (hg : Gl X "len") (hm : X.mg "len" = none) (hg2 : Gl X "set") (hm2 : X.mg "set" = none) (ha : JA X [a] ta) (hs : starEach [a] X.env = [(false, eval a X.env)] := by rfl)
    (h1 : starEach [.Call (.Name "set" p2) [a] [] pos2] X.env = (false, eval (.Call (.Name "set" p2) [a] [] pos2) X.env) :: starEach [] X.env := by rfl) (h2 : (backTo pos (starEach [] X.env)).any (·.1) = false := by rfl) (h3 : (backTo pos2 (starEach [] X.env)).any (·.1) = false := by rfl) :
    JE X (.Call (.Name "len" p) [.Call (.Name "set" p2) [a] [] pos2] [] pos) (dLT ta) :=
  ⟨(Yv XH hg hm R3 (yT (VO (XG hc hr) hg2 hm2 (by decide +kernel) ha.to (by decide) (by decide) hs h3) pa_nil h1) (by decide) (by decide) h1 h2).imp
    fun σ H Q ⟨σd, h, Qd, rs, rh, t, post⟩ => LA.bind rs rh t fun ds vs h1 H1 k1 rs1 rh1 r1 ⟨Ts, e, few, q⟩ => by
      subst e
      obtain ⟨v, e, r2⟩ := jJ r1
      obtain ⟨a, ws, e1, hH, r3⟩ := (show ∃ a vs, v = .ref a ∧ H1 a = some (.tup vs) ∧ RelDs X.K H1 (Ts.map jr) vs from r2)
      subst e e1
      obtain ⟨ps, rfl, rfl, ht⟩ := DY r3
      rw [G0] at few q
      refine ⟨a, ps, rfl, SqT.of hH, few, ht, fun c o hcn S => ⟨c, o, _, H1, rfl, jy, S, by simpa using few, fun k le iff => ?_⟩⟩
      rw [L0, G0] at le iff
      exact post (.int _) _ _ _ (k1.trans (.new hcn)) (rh1.new (o := .frz o (.own 0)) hcn) rfl (q k le (iff.trans GC))⟩
end L2
namespace L2
open PySem PySem.Spec PyProof.Rows PySem.SeqAt HT
section
variable {n e:Nat}{T:List (List Int)}
def XI (n:Nat)(T:List (List Int))(i k:Nat):Prop:= ∀j,j<n->(RP n T k i j↔RP n T (k+60) i j)
theorem YU {k i j:Nat}(hi:i<n)(hj:j<n):ent (jw n (wY n T k)) i j=if RP n T k i j then 1 else 0:=by
 rw [yo hi hj]
 by_cases z:ent (wY n T k) i j=0
 ·rw [if_pos z,if_neg (show ¬RP n T k i j from λw=>w z)]
 ·rw [if_neg z,if_pos (show RP n T k i j from z)]
theorem MQ (h:Sq n e T)(h6:n<=6){m i:Nat}(hm:n<=m)(hi:i<n):XI n T i m\/(jI n λj=>ent (jw n (wY n T m)) i j)+1<=jI n λj=>ent (jw n (wY n T (m+60))) i j:=by
 have le:=λj hj=>Dy h h6 hm i j hi hj
 by_cases z:(jI n λj=>ent (jw n (wY n T (m+60))) i j)<=jI n λj=>ent (jw n (wY n T m)) i j
 ·refine .inl λj hj=> ?_
  have s:=JV le z j hj;rw [YU hi hj,YU hi hj] at s
  by_cases a:RP n T m i j
  ·by_cases b:RP n T (m+60) i j
   ·exact⟨λ_=>b,λ_=>a⟩
   ·rw [if_pos a,if_neg b] at s;omega
  ·by_cases b:RP n T (m+60) i j
   ·rw [if_neg a,if_pos b] at s;omega
   ·exact⟨λw=>absurd w a,λw=>absurd w b⟩
 ·exact .inr (by have:=yn le;omega)
theorem MR (h:Sq n e T)(h6:n<=6){i k:Nat}(hi:i<n)(r:XI n T i k):XI n T i (k+1):=λj hj=>by
 rw [show k+1+60=(k+60)+1 by omega,Wk h (by omega) k 1 hi hj,Wk h (by omega) (k+60) 1 hi hj];exact⟨λ⟨l,hl,a,b⟩=>⟨l,hl,(r l hl).mp a,b⟩,λ⟨l,hl,a,b⟩=>⟨l,hl,(r l hl).mpr a,b⟩⟩
theorem NJ (h:Sq n e T)(h6:n<=6){i k:Nat}(hi:i<n)(r:XI n T i k): ∀d,XI n T i (k+d)
 |0=>r
 |d+1=>MR h h6 hi (NJ h h6 hi r d)
theorem DZ (h6:n<=6){i k:Nat}(hi:i<n):0<=(jI n λj=>ent (jw n (wY n T k)) i j)/\(jI n λj=>ent (jw n (wY n T k)) i j)<=6:=by
 have a: ∀j,j<n->0<=ent (jw n (wY n T k)) i j/\ent (jw n (wY n T k)) i j<=1:=λj hj=>by
  rw [yo hi hj];split<;>omega
 refine⟨vC λj hj=>(a j hj).1,?_⟩;have:=ZQ (f:=λj=>ent (jw n (wY n T k)) i j) λj hj=>(a j hj).2
 omega
theorem MS (h:Sq n e T)(h6:n<=6){i:Nat}(hi:i<n):XI n T i (n+360):=by
 by_cases z: ∃t:Nat,t<=6/\XI n T i (n+60*t)
 ·obtain⟨t,ht,r⟩:=z;have:=NJ h h6 hi r (60*(6-t));rw [show n+60*t+60*(6-t)=n+360 by omega] at this;exact this
 ·exfalso;have g: ∀t:Nat,t<=7->(t:Int)<=jI n λj=>ent (jw n (wY n T (n+60*t))) i j:=by
   intro t
   induction t with
   |zero=>exact λ_=>(DZ h6 hi).1
   |succ t ih=>
    intro ht;rcases MQ h h6 (m:=n+60*t) (by omega) hi with b|b
    ·exact(z ⟨t,by omega,b⟩).elim
    ·have:=ih (by omega);rw [show n+60*(t+1)=n+60*t+60 by omega];omega
  have a:=g 7 (G5 _);have b:=(DZ (T:=T) (k:=n+60*7) h6 hi).2;omega
theorem XJ (h:Sq n e T)(h1:1<=n)(h6:n<=6){L:Nat}(nd:((List.range L).map (jS n T)).Nodup):L<=426:=by
 refine A1 λz=> ?_
 have eq:jw n (wY n T (n+360))=jw n (wY n T (n+420)):=by
  refine(Sq.mark (n:=n) _).ext (Sq.mark (n:=n) _) λi j hi hj=> ?_
  rw [YU hi hj,YU hi hj];have r:=MS h h6 hi j hj;rw [show n+360+60=n+420 by omega] at r
  by_cases a:RP n T (n+360) i j
  ·rw [if_pos a,if_pos (r.mp a)]
  ·rw [if_neg a,if_neg λw=>a (r.mpr w)]
 refine AH (a:=n+359) (b:=n+419) nd (by omega) (by omega) ?_;rw [Jt h (by omega),Jt h (by omega)];exact eq
end
end L2
namespace L2
open PySem PySem.Spec PyProof.Rows PySem.W
structure DefIn (K:Frag)(x:Str)(st:Stmt)(f:Addr)(fd:FuncData):Prop where
 at_:nsIn K mainGlobals x=some (some (.ref f))
 fn:Fun K x x st f fd
variable {K:Frag}{h base:Heap}{mg:Str->Option Value}{x:Str}{st:Stmt}{f:Addr}{fd:FuncData}{P:Program}{w:World}{n:Nat}{ps:List Str}
theorem Oh {oc:Value}{od an:Option Addr}{osl:Array (Option Value)}{kV doc pm cdv ct:Value}(a:nsIn K mainGlobals x=some (some (.ref f)))(l:K.lookup f=some ⟨oc,od,.func (fnOf x x (yU st) (wC st) (jk st) .none kV doc pm an cdv ct),osl⟩)
 (c:codeIn K cdv x=true)(k:keepIn K (.ref f)=true):DefIn K x st f (fnOf x x (yU st) (wC st) (jk st) .none kV doc pm an cdv ct):=⟨a,FE l c k⟩
abbrev AN (x:Str)(st:Stmt)(ps:List Str):Prop:= ∀ (kV doc pm:Value) (an:Option Addr) (cdv ct:Value) (us:List Value),us.length=ps.length->bindArgs (fnOf x x (yU st) (wC st) (jk st) .none kV doc pm an cdv ct) ⟨us,[]⟩=pure (ps.zip us)
theorem DefIn.nm (d:DefIn K x st f fd)(X:K.In h)(G:h.Ns mainGlobals mg):mg x=some (.ref f):=mg_of X G d.at_
theorem DefIn.cal {sp:RDn}(d:DefIn K x st f fd)(l:OpenLaw)(w:World)(base:Heap)(X:K.In h)(G:h.Ns mainGlobals mg)(ok:FnOk l.prog w K mg base CX0 n f fd ps (LSp K sp))(b:AN x st ps:=by first|(exact λ_ _ _ _ _ _ us hl=>match us,hl with| [_],_=>rfl)|(exact λ_ _ _ _ _ _ us hl=>match us,hl with| [_,_],_=>rfl)|(exact λ_ _ _ _ _ _ us hl=>match us,hl with| [_,_,_],_=>rfl)|(exact λ_ _ _ _ _ _ us hl=>match us,hl with| [_,_,_,_],_=>rfl)|(exact λ_ _ _ _ _ _ us hl=>match us,hl with| [_,_,_,_,_],_=>rfl)):jC l.prog w K mg base n x ps sp:=⟨_,_,ok,d.fn.binds b,d.fn.kp,d.nm X G⟩
def zsB (K:Frag):Bool:= ["len","max","min","divmod","all","any","repr","sum","sorted","int","tuple","list","set","bool","isinstance","range","zip","enumerate","reversed"].all λx=>nsIn K mainGlobals (Str.ofString x)==some none
theorem AO (X:K.In h)(G:h.Ns mainGlobals mg)(e:zsB K=true):Zs mg:=by
 unfold zsB at e;rw [R5] at e;have m:=λ(x:String) hx=>mg_none_of X G (Z3.mp (e x hx))
 exact⟨m "len" (by decide),m "max" (by decide),m "min" (by decide),m "divmod" (by decide),m "all" (by decide),m "any" (by decide),m "repr" (by decide),m "sum" (by decide),m "sorted" (by decide),m "int" (by decide),m "tuple" (by decide),m "list" (by decide),m "set" (by decide),m "bool" (by decide),m "isinstance" (by decide),m "range" (by decide),m "zip" (by decide),m "enumerate" (by decide),m "reversed" (by decide)⟩
end L2
set_option maxRecDepth 35000
namespace L2
open PySem PySem.Spec PyProof.Rows PySem.SeqAt
mutual
theorem ToP.sub {h h':HD}(s:Sub h h'): ∀ {p:PyData} {d:D},ToP h d p->ToP h' d p
 | .none,_,t=>t
 | .bool _,_,t=>t
 | .int _,_,t=>t
 | .str _,_,t=>t
 | .tuple ps,d,t=>by
  obtain⟨ds,e,ts⟩:=(show ∃ds,d= .tup ds/\ToPs h ds ps from t);exact⟨ds,e,ToPs.sub s ts⟩
 | .list ps,d,t=>by
  obtain⟨a,ds,e,k,ts⟩:=(show ∃a ds,d= .lst a/\h a=some ds/\ToPs h ds ps from t);exact⟨a,ds,e,s a ds k,ToPs.sub s ts⟩
 | .dict _,_,t=>t
theorem ToPs.sub {h h':HD}(s:Sub h h'): ∀ {ps:List PyData} {ds:List D},ToPs h ds ps->ToPs h' ds ps
 | [],_,t=>t
 |p::ps,ds,t=>by
  obtain⟨d,r,e,t1,t2⟩:=(show ∃d r,ds=d::r/\ToP h d p/\ToPs h r ps from t);exact⟨d,r,e,ToP.sub s t1,ToPs.sub s t2⟩
end
def Hs (h:HD)(k b:Nat)(d:D):Prop:= ∃p,ToP h d p/\ShowB p k b
theorem Hs.sub {h h':HD}{k b:Nat}{d:D}(t:Hs h k b d)(s:Sub h h'):Hs h' k b d:=let ⟨p,a,c⟩:=t;⟨p,a.sub s,c⟩
theorem Hs.mono {h:HD}{k b k' b':Nat}{d:D}(t:Hs h k b d)(hk:k<=k')(hb:b<=b'):Hs h k' b' d:=let ⟨p,a,c⟩:=t;⟨p,a,c.mono hk hb⟩
theorem Sm.hs {h:HD}{k b:Nat}{d:D}(t:Sm k b d):Hs h k b d:=let ⟨p,a,c,_⟩:=t;⟨p,a h,c⟩
theorem hss {h:HD}{k b:Nat}: ∀ {ds:List D},(∀d∈ds,Hs h k b d)-> ∃ps:List PyData,ps.length=ds.length/\ToPs h ds ps/\ ∀p∈ps,ShowB p k b
 | [],_=>⟨[],rfl,rfl,by simp⟩
 |d::ds,g=>by
  obtain⟨p,t,s⟩:=g d P3;obtain⟨ps,l,ts,ss⟩:=hss λx hx=>g x (P0 _ hx)
  refine⟨p::ps,by simp [l],⟨d,ds,rfl,t,ts⟩,λq hq=> ?_⟩;rcases G4.mp hq with e|e
  ·rw [e];exact s
  ·exact ss q e
theorem Hs.tup {h:HD}{k b:Nat}(m:Nat){ds:List D}(g: ∀d∈ds,Hs h k b d)(hm:ds.length<=m):Hs h (k+1) ((b+2)*m+3) (.tup ds):=by
 obtain⟨ps,l,ts,ss⟩:=hss g;have:=L1 (b+2) (show ps.length<=m by omega);exact⟨.tuple ps,⟨ds,rfl,ts⟩,(ShowB.tup ss).mono (G5 _) (by omega)⟩
theorem Hs.lst {h:HD}{k b:Nat}(m:Nat){a:Addr}{ds:List D}(ka:h a=some ds)(g: ∀d∈ds,Hs h k b d)(hm:ds.length<=m):Hs h (k+1) ((b+2)*m+3) (.lst a):=by
 obtain⟨ps,l,ts,ss⟩:=hss g;have:=L1 (b+2) (show ps.length<=m by omega);exact⟨.list ps,⟨a,ds,rfl,ka,ts⟩,(ShowB.lst ss).mono (G5 _) (by omega)⟩
theorem Oi {h:HD}{i:Int}(g:i.natAbs<10^31):Hs h 0 40 (.int i):=by
 refine⟨.int i,rfl,?_,by simp [PyData.depth],?_⟩
 ·have:i.natAbs.log2<1920:=by
   by_cases z:i.natAbs=0
   ·rw [z];decide
   ·exact(J1 z).mpr (D2 g (by decide +kernel))
  simpa [PyData.showable] using this
 ·show (Str.ofString (toString i)).length<=40;rw [J7];have:=int_text_length_le10 (by decide) g;omega
theorem zT {h:HD}{d:D}(g:d= .non\/d= .bl true\/d= .bl false\/d= .str (Str.ofString "0")):Hs h 0 40 d:=by
 rcases g with e|e|e|e<;>subst e
 ·exact⟨.none,rfl,rfl,by decide,by decide⟩
 ·exact⟨.bool true,rfl,rfl,by decide,by decide⟩
 ·exact⟨.bool false,rfl,rfl,by decide,by decide⟩
 ·exact⟨.str _,rfl,by decide +kernel,by decide +kernel,by decide +kernel⟩
def Tz (h:HD)(d:D):Prop:=Hs h 50 8300000 d\/d= .dic (Str.ofString "a") 1
theorem Tz.sub {h h':HD}{d:D}(t:Tz h d)(s:Sub h h'):Tz h' d:=t.imp (λx=>x.sub s) id
theorem Th.tz {h:HD}{d:D}(t:Th h d):Tz h d:=by
 rcases t with t|⟨a,ds,e,ha,hl,r⟩|t
 ·exact .inl (t.hs.mono (by omega) (by omega))
 ·subst e;exact .inl ((Hs.lst 155 ha (λx hx=>(r x hx).hs) hl).mono (by omega) (by omega))
 ·exact .inr t
theorem Ra {p q:PyData}{k k' b b':Nat}(hp:ShowB p k b)(hq:ShowB q k' b')(h1:k<=50)(h2:k'<=50)(hb:b<=8300000)(hb':b'<=8300000):ShowOk (.list [p,q]):=by
 have:=ShowB.lst (ps:= [p,q]) (k:=50) (b:=8300000) λx hx=>by
  simp only [G4,P5,T4] at hx;rcases hx with e|e
  ·rw [e];exact hp.mono h1 hb
  ·rw [e];exact hq.mono h2 hb'
 exact this.ok (by decide) (by simp only [P8,S4];omega)
theorem Su {n e:Nat}{T:List (List Int)}{h:HD}{d:D}(t:Sq n e T)(h6:n<=6)(he:e<=1000)(th:Tz h d): ∃txt:Str,∀ (h':HD) p (Q:KD),Sub h h'->h' p=some [jr T,d]->Q (.str txt) h'->LY [.lst p] h' Q:=by
 have sT:=Dv t h6 (show e<=1919 by omega);rcases th with ⟨q,tq,sq⟩|e
 ·exact⟨(PyData.list [Zq T,q]).shown,λh' p Q sb hp qq=> .inl ⟨_,.list [Zq T,q],rfl,⟨p,_,rfl,hp,_,_,rfl,yZ h' T,_,_,rfl,tq.sub sb,rfl⟩,Ra sT sq (by omega) (by omega) (by omega) (by omega),qq⟩⟩
 ·subst e;exact⟨(PyData.list [Zq T,VB (Str.ofString "a") 1]).shown,λh' p Q _ hp qq=> .inr ⟨p,_,_,_,Zq T,rfl,hp,yZ h' T,Ra sT DB (by omega) (by omega) (by omega) (by omega),qq⟩⟩
def Hw (h:HD)(d:D):Prop:= ∃p,ToP h d p/\p.showable=true
theorem Hs.hw {h:HD}{k b:Nat}{d:D}(t:Hs h k b d):Hw h d:=let ⟨p,a,c⟩:=t;⟨p,a,c.sh⟩
theorem NK {h:HD}: ∀ {ps:List PyData} {ds:List D},ToPs h ds ps->PyData.showableAll ps=true-> ∀x∈ds,Hw h x
 | [],ds,t,_,x,hx=>by rw [show ds= [] from t] at hx;cases hx
 |p::ps,ds,t,s,x,hx=>by
  obtain⟨d,r,e,t1,t2⟩:=(show ∃d r,ds=d::r/\ToP h d p/\ToPs h r ps from t);have s':(p.showable&&PyData.showableAll ps)=true:=by simpa only [PyData.showableAll] using s
  rw [R4] at s';rw [e] at hx;rcases G4.mp hx with z|z
  ·rw [z];exact⟨p,t1,s'.1⟩
  ·exact NK t2 s'.2 x z
theorem Hw.parts {h:HD}{ds:List D}(t:Hw h (.tup ds)): ∀x∈ds,Hw h x:=by
 obtain⟨p,t,s⟩:=t;cases p with
 |tuple ps=>
  obtain⟨es,e,ts⟩:=(show ∃es,D.tup ds= .tup es/\ToPs h es ps from t);cases e;exact NK ts (by simpa only [PyData.showable] using s)
 |list ps=>obtain⟨a,es,e,_⟩:=(show ∃a es,D.tup ds= .lst a/\h a=some es/\ToPs h es ps from t);cases e
 |dict _=>exact(show False from t).elim
 |none=>cases (show D.tup ds= .non from t)
 |bool b=>cases (show D.tup ds= .bl b from t)
 |int i=>cases (show D.tup ds= .int i from t)
 |str x=>cases (show D.tup ds= .str x from t)
theorem MT {i:Int}{e:Nat}(h:i.natAbs.log2<e):i<2^e:=by
 have h:i.natAbs<2^e:=by
  by_cases z:i.natAbs=0
  ·rw [z];exact Nat.two_pow_pos e
  ·exact(J1 z).mp h
 have:((2^e:Nat):Int)=(2:Int)^e:=by simp
 omega
theorem Hw.int {h:HD}{i:Int}(t:Hw h (.int i)):i<2^1920:=by
 obtain⟨p,t,s⟩:=t;cases p with
 |int j=>
  cases (show D.int i= .int j from t);have s':i.natAbs.log2<1920:=by simpa [PyData.showable] using s
  exact MT s'
 |list ps=>obtain⟨a,es,e,_⟩:=(show ∃a es,D.int i= .lst a/\h a=some es/\ToPs h es ps from t);cases e
 |tuple ps=>obtain⟨es,e,_⟩:=(show ∃es,D.int i= .tup es/\ToPs h es ps from t);cases e
 |none=>cases (show D.int i= .non from t)
 |bool b=>cases (show D.int i= .bl b from t)
 |str x=>cases (show D.int i= .str x from t)
 |dict _=>exact(show False from t).elim
def CO (n:Nat)(T:List (List Int))(L J:Nat):D:= .tup [.int (((J:Nat):Int)+1),.int (((L:Nat):Int)-((J:Nat):Int)),.tup ((List.range L).map λi=>jr (jS n T i))]
def Cal (n:Nat)(T:List (List Int))(d:D):Prop:= ∃L J:Nat,d=CO n T L J/\Course n T L J
theorem MU {a b:List Int}(e:zK a=zK b):a=b:=by
 have e:a.map D.int=b.map D.int:=by injection e
 exact(L6 λx y h=>by injection h).mp e
theorem Jw {A B:List (List Int)}(e:jr A=jr B):A=B:=by
 have e:A.map zK=B.map zK:=by injection e
 exact(L6 λx y h=>MU h).mp e
theorem Ym {P:Int->Prop}: ∀ {es:List D},(∀x∈es,∃i,x= .int i/\P i)-> ∃xs:List Int,es=xs.map D.int/\ ∀x∈xs,P x
 | [],_=>⟨[],rfl,λM hM=>by cases hM⟩
 |x::es,g=>by
  obtain⟨M,e,hM⟩:=g x P3;obtain⟨Ts,e2,hTs⟩:=Ym λy hy=>g y (P0 _ hy)
  refine⟨M::Ts,by rw [e,e2];rfl,λN hN=> ?_⟩;rcases G4.mp hN with z|z
  ·rw [z];exact hM
  ·exact hTs N z
theorem Yn {P:List Int->Prop}: ∀ {es:List D},(∀x∈es,∃i,x=zK i/\P i)-> ∃xs:List (List Int),es=xs.map zK/\ ∀x∈xs,P x
 | [],_=>⟨[],rfl,λM hM=>by cases hM⟩
 |x::es,g=>by
  obtain⟨M,e,hM⟩:=g x P3;obtain⟨Ts,e2,hTs⟩:=Yn λy hy=>g y (P0 _ hy)
  refine⟨M::Ts,by rw [e,e2];rfl,λN hN=> ?_⟩;rcases G4.mp hN with z|z
  ·rw [z];exact hM
  ·exact hTs N z
theorem Yo {P:List (List Int)->Prop}: ∀ {es:List D},(∀x∈es,∃M,x=jr M/\P M)-> ∃Ts:List (List (List Int)),es=Ts.map jr/\ ∀M∈Ts,P M
 | [],_=>⟨[],rfl,λM hM=>by cases hM⟩
 |x::es,g=>by
  obtain⟨M,e,hM⟩:=g x P3;obtain⟨Ts,e2,hTs⟩:=Yo λy hy=>g y (P0 _ hy)
  refine⟨M::Ts,by rw [e,e2];rfl,λN hN=> ?_⟩;rcases G4.mp hN with z|z
  ·rw [z];exact hM
  ·exact hTs N z
end L2
namespace My
open PySem L2
def top (i:Nat):Stmt:=PySem.Challenge.pw_firstpowers_k46_calendars_by_anybody.main.body.getD i (.Pass ⟨0,0,0,0⟩)
abbrev JZ:Stmt:=top 5
theorem XL:FnScope ["thing"] ["thing"] (jk JZ):=⟨rfl,rfl,rfl,by decide +kernel,rfl,by decide +kernel,by decide +kernel⟩
abbrev Wp:Stmt:=top 6
theorem GD:FnScope ["thing","least"] ["thing","least"] (jk Wp):=⟨rfl,rfl,rfl,by decide +kernel,rfl,by decide +kernel,by decide +kernel⟩
abbrev ya:Stmt:=top 7
theorem vz:FnScope ["thing","size","number"] ["thing","size"] (jk ya):=⟨rfl,rfl,rfl,by decide +kernel,rfl,by decide +kernel,by decide +kernel⟩
abbrev wa:Stmt:=top 8
theorem yr:FnScope ["thing","row"] ["thing"] (jk wa):=⟨rfl,rfl,rfl,by decide +kernel,rfl,by decide +kernel,by decide +kernel⟩
abbrev vf:Stmt:=top 9
theorem YV:FnScope ["thing"] ["thing"] (jk vf):=⟨rfl,rfl,rfl,by decide +kernel,rfl,by decide +kernel,by decide +kernel⟩
abbrev vg:Stmt:=top 11
theorem zG:FnScope ["one","other","size","row","place","by"] ["one","other"] (jk vg):=⟨rfl,rfl,rfl,by decide +kernel,rfl,by decide +kernel,by decide +kernel⟩
abbrev XM:Stmt:=top 13
theorem Vz:FnScope ["table","row","number"] ["table"] (jk XM):=⟨rfl,rfl,rfl,by decide +kernel,rfl,by decide +kernel,by decide +kernel⟩
abbrev yA:Stmt:=top 15
theorem WK:FnScope ["ahead","table"] ["ahead","table"] (jk yA):=⟨rfl,rfl,rfl,by decide +kernel,rfl,by decide +kernel,by decide +kernel⟩
abbrev zA:Stmt:=top 17
theorem wk:FnScope ["thing","many","size","each"] ["thing","many","size"] (jk zA):=⟨rfl,rfl,rfl,by decide +kernel,rfl,by decide +kernel,by decide +kernel⟩
abbrev YW:Stmt:=top 18
theorem UX:FnScope ["table","rows","ahead","later"] ["table","rows"] (jk YW):=⟨rfl,rfl,rfl,by decide +kernel,rfl,by decide +kernel,by decide +kernel⟩
abbrev wb:Stmt:=top 19
theorem yq:FnScope ["table","thing","ahead","long","rows"] ["table","thing"] (jk wb):=⟨rfl,rfl,rfl,by decide +kernel,rfl,by decide +kernel,by decide +kernel⟩
abbrev Ja:Stmt:=top 21
theorem Uu:FnScope ["_law_script","_law_k"] ["_law_script","_law_k"] (jk Ja):=⟨rfl,rfl,rfl,by decide +kernel,rfl,by decide +kernel,by decide +kernel⟩
abbrev Za:Stmt:=top 22
theorem WH:FnScope ["_law_cell_here","_law_left"] ["_law_cell_here"] (jk Za):=⟨rfl,rfl,rfl,by decide +kernel,rfl,by decide +kernel,by decide +kernel⟩
abbrev Jb:Stmt:=top 23
theorem wU:FnScope ["_law_pen_here","_law_many","_law_left","_law_found","_law_stir"] ["_law_pen_here","_law_many"] (jk Jb):=⟨rfl,rfl,rfl,by decide +kernel,rfl,by decide +kernel,by decide +kernel⟩
abbrev vh:Stmt:=top 24
theorem YX:FnScope ["_law_thing"] ["_law_thing"] (jk vh):=⟨rfl,rfl,rfl,by decide +kernel,rfl,by decide +kernel,by decide +kernel⟩
abbrev Zb:Stmt:=top 25
theorem WG:FnScope ["_law_pen_here","_law_some"] ["_law_pen_here"] (jk Zb):=⟨rfl,rfl,rfl,by decide +kernel,rfl,by decide +kernel,by decide +kernel⟩
abbrev Jc:Stmt:=top 26
theorem Uv:FnScope ["_law_pen_here"] ["_law_pen_here"] (jk Jc):=⟨rfl,rfl,rfl,by decide +kernel,rfl,by decide +kernel,by decide +kernel⟩
abbrev vj:Stmt:=top 27
theorem jG:FnScope ["_law_pen_here","_law_size_here","_law_way","_law_often","_law_most","_law_rows","_law_one","_law_row","_law_other","_law_goes"] ["_law_pen_here","_law_size_here"] (jk vj):=⟨rfl,rfl,rfl,by decide +kernel,rfl,by decide +kernel,by decide +kernel⟩
abbrev vk:Stmt:=top 28
theorem yO:FnScope ["_law_pen_here","_law_many","_law_found","_law_what"] ["_law_pen_here","_law_many"] (jk vk):=⟨rfl,rfl,rfl,by decide +kernel,rfl,by decide +kernel,by decide +kernel⟩
abbrev vn:Stmt:=top 29
theorem zq:FnScope ["_law_one","_law_other","_law_size_here","_law_rows","_law_row","_law_place","_law_k"] ["_law_one","_law_other"] (jk vn):=⟨rfl,rfl,rfl,by decide +kernel,rfl,by decide +kernel,by decide +kernel⟩
abbrev yB:Stmt:=top 30
theorem yh:FnScope ["_law_table_here","_law_row","_law_number"] ["_law_table_here"] (jk yB):=⟨rfl,rfl,rfl,by decide +kernel,rfl,by decide +kernel,by decide +kernel⟩
abbrev wK:Stmt:=top 31
theorem wf:FnScope ["_law_thing","_law_row","_law_number"] ["_law_thing"] (jk wK):=⟨rfl,rfl,rfl,by decide +kernel,rfl,by decide +kernel,by decide +kernel⟩
abbrev zM:Stmt:=top 32
theorem jD:FnScope ["_law_pen_here","_law_table_here","_law_size_here","_law_at","_law_to","_law_off","_law_row","_law_rows","_law_here","_law_things"] ["_law_pen_here","_law_table_here"] (jk zM):=⟨rfl,rfl,rfl,by decide +kernel,rfl,by decide +kernel,by decide +kernel⟩
abbrev zB:Stmt:=top 33
theorem jt:FnScope ["_law_pen_here","_law_size_here","_law_order_here","_law_d","_law_often","_law_most","_law_found","_law_at","_law_one","_law_to","_law_other","_law_row","_law_place"] ["_law_pen_here","_law_size_here"] (jk zB):=⟨rfl,rfl,rfl,by decide +kernel,rfl,by decide +kernel,by decide +kernel⟩
abbrev yC:Stmt:=top 34
theorem zv:FnScope ["_law_table_here","_law_first","_law_found","_law_here"] ["_law_table_here"] (jk yC):=⟨rfl,rfl,rfl,by decide +kernel,rfl,by decide +kernel,by decide +kernel⟩
abbrev Zc:Stmt:=top 35
theorem wL:FnScope ["_law_table_here","_law_thing","_law_ahead","_law_long","_law_rows","_law_first","_law_at","_law_row","_law_due_here"] ["_law_table_here","_law_thing"] (jk Zc):=⟨rfl,rfl,rfl,by decide +kernel,rfl,by decide +kernel,by decide +kernel⟩
abbrev Jd:Stmt:=top 36
theorem jR:FnScope ["_law_pen_here","_law_thing","_law_ahead","_law_long","_law_rows","_law_at","_law_off","_law_some","_law_one","_law_more"] ["_law_pen_here","_law_thing"] (jk Jd):=⟨rfl,rfl,rfl,by decide +kernel,rfl,by decide +kernel,by decide +kernel⟩
abbrev vo:Stmt:=top 37
theorem zF:FnScope ["_law_table_here","_law_thing","_law_kept","_law_due_here","_law_turn","_law_found"] ["_law_table_here","_law_thing"] (jk vo):=⟨rfl,rfl,rfl,by decide +kernel,rfl,by decide +kernel,by decide +kernel⟩
abbrev GE:Stmt:=top 38
theorem wV:FnScope ["_law_script","_law_plain","_law_thing","_law_cell_here","_law_pen_here","_law_table_here","_law_found","_law_at","_law_good","_law_wide","_law_things","_law_turn"] ["_law_script"] (jk GE):=⟨rfl,rfl,rfl,by decide +kernel,rfl,by decide +kernel,by decide +kernel⟩
section
variable {P:Program}{w:World}{K:PySem.W.Frag}{mg:Str->Option Value}{base:Heap}
/-- no def is asked of the script's list: a thing -/
def Uw:D->Bool
 | .int _=>true
 |_=>false
/-- a row of so many numbers from 0 on -/
def Rz:D->Bool
 | .int i=>decide (0<=i)
 |_=>false
def UZ (d:D)(k:Int):Bool:=match d with
 | .tup ds=>decide ((ds.length:Int)=k)&&ds.all Rz
 |_=>false
/-! every part has a kind that is told,and no tuple is long -/
mutual
def okD:D->Bool
 | .scr _=>false| .exc _=>false| .fn _=>false| .dct _=>false
 | .tup ds=>decide (ds.length<=1000)&&okDs ds
 |_=>true
def okDs:List D->Bool
 | []=>true
 |d::ds=>okD d&&okDs ds
end
theorem YY: ∀ {ds:List D},okDs ds=true-> ∀d∈ds,okD d=true
 |d::ds,h,x,hx=>by
  have h':(okD d&&okDs ds)=true:=h;rw [R4] at h';rcases G4.mp hx with e|e
  ·subst e;exact h'.1
  ·exact YY h'.2 x e
theorem Rb: ∀ {ds:List D},(∀d∈ds,okD d=true)->okDs ds=true
 | [],_=>rfl
 |d::ds,h=>by
  show (okD d&&okDs ds)=true;rw [h d P3,Rb λx hx=>h x (P0 _ hx)];rfl
theorem vp {ds:List D}(h:okD (.tup ds)=true):ds.length<=1000/\ ∀d∈ds,okD d=true:=by
 have h':(decide (ds.length<=1000)&&okDs ds)=true:=h;rw [R4] at h';exact⟨O7 h'.1,YY h'.2⟩
theorem Rc {ds:List D}(h:ds.length<=1000)(h2: ∀d∈ds,okD d=true):okD (.tup ds)=true:=by
 show (decide (ds.length<=1000)&&okDs ds)=true;rw [D5 h,Rb h2];rfl
variable {d:D}
theorem zm (h:okD d=true): ∃n,VX d=some n:=by
 cases d<;>first|exact⟨_,rfl⟩|cases h
/-- a table -/
def YZ:D->Bool
 | .tup rs=>decide (1<=rs.length)&&decide (rs.length<=6)&&rs.all λr=>UZ r rs.length
 |_=>false
def zN:RDn:=λds h Q=> ∃d n,ds= [d]/\VX d=some n/\Q (.bl (Uw d)) h
variable {n:Nat}{f:Addr}{fd:FuncData}
theorem XN (Z:Zs mg)(F:Fun K "is_whole" "is_whole" JZ f fd):FnOk P w K mg base CX0 (n+1) f fd ["thing"] (LSp K zN):=by
 refine F.okJ XL (λds h Q q=>by obtain⟨d,nm,e,hn,q⟩:=q;subst e;rfl) _ (λcdv A outer s H E hr=>(jq (wB (Ml (JQ (T:= "int") (by decide) rfl Z.isinstance rfl Z.int (by decide +kernel) (jv 0)) (PV (Eu (JQ (T:= "bool") (by decide) rfl Z.isinstance rfl Z.bool (by decide +kernel) (jv 0)))))))) ?_;intro ds h Q q;obtain⟨d,nm,e,hn,q⟩:=q;subst e;simp only [Xj,Pu,dIs,Gm,wG,R0,B8,P8,S4,M9,M6,R9,M0,D.bl.injEq,Pv,Xk,N5,hn];cases d<;>cases hn<;>exact⟨h,Sub.refl h,q⟩
def Yp:RDn:=λds h Q=> ∃d,∃a:Int,ds= [d,.int a]/\okD d=true/\((∃k:Int,d= .int k/\Q (.bl (decide (a<=k))) h)\/(Uw d=false/\Q (.bl false) h))
theorem GF (Z:Zs mg)(F:Fun K "is_from" "is_from" Wp f fd)(Zg:jC P w K mg base n "is_whole" ["thing"] zN):FnOk P w K mg base CX0 (n+1) f fd ["thing","least"] (LSp K Yp):=by
 obtain⟨US,Vq,Zi,Jj,Jn,Jo⟩:=Zg;refine F.okJ GD (λds h Q q=>by obtain⟨d,a,e,ok,q⟩:=q;subst e;rfl) _ (λcdv A outer s H E hr=>(jq (wB (Ml (jB Zi hr rfl Jo Jn Jj (jac (jv 0) ja)) (PV (Uc Pz (jv 0) (jv 1) (jF _))))))) ?_;intro ds h Q q;obtain⟨d,a,e,ok,q⟩:=q;subst e;obtain⟨nm,hn⟩:=zm ok;refine⟨_,rfl,d,nm,rfl,hn,Uw d,rfl,?_⟩;rcases q with ⟨k,rfl,q⟩|⟨w,q⟩
 ·exact vS ⟨_,rfl,_,rfl,h,Sub.refl h,q⟩
 ·rw [w];exact yS ⟨h,Sub.refl h,q⟩
def vq:RDn:=λds h Q=> ∃d k,ds= [d,.int k]/\okD d=true/\Q (.bl (UZ d k)) h
theorem Wq (Z:Zs mg)(F:Fun K "is_table_row" "is_table_row" ya f fd)(Zg:jC P w K mg base n "is_whole" ["thing"] zN):FnOk P w K mg base CX0 (n+1) f fd ["thing","size"] (LSp K vq):=by
 obtain⟨US,Vq,Zi,Jj,Jn,Jo⟩:=Zg;refine F.okJ vz (λds h Q q=>by obtain⟨d,k,e,ok,q⟩:=q;subst e;rfl) _ (λcdv A outer s H E hr=>(jd (Zo (jpt (VA (wn (wM (JQ (T:= "tuple") (by decide) rfl Z.isinstance rfl Z.tuple (by decide +kernel) (jv 0)))) (Qx (zZ oq_ne (jO zH rfl Z.len R3 (jac (jv 0) ja)) (jv 1) (jF _))))) (jq (wB jbl)) jY) (by exact(jq (wB (jO (Yf rfl) rfl Z.all B5 (jac (jlc (i:=2) (js:= [2]) rfl (jz (by rfl)) (wH (jv 0)) (by decide) vz.nd rfl (by first|exact Or.inl rfl|exact Or.inr rfl) (λX' hX=>jZ) (λX' hX=>by obtain⟨C,s₀,H₀,ex,rfl⟩:=hX;exact(Ml (jB Zi hr rfl Jo Jn Jj (jac (jv 2) ja)) (PV (Uc Pz (jv 2) jp (jF _)))))) ja))))))) ?_;intro ds h Q q;obtain⟨d,k,e,ok,q⟩:=q;subst e;obtain⟨nm,hn⟩:=zm ok;simp only [Px,Mb,Bx,VU,Jq,dIs,Gm,wG,R0,B8,P8,S4,List.replicate,M9,M6,R9,M0,D.bl.injEq,Xj,dC,Xk,Yz,dCB,yV,UY,dOp,BS,N4,neD,N5,hn];cases d with
 |tup es=>
  cases hn;obtain⟨hl,ht⟩:=vp ok;simp only [BT]
  by_cases hk:(es.length:Int)=k
  ·simp only [hk];simp;refine Xm (ds:=es) (h1:=h) (j:=λ_=>some es) (λx=> .bl (Rz x)) (T5 (zr hl)) rfl (λR r=>⟨.tup es,rfl,r⟩) (λd hd Q' q'=> ?_) (λp hp=> ?_)
   ·obtain⟨nn,hnn⟩:=zm (ht d hd);refine⟨d,rfl,d,nn,rfl,hnn,Uw d,rfl,?_⟩;cases d with
    |int i=>exact vS ⟨.int i,rfl,q'⟩
    |_=>exact yS q'
   ·refine⟨p,es.map Rz,rfl,by rw [jb];simp,h,?_,?_⟩
    ·rw [wF hp];exact Sub.refl h
    ·simpa [UZ,hk,O0,V4] using q
  ·simp [hk];exact⟨h,Sub.refl h,by simpa [UZ,hk] using q⟩
 |_=>cases hn<;>exact⟨h,Sub.refl h,q⟩
def jX:RDn:=λds h Q=> ∃d,ds= [d]/\okD d=true/\Q (.bl (YZ d)) h
theorem Zd (Z:Zs mg)(F:Fun K "has_table_form" "has_table_form" wa f fd)(WO:jC P w K mg base n "is_table_row" ["thing","size"] vq)(Ji: ∃tk,mg "MOST_ROWS" =some (.int 6 tk)):FnOk P w K mg base CX0 (n+1) f fd ["thing"] (LSp K jX):=by
 obtain⟨GU,GR,WP,Wx,WE,WF⟩:=WO;obtain⟨tk_MOST_ROWS,m_MOST_ROWS⟩:=Ji;refine F.okJ yr (λds h Q q=>by obtain⟨d,e,ok,q⟩:=q;subst e;rfl) _ (λcdv A outer s H E hr=>(jd (Zo (jpt (VA (wn (wM (JQ (T:= "tuple") (by decide) rfl Z.isinstance rfl Z.tuple (by decide +kernel) (jv 0)))) (Qx (wn (PU Mf Mf jp (jO zH rfl Z.len R3 (jac (jv 0) ja)) (AC rfl m_MOST_ROWS)))))) (jq (wB jbl)) jY) (by exact(jq (wB (jO (Yf rfl) rfl Z.all B5 (jac (jlc (i:=1) (js:= [1]) rfl (jz (by rfl)) (wH (jv 0)) (by decide) yr.nd rfl (by first|exact Or.inl rfl|exact Or.inr rfl) (λX' hX=>jZ) (λX' hX=>by obtain⟨C,s₀,H₀,ex,rfl⟩:=hX;exact(jB WP hr rfl WF WE Wx (jac (jv 1) (by exact(jac (jO zH rfl Z.len R3 (jac (jv 0) ja)) ja)))))) ja))))))) ?_;intro ds h Q q;obtain⟨d,e,ok,q⟩:=q;subst e;obtain⟨nm,hn⟩:=zm ok;simp only [Px,Mb,Bx,VU,Jq,dIs,Gm,wG,R0,B8,P8,S4,List.replicate,M9,M6,R9,M0,D.bl.injEq,Xj,dC,Xk,Yz,dCB,yV,UY,Yd,BS,Md,N5,hn];cases d with
 |tup es=>
  cases hn;obtain⟨hl,ht⟩:=vp ok;simp only [BT]
  by_cases h1:1<=es.length
  ·by_cases h6:es.length<=6
   ·have h1':(1:Int)<=es.length:=by omega
    have h6':(es.length:Int)<=6:=by omega
    simp [h1',h6'];refine Xm (ds:=es) (h1:=h) (j:=λ_=>some es) (λx=> .bl (UZ x es.length)) (T5 (zr hl)) rfl (λR r=>⟨.tup es,rfl,r⟩) (λd hd Q' q'=> ?_) (λp hp=> ?_)
    ·exact⟨d,rfl,.tup es,rfl,d,es.length,rfl,ht d hd,q'⟩
    ·refine⟨p,es.map λx=>UZ x es.length,rfl,by rw [jb];simp,h,?_,?_⟩
     ·rw [wF hp];exact Sub.refl h
     ·simpa [YZ,h1,h6,O0,V4] using q
   ·have h1':(1:Int)<=es.length:=by omega
    have h6': ¬ (es.length:Int)<=6:=by omega
    simp [h1',h6'];exact⟨h,Sub.refl h,by simpa [YZ,h1,h6] using q⟩
  ·have h1': ¬ (1:Int)<=es.length:=by omega
   simp [h1'];exact⟨h,Sub.refl h,by simpa [YZ,h1] using q⟩
 |_=>cases hn<;>exact⟨h,Sub.refl h,q⟩
theorem CB {x:Int}(h:0<=x):Rz (.int x)=true:=D5 h
variable {e:Nat}{T:List (List Int)}
theorem CC (h:Sq n e T){r:List Int}(hr:r∈T):UZ (zK r) n=true:=by
 simp only [UZ,zK,G0,h.row r hr,decide_true,W2,O0,R5,T7];intro x hx;exact CB (h.nn r hr x hx)
theorem XO (h:Sq n e T)(h1:1<=n)(h6:n<=6):YZ (jr T)=true:=by
 simp only [YZ,jr,G0,h.len,D5 h1,D5 h6,W2,O0,R5,T7];intro r hr;exact CC h hr
theorem Oj (h:Sq n e T)(h6:n<=6):okD (jr T)=true:=
 Rc (by rw [G0,h.len];omega) λd hd=>by
  obtain⟨r,hr,rfl⟩:=D6.mp hd;exact Rc (by rw [G0,h.row r hr];omega) λd hd=>by obtain⟨x,_,rfl⟩:=D6.mp hd;rfl
def yD:RDn:=λds h Q=> ∃T,∃n e:Nat,ds= [jr T]/\Sq n e T/\1<=n/\n<=6/\Q .non h
theorem Va (Z:Zs mg)(F:Fun K "want_table" "want_table" vf f fd)(wc:jC P w K mg base n "has_table_form" ["thing"] jX):FnOk P w K mg base CX0 (n+1) f fd ["thing"] (LSp K yD):=by
 obtain⟨JH,Jm,we,zP,zQ,zR⟩:=wc;refine F.okJ YV (λds h Q q=>by obtain⟨T,k,b,e,hT,h1,h6,q⟩:=q;subst e;rfl) _ (λcdv A outer s H E hr=>(jq (Zo (wn (wM (jB we hr rfl zR zQ zP (jac (jv 0) ja)))) (jq LJ) jY))) ?_;intro ds h Q q;obtain⟨T,k,b,e,hT,h1,h6,q⟩:=q;subst e;refine⟨_,rfl,jr T,rfl,Oj hT h6,_,rfl,?_⟩;rw [XO hT h1 h6];exact yS ⟨h,Sub.refl h,q⟩
def Jx:RDn:=λds h Q=> ∃T U,∃n e f:Nat,ds= [jr T,jr U]/\Sq n e T/\Sq n f U/\e+f<=1000000/\n<=6/\Q (jr (vD n T U)) h
theorem Vb (Z:Zs mg)(F:Fun K "multiplied" "multiplied" vg f fd):FnOk P w K mg base CX0 (n+1) f fd ["one","other"] (LSp K Jx):=by
 refine F.okJ zG (λds h Q q=>by obtain⟨T,U,k,b,f,e,hT,hU,hb,h6,q⟩:=q;subst e;rfl) _ (λcdv A outer s H E hr=>(jd (wo (i:=2) zG.nd rfl (by first|exact Or.inr rfl|exact Or.inl rfl) (jO zH rfl Z.len R3 (jac (jv 0) ja))) (by exact(jq (wB (jU zV rfl Z.tuple (by decide +kernel) (jac (jlc (i:=3) (js:= [3]) rfl (jz (by rfl)) (wH (jv 0)) (by decide) zG.nd rfl (by first|exact Or.inl rfl|exact Or.inr rfl) (λX' hX=>jZ) (λX' hX=>by obtain⟨C,s₀,H₀,ex,rfl⟩:=hX;exact(jU zV rfl Z.tuple (by decide +kernel) (jac (jlc (i:=4) (js:= [4]) rfl (jz (by rfl)) (YI rfl Z.range (jac (jv 2) ja)) (by decide) zG.nd rfl (by first|exact Or.inl rfl|exact Or.inr rfl) (λX' hX=>jZ) (λX' hX=>by obtain⟨C,s₀,H₀,ex,rfl⟩:=hX;exact(jO (PQ rfl) rfl Z.sum (by decide +kernel) (jac (jlc (i:=5) (js:= [5]) rfl (jz (by rfl)) (YI rfl Z.range (jac (jv 2) ja)) (by decide) zG.nd rfl (by first|exact Or.inl rfl|exact Or.inr rfl) (λX' hX=>jZ) (λX' hX=>by obtain⟨C,s₀,H₀,ex,rfl⟩:=hX;exact(jop Dc (jix (jv 3) (jv 5) (λ_ _=>rfl)) (jix (jix (jv 1) (jv 5) (λ_ _=>rfl)) (jv 4) (λ_ _=>rfl))))) ja)))) ja)))) ja))))))) ?_;intro ds h Q q;obtain⟨T,U,k,b,f,e,hT,hU,hb,h6,q⟩:=q;subst e;refine jj (λσ' h'=>σ'= [some (jr T),some (jr U),some (.int (k:Int)),none,none,none]/\h=h') (λC hC=>⟨_,rfl,hC _ _ ⟨by rw [G0,hT.len];rfl,rfl⟩⟩) ?_;rintro _ _ ⟨rfl,rfl⟩;refine Nu T zK (λr=> .tup ((List.range k).map λj=> .int (jI k λm=>r.getD m 0*ent U m j))) (by rw [hT.len];omega) rfl (λR r=>⟨_,rfl,r⟩) (λr hr Q' q'=> ?_) ⟨h,Sub.refl h,?_⟩
 ·refine Nu (List.range k) (λj=> .int (j:Int)) (λj=> .int (jI k λm=>r.getD m 0*ent U m j)) (by rw [P4];omega) rfl (λR rr=>⟨_,rfl,(k:Int),rfl,by omega,by omega,rr⟩) (λj hj Q'' q''=> ?_) q';refine Ew (List.range k) (λm=> .int (m:Int)) (λm=>r.getD m 0*ent U m j) (by rw [P4];omega) rfl (λR rr=>⟨_,rfl,(k:Int),rfl,by omega,by omega,rr⟩) (λm hm Q3 q3=> ?_) q'';have hm':=D3.mp hm;have hj':=D3.mp hj;refine⟨_,rfl,_,rfl,_,YJ (hT.row r hr) hm',_,rfl,_,rfl,_,De hU hm',_,rfl,_,YJ (hU.row _ (Sq.getRow hU hm')) hj',?_,q3⟩;refine QB (e:=b) (f:=f) ?_ (hU.ent_nn hm' hj') (by omega);have hm2:m<r.length:=by rw [hT.row r hr];exact hm'
  have e1:r.getD m 0=r[m]:=by rw [P9,G3 hm2];rfl
  rw [e1];exact⟨hT.nn r hr _ (R6 hm2),hT.bit r hr _ (R6 hm2)⟩
 ·rw [QC hT];exact q
def Vc:RDn:=λds h Q=> ∃T,∃n e:Nat,ds= [jr T]/\Sq n e T/\1<=n/\n<=6/\Q (jr (jw n T)) h
theorem MV (Z:Zs mg)(F:Fun K "marks" "marks" XM f fd)(vw:jC P w K mg base n "want_table" ["thing"] yD):FnOk P w K mg base CX0 (n+1) f fd ["table"] (LSp K Vc):=by
 obtain⟨WU,WD,vy,yJ,yL,yN⟩:=vw;refine F.okJ Vz (λds h Q q=>by obtain⟨T,k,b,e,hT,h1,h6,q⟩:=q;subst e;rfl) _ (λcdv A outer s H E hr=>(jd (Xr (jB vy hr rfl yN yL yJ (jac (jv 0) ja))) (by exact(jq (wB (jU zV rfl Z.tuple (by decide +kernel) (jac (jlc (i:=1) (js:= [1]) rfl (jz (by rfl)) (wH (jv 0)) (by decide) Vz.nd rfl (by first|exact Or.inl rfl|exact Or.inr rfl) (λX' hX=>jZ) (λX' hX=>by obtain⟨C,s₀,H₀,ex,rfl⟩:=hX;exact(jU zV rfl Z.tuple (by decide +kernel) (jac (jlc (i:=2) (js:= [2]) rfl (jz (by rfl)) (wH (jv 1)) (by decide) Vz.nd rfl (by first|exact Or.inl rfl|exact Or.inr rfl) (λX' hX=>jZ) (λX' hX=>by obtain⟨C,s₀,H₀,ex,rfl⟩:=hX;exact(jif (zZ oq_ne (jv 2) jp (jF _)) jp jp))) ja)))) ja))))))) ?_;intro ds h Q q;obtain⟨T,k,b,e,hT,h1,h6,q⟩:=q;subst e;refine jj (λσ' h'=>σ'= [some (jr T),none,none]/\h=h') (λC hC=>⟨_,rfl,T,k,b,rfl,hT,h1,h6,hC _ _ ⟨rfl,rfl⟩⟩) ?_;rintro _ _ ⟨rfl,rfl⟩;refine Nu T zK (λr=> .tup (r.map λx=> .int (if x≠0 then 1 else 0))) (by rw [hT.len];omega) rfl (λR r=>⟨_,rfl,r⟩) (λr hr Q' q'=> ?_) ⟨h,Sub.refl h,?_⟩
 ·refine Nu r D.int (λx=> .int (if x≠0 then 1 else 0)) (by rw [hT.row r hr];omega) rfl (λR r=>⟨_,rfl,r⟩) (λx hx Q'' q''=>⟨_,rfl,_,rfl,?_⟩) q'
  by_cases z:x=0
  ·subst z;exact yS q''
  ·have e:(!decide (x=0))=true:=by simp [z]
   rw [e];rw [if_pos z] at q'';exact vS q''
 ·rw [Df,<-Dg hT];exact q
def yb:RDn:=λds h Q=> ∃M T,∃n e f:Nat,ds= [jr M,jr T]/\Sq n f M/\Sq n e T/\1<=n/\n<=6/\e<=1000/\f<=2000/\Q (jr (mk1 n T M)) h
theorem WL (Z:Zs mg)(F:Fun K "marks_after" "marks_after" yA f fd)(XW:jC P w K mg base n "marks" ["table"] Vc)(UF:jC P w K mg base n "multiplied" ["one","other"] Jx):FnOk P w K mg base CX0 (n+1) f fd ["ahead","table"] (LSp K yb):=by
 obtain⟨Rq,GS,XZ,Vn,Vt,Vx⟩:=XW;obtain⟨RD,Ru,UJ,Vo,Vu,Vy⟩:=UF;refine F.okJ WK (λds h Q q=>by obtain⟨M,T,n,b,f,e,hM,hT,h1,h6,hb,hf,q⟩:=q;subst e;rfl) _ (λcdv A outer s H E hr=>(jq (wB (jB XZ hr rfl Vx Vt Vn (jac (jB UJ hr rfl Vy Vu Vo (jac (jv 0) (by exact(jac (jv 1) ja)))) ja))))) ?_;intro ds h Q q;obtain⟨M,T,n,b,f,e,hM,hT,h1,h6,hb,hf,q⟩:=q;subst e;exact⟨_,rfl,_,rfl,M,T,n,f,b,rfl,hM,hT,by omega,h6,vD n M T,n,_,rfl,hM.mul hT (by omega),h1,h6,h,Sub.refl h,q⟩
/-- a tuple of so many parts -/
def Ol (d:D)(n:Nat):Bool:=match d with
 | .tup es=>decide (((es.length:Nat):Int)=(n:Int))
 |_=>false
variable {h:HD}
theorem Re (t:YZ d=true)(w:Hw h d): ∃M,∃m:Nat,d=jr M/\Sq m 1920 M/\1<=m/\m<=6:=by
 cases d with
 |tup rs=>
  have t':(decide (1<=rs.length)&&decide (rs.length<=6)&&rs.all λr=>UZ r rs.length)=true:=t;rw [R4,R4,M3,M3,R5] at t';obtain⟨⟨t1,t6⟩,ta⟩:=t';have row: ∀r∈rs,∃xs:List Int,r=zK xs/\xs.length=rs.length/\(∀x∈xs,0<=x)/\ ∀x∈xs,x<2^1920:=λr hr=>by
   have tr:=ta r hr;cases r with
   |tup es=>
    have tr':(decide ((es.length:Int)=((rs.length:Nat):Int))&&es.all Rz)=true:=tr;rw [R4,M3,R5] at tr';obtain⟨xs,ex,hx⟩: ∃xs:List Int,es=xs.map D.int/\ ∀x∈xs,0<=x/\x<2^1920:=Ym λx hx=>by
     have:=tr'.2 x hx;cases x with
     |int i=>exact⟨i,rfl,O7 this,(((w.parts _ hr).parts) _ hx).int⟩
     |_=>cases this
    refine⟨xs,by rw [ex];rfl,?_,λx h=>(hx x h).1,λx h=>(hx x h).2⟩;have:=tr'.1;rw [ex,G0] at this;omega
   |_=>cases tr
  obtain⟨M,e,hM⟩:=Yn row;subst e;rw [G0] at t1 t6 hM;exact⟨M,M.length,rfl,⟨rfl,λr hr=>(hM r hr).1,λr hr=>(hM r hr).2.1,λr hr=>(hM r hr).2.2⟩,t1,t6⟩
 |_=>cases t
theorem QY {m:Nat}{M:List (List Int)}(hM:Sq m e M):Ol (jr M) n=decide (m=n):=by
 show decide ((((M.map zK).length:Nat):Int)=(n:Int))=_;rw [G0,hM.len,C4,M3,M3];omega
def wj:RDn:=λds h Q=> ∃z,∃m:Int,∃n:Nat,ds= [z,.int m,.int (n:Int)]/\okD z=true/\Hw h z/\(∀es,z= .tup es->es.length<1000)/\1<=n/\n<=6/\ ∀b:Bool,(b=true↔ ∃Ts:List (List (List Int)),z= .tup (Ts.map jr)/\(∀M∈Ts,Sq n 1920 M)/\((Ts.length:Nat):Int)=m/\Ts.Nodup)->Q (.bl b) h
theorem vH (Z:Zs mg)(F:Fun K "are_unlike_tables" "are_unlike_tables" zA f fd)(wc:jC P w K mg base n "has_table_form" ["thing"] jX):FnOk P w K mg base CX0 (n+1) f fd ["thing","many","size"] (LSp K wj):=by
 obtain⟨JH,Jm,we,zP,zQ,zR⟩:=wc;refine F.okJ wk (λds h Q q=>by obtain⟨z,m,n,e,ok,hw,few,h1,h6,q⟩:=q;subst e;rfl) _ (λcdv A outer s H E hr=>(jd (Zo (jpt (VA (wn (wM (JQ (T:= "tuple") (by decide) rfl Z.isinstance rfl Z.tuple (by decide +kernel) (jv 0)))) (Qx (zZ oq_ne (jO zH rfl Z.len R3 (jac (jv 0) ja)) (jv 1) (jF _))))) (jq (wB jbl)) jY) (by exact(jd (Zo (wn (wM (jO (Yf rfl) rfl Z.all B5 (jac (jlc (i:=3) (js:= [3]) rfl (jz (by rfl)) (wH (jv 0)) (by decide) wk.nd rfl (by first|exact Or.inl rfl|exact Or.inr rfl) (λX' hX=>jZ) (λX' hX=>by obtain⟨C,s₀,H₀,ex,rfl⟩:=hX;exact(Ml (jB we hr rfl zR zQ zP (jac (jv 3) ja)) (PV (Uc oq_eq (jO zH rfl Z.len R3 (jac (jv 3) ja)) (jv 2) (jF _)))))) ja)))) (jq (wB jbl)) jY) (by exact(jq (wB (Uc oq_eq (CA hr rfl rfl Z.len rfl Z.set (jac (jv 0) ja)) (jv 1) (jF _))))))))) ?_;intro ds h Q q;obtain⟨z,m,n,e,ok,hw,few,h1,h6,q⟩:=q;subst e;have no:(¬ ∃Ts:List (List (List Int)),z= .tup (Ts.map jr)/\(∀M∈Ts,Sq n 1920 M)/\((Ts.length:Nat):Int)=m/\Ts.Nodup)->Q (.bl false) h:=λc=>q false ⟨(λz=>by cases z),λz=>absurd z c⟩
 obtain⟨nm,hn⟩:=zm ok;cases z with
 |tup es=>
  cases hn;obtain⟨hl,ht⟩:=vp ok;have few:=few es rfl;have U4:True:=trivial;refine jj (λσ' h'=>σ'= [some (.tup es),some (.int m),some (.int (n:Int)),none]/\((es.length:Nat):Int)=m/\h=h') (λC hC=>⟨_,rfl,_,rfl,_,rfl,yS ⟨_,rfl,_,rfl,?_⟩⟩) ?_
  ·show ∃k_1,D.bl (!decide (((es.length:Nat):Int)=m))= .bl k_1/\_
   by_cases c:((es.length:Nat):Int)=m
   ·rw [D5 c];exact⟨_,rfl,yS (hC _ _ ⟨rfl,c,rfl⟩)⟩
   ·rw [D8 c];refine⟨_,rfl,vS ⟨_,Sub.refl _,no ?_⟩⟩;rintro ⟨Ts,e,_,l,_⟩;injection e with e
    rw [e,G0] at c;exact c l
  rintro _ _ ⟨rfl,hm,rfl⟩;refine jj (λσ' h'=>σ'= [some (.tup es),some (.int m),some (.int (n:Int)),none]/\(∃Ts:List (List (List Int)),es=Ts.map jr/\ ∀M∈Ts,Sq n 1920 M)/\h=h') (λC hC=> ?_) ?_
  ·refine Ex (j:=λ_=>some es) es (λx=>x) (λx=>YZ x&&Ol x n) (by omega) (by rw [List.map_id']) (λR r=>⟨_,rfl,r⟩) (λx hx Q' q'=>⟨_,rfl,x,rfl,ht x hx,_,rfl,?_⟩) ⟨_,rfl,?_⟩
   ·cases c:YZ x with
    |false=>rw [c] at q';exact yS q'
    |true=>
     rw [c] at q';obtain⟨M,k,rfl,_⟩:=Re c (hw.parts x hx);exact vS ⟨_,rfl,_,rfl,q'⟩
   ·show if (!(es.all λx=>YZ x&&Ol x n))=true then _ else _
    cases c:es.all λx=>YZ x&&Ol x n with
    |false=>
     refine vS ⟨_,Sub.refl _,no ?_⟩;rintro ⟨Ts,e,g,_⟩;injection e with e
     have:(es.all λx=>YZ x&&Ol x n)=true:=R5.mpr λx hx=>by
      rw [e] at hx;obtain⟨M,hM,rfl⟩:=D6.mp hx;rw [XO (g M hM) h1 h6,QY (g M hM),D5 rfl];rfl
     rw [this] at c;cases c
    |true=>
     refine yS (hC _ _ ⟨rfl,Yo λx hx=> ?_,rfl⟩);have:=R5.mp c x hx;rw [R4] at this;obtain⟨M,k,rfl,sM,_⟩:=Re this.1 (hw.parts x hx);have e:=this.2;rw [QY sM,M3] at e;subst e;exact⟨M,rfl,sM⟩
  rintro _ _ ⟨rfl,⟨Ts,rfl,g⟩,rfl⟩;rw [G0] at hm few;refine⟨_,rfl,Ts,rfl,few,λk le iff=>⟨_,rfl,?_⟩⟩;show ∃h0,Sub h0 h/\Q (.bl (decide ((k:Int)=m))) h0;refine⟨_,Sub.refl _,q _ ?_⟩;rw [M3];constructor
  ·intro e;exact⟨Ts,rfl,g,hm,iff.mp (by omega)⟩
  ·rintro ⟨Us,e,_,l,nd⟩;injection e with e
   have:Ts=Us:=(L6 λx y h=>Jw h).mp e;subst this;have:=iff.mpr nd;omega
 |_=>cases hn<;>exact jj (λ_ _=>False) (λC hC=>⟨_,rfl,_,rfl,_,rfl,vS ⟨h,Sub.refl h,no (by rintro ⟨_,e,_⟩;cases e)⟩⟩) (λ_ _ z=>z.elim)
theorem MW (Ts:List (List (List Int))):Nv (Ts.map jr) (vB (Ts.map jr) (some 1) none)=(Ts.zip (Ts.drop 1)).map λp=>D.tup [jr p.1,jr p.2]:=by
 rw [Cg];unfold Nv;rw [<-V9,List.zip_map,S5];rfl
theorem Vd (A B:List (List Int)):PyData.eqv (Zq A) (Zq B)=decide (A=B):=zk A B
theorem Rf {A B:List (List Int)}{Q:KD}(q:Q (.bl (!decide (A=B))) h):neE (jr A) (jr B) h Q:=⟨_,_,yZ h A,yZ h B,vF A,vF B,by rw [Vd];exact q⟩
def Ux:RDn:=λds h Q=> ∃T,∃Ts:List (List (List Int)),∃n e:Nat,ds= [jr T,.tup (Ts.map jr)]/\Sq n e T/\e<=1000/\(∀M∈Ts,Sq n 1920 M)/\1<=n/\n<=6/\Ts.length<=1000/\Q (.bl ((Ts.zip (Ts.drop 1)).all λp=>decide (p.2=mk1 n T p.1))) h
theorem Rg (Z:Zs mg)(F:Fun K "follow" "follow" YW f fd)(yG:jC P w K mg base n "marks_after" ["ahead","table"] yb):FnOk P w K mg base CX0 (n+1) f fd ["table","rows"] (LSp K Ux):=by
 obtain⟨WA,ZJ,yH,ye,yf,yg⟩:=yG;refine F.okJ UX (λds h Q q=>by obtain⟨T,Ts,n,b,e,hT,hb,hM,h1,h6,few,q⟩:=q;subst e;rfl) _ (λcdv A outer s H E hr=>(jq (wB (jO (Yf rfl) rfl Z.all B5 (jac (Sh (i:=2) (j:=3) (js:= [2,3]) rfl (jz (by rfl)) (LQ rfl Z.zip (jac (jv 1) (by exact(jac (zJ (jv 1) (za jp) zj) ja)))) (by decide) (by decide) (by decide) UX.nd rfl rfl (by first|exact Or.inl rfl|exact Or.inr rfl) (by first|exact Or.inl rfl|exact Or.inr rfl) (λX' hX=>jZ) (λX' hX=>by obtain⟨C,s₀,H₀,ex,rfl⟩:=hX;exact(Uc (Ub hr.units) (jv 3) (jB yH hr rfl yg yf ye (jac (jv 2) (by exact(jac (jv 0) ja)))) (jF _)))) ja))))) ?_;intro ds h Q q;obtain⟨T,Ts,n,b,e,hT,hb,hM,h1,h6,few,q⟩:=q;subst e;exact AG (j:=λ_=>some (Nv (Ts.map jr) (vB (Ts.map jr) (some 1) none))) (Ts.zip (Ts.drop 1)) (λp=>jr p.1) (λp=>jr p.2) (λp=>decide (p.2=mk1 n T p.1)) (by rw [Q4];omega) (congrArg some (MW Ts)) (λR r=>⟨_,rfl,_,rfl,_,rfl,_,_,rfl,r⟩) (λp hp Q' q'=>⟨_,rfl,_,rfl,_,rfl,p.1,T,n,b,1920,rfl,hM _ (K7 hp).1,hT,h1,h6,hb,by decide,Xv q'⟩) ⟨h,Sub.refl h,q⟩
/-- the third part of three is not long -/
def Om (d:D):Prop:= ∀a l es,d= .tup [a,l,.tup es]->es.length<1000
variable {es:List D}
theorem On (t:Tz h (.tup es)):Hw h (.tup es):=by
 rcases t with t|t
 ·exact t.hw
 ·cases t
theorem QZ (h:((es.length:Nat):Int)=3): ∃x y z,es= [x,y,z]:=by
 match es,h with
 | [x,y,z],_=>exact⟨x,y,z,rfl⟩
 | [],h=>cases h
 | [_],h=>cases h
 | [_,_],h=>cases h
 |_::_::_::_::r,h=>simp only [P8] at h;omega
theorem Rh (c:Cal n T (.tup es)):((es.length:Nat):Int)=3:=by
 obtain⟨L,J,e,_⟩:=c;injection e with e
 rw [e];rfl
theorem zt {x y z:D}(c:Cal n T (.tup [x,y,z])): ∃L J:Nat,x= .int (((J:Nat):Int)+1)/\y= .int (((L:Nat):Int)-((J:Nat):Int))/\z= .tup (((List.range L).map (jS n T)).map jr)/\Course n T L J:=by
 obtain⟨L,J,e,co⟩:=c;injection e with e
 injection e with e1 e
 injection e with e2 e
 injection e with e3 e
 exact⟨L,J,e1,e2,by rw [e3,S5];rfl,co⟩
theorem Oo {Ts:List (List (List Int))}(h0:Ts[0]? =some (jw n T))(ha:((Ts.zip (Ts.drop 1)).all λp=>decide (p.2=mk1 n T p.1))=true):Ts=(List.range Ts.length).map (jS n T):=by
 have key: ∀i,i<Ts.length->Ts[i]? =some (jS n T i):=λi=>by
  induction i with
  |zero=>exact λ_=>h0
  |succ i ih=>
   intro hi;have e:=ih (by omega);rw [G3 (by omega)] at e;injection e with e
   rw [G3 hi];have hl:i<(Ts.zip (Ts.drop 1)).length:=by rw [Q4,N8];omega
   have:=O7 (R5.mp ha _ (R6 hl));rw [List.getElem_zip] at this;simp only [List.getElem_drop] at this;rw [e] at this;refine congrArg some ?_;simp only [Z4 1 i] at this;exact this
 refine List.ext_getElem? λi=> ?_
 by_cases c:i<Ts.length
 ·rw [key i c,G6,N0 c];rfl
 ·rw [L9 (by omega),L9 (by rw [G0,P4];omega)]
theorem CF (L:Nat):((((List.range L).map (jS n T)).zip (((List.range L).map (jS n T)).drop 1)).all λp=>decide (p.2=mk1 n T p.1))=true:=by
 rw [R5];intro p hp;obtain⟨i,hi,e⟩:=List.getElem_of_mem hp;rw [Q4,N8,G0,P4] at hi;rw [List.getElem_zip] at e;rw [<-e];simp only [List.getElem_drop,K1,M2];rw [Z4 1 i];exact D5 rfl
theorem Ri {a l:Int}{L:Nat}(a1:1<=a)(l1:1<=l)(hL:((L:Nat):Int)=a+l-1)(nd:((List.range L).map (jS n T)).Nodup):jS n T L=jS n T (a-1).toNat↔Cal n T (.tup [.int a,.int l,.tup (((List.range L).map (jS n T)).map jr)]):=by
 constructor
 ·intro e;refine⟨L,(a-1).toNat,?_,nd,by omega,e⟩;unfold CO;rw [S5,show (((a-1).toNat:Nat):Int)=a-1 by omega,show a-1+1=a by omega,hL,show a+l-1-(a-1)=l by omega];rfl
 ·intro c;obtain⟨L2,J,e1,e2,e3,co⟩:=zt c;injection e1 with e1
  injection e3 with e3
  have:=congrArg List.length e3;rw [G0,G0,P4,G0,G0,P4] at this;subst this;rw [show (a-1).toNat=J by omega];exact co.eq
def yp:RDn:=λds h Q=> ∃T d,∃n e:Nat,ds= [jr T,d]/\Sq n e T/\1<=n/\n<=6/\okD d=true/\e<=1000/\Tz h d/\Om d/\ ∀b:Bool,(b=true↔Cal n T d)->Q (.bl b) h
theorem Ze (Z:Zs mg)(F:Fun K "calendar_holds" "calendar_holds" wb f fd)(vw:jC P w K mg base n "want_table" ["thing"] yD)(Rl:jC P w K mg base n "is_from" ["thing","least"] Yp)(Jf:jC P w K mg base n "are_unlike_tables" ["thing","many","size"] wj)(MY:jC P w K mg base n "follow" ["table","rows"] Ux)(XW:jC P w K mg base n "marks" ["table"] Vc)(yG:jC P w K mg base n "marks_after" ["ahead","table"] yb):FnOk P w K mg base CX0 (n+1) f fd ["table","thing"] (LSp K yp):=by
 obtain⟨WU,WD,vy,yJ,yL,yN⟩:=vw;obtain⟨CJ,NQ,UI,Yq,Ys,Yt⟩:=Rl;obtain⟨UR,VE,Jh,vK,vM,vO⟩:=Jf;obtain⟨CP,CK,MZ,Rm,Rv,Rw⟩:=MY;obtain⟨Rq,GS,XZ,Vn,Vt,Vx⟩:=XW;obtain⟨WA,ZJ,yH,ye,yf,yg⟩:=yG;refine F.okJ yq (λds h Q q=>by obtain⟨T,d,n,b,e,hT,h1,h6,ok,hb,th,few,q⟩:=q;subst e;rfl) _ (λcdv A outer s H E hr=>(jd (Xr (jB vy hr rfl yN yL yJ (jac (jv 0) ja))) (by exact(jd (Zo (jpt (VA (wn (wM (JQ (T:= "tuple") (by decide) rfl Z.isinstance rfl Z.tuple (by decide +kernel) (jv 1)))) (Qx (zZ oq_ne (jO zH rfl Z.len R3 (jac (jv 1) ja)) jp (jF _))))) (jq (wB jbl)) jY) (by exact(jd (Mm (jv 1) (Cl (i:=2) (j:=3) (l:=4) rfl yq.nd rfl rfl rfl (Or.inl rfl) (Or.inl rfl) (Or.inl rfl))) (by exact(jd (Zo (jpt (VA (wn (wM (jB UI hr rfl Yt Ys Yq (jac (jv 2) (by exact(jac jp ja)))))) (Qx (wn (wM (jB UI hr rfl Yt Ys Yq (jac (jv 3) (by exact(jac jp ja))))))))) (jq (wB jbl)) jY) (by exact(jd (Zo (wn (wM (jB Jh hr rfl vO vM vK (jac (jv 4) (by exact(jac (jop yQ (jop jA (jv 2) (jv 3)) jp) (by exact(jac (jO zH rfl Z.len R3 (jac (jv 0) ja)) ja)))))))) (jq (wB jbl)) jY) (by exact(jd (Zo (jpt (VA (zZ (PM hr.units) (jix (jv 4) jp (λ_ _=>rfl)) (jB XZ hr rfl Vx Vt Vn (jac (jv 0) ja)) (jF _)) (Qx (wn (wM (jB MZ hr rfl Rw Rv Rm (jac (jv 0) (by exact(jac (jv 4) ja))))))))) (jq (wB jbl)) jY) (by exact(jq (wB (Uc (Ub hr.units) (jB yH hr rfl yg yf ye (jac (jix (jv 4) (LF jp) (λ_ _=>rfl)) (by exact(jac (jv 0) ja)))) (jix (jv 4) (jop yQ (jv 2) jp) (λ_ _=>rfl)) (jF _))))))))))))))))) ?_;intro ds h Q q;obtain⟨T,d,n,b,e,hT,h1,h6,ok,hb,th,few,q⟩:=q;subst e;have no: ¬Cal n T d->Q (.bl false) h:=λc=>q false ⟨(λz=>by cases z),λz=>absurd z c⟩
 refine jj (λσ' h'=>σ'= [some (jr T),some (d),none,none,none]/\h=h') (λC hC=>⟨_,rfl,T,n,b,rfl,hT,h1,h6,hC _ _ ⟨rfl,rfl⟩⟩) ?_;rintro _ _ ⟨rfl,rfl⟩;obtain⟨nm,hn⟩:=zm ok;cases d with
 |tup es=>
  cases hn;obtain⟨hl,ht⟩:=vp ok;refine jj (λσ' h'=>(∃x y z,es= [x,y,z])/\σ'= [some (jr T),some (.tup es),none,none,none]/\h=h') (λC hC=>⟨_,rfl,"tuple",rfl,_,rfl,yS ⟨_,rfl,_,rfl,?_⟩⟩) ?_
  ·show if (!decide (((es.length:Nat):Int)=3))=true then _ else _
   by_cases c:((es.length:Nat):Int)=3
   ·rw [D5 c];exact yS (hC _ _ ⟨QZ c,rfl,rfl⟩)
   ·rw [D8 c];exact vS ⟨h,Sub.refl h,no λw=>c (Rh w)⟩
  rintro _ _ ⟨⟨x,y,z,rfl⟩,rfl,rfl⟩;have hw:=On th;refine jj (λσ' h'=>σ'= [some (jr T),some (.tup [x,y,z]),some x,some y,some z]/\h=h') (λC hC=>⟨_,rfl,_,_,_,rfl,hC _ _ ⟨rfl,rfl⟩⟩) ?_;rintro _ _ ⟨rfl,rfl⟩;have oky:=ht y (by simp);have okx:=ht x (by simp);have okz:=ht z (by simp);refine jj (λσ' h'=>(∃a l:Int,x= .int a/\y= .int l/\1<=a/\1<=l)/\σ'= [some (jr T),some (.tup [x,y,z]),some x,some y,some z]/\h=h') (λC hC=> ?_) ?_
  ·by_cases cx: ∃a:Int,x= .int a/\1<=a
   ·obtain⟨a,rfl,a1⟩:=cx;refine⟨_,rfl,_,1,rfl,rfl,.inl ⟨a,rfl,_,rfl,?_⟩⟩;rw [D5 a1];refine yS ?_
    by_cases cy: ∃l:Int,y= .int l/\1<=l
    ·obtain⟨l,rfl,l1⟩:=cy;refine⟨_,rfl,_,1,rfl,rfl,.inl ⟨l,rfl,_,rfl,?_⟩⟩;rw [D5 l1];exact yS (hC _ _ ⟨⟨a,l,rfl,rfl,a1,l1⟩,rfl,rfl⟩)
    ·have nc: ¬Cal n T (.tup [.int a,y,z]):=λw=>by
      obtain⟨L,J,_,e,_,co⟩:=zt w;exact cy ⟨_,e,by have:=co.lt;omega⟩
     refine⟨_,rfl,y,1,rfl,oky,?_⟩;cases y with
     |int l=>
      refine .inl ⟨l,rfl,_,rfl,?_⟩;rw [D8 λw=>cy ⟨l,rfl,w⟩];exact vS ⟨h,Sub.refl h,no nc⟩
     |_=>exact .inr ⟨rfl,_,rfl,vS ⟨h,Sub.refl h,no nc⟩⟩
   ·have nc: ¬Cal n T (.tup [x,y,z]):=λw=>by
     obtain⟨L,J,e,_⟩:=zt w;exact cx ⟨_,e,by omega⟩
    refine⟨_,rfl,x,1,rfl,okx,?_⟩;cases x with
    |int a=>
     refine .inl ⟨a,rfl,_,rfl,?_⟩;rw [D8 λw=>cx ⟨a,rfl,w⟩];exact vS ⟨h,Sub.refl h,no nc⟩
    |_=>exact .inr ⟨rfl,_,rfl,vS ⟨h,Sub.refl h,no nc⟩⟩
  rintro _ _ ⟨⟨a,l,rfl,rfl,a1,l1⟩,rfl,rfl⟩;refine jj (λσ' h'=>(∃Ts:List (List (List Int)),z= .tup (Ts.map jr)/\(∀M∈Ts,Sq n 1920 M)/\((Ts.length:Nat):Int)=a+l-1/\Ts.Nodup)/\σ'= [some (jr T),some (.tup [.int a,.int l,z]),some (.int a),some (.int l),some z]/\h=h') (λC hC=>⟨_,rfl,_,rfl,_,rfl,_,rfl,z,a+l-1,n,by rw [G0,hT.len],okz,hw.parts z (by simp),λes e=>few _ _ es (by rw [e]),h1,h6,λk hk=>⟨_,rfl,?_⟩⟩) ?_
  ·cases k with
   |true=>exact yS (hC _ _ ⟨hk.mp rfl,rfl,rfl⟩)
   |false=>
    refine vS ⟨h,Sub.refl h,no λw=> ?_⟩;obtain⟨L,J,e1,e2,rfl,co⟩:=zt w;injection e1 with e1
    injection e2 with e2
    have:=hk.mpr ⟨_,rfl,λM hM=>by
     obtain⟨i,_,rfl⟩:=D6.mp hM;exact(zL n T i).mono (by decide),by rw [G0,P4];omega,co.nd⟩
    cases this
  rintro _ _ ⟨⟨Ts,rfl,g,lT,nd⟩,rfl,rfl⟩;have few:=few _ _ _ rfl;rw [G0] at few;have l0:0<Ts.length:=by omega
  refine jj (λσ' h'=>Ts=(List.range Ts.length).map (jS n T)/\σ'= [some (jr T),some (.tup [.int a,.int l,.tup (Ts.map jr)]),some (.int a),some (.int l),some (.tup (Ts.map jr))]/\h=h') (λC hC=>⟨_,rfl,_,zX (j:=0) (by rw [G6,G3 l0];rfl),_,rfl,T,n,b,rfl,hT,h1,h6,Rf ⟨_,rfl,?_⟩⟩) ?_
  ·show if (!decide (Ts[0]=jw n T))=true then _ else _
   by_cases z0:Ts[0]=jw n T
   ·rw [D5 z0];refine yS ⟨_,rfl,_,rfl,T,Ts,n,b,rfl,hT,hb,g,h1,h6,by omega,_,rfl,?_⟩;show if (!((Ts.zip (Ts.drop 1)).all λp=>decide (p.2=mk1 n T p.1)))=true then _ else _
    cases c:(Ts.zip (Ts.drop 1)).all λp=>decide (p.2=mk1 n T p.1) with
    |true=>exact yS (hC _ _ ⟨Oo (by rw [G3 l0,z0]) c,rfl,rfl⟩)
    |false=>
     refine vS ⟨h,Sub.refl h,no λw=> ?_⟩;obtain⟨L,J,_,_,e,_⟩:=zt w;injection e with e
     have e:=(L6 λx y h=>Jw h).mp e;rw [e,CF] at c;cases c
   ·rw [D8 z0];refine vS ⟨h,Sub.refl h,no λw=> ?_⟩;obtain⟨L,J,_,_,e,_⟩:=zt w;injection e with e
    have e:=(L6 λx y h=>Jw h).mp e;subst e;refine z0 ?_;rw [K1,M2];rfl
  rintro _ _ ⟨eT,rfl,rfl⟩;generalize Ts.length=L at*
  subst eT;have atR: ∀i,i<L->(((List.range L).map (jS n T)).map jr)[i]? =some (jr (jS n T i)):=λi hi=>by rw [G6,G6,N0 hi];rfl
  refine⟨_,rfl,_,QL (by rw [G0,G0,P4];omega) (by rw [G0,G0,P4];exact atR (L-1) (by omega)),_,rfl,jS n T (L-1),T,n,b,1,rfl,zL n T _,hT,h1,h6,hb,by decide,_,rfl,_,rfl,_,?_,Xv (A:=mk1 n T (jS n T (L-1))) (B:=jS n T (a-1).toNat) ⟨_,Sub.refl _,q _ ?_⟩⟩
  ·show atI _ (a-1)=_;have:=zX (atR (a-1).toNat (by omega))
   rwa [show (((a-1).toNat:Nat):Int)=a-1 by omega] at this
  ·rw [M3,<-Ri a1 l1 lT nd];show jS n T (L-1+1)=_↔_;rw [show L-1+1=L by omega]
 |_=>cases hn<;>exact jj (λ_ _=>False) (λC hC=>⟨_,rfl,_,rfl,_,rfl,vS ⟨h,Sub.refl h,no (by rintro ⟨L,J,e,_⟩;cases e)⟩⟩) (λ_ _ z=>z.elim)
def Zr:RDn:=λds h Q=> ∃ns k,ds= [.scr ns,.int k]/\0<=k/\ ∀n,Q (.int n) h
theorem Uy (Z:Zs mg)(F:Fun K "_law_cell" "_law_cell" Ja f fd):FnOk P w K mg base CX0 (n+1) f fd ["_law_script","_law_k"] (LSp K Zr):=by
 refine F.okJ Uu (λds h Q q=>by obtain⟨ns,k,e,h0,q⟩:=q;subst e;rfl) _ (λcdv A outer s H E hr=>(jd (Zo (zZ Me (jv 1) (jO zH rfl Z.len R3 (jac (jv 0) ja)) (jF _)) (jq (wB (jix (jv 0) (jv 1) (λ_ _=>rfl)))) jY) (by exact(jq (wB jp))))) ?_;intro ds h Q q;obtain⟨ns,k,e,h0,q⟩:=q;subst e;simp only [Px,Mb,Jq,dOp,Gm,wG,R0,B8,P8,S4,M9,M6,N4,R9,M0,dCB,yV,UY,BS,Md,D.bl.injEq,Xj,ixD,Xk,N5,Yz,dC];refine VR (λc=> ?_) (λ_=>⟨h,Sub.refl h,q 0⟩);have c':k<(ns.length:Int):=O7 c;have hk:k.toNat<ns.length:=by omega
 have ek:k=((k.toNat:Nat):Int):=by omega
 have z:=zX (G3 hk);rw [<-ek] at z;exact⟨ns[k.toNat],z,h,Sub.refl h,q _⟩
def Wr:RDn:=λds h Q=> ∃c,ds= [.int c]/\ ∀p l fl,h p=none->0<=l->(fl=0\/fl=1)->Q (.lst p) (zY h p [.int l,.int fl])
theorem XQ (Z:Zs mg)(F:Fun K "_law_pen" "_law_pen" Za f fd):FnOk P w K mg base CX0 (n+1) f fd ["_law_cell_here"] (LSp K Wr):=by
 refine F.okJ WH (λds h Q q=>by obtain⟨c,e,q⟩:=q;subst e;rfl) _ (λcdv A outer s H E hr=>(jd (wo (i:=1) WH.nd rfl (Or.inl rfl) (jO (Lj rfl) rfl Z.max (by decide +kernel) (jac (jv 0) (by exact(jac (jop yQ jp (jv 0)) ja))))) (by exact(jq (wB (yW (jac (jv 1) (by exact(jac (jU PC rfl Z.int (by decide +kernel) (jac (Uc Pz (jv 1) (jop Qt jp jp) (jF _)) ja)) ja))))))))) ?_;intro ds h Q q;obtain⟨c,e,q⟩:=q;subst e;simp only [Px,BD,dCB,yV,Gm,wG,R0,B8,P8,S4,List.replicate,M9,M6,R9,M0,dOp,dC,En,UY,Av,Xj,CL,List.set_cons_succ,List.set_cons_zero,N4,As,Md,Au,Xk,N5];refine⟨⟨by decide,by decide,by decide⟩,by decide,λp hp=>⟨_,Sub.refl _,q p _ _ hp ?_ ?_⟩⟩
 ·split<;>omega
 ·split<;>simp<;>omega
def jQ:RDn:=λds h Q=> ∃p l fl m,ds= [.lst p,.int m]/\h p=some [.int l,.int fl]/\0<=l/\0<m/\m<2^200/\ ∀r l',0<=r->r<m->0<=l'->Q (.int r) (zY h p [.int l',.int fl])
theorem Uz (Z:Zs mg)(F:Fun K "_law_draw" "_law_draw" Jb f fd):FnOk P w K mg base CX0 (n+1) f fd ["_law_pen_here","_law_many"] (LSp K jQ):=by
 refine F.okJ wU (λds h Q q=>by obtain⟨p,l,fl,m,e,hp,h0,hm,hm2,q⟩:=q;subst e;rfl) _ (λcdv A outer s H E hr=>(jd (Zo (zZ oq_eq (jix (jv 0) jp (λ_ _=>rfl)) jp (jF _)) (jd (Mm (jO Gw rfl Z.divmod (by decide +kernel) (jac (jix (jv 0) jp (λ_ _=>rfl)) (by exact(jac (jv 1) ja)))) (Ud (i:=2) (j:=3) rfl wU.nd rfl rfl (Or.inl rfl) (Or.inl rfl))) (by exact(jd (Mm (jv 2) (Qy (jv 0) jp)) (by exact(jq (wB (jv 3))))))) jY) (by exact(jd (wo (i:=4) wU.nd rfl (Or.inl rfl) (jop vP (jop We (jop jA (jop vP (jix (jv 0) jp (λ_ _=>rfl)) jp) jp) jp) jp)) (by exact(jd (wo (i:=4) wU.nd rfl (Or.inl rfl) (jop vP (jop jA (jop We (jv 4) (jv 4)) jp) jp)) (by exact(jd (Mm (jop vP (jop jA (jop We (jv 4) jp) jp) jp) (Qy (jv 0) jp)) (by exact(jq (wB (jop vP (jop BQ (jix (jv 0) jp (λ_ _=>rfl)) jp) (jv 1))))))))))))) ?_;intro ds h Q q;obtain⟨p,l,fl,m,e,hp,h0,hm,hm2,q⟩:=q;subst e;refine jj (λσ' h'=>σ'= [some (.lst p),some (.int m),none,none,none]/\h=h') (λC hC=>⟨_,rfl,_,_,hp,rfl,?_⟩) ?_
 ·show ∃k,D.bl (decide (fl=1))= .bl k/\_;refine⟨_,rfl,VR (λ_=> ?_) λ_=>hC _ _ ⟨rfl,rfl⟩⟩;exact⟨_,rfl,_,_,hp,rfl,_,rfl,_,_,rfl,⟨hm,hm2⟩,_,_,rfl,_,rfl,_,rfl,p,0,_,0,rfl,rfl,hp,rfl,_,rfl,_,Sub.refl _,q (l%m) (l / m) (Q5 _ (Int.ne_of_gt hm)) (U6 _ hm) (Int.ediv_nonneg h0 (Int.le_of_lt hm))⟩
 rintro _ _ ⟨rfl,rfl⟩;refine jj (λσ' h'=> ∃z:Int,σ'= [some (.lst p),some (.int m),none,none,some (.int z)]/\(0<=z/\z<2147483629)/\h=h') (λC hC=>⟨_,rfl,_,_,hp,rfl,by decide,.inr ⟨by decide,by decide⟩,by decide,hC _ _ ⟨_,rfl,⟨Q5 _ (by decide),U6 _ (by decide)⟩,rfl⟩⟩) ?_;rintro _ _ ⟨z,rfl,⟨z0,z1⟩,rfl⟩;refine jj (λσ' h'=> ∃y:Int,σ'= [some (.lst p),some (.int m),none,none,some (.int y)]/\h=h') (λC hC=>⟨_,rfl,_,rfl,.inl ⟨Int.lt_of_lt_of_le (by decide) z0,Int.lt_trans z1 (by decide)⟩,by decide,hC _ _ ⟨_,rfl,rfl⟩⟩) ?_;rintro _ _ ⟨y,rfl,rfl⟩;refine jj (λσ' h'=> ∃x:Int,σ'= [some (.lst p),some (.int m),none,none,some (.int y)]/\0<=x/\h'=zY h p [.int x,.int fl]) (λC hC=>⟨_,rfl,.inr ⟨by decide,by decide⟩,by decide,_,rfl,p,0,_,0,rfl,rfl,hp,rfl,hC _ _ ⟨_,rfl,Q5 _ (by decide),rfl⟩⟩) ?_;rintro _ _ ⟨x,rfl,x0,rfl⟩;exact⟨_,rfl,_,_,jb,rfl,⟨by decide,by decide⟩,_,rfl,hm,_,Sub.refl _,q (x / 32%m) x (Q5 _ (Int.ne_of_gt hm)) (U6 _ hm) x0⟩
theorem Ve (Z:Zs mg)(F:Fun K "_law_whole" "_law_whole" vh f fd):FnOk P w K mg base CX0 (n+1) f fd ["_law_thing"] (LSp K zN):=by
 refine F.okJ YX (λds h Q q=>by obtain⟨d,nm,e,hn,q⟩:=q;subst e;rfl) _ (λcdv A outer s H E hr=>(jq (wB (Ml (JQ (T:= "int") (by decide) rfl Z.isinstance rfl Z.int (by decide +kernel) (jv 0)) (PV (Eu (JQ (T:= "bool") (by decide) rfl Z.isinstance rfl Z.bool (by decide +kernel) (jv 0)))))))) ?_;intro ds h Q q;obtain⟨d,nm,e,hn,q⟩:=q;subst e;simp only [Xj,Pu,dIs,Gm,wG,R0,B8,P8,S4,M9,M6,R9,M0,D.bl.injEq,Pv,Xk,N5,hn];cases d<;>cases hn<;>exact⟨h,Sub.refl h,q⟩
def Ws:RDn:=λds h Q=> ∃p l fl,ds= [.lst p]/\h p=some [.int l,.int fl]/\0<=l/\ ∀d l' h',okD d=true->Th (zd h' p) d->Om d->But p h h'->h' p=some [.int l',.int fl]->0<=l'->Q d h'
theorem XR (Z:Zs mg)(F:Fun K "_law_odd" "_law_odd" Zb f fd)(jE:jC P w K mg base n "_law_draw" ["_law_pen_here","_law_many"] jQ):FnOk P w K mg base CX0 (n+1) f fd ["_law_pen_here"] (LSp K Ws):=by
 obtain⟨zc,jV,ji,je,jf,jg⟩:=jE;refine F.okJ WG (λds h Q q=>by obtain⟨p,l,fl,e,hp,h0,q⟩:=q;subst e;rfl) _ (λcdv A outer s H E hr=>(jd (wo (i:=1) WG.nd rfl (Or.inl rfl) (yW (jac Lz (by exact(jac jbl (by exact(jac jbl (by exact(jac (LF jp) (by exact(jac AB (by exact(jac AB (by exact(jac (wg ja) (by exact(jac (yW ja) (by exact(jac (wg (jac jp ja)) (by exact(jac (yW (jac jp ja)) (by exact(jac LH (by exact(jac (wg (jac jp (by exact(jac jp ja)))) (by exact(jac (jop Qt jp jp) (by exact(jac (wg (jac jp (by exact(jac (wg ja) ja)))) (by exact(jac (wg (jac (wg ja) ja)) ja))))))))))))))))))))))))))))))) (by exact(jq (wB (jix (jop jA (jv 1) (yW (jac (wg (jac (wg (jac jp ja)) ja)) ja))) (jB ji hr rfl jg jf je (jac (jv 0) (by exact(jac jp ja)))) (λ_ _=>rfl))))))) ?_;intro ds h Q q;obtain⟨p,l,fl,e,hp,h0,q⟩:=q;subst e;simp only [Px,BD,CL,yV,dC,dUn,Ow,Ov,UY,S4,P8,Qw,dOp,As,Xj,Gm,wG,R0,B8,List.replicate,M9,M6,List.set_cons_succ,List.set_cons_zero,N4,R9,M0,Em,dCB,ixD,N5,Xk]
 repeat (first|intro _|refine⟨by decide,?_⟩|refine⟨⟨by decide,by decide,by decide⟩,?_⟩)
 rename_i p1 e1 p2 e2 p4 e4 p5 e5;have k1:=jc (M:= []) hp e1;have k2:=jc (M:= [.int 0]) k1 e2;have n1:p1≠p:=jl hp e1;have n2:p2≠p:=jl k1 e2;refine⟨_,_,jh (Ne.symm (Ca e5)) jb,jb,by simp only [P8,S4];decide,λp6 e6=> ?_⟩;refine⟨p,l,fl,16,rfl,jc (jc (jc k2 e4) e5) e6,h0,by decide,by decide,λr l' r0 r1 l0=> ?_⟩;obtain⟨d,hd,ed⟩:=zw (xs:= [D.non,D.bl true,D.bl false,D.int (-1),D.str (Str.ofString "1"),D.str (Str.ofString ""),D.tup [],D.lst p1,D.tup [D.int 0],D.lst p2,D.dic (Str.ofString "a") 1,D.tup [D.int 0,D.int 1],D.int (10^Int.toNat 30),D.tup [D.int 0,D.tup []],D.tup [D.tup []]]++ [D.tup [D.tup [D.int 0]]]) r0 r1;refine⟨_,d,jh (jl (jc (jc k2 e4) e5) e6) jb,ed,_,Sub.refl _,q d l' _ (YY ?_ d hd) ?_ ?_ ((((((But.refl p h).new e1).new e2).new e4).new e5).new e6).put jb l0⟩
 ·rfl
 ·simp only [D4,G4,P5,T4] at hd;rcases hd with (e|e|e|e|e|e|e|e|e|e|e|e|e|e|e)|e<;>subst e
  all_goals first
   |exact SmK.th (DD 2 _ (by decide +kernel))
   |exact .inr (.inr rfl)
   |exact Th.lst (wJ n1 (jh n1 (jc (jc (jc (jc jb e2) e4) e5) e6))) (by decide) (by simp)
   |exact Th.lst (wJ n2 (jh n2 (jc (jc (jc jb e4) e5) e6))) (by decide) (λx hx=>by rw [G8.mp hx];exact DD 1 _ (by decide +kernel))
 ·intro u v es e;subst e;simp only [D4,G4,P5,T4] at hd;rcases hd with (e|e|e|e|e|e|e|e|e|e|e|e|e|e|e)|e<;>cases e
def Zt:RDn:=λds h Q=> ∃p l fl,ds= [.lst p]/\h p=some [.int l,.int fl]/\0<=l/\ ∀ (k:Nat) l',1<=k->k<=6->0<=l'->Q (.int (k:Int)) (zY h p [.int l',.int fl])
theorem UA (Z:Zs mg)(F:Fun K "_law_size" "_law_size" Jc f fd)(jE:jC P w K mg base n "_law_draw" ["_law_pen_here","_law_many"] jQ):FnOk P w K mg base CX0 (n+1) f fd ["_law_pen_here"] (LSp K Zt):=by
 obtain⟨zc,jV,ji,je,jf,jg⟩:=jE;refine F.okJ Uv (λds h Q q=>by obtain⟨p,l,fl,e,hp,h0,q⟩:=q;subst e;rfl) _ (λcdv A outer s H E hr=>(jq (wB (jix (yW (jac jp (by exact(jac jp (by exact(jac jp (by exact(jac jp (by exact(jac jp (by exact(jac jp (by exact(jac jp (by exact(jac jp (by exact(jac jp (by exact(jac jp (by exact(jac jp (by exact(jac jp ja)))))))))))))))))))))))) (jB ji hr rfl jg jf je (jac (jv 0) (by exact(jac jp ja)))) (λ_ _=>rfl))))) ?_;intro ds h Q q;obtain⟨p,l,fl,e,hp,h0,q⟩:=q;subst e;simp only [Xj,dOp,CL,yV,dC,UY,P8,S4,dCB,Gm,wG,R0,B8,M9,M6,R9,M0,ixD,Xk,N5];refine⟨by decide,λp1 e1=>⟨p,l,fl,12,rfl,jc hp e1,h0,by decide,by decide,λr l' r0 r1 l0=> ?_⟩⟩;obtain⟨d,hd,ed⟩:=zw (xs:= [D.int 1,D.int 2,D.int 3,D.int 4,D.int 5,D.int 3,D.int 4,D.int 2,D.int 6,D.int 5,D.int 4,D.int 3]) r0 r1;refine⟨_,d,jh (jl hp e1) jb,ed,_,Sub.both (Sub.newAt (Sub.refl h) e1),?_⟩;have q': ∀k:Nat,1<=k->k<=6->Q (.int (k:Int)) (zY h p [.int l',.int fl]):=λk a b=>q k l' a b l0
 simp only [G4,P5,T4] at hd;rcases hd with e|e|e|e|e|e|e|e|e|e|e|e<;>subst e
 ·exact q' 1 (by decide) (by decide)
 ·exact q' 2 (by decide) (by decide)
 ·exact q' 3 (by decide) (by decide)
 ·exact q' 4 (by decide) (by decide)
 ·exact q' 5 (by decide) (by decide)
 ·exact q' 3 (by decide) (by decide)
 ·exact q' 4 (by decide) (by decide)
 ·exact q' 2 (by decide) (by decide)
 ·exact q' 6 (by decide) (by decide)
 ·exact q' 5 (by decide) (by decide)
 ·exact q' 4 (by decide) (by decide)
 ·exact q' 3 (by decide) (by decide)
def wq:RDn:=λds h Q=> ∃p l fl,∃k:Nat,ds= [.lst p,.int (k:Int)]/\h p=some [.int l,.int fl]/\0<=l/\1<=k/\k<=6/\ ∀T l',GoodTab k T->0<=l'->Q (jr T) (zY h p [.int l',.int fl])
theorem Vf (Z:Zs mg)(F:Fun K "_law_table" "_law_table" vj f fd)(jE:jC P w K mg base n "_law_draw" ["_law_pen_here","_law_many"] jQ):FnOk P w K mg base CX0 (n+1) f fd ["_law_pen_here","_law_size_here"] (LSp K wq):=by
 obtain⟨zc,jV,ji,je,jf,jg⟩:=jE;refine F.okJ jG (λds h Q q=>by obtain⟨p,l,fl,k,e,hp,h0,hk1,hk6,q⟩:=q;subst e;rfl) _ (λcdv A outer s H E hr=>(jd (Ev (i:=2) (j:=3) rfl jG.nd rfl rfl (by decide) rfl rfl (jac (jB ji hr rfl jg jf je (jac (jv 0) (by exact(jac jp ja)))) (by exact(jac (jix (yW (jac jp (by exact(jac jp (by exact(jac jp ja)))))) (jB ji hr rfl jg jf je (jac (jv 0) (by exact(jac jp ja)))) (λ_ _=>rfl)) ja))) rfl) (by exact(jd (wo (i:=4) jG.nd rfl (Or.inl rfl) (jix (yW (jac jp (by exact(jac jp (by exact(jac jp (by exact(jac (jop Qt jp jp) ja)))))))) (jB ji hr rfl jg jf je (jac (jv 0) (by exact(jac jp ja)))) (λ_ _=>rfl))) (by exact(jd (wo (i:=5) jG.nd rfl (Or.inl rfl) (yW ja)) (by exact(jd (PY T8 rfl (YI rfl Z.range (jac (jv 1) ja)) (yX (i:=6) jG.nd rfl (Or.inl rfl)) (jd (wo (i:=7) jG.nd rfl (Or.inl rfl) (yW ja)) (by exact(jd (PY T8 rfl (YI rfl Z.range (jac (jv 1) ja)) (yX (i:=8) jG.nd rfl (Or.inl rfl)) (jd (wo (i:=9) jG.nd rfl (Or.inl rfl) (Uc oq_eq (jB ji hr rfl jg jf je (jac (jv 0) (by exact(jac (jv 3) ja)))) jp (jF _))) (by exact(jd (Zo (zZ Me (jv 2) jp (jF _)) (jq (wo (i:=9) jG.nd rfl (Or.inl rfl) (jor (Uc oq_eq (jv 8) (jop vP (jop jA (jv 6) jp) (jv 1)) (jF _)) (PV (Ml (jv 9) (PV (Uc (Ub hr.units) (jB ji hr rfl jg jf je (jac (jv 0) (by exact(jac jp ja)))) (jv 2) (jF _)))))))) jY) (by exact(jd (Zo (zZ oq_eq (jv 2) jp (jF _)) (jq (wo (i:=9) jG.nd rfl (Or.inl rfl) (jor (Ml (jv 9) (PV (Uc oq_eq (jop vP (jop yQ (jv 8) (jv 6)) jp) jp (jF _)))) (PV (Uc (Ub hr.units) (jv 8) (jop jA (jv 6) jp) (jF _)))))) jY) (by exact(jd (Zo (zZ oq_eq (jv 2) jp (jF _)) (jq (wo (i:=9) jG.nd rfl (Or.inl rfl) (Ml (jv 9) (PV (Uc Pz (jv 8) (jv 6) (jF _)))))) jY) (by exact(jq (Xr (Ox (jv 7) (jop We (jU PC rfl Z.int (by decide +kernel) (jac (jv 9) ja)) (jop jA jp (jB ji hr rfl jg jf je (jac (jv 0) (by exact(jac (jv 4) ja)))))))))))))))))) (by exact(jq (Xr (Ox (jv 5) (jU cq_tuple rfl Z.tuple (by decide +kernel) (jac (jv 7) ja)))))))))) (by exact(jq (wB (jU cq_tuple rfl Z.tuple (by decide +kernel) (jac (jv 5) ja))))))))))))) ?_;intro ds h Q q;obtain⟨p,l,fl,k,e,hp,h0,hk1,hk6,q⟩:=q;subst e;refine jj (λσ' h'=> ∃way o l2,σ'= [some (.lst p),some (.int (k:Int)),some (.int way),some (.int o),none,none,none,none,none,none]/\0<o/\o<1000/\0<=l2/\h' p=some [.int l2,.int fl]/\But p h h') (λC hC=>⟨_,rfl,p,l,fl,6,rfl,hp,h0,by decide,by decide,λway l1 w0 w1 l10=>⟨(by show 3<=sizeLine;decide),λp1 e1=>⟨_,rfl,p,l1,fl,3,rfl,jc jb e1,l10,by decide,by decide,λr l2 r0 r1 l20=> ?_⟩⟩⟩) ?_
 ·obtain⟨oft,ho,eo⟩:=zw (xs:= [D.int 2,D.int 3,D.int 5]) r0 r1;obtain⟨o,e,o1,o2⟩: ∃o:Int,oft= .int o/\0<o/\o<1000:=by
   simp only [G4,P5,T4] at ho;rcases ho with e|e|e<;>exact⟨_,e,by decide,by decide⟩
  subst e;exact⟨_,_,jh (jl jb e1) jb,eo,_,_,rfl,hC _ _ ⟨way,o,l2,rfl,o1,o2,l20,jb,((But.upd).new e1).put⟩⟩
 rintro _ h1 ⟨way,o,l2,rfl,o1,o2,l20,kA,bA⟩;refine jj (λσ' h'=> ∃m l3,σ'= [some (.lst p),some (.int (k:Int)),some (.int way),some (.int o),some (.int m),none,none,none,none,none]/\0<m/\m<=1000000/\0<=l3/\h' p=some [.int l3,.int fl]/\But p h h') (λC hC=>⟨⟨by decide,by decide,by decide⟩,(by show 4<=sizeLine;decide),λp1 e1=>⟨_,rfl,p,l2,fl,4,rfl,jc kA e1,l20,by decide,by decide,λr l3 r0 r1 l30=> ?_⟩⟩) ?_
 ·obtain⟨most,ho,eo⟩:=zw (xs:= [D.int 1,D.int 1,D.int 3,D.int (10^Int.toNat 6)]) r0 r1;obtain⟨m,e,m1,m2⟩: ∃o:Int,most= .int o/\0<o/\o<=1000000:=by
   simp only [G4,P5,T4] at ho;rcases ho with e|e|e|e<;>exact⟨_,e,by decide,by decide⟩
  subst e;exact⟨_,_,jh (jl kA e1) jb,eo,hC _ _ ⟨m,l3,rfl,m1,m2,l30,jb,(bA.new e1).put⟩⟩
 clear kA bA;rintro _ h2 ⟨m,l3,rfl,m1,m2,l30,kB,bB⟩;refine jj (λσ' h'=> ∃R,σ'= [some (.lst p),some (.int (k:Int)),some (.int way),some (.int o),some (.int m),some (.lst R),none,none,none,none]/\R≠p/\h R=none/\h' R=some []/\h' p=some [.int l3,.int fl]/\But p h h') (λC hC=>⟨(by show 0<=sizeLine;decide),λR eR=>hC _ _ ⟨R,rfl,jl kB eR,YF bB eR (jl kB eR),jb,jc kB eR,bB.new eR⟩⟩) ?_;clear kB bB;rintro _ h3 ⟨R,rfl,nR,fR,kR,kC,bC⟩;refine jj (λσ' h'=> ∃a b c d l4 rows,σ'= [some (.lst p),some (.int (k:Int)),some (.int way),some (.int o),some (.int m),some (.lst R),a,b,c,d]/\0<=l4/\h' p=some [.int l4,.int fl]/\h' R=some (rows.map zK)/\But p h h'/\GoodTab k rows) (λC hC=> ?_) (λσ' h' ⟨a,b,c,d,l4,rows,e,l40,kD,kE,bD,g⟩=>by subst e;exact⟨_,rfl,_,kE,_,bD.sub kD,q rows l4 g l40⟩);refine YG k (λi σ' h'=> ∃a b c d l4 rows,σ'= [some (.lst p),some (.int (k:Int)),some (.int way),some (.int o),some (.int m),some (.lst R),a,b,c,d]/\0<=l4/\h' p=some [.int l4,.int fl]/\h' R=some (rows.map zK)/\But p h h'/\rows.length=i/\ ∀r∈rows,yy k r) (by omega) (λR' r=>⟨_,rfl,r⟩)
  ⟨none,none,none,none,l3,[],rfl,l30,kC,kR,bC,rfl,λr hr=>nomatch hr⟩ (λσ' h' z=>hC _ _ z) ?_
 clear kC kR bC;rintro i _ h4 hi ⟨a,b,c,d,l4,rows,rfl,l40,kD,kE,bD,g1,g2⟩;refine jj (λσ' h'=> ∃S,σ'= [some (.lst p),some (.int (k:Int)),some (.int way),some (.int o),some (.int m),some (.lst R),some (.int (i:Int)),some (.lst S),c,d]/\S≠p/\S≠R/\h S=none/\h' S=some []/\h' p=some [.int l4,.int fl]/\h' R=some (rows.map zK)/\But p h h') (λC hC=>⟨(by show 0<=sizeLine;decide),λS eS=>hC _ _ ⟨S,rfl,jl kD eS,jl kE eS,YF bD eS (jl kD eS),jb,jc kD eS,jc kE eS,bD.new eS⟩⟩) ?_;clear kD kE bD;rintro _ h5 ⟨S,rfl,nS,nSR,fS,kS,kD,kE,bD⟩;refine jj (λσ' h'=> ∃c d l5 row,σ'= [some (.lst p),some (.int (k:Int)),some (.int way),some (.int o),some (.int m),some (.lst R),some (.int (i:Int)),some (.lst S),c,d]/\0<=l5/\h' p=some [.int l5,.int fl]/\h' R=some (rows.map zK)/\h' S=some (row.map D.int)/\But p h h'/\yy k row) (λC hC=> ?_) ?_
 rotate_left
 ·rintro _ h6 ⟨c,d,l5,row,rfl,l50,kD,kE,kF,bD,g⟩;refine⟨_,rfl,R,rfl,_,rfl,_,kF,_,kE,?_,_,Sub.refl _,by omega,_,_,_,_,l5,rows++ [row],rfl,l50,jh (Ne.symm nR) kD,?_,bD.putNew fR,by rw [P7,g1];rfl,?_⟩
  ·rw [G0];exact B6 (show rows.length<=1000 by omega) (by decide)
  ·rw [jb,T3];rfl
  ·intro r hr;rcases D4.mp hr with z|z
   ·exact g2 r z
   ·rw [G8.mp z];exact g
 refine YG k (λj σ' h'=> ∃c d l5 row,σ'= [some (.lst p),some (.int (k:Int)),some (.int way),some (.int o),some (.int m),some (.lst R),some (.int (i:Int)),some (.lst S),c,d]/\0<=l5/\h' p=some [.int l5,.int fl]/\h' R=some (rows.map zK)/\h' S=some (row.map D.int)/\But p h h'/\row.length=j/\ ∀x∈row,0<=x/\x<=1000000) (by omega) (λR' r=>⟨_,rfl,r⟩)
  ⟨_,_,l4,[],rfl,l40,kD,kE,kS,bD,rfl,λr hr=>nomatch hr⟩ (λσ' h' z=>hC _ _ z) ?_
 clear kD kE kS bD;rintro j _ h6 hj ⟨c,d,l5,row,rfl,l50,kD,kE,kF,bD,g1',g2'⟩;refine jj (λσ' h'=> ∃ (g:Bool) (l6:Int),σ'= [some (.lst p),some (.int (k:Int)),some (.int way),some (.int o),some (.int m),some (.lst R),some (.int (i:Int)),some (.lst S),some (.int (j:Int)),some (.bl g)]/\0<=l6/\h' p=some [.int l6,.int fl]/\h' R=some (rows.map zK)/\h' S=some (row.map D.int)/\But p h h') (λC hC=>⟨_,rfl,_,rfl,p,l5,fl,o,rfl,kD,l50,o1,by omega,λr l6 r0 r1 l60=>hC _ _ ⟨_,l6,rfl,l60,jb,jh nR kE,jh nS kF,bD.put⟩⟩) ?_;clear kD kE kF bD;rintro _ _ ⟨g,l6,rfl,l60,kD,kE,kF,bD⟩;refine jj (λσ' h'=> ∃ (g:Bool) (l6:Int),σ'= [some (.lst p),some (.int (k:Int)),some (.int way),some (.int o),some (.int m),some (.lst R),some (.int (i:Int)),some (.lst S),some (.int (j:Int)),some (.bl g)]/\0<=l6/\h' p=some [.int l6,.int fl]/\h' R=some (rows.map zK)/\h' S=some (row.map D.int)/\But p h h') (λC hC=>⟨_,rfl,_,rfl,VR (λ_=>⟨_,rfl,_,rfl,_,rfl,by omega,_,rfl,VR (λ_=>hC _ _ ⟨_,l6,rfl,l60,kD,kE,kF,bD⟩) λ_=>⟨_,rfl,_,rfl,VR (λ_=>⟨_,rfl,p,l6,fl,2,rfl,kD,l60,by decide,by decide,λr l7 r0 r1 l70=>⟨_,rfl,hC _ _ ⟨_,l7,rfl,l70,jb,jh nR kE,jh nS kF,bD.put⟩⟩⟩) λ_=>hC _ _ ⟨_,l6,rfl,l60,kD,kE,kF,bD⟩⟩⟩) λ_=>hC _ _ ⟨_,l6,rfl,l60,kD,kE,kF,bD⟩⟩) ?_;clear kD kE kF bD;rintro _ _ ⟨g,l6,rfl,l60,kD,kE,kF,bD⟩;refine jj (λσ' h'=> ∃ (g:Bool) (l6:Int),σ'= [some (.lst p),some (.int (k:Int)),some (.int way),some (.int o),some (.int m),some (.lst R),some (.int (i:Int)),some (.lst S),some (.int (j:Int)),some (.bl g)]/\0<=l6/\h' p=some [.int l6,.int fl]/\h' R=some (rows.map zK)/\h' S=some (row.map D.int)/\But p h h') (λC hC=>⟨_,rfl,_,rfl,VR (λ_=>⟨_,rfl,_,rfl,VR (λ_=>⟨_,rfl,_,rfl,by decide,_,rfl,VR (λ_=>hC _ _ ⟨_,l6,rfl,l60,kD,kE,kF,bD⟩) λ_=>⟨_,rfl,_,rfl,hC _ _ ⟨_,l6,rfl,l60,kD,kE,kF,bD⟩⟩⟩) λ_=>⟨_,rfl,VR (λ_=>hC _ _ ⟨_,l6,rfl,l60,kD,kE,kF,bD⟩) λ_=>⟨_,rfl,_,rfl,hC _ _ ⟨_,l6,rfl,l60,kD,kE,kF,bD⟩⟩⟩⟩) λ_=>hC _ _ ⟨_,l6,rfl,l60,kD,kE,kF,bD⟩⟩) ?_;clear kD kE kF bD;rintro _ _ ⟨g,l6,rfl,l60,kD,kE,kF,bD⟩;refine jj (λσ' h'=> ∃ (g:Bool) (l6:Int),σ'= [some (.lst p),some (.int (k:Int)),some (.int way),some (.int o),some (.int m),some (.lst R),some (.int (i:Int)),some (.lst S),some (.int (j:Int)),some (.bl g)]/\0<=l6/\h' p=some [.int l6,.int fl]/\h' R=some (rows.map zK)/\h' S=some (row.map D.int)/\But p h h') (λC hC=>⟨_,rfl,_,rfl,VR (λ_=>⟨_,rfl,_,rfl,VR (λ_=>⟨_,rfl,_,rfl,hC _ _ ⟨_,l6,rfl,l60,kD,kE,kF,bD⟩⟩) λ_=>hC _ _ ⟨_,l6,rfl,l60,kD,kE,kF,bD⟩⟩) λ_=>hC _ _ ⟨_,l6,rfl,l60,kD,kE,kF,bD⟩⟩) ?_;clear kD kE kF bD;rintro _ _ ⟨g,l6,rfl,l60,kD,kE,kF,bD⟩;have gi: ∀x r:Int,0<=r->r<m->x=0\/x=1->CMul x (1+r)/\0<=x*(1+r)/\x*(1+r)<=1000000:=λx r r0 r1 hx=>by
  rcases hx with e|e<;>subst e
  ·exact⟨.inl ⟨by decide,by decide⟩,by omega,by omega⟩
  ·exact⟨.inl ⟨by decide,by decide⟩,by omega,by omega⟩
 refine⟨_,rfl,S,rfl,_,rfl,_,rfl,_,rfl,p,l6,fl,m,rfl,kD,l60,m1,by omega,λr l7 r0 r1 l70=> ?_⟩;have gg:=gi (if g=true then 1 else 0) r r0 r1 (by cases g<;>decide);refine⟨gg.1,_,jh nS kF,?_,_,Sub.refl _,by omega,_,_,l7,row++ [(if g=true then 1 else 0)*(1+r)],rfl,l70,jh (Ne.symm nS) jb,jh (Ne.symm nSR) (jh nR kE),?_,(bD.put).putNew fS,by rw [P7,g1'];rfl,?_⟩
 ·rw [G0];exact B6 (show row.length<=1000 by omega) (by decide)
 ·rw [jb,T3];rfl
 ·intro x hx;rcases D4.mp hx with z|z
  ·exact g2' x z
  ·rw [G8.mp z];exact gg.2
def Jy:RDn:=λds h Q=> ∃p l fl,∃k:Nat,ds= [.lst p,.int (k:Int)]/\h p=some [.int l,.int fl]/\0<=l/\k<=6/\ ∀o l',Ordr k o->0<=l'->Q (Ry o) (zY h p [.int l',.int fl])
theorem Vg (Z:Zs mg)(F:Fun K "_law_order" "_law_order" vk f fd)(jE:jC P w K mg base n "_law_draw" ["_law_pen_here","_law_many"] jQ):FnOk P w K mg base CX0 (n+1) f fd ["_law_pen_here","_law_many"] (LSp K Jy):=by
 obtain⟨zc,jV,ji,je,jf,jg⟩:=jE;refine F.okJ yO (λds h Q q=>by obtain⟨p,l,fl,k,e,hp,h0,hk,q⟩:=q;subst e;rfl) _ (λcdv A outer s H E hr=>(jd (wo (i:=2) yO.nd rfl (Or.inl rfl) (yW ja)) (by exact(jd (PY T8 rfl (YI rfl Z.range (jac (jv 1) ja)) (yX (i:=3) yO.nd rfl (Or.inl rfl)) (jq (Xr (Si (jv 2) (jB ji hr rfl jg jf je (jac (jv 0) (by exact(jac (jop jA (jv 3) jp) ja)))) (jv 3))))) (by exact(jq (wB (jU cq_tuple rfl Z.tuple (by decide +kernel) (jac (jv 2) ja))))))))) ?_;intro ds h Q q;obtain⟨p,l,fl,k,e,hp,h0,hk,q⟩:=q;subst e;refine jj (λσ' h'=> ∃R,σ'= [some (.lst p),some (.int (k:Int)),some (.lst R),none]/\R≠p/\h R=none/\h' R=some []/\h' p=some [.int l,.int fl]/\But p h h') (λC hC=> ?_) ?_
 ·exact⟨(by show 0<=sizeLine;decide),λR eR=>hC _ _ ⟨R,rfl,jl hp eR,eR,jb,jc hp eR,(But.refl p h).new eR⟩⟩
 rintro σ' h1 ⟨R,rfl,nR,fR,kR,kp,bt⟩;refine jj (λσ' h'=> ∃a l2 o,σ'= [some (.lst p),some (.int (k:Int)),some (.lst R),a]/\0<=l2/\Ordr k o/\h' R=some (o.map λ(i:Nat)=>D.int (i:Int))/\h' p=some [.int l2,.int fl]/\But p h h') (λC hC=> ?_) ?_
 ·refine YG k (λi σ' h'=> ∃a l2 o,σ'= [some (.lst p),some (.int (k:Int)),some (.lst R),a]/\0<=l2/\Ordr i o/\h' R=some (o.map λ(i:Nat)=>D.int (i:Int))/\h' p=some [.int l2,.int fl]/\But p h h') (by omega) (λR' r=>⟨_,rfl,r⟩) ⟨none,l,[],rfl,h0,List.Perm.nil,kR,kp,bt⟩ (λσ' h' z=>hC _ _ z) ?_;rintro i _ h2 hi ⟨a,l2,o,rfl,l20,ho,kR2,kp2,bt2⟩;refine⟨_,rfl,R,rfl,_,rfl,_,rfl,p,l2,fl,(i:Int)+1,rfl,kp2,l20,by omega,by omega,λr l3 r0 r1 l30=> ?_⟩;have lo:o.length=i:=ho.ord.len;refine⟨_,rfl,r.toNat,_,by rw [A5 r0],by omega,jh nR kR2,?_,_,Sub.refl _,by omega,_,l3,o.take r.toNat++i::o.drop r.toNat,rfl,l30,ho.insert r.toNat,?_,jh (Ne.symm nR) jb,(bt2.put).putNew fR⟩
  ·rw [G0];exact B6 (show o.length<=1000 by omega) (by decide)
  ·rw [jb,T3,R0,Z1,V9]
 rintro _ h3 ⟨a,l2,o,rfl,l20,ho,kR3,kp3,bt3⟩;exact⟨_,rfl,_,kR3,_,bt3.sub kp3,q o l2 ho l20⟩
def yE:RDn:=λds h Q=> ∃T U,∃n e f:Nat,ds= [jr T,jr U]/\Sq n e T/\Sq n f U/\e+f<=1000000/\n<=6/\Q (jr (vD n T U)) h
theorem Vh (Z:Zs mg)(F:Fun K "_law_times" "_law_times" vn f fd):FnOk P w K mg base CX0 (n+1) f fd ["_law_one","_law_other"] (LSp K yE):=by
 refine F.okJ zq (λds h Q q=>by obtain⟨T,U,k,b,f,e,hT,hU,hb,h6,q⟩:=q;subst e;rfl) _ (λcdv A outer s H E hr=>(jd (wo (i:=2) zq.nd rfl (by first|exact Or.inr rfl|exact Or.inl rfl) (jO zH rfl Z.len R3 (jac (jv 0) ja))) (by exact(jd (wo (i:=3) zq.nd rfl (Or.inl rfl) (yW ja)) (by exact(jd (PY T8 rfl (wH (jv 0)) (yX (i:=4) zq.nd rfl (by first|exact Or.inr rfl|exact Or.inl rfl)) (jq (Xr (Ox (jv 3) (jU zV rfl Z.tuple (by decide +kernel) (jac (jlc (i:=5) (js:= [5]) rfl (jz (by rfl)) (YI rfl Z.range (jac (jv 2) ja)) (by decide) zq.nd rfl (by first|exact Or.inl rfl|exact Or.inr rfl) (λX' hX=>jZ) (λX' hX=>by obtain⟨C,s₀,H₀,ex,rfl⟩:=hX;exact(jO (PQ rfl) rfl Z.sum (by decide +kernel) (jac (jlc (i:=6) (js:= [6]) rfl (jz (by rfl)) (YI rfl Z.range (jac (jv 2) ja)) (by decide) zq.nd rfl (by first|exact Or.inl rfl|exact Or.inr rfl) (λX' hX=>jZ) (λX' hX=>by obtain⟨C,s₀,H₀,ex,rfl⟩:=hX;exact(jop Dc (jix (jv 4) (jv 6) (λ_ _=>rfl)) (jix (jix (jv 1) (jv 6) (λ_ _=>rfl)) (jv 5) (λ_ _=>rfl))))) ja)))) ja)))))) (by exact(jq (wB (jU cq_tuple rfl Z.tuple (by decide +kernel) (jac (jv 3) ja))))))))))) ?_;intro ds h Q q;obtain⟨T,U,k,b,f,e,hT,hU,hb,h6,q⟩:=q;subst e;refine jj (λσ' h'=>σ'= [some (jr T),some (jr U),some (.int (k:Int)),none,none,none,none]/\h=h') (λC hC=>⟨_,rfl,hC _ _ ⟨by rw [G0,hT.len];rfl,rfl⟩⟩) ?_;rintro _ _ ⟨rfl,rfl⟩;refine jj (λσ' h'=> ∃R,σ'= [some (jr T),some (jr U),some (.int (k:Int)),some (.lst R),none,none,none]/\h R=none/\h' R=some []/\Sub h h') (λC hC=> ?_) ?_
 ·exact⟨(by show 0<=sizeLine;decide),λR eR=>hC _ _ ⟨R,rfl,eR,jb,Sub.newAt (Sub.refl h) eR⟩⟩
 rintro _ h1 ⟨R,rfl,fR,kR,sb⟩;refine jj (λσ' h'=> ∃a b c,σ'= [some (jr T),some (jr U),some (.int (k:Int)),some (.lst R),a,b,c]/\h' R=some ((vD k T U).map zK)/\Sub h h') (λC hC=> ?_) ?_
 ·refine Js (j:=λ_=>some (T.map zK)) (T.map zK) (λi σ' h'=> ∃a b c,σ'= [some (jr T),some (jr U),some (.int (k:Int)),some (.lst R),a,b,c]/\h' R=some ((T.take i).map λr=>D.tup ((List.range k).map λj=> .int (jI k λm=>r.getD m 0*ent U m j)))/\Sub h h') (λR' r=>⟨_,rfl,r⟩) (λ_ _ _ _=>rfl) ⟨_,_,_,rfl,kR,sb⟩ ?_ ?_
  ·rintro σ' h' ⟨a,b,c,e,kR2,sb2⟩;refine hC _ _ ⟨a,b,c,e,?_,sb2⟩;rw [G0,A4,QC hT] at kR2;exact kR2
  rintro i d _ h2 hd ⟨a,b',c,rfl,kR2,sb2⟩;rw [G6] at hd;cases hx:T[i]? with
  |none=>rw [hx] at hd;cases hd
  |some r=>
   rw [hx] at hd;cases hd;have hr:=R8 hx;have hil:i<T.length:=(G9.mp hx).1;refine⟨_,rfl,R,rfl,?_⟩;refine Nu (List.range k) (λj=> .int (j:Int)) (λj=> .int (jI k λm=>r.getD m 0*ent U m j)) (by rw [P4];omega) rfl (λR rr=>⟨_,rfl,(k:Int),rfl,by omega,by omega,rr⟩) (λj hj Q'' q''=> ?_) ?_
   ·refine Ew (List.range k) (λm=> .int (m:Int)) (λm=>r.getD m 0*ent U m j) (by rw [P4];omega) rfl (λR rr=>⟨_,rfl,(k:Int),rfl,by omega,by omega,rr⟩) (λm hm Q3 q3=> ?_) q'';have hm':=D3.mp hm;have hj':=D3.mp hj;refine⟨_,rfl,_,rfl,_,YJ (hT.row r hr) hm',_,rfl,_,rfl,_,De hU hm',_,rfl,_,YJ (hU.row _ (Sq.getRow hU hm')) hj',?_,q3⟩;refine QB (e:=b) (f:=f) ?_ (hU.ent_nn hm' hj') (by omega);have hm2:m<r.length:=by rw [hT.row r hr];exact hm'
    have e1:r.getD m 0=r[m]:=by rw [P9,G3 hm2];rfl
    rw [e1];exact⟨hT.nn r hr _ (R6 hm2),hT.bit r hr _ (R6 hm2)⟩
   ·refine⟨_,kR2,?_,_,Sub.refl _,by rw [G0];omega,_,_,_,rfl,?_,?_⟩
    ·rw [G0,T1];exact B6 (show min i T.length<=1000 by rw [hT.len];omega) (by decide)
    ·rw [jb,B9,hx,T3];rfl
    ·exact(sb2).over fR
 rintro _ h3 ⟨a,b,c,rfl,kR3,sb3⟩;exact⟨_,rfl,_,kR3,_,sb3,q⟩
def yc:RDn:=λds h Q=> ∃T,∃n e:Nat,ds= [jr T]/\Sq n e T/\n<=6/\Q (jr (jw n T)) h
theorem WM (Z:Zs mg)(F:Fun K "_law_marked" "_law_marked" yB f fd):FnOk P w K mg base CX0 (n+1) f fd ["_law_table_here"] (LSp K yc):=by
 refine F.okJ yh (λds h Q q=>by obtain⟨T,k,b,e,hT,h6,q⟩:=q;subst e;rfl) _ (λcdv A outer s H E hr=>(jq (wB (jU zV rfl Z.tuple (by decide +kernel) (jac (jlc (i:=1) (js:= [1]) rfl (jz (by rfl)) (wH (jv 0)) (by decide) yh.nd rfl (by first|exact Or.inl rfl|exact Or.inr rfl) (λX' hX=>jZ) (λX' hX=>by obtain⟨C,s₀,H₀,ex,rfl⟩:=hX;exact(jU zV rfl Z.tuple (by decide +kernel) (jac (jlc (i:=2) (js:= [2]) rfl (jz (by rfl)) (wH (jv 1)) (by decide) yh.nd rfl (by first|exact Or.inl rfl|exact Or.inr rfl) (λX' hX=>jZ) (λX' hX=>by obtain⟨C,s₀,H₀,ex,rfl⟩:=hX;exact(jU PC rfl Z.int (by decide +kernel) (jac (Uc Lg (jv 2) jp (jF _)) ja)))) ja)))) ja))))) ?_;intro ds h Q q;obtain⟨T,k,b,e,hT,h6,q⟩:=q;subst e;refine Nu T zK (λr=> .tup (r.map λx=> .int (if x≠0 then 1 else 0))) (by rw [hT.len];omega) rfl (λR r=>⟨_,rfl,r⟩) (λr hr Q' q'=> ?_) ⟨h,Sub.refl h,?_⟩
 ·refine Nu r D.int (λx=> .int (if x≠0 then 1 else 0)) (by rw [hT.row r hr];omega) rfl (λR r=>⟨_,rfl,r⟩) (λx hx Q'' q''=>⟨_,rfl,?_⟩) q';show Q'' (.int (if decide (x>0)=true then 1 else 0)) h;have e:(if decide (x>0)=true then (1:Int) else 0)=if x≠0 then 1 else 0:=by
   have:=hT.nn r hr x hx
   by_cases z:x=0
   ·subst z;rfl
   ·rw [if_pos z,if_pos (D5 (by omega))]
  rw [e];exact q''
 ·rw [Df,<-Dg hT];exact q
theorem ZD (Z:Zs mg)(F:Fun K "_law_is_table" "_law_is_table" wK f fd)(vv:jC P w K mg base n "_law_whole" ["_law_thing"] zN):FnOk P w K mg base CX0 (n+1) f fd ["_law_thing"] (LSp K jX):=by
 obtain⟨WT,WC,wT,wu,ww,wz⟩:=vv;refine F.okJ wf (λds h Q q=>by obtain⟨d,e,ok,q⟩:=q;subst e;rfl) _ (λcdv A outer s H E hr=>(jd (Zo (jpt (VA (wn (wM (JQ (T:= "tuple") (by decide) rfl Z.isinstance rfl Z.tuple (by decide +kernel) (jv 0)))) (Qx (wn (PU Mf Mf jp (jO zH rfl Z.len R3 (jac (jv 0) ja)) jp))))) (jq (wB jbl)) jY) (by exact(jd (PY T8 rfl (wH (jv 0)) (yX (i:=1) wf.nd rfl (Or.inl rfl)) (jd (Zo (jpt (VA (wn (wM (JQ (T:= "tuple") (by decide) rfl Z.isinstance rfl Z.tuple (by decide +kernel) (jv 1)))) (Qx (zZ oq_ne (jO zH rfl Z.len R3 (jac (jv 1) ja)) (jO zH rfl Z.len R3 (jac (jv 0) ja)) (jF _))))) (jq (wB jbl)) jY) (by exact(jq (Zo (wn (wM (jO (Yf rfl) rfl Z.all B5 (jac (jlc (i:=2) (js:= [2]) rfl (jz (by rfl)) (wH (jv 1)) (by decide) wf.nd rfl (by first|exact Or.inl rfl|exact Or.inr rfl) (λX' hX=>jZ) (λX' hX=>by obtain⟨C,s₀,H₀,ex,rfl⟩:=hX;exact(Ml (jB wT hr rfl wz ww wu (jac (jv 2) ja)) (PV (Uc Pz (jv 2) jp (jF _)))))) ja)))) (jq (wB jbl)) jY))))) (by exact(jq (wB jbl))))))) ?_;intro ds h Q q;obtain⟨d,e,ok,q⟩:=q;subst e;obtain⟨nm,hn⟩:=zm ok;refine jj (λσ' h'=>h'=h/\σ'= [some d,none,none]/\ ∃es,d= .tup es/\1<=es.length/\es.length<=6) (λC hC=> ?_) (λσ' h' hV=> ?_)
 ·simp only [Mb,Bx,VU,Jq,dIs,Gm,wG,R0,B8,P8,S4,List.replicate,M9,M6,R9,M0,D.bl.injEq,Xj,dC,Xk,Yz,Yd,dCB,yV,UY,BS,Md,N5,hn];cases d with
  |tup es=>
   cases hn;simp only [BT]
   by_cases h1:1<=es.length
   ·by_cases h6:es.length<=6
    ·have h1':(1:Int)<=es.length:=by omega
     have h6':(es.length:Int)<=6:=by omega
     simp [h1',h6'];exact hC _ _ ⟨rfl,rfl,es,rfl,h1,h6⟩
    ·have h1':(1:Int)<=es.length:=by omega
     have h6': ¬ (es.length:Int)<=6:=by omega
     simp [h1',h6'];exact⟨h,Sub.refl h,by simpa [YZ,h1,h6] using q⟩
   ·have h1': ¬ (1:Int)<=es.length:=by omega
    simp [h1'];exact⟨h,Sub.refl h,by simpa [YZ,h1] using q⟩
  |_=>cases hn<;>exact⟨h,Sub.refl h,q⟩
 obtain⟨eh,e,es,ed,h1,h6⟩:=hV;subst eh ed e;obtain⟨hl,ht⟩:=vp ok;have qf: ∀r∈es,UZ r es.length=false->Q (.bl false) h':=λr hr z=>by
  have:YZ (.tup es)=false:=by
   simp only [YZ,D5 h1,D5 h6,W2];rw [List.all_eq_false];exact⟨r,hr,by simp [z]⟩
  rw [<-this];exact q
 refine jj (λσ' h2=> ∃a b,σ'= [some (.tup es),a,b]/\h2=h'/\ ∀r∈es,UZ r es.length=true) (λC hC=> ?_) (λσ' h2 hV=> ?_)
 rotate_left
 ·obtain⟨a,b,e,e2,hr⟩:=hV;subst e e2;simp only [Xj,dC,Xk];refine⟨_,Sub.refl _,?_⟩;have:YZ (.tup es)=true:=by
   simp only [YZ,D5 h1,D5 h6,W2];exact R5.mpr hr
  rw [<-this];exact q
 refine Js (j:=λ_=>some es) es (λi σ' h2=> ∃a b,σ'= [some (.tup es),a,b]/\h2=h'/\ ∀r∈es.take i,UZ r es.length=true) (λR' r=>⟨_,rfl,r⟩) (λ_ _ _ _=>rfl) ⟨_,_,rfl,rfl,λr hr=>by simp at hr⟩
  (λσ' h2 ⟨a,b,e,e2,hr⟩=>hC _ _ ⟨a,b,e,e2,λr z=>hr r (by rw [A4];exact z)⟩) ?_
 rintro i r σ' h2 hi ⟨a,b,e,e2,hr⟩;subst e e2;have rm:r∈es:=R8 hi;have hil:i<es.length:=(G9.mp hi).1;obtain⟨rn,hrn⟩:=zm (ht r rm);show Px _ _ _ [some (.tup es),some r,b] h2;refine jj (λσ' h3=>h3=h2/\σ'= [some (.tup es),some r,b]/\ ∃ns,r= .tup ns/\ns.length=es.length) (λC hC=> ?_) (λσ' h3 hV=> ?_)
 ·simp only [Mb,Bx,VU,Jq,dIs,Gm,N4,R9,M0,D.bl.injEq,Xj,dC,Nxt,Xk,Yz,dOp,dCB,yV,UY,BS,neD,N5,hrn];cases r with
  |tup ns=>
   cases hrn;simp only [BT]
   by_cases hk:(ns.length:Int)=es.length
   ·simp [hk];exact hC _ _ ⟨rfl,rfl,ns,rfl,by omega⟩
   ·simp [hk];exact⟨h2,Sub.refl h2,qf _ rm (by simp [UZ,hk])⟩
  |_=>cases hrn<;>exact⟨h2,Sub.refl h2,qf _ rm rfl⟩
 obtain⟨eh,e,ns,er,hns⟩:=hV;subst eh e er;obtain⟨hl2,ht2⟩:=vp (ht _ rm);simp only [Mb,VU,Jq,dCB,yV,UY,Xj,dC,Nxt,Xk,Yz];refine Xm (ds:=ns) (h1:=h3) (j:=λ_=>some ns) (λx=> .bl (Rz x)) (T5 (zr hl2)) rfl (λR r=>⟨.tup ns,rfl,r⟩) (λd hd Q' q'=> ?_) (λp hp=> ?_)
 ·obtain⟨nn,hnn⟩:=zm (ht2 d hd);refine⟨d,rfl,d,nn,rfl,hnn,Uw d,rfl,?_⟩;cases d with
  |int i=>exact vS ⟨.int i,rfl,q'⟩
  |_=>exact yS q'
 ·refine⟨p,ns.map Rz,rfl,by rw [jb];simp,_,rfl,?_⟩;have hrow:UZ (.tup ns) es.length=ns.all Rz:=by simp [UZ,hns]
  have e1:(ns.map Rz).all id=ns.all Rz:=by rw [O0];rfl
  rw [wF hp,e1,<-hrow];cases hb:UZ (.tup ns) es.length with
  |true=>
   refine yS ⟨h3,Sub.refl _,by omega,_,_,rfl,rfl,?_⟩;intro r' hr';rw [B9,hi] at hr';rcases D4.mp hr' with z|z
   ·exact hr r' z
   ·simp at z;subst z;exact hb
  |false=>exact vS ⟨h3,Sub.refl _,qf _ rm hb⟩
theorem NL {α:Type}(xs:List α)(t:Nat):(vB xs none (some (t:Int))).length<=t:=by
 unfold vB;rw [show HT.sIx xs.length 0 none=0 from rfl,Y3,Z5,T1];have:HT.sIx xs.length xs.length (some (t:Int))<=t:=by
  unfold HT.sIx;simp only [];rw [if_neg (by omega)];omega
 omega
variable {xs:List D}
theorem Ga {x:D}{lo hi:Option Int}(h:x∈vB xs lo hi):x∈xs:=List.mem_of_mem_drop (List.mem_of_mem_take h)
theorem Gb {lo hi:Option Int}:(vB xs lo hi).length<=xs.length:=by unfold vB;rw [List.length_take,List.length_drop];omega
/-- told of,and shown in so many signs -/
structure GZ (h:HD)(k b:Nat)(d:D):Prop where
 ok:okD d=true
 hs:Hs h k b d
variable {h':HD}{k b:Nat}
theorem GZ.sub (g:GZ h k b d)(s:Sub h h'):GZ h' k b d:=⟨g.ok,g.hs.sub s⟩
theorem GZ.mono {k' b':Nat}(g:GZ h k b d)(hk:k<=k':=by decide)(hb:b<=b':=by decide):GZ h k' b' d:=⟨g.ok,g.hs.mono hk hb⟩
theorem wP {i:Int}(g:i.natAbs<10^31):GZ h 0 40 (.int i):=⟨rfl,Oi g⟩
/-- at most n of them -/
structure GN (h:HD)(k b n:Nat)(ds:List D):Prop where
 len:ds.length<=n
 gd: ∀d∈ds,GZ h k b d
theorem GN.mono {k' b' n':Nat}{ds:List D}(g:GN h k b n ds)(hk:k<=k':=by decide)(hb:b<=b':=by decide)(hn:n<=n':=by decide):GN h k' b' n' ds:=⟨D7 g.len hn,λd hd=>(g.gd d hd).mono hk hb⟩
variable {x:List D}
theorem GN.app {m:Nat}{y:List D}(g:GN h k b m x)(g':GN h k b n y):GN h k b (m+n) (x++y):=⟨by rw [P7];have:=g.len;have:=g'.len;omega,λd hd=>(D4.mp hd).elim (g.gd d) (g'.gd d)⟩
theorem GN.cut (g:GN h k b n x)(lo hi:Option Int):GN h k b n (vB x lo hi):=⟨D7 Gb g.len,λd hd=>g.gd d (Ga hd)⟩
theorem GN.rev (g:GN h k b n x):GN h k b n x.reverse:=⟨by rw [L0];exact g.len,λd hd=>g.gd d (List.mem_reverse.mp hd)⟩
theorem GN.one (g:GZ h k b d):GN h k b 1 [d]:=⟨G5 _,λx hx=>by rw [G8.mp hx];exact g⟩
theorem GN.tup {h:HD}{k b n:Nat}{x:List D}(g:GN h k b n x)(hn:n<=1000:=by decide):GZ h (k+1) ((b+2)*n+3) (.tup x):=⟨Rc (D7 g.len hn) λd hd=>(g.gd d hd).ok,Hs.tup n (λd hd=>(g.gd d hd).hs) g.len⟩
theorem GN.lst {h:HD}{k b n:Nat}{x:List D}{a:Addr}(ka:h a=some x)(g:GN h k b n x):GZ h (k+1) ((b+2)*n+3) (.lst a):=⟨rfl,Hs.lst n ka (λd hd=>(g.gd d hd).hs) g.len⟩
theorem GN.sz {k' b' m:Nat}{y:List D}(g:GN h k b m x)(g':GN h' k' b' n y)(hz:m+n<=1000:=by decide):x.length+y.length<=sizeLine:=T5 (zr (by have:=g.len;have:=g'.len;omega))
/-- one part put otherwise -/
theorem GN.set {t:Nat}(g:GN h k b n x)(gd:GZ h k b d)(ht:t<x.length):GN h k b n (vB x none (some (t:Int))++ [d]++vB x (some ((t:Int)+1)) none):=by
 refine⟨?_,((((g.cut _ _).app (GN.one gd))).app (g.cut _ _)).gd⟩;have a:=NL x t;have c:=Sr x (t+1) (by omega);rw [show ((t+1:Nat):Int)=(t:Int)+1 by omega] at c;rw [P7,P7,c,N8,W9];have:=g.len;omega
theorem NM {r:List Int}(g:Sq n 1 T)(h6:n<=6)(hr:r∈T):GN h 0 40 6 (r.map D.int):=⟨by rw [G0,g.row r hr];exact h6,λd hd=>by
 obtain⟨x,hx,rfl⟩:=D6.mp hd;have:=g.nn r hr x hx;have:x<2^1:=g.bit r hr x hx;exact wP (D2 (show x.natAbs<2 by omega) (by decide))⟩
theorem Rj (g:Sq n 1 T)(h6:n<=6):GN h 1 255 6 (T.map zK):=⟨by rw [G0,g.len];exact h6,λd hd=>by
 obtain⟨r,hr,rfl⟩:=D6.mp hd;exact(NM g h6 hr).tup⟩
def wQ:RDn:=λds h Q=> ∃p l fl T,∃k:Nat,ds= [.lst p,jr T]/\h p=some [.int l,.int fl]/\0<=l/\1<=k/\k<=6/\Sq k 1 T/\ ∀d l' h',GZ (zd h' p) 3 2341 d->But p h h'->h' p=some [.int l',.int fl]->0<=l'->Q d h'
theorem Jz (Z:Zs mg)(F:Fun K "_law_bent_table" "_law_bent_table" zM f fd)(jE:jC P w K mg base n "_law_draw" ["_law_pen_here","_law_many"] jQ):FnOk P w K mg base CX0 (n+1) f fd ["_law_pen_here","_law_table_here"] (LSp K wQ):=by
 obtain⟨zc,jV,ji,je,jf,jg⟩:=jE;refine F.okJ jD (λds h Q q=>by obtain⟨p,l,fl,T,k,e,hp,h0,hk1,hk6,gT,q⟩:=q;subst e;rfl) _ (λcdv A outer s H E hr=>(jd (wo (i:=2) jD.nd rfl (Or.inl rfl) (jO zH rfl Z.len R3 (jac (jv 1) ja))) (by exact(jd (Ev (i:=3) (j:=4) rfl jD.nd rfl rfl (by decide) rfl rfl (jac (jB ji hr rfl jg jf je (jac (jv 0) (by exact(jac (jv 2) ja)))) (by exact(jac (jB ji hr rfl jg jf je (jac (jv 0) (by exact(jac (jv 2) ja)))) ja))) rfl) (by exact(jd (wo (i:=5) jD.nd rfl (Or.inl rfl) (jix (yW (jac (LF jp) (by exact(jac jbl (by exact(jac Lz (by exact(jac AB (by exact(jac (wg (jac jp ja)) (by exact(jac (jop Qt jp jp) (by exact(jac jbl (by exact(jac jp (by exact(jac (yW (jac jp ja)) (by exact(jac jp ja)))))))))))))))))))) (jB ji hr rfl jg jf je (jac (jv 0) (by exact(jac jp ja)))) (λ_ _=>rfl))) (by exact(jd (wo (i:=6) jD.nd rfl (Or.inl rfl) (jix (jv 1) (jv 3) (λ_ _=>rfl))) (by exact(jd (wo (i:=7) jD.nd rfl (Or.inl rfl) (yW (jac (jop jA (jop jA (zJ (jv 6) zj (za (jv 4))) (wg (jac (jv 5) ja))) (zJ (jv 6) (za (jop jA (jv 4) jp)) zj)) (by exact(jac (jop jA (zJ (jv 6) zj (za (jv 4))) (zJ (jv 6) (za (jop jA (jv 4) jp)) zj)) (by exact(jac (jop jA (jv 6) (wg (jac jp ja))) (by exact(jac (jU Xl rfl Z.list (by decide +kernel) (jac (jv 6) ja)) (by exact(jac Lz (by exact(jac jp (by exact(jac (AE (jv 6)) ja))))))))))))))) (by exact(jd (wo (i:=8) jD.nd rfl (Or.inl rfl) (jix (jv 7) (jix (yW (jac jp (by exact(jac jp (by exact(jac jp (by exact(jac jp (by exact(jac jp (by exact(jac jp (by exact(jac jp (by exact(jac jp (by exact(jac jp (by exact(jac jp ja)))))))))))))))))))) (jB ji hr rfl jg jf je (jac (jv 0) (by exact(jac jp ja)))) (λ_ _=>rfl)) (λ_ _=>rfl))) (by exact(jd (wo (i:=9) jD.nd rfl (Or.inl rfl) (yW (jac (jop jA (jop jA (zJ (jv 1) zj (za (jv 3))) (wg (jac (jv 8) ja))) (zJ (jv 1) (za (jop jA (jv 3) jp)) zj)) (by exact(jac (jop jA (zJ (jv 1) zj (za (jv 3))) (zJ (jv 1) (za (jop jA (jv 3) jp)) zj)) (by exact(jac (jop jA (jv 1) (zJ (jv 1) zj (za jp))) (by exact(jac (jU Xl rfl Z.list (by decide +kernel) (jac (jv 1) ja)) ja))))))))) (by exact(jq (wB (jix (jop jA (jv 9) (yW (jac (wg (jac (jv 1) ja)) (by exact(jac Lz (by exact(jac (AE (jv 1)) ja))))))) (jix (yW (jac jp (by exact(jac jp (by exact(jac jp (by exact(jac jp (by exact(jac jp (by exact(jac jp (by exact(jac jp (by exact(jac jp (by exact(jac jp (by exact(jac jp (by exact(jac jp ja)))))))))))))))))))))) (jB ji hr rfl jg jf je (jac (jv 0) (by exact(jac jp ja)))) (λ_ _=>rfl)) (λ_ _=>rfl))))))))))))))))))) ?_;intro ds h Q q;obtain⟨p,l,fl,T,k,e,hp,h0,hk1,hk6,gT,q⟩:=q;subst e;have oT: ∀g:HD,GN g 1 255 6 (T.map zK):=λg=>Rj gT hk6
 have hTl:((T.map zK).length:Int)=k:=by rw [G0,gT.len]
 refine jj (λσ' h'=>σ'= [some (.lst p),some (jr T),some (.int (k:Int)),none,none,none,none,none,none,none]/\h=h') (λC hC=>⟨_,rfl,?_⟩) ?_
 ·show C [some (.lst p),some (jr T),some (.int (((T.map zK).length:Nat):Int)),none,none,none,none,none,none,none] h;rw [hTl];exact hC _ _ ⟨rfl,rfl⟩
 rintro _ _ ⟨rfl,rfl⟩;refine jj (λσ' h'=> ∃ (a b:Nat) (l2:Int),σ'= [some (.lst p),some (jr T),some (.int (k:Int)),some (.int (a:Int)),some (.int (b:Int)),none,none,none,none,none]/\a<k/\b<k/\0<=l2/\h' p=some [.int l2,.int fl]/\But p h h') (λC hC=>⟨_,rfl,_,rfl,p,l,fl,(k:Int),rfl,hp,h0,by omega,by omega,λa l1 a0 a1 l10=>⟨_,rfl,_,rfl,p,l1,fl,(k:Int),rfl,jb,l10,by omega,by omega,λb l2 b0 b1 l20=>⟨_,_,rfl,hC _ _ ⟨a.toNat,b.toNat,l2,by rw [A5 a0,A5 b0];rfl,by omega,by omega,l20,jb,But.upd.put⟩⟩⟩⟩) ?_;rintro _ h2 ⟨a,b,l2,rfl,ha,hb,l20,kp,bp⟩;refine jj (λσ' h'=> ∃ (off:D) (l2:Int),σ'= [some (.lst p),some (jr T),some (.int (k:Int)),some (.int (a:Int)),some (.int (b:Int)),some off,none,none,none,none]/\GZ (zd h' p) 1 45 off/\0<=l2/\h' p=some [.int l2,.int fl]/\But p h h') (λC hC=> ?_) ?_
 ·refine⟨(by show 1<=sizeLine;decide),⟨by decide,by decide,by decide⟩,(by show 1<=sizeLine;decide),λp1 e1=>⟨(by show 10<=sizeLine;decide),λp2 e2=>⟨_,rfl,p,l2,fl,10,rfl,jc (jc kp e1) e2,l20,by decide,by decide,λr l3 r0 r1 l30=> ?_⟩⟩⟩;obtain⟨d,hd,ed⟩:=zw (xs:= [D.int (-1),D.bl true,D.non,D.str (Str.ofString "0"),D.tup [D.int 0],D.int (10^Int.toNat 30),D.bl false,D.int 0,D.lst p1,D.int 1]) r0 r1;have nn1:=jl kp e1;refine⟨_,d,jh (jl (jc kp e1) e2) jb,ed,hC _ _ ⟨d,l3,rfl,?_,l30,jb,((bp.new e1).new e2).put⟩⟩;simp only [G4,P5,T4] at hd;rcases hd with e|e|e|e|e|e|e|e|e|e<;>subst e
  ·exact(wP (by decide)).mono
  ·exact⟨rfl,(zT (.inr (.inl rfl))).mono (by decide) (by decide)⟩
  ·exact⟨rfl,(zT (.inl rfl)).mono (by decide) (by decide)⟩
  ·exact⟨rfl,(zT (.inr (.inr (.inr rfl)))).mono (by decide) (by decide)⟩
  ·exact(GN.one (wP (by decide))).tup
  ·exact(wP (by decide +kernel)).mono
  ·exact⟨rfl,(zT (.inr (.inr (.inl rfl)))).mono (by decide) (by decide)⟩
  ·exact(wP (by decide)).mono
  ·exact GN.lst (wJ nn1 (jh nn1 (jc jb e2))) (GN.one (wP (by decide)))
  ·exact(wP (by decide)).mono
 clear kp l20 bp;rintro _ h3 ⟨off,l2,rfl,goff,l20,kp,bp⟩;have haT:a<T.length:=by rw [gT.len];exact ha
 refine jj (λσ' h'=> ∃r∈T,σ'= [some (.lst p),some (jr T),some (.int (k:Int)),some (.int (a:Int)),some (.int (b:Int)),some off,some (zK r),none,none,none]/\h3=h') (λC hC=>⟨_,rfl,_,rfl,zK T[a],zX (by rw [G6,G3 haT];rfl),hC _ _ ⟨T[a],R6 haT,rfl,rfl⟩⟩) ?_;rintro _ _ ⟨r,hr,rfl,rfl⟩;have oR: ∀g:HD,GN g 1 45 6 (r.map D.int):=λg=>(NM gT hk6 hr).mono
 have br:b<(r.map D.int).length:=by rw [G0,gT.row r hr];exact hb
 refine jj (λσ' h'=> ∃RW xs,σ'= [some (.lst p),some (jr T),some (.int (k:Int)),some (.int (a:Int)),some (.int (b:Int)),some off,some (zK r),some (.lst RW),none,none]/\h' RW=some xs/\xs.length=7/\(∀d∈xs,GZ (zd h' p) 2 332 d)/\0<=l2/\h' p=some [.int l2,.int fl]/\But p h h') (λC hC=> ?_) ?_
 ·refine⟨_,rfl,_,rfl,_,rfl,_,rfl,(by show 1<=sizeLine;decide),((oR h3).cut _ _).sz (GN.one goff),_,rfl,_,rfl,_,rfl,(((oR (zd h3 p)).cut _ _).app (GN.one goff)).sz ((oR h3).cut _ _),_,rfl,_,rfl,_,rfl,_,rfl,_,rfl,_,rfl,((oR h3).cut _ _).sz ((oR h3).cut _ _),_,rfl,(by show 1<=sizeLine;decide),(oR h3).sz (GN.one (wP (h:=h3) (by decide))),_,rfl,λp1 e1=>⟨_,rfl,_,rfl,(by show 7<=sizeLine;decide),λp2 e2=>hC _ _ ⟨p2,_,rfl,jb,rfl,λd hd=> ?_,l20,jc (jc kp e1) e2,(bp.new e1).new e2⟩⟩⟩;have s2: ∀Y,Sub (zd h3 p) (zd (zY (zY h3 p1 (r.map D.int)) p2 Y) p):=λY=>zi (((But.refl p h3).new e1).new e2)
  have nn1:=jl kp e1;simp only [G4,P5,T4] at hd;rcases hd with e|e|e|e|e|e|e<;>subst e
  ·exact((oR _).set (goff.sub (s2 _)) br).tup.mono
  ·refine(GN.tup (n:=7) ⟨?_,(((oR _).cut _ _).app ((oR _).cut _ _)).gd⟩).mono;have:=((oR (zd h3 p)).set goff br).len;rw [P7,P7] at this;rw [P7];omega
  ·exact((oR _).app (GN.one (wP (i:=0) (by decide)).mono)).tup.mono
  ·exact(GN.lst (wJ nn1 (jc jb e2)) (oR _)).mono
  ·exact⟨rfl,(zT (.inl rfl)).mono (by decide) (by decide)⟩
  ·exact(wP (by decide)).mono
  ·exact(oR _).rev.tup.mono
 clear kp l20 bp;rintro _ h4 ⟨RW,xs,rfl,kRW,lRW,gRW,l20,kp,bp⟩;have nRW:RW≠p:=λz=>by subst z;rw [kp] at kRW;injection kRW with kRW;rw [<-kRW] at lRW;cases lRW
 refine jj (λσ' h'=> ∃ (hr:D) (l2:Int),σ'= [some (.lst p),some (jr T),some (.int (k:Int)),some (.int (a:Int)),some (.int (b:Int)),some off,some (zK r),some (.lst RW),some hr,none]/\GZ (zd h' p) 2 332 hr/\0<=l2/\h' p=some [.int l2,.int fl]/\But p h h') (λC hC=> ?_) ?_
 ·refine⟨_,rfl,(by show 10<=sizeLine;decide),λp1 e1=>⟨_,rfl,p,l2,fl,10,rfl,jc kp e1,l20,by decide,by decide,λx l4 r0 r1 l40=> ?_⟩⟩;obtain⟨ix,hix,eix⟩:=zw (xs:= [D.int 0,D.int 0,D.int 0,D.int 0,D.int 1,D.int 2,D.int 3,D.int 4,D.int 5,D.int 6]) r0 r1;refine⟨_,ix,jh (jl kp e1) jb,eix,?_⟩;obtain⟨y,e,y0,y1⟩: ∃y:Int,ix= .int y/\0<=y/\y<7:=by
   simp only [G4,P5,T4] at hix;rcases hix with e|e|e|e|e|e|e|e|e|e<;>exact⟨_,e,by decide,by decide⟩
  subst e;obtain⟨d,hd,ed⟩:=zw (xs:=xs) y0 (by rw [lRW];exact y1);exact⟨xs,d,jh nRW (jc kRW e1),ed,hC _ _ ⟨d,l4,rfl,(gRW d hd).sub (zi (((But.refl p h4).new e1).put)),l40,jb,(bp.new e1).put⟩⟩
 clear kp l20 bp kRW gRW;rintro _ h5 ⟨hr,l2,rfl,ghr,l20,kp,bp⟩;have aT:a<(T.map zK).length:=by rw [G0];exact haT
 have oT2: ∀g:HD,GN g 2 332 6 (T.map zK):=λg=>(oT g).mono
 refine jj (λσ' h'=> ∃TH xs,σ'= [some (.lst p),some (jr T),some (.int (k:Int)),some (.int (a:Int)),some (.int (b:Int)),some off,some (zK r),some (.lst RW),some hr,some (.lst TH)]/\h' TH=some xs/\xs.length=4/\(∀d∈xs,GZ (zd h' p) 3 2341 d)/\0<=l2/\h' p=some [.int l2,.int fl]/\But p h h') (λC hC=> ?_) ?_
 ·refine⟨_,rfl,_,rfl,_,rfl,_,rfl,(by show 1<=sizeLine;decide),((oT h5).cut _ _).sz (GN.one ghr),_,rfl,_,rfl,_,rfl,(((oT2 (zd h5 p)).cut _ _).app (GN.one ghr)).sz ((oT h5).cut _ _),_,rfl,_,rfl,_,rfl,_,rfl,_,rfl,_,rfl,((oT h5).cut _ _).sz ((oT h5).cut _ _),_,rfl,_,rfl,_,rfl,(oT h5).sz ((oT h5).cut _ _),_,rfl,λp1 e1=>⟨(by show 4<=sizeLine;decide),λp2 e2=>hC _ _ ⟨p2,_,rfl,jb,rfl,λd hd=> ?_,l20,jc (jc kp e1) e2,(bp.new e1).new e2⟩⟩⟩;have s2: ∀Y,Sub (zd h5 p) (zd (zY (zY h5 p1 (T.map zK)) p2 Y) p):=λY=>zi (((But.refl p h5).new e1).new e2)
  have nn1:=jl kp e1;simp only [G4,P5,T4] at hd;rcases hd with e|e|e|e<;>subst e
  ·exact((oT2 _).set (ghr.sub (s2 _)) aT).tup.mono
  ·refine(GN.tup (n:=7) ⟨?_,(((oT2 _).cut _ _).app ((oT2 _).cut _ _)).gd⟩).mono;have:=((oT2 (zd h5 p)).set ghr aT).len;rw [P7,P7] at this;rw [P7];omega
  ·refine(GN.tup (n:=7) ⟨?_,((oT2 _).app ((oT2 _).cut _ _)).gd⟩).mono;have:=NL (T.map zK) 1;have:=(oT h5).len;rw [P7];exact D7 (Nat.add_le_add ‹(T.map zK).length<=6› ‹_<=1›) (by decide)
  ·exact(GN.lst (wJ nn1 (jc jb e2)) (oT2 _)).mono
 clear kp l20 bp;rintro _ h6 ⟨TH,xs,rfl,kTH,lTH,gTH,l20,kp,bp⟩;have nTH:TH≠p:=λz=>by subst z;rw [kp] at kTH;injection kTH with kTH;rw [<-kTH] at lTH;cases lTH
 refine⟨_,rfl,_,rfl,(by show 1<=sizeLine;decide),_,rfl,_,rfl,(by show 3<=sizeLine;decide),λp1 e1=>⟨_,_,jc kTH e1,jb,?_,λp2 e2=>⟨(by show 11<=sizeLine;decide),λp3 e3=>⟨_,rfl,p,l2,fl,11,rfl,jc (jc (jc kp e1) e2) e3,l20,by decide,by decide,λx l5 r0 r1 l50=> ?_⟩⟩⟩⟩
 ·rw [lTH];show 4+3<=sizeLine;decide
 obtain⟨ix,hix,eix⟩:=zw (xs:= [D.int 0,D.int 0,D.int 0,D.int 0,D.int 0,D.int 1,D.int 2,D.int 3,D.int 4,D.int 5,D.int 6]) r0 r1;refine⟨_,ix,jh (jl (jc (jc kp e1) e2) e3) jb,eix,?_⟩;obtain⟨y,e,y0,y1⟩: ∃y:Int,ix= .int y/\0<=y/\y<7:=by
  simp only [G4,P5,T4] at hix;rcases hix with e|e|e|e|e|e|e|e|e|e|e<;>exact⟨_,e,by decide,by decide⟩
 subst e;obtain⟨d,hd,ed⟩:=zw (xs:=xs++ [D.tup [D.tup (T.map zK)],D.non,D.tup (T.map zK).reverse]) y0 (by rw [P7,lTH];exact y1);refine⟨_,d,jh (jl (jc kp e1) e2) (jc jb e3),ed,_,Sub.refl _,q d l5 _ ?_ (((bp.new e1).new e2).new e3).put jb l50⟩;rcases D4.mp hd with z|z
 ·exact(gTH d z).sub (zi ((((But.refl p h6).new e1).new e2).new e3).put)
 ·simp only [G4,P5,T4] at z;rcases z with e|e|e<;>subst e
  ·exact(GN.one (oT _).tup).tup.mono
  ·exact⟨rfl,(zT (.inl rfl)).mono (by decide) (by decide)⟩
  ·exact(oT2 _).rev.tup.mono
theorem vI (Z:Zs mg)(F:Fun K "_law_joined_table" "_law_joined_table" zB f fd)(UC:jC P w K mg base n "_law_order" ["_law_pen_here","_law_many"] Jy)(jE:jC P w K mg base n "_law_draw" ["_law_pen_here","_law_many"] jQ):FnOk P w K mg base CX0 (n+1) f fd ["_law_pen_here","_law_size_here"] (LSp K wq):=by
 obtain⟨RA,Rr,UG,Vl,Vr,Vv⟩:=UC;obtain⟨zc,jV,ji,je,jf,jg⟩:=jE;refine F.okJ jt (λds h Q q=>by obtain⟨p,l,fl,k,e,hp,h0,hk1,hk6,q⟩:=q;subst e;rfl) _ (λcdv A outer s H E hr=>(jd (wo (i:=2) jt.nd rfl (by first|exact Or.inr rfl|exact Or.inl rfl) (jB UG hr rfl Vv Vr Vl (jac (jv 0) (by exact(jac (jv 1) ja))))) (by exact(jd (wo (i:=3) jt.nd rfl (Or.inl rfl) (jix (yW (jac jp (by exact(jac jp (by exact(jac jp (by exact(jac (jv 1) (by exact(jac jp ja)))))))))) (jB ji hr rfl jg jf je (jac (jv 0) (by exact(jac jp ja)))) (λ_ _=>rfl))) (by exact(jd (wo (i:=4) jt.nd rfl (Or.inl rfl) (jix (yW (jac jp (by exact(jac jp (by exact(jac jp ja)))))) (jB ji hr rfl jg jf je (jac (jv 0) (by exact(jac jp ja)))) (λ_ _=>rfl))) (by exact(jd (wo (i:=5) jt.nd rfl (Or.inl rfl) (jix (yW (jac jp (by exact(jac jp (by exact(jac jp ja)))))) (jB ji hr rfl jg jf je (jac (jv 0) (by exact(jac jp ja)))) (λ_ _=>rfl))) (by exact(jd (LD (i:=11) (k:=6) (js:= [11]) rfl jt.nd rfl (Or.inl rfl) (jz (by rfl)) (wH (jv 2)) (by decide) rfl (by first|exact Or.inl rfl|exact Or.inr rfl) (λX' hX=>jZ) (λX' hX=>by obtain⟨C,s₀,H₀,ex,rfl⟩:=hX;exact(jlc (i:=12) (js:= [12]) rfl (jz (by rfl)) (wH (jv 2)) (by decide) jt.nd rfl (by first|exact Or.inl rfl|exact Or.inr rfl) (λX' hX=>jZ) (λX' hX=>by obtain⟨C,s₀,H₀,ex,rfl⟩:=hX;exact jp)))) (by exact(jd (PY T8 rfl (Xt rfl Z.enumerate (jac (jv 2) ja)) (Ud (i:=7) (j:=8) rfl jt.nd rfl rfl (Or.inl rfl) (Or.inl rfl)) (jd (Mm (jop jA jp (jB ji hr rfl jg jf je (jac (jv 0) (by exact(jac (jv 5) ja))))) (Qy (jix (jv 6) (jv 8) (λ_ _=>rfl)) (jix (jv 2) (jop vP (jop jA (jv 7) jp) (jv 1)) (λ_ _=>rfl)))) (by exact(jq (PY T8 rfl (Xt rfl Z.enumerate (jac (jv 2) ja)) (Ud (i:=9) (j:=10) rfl jt.nd rfl rfl (Or.inl rfl) (Or.inl rfl)) (jq (Zo (jpt (LB (zZ oq_eq (jB ji hr rfl jg jf je (jac (jv 0) (by exact(jac (jv 4) ja)))) jp (jF _)) (LB (zZ oq_eq (jop vP (jop yQ (jop yQ (jv 9) (jv 7)) jp) (jv 3)) jp (jF _)) (AD (jpt (VA (zZ oq_eq (jop vP (jv 1) (jv 3)) jp (jF _)) (Qx (zZ Lg (jv 9) (jv 7) (jF _))))))))) (jq (Mm (jop jA jp (jB ji hr rfl jg jf je (jac (jv 0) (by exact(jac (jv 5) ja))))) (Qy (jix (jv 6) (jv 8) (λ_ _=>rfl)) (jv 10)))) jY))))))) (by exact(jq (wB (jU zV rfl Z.tuple (by decide +kernel) (jac (jlc (i:=11) (js:= [11]) rfl (jz (by rfl)) (wH (jv 6)) (by decide) jt.nd rfl (by first|exact Or.inl rfl|exact Or.inr rfl) (λX' hX=>jZ) (λX' hX=>by obtain⟨C,s₀,H₀,ex,rfl⟩:=hX;exact(jU cq_tuple rfl Z.tuple (by decide +kernel) (jac (jv 11) ja)))) ja))))))))))))))))) ?_;intro ds h Q q;obtain⟨p,l,fl,k,e,hp,h0,hk1,hk6,q⟩:=q;subst e;refine jj (λσ' h'=> ∃o l2,σ'= [some (.lst p),some (.int (k:Int)),some (Ry o),none,none,none,none,none,none,none,none,none,none]/\Ordr k o/\0<=l2/\h' p=some [.int l2,.int fl]/\But p h h') (λC hC=>⟨_,rfl,_,rfl,p,l,fl,k,rfl,hp,h0,hk6,λo l2 ho l20=>hC _ _ ⟨o,l2,rfl,ho,l20,jb,But.upd⟩⟩) ?_;rintro _ h1 ⟨o,l2,rfl,ho,l20,kp,bt⟩;have hlo:o.length=k:=ho.ord.len;refine jj (λσ' h'=> ∃dv l3,σ'= [some (.lst p),some (.int (k:Int)),some (Ry o),some (.int dv),none,none,none,none,none,none,none,none,none]/\0<dv/\dv<1000/\0<=l3/\h' p=some [.int l3,.int fl]/\But p h h') (λC hC=> ?_) ?_
 ·refine⟨_,rfl,(by show 5<=sizeLine;decide),λp1 e1=>⟨_,rfl,p,l2,fl,5,rfl,jc kp e1,l20,by decide,by decide,λr l3 r0 r1 l30=> ?_⟩⟩;obtain⟨oft',ho',eo⟩:=zw (xs:= [D.int 1,D.int 2,D.int 3,D.int (k:Int),D.int 1]) r0 r1;refine⟨_,oft',jh (jl kp e1) jb,eo,?_⟩;obtain⟨x,rfl,x1,x2⟩: ∃x:Int,oft'= .int x/\0<x/\x<1000:=by
   simp only [G4,P5,T4] at ho';rcases ho' with e|e|e|e|e<;>exact⟨_,e,by omega,by omega⟩
  exact hC _ _ ⟨x,l3,rfl,x1,x2,l30,jb,(bt.new e1).put⟩
 rintro _ h2 ⟨dv,l3,rfl,dv1,dv2,l30,kp,bt⟩;refine jj (λσ' h'=> ∃oft l4,σ'= [some (.lst p),some (.int (k:Int)),some (Ry o),some (.int dv),some (.int oft),none,none,none,none,none,none,none,none]/\0<oft/\oft<1000/\0<=l4/\h' p=some [.int l4,.int fl]/\But p h h') (λC hC=> ?_) ?_
 ·refine⟨(by show 3<=sizeLine;decide),λp1 e1=>⟨_,rfl,p,l3,fl,3,rfl,jc kp e1,l30,by decide,by decide,λr l4 r0 r1 l40=> ?_⟩⟩;obtain⟨oft',ho',eo⟩:=zw (xs:= [D.int 2,D.int 3,D.int 6]) r0 r1;refine⟨_,oft',jh (jl kp e1) jb,eo,?_⟩;obtain⟨x,rfl,x1,x2⟩: ∃x:Int,oft'= .int x/\0<x/\x<1000:=by
   simp only [G4,P5,T4] at ho';rcases ho' with e|e|e<;>exact⟨_,e,by omega,by omega⟩
  exact hC _ _ ⟨x,l4,rfl,x1,x2,l40,jb,(bt.new e1).put⟩
 rintro _ h2 ⟨oft,l4,rfl,of1,of2,l40,kp,bt⟩;refine jj (λσ' h'=> ∃mo l5,σ'= [some (.lst p),some (.int (k:Int)),some (Ry o),some (.int dv),some (.int oft),some (.int mo),none,none,none,none,none,none,none]/\0<mo/\mo<1000/\0<=l5/\h' p=some [.int l5,.int fl]/\But p h h') (λC hC=> ?_) ?_
 ·refine⟨(by show 3<=sizeLine;decide),λp1 e1=>⟨_,rfl,p,l4,fl,3,rfl,jc kp e1,l40,by decide,by decide,λr l5 r0 r1 l50=> ?_⟩⟩;obtain⟨oft',ho',eo⟩:=zw (xs:= [D.int 1,D.int 1,D.int 5]) r0 r1;refine⟨_,oft',jh (jl kp e1) jb,eo,?_⟩;obtain⟨x,rfl,x1,x2⟩: ∃x:Int,oft'= .int x/\0<x/\x<1000:=by
   simp only [G4,P5,T4] at ho';rcases ho' with e|e|e<;>exact⟨_,e,by omega,by omega⟩
  exact hC _ _ ⟨x,l5,rfl,x1,x2,l50,jb,(bt.new e1).put⟩
 rintro _ h2 ⟨mo,l5,rfl,mo1,mo2,l50,kp,bt⟩;refine jj (λσ' h'=> ∃R rs,σ'= [some (.lst p),some (.int (k:Int)),some (Ry o),some (.int dv),some (.int oft),some (.int mo),some (.lst R),none,none,none,none,none,none]/\h' p=some [.int l5,.int fl]/\But p h h'/\Grid k h h' p R rs) (λC hC=> ?_) ?_
 ·refine Ci (h1:=h2) (o.map λ(k:Nat)=>D.int (k:Int)) (λi ys h'=> ∃rs,ys=rs.map D.lst/\rs.length=i/\h' p=some [.int l5,.int fl]/\But p h h'/\p ∉ rs/\ ∀a∈rs,h a=none/\ ∃r,h' a=some (r.map D.int)/\yy k r) (by rw [G0];omega) (λR r=>⟨_,rfl,r⟩) ⟨[],rfl,rfl,kp,bt,by simp,by simp⟩ (λi ys h' ⟨rs,e,el,_⟩=>by rw [e,G0];omega) ?_ ?_
  ·rintro i ys h3 d hd ⟨rs,rfl,lrs,kp3,bt3,nprs,rows3⟩;have hi:i<k:=by have:=(G9.mp hd).1;rw [G0] at this;omega
   refine lcA o (λ(k:Nat)=>D.int (k:Int)) (λ_=>D.int 0) (by omega) rfl (λR r=>⟨_,rfl,r⟩) (λx hx Q' q'=>q') (λq4 e4=> ?_);refine⟨_,Sub.refl _,by rw [G0];omega,rs++ [q4],by rw [T3];rfl,by simp [lrs],jc kp3 e4,bt3.new e4,?_,λa ha=> ?_⟩
   ·intro z;rcases D4.mp z with y|y
    ·exact nprs y
    ·exact jl kp3 e4 (G8.mp y).symm
   ·rcases D4.mp ha with z|z
    ·obtain⟨f',r',e',g'⟩:=rows3 a z;exact⟨f',r',jc e' e4,g'⟩
    ·have:=G8.mp z;subst this;refine⟨YF bt3 e4 (jl kp3 e4),o.map λ_=>(0:Int),by rw [jb,S5];rfl,by rw [G0];exact hlo,λx hx=> ?_⟩;obtain⟨_,_,rfl⟩:=D6.mp hx;exact⟨by decide,by decide⟩
  ·rintro ys h3 ⟨rs,rfl,lrs,kp3,bt3,nprs,rows3⟩ R eR;rw [G0] at lrs;refine hC _ _ ⟨R,rs,rfl,jc kp3 eR,bt3.new eR,⟨jb,by rw [lrs];exact hlo,?_,YF bt3 eR (jl kp3 eR),nprs,jl kp3 eR,λa ha=>⟨(rows3 a ha).1,?_⟩⟩⟩
   ·intro hR;obtain⟨_,r,e',_⟩:=rows3 R hR;rw [e'] at eR;cases eR
   ·obtain⟨r,e',g'⟩:=(rows3 a ha).2;exact⟨r,jc e' eR,g'⟩
 rintro _ h3 ⟨R,rs,rfl,kp,bt,g⟩;have hen:(QF (o.map λ(k:Nat)=>D.int (k:Int))).length=k:=by rw [wI,G0];exact hlo
 have hel: ∀i d,(QF (o.map λ(k:Nat)=>D.int (k:Int)))[i]? =some d->i<k/\ ∃y,y<k/\d= .tup [.int (i:Int),.int (y:Int)]:=λi d hd=>by
  have hi:i<k:=by have:=(G9.mp hd).1;omega
  obtain⟨x,hx,ed⟩:=YL hd;have hi':i<o.length:=by omega
  rw [G6,G3 hi'] at hx;injection hx with hx
  exact⟨hi,o[i],D3.mp (ho.mem_iff.mp (R6 hi')),by rw [ed,<-hx]⟩
 refine jj (λσ' h'=> ∃a b c d l6,σ'= [some (.lst p),some (.int (k:Int)),some (Ry o),some (.int dv),some (.int oft),some (.int mo),some (.lst R),a,b,c,d,none,none]/\0<=l6/\h' p=some [.int l6,.int fl]/\But p h h'/\Grid k h h' p R rs) (λC hC=> ?_) ?_
 ·refine Js (h1:=h3) (j:=λ_=>some (QF (o.map λ(k:Nat)=>D.int (k:Int)))) (QF (o.map λ(k:Nat)=>D.int (k:Int))) (λi σ' h'=> ∃a b c d l6,σ'= [some (.lst p),some (.int (k:Int)),some (Ry o),some (.int dv),some (.int oft),some (.int mo),some (.lst R),a,b,c,d,none,none]/\0<=l6/\h' p=some [.int l6,.int fl]/\But p h h'/\Grid k h h' p R rs) (λR r=>⟨_,rfl,_,rfl,r⟩) (λ_ _ _ _=>rfl) ⟨none,none,none,none,l5,rfl,l50,kp,bt,g⟩ (λσ' h' z=>hC _ _ z) ?_;rintro i dd _ h4 hdd ⟨a,b,c,d,l6,rfl,l60,kp4,bt4,g4⟩;obtain⟨hi,y1,hy1,rfl⟩:=hel i dd hdd;refine⟨_,_,rfl,?_⟩;obtain⟨y3,hy3,ey3⟩:=Cj ho (V5 (i+1) (by omega:0<k));have em:((i:Int)+1)%(k:Int)=(((i+1)%k:Nat):Int):=by rw [Int.natCast_emod,Int.natCast_add];rfl
  rw [<-em] at ey3;refine jj (λσ' h'=> ∃l6,σ'= [some (.lst p),some (.int (k:Int)),some (Ry o),some (.int dv),some (.int oft),some (.int mo),some (.lst R),some (.int (i:Int)),some (.int (y1:Int)),c,d,none,none]/\0<=l6/\h' p=some [.int l6,.int fl]/\But p h h'/\Grid k h h' p R rs) (λC2 hC2=> ?_) ?_
  ·refine⟨_,rfl,_,rfl,p,l6,fl,mo,rfl,kp4,l60,mo1,by omega,λv l7 v0 v1 l70=> ?_⟩;have g5:=g4.pen [.int l7,.int fl];obtain⟨a',r',at',ha',er',gr',fa',na'⟩:=g5.pick hy1;exact⟨_,rfl,_,rfl,_,_,g5.at_,at',_,rfl,_,rfl,_,rfl,(by omega:(0:Int)<(k:Int)),_,ey3,a',(y3:Int),_,y3,rfl,rfl,er',Xu (by rw [G0,gr'.1];exact hy3),hC2 _ _ ⟨l7,rfl,l70,jh (Ne.symm na') jb,(bt4.put).putNew fa',g5.set ha' er' gr' (by omega) (by omega)⟩⟩
  rintro _ h5 ⟨l6,rfl,l60,kp5,bt5,g5⟩;refine Js (h1:=h5) (j:=λ_=>some (QF (o.map λ(k:Nat)=>D.int (k:Int)))) (QF (o.map λ(k:Nat)=>D.int (k:Int))) (λ_ σ' h'=> ∃c d l6,σ'= [some (.lst p),some (.int (k:Int)),some (Ry o),some (.int dv),some (.int oft),some (.int mo),some (.lst R),some (.int (i:Int)),some (.int (y1:Int)),c,d,none,none]/\0<=l6/\h' p=some [.int l6,.int fl]/\But p h h'/\Grid k h h' p R rs) (λR r=>⟨_,rfl,_,rfl,r⟩) (λ_ _ _ _=>rfl) ⟨c,d,l6,rfl,l60,kp5,bt5,g5⟩ ?_ ?_
  ·rintro _ h6 ⟨c,d,l6,rfl,l60,kp6,bt6,g6⟩;exact⟨_,Sub.refl _,by omega,_,_,_,_,l6,rfl,l60,kp6,bt6,g6⟩
  rintro i2 dd _ h6 hdd2 ⟨c,d,l6,rfl,l60,kp6,bt6,g6⟩;obtain⟨hi2,y2,hy2,rfl⟩:=hel i2 dd hdd2;refine⟨_,_,rfl,?_⟩;refine⟨_,rfl,_,rfl,p,l6,fl,oft,rfl,kp6,l60,of1,by omega,λw l7 w0 w1 l70=>⟨_,rfl,VR (λ_=> ?_) (λ_=>yS ⟨_,Sub.refl _,by omega,_,_,l7,rfl,l70,jb,bt6.put,g6.pen _⟩)⟩⟩;refine⟨_,rfl,_,rfl,_,rfl,dv1,_,rfl,VR (λ_=> ?_) (λ_=>yS ⟨_,Sub.refl _,by omega,_,_,l7,rfl,l70,jb,bt6.put,g6.pen _⟩)⟩;refine⟨_,rfl,_,rfl,dv1,_,rfl,VR (λ_=>vS ?_) (λ_=> ?_)⟩
  ·refine⟨_,rfl,_,rfl,p,l7,fl,mo,rfl,jb,l70,mo1,by omega,λv l8 v0 v1 l80=> ?_⟩;have g8:=(g6.pen [.int l7,.int fl]).pen [.int l8,.int fl];obtain⟨a',r',at',ha',er',gr',fa',na'⟩:=g8.pick hy1;exact⟨_,rfl,_,rfl,_,_,g8.at_,at',_,rfl,a',(y2:Int),_,y2,rfl,rfl,er',Xu (by rw [G0,gr'.1];exact hy2),_,Sub.refl _,by omega,_,_,l8,rfl,l80,jh (Ne.symm na') jb,((bt6.put).put).putNew fa',g8.set ha' er' gr' (by omega) (by omega)⟩
  ·refine⟨_,rfl,_,rfl,_,rfl,VR (λ_=> ?_) (λ_=>⟨_,Sub.refl _,by omega,_,_,l7,rfl,l70,jb,bt6.put,g6.pen _⟩)⟩;refine⟨_,rfl,_,rfl,p,l7,fl,mo,rfl,jb,l70,mo1,by omega,λv l8 v0 v1 l80=> ?_⟩;have g8:=(g6.pen [.int l7,.int fl]).pen [.int l8,.int fl];obtain⟨a',r',at',ha',er',gr',fa',na'⟩:=g8.pick hy1;exact⟨_,rfl,_,rfl,_,_,g8.at_,at',_,rfl,a',(y2:Int),_,y2,rfl,rfl,er',Xu (by rw [G0,gr'.1];exact hy2),_,Sub.refl _,by omega,_,_,l8,rfl,l80,jh (Ne.symm na') jb,((bt6.put).put).putNew fa',g8.set ha' er' gr' (by omega) (by omega)⟩
 rintro _ h6 ⟨a,b,c,d,l6,rfl,l60,kp,bt,g⟩;obtain⟨T,gT,eT⟩:=g.tab;refine Nu (j:=λh=>h R) rs D.lst (λa=> .tup ((h6 a).getD [])) (by rw [g.len];omega) g.at_ (λR r=>⟨_,rfl,r⟩) (λa ha Q' q'=> ?_) ⟨_,bt.sub kp,?_⟩
 ·obtain⟨_,r,er,_⟩:=g.row a ha;rw [er] at q';exact⟨_,rfl,_,er,q'⟩
 ·rw [eT];exact q T l6 gT l60
def vQ:RDn:=λds h Q=> ∃T,∃n e:Nat,ds= [jr T]/\Sq n e T/\1<=n/\n<=6/\e<=1000/\ ∀A L J h',h A=none->h' A=some ((List.range L).map λi=>jr (jS n T i))->Sub h h'->Course n T L J->L<=2225->Q (.tup [.lst A,.int ((J:Nat):Int)]) h'
theorem WN (Z:Zs mg)(F:Fun K "_law_course" "_law_course" yC f fd)(yF:jC P w K mg base n "_law_marked" ["_law_table_here"] yc)(vt:jC P w K mg base n "_law_times" ["_law_one","_law_other"] yE):FnOk P w K mg base CX0 (n+1) f fd ["_law_table_here"] (LSp K vQ):=by
 obtain⟨Wz,ZI,zn,zf,zg,zh⟩:=yF;obtain⟨WS,WB,wS,wt,wv,wx⟩:=vt;refine F.okJ zv (λds h Q q=>by obtain⟨T,n,bb,e,hT,h1,h6,hb,q⟩:=q;subst e;rfl) _ (λcdv A outer s H E hr=>(jd (wo (i:=1) zv.nd rfl (Or.inl rfl) (jB zn hr rfl zh zg zf (jac (jv 0) ja))) (by exact(jd (wo (i:=2) zv.nd rfl (Or.inl rfl) (yW ja)) (by exact(jd (wo (i:=3) zv.nd rfl (Or.inl rfl) (jv 1)) (by exact(jd (LK T8 (zZ (MA hr.units) (jv 3) (jv 2) (by with_unfolding_all rfl)) (jd (Xr (Ox (jv 2) (jv 3))) (by exact(jq (wo (i:=3) zv.nd rfl (Or.inl rfl) (jB zn hr rfl zh zg zf (jac (jB wS hr rfl wx wv wt (jac (jv 3) (by exact(jac (jv 1) ja)))) ja))))))) (by exact(jq (wB (wg (jac (jv 2) (by exact(jac (Sl hr.units (jv 2) (jv 3)) ja))))))))))))))) ?_;intro ds h Q q;obtain⟨T,n,bb,e,hT,h1,h6,hb,q⟩:=q;subst e;have hM:Sq n 1 (jw n T):=Sq.mark T;refine jj (λσ' h'=>σ'= [some (jr T),some (jr (jw n T)),none,none]/\h=h') (λC hC=>⟨_,rfl,T,n,bb,rfl,hT,h6,hC _ _ ⟨rfl,rfl⟩⟩) ?_;rintro _ _ ⟨rfl,rfl⟩;refine jj (λσ' h'=> ∃A,σ'= [some (jr T),some (jr (jw n T)),some (.lst A),none]/\h A=none/\h' A=some ((List.range 0).map λi=>jr (jS n T i))/\Sub h h') (λC hC=>⟨(by show 0<=sizeLine;decide),λA eA=>hC _ _ ⟨A,rfl,eA,jb,Sub.newAt (Sub.refl h) eA⟩⟩) ?_;rintro _ h1' ⟨A,rfl,fA,kA,sbA⟩;refine jj (λσ' h'=>σ'= [some (jr T),some (jr (jw n T)),some (.lst A),some (jr (jS n T 0))]/\h1'=h') (λC hC=>⟨_,rfl,hC _ _ ⟨rfl,rfl⟩⟩) ?_;rintro _ _ ⟨rfl,rfl⟩;refine jj (λσ' h'=> ∃L,σ'= [some (jr T),some (jr (jw n T)),some (.lst A),some (jr (jS n T L))]/\h' A=some ((List.range L).map λi=>jr (jS n T i))/\Sub h h'/\L<=2225/\((List.range L).map (jS n T)).Nodup/\jS n T L∈(List.range L).map (jS n T)) (λC hC=> ?_) ?_
 ·refine Mr (λm σ' h'=> ∃L,σ'= [some (jr T),some (jr (jw n T)),some (.lst A),some (jr (jS n T L))]/\h' A=some ((List.range L).map λi=>jr (jS n T i))/\Sub h h'/\m=2226-L/\((List.range L).map (jS n T)).Nodup) _ ⟨_,rfl,kA,sbA,rfl,by simp⟩ ?_;rintro m _ h2 ⟨L,rfl,kA2,sb2,hm,nd⟩;have hL:=Dz hT h1 h6 nd;have kA3:h2 A=some (((List.range L).map (jS n T)).map jr):=by rw [kA2,S5];rfl
  refine⟨_,rfl,_,rfl,LV encT kA3 λbo hbo=>⟨_,rfl,VR (λc=> ?_) (λc=> ?_)⟩⟩
  rotate_left
  ·refine hC _ _ ⟨L,rfl,kA2,sb2,hL,nd,hbo.mp ?_⟩;cases bo with
   |true=>rfl
   |false=>exact absurd rfl c
  have hni:jS n T L ∉ (List.range L).map (jS n T):=λz=>by rw [hbo.mpr z] at c;exact absurd c (by decide)
  refine jj (λσ' h'=>σ'= [some (jr T),some (jr (jw n T)),some (.lst A),some (jr (jS n T L))]/\h' A=some ((List.range (L+1)).map λi=>jr (jS n T i))/\Sub h h') (λC2 hC2=> ?_) ?_
  ·refine⟨_,rfl,A,rfl,_,rfl,_,kA2,?_,hC2 _ _ ⟨rfl,?_,?_⟩⟩
   ·rw [G0,P4];exact B6 hL (by decide)
   ·rw [jb,O3,T3];rfl
   ·exact(sb2).over fA
  rintro _ h3 ⟨rfl,kA4,sb4⟩;refine⟨_,rfl,_,rfl,jS n T L,jw n T,n,1,1,rfl,zL n T L,hM,by omega,h6,vD n (jS n T L) (jw n T),n,5,rfl,(zL n T L).mul hM (by omega),h6,2226-(L+1),_,by omega,Sub.refl _,L+1,by rw [YN hT];rfl,kA4,sb4,rfl,?_⟩;rw [O3,T3,V6];exact⟨nd,by simp,λx hx y hy=>by rw [G8.mp (show y∈ [jS n T L] from hy)];intro e;exact hni (e ▸ hx)⟩
 rintro _ h3 ⟨L,rfl,kA3,sb3,hL,nd,hin⟩;have kA4:h3 A=some (((List.range L).map (jS n T)).map jr):=by rw [kA3,S5];rfl
 obtain⟨J,pd,ps,zz,hat,t1,t2,c1,c2,c3,c4,c5,c6,c7⟩:=LW encT kA4 hin (by simp;omega);have hJL:J<L:=by have:=(G9.mp hat).1;simpa using this
 have hJe:jS n T L=jS n T J:=by
  rw [G6,N0 hJL] at hat;injection hat with hat
  exact hat.symm
 exact⟨_,rfl,_,rfl,A,rfl,_,rfl,pd,ps,J,zz,t1,t2,c1,c2,c3,c4,c5,c6,c7,(by show 2<=sizeLine;decide),h3,Sub.refl _,q A L J h3 fA kA3 sb3 ⟨nd,hJL,hJe⟩ hL⟩
theorem CG {x:List (List Int)}{as:List (List (List Int))}{Q:KD}(q: ∀b:Bool,(b=true↔x∈as)->Q (.bl b) h):inE false (jr x) (.tup (as.map jr)) h Q:=by
 refine⟨Zq x,as.map Zq,yZ h x,.inr ⟨_,rfl,encT.tos h as⟩,encT.lay x,encT.lays as,encT.dp x,?_⟩;rw [show (false !=(as.map Zq).any λz=>PyData.eqv z (Zq x))=(as.map Zq).any λz=>PyData.eqv z (Zq x) by cases (as.map Zq).any λz=>PyData.eqv z (Zq x)<;>rfl];refine q _ ?_;rw [List.any_map,List.any_eq_true];constructor
 ·rintro ⟨y,hy,z⟩;have:y=x:=by simpa [T7,Vd] using z
  rw [<-this];exact hy
 ·intro hi;exact⟨x,hi,by simp [T7,Vd]⟩
theorem CH {x:List (List Int)}{as:List (List (List Int))}{lo hi:Option Int}{Q:KD}(e:vB es lo hi=as.map jr)(q: ∀b:Bool,(b=true↔x∈as)->Q (.bl b) h):slD (.tup es) lo hi h λy h2=>inE false (jr x) y h2 Q:=by
 show inE false (jr x) (.tup (vB es lo hi)) h Q;rw [e];exact CG q
theorem MX {α:Type}(xs:List α)(t:Nat)(h:t<=xs.length):vB xs none (some (t:Int))=xs.take t:=by
 unfold vB;rw [show HT.sIx xs.length 0 none=0 from rfl,Y3,Z5];have:HT.sIx xs.length xs.length (some (t:Int))=t:=by
  unfold HT.sIx;simp only [];rw [if_neg (by omega)];omega
 rw [this]
def Wt:RDn:=λds h Q=> ∃T d,∃n e:Nat,ds= [jr T,d]/\Sq n e T/\1<=n/\n<=6/\okD d=true/\e<=1000/\Tz h d/\Om d/\ ∀b:Bool,(b=true↔Cal n T d)->Q (.bl b) h
theorem XS (Z:Zs mg)(F:Fun K "_law_due" "_law_due" Zc f fd)(vv:jC P w K mg base n "_law_whole" ["_law_thing"] zN)(yF:jC P w K mg base n "_law_marked" ["_law_table_here"] yc)(Wu:jC P w K mg base n "_law_is_table" ["_law_thing"] jX)(vt:jC P w K mg base n "_law_times" ["_law_one","_law_other"] yE):FnOk P w K mg base CX0 (n+1) f fd ["_law_table_here","_law_thing"] (LSp K Wt):=by
 obtain⟨WT,WC,wT,wu,ww,wz⟩:=vv;obtain⟨Wz,ZI,zn,zf,zg,zh⟩:=yF;obtain⟨GQ,Gd,Wv,ZG,ZK,ZL⟩:=Wu;obtain⟨WS,WB,wS,wt,wv,wx⟩:=vt;refine F.okJ wL (λds h Q q=>by obtain⟨T,d,n,b,e,hT,h1,h6,ok,hb,th,few,q⟩:=q;subst e;rfl) _ (λcdv A outer s H E hr=>(jd (Zo (jpt (VA (wn (wM (JQ (T:= "tuple") (by decide) rfl Z.isinstance rfl Z.tuple (by decide +kernel) (jv 1)))) (VA (zZ oq_ne (jO zH rfl Z.len R3 (jac (jv 1) ja)) jp (jF _)) (VA (wn (wM (jB wT hr rfl wz ww wu (jac (jix (jv 1) jp (λ_ _=>rfl)) ja)))) (Qx (wn (wM (jB wT hr rfl wz ww wu (jac (jix (jv 1) jp (λ_ _=>rfl)) ja))))))))) (jq (wB jbl)) jY) (by exact(jd (Mm (jv 1) (Cl (i:=2) (j:=3) (l:=4) rfl wL.nd rfl rfl rfl (Or.inl rfl) (Or.inl rfl) (Or.inl rfl))) (by exact(jd (Zo (jpt (VA (zZ Me (jv 2) jp (jF _)) (VA (zZ Me (jv 3) jp (jF _)) (VA (wn (wM (JQ (T:= "tuple") (by decide) rfl Z.isinstance rfl Z.tuple (by decide +kernel) (jv 4)))) (Qx (zZ oq_ne (jO zH rfl Z.len R3 (jac (jv 4) ja)) (jop yQ (jop jA (jv 2) (jv 3)) jp) (jF _))))))) (jq (wB jbl)) jY) (by exact(jd (wo (i:=5) wL.nd rfl (Or.inl rfl) (jB zn hr rfl zh zg zf (jac (jv 0) ja))) (by exact(jd (PY T8 rfl (Xt rfl Z.enumerate (jac (jv 4) ja)) (Ud (i:=6) (j:=7) rfl wL.nd rfl rfl (Or.inl rfl) (Or.inl rfl)) (jd (Zo (jpt (VA (wn (wM (jB Wv hr rfl ZL ZK ZG (jac (jv 7) ja)))) (Qx (zZ (AF hr.units) (jv 7) (zJ (jv 4) zj (za (jv 6))) (by with_unfolding_all rfl))))) (jq (wB jbl)) jY) (by exact(jd (wo (i:=8) wL.nd rfl (Or.inl rfl) (jif (zZ oq_eq (jv 6) jp (jF _)) (jv 5) (jB zn hr rfl zh zg zf (jac (jB wS hr rfl wx wv wt (jac (jix (jv 4) (jop yQ (jv 6) jp) (λ_ _=>rfl)) (by exact(jac (jv 5) ja)))) ja)))) (by exact(jq (Zo (zZ (PM hr.units) (jv 7) (jv 8) (jF _)) (jq (wB jbl)) jY))))))) (by exact(jq (wB (Uc (Ub hr.units) (jB zn hr rfl zh zg zf (jac (jB wS hr rfl wx wv wt (jac (jix (jv 4) (LF jp) (λ_ _=>rfl)) (by exact(jac (jv 5) ja)))) ja)) (jix (jv 4) (jop yQ (jv 2) jp) (λ_ _=>rfl)) (jF _))))))))))))))) ?_;intro ds h Q q;obtain⟨T,d,n,b,e,hT,h1,h6,ok,hb,th,few,q⟩:=q;subst e;have no: ¬Cal n T d->Q (.bl false) h:=λc=>q false ⟨(λz=>by cases z),λz=>absurd z c⟩
 obtain⟨nm,hn⟩:=zm ok;cases d with
 |tup es=>
  cases hn;obtain⟨hl,ht⟩:=vp ok;refine jj (λσ' h'=>(∃ (a l:Int) (z:D),es= [.int a,.int l,z])/\σ'= [some (jr T),some (.tup es),none,none,none,none,none,none,none]/\h=h') (λC hC=>⟨_,rfl,"tuple",rfl,_,rfl,yS ⟨_,rfl,_,rfl,?_⟩⟩) ?_
  ·show if (!decide (((es.length:Nat):Int)=3))=true then _ else _
   by_cases c:((es.length:Nat):Int)=3
   ·rw [D5 c];obtain⟨x,y,z,rfl⟩:=QZ c;have oky:=ht y (by simp);have okx:=ht x (by simp);obtain⟨nx,hnx⟩:=zm okx;obtain⟨ny,hny⟩:=zm oky;refine yS ⟨_,rfl,_,rfl,x,nx,rfl,hnx,_,rfl,?_⟩
    by_cases cx: ∃a:Int,x= .int a
    ·obtain⟨a,rfl⟩:=cx;refine yS ⟨_,rfl,_,rfl,y,ny,rfl,hny,_,rfl,?_⟩
     by_cases cy: ∃l:Int,y= .int l
     ·obtain⟨l,rfl⟩:=cy;exact yS (hC _ _ ⟨⟨a,l,z,rfl⟩,rfl,rfl⟩)
     ·have nc: ¬Cal n T (.tup [.int a,y,z]):=λw=>by
       obtain⟨L,J,_,e,_,co⟩:=zt w;exact cy ⟨_,e⟩
      cases y with
      |int l=>exact absurd ⟨l,rfl⟩ cy
      |_=>exact vS ⟨h,Sub.refl h,no nc⟩
    ·have nc: ¬Cal n T (.tup [x,y,z]):=λw=>by
      obtain⟨L,J,e,_⟩:=zt w;exact cx ⟨_,e⟩
     cases x with
     |int a=>exact absurd ⟨a,rfl⟩ cx
     |_=>exact vS ⟨h,Sub.refl h,no nc⟩
   ·rw [D8 c];exact vS ⟨h,Sub.refl h,no λw=>c (Rh w)⟩
  rintro _ _ ⟨⟨a,l,z,rfl⟩,rfl,rfl⟩;have hw:=On th;have okz:=ht z (by simp);refine jj (λσ' h'=>σ'= [some (jr T),some (.tup [.int a,.int l,z]),some (.int a),some (.int l),some z,none,none,none,none]/\h=h') (λC hC=>⟨_,rfl,_,_,_,rfl,hC _ _ ⟨rfl,rfl⟩⟩) ?_;rintro _ _ ⟨rfl,rfl⟩;refine jj (λσ' h'=>(∃es:List D,z= .tup es/\((es.length:Nat):Int)=a+l-1/\1<=a/\1<=l)/\σ'= [some (jr T),some (.tup [.int a,.int l,z]),some (.int a),some (.int l),some z,none,none,none,none]/\h=h') (λC hC=> ?_) ?_
  ·have pos:Cal n T (.tup [.int a,.int l,z])->1<=a/\1<=l/\ ∃es:List D,z= .tup es/\((es.length:Nat):Int)=a+l-1:=λw=>by
    obtain⟨L,J,e1,e2,e3,co⟩:=zt w;injection e1 with e1
    injection e2 with e2
    have:=co.lt;exact⟨by omega,by omega,_,e3,by rw [G0,G0,P4];omega⟩
   refine⟨_,rfl,_,rfl,?_⟩;show if decide (a<1)=true then _ else _
   by_cases a1:a<1
   ·rw [D5 a1];exact vS ⟨h,Sub.refl h,no λw=>by have:=(pos w).1;omega⟩
   rw [D8 a1];refine yS ⟨_,rfl,_,rfl,?_⟩;show if decide (l<1)=true then _ else _
   by_cases l1:l<1
   ·rw [D5 l1];exact vS ⟨h,Sub.refl h,no λw=>by have:=(pos w).2.1;omega⟩
   rw [D8 l1];refine yS ?_;obtain⟨nz,hnz⟩:=zm okz;cases z with
   |tup zs=>
    cases hnz;refine⟨_,rfl,"tuple",rfl,_,rfl,yS ⟨_,rfl,_,rfl,_,rfl,_,rfl,?_⟩⟩;show if (!decide (((zs.length:Nat):Int)=a+l-1))=true then _ else _
    by_cases c:((zs.length:Nat):Int)=a+l-1
    ·rw [D5 c];exact yS (hC _ _ ⟨⟨zs,rfl,c,by omega,by omega⟩,rfl,rfl⟩)
    ·rw [D8 c];refine vS ⟨h,Sub.refl h,no λw=> ?_⟩;obtain⟨_,_,es,e,c'⟩:=pos w;injection e with e
     exact c (by rw [e];exact c')
   |_=>cases hnz<;>exact⟨_,rfl,_,rfl,_,rfl,vS ⟨h,Sub.refl h,no λw=>by obtain⟨_,_,es,e,_⟩:=pos w;cases e⟩⟩
  rintro _ _ ⟨⟨es,rfl,le,a1,l1⟩,rfl,rfl⟩;have few:=few _ _ _ rfl;obtain⟨_,hte⟩:=vp okz;have hwe:=hw.parts (.tup es) (by simp);have hM:Sq n 1 (jw n T):=Sq.mark T;have calE:Cal n T (.tup [.int a,.int l,.tup es])->es=((List.range es.length).map (jS n T)).map jr/\((List.range es.length).map (jS n T)).Nodup:=λw=>by
   obtain⟨L,J,_,_,e3,co⟩:=zt w;injection e3 with e3
   have:es.length=L:=by rw [e3,G0,G0,P4]
   rw [this];exact⟨e3,co.nd⟩
  refine jj (λσ' h'=>σ'= [some (jr T),some (.tup [.int a,.int l,.tup es]),some (.int a),some (.int l),some (.tup es),some (jr (jw n T)),none,none,none]/\h=h') (λC hC=>⟨_,rfl,T,n,b,rfl,hT,h6,hC _ _ ⟨rfl,rfl⟩⟩) ?_;rintro _ _ ⟨rfl,rfl⟩;refine jj (λσ' h'=> ∃u v w,σ'= [some (jr T),some (.tup [.int a,.int l,.tup es]),some (.int a),some (.int l),some (.tup es),some (jr (jw n T)),u,v,w]/\es=((List.range es.length).map (jS n T)).map jr/\((List.range es.length).map (jS n T)).Nodup/\h=h') (λC hC=> ?_) ?_
  ·refine Js (h1:=h) (j:=λ_=>some (QF es)) (QF es) (λi σ' h'=> ∃u v w,σ'= [some (jr T),some (.tup [.int a,.int l,.tup es]),some (.int a),some (.int l),some (.tup es),some (jr (jw n T)),u,v,w]/\es.take i=((List.range i).map (jS n T)).map jr/\((List.range i).map (jS n T)).Nodup/\h=h') (λR r=>⟨_,rfl,_,rfl,r⟩) (λ_ _ _ _=>rfl) ⟨_,_,_,rfl,rfl,List.nodup_nil,rfl⟩ (λσ' h' ⟨u,v,w,e1,e2,e3,e4⟩=>hC _ _ ⟨u,v,w,e1,by rw [wI,A4] at e2;exact e2,by rw [wI] at e3;exact e3,e4⟩) ?_;rintro i dd _ _ hdd ⟨u,v,w,rfl,tk,nd,rfl⟩;obtain⟨x,hx,rfl⟩:=YL hdd;have hi:i<es.length:=(G9.mp hx).1;have xm:x∈es:=R8 hx;refine⟨_,_,rfl,?_⟩;have good:Cal n T (.tup [.int a,.int l,.tup es])->x=jr (jS n T i)/\jS n T i ∉ (List.range i).map (jS n T):=λw=>by
    obtain⟨e,nd'⟩:=calE w;constructor
    ·rw [e,G6,G6,N0 hi] at hx;injection hx with hx
     exact hx.symm
    ·intro z;obtain⟨j,hj,e⟩:=D6.mp z;have hj:=D3.mp hj;have:=(S6.mp nd') j i (by rw [G0,P4];omega) (by rw [G0,P4];omega) hj;rw [K1,K1,M2,M2] at this;exact this e
   refine jj (λσ' h'=>(∃M,∃m:Nat,x=jr M/\Sq m 1920 M/\M ∉ (List.range i).map (jS n T))/\σ'= [some (jr T),some (.tup [.int a,.int l,.tup es]),some (.int a),some (.int l),some (.tup es),some (jr (jw n T)),some (.int (i:Int)),some x,w]/\h=h') (λC2 hC2=>⟨_,rfl,x,rfl,hte x xm,_,rfl,?_⟩) ?_
   ·cases c:YZ x with
    |false=>
     refine vS ⟨h,Sub.refl h,no λw=> ?_⟩;rw [(good w).1,XO (zL n T i) h1 h6] at c;cases c
    |true=>
     obtain⟨M,m,rfl,sM,_⟩:=Re c (hwe.parts _ xm);refine yS ⟨_,rfl,_,rfl,_,rfl,?_⟩;refine⟨_,rfl,CH (by rw [MX es i (by omega),tk]) λbo hbo=>⟨_,rfl,?_⟩⟩;cases bo with
     |true=>
      refine vS ⟨h,Sub.refl h,no λw=> ?_⟩;have:=hbo.mp rfl;rw [Jw (good w).1] at this;exact(good w).2 this
     |false=>exact yS (hC2 _ _ ⟨⟨M,m,rfl,sM,λw=>by have:=hbo.mpr w;cases this⟩,rfl,rfl⟩)
   rintro _ _ ⟨⟨M,m,rfl,sM,nin⟩,rfl,rfl⟩;have atp: ∀j,j<i->es[j]? =some (jr (jS n T j)):=λj hj=>by
    have:(es.take i)[j]? =es[j]? :=by rw [U3,if_pos hj]
    rw [<-this,tk,G6,G6,N0 hj];rfl
   refine jj (λσ' h'=>σ'= [some (jr T),some (.tup [.int a,.int l,.tup es]),some (.int a),some (.int l),some (.tup es),some (jr (jw n T)),some (.int (i:Int)),some (jr M),some (jr (jS n T i))]/\h=h') (λC2 hC2=> ?_) ?_
   ·refine⟨_,rfl,_,rfl,?_⟩;show if decide ((i:Int)=0)=true then _ else _
    cases i with
    |zero=>exact vS ⟨_,rfl,hC2 _ _ ⟨rfl,rfl⟩⟩
    |succ i=>
     rw [D8 (show ¬ ((i+1:Nat):Int)=0 by omega)];refine yS ⟨_,rfl,_,rfl,_,?_,_,rfl,jS n T i,jw n T,n,1,1,rfl,zL n T i,hM,by omega,h6,vD n (jS n T i) (jw n T),n,5,rfl,(zL n T i).mul hM (by omega),h6,hC2 _ _ ⟨?_,rfl⟩⟩
     ·have:=zX (atp i (by omega))
      rwa [show (i:Int)=((i+1:Nat):Int)-1 by omega] at this
     ·rw [YN hT];rfl
   rintro _ _ ⟨rfl,rfl⟩;refine⟨_,rfl,_,rfl,Rf ⟨_,rfl,?_⟩⟩;show if (!decide (M=jS n T i))=true then _ else _
   by_cases z:M=jS n T i
   ·rw [D5 z];refine yS ⟨_,Sub.refl _,by rw [wI];omega,_,_,_,rfl,?_,?_,rfl⟩
    ·rw [B9,tk,hx,z,O3,T3,T3];rfl
    ·rw [O3,T3,V6];exact⟨nd,by simp,λx hx y hy=>by rw [G8.mp (show y∈ [jS n T i] from hy),<-z];intro e;exact nin (e ▸ hx)⟩
   ·rw [D8 z];exact vS ⟨h,Sub.refl h,no λw=>z (Jw (good w).1)⟩
  rintro _ _ ⟨u,v,w,rfl,ee,nd,rfl⟩;have l0:0<es.length:=by omega
  generalize es.length=L at*
  subst ee;have atR: ∀i,i<L->(((List.range L).map (jS n T)).map jr)[i]? =some (jr (jS n T i)):=λi hi=>by rw [G6,G6,N0 hi];rfl
  refine⟨_,rfl,_,QL (by rw [G0,G0,P4];omega) (by rw [G0,G0,P4];exact atR (L-1) (by omega)),_,rfl,jS n T (L-1),jw n T,n,1,1,rfl,zL n T _,hM,by omega,h6,vD n (jS n T (L-1)) (jw n T),n,5,rfl,(zL n T _).mul hM (by omega),h6,_,rfl,_,rfl,_,?_,Xv (A:=jw n (vD n (jS n T (L-1)) (jw n T))) (B:=jS n T (a-1).toNat) ⟨_,Sub.refl _,q _ ?_⟩⟩
  ·show atI _ (a-1)=_;have:=zX (atR (a-1).toNat (by omega))
   rwa [show (((a-1).toNat:Nat):Int)=a-1 by omega] at this
  ·rw [M3,<-Ri a1 l1 le nd,YN hT,show L-1+1=L by omega]
 |_=>cases hn<;>exact jj (λ_ _=>False) (λC hC=>⟨_,rfl,_,rfl,_,rfl,vS ⟨h,Sub.refl h,no (by rintro ⟨L,J,e,_⟩;cases e)⟩⟩) (λ_ _ z=>z.elim)
/-- what may be handed in -/
structure PZ (h:HD)(d:D):Prop where
 ok:okD d=true
 tz:Tz h d
 few:Om d
theorem PZ.sub (g:PZ h d)(s:Sub h h'):PZ h' d:=⟨g.ok,g.tz.sub s,g.few⟩
/-- the rows of a paper -/
structure RZ (h:HD)(d:D):Prop where
 gz:GZ h 4 2014983 d
 few: ∀es,d= .tup es->es.length<1000
theorem RZ.sub (g:RZ h d)(s:Sub h h'):RZ h' d:=⟨g.gz.sub s,g.few⟩
theorem GN.rz (g:GN h 3 2341 860 xs):RZ h (.tup xs):=⟨g.tup,λes e=>by injection e with e;rw [<-e];exact B6 g.len (by decide)⟩
theorem Rk (g: ∀x∈xs,GZ h 4 2014983 x)(hl:xs.length<=4)(few:Om (.tup xs)):PZ h (.tup xs):=by
 have:=GN.tup (n:=4) ⟨hl,g⟩;exact⟨this.ok,.inl (this.hs.mono (by decide) (by decide)),few⟩
theorem wR {i:Int}(g:i.natAbs<2000):GZ h 4 2014983 (.int i):=(wP (L8 g (by decide))).mono
theorem zb {x y z:D}(gx:GZ h 4 2014983 x)(gy:GZ h 4 2014983 y)(gz:RZ h z):PZ h (.tup [x,y,z]):=by
 refine Rk (λu hu=> ?_) (by show 3<=4;decide) λa l es e=> ?_
 ·simp only [G4,P5,T4] at hu;rcases hu with e|e|e<;>subst e
  ·exact gx
  ·exact gy
  ·exact gz.gz
 ·injection e with e
  injection e with _ e
  injection e with _ e
  injection e with e _
  exact gz.few es e
theorem CI {Ts:List (List (List Int))}(h6:n<=6)(g: ∀M∈Ts,Sq n 1 M)(hl:Ts.length<=426):GN h 3 2341 426 (Ts.map jr):=⟨by rw [G0];exact hl,λd hd=>by
 obtain⟨M,hM,rfl⟩:=D6.mp hd;exact(Rj (g M hM) h6).tup.mono⟩
def Zu:RDn:=λds h Q=> ∃p l fl,∃a c:Int,∃Ts:List (List (List Int)),∃n:Nat,ds= [.lst p,.tup [.int a,.int c,.tup (Ts.map jr)]]/\h p=some [.int l,.int fl]/\0<=l/\a.natAbs<1000/\c.natAbs<1000/\1<=n/\n<=6/\(∀M∈Ts,Sq n 1 M)/\1<=Ts.length/\Ts.length<=426/\ ∀d l' h',PZ (zd h' p) d->But p h h'->h' p=some [.int l',.int fl]->0<=l'->Q d h'
theorem UB (Z:Zs mg)(F:Fun K "_law_bent" "_law_bent" Jd f fd)(jE:jC P w K mg base n "_law_draw" ["_law_pen_here","_law_many"] jQ)(Zf:jC P w K mg base n "_law_bent_table" ["_law_pen_here","_law_table_here"] wQ):FnOk P w K mg base CX0 (n+1) f fd ["_law_pen_here","_law_thing"] (LSp K Zu):=by
 obtain⟨zc,jV,ji,je,jf,jg⟩:=jE;obtain⟨Qh,Xa,Zh,JC,JJ,JK⟩:=Zf;refine F.okJ jR (λds h Q q=>by obtain⟨p,l,fl,a,c,Ts,n,e,hp,h0,ha,hc,h1,h6,gT,t1,t6,q⟩:=q;subst e;rfl) _ (λcdv A outer s H E hr=>(jd (Mm (jv 1) (Cl (i:=2) (j:=3) (l:=4) rfl jR.nd rfl rfl rfl (Or.inl rfl) (Or.inl rfl) (Or.inl rfl))) (by exact(jd (wo (i:=5) jR.nd rfl (Or.inl rfl) (jB ji hr rfl jg jf je (jac (jv 0) (by exact(jac (jO zH rfl Z.len R3 (jac (jv 4) ja)) ja))))) (by exact(jd (wo (i:=6) jR.nd rfl (Or.inl rfl) (jB Zh hr rfl JK JJ JC (jac (jv 0) (by exact(jac (jix (jv 4) (jv 5) (λ_ _=>rfl)) ja))))) (by exact(jd (wo (i:=7) jR.nd rfl (Or.inl rfl) (yW (jac (jop jA (jop jA (zJ (jv 4) zj (za (jv 5))) (wg (jac (jv 6) ja))) (zJ (jv 4) (za (jop jA (jv 5) jp)) zj)) (by exact(jac (jop jA (zJ (jv 4) zj (za (jv 5))) (zJ (jv 4) (za (jop jA (jv 5) jp)) zj)) (by exact(jac (jop jA (jv 4) (zJ (jv 4) (za (LF jp)) zj)) (by exact(jac (AE (jv 4)) (by exact(jac (jU Xl rfl Z.list (by decide +kernel) (jac (jv 4) ja)) ja))))))))))) (by exact(jd (wo (i:=8) jR.nd rfl (Or.inl rfl) (jix (jv 7) (jB ji hr rfl jg jf je (jac (jv 0) (by exact(jac jp ja)))) (λ_ _=>rfl))) (by exact(jd (wo (i:=9) jR.nd rfl (Or.inl rfl) (yW (jac (wg (jac (jv 2) (by exact(jac (jv 3) (by exact(jac (jv 8) ja)))))) (by exact(jac (wg (jac (jop jA (jv 2) jp) (by exact(jac (jv 3) (by exact(jac (jv 4) ja)))))) (by exact(jac (wg (jac (jv 2) (by exact(jac (jop jA (jv 3) jp) (by exact(jac (jv 4) ja)))))) (by exact(jac (wg (jac (jop jA (jv 2) jp) (by exact(jac (jop yQ (jv 3) jp) (by exact(jac (jv 4) ja)))))) ja))))))))) (by exact(jd (wo (i:=9) jR.nd rfl (Or.inl rfl) (jop jA (jv 9) (yW (jac (wg (jac (jop yQ (jv 2) jp) (by exact(jac (jop jA (jv 3) jp) (by exact(jac (jv 4) ja)))))) (by exact(jac (wg (jac jbl (by exact(jac (jv 3) (by exact(jac (jv 4) ja)))))) (by exact(jac (wg (jac (jv 2) (by exact(jac jbl (by exact(jac (jv 4) ja)))))) (by exact(jac (yW (jac (jv 2) (by exact(jac (jv 3) (by exact(jac (jv 4) ja)))))) (by exact(jac (jv 4) ja)))))))))))) (by exact(jd (wo (i:=9) jR.nd rfl (Or.inl rfl) (jop jA (jv 9) (yW (jac (wg (jac (jv 2) (by exact(jac (jv 3) ja)))) (by exact(jac (wg (jac (jv 2) (by exact(jac (jv 3) (by exact(jac (jv 4) (by exact(jac jp ja)))))))) ja)))))) (by exact(jq (wB (jix (jv 9) (jix (yW (jac jp (by exact(jac jp (by exact(jac jp (by exact(jac jp (by exact(jac jp (by exact(jac jp (by exact(jac jp (by exact(jac jp (by exact(jac jp (by exact(jac jp (by exact(jac jp (by exact(jac jp (by exact(jac jp ja)))))))))))))))))))))))))) (jB ji hr rfl jg jf je (jac (jv 0) (by exact(jac jp ja)))) (λ_ _=>rfl)) (λ_ _=>rfl))))))))))))))))))))) ?_;intro ds h Q q;obtain⟨p,l,fl,a,c,Ts,n,e,hp,h0,ha,hc,h1,h6,gT,t1,t6,q⟩:=q;subst e;have oT: ∀g:HD,GN g 3 2341 426 (Ts.map jr):=λg=>CI h6 gT t6
 have hTl:(((Ts.map jr).length:Nat):Int)=(Ts.length:Int):=by rw [G0]
 have rT: ∀g:HD,RZ g (.tup (Ts.map jr)):=λg=>GN.rz (oT g).mono
 refine jj (λσ' h'=>σ'= [some (.lst p),some (.tup [.int a,.int c,.tup (Ts.map jr)]),some (.int a),some (.int c),some (.tup (Ts.map jr)),none,none,none,none,none]/\h=h') (λC hC=>⟨_,rfl,_,_,_,rfl,hC _ _ ⟨rfl,rfl⟩⟩) ?_;rintro _ _ ⟨rfl,rfl⟩;refine jj (λσ' h'=> ∃ (t:Nat) (l2:Int),σ'= [some (.lst p),some (.tup [.int a,.int c,.tup (Ts.map jr)]),some (.int a),some (.int c),some (.tup (Ts.map jr)),some (.int (t:Int)),none,none,none,none]/\t<Ts.length/\0<=l2/\h' p=some [.int l2,.int fl]/\But p h h') (λC hC=>⟨_,rfl,_,rfl,p,l,fl,_,rfl,hp,h0,by omega,Int.lt_of_le_of_lt (show _<=(426:Int) by omega) (by decide),λx l2 x0 x1 l20=>hC _ _ ⟨x.toNat,l2,by rw [A5 x0];rfl,by omega,l20,jb,But.upd⟩⟩) ?_;rintro _ h2 ⟨t,l2,rfl,tl,l20,kp,bp⟩;have tT:t<(Ts.map jr).length:=by rw [G0];exact tl
 refine jj (λσ' h'=> ∃ (off:D) (l2:Int),σ'= [some (.lst p),some (.tup [.int a,.int c,.tup (Ts.map jr)]),some (.int a),some (.int c),some (.tup (Ts.map jr)),some (.int (t:Int)),some off,none,none,none]/\GZ (zd h' p) 3 2341 off/\0<=l2/\h' p=some [.int l2,.int fl]/\But p h h') (λC hC=>⟨_,rfl,_,rfl,_,rfl,_,zX (by rw [G6,G3 tl];rfl),p,l2,fl,Ts[t],n,rfl,kp,l20,h1,h6,gT _ (R6 tl),λd l3 h' g bt kp' l30=>hC _ _ ⟨d,l3,rfl,g,l30,kp',bp.trans bt⟩⟩) ?_;clear kp l20 bp;rintro _ h3 ⟨off,l2,rfl,goff,l20,kp,bp⟩;refine jj (λσ' h'=> ∃SO xs,σ'= [some (.lst p),some (.tup [.int a,.int c,.tup (Ts.map jr)]),some (.int a),some (.int c),some (.tup (Ts.map jr)),some (.int (t:Int)),some off,some (.lst SO),none,none]/\h' SO=some xs/\xs.length=5/\(∀d∈xs,RZ (zd h' p) d)/\0<=l2/\h' p=some [.int l2,.int fl]/\But p h h') (λC hC=> ?_) ?_
 ·refine⟨_,rfl,_,rfl,_,rfl,_,rfl,(by show 1<=sizeLine;decide),((oT h3).cut _ _).sz (GN.one goff),_,rfl,_,rfl,_,rfl,(((oT (zd h3 p)).cut _ _).app (GN.one goff)).sz ((oT h3).cut _ _),_,rfl,_,rfl,_,rfl,_,rfl,_,rfl,_,rfl,((oT h3).cut _ _).sz ((oT h3).cut _ _),_,rfl,_,rfl,_,rfl,(oT h3).sz ((oT h3).cut _ _),_,rfl,_,rfl,_,rfl,λp1 e1=>⟨(by show 5<=sizeLine;decide),λp2 e2=>hC _ _ ⟨p2,_,rfl,jb,rfl,λd hd=> ?_,l20,jc (jc kp e1) e2,(bp.new e1).new e2⟩⟩⟩;have s2: ∀Y,Sub (zd h3 p) (zd (zY (zY h3 p1 (Ts.map jr)) p2 Y) p):=λY=>zi (((But.refl p h3).new e1).new e2)
  have nn1:=jl kp e1;simp only [G4,P5,T4] at hd;rcases hd with e|e|e|e|e<;>subst e
  ·exact GN.rz ((oT _).set (goff.sub (s2 _)) tT).mono
  ·exact GN.rz (((oT _).cut _ _).app ((oT _).cut _ _)).mono
  ·exact GN.rz ((oT _).app ((oT _).cut _ _)).mono
  ·exact GN.rz (oT _).rev.mono
  ·exact⟨(GN.lst (wJ nn1 (jc jb e2)) (oT _)).mono,λes e=>by cases e⟩
 clear kp l20 bp;rintro _ h4 ⟨SO,xs,rfl,kSO,lSO,gSO,l20,kp,bp⟩;have nSO:SO≠p:=λz=>by subst z;rw [kp] at kSO;injection kSO with kSO;rw [<-kSO] at lSO;cases lSO
 refine jj (λσ' h'=> ∃ (u:D) (l2:Int),σ'= [some (.lst p),some (.tup [.int a,.int c,.tup (Ts.map jr)]),some (.int a),some (.int c),some (.tup (Ts.map jr)),some (.int (t:Int)),some off,some (.lst SO),some u,none]/\RZ (zd h' p) u/\0<=l2/\h' p=some [.int l2,.int fl]/\But p h h') (λC hC=>⟨_,rfl,_,rfl,p,l2,fl,5,rfl,kp,l20,by decide,by decide,λx l4 r0 r1 l40=> ?_⟩) ?_
 ·obtain⟨d,hd,ed⟩:=zw (xs:=xs) r0 (by rw [lSO];exact r1);exact⟨_,d,jh nSO kSO,ed,hC _ _ ⟨d,l4,rfl,(gSO d hd).sub (zi ((But.refl p h4).put)),l40,jb,bp.put⟩⟩
 clear kp l20 bp kSO gSO;rintro _ h5 ⟨u,l2,rfl,gu,l20,kp,bp⟩;have na: ∀g:HD,GZ g 4 2014983 (.int a):=λg=>wR (by omega)
 have nc: ∀g:HD,GZ g 4 2014983 (.int c):=λg=>wR (by omega)
 have nt: ∀g:HD,GZ g 4 2014983 (.bl true):=λg=>⟨rfl,(zT (.inr (.inl rfl))).mono (by decide) (by decide)⟩
 refine jj (λσ' h'=> ∃MO xs,σ'= [some (.lst p),some (.tup [.int a,.int c,.tup (Ts.map jr)]),some (.int a),some (.int c),some (.tup (Ts.map jr)),some (.int (t:Int)),some off,some (.lst SO),some u,some (.lst MO)]/\h' MO=some xs/\xs.length=4/\(∀d∈xs,PZ (zd h' p) d)/\0<=l2/\h' p=some [.int l2,.int fl]/\But p h h') (λC hC=> ?_) ?_
 ·refine⟨_,rfl,_,rfl,_,rfl,(by show 3<=sizeLine;decide),_,rfl,_,rfl,_,rfl,(by show 3<=sizeLine;decide),_,rfl,_,rfl,_,rfl,(by show 3<=sizeLine;decide),_,rfl,_,rfl,_,rfl,(by show 3<=sizeLine;decide),(by show 4<=sizeLine;decide),λp1 e1=>hC _ _ ⟨p1,_,rfl,jb,rfl,λd hd=> ?_,l20,jc kp e1,bp.new e1⟩⟩;simp only [G4,P5,T4] at hd;rcases hd with e|e|e|e<;>subst e
  ·exact zb (na _) (nc _) (gu.sub (zi ((But.refl p h5).new e1)))
  ·exact zb (wR (by omega)) (nc _) (rT _)
  ·exact zb (na _) (wR (by omega)) (rT _)
  ·exact zb (wR (by omega)) (wR (by omega)) (rT _)
 clear kp l20 bp;rintro _ h6 ⟨MO,xs,rfl,kMO,lMO,gMO,l20,kp,bp⟩;refine jj (λσ' h'=> ∃MO xs,σ'= [some (.lst p),some (.tup [.int a,.int c,.tup (Ts.map jr)]),some (.int a),some (.int c),some (.tup (Ts.map jr)),some (.int (t:Int)),some off,some (.lst SO),some u,some (.lst MO)]/\h' MO=some xs/\xs.length=9/\(∀d∈xs,PZ (zd h' p) d)/\0<=l2/\h' p=some [.int l2,.int fl]/\But p h h') (λC hC=> ?_) ?_
 ·refine⟨_,rfl,_,rfl,_,rfl,_,rfl,(by show 3<=sizeLine;decide),_,rfl,_,rfl,(by show 3<=sizeLine;decide),_,rfl,_,rfl,(by show 3<=sizeLine;decide),_,rfl,_,rfl,_,rfl,(by show 3<=sizeLine;decide),λp1 e1=>⟨_,rfl,(by show 5<=sizeLine;decide),λp2 e2=>⟨_,_,jc (jc kMO e1) e2,jb,?_,λp3 e3=>hC _ _ ⟨p3,_,rfl,jb,?_,λd hd=> ?_,l20,jc (jc (jc kp e1) e2) e3,((bp.new e1).new e2).new e3⟩⟩⟩⟩
  ·rw [lMO];show 4+5<=sizeLine;decide
  ·rw [P7,lMO];rfl
  have nn1:=jl kp e1;rcases D4.mp hd with z|z
  ·exact(gMO d z).sub (zi ((((But.refl p h6).new e1).new e2).new e3))
  simp only [G4,P5,T4] at z;rcases z with e|e|e|e|e<;>subst e
  ·exact zb (wR (by omega)) (wR (by omega)) (rT _)
  ·exact zb (nt _) (nc _) (rT _)
  ·exact zb (na _) (nt _) (rT _)
  ·refine⟨rfl,.inl ((GN.lst (n:=3) (k:=4) (b:=2014983) (wJ nn1 (jc (jc jb e2) e3)) ⟨by show 3<=3;decide,λx hx=> ?_⟩).hs.mono (by decide) (by decide)),λ_ _ _ e=>by cases e⟩;simp only [G4,P5,T4] at hx;rcases hx with e|e|e<;>subst e
   ·exact na _
   ·exact nc _
   ·exact(rT _).gz
  ·refine⟨(rT h6).gz.ok,.inl ((rT _).gz.hs.mono (by decide) (by decide)),λx y es e=> ?_⟩;injection e with e
   have:D.tup es∈Ts.map jr:=by rw [e];simp
   obtain⟨M,hM,e2⟩:=D6.mp this;have e2:D.tup (M.map zK)= .tup es:=e2;injection e2 with e2
   rw [<-e2,G0,(gT M hM).len];omega
 clear kp l20 bp kMO lMO gMO;rintro _ h7 ⟨MO,xs,rfl,kMO,lMO,gMO,l20,kp,bp⟩;refine jj (λσ' h'=> ∃MO xs,σ'= [some (.lst p),some (.tup [.int a,.int c,.tup (Ts.map jr)]),some (.int a),some (.int c),some (.tup (Ts.map jr)),some (.int (t:Int)),some off,some (.lst SO),some u,some (.lst MO)]/\h' MO=some xs/\xs.length=11/\(∀d∈xs,PZ (zd h' p) d)/\0<=l2/\h' p=some [.int l2,.int fl]/\But p h h') (λC hC=> ?_) ?_
 ·refine⟨_,rfl,_,rfl,_,rfl,(by show 2<=sizeLine;decide),_,rfl,_,rfl,_,rfl,(by show 4<=sizeLine;decide),(by show 2<=sizeLine;decide),λp2 e2=>⟨_,_,jc kMO e2,jb,?_,λp3 e3=>hC _ _ ⟨p3,_,rfl,jb,?_,λd hd=> ?_,l20,jc (jc kp e2) e3,(bp.new e2).new e3⟩⟩⟩
  ·rw [lMO];show 9+2<=sizeLine;decide
  ·rw [P7,lMO];rfl
  rcases D4.mp hd with z|z
  ·exact(gMO d z).sub (zi (((But.refl p h7).new e2).new e3))
  simp only [G4,P5,T4] at z;rcases z with e|e<;>subst e
  ·refine Rk (λx hx=> ?_) (by show 2<=4;decide) λ_ _ _ e=>by cases e
   simp only [G4,P5,T4] at hx;rcases hx with e|e<;>subst e
   ·exact na _
   ·exact nc _
  ·refine Rk (λx hx=> ?_) (by show 4<=4;decide) λ_ _ _ e=>by cases e
   simp only [G4,P5,T4] at hx;rcases hx with e|e|e|e<;>subst e
   ·exact na _
   ·exact nc _
   ·exact(rT _).gz
   ·exact wR (by decide)
 clear kp l20 bp kMO lMO gMO;rintro _ h8 ⟨MO,xs,rfl,kMO,lMO,gMO,l20,kp,bp⟩;have nMO:MO≠p:=λz=>by subst z;rw [kp] at kMO;injection kMO with kMO;rw [<-kMO] at lMO;cases lMO
 refine⟨_,rfl,(by show 13<=sizeLine;decide),λp1 e1=>⟨_,rfl,p,l2,fl,13,rfl,jc kp e1,l20,by decide,by decide,λx l5 r0 r1 l50=> ?_⟩⟩;obtain⟨ix,hix,eix⟩:=zw (xs:= [D.int 0,D.int 0,D.int 0,D.int 1,D.int 2,D.int 3,D.int 4,D.int 5,D.int 6,D.int 7,D.int 8,D.int 9,D.int 10]) r0 r1;refine⟨_,ix,jh (jl kp e1) jb,eix,?_⟩;obtain⟨y,e,y0,y1⟩: ∃y:Int,ix= .int y/\0<=y/\y<11:=by
  simp only [G4,P5,T4] at hix;rcases hix with e|e|e|e|e|e|e|e|e|e|e|e|e<;>exact⟨_,e,by decide,by decide⟩
 subst e;obtain⟨d,hd,ed⟩:=zw (xs:=xs) y0 (by rw [lMO];exact y1);exact⟨_,d,jh nMO (jc kMO e1),ed,_,Sub.refl _,q d l5 _ ((gMO d hd).sub (zi (((But.refl p h8).new e1).put))) ((bp.new e1).put) jb l50⟩
def JB:RDn:=λds h Q=> ∃T d,∃n e:Nat,ds= [jr T,d]/\Sq n e T/\1<=n/\n<=6/\e<=1000/\PZ h d/\Q (.bl true) h
theorem Vi (Z:Zs mg)(F:Fun K "_law_right" "_law_right" vo f fd)(GG:jC P w K mg base n "_law_due" ["_law_table_here","_law_thing"] Wt)(ZE:jC P w K mg base n "calendar_holds" ["table","thing"] yp):FnOk P w K mg base CX0 (n+1) f fd ["_law_table_here","_law_thing"] (LSp K JB):=by
 obtain⟨NN,Nf,GJ,Qa,Qj,Qm⟩:=GG;obtain⟨Gc,Qi,ZF,Zj,Zl,Zm⟩:=ZE;refine F.okJ zF (λds h Q q=>by obtain⟨T,d,n,bb,e,hT,n1,n6,he,z,q⟩:=q;subst e;rfl) _ (λcdv A outer s H E hr=>(jd (wo (i:=2) zF.nd rfl (Or.inl rfl) (jO (QJ hr) rfl Z.repr (by decide +kernel) (jac (yW (jac (jv 0) (by exact(jac (jv 1) ja)))) ja))) (by exact(jd (wo (i:=3) zF.nd rfl (Or.inl rfl) (jB GJ hr rfl Qm Qj Qa (jac (jv 0) (by exact(jac (jv 1) ja))))) (by exact(jd (PY T8 rfl (YI rfl Z.range (jac jp ja)) (yX (i:=4) zF.nd rfl (Or.inl rfl)) (jd (wo (i:=5) zF.nd rfl (Or.inl rfl) (jB ZF hr rfl Zm Zl Zj (jac (jv 0) (by exact(jac (jv 1) ja))))) (by exact(jq (Zo (jpt (VA (wn (wM (JQ (T:= "bool") (by decide) rfl Z.isinstance rfl Z.bool (by decide +kernel) (jv 5)))) (Qx (zZ (PM hr.units) (jv 5) (jv 3) (jF _))))) (jq (wB jbl)) jY))))) (by exact(jq (wB (Uc oq_eq (jO (QJ hr) rfl Z.repr (by decide +kernel) (jac (yW (jac (jv 0) (by exact(jac (jv 1) ja)))) ja)) (jv 2) (jF _))))))))))) ?_;intro ds h Q q;obtain⟨T,d,n,bb,e,hT,n1,n6,he,z,q⟩:=q;subst e;obtain⟨txt,rep⟩:=Su hT n6 he z.tz;refine jj (λσ' h'=>σ'= [some (jr T),some d,some (.str txt),none,none,none]/\Sub h h') (λC hC=>⟨_,rfl,_,rfl,(by show 2<=sizeLine;decide),λp1 e1=>rep _ p1 _ (Sub.newAt (Sub.refl h) e1) jb (hC _ _ ⟨rfl,Sub.newAt (Sub.refl h) e1⟩)⟩) ?_;rintro _ h1 ⟨rfl,sb⟩;refine jj (λσ' h'=> ∃b:Bool,σ'= [some (jr T),some d,some (.str txt),some (.bl b),none,none]/\(b=true↔Cal n T d)/\h1=h') (λC hC=>⟨_,rfl,_,rfl,T,d,n,bb,rfl,hT,n1,n6,z.ok,he,z.tz.sub sb,z.few,λb hb=>hC _ _ ⟨b,rfl,hb,rfl⟩⟩) ?_;rintro _ _ ⟨b,rfl,hb,rfl⟩;refine jj (λσ' h'=> ∃u v,σ'= [some (jr T),some d,some (.str txt),some (.bl b),u,v]/\h1=h') (λC hC=> ?_) ?_
 ·refine YG 2 (λi σ' h'=> ∃u v,σ'= [some (jr T),some d,some (.str txt),some (.bl b),u,v]/\h1=h') (by decide) (λR r=>r) ⟨none,none,rfl,rfl⟩ (λσ' h' z=>hC _ _ z) ?_;rintro i _ _ hi ⟨u,v,rfl,rfl⟩;refine jj (λσ' h'=>σ'= [some (jr T),some d,some (.str txt),some (.bl b),some (.int (i:Int)),some (.bl b)]/\h1=h') (λC2 hC2=>⟨_,rfl,_,rfl,T,d,n,bb,rfl,hT,n1,n6,z.ok,he,z.tz.sub sb,z.few,λb2 hb2=> ?_⟩) ?_
  ·have:b2=b:=C4.mpr (hb2.trans hb.symm);subst this;exact hC2 _ _ ⟨rfl,rfl⟩
  rintro _ _ ⟨rfl,rfl⟩;refine⟨_,rfl,"bool",rfl,_,rfl,yS ⟨_,rfl,_,rfl,⟨_,rfl,?_⟩⟩⟩;show if (!decide (b=b))=true then _ else _
  rw [show (!decide (b=b))=false by rw [D5 rfl];rfl];exact yS ⟨_,Sub.refl _,by omega,_,_,rfl,rfl⟩
 rintro _ _ ⟨u,v,rfl,rfl⟩;refine⟨_,rfl,_,rfl,(by show 2<=sizeLine;decide),λp1 e1=>rep _ p1 _ (Sub.newAt sb e1) jb ⟨_,rfl,h,Sub.newAt sb e1,?_⟩⟩;show Q (.bl (decide (txt=txt))) h;rw [show decide (txt=txt)=true from D5 rfl];exact q
theorem ZS (g:GZ h 0 40 d):RZ h (.tup [.tup [.tup [d]]]):=GN.rz ((GN.one (GN.one (GN.one g).tup).tup).mono (k':=3) (b':=2341) (n':=860))
theorem Op (Z:Zs mg)(F:Fun K "law" "law" GE f fd)(UD:jC P w K mg base n "_law_right" ["_law_table_here","_law_thing"] JB)(XU:jC P w K mg base n "_law_cell" ["_law_script","_law_k"] Zr)(GI:jC P w K mg base n "_law_pen" ["_law_cell_here"] Wr)(UE:jC P w K mg base n "_law_table" ["_law_pen_here","_law_size_here"] wq)(XV:jC P w K mg base n "_law_size" ["_law_pen_here"] Zt)(jE:jC P w K mg base n "_law_draw" ["_law_pen_here","_law_many"] jQ)(Je:jC P w K mg base n "_law_joined_table" ["_law_pen_here","_law_size_here"] wq)(Vj:jC P w K mg base n "_law_course" ["_law_table_here"] vQ)(GH:jC P w K mg base n "_law_odd" ["_law_pen_here"] Ws)(XT:jC P w K mg base n "_law_bent" ["_law_pen_here","_law_thing"] Zu):FnOk P w K mg base CX0 (n+1) f fd ["_law_script"] (LSp K PK):=by
 obtain⟨RB,Rs,vx,yI,yK,yM⟩:=UD;obtain⟨Nc,RF,XY,UL,UU,UW⟩:=XU;obtain⟨NP,Nh,GL,Qc,Ql,Qo⟩:=GI;obtain⟨RC,Rt,UH,Vm,Vs,Vw⟩:=UE;obtain⟨Nd,RG,Ww,Zv,Zz,ZA⟩:=XV;obtain⟨zc,jV,ji,je,jf,jg⟩:=jE;obtain⟨UQ,VD,Jg,vJ,vL,vN⟩:=Je;obtain⟨Rp,GV,Vk,WQ,WV,WW⟩:=Vj;obtain⟨NO,Ng,GK,Qb,Qk,Qn⟩:=GH;obtain⟨Nb,RE,XX,UK,UT,UV⟩:=XT;refine F.okJ wV (λds h Q q=>by obtain⟨ns,e,hh,hns,q⟩:=q;subst e;rfl) _ (λcdv A outer s H E hr=>(jd (wo (i:=1) wV.nd rfl (Or.inl rfl) (yW (jac (wg (jac jp (by exact(jac jp (by exact(jac (wg (jac (wg (jac (wg (jac jp ja)) ja)) ja)) ja)))))) (by exact(jac (wg (jac jp (by exact(jac jp (by exact(jac (wg (jac (wg (jac (wg (jac jp ja)) ja)) ja)) ja)))))) (by exact(jac (wg (jac jbl (by exact(jac jp (by exact(jac (wg (jac (wg (jac (wg (jac jp ja)) ja)) ja)) ja)))))) (by exact(jac (wg (jac jp (by exact(jac jp (by exact(jac (wg (jac (wg (jac (wg (jac jbl ja)) ja)) ja)) ja)))))) (by exact(jac (wg (jac jp (by exact(jac jp (by exact(jac (wg ja) ja)))))) ja))))))))))) (by exact(jd (PY T8 rfl (PX (jop jA (jv 1) (yW (jac Lz ja)))) (yX (i:=2) wV.nd rfl (Or.inl rfl)) (jq (Zo (jpt (VA (wn (wM (jB vx hr rfl yM yK yI (jac (wg (jac (wg (jac jp ja)) ja)) (by exact(jac (jv 2) ja)))))) (Qx (wn (wM (jB vx hr rfl yM yK yI (jac (wg (jac (wg (jac jp ja)) ja)) (by exact(jac (jv 2) ja))))))))) (jq (wB jbl)) jY))) (by exact(jd (PY T8 rfl (PX (jop jA (yW (jac (jB XY hr rfl UW UU UL (jac (jv 0) (by exact(jac jp ja)))) ja)) (zJ (jv 0) (za jp) (za jp)))) (yX (i:=3) wV.nd rfl (Or.inl rfl)) (jd (wo (i:=4) wV.nd rfl (by first|exact Or.inr rfl|exact Or.inl rfl) (jB GL hr rfl Qo Ql Qc (jac (jv 3) ja))) (by exact(jd (wo (i:=5) wV.nd rfl (by first|exact Or.inr rfl|exact Or.inl rfl) (jB UH hr rfl Vw Vs Vm (jac (jv 4) (by exact(jac (jB Ww hr rfl ZA Zz Zv (jac (jv 4) ja)) ja))))) (by exact(jd (Zo (zZ oq_eq (jB ji hr rfl jg jf je (jac (jv 4) (by exact(jac jp ja)))) jp (jF _)) (jq (wo (i:=5) wV.nd rfl (by first|exact Or.inr rfl|exact Or.inl rfl) (jB Jg hr rfl vN vL vJ (jac (jv 4) (by exact(jac (jB Ww hr rfl ZA Zz Zv (jac (jv 4) ja)) ja)))))) jY) (by exact(jd (Mm (jB Vk hr rfl WW WV WQ (jac (jv 5) ja)) (Ud (i:=6) (j:=7) rfl wV.nd rfl rfl (Or.inl rfl) (Or.inl rfl))) (by exact(jd (wo (i:=8) wV.nd rfl (by first|exact Or.inr rfl|exact Or.inl rfl) (wg (jac (jop jA (jv 7) jp) (by exact(jac (jop yQ (jO zH rfl Z.len R3 (jac (jv 6) ja)) (jv 7)) (by exact(jac (jU cq_tuple rfl Z.tuple (by decide +kernel) (jac (jv 6) ja)) ja))))))) (by exact(jd (wo (i:=9) wV.nd rfl (Or.inl rfl) (jU cq_tuple rfl Z.tuple (by decide +kernel) (jac (jop jA (jv 6) (zJ (jv 6) (za (jv 7)) zj)) ja))) (by exact(jd (wo (i:=10) wV.nd rfl (Or.inl rfl) (yW (jac (jv 8) (by exact(jac (wg (jac (jop jA (jv 7) jp) (by exact(jac (jop We jp (jix (jv 8) jp (λ_ _=>rfl))) (by exact(jac (jv 9) ja)))))) (by exact(jac (wg (jac (jop jA (jix (jv 8) jp (λ_ _=>rfl)) (jix (jv 8) jp (λ_ _=>rfl))) (by exact(jac (jix (jv 8) jp (λ_ _=>rfl)) (by exact(jac (jv 9) ja)))))) (by exact(jac (jB GK hr rfl Qn Qk Qb (jac (jv 4) ja)) ja))))))))) (by exact(jd (wo (i:=10) wV.nd rfl (Or.inl rfl) (jop jA (jv 10) (jlc (i:=11) (js:= [11]) rfl (jz (by rfl)) (YI rfl Z.range (jac jp ja)) (by decide) wV.nd rfl (by first|exact Or.inl rfl|exact Or.inr rfl) (λX' hX=>jZ) (λX' hX=>by obtain⟨C,s₀,H₀,ex,rfl⟩:=hX;exact(jB XX hr rfl UV UT UK (jac (jv 4) (by exact(jac (jv 8) ja)))))))) (by exact(jq (Zo (wn (wM (jO (Yf rfl) rfl Z.all B5 (jac (jlc (i:=2) (js:= [2]) rfl (jz (by rfl)) (wH (jv 10)) (by decide) wV.nd rfl (by first|exact Or.inl rfl|exact Or.inr rfl) (λX' hX=>jZ) (λX' hX=>by obtain⟨C,s₀,H₀,ex,rfl⟩:=hX;exact(jB vx hr rfl yM yK yI (jac (jv 5) (by exact(jac (jv 2) ja)))))) ja)))) (jq (wB jbl)) jY))))))))))))))))))) (by exact(jq (wB jbl))))))))) ?_;intro ds h Q q;obtain⟨ns,e,hh,hns,q⟩:=q;subst e;have hA:Sq 1 3 [[(0:Int)]]:=⟨by decide,by decide,by decide,by decide⟩;have hB:Sq 1 3 [[(3:Int)]]:=⟨by decide,by decide,by decide,by decide⟩;refine jj (λσ' h'=> ∃a xs,σ'= [some (.scr ns),some (.lst a),none,none,none,none,none,none,none,none,none,none]/\h' a=some xs/\xs.length=5/\ ∀d∈xs,∀g:HD,PZ g d) (λC hC=> ?_) ?_
 ·refine⟨(by show 1<=sizeLine;decide),(by show 1<=sizeLine;decide),(by show 1<=sizeLine;decide),(by show 3<=sizeLine;decide),(by show 1<=sizeLine;decide),(by show 1<=sizeLine;decide),(by show 1<=sizeLine;decide),(by show 3<=sizeLine;decide),(by show 1<=sizeLine;decide),(by show 1<=sizeLine;decide),(by show 1<=sizeLine;decide),(by show 3<=sizeLine;decide),(by show 1<=sizeLine;decide),(by show 1<=sizeLine;decide),(by show 1<=sizeLine;decide),(by show 3<=sizeLine;decide),(by show 0<=sizeLine;decide),(by show 3<=sizeLine;decide),(by show 5<=sizeLine;decide),λp1 e1=>hC _ _ ⟨p1,_,rfl,jb,rfl,λd hd g=> ?_⟩⟩;have o:GZ g 4 2014983 (.int 1):=wR (by decide);have f:GZ g 0 40 (.bl false):=⟨rfl,zT (.inr (.inr (.inl rfl)))⟩;have t:GZ g 4 2014983 (.bl true):=⟨rfl,(zT (.inr (.inl rfl))).mono (by decide) (by decide)⟩;simp only [G4,P5,T4] at hd;rcases hd with e|e|e|e|e<;>subst e
  ·exact zb o o (ZS (wP (by decide)))
  ·exact zb o o (ZS (wP (by decide)))
  ·exact zb t o (ZS (wP (by decide)))
  ·exact zb o o (ZS f)
  ·exact zb o o (GN.rz ⟨by show 0<=860;decide,λx hx=>by cases hx⟩)
 rintro _ h0 ⟨pl,xs,rfl,kl,ll,gl⟩;refine jj (λσ' h'=> ∃a,σ'= [some (.scr ns),some (.lst pl),a,none,none,none,none,none,none,none,none,none]) (λC hC=> ?_) ?_
 ·refine⟨_,rfl,(by show 1<=sizeLine;decide),λp1 e1=>⟨_,_,jc kl e1,jb,(by rw [ll];show 5+1<=sizeLine;decide),λp2 e2=>⟨p2,rfl,?_⟩⟩⟩;refine Ua (xs++ [D.non]) (λi σ' h'=>(∃a,σ'= [some (.scr ns),some (.lst pl),a,none,none,none,none,none,none,none,none,none])/\h' p2=some (xs++ [D.non])) (λi σ' h' z=>z.2) ⟨⟨_,rfl⟩,jb⟩ (λσ' h' z=>hC _ _ z.1) ?_;rintro i d _ h1 hi ⟨⟨a,rfl⟩,k2⟩;have z: ∀g:HD,PZ g d:=λg=>by
   rcases D4.mp (R8 hi) with z|z
   ·exact gl d z g
   ·rw [G8.mp z];exact⟨rfl,.inl ((zT (.inl rfl)).mono (by decide) (by decide)),λ_ _ _ e=>by cases e⟩
  have hil:i<(xs++ [D.non]).length:=(G9.mp hi).1;exact⟨(by show 1<=sizeLine;decide),(by show 1<=sizeLine;decide),_,rfl,[[0]],d,1,3,rfl,hA,by decide,by decide,by decide,z _,_,rfl,yS ⟨(by show 1<=sizeLine;decide),(by show 1<=sizeLine;decide),_,rfl,[[3]],d,1,3,rfl,hB,by decide,by decide,by decide,z _,_,rfl,yS ⟨_,Sub.refl _,by omega,⟨_,rfl⟩,k2⟩⟩⟩
 clear h0 kl ll gl;rintro _ h0 ⟨a0,rfl⟩;clear h hh
 rename HD=>h
 refine jj (λσ' h'=>True) (λC hC=> ?_) (λσ' h3 hV=>⟨h3,Sub.refl _,q h3⟩);refine⟨_,rfl,ns,0,rfl,(by decide),λn0=>⟨(by show 1<=sizeLine;decide),λp1 e1=>⟨_,rfl,_,rfl,_,rfl,λp2 e2=>⟨_,_,jc jb e2,jb,?_,λp3 e3=>⟨p3,rfl,?_⟩⟩⟩⟩⟩
 ·have:(vB ns (some 1) (some 4)).length<=ns.length:=by unfold vB;rw [List.length_take,List.length_drop];omega
  rw [G0];exact T5 (zr (by simp only [P8,S4];omega))
 generalize hcs:([D.int n0]++(vB ns (some 1) (some 4)).map D.int)=cs;have hint: ∀d∈cs,∃c,d= .int c:=λd hd=>by
  rw [<-hcs] at hd;rcases D4.mp hd with z|z
  ·exact⟨n0,G8.mp z⟩
  ·obtain⟨x,_,e⟩:=D6.mp z;exact⟨x,e.symm⟩
 refine Ua cs (λi σ' h'=> ∃a1 a2 a3 a4 a5 a6 a7 a8 a9 a10 a11,σ'= [some (.scr ns),a1,a2,a3,a4,a5,a6,a7,a8,a9,a10,a11]/\h' p3=some cs) (λi σ' h' ⟨_,_,_,_,_,_,_,_,_,_,_,_,k⟩=>k) ⟨_,_,_,_,_,_,_,_,_,_,_,rfl,jb⟩ (λσ' h' _=>hC _ _ True.intro) ?_;rintro i d _ h4 hi ⟨b1,b2,b3,b4,b5,b6,b7,b8,b9,b10,b11,rfl,k3⟩;obtain⟨c,rfl⟩:=hint d (R8 hi);have hil:i<cs.length:=(G9.mp hi).1;show Px _ _ _ [some (.scr ns),b1,b2,some (.int c),b4,b5,b6,b7,b8,b9,b10,b11] h4;refine jj (λσ' h'=> ∃p l fl,σ'= [some (.scr ns),b1,b2,some (.int c),some (.lst p),b5,b6,b7,b8,b9,b10,b11]/\h' p=some [.int l,.int fl]/\0<=l/\h' p3=some cs/\p3≠p) (λC hC=> ?_) ?_
 ·refine⟨_,rfl,c,rfl,λp l fl ep l0 _=>hC _ _ ⟨p,l,fl,rfl,jb,l0,jc k3 ep,Ne.symm (jl k3 ep)⟩⟩
 rintro _ h5 ⟨p,l,fl,rfl,kp,l0,k3,n3⟩;refine jj (λσ' h'=> ∃ (T:List (List Int)) (n:Nat) (l2:Int),σ'= [some (.scr ns),b1,b2,some (.int c),some (.lst p),some (jr T),b6,b7,b8,b9,b10,b11]/\Sq n 20 T/\1<=n/\n<=6/\h' p=some [.int l2,.int fl]/\0<=l2/\h' p3=some cs) (λC hC=>⟨_,rfl,_,rfl,p,l,fl,rfl,kp,l0,λn l2 n1 n6 l20=>⟨p,l2,fl,n,rfl,jb,l20,n1,n6,λT l3 gT l30=>hC _ _ ⟨T,n,l3,rfl,gT.sq,n1,n6,jb,l30,jh n3 (jh n3 k3)⟩⟩⟩) ?_;clear kp l0 k3;rintro _ h6 ⟨T,n,l2,rfl,hT,n1,n6,kp,l20,k3⟩;refine jj (λσ' h'=> ∃ (T:List (List Int)) (n:Nat) (l2:Int),σ'= [some (.scr ns),b1,b2,some (.int c),some (.lst p),some (jr T),b6,b7,b8,b9,b10,b11]/\Sq n 20 T/\1<=n/\n<=6/\h' p=some [.int l2,.int fl]/\0<=l2/\h' p3=some cs) (λC hC=>⟨_,rfl,p,l2,fl,2,rfl,kp,l20,by decide,by decide,λx l3 x0 x1 l30=>⟨_,rfl,VR (λ_=>⟨_,rfl,_,rfl,p,l3,fl,rfl,jb,l30,λm l4 m1 m6 l40=>⟨p,l4,fl,m,rfl,jb,l40,m1,m6,λU l5 gU l50=>hC _ _ ⟨U,m,l5,rfl,gU.sq,m1,m6,jb,l50,jh n3 (jh n3 (jh n3 k3))⟩⟩⟩) λ_=>hC _ _ ⟨T,n,l3,rfl,hT,n1,n6,jb,l30,jh n3 k3⟩⟩⟩) ?_;clear kp l20 k3 hT n1 n6 T n;rintro _ h7 ⟨T,n,l2,rfl,hT,n1,n6,kp,l20,k3⟩;refine jj (λσ' h'=> ∃A L J,σ'= [some (.scr ns),b1,b2,some (.int c),some (.lst p),some (jr T),some (.lst A),some (.int ((J:Nat):Int)),b8,b9,b10,b11]/\h' A=some ((List.range L).map λi=>jr (jS n T i))/\A≠p/\Course n T L J/\h' p=some [.int l2,.int fl]/\0<=l2/\h' p3=some cs) (λC hC=>⟨_,rfl,T,n,20,rfl,hT,n1,n6,by decide,λA L J h' fA kA sb co hL=>⟨_,_,rfl,hC _ _ ⟨A,L,J,rfl,kA,jl kp fA,co,sb _ _ kp,l20,sb _ _ k3⟩⟩⟩) ?_;clear kp l20 k3;rintro _ h8 ⟨A,L,J,rfl,kA,nA,co,kp,l20,k3⟩;have hL:=XJ hT n1 n6 co.nd;have lt:=co.lt;have fl_:((List.range L).map λi=>jr (jS n T i)).length=L:=by rw [G0,P4]
 refine jj (λσ' h'=>σ'= [some (.scr ns),b1,b2,some (.int c),some (.lst p),some (jr T),some (.lst A),some (.int ((J:Nat):Int)),some (CO n T L J),b9,b10,b11]/\h' A=some ((List.range L).map λi=>jr (jS n T i))/\h' p=some [.int l2,.int fl]/\0<=l2/\h' p3=some cs) (λC hC=> ?_) ?_
 ·refine⟨_,rfl,_,rfl,_,kA,_,rfl,_,rfl,_,kA,(by show 3<=sizeLine;decide),hC _ _ ⟨?_,kA,kp,l20,k3⟩⟩;show [some (.scr ns),b1,b2,some (.int c),some (.lst p),some (jr T),some (.lst A),some (.int ((J:Nat):Int)),some (.tup [.int (((J:Nat):Int)+1),.int (((((List.range L).map λi=>jr (jS n T i)).length:Nat):Int)-((J:Nat):Int)),.tup ((List.range L).map λi=>jr (jS n T i))]),b9,b10,b11]=_;rw [fl_];rfl
 clear kA kp l20 k3;rintro _ h9 ⟨rfl,kA,kp,l20,k3⟩;refine jj (λσ' h'=> ∃W,σ'= [some (.scr ns),b1,b2,some (.int c),some (.lst p),some (jr T),some (.lst A),some (.int ((J:Nat):Int)),some (CO n T L J),some (.tup W),b10,b11]/\W.length<=852/\(∀d∈W,∃i,d=jr (jS n T i))/\h' p=some [.int l2,.int fl]/\0<=l2/\h' p3=some cs) (λC hC=> ?_) ?_
 ·have cl:(vB ((List.range L).map λi=>jr (jS n T i)) (some ((J:Nat):Int)) none).length<=426:=by have:=Gb (xs:=((List.range L).map λi=>jr (jS n T i))) (lo:=some ((J:Nat):Int)) (hi:=none);omega
  refine⟨_,rfl,_,rfl,_,rfl,_,rfl,_,kA,λq1 f1=>⟨_,_,jc kA f1,jb,(by rw [fl_];exact T5 (zr (by omega))),λq2 f2=>⟨_,jb,hC _ _ ⟨_,rfl,(by rw [P7];omega),λd hd=> ?_,jc (jc kp f1) f2,l20,jc (jc k3 f1) f2⟩⟩⟩⟩;have:d∈((List.range L).map λi=>jr (jS n T i)):=(D4.mp hd).elim id Ga;obtain⟨i,_,e⟩:=D6.mp this;exact⟨i,e.symm⟩
 clear kA kp l20 k3;rintro _ h10 ⟨W,rfl,wl,gW,kp,l20,k3⟩;have sq1: ∀g:HD,∀d,(∃i,d=jr (jS n T i))->GZ g 3 2341 d:=λg d hd=>by
  obtain⟨i,rfl⟩:=hd;exact(Rj (zL n T i) n6).tup.mono
 have rF: ∀g:HD,RZ g (.tup ((List.range L).map λi=>jr (jS n T i))):=λg=>GN.rz ⟨by rw [fl_];omega,λd hd=>sq1 g d (by obtain⟨i,_,e⟩:=D6.mp hd;exact⟨i,e.symm⟩)⟩
 have rW: ∀g:HD,RZ g (.tup W):=λg=>GN.rz ⟨by omega,λd hd=>sq1 g d (gW d hd)⟩
 refine jj (λσ' h'=> ∃X xs l2,σ'= [some (.scr ns),b1,b2,some (.int c),some (.lst p),some (jr T),some (.lst A),some (.int ((J:Nat):Int)),some (CO n T L J),some (.tup W),some (.lst X),b11]/\h' X=some xs/\xs.length=4/\(∀d∈xs,PZ (zd h' p) d)/\h' p=some [.int l2,.int fl]/\0<=l2/\h' p3=some cs) (λC hC=> ?_) ?_
 ·refine⟨_,rfl,_,rfl,_,rfl,_,rfl,.inl ⟨by decide,by decide⟩,_,rfl,(by show 3<=sizeLine;decide),_,rfl,_,rfl,_,rfl,_,rfl,_,rfl,_,rfl,_,rfl,(by show 3<=sizeLine;decide),_,rfl,p,l2,fl,rfl,kp,l20,λd1 l3 g1 o1 t1 f1 bt1 kp1 l30=>⟨(by show 4<=sizeLine;decide),λX eX=>hC _ _ ⟨X,_,l3,rfl,jb,rfl,λd hd=> ?_,jc kp1 eX,l30,jc (bt1 _ _ n3 k3) eX⟩⟩⟩;have a1: ∀g:HD,GZ g 4 2014983 (.int (((J:Nat):Int)+1)):=λg=>wR (by omega)
  have a2: ∀g:HD,GZ g 4 2014983 (.int (((L:Nat):Int)-((J:Nat):Int))):=λg=>wR (by omega)
  simp only [G4,P5,T4] at hd;rcases hd with e|e|e|e<;>subst e
  ·exact zb (a1 _) (a2 _) (rF _)
  ·exact zb (a1 _) (wR (by omega)) (rW _)
  ·exact zb (wR (by omega)) (a2 _) (rW _)
  ·exact⟨o1,(t1.tz).sub (zi ((But.refl p g1).new eX)),f1⟩
 clear kp l20 k3;rintro _ h11 ⟨X,xs,l2,rfl,kX,lX,gX,kp,l20,k3⟩;have nX:X≠p:=λz=>by subst z;rw [kp] at kX;injection kX with kX;rw [<-kX] at lX;cases lX
 refine jj (λσ' h'=> ∃X xs b11,σ'= [some (.scr ns),b1,b2,some (.int c),some (.lst p),some (jr T),some (.lst A),some (.int ((J:Nat):Int)),some (CO n T L J),some (.tup W),some (.lst X),b11]/\h' X=some xs/\xs.length=9/\(∀d∈xs,PZ (zd h' p) d)/\h' p3=some cs) (λC hC=> ?_) ?_
 ·refine⟨_,rfl,Lw 5 (λk ys h'=> ∃l2,ys.length=k/\(∀d∈ys,PZ (zd h' p) d)/\But p h11 h'/\h' p=some [.int l2,.int fl]/\0<=l2) (by decide) (λR r=>r) ⟨l2,rfl,(λd hd=>by cases hd),But.refl p h11,kp,l20⟩ (λk ys h' ⟨_,z,_⟩=>z) ?_ ?_⟩
  ·rintro k ys h' hk ⟨l3,yl,gy,bt,kp3,l30⟩;refine⟨_,rfl,_,rfl,p,l3,fl,((J:Nat):Int)+1,((L:Nat):Int)-((J:Nat):Int),(List.range L).map (jS n T),n,?_,kp3,l30,by omega,by omega,n1,n6,(λM hM=>by obtain⟨i,_,rfl⟩:=D6.mp hM;exact zL n T i),by rw [G0,P4];omega,by rw [G0,P4];omega,λd l4 h2 z bt2 kp4 l40=>⟨h2,Sub.refl _,by omega,l4,by rw [P7,yl];rfl,λx hx=> ?_,bt.trans bt2,kp4,l40⟩⟩
   ·rw [S5];rfl
   ·rcases D4.mp hx with w|w
    ·exact(gy x w).sub (zi bt2)
    ·rw [G8.mp w];exact z
  ·rintro ys h' ⟨l3,yl,gy,bt,kp3,l30⟩ q1 f1;refine⟨_,_,jc (bt _ _ nX kX) f1,jb,(by rw [lX,yl];show 4+5<=sizeLine;decide),λq2 f2=>hC _ _ ⟨q2,_,_,rfl,jb,(by rw [P7,lX,yl]),λd hd=> ?_,jc (jc (bt _ _ n3 k3) f1) f2⟩⟩;rcases D4.mp hd with w|w
   ·exact(gX d w).sub (zi ((bt.new f1).new f2))
   ·exact(gy d w).sub (zi (((But.refl p h').new f1).new f2))
 clear kp l20 k3 kX lX gX nX;rintro _ h12 ⟨X,xs,c11,rfl,kX,lX,gX,k3⟩;refine Ex (j:=λh=>h X) xs (λd=>d) (λ_=>true) (by omega) (by rw [List.map_id'];exact kX) (λR r=>⟨_,rfl,r⟩) (λd hd Q' q'=>⟨_,rfl,_,rfl,T,d,n,20,rfl,hT,n1,n6,by decide,(gX d hd).sub ME,q'⟩) ?_;rw [show (xs.all λ_=>true)=true from R5.mpr λ_ _=>rfl];exact⟨_,rfl,yS ⟨_,Sub.refl _,by omega,_,_,_,_,_,_,_,_,_,_,_,rfl,k3⟩⟩
end
theorem Oq {l:PySem.W.OpenLaw}{w:World}{K:PySem.W.Frag}{h:Heap}{mg:Str->Option Value}{fa:Addr}(X:K.In h)(G:h.Ns mainGlobals mg)(hfa:mg "law" =some (.ref fa))
 {f0:Addr}{e0:FuncData}(d0:DefIn K "is_whole" JZ f0 e0)
 {f1:Addr}{e1:FuncData}(d1:DefIn K "is_from" Wp f1 e1)
 {f2:Addr}{e2:FuncData}(d2:DefIn K "is_table_row" ya f2 e2)
 {f3:Addr}{e3:FuncData}(d3:DefIn K "has_table_form" wa f3 e3)
 {f4:Addr}{e4:FuncData}(d4:DefIn K "want_table" vf f4 e4)
 {f5:Addr}{e5:FuncData}(d5:DefIn K "multiplied" vg f5 e5)
 {f6:Addr}{e6:FuncData}(d6:DefIn K "marks" XM f6 e6)
 {f7:Addr}{e7:FuncData}(d7:DefIn K "marks_after" yA f7 e7)
 {f8:Addr}{e8:FuncData}(d8:DefIn K "are_unlike_tables" zA f8 e8)
 {f9:Addr}{e9:FuncData}(d9:DefIn K "follow" YW f9 e9)
 {f10:Addr}{e10:FuncData}(d10:DefIn K "calendar_holds" wb f10 e10)
 {f11:Addr}{e11:FuncData}(d11:DefIn K "_law_cell" Ja f11 e11)
 {f12:Addr}{e12:FuncData}(d12:DefIn K "_law_pen" Za f12 e12)
 {f13:Addr}{e13:FuncData}(d13:DefIn K "_law_draw" Jb f13 e13)
 {f14:Addr}{e14:FuncData}(d14:DefIn K "_law_whole" vh f14 e14)
 {f15:Addr}{e15:FuncData}(d15:DefIn K "_law_odd" Zb f15 e15)
 {f16:Addr}{e16:FuncData}(d16:DefIn K "_law_size" Jc f16 e16)
 {f17:Addr}{e17:FuncData}(d17:DefIn K "_law_table" vj f17 e17)
 {f18:Addr}{e18:FuncData}(d18:DefIn K "_law_order" vk f18 e18)
 {f19:Addr}{e19:FuncData}(d19:DefIn K "_law_times" vn f19 e19)
 {f20:Addr}{e20:FuncData}(d20:DefIn K "_law_marked" yB f20 e20)
 {f21:Addr}{e21:FuncData}(d21:DefIn K "_law_is_table" wK f21 e21)
 {f22:Addr}{e22:FuncData}(d22:DefIn K "_law_bent_table" zM f22 e22)
 {f23:Addr}{e23:FuncData}(d23:DefIn K "_law_joined_table" zB f23 e23)
 {f24:Addr}{e24:FuncData}(d24:DefIn K "_law_course" yC f24 e24)
 {f25:Addr}{e25:FuncData}(d25:DefIn K "_law_due" Zc f25 e25)
 {f26:Addr}{e26:FuncData}(d26:DefIn K "_law_bent" Jd f26 e26)
 {f27:Addr}{e27:FuncData}(d27:DefIn K "_law_right" vo f27 e27)
 {f28:Addr}{e28:FuncData}(d28:DefIn K "law" GE f28 e28)
 {tk0:Tok}(v0:PySem.W.nsIn K mainGlobals "MOST_ROWS" =some (some (.int 6 tk0)))
 (z:zsB K=true)
 : ∃fd:FuncData,(∀ (s:Shared) (v:Value),BindsTo s fd ⟨[v],[]⟩ [("_law_script",v)])/\ ∀base:Heap,K.In base->base.Ns mainGlobals mg->Bm mg base->FnOk l.prog w K mg base CX0 10 fa fd ["_law_script"] (LSp K PK):=by
 have e:=hfa.symm.trans (d28.nm X G);cases e;have Ji: ∃tk,mg "MOST_ROWS" =some (.int 6 tk):=⟨_,PySem.W.mg_of X G v0⟩;have Z:=AO X G z;obtain⟨_,_,kV,dc,pm,an,cd,ct,_,rfl,_⟩:=d28.fn.ex;refine⟨PySem.W.fnOf "law" "law" (yU GE) (wC GE) (jk GE) .none kV dc pm an cd ct,λs v=> .of_eq rfl,λbase _ _ B=> ?_⟩;have Yr:=λn=>d0.cal l w base X G (XN (n:=n+0) Z d0.fn)
 have Rn:=λn=>d1.cal l w base X G (GF (n:=n+1) Z d1.fn (Yr (n+0)))
 have WR:=λn=>d2.cal l w base X G (Wq (n:=n+1) Z d2.fn (Yr (n+0)))
 have yR:=λn=>d3.cal l w base X G (Zd (n:=n+2) Z d3.fn (WR (n+0)) Ji)
 have Zy:=λn=>d4.cal l w base X G (Va (n:=n+3) Z d4.fn (yR (n+0)))
 have UP:=λn=>d5.cal l w base X G (Vb (n:=n+0) Z d5.fn)
 have Ro:=λn=>d6.cal l w base X G (MV (n:=n+4) Z d6.fn (Zy (n+0)))
 have JF:=λn=>d7.cal l w base X G (WL (n:=n+5) Z d7.fn (Ro (n+0)) (UP (n+4)))
 have Jl:=λn=>d8.cal l w base X G (vH (n:=n+3) Z d8.fn (yR (n+0)))
 have Na:=λn=>d9.cal l w base X G (Rg (n:=n+6) Z d9.fn (JF (n+0)))
 have ZH:=λn=>d10.cal l w base X G (Ze (n:=n+7) Z d10.fn (Zy (n+3)) (Rn (n+5)) (Jl (n+3)) (Na (n+0)) (Ro (n+2)) (JF (n+1)))
 have Qf:=λn=>d11.cal l w base X G (Uy (n:=n+0) Z d11.fn)
 have GP:=λn=>d12.cal l w base X G (XQ (n:=n+0) Z d12.fn)
 have zl:=λn=>d13.cal l w base X G (Uz (n:=n+0) Z d13.fn)
 have Zx:=λn=>d14.cal l w base X G (Ve (n:=n+0) Z d14.fn)
 have GO:=λn=>d15.cal l w base X G (XR (n:=n+1) Z d15.fn (zl (n+0)))
 have Qg:=λn=>d16.cal l w base X G (UA (n:=n+1) Z d16.fn (zl (n+0)))
 have UO:=λn=>d17.cal l w base X G (Vf (n:=n+1) Z d17.fn (zl (n+0)))
 have UM:=λn=>d18.cal l w base X G (Vg (n:=n+1) Z d18.fn (zl (n+0)))
 have Zw:=λn=>d19.cal l w base X G (Vh (n:=n+0) Z d19.fn)
 have JD:=λn=>d20.cal l w base X G (WM (n:=n+0) Z d20.fn)
 have Wy:=λn=>d21.cal l w base X G (ZD (n:=n+1) Z d21.fn (Zx (n+0)))
 have Zk:=λn=>d22.cal l w base X G (Jz (n:=n+1) Z d22.fn (zl (n+0)))
 have Jk:=λn=>d23.cal l w base X G (vI (n:=n+2) Z d23.fn (UM (n+0)) (zl (n+1)))
 have Vp:=λn=>d24.cal l w base X G (WN (n:=n+1) Z d24.fn (JD (n+0)) (Zw (n+0)))
 have GM:=λn=>d25.cal l w base X G (XS (n:=n+2) Z d25.fn (Zx (n+1)) (JD (n+1)) (Wy (n+0)) (Zw (n+1)))
 have Qe:=λn=>d26.cal l w base X G (UB (n:=n+2) Z d26.fn (zl (n+1)) (Zk (n+0)))
 have UN:=λn=>d27.cal l w base X G (Vi (n:=n+8) Z d27.fn (GM (n+5)) (ZH (n+0)))
 exact Op (n:=9) Z d28.fn (UN 0) (Qf 8) (GP 8) (UO 7) (Qg 7) (zl 8) (Jk 6) (Vp 7) (GO 7) (Qe 6)
end My
namespace PySem.W.Fast
def tw6087493994069225546:=()
def tw4049311897030570621:=()
def tw17758132969170012853:=()
def tw851048681724428572:=()
def tw5818447669778008063:=()
def tw10493625643580686551:=()
def tw605563820775044129:=()
def tw2680390585060214240:=()
def tw225997338724415129:=()
def tw8481875488664328785:=()
def tw12227894606450070626:=()
def tw5211992879509214209:=()
def tw5591240892434914086:=()
def tw5568151394829897880:=()
def tw11043919265830367841:=()
def tw17819858273360616404:=()
def tw13417710614413026129:=()
def tw15025936548003162496:=()
def tw6234987344647466214:=()
def tw2449508011565128008:=()
def tw14878778315628520886:=()
def tw121108029086607066:=()
def tw13190236016583310204:=()
def tw18337829663451638659:=()
def tw14834907827272823645:=()
def tw12019895764422058244:=()
def tw6031087434320315797:=()
def tw17893512603279737166:=()
def tw10538096319209986203:=()
def tw9438481156258246523:=()
def tw3066533070155563214:=()
def tw1269798627773906553:=()
def tw13142988402229435582:=()
def tw12226374423404210067:=()
def tw4142495748292901280:=()
def tw655728375029466894:=()
def tw9569677228788535692:=()
def tw9308697622727666052:=()
def tw13588343098231730411:=()
def tw16963219699688434199:=()
def tw15722826867721385667:=()
def tw10848616188155717009:=()
def tw12244623402782258251:=()
def tw10458045090686967046:=()
def tw14381186953108312327:=()
def tw7839323210865320053:=()
def tw3285749886630905522:=()
def tw13737048444459148205:=()
def tw8900027220363983465:=()
def tw4913179367797771949:=()
def tw2586749062332082637:=()
def tw5352038784112014230:=()
def tw3619328500351801040:=()
def tw13092545687156458215:=()
def tw9995529488261664638:=()
def tw6393240298319801521:=()
def tw14091776627940450833:=()
def tw5499620399042854343:=()
def tw11636472428118149921:=()
def tw5708159399779557699:=()
def tw491684239091031703:=()
def tw17401188127536376739:=()
def tw10524557880179105034:=()
def tw4901348723546023244:=()
def tw285382293588527961:=()
def tw7233954646074670672:=()
def tw2550118374470531404:=()
def tw16355734730277138889:=()
def tw17438024545959085815:=()
def tw11874332746433655158:=()
def tw9846541966198281885:=()
def tw768319940165647639:=()
def tw7928603842002186558:=()
def tw10442035214871557963:=()
def tw9735588330188655228:=()
def tw11861412743194013966:=()
def tw12743342489398525360:=()
def tw7223520844515807488:=()
def tw17037869320242354726:=()
def tw14518310309246264569:=()
def tw2087537442049870765:=()
def tw9335538668387548647:=()
def tw15728216975786909716:=()
def tw17262940322422112120:=()
def tw8753250097973578314:=()
def tw12210124780211780989:=()
def tw15314500032142128399:=()
def tw10028315355850663979:=()
def tw17860265992011392080:=()
def tw5299463943624665135:=()
def tw2662940851714659752:=()
def tw5851152405518172371:=()
def tw11110718880447023890:=()
end PySem.W.Fast
open PySem PySem.W PyProof.Rows
set_option maxRecDepth 100000 in
set_option maxHeartbeats 0 in
theorem PySem.Challenge.cw_firstpowers_k46_calendars_by_anybody_holds : PySem.Challenge.rw_firstpowers_k46_calendars_by_anybody.Holds := by
  w_on; o_law; k_head; (case hw => w_witness2)
  k_fill
  refine L2.Mk (l := PySem.Challenge.rw_firstpowers_k46_calendars_by_anybody) (k := 10) (x := "_law_script") rfl rfl ⟨rfl, by decide, by decide, rfl⟩ (fun w h Y => PySem.W.kIn_of Y) ?B ?F
  case B => intro w; kernel_rfl
  case F =>
    intro w mg fa h KX G hmg
    refine' My.Oq KX G hmg ?d0 ?d1 ?d2 ?d3 ?d4 ?d5 ?d6 ?d7 ?d8 ?d9 ?d10 ?d11 ?d12 ?d13 ?d14 ?d15 ?d16 ?d17 ?d18 ?d19 ?d20 ?d21 ?d22 ?d23 ?d24 ?d25 ?d26 ?d27 ?d28 ?v0 ?z
    case d0 | d1 | d2 | d3 | d4 | d5 | d6 | d7 | d8 | d9 | d10 | d11 | d12 | d13 | d14 | d15 | d16 | d17 | d18 | d19 | d20 | d21 | d22 | d23 | d24 | d25 | d26 | d27 | d28 => refine' L2.Oh ?a ?l ?c ?k; (case a => k_is); (case l => k_is); (case c => k_is); (case k => k_is)
    case v0 => k_is
    case z => kernel_rfl
