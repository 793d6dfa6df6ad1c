import PyProof.Rows.All
import Wide.All
import OpenK.AllK
import Wide.FinOn
import Lean
import PyProof.EqAt
import PyProof.EqKinds
import PyProof.TupleCall
import PyProof.Rows.TopTwo
import KE.KIsAll
import PyProof.ExcAttrAll.ValueError
import KE.KTryMore
import KE.KRevIter
import PyProof.SetRoads
import PySem.Challenge.RW_firstpowers_k28_turns_by_anybody
set_option Elab.async false
set_option linter.all false
set_option maxRecDepth 100000
set_option maxHeartbeats 8000000
abbrev G0:= @List.length_map
abbrev G1:= @List.mem_append_right
abbrev G2:= @List.getElem?_eq_getElem
abbrev G3:= @PySem.Heap.get?_push_of_some
abbrev G4:= @Nat.le_refl
abbrev G5:= @List.mem_singleton
abbrev G6:= @Bool.false_ne_true
abbrev G7:= @List.size_toArray
abbrev G8:= @Nat.lt_of_lt_of_le
abbrev G9:= @List.getElem?_eq_some_iff
abbrev P0:= @List.mem_cons
abbrev P1:= @List.getElem?_map
abbrev P2:= @decide_eq_false
abbrev P3:= @PySem.Heap.lt_size
abbrev P4:= @List.mem_cons_self
abbrev P5:= @List.mem_cons_of_mem
abbrev P6:= @PySem.wpAny_pure
abbrev P7:= @decide_eq_true
abbrev P8:= @List.length_append
abbrev P9:= @List.mem_append
abbrev D0:= @List.length_cons
abbrev D1:= @List.map_cons
abbrev D2:= @List.not_mem_nil
abbrev D3:= @Nat.le_trans
abbrev D4:= @PySem.Heap.get?_push_size
abbrev D5:= @Nat.ne_of_lt
abbrev D6:= @List.mem_append_left
abbrev D7:= @List.mem_of_getElem?
abbrev D8:= @PySem.wpAny_mono
abbrev D9:= @List.length_nil
abbrev R0:= @List.getD_eq_getElem?_getD
abbrev R1:= @List.all_eq_true
abbrev R3:= @List.mem_map
abbrev R4:= @Bool.and_eq_true
abbrev R5:= @PySem.PassesOwn.never
abbrev R6:= @List.getElem?_cons_zero
abbrev R7:= @Option.some.inj
abbrev R8:= @PySem.boot_len
abbrev R9:= @Nat.le_of_lt
abbrev S0:= @Option.map_eq_some_iff
abbrev S1:= @List.getElem?_set_ne
abbrev S2:= @List.take_of_length_le
abbrev S3:= @List.mem_range
abbrev S4:= @PySem.W.kia_one
abbrev S5:= @PySem.wpAny_truthy_bool
abbrev S6:= @List.map_map
abbrev S7:= @List.nil_append
abbrev S8:= @List.lookup_cons
abbrev S9:= @List.cons_append
abbrev T0:= @List.getElem_mem
abbrev T1:= @PyProof.Rows.slot_tuple_getitem
abbrev T2:= @List.replicate_succ
abbrev T3:= @Option.some.injEq
abbrev T4:= @Nat.lt_irrefl
abbrev T5:= @PyProof.Rows.boot_all
abbrev T6:= @List.map_nil
abbrev T7:= @List.length_range
abbrev T8:= @PyProof.Rows.callWith_type1
abbrev T9:= @List.find?_cons
abbrev M0:= @List.map_append
abbrev M1:= @exists_eq_left'
abbrev M3:= @or_false
abbrev M4:= @PySem.F.slot_tuple_iterator_next
abbrev M5:= @List.length_take
abbrev M6:= @PySem.wpAny_call_entry
abbrev M7:= @Nat.pow_le_pow_right
abbrev M8:= @PySem.wpAny_newObj_type
abbrev M9:= @Option.isSome_iff_exists
abbrev N0:= @List.flatten_cons
abbrev N1:= @List.append_assoc
abbrev N2:= @List.take_add_one
abbrev N3:= @Nat.lt_trans
abbrev N4:= @beq_eq_false_iff_ne
abbrev N5:= @PySem.mem_of_lookup
abbrev N6:= @PySem.wpAny_callSpecial?_slot
abbrev N7:= @Nat.mul_le_mul_left
abbrev N8:= @List.getElem?_cons_succ
abbrev N9:= @Bool.false_and
abbrev B0:= @Int.emod_lt_of_pos
abbrev B1:= @Nat.ne_of_gt
abbrev B2:= @List.getElem?_eq_none
abbrev B3:= @Int.emod_nonneg
abbrev B4:= @PySem.wpAny_holding
abbrev B5:= @of_decide_eq_true
abbrev B6:= @List.getElem?_append_left
abbrev B7:= @Nat.lt_succ_self
abbrev B8:= @Array.length_toList
abbrev B9:= @Nat.zero_le
abbrev C0:= @PySem.F.args_tuple_add_2
abbrev C1:= @List.all_map
abbrev C3:= @PySem.AutoSeq1.wpAny_loadPart'
abbrev C4:= @PySem.wpAny_standAt
abbrev C5:= @List.mem_filterMap
abbrev C6:= @PySem.wpAny_passesOwn
abbrev C7:= @List.nodup_cons
abbrev C8:= @PySem.F.entry_tuple_add
abbrev C9:= @Nat.lt_of_le_of_lt
abbrev F0:= @PySem.tupleKind_room_in1
abbrev F1:= @List.length_eq_zero_iff
abbrev F2:= @decide_eq_true_iff
abbrev F3:= @PySem.F.slot_tuple_add
abbrev F4:= @List.getElem?_set
abbrev F5:= @Nat.lt_of_succ_le
abbrev F6:= @Nat.not_lt
abbrev F7:= @decide_eq_true_eq
abbrev F8:= @List.length_singleton
abbrev F9:= @PySem.F.slot_dict_get
abbrev H0:= @List.length_filter_le
abbrev L0:= @List.length_drop
abbrev L1:= @PySem.F.args_tuple_iterator_next_1
abbrev L3:= @Bool.eq_iff_iff
abbrev L4:= @List.append_nil
abbrev L5:= @PySem.F.slot_int_rmul
abbrev L6:= @List.getElem?_range
abbrev L7:= @Bool.or_eq_true
abbrev L8:= @PySem.F.entry_tuple_iterator_next
abbrev L9:= @List.map_congr_left
abbrev O0:= @PySem.Calls.Name_function_global
abbrev O1:= @Int.fdiv_eq_ediv_of_nonneg
abbrev O2:= @Int.fmod_eq_emod_of_nonneg
abbrev O3:= @List.getElem?_append_right
abbrev O4:= @Array.isEmpty_eq_false_iff
abbrev O5:= @PyProof.Rows.assignInOrder_cons
abbrev O6:= @PySem.Calls.spliced_cons
abbrev O7:= @PySem.wpAny_Call_Name_kw
abbrev O8:= @PySem.wpAny_pyIter_tuple
abbrev O9:= @PySem.wpAny_binaryOp_repeat_ref
abbrev A0:= @PySem.wpAny_pyIter_list
abbrev A1:= @Option.isSome_map
abbrev A2:= @Nat.lt_succ_of_lt
abbrev A3:= @List.flatMap_cons
abbrev A4:= @List.getElem?_replicate
abbrev A5:= @PySem.F.args_dict_get_3
abbrev A6:= @PySem.F.plainAttrs_list
abbrev A7:= @Nat.log2_lt
abbrev A8:= @Bool.true_and
abbrev A9:= @PySem.noFill_tuple_add
abbrev E1:= @List.getElem?_set_self
abbrev E2:= @PySem.W.cellsFrom_some
abbrev E3:= @PySem.F.entry_dict_get
abbrev E4:= @List.mem_filter
abbrev E5:= @PySem.wpAny_execs_nil
abbrev E6:= @List.of_mem_zip
abbrev E7:= @Nat.le_of_eq
abbrev E8:= @List.take_append_drop
abbrev E9:= @PySem.ofString_length
abbrev I0:= @PySem.typeIs_int
abbrev J0:= @Bool.or_eq_false_iff
abbrev J1:= @PySem.Heap.size_push
abbrev J3:= @List.flatMap_append
abbrev J4:= @Function.comp_apply
abbrev J5:= @List.any_cons
abbrev J6:= @PySem.wpAny_rule
abbrev J7:= @PySem.call_meets
abbrev J8:= @List.map_id'
abbrev J9:= @Nat.lt_or_ge
abbrev K0:= @if_false
abbrev K2:= @Nat.le_succ
namespace L2
open PySem PySem.Spec PyProof.Rows
abbrev Key:=Sum Int Str
def Yd:Key->Value->Bool
 | .inl k,v=>Value.isInt k v
 | .inr x,v=>Value.isStrOf x v
def Cg (w:World):Key->Int
 | .inl k=>hashInt k
 | .inr x=>hashStr w x
theorem jG: ∀ {k:Key} {v:Value},Yd k v=true->(∃i t,k=Sum.inl i/\v=Value.int i t)\/(∃x t,k=Sum.inr x/\v=Value.str x t)
 | .inl i,v,h=>by
  obtain⟨t,e⟩:=Value.isInt_shape (k:=i) (v:=v) h;exact .inl ⟨i,t,rfl,e⟩
 | .inr x,v,h=>by
  obtain⟨t,e⟩:=Value.isStrOf_shape (x:=x) (v:=v) h;exact .inr ⟨x,t,rfl,e⟩
theorem Up (i:Int)(t:Tok):Yd (.inl i) (.int i t)=true:=by simp [Yd,Value.isInt]
theorem Uq (x:Str)(t:Tok):Yd (.inr x) (.str x t)=true:=by simp [Yd,Value.isStrOf]
theorem DN (a b:Int):decide ((Sum.inl a:Key)=Sum.inl b)=(a==b):=by
 by_cases e:a=b
 ·subst e;simp
 ·have h: ¬ (Sum.inl a:Key)=Sum.inl b:=λq=>e (Sum.inl.inj q)
  rw [P2 h];exact(N4.mpr e).symm
theorem DO (a b:Str):decide ((Sum.inr a:Key)=Sum.inr b)=decide (a=b):=by
 by_cases e:a=b
 ·subst e;simp
 ·have h: ¬ (Sum.inr a:Key)=Sum.inr b:=λq=>e (Sum.inr.inj q)
  rw [P2 h,P2 e]
theorem DP (a:Int)(b:Str):decide ((Sum.inl a:Key)=Sum.inr b)=false:=P2 (λq=>nomatch q)
theorem DQ (a:Str)(b:Int):decide ((Sum.inr a:Key)=Sum.inl b)=false:=P2 (λq=>nomatch q)
def jL (prog:Program)(w:World):PySem.KeyKind prog w Key where
 is:=Yd
 hash:=Cg w
 inj:=λv a b ha hb=>by
  rcases jG ha with ⟨i,t,rfl,rfl⟩|⟨x,t,rfl,rfl⟩
  ·rcases jG hb with ⟨j,u,rfl,e⟩|⟨y,u,rfl,e⟩
   ·injection e with e1 _;rw [e1]
   ·exact nomatch e
  ·rcases jG hb with ⟨j,u,rfl,e⟩|⟨y,u,rfl,e⟩
   ·exact nomatch e
   ·injection e with e1 _;rw [e1]
 byValue:=λk v h=>by
  rcases jG h with ⟨i,t,rfl,rfl⟩|⟨x,t,rfl,rfl⟩<;>rfl
 pyHash:=λhv h=>by
  rcases jG hv with ⟨i,t,rfl,rfl⟩|⟨x,t,rfl,rfl⟩
  ·exact wpAny_pyHash_int h
  ·exact wpAny_pyHash_str h
 eqBool:=λhu hv h=>by
  rcases jG hu with ⟨i,t,rfl,rfl⟩|⟨x,t,rfl,rfl⟩
  ·rcases jG hv with ⟨j,u,rfl,rfl⟩|⟨y,u,rfl,rfl⟩
   ·rw [DN] at h;exact wpAny_eqBool_int h
   ·rw [DP] at h;exact SeqAt.EqAt.int_str i t y u _ _ _ _ h
  ·rcases jG hv with ⟨j,u,rfl,rfl⟩|⟨y,u,rfl,rfl⟩
   ·rw [DQ] at h;exact SeqAt.EqAt.str_int x t j u _ _ _ _ h
   ·rw [DO] at h;exact wpAny_eqBool_str h
 «strs» :=λk x t v h=>by
  rcases jG h with ⟨i,u,rfl,e⟩|⟨y,u,rfl,e⟩
  ·exact nomatch e
  ·injection e with e1 _
   subst e1;cases v<;>rfl
theorem Ye (prog:Program)(w:World)(i:Int)(t:Tok):(jL prog w).is (.inl i) (.int i t)=true:=Up i t
theorem Yf (prog:Program)(w:World)(x:Str)(t:Tok):(jL prog w).is (.inr x) (.str x t)=true:=Uq x t
inductive V where
 |non|bl (b:Bool)|int (i:Int)|str (x:Str)|byt (b:Array UInt8)|flt (b:UInt64)|ref (a:Addr)|ty (n:String)
 deriving DecidableEq
def RelV:V->Value->Prop
 | .non,u=>u=Value.none
 | .bl b,u=>u=Value.bool b
 | .int i,u=> ∃t,u=Value.int i t
 | .str x,u=> ∃t,u=Value.str x t
 | .byt b,u=> ∃t,u=Value.bytes b t
 | .flt b,u=> ∃t,u=Value.float b t
 | .ref a,u=>u=Value.ref a
 | .ty n,u=>u=Value.type n
abbrev Vals:List V->List Value->Prop:=Paired RelV
theorem Vals.length {xs:List V}{us:List Value}(r:Vals xs us):xs.length=us.length:=Paired.length r
theorem Vals.get: ∀ {xs:List V} {us:List Value} {i:Nat} {x:V},Vals xs us->xs[i]? =some x-> ∃u,us[i]? =some u/\RelV x u
 |_,_,_,_,.nil,e=>by simp at e
 |_,_,0,_,.cons r _,e=>by simp at e;subst e;exact⟨_,rfl,r⟩
 |_,_,i+1,x,.cons _ t,e=>by
  obtain⟨u,h1,h2⟩:=Vals.get (i:=i) (x:=x) t (by simpa using e);exact⟨u,by simpa using h1,h2⟩
variable {u:Value}
theorem Vals.set {x:V}(r:RelV x u): ∀ {xs:List V} {us:List Value} (i:Nat),Vals xs us->Vals (xs.set i x) (us.set i u)
 |_,_,_,.nil=> .nil
 |_,_,0,.cons _ t=> .cons r t
 |_,_,i+1,.cons q t=> .cons q (Vals.set r i t)
theorem Vals.append: ∀ {xs ys:List V} {us ws:List Value},Vals xs us->Vals ys ws->Vals (xs++ys) (us++ws)
 |_,_,_,_,.nil,s=>s
 |_,_,_,_,.cons r t,s=> .cons r (Vals.append t s)
theorem Vals.take: ∀ {xs:List V} {us:List Value} (n:Nat),Vals xs us->Vals (xs.take n) (us.take n)
 |_,_,0,_=> .nil
 |_,_,_+1,.nil=> .nil
 |_,_,n+1,.cons r t=> .cons r (Vals.take n t)
theorem Vals.drop: ∀ {xs:List V} {us:List Value} (n:Nat),Vals xs us->Vals (xs.drop n) (us.drop n)
 |_,_,0,r=>r
 |_,_,_+1,.nil=> .nil
 |_,_,n+1,.cons _ t=>Vals.drop n t
def RelO:Option V->Option Value->Prop
 |some v,some u=>RelV v u
 |none,none=>True
 |_,_=>False
def KV {κ:Type}:List (κ×V)->List (κ×Value)->Prop:=Paired λ(p:κ×V) (q:κ×Value)=>p.1=q.1/\RelV p.2 q.2
def kV:Key->V
 | .inl i=> .int i
 | .inr x=> .str x
inductive HO where
 /-- a list -/
 |lst (xs:List V)
 /-- a tuple (never changes) -/
 |tup (xs:List V)
 /-- a dict whose keys are ints and texts;one whose keys are tuples of ints and texts (the empty one is both) -/
 |dK (kvs:List (Key×V))|dT (kvs:List (List Key×V))
 /-- a set of ints: its members,its size -/
 |set (S:Int->Bool) (n:Nat)
 /-- an instance of the class at C,its dict at dx,its attributes -/
 |ins (C dx:Addr) (fs:List (Str×V))
 /-- the dict of the instance at x -/
 |own (x:Addr)
 /-- the dict of an exception -/
 |xd (fs:List (Str×V))
 /-- a bound method,f of x -/
 |met (f x:Addr)
 /-- a range object lo,lo+1,.. below hi -/
 |rng (lo hi:Int)
 /-- a thing that is known to the object (the script;a dict while a loop walks it):read,never written while it is so -/
 |frz (o:Obj) (u:HO)
 /-- a code object's table -/
 |tbl (ps:Array Value)
 /-- any other thing,by what is true of its one object (a def of one's own: SetO a S n:=HO.ext λh=> ..) -/
 |ext (φ:Heap->Prop)
abbrev Hp:=Addr->Option HO
def upd (H:Hp)(a:Addr)(o:HO):Hp:=λb=>if b=a then some o else H b
variable {H:Hp}{a:Addr}{o:HO}
theorem ju:upd H a o a=some o:=by unfold upd;rw [if_pos rfl]
variable {b:Addr}
theorem jq (h:b≠a):upd H a o b=H b:=by unfold upd;rw [if_neg h]
theorem Yg {u:HO}(h:H a=some o)(h':H b=some u)(d:o≠u):a≠b:=by
 intro e;subst e;rw [h] at h';exact d (R7 h')
theorem jm (h:H a=some o)(h':H b=none):a≠b:=by
 intro e;subst e;rw [h] at h';cases h'
def IsTupN (h:Heap)(a:Addr)(items:Array Value):Prop:= ∃o,h.get? a=some o/\o.cls= .type "tuple" /\o.dict=none/\ ∃n,o.data= .seq items n
theorem IsTupN.tup {h:Heap}{a:Addr}{items:Array Value}(x:IsTupN h a items):IsTup h a items:=let ⟨o,e,c,_,n,d⟩:=x;⟨o,e,c,n,d⟩
theorem IsTupN.new (h:Heap)(items:Array Value):IsTupN (h.push {cls:= .type "tuple",data:= .seq items}) h.objs.size items:=⟨_,D4 _ rfl,rfl,rfl,_,rfl⟩
section
variable (P:Program)(w:World)
def ObjOk (H:Hp)(h:Heap)(a:Addr):HO->Prop
 | .lst xs=>xs.length<=sizeLine/\ ∃ (its:List Value) (n:Nat),Vals xs its/\h.get? a=some {cls:= .type "list",data:= .seq its.toArray n}
 | .tup xs=>xs.length<=sizeLine/\ ∃its:List Value,Vals xs its/\IsTupN h a its.toArray
 | .dK kvs=>kvs.length<=sizeLine/\(a==sysModules)=false/\ ∃vs,KV kvs vs/\h.DictOf (jL P w) a vs
 | .dT kvs=>kvs.length<=sizeLine/\(a==sysModules)=false/\ ∃xs:List (List Key×Addr×Value),
  Paired (λ(p:List Key×V) (q:List Key×Addr×Value)=>p.1=q.1/\H q.2.1=some (.tup (p.1.map kV))/\RelV p.2 q.2.2) kvs xs/\
  ∃o es ep,h.get? a=some o/\o.ExactDict/\o.data= .dict es ep/\es.toList=xs.map (entryOfKey (tupleKind (jL P w)))/\(xs.map (·.1)).Nodup
 | .set S n=>h.SetOf (intKind P w) a S n
 | .ins C dx fs=>H dx=some (.own a)/\fs.length<=1000/\dx≠a/\h.get? a=some (PySem.W.instObj C dx)/\
  ∃mA,h.Ns1 dx mA/\(∀f,RelO (fs.lookup f) (mA f))/\PySem.Within mA (fs.map (·.1))
 | .own _=> ∃o,h.get? a=some o
 | .xd fs=> ∃mA,h.Ns1 a mA/\ ∀f,RelO (fs.lookup f) (mA f)
 | .rng lo hi=> ∃t u v,h.get? a=some {cls:= .type "range",data:= .fields #[.int lo t,.int hi u,.int 1 v]}
 | .frz o u=>h.get? a=some o/\ObjOk H h a u
 | .tbl ps=>h.get? a=some {cls:= .none,data:= .fields ps}
 | .met f x=>h.get? a=some (PySem.W.methodObj (.ref f) (.ref x))
 | .ext φ=>φ h/\(∃o,h.get? a=some o)/\ ∀h1 h2:Heap,φ h1->(∀o,h1.get? a=some o->h2.get? a=some o)->φ h2
def HOk (H:Hp)(h:Heap):Prop:= ∀a o,H a=some o->ObjOk P w H h a o
end
section
variable {P:Program}{w:World}{H H':Hp}{h h':Heap}{a:Addr}{o:HO}
theorem ObjOk.lt (x:ObjOk P w H h a o):a<h.objs.size:=by
 cases o with
 |lst xs=>obtain⟨_,_,_,_,e⟩:=x;exact P3 e
 |tup xs=>obtain⟨_,_,_,p⟩:=x;exact p.tup.lt
 |dK kvs=>obtain⟨_,_,_,_,o,_,_,e,_⟩:=x;exact P3 e
 |dT kvs=>obtain⟨_,_,_,_,o,_,_,e,_⟩:=x;exact P3 e
 |set S n=>obtain⟨o,_,_,_,e,_⟩:=x;exact P3 e
 |ins C dx fs=>obtain⟨_,_,_,e,_⟩:=x;exact P3 e
 |own y=>obtain⟨_,e⟩:=x;exact P3 e
 |xd fs=>obtain⟨_,⟨_,_,_,e,_⟩,_⟩:=x;exact P3 e
 |rng lo hi=>obtain⟨_,_,_,e⟩:=x;exact P3 e
 |frz ob u=>obtain⟨e,_⟩:=x;exact P3 e
 |tbl ps=>exact P3 (show h.get? a=some _ from x)
 |met f y=>exact P3 (show h.get? a=some _ from x)
 |ext φ=>obtain⟨_,⟨_,e⟩,_⟩:=x;exact P3 e
theorem Paired.mapP {α β:Type}{F G:α->β->Prop}: ∀ {l₁:List α} {l₂:List β},Paired F l₁ l₂->(∀a b,F a b->G a b)->Paired G l₁ l₂
 |_,_,.nil,_=> .nil
 |_,_,.cons r t,f=> .cons (f _ _ r) (Paired.mapP t f)
theorem ObjOk.stay (x:ObjOk P w H h a o)(k: ∀b u,(b=a\/H b=some (.own a))->h.get? b=some u->h'.get? b=some u)
 (ho: ∀b,H b=some (.own a)->H' b=some (.own a))(ht: ∀b xs,H b=some (.tup xs)->H' b=some (.tup xs)):ObjOk P w H' h' a o:=by
 induction o with
 |lst xs=>obtain⟨z,its,n,r,e⟩:=x;exact⟨z,its,n,r,k _ _ (.inl rfl) e⟩
 |tup xs=>obtain⟨z,its,r,ob,e,c⟩:=x;exact⟨z,its,r,ob,k _ _ (.inl rfl) e,c⟩
 |dK kvs=>obtain⟨z,y,vs,r,ob,es,ep,e,c⟩:=x;exact⟨z,y,vs,r,ob,es,ep,k _ _ (.inl rfl) e,c⟩
 |dT kvs=>
  obtain⟨z,y,xs,r,ob,es,ep,e,c⟩:=x;exact⟨z,y,xs,Paired.mapP r λp q z=>⟨z.1,ht _ _ z.2.1,z.2.2⟩,ob,es,ep,k _ _ (.inl rfl) e,c⟩
 |set S n=>obtain⟨ob,es,ep,t,e,c⟩:=x;exact⟨ob,es,ep,t,k _ _ (.inl rfl) e,c⟩
 |ins C dx fs=>
  obtain⟨d,z,ne,e,mA,⟨od,es,ep,e2,c⟩,r⟩:=x;exact⟨ho _ d,z,ne,k _ _ (.inl rfl) e,mA,⟨od,es,ep,k _ _ (.inr d) e2,c⟩,r⟩
 |own y=>obtain⟨ob,e⟩:=x;exact⟨ob,k _ _ (.inl rfl) e⟩
 |xd fs=>obtain⟨mA,⟨od,es,ep,e,c⟩,r⟩:=x;exact⟨mA,⟨od,es,ep,k _ _ (.inl rfl) e,c⟩,r⟩
 |rng lo hi=>obtain⟨t,u,v,e⟩:=x;exact⟨t,u,v,k _ _ (.inl rfl) e⟩
 |frz ob u ih=>obtain⟨e,q⟩:=x;exact⟨k _ _ (.inl rfl) e,ih q⟩
 |tbl ps=>
  have e:h.get? a=some {cls:= .none,data:= .fields ps}:=x;show h'.get? a=some {cls:= .none,data:= .fields ps};exact k a _ (.inl rfl) e
 |met f y=>
  have e:h.get? a=some (PySem.W.methodObj (.ref f) (.ref y)):=x;show h'.get? a=some (PySem.W.methodObj (.ref f) (.ref y));exact k a _ (.inl rfl) e
 |ext φ=>obtain⟨p,⟨o,e⟩,st⟩:=x;exact⟨st _ _ p λo q=>k _ _ (.inl rfl) q,⟨o,k _ _ (.inl rfl) e⟩,st⟩
theorem HOk.lt (x:HOk P w H h)(e:H a=some o):a<h.objs.size:=(x a o e).lt
theorem HOk.fresh (x:HOk P w H h)(e:h.objs.size<=a):H a=none:=by
 cases q:H a with
 |none=>rfl
 |some u=>exact absurd (G8 (x.lt q) e) (T4 _)
theorem HOk.kept (x:HOk P w H h)(k: ∀b u,h.get? b=some u->h'.get? b=some u):HOk P w H h':=λa o e=>
 (x a o e).stay (λb u _ q=>k b u q) (λ_ q=>q) λ_ _ q=>q
theorem HOk.laid (x:HOk P w H h)(k: ∀b u,h.get? b=some u->h'.get? b=some u)(hp:h.objs.size<=a)(new:ObjOk P w (upd H a o) h' a o):HOk P w (upd H a o) h':=λb u e=>by
 have hn:=x.fresh hp
 by_cases hb:b=a
 ·subst hb;rw [ju] at e;cases e;exact new
 ·rw [jq hb] at e;exact(x b u e).stay (λc v _ q=>k c v q) (λc q=>by rw [jq (jm q hn)];exact q) λc xs q=>by rw [jq (jm q hn)];exact q
end
def Rd (H:Hp)(a:Addr)(u:HO):Prop:=H a=some u\/ ∃o,H a=some (.frz o u)
variable {P:Program}{w:World}{h:Heap}
theorem Rd.ok {u:HO}(r:Rd H a u)(x:HOk P w H h):ObjOk P w H h a u:=by
 rcases r with r|⟨o,r⟩
 ·exact x a u r
 ·obtain⟨_,q⟩:=x a _ r;exact q
def Mut:Option HO->Prop
 |some (.lst _)=>True
 |some (.dK _)=>True
 |some (.dT _)=>True
 |some (.set _ _)=>True
 |some (.ins _ _ _)=>True
 |some (.ext _)=>True
 |_=>False
section
variable {P:Program}{w:World}{H:Hp}{h h':Heap}{x e:Addr}{o':HO}
theorem HOk.write (ok:HOk P w H h)(mu:Mut (H x))(he:e=x\/H e=some (.own x))(k: ∀b u,b≠e->h.get? b=some u->h'.get? b=some u)(heo: ∃u,h'.get? e=some u)
 (new:ObjOk P w (upd H x o') h' x o'):HOk P w (upd H x o') h':=λb u q=>by
 have nown: ∀c y,H c=some (.own y)->c≠x:=λc y r z=>by subst z;rw [r] at mu;exact mu
 have ntup: ∀c xs,H c=some (.tup xs)->c≠x:=λc xs r z=>by subst z;rw [r] at mu;exact mu
 by_cases hb:b=x
 ·subst hb;rw [ju] at q;cases q;exact new
 ·rw [jq hb] at q
  by_cases hbe:b=e
  ·have q':H b=some (.own x):=by
    rcases he with z|z
    ·exact absurd (hbe.trans z) hb
    ·rw [hbe];exact z
   rw [q] at q';cases q';obtain⟨v,hv⟩:=heo;exact⟨v,by rw [hbe];exact hv⟩
  ·refine(ok b u q).stay (λc v hc r=>k c v ?_ r) (λc r=>by rw [jq (nown c b r)];exact r) λc xs r=>by rw [jq (ntup c xs r)];exact r
   rcases hc with rfl|hc
   ·exact hbe
   ·rintro rfl;rcases he with z|z
    ·exact nown c b hc z
    ·rw [hc] at z;cases z;exact hb rfl
end
structure Un (fs ex:List Addr)(H H':Hp)(h h':Heap):Prop where
 keep: ∀b o,h.get? b=some o->H b=none->b ∉ fs->b ∉ ex->h'.get? b=some o
 slot: ∀b o,h.get? b=some o->H b=none->b∈fs->b ∉ ex-> ∃sl,h'.get? b=some {o with slots:=sl}
 free: ∀b o,h.get? b=some o->H b=none->b ∉ ex->H' b=none
 there: ∀b o,h.get? b=some o->b ∉ ex-> ∃o',h'.get? b=some o'
 tups: ∀b xs,H b=some (.tup xs)->H' b=some (.tup xs)
 frzs: ∀b o u,H b=some (.frz o u)->H' b=some (.frz o u)
 tbls: ∀b ps,H b=some (.tbl ps)-> ∃more,H' b=some (.tbl (ps++more))
section
variable {fs fs' ex ex':List Addr}{H H1 H2:Hp}{h h1 h2 h':Heap}{a x e:Addr}{o:HO}
theorem Un.any (u:Un fs ex H H1 h h1){b:Addr}{ob:Obj}(q:h.get? b=some ob)(n:H b=none)(hx:b ∉ ex): ∃sl,h1.get? b=some {ob with slots:=sl}:=by
 by_cases hb:b∈fs
 ·exact u.slot b ob q n hb hx
 ·exact⟨ob.slots,u.keep b ob q n hb hx⟩
theorem Un.kept (k: ∀b u,h.get? b=some u->h'.get? b=some u):Un fs ex H H h h':=
 ⟨λb ob q _ _ _=>k b ob q,λb ob q _ _ _=>⟨ob.slots,k b ob q⟩,λ_ _ _ n _=>n,λb ob q _=>⟨ob,k b ob q⟩,λ_ _ q=>q,λ_ _ _ q=>q,λ_ ps q=>⟨#[],by rw [q];simp⟩⟩
theorem Un.refl:Un fs ex H H h h:=Un.kept λ_ _ q=>q
theorem Un.laid (k: ∀b u,h.get? b=some u->h'.get? b=some u)(hp:h.objs.size<=a)(hn:H a=none):Un fs ex H (upd H a o) h h' where
 keep:=λb u q _ _ _=>k b u q
 slot:=λb u q _ _ _=>⟨u.slots,k b u q⟩
 free:=λb u q n _=>by rw [jq (D5 (G8 (P3 q) hp))];exact n
 there:=λb u q _=>⟨u,k b u q⟩
 tups:=λb xs q=>by rw [jq (jm q hn)];exact q
 frzs:=λb u xs q=>by rw [jq (jm q hn)];exact q
 tbls:=λb ps q=>⟨#[],by rw [jq (jm q hn),q];simp⟩
theorem Un.write (mu:Mut (H x))(he:e=x\/H e=some (.own x))(k: ∀b u,b≠e->h.get? b=some u->h'.get? b=some u)(heo: ∃u,h'.get? e=some u):Un fs ex H (upd H x o) h h':=by
 have hx: ∀b,H b=none->b≠x:=λb n z=>by subst z;rw [n] at mu;exact mu
 have hb: ∀b,H b=none->b≠e:=λb n z=>by
  subst z;rcases he with r|r
  ·exact hx b n r
  ·rw [n] at r;cases r
 have hm: ∀b u,H b=some u-> ¬Mut (some u)->b≠x:=λb u q nm z=>by subst z;rw [q] at mu;exact nm mu
 refine⟨λb u q n _ _=>k b u (hb b n) q,λb u q n _ _=>⟨u.slots,k b u (hb b n) q⟩,λb u q n _=>by rw [jq (hx b n)];exact n,λb u q _=> ?_,
  λb xs q=>by rw [jq (hm b _ q λz=>z)];exact q,λb u xs q=>by rw [jq (hm b _ q λz=>z)];exact q,λb ps q=>⟨#[],by rw [jq (hm b _ q λz=>z),q];simp⟩⟩
 by_cases hbe:b=e
 ·subst hbe;exact heo
 ·exact⟨u,k b u hbe q⟩
end
def trk (h:Heap)(H:Hp):List Addr:=(List.range h.objs.size).filter λa=>(H a).isSome
def Qo (h:Heap)(H:Hp):Heap:=PySem.W.hideAll h (trk h H)
theorem Ur (h:Heap)(H:Hp):(Qo h H).objs.size=h.objs.size:=PySem.W.hideAll_size _ _
theorem JQ {o:Obj}(e:h.get? b=some o)(n:H b=none):(Qo h H).get? b=some o:=
 PySem.W.hideAll_get _ e λhm=>by
  have q:(H b).isSome=true:=(E4.mp hm).2;rw [n] at q;simp at q
theorem GN {o:Obj}(e:(Qo h H).get? b=some o):h.get? b=some o/\H b=none:=by
 have e':h.get? b=some o:=PySem.W.of_hideAll (trk h H) e;refine⟨e',?_⟩;cases q:H b with
 |none=>rfl
 |some x=>
  have hm:b∈trk h H:=E4.mpr ⟨S3.mpr (P3 e'),by simp [q]⟩;have z:(Qo h H).get? b=none:=PySem.W.hideAll_none (trk h H) hm;rw [z] at e;cases e
def GO (g h:Heap)(L:Addr):List (Addr×Obj):=(List.range h.objs.size).filterMap λa=>if a=L\/(g.get? a).isSome=true then none else (h.get? a).map λo=>(a,o)
def zP (g h:Heap)(L d:Addr):List (Addr×Obj):=(GO g h L).filter λp=>decide (p.1≠d)
structure Mod (K:PySem.W.Frag)(mg:Str->Option Value)(base:Heap):Prop where
 kin:K.In base
 glob:base.Ns mainGlobals mg
 blt: ∃mb,base.Ns builtinsNs mb/\ ∀x:Str,x≠ "__name__" ->mb x=bootBuiltins x
 nolimit:base.NoLimit
structure Cx where
 prog:Program
 w:World
 K:PySem.W.Frag
 mg:Str->Option Value
 base:Heap
 A:Around
 N:List Str
 s₀:Shared
 H₀:Hp
 env:Env
 outer:List Env
 stack:List Env
 ex:List Addr
 fn:Str->Bool
 calm:Bool
 pn:List (Addr×Obj)
 xe:Value->Shared->Prop
def frs (l:List Env):List Addr:=l.filterMap (·.frame)
abbrev Cx.fs (X:Cx):List Addr:=frs X.outer
def Vis (sc:Scope)(x:Str):Prop:=sc.names.lookup x=some .local\/sc.names.lookup x=some .cell\/sc.names.lookup x=some .free
def Loc (sc:Scope)(x:Str):Prop:=sc.names.lookup x=some .local\/sc.names.lookup x=some .cell
def Ch (env:Env)(h:Heap)(m:Str->Option Value)(x:Str)(u:Value):Prop:=
 (env.kindOf x=some .local/\m x=some u)\/((env.kindOf x=some .cell\/env.kindOf x=some .free)/\ ∃c,env.cells.lookup x=some c/\h.IsCell c (some u))
structure Cx.Ok (X:Cx):Prop where
 mod:Mod X.K X.mg X.base
 kind:X.env.scope.kind= .function
 glob:X.env.globals=mainGlobals
 blt:X.env.builtins=builtinsNs
 above:X.s₀.heap.objs.size<=X.env.locals
 inj: ∀x y c,X.env.cells.lookup x=some c->X.env.cells.lookup y=some c->x=y
 has: ∀x,(X.env.kindOf x=some .cell\/X.env.kindOf x=some .free)-> ∃c,X.env.cells.lookup x=some c
 cab: ∀x c,X.fn x=true->X.env.cells.lookup x=some c->X.s₀.heap.objs.size<=c
 hd:X.calm=true->X.A.handled=none
 frames:X.A.frames=some X.stack
 stk:X.stack=X.outer\/(X.stack=X.env::X.outer/\X.env.frame=some X.env.locals)
 exf: ∀b∈X.ex,b≠X.env.locals/\ ∀x c,X.env.cells.lookup x=some c->c≠b
 bs: ∀b o,X.base.get? b=some o->X.s₀.heap.get? b=some o/\X.H₀ b=none
 bsz:X.base.objs.size<=X.s₀.heap.objs.size
 noex: ∀b o,X.base.get? b=some o->b ∉ X.ex
 exfs: ∀b∈X.ex,b ∉ X.fs
 funs:X.s₀.heap.FunFrames X.base X.outer
 frf: ∀b∈X.fs,X.H₀ b=none
structure Inv (X:Cx)(pins:List (Addr×Obj))(σ:List (Option V))(H:Hp)(s:Shared):Prop where
 ok:X.Ok
 os:s.os=X.s₀.os
 bare:AllBare s.gens
 base:Un X.fs X.ex X.H₀ H X.s₀.heap s.heap
 loc: ∃m,s.heap.Ns X.env.locals m/\ ∀ (i:Nat) (x:Str) (v:V),X.N[i]? =some x->σ[i]? =some (some v)->Vis X.env.scope x-> ∃u,RelV v u/\Ch X.env s.heap m x u
 cell: ∀x c,X.env.cells.lookup x=some c-> ∃v,s.heap.IsCell c v
 free:H X.env.locals=none
 freeC: ∀x c,X.env.cells.lookup x=some c->H c=none
 pin: ∀p∈X.pn++pins,s.heap.get? p.1=some p.2/\H p.1=none/\p.1≠X.env.locals/\p.1 ∉ X.fs/\ ∀v,p.2.data≠ .cell v
 hok:HOk X.prog X.w H s.heap
 len:σ.length=X.N.length
section
variable {X:Cx}{pins:List (Addr×Obj)}{σ:List (Option V)}{H H':Hp}{s:Shared}{h':Heap}
theorem Cx.Ok.nofr (ok:X.Ok){b:Addr}{o:Obj}(e:X.base.get? b=some o):b ∉ X.fs:=λhb=>by
 have:=(ok.funs.mem hb).1;rw [e] at this;cases this
theorem Inv.bs (I:Inv X pins σ H s): ∀b o,X.base.get? b=some o->s.heap.get? b=some o/\H b=none:=λb o e=>
 ⟨I.base.keep b o (I.ok.bs b o e).1 (I.ok.bs b o e).2 (I.ok.nofr e) (I.ok.noex b o e),I.base.free b o (I.ok.bs b o e).1 (I.ok.bs b o e).2 (I.ok.noex b o e)⟩
theorem Inv.bk (I:Inv X pins σ H s): ∀b o,X.base.get? b=some o->s.heap.get? b=some o:=λb o e=>(I.bs b o e).1
theorem Inv.mod (I:Inv X pins σ H s):Mod X.K X.mg X.base:=I.ok.mod
theorem Inv.kIn (I:Inv X pins σ H s):X.K.In s.heap:=I.ok.mod.kin.keeps I.bk
theorem Inv.lt (I:Inv X pins σ H s):X.env.locals<s.heap.objs.size:=let ⟨_,hn,_⟩:=I.loc;hn.lt
theorem Inv.sz (I:Inv X pins σ H s):X.s₀.heap.objs.size<=s.heap.objs.size:=D3 I.ok.above (R9 I.lt)
theorem Inv.nofs (I:Inv X pins σ H s){a:Addr}(h:s.heap.objs.size<=a):a ∉ X.fs:=λhb=>by
 obtain⟨_,o,ho,_⟩:=I.ok.funs.mem hb;exact absurd (G8 (P3 ho) (D3 I.sz h)) (T4 _)
theorem Inv.cne (I:Inv X pins σ H s): ∀x c,X.env.cells.lookup x=some c->c≠X.env.locals:=λx c e z=>by
 obtain⟨v,o,ho,hd⟩:=I.cell x c e;obtain⟨m,⟨o',es,ep,ho',hd',_⟩,_⟩:=I.loc;rw [z,ho'] at ho;cases ho;rw [hd'] at hd;cases hd
theorem Inv.funs (I:Inv X pins σ H s):s.heap.FunFrames X.base X.outer:=by
 have all: ∀ (l:List Env),(∀b∈frs l,b∈X.fs)->X.s₀.heap.FunFrames X.base l->s.heap.FunFrames X.base l:=by
  intro l
  induction l with
  |nil=>intro _ _;trivial
  |cons env r ih=>
   intro hs hl;obtain⟨hk,⟨L,o,hf,hn,ho,hd⟩,hr⟩:=hl;have hL:L∈X.fs:=hs L (by unfold frs;rw [List.filterMap_cons,hf];exact List.mem_cons_self);obtain⟨sl,e⟩:=I.base.slot L o ho (I.ok.frf L hL) hL λz=>I.ok.exfs L z hL
   exact⟨hk,⟨L,_,hf,hn,e,hd⟩,ih (λb hb=>hs b (by unfold frs;rw [List.filterMap_cons,hf];exact List.mem_cons_of_mem _ hb)) hr⟩
 exact all X.outer (λ_ hb=>hb) I.ok.funs
theorem Inv.stack (I:Inv X pins σ H s):s.heap.FunFrames X.base X.stack:=by
 rcases I.ok.stk with e|⟨e,hf⟩
 ·rw [e];exact I.funs
 ·rw [e];obtain⟨m,hn,_⟩:=I.loc;refine .cons (by rw [I.ok.kind];decide) hf hn ?_ I.funs;exact Heap.get?_none_of_le (D3 I.ok.bsz I.ok.above)
theorem Inv.stkSub (I:Inv X pins σ H s): ∀b∈frs X.stack,b∈X.env.locals::X.fs:=λb hb=>by
 rcases I.ok.stk with e|⟨e,hf⟩
 ·rw [e] at hb;exact P5 _ hb
 ·rw [e] at hb;unfold frs at hb;rw [List.filterMap_cons,hf] at hb;exact hb
theorem Inv.stkFree (I:Inv X pins σ H s): ∀b∈frs X.stack,H b=none:=λb hb=>by
 rcases P0.mp (I.stkSub b hb) with e|hb
 ·rw [e];exact I.free
 ·obtain⟨_,o,ho,_⟩:=I.ok.funs.mem hb;exact I.base.free b o ho (I.ok.frf b hb) λz=>I.ok.exfs b z hb
variable {t':Nat}
theorem Inv.step {g':Array GenState}{d':Drawn}{ch:List Addr}(I:Inv X pins σ H s)
 (hch: ∀b∈ch,(b∈X.ex\/X.s₀.heap.objs.size<=b)/\b≠X.env.locals/\(∀x c,X.env.cells.lookup x=some c->c≠b)/\ ∀p∈X.pn++pins,p.1≠b)
 (keep: ∀b o,b≠X.env.locals->b ∉ X.fs->b ∉ ch->s.heap.get? b=some o->H b=none->h'.get? b=some o)
 (slot: ∀b o,b≠X.env.locals->b∈X.fs->b ∉ ch->s.heap.get? b=some o->H b=none-> ∃sl,h'.get? b=some {o with slots:=sl})(free: ∀b o,b ∉ ch->s.heap.get? b=some o->H b=none->H' b=none)
 (there: ∀b o,b ∉ ch->s.heap.get? b=some o-> ∃o',h'.get? b=some o')
 (tups: ∀b xs,H b=some (.tup xs)->H' b=some (.tup xs))(frzs: ∀b o u,H b=some (.frz o u)->H' b=some (.frz o u))(tbls: ∀b ps,H b=some (.tbl ps)-> ∃more,H' b=some (.tbl (ps++more)))
 (ns: ∀m,s.heap.Ns X.env.locals m->h'.Ns X.env.locals m)(hok:HOk X.prog X.w H' h')(hg:AllBare g'):
 Inv X pins σ H' {s with heap:=h',gens:=g',drawn:=d',toks:=t'}:=by
 have neL: ∀b o,X.s₀.heap.get? b=some o->b≠X.env.locals:=λb o e=>D5 (G8 (P3 e) I.ok.above)
 have neC: ∀b o,X.s₀.heap.get? b=some o->b ∉ X.ex->b ∉ ch:=λb o e hx hb=>by
  rcases (hch b hb).1 with z|z
  ·exact hx z
  ·exact absurd (G8 (P3 e) z) (T4 _)
 have cellK: ∀x c,X.env.cells.lookup x=some c-> ∀v,s.heap.IsCell c v->h'.IsCell c v:=λx c e v ⟨o,ho,hd⟩=>by
  have nch:c ∉ ch:=λz=>(hch c z).2.2.1 x c e rfl
  by_cases hc:c∈X.fs
  ·obtain⟨sl,q⟩:=slot c o (I.cne x c e) hc nch ho (I.freeC x c e);exact⟨_,q,hd⟩
  ·exact⟨o,keep c o (I.cne x c e) hc nch ho (I.freeC x c e),hd⟩
 refine⟨I.ok,I.os,hg,⟨λb o e n hb hx=> ?_,λb o e n hb hx=> ?_,λb o e n hx=> ?_,λb o e hx=> ?_,λb xs e=>tups b xs (I.base.tups b xs e),λb o xs e=>frzs b o xs (I.base.frzs b o xs e),λb ps e=> ?_⟩,?_,λx c e=> ?_,?_,λx c e=> ?_,λp hp=> ?_,hok,I.len⟩
 ·exact keep b o (neL b o e) hb (neC b o e hx) (I.base.keep b o e n hb hx) (I.base.free b o e n hx)
 ·obtain⟨sl,e1⟩:=I.base.slot b o e n hb hx;obtain⟨sl',e2⟩:=slot b _ (neL b o e) hb (neC b o e hx) e1 (I.base.free b o e n hx);exact⟨sl',e2⟩
 ·obtain⟨o',e1⟩:=I.base.there b o e hx;exact free b o' (neC b o e hx) e1 (I.base.free b o e n hx)
 ·obtain⟨o',e1⟩:=I.base.there b o e hx;exact there b o' (neC b o e hx) e1
 ·obtain⟨m1,e1⟩:=I.base.tbls b ps e;obtain⟨m2,e2⟩:=tbls b _ e1;exact⟨m1++m2,by rw [e2,Array.append_assoc]⟩
 ·obtain⟨m,hn,hl⟩:=I.loc;refine⟨m,ns m hn,λi x v e1 e2 e3=> ?_⟩;obtain⟨u,r,l⟩:=hl i x v e1 e2 e3;refine⟨u,r,?_⟩;rcases l with l|⟨k,c,e,z⟩
  ·exact .inl l
  ·exact .inr ⟨k,c,e,cellK x c e _ z⟩
 ·obtain⟨v,z⟩:=I.cell x c e;exact⟨v,cellK x c e v z⟩
 ·obtain⟨m,⟨o,_,_,ho,_⟩,_⟩:=I.loc;exact free _ o (λz=>(hch _ z).2.1 rfl) ho I.free
 ·obtain⟨v,o,ho,hd⟩:=I.cell x c e;exact free c o (λz=>(hch c z).2.2.1 x c e rfl) ho (I.freeC x c e)
 ·obtain⟨e,n,ne,nf,d⟩:=I.pin p hp;have nch:p.1 ∉ ch:=λz=>(hch p.1 z).2.2.2 p hp rfl
  exact⟨keep p.1 p.2 ne nf nch e n,free p.1 p.2 nch e n,ne,nf,d⟩
theorem Inv.un (I:Inv X pins σ H s)(u:Un X.fs [] H H' s.heap h')(hok:HOk X.prog X.w H' h'):Inv X pins σ H' {s with heap:=h',toks:=t'}:=by
 obtain⟨m,⟨o,es,ep,ho,r⟩,_⟩:=id I.loc;obtain⟨sl,hL⟩:=u.any ho I.free (by simp);exact I.step (g':=s.gens) (d':=s.drawn) (ch:= []) (λ_ z=>nomatch z) (λb o _ hb _ e n=>u.keep b o e n hb (by simp)) (λb o _ hb _ e n=>u.slot b o e n hb (by simp)) (λb o _ e n=>u.free b o e n (by simp)) (λb o _ e=>u.there b o e (by simp)) u.tups u.frzs u.tbls (λm' hm=>by
  obtain⟨o',es',ep',ho',r'⟩:=hm;rw [ho] at ho';cases ho';exact⟨_,es',ep',hL,r'⟩) hok I.bare
theorem Inv.call {g':Array GenState}{d':Drawn}{ch:List Addr}(I:Inv X pins σ H s)(u:Un (frs X.stack) ch H H' s.heap h')(hok:HOk X.prog X.w H' h')(hg:AllBare g')
 (hch: ∀b∈ch,(b∈X.ex\/X.s₀.heap.objs.size<=b)/\b≠X.env.locals/\(∀x c,X.env.cells.lookup x=some c->c≠b)/\ ∀p∈X.pn++pins,p.1≠b):
 Inv X pins σ H' {s with heap:=h',gens:=g',drawn:=d',toks:=t'}:=by
 obtain⟨m,⟨o,es,ep,ho,r⟩,_⟩:=id I.loc;obtain⟨sl,hL⟩:=u.any ho I.free λz=>(hch _ z).2.1 rfl
 exact I.step (ch:=ch) hch (λb o hL hb hc e n=>u.keep b o e n (λz=>(P0.mp (I.stkSub b z)).elim hL hb) hc) (λb o _ _ hc e n=>u.any e n hc) (λb o hc e n=>u.free b o e n hc) (λb o hc e=>u.there b o e hc) u.tups u.frzs u.tbls (λm' hm=>by
  obtain⟨o',es',ep',ho',r'⟩:=hm;rw [ho] at ho';cases ho';exact⟨_,es',ep',hL,r'⟩) hok hg
theorem Inv.turned {it:Addr}(I:Inv X pins σ H s)(k: ∀b o,b≠it->s.heap.get? b=some o->h'.get? b=some o)(hn:H it=none)(hL:it≠X.env.locals)
 (h1:it∈X.ex\/X.s₀.heap.objs.size<=it)(h2: ∀x c,X.env.cells.lookup x=some c->c≠it)(h3: ∀p∈X.pn++pins,p.1≠it):Inv X pins σ H {s with heap:=h',toks:=t'}:=by
 have nit: ∀b u,H b=some u->b≠it:=λb u e z=>by rw [z,hn] at e;cases e
 refine I.step (g':=s.gens) (d':=s.drawn) (ch:= [it]) (λb hb=> ?_) (λb o _ _ hc e _=>k b o (λz=>hc (by simp [z])) e) (λb o _ _ hc e _=>⟨o.slots,k b o (λz=>hc (by simp [z])) e⟩) (λ_ _ _ _ n=>n)
  (λb o hc e=>⟨o,k b o (λz=>hc (by simp [z])) e⟩) (λ_ _ e=>e) (λ_ _ _ e=>e) (λb ps e=>⟨#[],by rw [e];simp⟩) (λm hm=> ?_) (λb u e=> ?_) I.bare
 ·have e:b=it:=by simpa using hb
  subst e;exact⟨h1,hL,h2,h3⟩
 ·obtain⟨o,es,ep,ho,r⟩:=hm;exact⟨o,es,ep,k _ o (Ne.symm hL) ho,r⟩
 ·refine(I.hok b u e).stay (λc v hc q=>k c v ?_ q) (λ_ q=>q) λ_ _ q=>q
  rcases hc with z|z
  ·rw [z];exact nit b u e
  ·exact nit c _ z
theorem Inv.tok (I:Inv X pins σ H s)(t:Nat):Inv X pins σ H {s with toks:=t}:=I.un (h':=s.heap) (t':=t) Un.refl I.hok
theorem Inv.kept (I:Inv X pins σ H s)(k: ∀b u,s.heap.get? b=some u->h'.get? b=some u):Inv X pins σ H {s with heap:=h',toks:=t'}:=I.un (Un.kept k) (I.hok.kept k)
theorem Inv.laid {a:Addr}{o:HO}(I:Inv X pins σ H s)(k: ∀b u,s.heap.get? b=some u->h'.get? b=some u)(hp:s.heap.objs.size<=a)(new:ObjOk X.prog X.w (upd H a o) h' a o):
 Inv X pins σ (upd H a o) {s with heap:=h',toks:=t'}:=I.un (Un.laid k hp (I.hok.fresh hp)) (I.hok.laid k hp new)
theorem Inv.write {x e:Addr}{o:HO}(I:Inv X pins σ H s)(mu:Mut (H x))(he:e=x\/H e=some (.own x))(k: ∀b u,b≠e->s.heap.get? b=some u->h'.get? b=some u)(heo: ∃u,h'.get? e=some u)
 (new:ObjOk X.prog X.w (upd H x o) h' x o):Inv X pins σ (upd H x o) {s with heap:=h',toks:=t'}:=I.un (Un.write mu he k heo) (I.hok.write mu he k heo new)
theorem Inv.weak {σ':List (Option V)}(I:Inv X pins σ H s)(hl:σ'.length=σ.length)(w: ∀ (i:Nat) v,σ'[i]? =some (some v)->σ[i]? =some (some v)):Inv X pins σ' H s:=
 ⟨I.ok,I.os,I.bare,I.base,let ⟨m,hn,hl'⟩:=I.loc;⟨m,hn,λi x v e1 e2 e3=>hl' i x v e1 (w i v e2) e3⟩,I.cell,I.free,I.freeC,I.pin,I.hok,hl.trans I.len⟩
theorem Inv.pins_of {pins':List (Addr×Obj)}(I:Inv X pins σ H s)(h: ∀p∈pins',s.heap.get? p.1=some p.2/\H p.1=none/\p.1≠X.env.locals/\p.1 ∉ X.fs/\ ∀v,p.2.data≠ .cell v):Inv X pins' σ H s:=
 ⟨I.ok,I.os,I.bare,I.base,I.loc,I.cell,I.free,I.freeC,λp hp=>(P9.mp hp).elim (λz=>I.pin p (D6 _ z)) (h p),I.hok,I.len⟩
theorem Vc {N:List Str}(hN:N.Nodup){i j:Nat}{x:Str}(a:N[i]? =some x)(b:N[j]? =some x):i=j:=by
 obtain⟨h1,e1⟩:=G9.mp a;obtain⟨h2,e2⟩:=G9.mp b;exact(List.getElem_inj hN).mp (e1.trans e2.symm)
theorem Us {M:Model}{A:Around}{E:Value->Shared->Prop}{i:Nat}{x:Str}{v:V}{u:Value}{Q:Unit->Shared->Prop}(I:Inv X pins σ H s)(hN:X.N.Nodup)(hi:X.N[i]? =some x)(hx:Loc X.env.scope x)(r:RelV v u)
 (h: ∀s',Inv X pins (σ.set i (some v)) H s'->(∃a,Heap.SameBut a s.heap s'.heap/\(a=X.env.locals\/X.env.cells.lookup x=some a))->Q () s')(hf:X.fn x=true\/X.env.scope.names.lookup x=some .local:=by first|exact .inl rfl|exact .inr rfl|assumption):wpAny M A (storeName X.env x u) Q E s:=by
 obtain⟨m,hn,hl⟩:=id I.loc;have hcls:(X.env.scope.kind== .class||(X.env.scope.kind== .module&&X.env.locals !=X.env.globals))=false:=by rw [I.ok.kind];rfl
 have hiσ:i<σ.length:=by rw [I.len];exact(G9.mp hi).1
 have cne:=I.cne;have tracked: ∀ {a:Addr} {h':Heap},(∃o,s.heap.get? a=some o/\H a=none)->Heap.SameBut a s.heap h'->HOk X.prog X.w H h':=λ{a h'} ha hs b ob e=>by
  obtain⟨_,_,hfree⟩:=ha;refine(I.hok b ob e).stay (λc w' hc q=>(hs.2 c ?_).trans q) (λ_ q=>q) λ_ _ q=>q
  rintro rfl;rcases hc with rfl|hc
  ·rw [hfree] at e;cases e
  ·rw [hfree] at hc;cases hc
 rcases hx with hk|hk
 ·refine wpAny_storeName_local hk hn (λh' hn' hs=> ?_) hcls;obtain⟨oL,_,_,hoL,_⟩:=id hn;refine h _ ⟨I.ok,I.os,I.bare,⟨λb o e n hb hx=> ?_,λb o e n hb hx=> ?_,I.base.free,λb o e hx=> ?_,I.base.tups,I.base.frzs,I.base.tbls⟩,⟨_,hn',λj y v' e1 e2 e3=> ?_⟩,λy c e=> ?_,I.free,I.freeC,λp hp=> ?_,tracked ⟨oL,hoL,I.free⟩ hs,by simpa using I.len⟩ ⟨_,hs,.inl rfl⟩
  ·exact(hs.2 b (D5 (G8 (P3 e) I.ok.above))).trans (I.base.keep b o e n hb hx)
  ·obtain⟨sl,e1⟩:=I.base.slot b o e n hb hx;exact⟨sl,(hs.2 b (D5 (G8 (P3 e) I.ok.above))).trans e1⟩
  ·obtain⟨o',e1⟩:=I.base.there b o e hx;exact⟨o',(hs.2 b (D5 (G8 (P3 e) I.ok.above))).trans e1⟩
  ·by_cases hj:j=i
   ·subst hj;rw [hi] at e1;cases e1;rw [E1 hiσ] at e2;cases e2;exact⟨u,r,.inl ⟨hk,by simp⟩⟩
   ·rw [S1 (Ne.symm hj)] at e2;obtain⟨u',r',q⟩:=hl j y v' e1 e2 e3;refine⟨u',r',?_⟩;rcases q with ⟨k,e⟩|⟨k,c,e,z⟩
    ·refine .inl ⟨k,?_⟩;have:y≠x:=λe=>hj (Vc hN e1 (e ▸ hi))
     simp [this,e]
    ·exact .inr ⟨k,c,e,z.sameBut hs (cne y c e)⟩
  ·obtain⟨w',z⟩:=I.cell y c e;exact⟨w',z.sameBut hs (cne y c e)⟩
  ·obtain⟨e,n,ne,nf,d⟩:=I.pin p hp;exact⟨(hs.2 p.1 ne).trans e,n,ne,nf,d⟩
 ·have hfn:X.fn x=true:=by
   rcases hf with z|z
   ·exact z
   ·rw [z] at hk;cases hk
  obtain⟨c,hc⟩:=I.ok.has x (.inl hk);obtain⟨w',z⟩:=I.cell x c hc;refine wpAny_storeName_cell I.ok.kind hk hc z (λh' hc' hs=> ?_);obtain⟨oc,hoc,hocd⟩:=id z;refine h {s with heap:=h'} ⟨I.ok,I.os,I.bare,⟨λb o e n hb hx=> ?_,λb o e n hb hx=> ?_,I.base.free,λb o e hx=> ?_,I.base.tups,I.base.frzs,I.base.tbls⟩,⟨m,hn.sameBut hs (Ne.symm (cne x c hc)),λj y v' e1 e2 e3=> ?_⟩,λy c' e=> ?_,I.free,I.freeC,λp hp=> ?_,tracked ⟨oc,hoc,I.freeC x c hc⟩ hs,by simpa using I.len⟩ ⟨c,hs,.inr hc⟩
  ·exact(hs.2 b (D5 (G8 (P3 e) (I.ok.cab x c hfn hc)))).trans (I.base.keep b o e n hb hx)
  ·obtain⟨sl,e1⟩:=I.base.slot b o e n hb hx;exact⟨sl,(hs.2 b (D5 (G8 (P3 e) (I.ok.cab x c hfn hc)))).trans e1⟩
  ·obtain⟨o',e1⟩:=I.base.there b o e hx;exact⟨o',(hs.2 b (D5 (G8 (P3 e) (I.ok.cab x c hfn hc)))).trans e1⟩
  ·by_cases hj:j=i
   ·subst hj;rw [hi] at e1;cases e1;rw [E1 hiσ] at e2;cases e2;exact⟨u,r,.inr ⟨.inl hk,c,hc,hc'⟩⟩
   ·rw [S1 (Ne.symm hj)] at e2;obtain⟨u',r',q⟩:=hl j y v' e1 e2 e3;refine⟨u',r',?_⟩;rcases q with q|⟨k,c',e,z'⟩
    ·exact .inl q
    ·refine .inr ⟨k,c',e,z'.sameBut hs ?_⟩;rintro rfl;exact hj (Vc hN e1 (I.ok.inj _ _ _ e hc ▸ hi))
  ·by_cases hcc:c'=c
   ·subst hcc;exact⟨_,hc'⟩
   ·obtain⟨w2,z2⟩:=I.cell y c' e;exact⟨w2,z2.sameBut hs hcc⟩
  ·obtain⟨e,n,ne,nf,d⟩:=I.pin p hp;refine⟨(hs.2 p.1 ?_).trans e,n,ne,nf,d⟩;intro q;rw [q,hoc] at e;have q':oc=p.2:=R7 e;exact d w' (by rw [<-q'];exact hocd)
theorem vy {M:Model}{A:Around}{E:Value->Shared->Prop}{i:Nat}{x:Str}{v:V}{u:Value}{Q:Unit->Shared->Prop}(I:Inv X pins σ H s)(hN:X.N.Nodup)(hi:X.N[i]? =some x)(hx:Loc X.env.scope x)(r:RelV v u)
 (h: ∀s',Inv X pins (σ.set i (some v)) H s'->Q () s')(hf:X.fn x=true\/X.env.scope.names.lookup x=some .local:=by first|exact .inl rfl|exact .inr rfl|assumption):wpAny M A (storeName X.env x u) Q E s:=
 Us I hN hi hx r (λs' I' _=>h s' I') hf
theorem Inv.call' {s':Shared}{ch:List Addr}(I:Inv X pins σ H s)(ho:s'.os=s.os)(u:Un (frs X.stack) ch H H' s.heap s'.heap)(hok:HOk X.prog X.w H' s'.heap)(hg:AllBare s'.gens)
 (hch: ∀b∈ch,(b∈X.ex\/X.s₀.heap.objs.size<=b)/\b≠X.env.locals/\(∀x c,X.env.cells.lookup x=some c->c≠b)/\ ∀p∈X.pn++pins,p.1≠b):Inv X pins σ H' s':=by
 obtain⟨h',g',d',t',o'⟩:=s';have e:o'=s.os:=ho;subst e;exact I.call (g':=g') (t':=t') (d':=d') u hok hg hch
end
abbrev XK:=Value->Option Addr->Hp->Prop
abbrev St:=List (Option V)
abbrev VK:=V->Hp->Prop
abbrev TE:=St->Hp->VK->Prop
abbrev TT:=St->Hp->(Bool->Hp->Prop)->Prop
abbrev TA:=St->Hp->(List V->Hp->Prop)->Prop
structure Ends where
 nx:St->Hp->Prop
 rt:VK
 bk:St->Hp->Prop:=λ_ _=>False
 ct:St->Hp->Prop:=λ_ _=>False
abbrev TS:=Ends->St->Hp->Prop
def EP (X:Cx)(pins:List (Addr×Obj))(σ:St)(Q:VK)(u:Value)(s':Shared):Prop:= ∃v H',Inv X pins σ H' s'/\RelV v u/\Q v H'
def TP (X:Cx)(pins:List (Addr×Obj))(σ:St)(Q:Bool->Hp->Prop)(b:Bool)(s':Shared):Prop:= ∃H',Inv X pins σ H' s'/\Q b H'
def AP (X:Cx)(pins:List (Addr×Obj))(σ:St)(Q:List V->Hp->Prop)(us:List Value)(s':Shared):Prop:= ∃vs H',Inv X pins σ H' s'/\Vals vs us/\Q vs H'
def SP (X:Cx)(pins:List (Addr×Obj))(D:Ends)(f:Flow)(s':Shared):Prop:=
 match f with
 | .next=> ∃σ' H',Inv X pins σ' H' s'/\D.nx σ' H'
 | .brk=> ∃σ' H',Inv X pins σ' H' s'/\D.bk σ' H'
 | .cont=> ∃σ' H',Inv X pins σ' H' s'/\D.ct σ' H'
 | .ret u=> ∃v σ' H',Inv X pins σ' H' s'/\RelV v u/\D.rt v H'
def PE (X:Cx)(e:Expr)(t:TE):Prop:=
 ∀ (pins:List (Addr×Obj)) (s:Shared) (σ:St) (H:Hp) (Q:VK),Inv X pins σ H s->t σ H Q->wpAny (model X.prog X.w) X.A (eval e X.env) (EP X pins σ Q) X.xe s
def PT (X:Cx)(e:Expr)(t:TT):Prop:=
 ∀ (pins:List (Addr×Obj)) (s:Shared) (σ:St) (H:Hp) (Q:Bool->Hp->Prop),Inv X pins σ H s->t σ H Q->wpAny (model X.prog X.w) X.A (isTrue e X.env (eval e X.env)) (TP X pins σ Q) X.xe s
def PW (X:Cx)(e:Expr)(t:TT):Prop:=
 ∀ (whole:Sem Value) (pins:List (Addr×Obj)) (s:Shared) (σ:St) (H:Hp) (Q:Bool->Hp->Prop),Inv X pins σ H s->t σ H Q->wpAny (model X.prog X.w) X.A (isTrue e X.env whole) (TP X pins σ Q) X.xe s
variable {X:Cx}
theorem PW.pt {e:Expr}{t:TT}(h:PW X e t):PT X e t:=h _
def PA (X:Cx)(es:List Expr)(t:TA):Prop:=
 ∀ (pos:Pos) (pins:List (Addr×Obj)) (s:Shared) (σ:St) (H:Hp) (Q:List V->Hp->Prop),Inv X pins σ H s->t σ H Q->wpAny (model X.prog X.w) X.A (spliced (backTo pos (starEach es X.env))) (AP X pins σ Q) X.xe s
def PS (X:Cx)(st:Stmt)(t:TS):Prop:=
 ∀ (pins:List (Addr×Obj)) (s:Shared) (σ:St) (H:Hp) (D:Ends),Inv X pins σ H s->t D σ H->wpAny (model X.prog X.w) X.A (exec st X.env) (SP X pins D) X.xe s
def PSs (X:Cx)(st:List Stmt)(t:TS):Prop:=
 ∀ (pins:List (Addr×Obj)) (s:Shared) (σ:St) (H:Hp) (D:Ends),Inv X pins σ H s->t D σ H->wpAny (model X.prog X.w) X.A (execs st X.env) (SP X pins D) X.xe s
variable {A:Around}{s:Shared}
theorem thn {α:Type}{t:Sem α}{Q Q':α->Shared->Prop}{M:Model}{E:Value->Shared->Prop}(h:wpAny M A t Q E s)(hQ: ∀a s,Q a s->Q' a s):wpAny M A t Q' E s:=D8 h hQ λ_ _ x=>x
section
variable {X:Cx}
def BB (i:Nat):TE:=λσ H Q=> ∃v,σ[i]? =some (some v)/\Q v H
def tC (v:V):TE:=λ_ H Q=>Q v H
variable {x:Str}
theorem DR {i:Nat}{pos:Pos}(hN:X.N[i]? =some x)(hv:Vis X.env.scope x)(hd:(x==("__debug__" :Str))=false:=by decide)(hcd:(x==("__classdict__" :Str))=false:=by decide):PE X (.Name x pos) (BB i):=by
 intro pins s σ H Q I h;obtain⟨v,e,h⟩:=h;obtain⟨m,hn,hl⟩:=I.loc;obtain⟨u,r,l⟩:=hl i x v hN e hv;have fin:EP X pins σ Q u s:=⟨v,H,I,r,h⟩;rcases l with ⟨hk,hm⟩|⟨hk,c,hc,hcell⟩
 ·exact wpAny_Name (wpAny_loadName_local I.ok.kind hk hn hm fin) hd
 ·rcases hk with hk|hk
  ·exact wpAny_Name (wpAny_loadName_cell I.ok.kind hk hc hcell fin) hd
  ·exact wpAny_Name (wpAny_loadName_free I.ok.kind hk hc hcell fin hcd) hd
theorem pe_int {i j pos}:PE X (.Constant (.int i) j pos) (tC (.int i)):=λ_ _ _ H _ I h=>wpAny_Constant_int ⟨.int i,H,I.tok _,⟨_,rfl⟩,h⟩
theorem pe_bl {b j pos}:PE X (.Constant (.bool b) j pos) (tC (.bl b)):=λ_ _ _ H _ I h=>Constant_bool ⟨.bl b,H,I,rfl,h⟩
theorem pe_non {j pos}:PE X (.Constant .none j pos) (tC .non):=λ_ _ _ H _ I h=>Constant_none ⟨.non,H,I,rfl,h⟩
theorem pe_str {x j pos}:PE X (.Constant (.str x) j pos) (tC (.str x)):=λ_ _ _ H _ I h=>Calls.Constant_str ⟨.str x,H,I.tok _,⟨_,rfl⟩,h⟩
def Gl (X:Cx)(x:Str):Prop:=X.env.kindOf x=some .globalImplicit
variable {u:Value}
theorem Ut {E:Value->Shared->Prop}{pins:List (Addr×Obj)}{s:Shared}{σ:St}{H:Hp}{pos:Pos}{Q:Value->Shared->Prop}(I:Inv X pins σ H s)(hg:Gl X x)(hm:X.mg x=some u)(h:Q u s)
 (hd:(x==("__debug__" :Str))=false:=by decide):wpAny (model X.prog X.w) X.A (eval (.Name x pos) X.env) Q E s:=
 O0 I.ok.kind hg (Calls.loadGlobal_global (by rw [I.ok.glob];exact I.mod.glob.keeps I.bk) hm h) hd
theorem Jy {E:Value->Shared->Prop}{pins:List (Addr×Obj)}{s:Shared}{σ:St}{H:Hp}{pos:Pos}{Q:Value->Shared->Prop}(I:Inv X pins σ H s)(hg:Gl X x)(hm:X.mg x=none)(hv:bootBuiltins x=some u)(h:Q u s)
 (hn:x≠ "__name__" :=by decide)(hd:(x==("__debug__" :Str))=false:=by decide):wpAny (model X.prog X.w) X.A (eval (.Name x pos) X.env) Q E s:=by
 obtain⟨mb,h1,h2⟩:=I.mod.blt;exact O0 I.ok.kind hg (Calls.loadGlobal_builtin (by rw [I.ok.glob];exact I.mod.glob.keeps I.bk) hm (by rw [I.ok.blt];exact h1.keeps I.bk) ((h2 x hn).trans hv) h) hd
theorem GP {v:V}{pos:Pos}(hg:Gl X x)(hm:X.mg x=some u)(r:RelV v u)(hd:(x==("__debug__" :Str))=false:=by decide):PE X (.Name x pos) (tC v):=
 λ_ _ _ H _ I h=>Ut I hg hm ⟨v,H,I,r,h⟩ hd
theorem GQ {v:V}{pos:Pos}(hg:Gl X x)(hm:X.mg x=none)(hv:bootBuiltins x=some u)(r:RelV v u)(hn:x≠ "__name__" :=by decide)(hd:(x==("__debug__" :Str))=false:=by decide):PE X (.Name x pos) (tC v):=
 λ_ _ _ H _ I h=>Jy I hg hm hv ⟨v,H,I,r,h⟩ hn hd
variable {a b:Expr}{ta tb:TE}{pos:Pos}
def tB (t:TE):TT:=λσ H Q=>t σ H λx H1=> ∃c,x= .bl c/\Q c H1
theorem DS {e:Expr}{t:TE}(h:PE X e t)(he: ∀whole,isTrue e X.env whole=(do let v <-whole;standAt e.pos;holding [v] (truthy v)):=by intro _;rfl):PT X e (tB t):=by
 intro pins s σ H Q I hw;refine isTrue_plain (thn (h pins s σ H _ I hw) λv s1 ⟨x,H1,I1,r1,q1⟩=> ?_) (he _);obtain⟨d,rfl,q⟩:=q1;cases r1;exact S5 ⟨H1,I1,q⟩
variable {tA tB':TT}{zP:List Expr}
def BC (t u:TT):TT:=λσ H Q=>t σ H λc H1=>if c=true then u σ H1 Q else Q false H1
def tOr (t u:TT):TT:=λσ H Q=>t σ H λc H1=>if c=true then Q true H1 else u σ H1 Q
def BD (t:TT):TT:=λσ H Q=>t σ H λc H1=>Q (!c) H1
theorem GR (ha:PT X a tA):PW X (.BoolOp .And [a] pos) tA:=by
 intro wh pins s σ H Q I h;refine isTrue_and (thn (ha pins s σ H Q I h) λc s1 e=> ?_);cases c with
 |true=>exact isTrue_and_nil e
 |false=>exact e
theorem DT (ha:PT X a tA):PW X (.BoolOp .Or [a] pos) tA:=by
 intro wh pins s σ H Q I h;refine isTrue_or (thn (ha pins s σ H Q I h) λc s1 e=> ?_);cases c with
 |false=>exact isTrue_or_nil e
 |true=>exact e
theorem DU (ha:PT X a tA)(hb:PW X (.BoolOp .And (b::zP) pos) tB'):PW X (.BoolOp .And (a::b::zP) pos) (BC tA tB'):=by
 intro wh pins s σ H Q I h;refine isTrue_and (thn (ha pins s σ H _ I h) λc s1 ⟨H1,I1,q1⟩=> ?_);cases c with
 |true=>exact hb wh pins s1 σ H1 Q I1 q1
 |false=>exact⟨H1,I1,q1⟩
theorem Nk (ha:PT X a tA)(hb:PW X (.BoolOp .Or (b::zP) pos) tB'):PW X (.BoolOp .Or (a::b::zP) pos) (tOr tA tB'):=by
 intro wh pins s σ H Q I h;refine isTrue_or (thn (ha pins s σ H _ I h) λc s1 ⟨H1,I1,q1⟩=> ?_);cases c with
 |true=>exact⟨H1,I1,q1⟩
 |false=>exact hb wh pins s1 σ H1 Q I1 q1
theorem DV (ha:PT X a tA):PT X (.UnaryOp .Not a pos) (BD tA):=by
 intro pins s σ H Q I h;exact isTrue_not (ha pins s σ H (λc H1=>Q (!c) H1) I h)
def DW (ta tb:TE):TE:=λσ H Q=>ta σ H λx H1=> ∃c,x= .bl c/\if c=true then tb σ H1 Q else Q (.bl false) H1
def BE (ta tb:TE):TE:=λσ H Q=>ta σ H λx H1=> ∃c,x= .bl c/\if c=true then Q (.bl true) H1 else tb σ H1 Q
def DY (ta:TE):TE:=λσ H Q=>ta σ H λx H1=> ∃c,x= .bl c/\Q (.bl (!c)) H1
theorem DZ {op}{t:TE}(h:PE X a t):PE X (.BoolOp op [a] pos) t:=λpins s σ H Q I hw=>BoolOp_one (h pins s σ H Q I hw)
theorem Ra (ha:PE X a ta)(hb:PE X (.BoolOp .And (b::zP) pos) tb):PE X (.BoolOp .And (a::b::zP) pos) (DW ta tb):=by
 intro pins s σ H Q I h;refine BoolOp_and (thn (ha pins s σ H _ I h) λv s1 ⟨x,H1,I1,r1,q1⟩=> ?_);obtain⟨c,rfl,q1⟩:=q1;cases r1;refine S5 ?_;cases c with
 |true=>exact hb pins s1 σ H1 Q I1 q1
 |false=>exact⟨.bl false,H1,I1,rfl,q1⟩
theorem Nl (ha:PE X a ta)(hb:PE X (.BoolOp .Or (b::zP) pos) tb):PE X (.BoolOp .Or (a::b::zP) pos) (BE ta tb):=by
 intro pins s σ H Q I h;refine BoolOp_or (thn (ha pins s σ H _ I h) λv s1 ⟨x,H1,I1,r1,q1⟩=> ?_);obtain⟨c,rfl,q1⟩:=q1;cases r1;refine S5 ?_;cases c with
 |false=>exact hb pins s1 σ H1 Q I1 q1
 |true=>exact⟨.bl true,H1,I1,rfl,q1⟩
theorem Rb (ha:PE X a ta):PE X (.UnaryOp .Not a pos) (DY ta):=by
 intro pins s σ H Q I h;refine UnaryOp_ (thn (ha pins s σ H _ I h) λv s1 ⟨x,H1,I1,r1,q1⟩=> ?_);obtain⟨c,rfl,q1⟩:=q1;cases r1;exact not_of (S5 ⟨.bl (!c),H1,I1,rfl,q1⟩)
end
def SqL (K:PySem.W.Frag)(H:Hp)(a:Addr)(xs:List V):Prop:=
 Rd H a (.lst xs)\/
  ∃ (o:Obj) (its:Array Value) (n:Nat),K.lookup a=some o/\o.cls= .type "list" /\o.dict=none/\o.data= .seq its n/\its.size<=sizeLine/\Vals xs its.toList
def SqT (K:PySem.W.Frag)(H:Hp)(a:Addr)(xs:List V):Prop:=
 Rd H a (.tup xs)\/
  ∃ (o:Obj) (its:Array Value) (n:Nat),K.lookup a=some o/\o.cls= .type "tuple" /\o.data= .seq its n/\its.size<=sizeLine/\Vals xs its.toList
def Ci:Value->Option V
 | .none=>some .non
 | .bool b=>some (.bl b)
 | .int i _=>some (.int i)
 | .str x _=>some (.str x)
 | .bytes b _=>some (.byt b)
 | .float b _=>some (.flt b)
 | .ref a=>some (.ref a)
 | .type n=>some (.ty n)
 |_=>none
theorem RelV.abs {x:V}(r:RelV x u):Ci u=some x:=by
 cases x with
 |non=>cases r;rfl
 |bl _=>cases r;rfl
 |int _=>obtain⟨t,rfl⟩:=r;rfl
 |str _=>obtain⟨t,rfl⟩:=r;rfl
 |byt _=>obtain⟨t,rfl⟩:=r;rfl
 |flt _=>obtain⟨t,rfl⟩:=r;rfl
 |ref _=>cases r;rfl
 |ty _=>cases r;rfl
theorem RelV.inj {x y:V}(r:RelV x u)(q:RelV y u):x=y:=R7 (r.abs.symm.trans q.abs)
theorem Vals.inj: ∀ {xs ys:List V} {us:List Value},Vals xs us->Vals ys us->xs=ys
 |_,_,_,.nil,.nil=>rfl
 |_,_,_,.cons r t,.cons r' t'=>by rw [r.inj r',Vals.inj t t']
section
variable {X:Cx}{pins:List (Addr×Obj)}{σ:St}{H:Hp}{s:Shared}{a:Addr}{xs ys:List V}
theorem SqL.of {K:PySem.W.Frag}(h:H a=some (.lst xs)):SqL K H a xs:= .inl (.inl h)
theorem SqT.of {K:PySem.W.Frag}(h:H a=some (.tup xs)):SqT K H a xs:= .inl (.inl h)
theorem Inv.list (I:Inv X pins σ H s)(h:SqL X.K H a xs): ∃its:List Value,Vals xs its/\PlainL s.heap a its.toArray/\xs.length<=sizeLine:=by
 rcases h with h|⟨o,its,n,hk,hc,hd,hs,hz,r⟩
 ·obtain⟨z,its,n,r,e⟩:=h.ok I.hok;exact⟨its,r,⟨_,n,e,rfl,rfl,rfl⟩,z⟩
 ·refine⟨its.toList,r,⟨o,n,I.kIn a o hk,hc,hd,by simpa using hs⟩,?_⟩;have e:=r.length;simp only [B8] at e;omega
theorem Inv.tuple (I:Inv X pins σ H s)(h:SqT X.K H a xs): ∃its:List Value,Vals xs its/\IsTup s.heap a its.toArray/\xs.length<=sizeLine:=by
 rcases h with h|⟨o,its,n,hk,hc,hs,hz,r⟩
 ·obtain⟨z,its,r,p⟩:=h.ok I.hok;exact⟨its,r,p.tup,z⟩
 ·refine⟨its.toList,r,⟨o,I.kIn a o hk,hc,n,by simpa using hs⟩,?_⟩;have e:=r.length;simp only [B8] at e;omega
theorem Inv.list_inj (I:Inv X pins σ H s)(h:SqL X.K H a xs)(h':SqL X.K H a ys):xs=ys:=by
 obtain⟨its,r,⟨o,n,e,_,_,d⟩,_⟩:=I.list h;obtain⟨its',r',⟨o',n',e',_,_,d'⟩,_⟩:=I.list h';rw [e] at e';cases e';rw [d] at d';injection d' with d1 _
 have:its=its':=by simpa using congrArg Array.toList d1
 subst this;exact r.inj r'
theorem Inv.tuple_inj (I:Inv X pins σ H s)(h:SqT X.K H a xs)(h':SqT X.K H a ys):xs=ys:=by
 obtain⟨its,r,⟨o,e,_,n,d⟩,_⟩:=I.tuple h;obtain⟨its',r',⟨o',e',_,n',d'⟩,_⟩:=I.tuple h';rw [e] at e';cases e';rw [d] at d';injection d' with d1 _
 have:its=its':=by simpa using congrArg Array.toList d1
 subst this;exact r.inj r'
end
abbrev Cx.wish (X:Cx)(E:Value->Shared->Prop):Cx:= {X with xe:=E}
abbrev Cx.nox (X:Cx):Cx:=X.wish λ_ _=>False
theorem Cx.Ok.wish (ok:X.Ok)(E:Value->Shared->Prop):(X.wish E).Ok:=
 ⟨ok.mod,ok.kind,ok.glob,ok.blt,ok.above,ok.inj,ok.has,ok.cab,ok.hd,ok.frames,ok.stk,ok.exf,ok.bs,ok.bsz,ok.noex,ok.exfs,ok.funs,ok.frf⟩
theorem Cx.Ok.unwish {E:Value->Shared->Prop}(ok:(X.wish E).Ok):X.Ok:=
 ⟨ok.mod,ok.kind,ok.glob,ok.blt,ok.above,ok.inj,ok.has,ok.cab,ok.hd,ok.frames,ok.stk,ok.exf,ok.bs,ok.bsz,ok.noex,ok.exfs,ok.funs,ok.frf⟩
section
variable {X:Cx}{pins:List (Addr×Obj)}{σ:St}{H:Hp}{s:Shared}{E:Value->Shared->Prop}
theorem Inv.wish (I:Inv X pins σ H s)(E:Value->Shared->Prop):Inv (X.wish E) pins σ H s:=⟨I.ok.wish E,I.os,I.bare,I.base,I.loc,I.cell,I.free,I.freeC,I.pin,I.hok,I.len⟩
theorem Inv.unwish (I:Inv (X.wish E) pins σ H s):Inv X pins σ H s:=⟨I.ok.unwish,I.os,I.bare,I.base,I.loc,I.cell,I.free,I.freeC,I.pin,I.hok,I.len⟩
theorem SP.unwish {D:Ends}{f:Flow}{s':Shared}(h:SP (X.wish E) pins D f s'):SP X pins D f s':=by
 cases f with
 |next=>obtain⟨σ',H',I,q⟩:=h;exact⟨σ',H',I.unwish,q⟩
 |brk=>obtain⟨σ',H',I,q⟩:=h;exact⟨σ',H',I.unwish,q⟩
 |cont=>obtain⟨σ',H',I,q⟩:=h;exact⟨σ',H',I.unwish,q⟩
 |ret u=>obtain⟨v,σ',H',I,r,q⟩:=h;exact⟨v,σ',H',I.unwish,r,q⟩
theorem PSs.nox {st:List Stmt}{t:TS}(h:PSs X.nox st t):PSs X st t:=λpins s σ H D I hw=>
 D8 (h pins s σ H D (I.wish _) hw) (λ_ _ q=>q.unwish) λ_ _ z=>False.elim z
end
section
variable {X:Cx}{st:Stmt}{zP:List Stmt}{t u:TS}{e:Expr}{te:TE}{pos:Pos}
def Rc:TS:=λD σ H=>D.nx σ H
def BF (t u:TS):TS:=λD σ H=>t {D with nx:=u D} σ H
theorem pss_nil:PSs X [] Rc:=λ_ _ σ H _ I h=>E5 ⟨σ,H,I,h⟩
theorem Qp (h1:PS X st t)(h2:PSs X zP u):PSs X (st::zP) (BF t u):=by
 intro pins s σ H D I h;refine wpAny_execs_cons (thn (h1 pins s σ H {D with nx:=u D} I h) λf s1 q=> ?_);cases f with
 |next=>
  obtain⟨σ',H',I',q⟩:=q;exact h2 pins s1 σ' H' D I' q
 |ret v=>exact q
 |brk=>exact q
 |cont=>exact q
theorem GS (h1:PS X st t):PSs X [st] t:=by
 intro pins s σ H D I h;refine wpAny_execs_cons (thn (h1 pins s σ H D I h) λf s1 q=> ?_);cases f with
 |next=>exact E5 q
 |ret v=>exact q
 |brk=>exact q
 |cont=>exact q
theorem Inv.quiet {pins:List (Addr×Obj)}{σ:St}{H:Hp}{s:Shared}(I:Inv X pins σ H s):interactive X.env=false:=by simp [interactive,I.ok.kind]
def Re (te:TE):TS:=λD σ H=>te σ H λ_ H1=>D.nx σ H1
theorem GT (he:PE X e te)(hs:swapsWith e none pos.line X.env=pure false:=by rfl):PS X (.Expr e pos) (Re te):=by
 intro pins s σ H D I h;exact wpAny_Expr_any (thn (he pins s σ H _ I h) λv s1 ⟨x,H1,I1,r1,q1⟩=>⟨σ,H1,I1,q1⟩) I.quiet hs
def BG (te:TE):TS:=λD σ H=>te σ H D.rt
theorem Rf (he:PE X e te):PS X (.Return (some e) pos) (BG te):=by
 intro pins s σ H D I h;exact wpAny_Return_some (thn (he pins s σ H _ I h) λv s1 ⟨x,H1,I1,r1,q1⟩=>⟨x,σ,H1,I1,r1,q1⟩)
def BH (c:TT)(t u:TS):TS:=λD σ H=>c σ H λb H1=>if b=true then t D σ H1 else u D σ H1
theorem Nm {c:Expr}{a b:List Stmt}{tc:TT}(hc:PT X c tc)(ha:PSs X a t)(hb:PSs X b u):PS X (.If c a b pos) (BH tc t u):=by
 intro pins s σ H D I h;refine wpAny_If (thn (hc pins s σ H _ I h) λd s1 ⟨H1,I1,q1⟩=> ?_);cases d with
 |true=>exact ha pins s1 σ H1 D I1 q1
 |false=>exact hb pins s1 σ H1 D I1 q1
end
abbrev TG:=V->St->Hp->(St->Hp->Prop)->Prop
abbrev TGs:=List V->St->Hp->(St->Hp->Prop)->Prop
def PG (X:Cx)(target:Expr)(t:TG):Prop:=
 ∀ (pins:List (Addr×Obj)) (s:Shared) (σ:St) (H:Hp) (v:V) (u:Value) (Q:St->Hp->Prop),Inv X pins σ H s->RelV v u->t v σ H Q->
  wpAny (model X.prog X.w) X.A (assign target X.env u) (λ_ s'=> ∃σ' H',Inv X pins σ' H' s'/\Q σ' H') X.xe s
def PGs (X:Cx)(ts:List Expr)(t:TGs):Prop:=
 ∀ (pins:List (Addr×Obj)) (s:Shared) (σ:St) (H:Hp) (vs:List V) (us:List Value) (Q:St->Hp->Prop),Inv X pins σ H s->Vals vs us->t vs σ H Q->
  wpAny (model X.prog X.w) X.A (assignInOrder ((assignEach ts X.env).map (·.2)) us) (λ_ s'=> ∃σ' H',Inv X pins σ' H' s'/\Q σ' H') X.xe s
abbrev Nn:=V->V->V->Hp->(Hp->Prop)->Prop
def BI (X:Cx)(t:Nn):Prop:=
 ∀ (pins:List (Addr×Obj)) (s:Shared) (σ:St) (H:Hp) (o i v:V) (ov iv u:Value) (Q:Hp->Prop),Inv X pins σ H s->RelV o ov->RelV i iv->RelV v u->t o i v H Q->
  wpAny (model X.prog X.w) X.A (setItem ov iv u) (λ_ s'=> ∃H',Inv X pins σ H' s'/\Q H') X.xe s
section
variable {X:Cx}{pos:Pos}
def wF (i:Nat):TG:=λv σ H Q=>Q (σ.set i (some v)) H
theorem yJ {i:Nat}{x:Str}(hN:X.N.Nodup)(hi:X.N[i]? =some x)(hx:Loc X.env.scope x)(hf:X.fn x=true\/X.env.scope.names.lookup x=some .local:=by first|exact .inl rfl|exact .inr rfl|assumption):PG X (.Name x pos) (wF i):=by
 intro pins s σ H v u Q I r h;exact wpAny_assign_Name (vy I hN hi hx r (λs' I'=>⟨_,H,I',h⟩) hf)
def No:TGs:=λvs σ H Q=>vs= []/\Q σ H
def Uu (t:TG)(u:TGs):TGs:=λvs σ H Q=> ∃v r,vs=v::r/\t v σ H λσ' H'=>u r σ' H' Q
theorem Uv:PGs X [] No:=by
 intro pins s σ H vs us Q I r h;obtain⟨e,h⟩:=h;subst e;cases r;exact assignInOrder_nil ⟨σ,H,I,h⟩
theorem vz {e:Expr}{es:List Expr}{t:TG}{u:TGs}(h1:PG X e t)(h2:PGs X es u)
 (hs:(assignEach (e::es) X.env).map (·.2)=assign e X.env::(assignEach es X.env).map (·.2):=by rfl):PGs X (e::es) (Uu t u):=by
 intro pins s σ H vs us Q I r h;obtain⟨v,vr,e1,h⟩:=h;subst e1;cases r with
 |cons r rr=>
  rw [hs];refine O5 (thn (h1 pins s σ H _ _ _ I r h) λ_ s1 ⟨σ1,H1,I1,q1⟩=> ?_);exact h2 pins s1 σ1 H1 _ _ Q I1 rr q1
def Np (K:PySem.W.Frag)(n:Nat)(t:TGs):TG:=λv σ H Q=> ∃a xs,v= .ref a/\SqT K H a xs/\xs.length=n/\t xs σ H Q
theorem Gr {es:List Expr}{k:Nat}{t:TGs}{n:Nat}(hc:X.calm=true)(h:PGs X es t)
 (hn:(assignEach es X.env).length=n:=by rfl)(hst:(assignEach es X.env).findIdx? (·.1)=none:=by rfl):PG X (.Tuple es k pos) (Np X.K n t):=by
 intro pins s σ H v u Q I r hw;obtain⟨a,xs,e1,hq,hl,hw⟩:=hw;subst e1;cases r;obtain⟨its,rv,ht,hz⟩:=I.tuple hq;refine assign_Tuple_tuple (I.ok.hd hc) ht (by simp [hn,<-hl,rv.length]) hst λh' hx=> ?_
 have I1:Inv X pins σ H {s with heap:=h'}:=I.kept (t':=s.toks) λb o e=>hx b o (D5 (P3 e)) e
 exact h pins _ σ H xs _ Q I1 (by simpa using rv) hw
def Cj (to ti:TE)(t:Nn):TG:=λv σ H Q=>to σ H λo H1=>ti σ H1 λi H2=>t o i v H2 λH3=>Q σ H3
theorem Rg {o i:Expr}{to ti:TE}{t:Nn}(ho:PE X o to)(hi:PE X i ti)(hs:BI X t)
 (ha: ∀v,assign (.Subscript o i pos) X.env v=(do
  let ov <-holding [v] (eval o X.env)
  let iv <-holding [v,ov] (eval i X.env)
  standAt pos
  holding [v,ov,iv] (setItem ov iv v)
  release [v,ov,iv] []):=by intro _;rfl):PG X (.Subscript o i pos) (Cj to ti t):=by
 intro pins s σ H v u Q I r h;rw [ha];refine wpAny_bind (B4 (thn (ho pins s σ H _ I h) λov s1 ⟨x,H1,I1,r1,q1⟩=> ?_));refine wpAny_bind (B4 (thn (hi pins s1 σ H1 _ I1 q1) λiv s2 ⟨y,H2,I2,r2,q2⟩=> ?_));refine wpAny_bind (C4 (wpAny_bind (B4 (thn (hs pins s2 σ H2 x y v ov iv u _ I2 r1 r2 r q2) λ_ s3 ⟨H3,I3,q3⟩=> ?_))));exact wpAny_release ⟨σ,H3,I3,q3⟩
def GU (te:TE)(g:TG):TS:=λD σ H=>te σ H λx H1=>g x σ H1 D.nx
theorem Rh {tg e:Expr}{te:TE}{g:TG}(he:PE X e te)(hg:PG X tg g)(hs:swapsWithSole [tg] e pos.line X.env=pure false:=by rfl)(hw:swappedStores [tg] e X.env=pure none:=by rfl)
 (h1:(assignEach [tg] X.env).map (·.2)= [assign tg X.env]:=by rfl):PS X (.Assign [tg] e pos) (GU te g):=by
 intro pins s σ H D I h;refine wpAny_Assign_stores (thn (he pins s σ H _ I h) λv s1 ⟨x,H1,I1,r1,q1⟩=> ?_) hs hw;rw [h1];exact thn (hg pins s1 σ H1 x v _ I1 r1 q1) λ_ s2 q=>q
theorem Ri {i:Nat}{x:Str}{e:Expr}{te:TE}{pos':Pos}(hN:X.N.Nodup)(hi:X.N[i]? =some x)(hx:Loc X.env.scope x)(he:PE X e te)(hs:swapsWith e (some (.Name x pos')) pos.line X.env=pure false:=by rfl)(hf:X.fn x=true\/X.env.scope.names.lookup x=some .local:=by first|exact .inl rfl|exact .inr rfl|assumption):
 PS X (.Assign [.Name x pos'] e pos) (GU te (wF i)):=by
 intro pins s σ H D I h;refine wpAny_Assign_Name (thn (he pins s σ H _ I h) λv s1 ⟨y,H1,I1,r1,q1⟩=> ?_) hs;exact vy I1 hN hi hx r1 (λs2 I2=>⟨_,H1,I2,q1⟩) hf
def BJ (i j:Nat)(ta:TA):TS:=λD σ H=>ta σ H λvs H1=> ∃v w,vs= [v,w]/\D.nx ((σ.set i (some v)).set j (some w)) H1
theorem Rj {i j:Nat}{x y:Str}{a b:Expr}{ta:TA}{px py pt:Pos}{kt k2 pt2}(hc:X.calm=true)(hN:X.N.Nodup)(hi:X.N[i]? =some x)(hj:X.N[j]? =some y)(hij:i≠j)
 (hx:X.env.scope.names.lookup x=some .local)(hy:X.env.scope.names.lookup y=some .local)(ha:PA X [a,b] ta)
 (hw:swappedStores [.Tuple [.Name x px,.Name y py] kt pt] (.Tuple [a,b] k2 pt2) X.env=pure (some [x,y]))
 (hs:swapsWithSole [.Tuple [.Name x px,.Name y py] kt pt] (.Tuple [a,b] k2 pt2) pos.line X.env=pure false:=by rfl):
 PS X (.Assign [.Tuple [.Name x px,.Name y py] kt pt] (.Tuple [a,b] k2 pt2) pos) (BJ i j ta):=by
 intro pins s σ H D I h;rw [exec_Assign_arm];refine wpAny_bind (C4 ?_);rw [hs];refine wpAny_bind (P6 ?_);rw [if_neg (by decide)];refine wpAny_bind (Tuple_ (thn (ha _ pins s σ H _ I h) λus s1 ⟨vs,H1,I1,r1,q1⟩=> ?_));obtain⟨v,w,e1,q1⟩:=q1;subst e1;obtain⟨u1,u2,rfl,rv,rw'⟩: ∃u1 u2,us= [u1,u2]/\RelV v u1/\RelV w u2:=by
  cases r1 with
  |cons p q=>
   cases q with
   |cons p' q'=>
    cases q';exact⟨_,_,rfl,p,p'⟩
 refine M8 ?_ (by show 2<=sizeLine;decide);have I2:Inv X pins σ H1 {s1 with heap:=s1.heap.push {cls:= .type "tuple",data:= .seq [u1,u2].toArray}}:=I1.kept (t':=s1.toks) λb o e=>G3 _ e
 rw [hw];refine wpAny_bind (P6 ?_);show wpAny (model X.prog X.w) X.A (do rule "assign.swapped-stores";let items <-unpackItems (.ref s1.heap.objs.size) 2 none;assignInOrder [λv=>bindName X.env y v,λv=>bindName X.env x v] items.reverse;pure Flow.next) _ _ _;refine wpAny_bind (J6 (wpAny_bind (unpackItems_tuple (items:= #[u1,u2]) (I.ok.hd hc) (IsTup.new s1.heap _) λh' hx'=> ?_)));have I3:=I2.kept (h':=h') (t':=s1.toks) λb o e=>hx' b o (D5 (P3 e)) e
 show wpAny _ _ (assignInOrder [λv=>bindName X.env y v,λv=>bindName X.env x v] [u2,u1] >>= λ_=>pure Flow.next) _ _ _;refine wpAny_bind (O5 (wpAny_bindName (vy I3 hN hj (.inl hy) rw' (λs2 I4=> ?_) (.inr hy))));refine O5 (wpAny_bindName (vy I4 hN hi (.inl hx) rv (λs3 I5=>assignInOrder_nil (P6 ?_)) (.inr hx)));rw [List.set_comm _ _ (Ne.symm hij)] at I5;exact⟨_,H1,I5,q1⟩
end
structure It where
 go:Nat->Hp->Prop
 yld:Nat->Hp->V->Hp->Prop
 stop:Nat->Hp->Prop
def Ui (X:Cx)(pins:List (Addr×Obj))(H:Hp)(b:Addr):Prop:=
 H b=none/\b≠X.env.locals/\b ∉ X.fs/\(b∈X.ex\/X.s₀.heap.objs.size<=b)/\(∀x c,X.env.cells.lookup x=some c->c≠b)/\ ∀p∈X.pn++pins,p.1≠b
theorem Inv.fpOk {pins:List (Addr×Obj)}{σ:St}{H':Hp}(I:Inv X pins σ H s)(hb:s.heap.objs.size<=b)(hn:H' b=none):Ui X pins H' b:=by
 refine⟨hn,B1 (G8 I.lt hb),I.nofs hb,.inr (D3 I.sz hb),λx c e z=> ?_,λp hp z=> ?_⟩
 ·obtain⟨v,q⟩:=I.cell x c e;exact absurd (G8 q.lt (by rw [z];exact hb)) (T4 _)
 ·exact absurd (G8 (P3 (I.pin p hp).1) (by rw [z];exact hb)) (T4 _)
structure Turn (P:Program)(w:World)(K:PySem.W.Frag)(tg:Expr)(J:It)(fp:List Addr)(it:Addr)(tn:Nat->Heap->Prop):Prop where
 mem:it∈fp
 obj: ∀i h,tn i h-> ∀b∈fp,∃o,h.get? b=some o/\ ∀v,o.data≠ .cell v
 keep: ∀i h h',tn i h->(∀b∈fp,∀o,h.get? b=some o->h'.get? b=some o)->tn i h'
 item: ∀ (X:Cx),X.prog=P->X.w=w->X.K=K->X.calm=true-> ∀ (i:Nat) (pins:List (Addr×Obj)) (s:Shared) (σ:St) (H:Hp) (E:Value->Shared->Prop),Inv X pins σ H s->(∀b∈fp,Ui X pins H b)->tn i s.heap->J.go i H->
  wpAny (model P w) X.A (pyNext (.ref it)) (λr s1=> ∃u,r=some u/\
   wpAny (model P w) X.A (letOwnedTupleGo tg (.ref it) u) (λ_ s2=> ∃x H',Inv X pins σ H' s2/\RelV x u/\J.yld i H x H'/\tn (i+1) s2.heap/\ ∀b∈fp,H' b=none) E s1) E s
 done: ∀ (X:Cx),X.prog=P->X.w=w->X.K=K->X.calm=true-> ∀ (i:Nat) (pins:List (Addr×Obj)) (s:Shared) (σ:St) (H:Hp) (E:Value->Shared->Prop),Inv X pins σ H s->(∀b∈fp,Ui X pins H b)->tn i s.heap->J.stop i H->
  wpAny (model P w) X.A (pyNext (.ref it)) (λr s1=>r=none/\Inv X pins σ H s1) E s
 self: ∀ (A:Around) (i:Nat) (s:Shared) (Q:Value->Shared->Prop) (E:Value->Shared->Prop),tn i s.heap->Q (.ref it) s->wpAny (model P w) A (pyIter (.ref it)) Q E s
abbrev TI:=St->Hp->(It->Hp->Prop)->Prop
def PIE (X:Cx)(pins:List (Addr×Obj))(σ:St)(tg:Expr)(R:It->Hp->Prop)(itv:Value)(s2:Shared):Prop:=
 ∃ (it:Addr) (fp:List Addr) (tn:Nat->Heap->Prop) (J:It) (H':Hp),itv= .ref it/\Inv X pins σ H' s2/\Turn X.prog X.w X.K tg J fp it tn/\tn 0 s2.heap/\(∀b∈fp,Ui X pins H' b)/\R J H'
def PI (X:Cx)(tg iter:Expr)(wi:TI):Prop:=
 ∀ (pins:List (Addr×Obj)) (s:Shared) (σ:St) (H:Hp) (R:It->Hp->Prop),Inv X pins σ H s->wi σ H R->
  wpAny (model X.prog X.w) X.A (eval iter X.env) (λv s1=>wpAny (model X.prog X.w) X.A (pyIter v) (PIE X pins σ tg R) X.xe s1) X.xe s
variable {tg:Expr}
theorem GV {M : Model} {E : Value → Shared → Prop} {it : Addr} {o : Obj} {n : String} {vs : Array Value} {Q : Unit → Shared → Prop} (ho : s.heap.get? it = some o) (hc : o.cls = .type n) (hd : o.data = .fields vs)
    (hn : ["enumerate", "zip", "dict_itemiterator", "dict_reverseitemiterator", "odict_iterator", "itertools.zip_longest", "itertools.pairwise"].contains n = false) (hQ : Q () s) : wpAny M A (letOwnedTupleGo tg (.ref it) u) Q E s := by
  unfold letOwnedTupleGo
  cases tg <;> first
    | exact P6 hQ
    | (cases u <;> first
        | exact P6 hQ
        | (refine wpAny_bind (wpAny_load ho ?_)
           rw [hc, hd]
           show wpAny M A (if (["enumerate", "zip", "dict_itemiterator", "dict_reverseitemiterator", "odict_iterator", "itertools.zip_longest", "itertools.pairwise"].contains n && vs[0]? == some (rawInt _)) = true then _ else _) Q E s
           rw [if_neg (by intro h; rw [hn, N9] at h; cases h)]
           exact P6 hQ))
def Itl (K:PySem.W.Frag)(a:Addr):It:=
 ⟨λi H=> ∃xs x,SqL K H a xs/\xs[i]? =some x,λi H x H'=>H'=H/\ ∀xs,SqL K H a xs->xs[i]? =some x,λi H=> ∃xs,SqL K H a xs/\xs.length<=i⟩
def Itt (K:PySem.W.Frag)(a:Addr):It:=
 ⟨λi H=> ∃xs x,SqT K H a xs/\xs[i]? =some x,λi H x H'=>H'=H/\ ∀xs,SqT K H a xs->xs[i]? =some x,λi H=> ∃xs,SqT K H a xs/\xs.length<=i⟩
def Itr (lo:Int)(n:Nat):It:=⟨λi _=>i<n,λi H x H'=>H'=H/\x= .int (lo+i),λi _=>n<=i⟩
variable {K:PySem.W.Frag}
theorem ZL (a it:Addr):Turn P w K tg (Itl K a) [it] it (λi h=>h.IsListIter it a i) where
 mem:=by simp
 obj:=λi h st b hb=>by
  have e:b=it:=by simpa using hb
  subst e;obtain⟨o,e,c,d⟩:=st;exact⟨o,e,λv z=>by rw [d] at z;cases z⟩
 keep:=λi h h' st k=>st.at λo e=>k it (by simp) o e
 item:=by
  intro X hP hw hK hc i pins s σ H E I hf st hg;subst hP hw hK;obtain⟨xs,x,hq,hx⟩:=hg;obtain⟨its,rv,p,hz⟩:=I.list hq;obtain⟨u,hu,ru⟩:=rv.get hx;obtain⟨f0,f1,f2,f3,f4,f5⟩:=hf it (by simp);refine wpAny_pyNext_list_item st p.isList (x:=u) (by simpa using hu) λh' st' sb=> ?_
  have I1:Inv X pins σ H {s with heap:=h'}:=I.turned (t':=s.toks) (λb o hb e=>(sb.2 b hb).trans e) f0 f1 f3 f4 f5;obtain⟨o,e,c,d⟩:=id st';exact⟨u,rfl,GV (s:= {s with heap:=h'}) e c d (by decide) ⟨x,H,I1,ru,⟨rfl,λys hy=>by rw [I.list_inj hy hq];exact hx⟩,st',λb hb=>(hf b hb).1⟩⟩
 done:=by
  intro X hP hw hK hc i pins s σ H E I hf st hg;subst hP hw hK;obtain⟨xs,hq,hx⟩:=hg;obtain⟨its,rv,p,hz⟩:=I.list hq;obtain⟨f0,f1,f2,f3,f4,f5⟩:=hf it (by simp);have hl:=rv.length;exact wpAny_pyNext_list_end (I.ok.hd hc) st p.isList (by simp;omega) λh' eb=>⟨rfl,I.turned (t':=s.toks) (λb o hb e=>eb b o hb e) f0 f1 f3 f4 f5⟩
 self:=λ_ _ _ _ _ st h=>wpAny_pyIter_listiter st h
theorem VE (a it:Addr):Turn P w K tg (Itt K a) [it] it (λi h=>h.IsTupleIter it a i) where
 mem:=by simp
 obj:=λi h st b hb=>by
  have e:b=it:=by simpa using hb
  subst e;obtain⟨o,e,c,d⟩:=st;exact⟨o,e,λv z=>by rw [d] at z;cases z⟩
 keep:=λi h h' st k=>st.at λo e=>k it (by simp) o e
 item:=by
  intro X hP hw hK hc i pins s σ H E I hf st hg;subst hP hw hK;obtain⟨xs,x,hq,hx⟩:=hg;obtain⟨its,rv,p,hz⟩:=I.tuple hq;obtain⟨u,hu,ru⟩:=rv.get hx;obtain⟨f0,f1,f2,f3,f4,f5⟩:=hf it (by simp);refine wpAny_pyNext_tuple_item st (show s.heap.IsTuple a its.toArray from p) (x:=u) (by simpa using hu) λh' st' sb=> ?_
  have I1:Inv X pins σ H {s with heap:=h'}:=I.turned (t':=s.toks) (λb o hb e=>(sb.2 b hb).trans e) f0 f1 f3 f4 f5;obtain⟨o,e,c,d⟩:=id st';exact⟨u,rfl,GV (s:= {s with heap:=h'}) e c d (by decide) ⟨x,H,I1,ru,⟨rfl,λys hy=>by rw [I.tuple_inj hy hq];exact hx⟩,st',λb hb=>(hf b hb).1⟩⟩
 done:=by
  intro X hP hw hK hc i pins s σ H E I hf st hg;subst hP hw hK;obtain⟨xs,hq,hx⟩:=hg;obtain⟨its,rv,p,hz⟩:=I.tuple hq;obtain⟨f0,f1,f2,f3,f4,f5⟩:=hf it (by simp);have hl:=rv.length;exact wpAny_pyNext_tuple_end (I.ok.hd hc) st (show s.heap.IsTuple a its.toArray from p) (by simp;omega) λh' eb=>⟨rfl,I.turned (t':=s.toks) (λb o hb e=>eb b o hb e) f0 f1 f3 f4 f5⟩
 self:=λ_ _ _ _ _ st h=>wpAny_pyIter_tupleiter st h
theorem VF (it:Addr)(lo:Int)(n:Nat):Turn P w K tg (Itr lo n) [it] it (λi h=>IsRangeIter h it (lo+(i:Nat)*1) ((n:Int)-(i:Nat)) 1) where
 mem:=by simp
 obj:=λi h st b hb=>by
  have e:b=it:=by simpa using hb
  subst e;exact⟨_,st,λv z=>by
   have z':Data.fields _=Data.cell v:=z;cases z'⟩
 keep:=λi h h' st k=>k it (by simp) _ st
 item:=by
  intro X hP hw hK hc i pins s σ H E I hf st hg;subst hP hw hK;obtain⟨f0,f1,f2,f3,f4,f5⟩:=hf it (by simp);have W:=Walks.range (prog:=X.prog) (w:=X.w) (I.ok.hd hc) it lo 1 n;refine W.item i s _ _ hg st λv h' tk hv st' kk=> ?_
  obtain⟨t,rfl⟩:=hv;have I1:Inv X pins σ H {s with heap:=h',toks:=tk}:=I.turned (λb o hb e=>kk b o (by simpa using hb) e) f0 f1 f3 f4 f5;refine⟨_,rfl,GV (s:= {s with heap:=h',toks:=tk}) (n:= "range_iterator") st' rfl rfl (by decide) ⟨.int (lo+i),H,I1,⟨t,?_⟩,⟨rfl,rfl⟩,st',λb hb=>(hf b hb).1⟩⟩;rw [Int.mul_one]
 done:=by
  intro X hP hw hK hc i pins s σ H E I hf st hg;subst hP hw hK;obtain⟨f0,f1,f2,f3,f4,f5⟩:=hf it (by simp);exact wpAny_pyNext_range_end (I.ok.hd hc) st (by have:n<=i:=hg;omega) λh' eb=>⟨rfl,I.turned (t':=s.toks) (λb o hb e=>eb b o hb e) f0 f1 f3 f4 f5⟩
 self:=λ_ _ _ _ _ st h=>wpAny_pyIter_rangeiter st h
section
variable {X:Cx}{tg:Expr}
def Rk (K:PySem.W.Frag)(tl:TE):TI:=λσ H R=>tl σ H λx H1=> ∃a,x= .ref a/\(∃xs,SqL K H1 a xs)/\R (Itl K a) H1
theorem GW {l:Expr}{tl:TE}(hl:PE X l tl):PI X tg l (Rk X.K tl):=by
 intro pins s σ H R I h;refine thn (hl pins s σ H _ I h) λv s1 ⟨x,H1,I1,r1,q1⟩=> ?_
 obtain⟨a,e,⟨xs,hq⟩,q⟩:=q1;subst e;cases r1;obtain⟨its,rv,p,hz⟩:=I1.list hq;refine A0 p.isList ?_;refine⟨s1.heap.objs.size,[s1.heap.objs.size],_,_,H1,rfl,I1.kept (t':=s1.toks) λb o e=>G3 _ e,ZL a _,⟨_,D4 _ rfl,rfl,rfl⟩,λb hb=> ?_,q⟩;have e:b=s1.heap.objs.size:=by simpa using hb
 subst e;exact I1.fpOk (G4 _) (I1.hok.fresh (G4 _))
variable {pins:List (Addr×Obj)}
theorem Vd {σ:St}{H:Hp}{s:Shared}{R:It->Hp->Prop}{E:Value->Shared->Prop}{lo hi:Int}{t u v:Tok}{tk:Nat}(I:Inv X pins σ H s)(h1: -(2^62)<=lo)(h2:lo<2^62)(h3: -(2^62)<=hi)(h4:hi<2^62)
 (q:R (Itr lo (hi-lo).toNat) H):wpAny (model X.prog X.w) X.A (pyIter (.ref s.heap.objs.size)) (PIE X pins σ tg R) E {s with heap:=s.heap.push {cls:= .type "range",data:= .fields #[.int lo t,.int hi u,.int 1 v]},toks:=tk}:=by
 refine wpAny_pyIter_range (IsRange.new ..) (small_one h1 h2 h3 h4) ?_;have I1:Inv X pins σ H {s with heap:=s.heap.push {cls:= .type "range",data:= .fields #[.int lo t,.int hi u,.int 1 v]},toks:=tk}:=I.kept λb o e=>G3 _ e
 refine⟨(s.heap.push {cls:= .type "range",data:= .fields #[.int lo t,.int hi u,.int 1 v]}).objs.size,[(s.heap.push {cls:= .type "range",data:= .fields #[.int lo t,.int hi u,.int 1 v]}).objs.size],_,_,H,rfl,
  I1.kept (t':=tk) λb o e=>G3 _ e,VF _ lo (hi-lo).toNat,?_,λb hb=> ?_,q⟩
 ·have e1:lo+((0:Nat):Int)*1=lo:=by simp
  have e2:(((hi-lo).toNat:Nat):Int)-((0:Nat):Int)=Builtin.Range.rangeSize lo hi 1:=by rw [rangeSize_one];split<;>omega
  show IsRangeIter _ _ (lo+((0:Nat):Int)*1) ((((hi-lo).toNat:Nat):Int)-((0:Nat):Int)) 1;rw [e1,e2];exact D4 _ rfl
 ·have e:b=(s.heap.push {cls:= .type "range",data:= .fields #[.int lo t,.int hi u,.int 1 v]}).objs.size:=by simpa using hb
  subst e;exact I1.fpOk (G4 _) (I1.hok.fresh (G4 _))
def Rl (ta:TA):TI:=λσ H R=>ta σ H λvs H1=> ∃j:Int,vs= [.int j]/\ -(2^62)<=j/\j<2^62/\R (Itr 0 j.toNat) H1
def Rm (ta:TA):TI:=λσ H R=>ta σ H λvs H1=> ∃i j:Int,vs= [.int i,.int j]/\(-(2^62)<=i/\i<2^62/\ -(2^62)<=j/\j<2^62)/\R (Itr i (j-i).toNat) H1
theorem Uw {a:Expr}{ta:TA}{p pos:Pos}(hg:Gl X "range")(hm:X.mg "range" =none)(ha:PA X [a] ta)(hs:starEach [a] X.env= [(false,eval a X.env)]:=by rfl):PI X tg (.Call (.Name "range" p) [a] [] pos) (Rl ta):=by
 intro pins s σ H R I h;refine Call_ (Jy I hg hm boot_range (T8 (thn (ha pos pins s σ H _ I h) λus s1 ⟨vs,H1,I1,r1,q1⟩=> ?_) hs rfl));obtain⟨j,e,q1,q2,q⟩:=q1;subst e;cases r1 with
 |cons r rr=>
  cases rr;obtain⟨t,rfl⟩:=r;exact call_range_1 (Vd I1 (by omega) (by omega) q1 q2 (by simpa using q))
theorem Ux {a b:Expr}{ta:TA}{p pos:Pos}(hg:Gl X "range")(hm:X.mg "range" =none)(ha:PA X [a,b] ta)(hs:starEach [a,b] X.env= [(false,eval a X.env),(false,eval b X.env)]:=by rfl)(hs2:starEach [b] X.env= [(false,eval b X.env)]:=by rfl):
 PI X tg (.Call (.Name "range" p) [a,b] [] pos) (Rm ta):=by
 intro pins s σ H R I h;refine Call_ (Jy I hg hm boot_range (T8 (thn (ha pos pins s σ H _ I h) λus s1 ⟨vs,H1,I1,r1,q1⟩=> ?_) (by rw [hs,hs2]) (by rw [hs2];rfl)));obtain⟨i,j,e,⟨q1,q2,q3,q4⟩,q⟩:=q1;subst e;cases r1 with
 |cons r rr=>
  cases rr with
  |cons r' rr=>
   cases rr;obtain⟨t,rfl⟩:=r;obtain⟨t',rfl⟩:=r';exact call_range_2 (Vd I1 q1 q2 q3 q4 q)
def BK (wi:TI)(g:TG)(tb:TS):TS:=λD σ H=>wi σ H λJ H1=> ∃W:Nat->Nat->St->Hp->Prop,(∃m,W 0 m σ H1)/\ ∀i m σ H,W i m σ H->
 (J.stop i H/\D.nx σ H)\/(J.go i H/\ ∃N:St->Hp->Prop,(∀σ' H',N σ' H'-> ∃m',m'<m/\W (i+1) m' σ' H')/\ ∀x H',J.yld i H x H'->g x σ H' λσ2 H2=>tb {D with nx:=N,ct:=N,bk:=D.nx} σ2 H2)
def wM (fp:List Addr)(h:Heap):List (Addr×Obj):=fp.filterMap λb=>(h.get? b).map λo=>(b,o)
theorem zq {fp:List Addr}{h:Heap}{b:Addr}{o:Obj}(hb:b∈fp)(e:h.get? b=some o):(b,o)∈wM fp h:=C5.mpr ⟨b,hb,by rw [e];rfl⟩
theorem vI {fp:List Addr}{h:Heap}{p:Addr×Obj}(hp:p∈wM fp h):p.1∈fp/\h.get? p.1=some p.2:=by
 obtain⟨b,hb,e⟩:=C5.mp hp;cases q:h.get? b with
 |none=>rw [q] at e;cases e
 |some o=>
  rw [q] at e;have e':(b,o)=p:=R7 e;subst e';exact⟨hb,q⟩
theorem Inv.pinned {σ:St}{H:Hp}{s:Shared}{fp:List Addr}(I:Inv X pins σ H s)(hf: ∀b∈fp,Ui X pins H b)(ho: ∀b∈fp,∃o,s.heap.get? b=some o/\ ∀v,o.data≠ .cell v):Inv X (pins++wM fp s.heap) σ H s:=
 I.pins_of λp hp=>(P9.mp hp).elim (λz=>I.pin p (G1 _ z)) λz=>by
  obtain⟨hb,e⟩:=vI z;obtain⟨f0,f1,f2,_⟩:=hf p.1 hb;obtain⟨o,e',d⟩:=ho p.1 hb;rw [e] at e';cases e';exact⟨e,f0,f1,f2,d⟩
theorem Inv.unpinned {pl:List (Addr×Obj)}{σ:St}{H:Hp}{s:Shared}(I:Inv X (pins++pl) σ H s):Inv X pins σ H s:=I.pins_of λp hp=>I.pin p (G1 _ (D6 _ hp))
theorem Rn {iter:Expr}{body:List Stmt}{wi:TI}{g:TG}{tb:TS}{pos:Pos}(hp:PassesOwn (model X.prog X.w) X.A X.env X.xe)(hc:X.calm=true)(hi:PI X tg iter wi)(hg:PG X tg g)(hb:PSs X body tb)
 (hs: ∀x,foldedSetIterable iter X.env x=pure x:=by intro _;rfl):PS X (.For tg iter body [] pos) (BK wi g tb):=by
 intro pins s σ H D I h;refine wpAny_For (thn (hi pins s σ H _ I h) λv s1 h1=>thn h1 λitv s2 h2=> ?_) hs;obtain⟨it,fp,tn,J,H2,e,I2,T,st2,f2,W,⟨m0,w0⟩,turn⟩:=h2;subst e
 -- what stays true of the iterator's objects through the loop
 have stat: ∀ {H':Hp},(∀b∈fp,H' b=none)-> ∀b∈fp,Ui X pins H' b:=λhn b hb=>⟨hn b hb,(f2 b hb).2⟩
 refine codeAny_forLoop_any (λn s'=> ∃i σ' H',Inv X pins σ' H' s'/\tn i s'.heap/\(∀b∈fp,H' b=none)/\W i n σ' H') ?_ m0 ⟨0,σ,H2,I2,st2,λb hb=>(f2 b hb).1,w0⟩;rintro n s3 ⟨i,σ3,H3,I3,st3,fr3,w3⟩;rcases turn i n σ3 H3 w3 with ⟨stop,qn⟩|⟨go,N,hN,step⟩
 ·refine C6 hp (thn (T.done X rfl rfl rfl hc i pins s3 σ3 H3 X.xe I3 (stat fr3) st3 stop) λr s4 ⟨hr,I4⟩=> ?_);subst hr;exact E5 ⟨σ3,H3,I4,qn⟩
 ·refine C6 hp (thn (T.item X rfl rfl rfl hc i pins s3 σ3 H3 X.xe I3 (stat fr3) st3 go) λr s4 ⟨u,hr,h4⟩=> ?_);subst hr;refine C6 hp (thn h4 λ_ s5 ⟨x,H5,I5,r5,y5,st5,fr5⟩=> ?_);have I5':=I5.pinned (stat fr5) (T.obj _ _ st5);refine C6 hp (thn (hg _ s5 σ3 H5 x u _ I5' r5 (step x H5 y5)) λ_ s6 ⟨σ6,H6,I6,q6⟩=> ?_);refine C6 hp (thn (hb _ s6 σ6 H6 _ I6 q6) λf s7 q7=> ?_);have again: ∀ {σ7:St} {H7:Hp},Inv X (pins++wM fp s5.heap) σ7 H7 s7->N σ7 H7-> ∃m,m<n/\ ∃i σ' H',Inv X pins σ' H' s7/\tn i s7.heap/\(∀b∈fp,H' b=none)/\W i m σ' H':=λ{σ7 H7} I7 n7=>by
   obtain⟨m',hm,w7⟩:=hN σ7 H7 n7;refine⟨m',hm,i+1,σ7,H7,I7.unpinned,T.keep _ _ _ st5 λb hb o e=>(I7.pin (b,o) (G1 _ (G1 _ (zq hb e)))).1,λb hb=> ?_,w7⟩;obtain⟨o,e,d⟩:=T.obj _ _ st5 b hb;exact(I7.pin (b,o) (G1 _ (G1 _ (zq hb e)))).2.1
  cases f with
  |next=>obtain⟨σ7,H7,I7,n7⟩:=q7;exact again I7 n7
  |cont=>obtain⟨σ7,H7,I7,n7⟩:=q7;exact again I7 n7
  |brk=>obtain⟨σ7,H7,I7,q7⟩:=q7;exact⟨σ7,H7,I7.unpinned,q7⟩
  |ret v=>obtain⟨x7,σ7,H7,I7,r7,q7⟩:=q7;exact⟨x7,σ7,H7,I7.unpinned,r7,q7⟩
end
abbrev R2:=V->V->Hp->VK->Prop
def OpR (X:Cx)(f:Value->Value->Sem Value)(r:R2):Prop:=
 ∀ (pins:List (Addr×Obj)) (s:Shared) (σ:St) (H:Hp) (x y:V) (v u:Value) (Q:VK),Inv X pins σ H s->RelV x v->RelV y u->r x y H Q->
  wpAny (model X.prog X.w) X.A (f v u) (EP X pins σ Q) X.xe s
def UnR (X:Cx)(f:Value->Sem Value)(r:V->Hp->VK->Prop):Prop:=
 ∀ (pins:List (Addr×Obj)) (s:Shared) (σ:St) (H:Hp) (x:V) (v:Value) (Q:VK),Inv X pins σ H s->RelV x v->r x H Q->
  wpAny (model X.prog X.w) X.A (f v) (EP X pins σ Q) X.xe s
def CallR (X:Cx)(f:Value)(r:List V->Hp->VK->Prop):Prop:=
 ∀ (pins:List (Addr×Obj)) (s:Shared) (σ:St) (H:Hp) (xs:List V) (us:List Value) (Q:VK),Inv X pins σ H s->Vals xs us->r xs H Q->
  wpAny (model X.prog X.w) X.A (call f us) (EP X pins σ Q) X.xe s
def tOp (r:R2)(ta tb:TE):TE:=λσ H Q=>ta σ H λx H1=>tb σ H1 λy H2=>r x y H2 Q
def tUn (r:V->Hp->VK->Prop)(ta:TE):TE:=λσ H Q=>ta σ H λx H1=>r x H1 Q
def rI (C:Int->Int->Prop)(g:Int->Int->V):R2:=λx y H Q=> ∃i j,x= .int i/\y= .int j/\C i j/\Q (g i j) H
def rI0 (g:Int->Int->V):R2:=λx y H Q=> ∃i j,x= .int i/\y= .int j/\Q (g i j) H
def rU (g:Int->V):V->Hp->VK->Prop:=λx H Q=> ∃i,x= .int i/\Q (g i) H
section
variable {X:Cx}{a b c:Expr}{ta tb tc:TE}{pos:Pos}
theorem Nq (ha:PE X a ta)(hb:PE X b tb){pins:List (Addr×Obj)}{s:Shared}{σ:St}{H:Hp}{R:V->V->Hp->Prop}(I:Inv X pins σ H s)
 (h:ta σ H λx H1=>tb σ H1 λy H2=>R x y H2){Q:Value->Shared->Prop}{f:Value->Value->Sem Value}
 (hf: ∀v u s2 x y H2,Inv X pins σ H2 s2->RelV x v->RelV y u->R x y H2->wpAny (model X.prog X.w) X.A (f v u) Q X.xe s2):
 wpAny (model X.prog X.w) X.A (eval a X.env) (λv s₁=>wpAny (model X.prog X.w) X.A (eval b X.env) (λu s₂=>wpAny (model X.prog X.w) X.A (f v u) Q X.xe s₂) X.xe s₁) X.xe s:=by
 refine thn (ha pins s σ H _ I h) λv s1 ⟨x,H1,I1,r1,q1⟩=> ?_
 refine thn (hb pins s1 σ H1 _ I1 q1) λu s2 ⟨y,H2,I2,r2,q2⟩=> ?_
 exact hf v u s2 x y H2 I2 r1 r2 q2
theorem Nr {op:Operator}{r:R2}(ho:OpR X (binaryOp op) r)(ha:PE X a ta)(hb:PE X b tb):PE X (.BinOp a op b pos) (tOp r ta tb):=by
 intro pins s σ H Q I h;exact wpAny_BinOp (Nq ha hb I h λv u s2 x y H2 I2 rx ry q=>ho pins s2 σ H2 x y v u Q I2 rx ry q)
theorem Nt {op:UnaryOp}{r:V->Hp->VK->Prop}(ho:UnR X (unaryOp op) r)(ha:PE X a ta):PE X (.UnaryOp op a pos) (tUn r ta):=by
 intro pins s σ H Q I h;exact UnaryOp_ (thn (ha pins s σ H _ I h) λv s1 ⟨x,H1,I1,r1,q1⟩=>ho pins s1 σ H1 x v Q I1 r1 q1)
variable {f:Value->Value->Sem Value}
theorem opI {C:Int->Int->Prop}{g:Int->Int->Int}
 (rule: ∀ (i j:Int) (t u:Tok) (s:Shared) (Q:Value->Shared->Prop) (E:Value->Shared->Prop),C i j->Q (.int (g i j) s.toks) {s with toks:=s.toks+1}->wpAny (model X.prog X.w) X.A (f (.int i t) (.int j u)) Q E s):
 OpR X f (rI C λi j=> .int (g i j)):=by
 intro pins s σ H x y v u Q I rx ry h;obtain⟨i,j,rfl,rfl,hc,q⟩:=h;obtain⟨t,rfl⟩:=rx;obtain⟨t',rfl⟩:=ry;exact rule i j t t' s _ _ hc ⟨.int (g i j),H,I.tok _,⟨_,rfl⟩,q⟩
theorem BL {g:Int->Int->Int}
 (rule: ∀ (i j:Int) (t u:Tok) (s:Shared) (Q:Value->Shared->Prop) (E:Value->Shared->Prop),Q (.int (g i j) s.toks) {s with toks:=s.toks+1}->wpAny (model X.prog X.w) X.A (f (.int i t) (.int j u)) Q E s):
 OpR X f (rI0 λi j=> .int (g i j)):=by
 intro pins s σ H x y v u Q I rx ry h;obtain⟨i,j,rfl,rfl,q⟩:=h;obtain⟨t,rfl⟩:=rx;obtain⟨t',rfl⟩:=ry;exact rule i j t t' s _ _ ⟨.int (g i j),H,I.tok _,⟨_,rfl⟩,q⟩
theorem Nf {g:Int->Int->Bool}
 (rule: ∀ (i j:Int) (t u:Tok) (s:Shared) (Q:Value->Shared->Prop) (E:Value->Shared->Prop),Q (.bool (g i j)) s->wpAny (model X.prog X.w) X.A (f (.int i t) (.int j u)) Q E s):
 OpR X f (rI0 λi j=> .bl (g i j)):=by
 intro pins s σ H x y v u Q I rx ry h;obtain⟨i,j,rfl,rfl,q⟩:=h;obtain⟨t,rfl⟩:=rx;obtain⟨t',rfl⟩:=ry;exact rule i j t t' s _ _ ⟨.bl (g i j),H,I,rfl,q⟩
def BM (i j:Int):Prop:=0<j/\j<1073741824
def BN (i j:Int):Prop:=0<=j/\j<=1000000/\i.natAbs<2^64
def CMul (i j:Int):Prop:=(-(2^64)<i/\i<2^64)\/(-(2^64)<j/\j<2^64)
theorem CMul.ok {i j:Int}(h:CMul i j):IntMulOk i j:=by
 rcases h with ⟨h1,h2⟩|⟨h1,h2⟩
 ·exact .of_left (intBits_le_64 h1 h2)
 ·exact .of_right (intBits_le_64 h1 h2)
theorem op_add:OpR X (binaryOp .Add) (rI0 λi j=> .int (i+j)):=BL λ_ _ _ _ _ _ _ q=>add_int q
theorem Ro:OpR X (binaryOp .Sub) (rI0 λi j=> .int (i-j)):=BL λ_ _ _ _ _ _ _ q=>sub_int q
theorem op_mul:OpR X (binaryOp .Mult) (rI CMul λi j=> .int (i*j)):=opI λ_ _ _ _ _ _ _ hc q=>mul_int q hc.ok
theorem GX:OpR X (binaryOp .FloorDiv) (rI BM λi j=> .int (i / j)):=opI λi j _ _ _ _ _ hc q=>by
 have h1:(0:Int)<j:=hc.1;have h2:j<1073741824:=hc.2;exact floordiv_int (by omega) (by rw [O1 i (by omega)];exact q) (.inl (PyProof.noPylong_small (by omega)))
theorem Rp:OpR X (binaryOp .Mod) (rI (λ_ j=>0<j) λi j=> .int (i%j)):=opI λi j _ _ _ _ _ hc q=>by
 have h1:(0:Int)<j:=hc;exact mod_int' (by omega) (by rw [O2 i (by omega)];exact q)
theorem Rq:OpR X (binaryOp .Pow) (rI BN λi j=> .int (i^j.toNat)):=opI λ_ _ _ _ _ _ _ hc q=>pow_int_small hc.1 hc.2.1 hc.2.2 q
theorem unI {f:Value->Sem Value}{g:Int->Int}
 (rule: ∀ (i:Int) (t:Tok) (s:Shared) (Q:Value->Shared->Prop) (E:Value->Shared->Prop),Q (.int (g i) s.toks) {s with toks:=s.toks+1}->wpAny (model X.prog X.w) X.A (f (.int i t)) Q E s):
 UnR X f (rU λi=> .int (g i)):=by
 intro pins s σ H x v Q I rx h;obtain⟨i,rfl,q⟩:=h;obtain⟨t,rfl⟩:=rx;exact rule i t s _ _ ⟨.int (g i),H,I.tok _,⟨_,rfl⟩,q⟩
theorem Rr:UnR X (unaryOp .USub) (rU λi=> .int (-i)):=unI λ_ _ _ _ _ q=>neg_int q
end
def BO:V->V->Bool
 | .non,.non=>true| .non,.int _=>true| .int _,.non=>true| .non,.bl _=>true| .bl _,.non=>true| .non,.str _=>true| .str _,.non=>true
 | .int _,.int _=>true| .bl _,.bl _=>true| .str _,.str _=>true| .byt _,.byt _=>true
 | .int _,.str _=>true| .str _,.int _=>true| .bl _,.str _=>true| .str _,.bl _=>true
 |_,_=>false
def rEq:R2:=λx y H Q=>BO x y=true/\Q (.bl (decide (x=y))) H
def rNe:R2:=λx y H Q=>BO x y=true/\Q (.bl (!decide (x=y))) H
theorem Uy {i j:Int}:decide (V.int i=V.int j)=(i==j):=by
 rw [L3];simp
theorem Gs {i j:Bool}:decide (V.bl i=V.bl j)=(i==j):=by
 rw [L3];simp
theorem Uz {i j:Str}:decide (V.str i=V.str j)=(i==j):=by
 rw [L3];simp
theorem UA {i j:Array UInt8}:decide (V.byt i=V.byt j)=(i.toList==j.toList):=by
 rw [L3];cases i;cases j;simp
section
variable {X:Cx}{a b c:Expr}{ta tb tc:TE}{pos:Pos}
theorem jD {pins:List (Addr×Obj)}{σ:St}{H:Hp}{s:Shared}{Q:VK}{k k':Bool}(I:Inv X pins σ H s)(q:Q (.bl k) H)(e:k=k'):EP X pins σ Q (.bool k') s:=by
 subst e;exact⟨.bl k,H,I,rfl,q⟩
theorem op_eq:OpR X (compareOp .Eq) rEq:=by
 intro pins s σ H x y v u Q I rx ry h;obtain⟨hs,q⟩:=h;cases x with
 |non=>
  cases rx;cases y with
  |non=>cases ry;exact PySem.EqNone.eq_none_none (jD I q (by simp))
  |bl j=>cases ry;exact PySem.EqNone.eq_none_bool (jD I q (by simp))
  |int j=>obtain⟨t',rfl⟩:=ry;exact PySem.EqNone.eq_none_int (jD I q (by simp))
  |str j=>obtain⟨t',rfl⟩:=ry;exact PySem.EqNone.eq_none_str (jD I q (by simp))
  |_=>exact absurd (show false=true from hs) G6
 |bl i=>
  cases rx;cases y with
  |non=>cases ry;exact PySem.EqNone.eq_bool_none (jD I q (by simp))
  |bl j=>cases ry;exact eq_bool (jD I q Gs)
  |str j=>obtain⟨t',rfl⟩:=ry;exact PySem.EqMixed.eq_bool_str (jD I q (by simp))
  |_=>exact absurd (show false=true from hs) G6
 |int i=>
  obtain⟨t,rfl⟩:=rx;cases y with
  |non=>cases ry;exact PySem.EqNone.eq_int_none (jD I q (by simp))
  |int j=>obtain⟨t',rfl⟩:=ry;exact eq_int (jD I q Uy)
  |str j=>obtain⟨t',rfl⟩:=ry;exact PySem.EqMixed.eq_int_str (jD I q (by simp))
  |_=>exact absurd (show false=true from hs) G6
 |str i=>
  obtain⟨t,rfl⟩:=rx;cases y with
  |non=>cases ry;exact PySem.EqNone.eq_str_none (jD I q (by simp))
  |bl j=>cases ry;exact PySem.EqMixed.eq_str_bool (jD I q (by simp))
  |int j=>obtain⟨t',rfl⟩:=ry;exact PySem.EqMixed.eq_str_int (jD I q (by simp))
  |str j=>obtain⟨t',rfl⟩:=ry;exact eq_str (jD I q Uz)
  |_=>exact absurd (show false=true from hs) G6
 |byt i=>
  obtain⟨t,rfl⟩:=rx;cases y with
  |byt j=>obtain⟨t',rfl⟩:=ry;exact PySem.W.eq_bytes (jD I q UA)
  |_=>exact absurd (show false=true from hs) G6
 |_=>cases y<;>exact absurd (show false=true from hs) G6
theorem op_ne:OpR X (compareOp .NotEq) rNe:=by
 intro pins s σ H x y v u Q I rx ry h;obtain⟨hs,q⟩:=h;cases x with
 |non=>
  cases rx;cases y with
  |non=>cases ry;exact PySem.EqNone.ne_none_none (jD I q (by simp))
  |bl j=>cases ry;exact PySem.EqNone.ne_none_bool (jD I q (by simp))
  |int j=>obtain⟨t',rfl⟩:=ry;exact PySem.EqNone.ne_none_int (jD I q (by simp))
  |str j=>obtain⟨t',rfl⟩:=ry;exact PySem.EqNone.ne_none_str (jD I q (by simp))
  |_=>exact absurd (show false=true from hs) G6
 |bl i=>
  cases rx;cases y with
  |non=>cases ry;exact PySem.EqNone.ne_bool_none (jD I q (by simp))
  |bl j=>cases ry;exact ne_bool (jD I q (congrArg not Gs))
  |str j=>obtain⟨t',rfl⟩:=ry;exact PySem.EqMixed.ne_bool_str (jD I q (by simp))
  |_=>exact absurd (show false=true from hs) G6
 |int i=>
  obtain⟨t,rfl⟩:=rx;cases y with
  |non=>cases ry;exact PySem.EqNone.ne_int_none (jD I q (by simp))
  |int j=>obtain⟨t',rfl⟩:=ry;exact ne_int (jD I q (congrArg not Uy))
  |str j=>obtain⟨t',rfl⟩:=ry;exact PySem.EqMixed.ne_int_str (jD I q (by simp))
  |_=>exact absurd (show false=true from hs) G6
 |str i=>
  obtain⟨t,rfl⟩:=rx;cases y with
  |non=>cases ry;exact PySem.EqNone.ne_str_none (jD I q (by simp))
  |bl j=>cases ry;exact PySem.EqMixed.ne_str_bool (jD I q (by simp))
  |int j=>obtain⟨t',rfl⟩:=ry;exact PySem.EqMixed.ne_str_int (jD I q (by simp))
  |str j=>obtain⟨t',rfl⟩:=ry;exact ne_str (jD I q (congrArg not Uz))
  |_=>exact absurd (show false=true from hs) G6
 |byt i=>
  obtain⟨t,rfl⟩:=rx;cases y with
  |byt j=>obtain⟨t',rfl⟩:=ry;exact PySem.W.ne_bytes (jD I q (congrArg not UA))
  |_=>exact absurd (show false=true from hs) G6
 |_=>cases y<;>exact absurd (show false=true from hs) G6
theorem Nu:OpR X (compareOp .Lt) (rI0 λi j=> .bl (decide (i<j))):=Nf λ_ _ _ _ _ _ _ q=>lt_int q
theorem Nv:OpR X (compareOp .LtE) (rI0 λi j=> .bl (decide (i<=j))):=Nf λ_ _ _ _ _ _ _ q=>le_int q
theorem Nw:OpR X (compareOp .Gt) (rI0 λi j=> .bl (decide (j<i))):=Nf λ_ _ _ _ _ _ _ q=>gt_int q
theorem Nx:OpR X (compareOp .GtE) (rI0 λi j=> .bl (decide (j<=i))):=Nf λ_ _ _ _ _ _ _ q=>ge_int q
variable {r:R2}
theorem OpR.or {f:Value->Value->Sem Value}{r':R2}(h:OpR X f r)(h':OpR X f r'):OpR X f (λx y H Q=>r x y H Q\/r' x y H Q):=by
 intro pins s σ H x y v u Q I rx ry q;rcases q with q|q
 ·exact h pins s σ H x y v u Q I rx ry q
 ·exact h' pins s σ H x y v u Q I rx ry q
theorem jE (b:Expr){op:CmpOp}(h:op≠ .In:=by decide)(h2:op≠ .NotIn:=by decide):behindInMarks op b=false:=by
 have e1:(op==CmpOp.In)=false:=by cases op<;>first|rfl|exact absurd rfl h
 have e2:(op==CmpOp.NotIn)=false:=by cases op<;>first|rfl|exact absurd rfl h2
 cases b<;>simp [behindInMarks,e1,e2]
variable {op:CmpOp}
theorem GY (ho:OpR X (compareOp op) r)(ha:PE X a ta)(hb:PE X b tb)(hm:behindInMarks op b=false):PE X (.Compare a [op] [b] pos) (tOp r ta tb):=by
 intro pins s σ H Q I h;exact wpAny_Compare1 (Nq ha hb I h λv u s2 x y H2 I2 rx ry q=>ho pins s2 σ H2 x y v u Q I2 rx ry q) hm
def GZ (t:TE):TT:=λσ H Q=>t σ H λx H'=> ∃k,x= .bl k/\Q k H'
theorem Pa (ho:OpR X (compareOp op) r)(ha:PE X a ta)(hb:PE X b tb)(hm:behindInMarks op b=false):PT X (.Compare a [op] [b] pos) (GZ (tOp r ta tb)):=by
 intro pins s σ H Q I h;refine wpAny_isTrue_Compare1 (thn (ha pins s σ H _ I h) λv s1 ⟨x,H1,I1,r1,q1⟩=>thn (hb pins s1 σ H1 _ I1 q1) λu s2 ⟨y,H2,I2,r2,q2⟩=>
  thn (ho pins s2 σ H2 x y v u _ I2 r1 r2 q2) λc s3 ⟨z,H3,I3,r3,k,e,q3⟩=> ?_) hm
 subst e;cases r3;exact S5 ⟨H3,I3,q3⟩
def UB (r r':R2)(ta tb tc:TE):TE:=λσ H Q=>ta σ H λx H1=>tb σ H1 λy H2=>r x y H2 λz H3=> ∃k,z= .bl k/\
 (if k=true then tc σ H3 λw' H4=>r' y w' H4 Q else Q (.bl false) H3)
theorem Qq {op':CmpOp}{r':R2}(ho:OpR X (compareOp op) r)(ho':OpR X (compareOp op') r')(ha:PE X a ta)(hb:PE X b tb)(hc:PE X c tc)
 (hm:lastMarks [op,op'] [b,c]=false:=by with_unfolding_all rfl):PE X (.Compare a [op,op'] [b,c] pos) (UB r r' ta tb tc):=by
 intro pins s σ H Q I h;refine Compare_chain (thn (ha pins s σ H _ I h) λv s1 ⟨x,H1,I1,r1,q1⟩=>chain_link (thn (hb pins s1 σ H1 _ I1 q1) λu s2 ⟨y,H2,I2,r2,q2⟩=>
  thn (ho pins s2 σ H2 x y v u _ I2 r1 r2 q2) λd s3 ⟨z,H3,I3,r3,k,e,q3⟩=> ?_)) hm
 subst e;cases r3;refine S5 ?_;cases k with
 |false=>exact ite_ff ⟨.bl false,H3,I3,rfl,q3⟩
 |true=>exact ite_tt (chain_last (thn (hc pins s3 σ H3 _ I3 q3) λw' s4 ⟨z',H4,I4,r4,q4⟩=>ho' pins s4 σ H4 y z' u w' Q I4 r2 r4 q4))
theorem Qr {op':CmpOp}{r':R2}(ho:OpR X (compareOp op) r)(ho':OpR X (compareOp op') r')(ha:PE X a ta)(hb:PE X b tb)(hc:PE X c tc)
 (hm:lastMarks [op,op'] [b,c]=false:=by with_unfolding_all rfl):PT X (.Compare a [op,op'] [b,c] pos) (GZ (UB r r' ta tb tc)):=by
 intro pins s σ H Q I h;refine isTrue_chain (thn (ha pins s σ H _ I h) λv s1 ⟨x,H1,I1,r1,q1⟩=>test_link (thn (hb pins s1 σ H1 _ I1 q1) λu s2 ⟨y,H2,I2,r2,q2⟩=>
  thn (ho pins s2 σ H2 x y v u _ I2 r1 r2 q2) λd s3 ⟨z,H3,I3,r3,k,e,q3⟩=> ?_)) hm
 subst e;cases r3;refine S5 ?_;cases k with
 |false=>
  obtain⟨k',e',q'⟩:=q3;cases e';exact ite_ff ⟨H3,I3,q'⟩
 |true=>
  refine ite_tt (test_last (thn (hc pins s3 σ H3 _ I3 q3) λw' s4 ⟨z',H4,I4,r4,q4⟩=>thn (ho' pins s4 σ H4 y z' u w' _ I4 r2 r4 q4) λd' s5 ⟨z2,H5,I5,r5,k2,e2,q5⟩=> ?_));subst e2;cases r5;exact S5 ⟨H5,I5,q5⟩
theorem ZM:(sizeLine:Nat)<2^63:=by rw [sizeLine_eq];decide
theorem Jq {x:V}{us:List Value}(r:Vals [x] us): ∃u,us= [u]/\RelV x u:=by
 cases r with
 |cons r1 r2=>cases r2;exact⟨_,rfl,r1⟩
theorem Qs {x y:V}{us:List Value}(r:Vals [x,y] us): ∃u w',us= [u,w']/\RelV x u/\RelV y w':=by
 cases r with
 |cons r1 r2=>
  cases r2 with
  |cons r3 r4=>cases r4;exact⟨_,_,rfl,r1,r3⟩
theorem UC (hc:X.calm=true):CallR X (.builtin "max") (λxs H Q=> ∃i j,xs= [.int i,.int j]/\Q (.int (if j>i then j else i)) H):=by
 intro pins s σ H xs us Q I r h;obtain⟨i,j,rfl,q⟩:=h;obtain⟨u,w',rfl,⟨t,rfl⟩,⟨t',rfl⟩⟩:=Qs r;refine max_two_ints (I.ok.hd hc) λh' tk k=>⟨_,H,I.kept k,?_,q⟩
 by_cases hj:j>i
 ·rw [if_pos hj,if_pos hj];exact⟨_,rfl⟩
 ·rw [if_neg hj,if_neg hj];exact⟨_,rfl⟩
theorem call_int1:CallR X (.type "int") (λxs H Q=>(∃i,xs= [.int i]/\Q (.int i) H)\/ ∃k,xs= [.bl k]/\Q (.int (if k then 1 else 0)) H):=by
 intro pins s σ H xs us Q I r h;rcases h with ⟨i,rfl,q⟩|⟨k,rfl,q⟩
 ·obtain⟨u,rfl,t,rfl⟩:=Jq r;exact call_int_int ⟨.int i,H,I,⟨_,rfl⟩,q⟩
 ·obtain⟨u,rfl,r1⟩:=Jq r;cases r1;exact call_int_bool ⟨.int (if k then 1 else 0),H,I.tok _,⟨_,rfl⟩,q⟩
end
structure ObjM (h:Heap)(x dx C:Addr)(mA:Str->Option Value):Prop where
 obj:h.get? x=some (PySem.W.instObj C dx)
 ns:h.Ns1 dx mA
 ne:dx≠x
theorem UD {dx:Addr}{mA:Str->Option Value}(n:h.Ns1 dx mA): ∃od,h.get? dx=some od/\ ∀name,PySem.W.lookIn name od=some (mA name):=by
 obtain⟨o,es,ep,ho,hd,hk,_,hm⟩:=n;refine⟨o,ho,λname=> ?_⟩;have e:=hm name;unfold nsFind findBy at e;rw [<-Array.find?_toList] at e;unfold PySem.W.lookIn;rw [hd];dsimp only;split
 ·rename_i y q;rw [q] at e;exact congrArg some e
 ·rename_i q;rw [q] at e;have a:es.toList.any (·.refKey)=false:=by
   rw [List.any_eq_false];intro y hy;obtain⟨z,t,hkey⟩:=hk y (Array.mem_toList_iff.mp hy);simp [DictEntry.refKey,hkey]
  have a': ¬es.toList.any (·.refKey)=true:=by rw [a];exact G6
  rw [if_neg a'];exact congrArg some e
theorem ObjM.look {x dx C:Addr}{mA:Str->Option Value}(I:ObjM h x dx C mA): ∃od,PySem.W.InstAt h x (PySem.W.instObj C dx) C (some od)/\ ∀name,PySem.W.lookIn name od=some (mA name):=
 let ⟨od,ho,hl⟩:=UD I.ns
 ⟨od,⟨I.obj,rfl,rfl,ho⟩,hl⟩
theorem RelO.some_of {v:V}{o:Option Value}(r:RelO (some v) o): ∃u,o=some u/\RelV v u:=by
 cases o with
 |none=>exact(show False from r).elim
 |some u=>exact⟨u,rfl,r⟩
section
variable {P:Program}{w:World}{H H':Hp}{h h':Heap}{a C dx:Addr}{fs fs':List (Str×V)}
theorem Pb (hok:HOk P w H h)(e:H a=some (.ins C dx fs)): ∃mA,ObjM h a dx C mA/\(∀f,RelO (fs.lookup f) (mA f))/\PySem.Within mA (fs.map (·.1))/\fs.length<=1000/\H dx=some (.own a):=by
 obtain⟨d,z,ne,ob,mA,n,r,q⟩:=(show ObjOk P w H h a (.ins C dx fs) from hok a _ e);exact⟨mA,⟨ob,n,ne⟩,r,q,z,d⟩
end
structure Cls (K:PySem.W.Frag)(C:Addr):Prop where
 pg:PySem.W.plainGet K C Str.empty=true
 hd:PySem.W.hasDictIn K C=true
 po:PySem.W.plainOver K C=true
 sa:PySem.W.findIn K (.ref C) "__setattr__" =some (some (.builtin "object.__setattr__"))
theorem Cls.get {C:Addr}(c:Cls K C)(f:Str):PySem.W.plainGet K C f=true:=c.pg
section
variable {X:Cx}{pins:List (Addr×Obj)}{σ:St}{H:Hp}{s:Shared}{A:Around}{E:Value->Shared->Prop}{Q:Value->Shared->Prop}{c:Value}{b:Bool}
inductive TyOf (K:PySem.W.Frag)(H:Hp):V->Value->Prop where
 |non:TyOf K H .non (.type "NoneType")
 |bl (x:Bool):TyOf K H (.bl x) (.type "bool")
 |int (i:Int):TyOf K H (.int i) (.type "int")
 |str (x:Str):TyOf K H (.str x) (.type "str")
 |flt (x:UInt64):TyOf K H (.flt x) (.type "float")
 |lst {a:Addr} {xs:List V} (e:H a=some (.lst xs)):TyOf K H (.ref a) (.type "list")
 |frz {a:Addr} {o:Obj} {xs:List V} (e:H a=some (.frz o (.lst xs))):TyOf K H (.ref a) (.type "list")
 |tup {a:Addr} {xs:List V} (e:H a=some (.tup xs)):TyOf K H (.ref a) (.type "tuple")
 |dK {a:Addr} {kvs:List (Key×V)} (e:H a=some (.dK kvs)):TyOf K H (.ref a) (.type "dict")
 |dT {a:Addr} {kvs:List (List Key×V)} (e:H a=some (.dT kvs)):TyOf K H (.ref a) (.type "dict")
 |ins {a C dx:Addr} {fs:List (Str×V)} (e:H a=some (.ins C dx fs)) (cl:Cls K C) (ha:PySem.W.findIn K (.ref C) "__class__" =some (some (.builtin "object.__class__")))
  (hn:PySem.W.specialIn K (.builtin "object.__class__") "__get__" =some (some (.builtin "getset_descriptor.__get__"))) (htk:PySem.W.takesIn K (.builtin "object.__class__")=some true)
  (hm:PySem.W.mroIn K C (.type "object")=some true):TyOf K H (.ref a) (.ref C)
theorem UE {x:V}{u t:Value}(I:Inv X pins σ H s)(rx:RelV x u)(ty:TyOf X.K H x t)(e:PySem.W.kitOne X.K t c=some b)(h: ∀tk,Q (.bool b) {s with toks:=tk}):
 wpAny (model X.prog X.w) A (call (.builtin "isinstance") [u,c]) Q E s:=by
 cases ty with
 |non=>cases (show u=Value.none from rx);exact S4 PySem.W.kitx_none I.kIn True.intro e (λz=>nomatch z) h
 |bl y=>cases (show u=Value.bool y from rx);exact S4 PySem.W.kitx_bool I.kIn True.intro e (λz=>nomatch z) h
 |int i=>obtain⟨t,q⟩:=(show ∃t,u=Value.int i t from rx);cases q;exact S4 PySem.W.kitx_int I.kIn True.intro e (λz=>nomatch z) h
 |str y=>obtain⟨t,q⟩:=(show ∃t,u=Value.str y t from rx);cases q;exact S4 PySem.W.kitx_str I.kIn True.intro e (λz=>nomatch z) h
 |flt y=>obtain⟨t,q⟩:=(show ∃t,u=Value.float y t from rx);cases q;exact S4 PySem.W.kitx_float I.kIn True.intro e (λz=>nomatch z) h
 | @lst a xs ea=>
  cases (show u=Value.ref a from rx);obtain⟨_,_,n,_,h1⟩:=(show ObjOk X.prog X.w H s.heap a (.lst xs) from I.hok a _ ea);exact S4 PySem.W.kitx_list I.kIn ⟨_,h1,rfl⟩ e (λz=>nomatch z) h
 | @frz a ob xs ea=>
  cases (show u=Value.ref a from rx);obtain⟨_,_,_,n,_,h1⟩:=(show ObjOk X.prog X.w H s.heap a (.frz ob (.lst xs)) from I.hok a _ ea);exact S4 PySem.W.kitx_list I.kIn ⟨_,h1,rfl⟩ e (λz=>nomatch z) h
 | @tup a xs ea=>
  cases (show u=Value.ref a from rx);obtain⟨_,_,_,p⟩:=(show ObjOk X.prog X.w H s.heap a (.tup xs) from I.hok a _ ea);obtain⟨o,h1,h2,_⟩:=p;exact S4 PySem.W.kitx_tuple I.kIn ⟨o,h1,h2⟩ e (λz=>nomatch z) h
 | @dK a kvs ea=>
  cases (show u=Value.ref a from rx);obtain⟨_,_,vs,_,p⟩:=(show ObjOk X.prog X.w H s.heap a (.dK kvs) from I.hok a _ ea);obtain⟨o,es,ep,h1,h2,_⟩:=p;exact S4 PySem.W.kitx_dict I.kIn ⟨o,h1,h2.1⟩ e (λz=>nomatch z) h
 | @dT a kvs ea=>
  cases (show u=Value.ref a from rx);obtain⟨_,_,xs,_,o,es,ep,h1,h2,_⟩:=(show ObjOk X.prog X.w H s.heap a (.dT kvs) from I.hok a _ ea);exact S4 PySem.W.kitx_dict I.kIn ⟨o,h1,h2.1⟩ e (λz=>nomatch z) h
 | @ins a C dx fs ea cl ha hn htk hm=>
  cases (show u=Value.ref a from rx);obtain⟨mA,O,_⟩:=Pb I.hok ea;obtain⟨od,J,_⟩:=O.look;exact S4 (PySem.W.kitx_own (cl.get _) cl.hd ha hn htk hm) I.kIn J e (λz=>nomatch z) h
end
structure Room (k:Nat)(A:Around):Prop where
 hd:A.handled=none
 dp:A.depth+3*k+5<recursionLimit
 un:A.units+16*k+200<cLine
 gd:A.guards=some []
variable {k:Nat}
theorem Room.deeper (r:Room (k+1) A)(env:Env):Room k (A.deeper env):=
 ⟨r.hd,by have:=r.dp;show A.depth+1+3*k+5<_;omega,by have:=r.un;show A.units+3+16*k+200<_;omega,r.gd⟩
theorem Room.depth (r:Room k A):A.depth<recursionLimit:=by have:=r.dp;omega
theorem Room.units (r:Room k A):A.units+64<cLine:=by have:=r.un;omega
def BP:TA:=λ_ H Q=>Q [] H
def Rs (ta:TE)(tr:TA):TA:=λσ H Q=>ta σ H λx H1=>tr σ H1 λxs H2=>Q (x::xs) H2
section
variable {X:Cx}{e:Expr}{es:List Expr}{te:TE}{t:TA}{pos:Pos}
theorem pa_nil:PA X [] BP:=λ_ _ _ _ H Q I h=>Calls.spliced_nil ⟨[],H,I,.nil,h⟩
theorem yK (ha:PE X e te)(hr:PA X es t)(hs:starEach (e::es) X.env=(false,eval e X.env)::starEach es X.env:=by rfl):PA X (e::es) (Rs te t):=by
 intro pos pins s σ H Q I h;rw [hs];show wpAny _ _ (spliced ((false,eval e X.env)::backTo pos (starEach es X.env))) _ _ s;refine O6 (thn (ha pins s σ H _ I h) λu s1 ⟨x,H1,I1,r1,q1⟩=> ?_);exact thn (hr pos pins s1 σ H1 _ I1 q1) λus s2 ⟨xs,H2,I2,r2,q2⟩=>⟨x::xs,H2,I2,.cons r1 r2,q2⟩
def BQ (t:TA):TE:=λσ H Q=>t σ H λxs H1=>xs.length<=sizeLine/\ ∀p,H1 p=none->Q (.ref p) (upd H1 p (.tup xs))
def BR (t:TA):TE:=λσ H Q=>t σ H λxs H1=>xs.length<=sizeLine/\ ∀p,H1 p=none->Q (.ref p) (upd H1 p (.lst xs))
theorem Rt {x1}(h:PA X es t):PE X (.Tuple es x1 pos) (BQ t):=by
 intro pins s σ H Q I hq;refine wpAny_Tuple_spliced (thn (h pos pins s σ H _ I hq) λus s1 ⟨xs,H1,I1,r,z,q⟩=>⟨by rw [<-r.length];exact z,?_⟩);have hf:H1 s1.heap.objs.size=none:=I1.hok.fresh (G4 _);refine⟨.ref s1.heap.objs.size,upd H1 s1.heap.objs.size (.tup xs),I1.laid (t':=s1.toks) (λb u e=>G3 _ e) (G4 _) ?_,rfl,q _ hf⟩;exact⟨z,us,r,IsTupN.new _ _⟩
theorem Ru (h:PA X es t):PE X (.List es pos) (BR t):=by
 intro pins s σ H Q I hq;refine wpAny_List_spliced (thn (h pos pins s σ H _ I hq) λus s1 ⟨xs,H1,I1,r,z,q⟩=>⟨by rw [<-r.length];exact z,?_⟩);have hf:H1 s1.heap.objs.size=none:=I1.hok.fresh (G4 _);refine⟨.ref s1.heap.objs.size,upd H1 s1.heap.objs.size (.lst xs),I1.laid (t':=s1.toks) (λb u e=>G3 _ e) (G4 _) ?_,rfl,q _ hf⟩;exact⟨z,us,0,r,D4 _ rfl⟩
end
abbrev Sp:=List V->Hp->VK->XK->Prop
abbrev CXT:=List Env->Hp->Shared->XK->Value->Shared->Prop
structure Env0 (P:Program)(w:World)(K:PySem.W.Frag)(mg:Str->Option Value)(base:Heap)(A:Around)(outer:List Env)(s:Shared)(H:Hp):Prop where
 frames:A.frames=some outer
 mod:Mod K mg base
 bs: ∀b o,base.get? b=some o->s.heap.get? b=some o/\H b=none
 bsz:base.objs.size<=s.heap.objs.size
 funs:s.heap.FunFrames base outer
 frf: ∀b∈frs outer,H b=none
 hok:HOk P w H s.heap
 bare:AllBare s.gens
def CE (outer:List Env)(P:Program)(w:World)(H:Hp)(s:Shared)(Q:VK)(u:Value)(s':Shared):Prop:=
 ∃v H',s'.os=s.os/\AllBare s'.gens/\Un (frs outer) [] H H' s.heap s'.heap/\HOk P w H' s'.heap/\RelV v u/\Q v H'
def CR (CX:CXT)(outer:List Env)(P:Program)(w:World)(H:Hp)(s:Shared)(Q:VK)(E:XK)(r:Result)(s':Shared):Prop:=
 match r with
 | .ok (.ret u)=>CE outer P w H s Q u s'
 | .ok _=>False
 | .error e=>CX outer H s E e s'
structure FnOk (P:Program)(w:World)(K:PySem.W.Frag)(mg:Str->Option Value)(base:Heap)(CX:CXT)(k:Nat)(f:Addr)(fd:FuncData)(ps:List Str)(sp:Sp):Prop where
 len: ∀vs H Q E,sp vs H Q E->vs.length=ps.length
 run: ∀ (A:Around) (outer:List Env) (s:Shared) (H:Hp) (args:Args) (us:List Value) (vs:List V) (Q:VK) (E:XK),Room k A->Env0 P w K mg base A outer s H->BindsTo s fd args (ps.zip us)->Vals vs us->sp vs H Q E->
  codeAny (model P w) A (.call (.ref f) args) (CR CX outer P w H s Q E) s
section
variable {X:Cx}{pins:List (Addr×Obj)}{σ:St}{H:Hp}{s s':Shared}
theorem Inv.env0 (I:Inv X pins σ H s):Env0 X.prog X.w X.K X.mg X.base X.A X.stack s H:=
 ⟨I.ok.frames,I.ok.mod,I.bs,D3 I.ok.bsz I.sz,I.stack,I.stkFree,I.hok,I.bare⟩
theorem Inv.after {Q:VK}{u:Value}(I:Inv X pins σ H s)(h:CE X.stack X.prog X.w H s Q u s'):EP X pins σ Q u s':=by
 obtain⟨v,H',os,bare,un,hok,r,q⟩:=h;obtain⟨hh,g,d,t,os'⟩:=s';obtain rfl:os'=s.os:=os;exact⟨v,H',I.call (h':=hh) (g':=g) (d':=d) (t':=t) (ch:= []) un hok bare (λb z=>absurd z (by simp)),r,q⟩
end
def Rv (sp:Sp)(dvs:List V)(E:XK)(t:TA):TE:=λσ H Q=>t σ H λvs H1=>sp (vs++dvs) H1 Q E
def Binds (K:PySem.W.Frag)(fd:FuncData)(ps:List Str)(ds:List Value):Prop:=
 ∀ (s:Shared) (us:List Value),K.In s.heap->(us++ds).length=ps.length->BindsTo s fd ⟨us,[]⟩ (ps.zip (us++ds))
theorem Binds.all {fd:FuncData}{ps:List Str}(h: ∀us:List Value,us.length=ps.length->bindArgs fd ⟨us,[]⟩=pure (ps.zip us)):Binds K fd ps []:=λs us _ hl=>by
 rw [L4] at hl ⊢;exact .of_eq (h us hl)
def UF (CX:CXT)(X:Cx)(E:XK):Prop:= ∀ (pins:List (Addr×Obj)) (σ:St) (H:Hp) (s:Shared) (e:Value) (s':Shared),Inv X pins σ H s->CX X.stack H s E e s'->X.xe e s'
section
variable {X:Cx}{CX:CXT}{k:Nat}{f C:Addr}{fd:FuncData}{ps:List Str}{sp:Sp}{dvs:List V}{ds:List Value}{E:XK}{x m:Str}{p pos apos:Pos}{e o:Expr}{es:List Expr}{ta:TE}{t:TA}
theorem Rw {pins:List (Addr×Obj)}{σ:St}{H:Hp}{s:Shared}{Q:VK}{us:List Value}{vs:List V}(F:FnOk X.prog X.w X.K X.mg X.base CX k f fd ps sp)(hr:Room k X.A)(hb:Binds X.K fd ps ds)(hd:Vals dvs ds)(hx:UF CX X E)
 (I:Inv X pins σ H s)(r:Vals vs us)(h:sp (vs++dvs) H Q E):wpAny (model X.prog X.w) X.A (call (.ref f) us) (EP X pins σ Q) X.xe s:=by
 have r2:Vals (vs++dvs) (us++ds):=r.append hd;have hl:(us++ds).length=ps.length:=by rw [<-r2.length];exact F.len _ _ _ _ h
 refine wpAny_call (codeAny_mono (F.run X.A X.stack s H ⟨us,[]⟩ (us++ds) (vs++dvs) Q E hr I.env0 (hb s us I.kIn hl) r2 h) λr s' hq=> ?_);cases r with
 |error e=>exact hx pins σ H s e s' I hq
 |ok fl=>
  cases fl with
  |ret u=>exact I.after hq
  |next=>exact False.elim hq
  |brk=>exact False.elim hq
  |cont=>exact False.elim hq
theorem Pc (F:FnOk X.prog X.w X.K X.mg X.base CX k f fd ps sp)(hr:Room k X.A)(hg:Gl X x)(hm:X.mg x=some (.ref f))(hk:PySem.W.keepIn X.K (.ref f)=true)(hb:Binds X.K fd ps ds)(hd:Vals dvs ds)(hx:UF CX X E)
 (ha:PA X (e::es) t)(hdb:(x==("__debug__" :Str))=false:=by decide)(he:starEach (e::es) X.env=(false,eval e X.env)::starEach es X.env:=by rfl)(hpl:(backTo pos (starEach es X.env)).any (·.1)=false:=by rfl):
 PE X (.Call (.Name x p) (e::es) [] pos) (Rv sp dvs E t):=by
 intro pins s σ H Q I h;refine O7 (Ut I hg hm ?_ hdb);refine PySem.W.callWith_K (h₀:=X.base) I.ok.mod.kin hk (thn (ha pos pins s σ H _ I h) λus s1 ⟨vs,H1,I1,r,q⟩=>⟨I1.kIn,?_⟩) he hpl;exact Rw F hr hb hd hx I1 r q
end
structure FnScope (N P:List Str)(sc:Scope):Prop where
 kind:sc.kind= .function
 co:sc.isCoroutine=false
 gen:sc.isGenerator=false
 nd:N.Nodup
 pre:N.take P.length=P
 par: ∀x∈P,sc.names.lookup x=some .local\/sc.names.lookup x=some .cell
 nofree: ∀y∈sc.names,y.2≠ .free
variable {kindOf:Str->Option NameKind}{x:Str}
theorem ZN: ∀ {binds:List (Str×Value)} {m:Str->Option Value},(∀v,(x,v) ∉ binds)->bindL kindOf binds m x=m x
 | [],_,_=>rfl
 |(n,v)::r,m,h=>by
  unfold bindL;rw [ZN λw hw=>h w (P5 _ hw)];split
  ·have:x≠n:=by rintro rfl;exact h v P4
   simp [this]
  ·rfl
theorem ZO: ∀ {binds:List (Str×Value)} {m:Str->Option Value},(∀v,(x,v) ∉ binds)->bindC kindOf binds m x=m x
 | [],_,_=>rfl
 |(n,v)::r,m,h=>by
  unfold bindC;rw [ZO λw hw=>h w (P5 _ hw)];split
  ·rfl
  ·have:x≠n:=by rintro rfl;exact h v P4
   simp [this]
theorem ZP {v:Value}: ∀ {P:List Str} {vs:List Value} {i:Nat} {m:Str->Option Value},P.Nodup->P[i]? =some x->vs[i]? =some v->kindOf x=some .local->
 bindL kindOf (P.zip vs) m x=some v
 | [],_,_,_,_,h,_,_=>by simp at h
 |_::_,[],_,_,_,_,h,_=>by simp at h
 |p::P,w::vs,0,m,nd,h1,h2,hk=>by
  simp at h1 h2;subst h1;subst h2;show bindL kindOf ((p,w)::P.zip vs) m p=_;unfold bindL;rw [ZN λv hv=>(C7.mp nd).1 (E6 hv).1,if_pos hk];simp
 |p::P,w::vs,i+1,m,nd,h1,h2,hk=>by
  show bindL kindOf ((p,w)::P.zip vs) m x=_;unfold bindL;exact ZP (i:=i) (C7.mp nd).2 (by simpa using h1) (by simpa using h2) hk
theorem ZQ {v:Value}: ∀ {P:List Str} {vs:List Value} {i:Nat} {m:Str->Option Value},P.Nodup->P[i]? =some x->vs[i]? =some v->kindOf x≠some .local->
 bindC kindOf (P.zip vs) m x=some v
 | [],_,_,_,_,h,_,_=>by simp at h
 |_::_,[],_,_,_,_,h,_=>by simp at h
 |p::P,w::vs,0,m,nd,h1,h2,hk=>by
  simp at h1 h2;subst h1;subst h2;show bindC kindOf ((p,w)::P.zip vs) m p=_;unfold bindC;rw [ZO λv hv=>(C7.mp nd).1 (E6 hv).1,if_neg hk];simp
 |p::P,w::vs,i+1,m,nd,h1,h2,hk=>by
  show bindC kindOf ((p,w)::P.zip vs) m x=_;unfold bindC;exact ZQ (i:=i) (C7.mp nd).2 (by simpa using h1) (by simpa using h2) hk
def vJ (N:List Str)(vs:List V):St:=vs.map some++List.replicate (N.length-vs.length) none
def Gt (CX:CXT)(P:Program)(w:World)(K:PySem.W.Frag)(mg:Str->Option Value)(base:Heap)(N:List Str)(qual:Str)(scope:Scope)(f:Addr)(cd:Value)(A:Around)(outer:List Env)(s:Shared)(H:Hp)(E:XK):Cx where
 prog:=P
 w:=w
 K:=K
 mg:=mg
 base:=base
 A:=A.deeper (envOfC qual scope s.heap.objs.size f cd)
 N:=N
 s₀:=s
 H₀:=H
 env:=envOfC qual scope s.heap.objs.size f cd
 outer:=outer
 stack:=envOfC qual scope s.heap.objs.size f cd::outer
 ex:= []
 calm:=true
 fn:=λ_=>true
 pn:= []
 xe:=λe s'=>wpAny (model P w) (A.deeper (envOfC qual scope s.heap.objs.size f cd)) (leaving (envOfC qual scope s.heap.objs.size f cd) e) (λ_ s''=>CX outer H s E e s'') (λe' s''=>CX outer H s E e' s'') s'
theorem vA {sc:Scope}{n:Nat}(h:sc.names.lookup x=some .cell): ∃c,(cellsFrom n sc.names []).lookup x=some c:=by
 have q:=E2 sc.names n [] (.inl h);exact M9.mp q
theorem UG {CX:CXT}{mg:Str->Option Value}{base:Heap}{N ps:List Str}{qual:Str}{scope:Scope}{f:Addr}{cd:Value}{outer:List Env}{s1:Shared}{E:XK}{us:List Value}{vs:List V}
 (S:FnScope N ps scope)(hd:A.handled=none)(e0:Env0 P w K mg base A outer s H)(hl:vs.length=ps.length)(r:Vals vs us)
 (x:InCallC s s.heap.objs.size (bindL (envOfC qual scope s.heap.objs.size f cd).kindOf (ps.zip us) λ_=>none) (cellsFrom (s.heap.objs.size+1) scope.names []) (bindC (envOfC qual scope s.heap.objs.size f cd).kindOf (ps.zip us) λ_=>none) s1):
 Inv (Gt CX P w K mg base N qual scope f cd A outer s H E) [] (vJ N vs) H s1:=by
 have hpl:ps.length<=N.length:=by have:=congrArg List.length S.pre;rw [M5] at this;omega
 obtain⟨h1,tk,rfl,hk⟩:=x.done;have noA: ∀b:Addr,b ∉ (Gt CX P w K mg base N qual scope f cd A outer s H E).ex:=λb z=>absurd (show b∈([]:List Addr) from z) (by simp)
 refine⟨⟨e0.mod,S.kind,rfl,rfl,G4 _,λy z c h1 h2=> ?_,λy hy=> ?_,λy c _ h=> ?_,λ_=>hd,Around.frames_deeper e0.frames,.inr ⟨rfl,rfl⟩,λb z=>absurd z (noA b),e0.bs,e0.bsz,λb _ _=>noA b,λb z=>absurd z (noA b),e0.funs,e0.frf⟩,
  rfl,e0.bare,Un.kept hk,⟨_,x.toInCall.ns,λi y v h1 h2 h3=> ?_⟩,λy c h=>⟨_,x.cell y c h⟩,e0.hok.fresh (G4 _),λy c h=> ?_,λp hp=>absurd (show p∈([]:List (Addr×Obj)) from hp) (by simp),e0.hok.kept hk,?_⟩
 ·exact name_of_addr x.apart (N5 h1) (N5 h2)
 ·have hy:scope.names.lookup y=some .cell\/scope.names.lookup y=some .free:=hy;rcases hy with hy|hy
  ·exact vA hy
  ·exact absurd rfl (S.nofree _ (N5 hy))
 ·exact R9 (x.above y c (N5 h))
 ·have hi:i<vs.length:=by
   unfold vJ at h2
   by_cases hi:i<vs.length
   ·exact hi
   ·rw [O3 (by simpa using hi)] at h2;rw [A4] at h2;split at h2<;>cases h2
  have ha:vs[i]? =some v:=by
   unfold vJ at h2;rw [B6 (by simpa using hi),P1] at h2;cases e:vs[i]? with
   |none=>rw [e] at h2;cases h2
   |some a=>rw [e] at h2;cases h2;rfl
  obtain⟨u,hu,rv⟩:=r.get ha;have hp:ps[i]? =some y:=by
   rw [<-S.pre,List.getElem?_take_of_lt (by omega)];exact h1
  have ndP:ps.Nodup:=by rw [<-S.pre];exact S.nd.sublist (List.take_sublist _ _)
  refine⟨u,rv,?_⟩;rcases S.par y (D7 hp) with k|k
  ·exact .inl ⟨k,ZP ndP hp hu k⟩
  ·obtain⟨c,e⟩:=vA (n:=s.heap.objs.size+1) k;refine .inr ⟨.inl k,c,e,?_⟩;have q:=x.cell y c e;rw [ZQ ndP hp hu (by show scope.names.lookup y≠_;rw [k];decide)] at q;exact q
 ·exact e0.hok.fresh (R9 (x.above y c (N5 h)))
 ·unfold vJ;show _=N.length;rw [P8,G0,List.length_replicate];omega
theorem Ny {CX:CXT}{mg:Str->Option Value}{base:Heap}{f:Addr}{name qual:Str}{params:Arguments}{body:List Stmt}{scope:Scope}{dV kV doc pm cdv ct oc:Value}{an od:Option Addr}{osl:Array (Option Value)}{N ps:List Str}{sp:Sp}(lk:K.lookup f=some ⟨oc,od,.func (PySem.W.fnOf name qual params body scope dV kV doc pm an cdv ct),osl⟩)(hcd:PySem.W.codeIn K cdv qual=true)(S:FnScope N ps scope)
 (len: ∀vs H Q E,sp vs H Q E->vs.length=ps.length)
 (hbody: ∀ (A:Around) (outer:List Env) (s:Shared) (H:Hp) (vs:List V) (Q:VK) (E:XK),Room k (A.deeper (envOfC qual scope s.heap.objs.size f cdv))->sp vs H Q E->
  ∃t,PSs (Gt CX P w K mg base N qual scope f cdv A outer s H E) body t/\t {nx:=λ_ H'=>Q .non H',rt:=Q} (vJ N vs) H):
 FnOk P w K mg base CX (k+1) f (PySem.W.fnOf name qual params body scope dV kV doc pm an cdv ct) ps sp:=by
 refine⟨len,λA outer s H args us vs Q E hr e0 hb r hsp=> ?_⟩;have hl:=len _ _ _ _ hsp;have KX:K.In s.heap:=e0.mod.kin.keeps λb o e=>(e0.bs b o e).1
 have lim:s.heap.NoLimit:=e0.mod.nolimit.keeps λb o e=>(e0.bs b o e).1
 have hkind: ∀y∈ps.zip us,scope.names.lookup y.1=some .local\/(scope.names.lookup y.1=some .cell/\((cellsFrom (s.heap.objs.size+1) scope.names []).lookup y.1).isSome=true):=λ⟨n,v⟩ hy=>by
  rcases S.par n (E6 hy).1 with q|q
  ·exact .inl q
  ·exact .inr ⟨q,E2 _ _ _ (.inl q)⟩
 refine codeAny_call_function hr.depth (KX _ _ lk) rfl S.co S.gen rfl (PySem.W.codeRec_of KX hcd) (hb _ _ _ _ ?_);refine wpAny_newFunctionEnv_cells S.kind hkind λenv he s1 x=> ?_
 subst he;refine⟨lim.keeps x.toInCall.keep,codeAny_func ?_⟩;obtain⟨t,ht,hq⟩:=hbody A outer s H vs Q E (hr.deeper _) hsp;have I:Inv (Gt CX P w K mg base N qual scope f cdv A outer s H E) [] (vJ N vs) H s1:=UG S hr.hd e0 hl r x;refine D8 (ht [] s1 (vJ N vs) H _ I hq) (λfl s' hs=> ?_) λe s' hs=>hs
 have fin: ∀ {σ':St} {H':Hp} {v:V} {u:Value},Inv (Gt CX P w K mg base N qual scope f cdv A outer s H E) [] σ' H' s'->RelV v u->Q v H'->CE outer P w H s Q u s':=
  λ{σ' H' v u} J rv q=>⟨v,H',J.os,J.bare,J.base,J.hok,rv,q⟩
 cases fl with
 |ret u=>
  obtain⟨v,σ',H',J,rv,q⟩:=hs;exact fin J rv q
 |next=>
  obtain⟨σ',H',J,q⟩:=hs;exact fin (v:=V.non) (u:=Value.none) J rfl q
 |brk=>
  obtain⟨_,_,_,q⟩:=hs;exact False.elim q
 |cont=>
  obtain⟨_,_,_,q⟩:=hs;exact False.elim q
section
variable {X:Cx}{x:Str}{p pos:Pos}{e:Expr}{es:List Expr}{t:TA}{id T:String}{r:List V->Hp->VK->Prop}
def tCB (r:List V->Hp->VK->Prop)(t:TA):TE:=λσ H Q=>t σ H λvs H1=>r vs H1 Q
theorem Ve (hc:CallR X (.builtin id) r)(hg:Gl X x)(hm:X.mg x=none)(hv:bootBuiltins x=some (.builtin id))(ha:PA X (e::es) t)(hn:x≠ "__name__" :=by decide)(hdb:(x==("__debug__" :Str))=false:=by decide)
 (he:starEach (e::es) X.env=(false,eval e X.env)::starEach es X.env:=by rfl)(hpl:(backTo pos (starEach es X.env)).any (·.1)=false:=by rfl):PE X (.Call (.Name x p) (e::es) [] pos) (tCB r t):=by
 intro pins s σ H Q I h;refine O7 (Jy I hg hm hv ?_ hn hdb);exact PyProof.Rows.callWith_builtin1 (thn (ha pos pins s σ H _ I h) λus s1 ⟨vs,H1,I1,r1,q1⟩=>hc pins s1 σ H1 vs us Q I1 r1 q1) he hpl
theorem UH (hc:CallR X (.type T) r)(hg:Gl X x)(hm:X.mg x=none)(hv:bootBuiltins x=some (.type T))(ha:PA X (e::es) t)(hn:x≠ "__name__" :=by decide)(hdb:(x==("__debug__" :Str))=false:=by decide)
 (he:starEach (e::es) X.env=(false,eval e X.env)::starEach es X.env:=by rfl)(hpl:(backTo pos (starEach es X.env)).any (·.1)=false:=by rfl):PE X (.Call (.Name x p) (e::es) [] pos) (tCB r t):=by
 intro pins s σ H Q I h;refine O7 (Jy I hg hm hv ?_ hn hdb);exact T8 (thn (ha pos pins s σ H _ I h) λus s1 ⟨vs,H1,I1,r1,q1⟩=>hc pins s1 σ H1 vs us Q I1 r1 q1) he hpl
end
end L2
namespace HT
open PySem PyProof.Rows
section
variable {prog:Program}{w:World}{A:Around}{E:Value->Shared->Prop}{s:Shared}
theorem Pd {t b:Addr}{vs ws:List Value}{Q:Value->Shared->Prop}(ht:IsTup s.heap t vs.toArray)(hb:IsTup s.heap b ws.toArray)(hv:vs≠ [])
 (h1:ws= []->Q (.ref t) s)(h2:ws≠ []->Q (.ref s.heap.objs.size) {s with heap:=s.heap.push {cls:= .type "tuple",data:= .seq (vs++ws).toArray}})
 (hsz:vs.length+ws.length<=sizeLine):wpAny (model prog w) A (binaryOp .Add (.ref t) (.ref b)) Q E s:=by
 obtain⟨⟨cls,dd,data,sl⟩,ho,hc,n,hd⟩:=id ht;obtain⟨⟨cls2,dd2,data2,sl2⟩,ho2,hc2,n2,hd2⟩:=id hb;simp only at hc hd hc2 hd2;subst hc hd hc2 hd2;have e:vs.toArray++ws.toArray=(vs++ws).toArray:=by simp
 by_cases hw:ws= []
 ·exact concat_meets ⟨_,ho,rfl⟩ ⟨_,ho2,rfl⟩ A9 seq_tuple_add F3 C8 (C0 _ _)
   (tuple_addW1 t b vs.toArray ws.toArray n n2 dd dd2 sl sl2 (by simpa using hv) (by simp [hw])) ⟨ho,ho2,h1 hw⟩
 ·refine concat_meets ⟨_,ho,rfl⟩ ⟨_,ho2,rfl⟩ A9 seq_tuple_add F3 C8 (C0 _ _)
   (tuple_addW2 t b vs.toArray ws.toArray n n2 dd dd2 sl sl2 (by simpa using hv) (by simpa using hw) (by rw [G7,G7];exact hsz)) ⟨ho,ho2,?_⟩
  rw [e];exact h2 hw
def sIx (n d:Nat):Option Int->Nat
 |none=>d
 |some v=>if v<0 then (v+(n:Int)).toNat else min v.toNat n
theorem Rx (n d:Nat)(hd:d<=n)(o:Option Int):sIx n d o<=n:=by
 cases o with
 |none=>exact hd
 |some v=>
  show (if v<0 then (v+(n:Int)).toNat else min v.toNat n)<=n
  by_cases hv:v<0
  ·rw [if_pos hv];omega
  ·rw [if_neg hv];exact Nat.min_le_right _ _
theorem UI (v:Int)(n d:Nat):(if v<0 then max (v+(n:Int)) 0 else min v (n:Int))=((sIx n d (some v):Nat):Int):=by
 show (if v<0 then max (v+(n:Int)) 0 else min v (n:Int))=(((if v<0 then (v+(n:Int)).toNat else min v.toNat n):Nat):Int)
 by_cases hv:v<0
 ·simp only [if_pos hv];omega
 ·simp only [if_neg hv];omega
theorem VG (lo hi:Option Int)(n:Nat):Builtin.Slice.sliceAdjust lo hi 1 (n:Int)=(((sIx n 0 lo:Nat):Int),((sIx n n hi:Nat):Int)):=by
 have h1: ¬ ((1:Int)<0):=by omega
 unfold Builtin.Slice.sliceAdjust;simp only [h1,K0];refine Prod.ext ?_ ?_
 ·cases lo with
  |none=>rfl
  |some v=>exact UI v n 0
 ·cases hi with
  |none=>rfl
  |some v=>exact UI v n n
theorem VH (i j:Nat):Builtin.Slice.slicePlaces (i:Int) (j:Int) 1=j-i:=by
 unfold Builtin.Slice.slicePlaces;have h1:(1:Int)>0:=by omega
 simp only [h1,if_true,Int.ediv_one];split<;>omega
theorem Jz {v:Value}{o:Option Int}{Q:Option Int->Shared->Prop}(p:IsPart v o)(h:Q o s):wpAny (model prog w) A (Builtin.Slice.slicePartIndex v) Q E s:=by
 cases p with
 |none=>exact slicePart_none h
 |int i t=>exact slicePart_int h
theorem wa {sl:Addr}{vl vu:Value}{lo hi:Option Int}{n:Nat}{Q:Int×Int×Nat->Shared->Prop}(hs:s.heap.IsSliceOf sl vl vu .none)(pl:IsPart vl lo)(pu:IsPart vu hi)
 (h:Q (((sIx n 0 lo:Nat):Int),1,sIx n n hi-sIx n 0 lo) s):wpAny (model prog w) A (Builtin.Slice.sliceApplied (.ref sl) (pure (n:Int))) Q E s:=by
 obtain⟨os,hos,hcs,hds⟩:=id hs;unfold Builtin.Slice.sliceApplied Builtin.Slice.sliceFields;refine wpAny_bind (wpAny_bind (wpAny_field hos hds (x:=vl) rfl (wpAny_bind (wpAny_field hos hds (x:=vu) rfl (wpAny_bind (wpAny_field hos hds (x:= .none) rfl (P6 ?_)))))));refine wpAny_bind (slicePart_none ?_);show wpAny _ _ (if ((1:Int)==0)=true then _ else _) _ _ s;rw [if_neg (by decide)];refine wpAny_bind (Jz pl (wpAny_bind (Jz pu (wpAny_bind (P6 ?_)))));show wpAny _ _ (match Builtin.Slice.sliceAdjust lo hi 1 (n:Int) with|(lo,hi)=>pure (lo,(1:Int),Builtin.Slice.slicePlaces lo hi 1)) _ _ s;rw [VG lo hi n];show wpAny _ _ (pure (((sIx n 0 lo:Nat):Int),(1:Int),Builtin.Slice.slicePlaces ((sIx n 0 lo:Nat):Int) ((sIx n n hi:Nat):Int) 1)) _ _ s;rw [VH];exact P6 h
theorem Qt (xs:Array Value)(i k:Nat):((List.range k).filterMap λ(m:Nat)=>xs[((i:Int)+(m:Int)*1).toNat]?).toArray=((xs.toList.drop i).take k).toArray:=by
 have e:(λ(m:Nat)=>xs[((i:Int)+(m:Int)*1).toNat]?)=λm=>xs[i+m]? :=by
  funext m
  have:((i:Int)+(m:Int)*1).toNat=i+m:=by omega
  rw [this]
 rw [e];have:=pick_run xs i k;rw [List.filterMap_map] at this;have e2:((λx=>xs[x]?)∘λx=>i+x)=λm=>xs[i+m]? :=rfl
 rw [e2] at this;rw [this]
theorem yL {t sl:Addr}{items:Array Value}{vl vu:Value}{lo hi:Option Int}{Q:Value->Shared->Prop}(ht:IsTup s.heap t items)(hs:s.heap.IsSliceOf sl vl vu .none)(pl:IsPart vl lo)(pu:IsPart vu hi)
 (hw: ¬ (sIx items.size 0 lo=0/\sIx items.size items.size hi=items.size))
 (h:Q (.ref s.heap.objs.size) {s with heap:=s.heap.push {cls:= .type "tuple",data:= .seq ((items.toList.drop (sIx items.size 0 lo)).take (sIx items.size items.size hi-sIx items.size 0 lo)).toArray}})
 (hsz:items.size<=sizeLine):wpAny (model prog w) A (getItem (.ref t) (.ref sl)) Q E s:=by
 have htake:sizeOk (.seq ((items.toList.drop (sIx items.size 0 lo)).take (sIx items.size items.size hi-sIx items.size 0 lo)).toArray):=by
  show ((items.toList.drop (sIx items.size 0 lo)).take (sIx items.size items.size hi-sIx items.size 0 lo)).toArray.size<=sizeLine;rw [G7,M5,L0,B8];omega
 have hj:sIx items.size items.size hi<=items.size:=Rx _ _ (G4 _) hi;obtain⟨os,hos,hcs,hds⟩:=id hs;have hTs:s.TypeIs (.ref sl) "slice" :=⟨os,hos,hcs⟩;unfold getItem
 try with_reducible refine B4 ?_
 first|refine wpAny_bind (P6 ?_)|skip
 refine wpAny_bind (wpAny_sequenceKey ht.typeIs (by decide) ?_);refine wpAny_bind (N6 (name:=Str.ofString "__getitem__") ht.typeIs T1
  (M6 T1 ht.typeIs entry_tuple_getitem ?_ (args_tuple_getitem _ _)))
 show wpAny _ _ (Builtin.Tuple.tupleItemsOf (.ref t) >>= _) _ _ s;refine wpAny_bind (tupleItemsOf_ ht ?_);refine wpAny_bind (wpAny_typeOf hTs ?_);rw [if_pos (by decide)];refine wpAny_bind (wa hs pl pu ?_);have hno: ¬ ((((sIx items.size 0 lo:Nat):Int)==0&&(1:Int)==1&&(sIx items.size items.size hi-sIx items.size 0 lo)==items.size)=true):=by
  intro q;rw [R4,R4] at q;have q1:((sIx items.size 0 lo:Nat):Int)=0:=eq_of_beq q.1.1;have q2:sIx items.size items.size hi-sIx items.size 0 lo=items.size:=eq_of_beq q.2;exact hw ⟨by omega,by omega⟩
 show wpAny _ _ (if (((sIx items.size 0 lo:Nat):Int)==0&&(1:Int)==1&&(sIx items.size items.size hi-sIx items.size 0 lo)==items.size)=true then _ else _) _ _ s;rw [if_neg hno,Qt]
 first
  |exact wpAny_bind (m:=Builtin.Tuple.tupleExact _) (M8 (P6 ⟨_,rfl,P6 h⟩) htake)
  |exact wpAny_bind (m:=Builtin.Tuple.tupleExact _) (M8 (wpAny_bind (P6 (P6 ⟨_,rfl,P6 h⟩))) htake)
  |exact wpAny_bind (wpAny_bind (m:=Builtin.Tuple.tupleExact _) (M8 (P6 (P6 ⟨_,rfl,P6 h⟩)) htake))
  |exact wpAny_bind (wpAny_bind (m:=Builtin.Tuple.tupleExact _) (M8 (P6 ⟨_,rfl,P6 h⟩) htake))
end
end HT
namespace L2
open PySem PySem.Spec PyProof.Rows
abbrev TO:=St->Hp->(Option Int->Hp->Prop)->Prop
def PO (X:Cx)(e:Option Expr)(t:TO):Prop:=
 ∀ (pins:List (Addr×Obj)) (s:Shared) (σ:St) (H:Hp) (Q:Option Int->Hp->Prop),Inv X pins σ H s->t σ H Q->
  wpAny (model X.prog X.w) X.A (evalPart e X.env) (λu s'=> ∃o H',Inv X pins σ H' s'/\IsPart u o/\Q o H') X.xe s
def Pe:TO:=λ_ H Q=>Q none H
def Nz (t:TE):TO:=λσ H Q=>t σ H λx H1=> ∃i,x= .int i/\Q (some i) H1
section
variable {X:Cx}{e:Expr}{te:TE}{lo hi:Option Expr}{tl th:TO}{pos p2:Pos}
theorem po_none:PO X none Pe:=by
 intro pins s σ H Q I h;rw [evalPart_none];exact P6 ⟨none,H,I,.none,h⟩
theorem Pf (h:PE X e te):PO X (some e) (Nz te):=by
 intro pins s σ H Q I hw;rw [evalPart_some];refine thn (h pins s σ H _ I hw) λu s1 ⟨x,H1,I1,r1,q1⟩=> ?_
 obtain⟨i,rfl,q⟩:=q1;obtain⟨t,rfl⟩:=r1;exact⟨some i,H1,I1,.int i t,q⟩
def SlR (X:Cx)(r:V->Option Int->Option Int->Hp->VK->Prop):Prop:=
 ∀ (pins:List (Addr×Obj)) (s:Shared) (σ:St) (H:Hp) (x:V) (v vl vu:Value) (lo hi:Option Int) (sl:Addr) (Q:VK),Inv X pins σ H s->RelV x v->s.heap.IsSliceOf sl vl vu .none->IsPart vl lo->IsPart vu hi->r x lo hi H Q->
  ∃T id,typeLookup (.type T) "__getitem__" =pure (some (.builtin id))/\s.TypeIs v T/\wpAny (model X.prog X.w) X.A (getItem v (.ref sl)) (EP X pins σ Q) X.xe s
theorem SlR.or {r r':V->Option Int->Option Int->Hp->VK->Prop}(h:SlR X r)(h':SlR X r'):SlR X (λx lo hi H Q=>r x lo hi H Q\/r' x lo hi H Q):=by
 intro pins s σ H x v vl vu lo hi sl Q I rx hs pl pu q;rcases q with q|q
 ·exact h pins s σ H x v vl vu lo hi sl Q I rx hs pl pu q
 ·exact h' pins s σ H x v vl vu lo hi sl Q I rx hs pl pu q
def tSl (r:V->Option Int->Option Int->Hp->VK->Prop)(te:TE)(tl th:TO):TE:=λσ H Q=>te σ H λx H1=>tl σ H1 λl H2=>th σ H2 λu H3=>r x l u H3 Q
theorem Qu {r:V->Option Int->Option Int->Hp->VK->Prop}(hr:SlR X r)(he:PE X e te)(hl:PO X lo tl)(hu:PO X hi th):PE X (.Subscript e (.Slice lo hi none p2) pos) (tSl r te tl th):=by
 intro pins s σ H Q I h;refine Subscript_ (thn (he pins s σ H _ I h) λv s1 ⟨x,H1,I1,r1,q1⟩=> ?_);refine wpAny_Slice (thn (hl pins s1 σ H1 _ I1 q1) λvl s2 ⟨l,H2,I2,pl,q2⟩=>thn (hu pins s2 σ H2 _ I2 q2) λvu s3 ⟨u,H3,I3,pu,q3⟩=> ?_);rw [evalPart_none];refine P6 ?_;have I4:Inv X pins σ H3 {s3 with heap:=s3.heap.push {cls:= .type "slice",data:= .fields #[vl,vu,.none]}}:=I3.kept (t':=s3.toks) λb ob q=>G3 _ q
 obtain⟨T,id,hT,ht,hg⟩:=hr pins {s3 with heap:=s3.heap.push {cls:= .type "slice",data:= .fields #[vl,vu,.none]}} σ H3 x v vl vu l u s3.heap.objs.size Q I4 r1 (Heap.IsSliceOf.new ..) pl pu q3;show wpAny (model X.prog X.w) X.A (subscriptTail e (.Slice lo hi none p2) v (.ref s3.heap.objs.size)) (EP X pins σ Q) X.xe {s3 with heap:=s3.heap.push {cls:= .type "slice",data:= .fields #[vl,vu,.none]}};exact tail_any (ops:= [.ref s3.heap.objs.size,v]) ht hT hg (by with_unfolding_all rfl)
def XW (xs:List V)(lo hi:Option Int):List V:=(xs.drop (HT.sIx xs.length 0 lo)).take (HT.sIx xs.length xs.length hi-HT.sIx xs.length 0 lo)
theorem vK (xs:List V)(lo hi:Option Int):(XW xs lo hi).length<=xs.length:=by
 unfold XW;rw [M5,L0];omega
def Ck (K:PySem.W.Frag):V->Option Int->Option Int->Hp->VK->Prop:=λx lo hi H Q=> ∃a xs,x= .ref a/\SqT K H a xs/\
 ¬ (HT.sIx xs.length 0 lo=0/\HT.sIx xs.length xs.length hi=xs.length)/\ ∀p,H p=none->Q (.ref p) (upd H p (.tup (XW xs lo hi)))
theorem sl_tup:SlR X (Ck X.K):=by
 intro pins s σ H x v vl vu lo hi sl Q I rx hs pl pu h;obtain⟨a,xs,rfl,hx,hw,q⟩:=h;cases rx;obtain⟨its,r,ht,hz⟩:=I.tuple hx;have hlen:its.toArray.size=xs.length:=by rw [G7];exact r.length.symm
 refine⟨"tuple",_,PyProof.Rows.slot_tuple_getitem.lookup,ht.typeIs,?_⟩;refine HT.yL ht hs pl pu (by rw [hlen];exact hw) ?_ (by rw [hlen];exact hz);rw [hlen];refine⟨.ref s.heap.objs.size,_,I.laid (t':=s.toks) (o:= .tup (XW xs lo hi)) (λb ob q=>G3 _ q) (G4 _) ?_,rfl,q _ (I.hok.fresh (G4 _))⟩;exact⟨D3 (vK xs lo hi) hz,_,(r.drop (HT.sIx xs.length 0 lo)).take (HT.sIx xs.length xs.length hi-HT.sIx xs.length 0 lo),IsTupN.new _ _⟩
def NA (K:PySem.W.Frag):R2:=λx y H Q=> ∃a b xs ys,x= .ref a/\y= .ref b/\SqT K H a xs/\SqT K H b ys/\xs≠ []/\xs.length+ys.length<=sizeLine/\
 (ys= []->Q (.ref a) H)/\(ys≠ []-> ∀p,H p=none->Q (.ref p) (upd H p (.tup (xs++ys))))
theorem Vals.nil_iff {xs:List V}{us:List Value}(r:Vals xs us):us= []↔xs= []:=by
 cases r with
 |nil=>simp
 |cons _ _=>simp
theorem op_catT:OpR X (binaryOp .Add) (NA X.K):=by
 intro pins s σ H x y v u Q I rx ry h;obtain⟨a,b,xs,ys,rfl,rfl,ha,hb,hx,hz,q1,q2⟩:=h;cases rx;cases ry;obtain⟨its,r1,p1,_⟩:=I.tuple ha;obtain⟨its2,r2,p2,_⟩:=I.tuple hb;refine HT.Pd p1 p2 (λz=>hx (r1.nil_iff.mp z)) (λz=>⟨.ref a,H,I,rfl,q1 (r2.nil_iff.mp z)⟩) (λz=> ?_) (by rw [<-r1.length,<-r2.length];exact hz);refine⟨.ref s.heap.objs.size,_,I.laid (t':=s.toks) (o:= .tup (xs++ys)) (λb ob q=>G3 _ q) (G4 _) ?_,rfl,q2 (λw=>z (r2.nil_iff.mpr w)) _ (I.hok.fresh (G4 _))⟩;exact⟨by rw [P8];exact hz,_,r1.append r2,IsTupN.new _ _⟩
end
def ixN (n:Nat)(i:Int):Option Nat:=if 0<=i then (if i<n then some i.toNat else none) else if-(n:Int)<=i then some (i+n).toNat else none
def atI {α:Type}(xs:List α)(i:Int):Option α:=(ixN xs.length i).bind λj=>xs[j]?
theorem UJ {n:Nat}{i:Int}{j:Nat}(h:ixN n i=some j):seqIndex? i n=some j/\j<n/\ -(n:Int)<=i/\i<n:=by
 unfold ixN at h
 by_cases h0:0<=i
 ·rw [if_pos h0] at h
  by_cases h1:i<n
  ·rw [if_pos h1] at h;have e:i.toNat=j:=R7 h;exact⟨by rw [seqIndex_of h0 h1,e],by omega,by omega,h1⟩
  ·rw [if_neg h1] at h;cases h
 ·rw [if_neg h0] at h
  by_cases h1: -(n:Int)<=i
  ·rw [if_pos h1] at h;have e:(i+n).toNat=j:=R7 h;exact⟨by rw [seqIndex_neg (by omega) h1,e],by omega,h1,by omega⟩
  ·rw [if_neg h1] at h;cases h
theorem Yh {α:Type}{xs:List α}{i:Int}{v:α}(h:atI xs i=some v): ∃j,seqIndex? i xs.length=some j/\xs[j]? =some v/\j<xs.length/\ -(xs.length:Int)<=i/\i<xs.length:=by
 unfold atI at h;cases e:ixN xs.length i with
 |none=>rw [e] at h;cases h
 |some j=>
  rw [e] at h;obtain⟨h1,h2,h3,h4⟩:=UJ e;exact⟨j,h1,h,h2,h3,h4⟩
theorem yM {α:Type}{xs:List α}{j:Nat}{v:α}(h:xs[j]? =some v):atI xs (j:Int)=some v:=by
 have hj:j<xs.length:=(G9.mp h).1;have e:ixN xs.length (j:Int)=some j:=by
  unfold ixN;rw [if_pos (by omega),if_pos (by omega)];simp
 unfold atI;rw [e];exact h
def Yi (b:Expr):Prop:= ∀o i,subscripted b false o i=operate [o,i] (getItem o i)
def IxR (X:Cx)(r:R2):Prop:=
 ∀ (value slice:Expr) (pins:List (Addr×Obj)) (s:Shared) (σ:St) (H:Hp) (x y:V) (v u:Value) (Q:VK),Inv X pins σ H s->RelV x v->RelV y u->r x y H Q->
  subscripted slice false v u=operate [v,u] (getItem v u)->wpAny (model X.prog X.w) X.A (subscriptTail value slice v u) (EP X pins σ Q) X.xe s
def MtR (X:Cx)(id:String)(r:V->List V->Hp->VK->Prop):Prop:=
 ∀ (pins:List (Addr×Obj)) (s:Shared) (σ:St) (H:Hp) (x:V) (xs:List V) (v:Value) (us:List Value) (Q:VK),Inv X pins σ H s->RelV x v->Vals xs us->r x xs H Q->
  wpAny (model X.prog X.w) X.A (call (.builtin id) (v::us)) (EP X pins σ Q) X.xe s
section
variable {X:Cx}{a b:Expr}{ta tb:TE}{pos:Pos}
theorem IxR.or {r r':R2}(h:IxR X r)(h':IxR X r'):IxR X (λx y H Q=>r x y H Q\/r' x y H Q):=by
 intro value slice pins s σ H x y v u Q I rx ry q hs;rcases q with q|q
 ·exact h value slice pins s σ H x y v u Q I rx ry q hs
 ·exact h' value slice pins s σ H x y v u Q I rx ry q hs
theorem NB {r:R2}(hr:IxR X r)(ha:PE X a ta)(hb:PE X b tb)(hs:Yi b):PE X (.Subscript a b pos) (tOp r ta tb):=by
 intro pins s σ H Q I h;exact Subscript_ (Nq ha hb I h λv u s2 x y H2 I2 rx ry q=>hr a b pins s2 σ H2 x y v u Q I2 rx ry q (hs _ _))
def BS (K:PySem.W.Frag):R2:=λx y H Q=> ∃p xs i v,x= .ref p/\y= .int i/\SqL K H p xs/\atI xs i=some v/\Q v H
def BT (K:PySem.W.Frag):R2:=λx y H Q=> ∃p xs i v,x= .ref p/\y= .int i/\SqT K H p xs/\atI xs i=some v/\Q v H
def BU:R2:=λx y H Q=> ∃z i c,x= .str z/\y= .int i/\z.length<=sizeLine/\atI z.cps.toList i=some c/\Q (.str ⟨#[c]⟩) H
theorem ix_list:IxR X (BS X.K):=by
 intro value slice pins s σ H x y v u Q I rx ry h hs;obtain⟨p,xs,i,z,rfl,rfl,hq,he,q⟩:=h;cases rx;obtain⟨t,rfl⟩:=ry;obtain⟨its,r,pl,hz⟩:=I.list hq;obtain⟨j,h1,h2,h3,h4,h5⟩:=Yh he;obtain⟨w,ew,rw'⟩:=r.get h2;have hl:=r.length;have hn:=ZM;have fin:EP X pins σ Q w s:=⟨z,H,I,rw',q⟩
 by_cases h0:0<=i
 ·have hj:i.toNat=j:=by
   rw [seqIndex_of h0 h5] at h1;exact R7 h1
  exact item_listR pl.isList h0 (by omega) (by rw [hj];simpa using ew) fin hs
 ·have hj:(i+(its.toArray.size:Int)).toNat=j:=by
   rw [seqIndex_neg (by omega) h4] at h1;rw [G7,<-hl];exact R7 h1
  exact subscriptTail_builtinR (x:=w) pl.isList.typeIs slot_list_getitem.lookup
   (wpAny_getItem_list_neg (Q:=λr s'=>r=w/\EP X pins σ Q r s') pl.isList (by omega) (by rw [G7]<;>omega) (by omega) (by rw [hj];simpa using ew) ⟨rfl,fin⟩) hs
theorem ix_tup:IxR X (BT X.K):=by
 intro value slice pins s σ H x y v u Q I rx ry h hs;obtain⟨p,xs,i,z,rfl,rfl,hq,he,q⟩:=h;cases rx;obtain⟨t,rfl⟩:=ry;obtain⟨its,r,pl,hz⟩:=I.tuple hq;obtain⟨j,h1,h2,h3,h4,h5⟩:=Yh he;obtain⟨w,ew,rw'⟩:=r.get h2;have hl:=r.length;have hn:=ZM;have fin:EP X pins σ Q w s:=⟨z,H,I,rw',q⟩;exact subscriptTail_builtinR (x:=w) pl.typeIs slot_tuple_getitem.lookup
  (getItem_tuple (j:=j) (Q:=λr s'=>r=w/\EP X pins σ Q r s') pl (by omega) (by omega) (by rw [G7,<-hl];exact h1) (by simpa using ew) ⟨rfl,fin⟩) hs
theorem Ry:IxR X BU:=by
 intro value slice pins s σ H x y v u Q I rx ry h hs;obtain⟨z,i,c,rfl,rfl,hz,he,q⟩:=h;obtain⟨t,rfl⟩:=rx;obtain⟨t',rfl⟩:=ry;obtain⟨j,h1,h2,h3,h4,h5⟩:=Yh he;have hl:z.cps.toList.length=z.length:=by simp [Str.length]
 rw [hl] at h1 h4 h5;have hn:=ZM;exact tail_any (typeIs_str s z t) slot_str_getitem.lookup (getItem_str (c:=c) (by
  have e1:decide (i< -(2^63:Int))=false:=P2 (by omega);have e2:decide (i>=2^63)=false:=P2 (by omega);rw [e1,e2,Bool.or_false]) (by rw [h1];simpa using h2) ⟨.str ⟨#[c]⟩,H,I.tok _,⟨_,rfl⟩,q⟩) hs
def rIx (K:PySem.W.Frag):R2:=λx y H Q=>BS K x y H Q\/BT K x y H Q\/BU x y H Q
theorem Rz:IxR X (rIx X.K):=ix_list.or (ix_tup.or Ry)
theorem VI (its:List Value)(n j:Nat)(u:Value):Obj.mapSeq (·.setIfInBounds j u) {cls:= .type "list",data:= .seq its.toArray n}= {cls:= .type "list",data:= .seq (its.set j u).toArray n}:=by
 simp [Obj.mapSeq]
theorem Inv.lst {pins:List (Addr×Obj)}{σ:St}{H:Hp}{s:Shared}{p:Addr}{xs:List V}(I:Inv X pins σ H s)(h:H p=some (.lst xs)):
 ∃ (its:List Value) (n:Nat),Vals xs its/\s.heap.get? p=some {cls:= .type "list",data:= .seq its.toArray n}/\xs.length<=sizeLine:=by
 obtain⟨z,its,n,r,e⟩:=I.hok p _ h;exact⟨its,n,r,e,z⟩
theorem Inv.lstUpd {pins:List (Addr×Obj)}{σ:St}{H:Hp}{s:Shared}{p:Addr}{xs ys:List V}{its its':List Value}{n n':Nat}{f:Obj->Obj}(I:Inv X pins σ H s)(h:H p=some (.lst xs))
 (ho:s.heap.get? p=some {cls:= .type "list",data:= .seq its.toArray n})(hf:f {cls:= .type "list",data:= .seq its.toArray n}= {cls:= .type "list",data:= .seq its'.toArray n'})(r:Vals ys its')(hz:ys.length<=sizeLine)(t:Nat):
 Inv X pins σ (upd H p (.lst ys)) {s with heap:=s.heap.update p f,toks:=t}:=by
 have e:(s.heap.update p f).get? p=some {cls:= .type "list",data:= .seq its'.toArray n'}:=by
  rw [Heap.get?_update_self f ho (by rw [hf]<;>rfl),hf]
 refine I.write (x:=p) (e:=p) (by rw [h];trivial) (.inl rfl) (λb u hb q=>(Heap.get?_update_other _ _ (Ne.symm hb)).trans q) ⟨_,e⟩ ?_;exact⟨hz,its',n',r,e⟩
def NC:V->V->V->Hp->(Hp->Prop)->Prop:=λo i v H Q=> ∃p xs k j,o= .ref p/\i= .int k/\H p=some (.lst xs)/\ixN xs.length k=some j/\Q (upd H p (.lst (xs.set j v)))
theorem Qw:BI X NC:=by
 intro pins s σ H o i v ov iv u Q I ro ri rv h;obtain⟨p,xs,k,j,rfl,rfl,hp,hj,q⟩:=h;cases ro;obtain⟨t,rfl⟩:=ri;obtain⟨its,n,r,ho,hz⟩:=I.lst hp;obtain⟨h1,h2,h3,h4⟩:=UJ hj;have hl:=r.length;have hn:=ZM;have I':Inv X pins σ (upd H p (.lst (xs.set j v))) {s with heap:=s.heap.update p (Obj.mapSeq (·.setIfInBounds j u))}:=
  I.lstUpd hp ho (VI its n j u) (r.set rv j) (by rw [List.length_set];exact hz) s.toks
 by_cases h0:0<=k
 ·have hk:k.toNat=j:=by
   rw [seqIndex_of h0 h4] at h1;exact R7 h1
  exact PySem.W.ki_setAt ho h0 (by omega) (by rw [G7,<-hl];exact h4) (by rw [hk];exact⟨_,I',q⟩)
 ·have hk:(k+(its.toArray.size:Int)).toNat=j:=by
   rw [seqIndex_neg (by omega) h3] at h1;rw [G7,<-hl];exact R7 h1
  exact PySem.W.ki_setBack ho (by omega) (by rw [G7,<-hl];exact h3) (by omega) (by rw [hk];exact⟨_,I',q⟩)
theorem ZR (lo hi:Option Int)(n:Nat):(sliceBounds lo hi none n).1=((HT.sIx n 0 lo:Nat):Int)/\(sliceBounds lo hi none n).2.1=((HT.sIx n n hi:Nat):Int)/\(sliceBounds lo hi none n).2.2=1:=by
 refine⟨?_,?_,rfl⟩
 ·cases lo with
  |none=>simp [sliceBounds,HT.sIx]
  |some i=>
   simp only [sliceBounds,HT.sIx,Option.getD_none,show (1:Int)>0 by decide,if_true]
   by_cases h:i<0
   ·simp only [h,if_true]<;>omega
   ·simp only [h,K0]<;>omega
 ·cases hi with
  |none=>simp [sliceBounds,HT.sIx]
  |some i=>
   simp only [sliceBounds,HT.sIx,Option.getD_none,show (1:Int)>0 by decide,if_true]
   by_cases h:i<0
   ·simp only [h,if_true]<;>omega
   ·simp only [h,K0]<;>omega
theorem JR (its:List Value)(lo hi:Option Int):slicePick its.toArray lo hi none=((its.drop (HT.sIx its.length 0 lo)).take (HT.sIx its.length its.length hi-HT.sIx its.length 0 lo)).toArray:=by
 obtain⟨h1,h2,h3⟩:=ZR lo hi its.toArray.size;unfold slicePick;rw [h1,h2,h3];simp only [sliceRange_one,pick_run,G7]<;>rfl
def Cl (K:PySem.W.Frag):V->Option Int->Option Int->Hp->VK->Prop:=λx lo hi H Q=> ∃a xs,x= .ref a/\SqL K H a xs/\ ∀p,H p=none->Q (.ref p) (upd H p (.lst (XW xs lo hi)))
theorem Pg:SlR X (Cl X.K):=by
 intro pins s σ H x v vl vu lo hi sl Q I rx hs pl pu h;obtain⟨a,xs,rfl,hx,q⟩:=h;cases rx;obtain⟨its,r,ht,hz⟩:=I.list hx;have hlen:=r.length;refine⟨"list",_,slot_list_getitem.lookup,ht.isList.typeIs,?_⟩;refine wpAny_getItem_list_slice ht.isList hs pl pu .none (by simp) ?_ (by rw [G7]<;>omega);rw [JR,<-hlen];refine⟨.ref s.heap.objs.size,_,I.laid (t':=s.toks) (o:= .lst (XW xs lo hi)) (λb ob q=>G3 _ q) (G4 _) ?_,rfl,q _ (I.hok.fresh (G4 _))⟩;exact⟨D3 (vK xs lo hi) hz,_,0,(r.drop (HT.sIx xs.length 0 lo)).take (HT.sIx xs.length xs.length hi-HT.sIx xs.length 0 lo),D4 _ rfl⟩
theorem call_len_seq:CallR X (.builtin "len") (λxs H Q=> ∃p ys,xs= [.ref p]/\(SqL X.K H p ys\/SqT X.K H p ys)/\Q (.int ys.length) H):=by
 intro pins s σ H xs us Q I r h;obtain⟨p,ys,rfl,hq,q⟩:=h;obtain⟨u,rfl,rx⟩:=Jq r;cases rx;have hn:=ZM;rcases hq with hq|hq
 ·obtain⟨its,r',pl,hz⟩:=I.list hq;have hlen:=r'.length;exact Calls.call_len_list pl.isList (by simp only [G7]<;>omega) ⟨.int ys.length,H,I.tok _,⟨s.toks+1,by rw [G7,hlen]⟩,q⟩
 ·obtain⟨its,r',pl,hz⟩:=I.tuple hq;have hlen:=r'.length;exact len_tuple pl (by simp only [G7]<;>omega) ⟨.int ys.length,H,I.tok _,⟨s.toks+1,by rw [G7,hlen]⟩,q⟩
theorem call_list_of:CallR X (.type "list") (λxs H Q=> ∃p ys,xs= [.ref p]/\(SqL X.K H p ys\/SqT X.K H p ys)/\ ∀l,H l=none->Q (.ref l) (upd H l (.lst ys))):=by
 intro pins s σ H xs us Q I r h;obtain⟨p,ys,rfl,hq,q⟩:=h;obtain⟨u,rfl,rx⟩:=Jq r;cases rx;have fin: ∀ (its:List Value),Vals ys its->ys.length<=sizeLine-> ∀ (h':Heap) (c':Nat),(∀b o',s.heap.get? b=some o'->h'.get? b=some o')->
  h'.get? s.heap.objs.size=some {cls:= .type "list",dict:=none,data:= .seq its.toArray c',slots:= #[]}->EP X pins σ Q (.ref s.heap.objs.size) {s with heap:=h'}:=λits r' hz h' c' kp e=>
  ⟨.ref s.heap.objs.size,_,I.laid (t':=s.toks) kp (G4 _) (show ObjOk X.prog X.w _ h' _ (.lst ys) from ⟨hz,its,c',r',e⟩),rfl,q _ (I.hok.fresh (G4 _))⟩
 rcases hq with hq|hq
 ·obtain⟨its,r',pl,hz⟩:=I.list hq;have hlen:=r'.length;obtain⟨o,ho,hc,n,hd⟩:=pl.isList;exact call_list_seq p (.inl rfl) ho hc hd (λh' c' kp e=>fin its r' hz h' c' kp e) (by simp only [G7]<;>omega)
 ·obtain⟨its,r',pl,hz⟩:=I.tuple hq;have hlen:=r'.length;obtain⟨o,ho,hc,n,hd⟩:=pl;exact call_list_seq p (.inr rfl) ho hc hd (λh' c' kp e=>fin its r' hz h' c' kp e) (by simp only [G7]<;>omega)
theorem call_tuple_of:CallR X (.type "tuple") (λxs H Q=> ∃p ys,xs= [.ref p]/\((SqL X.K H p ys/\ ∀l,H l=none->Q (.ref l) (upd H l (.tup ys)))\/(SqT X.K H p ys/\Q (.ref p) H))):=by
 intro pins s σ H xs us Q I r h;obtain⟨p,ys,rfl,h⟩:=h;obtain⟨u,rfl,rx⟩:=Jq r;cases rx;rcases h with ⟨hq,q⟩|⟨hq,q⟩
 ·obtain⟨its,r',pl,hz⟩:=I.list hq;have hlen:=r'.length;refine call_tuple_list pl.isList (λh' kp=> ?_) (by simp only [G7]<;>omega);have I1:Inv X pins σ H {s with heap:=h'}:=I.kept (t':=s.toks) kp;have I2:Inv X pins σ (upd H h'.objs.size (.tup ys)) {s with heap:=h'.push {cls:= .type "tuple",data:= .seq its.toArray}}:=
   I1.laid (t':=s.toks) (λb o e=>G3 _ e) (G4 _) (show ObjOk X.prog X.w _ _ _ (.tup ys) from ⟨hz,its,r',IsTupN.new _ _⟩)
  exact⟨.ref h'.objs.size,_,I2,rfl,q _ (I1.hok.fresh (G4 _))⟩
 ·obtain⟨its,r',pl,hz⟩:=I.tuple hq;exact call_tuple_same pl ⟨.ref p,H,I,rfl,q⟩
def tyV (K:PySem.W.Frag)(T:String)(x:V)(H:Hp):Prop:=match x with
 | .str _=>T= "str"
 | .int _=>T= "int"
 | .ref p=>(T= "list" /\ ∃xs,SqL K H p xs)\/(T= "tuple" /\ ∃o,K.lookup p=some o/\o.cls= .type "tuple" /\o.dict=none)\/
  (T= "dict" /\((∃kvs,H p=some (.dK kvs))\/ ∃kvs,H p=some (.dT kvs)))\/(T= "set" /\ ∃S n,H p=some (.set S n))
 |_=>False
theorem RA {pins:List (Addr×Obj)}{σ:St}{H:Hp}{s:Shared}{T:String}{x:V}{v:Value}(I:Inv X pins σ H s)(r:RelV x v)(ty:tyV X.K T x H):
 s.TypeIs v T/\ ∀a,v= .ref a-> ∃ob,s.heap.get? a=some ob/\ob.dict=none:=by
 cases x with
 |str z=>
  obtain⟨t,rfl⟩:=r;cases (show T= "str" from ty);exact⟨typeIs_str s z t,λ_ e=>nomatch e⟩
 |int i=>
  obtain⟨t,rfl⟩:=r;cases (show T= "int" from ty);exact⟨I0 s i t,λ_ e=>nomatch e⟩
 |ref p=>
  cases r;rcases ty with ⟨rfl,xs,hq⟩|⟨rfl,o,hk,hc,hd⟩|⟨rfl,hk⟩|⟨rfl,S,n,hk⟩
  ·obtain⟨its,_,pl,_⟩:=I.list hq;refine⟨pl.isList.typeIs,λa e=> ?_⟩;cases e;obtain⟨o,n,e,c,hd,_⟩:=pl;exact⟨o,e,hd⟩
  ·refine⟨⟨o,I.kIn p o hk,hc⟩,λa e=> ?_⟩;cases e;exact⟨o,I.kIn _ o hk,hd⟩
  ·have z: ∃o,s.heap.get? p=some o/\o.ExactDict:=by
    rcases hk with ⟨kvs,hk⟩|⟨kvs,hk⟩
    ·obtain⟨_,_,_,_,o,_,_,e,ex,_⟩:=I.hok p _ hk;exact⟨o,e,ex⟩
    ·obtain⟨_,_,_,_,o,_,_,e,ex,_⟩:=I.hok p _ hk;exact⟨o,e,ex⟩
   obtain⟨o,e,ex⟩:=z;refine⟨⟨o,e,ex.1⟩,λa e2=> ?_⟩;cases e2;exact⟨o,e,ex.2.1⟩
  ·obtain⟨o,_,_,_,e,ex,_⟩:=I.hok p _ hk;refine⟨⟨o,e,ex.1⟩,λa e2=> ?_⟩;cases e2;exact⟨o,e,ex.2.1⟩
 |_=>exact False.elim ty
def tBM (K:PySem.W.Frag)(T:String)(r:V->List V->Hp->VK->Prop)(to:TE)(t:TA):TE:=λσ H Q=>to σ H λx H1=>tyV K T x H1/\t σ H1 λxs H2=>r x xs H2 Q
variable {o e:Expr}{es:List Expr}{to:TE}{t:TA}{name:Str}{apos cpos:Pos}{T id:String}{r:V->List V->Hp->VK->Prop}
theorem RB (pa:PlainAttrs T)(slot:Slot T name id)(hty:typeOf (.builtin id)=pure (.type "method_descriptor"))(hm:MtR X id r)(ho:PE X o to)(ha:PA X (e::es) t)
 (hbase:attributeBase o name X.env (eval o X.env)=eval o X.env:=by rfl)
 (hfew:((backTo cpos (starEach (e::es) X.env)).all (λx=> !x.1)&&(backToKw cpos (keywordEach [] X.env)).all (λx=>x.1.isSome)
  &&decide ((e::es).length+([]:List Keyword).length+(if ([]:List Keyword).isEmpty then 0 else 1)<30))=true:=by rfl)
 (hline:(apos.endLine==cpos.line)=true:=by rfl)(hs:starEach (e::es) X.env=(false,eval e X.env)::starEach es X.env:=by rfl)(hplain:(backTo cpos (starEach es X.env)).any (·.1)=false:=by rfl):
 PE X (.Call (.Attribute o name apos) (e::es) [] cpos) (tBM X.K T r to t):=by
 intro pins s σ H Q I h;refine wpAny_Call_method_late hbase hfew hline rfl (thn (ho pins s σ H _ I h) λv s1 ⟨x,H1,I1,r1,ty,q1⟩=> ?_);obtain⟨h1,h2⟩:=RA I1 r1 ty;refine⟨T,id,pa,slot,hty,h1,h2,?_⟩;have hA:=ha cpos pins s1 σ H1 _ I1 q1;rw [hs] at hA ⊢;refine Calls.callWith_builtin (by show (false||(backTo cpos (starEach es X.env)).any (·.1))=false;rw [hplain]<;>rfl) (Calls.evalArgs_plain ?_);exact thn hA λus s2 ⟨vs,H2,I2,r2,q2⟩=>hm pins s2 σ H2 x vs v us Q I2 r1 r2 q2
end
def MtM (X:Cx)(id:String)(r:V->List V->Hp->VK->Prop):Prop:=
 ∀ (pins:List (Addr×Obj)) (s:Shared) (σ:St) (H:Hp) (x:V) (xs:List V) (v:Value) (us:List Value) (Q:VK),Inv X pins σ H s->RelV x v->Vals xs us->r x xs H Q->
  wpAny (model X.prog X.w) X.A (call (.builtin id) (v::us)) (EP X pins σ Q) X.xe s
theorem Vals.one: ∀ {x:V} {us:List Value},Vals [x] us-> ∃u,us= [u]/\RelV x u
 |_,_,.cons r .nil=>⟨_,rfl,r⟩
theorem Vals.rep {xs:List V}{us:List Value}(h:Vals xs us): ∀k:Nat,Vals (List.replicate k xs).flatten (List.replicate k us).flatten
 |0=> .nil
 |k+1=>by
  rw [T2,T2,N0,N0];exact Vals.append h (Vals.rep h k)
theorem vL (its:List Value): ∀ (k:Nat) (acc:List Value),
 List.foldl (λx1 x2=>x1++x2) acc.toArray (List.replicate k its.toArray)=(acc++(List.replicate k its).flatten).toArray
 |0,acc=>by simp
 |k+1,acc=>by
  have e:acc.toArray++its.toArray=(acc++its).toArray:=by simp
  have e2:(acc++its)++(List.replicate k its).flatten=acc++(List.replicate (k+1) its).flatten:=by
   rw [T2,N0,N1]
  rw [<-e2,<-vL its k (acc++its),<-e,T2,List.foldl_cons]
section
variable {X:Cx}{pins:List (Addr×Obj)}{σ:St}{H:Hp}{s:Shared}{l b:Addr}{xs ys zs:List V}
theorem Inv.lset {its its':List Value}{n:Nat}{f:Array Value->Array Value}{t':Nat}(I:Inv X pins σ H s)(hH:H l=some (.lst xs))
 (e:s.heap.get? l=some {cls:= .type "list",data:= .seq its.toArray n})(hf:f its.toArray=its'.toArray)(hv:Vals ys its')(hz:ys.length<=sizeLine):
 Inv X pins σ (upd H l (.lst ys)) {s with heap:=s.heap.update l (Obj.mapSeq f),toks:=t'}:=by
 have q:=PySem.IsL.update e f;rw [hf] at q;refine I.write (x:=l) (e:=l) (by rw [hH];exact trivial) (.inl rfl) (λb' u hb hu=>(Heap.get?_update_other s.heap (Obj.mapSeq f) (Ne.symm hb)).trans hu) ⟨_,q⟩ ?_;exact⟨hz,its',_,hv,q⟩
theorem Inv.lnew {its:List Value}{t':Nat}(I:Inv X pins σ H s)(hv:Vals ys its)(hz:ys.length<=sizeLine):
 Inv X pins σ (upd H s.heap.objs.size (.lst ys)) {s with heap:=s.heap.push {cls:= .type "list",data:= .seq its.toArray},toks:=t'}:=
 I.laid (λ_ _ q=>G3 _ q) (G4 _) ⟨hz,its,0,hv,D4 _ rfl⟩
theorem Inv.fresh (I:Inv X pins σ H s):H s.heap.objs.size=none:=I.hok.fresh (G4 _)
theorem Inv.lstM (I:Inv X pins σ H s)(hH:H l=some (.lst xs)):xs.length<=sizeLine/\ ∃ (its:List Value) (n:Nat),Vals xs its/\xs.length=its.length/\s.heap.get? l=some {cls:= .type "list",data:= .seq its.toArray n}:=by
 obtain⟨z,its,n,r,e⟩:=I.hok l _ hH;exact⟨z,its,n,r,r.length,e⟩
theorem Qx {n:Nat}(h:n<=sizeLine):Builtin.List.listTooLong n=false:=by
 unfold Builtin.List.listTooLong;exact P2 (by omega)
end
section
variable {X:Cx}
def Ph:V->List V->Hp->VK->Prop:=λx vs H Q=> ∃l xs y,x= .ref l/\vs= [y]/\H l=some (.lst xs)/\xs.length<sizeLine/\Q .non (upd H l (.lst (xs++ [y])))
theorem UK:MtM X "list.append" Ph:=by
 intro pins s σ H x vs v us Q I rx rv h;obtain⟨l,xs,y,rfl,rfl,hH,hz,q⟩:=h;cases rx;obtain⟨u,rfl,ru⟩:=rv.one;obtain⟨z,its,n,r,hl,e⟩:=I.lstM hH;refine J7 F.slot_list_append ⟨_,e,rfl⟩ F.entry_list_append (F.args_list_append_2 _ _) (PySem.list_append l its.toArray n u (by rw [G7];omega)) ⟨e,?_⟩;refine⟨.non,_,I.lset (its':=its++ [u]) hH e (by simp) (r.append (.cons ru .nil)) ?_,rfl,q⟩;rw [P8,F8];omega
def Cm:R2:=λx y H Q=> ∃l b xs zs,x= .ref l/\y= .ref b/\H l=some (.lst xs)/\H b=some (.lst zs)/\xs.length+zs.length<=sizeLine/\ ∀p,H p=none->Q (.ref p) (upd H p (.lst (xs++zs)))
theorem RC:OpR X (binaryOp .Add) Cm:=by
 intro pins s σ H x y v u Q I rx ry h;obtain⟨l,b,xs,zs,rfl,rfl,hH,hB,hz,q⟩:=h;cases rx;cases ry;obtain⟨z,its,n,r,hl,e⟩:=I.lstM hH;obtain⟨z2,its2,n2,r2,hl2,e2⟩:=I.lstM hB;refine PySem.P.add_list e e2 ?_ (by rw [G7,G7];omega);have ea:its.toArray++its2.toArray=(its++its2).toArray:=by simp
 rw [ea];exact⟨.ref _,_,I.lnew (t':=s.toks) (r.append r2) (by rw [P8];omega),rfl,q _ I.fresh⟩
def Cn:R2:=λx y H Q=> ∃l k xs,x= .ref l/\y= .int k/\H l=some (.lst xs)/\ -(2^63)<=k/\k<2^63/\xs.length*k.toNat<=sizeLine/\
 ∀p,H p=none->Q (.ref p) (upd H p (.lst (List.replicate k.toNat xs).flatten))
theorem Yj {α:Type}(xs:List α)(k:Nat):(List.replicate k xs).flatten.length=k*xs.length:=by
 induction k with
 |zero=>simp
 |succ k ih=>rw [T2,N0,P8,ih,Nat.succ_mul,Nat.add_comm]
theorem RD:OpR X (binaryOp .Mult) Cn:=by
 intro pins s σ H x y v u Q I rx ry h;obtain⟨l,k,xs,rfl,rfl,hH,h1,h2,hz,q⟩:=h;cases rx;obtain⟨t,rfl⟩:=ry;obtain⟨z,its,n,r,hl,e⟩:=I.lstM hH;have hlen:its.toArray.size*k.toNat<=sizeLine:=by rw [G7,<-hl];exact hz
 have hcap: ¬its.toArray.size*k.toNat>(2^63-1) / 8:=by
  have:(sizeLine:Nat)<=(2^63-1) / 8:=by decide
  omega
 have hfit: ¬ (!Builtin.List.listFitsIndex k)=true:=by
  rw [fitsIndex_both h1 h2];exact G6
 have hlong: ¬Builtin.List.listTooLong (its.toArray.size*k.toNat)=true:=by
  rw [Qx hlen];exact G6
 have hnew:List.foldl (λx1 x2=>x1++x2) #[] (List.replicate (if its.toArray.isEmpty=true then 0 else k.toNat) its.toArray)=(List.replicate k.toNat its).flatten.toArray:=by
  have f0: ∀m:Nat,List.foldl (λx1 x2=>x1++x2) #[] (List.replicate m its.toArray)=(List.replicate m its).flatten.toArray:=λm=>by
   have:=vL its m [];rw [S7] at this;exact this
  rw [f0];cases its with
  |nil=>simp
  |cons a r'=>rw [if_neg (by simp)]
 refine O9 (T:= "list") (U:= "int") (by decide) ⟨_,e,rfl⟩ (λs'=>I0 s' k t) noFill_list_mul F.fills_int_mul L5 repeat_list F.slot_int_index.lookup
  (J7 L5 (I0 s k t) F.entry_int_rmul (F.args_int_rmul_2 _ _) (int___rmul___int_list k t l its.toArray n)
   ⟨e,rfl,⟨_,e,rfl⟩,J7 F.slot_list_mul ⟨_,e,rfl⟩ F.entry_list_mul (F.args_list_mul_2 _ _) (AutoListH.list___mul___list_int_3 l its.toArray n k t hfit hcap hlong) ⟨e,?_⟩⟩)
 rw [hnew];exact⟨.ref _,_,I.lnew (t':=s.toks) (r.rep k.toNat) (by rw [Yj,Nat.mul_comm];exact hz),rfl,q _ I.fresh⟩
end
end L2
namespace Att
open PySem PySem.W PySem.Calls PyProof.Rows
theorem vM {P:Params}{h:Heap}: ∀ (ns:List Int) (vs:List Value),WellAll P h vs (ns.map WData.int)->IntsAre vs ns:=by
 intro ns
 induction ns with
 |nil=>
  intro vs w;rw [T6] at w;cases w;exact .nil
 |cons n ns ih=>
  intro vs w;rw [D1] at w;cases w with
  |cons a b=>
   cases a;exact .cons _ _ (ih _ b)
theorem UL {l:OpenLaw}{n:Nat}(hn:l.most=some n){P:Params}{h:Heap}{args:List WData}{vals:List Value}
 (hpre:l.row.toRowW.claim.pre args=true)(hwl:WellAll P h vals args):
 ∃a vs ns,vals= [Value.ref a]/\args= [WData.list (ns.map WData.int)]/\h.get? a=some {cls:= .type "list",data:= .seq vs.toArray}/\IntsAre vs ns/\ns.length<=n:=by
 have hsh:WShape.hasAll [] args [.list .int]=true:=(pre_splitW hpre).1;have hc:l.pre.holds [] {args:=args}=true:=(pre_splitW hpre).2;obtain⟨d,r,rfl,h1,h2⟩:=hasAllW_cons hsh;obtain rfl:=hasAllW_nil h2;obtain⟨xs,rfl,h3⟩:=hasW_list h1;obtain⟨ns,rfl⟩:=items_int h3;have hlen:ns.length<=n:=by
  unfold OpenLaw.pre at hc;have h4:(WTm.not (.lt (.lit (.int (n:Int))) (.len (.arg 0)))).holds [] {args:= [.list (ns.map .int)]}=true:=by
   have h4:=(holds_andW hc).1;rw [hn] at h4;exact h4
  have h5:=condW_of h4 (w_not (w_lt w_lit (w_len_list (w_arg rfl))));rw [G0] at h5;refine Nat.le_of_not_lt λq=> ?_
  have q':(n:Int)<((ns.length:Nat):Int):=by omega
  first
   |(rw [P7 q'] at h5;exact absurd h5 (by decide))
   |(simp at h5;omega)
 cases hwl with
 |cons w1 w2=>
  cases w2;cases w1 with
  |list ho hall=>exact⟨_,_,ns,rfl,rfl,ho,vM ns _ hall,hlen⟩
theorem UM (l:OpenLaw)(args:List WData):l.row.toRowW.claim.post args (.bool true) args=true:=
 postW_of (r:=l.row.toRowW) (X:=(true==true))
  (show WShape.has [] (.bool true) .bool=true by first|rfl|decide|simp [WShape.has,WShape.arms,WShape.armsAll])
  (show (WTm.eq .res (.lit (.bool true))).value [] {args:=args,res:=some (.bool true),after:=args}=some (.bool (true==true)) from w_eq_bool (w_res rfl) w_lit) rfl
theorem attach_call {l:OpenLaw}{n:Nat}{q:Program}{loose:List Str}{XP:(Str->Option Value)->Heap->Prop}{YP:World->Heap->Prop}{d:DefRec}
 (hn:l.most=some n)(hdf:d.params.defaults= [])
 (call: ∀ (w:World) (s₀ s₁:Shared) (mg mb:Str->Option Value) (fa:Addr) (o:Obj) (pm cd doc:Value) (a:Addr) (vs:List Value) (ns:List Int),
  Ground q loose [] XP w s₀ mg mb s₁.heap->YP w s₁.heap->
  s₁.heap.get? fa=some o->o.data= .func (docDef d.name d.params d.body d.scope pm cd doc)->s₁.heap.CodeRec cd d.name->mg d.name=some (.ref fa)->
  s₁.heap.get? a=some {cls:= .type "list",data:= .seq vs.toArray}->IntsAre vs ns->ns.length<=n->s₁.gens= #[]->
  codeAny (model l.prog w) callerA (.call (.ref fa) ⟨[.ref a],[]⟩) (λr s'=>r= .ok (.ret (.bool true))/\OldK s₁.heap s'.heap/\s'.os=s₁.os/\AllBare s'.gens) s₁):
 WalkO q loose XP YP l.row.toRowW d [] (λf vs=>PySem.call f vs):=by
 intro w s₀ s₁ mg mb G Y fa o pm cd doc dV kV ho hd hcd hD hmg hg args vals as hpre hlay hrd hwl hlo;obtain rfl:dV= .none:=Dflts.none hD hdf;obtain rfl:kV= .none:=Dflts.noKw hD;obtain⟨a,vs,ns,rfl,rfl,hobj,hints,hlen⟩:=UL hn hpre hwl;refine enter_call (codeAny_mono (call w s₀ s₁ mg mb fa o pm cd doc a vs ns G Y ho (fd_plain hd) hcd hmg hobj hints hlen hg) λr s' hq=> ?_);obtain⟨rfl,h2,h3,h4⟩:=hq;exact⟨.inl ⟨.bool true,.bool true,[],rfl,λ_=>rfl,.bool true,UM l _,λ_=>⟨List.Pairwise.nil,λ_ hm=>(nomatch hm)⟩⟩,h2,h3,h4⟩
end Att
namespace L2
open PySem PySem.Spec PyProof.Rows
theorem ZS: ∀ {vs:List Value} {ns:List Int},IntsAre vs ns->Vals (ns.map V.int) vs
 |_,_,.nil=> .nil
 |_,_,.cons n t h=> .cons ⟨t,rfl⟩ (ZS h)
def wf (s:Stmt):Arguments:=match s with
 | .FunctionDef _ a _ _ _ _ _ _ _ _=>a
 |_=> {posonlyargs:= [],args:= [],vararg:=none,kwonlyargs:= [],kw_defaults:= [],kwarg:=none,defaults:= []}
def zt (s:Stmt):List Stmt:=match s with
 | .FunctionDef _ _ b _ _ _ _ _ _ _=>b
 |_=> []
def jj (s:Stmt):Scope:=match s with
 | .FunctionDef _ _ _ _ _ _ sc _ _ _=>sc
 |_=> {kind:= .function,names:= [],isGenerator:=false,isCoroutine:=false}
abbrev CX0:CXT:=λ_ _ _ _ _ _=>False
abbrev E0:XK:=λ_ _ _=>False
variable {X:Cx}
theorem ND:UF CX0 X E0:=λ_ _ _ _ _ _ _ h=>h.elim
structure Fun (K:PySem.W.Frag)(x qual:Str)(st:Stmt)(f:Addr)(fd:FuncData):Prop where
 ex: ∃ (oc:Value) (od:Option Addr) (kV doc pm:Value) (an:Option Addr) (cdv ct:Value) (osl:Array (Option Value)),
  fd=PySem.W.fnOf x qual (wf st) (zt st) (jj st) .none kV doc pm an cdv ct/\K.lookup f=some ⟨oc,od,.func fd,osl⟩/\PySem.W.codeIn K cdv qual=true
 kp:PySem.W.keepIn K (.ref f)=true
section
variable {P:Program}{w:World}{K:PySem.W.Frag}{mg:Str->Option Value}{base:Heap}
variable {qual:Str}
theorem Fun.ok {x:Str}{st:Stmt}{f:Addr}{fd:FuncData}{N ps:List Str}{k:Nat}{sp:Sp}(F:Fun K x qual st f fd)(S:FnScope N ps (jj st))(len: ∀vs H Q E,sp vs H Q E->vs.length=ps.length)
 (hbody: ∀ (cdv:Value) (A:Around) (outer:List Env) (s:Shared) (H:Hp) (vs:List V) (Q:VK) (E:XK),Room k (A.deeper (envOfC qual (jj st) s.heap.objs.size f cdv))->sp vs H Q E->
  ∃t,PSs (Gt CX0 P w K mg base N qual (jj st) f cdv A outer s H E).nox (zt st) t/\t {nx:=λ_ H'=>Q .non H',rt:=Q} (vJ N vs) H):FnOk P w K mg base CX0 (k+1) f fd ps sp:=by
 obtain⟨oc,od,kV,doc,pm,an,cdv,ct,osl,rfl,lk,hcd⟩:=F.ex;refine Ny lk hcd S len λA outer s H vs Q E hr hsp=> ?_
 obtain⟨t,h,q⟩:=hbody cdv A outer s H vs Q E hr hsp;exact⟨t,h.nox,q⟩
theorem Fun.binds {x:Str}{st:Stmt}{f:Addr}{fd:FuncData}{ps:List Str}(F:Fun K x qual st f fd)
 (h: ∀ (kV doc pm:Value) (an:Option Addr) (cdv ct:Value) (us:List Value),us.length=ps.length->bindArgs (PySem.W.fnOf x qual (wf st) (zt st) (jj st) .none kV doc pm an cdv ct) ⟨us,[]⟩=pure (ps.zip us)):Binds K fd ps []:=by
 obtain⟨oc,od,kV,doc,pm,an,cdv,ct,osl,rfl,lk,hcd⟩:=F.ex;exact .all (h kV doc pm an cdv ct)
theorem RE {x:Str}{st:Stmt}{f:Addr}{oc:Value}{od an:Option Addr}{osl:Array (Option Value)}{kV doc pm cdv ct:Value}(l:K.lookup f=some ⟨oc,od,.func (PySem.W.fnOf x qual (wf st) (zt st) (jj st) .none kV doc pm an cdv ct),osl⟩)
 (c:PySem.W.codeIn K cdv qual=true)(k:PySem.W.keepIn K (.ref f)=true):Fun K x qual st f (PySem.W.fnOf x qual (wf st) (zt st) (jj st) .none kV doc pm an cdv ct):=⟨⟨oc,od,kV,doc,pm,an,cdv,ct,osl,rfl,l,c⟩,k⟩
end
theorem jX {n:Nat}(h:n<=1000):n<sizeLine:=C9 h (by decide)
theorem wN {A B:Prop}(h:B):if false=true then A else B:=by
 rw [if_neg G6];exact h
theorem yN {A B:Prop}(h:A):if true=true then A else B:=by
 rw [if_pos rfl];exact h
theorem ZT {c A B:Prop}[Decidable c](h1:c->A)(h2: ¬c->B):if c then A else B:=by
 by_cases h:c
 ·rw [if_pos h];exact h1 h
 ·rw [if_neg h];exact h2 h
section
variable {κ:Type}[DecidableEq κ]
def ZI (kvs:List (κ×V))(k:κ):Option V:=(kvs.find? λkv=>decide (kv.1=k)).map (·.2)
def JU (kvs:List (κ×V))(k:κ)(v:V):List (κ×V):=
 if (kvs.any λkv=>decide (kv.1=k))=true then kvs.map (λkv=>if kv.1=k then (kv.1,v) else kv) else kvs++ [(k,v)]
theorem vB {p:κ×V}{r:List (κ×V)}{k:κ}(e:p.1=k):ZI (p::r) k=some p.2:=by simp [ZI,T9,e]
theorem vC {p:κ×V}{r:List (κ×V)}{k:κ}(e: ¬p.1=k):ZI (p::r) k=ZI r k:=by simp [ZI,T9,e]
theorem vD (k:κ): ∀kvs:List (κ×V),(kvs.any λkv=>decide (kv.1=k))=(ZI kvs k).isSome
 | []=>rfl
 |p::r=>by
  rw [J5]
  by_cases e:p.1=k
  ·simp only [vB e,P7 e,Bool.true_or,Option.isSome_some]
  ·rw [vC e,P2 e,Bool.false_or];exact vD k r
theorem wQ (kvs:List (κ×V))(k:κ)(v:V):(JU kvs k v).length<=kvs.length+1:=by
 unfold JU;split
 ·rw [G0];omega
 ·rw [P8,D0,D9];omega
theorem Qy {kvs:List (κ×V)}{k:κ}(v:V)(h:ZI kvs k=none):JU kvs k v=kvs++ [(k,v)]:=by
 unfold JU;rw [vD,h];exact if_neg (by decide)
theorem RelO.isSome_eq {o:Option V}{u:Option Value}(r:RelO o u):o.isSome=u.isSome:=by
 cases o with
 |none=>cases u with
  |none=>rfl
  |some _=>exact(show False from r).elim
 |some _=>cases u with
  |none=>exact(show False from r).elim
  |some _=>rfl
theorem RelO.getD {o:Option V}{u:Option Value}{d:V}{d':Value}(r:RelO o u)(rd:RelV d d'):RelV (o.getD d) (u.getD d'):=by
 cases o with
 |none=>cases u with
  |none=>exact rd
  |some _=>exact(show False from r).elim
 |some _=>cases u with
  |none=>exact(show False from r).elim
  |some _=>exact r
theorem KV.val {kvs:List (κ×V)}{vs:List (κ×Value)}(r:KV kvs vs)(k:κ):RelO (ZI kvs k) (valueAt vs k):=by
 unfold KV at r
 induction r with
 |nil=>exact True.intro
 | @cons p q ps qs h t ih=>
  obtain⟨h1,h2⟩:=h
  by_cases e:p.1=k
  ·have e':q.1=k:=h1.symm.trans e;have b:valueAt (q::qs) k=some q.2:=by simp [valueAt,T9,e']
   rw [vB e,b];exact h2
  ·have e': ¬q.1=k:=λz=>e (h1.trans z)
   have b:valueAt (q::qs) k=valueAt qs k:=by simp [valueAt,T9,e']
   rw [vC e,b];exact ih
theorem KV.any {kvs:List (κ×V)}{vs:List (κ×Value)}(r:KV kvs vs)(k:κ):(kvs.any λkv=>decide (kv.1=k))=vs.any λkv=>decide (kv.1=k):=by
 unfold KV at r
 induction r with
 |nil=>rfl
 |cons h t ih=>rw [J5,J5,ih,h.1]
theorem KV.repl {kvs:List (κ×V)}{vs:List (κ×Value)}(r:KV kvs vs)(k:κ){y:V}{u:Value}(ry:RelV y u):
 KV (kvs.map λkv=>if kv.1=k then (kv.1,y) else kv) (vs.map λkv=>if kv.1=k then (kv.1,u) else kv):=by
 unfold KV at r ⊢
 induction r with
 |nil=>exact .nil
 | @cons p q ps qs h t ih=>
  rw [D1,D1];refine .cons ?_ ih;obtain⟨h1,h2⟩:=h
  by_cases e:p.1=k
  ·rw [if_pos e,if_pos (h1.symm.trans e)];exact⟨h1,ry⟩
  ·rw [if_neg e,if_neg (λz=>e (h1.trans z))];exact⟨h1,h2⟩
theorem KV.put {kvs:List (κ×V)}{vs:List (κ×Value)}(r:KV kvs vs)(k:κ){y:V}{u:Value}(ry:RelV y u):KV (JU kvs k y) (stored vs k u):=by
 unfold JU stored;rw [r.any k]
 by_cases e:(vs.any λkv=>decide (kv.1=k))=true
 ·rw [if_pos e,if_pos e];exact r.repl k ry
 ·rw [if_neg e,if_neg e];exact Paired.snoc r ⟨rfl,ry⟩
theorem KV.keys {kvs:List (κ×V)}{vs:List (κ×Value)}(r:KV kvs vs):kvs.map (·.1)=vs.map (·.1):=by
 unfold KV at r
 induction r with
 |nil=>rfl
 |cons h t ih=>rw [D1,D1,ih,h.1]
theorem KV.length {kvs:List (κ×V)}{vs:List (κ×Value)}(r:KV kvs vs):kvs.length=vs.length:=Paired.length r
end
variable {P:Program}{w:World}
theorem VJ {k:Key}{u:Value}(r:RelV (kV k) u):(jL P w).is k u=true:=by
 cases k with
 |inl i=>obtain⟨t,e⟩:=(show ∃t,u=Value.int i t from r);subst e;exact Ye P w i t
 |inr x=>obtain⟨t,e⟩:=(show ∃t,u=Value.str x t from r);subst e;exact Yf P w x t
theorem ZU: ∀ {ks:List Key} {us:List Value},Vals (ks.map kV) us->ItemsAre (jL P w) ks us
 | [],_,r=>by rw [T6] at r;cases r;exact .nil
 |k::ks,_,r=>by
  rw [D1] at r;cases r with
  |cons h t=>exact .cons (VJ h) (ZU t)
abbrev KT (H:Hp):List (List Key×V)->List (List Key×Addr×Value)->Prop:=Paired λp q=>p.1=q.1/\H q.2.1=some (.tup (p.1.map kV))/\RelV p.2 q.2.2
variable {H:Hp}{kvs:List (List Key×V)}{xs:List (List Key×Addr×Value)}
theorem KT.val (r:KT H kvs xs)(k:List Key):RelO (ZI kvs k) ((atKey xs k).map (·.2)):=by
 induction r with
 |nil=>exact True.intro
 | @cons p q ps qs h t ih=>
  obtain⟨h1,_,h2⟩:=h
  by_cases e:p.1=k
  ·have e':q.1=k:=h1.symm.trans e;have b:atKey (q::qs) k=some q.2:=by simp [atKey,T9,e']
   rw [vB e,b];exact h2
  ·have e': ¬q.1=k:=λz=>e (h1.trans z)
   have b:atKey (q::qs) k=atKey qs k:=by simp [atKey,T9,e']
   rw [vC e,b];exact ih
theorem KT.repl (r:KT H kvs xs)(k:List Key){y:V}{u:Value}(ry:RelV y u):
 KT H (kvs.map λkv=>if kv.1=k then (kv.1,y) else kv) (xs.map (putAt k u)):=by
 induction r with
 |nil=>exact .nil
 | @cons p q ps qs h t ih=>
  rw [D1,D1];refine .cons ?_ ih;obtain⟨h1,h2,h3⟩:=h;unfold putAt
  by_cases e:p.1=k
  ·rw [if_pos e,if_pos (h1.symm.trans e)];exact⟨h1,h2,ry⟩
  ·rw [if_neg e,if_neg (λz=>e (h1.trans z))];exact⟨h1,h2,h3⟩
theorem KT.put (r:KT H kvs xs)(k:List Key){b:Addr}{y:V}{u:Value}(hb:H b=some (.tup (k.map kV)))(ry:RelV y u):
 KT H (JU kvs k y) (storedH xs k b u):=by
 have e:(kvs.any λkv=>decide (kv.1=k))=(atKey xs k).isSome:=by
  rw [vD,(r.val k).isSome_eq,A1]
 unfold JU storedH;rw [e]
 by_cases q:(atKey xs k).isSome=true
 ·rw [if_pos q,if_pos q];exact r.repl k ry
 ·rw [if_neg q,if_neg q];exact Paired.snoc r ⟨rfl,hb,ry⟩
theorem KT.keeps {H':Hp}(r:KT H kvs xs)(ht: ∀b ys,H b=some (.tup ys)->H' b=some (.tup ys)):KT H' kvs xs:=
 Paired.mapP r λ_ _ z=>⟨z.1,ht _ _ z.2.1,z.2.2⟩
section
variable {P:Program}{w:World}{H:Hp}{h:Heap}{a:Addr}
theorem RF {u:HO}(ok:HOk P w H h)(e:Rd H a u):ObjOk P w H h a u:=e.ok ok
theorem VL {kvs:List (Key×V)}(ok:HOk P w H h)(e:Rd H a (.dK kvs)):kvs.length<=sizeLine/\(a==sysModules)=false/\ ∃vs,KV kvs vs/\h.DictOf (jL P w) a vs:=
 show ObjOk P w H h a (.dK kvs) from RF ok e
theorem Pi {kvs:List (Key×V)}(ok:HOk P w H h)(e:H a=some (.dK kvs)):kvs.length<=sizeLine/\(a==sysModules)=false/\ ∃vs,KV kvs vs/\h.DictOf (jL P w) a vs:=VL ok (.inl e)
theorem ZV {ks:List Key}(ok:HOk P w H h)(e:H a=some (.tup (ks.map kV))):(tupleKind (jL P w)).is h ks a:=by
 obtain⟨_,its,r,o,h1,h2,_,n,h3⟩:=(show ObjOk P w H h a (.tup (ks.map kV)) from ok a _ e);exact⟨o,its.toArray,n,h1,h2,h3,by simpa using ZU r⟩
theorem VM {kvs:List (List Key×V)}(ok:HOk P w H h)(e:Rd H a (.dT kvs)):kvs.length<=sizeLine/\(a==sysModules)=false/\
 ∃xs,KT H kvs xs/\h.DictOfH (tupleKind (jL P w)) a xs:=by
 obtain⟨z,y,xs,r,o,es,ep,h1,h2,h3,h4,h5⟩:=(show ObjOk P w H h a (.dT kvs) from RF ok e);refine⟨z,y,xs,r,o,es,ep,h1,h2,h3,h4,λx hx=> ?_,h5⟩;have all: ∀ {l:List (List Key×V)} {m:List (List Key×Addr×Value)},KT H l m-> ∀x∈m,(tupleKind (jL P w)).is h x.1 x.2.1:=by
  intro l m q
  induction q with
  |nil=>intro x hx;exact nomatch hx
  | @cons p q ps qs hq t ih=>
   intro x hx;rcases P0.mp hx with e|hx
   ·subst e;exact ZV ok (by rw [<-hq.1];exact hq.2.1)
   ·exact ih x hx
 exact all r x hx
theorem NE {kvs:List (List Key×V)}(ok:HOk P w H h)(e:H a=some (.dT kvs)):kvs.length<=sizeLine/\(a==sysModules)=false/\
 ∃xs,KT H kvs xs/\h.DictOfH (tupleKind (jL P w)) a xs:=VM ok (.inl e)
end
def DGet (H:Hp)(a:Addr)(y:V)(r:Option V):Prop:=
 (∃kvs k,Rd H a (.dK kvs)/\y=kV k/\r=ZI kvs k)\/ ∃kvs k b,Rd H a (.dT kvs)/\y= .ref b/\H b=some (.tup (k.map kV))/\r=ZI kvs k
def DPut (H:Hp)(a:Addr)(y v:V)(H':Hp):Prop:=
 (∃kvs k,H a=some (.dK kvs)/\y=kV k/\kvs.length<sizeLine/\H'=upd H a (.dK (JU kvs k v)))\/
 ∃kvs k b,H a=some (.dT kvs)/\y= .ref b/\H b=some (.tup (k.map kV))/\kvs.length<sizeLine/\H'=upd H a (.dT (JU kvs k v))
variable {a:Addr}
theorem DGet.k {kvs:List (Key×V)}{k:Key}(e:H a=some (.dK kvs)):DGet H a (kV k) (ZI kvs k):= .inl ⟨kvs,k,.inl e,rfl,rfl⟩
theorem DPut.k {kvs:List (Key×V)}{k:Key}{v:V}(e:H a=some (.dK kvs))(hl:kvs.length<sizeLine):DPut H a (kV k) v (upd H a (.dK (JU kvs k v))):= .inl ⟨kvs,k,e,rfl,hl,rfl⟩
section
variable {X:Cx}{pins:List (Addr×Obj)}{σ:St}{H:Hp}{s:Shared}{a:Addr}{y v:V}{u r:Value}{o:Option V}{A:Around}{E:Value->Shared->Prop}
theorem Inv.big (I:Inv X pins σ H s):sysModules<s.heap.objs.size:=by
 have h:mainGlobals<s.heap.objs.size:=(I.mod.glob.keeps I.bk).lt;exact N3 (by decide) h
theorem UN {Q:Value->Shared->Prop}(hu:A.units+1<cLine)(I:Inv X pins σ H s)(g:DGet H a y (some v))(ry:RelV y u)(h: ∀w' s',Inv X pins σ H s'->RelV v w'->Q w' s'):
 wpAny (model X.prog X.w) A (getItem (.ref a) u) Q E s:=by
 rcases g with ⟨kvs,k,e,ey,l⟩|⟨kvs,k,b,e,ey,eb,l⟩
 ·subst ey;obtain⟨z,hd,vs,rel,dd⟩:=VL I.hok e;obtain⟨w',hw,rw'⟩:=RelO.some_of (v:=v) (o:=valueAt vs k) (by rw [l];exact rel.val k);exact wpAny_getItem_of (VJ ry) dd.mapOf hw (h w' _ (I.tok _) rw')
 ·subst ey;cases (show u=Value.ref b from ry);obtain⟨z,hd,xs,rel,dd⟩:=VM I.hok e;obtain⟨w',hw,rw'⟩:=RelO.some_of (v:=v) (o:=(atKey xs k).map (·.2)) (by rw [l];exact rel.val k);obtain⟨p,hp,hp2⟩:=S0.mp hw;refine wpAny_getItem_heap (F0 hu) (ZV I.hok eb) dd hp ?_;rw [hp2];exact h w' _ (I.tok _) rw'
theorem Pj {Q:Value->Shared->Prop}(hu:A.units+1<cLine)(I:Inv X pins σ H s)(g:DGet H a y o)(ry:RelV y u)(h: ∀s',Inv X pins σ H s'->Q (.bool (!o.isSome)) s'):
 wpAny (model X.prog X.w) A (compareOp .NotIn u (.ref a)) Q E s:=by
 rcases g with ⟨kvs,k,e,ey,l⟩|⟨kvs,k,b,e,ey,eb,l⟩
 ·subst ey;obtain⟨z,hd,vs,rel,dd⟩:=VL I.hok e;refine wpAny_notIn_of (VJ ry) hd dd.mapOf ?_;rw [<- (rel.val k).isSome_eq,<-l];exact h _ (I.tok _)
 ·subst ey;cases (show u=Value.ref b from ry);obtain⟨z,hd,xs,rel,dd⟩:=VM I.hok e;refine wpAny_notIn_heap (F0 hu) (ZV I.hok eb) hd dd ?_;have q:=(rel.val k).isSome_eq;rw [A1] at q;rw [<-q,<-l];exact h _ (I.tok _)
theorem Yk {h':Heap}{t':Nat}{ob:HO}(I:Inv X pins σ H s)(mu:Mut (H a))(hs:Heap.SameBut a s.heap h')(he: ∃q,h'.get? a=some q)(new:ObjOk X.prog X.w (upd H a ob) h' a ob):
 Inv X pins σ (upd H a ob) {s with heap:=h',toks:=t'}:=
 I.write (x:=a) (e:=a) mu (.inl rfl) (λb q hb z=>(hs.2 b hb).trans z) he new
theorem Gu {P:Program}{w:World}{H':Hp}{h':Heap}{kvs:List (Key×V)}{vs:List (Key×Value)}(z:kvs.length<=sizeLine)(hd:(a==sysModules)=false)(rel:KV kvs vs)(dd:h'.DictOf (jL P w) a vs):
 ObjOk P w H' h' a (.dK kvs):=⟨z,hd,vs,rel,dd⟩
theorem UO {H':Hp}{Q:Unit->Shared->Prop}(hu:A.units+1<cLine)(I:Inv X pins σ H s)(g:DPut H a y v H')(ry:RelV y u)(rv:RelV v r)(h: ∀s',Inv X pins σ H' s'->Q () s'):
 wpAny (model X.prog X.w) A (setItem (.ref a) u r) Q E s:=by
 rcases g with ⟨kvs,k,e,ey,l,eH⟩|⟨kvs,k,b,e,ey,eb,l,eH⟩
 ·subst ey eH;obtain⟨z,hd,vs,rel,dd⟩:=Pi I.hok e;have hz:vs.length<=sizeLine:=by rw [<-rel.length];exact z
  have hl:(JU kvs k v).length<=sizeLine:=by have:=wQ kvs k v;omega
  refine wpAny_setItem_pairs (hsz:=hz) (VJ ry) dd λh' dd' hs=>h _ ?_
  have he: ∃q,h'.get? a=some q:=let ⟨q,_,_,hq,_⟩:=dd';⟨q,hq⟩;exact Yk I (by rw [e];exact True.intro) hs he (Gu hl hd (rel.put k rv) dd')
 ·subst ey eH;cases (show u=Value.ref b from ry);obtain⟨z,hd,xs,rel,dd⟩:=NE I.hok e;have hz:xs.length<=sizeLine:=by rw [<-Paired.length rel];exact z
  have hl:(JU kvs k v).length<=sizeLine:=by have:=wQ kvs k v;omega
  refine wpAny_setItem_heap (hsz:=hz) (F0 hu) (ZV I.hok eb) dd λh' dd' hs=>h _ ?_
  obtain⟨q,es,ep,hq,h2,h3,h4,_,h5⟩:=dd';refine Yk I (by rw [e];exact True.intro) hs ⟨q,hq⟩ ⟨hl,hd,_,(rel.put k eb rv).keeps λc ys ec=> ?_,q,es,ep,hq,h2,h3,h4,h5⟩;rw [jq (Yg ec e (λz=>nomatch z))];exact ec
end
def NF (i:Expr):Prop:= ∀ov iv,subscripted i false ov iv=operate [ov,iv] (getItem ov iv)
variable {prog:Program}{s:Shared}{env:Env}{pos:Pos}
theorem Pk {A:Around}{E:Value->Shared->Prop}{value slice:Expr}{T id:String}{Q:Value->Shared->Prop}
 (hl:typeLookup (.type T) "__getitem__" =pure (some (.builtin id)))(hs:NF slice)
 (h:wpAny (model prog w) A (eval value env) (λo s₁=>wpAny (model prog w) A (eval slice env) (λi s₂=>s₂.TypeIs o T/\wpAny (model prog w) A (getItem o i) Q E s₂) E s₁) E s):
 wpAny (model prog w) A (eval (.Subscript value slice pos) env) Q E s:=by
 refine Subscript_ (D8 h (λo s₁ h₁=>D8 h₁ (λi s₂ h₂=> ?_) λ_ _ x=>x) λ_ _ x=>x);obtain⟨hT,h₂⟩:=h₂;unfold subscriptTail;refine wpAny_bind ?_;rw [getitemInPython_of_ne hT.not_modules];refine wpAny_bind (wpAny_specialOf hT hl ?_);have fin:wpAny (model prog w) A (subscripted slice false o i) (λr s₃=>wpAny (model prog w) A (letTemporaryGo value o r >>= λ_=>pure r) Q E s₃) E s₂:=by
  rw [hs o i];exact wpAny_operating (D8 h₂ (λr s₃ h₃=>wpAny_bind (wpAny_letTemporaryGo (P6 h₃))) λ_ _ x=>x)
 first
  |exact P6 (wpAny_bind fin)
  |exact wpAny_bind (P6 (wpAny_bind fin))
  |exact wpAny_bind fin
theorem Yl {pins:List (Addr×Obj)}{σ:St}{y:V}{o:Option V}(I:Inv X pins σ H s)(g:DGet H a y o):s.TypeIs (.ref a) "dict" :=by
 rcases g with ⟨kvs,k,e,_,_⟩|⟨kvs,k,b,e,_,_,_⟩
 ·obtain⟨_,_,vs,_,dd⟩:=VL I.hok e;exact dd.typeIs
 ·obtain⟨_,_,xs,_,dd⟩:=VM I.hok e;exact dd.typeIs
def NG (td ty:TE):TE:=λσ H Q=>td σ H λx H1=>ty σ H1 λy H2=> ∃a v,x= .ref a/\DGet H2 a y (some v)/\Q v H2
def NH (td ty tv:TE):TS:=λD σ H=>tv σ H λv H1=>td σ H1 λx H2=>ty σ H2 λy H3=> ∃a H4,x= .ref a/\DPut H3 a y v H4/\D.nx σ H4
section
variable {X:Cx}{o i e value:Expr}{pos pos' tpos:Pos}{td ty tv:TE}
theorem Pl (hu:X.A.units+1<cLine)(ho:PE X o td)(hi:PE X i ty)(hs:NF i):PE X (.Subscript o i pos) (NG td ty):=by
 intro pins s σ H Q I h;refine Pk PySem.F.slot_dict_getitem.lookup hs (thn (ho pins s σ H _ I h) λu s1 ⟨x,H1,I1,rx,q1⟩=>thn (hi pins s1 σ H1 _ I1 q1) λiv s2 ⟨y,H2,I2,ry,a,v,ex,g,q2⟩=> ?_);subst ex;obtain rfl:u=Value.ref a:=rx;exact⟨Yl I2 g,UN hu I2 g ry λw' s3 I3 rw'=>⟨v,H2,I3,rw',q2⟩⟩
theorem Pm (hu:X.A.units+1<cLine)(ho:PE X o td)(hi:PE X i ty)(hv:PE X value tv)(hs:swapsWith value (some (.Subscript o i pos')) pos.line X.env=pure false):
 PS X (.Assign [.Subscript o i pos'] value pos) (NH td ty tv):=by
 intro pins s σ H D I h;refine wpAny_Assign_Subscript (thn (hv pins s σ H _ I h) λr s1 ⟨v,H1,I1,rv,q1⟩=>thn (ho pins s1 σ H1 _ I1 q1) λu s2 ⟨x,H2,I2,rx,q2⟩=>thn (hi pins s2 σ H2 _ I2 q2) λiv s3 ⟨y,H3,I3,ry,a,H4,ex,g,q3⟩=> ?_) hs;subst ex;obtain rfl:u=Value.ref a:=rx;exact UO hu I3 g ry rv λs4 I4=>⟨σ,H4,I4,q3⟩
end
theorem Qz (h:Heap)(hb:sysModules<h.objs.size):ObjOk P w H (h.push {cls:= .type "dict",data:= .dict #[]}) h.objs.size (.dK []):=
 ⟨B9 _,N4.mpr (Ne.symm (D5 hb)),[],.nil,Heap.DictOf.new h⟩
def UP:List (TE×TE)->St->Hp->(List (V×V)->Hp->Prop)->Prop
 | [],_,H,Q=>Q [] H
 |(tk,tv)::r,σ,H,Q=>tk σ H λx H1=>tv σ H1 λy H2=>UP r σ H2 λps H3=>Q ((x,y)::ps) H3
abbrev VV:List (V×V)->List (Value×Value)->Prop:=Paired λp q=>RelV p.1 q.1/\RelV p.2 q.2
def PPs (X:Cx)(pos:Pos)(keys:List (Option Expr))(values:List Expr)(trs:List (TE×TE)):Prop:=
 ∀ (pins:List (Addr×Obj)) (s:Shared) (σ:St) (H:Hp) (Q:List (V×V)->Hp->Prop),Inv X pins σ H s->UP trs σ H Q->
  wpAny (model X.prog X.w) X.A (evalPairs (pairTrees keys values X.env pos)) (λvs s'=> ∃ps H',Inv X pins σ H' s'/\VV ps vs/\Q ps H') X.xe s
theorem UQ:PPs X pos [] [] []:=λpins s σ H Q I h=>pairTrees_nil_walk ⟨[],H,I,.nil,h⟩
theorem Vf {k v:Expr}{ks:List (Option Expr)}{vs:List Expr}{tk tv:TE}{trs:List (TE×TE)}(hk:PE X k tk)(hv:PE X v tv)(hr:PPs X pos ks vs trs):
 PPs X pos (some k::ks) (v::vs) ((tk,tv)::trs):=λpins s σ H Q I h=>
 pairTrees_cons_walk (thn (hk pins s σ H _ I h) λu s1 ⟨x,H1,I1,rx,q1⟩=>thn (hv pins s1 σ H1 _ I1 q1) λw2 s2 ⟨y,H2,I2,ry,q2⟩=>
  thn (hr pins s2 σ H2 _ I2 q2) λws s3 ⟨ps,H3,I3,rel,q3⟩=>⟨(x,y)::ps,H3,I3,.cons ⟨rx,ry⟩ rel,q3⟩)
def ZW (kvs more:List (Key×V)):List (Key×V):=more.foldl (λacc kv=>JU acc kv.1 kv.2) kvs
theorem KV.merge: ∀ {more:List (Key×V)} {rs:List (Key×Value)} {kvs:List (Key×V)} {vs:List (Key×Value)},KV more rs->KV kvs vs->KV (ZW kvs more) (merged vs rs):=by
 intro more rs kvs vs r;unfold KV at r
 induction r generalizing kvs vs with
 |nil=>intro q;exact q
 | @cons p q ps qs h t ih=>
  intro r0;have e:KV (JU kvs p.1 p.2) (stored vs q.1 q.2):=by
   have:=r0.put p.1 h.2;rw [<-h.1];exact this
  exact ih e
theorem yo: ∀ (more kvs:List (Key×V)),(ZW kvs more).length<=kvs.length+more.length
 | [],kvs=>by show kvs.length<=kvs.length+0;omega
 |p::r,kvs=>by
  have h1:=yo r (JU kvs p.1 p.2);have h2:=wQ kvs p.1 p.2;show (ZW (JU kvs p.1 p.2) r).length<=_;rw [D0];omega
theorem JB {P:Program}{w:World}: ∀ {kvs:List (Key×V)} {ws:List (Value×Value)},VV (kvs.map λkv=>(kV kv.1,kv.2)) ws-> ∃rs,Carries (jL P w) ws rs/\KV kvs rs
 | [],_,r=>by rw [T6] at r;cases r;exact⟨[],True.intro,.nil⟩
 |p::kvs,_,r=>by
  rw [D1] at r;cases r with
  | @cons a b as bs h t=>
   obtain⟨rs,c,q⟩:=JB (P:=P) (w:=w) t;obtain⟨b1,b2⟩:=b;exact⟨(p.1,b2)::rs,⟨VJ h.1,rfl,c⟩,.cons ⟨rfl,h.2⟩ q⟩
def NI (trs:List (TE×TE)):TE:=λσ H Q=> ∀p,H p=none->UP trs σ (upd H p (.dK [])) λps H2=>H2 p=some (.dK [])/\ ∃kvs:List (Key×V),ps=kvs.map (λkv=>(kV kv.1,kv.2))/\kvs.length<=15/\Q (.ref p) (upd H2 p (.dK (ZW [] kvs)))
theorem UR {keys:List (Option Expr)}{values:List Expr}{trs:List (TE×TE)}(h:PPs X pos keys values trs)(hall:keys.all (·.isSome)=true)(hl:keys.length=values.length)(h0:keys≠ [])
 (h15:keys.length<=15):PE X (.Dict keys values pos) (NI trs):=by
 intro pins s σ H Q I q;have hn:=I.hok.fresh (G4 s.heap.objs.size);have I1:=I.laid (a:=s.heap.objs.size) (o:= .dK []) (h':=s.heap.push {cls:= .type "dict",data:= .dict #[]}) (t':=s.toks) (λ_ _ q=>G3 _ q) (G4 _) (Qz s.heap I.big);refine wpAny_Dict_walk (knd:=jL X.prog X.w) hall hl h0 h15 (thn (h pins _ σ _ _ I1 (q _ hn)) λws s2 ⟨ps,H2,I2,rel,e,kvs,ep,lk,q2⟩=> ?_);subst ep;obtain⟨rs,c,rk⟩:=JB (P:=X.prog) (w:=X.w) rel;obtain⟨z,hd,vs0,r0,dd⟩:=Pi I2.hok e;cases r0;refine⟨rs,c,dd,λh' dd' hs=>⟨.ref s.heap.objs.size,_,?_,rfl,q2⟩⟩;have hz:(ZW [] kvs).length<=sizeLine:=by
  have h1:=yo kvs [];rw [D9] at h1;rw [sizeLine_eq];omega
 have he: ∃q,h'.get? s.heap.objs.size=some q:=let ⟨q,_,_,hq,_⟩:=dd';⟨q,hq⟩;exact Yk I2 (by rw [e];exact True.intro) hs he (Gu hz hd (rk.merge .nil) dd')
structure M2 (X:Cx)(o:Expr)(m:Str)(apos:Pos)(e f:Expr)(cpos:Pos):Prop where
 base:attributeBase o m X.env (eval o X.env)=eval o X.env
 few:((backTo cpos (starEach [e,f] X.env)).all (λx=> !x.1)&&(backToKw cpos (keywordEach [] X.env)).all (λx=>x.1.isSome)
  &&decide (([e,f]:List Expr).length+([]:List Keyword).length+(if ([]:List Keyword).isEmpty then 0 else 1)<30))=true
 line:(apos.endLine==cpos.line)=true
 trees:backTo cpos (starEach [e,f] X.env)= [(false,eval e X.env),(false,eval f X.env)]
def IsD (H:Hp)(a:Addr):Prop:=(∃kvs,Rd H a (.dK kvs))\/ ∃kvs,Rd H a (.dT kvs)
theorem RG {pins:List (Addr×Obj)}{σ:St}(I:Inv X pins σ H s)(d:IsD H a):
 s.TypeIs (.ref a) "dict" /\(∀b,Value.ref a= .ref b-> ∃ob,s.heap.get? b=some ob/\ob.dict=none)/\(a==sysModules)=false:=by
 rcases d with ⟨kvs,e⟩|⟨kvs,e⟩
 ·obtain⟨_,hd,vs,_,dd⟩:=VL I.hok e;refine⟨dd.typeIs,λb q=> ?_,hd⟩;cases q;obtain⟨ob,_,_,h1,h2,_⟩:=dd;exact⟨ob,h1,h2.2.1⟩
 ·obtain⟨_,hd,xs,_,dd⟩:=VM I.hok e;refine⟨dd.typeIs,λb q=> ?_,hd⟩;cases q;obtain⟨ob,_,_,h1,h2,_⟩:=dd;exact⟨ob,h1,h2.2.1⟩
section
variable {X:Cx}{pins:List (Addr×Obj)}{σ:St}{H:Hp}{s:Shared}{a:Addr}{y d:V}{u r:Value}{o:Option V}{A:Around}{E:Value->Shared->Prop}
theorem RH {Q:Value->Shared->Prop}(hu:A.units+1<cLine)(I:Inv X pins σ H s)(g:DGet H a y o)(ry:RelV y u)(rd:RelV d r)(h: ∀w' s',Inv X pins σ H s'->RelV (o.getD d) w'->Q w' s'):
 wpAny (model X.prog X.w) A (call (.builtin "dict.get") [.ref a,u,r]) Q E s:=by
 rcases g with ⟨kvs,k,e,ey,l⟩|⟨kvs,k,b,e,ey,eb,l⟩
 ·subst ey;obtain⟨z,hd,vs,rel,dd⟩:=VL I.hok e;refine call_meetsIn F9 dd.typeIs E3 (A5 _ _ _) (meets_dict_get_default (jL X.prog X.w) a (VJ ry) hd r) ⟨_,dd.mapOf,h _ _ (I.tok _) ?_⟩;rw [l];exact(rel.val k).getD rd
 ·subst ey;cases (show u=Value.ref b from ry);obtain⟨z,hd,xs,rel,dd⟩:=VM I.hok e;refine call_meetsIn F9 dd.typeIs E3 (A5 _ _ _) (meetsH_dict_get_default (tupleKind (jL X.prog X.w)) a b hd r) ⟨F0 hu,k,xs,ZV I.hok eb,dd,h _ _ (I.tok _) ?_⟩;rw [l];exact(rel.val k).getD rd
end
def RI (td ty tx:TE):TE:=λσ H Q=>td σ H λx H1=> ∃a,x= .ref a/\IsD H1 a/\ty σ H1 λy H2=>tx σ H2 λz H3=> ∃o,DGet H3 a y o/\Q (o.getD z) H3
section
variable {X:Cx}{o e f:Expr}{apos cpos:Pos}{td ty tx:TE}
theorem QB (hu:X.A.units+1<cLine)(ho:PE X o td)(he:PE X e ty)(hf:PE X f tx)(m:M2 X o "get" apos e f cpos):PE X (.Call (.Attribute o "get" apos) [e,f] [] cpos) (RI td ty tx):=by
 intro pins s σ H Q I h;refine wpAny_Call_method m.base m.few m.line PySem.F.plainAttrs_dict F9 PySem.F.type_dict_get (thn (ho pins s σ H _ I h) λu s1 ⟨x,H1,I1,rx,a,ex,d,q1⟩=> ?_);subst ex;obtain rfl:u=Value.ref a:=rx;obtain⟨t1,t2,_⟩:=RG I1 d;refine⟨t1,t2,?_⟩;rw [m.trees];refine Calls.callWith_builtin rfl (Calls.evalArgs_plain (O6 (thn (he pins s1 σ H1 _ I1 q1) λiv s2 ⟨y,H2,I2,ry,q2⟩=>
  O6 (thn (hf pins s2 σ H2 _ I2 q2) λfv s3 ⟨z,H3,I3,rz,ov,g,q3⟩=>Calls.spliced_nil ?_))))
 exact RH hu I3 g ry rz λw' s4 I4 rw'=>⟨_,H3,I4,rw',q3⟩
end
def zF (names:List (Str×NameKind))(env:Env)(cs:List (Str×Addr)):List (Str×Addr):=
 names.foldl (λcs p=>if p.2= .free then (match env.cells.lookup p.1 with|some c=>(p.1,c)::cs|none=>cs) else cs) cs
theorem zg (p:Str×NameKind)(l:List (Str×NameKind))(env:Env)(cs:List (Str×Addr)):
 zF (p::l) env cs=zF l env (if p.2= .free then (match env.cells.lookup p.1 with|some c=>(p.1,c)::cs|none=>cs) else cs):=rfl
theorem vN {f:Str×NameKind->List (Str×Addr)->Sem (ForInStep (List (Str×Addr)))}
 (h1: ∀p cs,p.2≠ .free->f p cs=pure (.yield cs))(h2: ∀p cs c,p.2= .free->env.cells.lookup p.1=some c->f p cs=pure (.yield ((p.1,c)::cs))):
 ∀ (l:List (Str×NameKind)) (cs:List (Str×Addr)),(∀p∈l,p.2= .free-> ∃c,env.cells.lookup p.1=some c)->forIn l cs f=pure (zF l env cs)
 | [],cs,_=>rfl
 |p::l,cs,h=>by
  have ih:=vN h1 h2 l
  by_cases hp:p.2= .free
  ·obtain⟨c,hc⟩:=h p P4 hp;rw [List.forIn_cons,h2 p cs c hp hc,pure_bind];show forIn l ((p.1,c)::cs) f=_;rw [ih _ λq hq=>h q (P5 _ hq),zg,if_pos hp,hc]
  ·rw [List.forIn_cons,h1 p cs hp,pure_bind];show forIn l cs f=_;rw [ih _ λq hq=>h q (P5 _ hq),zg,if_neg hp]
variable {scope:Scope}
theorem JV (h: ∀p∈scope.names,p.2= .free-> ∃c,env.cells.lookup p.1=some c):closureFor scope env=pure (zF scope.names env []):=by
 simp only [closureFor];rw [vN (env:=env) (λp cs hp=> ?_) (λp cs c hp hc=> ?_) _ _ h]
 ·rfl
 ·obtain⟨n,k⟩:=p;have hb:(k==NameKind.free)=false:=by simpa using hp
  simp only [hb,Bool.false_eq_true,K0]
 ·obtain⟨n,k⟩:=p;have hb:(k==NameKind.free)=true:=by simpa using hp
  have hc':env.cells.lookup n=some c:=hc;simp only [hb,if_true,cellOf,hc',pure_bind]
theorem vO: ∀ (l:List (Str×NameKind)) (cs:List (Str×Addr)),(∀p∈cs,env.cells.lookup p.1=some p.2)-> ∀p∈zF l env cs,env.cells.lookup p.1=some p.2
 | [],cs,h,p,hp=>h p hp
 |q::l,cs,h,p,hp=>by
  rw [zg] at hp;refine vO l _ (λr hr=> ?_) p hp
  by_cases hq:q.2= .free
  ·rw [if_pos hq] at hr;cases e:env.cells.lookup q.1 with
   |none=>rw [e] at hr;exact h r hr
   |some c=>
    rw [e] at hr;rcases P0.mp hr with rfl|hr
    ·exact e
    ·exact h r hr
  ·rw [if_neg hq] at hr;exact h r hr
theorem vP: ∀ (l:List (Str×NameKind)) (cs:List (Str×Addr)),∀p∈cs,p∈zF l env cs
 | [],cs,p,hp=>hp
 |q::l,cs,p,hp=>by
  rw [zg];refine vP l _ p ?_
  by_cases hq:q.2= .free
  ·rw [if_pos hq];cases e:env.cells.lookup q.1 with
   |none=>exact hp
   |some c=>exact P5 _ hp
  ·rw [if_neg hq];exact hp
variable {x:Str}
theorem vQ {c:Addr}(hc:env.cells.lookup x=some c): ∀ (l:List (Str×NameKind)) (cs:List (Str×Addr)),(x,NameKind.free)∈l->(x,c)∈zF l env cs
 |q::l,cs,h=>by
  rw [zg];rcases P0.mp h with e|h
  ·subst e;rw [if_pos rfl,hc];exact vP l _ _ P4
  ·exact vQ hc l _ h
theorem zr {α:Type}: ∀ {l:List (Str×α)} {x:Str} {c:α},l.lookup x=some c->(x,c)∈l
 | [],_,_,h=>by simp at h
 |(n,k)::r,x,c,h=>by
  rw [S8] at h;cases hx:x==n with
  |true=>
   rw [hx] at h;have e:x=n:=eq_of_beq hx;cases h;subst e;exact P4
  |false=>rw [hx] at h;exact P5 _ (zr h)
theorem JC {α:Type}: ∀ {l:List (Str×α)} {x:Str} {c:α},(x,c)∈l-> ∃c',l.lookup x=some c'
 |(n,k)::r,x,c,h=>by
  rw [S8];cases hx:x==n with
  |true=>exact⟨_,rfl⟩
  |false=>
   rcases P0.mp h with e|h
   ·cases e;simp at hx
   ·exact JC h
theorem JD {l:List (Str×NameKind)}{c:Addr}(h:(zF l env []).lookup x=some c):env.cells.lookup x=some c:=
 vO l [] (λ_ z=>nomatch z) (x,c) (zr h)
theorem US {l:List (Str×NameKind)}{c:Addr}(hc:env.cells.lookup x=some c)(h:(x,NameKind.free)∈l):(zF l env []).lookup x=some c:=by
 obtain⟨c',e⟩:=JC (vQ hc l [] h);have:=JD e;rw [hc] at this;cases this;exact e
theorem zQ {κ:Type}{f:Str×κ->Str×κ}{g:Str->κ->κ}(hf: ∀n k,f (n,k)=(n,g n k))(x:Str): ∀l:List (Str×κ),(l.map f).lookup x=(l.lookup x).map (g x)
 | []=>rfl
 |(n,k)::r=>by
  rw [D1,hf,S8,S8,zQ hf x r];cases same:x==n with
  |false=>rfl
  |true=>rw [eq_of_beq same];rfl
theorem jN {names:List (Str×NameKind)}{k:NameKind}(found:
 (names.map λ(n,k)=>if (k==NameKind.free&&env.scope.kind== .function&&env.kindOf n==some .cell) then (n,NameKind.cell) else (n,k)).lookup x=some k):
  names.lookup x=some k\/names.lookup x=some .free:=by
 rw [zQ (g:=λn k=>if (k==NameKind.free&&env.scope.kind== .function&&env.kindOf n==some .cell) then .cell else k) (λn k=>by dsimp only;split<;>rfl)] at found;obtain⟨k0,was,now⟩:=S0.mp found;split at now
 ·rename_i c;simp only [R4,beq_iff_eq] at c;exact .inr (by rw [was,c.1.1])
 ·exact .inl (by rw [was,now])
theorem zn: ∀ (names:List (Str×NameKind)) (n:Nat) (acc:List (Str×Addr)) (p:Str×Addr),p∈cellsFrom n names acc->p∈acc\/(n<=p.2/\(p.1,NameKind.cell)∈names)
 | [],_,_,_,h=> .inl h
 |(x,k)::r,n,acc,p,h=>by
  unfold cellsFrom at h;split at h
  ·rename_i hk;rcases zn r (n+1) _ p h with z|⟨z1,z2⟩
   ·rcases P0.mp z with e|z
    ·subst e;have:k= .cell:=by simpa using hk
     subst this;exact .inr ⟨G4 _,P4⟩
    ·exact .inl z
   ·exact .inr ⟨by omega,P5 _ z2⟩
  ·rcases zn r n acc p h with z|⟨z1,z2⟩
   ·exact .inl z
   ·exact .inr ⟨z1,P5 _ z2⟩
theorem jI: ∀ (names:List (Str×NameKind)) (n:Nat) (acc:List (Str×Addr)),cellsFrom n names acc=cellsFrom n names []++acc
 | [],_,_=>rfl
 |(x,k)::r,n,acc=>by
  unfold cellsFrom;split
  ·rw [jI r (n+1) ((x,n)::acc),jI r (n+1) [(x,n)],N1];rfl
  ·exact jI r n acc
theorem yO {α:Type}(l l':List (Str×α))(x:Str):(l++l').lookup x=(match l.lookup x with|some c=>some c|none=>l'.lookup x):=by
 induction l with
 |nil=>rfl
 |cons p l ih=>
  obtain⟨n,c⟩:=p;rw [S9,S8,S8];cases x==n with
  |true=>rfl
  |false=>exact ih
theorem wR {names:List (Str×NameKind)}(here:names.lookup x=some .cell):
 (names.map λ(n,k)=>if (k==NameKind.free&&env.scope.kind== .function&&env.kindOf n==some .cell) then (n,NameKind.cell) else (n,k)).lookup x=some .cell:=by
 rw [zQ (g:=λn k=>if (k==NameKind.free&&env.scope.kind== .function&&env.kindOf n==some .cell) then .cell else k) (λn k=>by dsimp only;split<;>rfl),here];simp
section
variable {M:Model}{A:Around}{E:Value->Shared->Prop}{s:Shared}
theorem VN (h:Heap)(names:List (Str×NameKind)):(∀n c,(n,c)∈cellsFrom h.objs.size names []->(pushCells h names).IsCell c none/\h.objs.size<=c)/\(cellsFrom h.objs.size names []).Pairwise λx y=>x.2≠y.2:=
 have laid:=cellsFrom_ok names h h.objs.size [] ⟨by simp,.nil⟩ (G4 _)
 ⟨laid.empty,laid.apart⟩
theorem ZX {scope:Scope}{globals:Addr}{closure:List (Str×Addr)}{qual:Str}{func:Option Addr}{code:Value}{outer:Env}{builtins:Addr}{Q:Env->Shared->Prop}
 (hQ: ∀h',h'.Ns s.heap.objs.size (λ_=>none)->(∀b o,s.heap.get? b=some o->h'.get? b=some o)->(∀n c,(n,c)∈cellsFrom (s.heap.objs.size+1) scope.names []->h'.IsCell c none/\s.heap.objs.size+1<=c)->
  ((cellsFrom (s.heap.objs.size+1) scope.names []).Pairwise λx y=>x.2≠y.2)->
  Q (newEnv scope s.heap.objs.size globals (cellsFrom (s.heap.objs.size+1) scope.names closure) qual func code (some outer) builtins) {s with heap:=h'}):
 wpAny M A (newFunctionEnv scope globals closure [] qual func code (some outer) builtins) Q E s:=by
 have names:=VN (s.heap.push {cls:= .type "dict",data:= .dict #[]}) scope.names;have first:(s.heap.push {cls:= .type "dict",data:= .dict #[]}).objs.size=s.heap.objs.size+1:=J1 ..
 rw [first] at names;unfold newFunctionEnv;refine wpAny_bind (wpAny_alloc (wpAny_bind (wpAny_layCells _ (λn k cs=>rfl) _ _ _ _ ?_)));simp only [Option.isSome_some,if_true];rw [first];exact wpAny_bind (P6 (P6 (hQ _ ((Heap.Ns.new _ _).keeps (pushCells_keeps _ _)) (λb o here=>pushCells_keeps _ _ b o (G3 _ here)) names.1 names.2)))
end
def jF (X:Cx)(scope:Scope)(C:Addr):List (Str×Addr):=cellsFrom (C+1) scope.names (zF scope.names X.env [])
def JX (X:Cx)(scope:Scope)(C:Addr)(s₀:Shared)(H₀:Hp)(ex:List Addr):Cx:=
 {X with s₀:=s₀,H₀:=H₀,env:=compEnvC scope (jF X scope C) C X.env,outer:=X.stack,ex:=ex,fn:=λx=>scope.names.lookup x==some .cell,pn:= [],xe:=λ_ _=>False}
def jt (X:Cx)(scope:Scope)(X':Cx):Prop:= ∃C s₀ H₀ ex,X'=JX X scope C s₀ H₀ ex
structure BlockOk (X:Cx)(scope:Scope)(js:List Nat):Prop where
 kind:scope.kind= .function
 locs: ∀p∈scope.names,p.2= .local->scope.names.lookup p.1=some .local
 cels: ∀p∈scope.names,p.2= .cell->scope.names.lookup p.1=some .cell
 free: ∀p∈scope.names,p.2= .free->X.env.scope.names.lookup p.1=some .cell\/X.env.scope.names.lookup p.1=some .free
 js: ∀ (i:Nat) (x:Str),X.N[i]? =some x->(scope.names.lookup x=some .local\/scope.names.lookup x=some .cell)->i∈js
variable {js:List Nat}
theorem zK (S:BlockOk X scope js){C:Addr}{x:Str}{c:Addr}(h:(jF X scope C).lookup x=some c):
 (scope.names.lookup x≠some .cell/\X.env.cells.lookup x=some c)\/(scope.names.lookup x=some .cell/\(x,c)∈cellsFrom (C+1) scope.names []):=by
 unfold jF at h;rw [jI,yO] at h;cases e:(cellsFrom (C+1) scope.names []).lookup x with
 |some d=>
  rw [e] at h;cases h;have m:=zr e;rcases zn _ _ _ _ m with z|⟨_,z⟩
  ·exact absurd z (by simp)
  ·exact .inr ⟨S.cels _ z rfl,m⟩
 |none=>
  rw [e] at h;refine .inl ⟨λz=> ?_,JD h⟩;obtain⟨d,hd⟩:=vA (sc:=scope) (n:=C+1) z;rw [e] at hd;cases hd
theorem vc (S:BlockOk X scope js){C:Addr}{x:Str}{c:Addr}(hc:X.env.cells.lookup x=some c)(h:(x,NameKind.free)∈scope.names)(hn:scope.names.lookup x≠some .cell):(jF X scope C).lookup x=some c:=by
 unfold jF;rw [jI,yO];cases e:(cellsFrom (C+1) scope.names []).lookup x with
 |some d=>
  rcases zn _ _ _ _ (zr e) with z|⟨_,z⟩
  ·exact absurd z (by simp)
  ·exact absurd (S.cels _ z rfl) hn
 |none=>exact US hc h
def zk:List Nat->St->St
 | [],σ=>σ
 |j::js,σ=>zk js (σ.set j none)
theorem JF: ∀ (js:List Nat) (σ:St),(zk js σ).length=σ.length
 | [],_=>rfl
 |j::js,σ=>by rw [zk,JF js];simp
theorem vR: ∀ (js:List Nat) (σ:St) (i:Nat) (v:V),(zk js σ)[i]? =some (some v)->σ[i]? =some (some v)
 | [],_,_,_,h=>h
 |j::js,σ,i,v,h=>by
  have h1:=vR js _ i v h
  by_cases e:i=j
  ·subst e;rw [F4] at h1;simp at h1
  ·rwa [S1 (Ne.symm e)] at h1
theorem jY: ∀ (js:List Nat) (σ:St) (i:Nat) (v:V),i∈js-> ¬ (zk js σ)[i]? =some (some v)
 |j::js,σ,i,v,hm,h=>by
  rcases P0.mp hm with rfl|hm
  ·have h1:=vR js _ i v h;rw [F4] at h1;simp at h1
  ·exact jY js _ i v hm h
theorem HOk.track {h:Heap}{o:HO}(x:HOk P w H h)(hn:H a=none)(new:ObjOk P w (upd H a o) h a o):HOk P w (upd H a o) h:=λb u e=>by
 by_cases hb:b=a
 ·subst hb;rw [ju] at e;cases e;exact new
 ·rw [jq hb] at e;exact(x b u e).stay (λc v _ q=>q) (λc q=>by rw [jq (jm q hn)];exact q) λc xs q=>by rw [jq (jm q hn)];exact q
def Agree (σ σ':St):Prop:=σ'.length=σ.length/\ ∀ (i:Nat) (v:V),σ[i]? =some (some v)->σ'[i]? =some (some v)
theorem Agree.set {σ:St}{j:Nat}(v:V)(h: ∀u,¬σ[j]? =some (some u)):Agree σ (σ.set j (some v)):=⟨by simp,λi u q=>by
 by_cases e:j=i
 ·subst e;exact absurd q (h u)
 ·rw [S1 e];exact q⟩
theorem Agree.trans {a b c:St}(x:Agree a b)(y:Agree b c):Agree a c:=⟨y.1.trans x.1,λi v h=>y.2 i v (x.2 i v h)⟩
def PTs (X:Cx)(ifs:List Expr)(t:TT):Prop:=
 ∀ (pins:List (Addr×Obj)) (s:Shared) (σ:St) (H:Hp) (Q:Bool->Hp->Prop),Inv X pins σ H s->t σ H Q->
  wpAny (model X.prog X.w) X.A (forIn ifs true λc r=>if r=true then do let ok <-isTrue c X.env (eval c X.env);pure (ForInStep.yield ok) else pure (ForInStep.yield r)) (TP X pins σ Q) X.xe s
def BV:TT:=λ_ H Q=>Q true H
theorem Pn:PTs X [] BV:=λ_ _ _ H _ I h=>wpAny_tests_nil ⟨H,I,h⟩
theorem Po {c:Expr}{t:TT}(hc:PT X c t):PTs X [c] t:=λpins s σ H Q I h=>wpAny_tests_one (hc pins s σ H Q I h)
def JH (iter target:Expr)(ifs:List Expr)(it:Value)(env:Env)(act:Sem Unit)(nxt:Code):Sem PySem.Fin:=do
 standAt iter.pos
 match <-pyNext it with
 |none=>pure (.done .next)
 |some v=>
  letOwnedTupleGo target it v
  assign target env v
  let mut ok:=true
  for c in ifs do
   if ok then ok <-isTrue c env (eval c env)
  if ok then act
  again nxt
variable {elt iter:Expr}{ifs:List Expr}
theorem Vg {A:Around}{R:Result->Shared->Prop}{target:Expr}{gens:List Comprehension}{depth:Nat}{it acc:Value}{act:Sem Unit}(I:Nat->Shared->Prop)
 (heq:compTurn (.ListComp elt gens scope pos) depth it acc env=JH iter target ifs it env act (.compLoop (.ListComp elt gens scope pos) depth it acc env))
 (turn: ∀n s,I n s->wpAny (model prog w) A (pyNext it) (λr s₁=>match r with
  |none=>R (.ok .next) s₁
  |some v=>wpAny (model prog w) A (letOwnedTupleGo target it v) (λ_ s₁=>wpAny (model prog w) A (assign target env v) (λ_ s₂=>
   wpAny (model prog w) A (forIn ifs true λc r=>if r=true then do let ok <-PySem.isTrue c env (eval c env);pure (ForInStep.yield ok) else pure (ForInStep.yield r)) (λok s₃=>
    if ok=true then wpAny (model prog w) A act (λ_ s₅=> ∃m,m<n/\I m s₅) (λ_ _=>False) s₃
    else ∃m,m<n/\I m s₃) (λ_ _=>False) s₂) (λ_ _=>False) s₁) (λ_ _=>False) s₁) (λ_ _=>False) s)
 (n:Nat)(h:I n s):
 codeAny (model prog w) A (.compLoop (.ListComp elt gens scope pos) depth it acc env) R s:=by
 refine codeAny_loop rfl I (λn s hI=> ?_) n h;show wpAny _ A ((compTurn (.ListComp elt gens scope pos) depth it acc env).onRaise (λx=>do noteFrame x env;theTreesLotGoes x)) _ _ s;refine wpAny_noted ?_;rw [heq];unfold JH;refine wpAny_bind (C4 (wpAny_bind (D8 (turn n s hI) (λr s₁ h₁=> ?_) λ_ _ h'=>h'.elim)));cases r with
 |none=>exact P6 h₁
 |some v=>
  refine wpAny_bind (D8 h₁ (λ_ s₁ h₁=> ?_) λ_ _ h'=>h'.elim);refine wpAny_bind (D8 h₁ (λ_ s₂ h₂=>wpAny_bind (D8 h₂ (λok s₃ h₃=> ?_) λ_ _ h'=>h'.elim)) λ_ _ h'=>h'.elim);cases ok with
  |false=>exact P6 ⟨rfl,h₃⟩
  |true=>exact wpAny_bind (D8 h₃ (λ_ s₅ h₅=>P6 ⟨rfl,h₅⟩) λ_ _ h'=>h'.elim)
abbrev TM:=St->Hp->List V->(List V->Hp->Prop)->Prop
def Ng (X:Cx)(D:Addr)(act:Sem Unit)(t:TM):Prop:=
 ∀ (pins:List (Addr×Obj)) (s:Shared) (σ:St) (H:Hp) (ys:List V) (us:List Value) (Q:List V->Hp->Prop),Inv X ([(D,LCg.lst us)]++pins) σ H s->Vals ys us->ys.length<=sizeLine->D∈X.ex->(∀x c,X.env.cells.lookup x=some c->c≠D)->(∀p∈X.pn++pins,p.1≠D)->t σ H ys Q->
  wpAny (model X.prog X.w) X.A act (λ_ s'=> ∃ys' us' H',Vals ys' us'/\Inv X ([(D,LCg.lst us')]++pins) σ H' s'/\Q ys' H') (λ_ _=>False) s
def RJ (te:TE):TM:=λσ H ys Q=>te σ H λy H1=>Q (ys++ [y]) H1
def JJ (elt:Expr)(env:Env)(acc:Value):Sem Unit:=do let _ <-call (.builtin "list.append") [acc,<-eval elt env]
variable {te:TE}
theorem JY {D:Addr}(hx:X.xe=λ_ _=>False)(he:PE X elt te):Ng X D (JJ elt X.env (.ref D)) (RJ te):=by
 intro pins s σ H ys us Q I hv hz DX cD pD h;have q:=he _ s σ H _ I h;rw [hx] at q;unfold JJ;refine wpAny_bind (D8 q (λy s1 ⟨yv,H1,I1,r1,q1⟩=> ?_) λ_ _ z=>z);have zD:=I1.pin (D,LCg.lst us) (G1 _ (D6 _ P4));refine wpAny_bind (append_at (its:=us.toArray) (n:=us.length) zD.1 (λh11 hs11 hD11=>P6 ?_) (by rw [G7,<-hv.length];exact hz));have I10u:Inv X pins σ H1 s1:=I1.pins_of λp hp=>I1.pin p (G1 _ (G1 _ hp))
 have I11:Inv X pins σ H1 {s1 with heap:=h11}:=I10u.turned (t':=s1.toks) (it:=D) (λb o hb e=>hs11.extBut b o hb e) zD.2.1 zD.2.2.1 (.inl DX) cD pD;have eD:h11.get? D=some (LCg.lst (us++ [y])):=by rw [hD11];exact congrArg some (LCg.lst_snoc us y)
 refine⟨ys++ [yv],us++ [y],H1,hv.append (.cons r1 .nil),I11.pins_of λp hp=> ?_,q1⟩;rcases P9.mp hp with z|z
 ·rcases G5.mp z with rfl
  exact⟨eD,zD.2.1,zD.2.2.1,zD.2.2.2.1,λv z=>by cases z⟩
 ·exact I11.pin p (G1 _ z)
def Nh (js : List Nat) (wi : TI) (g : TG) (tt : TT) (tm : TM) : TE := fun σ H Q => wi σ H fun J H1 =>
  ∃ W : Nat → Nat → List V → Hp → Prop, (∃ m, W 0 m [] H1) ∧ ∀ i m ys H, W i m ys H → ys.length ≤ sizeLine ∧
    ((J.stop i H ∧ ∀ p, H p = none → Q (.ref p) (upd H p (.lst ys))) ∨
     (J.go i H ∧ ∀ x H', J.yld i H x H' → g x (zk js σ) H' fun σ2 H2 => Agree (zk js σ) σ2 ∧ tt σ2 H2 fun b H3 =>
        if b = true then tm σ2 H3 ys fun ys' H4 => ∃ m', m' < m ∧ W (i + 1) m' ys' H4 else ∃ m', m' < m ∧ W (i + 1) m' ys H3))
def tLC (js:List Nat)(wi:TI)(g:TG)(tt:TT)(te:TE):TE:=Nh js wi g tt (RJ te)
variable {tg:Expr}{wi:TI}{g:TG}{tt:TT}
theorem UT {e:Expr}{zP:List Comprehension}{pos0:Pos}{tm:TM}{use:Option (Value->Sem Unit)}{Qv:Value->Shared->Prop}(hc:X.calm=true)(S:BlockOk X scope js)(hi:PI X tg iter wi)
 (he0:e= .ListComp elt (⟨tg,iter,ifs,0⟩::zP) scope pos)
 (hg: ∀X',jt X scope X'->PG X' tg g)(ht: ∀X',jt X scope X'->PTs X' ifs tt)
 (act:Env->Value->Sem Unit)(hturn: ∀it acc env,compTurn e 0 it acc env=JH iter tg ifs it env (act env acc) (.compLoop e 0 it acc env))(he: ∀X',jt X scope X'-> ∀D,Ng X' D (act X'.env (.ref D)) tm)
 (hs: ∀x,foldedSetIterable iter X.env x=pure x){pins:List (Addr×Obj)}{s:Shared}{σ:St}{H:Hp}{Q:VK}(I:Inv X pins σ H s)(h:Nh js wi g tt tm σ H Q)
 (fin: ∀ (D C:Addr) (H':Hp) (s':Shared) (m:Str->Option Value),s'.heap.Ns C m->(∀h',Heap.SameBut C s'.heap h'->Inv X pins σ H' {s' with heap:=h'})->H' C=none->C≠X.env.locals->C ∉ X.fs->X.s₀.heap.objs.size<=C->(∀x c,X.env.cells.lookup x=some c->c≠C)->(∀p∈X.pn++pins,p.1≠C)->
  Q (.ref D) H'->compPost (model X.prog X.w) X.A X.xe use Qv (.ref D) C (.ok .next) s'):
 wpAny (model X.prog X.w) X.A (comprehension e scope X.env pos0 (newList []) false (eval iter X.env) use) Qv X.xe s:=by
 have hclos:=JV (scope:=scope) (env:=X.env) (λp hp e=>I.ok.has p.1 (S.free p hp e));subst he0;refine wpAny_comprehension_free (use:=use) rfl hs hclos S.kind S.locs (thn (hi pins s σ H _ I h) λv s1 h1=>thn h1 λitv s2 h2=> ?_);obtain⟨it,fp,tn,J,H2,e,I2,T,st2,f2,W,⟨m0,w0⟩,turn⟩:=h2;subst e;refine M8 (ZX (λh₁ hns₁ hkp₁ hcl₁ hap₁=> ?_));dsimp only at hns₁ hkp₁ hcl₁ hap₁ ⊢;generalize hD:s2.heap.objs.size=D;generalize hH3:s2.heap.push {cls:= .type "list",dict:=none,data:= .seq ([]:List Value).toArray}=h3 at hns₁ hkp₁ hcl₁ hap₁ ⊢;have sz3:h3.objs.size=D+1:=by rw [<-hH3,J1,hD]
 have up3: ∀b o,s2.heap.get? b=some o->h3.get? b=some o:=λb o e=>hH3 ▸ G3 _ e
 have I3:Inv X pins σ H2 {s2 with heap:=h3}:=I2.kept (t':=s2.toks) up3;have hD3:h3.get? D=some (LCg.lst []):=by rw [<-hH3,<-hD];exact D4 _ rfl
 have fD:Ui X pins H2 D:=I2.fpOk (by rw [hD];exact G4 _) (I2.hok.fresh (by rw [hD];exact G4 _));have obf: ∀b∈fp,∃o,s2.heap.get? b=some o/\ ∀v,o.data≠ .cell v:=T.obj _ _ st2;have ltf: ∀b∈fp,b<D:=λb hb=>by obtain⟨o,e,_⟩:=obf b hb;rw [<-hD];exact P3 e
 generalize hC:h3.objs.size=C at hns₁ hcl₁ hap₁ ⊢;have CD:C=D+1:=hC.symm.trans sz3;have upC: ∀b o,h3.get? b=some o->h₁.get? b=some o:=hkp₁;generalize hX:JX X scope C {s2 with heap:=h3} H2 (fp++ [D])=X';have iX:jt X scope X':=⟨C,_,_,_,hX.symm⟩;have hf: ∀b∈fp++ [D],Ui X pins H2 b:=λb hb=>(P9.mp hb).elim (f2 b) λz=>by rw [G5.mp z];exact fD
 have cl: ∀x c,(jF X scope C).lookup x=some c->X.env.cells.lookup x=some c\/C<c:=λx c e=>by
  rcases zK S e with ⟨_,z⟩|⟨_,z⟩
  ·exact .inl z
  ·exact .inr (F5 (hcl₁ x c z).2)
 have olt: ∀x c,X.env.cells.lookup x=some c->c<C:=λx c e=>by obtain⟨v,q⟩:=I3.cell x c e;rw [<-hC];exact q.lt
 have ltb: ∀b∈fp++ [D],b<C:=λb hb=>(P9.mp hb).elim (λz=>by have:=ltf b z;rw [CD];exact A2 this) λz=>by rw [G5.mp z,CD];exact B7 _
 have okX:X'.Ok:=by
  subst hX;refine⟨I.ok.mod,S.kind,I.ok.glob,I.ok.blt,E7 hC,λx y c e1 e2=> ?_,λx hx=> ?_,λx c z e=> ?_,I.ok.hd,I.ok.frames,.inl rfl,λb hb=>⟨D5 (ltb b hb),λx c e=>(cl x c e).elim (λz=>(hf b hb).2.2.2.2.1 x c z) λz=>B1 (N3 (ltb b hb) z)⟩,
   I3.bs,D3 I.ok.bsz I3.sz,λb o e hb=> ?_,λb hb z=> ?_,I3.stack,I3.stkFree⟩
  ·rcases zK S e1 with ⟨_,z1⟩|⟨_,z1⟩<;>rcases zK S e2 with ⟨_,z2⟩|⟨_,z2⟩
   ·exact I.ok.inj x y c z1 z2
   ·exact absurd (N3 (olt x c z1) (F5 (hcl₁ y c z2).2)) (T4 _)
   ·exact absurd (N3 (olt y c z2) (F5 (hcl₁ x c z1).2)) (T4 _)
   ·exact name_of_addr hap₁ z1 z2
  ·have own:scope.names.lookup x=some .cell-> ∃c,(jF X scope C).lookup x=some c:=λz=>by
    obtain⟨c,hc⟩:=vA (sc:=scope) (n:=C+1) z;exact⟨c,by unfold jF;rw [jI,yO,hc]⟩
   have shr:scope.names.lookup x=some .free-> ∃c,(jF X scope C).lookup x=some c:=λz=>by
    have fm:=zr z;obtain⟨c,hc⟩:=I.ok.has x (S.free _ fm rfl);exact⟨c,vc S hc fm (by rw [z];decide)⟩
   rcases hx with hx|hx
   ·rcases jN (env:=X.env) hx with z|z
    ·exact own z
    ·exact shr z
   ·rcases jN (env:=X.env) hx with z|z<;>exact shr z
  ·have z':scope.names.lookup x=some .cell:=by
    have z2:(scope.names.lookup x==some NameKind.cell)=true:=z;simpa using z2
   rcases zK S e with ⟨n,_⟩|⟨_,m⟩
   ·exact absurd z' n
   ·show h3.objs.size<=c;rw [hC];exact R9 (F5 (hcl₁ x c m).2)
  ·rcases (hf b hb).2.2.2.1 with z|z
   ·exact I.ok.noex b o e z
   ·exact absurd (G8 (P3 e) (D3 I.ok.bsz z)) (T4 _)
  ·rcases P0.mp (I.stkSub b z) with q|q
   ·exact(hf b hb).2.1 q
   ·exact(hf b hb).2.2.1 q
 -- the block's first state
 have I4:Inv X' [(D,LCg.lst [])] (zk js σ) H2 {s2 with heap:=h₁}:=by
  subst hX;have hDC:D≠C:=by rw [CD];exact D5 (B7 _)
  refine⟨okX,rfl,I2.bare,Un.kept (λb u e=>upC b u e),⟨_,hns₁,λi x v e1 e2 e3=> ?_⟩,λx c e=> ?_,I3.hok.fresh (E7 hC),λx c e=>(cl x c e).elim (λz=>I2.freeC x c z) (λz=>I3.hok.fresh (by rw [<-hC] at z;exact R9 z)),λp hp=> ?_,I3.hok.kept upC,(JF js σ).trans I2.len⟩
  ·have fr:scope.names.lookup x=some .free:=by
    rcases e3 with e3|e3|e3
    ·rcases jN (env:=X.env) e3 with z|z
     ·exact absurd e2 (jY js σ i v (S.js i x e1 (.inl z)))
     ·exact z
    ·rcases jN (env:=X.env) e3 with z|z
     ·exact absurd e2 (jY js σ i v (S.js i x e1 (.inr z)))
     ·exact z
    ·rcases jN (env:=X.env) e3 with z|z<;>exact z
   have fm:=zr fr;obtain⟨m,hm,hl⟩:=I2.loc;have vis:=S.free _ fm rfl;obtain⟨u,r,lk⟩:=hl i x v e1 (vR js σ i v e2) (.inr vis);have kd:(relabel scope X.env).names.lookup x=some .cell\/(relabel scope X.env).names.lookup x=some .free:=by
    rcases e3 with e3|e3|e3
    ·rcases jN (env:=X.env) e3 with z|z
     ·rw [fr] at z;cases z
     ·exfalso;have z2:=e3
      -- a local's kind stays
      exact absurd e2 (jY js σ i v (S.js i x e1 (.inl (by
       have q: ∀ (l:List (Str×NameKind)),(l.map λ(n,k)=>if (k==NameKind.free&&X.env.scope.kind== .function&&X.env.kindOf n==some .cell) then (n,NameKind.cell) else (n,k)).lookup x=some .local->l.lookup x=some .local:=by
        intro l
        induction l with
        |nil=>intro h;simp at h
        |cons p l ih=>
         obtain⟨n,k'⟩:=p;intro h;have h':List.lookup x ((if (k'==NameKind.free&&X.env.scope.kind== .function&&X.env.kindOf n==some .cell)=true then (n,NameKind.cell) else (n,k'))::(l.map λ(n,k)=>if (k==NameKind.free&&X.env.scope.kind== .function&&X.env.kindOf n==some .cell) then (n,NameKind.cell) else (n,k)))=some .local:=h;rw [S8]
         by_cases hc:(k'==NameKind.free&&X.env.scope.kind== .function&&X.env.kindOf n==some .cell)=true
         ·rw [if_pos hc,S8] at h';cases hx:x==n with
          |true=>rw [hx] at h';cases h'
          |false=>rw [hx] at h';exact ih h'
         ·rw [if_neg hc,S8] at h';cases hx:x==n with
          |true=>rw [hx] at h';exact h'
          |false=>rw [hx] at h';exact ih h'
       exact q _ z2))))
    ·exact .inl e3
    ·exact .inr e3
   rcases lk with ⟨k,_⟩|⟨_,c,hc,hcell⟩
   ·have k':X.env.scope.names.lookup x=some .local:=k;rcases vis with z|z<;>(rw [k'] at z;cases z)
   ·refine⟨u,r,.inr ⟨kd,c,vc S hc fm (by rw [fr];decide),?_⟩⟩;obtain⟨o,ho,hd⟩:=hcell;exact⟨o,upC _ _ (up3 _ _ ho),hd⟩
  ·rcases zK S e with ⟨_,z⟩|⟨_,z⟩
   ·obtain⟨v,o,ho,hd⟩:=I2.cell x c z;exact⟨v,o,upC _ _ (up3 _ _ ho),hd⟩
   ·exact⟨none,(hcl₁ x c z).1⟩
  ·have hp':p∈ [(D,LCg.lst [])]:=hp;rcases G5.mp hp' with rfl
   refine⟨upC _ _ hD3,fD.1,hDC,λz=> ?_,λv z=>by cases z⟩;rcases P0.mp (I.stkSub D z) with q|q
   ·exact fD.2.1 q
   ·exact fD.2.2.1 q
 have st4:tn 0 h₁:=T.keep _ _ _ st2 λb _ o e=>upC _ _ (up3 _ _ e)
 have eA:X'.A=X.A:=by rw [<-hX];rfl
 have eP:X'.prog=X.prog:=by rw [<-hX];rfl
 have eW:X'.w=X.w:=by rw [<-hX];rfl
 have eK:X'.K=X.K:=by rw [<-hX];rfl
 have eC:X'.calm=true:=by rw [<-hX];exact hc
 have eV:X'.env=compEnvC scope (jF X scope C) C X.env:=by rw [<-hX];rfl
 have eE:X'.xe=λ_ _=>False:=by rw [<-hX];rfl
 -- what stays true of the iterator's objects
 have stat: ∀ {us:List Value} {H':Hp},(∀b∈fp,H' b=none)-> ∀b∈fp,Ui X' [(D,LCg.lst us)] H' b:=λ{us H'} hn b hb=>by
  have q:=hf b (D6 _ hb);subst hX;refine⟨hn b hb,D5 (ltb b (D6 _ hb)),λz=> ?_,.inl (D6 _ hb),λx c e=>(cl x c e).elim (λz=>q.2.2.2.2.1 x c z) (λz=>B1 (N3 (ltb b (D6 _ hb)) z)),λp hp=> ?_⟩
  ·rcases P0.mp (I.stkSub b z) with r|r
   ·exact q.2.1 r
   ·exact q.2.2.1 r
  ·have hp':p∈ [(D,LCg.lst us)]:=hp;rcases G5.mp hp' with rfl
   exact B1 (ltf b hb)
 have loop: ∀s₃:Shared,s₃= {s2 with heap:=h₁}->
  codeAny (model X.prog X.w) X.A (.compLoop (.ListComp elt (⟨tg,iter,ifs,0⟩::zP) scope pos) 0 (.ref it) (.ref D) (compEnvC scope (jF X scope C) C X.env))
   (compPost (model X.prog X.w) X.A X.xe use Qv (.ref D) C) s₃:=by
  rintro s₃ rfl;refine Vg (act:=act (compEnvC scope (jF X scope C) C X.env) (.ref D)) (λn s'=> ∃i ys us H',Vals ys us/\Inv X' [(D,LCg.lst us)] (zk js σ) H' s'/\tn i s'.heap/\(∀b∈fp,H' b=none)/\W i n ys H') (hturn _ _ _) ?_ m0
   ⟨0,[],[],H2,.nil,I4,st4,λb hb=>(f2 b hb).1,w0⟩
  rintro n s5 ⟨i,ys,us,H5,hv5,I5,st5,fr5,w5⟩;obtain⟨hz,tr⟩:=turn i n ys H5 w5;rcases tr with ⟨stop,qn⟩|⟨go,step⟩
  ·have q:=T.done X' eP eW eK eC i _ s5 _ H5 (λ_ _=>False) I5 (stat fr5) st5 stop;rw [eA] at q;refine D8 q (λr s6 ⟨hr,I6⟩=> ?_) λ_ _ z=>z
   subst hr;obtain⟨m6,hm6,_⟩:=I6.loc;rw [eV] at hm6;have zD:=I6.pin (D,LCg.lst us) (G1 _ P4);have HD:H5 D=none:=zD.2.1;have oD:s6.heap.get? D=some (LCg.lst us):=zD.1;have hDC:D≠C:=by rw [CD];exact D5 (B7 _)
   have HC:H5 C=none:=by have z:=I6.free;rw [eV] at z;exact z
   have B:=I6.base;have os6:s6.os=s2.os:=by have z:=I6.os;rw [<-hX] at z;exact z
   have Bu:Un (frs X.stack) (fp++ [D]) H2 H5 h3 s6.heap:=by rw [<-hX] at B;exact B
   have neC: ∀b o,h3.get? b=some o->b≠C:=λb o e=>by rw [<-hC];exact D5 (P3 e)
   refine fin D C (upd H5 D (.lst ys)) s6 m6 hm6 (λh' hs'=> ?_) (by rw [jq (Ne.symm hDC)];exact HC) ?_ ?_ ?_ (λx c e=>D5 (olt x c e)) ?_ (qn D HD)
   ·have hk5:HOk X.prog X.w H5 h':=λb u e=>by
     have z:=I6.hok b u e;rw [eP,eW] at z;refine z.stay (λc v hc q=>hs'.extBut c v ?_ q) (λ_ q=>q) λ_ _ q=>q
     rcases hc with rfl|hc
     ·exact jm e HC
     ·exact jm hc HC
    refine I3.call' (ch:=fp++ [D]) os6 ⟨λb o e n hb hx=> ?_,λb o e n hb hx=> ?_,λb o e n hx=> ?_,λb o e hx=> ?_,λb xs e=> ?_,λb o u e=> ?_,λb ps e=> ?_⟩ (hk5.track HD ?_) I6.bare λb hb=> ?_
    ·exact hs'.extBut b o (neC b o e) (Bu.keep b o e n hb hx)
    ·obtain⟨sl,q⟩:=Bu.slot b o e n hb hx;exact⟨sl,hs'.extBut b _ (neC b o e) q⟩
    ·rw [jq λz=>hx (by rw [z];exact G1 _ P4)];exact Bu.free b o e n hx
    ·obtain⟨o',q⟩:=Bu.there b o e hx;exact⟨o',hs'.extBut b _ (neC b o e) q⟩
    ·have z:=Bu.tups b xs e;rw [jq (jm z HD)];exact z
    ·have z:=Bu.frzs b o u e;rw [jq (jm z HD)];exact z
    ·obtain⟨more,z⟩:=Bu.tbls b ps e;exact⟨more,by rw [jq (jm z HD)];exact z⟩
    ·exact⟨hz,us,us.length,hv5,hs'.extBut D _ hDC oD⟩
    ·have q:=hf b hb;exact⟨q.2.2.2.1,q.2.1,q.2.2.2.2.1,q.2.2.2.2.2⟩
   ·rw [<-hC];exact B1 I3.lt
   ·exact I3.nofs (E7 hC)
   ·rw [<-hC];exact I3.sz
   ·intro p hp;have:=(I3.pin p hp).1;rw [<-hC];exact D5 (P3 this)
  ·have q:=T.item X' eP eW eK eC i _ s5 _ H5 (λ_ _=>False) I5 (stat fr5) st5 go;rw [eA] at q;refine D8 q (λr s6 ⟨u,hr,h6⟩=> ?_) λ_ _ z=>z
   subst hr;refine D8 h6 (λ_ s7 ⟨x,H7,I7,r7,y7,st7,fr7⟩=> ?_) λ_ _ z=>z
   have I7':=I7.pinned (stat fr7) (T.obj _ _ st7);have q7:=hg X' iX _ s7 _ H7 x u _ I7' r7 (step x H7 y7);rw [eP,eW,eA,eV,eE] at q7;refine D8 q7 (λ_ s8 ⟨σ8,H8,I8,ag8,q8⟩=> ?_) λ_ _ z=>z
   have q9:=ht X' iX _ s8 σ8 H8 _ I8 q8;rw [eP,eW,eA,eV,eE] at q9;refine D8 q9 (λok s9 ⟨H9,I9,q9⟩=> ?_) λ_ _ z=>z
   have keepT: ∀ {σ':St} {H':Hp} {s':Shared} {us:List Value},Inv X' ([(D,LCg.lst us)]++wM fp s7.heap) σ' H' s'->tn (i+1) s'.heap/\ ∀b∈fp,H' b=none:=λ{σ' H' s' us} I'=>
    ⟨T.keep _ _ _ st7 λb hb o e=>(I'.pin (b,o) (G1 _ (G1 _ (zq hb e)))).1,λb hb=>by
     obtain⟨o,e,_⟩:=T.obj _ _ st7 b hb;exact(I'.pin (b,o) (G1 _ (G1 _ (zq hb e)))).2.1⟩
   cases ok with
   |false=>
    have q9: ∃m',m'<n/\W (i+1) m' ys H9:=q9;obtain⟨m',hm,w9⟩:=q9;obtain⟨t9,f9⟩:=keepT I9;exact⟨m',hm,i+1,ys,us,H9,hv5,(I9.unpinned).weak ag8.1.symm ag8.2,t9,f9,w9⟩
   |true=>
    have q9:tm σ8 H9 ys λys' H4=> ∃m',m'<n/\W (i+1) m' ys' H4:=q9
    have DX:D∈X'.ex:=by rw [<-hX];exact G1 _ P4
    have pD: ∀p∈X'.pn++wM fp s7.heap,p.1≠D:=λp hp=>by
     have hp':p∈wM fp s7.heap:=by rw [<-hX] at hp;simpa [JX] using hp
     exact D5 (ltf _ (vI hp').1)
    have cD: ∀x c,X'.env.cells.lookup x=some c->c≠D:=λx c e=>by
     rw [eV] at e;exact(cl x c e).elim (λz=>fD.2.2.2.2.1 x c z) λz=>B1 (N3 (by rw [CD];exact B7 _) z)
    have q10:=he X' iX D _ s9 σ8 H9 ys us _ I9 hv5 hz DX cD pD q9;rw [eP,eW,eA,eV] at q10;show wpAny _ _ (act _ _) _ _ s9;refine D8 q10 (λ_ s10 ⟨ys',us',H10,hv10,I10,m',hm,w10⟩=> ?_) λ_ _ z=>z
    obtain⟨t10,f10⟩:=keepT I10;exact⟨m',hm,i+1,ys',us',H10,hv10,(I10.unpinned).weak ag8.1.symm ag8.2,t10,f10,w10⟩
 exact codeAny_compStart_list (loop _ rfl) (T.self X.A 0 _ _ _ st4 (loop _ rfl))
theorem RK (hc:X.calm=true)(S:BlockOk X scope js)(hi:PI X tg iter wi)
 (hg: ∀X',jt X scope X'->PG X' tg g)(ht: ∀X',jt X scope X'->PTs X' ifs tt)(he: ∀X',jt X scope X'->PE X' elt te)
 (hs: ∀x,foldedSetIterable iter X.env x=pure x:=by intro _;rfl):PE X (.ListComp elt [⟨tg,iter,ifs,0⟩] scope pos) (tLC js wi g tt te):=by
 intro pins s σ H Q I h;rw [eval_ListComp];exact UT (use:=none) hc S hi rfl hg ht (JJ elt) (λ_ _ _=>rfl) (λX' hX D=>JY (by obtain⟨_,_,_,_,rfl⟩:=hX;rfl) (he X' hX)) hs I h
  λD C H' s' m hn hk _ _ _ _ _ _ q=>⟨m,hn,λh' hs'=>⟨.ref D,H',hk h' hs',rfl,q⟩⟩
theorem Pp {e:Expr}{zP:List Comprehension}{pos' spos:Pos}{g':TG}{tm:TM}(hc:X.calm=true)(S:BlockOk X scope js)(hi:PI X tg iter wi)
 (he0:e= .ListComp elt (⟨tg,iter,ifs,0⟩::zP) scope pos)(hg: ∀X',jt X scope X'->PG X' tg g)(ht: ∀X',jt X scope X'->PTs X' ifs tt)
 (act:Env->Value->Sem Unit)(hturn: ∀it acc env,compTurn e 0 it acc env=JH iter tg ifs it env (act env acc) (.compLoop e 0 it acc env))(he: ∀X',jt X scope X'-> ∀D,Ng X' D (act X'.env (.ref D)) tm)
 (hg':PG X (.Name x pos') g')(hsw:swapsWith e (some (.Name x pos')) spos.line X.env=pure true)
 (hs: ∀x,foldedSetIterable iter X.env x=pure x):PS X (.Assign [.Name x pos'] e spos) (GU (Nh js wi g tt tm) g'):=by
 intro pins s σ H Dn I h;rw [exec_Assign_Name_used _ _ _ _ hsw];refine wpAny_bind (C4 (wpAny_bind ?_));subst he0;rw [arm_evalThenUse_ListComp];show wpAny _ X.A (do let _ <-comprehension (.ListComp elt (⟨tg,iter,ifs,0⟩::zP) scope pos) scope X.env _ (newList []) false (eval iter X.env) (some (assign (.Name x pos') X.env))) _ _ s;refine wpAny_bind (D8 (UT (use:=some (assign (.Name x pos') X.env)) (Qv:=λ_ s'=>SP X pins Dn .next s') hc S hi rfl hg ht act hturn he hs I h ?_) (λ_ s' hq=>P6 (P6 hq)) λ_ _ e=>e);intro D C H' s' m hn hk HC nL nf sz ncell npin q;show wpAny _ X.A (assign (.Name x pos') X.env (.ref D)) _ _ s';obtain⟨o,es,ep,ho,hd,hr⟩:=id hn;have I1:Inv X pins σ H' s':=hk s'.heap (Heap.SameBut.refl ..);have I2:Inv X (pins++ [(C,o)]) σ H' s':=I1.pins_of λp hp=>by
  rcases P9.mp hp with z|z
  ·exact I1.pin p (G1 _ z)
  ·rcases G5.mp z with rfl
   exact⟨ho,HC,nL,nf,λv z=>by rw [hd] at z;cases z⟩
 refine D8 (hg' _ s' σ H' (.ref D) (.ref D) _ I2 rfl q) (λ_ s3 ⟨σ3,H3,I3,q3⟩=> ?_) λ_ _ z=>z
 have pC:=I3.pin (C,o) (G1 _ (G1 _ P4));refine⟨m,hn.at' λo' e'=> ?_,λh' hs'=> ?_⟩
 ·rw [ho] at e';cases e';exact pC.1
 ·exact⟨σ3,H3,(I3.unpinned).turned (t':=s3.toks) (it:=C) (λb o hb e=>hs'.extBut b o hb e) pC.2.1 nL (.inr sz) ncell npin,q3⟩
theorem QC {pos' spos:Pos}{g':TG}(hc:X.calm=true)(S:BlockOk X scope js)(hi:PI X tg iter wi)
 (hg: ∀X',jt X scope X'->PG X' tg g)(ht: ∀X',jt X scope X'->PTs X' ifs tt)(he: ∀X',jt X scope X'->PE X' elt te)
 (hg':PG X (.Name x pos') g')(hsw:swapsWith (.ListComp elt [⟨tg,iter,ifs,0⟩] scope pos) (some (.Name x pos')) spos.line X.env=pure true)
 (hs: ∀x,foldedSetIterable iter X.env x=pure x:=by intro _;rfl):PS X (.Assign [.Name x pos'] (.ListComp elt [⟨tg,iter,ifs,0⟩] scope pos) spos) (GU (tLC js wi g tt te) g'):=
 Pp hc S hi rfl hg ht (JJ elt) (λ_ _ _=>rfl) (λX' hX D=>JY (by obtain⟨_,_,_,_,rfl⟩:=hX;rfl) (he X' hX)) hg' hsw hs
def UU (e iter:Expr)(env:Env)(acc:Value):Sem Unit:=do
 let x <-eval iter env
 standAt iter.pos
 let x <-foldedSetIterable iter env x
 let _ <-runOwn (.compStart e 1 (<-holding [x] (pyIter x)) acc env) env
def mIn (wi : TI) (g : TG) (tt : TT) (tm : TM) : TM := fun σ H ys Q => wi σ H fun J H1 =>
  ∃ W : Nat → Nat → List V → Hp → Prop, (∃ m, W 0 m ys H1) ∧ ∀ i m ys H, W i m ys H → ys.length ≤ sizeLine ∧
    ((J.stop i H ∧ Q ys H) ∨
     (J.go i H ∧ ∀ x H', J.yld i H x H' → g x σ H' fun σ2 H2 => Agree σ σ2 ∧ tt σ2 H2 fun b H3 =>
        if b = true then tm σ2 H3 ys fun ys' H4 => ∃ m', m' < m ∧ W (i + 1) m' ys' H4 else ∃ m', m' < m ∧ W (i + 1) m' ys H3))
theorem yq {A:Around}{R:Result->Shared->Prop}{g0 g1:Comprehension}{it acc:Value}(ha:g1.is_async=0)
 (h0:codeAny (model prog w) A (.compLoop (.ListComp elt [g0,g1] scope pos) 1 it acc env) R s)
 (h:wpAny (model prog w) A (pyIter it) (λit' s'=>codeAny (model prog w) A (.compLoop (.ListComp elt [g0,g1] scope pos) 1 it' acc env) R s')
  (notedBy (model prog w) A env λx s'=>R (.error x) s') s):
 codeAny (model prog w) A (.compStart (.ListComp elt [g0,g1] scope pos) 1 it acc env) R s:=by
 obtain⟨tg,iter,ifs,as⟩:=g1;cases (show as=0 from ha);refine codeAny_of_tree (wpAny_notedAt ?_);obtain⟨hp,g,d,tk,os⟩:=s;unfold compStart
 wp_walk
 refine wpAny_askSetting ?_;split
 ·exact P6 ⟨rfl,h0⟩
 ·exact wpAny_bind (J6 (wpAny_bind (C4 (wpAny_bind (D8 h (λ_ _ on=>P6 ⟨rfl,on⟩) λ_ _ x=>x)))))
theorem Pq {D:Addr}{g0:Comprehension}(hc:X.calm=true)(hx:X.xe=λ_ _=>False)
 (hi:PI X tg iter wi)(hg:PG X tg g)(ht:PTs X ifs tt)(he:PE X elt te)(hs: ∀x,foldedSetIterable iter X.env x=pure x):
 Ng X D (UU (.ListComp elt [g0,⟨tg,iter,ifs,0⟩] scope pos) iter X.env (.ref D)) (mIn wi g tt (RJ te)):=by
 intro pins s σ H ys us Q I hv hz DX cD pD h;have q:=hi _ s σ H _ I h;rw [hx] at q;unfold UU;refine wpAny_bind (D8 q (λv s1 h1=>wpAny_bind (C4 (wpAny_bind (wpAny_of_eq (hs v) (wpAny_bind (B4 (D8 h1 (λitv s2 h2=> ?_) λ_ _ z=>z))))))) λ_ _ z=>z);obtain⟨it,fp,tn,J,H2,e,I2,T,st2,f2,W,⟨m0,w0⟩,turn⟩:=h2;subst e;refine wpAny_bind (wpAny_runOwn ?_);have neD: ∀b∈fp,b≠D:=λb hb=>by
  have z:=(f2 b hb).2.2.2.2.2 (D,LCg.lst us) (G1 _ (D6 _ P4));exact Ne.symm z
 have stat: ∀ {us':List Value} {H':Hp},(∀b∈fp,H' b=none)-> ∀b∈fp,Ui X ([(D,LCg.lst us')]++pins) H' b:=λ{us' H'} hn b hb=>by
  have q:=f2 b hb;refine⟨hn b hb,q.2.1,q.2.2.1,q.2.2.2.1,q.2.2.2.2.1,λp hp=> ?_⟩;rcases P9.mp hp with z|z
  ·exact q.2.2.2.2.2 p (D6 _ z)
  ·rcases P9.mp z with z|z
   ·rcases G5.mp z with rfl
    exact Ne.symm (neD b hb)
   ·exact q.2.2.2.2.2 p (G1 _ (G1 _ z))
 have loop:codeAny (model X.prog X.w) X.A (.compLoop (.ListComp elt [g0,⟨tg,iter,ifs,0⟩] scope pos) 1 (.ref it) (.ref D) X.env)
  (λr s'=>match r with| .ok f=>wpAny (model X.prog X.w) X.A (pure ()) (λ_ s'=> ∃ys' us' H',Vals ys' us'/\Inv X ([(D,LCg.lst us')]++pins) σ H' s'/\Q ys' H') (λ_ _=>False) s'| .error e=>cameBackBy (model X.prog X.w) X.A X.env (λ_ _=>False) e s') s2:=by
  refine Vg (act:=JJ elt X.env (.ref D)) (λn s'=> ∃i ys us H',Vals ys us/\Inv X ([(D,LCg.lst us)]++pins) σ H' s'/\tn i s'.heap/\(∀b∈fp,H' b=none)/\W i n ys H') rfl ?_ m0
   ⟨0,ys,us,H2,hv,I2,st2,λb hb=>(f2 b hb).1,w0⟩
  rintro n s5 ⟨i,ys,us,H5,hv5,I5,st5,fr5,w5⟩;obtain⟨hz,tr⟩:=turn i n ys H5 w5;rcases tr with ⟨stop,qn⟩|⟨go,step⟩
  ·refine D8 (T.done X rfl rfl rfl hc i _ s5 _ H5 (λ_ _=>False) I5 (stat fr5) st5 stop) (λr s6 ⟨hr,I6⟩=> ?_) λ_ _ z=>z
   subst hr;exact P6 ⟨ys,us,H5,hv5,I6,qn⟩
  ·refine D8 (T.item X rfl rfl rfl hc i _ s5 _ H5 (λ_ _=>False) I5 (stat fr5) st5 go) (λr s6 ⟨u,hr,h6⟩=> ?_) λ_ _ z=>z
   subst hr;refine D8 h6 (λ_ s7 ⟨x,H7,I7,r7,y7,st7,fr7⟩=> ?_) λ_ _ z=>z
   have I7':=I7.pinned (stat fr7) (T.obj _ _ st7);have q7:=hg _ s7 _ H7 x u _ I7' r7 (step x H7 y7);rw [hx] at q7;refine D8 q7 (λ_ s8 ⟨σ8,H8,I8,ag8,q8⟩=> ?_) λ_ _ z=>z
   have q9:=ht _ s8 σ8 H8 _ I8 q8;rw [hx] at q9;refine D8 q9 (λok s9 ⟨H9,I9,q9⟩=> ?_) λ_ _ z=>z
   have keepT: ∀ {σ':St} {H':Hp} {s':Shared} {us:List Value},Inv X (([(D,LCg.lst us)]++pins)++wM fp s7.heap) σ' H' s'->tn (i+1) s'.heap/\ ∀b∈fp,H' b=none:=λ{σ' H' s' us} I'=>
    ⟨T.keep _ _ _ st7 λb hb o e=>(I'.pin (b,o) (G1 _ (G1 _ (zq hb e)))).1,λb hb=>by
     obtain⟨o,e,_⟩:=T.obj _ _ st7 b hb;exact(I'.pin (b,o) (G1 _ (G1 _ (zq hb e)))).2.1⟩
   cases ok with
   |false=>
    have q9: ∃m',m'<n/\W (i+1) m' ys H9:=q9;obtain⟨m',hm,w9⟩:=q9;obtain⟨t9,f9⟩:=keepT I9;exact⟨m',hm,i+1,ys,us,H9,hv5,(I9.unpinned).weak ag8.1.symm ag8.2,t9,f9,w9⟩
   |true=>
    have q9:RJ te σ8 H9 ys λys' H4=> ∃m',m'<n/\W (i+1) m' ys' H4:=q9
    have pD': ∀p∈X.pn++(pins++wM fp s7.heap),p.1≠D:=λp hp=>by
     rcases P9.mp hp with z|z
     ·exact pD p (D6 _ z)
     ·rcases P9.mp z with z|z
      ·exact pD p (G1 _ z)
      ·exact neD _ (vI z).1
    rw [N1] at I9;have q10:=JY (D:=D) hx he (pins++wM fp s7.heap) s9 σ8 H9 ys us _ I9 hv5 hz DX cD pD' q9;show wpAny _ _ (JJ _ _ _) _ _ s9;refine D8 q10 (λ_ s10 ⟨ys',us',H10,hv10,I10,m',hm,w10⟩=> ?_) λ_ _ z=>z
    rw [<-N1] at I10;obtain⟨t10,f10⟩:=keepT I10;exact⟨m',hm,i+1,ys',us',H10,hv10,(I10.unpinned).weak ag8.1.symm ag8.2,t10,f10,w10⟩
 exact yq rfl loop (T.self X.A 0 _ _ _ st2 loop)
theorem Pr (elt iter tg iter' tg':Expr)(ifs ifs':List Expr)(scope:Scope)(pos:Pos)(it acc:Value)(env:Env):
 compTurn (.ListComp elt [⟨tg,iter,ifs,0⟩,⟨tg',iter',ifs',0⟩] scope pos) 0 it acc env=
  JH iter tg ifs it env (UU (.ListComp elt [⟨tg,iter,ifs,0⟩,⟨tg',iter',ifs',0⟩] scope pos) iter' env acc) (.compLoop (.ListComp elt [⟨tg,iter,ifs,0⟩,⟨tg',iter',ifs',0⟩] scope pos) 0 it acc env):=by
 unfold JH UU;simp only [bind_assoc,pure_bind];rfl
def NJ (js:List Nat)(wi:TI)(g:TG)(tt:TT)(wi':TI)(g':TG)(tt':TT)(te:TE):TE:=Nh js wi g tt (mIn wi' g' tt' (RJ te))
theorem RL {iter' tg':Expr}{ifs':List Expr}{wi':TI}{g':TG}{tt':TT}(hc:X.calm=true)(S:BlockOk X scope js)(hi:PI X tg iter wi)
 (hg: ∀X',jt X scope X'->PG X' tg g)(ht: ∀X',jt X scope X'->PTs X' ifs tt)(hi': ∀X',jt X scope X'->PI X' tg' iter' wi')
 (hg': ∀X',jt X scope X'->PG X' tg' g')(ht': ∀X',jt X scope X'->PTs X' ifs' tt')(he: ∀X',jt X scope X'->PE X' elt te)
 (hs: ∀x,foldedSetIterable iter X.env x=pure x:=by intro _;rfl)(hs': ∀env x,foldedSetIterable iter' env x=pure x:=by intro _ _;rfl):
 PE X (.ListComp elt [⟨tg,iter,ifs,0⟩,⟨tg',iter',ifs',0⟩] scope pos) (NJ js wi g tt wi' g' tt' te):=by
 intro pins s σ H Q I h;rw [eval_ListComp];exact UT (use:=none) hc S hi rfl hg ht (λenv acc=>UU (.ListComp elt [⟨tg,iter,ifs,0⟩,⟨tg',iter',ifs',0⟩] scope pos) iter' env acc) (λ_ _ _=>Pr ..)
  (λX' hX D=>Pq (by obtain⟨_,_,_,_,rfl⟩:=hX;exact hc) (by obtain⟨_,_,_,_,rfl⟩:=hX;rfl) (hi' X' hX) (hg' X' hX) (ht' X' hX) (he X' hX) (hs' _)) hs I h
  λD C H' s' m hn hk _ _ _ _ _ _ q=>⟨m,hn,λh' hs'=>⟨.ref D,H',hk h' hs',rfl,q⟩⟩
inductive D where
 |non|bl (b:Bool)|int (i:Int)|str (x:Str)|tup (ds:List D)|lst (a:Addr)|dic (x:Str) (i:Int)|dct (a:Addr)|scr (ns:List Int)|exc (C:Addr)|fn (a:Addr)
def Scr (K:PySem.W.Frag)(H:Hp)(a:Addr)(ns:List Int):Prop:=
 (∃o,H a=some (.frz o (.lst (ns.map V.int))))\/
  ∃ (o:Obj) (its:Array Value) (n:Nat),K.lookup a=some o/\o.cls= .type "list" /\o.dict=none/\o.data= .seq its n/\its.size<=sizeLine/\Vals (ns.map V.int) its.toList
theorem Scr.sq {K:PySem.W.Frag}{ns:List Int}(h:Scr K H a ns):SqL K H a (ns.map V.int):=h.elim (λz=> .inl (.inr z)) .inr
mutual
def RelD (K:PySem.W.Frag)(H:Hp):D->V->Prop
 | .non,v=>v= .non
 | .bl b,v=>v= .bl b
 | .int i,v=>v= .int i
 | .str x,v=>v= .str x
 | .tup ds,v=> ∃a vs,v= .ref a/\H a=some (.tup vs)/\RelDs K H ds vs
 | .lst a,v=>v= .ref a/\ ∃vs,H a=some (.lst vs)
 | .dic x i,v=> ∃a,v= .ref a/\H a=some (.dK [(Sum.inr x,V.int i)])
 | .dct a,v=>v= .ref a
 | .scr ns,v=> ∃a,v= .ref a/\Scr K H a ns
 | .exc C,v=> ∃x o vs,v= .ref x/\H x=some (.frz o (.own 0))/\o.cls= .ref C/\o.data= .fields vs
 | .fn a,v=>v= .ref a/\PySem.W.keepIn K (.ref a)=true
def RelDs (K:PySem.W.Frag)(H:Hp):List D->List V->Prop
 | [],vs=>vs= []
 |d::ds,vs=> ∃v r,vs=v::r/\RelD K H d v/\RelDs K H ds r
end
structure Kept (H H':Hp):Prop where
 tup: ∀a xs,H a=some (.tup xs)->H' a=some (.tup xs)
 lst: ∀a xs,H a=some (.lst xs)-> ∃ys,H' a=some (.lst ys)
 dic: ∀a x i,H a=some (.dK [(Sum.inr x,V.int i)])->H' a=some (.dK [(Sum.inr x,V.int i)])
 frz: ∀a o u,H a=some (.frz o u)->H' a=some (.frz o u)
theorem Kept.refl (H:Hp):Kept H H:=⟨λ_ _ h=>h,λ_ xs h=>⟨xs,h⟩,λ_ _ _ h=>h,λ_ _ _ h=>h⟩
theorem Kept.trans {A B C:Hp}(x:Kept A B)(y:Kept B C):Kept A C:=
 ⟨λa xs h=>y.tup a xs (x.tup a xs h),λa xs h=>let ⟨_,e⟩:=x.lst a xs h;y.lst a _ e,λa k i h=>y.dic a k i (x.dic a k i h),λa o u h=>y.frz a o u (x.frz a o u h)⟩
theorem Kept.new {H:Hp}{p:Addr}{o:HO}(h:H p=none):Kept H (upd H p o):=
 ⟨λa xs e=>by rw [jq (jm e h)];exact e,λa xs e=>⟨xs,by rw [jq (jm e h)];exact e⟩,λa k i e=>by rw [jq (jm e h)];exact e,λa o u e=>by rw [jq (jm e h)];exact e⟩
theorem Kept.put {H:Hp}{p:Addr}{xs ys:List V}(h:H p=some (.lst xs)):Kept H (upd H p (.lst ys)):=
 ⟨λa zs e=>by rw [jq (Yg e h (by intro z;cases z))];exact e,λa zs e=>by
  by_cases q:a=p
  ·subst q;exact⟨ys,ju⟩
  ·exact⟨zs,by rw [jq q];exact e⟩,
  λa k i e=>by rw [jq (Yg e h (by intro z;cases z))];exact e,λa o u e=>by rw [jq (Yg e h (by intro z;cases z))];exact e⟩
def DObj (o:HO):Prop:=(∃kvs:List (Int×V),o= .dK (kvs.map λp=>((Sum.inl p.1:Key),p.2)))\/ ∃φ,o= .ext φ
theorem DObj.no {o:HO}(d:DObj o):(∀xs,o≠ .tup xs)/\(∀xs,o≠ .lst xs)/\(∀x i,o≠ .dK [(Sum.inr x,V.int i)])/\(∀p u,o≠ .frz p u)/\ ∀ps,o≠ .tbl ps:=by
 rcases d with ⟨kvs,rfl⟩|⟨φ,rfl⟩
 ·refine⟨λ_ z=>(nomatch z),λ_ z=>(nomatch z),λx i z=> ?_,λ_ _ z=>(nomatch z),λ_ z=>(nomatch z)⟩;injection z with z
  cases kvs with
  |nil=>cases z
  |cons p r=>injection z with z _;injection z with z _;cases z
 ·exact⟨λ_ z=>(nomatch z),λ_ z=>(nomatch z),λ_ _ z=>(nomatch z),λ_ _ z=>(nomatch z),λ_ z=>(nomatch z)⟩
theorem Kept.putD {H:Hp}{p:Addr}{o o':HO}(h:H p=some o)(d:DObj o):Kept H (upd H p o'):=by
 obtain⟨d1,d2,d3,d4,_⟩:=d.no;have ne: ∀ {a:Addr} {u:HO},H a=some u->o≠u->a≠p:=λe n z=>by subst z;rw [h] at e;injection e with e;exact n e
 exact⟨λa xs e=>by rw [jq (ne e (d1 xs))];exact e,λa xs e=>⟨xs,by rw [jq (ne e (d2 xs))];exact e⟩,λa x i e=>by rw [jq (ne e (d3 x i))];exact e,λa q u e=>by rw [jq (ne e (d4 q u))];exact e⟩
mutual
theorem RelD.mono {K:PySem.W.Frag}{H H':Hp}(k:Kept H H'): ∀ {d:D} {v:V},RelD K H d v->RelD K H' d v
 | .non,_,h=>h
 | .bl _,_,h=>h
 | .int _,_,h=>h
 | .str _,_,h=>h
 | .tup ds,v,h=>by
  obtain⟨a,vs,e,h1,h2⟩:=(show ∃a vs,v= .ref a/\H a=some (.tup vs)/\RelDs K H ds vs from h);exact⟨a,vs,e,k.tup _ _ h1,RelDs.mono k h2⟩
 | .lst a,v,h=>by
  obtain⟨e,vs,h1⟩:=(show v= .ref a/\ ∃vs,H a=some (.lst vs) from h);exact⟨e,k.lst _ _ h1⟩
 | .dic x i,v,h=>by
  obtain⟨a,e,h1⟩:=(show ∃a,v= .ref a/\H a=some (.dK [(Sum.inr x,V.int i)]) from h);exact⟨a,e,k.dic _ _ _ h1⟩
 | .dct a,v,h=>h
 | .scr ns,v,h=>by
  obtain⟨a,e,h1⟩:=(show ∃a,v= .ref a/\Scr K H a ns from h);exact⟨a,e,h1.elim (λ⟨o,z⟩=> .inl ⟨o,k.frz _ _ _ z⟩) .inr⟩
 | .exc C,v,h=>by
  obtain⟨x,o,vs,e,h1,r⟩:=(show ∃x o vs,v= .ref x/\H x=some (.frz o (.own 0))/\o.cls= .ref C/\o.data= .fields vs from h);exact⟨x,o,vs,e,k.frz _ _ _ h1,r⟩
 | .fn a,v,h=>h
theorem RelDs.mono {K:PySem.W.Frag}{H H':Hp}(k:Kept H H'): ∀ {ds:List D} {vs:List V},RelDs K H ds vs->RelDs K H' ds vs
 | [],_,h=>h
 |d::ds,vs,h=>by
  obtain⟨v,r,e,h1,h2⟩:=(show ∃v r,vs=v::r/\RelD K H d v/\RelDs K H ds r from h);exact⟨v,r,e,RelD.mono k h1,RelDs.mono k h2⟩
end
section
variable {K:PySem.W.Frag}{H:Hp}
theorem RelDs.nil:RelDs K H [] []:=rfl
theorem RelDs.cons {d:D}{v:V}{ds:List D}{vs:List V}(h:RelD K H d v)(t:RelDs K H ds vs):RelDs K H (d::ds) (v::vs):=⟨v,vs,rfl,h,t⟩
theorem RelDs.length: ∀ {ds:List D} {vs:List V},RelDs K H ds vs->ds.length=vs.length
 | [],_,h=>by cases (show _= [] from h);rfl
 |d::ds,vs,h=>by
  obtain⟨v,r,e,_,h2⟩:=(show ∃v r,vs=v::r/\RelD K H d v/\RelDs K H ds r from h);subst e;simp [RelDs.length h2]
theorem RelDs.append: ∀ {ds es:List D} {vs us:List V},RelDs K H ds vs->RelDs K H es us->RelDs K H (ds++es) (vs++us)
 | [],_,_,_,h,g=>by cases (show _= [] from h);exact g
 |d::ds,es,vs,us,h,g=>by
  obtain⟨v,r,e,h1,h2⟩:=(show ∃v r,vs=v::r/\RelD K H d v/\RelDs K H ds r from h);subst e;exact .cons h1 (RelDs.append h2 g)
theorem RelDs.get: ∀ {ds:List D} {vs:List V} {i:Nat} {d:D},RelDs K H ds vs->ds[i]? =some d-> ∃v,vs[i]? =some v/\RelD K H d v
 |d'::ds,vs,i,d,h,e=>by
  obtain⟨v,r,q,h1,h2⟩:=(show ∃v r,vs=v::r/\RelD K H d' v/\RelDs K H ds r from h);subst q;cases i with
  |zero=>simp at e;subst e;exact⟨v,rfl,h1⟩
  |succ i=>
   obtain⟨u,q1,q2⟩:=RelDs.get h2 (i:=i) (d:=d) (by simpa using e);exact⟨u,by simpa using q1,q2⟩
theorem RelDs.take (n:Nat): ∀ {ds:List D} {vs:List V},RelDs K H ds vs->RelDs K H (ds.take n) (vs.take n):=by
 induction n with
 |zero=>intro ds vs _;exact(rfl:RelDs K H [] [])
 |succ n ih=>
  intro ds vs h;cases ds with
  |nil=>cases (show vs= [] from h);exact .nil
  |cons d ds=>
   obtain⟨v,r,e,h1,h2⟩:=(show ∃v r,vs=v::r/\RelD K H d v/\RelDs K H ds r from h);subst e;exact .cons h1 (ih h2)
theorem RelDs.drop (n:Nat): ∀ {ds:List D} {vs:List V},RelDs K H ds vs->RelDs K H (ds.drop n) (vs.drop n):=by
 induction n with
 |zero=>intro ds vs h;exact h
 |succ n ih=>
  intro ds vs h;cases ds with
  |nil=>cases (show vs= [] from h);exact .nil
  |cons d ds=>
   obtain⟨v,r,e,h1,h2⟩:=(show ∃v r,vs=v::r/\RelD K H d v/\RelDs K H ds r from h);subst e;exact ih h2
theorem RelDs.set {d:D}{v:V}(q:RelD K H d v): ∀ {ds:List D} {vs:List V} (i:Nat),RelDs K H ds vs->RelDs K H (ds.set i d) (vs.set i v)
 | [],_,_,h=>by cases (show _= [] from h);exact .nil
 |e::ds,vs,i,h=>by
  obtain⟨u,r,z,h1,h2⟩:=(show ∃u r,vs=u::r/\RelD K H e u/\RelDs K H ds r from h);subst z;cases i with
  |zero=>exact .cons q h2
  |succ i=>exact .cons h1 (RelDs.set q i h2)
theorem zL: ∀ns:List Int,RelDs K H (ns.map D.int) (ns.map V.int)
 | []=> .nil
 |n::ns=> .cons rfl (zL ns)
end
inductive DC where
 |ik (kv:List (Int×D))
 |tk (kv:List (List (List Int)×D))
structure HD where
 ls:Addr->Option (List D)
 dc:Addr->Option DC
instance:CoeFun HD λ_=>Addr->Option (List D):=⟨HD.ls⟩
def zm (h:HD)(a:Addr)(ds:List D):HD:=⟨λb=>if b=a then some ds else h b,h.dc⟩
def wg (h:HD)(a:Addr):HD:=⟨λb=>if b=a then none else h b,h.dc⟩
theorem ja {h:HD}{a:Addr}{ds:List D}:zm h a ds a=some ds:=if_pos rfl
theorem zu {h:HD}{a b:Addr}{ds:List D}(e:b≠a):zm h a ds b=h b:=if_neg e
theorem zM {h:HD}{a:Addr}{ds:List D}(e:h a=none):wg (zm h a ds) a=h:=by
 obtain⟨l,d⟩:=h;refine congrArg (HD.mk · d) ?_
 funext b
 show (if b=a then none else if b=a then some ds else l b)=l b
 by_cases q:b=a
 ·subst q;rw [if_pos rfl];exact e.symm
 ·rw [if_neg q,if_neg q]
def LN:List Str:= ["law","_law_right","_law_words","_law_other_words","_law_many_right","_law_all","_law_told_row","_law_all_right","_law_desk_right","_law_signs_right","_law_lists_right","_law_text_right"]
def TabK (K:PySem.W.Frag)(P:Addr):Prop:= ∃x∈LN,∃c,PySem.W.tabIn K x=some (c,P)
def CodesOk (H:Hp)(ps:Array Value):Prop:=TriplesOk ps.toList/\ ∀pos cv,codeAmong pos ps.toList=some cv-> ∃ (c:Addr) (o:Obj) (vs:Array Value) (q:Str) (t:Tok),cv= .ref c/\H c=some (.frz o (.own 0))/\o.data= .fields vs/\vs[1]? =some (.str q t)
def CTabs (K:PySem.W.Frag)(H:Hp):Prop:= ∀P,TabK K P-> ∃ps,H P=some (.tbl ps)/\CodesOk H ps
theorem CodesOk.mono {H H':Hp}{ps:Array Value}(k: ∀a o u,H a=some (.frz o u)->H' a=some (.frz o u))(c:CodesOk H ps):CodesOk H' ps:=
 ⟨c.1,λpos cv e=>let ⟨c',o,vs,q,t,e1,e2,r⟩:=c.2 pos cv e;⟨c',o,vs,q,t,e1,k _ _ _ e2,r⟩⟩
theorem CTabs.mono {K:PySem.W.Frag}{H H':Hp}(x:CTabs K H)(k: ∀a o u,H a=some (.frz o u)->H' a=some (.frz o u))(kt: ∀a ps,H a=some (.tbl ps)->H' a=some (.tbl ps)):CTabs K H':=λP hP=>
 let ⟨ps,e,c⟩:=x P hP;⟨ps,kt _ _ e,c.mono k⟩
theorem CTabs.new {K:PySem.W.Frag}{H:Hp}{p:Addr}{o:HO}(x:CTabs K H)(e:H p=none):CTabs K (upd H p o):=
 x.mono (λa o' u h=>by rw [jq (jm h e)];exact h) λa ps h=>by rw [jq (jm h e)];exact h
theorem CTabs.put {K:PySem.W.Frag}{H:Hp}{p:Addr}{o:HO}{xs:List V}(x:CTabs K H)(e:H p=some (.lst xs)):CTabs K (upd H p o):=
 x.mono (λa o' u h=>by rw [jq (Yg h e (by intro z;cases z))];exact h) λa ps h=>by rw [jq (Yg h e (by intro z;cases z))];exact h
def Ps (T:List (List Int)):Int:=reduceHash (Builtin.Tuple.tupleHashOf (T.map λr=>reduceHash (Builtin.Tuple.tupleHashOf (r.map hashInt))))
def Co (a:Addr)(xs:List (List (List Int)×Addr×V)):HO:= .ext λh=>(a==sysModules)=false/\xs.length<=sizeLine/\ ∃ys:List (List (List Int)×Addr×Value),Paired (λp q=>p.1=q.1/\p.2.1=q.2.1/\RelV p.2.2 q.2.2) xs ys/\
 ∃o es ep,h.get? a=some o/\o.ExactDict/\o.data= .dict es ep/\es.toList=ys.map λx=>⟨Ps x.1,.ref x.2.1,x.2.2⟩
def DRel (K:PySem.W.Frag)(H:Hp)(a:Addr):DC->Prop
 | .ik kv=> ∃kvs:List (Int×V),H a=some (.dK (kvs.map λp=>((Sum.inl p.1:Key),p.2)))/\kv.map (·.1)=kvs.map (·.1)/\RelDs K H (kv.map (·.2)) (kvs.map (·.2))
 | .tk kv=> ∃xs:List (List (List Int)×Addr×V),H a=some (Co a xs)/\(kv.map (·.1)).Nodup/\kv.map (·.1)=xs.map (·.1)/\(∀x∈xs,RelD K H (.tup (x.1.map λr=> .tup (r.map D.int))) (.ref x.2.1))/\RelDs K H (kv.map (·.2)) (xs.map (·.2.2))
theorem DRel.obj {K:PySem.W.Frag}{H:Hp}{a:Addr}: ∀ {c:DC},DRel K H a c-> ∃o,H a=some o/\DObj o
 | .ik _,⟨kvs,e,_⟩=>⟨_,e,.inl ⟨kvs,rfl⟩⟩
 | .tk _,⟨xs,e,_⟩=>⟨_,e,.inr ⟨_,rfl⟩⟩
theorem DRel.mono {K:PySem.W.Frag}{H H':Hp}{a:Addr}(k:Kept H H')(z: ∀o,H a=some o->H' a=some o): ∀ {c:DC},DRel K H a c->DRel K H' a c
 | .ik _,⟨kvs,e,q,r⟩=>⟨kvs,z _ e,q,r.mono k⟩
 | .tk _,⟨xs,e,n,q,t,r⟩=>⟨xs,z _ e,n,q,λx hx=>(t x hx).mono k,r.mono k⟩
structure RelH (K:PySem.W.Frag)(h:HD)(H:Hp):Prop where
 ls: ∀a ds,h a=some ds-> ∃vs,H a=some (.lst vs)/\RelDs K H ds vs
 tb:CTabs K H
 dc: ∀a c,h.dc a=some c->DRel K H a c
instance {K:PySem.W.Frag}{h:HD}{H:Hp}:CoeFun (RelH K h H) λ_=> ∀a ds,h a=some ds-> ∃vs,H a=some (.lst vs)/\RelDs K H ds vs:=⟨RelH.ls⟩
structure Sub (h h':HD):Prop where
 ls: ∀a ds,h a=some ds->h' a=some ds
 dc: ∀a c,h.dc a=some c->h'.dc a=some c
instance {h h':HD}:CoeFun (Sub h h') λ_=> ∀a ds,h a=some ds->h' a=some ds:=⟨Sub.ls⟩
theorem Sub.refl (h:HD):Sub h h:=⟨λ_ _ e=>e,λ_ _ e=>e⟩
theorem Sub.trans {a b c:HD}(x:Sub a b)(y:Sub b c):Sub a c:=⟨λd ds e=>y d ds (x d ds e),λd ds e=>y.dc d ds (x.dc d ds e)⟩
theorem Sub.drop (h:HD)(a:Addr):Sub (wg h a) h:=⟨λb ds e=>by
 have e:(if b=a then none else h b)=some ds:=e;split at e
 ·cases e
 ·exact e,λ_ _ e=>e⟩
theorem Sub.new {h:HD}{p:Addr}{ds:List D}(e:h p=none):Sub h (zm h p ds):=⟨λa es q=>(by
 rw [zu];exact q;intro z;subst z;rw [e] at q;cases q),λ_ _ e=>e⟩
section
variable {K:PySem.W.Frag}{h h':HD}{H:Hp}
theorem RelH.sub (r:RelH K h H)(s:Sub h' h):RelH K h' H:=⟨λa ds e=>r a ds (s a ds e),r.tb,λa c e=>r.dc a c (s.dc a c e)⟩
theorem RelH.free (r:RelH K h H){p:Addr}(e:H p=none):h p=none:=by
 cases q:h p with
 |none=>rfl
 |some ds=>obtain⟨vs,z,_⟩:=r p ds q;rw [e] at z;cases z
theorem RelH.freeC (r:RelH K h H){p:Addr}(e:H p=none):h.dc p=none:=by
 cases q:h.dc p with
 |none=>rfl
 |some c=>obtain⟨o,z,_⟩:=(r.dc p c q).obj;rw [e] at z;cases z
theorem RelH.dcN (r:RelH K h H){p:Addr}{o:HO}(e:H p=none): ∀a c,h.dc a=some c->DRel K (upd H p o) a c:=λa c q=>
 (r.dc a c q).mono (.new e) λu z=>by rw [jq (jm z e)];exact z
theorem RelH.new (r:RelH K h H){p:Addr}{o:HO}(e:H p=none):RelH K h (upd H p o):=⟨λa ds q=>by
 obtain⟨vs,z,w⟩:=r a ds q;exact⟨vs,by rw [jq (jm z e)];exact z,w.mono (.new e)⟩,r.tb.new e,r.dcN e⟩
theorem RelH.newL (r:RelH K h H){p:Addr}{ds:List D}{vs:List V}(e:H p=none)(q:RelDs K H ds vs):RelH K (zm h p ds) (upd H p (.lst vs)):=⟨λa es z=>by
 by_cases w:a=p
 ·subst w;rw [ja] at z;cases z;exact⟨vs,ju,q.mono (.new e)⟩
 ·rw [zu w] at z;obtain⟨us,z1,z2⟩:=r a es z;exact⟨us,by rw [jq w];exact z1,z2.mono (.new e)⟩,r.tb.new e,r.dcN e⟩
theorem RelH.put (r:RelH K h H){p:Addr}{ds:List D}{vs us:List V}(e:H p=some (.lst us))(q:RelDs K H ds vs):RelH K (zm h p ds) (upd H p (.lst vs)):=⟨λa es z=>by
 by_cases w:a=p
 ·subst w;rw [ja] at z;cases z;exact⟨vs,ju,q.mono (.put e)⟩
 ·rw [zu w] at z;obtain⟨us,z1,z2⟩:=r a es z;exact⟨us,by rw [jq w];exact z1,z2.mono (.put e)⟩,r.tb.put e,λa c z=>(r.dc a c z).mono (.put e) λo w=>by
   obtain⟨u,w',d⟩:=(r.dc a c z).obj;rw [jq (Yg w' e (d.no.2.1 _))];exact w⟩
end
def Gv (h:HD)(p:Addr)(c:DC):HD:=⟨h.ls,λb=>if b=p then some c else h.dc b⟩
theorem yr {h:HD}{p:Addr}{c:DC}:(Gv h p c).dc p=some c:=if_pos rfl
theorem JZ {h:HD}{a p:Addr}{c:DC}(e:a≠p):(Gv h p c).dc a=h.dc a:=if_neg e
theorem Sub.newC {h:HD}{p:Addr}{c:DC}(e:h.dc p=none):Sub h (Gv h p c):=⟨λ_ _ e=>e,λa d q=>by
 rw [JZ];exact q;intro z;subst z;rw [e] at q;cases q⟩
section
variable {K:PySem.W.Frag}{h:HD}{H:Hp}
theorem RelH.newC (r:RelH K h H){p:Addr}{o:HO}{c:DC}(e:H p=none)(d:DRel K (upd H p o) p c):RelH K (Gv h p c) (upd H p o):=⟨(r.new e).ls,r.tb.new e,λa k z=>by
 by_cases w:a=p
 ·subst w;rw [yr] at z;cases z;exact d
 ·rw [JZ w] at z;exact r.dcN e a k z⟩
theorem RelH.putC (r:RelH K h H){p:Addr}{o o':HO}{c:DC}(e:H p=some o)(ob:DObj o)(d:DRel K (upd H p o') p c):RelH K (Gv h p c) (upd H p o'):=by
 obtain⟨d1,d2,d3,d4,d5⟩:=ob.no;have ne: ∀ {a:Addr} {u:HO},H a=some u->o≠u->a≠p:=λq n z=>by subst z;rw [e] at q;injection q with q;exact n q
 refine⟨λa ds z=> ?_,r.tb.mono (λa q u z=>by rw [jq (ne z (d4 q u))];exact z) (λa ps z=>by rw [jq (ne z (d5 ps))];exact z),λa k z=> ?_⟩
 ·obtain⟨vs,z1,z2⟩:=r a ds z;exact⟨vs,by rw [jq (ne z1 (d2 vs))];exact z1,z2.mono (.putD e ob)⟩
 ·by_cases w:a=p
  ·subst w;rw [yr] at z;cases z;exact d
  ·rw [JZ w] at z;exact(r.dc a k z).mono (.putD e ob) λu q=>by rw [jq w];exact q
end
abbrev SD:=List (Option D)
def RelS (K:PySem.W.Frag)(H:Hp)(σd:SD)(σ:St):Prop:=σd.length=σ.length/\ ∀ (i:Nat) (d:D),σd[i]? =some (some d)-> ∃v,σ[i]? =some (some v)/\RelD K H d v
theorem RelS.mono {K:PySem.W.Frag}{H H':Hp}{σd:SD}{σ:St}(r:RelS K H σd σ)(k:Kept H H'):RelS K H' σd σ:=⟨r.1,λi d e=>let ⟨v,a,b⟩:=r.2 i d e;⟨v,a,b.mono k⟩⟩
theorem RelS.set {K:PySem.W.Frag}{H:Hp}{σd:SD}{σ:St}{d:D}{v:V}(r:RelS K H σd σ)(q:RelD K H d v)(i:Nat):RelS K H (σd.set i (some d)) (σ.set i (some v)):=⟨by simp [r.1],λj e h=>by
 by_cases z:i=j
 ·subst z;rw [F4] at h ⊢
  by_cases hl:i<σd.length
  ·rw [if_pos rfl,if_pos hl] at h;rw [if_pos rfl,if_pos (by rw [<-r.1];exact hl)];cases h;exact⟨v,rfl,q⟩
  ·rw [if_pos rfl,if_neg hl] at h;cases h
 ·rw [S1 z] at h ⊢;exact r.2 j e h⟩
theorem RelS.clear1 {K:PySem.W.Frag}{H:Hp}{σd:SD}{σ:St}(r:RelS K H σd σ)(i:Nat):RelS K H (σd.set i none) (σ.set i none):=⟨by simp [r.1],λj e h=>by
 by_cases z:i=j
 ·subst z;rw [F4] at h;split at h
  ·split at h<;>cases h
  ·contradiction
 ·rw [S1 z] at h ⊢;exact r.2 j e h⟩
def jZ:List Nat->SD->SD
 | [],σ=>σ
 |j::js,σ=>jZ js (σ.set j none)
theorem RelS.clear {K:PySem.W.Frag}{H:Hp}: ∀ (js:List Nat) {σd:SD} {σ:St},RelS K H σd σ->RelS K H (jZ js σd) (zk js σ)
 | [],_,_,r=>r
 |j::js,_,_,r=>RelS.clear js (r.clear1 j)
abbrev KD:=D->HD->Prop
abbrev TED:=SD->HD->KD->Prop
abbrev TTD:=SD->HD->(Bool->HD->Prop)->Prop
abbrev TAD:=SD->HD->(List D->HD->Prop)->Prop
abbrev RD2:=D->D->HD->KD->Prop
abbrev RDn:=List D->HD->KD->Prop
structure EndsD where
 nx:SD->HD->Prop
 rt:KD
 bk:SD->HD->Prop:=λ_ _=>False
 ct:SD->HD->Prop:=λ_ _=>False
abbrev TSD:=EndsD->SD->HD->Prop
abbrev TGD:=D->SD->HD->(SD->HD->Prop)->Prop
def Pt (K:PySem.W.Frag)(H:Hp)(Qd:KD)(Q:VK):Prop:= ∀d v h' H',Kept H H'->RelH K h' H'->RelD K H' d v->Qd d h'->Q v H'
def LE (K:PySem.W.Frag)(t:TED):TE:=λσ H Q=> ∃σd h Qd,RelS K H σd σ/\RelH K h H/\t σd h Qd/\Pt K H Qd Q
def LT (K:PySem.W.Frag)(t:TTD):TT:=λσ H Q=> ∃σd h Qd,RelS K H σd σ/\RelH K h H/\t σd h Qd/\ ∀b h' H',Kept H H'->RelH K h' H'->Qd b h'->Q b H'
def LA (K:PySem.W.Frag)(t:TAD):TA:=λσ H Q=> ∃σd h Qd,RelS K H σd σ/\RelH K h H/\t σd h Qd/\ ∀ds vs h' H',Kept H H'->RelH K h' H'->RelDs K H' ds vs->Qd ds h'->Q vs H'
def LR (K:PySem.W.Frag)(f:RD2):R2:=λx y H Q=> ∃dx dy h Qd,RelD K H dx x/\RelD K H dy y/\RelH K h H/\f dx dy h Qd/\Pt K H Qd Q
def LC (K:PySem.W.Frag)(f:RDn):List V->Hp->VK->Prop:=λxs H Q=> ∃ds h Qd,RelDs K H ds xs/\RelH K h H/\f ds h Qd/\Pt K H Qd Q
def LG (K:PySem.W.Frag)(g:TGD):TG:=λv σ H Q=> ∃d σd h Qd,RelD K H d v/\RelS K H σd σ/\RelH K h H/\g d σd h Qd/\ ∀σd' h' σ' H',Kept H H'->RelS K H' σd' σ'->RelH K h' H'->Qd σd' h'->Q σ' H'
def LS (K:PySem.W.Frag)(t:TSD):TS:=λD₀ σ H=> ∃σd h Dd,RelS K H σd σ/\RelH K h H/\t Dd σd h/\
 (∀σd' h' σ' H',Kept H H'->RelS K H' σd' σ'->RelH K h' H'->Dd.nx σd' h'->D₀.nx σ' H')/\Pt K H Dd.rt D₀.rt/\
 (∀σd' h' σ' H',Kept H H'->RelS K H' σd' σ'->RelH K h' H'->Dd.bk σd' h'->D₀.bk σ' H')/\(∀σd' h' σ' H',Kept H H'->RelS K H' σd' σ'->RelH K h' H'->Dd.ct σd' h'->D₀.ct σ' H')
theorem PE.imp {X:Cx}{e:Expr}{t t':TE}(h:PE X e t)(i: ∀σ H Q,t' σ H Q->t σ H Q):PE X e t':=λpins s σ H Q I q=>h pins s σ H Q I (i σ H Q q)
theorem PT.imp {X:Cx}{e:Expr}{t t':TT}(h:PT X e t)(i: ∀σ H Q,t' σ H Q->t σ H Q):PT X e t':=λpins s σ H Q I q=>h pins s σ H Q I (i σ H Q q)
theorem PW.imp {X:Cx}{e:Expr}{t t':TT}(h:PW X e t)(i: ∀σ H Q,t' σ H Q->t σ H Q):PW X e t':=λwh pins s σ H Q I q=>h wh pins s σ H Q I (i σ H Q q)
theorem PA.imp {X:Cx}{e:List Expr}{t t':TA}(h:PA X e t)(i: ∀σ H Q,t' σ H Q->t σ H Q):PA X e t':=λpos pins s σ H Q I q=>h pos pins s σ H Q I (i σ H Q q)
theorem PS.imp {X:Cx}{e:Stmt}{t t':TS}(h:PS X e t)(i: ∀D σ H,t' D σ H->t D σ H):PS X e t':=λpins s σ H D I q=>h pins s σ H D I (i D σ H q)
theorem PSs.imp {X:Cx}{e:List Stmt}{t t':TS}(h:PSs X e t)(i: ∀D σ H,t' D σ H->t D σ H):PSs X e t':=λpins s σ H D I q=>h pins s σ H D I (i D σ H q)
theorem PG.imp {X:Cx}{e:Expr}{t t':TG}(h:PG X e t)(i: ∀v σ H Q,t' v σ H Q->t v σ H Q):PG X e t':=λpins s σ H v u Q I r q=>h pins s σ H v u Q I r (i v σ H Q q)
theorem OpR.imp {X:Cx}{f:Value->Value->Sem Value}{r r':R2}(h:OpR X f r)(i: ∀x y H Q,r' x y H Q->r x y H Q):OpR X f r':=λpins s σ H x y v u Q I a b q=>h pins s σ H x y v u Q I a b (i x y H Q q)
theorem CallR.imp {X:Cx}{f:Value}{r r':List V->Hp->VK->Prop}(h:CallR X f r)(i: ∀xs H Q,r' xs H Q->r xs H Q):CallR X f r':=λpins s σ H xs us Q I a q=>h pins s σ H xs us Q I a (i xs H Q q)
def UV (i:Nat):TED:=λσ h Q=> ∃d,σ[i]? =some (some d)/\Q d h
def dC (d:D):TED:=λ_ h Q=>Q d h
def dOp (f:RD2)(ta tb:TED):TED:=λσ h Q=>ta σ h λx h1=>tb σ h1 λy h2=>f x y h2 Q
def VO:TAD:=λ_ h Q=>Q [] h
def yt (ta:TED)(tr:TAD):TAD:=λσ h Q=>ta σ h λx h1=>tr σ h1 λxs h2=>Q (x::xs) h2
def Ni (t:TAD):TED:=λσ h Q=>t σ h λds h1=>ds.length<=sizeLine/\Q (.tup ds) h1
def DF (t:TAD):TED:=λσ h Q=>t σ h λds h1=>ds.length<=sizeLine/\ ∀p,h1 p=none->Q (.lst p) (zm h1 p ds)
def dCB (r:RDn)(t:TAD):TED:=λσ h Q=>t σ h λds h1=>r ds h1 Q
def vS (t:TED):TTD:=λσ h Q=>t σ h λx h1=> ∃k,x= .bl k/\Q k h1
def vT (r r':RD2)(ta tb tc:TED):TED:=λσ h Q=>ta σ h λx h1=>tb σ h1 λy h2=>r x y h2 λz h3=> ∃k,z= .bl k/\
 (if k=true then tc σ h3 λw h4=>r' y w h4 Q else Q (.bl false) h3)
def Pu (t u:TTD):TTD:=λσ h Q=>t σ h λc h1=>if c=true then u σ h1 Q else Q false h1
def RM (t u:TTD):TTD:=λσ h Q=>t σ h λc h1=>if c=true then Q true h1 else u σ h1 Q
def UW (t:TTD):TTD:=λσ h Q=>t σ h λc h1=>Q (!c) h1
def UX (ta tb:TED):TED:=λσ h Q=>ta σ h λx h1=> ∃c,x= .bl c/\if c=true then tb σ h1 Q else Q (.bl false) h1
def NK (ta tb:TED):TED:=λσ h Q=>ta σ h λx h1=> ∃c,x= .bl c/\if c=true then Q (.bl true) h1 else tb σ h1 Q
def UY (ta:TED):TED:=λσ h Q=>ta σ h λx h1=> ∃c,x= .bl c/\Q (.bl (!c)) h1
section
variable {K:PySem.W.Frag}
theorem RN (i:Nat): ∀σ H Q,LE K (UV i) σ H Q->BB i σ H Q:=λσ H Q ⟨σd,h,Qd,rs,rh,⟨d,e,q⟩,p⟩=>let ⟨v,e1,e2⟩:=rs.2 i d e;⟨v,e1,p d v h H (.refl H) rh e2 q⟩
theorem RO {d:D}{v:V}(r: ∀H,RelD K H d v): ∀σ H Q,LE K (dC d) σ H Q->tC v σ H Q:=λσ H Q ⟨σd,h,Qd,rs,rh,q,p⟩=>p d v h H (.refl H) rh (r H) q
variable {H:Hp}
theorem jO {H1:Hp}{Qd:KD}{Q:VK}(p:Pt K H Qd Q)(k:Kept H H1):Pt K H1 Qd Q:=λd v h' H' k'=>p d v h' H' (k.trans k')
variable {ta:TED}
theorem LE.bind {σ:St}{σd:SD}{h:HD}{kd:KD}{k:VK}(rs:RelS K H σd σ)(rh:RelH K h H)(t:ta σd h kd)(f: ∀d v h' H',Kept H H'->RelS K H' σd σ->RelH K h' H'->RelD K H' d v->kd d h'->k v H'):LE K ta σ H k:=
 ⟨σd,h,kd,rs,rh,t,λd v h' H' kp r1 r2 q=>f d v h' H' kp (rs.mono kp) r1 r2 q⟩
theorem LT.bind {ta:TTD}{σ:St}{σd:SD}{h:HD}{kd:Bool->HD->Prop}{k:Bool->Hp->Prop}(rs:RelS K H σd σ)(rh:RelH K h H)(t:ta σd h kd)(f: ∀b h' H',Kept H H'->RelS K H' σd σ->RelH K h' H'->kd b h'->k b H'):LT K ta σ H k:=
 ⟨σd,h,kd,rs,rh,t,λb h' H' kp r1 q=>f b h' H' kp (rs.mono kp) r1 q⟩
theorem LA.bind {ta:TAD}{σ:St}{σd:SD}{h:HD}{kd:List D->HD->Prop}{k:List V->Hp->Prop}(rs:RelS K H σd σ)(rh:RelH K h H)(t:ta σd h kd)(f: ∀ds vs h' H',Kept H H'->RelS K H' σd σ->RelH K h' H'->RelDs K H' ds vs->kd ds h'->k vs H'):LA K ta σ H k:=
 ⟨σd,h,kd,rs,rh,t,λd v h' H' kp r1 r2 q=>f d v h' H' kp (rs.mono kp) r1 r2 q⟩
variable {tb:TED}
theorem Pv {f:RD2}: ∀σ H Q,LE K (dOp f ta tb) σ H Q->tOp (LR K f) (LE K ta) (LE K tb) σ H Q:=λσ H Q ⟨σd,h,Qd,rs,rh,t,p⟩=>
 LE.bind rs rh t λd v h1 H1 k1 rs1 rh1 r1 t1=>LE.bind rs1 rh1 t1 λd2 v2 h2 H2 k2 rs2 rh2 r2 t2=>⟨d,d2,h2,Qd,r1.mono k2,r2,rh2,t2,jO p (k1.trans k2)⟩
theorem RQ: ∀σ H Q,LA K VO σ H Q->BP σ H Q:=λσ H Q ⟨σd,h,Qd,rs,rh,t,p⟩=>p [] [] h H (.refl H) rh rfl t
theorem Pw {tr:TAD}: ∀σ H Q,LA K (yt ta tr) σ H Q->Rs (LE K ta) (LA K tr) σ H Q:=λσ H Q ⟨σd,h,Qd,rs,rh,t,p⟩=>
 LE.bind rs rh t λd v h1 H1 k1 rs1 rh1 r1 t1=>LA.bind rs1 rh1 t1 λds vs h2 H2 k2 rs2 rh2 r2 t2=>p _ _ h2 H2 (k1.trans k2) rh2 (.cons (r1.mono k2) r2) t2
theorem RR {t:TAD}: ∀σ H Q,LE K (Ni t) σ H Q->BQ (LA K t) σ H Q:=λσ H Q ⟨σd,h,Qd,rs,rh,t,p⟩=>
 LA.bind rs rh t λds vs h1 H1 k1 rs1 rh1 r1 ⟨z,q⟩=>⟨by rw [<-r1.length];exact z,λa ha=>p (.tup ds) (.ref a) h1 _ (k1.trans (.new ha)) (rh1.new ha) ⟨a,vs,rfl,ju,r1.mono (.new ha)⟩ q⟩
theorem RS {t:TAD}: ∀σ H Q,LE K (DF t) σ H Q->BR (LA K t) σ H Q:=λσ H Q ⟨σd,h,Qd,rs,rh,t,p⟩=>
 LA.bind rs rh t λds vs h1 H1 k1 rs1 rh1 r1 ⟨z,q⟩=>⟨by rw [<-r1.length];exact z,λa ha=>p (.lst a) (.ref a) _ _ (k1.trans (.new ha)) (rh1.newL ha r1) ⟨rfl,vs,ju⟩ (q a (rh1.free ha))⟩
theorem RT {r:RDn}{t:TAD}: ∀σ H Q,LE K (dCB r t) σ H Q->tCB (LC K r) (LA K t) σ H Q:=λσ H Q ⟨σd,h,Qd,rs,rh,t,p⟩=>
 LA.bind rs rh t λds vs h1 H1 k1 rs1 rh1 r1 q=>⟨ds,h1,Qd,r1,rh1,q,jO p k1⟩
theorem UZ {t:TED}: ∀σ H Q,LT K (vS t) σ H Q->GZ (LE K t) σ H Q:=λσ H Q ⟨σd,h,Qd,rs,rh,t,p⟩=>
 LE.bind rs rh t λd v h1 H1 k1 rs1 rh1 r1 ⟨k,e,q⟩=>by subst e;exact⟨k,r1,p k h1 H1 k1 rh1 q⟩
theorem QD {t:TED}: ∀σ H Q,LT K (vS t) σ H Q->tB (LE K t) σ H Q:=λσ H Q ⟨σd,h,Qd,rs,rh,t,p⟩=>
 LE.bind rs rh t λd v h1 H1 k1 rs1 rh1 r1 ⟨k,e,q⟩=>by subst e;exact⟨k,r1,p k h1 H1 k1 rh1 q⟩
theorem Vh {r r':RD2}{tc:TED}: ∀σ H Q,LE K (vT r r' ta tb tc) σ H Q->UB (LR K r) (LR K r') (LE K ta) (LE K tb) (LE K tc) σ H Q:=λσ H Q ⟨σd,h,Qd,rs,rh,t,p⟩=>
 LE.bind rs rh t λd v h1 H1 k1 rs1 rh1 r1 t1=>LE.bind rs1 rh1 t1 λd2 v2 h2 H2 k2 rs2 rh2 r2 t2=>⟨d,d2,h2,_,r1.mono k2,r2,rh2,t2,λd3 v3 h3 H3 k3 rh3 r3 ⟨k,e,q⟩=>by
  subst e;refine⟨k,r3,?_⟩;cases k with
  |true=>
   rw [if_pos rfl] at q ⊢;exact LE.bind (rs2.mono k3) rh3 q λd4 v4 h4 H4 k4 rs4 rh4 r4 t4=>⟨d2,d4,h4,Qd,(r2.mono k3).mono k4,r4,rh4,t4,jO p (k1.trans (k2.trans (k3.trans k4)))⟩
  |false=>
   rw [if_neg G6] at q ⊢;exact p (.bl false) _ h3 H3 (k1.trans (k2.trans k3)) rh3 rfl q⟩
theorem RU {t u:TTD}: ∀σ H Q,LT K (Pu t u) σ H Q->BC (LT K t) (LT K u) σ H Q:=λσ H Q ⟨σd,h,Qd,rs,rh,t,p⟩=>
 LT.bind rs rh t λb h1 H1 k1 rs1 rh1 q=>by
  cases b with
  |true=>rw [if_pos rfl] at q ⊢;exact⟨σd,h1,Qd,rs1,rh1,q,λb h' H' k=>p b h' H' (k1.trans k)⟩
  |false=>rw [if_neg G6] at q ⊢;exact p _ _ _ k1 rh1 q
theorem NL {t u:TTD}: ∀σ H Q,LT K (RM t u) σ H Q->tOr (LT K t) (LT K u) σ H Q:=λσ H Q ⟨σd,h,Qd,rs,rh,t,p⟩=>
 LT.bind rs rh t λb h1 H1 k1 rs1 rh1 q=>by
  cases b with
  |true=>rw [if_pos rfl] at q ⊢;exact p _ _ _ k1 rh1 q
  |false=>rw [if_neg G6] at q ⊢;exact⟨σd,h1,Qd,rs1,rh1,q,λb h' H' k=>p b h' H' (k1.trans k)⟩
theorem RV {t:TTD}: ∀σ H Q,LT K (UW t) σ H Q->BD (LT K t) σ H Q:=λσ H Q ⟨σd,h,Qd,rs,rh,t,p⟩=>
 LT.bind rs rh t λb h1 H1 k1 rs1 rh1 q=>p _ _ _ k1 rh1 q
theorem RW: ∀σ H Q,LE K (UX ta tb) σ H Q->DW (LE K ta) (LE K tb) σ H Q:=λσ H Q ⟨σd,h,Qd,rs,rh,t,p⟩=>
 LE.bind rs rh t λd v h1 H1 k1 rs1 rh1 r1 ⟨c,e,q⟩=>by
  subst e;refine⟨c,r1,?_⟩;cases c with
  |true=>rw [if_pos rfl] at q ⊢;exact⟨σd,h1,Qd,rs1,rh1,q,jO p k1⟩
  |false=>rw [if_neg G6] at q ⊢;exact p (.bl false) _ _ _ k1 rh1 rfl q
theorem NM: ∀σ H Q,LE K (NK ta tb) σ H Q->BE (LE K ta) (LE K tb) σ H Q:=λσ H Q ⟨σd,h,Qd,rs,rh,t,p⟩=>
 LE.bind rs rh t λd v h1 H1 k1 rs1 rh1 r1 ⟨c,e,q⟩=>by
  subst e;refine⟨c,r1,?_⟩;cases c with
  |true=>rw [if_pos rfl] at q ⊢;exact p (.bl true) _ _ _ k1 rh1 rfl q
  |false=>rw [if_neg G6] at q ⊢;exact⟨σd,h1,Qd,rs1,rh1,q,jO p k1⟩
theorem RX: ∀σ H Q,LE K (UY ta) σ H Q->DY (LE K ta) σ H Q:=λσ H Q ⟨σd,h,Qd,rs,rh,t,p⟩=>
 LE.bind rs rh t λd v h1 H1 k1 rs1 rh1 r1 ⟨c,e,q⟩=>by subst e;exact⟨c,r1,p (.bl (!c)) _ _ _ k1 rh1 rfl q⟩
end
abbrev QE (X:Cx)(e:Expr)(t:TED):Prop:=PE X e (LE X.K t)
abbrev QT (X:Cx)(e:Expr)(t:TTD):Prop:=PT X e (LT X.K t)
abbrev QW (X:Cx)(e:Expr)(t:TTD):Prop:=PW X e (LT X.K t)
abbrev QA (X:Cx)(es:List Expr)(t:TAD):Prop:=PA X es (LA X.K t)
abbrev QS (X:Cx)(s:Stmt)(t:TSD):Prop:=PS X s (LS X.K t)
abbrev QSs (X:Cx)(s:List Stmt)(t:TSD):Prop:=PSs X s (LS X.K t)
abbrev QG (X:Cx)(e:Expr)(t:TGD):Prop:=PG X e (LG X.K t)
abbrev OpQ (X:Cx)(f:Value->Value->Sem Value)(r:RD2):Prop:=OpR X f (LR X.K r)
abbrev wG (X:Cx)(f:Value)(r:RDn):Prop:=CallR X f (LC X.K r)
section
variable {X:Cx}{a b c e:Expr}{es zP:List Expr}{ta tb tc te:TED}{t u:TAD}{tt tu:TTD}{pos:Pos}{f r r':RD2}
theorem qv (i:Nat){x:Str}(hN:X.N[i]? =some x:=by rfl)(hv:Vis X.env.scope x:=by first|exact Or.inl rfl|exact Or.inr (Or.inl rfl)|exact Or.inr (Or.inr rfl))(hd:(x==("__debug__" :Str))=false:=by decide)
 (hcd:(x==("__classdict__" :Str))=false:=by decide):QE X (.Name x pos) (UV i):=(DR hN hv hd hcd).imp (RN i)
variable {j:Nat}
theorem Cp {i:Int}:QE X (.Constant (.int i) j pos) (dC (.int i)):=pe_int.imp (RO λ_=>rfl)
theorem qbl {i:Bool}:QE X (.Constant (.bool i) j pos) (dC (.bl i)):=pe_bl.imp (RO λ_=>rfl)
theorem Cq:QE X (.Constant .none j pos) (dC .non):=pe_non.imp (RO λ_=>rfl)
theorem Cr {x:Str}:QE X (.Constant (.str x) j pos) (dC (.str x)):=pe_str.imp (RO λ_=>rfl)
theorem NN {x:Str}{i:Int}{tk:Tok}(hg:Gl X x)(hm:X.mg x=some (.int i tk))(hd:(x==("__debug__" :Str))=false:=by decide):QE X (.Name x pos) (dC (.int i)):=
 (GP (v:= .int i) hg hm ⟨tk,rfl⟩ hd).imp (RO λ_=>rfl)
theorem qop {op:Operator}(ho:OpQ X (binaryOp op) f)(ha:QE X a ta)(hb:QE X b tb):QE X (.BinOp a op b pos) (dOp f ta tb):=(Nr ho ha hb).imp Pv
variable {op:CmpOp}
theorem Cs (ho:OpQ X (compareOp op) f)(ha:QE X a ta)(hb:QE X b tb)(hm:behindInMarks op b=false):QE X (.Compare a [op] [b] pos) (dOp f ta tb):=(GY ho ha hb hm).imp Pv
theorem NO (ho:OpQ X (compareOp op) f)(ha:QE X a ta)(hb:QE X b tb)(hm:behindInMarks op b=false):QT X (.Compare a [op] [b] pos) (vS (dOp f ta tb)):=
 (Pa ho ha hb hm).imp λσ H Q h=>by
  obtain⟨σd,h,Qd,rs,rh,t,p⟩:=UZ (t:=dOp f ta tb) σ H Q h;exact Pv σ H _ ⟨σd,h,Qd,rs,rh,t,p⟩
theorem RY {op':CmpOp}(ho:OpQ X (compareOp op) r)(ho':OpQ X (compareOp op') r')(ha:QE X a ta)(hb:QE X b tb)(hc:QE X c tc)(hm:lastMarks [op,op'] [b,c]=false:=by with_unfolding_all rfl):
 QE X (.Compare a [op,op'] [b,c] pos) (vT r r' ta tb tc):=(Qq ho ho' ha hb hc hm).imp Vh
theorem Px {op':CmpOp}(ho:OpQ X (compareOp op) r)(ho':OpQ X (compareOp op') r')(ha:QE X a ta)(hb:QE X b tb)(hc:QE X c tc)(hm:lastMarks [op,op'] [b,c]=false:=by with_unfolding_all rfl):
 QT X (.Compare a [op,op'] [b,c] pos) (vS (vT r r' ta tb tc)):=(Qr ho ho' ha hb hc hm).imp λσ H Q h=>by
 obtain⟨σd,h,Qd,rs,rh,t,p⟩:=UZ (t:=vT r r' ta tb tc) σ H Q h;exact Vh σ H _ ⟨σd,h,Qd,rs,rh,t,p⟩
theorem NP (ha:QE X a ta)(he: ∀whole,isTrue a X.env whole=(do let v <-whole;standAt a.pos;holding [v] (truthy v)):=by intro _;rfl):QT X a (vS ta):=(DS ha he).imp QD
theorem NQ (ha:QT X a tt):QW X (.BoolOp .And [a] pos) tt:=GR ha
theorem Ct (ha:QT X a tt):QW X (.BoolOp .Or [a] pos) tt:=DT ha
theorem NR (ha:QT X a tt)(hb:QW X (.BoolOp .And (b::zP) pos) tu):QW X (.BoolOp .And (a::b::zP) pos) (Pu tt tu):=(DU ha hb).imp RU
theorem Cu (ha:QT X a tt)(hb:QW X (.BoolOp .Or (b::zP) pos) tu):QW X (.BoolOp .Or (a::b::zP) pos) (RM tt tu):=(Nk ha hb).imp NL
theorem NS (ha:QT X a tt):QT X (.UnaryOp .Not a pos) (UW tt):=(DV ha).imp RV
theorem Cv {op:BoolOp}(ha:QE X a ta):QE X (.BoolOp op [a] pos) ta:=DZ ha
theorem Cw (ha:QE X a ta)(hb:QE X (.BoolOp .And (b::zP) pos) tb):QE X (.BoolOp .And (a::b::zP) pos) (UX ta tb):=(Ra ha hb).imp RW
theorem qor (ha:QE X a ta)(hb:QE X (.BoolOp .Or (b::zP) pos) tb):QE X (.BoolOp .Or (a::b::zP) pos) (NK ta tb):=(Nl ha hb).imp NM
theorem Cy (ha:QE X a ta):QE X (.UnaryOp .Not a pos) (UY ta):=(Rb ha).imp RX
theorem RZ:QA X [] VO:=pa_nil.imp RQ
theorem Py (ha:QE X e te)(hr:QA X es t)(hs:starEach (e::es) X.env=(false,eval e X.env)::starEach es X.env:=by rfl):QA X (e::es) (yt te t):=(yK ha hr hs).imp Pw
theorem Cz {k:Nat}(h:QA X es t):QE X (.Tuple es k pos) (Ni t):=(Rt h).imp RR
theorem CA (h:QA X es t):QE X (.List es pos) (DF t):=(Ru h).imp RS
end
def VP:TSD:=λD σ h=>D.nx σ h
def Xa (t u:TSD):TSD:=λD σ h=>t {D with nx:=u D} σ h
def Pz (te:TED):TSD:=λD σ h=>te σ h λ_ h1=>D.nx σ h1
def Uj (te:TED):TSD:=λD σ h=>te σ h D.rt
def DG (c:TTD)(t u:TSD):TSD:=λD σ h=>c σ h λb h1=>if b=true then t D σ h1 else u D σ h1
def PB (i:Nat)(te:TED):TSD:=λD σ h=>te σ h λd h1=>D.nx (σ.set i (some d)) h1
def NT (te:TED)(g:TGD):TSD:=λD σ h=>te σ h λx h1=>g x σ h1 D.nx
def NU (i j:Nat)(ta:TAD):TSD:=λD σ h=>ta σ h λds h1=> ∃v w,ds= [v,w]/\D.nx ((σ.set i (some v)).set j (some w)) h1
def gN (i:Nat):TGD:=λd σ h Q=>Q (σ.set i (some d)) h
def gT2 (i j:Nat):TGD:=λd σ h Q=> ∃x y,d= .tup [x,y]/\Q ((σ.set i (some x)).set j (some y)) h
section
variable {K:PySem.W.Frag}
theorem LS.of {t:TSD}{D₀:Ends}{σ:St}{H:Hp}{σd:SD}{h:HD}{Dd:EndsD}(rs:RelS K H σd σ)(rh:RelH K h H)(q:t Dd σd h)
 (nx: ∀σd' h' σ' H',Kept H H'->RelS K H' σd' σ'->RelH K h' H'->Dd.nx σd' h'->D₀.nx σ' H')(rt:Pt K H Dd.rt D₀.rt)
 (bk: ∀σd' h' σ' H',Kept H H'->RelS K H' σd' σ'->RelH K h' H'->Dd.bk σd' h'->D₀.bk σ' H')(ct: ∀σd' h' σ' H',Kept H H'->RelS K H' σd' σ'->RelH K h' H'->Dd.ct σd' h'->D₀.ct σ' H'):LS K t D₀ σ H:=⟨σd,h,Dd,rs,rh,q,nx,rt,bk,ct⟩
theorem PC: ∀D σ H,LS K VP D σ H->Rc D σ H:=λD σ H ⟨σd,h,Dd,rs,rh,q,nx,_⟩=>nx σd h σ H (.refl H) rs rh q
theorem Ma {t u:TSD}: ∀D σ H,LS K (Xa t u) D σ H->BF (LS K t) (LS K u) D σ H:=λD σ H ⟨σd,h,Dd,rs,rh,q,nx,rt,bk,ct⟩=>
 LS.of rs rh q (λσd' h' σ' H' k rs' rh' q'=>⟨σd',h',Dd,rs',rh',q',λa b c d k'=>nx a b c d (k.trans k'),jO rt k,λa b c d k'=>bk a b c d (k.trans k'),λa b c d k'=>ct a b c d (k.trans k')⟩) rt bk ct
variable {te:TED}
theorem PD: ∀D σ H,LS K (Pz te) D σ H->Re (LE K te) D σ H:=λD σ H ⟨σd,h,Dd,rs,rh,q,nx,rt,bk,ct⟩=>
 LE.bind rs rh q λd v h1 H1 k1 rs1 rh1 r1 q1=>nx _ _ _ _ k1 rs1 rh1 q1
theorem Mb: ∀D σ H,LS K (Uj te) D σ H->BG (LE K te) D σ H:=λD σ H ⟨σd,h,Dd,rs,rh,q,nx,rt,bk,ct⟩=>⟨σd,h,Dd.rt,rs,rh,q,rt⟩
theorem NV {c:TTD}{t u:TSD}: ∀D σ H,LS K (DG c t u) D σ H->BH (LT K c) (LS K t) (LS K u) D σ H:=λD σ H ⟨σd,h,Dd,rs,rh,q,nx,rt,bk,ct⟩=>
 LT.bind rs rh q λb h1 H1 k rs1 rh1 q1=>by
  cases b with
  |true=>rw [if_pos rfl] at q1 ⊢;exact⟨σd,h1,Dd,rs1,rh1,q1,λa b c d k'=>nx a b c d (k.trans k'),jO rt k,λa b c d k'=>bk a b c d (k.trans k'),λa b c d k'=>ct a b c d (k.trans k')⟩
  |false=>rw [if_neg G6] at q1 ⊢;exact⟨σd,h1,Dd,rs1,rh1,q1,λa b c d k'=>nx a b c d (k.trans k'),jO rt k,λa b c d k'=>bk a b c d (k.trans k'),λa b c d k'=>ct a b c d (k.trans k')⟩
theorem Gw {i:Nat}: ∀D σ H,LS K (PB i te) D σ H->GU (LE K te) (wF i) D σ H:=λD σ H ⟨σd,h,Dd,rs,rh,q,nx,rt,bk,ct⟩=>
 LE.bind rs rh q λd v h1 H1 k1 rs1 rh1 r1 q1=>nx _ _ _ _ k1 (rs1.set r1 i) rh1 q1
theorem Mc {g:TGD}: ∀D σ H,LS K (NT te g) D σ H->GU (LE K te) (LG K g) D σ H:=λD σ H ⟨σd,h,Dd,rs,rh,q,nx,rt,bk,ct⟩=>
 LE.bind rs rh q λd v h1 H1 k1 rs1 rh1 r1 q1=>⟨d,σd,h1,_,r1,rs1,rh1,q1,λa b c e k'=>nx a b c e (k1.trans k')⟩
theorem Md {i j:Nat}{ta:TAD}: ∀D σ H,LS K (NU i j ta) D σ H->BJ i j (LA K ta) D σ H:=λD σ H ⟨σd,h,Dd,rs,rh,q,nx,rt,bk,ct⟩=>
 LA.bind rs rh q λds vs h1 H1 k1 rs1 rh1 r1 ⟨x,y,e,q1⟩=>by
  subst e;obtain⟨v,r,e,r2,r3⟩:=(show ∃v r,vs=v::r/\RelD K H1 x v/\RelDs K H1 [y] r from r1);obtain⟨w,r',e',r4,r5⟩:=(show ∃v r',r=v::r'/\RelD K H1 y v/\RelDs K H1 [] r' from r3);cases (show r'= [] from r5);subst e' e;exact⟨v,w,rfl,nx _ _ _ _ k1 ((rs1.set r2 i).set r4 j) rh1 q1⟩
theorem PF (i:Nat): ∀v σ H Q,LG K (gN i) v σ H Q->wF i v σ H Q:=λv σ H Q ⟨d,σd,h,Qd,r,rs,rh,q,p⟩=>p _ _ _ _ (.refl H) (rs.set r i) rh q
theorem wj {H:Hp}{x y:D}{vs:List V}(r:RelDs K H [x,y] vs): ∃v w,vs= [v,w]/\RelD K H x v/\RelD K H y w:=by
 obtain⟨v,r1,e,r2,r3⟩:=(show ∃v r,vs=v::r/\RelD K H x v/\RelDs K H [y] r from r);obtain⟨w,z,e',r4,r5⟩:=(show ∃v z,r1=v::z/\RelD K H y v/\RelDs K H [] z from r3);cases (show z= [] from r5);subst e' e;exact⟨v,w,rfl,r2,r4⟩
theorem jy {H:Hp}{x:D}{vs:List V}(r:RelDs K H [x] vs): ∃v,vs= [v]/\RelD K H x v:=by
 obtain⟨v,r1,e,r2,r3⟩:=(show ∃v r,vs=v::r/\RelD K H x v/\RelDs K H [] r from r);cases (show r1= [] from r3);exact⟨v,e,r2⟩
theorem Me (i j:Nat): ∀v σ H Q,LG K (gT2 i j) v σ H Q->Np K 2 (Uu (wF i) (Uu (wF j) No)) v σ H Q:=λv σ H Q ⟨d,σd,h,Qd,r,rs,rh,⟨x,y,e,q⟩,p⟩=>by
 subst e;obtain⟨a,vs,e,hH,r1⟩:=(show ∃a vs,v= .ref a/\H a=some (.tup vs)/\RelDs K H [x,y] vs from r);obtain⟨v1,v2,e1,r2,r3⟩:=wj r1;subst e e1;exact⟨a,[v1,v2],rfl,SqT.of hH,rfl,v1,[v2],rfl,v2,[],rfl,rfl,p _ _ _ _ (.refl H) ((rs.set r2 i).set r3 j) rh q⟩
end
section
variable {X:Cx}{st:Stmt}{sts:List Stmt}{t u:TSD}{e:Expr}{te:TED}{pos:Pos}
theorem Mf:QSs X [] VP:=pss_nil.imp PC
theorem PH (h1:QS X st t)(h2:QSs X sts u):QSs X (st::sts) (Xa t u):=(Qp h1 h2).imp Ma
theorem Mg (h1:QS X st t):QSs X [st] t:=GS h1
theorem NW (he:QE X e te)(hs:swapsWith e none pos.line X.env=pure false:=by rfl):QS X (.Expr e pos) (Pz te):=(GT he hs).imp PD
theorem CB (he:QE X e te):QS X (.Return (some e) pos) (Uj te):=(Rf he).imp Mb
theorem CC {c:Expr}{a b:List Stmt}{tc:TTD}(hc:QT X c tc)(ha:QSs X a t)(hb:QSs X b u):QS X (.If c a b pos) (DG tc t u):=(Nm hc ha hb).imp NV
variable {i:Nat}{x:Str}
theorem CF {pos':Pos}(hN:X.N.Nodup)(hi:X.N[i]? =some x)(hx:Loc X.env.scope x)(he:QE X e te)(hs:swapsWith e (some (.Name x pos')) pos.line X.env=pure false:=by rfl)
 (hf:X.fn x=true\/X.env.scope.names.lookup x=some .local:=by first|exact .inl rfl|exact .inr rfl|assumption):QS X (.Assign [.Name x pos'] e pos) (PB i te):=(Ri hN hi hx he hs hf).imp Gw
theorem PJ (hN:X.N.Nodup)(hi:X.N[i]? =some x)(hx:Loc X.env.scope x)(hf:X.fn x=true\/X.env.scope.names.lookup x=some .local:=by first|exact .inl rfl|exact .inr rfl|assumption):QG X (.Name x pos) (gN i):=
 (yJ hN hi hx hf).imp (PF i)
theorem Mh {j:Nat}{y:Str}{p1 p2:Pos}{k:Nat}(hc:X.calm=true)(hN:X.N.Nodup)(hi:X.N[i]? =some x)(hj:X.N[j]? =some y)(hx:Loc X.env.scope x)(hy:Loc X.env.scope y)
 (hf:X.fn x=true\/X.env.scope.names.lookup x=some .local:=by first|exact .inl rfl|exact .inr rfl|assumption)(hf2:X.fn y=true\/X.env.scope.names.lookup y=some .local:=by first|exact .inl rfl|exact .inr rfl|assumption):
 QG X (.Tuple [.Name x p1,.Name y p2] k pos) (gT2 i j):=(Gr hc (vz (yJ hN hi hx hf) (vz (yJ hN hj hy hf2) Uv))).imp (Me i j)
theorem CG {tg:Expr}{g:TGD}(he:QE X e te)(hg:QG X tg g)(hs:swapsWithSole [tg] e pos.line X.env=pure false:=by rfl)(hsw:swappedStores [tg] e X.env=pure none:=by rfl)
 (h1:(assignEach [tg] X.env).map (·.2)= [assign tg X.env]:=by rfl):QS X (.Assign [tg] e pos) (NT te g):=(Rh he hg hs hsw h1).imp Mc
theorem CH {j:Nat}{y:Str}{a b:Expr}{ta:TAD}{px py pt:Pos}{kt k2 pt2}(hc:X.calm=true)(hN:X.N.Nodup)(hi:X.N[i]? =some x)(hj:X.N[j]? =some y)(hij:i≠j)
 (hx:X.env.scope.names.lookup x=some .local)(hy:X.env.scope.names.lookup y=some .local)(ha:QA X [a,b] ta)
 (hw:swappedStores [.Tuple [.Name x px,.Name y py] kt pt] (.Tuple [a,b] k2 pt2) X.env=pure (some [x,y]))
 (hs:swapsWithSole [.Tuple [.Name x px,.Name y py] kt pt] (.Tuple [a,b] k2 pt2) pos.line X.env=pure false:=by rfl):
 QS X (.Assign [.Tuple [.Name x px,.Name y py] kt pt] (.Tuple [a,b] k2 pt2) pos) (NU i j ta):=(Rj hc hN hi hj hij hx hy ha hw hs).imp Md
end
abbrev ItD:=HD->Option (List D)
def DH (K:PySem.W.Frag)(H:Hp)(j:ItD)(J:It):Prop:= ∀H' h',Kept H H'->RelH K h' H'-> ∀ds,j h'=some ds-> ∀i:Nat,
 (∀d,ds[i]? =some d->J.go i H'/\ ∀x H'',J.yld i H' x H''->Kept H' H''/\RelH K h' H''/\RelD K H'' d x)/\(ds.length<=i->J.stop i H')
abbrev TID:=SD->HD->(ItD->HD->Prop)->Prop
def LI (K:PySem.W.Frag)(t:TID):TI:=λσ H R=> ∃σd h Rd,RelS K H σd σ/\RelH K h H/\t σd h Rd/\ ∀j J h' H',Kept H H'->RelH K h' H'->DH K H' j J->Rd j h'->R J H'
abbrev QI (X:Cx)(tg iter:Expr)(t:TID):Prop:=PI X tg iter (LI X.K t)
theorem PI.imp {X:Cx}{tg e:Expr}{t t':TI}(h:PI X tg e t)(i: ∀σ H R,t' σ H R->t σ H R):PI X tg e t':=λpins s σ H R I q=>h pins s σ H R I (i σ H R q)
def iL (te:TED):TID:=λσ h R=>te σ h λx h1=> ∃a,x= .lst a/\R (λh=>h a) h1
def iR1 (ta:TAD):TID:=λσ h R=>ta σ h λds h1=> ∃n:Int,ds= [.int n]/\ -(2^62)<=n/\n<2^62/\R (λ_=>some ((List.range n.toNat).map λ(k:Nat)=>D.int (k:Int))) h1
def iR2 (ta:TAD):TID:=λσ h R=>ta σ h λds h1=> ∃m n:Int,ds= [.int m,.int n]/\(-(2^62)<=m/\m<2^62/\ -(2^62)<=n/\n<2^62)/\R (λ_=>some ((List.range (n-m).toNat).map λ(k:Nat)=>D.int (m+(k:Int)))) h1
section
variable {K:PySem.W.Frag}
theorem ZY (H:Hp)(a:Addr):DH K H (λh=>h a) (Itl K a):=λH' h' k rh ds e i=>by
 obtain⟨vs,hv,r⟩:=rh a ds e;refine⟨λd hd=> ?_,λhl=>⟨vs,SqL.of hv,by rw [<-r.length];exact hl⟩⟩;obtain⟨v,e1,e2⟩:=r.get hd;refine⟨⟨vs,v,SqL.of hv,e1⟩,λx H'' ⟨eH,hx⟩=> ?_⟩;subst eH;have:=hx vs (SqL.of hv);rw [e1] at this;cases this;exact⟨.refl _,rh,e2⟩
theorem QF {H:Hp}{a:Addr}{vs:List V}{ds:List D}(hv:H a=some (.tup vs))(r:RelDs K H ds vs):DH K H (λ_=>some ds) (Itt K a):=λH' h' k rh ds' e i=>by
 cases e;have hv':=k.tup _ _ hv;have r':=r.mono k;refine⟨λd hd=> ?_,λhl=>⟨vs,SqT.of hv',by rw [<-r.length];exact hl⟩⟩;obtain⟨v,e1,e2⟩:=r'.get hd;refine⟨⟨vs,v,SqT.of hv',e1⟩,λx H'' ⟨eH,hx⟩=> ?_⟩;subst eH;have:=hx vs (SqT.of hv');rw [e1] at this;cases this;exact⟨.refl _,rh,e2⟩
theorem JK (H:Hp)(lo:Int)(n:Nat)(ds:List D)(hd:ds=(List.range n).map λ(k:Nat)=>D.int (lo+(k:Int))):DH K H (λ_=>some ds) (Itr lo n):=λH' h' k rh ds' e i=>by
 cases e;subst hd;refine⟨λd hd=> ?_,λhl=>(show n<=i by simpa using hl)⟩;rw [P1] at hd;have hi:i<n:=by
  by_cases z:i<n
  ·exact z
  ·rw [B2 (by simpa using z)] at hd;cases hd
 rw [L6 hi] at hd;cases hd;refine⟨hi,λx H'' ⟨eH,hx⟩=> ?_⟩;subst eH hx;exact⟨.refl _,rh,rfl⟩
theorem PK {te:TED}: ∀σ H R,LI K (iL te) σ H R->Rk K (LE K te) σ H R:=λσ H R ⟨σd,h,Rd,rs,rh,q,p⟩=>
 LE.bind rs rh q λd v h1 H1 k1 rs1 rh1 r1 ⟨a,e,q1⟩=>by
  subst e;obtain⟨e,vs,hv⟩:=(show v= .ref a/\ ∃vs,H1 a=some (.lst vs) from r1);exact⟨a,e,⟨vs,SqL.of hv⟩,p _ _ _ _ k1 rh1 (ZY H1 a) q1⟩
theorem NX {ta:TAD}: ∀σ H R,LI K (iR1 ta) σ H R->Rl (LA K ta) σ H R:=λσ H R ⟨σd,h,Rd,rs,rh,q,p⟩=>
 LA.bind rs rh q λds vs h1 H1 k1 rs1 rh1 r1 ⟨n,e,b1,b2,q1⟩=>by
  subst e;obtain⟨v,e,r2⟩:=jy r1;cases (show v= .int n from r2);exact⟨n,e,b1,b2,p _ _ _ _ k1 rh1 (JK H1 0 n.toNat _ (by simp)) q1⟩
theorem NY {ta:TAD}: ∀σ H R,LI K (iR2 ta) σ H R->Rm (LA K ta) σ H R:=λσ H R ⟨σd,h,Rd,rs,rh,q,p⟩=>
 LA.bind rs rh q λds vs h1 H1 k1 rs1 rh1 r1 ⟨m,n,e,b,q1⟩=>by
  subst e;obtain⟨v,w,e,r2,r3⟩:=wj r1;cases (show v= .int m from r2);cases (show w= .int n from r3);exact⟨m,n,e,b,p _ _ _ _ k1 rh1 (JK H1 m (n-m).toNat _ rfl) q1⟩
end
def PL (ti:TID)(g:TGD)(tb:TSD):TSD:=λD σ h=>ti σ h λj h1=> ∃ (n:Nat) (W:Nat->SD->HD->Prop),W 0 σ h1/\ ∀i σ' h',W i σ' h'-> ∃ds,j h'=some ds/\ds.length<=n/\(ds.length<=i->D.nx σ' h')/\
 ∀d,ds[i]? =some d->g d σ' h' λσ2 h2=>tb {D with nx:=λσ3 h3=> ∃h4,Sub h4 h3/\W (i+1) σ3 h4,ct:=λσ3 h3=> ∃h4,Sub h4 h3/\W (i+1) σ3 h4,bk:=D.nx} σ2 h2
theorem Mi {K:PySem.W.Frag}{ti:TID}{g:TGD}{tb:TSD}: ∀D σ H,LS K (PL ti g tb) D σ H->BK (LI K ti) (LG K g) (LS K tb) D σ H:=λD σ H ⟨σd,h,Dd,rs,rh,q,nx,rt,bk,ct⟩=>by
 refine⟨σd,h,_,rs,rh,q,λj J h1 H1 k1 rh1 jo ⟨n,W,w0,turn⟩=> ?_⟩;refine⟨λi m σ' H'=>m=n-i/\Kept H1 H'/\ ∃σd' h',RelS K H' σd' σ'/\RelH K h' H'/\W i σd' h',⟨n-0,rfl,.refl _,σd,h1,rs.mono k1,rh1,w0⟩,?_⟩;rintro i m σ' H' ⟨rfl,kp,σd',h',rs',rh',w⟩;obtain⟨ds,ej,hn,stop,go⟩:=turn i σd' h' w;have jo':=jo H' h' kp rh' ds ej i
 by_cases hi:i<ds.length
 ·obtain⟨g1,y1⟩:=jo'.1 ds[i] (G2 hi);refine .inr ⟨g1,λσ2 H2=>Kept H1 H2/\ ∃σd2 h2,RelS K H2 σd2 σ2/\RelH K h2 H2/\W (i+1) σd2 h2,λσ2 H2 ⟨k2,a,b,c,d,e⟩=>⟨n-(i+1),by omega,rfl,k2,a,b,c,d,e⟩,λx H'' y=> ?_⟩;obtain⟨k2,rh2,r2⟩:=y1 x H'' y;refine⟨ds[i],σd',h',_,r2,rs'.mono k2,rh2,go ds[i] (G2 hi),λσd3 h3 σ3 H3 k3 rs3 rh3 q3=> ?_⟩;have kk:Kept H H3:=k1.trans (kp.trans (k2.trans k3));have kk1:Kept H1 H3:=kp.trans (k2.trans k3);exact⟨σd3,h3,_,rs3,rh3,q3,λa b c d k4 rs4 rh4 ⟨h4,sb,w4⟩=>⟨kk1.trans k4,a,h4,rs4,rh4.sub sb,w4⟩,jO rt kk,λa b c d k4 rs4 rh4 q4=>nx a b c d (kk.trans k4) rs4 rh4 q4,λa b c d k4 rs4 rh4 ⟨h4,sb,w4⟩=>⟨kk1.trans k4,a,h4,rs4,rh4.sub sb,w4⟩⟩
 ·exact .inl ⟨jo'.2 (F6.mp hi),nx _ _ _ _ (k1.trans kp) rs' rh' (stop (F6.mp hi))⟩
def ZZ:TTD:=λ_ h Q=>Q true h
def Wa (bind:D->SD->SD->Prop)(js:List Nat)(ti:TID)(tt:TTD)(te:TED):TED:=λσ h Q=>ti σ h λj h1=> ∃ (n:Nat) (W:Nat->List D->HD->Prop),W 0 [] h1/\ ∀i ys h',W i ys h'->ys.length<=sizeLine/\
 ∃ds,j h'=some ds/\ds.length<=n/\(ds.length<=i-> ∀p,h' p=none->Q (.lst p) (zm h' p ys))/\
  ∀d,ds[i]? =some d-> ∃σ2,bind d (jZ js σ) σ2/\tt σ2 h' λb h3=>if b=true then te σ2 h3 λy h4=> ∃h5,Sub h5 h4/\W (i+1) (ys++ [y]) h5 else ∃h5,Sub h5 h3/\W (i+1) ys h5
def bN (i:Nat):D->SD->SD->Prop:=λd σ σ2=>σ2=σ.set i (some d)
def b2 (i j:Nat):D->SD->SD->Prop:=λd σ σ2=> ∃x y,d= .tup [x,y]/\σ2=(σ.set i (some x)).set j (some y)
theorem Mj {K:PySem.W.Frag}: ∀σ H Q,LT K ZZ σ H Q->BV σ H Q:=λσ H Q ⟨σd,h,Qd,rs,rh,q,p⟩=>p true h H (.refl H) rh q
def Xb (K:PySem.W.Frag)(js:List Nat)(bind:D->SD->SD->Prop)(g:TG):Prop:= ∀ (σ:St) (σd σd2:SD) (H:Hp) (d:D) (v:V) (Q:St->Hp->Prop),RelS K H (jZ js σd) (zk js σ)->RelD K H d v->bind d (jZ js σd) σd2->
 (∀σ2,Agree (zk js σ) σ2->RelS K H σd2 σ2->Q σ2 H)->g v (zk js σ) H Q
theorem Mk {K:PySem.W.Frag}{js:List Nat}{i:Nat}(hi:i∈js):Xb K js (bN i) (wF i):=λσ σd σd2 H d v Q rs r b q=>by
 cases (show σd2=_ from b);exact q _ (.set v λu=>jY js σ i u hi) (rs.set r i)
theorem NZ {K:PySem.W.Frag}{js:List Nat}{i j:Nat}(hi:i∈js)(hj:j∈js)(hij:i≠j):Xb K js (b2 i j) (Np K 2 (Uu (wF i) (Uu (wF j) No))):=λσ σd σd2 H d v Q rs r b q=>by
 obtain⟨x,y,e,e2⟩:=b;subst e e2;obtain⟨a,vs,e,hH,r1⟩:=(show ∃a vs,v= .ref a/\H a=some (.tup vs)/\RelDs K H [x,y] vs from r);obtain⟨v1,v2,e1,r2,r3⟩:=wj r1;subst e e1;refine⟨a,[v1,v2],rfl,SqT.of hH,rfl,v1,[v2],rfl,v2,[],rfl,rfl,q _ (.trans (.set v1 λu=>jY js σ i u hi) (.set v2 λu z=> ?_)) ((rs.set r2 i).set r3 j)⟩;rw [S1 hij] at z;exact jY js σ j u hj z
theorem PM {K:PySem.W.Frag}{bind:D->SD->SD->Prop}{js:List Nat}{ti:TID}{tt:TTD}{te:TED}{g:TG}(hb:Xb K js bind g): ∀σ H Q,LE K (Wa bind js ti tt te) σ H Q->tLC js (LI K ti) g (LT K tt) (LE K te) σ H Q:=
 λσ H Q ⟨σd,h,Qd,rs,rh,q,p⟩=>by
  refine⟨σd,h,_,rs,rh,q,λj J h1 H1 k1 rh1 jo ⟨n,W,w0,turn⟩=> ?_⟩;refine⟨λi m ys H'=>m=n-i/\Kept H1 H'/\ ∃ds h',RelDs K H' ds ys/\RelH K h' H'/\W i ds h',⟨n-0,rfl,.refl _,[],h1,rfl,rh1,w0⟩,?_⟩;rintro i m ys H' ⟨rfl,kp,yd,h',ry,rh',w⟩;obtain⟨hz,ds,ej,hn,stop,go⟩:=turn i yd h' w;refine⟨by rw [<-ry.length];exact hz,?_⟩;have jo':=jo H' h' kp rh' ds ej i;have kk:Kept H H':=k1.trans kp
  by_cases hi:i<ds.length
  ·obtain⟨g1,y1⟩:=jo'.1 ds[i] (G2 hi);refine .inr ⟨g1,λx H'' y=> ?_⟩;obtain⟨k2,rh2,r2⟩:=y1 x H'' y;obtain⟨σd2,bd,q2⟩:=go ds[i] (G2 hi);refine hb σ σd σd2 H'' ds[i] x _ (((rs.mono (kk.trans k2))).clear js) r2 bd λσ2 ag rs2=>⟨ag,?_⟩
   refine LT.bind rs2 rh2 q2 λb h3 H3 k3 rs3 rh3 q3=> ?_
   cases b with
   |true=>
    rw [if_pos rfl] at q3 ⊢;refine LE.bind rs3 rh3 q3 λd4 v4 h4 H4 k4 rs4 rh4 r4 ⟨h5,sb,w5⟩=>⟨n-(i+1),by omega,rfl,kp.trans (k2.trans (k3.trans k4)),yd++ [d4],h5,(ry.mono (k2.trans (k3.trans k4))).append (.cons r4 .nil),rh4.sub sb,w5⟩
   |false=>
    rw [if_neg G6] at q3 ⊢;obtain⟨h5,sb,w5⟩:=q3;exact⟨n-(i+1),by omega,rfl,kp.trans (k2.trans k3),yd,h5,ry.mono (k2.trans k3),rh3.sub sb,w5⟩
  ·refine .inl ⟨jo'.2 (F6.mp hi),λa ha=>p (.lst a) (.ref a) _ _ (kk.trans (.new ha)) (rh'.newL ha ry) ⟨rfl,ys,ju⟩ (stop (F6.mp hi) a (rh'.free ha))⟩
theorem wD {X:Cx}{scope:Scope}{C:Addr}{s₀:Shared}{H₀:Hp}{ex:List Addr}{i:Nat}{x:Str}{p:Pos}(hN:X.N.Nodup)(hx:X.N[i]? =some x)(hl:scope.names.lookup x=some .local\/scope.names.lookup x=some .cell):
 PG (JX X scope C s₀ H₀ ex) (.Name x p) (wF i):=by
 rcases hl with z|z
 ·exact yJ hN hx (.inl (lookup_relabel_local z)) (.inr (lookup_relabel_local z))
 ·exact yJ hN hx (.inr (wR z)) (.inl (by show (scope.names.lookup x==some NameKind.cell)=true;rw [z];rfl))
section
variable {X:Cx}{tg e iter elt:Expr}{te:TED}{ti:TID}{g:TGD}{tb:TSD}{tt:TTD}{pos:Pos}{ta:TAD}{scope:Scope}{js:List Nat}{ifs:List Expr}
theorem PN (he:QE X e te):QI X tg e (iL te):=(GW he).imp PK
theorem Ba {p:Pos}{a:Expr}(hg:Gl X "range")(hm:X.mg "range" =none)(ha:QA X [a] ta)(hs:starEach [a] X.env= [(false,eval a X.env)]:=by rfl):QI X tg (.Call (.Name "range" p) [a] [] pos) (iR1 ta):=(Uw hg hm ha hs).imp NX
theorem CI {body:List Stmt}(hp:PassesOwn (model X.prog X.w) X.A X.env X.xe)(hc:X.calm=true)(hi:QI X tg iter ti)(hg:QG X tg g)(hb:QSs X body tb)(hs: ∀x,foldedSetIterable iter X.env x=pure x:=by intro _;rfl):
 QS X (.For tg iter body [] pos) (PL ti g tb):=(Rn hp hc hi hg hb hs).imp Mi
theorem PP:PTs X [] (LT X.K ZZ):=λpins s σ H Q I h=>Pn pins s σ H Q I (Mj σ H Q h)
theorem PQ {c:Expr}(hc:QT X c tt):PTs X [c] (LT X.K tt):=Po hc
theorem qlc {i:Nat}{x:Str}{p:Pos}(hc:X.calm=true)(S:BlockOk X scope js)(hi:QI X (.Name x p) iter ti)(hj:i∈js)(hN:X.N.Nodup)(hx:X.N[i]? =some x)(hl:scope.names.lookup x=some .local\/scope.names.lookup x=some .cell)
 (ht: ∀X',jt X scope X'->PTs X' ifs (LT X'.K tt))(he: ∀X',jt X scope X'->QE X' elt te)(hs: ∀x,foldedSetIterable iter X.env x=pure x:=by intro _;rfl):
 QE X (.ListComp elt [⟨.Name x p,iter,ifs,0⟩] scope pos) (Wa (bN i) js ti tt te):=
 (RK hc S hi (λX' hX=>by obtain⟨C,s₀,H₀,ex,rfl⟩:=hX;exact wD hN hx hl) (λX' hX=>by have:=ht X' hX;obtain⟨C,s₀,H₀,ex,rfl⟩:=hX;exact this)
  (λX' hX=>by have:=he X' hX;obtain⟨C,s₀,H₀,ex,rfl⟩:=hX;exact this) hs).imp (PM (Mk hj))
theorem CJ {i j:Nat}{x y:Str}{p1 p2 p3:Pos}{k:Nat}(hc:X.calm=true)(S:BlockOk X scope js)(hi:QI X (.Tuple [.Name x p1,.Name y p2] k p3) iter ti)(hj:i∈js)(hj2:j∈js)(hij:i≠j)(hN:X.N.Nodup)(hx:X.N[i]? =some x)(hy:X.N[j]? =some y)
 (hl:scope.names.lookup x=some .local\/scope.names.lookup x=some .cell)(hl2:scope.names.lookup y=some .local\/scope.names.lookup y=some .cell)
 (ht: ∀X',jt X scope X'->PTs X' ifs (LT X'.K tt))(he: ∀X',jt X scope X'->QE X' elt te)(hs: ∀x,foldedSetIterable iter X.env x=pure x:=by intro _;rfl):
 QE X (.ListComp elt [⟨.Tuple [.Name x p1,.Name y p2] k p3,iter,ifs,0⟩] scope pos) (Wa (b2 i j) js ti tt te):=
 (RK hc S hi (λX' hX=>by
  obtain⟨C,s₀,H₀,ex,rfl⟩:=hX;exact Gr hc (vz (wD hN hx hl) (vz (wD hN hy hl2) Uv))) (λX' hX=>by have:=ht X' hX;obtain⟨C,s₀,H₀,ex,rfl⟩:=hX;exact this)
  (λX' hX=>by have:=he X' hX;obtain⟨C,s₀,H₀,ex,rfl⟩:=hX;exact this) hs).imp (PM (NZ hj hj2 hij))
end
def LSp (K:PySem.W.Frag)(spd:RDn):Sp:=λvs H Q _=>LC K spd vs H Q
theorem PR {K:PySem.W.Frag}{spd:RDn}{t:TAD}{E:XK}: ∀σ H Q,LE K (dCB spd t) σ H Q->Rv (LSp K spd) [] E (LA K t) σ H Q:=λσ H Q ⟨σd,h,Qd,rs,rh,t,p⟩=>
 LA.bind rs rh t λds vs h1 H1 k1 rs1 rh1 r1 q=>by rw [L4];exact⟨ds,h1,Qd,r1,rh1,q,jO p k1⟩
section
variable {X:Cx}{k:Nat}{f:Addr}{fd:FuncData}{ps:List Str}{spd:RDn}{x:Str}{p pos:Pos}{e:Expr}{es:List Expr}{t:TAD}
theorem Bb (F:FnOk X.prog X.w X.K X.mg X.base CX0 k f fd ps (LSp X.K spd))(hr:Room k X.A)(hg:Gl X x)(hm:X.mg x=some (.ref f))(hk:PySem.W.keepIn X.K (.ref f)=true)(hb:Binds X.K fd ps [])
 (ha:QA X (e::es) t)(hdb:(x==("__debug__" :Str))=false:=by decide)(he:starEach (e::es) X.env=(false,eval e X.env)::starEach es X.env:=by rfl)(hpl:(backTo pos (starEach es X.env)).any (·.1)=false:=by rfl):
 QE X (.Call (.Name x p) (e::es) [] pos) (dCB spd t):=(Pc F hr hg hm hk hb .nil ND ha hdb he hpl).imp PR
theorem Ml {id:String}{r:RDn}(hc:wG X (.builtin id) r)(hg:Gl X x)(hm:X.mg x=none)(hv:bootBuiltins x=some (.builtin id))(ha:QA X (e::es) t)(hn:x≠ "__name__" :=by decide)(hdb:(x==("__debug__" :Str))=false:=by decide)
 (he:starEach (e::es) X.env=(false,eval e X.env)::starEach es X.env:=by rfl)(hpl:(backTo pos (starEach es X.env)).any (·.1)=false:=by rfl):QE X (.Call (.Name x p) (e::es) [] pos) (dCB r t):=(Ve hc hg hm hv ha hn hdb he hpl).imp RT
theorem PU {T:String}{r:RDn}(hc:wG X (.type T) r)(hg:Gl X x)(hm:X.mg x=none)(hv:bootBuiltins x=some (.type T))(ha:QA X (e::es) t)(hn:x≠ "__name__" :=by decide)(hdb:(x==("__debug__" :Str))=false:=by decide)
 (he:starEach (e::es) X.env=(false,eval e X.env)::starEach es X.env:=by rfl)(hpl:(backTo pos (starEach es X.env)).any (·.1)=false:=by rfl):QE X (.Call (.Name x p) (e::es) [] pos) (dCB r t):=(UH hc hg hm hv ha hn hdb he hpl).imp RT
end
def zx (N:List Str)(ds:List D):SD:=ds.map some++List.replicate (N.length-ds.length) none
theorem VQ {K:PySem.W.Frag}{H:Hp}{N:List Str}{ds:List D}{vs:List V}(r:RelDs K H ds vs):RelS K H (zx N ds) (vJ N vs):=by
 have hl:=r.length;refine⟨by unfold zx vJ;simp [hl],λi d e=> ?_⟩;unfold zx at e;unfold vJ
 by_cases hi:i<ds.length
 ·rw [B6 (by simpa using hi),P1] at e;cases q:ds[i]? with
  |none=>rw [q] at e;cases e
  |some d'=>
   rw [q] at e;cases e;obtain⟨v,e1,e2⟩:=r.get q;exact⟨v,by rw [B6 (by simpa [<-hl] using hi),P1,e1];rfl,e2⟩
 ·rw [O3 (by simpa using hi),A4] at e;split at e<;>cases e
def Xc (Q:KD):EndsD:= {nx:=λ_ h=> ∃h',Sub h' h/\Q .non h',rt:=λd h=> ∃h',Sub h' h/\Q d h'}
section
variable {P:Program}{w:World}{K:PySem.W.Frag}{mg:Str->Option Value}{base:Heap}
theorem Fun.okD {x qual:Str}{st:Stmt}{f:Addr}{fd:FuncData}{N ps:List Str}{k:Nat}{spd:RDn}(F:Fun K x qual st f fd)(S:FnScope N ps (jj st))(len: ∀ds h Q,spd ds h Q->ds.length=ps.length)
 (tb:TSD)(hbody: ∀ (cdv:Value) (A:Around) (outer:List Env) (s:Shared) (H:Hp) (E:XK),Room k (A.deeper (envOfC qual (jj st) s.heap.objs.size f cdv))->QSs (Gt CX0 P w K mg base N qual (jj st) f cdv A outer s H E).nox (zt st) tb)
 (read: ∀ds h Q,spd ds h Q->tb (Xc Q) (zx N ds) h):FnOk P w K mg base CX0 (k+1) f fd ps (LSp K spd):=by
 refine F.ok S (λvs H Q E h=> ?_) (λcdv A outer s H vs Q E hr h=> ?_)
 ·obtain⟨ds,h,Qd,r,rh,q,p⟩:=h;rw [<-r.length];exact len _ _ _ q
 ·obtain⟨ds,h,Qd,r,rh,q,p⟩:=h;refine⟨_,hbody cdv A outer s H E hr,zx N ds,h,Xc Qd,VQ r,rh,read ds h Qd q,λσd' h' σ' H' k rs' rh' ⟨h2,sb,q'⟩=>p .non .non h2 H' k (rh'.sub sb) rfl q',λd v h' H' k rh' r' ⟨h2,sb,q'⟩=>p d v h2 H' k (rh'.sub sb) r' q',λ_ _ _ _ _ _ _ z=>z.elim,λ_ _ _ _ _ _ _ z=>z.elim⟩
end
section
variable {X:Cx}{iter elt:Expr}{te:TED}{ti:TID}{tt:TTD}{pos spos:Pos}{scope:Scope}{js:List Nat}{ifs:List Expr}
theorem Mm {i k:Nat}{x y:Str}{p py:Pos}(hc:X.calm=true)(hN:X.N.Nodup)(hk:X.N[k]? =some y)(hy:Loc X.env.scope y)(S:BlockOk X scope js)(hi:QI X (.Name x p) iter ti)(hj:i∈js)(hx:X.N[i]? =some x)(hl:scope.names.lookup x=some .local\/scope.names.lookup x=some .cell)
 (ht: ∀X',jt X scope X'->PTs X' ifs (LT X'.K tt))(he: ∀X',jt X scope X'->QE X' elt te)
 (hsw:swapsWith (.ListComp elt [⟨.Name x p,iter,ifs,0⟩] scope pos) (some (.Name y py)) spos.line X.env=pure true:=by rfl)
 (hf:X.fn y=true\/X.env.scope.names.lookup y=some .local:=by first|exact .inl rfl|exact .inr rfl|assumption)(hs: ∀x,foldedSetIterable iter X.env x=pure x:=by intro _;rfl):
 QS X (.Assign [.Name y py] (.ListComp elt [⟨.Name x p,iter,ifs,0⟩] scope pos) spos) (PB k (Wa (bN i) js ti tt te)):=by
 have base:PS X (.Assign [.Name y py] (.ListComp elt [⟨.Name x p,iter,ifs,0⟩] scope pos) spos) (GU (tLC js (LI X.K ti) (wF i) (LT X.K tt) (LE X.K te)) (wF k)):=
  QC hc S hi (λX' hX=>by obtain⟨C,s₀,H₀,ex,rfl⟩:=hX;exact wD hN hx hl) (λX' hX=>by have:=ht X' hX;obtain⟨C,s₀,H₀,ex,rfl⟩:=hX;exact this)
   (λX' hX=>by have:=he X' hX;obtain⟨C,s₀,H₀,ex,rfl⟩:=hX;exact this) (yJ hN hk hy hf) hsw hs
 exact base.imp λD σ H h=>by
  obtain⟨σd,hd,Qd,rs,rh,t,p⟩:=Gw (K:=X.K) D σ H h;exact PM (Mk hj) σ H _ ⟨σd,hd,Qd,rs,rh,t,p⟩
end
def dIn (i':Nat)(ti:TID)(tt:TTD)(te:TED)(V:List D->HD->Prop)(ys:List D):SD->HD->Prop:=λσ h=>ti σ h λj h1=> ∃ (n:Nat) (W:Nat->List D->HD->Prop),W 0 ys h1/\ ∀i ys h',W i ys h'->ys.length<=sizeLine/\
 ∃ds,j h'=some ds/\ds.length<=n/\(ds.length<=i->V ys h')/\
  ∀d,ds[i]? =some d->tt (σ.set i' (some d)) h' λb h3=>if b=true then te (σ.set i' (some d)) h3 λy h4=> ∃h5,Sub h5 h4/\W (i+1) (ys++ [y]) h5 else ∃h5,Sub h5 h3/\W (i+1) ys h5
def DI (bind:D->SD->SD->Prop)(js:List Nat)(ti:TID)(tt:TTD)(i':Nat)(ti':TID)(tt':TTD)(te:TED):TED:=λσ h Q=>ti σ h λj h1=> ∃ (n:Nat) (W:Nat->List D->HD->Prop),W 0 [] h1/\ ∀i ys h',W i ys h'->ys.length<=sizeLine/\
 ∃ds,j h'=some ds/\ds.length<=n/\(ds.length<=i-> ∀p,h' p=none->Q (.lst p) (zm h' p ys))/\
  ∀d,ds[i]? =some d-> ∃σ2,bind d (jZ js σ) σ2/\tt σ2 h' λb h3=>if b=true then dIn i' ti' tt' te (λys' h6=> ∃h5,Sub h5 h6/\W (i+1) ys' h5) ys σ2 h3 else ∃h5,Sub h5 h3/\W (i+1) ys h5
def Xd (K:PySem.W.Frag)(js:List Nat)(i':Nat)(bind:D->SD->SD->Prop)(g:TG):Prop:= ∀ (σ:St) (σd σd2:SD) (H:Hp) (d:D) (v:V) (Q:St->Hp->Prop),RelS K H (jZ js σd) (zk js σ)->RelD K H d v->bind d (jZ js σd) σd2->
 (∀σ2,Agree (zk js σ) σ2->(∀u,¬σ2[i']? =some (some u))->RelS K H σd2 σ2->Q σ2 H)->g v (zk js σ) H Q
theorem Mn {K:PySem.W.Frag}{js:List Nat}{i i':Nat}(hi:i∈js)(hi':i'∈js)(hne:i≠i'):Xd K js i' (bN i) (wF i):=λσ σd σd2 H d v Q rs r b q=>by
 cases (show σd2=_ from b);refine q _ (.set v λu=>jY js σ i u hi) (λu z=> ?_) (rs.set r i);rw [S1 hne] at z;exact jY js σ i' u hi' z
theorem Mo {K:PySem.W.Frag}{bind:D->SD->SD->Prop}{js:List Nat}{i':Nat}{ti ti':TID}{tt tt':TTD}{te:TED}{g:TG}(hb:Xd K js i' bind g): ∀σ H Q,LE K (DI bind js ti tt i' ti' tt' te) σ H Q->NJ js (LI K ti) g (LT K tt) (LI K ti') (wF i') (LT K tt') (LE K te) σ H Q:=
 λσ H Q ⟨σd,h,Qd,rs,rh,q,p⟩=>by
  refine⟨σd,h,_,rs,rh,q,λj J h1 H1 k1 rh1 jo ⟨n,W,w0,turn⟩=> ?_⟩;refine⟨λi m ys H'=>m=n-i/\Kept H1 H'/\ ∃ds h',RelDs K H' ds ys/\RelH K h' H'/\W i ds h',⟨n-0,rfl,.refl _,[],h1,rfl,rh1,w0⟩,?_⟩;rintro i m ys H' ⟨rfl,kp,yd,h',ry,rh',w⟩;obtain⟨hz,ds,ej,hn,stop,go⟩:=turn i yd h' w;refine⟨by rw [<-ry.length];exact hz,?_⟩;have jo':=jo H' h' kp rh' ds ej i;have kk:Kept H H':=k1.trans kp
  by_cases hi:i<ds.length
  ·obtain⟨g1,y1⟩:=jo'.1 ds[i] (G2 hi);refine .inr ⟨g1,λx H'' y=> ?_⟩;obtain⟨k2,rh2,r2⟩:=y1 x H'' y;obtain⟨σd2,bd,q2⟩:=go ds[i] (G2 hi);refine hb σ σd σd2 H'' ds[i] x _ (((rs.mono (kk.trans k2))).clear js) r2 bd λσ2 ag un rs2=>⟨ag,?_⟩
   refine LT.bind rs2 rh2 q2 λb h3 H3 k3 rs3 rh3 q3=> ?_
   cases b with
   |true=>
    rw [if_pos rfl] at q3 ⊢
    -- the second clause
    refine⟨σd2,h3,_,rs3,rh3,q3,λj2 J2 h4 H4 k4 rh4 jo2 ⟨n2,W2,w20,turn2⟩=> ?_⟩;refine⟨λi2 m2 ys2 H5=>m2=n2-i2/\Kept H4 H5/\ ∃ds h5,RelDs K H5 ds ys2/\RelH K h5 H5/\W2 i2 ds h5,⟨n2-0,rfl,.refl _,yd,h4,ry.mono (k2.trans (k3.trans k4)),rh4,w20⟩,?_⟩;rintro i2 m2 ys2 H5 ⟨rfl,kp5,yd5,h5,ry5,rh5,w5⟩;obtain⟨hz5,ds5,ej5,hn5,stop5,go5⟩:=turn2 i2 yd5 h5 w5;refine⟨by rw [<-ry5.length];exact hz5,?_⟩;have jo5:=jo2 H5 h5 kp5 rh5 ds5 ej5 i2;have kk5:Kept H1 H5:=kp.trans (k2.trans (k3.trans (k4.trans kp5)))
    by_cases hi5:i2<ds5.length
    ·obtain⟨g5,y5⟩:=jo5.1 ds5[i2] (G2 hi5);refine .inr ⟨g5,λx6 H6 yy6=> ?_⟩;obtain⟨k6,rh6,r6⟩:=y5 x6 H6 yy6;refine⟨.set x6 un,?_⟩;have rs6:=(rs3.mono (k4.trans (kp5.trans k6))).set r6 i';refine LT.bind rs6 rh6 (go5 ds5[i2] (G2 hi5)) λb h7 H7 k7 rs7 rh7 q7=> ?_
     cases b with
     |true=>
      rw [if_pos rfl] at q7 ⊢;exact LE.bind rs7 rh7 q7 λd8 v8 h8 H8 k8 rs8 rh8 r8 ⟨h9,sb,w9⟩=>⟨n2-(i2+1),by omega,rfl,kp5.trans (k6.trans (k7.trans k8)),yd5++ [d8],h9,(ry5.mono (k6.trans (k7.trans k8))).append (.cons r8 .nil),rh8.sub sb,w9⟩
     |false=>
      rw [if_neg G6] at q7 ⊢;obtain⟨h9,sb,w9⟩:=q7;exact⟨n2-(i2+1),by omega,rfl,kp5.trans (k6.trans k7),yd5,h9,ry5.mono (k6.trans k7),rh7.sub sb,w9⟩
    ·obtain⟨h9,sb,w9⟩:=stop5 (F6.mp hi5);exact .inl ⟨jo5.2 (F6.mp hi5),n-(i+1),by omega,rfl,kk5,yd5,h9,ry5,rh5.sub sb,w9⟩
   |false=>
    rw [if_neg G6] at q3 ⊢;obtain⟨h5,sb,w5⟩:=q3;exact⟨n-(i+1),by omega,rfl,kp.trans (k2.trans k3),yd,h5,ry.mono (k2.trans k3),rh3.sub sb,w5⟩
  ·refine .inl ⟨jo'.2 (F6.mp hi),λa ha=>p (.lst a) (.ref a) _ _ (kk.trans (.new ha)) (rh'.newL ha ry) ⟨rfl,ys,ju⟩ (stop (F6.mp hi) a (rh'.free ha))⟩
section
variable {X:Cx}{iter iter' elt:Expr}{te:TED}{ti ti':TID}{tt tt':TTD}{pos:Pos}{scope:Scope}{js:List Nat}{ifs ifs':List Expr}
theorem CK {i i':Nat}{x y:Str}{p py:Pos}(hc:X.calm=true)(S:BlockOk X scope js)(hi:QI X (.Name x p) iter ti)(hj:i∈js)(hj':i'∈js)(hne:i≠i')(hN:X.N.Nodup)(hx:X.N[i]? =some x)(hy:X.N[i']? =some y)
 (hl:scope.names.lookup x=some .local\/scope.names.lookup x=some .cell)(hl':scope.names.lookup y=some .local\/scope.names.lookup y=some .cell)
 (ht: ∀X',jt X scope X'->PTs X' ifs (LT X'.K tt))(hi': ∀X',jt X scope X'->QI X' (.Name y py) iter' ti')(ht': ∀X',jt X scope X'->PTs X' ifs' (LT X'.K tt'))(he: ∀X',jt X scope X'->QE X' elt te)
 (hs: ∀x,foldedSetIterable iter X.env x=pure x:=by intro _;rfl)(hs': ∀env x,foldedSetIterable iter' env x=pure x:=by intro _ _;rfl):
 QE X (.ListComp elt [⟨.Name x p,iter,ifs,0⟩,⟨.Name y py,iter',ifs',0⟩] scope pos) (DI (bN i) js ti tt i' ti' tt' te):=
 (show PE X _ (NJ js (LI X.K ti) (wF i) (LT X.K tt) (LI X.K ti') (wF i') (LT X.K tt') (LE X.K te)) from RL hc S hi (λX' hX=>by obtain⟨C,s₀,H₀,ex,rfl⟩:=hX;exact wD hN hx hl) (λX' hX=>by have:=ht X' hX;obtain⟨C,s₀,H₀,ex,rfl⟩:=hX;exact this) (λX' hX=>by have:=hi' X' hX;obtain⟨C,s₀,H₀,ex,rfl⟩:=hX;exact this)
  (λX' hX=>by obtain⟨C,s₀,H₀,ex,rfl⟩:=hX;exact wD hN hy hl') (λX' hX=>by have:=ht' X' hX;obtain⟨C,s₀,H₀,ex,rfl⟩:=hX;exact this)
  (λX' hX=>by have:=he X' hX;obtain⟨C,s₀,H₀,ex,rfl⟩:=hX;exact this) hs hs').imp (Mo (Mn hj hj' hne))
end
def BW:RD2:=λx y h Q=>match x,y with
 | .int i,.int j=>Q (.int (i+j)) h
 | .tup a,.tup b=>a.length+b.length<=sizeLine/\Q (.tup (a++b)) h
 | .lst a,.lst b=> ∃xs ys,h a=some xs/\h b=some ys/\xs.length+ys.length<=sizeLine/\ ∀p,h p=none->Q (.lst p) (zm h p (xs++ys))
 |_,_=>False
def BX:RD2:=λx y h Q=>match x,y with
 | .int i,.int j=>Q (.int (i-j)) h
 |_,_=>False
def BY:RD2:=λx y h Q=>match x,y with
 | .int i,.int j=>CMul i j/\Q (.int (i*j)) h
 | .lst a,.int k=> ∃xs,h a=some xs/\ -(2^63)<=k/\k<2^63/\xs.length*k.toNat<=sizeLine/\ ∀p,h p=none->Q (.lst p) (zm h p (List.replicate k.toNat xs).flatten)
 |_,_=>False
def CL:RD2:=λx y h Q=>match x,y with
 | .int i,.int j=>0<j/\Q (.int (i%j)) h
 |_,_=>False
def Bc:RD2:=λx y h Q=>match x,y with
 | .int i,.int j=>BM i j/\Q (.int (i / j)) h
 |_,_=>False
def Bd:RD2:=λx y h Q=>match x,y with
 | .int i,.int j=>BN i j/\Q (.int (i^j.toNat)) h
 |_,_=>False
def Gx (p:Int->Int->Bool):RD2:=λx y h Q=>match x,y with
 | .int i,.int j=>Q (.bl (p i j)) h
 |_,_=>False
def eqD:RD2:=λx y h Q=>match x,y with
 | .int i,.int j=>Q (.bl (decide (i=j))) h
 | .bl i,.bl j=>Q (.bl (decide (i=j))) h
 | .str i,.str j=>Q (.bl (decide (i=j))) h
 |_,_=>False
def neD:RD2:=λx y h Q=>match x,y with
 | .int i,.int j=>Q (.bl (!decide (i=j))) h
 | .bl i,.bl j=>Q (.bl (!decide (i=j))) h
 | .str i,.str j=>Q (.bl (!decide (i=j))) h
 |_,_=>False
section
variable {X:Cx}
theorem Ym {f:Value->Value->Sem Value}{C:Int->Int->Prop}{g:Int->Int->V}{gd:Int->Int->D}{r:RD2}(ho:OpR X f (rI C g))(hg: ∀i j H,RelD X.K H (gd i j) (g i j))
 (hr: ∀x y h Q,r x y h Q-> ∃i j,x= .int i/\y= .int j/\C i j/\Q (gd i j) h):OpQ X f r:=ho.imp λx y H Q ⟨dx,dy,h,Qd,rx,ry,rh,q,p⟩=>by
 obtain⟨i,j,e1,e2,c,q'⟩:=hr dx dy h Qd q;subst e1 e2;exact⟨i,j,rx,ry,c,p _ _ _ _ (.refl H) rh (hg i j H) q'⟩
theorem yu {f:Value->Value->Sem Value}{g:Int->Int->V}{gd:Int->Int->D}{r:RD2}(ho:OpR X f (rI0 g))(hg: ∀i j H,RelD X.K H (gd i j) (g i j))
 (hr: ∀x y h Q,r x y h Q-> ∃i j,x= .int i/\y= .int j/\Q (gd i j) h):OpQ X f r:=ho.imp λx y H Q ⟨dx,dy,h,Qd,rx,ry,rh,q,p⟩=>by
 obtain⟨i,j,e1,e2,q'⟩:=hr dx dy h Qd q;subst e1 e2;exact⟨i,j,rx,ry,p _ _ _ _ (.refl H) rh (hg i j H) q'⟩
theorem vU:OpQ X (binaryOp .Sub) BX:=yu (gd:=λi j=> .int (i-j)) Ro (λ_ _ _=>rfl) λx y h Q q=>by
 cases x<;>cases y<;>first|exact False.elim q|exact⟨_,_,rfl,rfl,q⟩
theorem zy:OpQ X (binaryOp .Mod) CL:=Ym (gd:=λi j=> .int (i%j)) Rp (λ_ _ _=>rfl) λx y h Q q=>by
 cases x<;>cases y<;>first|exact False.elim q|exact⟨_,_,rfl,rfl,q.1,q.2⟩
theorem PV:OpQ X (binaryOp .FloorDiv) Bc:=Ym (gd:=λi j=> .int (i / j)) GX (λ_ _ _=>rfl) λx y h Q q=>by
 cases x<;>cases y<;>first|exact False.elim q|exact⟨_,_,rfl,rfl,q.1,q.2⟩
theorem Vi:OpQ X (binaryOp .Pow) Bd:=Ym (gd:=λi j=> .int (i^j.toNat)) Rq (λ_ _ _=>rfl) λx y h Q q=>by
 cases x<;>cases y<;>first|exact False.elim q|exact⟨_,_,rfl,rfl,q.1,q.2⟩
theorem Za {p:Int->Int->Bool}: ∀x y h Q,Gx p x y h Q-> ∃i j,x= .int i/\y= .int j/\Q (.bl (p i j)) h:=λx y h Q q=>by
 cases x<;>cases y<;>first|exact False.elim q|exact⟨_,_,rfl,rfl,q⟩
theorem PX:OpQ X (compareOp .Lt) (Gx λi j=>decide (i<j)):=yu (gd:=λi j=> .bl (decide (i<j))) Nu (λ_ _ _=>rfl) Za
theorem Yn:OpQ X (compareOp .LtE) (Gx λi j=>decide (i<=j)):=yu (gd:=λi j=> .bl (decide (i<=j))) Nv (λ_ _ _=>rfl) Za
theorem PY:OpQ X (compareOp .Gt) (Gx λi j=>decide (j<i)):=yu (gd:=λi j=> .bl (decide (j<i))) Nw (λ_ _ _=>rfl) Za
theorem PZ:OpQ X (compareOp .GtE) (Gx λi j=>decide (j<=i)):=yu (gd:=λi j=> .bl (decide (j<=i))) Nx (λ_ _ _=>rfl) Za
theorem DJ {α:Type}[DecidableEq α]{f:α->V}(hf: ∀a b,f a=f b->a=b)(a b:α):decide (f a=f b)=decide (a=b):=by
 by_cases h:a=b
 ·subst h;simp
 ·rw [P2 h,P2 (λe=>h (hf a b e))]
theorem oq_eq:OpQ X (compareOp .Eq) eqD:=op_eq.imp λx y H Q ⟨dx,dy,h,Qd,rx,ry,rh,q,p⟩=>by
 cases dx<;>cases dy<;>first
  |exact False.elim q
  |(cases (show x= .int _ from rx);cases (show y= .int _ from ry);refine⟨rfl,p _ _ _ _ (.refl H) rh ?_ q⟩;rw [DJ (f:=V.int) (λa b e=>by cases e;rfl)];rfl)
  |(cases (show x= .bl _ from rx);cases (show y= .bl _ from ry);refine⟨rfl,p _ _ _ _ (.refl H) rh ?_ q⟩;rw [DJ (f:=V.bl) (λa b e=>by cases e;rfl)];rfl)
  |(cases (show x= .str _ from rx);cases (show y= .str _ from ry);refine⟨rfl,p _ _ _ _ (.refl H) rh ?_ q⟩;rw [DJ (f:=V.str) (λa b e=>by cases e;rfl)];rfl)
theorem oq_ne:OpQ X (compareOp .NotEq) neD:=op_ne.imp λx y H Q ⟨dx,dy,h,Qd,rx,ry,rh,q,p⟩=>by
 cases dx<;>cases dy<;>first
  |exact False.elim q
  |(cases (show x= .int _ from rx);cases (show y= .int _ from ry);refine⟨rfl,p _ _ _ _ (.refl H) rh ?_ q⟩;rw [DJ (f:=V.int) (λa b e=>by cases e;rfl)];rfl)
  |(cases (show x= .bl _ from rx);cases (show y= .bl _ from ry);refine⟨rfl,p _ _ _ _ (.refl H) rh ?_ q⟩;rw [DJ (f:=V.bl) (λa b e=>by cases e;rfl)];rfl)
  |(cases (show x= .str _ from rx);cases (show y= .str _ from ry);refine⟨rfl,p _ _ _ _ (.refl H) rh ?_ q⟩;rw [DJ (f:=V.str) (λa b e=>by cases e;rfl)];rfl)
def Mp (K:PySem.W.Frag):R2:=λx y H Q=> ∃a b xs ys,x= .ref a/\y= .ref b/\SqT K H a xs/\SqT K H b ys/\xs= []/\Q (.ref b) H
theorem op_catT0:OpR X (binaryOp .Add) (Mp X.K):=by
 intro pins s σ H x y v u Q I rx ry h;obtain⟨a,b,xs,ys,rfl,rfl,ha,hb,hx,q⟩:=h;cases rx;cases ry;obtain⟨its,r1,p1,_⟩:=I.tuple ha;obtain⟨its2,r2,p2,_⟩:=I.tuple hb;have hv:its= []:=r1.nil_iff.mpr hx;obtain⟨⟨cls,dd,data,sl⟩,ho,hc,n,hd⟩:=id p1;obtain⟨⟨cls2,dd2,data2,sl2⟩,ho2,hc2,n2,hd2⟩:=id p2;simp only at hc hd hc2 hd2;subst hc hd hc2 hd2;exact concat_meets ⟨_,ho,rfl⟩ ⟨_,ho2,rfl⟩ A9 seq_tuple_add F3 C8 (C0 _ _)
  (tuple_addW0 a b its.toArray its2.toArray n n2 dd dd2 sl sl2 (by simp [hv])) ⟨ho,ho2,.ref b,H,I,rfl,q⟩
theorem jR:OpQ X (binaryOp .Add) BW:=(op_add.or (op_catT.or (op_catT0.or RC))).imp λx y H Q ⟨dx,dy,h,Qd,rx,ry,rh,q,p⟩=>by
 cases dx<;>cases dy<;>first
  |exact False.elim q
  |skip
 ·exact .inl ⟨_,_,rx,ry,p (.int _) _ _ _ (.refl H) rh rfl q⟩
 ·rename_i ds es;obtain⟨a,vs,e1,h1,r1⟩:=(show ∃a vs,x= .ref a/\H a=some (.tup vs)/\RelDs X.K H ds vs from rx);obtain⟨b,us,e2,h2,r2⟩:=(show ∃a vs,y= .ref a/\H a=some (.tup vs)/\RelDs X.K H es vs from ry);subst e1 e2;obtain⟨hz,q⟩:=q
  by_cases hv:vs= []
  ·subst hv;have e:ds= []:=F1.mp r1.length;subst e;exact .inr (.inr (.inl ⟨a,b,[],us,rfl,rfl,SqT.of h1,SqT.of h2,rfl,p (.tup es) _ _ _ (.refl H) rh ⟨b,us,rfl,h2,r2⟩ q⟩))
  ·refine .inr (.inl ⟨a,b,vs,us,rfl,rfl,SqT.of h1,SqT.of h2,hv,by rw [<-r1.length,<-r2.length];exact hz,λe=> ?_,λ_ c hc=> ?_⟩)
   ·subst e;have e:es= []:=F1.mp r2.length;subst e;rw [L4] at q;exact p (.tup ds) _ _ _ (.refl H) rh ⟨a,vs,rfl,h1,r1⟩ q
   ·exact p (.tup (ds++es)) _ _ _ (.new hc) (rh.new hc) ⟨c,vs++us,rfl,ju,(r1.append r2).mono (.new hc)⟩ q
 ·rename_i a b;obtain⟨xs,ys,h1,h2,hz,q⟩:=q;obtain⟨vs,e1,r1⟩:=rh a xs h1;obtain⟨us,e2,r2⟩:=rh b ys h2;refine .inr (.inr (.inr ⟨a,b,vs,us,rx.1,ry.1,e1,e2,by rw [<-r1.length,<-r2.length];exact hz,λc hc=> ?_⟩));exact p (.lst c) _ _ _ (.new hc) (rh.newL hc (r1.append r2)) ⟨rfl,_,ju⟩ (q c (rh.free hc))
theorem RelDs.flat {K:PySem.W.Frag}{H:Hp}{ds:List D}{vs:List V}(r:RelDs K H ds vs): ∀k:Nat,RelDs K H (List.replicate k ds).flatten (List.replicate k vs).flatten
 |0=>by simp;exact .nil
 |k+1=>by rw [T2,T2,N0,N0];exact r.append (RelDs.flat r k)
theorem oq_mul:OpQ X (binaryOp .Mult) BY:=(op_mul.or RD).imp λx y H Q ⟨dx,dy,h,Qd,rx,ry,rh,q,p⟩=>by
 cases dx<;>cases dy<;>first
  |exact False.elim q
  |skip
 ·exact .inl ⟨_,_,rx,ry,q.1,p (.int _) _ _ _ (.refl H) rh rfl q.2⟩
 ·obtain⟨xs,h1,b1,b2,hz,q⟩:=q;obtain⟨vs,e1,r1⟩:=rh _ xs h1;refine .inr ⟨_,_,vs,rx.1,ry,e1,b1,b2,by rw [<-r1.length];exact hz,λc hc=> ?_⟩;exact p (.lst c) _ _ _ (.new hc) (rh.newL hc (r1.flat _)) ⟨rfl,_,ju⟩ (q c (rh.free hc))
end
def ixD:RD2:=λx y h Q=>match x,y with
 | .tup ds,.int i=> ∃d,atI ds i=some d/\Q d h
 | .lst a,.int i=> ∃ds d,h a=some ds/\atI ds i=some d/\Q d h
 | .scr ns,.int i=> ∃n,atI ns i=some n/\Q (.int n) h
 |_,_=>False
theorem Xe {K:PySem.W.Frag}{H:Hp}{ds:List D}{vs:List V}(r:RelDs K H ds vs){i:Int}{d:D}(e:atI ds i=some d): ∃v,atI vs i=some v/\RelD K H d v:=by
 unfold atI at e ⊢;rw [<-r.length];cases q:ixN ds.length i with
 |none=>rw [q] at e;cases e
 |some j=>rw [q] at e;exact r.get e
theorem Da {α β:Type}(f:α->β){xs:List α}{i:Int}{x:α}(e:atI xs i=some x):atI (xs.map f) i=some (f x):=by
 unfold atI at e ⊢;rw [G0];cases q:ixN xs.length i with
 |none=>rw [q] at e;cases e
 |some j=>
  rw [q] at e;show (xs.map f)[j]? =_;rw [P1,(show xs[j]? =some x from e)];rfl
section
variable {X:Cx}{a b e:Expr}{ta tb te:TED}{pos p2:Pos}
theorem Be: ∀σ H Q,LE X.K (dOp ixD ta tb) σ H Q->tOp (rIx X.K) (LE X.K ta) (LE X.K tb) σ H Q:=λσ H Q ⟨σd,h,Qd,rs,rh,t,p⟩=>
 LE.bind rs rh t λdx x h1 H1 k1 rs1 rh1 r1 t1=>LE.bind rs1 rh1 t1 λdy y h2 H2 k2 rs2 rh2 ry q=>by
  have rx:=r1.mono k2;have kk:=k1.trans k2;cases dx<;>cases dy<;>first
   |exact False.elim q
   |skip
  ·rename_i ds i;obtain⟨d,e,q⟩:=q;obtain⟨a,vs,e1,hH,r⟩:=(show ∃a vs,x= .ref a/\H2 a=some (.tup vs)/\RelDs X.K H2 ds vs from rx);obtain⟨v,e2,rv⟩:=Xe r e;exact .inr (.inl ⟨a,vs,i,v,e1,ry,SqT.of hH,e2,p _ _ _ _ kk rh2 rv q⟩)
  ·rename_i a i;obtain⟨ds,d,hd,e,q⟩:=q;obtain⟨vs,hH,r⟩:=rh2 a ds hd;obtain⟨v,e2,rv⟩:=Xe r e;exact .inl ⟨a,vs,i,v,rx.1,ry,SqL.of hH,e2,p _ _ _ _ kk rh2 rv q⟩
  ·rename_i ns i;obtain⟨n,e,q⟩:=q;obtain⟨a,e1,hS⟩:=(show ∃a,x= .ref a/\Scr X.K H2 a ns from rx);exact .inl ⟨a,_,i,.int n,e1,ry,hS.sq,Da V.int e,p (.int n) _ _ _ kk rh2 rfl q⟩
theorem qix (ha:QE X a ta)(hb:QE X b tb)(hs:Yi b):QE X (.Subscript a b pos) (dOp ixD ta tb):=(NB Rz ha hb hs).imp Be
end
def Mq:RDn:=λds h Q=>match ds with
 | [.tup xs]=>Q (.int xs.length) h
 | [.lst a]=> ∃xs,h a=some xs/\Q (.int xs.length) h
 | [.scr ns]=>Q (.int ns.length) h
 |_=>False
def Bf:RDn:=λds h Q=>match ds with
 | [.int i]=>Q (.int i) h
 | [.bl k]=>Q (.int (if k then 1 else 0)) h
 |_=>False
def Bg:RDn:=λds h Q=>match ds with
 | [.int i,.int j]=>Q (.int (if j>i then j else i)) h
 |_=>False
def Gy:RDn:=λds h Q=>match ds with
 | [.tup xs]=>Q (.tup xs) h
 | [.lst a]=> ∃xs,h a=some xs/\Q (.tup xs) h
 |_=>False
def JL:RDn:=λds h Q=>match ds with
 | [.lst a]=> ∃xs,h a=some xs/\Q (.tup xs) (wg h a)
 |_=>False
def Mr:RDn:=λds h Q=>match ds with
 | [.tup xs]=> ∀p,h p=none->Q (.lst p) (zm h p xs)
 | [.lst a]=> ∃xs,h a=some xs/\ ∀p,h p=none->Q (.lst p) (zm h p xs)
 |_=>False
section
variable {X:Cx}
theorem zA:wG X (.builtin "len") Mq:=call_len_seq.imp λxs H Q ⟨ds,h,Qd,r,rh,q,p⟩=>by
 unfold Mq at q;split at q
 ·rename_i es;obtain⟨v,e,r1⟩:=jy r;obtain⟨a,vs,e1,hH,r2⟩:=(show ∃a vs,v= .ref a/\H a=some (.tup vs)/\RelDs X.K H es vs from r1);subst e e1;exact⟨a,vs,rfl,.inr (SqT.of hH),by rw [<-r2.length];exact p (.int _) _ _ _ (.refl H) rh rfl q⟩
 ·rename_i a;obtain⟨es,hd,q⟩:=q;obtain⟨v,e,r1⟩:=jy r;obtain⟨vs,hH,r2⟩:=rh a es hd;have e1:v= .ref a:=r1.1;subst e e1;exact⟨a,vs,rfl,.inl (SqL.of hH),by rw [<-r2.length];exact p (.int _) _ _ _ (.refl H) rh rfl q⟩
 ·rename_i ns;obtain⟨v,e,r1⟩:=jy r;obtain⟨a,e1,hS⟩:=(show ∃a,v= .ref a/\Scr X.K H a ns from r1);subst e e1;exact⟨a,_,rfl,.inl hS.sq,by rw [G0];exact p (.int _) _ _ _ (.refl H) rh rfl q⟩
 ·exact q.elim
theorem Gz:wG X (.type "int") Bf:=call_int1.imp λxs H Q ⟨ds,h,Qd,r,rh,q,p⟩=>by
 unfold Bf at q;split at q
 ·rename_i i;obtain⟨v,e,r1⟩:=jy r;cases (show v= .int i from r1);exact .inl ⟨i,e,p (.int i) _ _ _ (.refl H) rh rfl q⟩
 ·rename_i k;obtain⟨v,e,r1⟩:=jy r;cases (show v= .bl k from r1);exact .inr ⟨k,e,p (.int _) _ _ _ (.refl H) rh rfl q⟩
 ·exact q.elim
theorem Ms (hc:X.calm=true):wG X (.builtin "max") Bg:=(UC hc).imp λxs H Q ⟨ds,h,Qd,r,rh,q,p⟩=>by
 unfold Bg at q;split at q
 ·rename_i i j;obtain⟨v,w,e,r1,r2⟩:=wj r;cases (show v= .int i from r1);cases (show w= .int j from r2);exact⟨i,j,e,p (.int _) _ _ _ (.refl H) rh rfl q⟩
 ·exact q.elim
theorem cq_tuple:wG X (.type "tuple") Gy:=call_tuple_of.imp λxs H Q ⟨ds,h,Qd,r,rh,q,p⟩=>by
 unfold Gy at q;split at q
 ·rename_i es;obtain⟨v,e,r1⟩:=jy r;obtain⟨a,vs,e1,hH,r2⟩:=(show ∃a vs,v= .ref a/\H a=some (.tup vs)/\RelDs X.K H es vs from r1);subst e e1;exact⟨a,vs,rfl,.inr ⟨SqT.of hH,p (.tup es) _ _ _ (.refl H) rh ⟨a,vs,rfl,hH,r2⟩ q⟩⟩
 ·rename_i a;obtain⟨es,hd,q⟩:=q;obtain⟨v,e,r1⟩:=jy r;obtain⟨vs,hH,r2⟩:=rh a es hd;have e1:v= .ref a:=r1.1;subst e e1;exact⟨a,vs,rfl,.inl ⟨SqL.of hH,λc hc=>p (.tup es) _ _ _ (.new hc) (rh.new hc) ⟨c,vs,rfl,ju,r2.mono (.new hc)⟩ q⟩⟩
 ·exact q.elim
theorem yw:wG X (.type "tuple") JL:=cq_tuple.imp λxs H Q ⟨ds,h,Qd,r,rh,q,p⟩=>by
 unfold JL at q;split at q
 ·rename_i a;obtain⟨es,hd,q⟩:=q;exact⟨[.lst a],h,λd h'=>Qd d (wg h' a),r,rh,⟨es,hd,q⟩,λd v h' H' k rh' rd q'=>p d v _ H' k (rh'.sub (Sub.drop h' a)) rd q'⟩
 ·exact q.elim
theorem Db:wG X (.type "list") Mr:=call_list_of.imp λxs H Q ⟨ds,h,Qd,r,rh,q,p⟩=>by
 unfold Mr at q;split at q
 ·rename_i es;obtain⟨v,e,r1⟩:=jy r;obtain⟨a,vs,e1,hH,r2⟩:=(show ∃a vs,v= .ref a/\H a=some (.tup vs)/\RelDs X.K H es vs from r1);subst e e1;exact⟨a,vs,rfl,.inr (SqT.of hH),λc hc=>p (.lst c) _ _ _ (.new hc) (rh.newL hc r2) ⟨rfl,_,ju⟩ (q c (rh.free hc))⟩
 ·rename_i a;obtain⟨es,hd,q⟩:=q;obtain⟨v,e,r1⟩:=jy r;obtain⟨vs,hH,r2⟩:=rh a es hd;have e1:v= .ref a:=r1.1;subst e e1;exact⟨a,vs,rfl,.inl (SqL.of hH),λc hc=>p (.lst c) _ _ _ (.new hc) (rh.newL hc r2) ⟨rfl,_,ju⟩ (q c (rh.free hc))⟩
 ·exact q.elim
end
def Wb:D->Option String
 | .non=>some "NoneType" | .bl _=>some "bool" | .int _=>some "int" | .str _=>some "str" | .tup _=>some "tuple" | .lst _=>some "list" | .dic _ _=>some "dict" | .dct _=>none| .scr _=>none| .exc _=>none| .fn _=>none
def Mt (T:String)(n:String):Bool:=n==T||(T== "int" &&n== "bool")
theorem QH {K:PySem.W.Frag}{H:Hp}{d:D}{v:V}{n:String}(r:RelD K H d v)(e:Wb d=some n):TyOf K H v (.type n):=by
 cases d with
 |non=>cases (show v= .non from r);cases e;exact .non
 |bl b=>cases (show v= .bl b from r);cases e;exact .bl b
 |int i=>cases (show v= .int i from r);cases e;exact .int i
 |str x=>cases (show v= .str x from r);cases e;exact .str x
 |tup ds=>
  obtain⟨a,vs,e1,hH,_⟩:=(show ∃a vs,v= .ref a/\H a=some (.tup vs)/\RelDs K H ds vs from r);subst e1;cases e;exact .tup hH
 |lst a=>
  obtain⟨e1,vs,hH⟩:=(show v= .ref a/\ ∃vs,H a=some (.lst vs) from r);subst e1;cases e;exact .lst hH
 |dic x i=>
  obtain⟨a,e1,hH⟩:=(show ∃a,v= .ref a/\H a=some (.dK [(Sum.inr x,V.int i)]) from r);subst e1;cases e;exact .dK hH
 |dct a=>cases e
 |scr ns=>cases e
 |exc C=>cases e
 |fn a=>cases e
def Dc:List String:= ["NoneType","bool","int","str","tuple","list","dict"]
theorem VR {d:D}{n:String}(e:Wb d=some n):n∈Dc:=by
 cases d<;>cases e<;>decide
def Bh (K:PySem.W.Frag):Prop:= ∀n∈Dc,∀T∈ ["tuple","int","bool","list","str"],PySem.W.kitOne K (.type n) (.type T)=some (Mt T n)
theorem De (K:PySem.W.Frag):Bh K:=by
 intro n hn T hT;simp only [Dc,P0,D2,M3] at hn hT;rcases hn with rfl|rfl|rfl|rfl|rfl|rfl|rfl<;>rcases hT with rfl|rfl|rfl|rfl|rfl<;>with_unfolding_all rfl
theorem Xf {X:Cx}(T:String):CallR X (.builtin "isinstance") (λxs H Q=> ∃x t b,xs= [x,.ty T]/\TyOf X.K H x t/\PySem.W.kitOne X.K t (.type T)=some b/\Q (.bl b) H):=by
 intro pins s σ H xs us Q I r h;obtain⟨x,t,b,rfl,ty,e,q⟩:=h;obtain⟨u,w',rfl,rx,rt⟩:=Qs r;cases (show w'=Value.type T from rt);exact UE I rx ty e λtk=>⟨.bl b,H,I.tok tk,rfl,q⟩
def dIs (T:String)(ta:TED):TED:=λσ h Q=>ta σ h λx h1=> ∃n,Wb x=some n/\Q (.bl (Mt T n)) h1
theorem Bi {X:Cx}{a:Expr}{ta:TED}{T:String}{t:Str}{p p2 pos:Pos}(hT:T∈ ["tuple","int","bool","list","str"])(hg:Gl X "isinstance")(hm:X.mg "isinstance" =none)(hg2:Gl X t)(hm2:X.mg t=none)(hv:bootBuiltins t=some (.type T))(ha:QE X a ta)
 (hn:t≠ "__name__" :=by decide)(hd:(t==("__debug__" :Str))=false:=by decide)
 (h1:starEach [a,.Name t p2] X.env=(false,eval a X.env)::starEach [.Name t p2] X.env:=by rfl)(h2:(backTo pos (starEach [.Name t p2] X.env)).any (·.1)=false:=by rfl):
 QE X (.Call (.Name "isinstance" p) [a,.Name t p2] [] pos) (dIs T ta):=
 (Ve (Xf T) hg hm PyProof.Rows.boot_isinstance (yK ha (yK (GQ (v:= .ty T) hg2 hm2 hv rfl hn hd) pa_nil (by rfl)) h1) (by decide) (by decide) h1 h2).imp
  λσ H Q ⟨σd,h,Qd,rs,rh,t,p⟩=>LE.bind rs rh t λd v h1 H1 k1 rs1 rh1 r1 ⟨n,e,q⟩=>⟨v,.type n,Mt T n,rfl,QH r1 e,De _ n (VR e) T hT,p (.bl _) _ _ _ k1 rh1 rfl q⟩
theorem Xg (bs:List Bool):(List.range bs.length).all (λi=>bs.getD i false)=bs.all id:=by
 induction bs with
 |nil=>rfl
 |cons b bs ih=>
  rw [D0,List.range_succ_eq_map,List.all_cons,C1,List.all_cons];show (b&&_)=(b&&bs.all id);rw [<-ih];rfl
theorem Xh {bs:List Bool}{its:List Value}(r:Vals (bs.map V.bl) its){i:Nat}{v:Value}(e:its[i]? =some v):v= .bool (bs.getD i false):=by
 have hl:=r.length;rw [G0] at hl;have hi:i<its.length:=(G9.mp e).1;have hb:(bs.map V.bl)[i]? =some (.bl bs[i]):=by rw [P1,G2 (by omega)];rfl
 obtain⟨u,e1,r1⟩:=r.get hb;rw [e] at e1;cases e1;rw [R0,G2 (by omega)];exact r1
section
variable {X:Cx}
theorem Zb (hc:X.calm=true):CallR X (.builtin "all") (λxs H Q=> ∃ (a:Addr) (bs:List Bool),xs= [.ref a]/\SqL X.K H a (bs.map V.bl)/\Q (.bl (bs.all id)) H):=by
 intro pins s σ H xs us Q I r h;obtain⟨a,bs,rfl,hS,q⟩:=h;obtain⟨u,rfl,ru⟩:=Jq r;cases ru;obtain⟨its,rv,pl,hz⟩:=I.list hS;have hl:=pl.isList;have hlt:a<s.heap.objs.size:=by obtain⟨_,e,_⟩:=hl;exact P3 e
 refine call_all_walk (A0 hl ?_);refine⟨s.heap.objs.size,_,_,_,_,_,λi=>bs.getD i false,rfl,Walks.list (A:=X.A.in1) (show X.A.in1.handled=none from I.ok.hd hc) s.heap.objs.size a (D5 hlt) its.toArray,⟨⟨_,D4 _ rfl,rfl,rfl⟩,hl.push _⟩,?_,λh' tk hk=> ?_⟩
 ·intro i v s' Q' E' hP hQ;have e:its[i]? =some v:=by simpa using hP
  rw [Xh rv e];exact S5 hQ
 ·have hn:its.toArray.size=bs.length:=by rw [G7,<-rv.length,G0]
  rw [hn,Xg];exact⟨.bl _,H,I.kept (t':=tk) (λb o e=>hk b o (λz=>by rw [G5.mp z] at e;exact absurd (P3 e) (T4 _)) (G3 _ e)),rfl,q⟩
theorem vV {K:PySem.W.Frag}{H:Hp}: ∀ {bs:List Bool} {vs:List V},RelDs K H (bs.map D.bl) vs->vs=bs.map V.bl
 | [],_,h=>h
 |b::bs,vs,h=>by
  obtain⟨v,r,e,h1,h2⟩:=(show ∃v r,vs=v::r/\RelD K H (.bl b) v/\RelDs K H (bs.map D.bl) r from h);rw [e,vV h2,(show v= .bl b from h1)];rfl
def Mu:RDn:=λds h Q=> ∃ (a:Addr) (bs:List Bool),ds= [.lst a]/\h a=some (bs.map D.bl)/\Q (.bl (bs.all id)) (wg h a)
theorem JM (hc:X.calm=true):wG X (.builtin "all") Mu:=(Zb hc).imp λxs H Q ⟨ds,h,Qd,r,rh,⟨a,bs,e,hd,q⟩,p⟩=>by
 subst e;obtain⟨v,e,r1⟩:=jy r;obtain⟨vs,hH,r2⟩:=rh a _ hd;have e1:v= .ref a:=r1.1;rw [vV r2] at hH;subst e e1;exact⟨a,bs,rfl,SqL.of hH,p (.bl _) _ _ _ (.refl H) (rh.sub (Sub.drop h a)) rfl q⟩
end
def BZ (to:TED)(te:TED):TED:=λσ h Q=>to σ h λx h1=> ∃a,x= .lst a/\te σ h1 λy h2=> ∃xs,h2 a=some xs/\xs.length<sizeLine/\Q .non (zm h2 a (xs++ [y]))
section
variable {X:Cx}{o e i:Expr}{to te ti:TED}{apos cpos pos:Pos}
theorem CM (ho:QE X o to)(he:QE X e te)(hbase:attributeBase o "append" X.env (eval o X.env)=eval o X.env:=by rfl)
 (hfew:((backTo cpos (starEach [e] X.env)).all (λx=> !x.1)&&(backToKw cpos (keywordEach [] X.env)).all (λx=>x.1.isSome)&&decide ([e].length+([]:List Keyword).length+(if ([]:List Keyword).isEmpty then 0 else 1)<30))=true:=by rfl)
 (hline:(apos.endLine==cpos.line)=true:=by rfl)(hs:starEach [e] X.env=(false,eval e X.env)::starEach [] X.env:=by rfl)(hplain:(backTo cpos (starEach [] X.env)).any (·.1)=false:=by rfl):
 QE X (.Call (.Attribute o "append" apos) [e] [] cpos) (BZ to te):=
 (RB A6 PySem.F.slot_list_append PySem.F.type_list_append UK ho (yK he pa_nil hs) hbase hfew hline hs hplain).imp
  λσ H Q ⟨σd,h,Qd,rs,rh,t,p⟩=>LE.bind rs rh t λd v h1 H1 k1 rs1 rh1 r1 ⟨a,e,q⟩=>by
   subst e;obtain⟨e1,vs,hH⟩:=(show v= .ref a/\ ∃vs,H1 a=some (.lst vs) from r1);subst e1;refine⟨.inl ⟨rfl,vs,SqL.of hH⟩,?_⟩;refine LE.bind rs1 rh1 q λy u h2 H2 k2 rs2 rh2 r2 ⟨xs,hx,hz,q2⟩=> ?_
   obtain⟨ws,hW,r3⟩:=rh2 a xs hx;refine⟨a,ws,u,rfl,rfl,hW,by rw [<-r3.length];exact hz,p .non _ _ _ (k1.trans (k2.trans (.put hW))) (rh2.put hW (r3.append (.cons r2 .nil))) rfl q2⟩
def Mv (to ti:TED):TGD:=λd σ h Q=>to σ h λo h1=>ti σ h1 λi h2=> ∃a k xs j,o= .lst a/\i= .int k/\h2 a=some xs/\ixN xs.length k=some j/\Q σ (zm h2 a (xs.set j d))
theorem Mw (ho:QE X o to)(hi:QE X i ti)
 (ha: ∀v,assign (.Subscript o i pos) X.env v=(do
  let ov <-holding [v] (eval o X.env)
  let iv <-holding [v,ov] (eval i X.env)
  standAt pos
  holding [v,ov,iv] (setItem ov iv v)
  release [v,ov,iv] []):=by intro _;rfl):QG X (.Subscript o i pos) (Mv to ti):=
 (Rg ho hi Qw ha).imp λv σ H Q ⟨d,σd,h,Qd,r,rs,rh,q,p⟩=>
  LE.bind rs rh q λd1 v1 h1 H1 k1 rs1 rh1 r1 q1=>LE.bind rs1 rh1 q1 λd2 v2 h2 H2 k2 rs2 rh2 r2 ⟨a,k,xs,j,e1,e2,hx,hj,q2⟩=>by
   subst e1 e2;have e3:v1= .ref a:=(r1.mono k2).1;obtain⟨ws,hW,r3⟩:=rh2 a xs hx;refine⟨a,ws,k,j,e3,r2,hW,by rw [<-r3.length];exact hj,p _ _ _ _ (k1.trans (k2.trans (.put hW))) (rs2.mono (.put hW)) (rh2.put hW (RelDs.set ((r.mono k1).mono k2) j r3)) q2⟩
end
def GA (N:List Str)(sc:List (Str×NameKind))(scope:Scope)(js:List Nat):Bool:=
 scope.kind== .function&&scope.names.all (λp=>p.2 != .cell||scope.names.lookup p.1==some .cell)&&scope.names.all (λp=>p.2 != .local||scope.names.lookup p.1==some .local)&&
 scope.names.all (λp=>p.2 != .free||sc.lookup p.1==some .cell||sc.lookup p.1==some .free)&&
 (List.range N.length).all λi=>(scope.names.lookup (N.getD i Str.empty) !=some .local&&scope.names.lookup (N.getD i Str.empty) !=some .cell)||js.contains i
theorem jA {X:Cx}{scope:Scope}{js:List Nat}(h:GA X.N X.env.scope.names scope js=true):BlockOk X scope js:=by
 unfold GA at h;simp only [R4] at h;obtain⟨⟨⟨⟨h1,h2⟩,h3⟩,h4⟩,h5⟩:=h;refine⟨eq_of_beq h1,λp hp e=> ?_,λp hp e=> ?_,λp hp e=> ?_,λi x e1 e2=> ?_⟩
 ·have:=R1.mp h3 p hp;rw [e] at this;simpa using this
 ·have:=R1.mp h2 p hp;rw [e] at this;simpa using this
 ·have:=R1.mp h4 p hp;rw [e] at this;simpa using this
 ·have hi:i<X.N.length:=(G9.mp e1).1;have:=R1.mp h5 i (S3.mpr hi);rw [R0,e1,Option.getD_some] at this;rcases e2 with e2|e2<;>(rw [e2] at this;simpa using this)
theorem qpt {X:Cx}{e:Expr}{t:TTD}(h:QW X e t):QT X e t:=h.pt
theorem Xi {i:Nat}{js:List Nat}{ti:TID}{te:TED}{σ:SD}{h h1:HD}{Q:KD}{ds:List D}{j:ItD}(f:D->D)(hz:ds.length<=sizeLine)(hj:j h1=some ds)
 (ht: ∀R:ItD->HD->Prop,R j h1->ti σ h R)(he: ∀d∈ds,∀Q':KD,Q' (f d) h1->te ((jZ js σ).set i (some d)) h1 Q')(hq: ∀p,h1 p=none->Q (.lst p) (zm h1 p (ds.map f))):Wa (bN i) js ti ZZ te σ h Q:=by
 refine ht _ ⟨ds.length,λk ys h'=>h'=h1/\ys=(ds.take k).map f,⟨rfl,by simp⟩,?_⟩;rintro k ys h' ⟨rfl,rfl⟩;refine⟨by simp only [G0,M5];omega,ds,hj,G4 _,λhl p hp=> ?_,λd hd=>⟨_,rfl,?_⟩⟩
 ·rw [S2 hl];exact hq p hp
 ·unfold ZZ;dsimp only;rw [if_pos rfl];refine he d (D7 hd) _ ⟨h',Sub.refl _,rfl,?_⟩;rw [N2,hd];simp
end L2
namespace HT
open PySem PySem.Spec PyProof.Rows
section
variable {prog:Program}{w:World}{A:Around}{E:Value->Shared->Prop}{s:Shared}
theorem wS {t sl:Addr}{items:Array Value}{vl vu:Value}{lo hi:Option Int}{Q:Value->Shared->Prop}(ht:IsTup s.heap t items)(hs:s.heap.IsSliceOf sl vl vu .none)(pl:IsPart vl lo)(pu:IsPart vu hi)
 (hw:sIx items.size 0 lo=0/\sIx items.size items.size hi=items.size)(h:Q (.ref t) s):wpAny (model prog w) A (getItem (.ref t) (.ref sl)) Q E s:=by
 obtain⟨os,hos,hcs,hds⟩:=id hs;have hTs:s.TypeIs (.ref sl) "slice" :=⟨os,hos,hcs⟩;unfold getItem
 try with_reducible refine B4 ?_
 first|refine wpAny_bind (P6 ?_)|skip
 refine wpAny_bind (wpAny_sequenceKey ht.typeIs (by decide) ?_);refine wpAny_bind (N6 (name:=Str.ofString "__getitem__") ht.typeIs T1
  (M6 T1 ht.typeIs entry_tuple_getitem ?_ (args_tuple_getitem _ _)))
 show wpAny _ _ (Builtin.Tuple.tupleItemsOf (.ref t) >>= _) _ _ s;refine wpAny_bind (tupleItemsOf_ ht ?_);refine wpAny_bind (wpAny_typeOf hTs ?_);rw [if_pos (by decide)];refine wpAny_bind (wa hs pl pu ?_);have hyes:((((sIx items.size 0 lo:Nat):Int)==0&&(1:Int)==1&&(sIx items.size items.size hi-sIx items.size 0 lo)==items.size)=true):=by
  rw [hw.1,hw.2];simp
 show wpAny _ _ (if (((sIx items.size 0 lo:Nat):Int)==0&&(1:Int)==1&&(sIx items.size items.size hi-sIx items.size 0 lo)==items.size)=true then _ else _) _ _ s;rw [if_pos hyes];refine wpAny_bind (m:=Builtin.Tuple.tupleIsExact (.ref t)) ?_;unfold Builtin.Tuple.tupleIsExact;refine wpAny_bind (wpAny_typeOf ht.typeIs (P6 ?_));rw [if_pos (by decide)];exact wpAny_bind (J6 (P6 ⟨_,rfl,P6 h⟩))
end
end HT
namespace L2
open PySem PySem.Spec PyProof.Rows
def CN (K:PySem.W.Frag):V->Option Int->Option Int->Hp->VK->Prop:=λx lo hi H Q=> ∃a xs,x= .ref a/\SqT K H a xs/\(HT.sIx xs.length 0 lo=0/\HT.sIx xs.length xs.length hi=xs.length)/\Q (.ref a) H
variable {X:Cx}
theorem sl_whole:SlR X (CN X.K):=by
 intro pins s σ H x v vl vu lo hi sl Q I rx hs pl pu h;obtain⟨a,xs,rfl,hx,hw,q⟩:=h;cases rx;obtain⟨its,r,ht,hz⟩:=I.tuple hx;have hlen:its.toArray.size=xs.length:=by rw [G7];exact r.length.symm
 refine⟨"tuple",_,PyProof.Rows.slot_tuple_getitem.lookup,ht.typeIs,?_⟩;exact HT.wS ht hs pl pu (by rw [hlen];exact hw) ⟨.ref a,H,I,rfl,q⟩
def Jr {α:Type}(xs:List α)(lo hi:Option Int):List α:=(xs.drop (HT.sIx xs.length 0 lo)).take (HT.sIx xs.length xs.length hi-HT.sIx xs.length 0 lo)
abbrev TOD:=SD->HD->(Option Int->HD->Prop)->Prop
def Xj:TOD:=λ_ h Q=>Q none h
def Mx (t:TED):TOD:=λσ h Q=>t σ h λx h1=> ∃i,x= .int i/\Q (some i) h1
def LO (K:PySem.W.Frag)(t:TOD):TO:=λσ H Q=> ∃σd h Qd,RelS K H σd σ/\RelH K h H/\t σd h Qd/\ ∀o h' H',Kept H H'->RelH K h' H'->Qd o h'->Q o H'
theorem LO.bind {K:PySem.W.Frag}{ta:TOD}{σ:St}{H:Hp}{σd:SD}{h:HD}{kd:Option Int->HD->Prop}{k:Option Int->Hp->Prop}(rs:RelS K H σd σ)(rh:RelH K h H)(t:ta σd h kd)(f: ∀o h' H',Kept H H'->RelS K H' σd σ->RelH K h' H'->kd o h'->k o H'):LO K ta σ H k:=
 ⟨σd,h,kd,rs,rh,t,λo h' H' kp r1 q=>f o h' H' kp (rs.mono kp) r1 q⟩
theorem PO.imp {e:Option Expr}{t t':TO}(h:PO X e t)(i: ∀σ H Q,t' σ H Q->t σ H Q):PO X e t':=λpins s σ H Q I q=>h pins s σ H Q I (i σ H Q q)
abbrev QO (X:Cx)(e:Option Expr)(t:TOD):Prop:=PO X e (LO X.K t)
theorem Df:QO X none Xj:=po_none.imp λσ H Q ⟨σd,h,Qd,rs,rh,q,p⟩=>p none h H (.refl H) rh q
theorem Dg {e:Expr}{te:TED}(he:QE X e te):QO X (some e) (Mx te):=(Pf he).imp λσ H Q ⟨σd,h,Qd,rs,rh,q,p⟩=>
 LE.bind rs rh q λd v h1 H1 k1 rs1 rh1 r1 ⟨i,e,q1⟩=>by subst e;exact⟨i,r1,p _ _ _ k1 rh1 q1⟩
def slD:D->Option Int->Option Int->HD->KD->Prop:=λx lo hi h Q=>match x with
 | .tup ds=>Q (.tup (Jr ds lo hi)) h
 | .scr ns=> ∀p,h p=none->Q (.lst p) (zm h p ((Jr ns lo hi).map D.int))
 | .lst a=> ∃ds,h a=some ds/\ ∀p,h p=none->Q (.lst p) (zm h p (Jr ds lo hi))
 |_=>False
def dSl (te:TED)(tl th:TOD):TED:=λσ h Q=>te σ h λx h1=>tl σ h1 λl h2=>th σ h2 λu h3=>slD x l u h3 Q
theorem Zc {K:PySem.W.Frag}{H:Hp}{ds:List D}{vs:List V}(r:RelDs K H ds vs)(lo hi:Option Int):RelDs K H (Jr ds lo hi) (XW vs lo hi):=by
 unfold Jr XW;rw [r.length];exact(r.drop _).take _
theorem Dh {α β:Type}(f:α->β)(xs:List α)(lo hi:Option Int):Jr (xs.map f) lo hi=(Jr xs lo hi).map f:=by
 unfold Jr;rw [G0,List.map_take,List.map_drop]
theorem Mz {e:Expr}{te:TED}{lo hi:Option Expr}{tl th:TOD}{pos p2:Pos}(he:QE X e te)(hl:QO X lo tl)(hu:QO X hi th):QE X (.Subscript e (.Slice lo hi none p2) pos) (dSl te tl th):=
 (Qu (sl_tup.or (sl_whole.or Pg)) he hl hu).imp λσ H Q ⟨σd,h,Qd,rs,rh,q,p⟩=>
  LE.bind rs rh q λd v h1 H1 k1 rs1 rh1 r1 q1=>LO.bind rs1 rh1 q1 λl h2 H2 k2 rs2 rh2 q2=>LO.bind rs2 rh2 q2 λu h3 H3 k3 rs3 rh3 q3=>by
   have rv:=(r1.mono k2).mono k3;have kk:=k1.trans (k2.trans k3);cases d<;>first
    |exact False.elim q3
    |skip
   ·rename_i ds;obtain⟨a,vs,e1,hH,r⟩:=(show ∃a vs,v= .ref a/\H3 a=some (.tup vs)/\RelDs X.K H3 ds vs from rv)
    by_cases hw:HT.sIx vs.length 0 l=0/\HT.sIx vs.length vs.length u=vs.length
    ·refine .inr (.inl ⟨a,vs,e1,SqT.of hH,hw,p (.tup (Jr ds l u)) _ _ _ kk rh3 ⟨a,vs,rfl,hH,?_⟩ q3⟩);have z:=Zc r l u;have e:XW vs l u=vs:=by unfold XW;rw [hw.1,hw.2];simp
     rwa [e] at z
    ·exact .inl ⟨a,vs,e1,SqT.of hH,hw,λc hc=>p (.tup (Jr ds l u)) _ _ _ (kk.trans (.new hc)) (rh3.new hc) ⟨c,_,rfl,ju,(Zc r l u).mono (.new hc)⟩ q3⟩
   ·rename_i a;obtain⟨ds,hd,q3⟩:=q3;obtain⟨vs,hH,r⟩:=rh3 a ds hd;exact .inr (.inr ⟨a,vs,rv.1,SqL.of hH,λc hc=>p (.lst c) _ _ _ (kk.trans (.new hc)) (rh3.newL hc (Zc r l u)) ⟨rfl,_,ju⟩ (q3 c (rh3.free hc))⟩)
   ·rename_i ns;obtain⟨a,e1,hS⟩:=(show ∃a,v= .ref a/\Scr X.K H3 a ns from rv);refine .inr (.inr ⟨a,_,e1,hS.sq,λc hc=>p (.lst c) _ _ _ (kk.trans (.new hc)) (rh3.newL hc ?_) ⟨rfl,_,ju⟩ (q3 c (rh3.free hc))⟩);have z:=Zc (zL (K:=X.K) (H:=H3) ns) l u
    rwa [Dh] at z
end L2
namespace HT
open PySem PySem.Spec PyProof.Rows
open Sem (wp)
open Builtin
theorem vq:fillsNumberSlot (.type "tuple") "mul" =pure false:=
 PySem.fillsNumberSlot_seq (id:= "tuple.__mul__") (r:=some (.builtin "tuple.__rmul__")) F.slot_tuple_mul.lookup (by decide +kernel) F.slot_tuple_rmul.lookup (by decide +kernel)
theorem Wc:seqRepeat? (.type "tuple")=pure (some (.builtin "tuple.__mul__")):=by
 unfold seqRepeat?;rw [PySem.seqSlot_of (T:= "tuple") (name:= "__mul__") (id:= "tuple.__mul__") F.slot_tuple_mul.lookup (by decide +kernel),PySem.seqSlot_of (T:= "tuple") (name:= "__rmul__") (id:= "tuple.__rmul__") F.slot_tuple_rmul.lookup (by decide +kernel)];rfl
section
variable {prog:Program}{w:World}{A:Around}{E:Value->Shared->Prop}{s:Shared}
theorem Zd {k:Int}{t:Tok}{l:Addr}{o:Obj}{its:Array Value}{n:Nat}{P:PySem.Fin->Shared->Prop}(at_:s.heap.get? l=some o)(tup:o.cls= .type "tuple")(dat:o.data= .seq its n)(h:P (.done (.ret .notImplemented)) s):wpAny (model prog w) A (Builtin.«int.__rmul__» ⟨[.int k t,.ref l],[]⟩) P E s:=by
 obtain⟨c,dd,dt,sl⟩:=o;cases tup;cases dat;obtain⟨hp,g,d,tk,os⟩:=s
 wp_walk
 exact h
theorem Yo {l:Addr}{its:Array Value}{n:Nat}{x:Int}{u:Tok}{dd:Option Addr}{sl:Array (Option Value)}{P:PySem.Fin->Shared->Prop}(at_:s.heap.get? l=some {cls:= .type "tuple",dict:=dd,data:= .seq its n,slots:=sl})(fits: -(2^63)<=x/\x<2^63)
 (same:(its.isEmpty||x==1)=true->P (.done (.ret (.ref l))) s)
 (gone:(its.isEmpty||x==1)=false->(decide (x<=0)||its.isEmpty)=true->P (.done (.ret (.ref s.heap.objs.size))) {s with heap:=s.heap.push {cls:= .type "tuple",data:= .seq #[]}})
 (more:(its.isEmpty||x==1)=false->(decide (x<=0)||its.isEmpty)=false-> ¬ (its.size:Int)*x>(2^63-1) / 8/\Builtin.Tuple.tupleTooMany ((its.size:Int)*x)=false/\((List.replicate x.toNat its).foldl (· ++ ·) #[]).size<=sizeLine/\
  P (.done (.ret (.ref s.heap.objs.size))) {s with heap:=s.heap.push {cls:= .type "tuple",data:= .seq ((List.replicate x.toNat its).foldl (· ++ ·) #[])}}):
 wpAny (model prog w) A (Builtin.«tuple.__mul__» ⟨[.ref l,.int x u],[]⟩) P E s:=by
 obtain⟨hp,g,d,tk,os⟩:=s
 wp_walk
 rw [if_neg (by simp only [L7,F7];omega)]
 wp_walk
 cases c1:(its.isEmpty||x==1) with
 |true=>
  rw [if_pos rfl]
  wp_walk
  exact same c1
 |false=>
  rw [if_neg G6];cases c2:(decide (x<=0)||its.isEmpty) with
  |true=>
   rw [if_pos rfl]
   wp_walk
   exact gone c1 c2
  |false=>
   obtain⟨m1,m2,m3,m4⟩:=more c1 c2;rw [if_neg G6];dsimp only;rw [if_neg m1,m2,if_neg G6]
   wp_walk
   exact m4
end
end HT
namespace L2
open PySem PySem.Spec PyProof.Rows
def Bj (K:PySem.W.Frag):R2:=λx y H Q=> ∃ (a:Addr) (k:Int) (xs:List V),x= .ref a/\y= .int k/\SqT K H a xs/\ -(2^63)<=k/\k<2^63/\xs.length*k.toNat<=sizeLine/\
 ((xs= []\/k=1)->Q (.ref a) H)/\(¬ (xs= []\/k=1)-> ∀p,H p=none->Q (.ref p) (upd H p (.tup (List.replicate k.toNat xs).flatten)))
theorem vE {l:List Value}:l.toArray= #[]↔l= []:=by cases l<;>simp
variable {X:Cx}
theorem Di:OpR X (binaryOp .Mult) (Bj X.K):=by
 intro pins s σ H x y v u Q I rx ry h;obtain⟨a,k,xs,rfl,rfl,hH,h1,h2,hz,q1,q2⟩:=h;cases rx;obtain⟨t,rfl⟩:=ry;obtain⟨its,r,ht,_⟩:=I.tuple hH;obtain⟨⟨cls,dd,data,sl⟩,ho,hc,n,hd⟩:=id ht;simp only at hc hd;subst hc hd;have hl:=r.length;have hnew:(List.replicate k.toNat its.toArray).foldl (· ++ ·) #[]=(List.replicate k.toNat its).flatten.toArray:=by
  have:=vL its k.toNat [];rw [S7] at this;exact this
 have few:its.length*k.toNat<=sizeLine:=by rw [<-hl];exact hz
 have free:=I.hok.fresh (G4 _);refine O9 (T:= "tuple") (U:= "int") (by decide) ⟨_,ho,rfl⟩ (λs'=>I0 s' k t) HT.vq F.fills_int_mul L5 HT.Wc F.slot_int_index.lookup
  (M6 L5 (I0 s k t) F.entry_int_rmul (HT.Zd ho rfl rfl ⟨_,rfl,rfl,⟨_,ho,rfl⟩,M6 F.slot_tuple_mul ⟨_,ho,rfl⟩ F.entry_tuple_mul (HT.Yo ho ⟨h1,h2⟩ (λc=> ?_) (λc c0=> ?_) (λc c0=> ?_)) (F.args_tuple_mul_2 _ _)⟩) (F.args_int_rmul_2 _ _))
 ·refine⟨_,rfl,.ref a,H,I,rfl,q1 ?_⟩;simp only [L7,beq_iff_eq,Array.isEmpty_iff,vE] at c;exact c.imp (λe=>r.nil_iff.mp e) id
 ·simp only [J0,N4,O4,ne_eq,vE] at c;have k0:k.toNat=0:=by
   simp only [L7,F7,Array.isEmpty_iff,vE] at c0;have:=c0.resolve_right c.1;omega
  have last:=q2 (λz=>z.elim (λe=>c.1 (r.nil_iff.mpr e)) c.2) _ free;rw [k0] at last;exact⟨_,rfl,.ref s.heap.objs.size,_,I.laid (t':=s.toks) (o:= .tup []) (λb ob q=>G3 _ q) (G4 _) ⟨by decide,[],.nil,IsTupN.new _ _⟩,rfl,last⟩
 ·simp only [J0,N4,O4,ne_eq,vE,decide_eq_false_iff_not] at c c0;have em:((its.toArray.size:Nat):Int)*k=((its.length*k.toNat:Nat):Int):=by rw [Int.natCast_mul,G7,show ((k.toNat:Nat):Int)=k by omega]
  have cap:(sizeLine:Nat)<=(2^63-1) / 8:=by decide
  rw [em,hnew];refine⟨by omega,by unfold Builtin.Tuple.tupleTooMany;exact decide_eq_false (by omega),by rw [List.size_toArray,Yj,Nat.mul_comm];exact few,_,rfl,.ref s.heap.objs.size,_,I.laid (t':=s.toks) (o:= .tup (List.replicate k.toNat xs).flatten) (λb ob q=>Heap.get?_push_of_some _ q) (Nat.le_refl _) ⟨by rw [Yj,Nat.mul_comm];exact hz,_,r.rep k.toNat,IsTupN.new _ _⟩,rfl,q2 (λz=>z.elim (λe=>c.1 (r.nil_iff.mpr e)) c.2) _ free⟩
def Ca:RD2:=λx y h Q=>match x,y with
 | .tup ds,.int k=> -(2^63)<=k/\k<2^63/\ds.length*k.toNat<=sizeLine/\Q (.tup (List.replicate k.toNat ds).flatten) h
 |x,y=>BY x y h Q
theorem vW:OpQ X (binaryOp .Mult) Ca:=(oq_mul.or Di).imp λx y H Q ⟨dx,dy,h,Qd,rx,ry,rh,q,p⟩=>by
 by_cases ht: ∃ds k,dx= .tup ds/\dy= .int k
 ·obtain⟨ds,k,e1,e2⟩:=ht;subst e1 e2;obtain⟨b1,b2,hz,q⟩:=q;obtain⟨a,vs,e,hH,r⟩:=(show ∃a vs,x= .ref a/\H a=some (.tup vs)/\RelDs X.K H ds vs from rx);refine .inr ⟨a,k,vs,e,ry,SqT.of hH,b1,b2,by rw [<-r.length];exact hz,λhs=> ?_,λ_ c hc=>p (.tup _) _ _ _ (.new hc) (rh.new hc) ⟨c,_,rfl,ju,(r.flat _).mono (.new hc)⟩ q⟩;refine p (.tup _) _ _ _ (.refl H) rh ⟨a,vs,rfl,hH,?_⟩ q;rcases hs with e0|e1
  ·subst e0;have:ds= []:=F1.mp r.length;subst this;simpa using r
  ·subst e1;simpa using r
 ·refine .inl ⟨dx,dy,h,Qd,rx,ry,rh,?_,p⟩;unfold Ca at q;split at q
  ·exact absurd ⟨_,_,rfl,rfl⟩ ht
  ·exact q
def Bk:D->HD->KD->Prop:=λx h Q=>match x with
 | .int i=>Q (.int (-i)) h
 |_=>False
def dUn (f:D->HD->KD->Prop)(ta:TED):TED:=λσ h Q=>ta σ h λx h1=>f x h1 Q
theorem CO {a:Expr}{ta:TED}{pos:Pos}(ha:QE X a ta):QE X (.UnaryOp .USub a pos) (dUn Bk ta):=
 (Nt Rr ha).imp λσ H Q ⟨σd,h,Qd,rs,rh,t,p⟩=>LE.bind rs rh t λd v h1 H1 k1 rs1 rh1 r1 q=>by
  cases d<;>first
   |exact False.elim q
   |exact⟨_,r1,p (.int _) _ _ _ k1 rh1 rfl q⟩
def Vj (x:Str)(i:Int):TED:=λ_ h Q=>Q (.dic x i) h
variable {p:Addr}
theorem Vk {H:Hp}{a b:HO}:upd (upd H p a) p b=upd H p b:=by
 funext q;unfold upd;split<;>rfl
variable {x:Str}
theorem MA {i:Int}{j k:Nat}{pos p1 p2:Pos}:QE X (.Dict [some (.Constant (.str x) j p1)] [.Constant (.int i) k p2] pos) (Vj x i):=by
 have h0:PPs X pos [some (.Constant (.str x) j p1)] [.Constant (.int i) k p2] [(tC (.str x),tC (.int i))]:=Vf pe_str pe_int UQ;refine PE.imp (UR h0 rfl rfl (by simp) (by simp)) ?_;rintro σ H Q ⟨σd,h,Qd,rs,rh,t,p⟩ q hq;show upd H q (.dK []) q=some (.dK [])/\_;refine⟨ju,[((Sum.inr x:Key),V.int i)],rfl,by simp,?_⟩;rw [Vk];exact p (.dic x i) (.ref q) h _ (.new hq) (rh.new hq) ⟨q,rfl,ju⟩ t
def Yp:List (Option Expr)->List Expr->Option (Str×Int)
 | [some (.Constant (.str x) _ _)],[.Constant (.int i) _ _]=>some (x,i)
 |_,_=>none
theorem MB {ks:List (Option Expr)}{vs:List Expr}{pos:Pos}{i:Int}(h:Yp ks vs=some (x,i):=by rfl):QE X (.Dict ks vs pos) (Vj x i):=by
 unfold Yp at h;split at h
 ·cases h;exact MA
 ·cases h
def MC (K:PySem.W.Frag)(tl:TE):TI:=λσ H R=>tl σ H λx H1=> ∃a,x= .ref a/\((∃xs,SqL K H1 a xs/\R (Itl K a) H1)\/ ∃xs,SqT K H1 a xs/\R (Itt K a) H1)
theorem MD {tg l:Expr}{tl:TE}(hl:PE X l tl):PI X tg l (MC X.K tl):=by
 intro pins s σ H R I h;refine thn (hl pins s σ H _ I h) λv s1 ⟨x,H1,I1,r1,q1⟩=> ?_
 obtain⟨a,e,q⟩:=q1;subst e;cases r1;rcases q with ⟨xs,hq,q⟩|⟨xs,hq,q⟩
 ·obtain⟨its,rv,p,hz⟩:=I1.list hq;refine A0 p.isList ?_;refine⟨s1.heap.objs.size,[s1.heap.objs.size],_,_,H1,rfl,I1.kept (t':=s1.toks) λb o e=>G3 _ e,ZL a _,⟨_,D4 _ rfl,rfl,rfl⟩,λb hb=> ?_,q⟩;have e:b=s1.heap.objs.size:=by simpa using hb
  subst e;exact I1.fpOk (G4 _) (I1.hok.fresh (G4 _))
 ·obtain⟨its,rv,p,hz⟩:=I1.tuple hq;refine O8 (show s1.heap.IsTuple a its.toArray from p) ?_;refine⟨s1.heap.objs.size,[s1.heap.objs.size],_,_,H1,rfl,I1.kept (t':=s1.toks) λb o e=>G3 _ e,VE a _,⟨_,D4 _ rfl,rfl,rfl⟩,λb hb=> ?_,q⟩;have e:b=s1.heap.objs.size:=by simpa using hb
  subst e;exact I1.fpOk (G4 _) (I1.hok.fresh (G4 _))
def iS (te:TED):TID:=λσ h R=>te σ h λx h1=>match x with
 | .lst a=>R (λh=>h a) h1
 | .tup ds=>R (λ_=>some ds) h1
 | .scr ns=>R (λ_=>some (ns.map D.int)) h1
 |_=>False
variable {K:PySem.W.Frag}{a:Addr}
theorem QJ {H:Hp}{ns:List Int}(hs:Scr K H a ns):DH K H (λ_=>some (ns.map D.int)) (Itl K a):=λH' h' k rh ds' e i=>by
 cases e;have hs':Scr K H' a ns:=hs.elim (λ⟨o,z⟩=> .inl ⟨o,k.frz _ _ _ z⟩) .inr;refine⟨λd hd=> ?_,λhl=>⟨_,hs'.sq,by simpa using hl⟩⟩;obtain⟨v,e1,e2⟩:=(zL (K:=K) (H:=H') ns).get hd;refine⟨⟨_,v,hs'.sq,e1⟩,λx H'' ⟨eH,hx⟩=> ?_⟩;subst eH;have:=hx _ hs'.sq;rw [e1] at this;cases this;exact⟨.refl _,rh,e2⟩
theorem ME {te:TED}: ∀σ H R,LI K (iS te) σ H R->MC K (LE K te) σ H R:=λσ H R ⟨σd,h,Rd,rs,rh,q,p⟩=>
 LE.bind rs rh q λd v h1 H1 k1 rs1 rh1 r1 q1=>by
  cases d<;>first
   |exact False.elim q1
   |skip
  ·rename_i ds;obtain⟨a,vs,e,hv,r⟩:=(show ∃a vs,v= .ref a/\H1 a=some (.tup vs)/\RelDs K H1 ds vs from r1);exact⟨a,e,.inr ⟨vs,SqT.of hv,p _ _ _ _ k1 rh1 (QF hv r) q1⟩⟩
  ·rename_i a;obtain⟨e,vs,hv⟩:=(show v= .ref a/\ ∃vs,H1 a=some (.lst vs) from r1);exact⟨a,e,.inl ⟨vs,SqL.of hv,p _ _ _ _ k1 rh1 (ZY H1 a) q1⟩⟩
  ·rename_i ns;obtain⟨a,e,hS⟩:=(show ∃a,v= .ref a/\Scr K H1 a ns from r1);exact⟨a,e,.inl ⟨_,hS.sq,p _ _ _ _ k1 rh1 (QJ hS) q1⟩⟩
theorem MF {tg e:Expr}{te:TED}(he:QE X e te):QI X tg e (iS te):=(MD he).imp ME
def GB:TSD:=λ_ _ _=>False
theorem MG {st:Stmt}:QS X st GB:=λ_ _ _ _ _ _ ⟨_,_,_,_,_,z,_⟩=>z.elim
structure Zs (mg:Str->Option Value):Prop where
 len:mg "len" =none
 max:mg "max" =none
 min:mg "min" =none
 divmod:mg "divmod" =none
 all:mg "all" =none
 any:mg "any" =none
 repr:mg "repr" =none
 sum:mg "sum" =none
 sorted:mg "sorted" =none
 int:mg "int" =none
 tuple:mg "tuple" =none
 list:mg "list" =none
 set:mg "set" =none
 bool:mg "bool" =none
 isinstance:mg "isinstance" =none
 range:mg "range" =none
 zip:mg "zip" =none
 enumerate:mg "enumerate" =none
 reversed:mg "reversed" =none
def jB (P:Program)(w:World)(K:PySem.W.Frag)(mg:Str->Option Value)(base:Heap)(n:Nat)(x:Str)(ps:List Str)(sp:RDn):Prop:=
 ∃ (g:Addr) (gd:FuncData),FnOk P w K mg base CX0 n g gd ps (LSp K sp)/\Binds K gd ps []/\PySem.W.keepIn K (.ref g)=true/\mg x=some (.ref g)
def Xk:RDn:=λds h Q=> ∃ns,ds= [.scr ns]/\(∀a,h a=none)/\ns.length<=63/\ ∀h',Q (.bl true) h'
def Bm (mg:Str->Option Value)(base:Heap):Prop:= ∃bm ob,mg "__builtins__" =some (.ref bm)/\bm≠builtinsNs/\base.get? bm=some ob/\ob.cls= .type "module" /\ob.dict=some builtinsNs/\ob.data= .plain
def zB (K:PySem.W.Frag):List (Addr×Addr):=LN.filterMap (PySem.W.tabIn K)
theorem TabK.mem {P:Addr}(h:TabK K P): ∃c,(c,P)∈zB K:=let ⟨x,hx,c,e⟩:=h;⟨c,C5.mpr ⟨x,hx,e⟩⟩
theorem Xl {P:Program}{w:World}{mg mb:Str->Option Value}{k:Nat}{fa:Addr}{fd:FuncData}{s₁:Shared}{vs:List Value}{ns:List Int}
 (KX:K.In s₁.heap)(hns:s₁.heap.Ns mainGlobals mg)(hb:s₁.heap.Ns builtinsNs mb)(hbb: ∀x:Str,x≠ "__name__" ->mb x=bootBuiltins x)(hlim:s₁.heap.NoLimit)(hg:s₁.gens= #[])
 (ha:s₁.heap.get? a=some {cls:= .type "list",data:= .seq vs.toArray})(hi:IntsAre vs ns)(hl:ns.length<=63)(hr:Room k callerA)
 (hbm:Bm mg s₁.heap)(F: ∀base:Heap,K.In base->base.Ns mainGlobals mg->Bm mg base->FnOk P w K mg base CX0 k fa fd [x] (LSp K Xk))(hbind: ∀ (s:Shared) (u:Value),BindsTo s fd ⟨[u],[]⟩ [(x,u)])
 (hT: ∀p∈zB K,PySem.W.CodeHd s₁.heap p.1 p.2/\s₁.heap.get? p.2=some (PySem.W.tabObj #[])/\K.lookup p.2=none):
 codeAny (model P w) callerA (.call (.ref fa) ⟨[.ref a],[]⟩) (λr s'=>r= .ok (.ret (.bool true))/\OldK s₁.heap s'.heap/\s'.os=s₁.os/\AllBare s'.gens) s₁:=by
 have rv:=ZS hi;have lenV:=hi.length;have hz:ns.length<=sizeLine:=D3 hl (by decide);have hT': ∀b,b∈(zB K).map (·.2)-> ∃c,PySem.W.CodeHd s₁.heap c b/\s₁.heap.get? b=some (PySem.W.tabObj #[])/\K.lookup b=none:=λb hb=>by
  obtain⟨p,hp,rfl⟩:=R3.mp hb;exact⟨p.1,hT p hp⟩
 have core: ∀H:Hp,Scr K H a ns->HOk P w H s₁.heap->(∀b u,H b=some u->(b=a/\K.lookup a=none/\ ∃o xs,u= .frz o (.lst xs))\/(b∈(zB K).map (·.2)/\u= .tbl #[]))->(∀b,b∈(zB K).map (·.2)->H b=some (.tbl #[]))->
  codeAny (model P w) callerA (.call (.ref fa) ⟨[.ref a],[]⟩) (λr s'=>r= .ok (.ret (.bool true))/\OldK s₁.heap s'.heap/\s'.os=s₁.os/\AllBare s'.gens) s₁:=by
  intro H hS hok hA hTt;have noA: ∀ {b:Addr} {o:Obj} {es:Array DictEntry} {ep:Nat},s₁.heap.get? b=some o->o.data= .dict es ep->H b=none:=λ{b o es ep} e d=>by
   cases q:H b with
   |none=>rfl
   |some u=>
    rcases hA b u q with ⟨rfl,_,_⟩|⟨z,_⟩
    ·rw [ha] at e;cases e;have d':Data.seq vs.toArray _=Data.dict es ep:=d;cases d'
    ·obtain⟨c,_,e2,_⟩:=hT' b z;rw [e2] at e;cases e;have d':Data.fields _=Data.dict es ep:=d;cases d'
  have nsK: ∀ {b:Addr} {m:Str->Option Value},s₁.heap.Ns b m->(Qo s₁.heap H).Ns b m:=λ{b m} ⟨o,es,ep,e,d,r⟩=>⟨o,es,ep,JQ e (noA e d),d,r⟩
  have hKb:K.In (Qo s₁.heap H):=λb o e=>JQ (KX b o e) (by
   cases q:H b with
   |none=>rfl
   |some u=>
    rcases hA b u q with ⟨rfl,z,_⟩|⟨z,_⟩
    ·rw [z] at e;cases e
    ·obtain⟨c,_,_,z2⟩:=hT' b z;rw [z2] at e;cases e)
  have hM:Mod K mg (Qo s₁.heap H):=⟨hKb,nsK hns,⟨mb,nsK hb,hbb⟩,let ⟨mc,h1,h2⟩:=hlim;⟨mc,nsK h1,h2⟩⟩;have e0:Env0 P w K mg (Qo s₁.heap H) callerA [] s₁ H:=⟨rfl,hM,λb o e=>GN e,E7 (Ur _ _),trivial,λb hb=>absurd (show b∈([]:List Addr) from hb) (by simp),hok,.of_eq hg⟩;have hsp:LSp K Xk [.ref a] H (λv _=>v= .bl true) (λ_ _ _=>False):=by
   refine⟨[.scr ns],⟨λ_=>none,λ_=>none⟩,λd _=>d= .bl true,⟨.ref a,[],rfl,⟨a,rfl,hS⟩,rfl⟩,⟨λb ds e=>(by cases e),λp hp=> ?_,λb c e=>(by cases e)⟩,⟨ns,rfl,λ_=>rfl,hl,λ_=>rfl⟩,?_⟩
   ·obtain⟨c,hc⟩:=hp.mem;exact⟨#[],hTt p (List.mem_map_of_mem (f:=(·.2)) hc),trivial,λpos cv e=>(by cases e)⟩
   ·intro d v h' H' _ _ r e;subst e;exact r
  have hBm:Bm mg (Qo s₁.heap H):=by
   obtain⟨bm,ob,b1,b2,b3,b4,r⟩:=hbm;refine⟨bm,ob,b1,b2,JQ b3 ?_,b4,r⟩;cases q:H bm with
   |none=>rfl
   |some u=>
    rcases hA bm u q with ⟨rfl,_,_⟩|⟨z,_⟩
    ·rw [ha] at b3;cases b3;exact absurd (Value.type.inj b4) (by decide)
    ·obtain⟨c,_,e2,_⟩:=hT' bm z;rw [e2] at b3;cases b3;cases b4
  refine codeAny_mono ((F _ hKb (nsK hns) hBm).run callerA [] s₁ H ⟨[.ref a],[]⟩ [.ref a] [.ref a] _ _ hr e0 (hbind s₁ (.ref a)) (.cons rfl .nil) hsp) λr s' h=> ?_
  cases r with
  |error e=>exact False.elim h
  |ok fl=>
   cases fl with
   |next=>exact False.elim h
   |brk=>exact False.elim h
   |cont=>exact False.elim h
   |ret u=>
    obtain⟨v,H',os,bare,un,hok',r',q⟩:=h;have q':v= .bl true:=q;subst q';obtain rfl:u=Value.bool true:=r';have one: ∀b o,s₁.heap.get? b=some o->s'.heap.get? b=some o\/(b∈(zB K).map (·.2)/\ ∃more,s'.heap.get? b=some (PySem.W.tabObj more)):=λb o e=>by
     cases q:H b with
     |none=>exact .inl (un.keep b o e q (by intro z;exact absurd (show b∈([]:List Addr) from z) (by simp)) (by simp))
     |some u=>
      rcases hA b u q with ⟨rfl,_,ob,xs,rfl⟩|⟨z,rfl⟩
      ·have z2:=un.frzs _ ob _ q;obtain⟨e1,_⟩:=hok _ _ q;obtain⟨e2,_⟩:=hok' _ _ z2;rw [e] at e1;cases e1;exact .inl e2
      ·obtain⟨more,z2⟩:=un.tbls b _ q;exact .inr ⟨z,_,(show s'.heap.get? b=some _ from hok' b _ z2)⟩
    refine⟨rfl,⟨λb o e=> ?_,λb o e=> ?_⟩,os,bare⟩
    ·rcases one b o e with z|⟨z,more,z2⟩
     ·exact .inl z
     ·obtain⟨c,hc,e2,_⟩:=hT' b z;rw [e] at e2;cases e2;refine .inr (.inl ⟨(hc.tab e).isCodeTable,rfl,#[],more,rfl,?_⟩);rw [z2];simp
    ·rcases one b o e with z|⟨z,more,z2⟩
     ·exact⟨_,z⟩
     ·exact⟨_,z2⟩
 have nT:a ∉ (zB K).map (·.2):=λz=>by
  obtain⟨c,_,e2,_⟩:=hT' a z;rw [ha] at e2;cases e2
 have okT: ∀ {H:Hp} (b:Addr),b∈(zB K).map (·.2)->ObjOk P w H s₁.heap b (.tbl #[]):=λb hb=>let ⟨_,_,e,_⟩:=hT' b hb;e
 cases hk:K.lookup a with
 |some o=>
  have e:=KX a o hk;rw [ha] at e;cases e;refine core (λb=>if b∈(zB K).map (·.2) then some (.tbl #[]) else none) (.inr ⟨_,vs.toArray,_,hk,rfl,rfl,rfl,by rw [G7,lenV];exact hz,by simpa using rv⟩) (λb u z=> ?_) (λb u z=> ?_) λb hb=>if_pos hb
  ·by_cases hb:b∈(zB K).map (·.2)
   ·have z':=(if_pos hb).symm.trans z;cases z';exact okT b hb
   ·have z':=(if_neg hb).symm.trans z;cases z'
  ·by_cases hb:b∈(zB K).map (·.2)
   ·have z':=(if_pos hb).symm.trans z;cases z';exact .inr ⟨hb,rfl⟩
   ·have z':=(if_neg hb).symm.trans z;cases z'
 |none=>
  refine core (λb=>if b=a then some (.frz {cls:= .type "list",data:= .seq vs.toArray} (.lst (ns.map V.int))) else if b∈(zB K).map (·.2) then some (.tbl #[]) else none) (.inl ⟨{cls:= .type "list",data:= .seq vs.toArray},if_pos rfl⟩) (λb u z=> ?_) (λb u z=> ?_) λb hb=> ?_
  ·by_cases hb:b=a
   ·have z':=(if_pos hb).symm.trans z;cases z';subst hb;exact⟨ha,by rw [G0];exact hz,vs,_,rv,ha⟩
   ·have z':=(if_neg hb).symm.trans z
    by_cases hb2:b∈(zB K).map (·.2)
    ·have z2:=(if_pos hb2).symm.trans z';cases z2;exact okT b hb2
    ·have z2:=(if_neg hb2).symm.trans z';cases z2
  ·by_cases hb:b=a
   ·have z':=(if_pos hb).symm.trans z;cases z';exact .inl ⟨hb,hk,_,_,rfl⟩
   ·have z':=(if_neg hb).symm.trans z
    by_cases hb2:b∈(zB K).map (·.2)
    ·have z2:=(if_pos hb2).symm.trans z';cases z2;exact .inr ⟨hb2,rfl⟩
    ·have z2:=(if_neg hb2).symm.trans z';cases z2
  ·have:b≠a:=λz=>nT (z ▸ hb)
   show (if b=a then _ else _)=_;rw [if_neg this,if_pos hb]
def Bl (q:Program)(K:PySem.W.Frag):Bool:=LN.all λx=>match PySem.W.tabIn K x with
 |some p=>(K.lookup p.2).isNone&&((PyProof.Rows.recsOf q).find? (λe=>e.name==x)).isSome
 |none=>true
theorem QK {l:PySem.W.OpenLaw}{k:Nat}{q:Program}{loose:List Str}{XP:(Str->Option Value)->Heap->Prop}{YP:World->Heap->Prop}{d:DefRec}{K:Params->PySem.W.Frag}(hn:l.most=some 63)(hdf:d.params.defaults= [])(hr:Room k callerA)
 (hY: ∀ (w:World) (h:Heap),YP w h->(K w.params).In h)(hB: ∀w:World,Bl q (K w.params)=true)
 (F: ∀ (w:World) (mg:Str->Option Value) (fa:Addr) (h:Heap),(K w.params).In h->h.Ns mainGlobals mg->mg d.name=some (.ref fa)->
  ∃fd:FuncData,(∀ (s:Shared) (u:Value),BindsTo s fd ⟨[u],[]⟩ [(x,u)])/\ ∀base:Heap,(K w.params).In base->base.Ns mainGlobals mg->Bm mg base->FnOk l.prog w (K w.params) mg base CX0 k fa fd [x] (LSp (K w.params) Xk)):
 PySem.W.WalkO q loose XP YP l.row.toRowW d [] (λf vs=>PySem.call f vs):=by
 refine Att.attach_call hn hdf λw s₀ s₁ mg mb fa o pm cd doc a vs ns G Y ho hd hcd hmg hobj hints hlen hg=> ?_
 have KX:=hY w _ Y;obtain⟨fd,hb,hF⟩:=F w mg fa _ KX G.T.g hmg;refine Xl KX G.T.g G.T.b G.T.builtins G.T.nolimit hg hobj hints hlen hr G.T.bmain hF hb λp hp=> ?_
 obtain⟨x,hx,e⟩:=C5.mp hp;have z:=R1.mp (hB w) x hx;rw [e] at z;simp only [R4,Option.isNone_iff_eq_none] at z;obtain⟨dd,hdd⟩:=M9.mp z.2;have t:=PySem.W.tab_of (c:=p.1) (P:=p.2) G.T KX hdd e;exact⟨t.1,t.2,z.1⟩
def Yq:Expr->Bool
 | .Starred .. =>false
 |_=>true
theorem Yr {e:Expr}{es:List Expr}{env:Env}(h:Yq e=true):starEach (e::es) env=(false,eval e env)::starEach es env:=by
 cases e<;>first|rfl|cases h
theorem qac {e:Expr}{es:List Expr}{te:TED}{t:TAD}(ha:QE X e te)(hr:QA X es t)(h:Yq e=true:=by rfl):QA X (e::es) (yt te t):=Py ha hr (Yr h)
theorem zR {α:Type}{xs:List α}{i:Int}(h0:0<=i)(h1:i<xs.length): ∃x∈xs,atI xs i=some x:=by
 have hk:i.toNat<xs.length:=by omega
 have ek:i=((i.toNat:Nat):Int):=by omega
 have z:=yM (G2 hk);rw [<-ek] at z;exact⟨xs[i.toNat],T0 hk,z⟩
variable {h h':HD}{L:List D}
theorem Sub.both (s:Sub h h'):Sub (zm h p L) (zm h' p L):=⟨λa ds e=>(by
 by_cases q:a=p
 ·subst q;rw [ja] at e ⊢;exact e
 ·rw [zu q] at e ⊢;exact s a ds e),s.dc⟩
theorem Sub.newAt (s:Sub h h')(e:h' p=none):Sub h (zm h' p L):=s.trans (.new e)
structure But (p:Addr)(h h':HD):Prop where
 ls: ∀a ds,a≠p->h a=some ds->h' a=some ds
 dc: ∀a c,h.dc a=some c->h'.dc a=some c
instance {p:Addr}{h h':HD}:CoeFun (But p h h') λ_=> ∀a ds,a≠p->h a=some ds->h' a=some ds:=⟨But.ls⟩
theorem But.refl (p:Addr)(h:HD):But p h h:=⟨λ_ _ _ e=>e,λ_ _ e=>e⟩
theorem But.trans {a b c:HD}(x:But p a b)(y:But p b c):But p a c:=⟨λd ds n e=>y d ds n (x d ds n e),λd ds e=>y.dc d ds (x.dc d ds e)⟩
variable {q:Addr}
theorem But.new (s:But p h h')(e:h' q=none):But p h (zm h' q L):=⟨λa ds n z=>(by
 have:=s a ds n z;rw [zu (λw=>by subst w;rw [e] at this;cases this)];exact this),s.dc⟩
theorem But.put (s:But p h h'):But p h (zm h' p L):=⟨λa ds n z=>(by rw [zu n];exact s a ds n z),s.dc⟩
theorem But.putNew (s:But p h h')(e:h q=none):But p h (zm h' q L):=⟨λa ds n z=>(by
 rw [zu (λw=>by subst w;rw [e] at z;cases z)];exact s a ds n z),s.dc⟩
theorem But.sub (s:But p h h')(e:h' p=some L):Sub (zm h p L) h':=⟨λa ds z=>(by
 by_cases q:a=p
 ·subst q;rw [ja] at z;cases z;exact e
 ·rw [zu q] at z;exact s a ds q z),s.dc⟩
theorem But.upd:But p h (zm h p L):=⟨λa ds n z=>(by rw [zu n];exact z),λ_ _ e=>e⟩
theorem jr (e:h p=some L)(f:h q=none):q≠p:=λz=>by subst z;rw [e] at f;cases f
theorem jc {M:List D}(e:h p=some L)(f:h q=none):zm h q M p=some L:=by rw [zu (λz=>by subst z;rw [e] at f;cases f)];exact e
theorem Dj {b:Addr}(e:zm h a L b=none):b≠a:=λz=>by subst z;rw [ja] at e;cases e
theorem ji {b:Addr}{M:List D}(n:b≠a)(e:h b=some M):zm h a L b=some M:=by rw [zu n];exact e
theorem Xm {n:Nat}{i:Nat}{d:D}(h:((List.range n).map λ(k:Nat)=>D.int (k:Int))[i]? =some d):i<n/\d= .int i:=by
 rw [P1] at h
 by_cases hi:i<n
 ·rw [L6 hi] at h;cases h;exact⟨hi,rfl⟩
 ·rw [B2 (by simpa using hi)] at h;cases h
variable {E:EndsD}{σ:SD}
theorem jp {t u:TSD}(V:SD->HD->Prop)(first: ∀K:SD->HD->Prop,(∀σ' h',V σ' h'->K σ' h')->t {E with nx:=K} σ h)(zP: ∀σ' h',V σ' h'->u E σ' h'):Xa t u E σ h:=first (u E) zP
theorem Ze (b:But p h h')(e:h' q=none)(n:q≠p):h q=none:=by
 cases z:h q with
 |none=>rfl
 |some ds=>rw [b q ds n z] at e;cases e
def Nxt (E:EndsD)(V:SD->HD->Prop):EndsD:= {E with nx:=λσ3 h3=> ∃h4,Sub h4 h3/\V σ3 h4,ct:=λσ3 h3=> ∃h4,Sub h4 h3/\V σ3 h4,bk:=E.nx}
theorem vX {ta:TAD}{g:TGD}{tb:TSD}{h1:HD}(n:Nat)(W:Nat->SD->HD->Prop)(hn:n<1000000)
 (ht: ∀R:List D->HD->Prop,R [.int (n:Int)] h1->ta σ h R)(w0:W 0 σ h1)(done: ∀σ' h',W n σ' h'->E.nx σ' h')
 (turn: ∀i σ' h',i<n->W i σ' h'->g (.int (i:Int)) σ' h' λσ2 h2=>tb (Nxt E λσ3 h4=>i+1<=n/\W (i+1) σ3 h4) σ2 h2):PL (iR1 ta) g tb E σ h:=by
 refine ht _ ⟨(n:Int),rfl,by omega,by omega,n,λi σ' h'=>i<=n/\W i σ' h',⟨B9 _,w0⟩,?_⟩;rintro i σ' h' ⟨hi,w⟩;refine⟨_,rfl,by simp,λhl=> ?_,λd hd=> ?_⟩
 ·have:i=n:=by simp at hl;omega
  subst this;exact done _ _ w
 ·obtain⟨hi',e⟩:=Xm hd;have hi2:i<n:=by omega
  subst e;exact turn i σ' h' hi2 w
theorem yx {ti:TID}{g:TGD}{tb:TSD}{h1:HD}{j:ItD}(ds:List D)(W:Nat->SD->HD->Prop)
 (ht: ∀R:ItD->HD->Prop,R j h1->ti σ h R)(hj: ∀i σ' h',W i σ' h'->j h'=some ds)(w0:W 0 σ h1)(done: ∀σ' h',W ds.length σ' h'->E.nx σ' h')
 (turn: ∀i d σ' h',ds[i]? =some d->W i σ' h'->g d σ' h' λσ2 h2=>tb (Nxt E λσ3 h4=>i+1<=ds.length/\W (i+1) σ3 h4) σ2 h2):PL ti g tb E σ h:=by
 refine ht _ ⟨ds.length,λi σ' h'=>i<=ds.length/\W i σ' h',⟨B9 _,w0⟩,?_⟩;rintro i σ' h' ⟨hi,w⟩;refine⟨ds,hj i σ' h' w,G4 _,λhl=> ?_,λd hd=>turn i d σ' h' hd w⟩;have:i=ds.length:=by omega
 subst this;exact done _ _ w
theorem vY {g:TGD}{tb:TSD}{h1:HD}{j:ItD}(ds:List D)(W:Nat->SD->HD->Prop)
 (hj: ∀i σ' h',W i σ' h'->j h'=some ds)(w0:W 0 σ h1)(done: ∀σ' h',W ds.length σ' h'->E.nx σ' h')
 (turn: ∀i d σ' h',ds[i]? =some d->W i σ' h'->g d σ' h' λσ2 h2=>tb (Nxt E λσ3 h4=>i+1<=ds.length/\W (i+1) σ3 h4) σ2 h2):
 ∃ (n:Nat) (W:Nat->SD->HD->Prop),W 0 σ h1/\ ∀i σ' h',W i σ' h'-> ∃ds,j h'=some ds/\ds.length<=n/\(ds.length<=i->E.nx σ' h')/\
  ∀d,ds[i]? =some d->g d σ' h' λσ2 h2=>tb {E with nx:=λσ3 h3=> ∃h4,Sub h4 h3/\W (i+1) σ3 h4,ct:=λσ3 h3=> ∃h4,Sub h4 h3/\W (i+1) σ3 h4,bk:=E.nx} σ2 h2:=by
 refine⟨ds.length,λi σ' h'=>i<=ds.length/\W i σ' h',⟨B9 _,w0⟩,?_⟩;rintro i σ' h' ⟨hi,w⟩;refine⟨ds,hj i σ' h' w,G4 _,λhl=> ?_,λd hd=>turn i d σ' h' hd w⟩;have:i=ds.length:=by omega
 subst this;exact done _ _ w
end L2
namespace L2
open PySem PySem.Spec PyProof.Rows PySem.SeqAt
mutual
def ToP (h:HD):D->PyData->Prop
 |d,.none=>d= .non
 |d,.bool b=>d= .bl b
 |d,.int i=>d= .int i
 |d,.str x=>d= .str x
 |d,.tuple ps=> ∃ds,d= .tup ds/\ToPs h ds ps
 |d,.list ps=> ∃a ds,d= .lst a/\h a=some ds/\ToPs h ds ps
 |_,.dict _=>False
def ToPs (h:HD):List D->List PyData->Prop
 |ds,[]=>ds= []
 |ds,p::ps=> ∃d r,ds=d::r/\ToP h d p/\ToPs h r ps
end
section
variable {X:Cx}{pins:List (Addr×Obj)}{σ:St}{H:Hp}{s:Shared}{h:HD}
mutual
theorem wT (I:Inv X pins σ H s)(rh:RelH X.K h H): ∀ {p:PyData} {d:D} {v:V} {u:Value},ToP h d p->RelD X.K H d v->RelV v u-> ∃as,Reads s.heap u p as
 | .none,d,v,u,t,r,ru=>by cases (show d= .non from t);cases (show v= .non from r);cases (show u= .none from ru);exact⟨[],.none⟩
 | .bool b,d,v,u,t,r,ru=>by cases (show d= .bl b from t);cases (show v= .bl b from r);cases (show u= .bool b from ru);exact⟨[],.bool b⟩
 | .int i,d,v,u,t,r,ru=>by cases (show d= .int i from t);cases (show v= .int i from r);obtain⟨k,rfl⟩:=(show ∃t,u=Value.int i t from ru);exact⟨[],.int i k⟩
 | .str x,d,v,u,t,r,ru=>by cases (show d= .str x from t);cases (show v= .str x from r);obtain⟨k,rfl⟩:=(show ∃t,u=Value.str x t from ru);exact⟨[],.str x k⟩
 | .tuple ps,d,v,u,t,r,ru=>by
  obtain⟨ds,e,ts⟩:=(show ∃ds,d= .tup ds/\ToPs h ds ps from t);subst e;obtain⟨a,vs,e,hH,rs⟩:=(show ∃a vs,v= .ref a/\H a=some (.tup vs)/\RelDs X.K H ds vs from r);subst e;cases (show u= .ref a from ru);obtain⟨its,rv,ht,_⟩:=I.tuple (SqT.of hH);obtain⟨o,ho,hc,n,hd⟩:=ht;obtain⟨as,q⟩:=reads_Ds I rh ts rs rv;exact⟨as,.tuple ho hc hd q⟩
 | .list ps,d,v,u,t,r,ru=>by
  obtain⟨a,ds,e,ha,ts⟩:=(show ∃a ds,d= .lst a/\h a=some ds/\ToPs h ds ps from t);subst e;obtain⟨vs,hH,rs⟩:=rh a ds ha;have e:v= .ref a:=r.1;subst e;cases (show u= .ref a from ru);obtain⟨its,rv,pl,_⟩:=I.list (SqL.of hH);obtain⟨o,ho,hc,n,hd⟩:=pl.isList;obtain⟨as,q⟩:=reads_Ds I rh ts rs rv;exact⟨a::as,.list ho hc hd q⟩
 | .dict _,_,_,_,t,_,_=>(show False from t).elim
theorem reads_Ds (I:Inv X pins σ H s)(rh:RelH X.K h H): ∀ {ps:List PyData} {ds:List D} {vs:List V} {us:List Value},ToPs h ds ps->RelDs X.K H ds vs->Vals vs us-> ∃as,ReadsAll s.heap us ps as
 | [],ds,vs,us,t,r,rv=>by
  cases (show ds= [] from t);cases (show vs= [] from r);cases rv;exact⟨[],.nil⟩
 |p::ps,ds,vs,us,t,r,rv=>by
  obtain⟨d,dr,e,t1,t2⟩:=(show ∃d r,ds=d::r/\ToP h d p/\ToPs h r ps from t);subst e;obtain⟨v,vr,e,r1,r2⟩:=(show ∃v r,vs=v::r/\RelD X.K H d v/\RelDs X.K H dr r from r);subst e;cases rv with
  |cons ru rt=>
   obtain⟨as,q1⟩:=wT I rh t1 r1 ru;obtain⟨bs,q2⟩:=reads_Ds I rh t2 r2 rt;exact⟨as++bs,.cons q1 q2⟩
end
end
def eqE:RD2:=λx y h Q=>match x,y with
 | .int i,.int j=>Q (.bl (decide (i=j))) h
 | .bl i,.bl j=>Q (.bl (decide (i=j))) h
 | .str i,.str j=>Q (.bl (decide (i=j))) h
 |x,y=> ∃p q,ToP h x p/\ToP h y q/\shaped p=true/\shaped q=true/\Q (.bl (PyData.eqv p q)) h
def neE:RD2:=λx y h Q=>match x,y with
 | .int i,.int j=>Q (.bl (!decide (i=j))) h
 | .bl i,.bl j=>Q (.bl (!decide (i=j))) h
 | .str i,.str j=>Q (.bl (!decide (i=j))) h
 |x,y=> ∃p q,ToP h x p/\ToP h y q/\shaped p=true/\shaped q=true/\Q (.bl (!PyData.eqv p q)) h
section
variable {X:Cx}
def eqG:RD2:=λx y h Q=> ∃p q,ToP h x p/\ToP h y q/\shaped p=true/\shaped q=true/\Q (.bl (PyData.eqv p q)) h
def neG:RD2:=λx y h Q=> ∃p q,ToP h x p/\ToP h y q/\shaped p=true/\shaped q=true/\Q (.bl (!PyData.eqv p q)) h
theorem MH (hu:X.A.units+64<cLine):OpQ X (compareOp .Eq) eqG:=by
 intro pins s σ H x y v u Q I rx ry h;obtain⟨dx,dy,h,Qd,r1,r2,rh,⟨p,q,t1,t2,s1,s2,qq⟩,post⟩:=h;obtain⟨as,a1⟩:=wT I rh t1 r1 rx;obtain⟨bs,b1⟩:=wT I rh t2 r2 ry;exact compareEq_shaped a1 b1 s1 s2 hu ⟨.bl _,H,I,rfl,post (.bl _) _ _ _ (.refl H) rh rfl qq⟩
theorem MI (hu:X.A.units+64<cLine):OpQ X (compareOp .NotEq) neG:=by
 intro pins s σ H x y v u Q I rx ry h;obtain⟨dx,dy,h,Qd,r1,r2,rh,⟨p,q,t1,t2,s1,s2,qq⟩,post⟩:=h;obtain⟨as,a1⟩:=wT I rh t1 r1 rx;obtain⟨bs,b1⟩:=wT I rh t2 r2 ry;exact compareNe_shaped a1 b1 s1 s2 hu ⟨.bl _,H,I,rfl,post (.bl _) _ _ _ (.refl H) rh rfl qq⟩
theorem OpQ.or' {f:Value->Value->Sem Value}{r r' r2:RD2}(h:OpQ X f r)(h':OpQ X f r')(i: ∀x y hh Q,r2 x y hh Q->r x y hh Q\/r' x y hh Q):OpQ X f r2:=λpins s σ H x y v u Q I rx ry ⟨dx,dy,hd,Qd,r1,r2',rh,q,p⟩=>
 (i dx dy hd Qd q).elim (λz=>h pins s σ H x y v u Q I rx ry ⟨dx,dy,hd,Qd,r1,r2',rh,z,p⟩) λz=>h' pins s σ H x y v u Q I rx ry ⟨dx,dy,hd,Qd,r1,r2',rh,z,p⟩
theorem GC (hu:X.A.units+64<cLine):OpQ X (compareOp .Eq) eqE:=oq_eq.or' (MH hu) λx y h Q q=>by
 unfold eqE at q;split at q
 ·exact .inl q
 ·exact .inl q
 ·exact .inl q
 ·exact .inr q
theorem MJ (hu:X.A.units+64<cLine):OpQ X (compareOp .NotEq) neE:=oq_ne.or' (MI hu) λx y h Q q=>by
 unfold neE at q;split at q
 ·exact .inl q
 ·exact .inl q
 ·exact .inl q
 ·exact .inr q
end
end L2
namespace HT
open PySem PySem.Spec PyProof.Rows
section
variable {prog:Program}{w:World}{A:Around}{E:Value->Shared->Prop}{s:Shared}
theorem VS {l:Addr}{vs:List Value}{ns:List Int}{Q:Value->Shared->Prop}(hl:IsTup s.heap l vs.toArray)(hI:IntsAre vs ns)(h64:vs.length<64)
 (h: ∀ (h1 h':Heap) (out:Array Value) (ns':List Int) (c:Nat),(∀b o,s.heap.get? b=some o->h1.get? b=some o)->(∀b o,h1.get? b=some o->h'.get? b=some o)->h'.get? h1.objs.size=some (seqObj "list" out c)->
  IntsAre out.toList ns'->ns'.Perm ns->ns'.Pairwise (· <= ·)->Q (.ref h1.objs.size) {s with heap:=h'}):wpAny (model prog w) A (call (.builtin "sorted") [.ref l]) Q E s:=by
 have few:vs.length<=sizeLine:=R9 (N3 h64 (by decide));obtain⟨o,at_,cl,n,dat⟩:=hl;refine Calls.call_function_entry kind_sorted plain_sorted entry_sorted (args_sorted1 _) (wpAny_bind (P6 (wpAny_bind (wpAny_collect_seq l (.inr rfl) at_ cl dat (λh1 grown=> ?_) (by simpa using few)))));have fresh:(h1.push (seqObj "list" vs.toArray 0)).get? h1.objs.size=some (seqObj "list" vs.toArray 0):=D4 _ rfl;refine wpAny_bind (wpAny_newList (wpAny_bind (B4 (M6 slot_list_sort ⟨_,fresh,rfl⟩ entry_list_sort (list_sort_tree fresh hI h64 λout ns' i1 i2 i3=>⟨_,rfl,?_⟩) (args_list_sort _)))) few);obtain⟨c,lies⟩:=sortedHeap_at (vs:=vs) (out:=out) fresh;refine P6 ⟨_,rfl,h h1 _ out ns' c grown (λb ob e=> ?_) lies i1 i2 i3⟩;have lt:=P3 e;rw [sortedHeap_old (D5 lt) (by rw [size_push'];exact A2 lt)];exact G3 _ e
end
end HT
namespace L2
open PySem PySem.Spec PyProof.Rows
theorem Xn: ∀ {ns:List Int} {us:List Value},Vals (ns.map V.int) us->IntsAre us ns
 | [],_,r=>by cases r;exact .nil
 |n::ns,_,r=>by
  cases r with
  |cons r t=>obtain⟨k,rfl⟩:=r;exact .cons n k (Xn t)
theorem vZ: ∀ {ns:List Int} {us:List Value},IntsAre us ns->Vals (ns.map V.int) us
 |_,_,.nil=> .nil
 |_,_,.cons n t r=> .cons ⟨t,rfl⟩ (vZ r)
theorem zS {K:PySem.W.Frag}{H:Hp}: ∀ {ns:List Int} {vs:List V},RelDs K H (ns.map D.int) vs->vs=ns.map V.int
 | [],_,h=>h
 |n::ns,vs,h=>by
  obtain⟨v,r,e,h1,h2⟩:=(show ∃v r,vs=v::r/\RelD K H (.int n) v/\RelDs K H (ns.map D.int) r from h);rw [e,zS h2,(show v= .int n from h1)];rfl
def Dk:RDn:=λds h Q=> ∃ns:List Int,(ds= [.tup (ns.map D.int)]\/ ∃a,ds= [.lst a]/\h a=some (ns.map D.int))/\ns.length<64/\ ∀ (p:Addr) (ns':List Int),h p=none->ns'.Perm ns->ns'.Pairwise (· <= ·)->Q (.lst p) (zm h p (ns'.map D.int))
variable {X:Cx}
theorem call_sorted_ints:CallR X (.builtin "sorted") (λxs H Q=> ∃ (a:Addr) (ns:List Int),xs= [.ref a]/\(SqL X.K H a (ns.map V.int)\/SqT X.K H a (ns.map V.int))/\ns.length<64/\ ∀ (p:Addr) (ns':List Int),H p=none->ns'.Perm ns->ns'.Pairwise (· <= ·)->Q (.ref p) (upd H p (.lst (ns'.map V.int)))):=by
 intro pins s σ H xs us Q I r h;obtain⟨a,ns,rfl,hS,h64,q⟩:=h;obtain⟨u,rfl,ru⟩:=Jq r;cases ru;have fin: ∀ (vs:List Value) (out:Array Value) (ns':List Int),IntsAre out.toList ns'->ns'.Perm ns->ns'.Pairwise (· <= ·)->EP X pins σ Q (.ref (s.heap.objs.size+1)) {s with heap:=sortedAll s.heap vs out}:=λvs out ns' a1 a2 a3=>by
  obtain⟨e,he⟩:=sortedAll_at s.heap vs out;have hf:H (s.heap.objs.size+1)=none:=I.hok.fresh (K2 _);refine⟨.ref _,_,I.laid (t':=s.toks) (o:= .lst (ns'.map V.int)) (λb ob q=>sortedAll_old q) (K2 _) ?_,rfl,q _ ns' hf a2 a3⟩;refine⟨?_,out.toList,e,vZ a1,he⟩;rw [G0,a2.length_eq];exact R9 (N3 h64 (by decide))
 rcases hS with hS|hS
 ·obtain⟨its,rv,pl,hz⟩:=I.list hS;have hi:=Xn rv;exact sorted_ints pl.isList hi (by rw [hi.length];exact h64) (fin its)
 ·obtain⟨its,rv,pl,hz⟩:=I.tuple hS;have hi:=Xn rv;refine HT.VS pl hi (by rw [hi.length];exact h64) λh1 h' out ns' c k1 k2 lies a1 a2 a3=> ?_
  have I1:=I.kept (t':=s.toks) k1;refine⟨.ref _,_,I1.laid (t':=s.toks) (o:= .lst (ns'.map V.int)) k2 (G4 _) ⟨?_,out.toList,c,vZ a1,lies⟩,rfl,q _ ns' (I1.hok.fresh (G4 _)) a2 a3⟩;rw [G0,a2.length_eq];exact R9 (N3 h64 (by decide))
theorem Xo:wG X (.builtin "sorted") Dk:=call_sorted_ints.imp λxs H Q ⟨ds,h,Qd,r,rh,⟨ns,hd,h64,q⟩,p⟩=>by
 have fin: ∀ (c:Addr) (ns':List Int),H c=none->ns'.Perm ns->ns'.Pairwise (· <= ·)->Q (.ref c) (upd H c (.lst (ns'.map V.int))):=λc ns' hc a b=>
  p (.lst c) _ _ _ (.new hc) (rh.newL hc (zL ns')) ⟨rfl,_,ju⟩ (q c ns' (rh.free hc) a b)
 rcases hd with e|⟨a,e,ha⟩
 ·subst e;obtain⟨v,e,r1⟩:=jy r;obtain⟨a,vs,e1,hH,r2⟩:=(show ∃a vs,v= .ref a/\H a=some (.tup vs)/\RelDs X.K H (ns.map D.int) vs from r1);rw [zS r2] at hH;subst e e1;exact⟨a,ns,rfl,.inr (SqT.of hH),h64,fin⟩
 ·subst e;obtain⟨v,e,r1⟩:=jy r;obtain⟨vs,hH,r2⟩:=rh a _ ha;have e1:v= .ref a:=r1.1;rw [zS r2] at hH;subst e e1;exact⟨a,ns,rfl,.inl (SqL.of hH),h64,fin⟩
def Cb (to ti te:TED):TED:=λσ h Q=>to σ h λx h1=> ∃a,x= .lst a/\ti σ h1 λi h2=>te σ h2 λy h3=> ∃ (k:Nat) (xs:List D),i= .int (k:Int)/\k<=1000/\h3 a=some xs/\xs.length<sizeLine/\Q .non (zm h3 a (xs.take k++y::xs.drop k))
theorem Xp:MtM X "list.insert" (λx vs H Q=> ∃ (l:Addr) (xs:List V) (k:Nat) (y:V),x= .ref l/\vs= [.int (k:Int),y]/\H l=some (.lst xs)/\k<=1000/\xs.length<sizeLine/\Q .non (upd H l (.lst (xs.take k++y::xs.drop k)))):=by
 intro pins s σ H x vs v us Q I rx rv h;obtain⟨l,xs,k,y,rfl,rfl,hH,hk,hz,q⟩:=h;cases rx;obtain⟨u,w',rfl,⟨t,rfl⟩,ry⟩:=Qs rv;obtain⟨z,its,n,r,hl,e⟩:=I.lstM hH;have hfit: ¬ (!Builtin.List.listFitsIndex (k:Int))=true:=by rw [fitsIndex_both (by omega) (by omega)];exact G6
 have hsz:its.toArray.size<=sizeLine:=by rw [G7];omega
 generalize har:its.toArray=ar at e hsz;obtain⟨kk,hkk⟩: ∃kk:Int,kk=(k:Int):=⟨_,rfl⟩;rw [<-hkk] at hfit ⊢;refine J7 F.slot_list_insert ⟨_,e,rfl⟩ F.entry_list_insert (F.args_list_insert_3 _ _ _) (AutoListH.list_insert_list_int_val_1 l ar n kk t w' hfit hsz) ⟨e,?_⟩;subst har hkk;refine⟨.non,_,I.lset (its':=its.take k++w'::its.drop k) hH e ?_ ((r.take k).append (.cons ry (r.drop k))) ?_,rfl,q⟩
 ·have hk0: ¬ ((k:Int)<0):=by omega
  simp only [hk0,K0,Int.toNat_natCast,G7];have e1:its.take (min k its.length)=its.take k:=by
   by_cases hh:k<=its.length
   ·rw [Nat.min_eq_left hh]
   ·rw [Nat.min_eq_right (by omega),List.take_length,S2 (by omega)]
  have e2:its.drop (min k its.length)=its.drop k:=by
   by_cases hh:k<=its.length
   ·rw [Nat.min_eq_left hh]
   ·rw [Nat.min_eq_right (by omega),List.drop_length,List.drop_of_length_le (by omega)]
  have e3:(its.drop k).take (its.length-min k its.length)=its.drop k:=S2 (by rw [L0];omega);apply Array.ext';simp only [Array.toList_append,Array.toList_push,List.extract_toArray,List.extract_eq_drop_take,List.drop_zero,Nat.sub_zero];rw [e1,e2,e3,N1];rfl
 ·rw [P8,D0,M5,L0];omega
section
variable {X:Cx}{o e i:Expr}{to te ti:TED}{apos cpos:Pos}
theorem CP (ho:QE X o to)(hi:QE X i ti)(he:QE X e te)(hbase:attributeBase o "insert" X.env (eval o X.env)=eval o X.env:=by rfl)
 (hfew:((backTo cpos (starEach [i,e] X.env)).all (λx=> !x.1)&&(backToKw cpos (keywordEach [] X.env)).all (λx=>x.1.isSome)&&decide ([i,e].length+([]:List Keyword).length+(if ([]:List Keyword).isEmpty then 0 else 1)<30))=true:=by rfl)
 (hline:(apos.endLine==cpos.line)=true:=by rfl)(hs:starEach [i,e] X.env=(false,eval i X.env)::starEach [e] X.env:=by rfl)(hs2:starEach [e] X.env=(false,eval e X.env)::starEach [] X.env:=by rfl)(hplain:(backTo cpos (starEach [e] X.env)).any (·.1)=false:=by rfl):
 QE X (.Call (.Attribute o "insert" apos) [i,e] [] cpos) (Cb to ti te):=
 (RB A6 PySem.F.slot_list_insert PySem.F.type_list_insert Xp ho (yK hi (yK he pa_nil hs2) hs) hbase hfew hline hs hplain).imp
  λσ H Q ⟨σd,h,Qd,rs,rh,t,p⟩=>LE.bind rs rh t λd v h1 H1 k1 rs1 rh1 r1 ⟨a,e,q⟩=>by
   subst e;obtain⟨e1,vs,hH⟩:=(show v= .ref a/\ ∃vs,H1 a=some (.lst vs) from r1);subst e1;refine⟨.inl ⟨rfl,vs,SqL.of hH⟩,?_⟩;refine LE.bind rs1 rh1 q λdi vi h2 H2 k2 rs2 rh2 r2 q2=>LE.bind rs2 rh2 q2 λy u h3 H3 k3 rs3 rh3 r3 ⟨k,xs,ei,hk,hx,hz,q3⟩=> ?_
   subst ei;have ev:vi= .int (k:Int):=r2;obtain⟨ws,hW,r4⟩:=rh3 a xs hx;refine⟨a,ws,k,u,rfl,by rw [ev],hW,hk,by rw [<-r4.length];exact hz,p .non _ _ _ (k1.trans (k2.trans (k3.trans (.put hW)))) (rh3.put hW ((r4.take k).append (.cons r3 (r4.drop k)))) rfl q3⟩
end
structure JE (X:Cx)(e:Expr)(t:TED):Prop where
 to:QE X e t
structure JT (X:Cx)(e:Expr)(t:TTD):Prop where
 to:QT X e t
structure JW (X:Cx)(e:Expr)(t:TTD):Prop where
 to:QW X e t
structure JA (X:Cx)(e:List Expr)(t:TAD):Prop where
 to:QA X e t
structure JS (X:Cx)(e:Stmt)(t:TSD):Prop where
 to:QS X e t
structure JSs (X:Cx)(e:List Stmt)(t:TSD):Prop where
 to:QSs X e t
structure JG (X:Cx)(e:Expr)(t:TGD):Prop where
 to:QG X e t
structure JI (X:Cx)(tg e:Expr)(t:TID):Prop where
 to:QI X tg e t
structure JO (X:Cx)(e:Option Expr)(t:TOD):Prop where
 to:QO X e t
section
variable {X:Cx}{a b c e:Expr}{es zP:List Expr}{ta tb tc te:TED}{t u:TAD}{tt tu:TTD}{pos:Pos}{f r r':RD2}
theorem jv (i:Nat){x:Str}(hN:X.N[i]? =some x:=by rfl)(hv:Vis X.env.scope x:=by first|exact Or.inl rfl|exact Or.inr (Or.inl rfl)|exact Or.inr (Or.inr rfl))(hd:(x==("__debug__" :Str))=false:=by decide)(hcd:(x==("__classdict__" :Str))=false:=by decide):JE X (.Name x pos) (UV i):=⟨qv (i:=i) (hN:=hN) (hv:=hv) (hd:=hd) (hcd:=hcd)⟩
variable {j:Nat}
theorem jw {i:Int}:JE X (.Constant (.int i) j pos) (dC (.int i)):=⟨Cp⟩
theorem jbl {i:Bool}:JE X (.Constant (.bool i) j pos) (dC (.bl i)):=⟨qbl⟩
theorem Bn:JE X (.Constant .none j pos) (dC .non):=⟨Cq⟩
theorem Bo {x:Str}:JE X (.Constant (.str x) j pos) (dC (.str x)):=⟨Cr⟩
theorem MK {x:Str}{i:Int}{tk:Tok}(hg:Gl X x)(hm:X.mg x=some (.int i tk))(hd:(x==("__debug__" :Str))=false:=by decide):JE X (.Name x pos) (dC (.int i)):=⟨NN (hg:=hg) (hm:=hm) (hd:=hd)⟩
theorem jop {op:Operator}(ho:OpQ X (binaryOp op) f)(ha:JE X a ta)(hb:JE X b tb):JE X (.BinOp a op b pos) (dOp f ta tb):=⟨qop (ho:=ho) (ha:=ha.to) (hb:=hb.to)⟩
variable {op:CmpOp}
theorem XX (ho:OpQ X (compareOp op) f)(ha:JE X a ta)(hb:JE X b tb)(hm:behindInMarks op b=false):JE X (.Compare a [op] [b] pos) (dOp f ta tb):=⟨Cs (ho:=ho) (ha:=ha.to) (hb:=hb.to) (hm:=hm)⟩
theorem zG (ho:OpQ X (compareOp op) f)(ha:JE X a ta)(hb:JE X b tb)(hm:behindInMarks op b=false):JT X (.Compare a [op] [b] pos) (vS (dOp f ta tb)):=⟨NO (ho:=ho) (ha:=ha.to) (hb:=hb.to) (hm:=hm)⟩
theorem GD {op':CmpOp}(ho:OpQ X (compareOp op) r)(ho':OpQ X (compareOp op') r')(ha:JE X a ta)(hb:JE X b tb)(hc:JE X c tc)(hm:lastMarks [op,op'] [b,c]=false:=by with_unfolding_all rfl):JE X (.Compare a [op,op'] [b,c] pos) (vT r r' ta tb tc):=⟨RY (ho:=ho) (ho':=ho') (ha:=ha.to) (hb:=hb.to) (hc:=hc.to) (hm:=hm)⟩
theorem Xq {op':CmpOp}(ho:OpQ X (compareOp op) r)(ho':OpQ X (compareOp op') r')(ha:JE X a ta)(hb:JE X b tb)(hc:JE X c tc)(hm:lastMarks [op,op'] [b,c]=false:=by with_unfolding_all rfl):JT X (.Compare a [op,op'] [b,c] pos) (vS (vT r r' ta tb tc)):=⟨Px (ho:=ho) (ho':=ho') (ha:=ha.to) (hb:=hb.to) (hc:=hc.to) (hm:=hm)⟩
theorem wU (ha:JE X a ta)(he: ∀whole,isTrue a X.env whole=(do let v <-whole;standAt a.pos;holding [v] (truthy v)):=by intro _;rfl):JT X a (vS ta):=⟨NP (ha:=ha.to) (he:=he)⟩
theorem Dl (ha:JT X a tt):JW X (.BoolOp .And [a] pos) tt:=⟨NQ (ha:=ha.to)⟩
theorem XY (ha:JT X a tt):JW X (.BoolOp .Or [a] pos) tt:=⟨Ct (ha:=ha.to)⟩
theorem QL (ha:JT X a tt)(hb:JW X (.BoolOp .And (b::zP) pos) tu):JW X (.BoolOp .And (a::b::zP) pos) (Pu tt tu):=⟨NR (ha:=ha.to) (hb:=hb.to)⟩
theorem Uk (ha:JT X a tt)(hb:JW X (.BoolOp .Or (b::zP) pos) tu):JW X (.BoolOp .Or (a::b::zP) pos) (RM tt tu):=⟨Cu (ha:=ha.to) (hb:=hb.to)⟩
theorem wk (ha:JT X a tt):JT X (.UnaryOp .Not a pos) (UW tt):=⟨NS (ha:=ha.to)⟩
theorem XZ {op:BoolOp}(ha:JE X a ta):JE X (.BoolOp op [a] pos) ta:=⟨Cv (ha:=ha.to)⟩
theorem GE (ha:JE X a ta)(hb:JE X (.BoolOp .And (b::zP) pos) tb):JE X (.BoolOp .And (a::b::zP) pos) (UX ta tb):=⟨Cw (ha:=ha.to) (hb:=hb.to)⟩
theorem jor (ha:JE X a ta)(hb:JE X (.BoolOp .Or (b::zP) pos) tb):JE X (.BoolOp .Or (a::b::zP) pos) (NK ta tb):=⟨qor (ha:=ha.to) (hb:=hb.to)⟩
theorem Cc (ha:JE X a ta):JE X (.UnaryOp .Not a pos) (UY ta):=⟨Cy (ha:=ha.to)⟩
theorem jb:JA X [] VO:=⟨RZ⟩
theorem zC {k:Nat}(h:JA X es t):JE X (.Tuple es k pos) (Ni t):=⟨Cz (h:=h.to)⟩
theorem vt (h:JA X es t):JE X (.List es pos) (DF t):=⟨CA (h:=h.to)⟩
end
section
variable {X:Cx}{st:Stmt}{sts:List Stmt}{t u:TSD}{e:Expr}{te:TED}{pos:Pos}
theorem jS:JSs X [] VP:=⟨Mf⟩
theorem jg (h1:JS X st t)(h2:JSs X sts u):JSs X (st::sts) (Xa t u):=⟨PH (h1:=h1.to) (h2:=h2.to)⟩
theorem jn (h1:JS X st t):JSs X [st] t:=⟨Mg (h1:=h1.to)⟩
theorem QM (he:JE X e te)(hs:swapsWith e none pos.line X.env=pure false:=by rfl):JS X (.Expr e pos) (Pz te):=⟨NW (he:=he.to) (hs:=hs)⟩
theorem we (he:JE X e te):JS X (.Return (some e) pos) (Uj te):=⟨CB (he:=he.to)⟩
theorem Js {c:Expr}{a b:List Stmt}{tc:TTD}(hc:JT X c tc)(ha:JSs X a t)(hb:JSs X b u):JS X (.If c a b pos) (DG tc t u):=⟨CC (hc:=hc.to) (ha:=ha.to) (hb:=hb.to)⟩
variable {i:Nat}{x:Str}
theorem wO {pos':Pos}(hN:X.N.Nodup)(hi:X.N[i]? =some x)(hx:Loc X.env.scope x)(he:JE X e te)(hs:swapsWith e (some (.Name x pos')) pos.line X.env=pure false:=by rfl)(hf:X.fn x=true\/X.env.scope.names.lookup x=some .local:=by first|exact .inl rfl|exact .inr rfl|assumption):JS X (.Assign [.Name x pos'] e pos) (PB i te):=⟨CF (hN:=hN) (hi:=hi) (hx:=hx) (he:=he.to) (hs:=hs) (hf:=hf)⟩
theorem zT (hN:X.N.Nodup)(hi:X.N[i]? =some x)(hx:Loc X.env.scope x)(hf:X.fn x=true\/X.env.scope.names.lookup x=some .local:=by first|exact .inl rfl|exact .inr rfl|assumption):JG X (.Name x pos) (gN i):=⟨PJ (hN:=hN) (hi:=hi) (hx:=hx) (hf:=hf)⟩
theorem vd {j:Nat}{y:Str}{p1 p2:Pos}{k:Nat}(hc:X.calm=true)(hN:X.N.Nodup)(hi:X.N[i]? =some x)(hj:X.N[j]? =some y)(hx:Loc X.env.scope x)(hy:Loc X.env.scope y)(hf:X.fn x=true\/X.env.scope.names.lookup x=some .local:=by first|exact .inl rfl|exact .inr rfl|assumption)(hf2:X.fn y=true\/X.env.scope.names.lookup y=some .local:=by first|exact .inl rfl|exact .inr rfl|assumption):JG X (.Tuple [.Name x p1,.Name y p2] k pos) (gT2 i j):=⟨Mh (hc:=hc) (hN:=hN) (hi:=hi) (hj:=hj) (hx:=hx) (hy:=hy) (hf:=hf) (hf2:=hf2)⟩
theorem Dm {tg:Expr}{g:TGD}(he:JE X e te)(hg:JG X tg g)(hs:swapsWithSole [tg] e pos.line X.env=pure false:=by rfl)(hsw:swappedStores [tg] e X.env=pure none:=by rfl)(h1:(assignEach [tg] X.env).map (·.2)= [assign tg X.env]:=by rfl):JS X (.Assign [tg] e pos) (NT te g):=⟨CG (he:=he.to) (hg:=hg.to) (hs:=hs) (hsw:=hsw) (h1:=h1)⟩
theorem CQ {j:Nat}{y:Str}{a b:Expr}{ta:TAD}{px py pt:Pos}{kt k2 pt2}(hc:X.calm=true)(hN:X.N.Nodup)(hi:X.N[i]? =some x)(hj:X.N[j]? =some y)(hij:i≠j)(hx:X.env.scope.names.lookup x=some .local)(hy:X.env.scope.names.lookup y=some .local)(ha:JA X [a,b] ta)(hw:swappedStores [.Tuple [.Name x px,.Name y py] kt pt] (.Tuple [a,b] k2 pt2) X.env=pure (some [x,y]))(hs:swapsWithSole [.Tuple [.Name x px,.Name y py] kt pt] (.Tuple [a,b] k2 pt2) pos.line X.env=pure false:=by rfl):JS X (.Assign [.Tuple [.Name x px,.Name y py] kt pt] (.Tuple [a,b] k2 pt2) pos) (NU i j ta):=⟨CH (hc:=hc) (hN:=hN) (hi:=hi) (hj:=hj) (hij:=hij) (hx:=hx) (hy:=hy) (ha:=ha.to) (hw:=hw) (hs:=hs)⟩
end
section
variable {X:Cx}{tg e iter elt:Expr}{te:TED}{ti:TID}{g:TGD}{tb:TSD}{tt:TTD}{pos:Pos}{ta:TAD}{scope:Scope}{js:List Nat}{ifs:List Expr}
theorem Xr (he:JE X e te):JI X tg e (iL te):=⟨PN (he:=he.to)⟩
theorem Ys {p:Pos}{a:Expr}(hg:Gl X "range")(hm:X.mg "range" =none)(ha:JA X [a] ta)(hs:starEach [a] X.env= [(false,eval a X.env)]:=by rfl):JI X tg (.Call (.Name "range" p) [a] [] pos) (iR1 ta):=⟨Ba (hg:=hg) (hm:=hm) (ha:=ha.to) (hs:=hs)⟩
theorem Vl {body:List Stmt}(hp:PassesOwn (model X.prog X.w) X.A X.env X.xe)(hc:X.calm=true)(hi:JI X tg iter ti)(hg:JG X tg g)(hb:JSs X body tb)(hs: ∀x,foldedSetIterable iter X.env x=pure x:=by intro _;rfl):JS X (.For tg iter body [] pos) (PL ti g tb):=⟨CI (hp:=hp) (hc:=hc) (hi:=hi.to) (hg:=hg.to) (hb:=hb.to) (hs:=hs)⟩
theorem zd:PTs X [] (LT X.K ZZ):=PP
theorem Do {c:Expr}(hc:JT X c tt):PTs X [c] (LT X.K tt):=PQ (hc:=hc.to)
theorem jlc {i:Nat}{x:Str}{p:Pos}(hc:X.calm=true)(S:BlockOk X scope js)(hi:JI X (.Name x p) iter ti)(hj:i∈js)(hN:X.N.Nodup)(hx:X.N[i]? =some x)(hl:scope.names.lookup x=some .local\/scope.names.lookup x=some .cell)(ht: ∀X',jt X scope X'->PTs X' ifs (LT X'.K tt))(he: ∀X',jt X scope X'->JE X' elt te)(hs: ∀x,foldedSetIterable iter X.env x=pure x:=by intro _;rfl):JE X (.ListComp elt [⟨.Name x p,iter,ifs,0⟩] scope pos) (Wa (bN i) js ti tt te):=⟨qlc (hc:=hc) (S:=S) (hi:=hi.to) (hj:=hj) (hN:=hN) (hx:=hx) (hl:=hl) (ht:=ht) (he:=λX' hX=>(he X' hX).to) (hs:=hs)⟩
theorem CS {i j:Nat}{x y:Str}{p1 p2 p3:Pos}{k:Nat}(hc:X.calm=true)(S:BlockOk X scope js)(hi:JI X (.Tuple [.Name x p1,.Name y p2] k p3) iter ti)(hj:i∈js)(hj2:j∈js)(hij:i≠j)(hN:X.N.Nodup)(hx:X.N[i]? =some x)(hy:X.N[j]? =some y)(hl:scope.names.lookup x=some .local\/scope.names.lookup x=some .cell)(hl2:scope.names.lookup y=some .local\/scope.names.lookup y=some .cell)(ht: ∀X',jt X scope X'->PTs X' ifs (LT X'.K tt))(he: ∀X',jt X scope X'->JE X' elt te)(hs: ∀x,foldedSetIterable iter X.env x=pure x:=by intro _;rfl):JE X (.ListComp elt [⟨.Tuple [.Name x p1,.Name y p2] k p3,iter,ifs,0⟩] scope pos) (Wa (b2 i j) js ti tt te):=⟨CJ (hc:=hc) (S:=S) (hi:=hi.to) (hj:=hj) (hj2:=hj2) (hij:=hij) (hN:=hN) (hx:=hx) (hy:=hy) (hl:=hl) (hl2:=hl2) (ht:=ht) (he:=λX' hX=>(he X' hX).to) (hs:=hs)⟩
end
section
variable {X:Cx}{k:Nat}{f:Addr}{fd:FuncData}{ps:List Str}{spd:RDn}{x:Str}{p pos:Pos}{e:Expr}{es:List Expr}{t:TAD}
theorem jC (F:FnOk X.prog X.w X.K X.mg X.base CX0 k f fd ps (LSp X.K spd))(hr:Room k X.A)(hg:Gl X x)(hm:X.mg x=some (.ref f))(hk:PySem.W.keepIn X.K (.ref f)=true)(hb:Binds X.K fd ps [])(ha:JA X (e::es) t)(hdb:(x==("__debug__" :Str))=false:=by decide)(he:starEach (e::es) X.env=(false,eval e X.env)::starEach es X.env:=by rfl)(hpl:(backTo pos (starEach es X.env)).any (·.1)=false:=by rfl):JE X (.Call (.Name x p) (e::es) [] pos) (dCB spd t):=⟨Bb (F:=F) (hr:=hr) (hg:=hg) (hm:=hm) (hk:=hk) (hb:=hb) (ha:=ha.to) (hdb:=hdb) (he:=he) (hpl:=hpl)⟩
theorem jM {id:String}{r:RDn}(hc:wG X (.builtin id) r)(hg:Gl X x)(hm:X.mg x=none)(hv:bootBuiltins x=some (.builtin id))(ha:JA X (e::es) t)(hn:x≠ "__name__" :=by decide)(hdb:(x==("__debug__" :Str))=false:=by decide)(he:starEach (e::es) X.env=(false,eval e X.env)::starEach es X.env:=by rfl)(hpl:(backTo pos (starEach es X.env)).any (·.1)=false:=by rfl):JE X (.Call (.Name x p) (e::es) [] pos) (dCB r t):=⟨Ml (hc:=hc) (hg:=hg) (hm:=hm) (hv:=hv) (ha:=ha.to) (hn:=hn) (hdb:=hdb) (he:=he) (hpl:=hpl)⟩
theorem zi {T:String}{r:RDn}(hc:wG X (.type T) r)(hg:Gl X x)(hm:X.mg x=none)(hv:bootBuiltins x=some (.type T))(ha:JA X (e::es) t)(hn:x≠ "__name__" :=by decide)(hdb:(x==("__debug__" :Str))=false:=by decide)(he:starEach (e::es) X.env=(false,eval e X.env)::starEach es X.env:=by rfl)(hpl:(backTo pos (starEach es X.env)).any (·.1)=false:=by rfl):JE X (.Call (.Name x p) (e::es) [] pos) (dCB r t):=⟨PU (hc:=hc) (hg:=hg) (hm:=hm) (hv:=hv) (ha:=ha.to) (hn:=hn) (hdb:=hdb) (he:=he) (hpl:=hpl)⟩
end
section
variable {X:Cx}{iter elt:Expr}{te:TED}{ti:TID}{tt:TTD}{pos spos:Pos}{scope:Scope}{js:List Nat}{ifs:List Expr}
theorem ML {i k:Nat}{x y:Str}{p py:Pos}(hc:X.calm=true)(hN:X.N.Nodup)(hk:X.N[k]? =some y)(hy:Loc X.env.scope y)(S:BlockOk X scope js)(hi:JI X (.Name x p) iter ti)(hj:i∈js)(hx:X.N[i]? =some x)(hl:scope.names.lookup x=some .local\/scope.names.lookup x=some .cell)(ht: ∀X',jt X scope X'->PTs X' ifs (LT X'.K tt))(he: ∀X',jt X scope X'->JE X' elt te)(hsw:swapsWith (.ListComp elt [⟨.Name x p,iter,ifs,0⟩] scope pos) (some (.Name y py)) spos.line X.env=pure true:=by rfl)(hf:X.fn y=true\/X.env.scope.names.lookup y=some .local:=by first|exact .inl rfl|exact .inr rfl|assumption)(hs: ∀x,foldedSetIterable iter X.env x=pure x:=by intro _;rfl):JS X (.Assign [.Name y py] (.ListComp elt [⟨.Name x p,iter,ifs,0⟩] scope pos) spos) (PB k (Wa (bN i) js ti tt te)):=⟨Mm (hc:=hc) (hN:=hN) (hk:=hk) (hy:=hy) (S:=S) (hi:=hi.to) (hj:=hj) (hx:=hx) (hl:=hl) (ht:=ht) (he:=λX' hX=>(he X' hX).to) (hsw:=hsw) (hf:=hf) (hs:=hs)⟩
end
section
variable {X:Cx}{iter iter' elt:Expr}{te:TED}{ti ti':TID}{tt tt':TTD}{pos:Pos}{scope:Scope}{js:List Nat}{ifs ifs':List Expr}
theorem CT {i i':Nat}{x y:Str}{p py:Pos}(hc:X.calm=true)(S:BlockOk X scope js)(hi:JI X (.Name x p) iter ti)(hj:i∈js)(hj':i'∈js)(hne:i≠i')(hN:X.N.Nodup)(hx:X.N[i]? =some x)(hy:X.N[i']? =some y)(hl:scope.names.lookup x=some .local\/scope.names.lookup x=some .cell)(hl':scope.names.lookup y=some .local\/scope.names.lookup y=some .cell)(ht: ∀X',jt X scope X'->PTs X' ifs (LT X'.K tt))(hi': ∀X',jt X scope X'->JI X' (.Name y py) iter' ti')(ht': ∀X',jt X scope X'->PTs X' ifs' (LT X'.K tt'))(he: ∀X',jt X scope X'->JE X' elt te)(hs: ∀x,foldedSetIterable iter X.env x=pure x:=by intro _;rfl)(hs': ∀env x,foldedSetIterable iter' env x=pure x:=by intro _ _;rfl):JE X (.ListComp elt [⟨.Name x p,iter,ifs,0⟩,⟨.Name y py,iter',ifs',0⟩] scope pos) (DI (bN i) js ti tt i' ti' tt' te):=⟨CK (hc:=hc) (S:=S) (hi:=hi.to) (hj:=hj) (hj':=hj') (hne:=hne) (hN:=hN) (hx:=hx) (hy:=hy) (hl:=hl) (hl':=hl') (ht:=ht) (hi':=λX' hX=>(hi' X' hX).to) (ht':=ht') (he:=λX' hX=>(he X' hX).to) (hs:=hs) (hs':=hs')⟩
end
section
variable {X:Cx}{a b e:Expr}{ta tb te:TED}{pos p2:Pos}
theorem jix (ha:JE X a ta)(hb:JE X b tb)(hs:Yi b):JE X (.Subscript a b pos) (dOp ixD ta tb):=⟨qix (ha:=ha.to) (hb:=hb.to) (hs:=hs)⟩
end
variable {pos:Pos}
theorem Ja {a:Expr}{ta:TED}{T:String}{t:Str}{p p2:Pos}(hT:T∈ ["tuple","int","bool","list","str"])(hg:Gl X "isinstance")(hm:X.mg "isinstance" =none)(hg2:Gl X t)(hm2:X.mg t=none)(hv:bootBuiltins t=some (.type T))(ha:JE X a ta)(hn:t≠ "__name__" :=by decide)(hd:(t==("__debug__" :Str))=false:=by decide)(h1:starEach [a,.Name t p2] X.env=(false,eval a X.env)::starEach [.Name t p2] X.env:=by rfl)(h2:(backTo pos (starEach [.Name t p2] X.env)).any (·.1)=false:=by rfl):JE X (.Call (.Name "isinstance" p) [a,.Name t p2] [] pos) (dIs T ta):=⟨Bi (hT:=hT) (hg:=hg) (hm:=hm) (hg2:=hg2) (hm2:=hm2) (hv:=hv) (ha:=ha.to) (hn:=hn) (hd:=hd) (h1:=h1) (h2:=h2)⟩
section
variable {X:Cx}{o e i:Expr}{to te ti:TED}{apos cpos pos:Pos}
theorem Cd (ho:JE X o to)(he:JE X e te)(hbase:attributeBase o "append" X.env (eval o X.env)=eval o X.env:=by rfl)(hfew:((backTo cpos (starEach [e] X.env)).all (λx=> !x.1)&&(backToKw cpos (keywordEach [] X.env)).all (λx=>x.1.isSome)&&decide ([e].length+([]:List Keyword).length+(if ([]:List Keyword).isEmpty then 0 else 1)<30))=true:=by rfl)(hline:(apos.endLine==cpos.line)=true:=by rfl)(hs:starEach [e] X.env=(false,eval e X.env)::starEach [] X.env:=by rfl)(hplain:(backTo cpos (starEach [] X.env)).any (·.1)=false:=by rfl):JE X (.Call (.Attribute o "append" apos) [e] [] cpos) (BZ to te):=⟨CM (ho:=ho.to) (he:=he.to) (hbase:=hbase) (hfew:=hfew) (hline:=hline) (hs:=hs) (hplain:=hplain)⟩
theorem Vm (ho:JE X o to)(hi:JE X i ti)(ha: ∀v,assign (.Subscript o i pos) X.env v=(do
 let ov <-holding [v] (eval o X.env)
 let iv <-holding [v,ov] (eval i X.env)
 standAt pos
 holding [v,ov,iv] (setItem ov iv v)
 release [v,ov,iv] []):=by intro _;rfl):JG X (.Subscript o i pos) (Mv to ti):=⟨Mw (ho:=ho.to) (hi:=hi.to) (ha:=ha)⟩
end
variable {e:Expr}
theorem jpt {t:TTD}(h:JW X e t):JT X e t:=⟨qpt (h:=h.to)⟩
theorem Yt:JO X none Xj:=⟨Df⟩
variable {te:TED}
theorem Jb (he:JE X e te):JO X (some e) (Mx te):=⟨Dg (he:=he.to)⟩
theorem Vn {lo hi:Option Expr}{tl th:TOD}{p2:Pos}(he:JE X e te)(hl:JO X lo tl)(hu:JO X hi th):JE X (.Subscript e (.Slice lo hi none p2) pos) (dSl te tl th):=⟨Mz (he:=he.to) (hl:=hl.to) (hu:=hu.to)⟩
theorem Bp {a:Expr}{ta:TED}(ha:JE X a ta):JE X (.UnaryOp .USub a pos) (dUn Bk ta):=⟨CO (ha:=ha.to)⟩
theorem MM {ks:List (Option Expr)}{vs:List Expr}{x:Str}{i:Int}(h:Yp ks vs=some (x,i):=by rfl):JE X (.Dict ks vs pos) (Vj x i):=⟨MB (h:=h)⟩
theorem wc {tg:Expr}(he:JE X e te):JI X tg e (iS te):=⟨MF (he:=he.to)⟩
theorem MN {st:Stmt}:JS X st GB:=⟨MG⟩
theorem jac {es:List Expr}{t:TAD}(ha:JE X e te)(hr:JA X es t)(h:Yq e=true:=by rfl):JA X (e::es) (yt te t):=⟨qac (ha:=ha.to) (hr:=hr.to) (h:=h)⟩
section
variable {X:Cx}{o e i:Expr}{to te ti:TED}{apos cpos:Pos}
theorem CU (ho:JE X o to)(hi:JE X i ti)(he:JE X e te)(hbase:attributeBase o "insert" X.env (eval o X.env)=eval o X.env:=by rfl)(hfew:((backTo cpos (starEach [i,e] X.env)).all (λx=> !x.1)&&(backToKw cpos (keywordEach [] X.env)).all (λx=>x.1.isSome)&&decide ([i,e].length+([]:List Keyword).length+(if ([]:List Keyword).isEmpty then 0 else 1)<30))=true:=by rfl)(hline:(apos.endLine==cpos.line)=true:=by rfl)(hs:starEach [i,e] X.env=(false,eval i X.env)::starEach [e] X.env:=by rfl)(hs2:starEach [e] X.env=(false,eval e X.env)::starEach [] X.env:=by rfl)(hplain:(backTo cpos (starEach [e] X.env)).any (·.1)=false:=by rfl):JE X (.Call (.Attribute o "insert" apos) [i,e] [] cpos) (Cb to ti te):=⟨CP (ho:=ho.to) (hi:=hi.to) (he:=he.to) (hbase:=hbase) (hfew:=hfew) (hline:=hline) (hs:=hs) (hs2:=hs2) (hplain:=hplain)⟩
end
section
variable {P:Program}{w:World}{K:PySem.W.Frag}{mg:Str->Option Value}{base:Heap}
theorem Fun.okJ {x qual:Str}{st:Stmt}{f:Addr}{fd:FuncData}{N ps:List Str}{k:Nat}{spd:RDn}(F:Fun K x qual st f fd)(S:FnScope N ps (jj st))(len: ∀ds h Q,spd ds h Q->ds.length=ps.length)
 (tb:TSD)(hbody: ∀ (cdv:Value) (A:Around) (outer:List Env) (s:Shared) (H:Hp) (E:XK),Room k (A.deeper (envOfC qual (jj st) s.heap.objs.size f cdv))->JSs (Gt CX0 P w K mg base N qual (jj st) f cdv A outer s H E).nox (zt st) tb)
 (read: ∀ds h Q,spd ds h Q->tb (Xc Q) (zx N ds) h):FnOk P w K mg base CX0 (k+1) f fd ps (LSp K spd):=F.okD S len tb (λcdv A outer s H E hr=>(hbody cdv A outer s H E hr).to) read
end
def zo (r:List Int):D:= .tup (r.map D.int)
def zH (T:List (List Int)):D:= .tup (T.map zo)
def zU (n:Nat)(r:List Int):Prop:=r.length=n/\ ∀x∈r,0<=x/\x<=1000000
def GoodTab (n:Nat)(T:List (List Int)):Prop:=T.length=n/\ ∀r∈T,zU n r
structure Sq (n e:Nat)(T:List (List Int)):Prop where
 len:T.length=n
 row: ∀r∈T,r.length=n
 nn: ∀r∈T,∀x∈r,0<=x
 bit: ∀r∈T,∀x∈r,x<2^e
theorem GoodTab.sq {n:Nat}{T:List (List Int)}(g:GoodTab n T):Sq n 20 T:=⟨g.1,λr hr=>(g.2 r hr).1,λr hr x hx=>((g.2 r hr).2 x hx).1,λr hr x hx=>Int.lt_of_le_of_lt ((g.2 r hr).2 x hx).2 (by decide)⟩
def ent (T:List (List Int))(i j:Nat):Int:=(T.getD i []).getD j 0
def mkT (n:Nat)(f:Nat->Nat->Int):List (List Int):=(List.range n).map λi=>(List.range n).map λj=>f i j
theorem Sq.ent_nn {n e:Nat}{T:List (List Int)}(h:Sq n e T){i j:Nat}(hi:i<n)(hj:j<n):0<=ent T i j/\ent T i j<2^e:=by
 have hi':i<T.length:=by rw [h.len];exact hi
 have hr:T.getD i []=T[i]:=by rw [R0,G2 hi'];rfl
 have hm:T[i]∈T:=T0 hi';have hj':j<T[i].length:=by rw [h.row _ hm];exact hj
 have he:ent T i j=T[i][j]:=by unfold ent;rw [hr,List.getD_eq_getElem?_getD,List.getElem?_eq_getElem hj'];rfl
 rw [he];exact⟨h.nn _ hm _ (T0 hj'),h.bit _ hm _ (T0 hj')⟩
def Bq (n:Nat)(f:Nat->Int):Int:=((List.range n).map f).sum
def CV (n:Nat)(T U:List (List Int)):List (List Int):=mkT n λi j=>Bq n λk=>ent T i k*ent U k j
def CW (n:Nat):List (List Int):=mkT n λi j=>if i=j then 1 else 0
def Br (n:Nat)(T:List (List Int)):Nat->List (List Int)
 |0=>CW n
 |k+1=>CV n (Br n T k) T
structure Ord (n:Nat)(o:List Nat):Prop where
 len:o.length=n
 all: ∀i,i<n->i∈o
theorem Jc {x:Int}{e:Nat}(h0:0<=x)(h1:x<2^e):x.natAbs<2^e:=by
 have:((2^e:Nat):Int)=2^e:=by simp
 omega
section
variable {α β:Type}{i i':Nat}{js:List Nat}{ti ti':TID}{te:TED}{σ:SD}{h:HD}{Q:KD}{j:ItD}
theorem lcA (xs:List α)(c g:α->D)(hz:xs.length<=1000)(hj:j h=some (xs.map c))(ht: ∀R:ItD->HD->Prop,R j h->ti σ h R)
 (he: ∀x∈xs,∀Q':KD,Q' (g x) h->te ((jZ js σ).set i (some (c x))) h Q')(hq: ∀p,h p=none->Q (.lst p) (zm h p (xs.map g))):Wa (bN i) js ti ZZ te σ h Q:=by
 refine ht _ ⟨xs.length,λk ys h'=>h'=h/\ys=(xs.take k).map g,⟨rfl,by simp⟩,?_⟩;rintro k ys h' ⟨rfl,rfl⟩;refine⟨by simp only [G0,M5];exact R9 (jX (by omega)),xs.map c,hj,by simp,λhl p hp=> ?_,λd hd=>⟨_,rfl,?_⟩⟩
 ·rw [S2 (by simpa using hl)];exact hq p hp
 ·unfold ZZ;dsimp only;rw [if_pos rfl];rw [P1] at hd;cases hx:xs[k]? with
  |none=>rw [hx] at hd;cases hd
  |some x=>
   rw [hx] at hd;cases hd;refine he x (D7 hx) _ ⟨h',Sub.refl _,rfl,?_⟩;rw [N2,hx];simp
theorem Bs (xs:List α)(c g:α->D)(hz:xs.length<=1000)(hj:j h=some (xs.map c))(ht: ∀R:ItD->HD->Prop,R j h->ti σ h R)
 (he: ∀x∈xs,∀Q':KD,Q' (g x) h->te ((jZ js σ).set i (some (c x))) h Q')(hq:Q (.tup (xs.map g)) h):dCB JL (yt (Wa (bN i) js ti ZZ te) VO) σ h Q:=by
 show Wa (bN i) js ti ZZ te σ h (λx h1=>JL [x] h1 Q);exact lcA xs c g hz hj ht he λp hp=>(show ∃ys,zm h p (xs.map g) p=some ys/\Q (.tup ys) (wg (zm h p (xs.map g)) p) from ⟨_,ja,by rw [zM hp];exact hq⟩)
theorem Bt (xs:List α)(c:α->D)(g:α->Bool)(hz:xs.length<=1000)(hj:j h=some (xs.map c))(ht: ∀R:ItD->HD->Prop,R j h->ti σ h R)
 (he: ∀x∈xs,∀Q':KD,Q' (.bl (g x)) h->te ((jZ js σ).set i (some (c x))) h Q')(hq:Q (.bl (xs.all g)) h):dCB Mu (yt (Wa (bN i) js ti ZZ te) VO) σ h Q:=by
 show Wa (bN i) js ti ZZ te σ h (λx h1=>Mu [x] h1 Q);exact lcA xs c (λx=> .bl (g x)) hz hj ht he λp hp=>⟨p,xs.map g,rfl,by rw [ja,S6];rfl,by rw [zM hp,C1];exact hq⟩
end
end L2
namespace L2
open PySem PySem.Spec PyProof.Rows PySem.SeqAt
def Qa (o:List Nat):D:= .tup (o.map λ(k:Nat)=>D.int (k:Int))
def Ordr (n:Nat)(o:List Nat):Prop:=o.Perm (List.range n)
variable {n:Nat}
theorem Ordr.ord {o:List Nat}(h:Ordr n o):Ord n o:=⟨by rw [h.length_eq,T7],λi hi=>h.mem_iff.mpr (S3.mpr hi)⟩
theorem Ordr.insert {o:List Nat}(h:Ordr n o)(k:Nat):Ordr (n+1) (o.take k++n::o.drop k):=by
 unfold Ordr;rw [List.range_succ];refine List.perm_middle.trans ?_;rw [E8];exact(List.Perm.cons n h).trans (List.perm_append_singleton n _).symm
theorem Wd (h:HD): ∀ns:List Int,ToPs h (ns.map D.int) (ns.map PyData.int)
 | []=>rfl
 |n::ns=>⟨_,_,rfl,rfl,Wd h ns⟩
def Ce (r:List Int):PyData:= .tuple (r.map .int)
def Ul (T:List (List Int)):PyData:= .tuple (T.map Ce)
theorem We (h:HD): ∀T:List (List Int),ToPs h (T.map zo) (T.map Ce)
 | []=>rfl
 |r::T=>⟨_,_,rfl,⟨_,rfl,Wd h r⟩,We h T⟩
theorem Jd (h:HD)(T:List (List Int)):ToP h (zH T) (Ul T):=⟨_,rfl,We h T⟩
theorem Xs {e:Nat}{T:List (List Int)}(h:Sq n e T){i:Nat}(hi:i<n):atI (T.map zo) (i:Int)=some (zo (T.getD i [])):=by
 have hi':i<T.length:=by rw [h.len];exact hi
 exact yM (by rw [P1,R0,G2 hi'];rfl)
theorem Sq.getRow {e:Nat}{T:List (List Int)}(h:Sq n e T){i:Nat}(hi:i<n):T.getD i []∈T:=by
 have hi':i<T.length:=by rw [h.len];exact hi
 rw [R0,G2 hi'];exact T0 hi'
section
variable {prog:Program}{w:World}{A:Around}{E:Value->Shared->Prop}{s:Shared}
variable {items:Array Value}
theorem Xt {it t:Addr}{i n:Nat}{d1 d2:Option Addr}{s1 s2:Array (Option Value)}{P:PySem.Fin->Shared->Prop}(a1:s.heap.get? it=some {cls:= .type "tuple_iterator",dict:=d1,data:= .fields #[.ref t,.int i 0],slots:=s1})(a2:s.heap.get? t=some {cls:= .type "tuple",dict:=d2,data:= .seq items n,slots:=s2})
 (more: ∀x h',items[i]? =some x->h'.IsTupleIter it t (i+1)->Heap.SameBut it s.heap h'->P (.done (.ret x)) {s with heap:=h'})
 (none_:items[i]? =none->wpAny (model prog w) A (do setField (.ref it) 0 .none;Builtin.SmallTypes.stopIteration) P E s):wpAny (model prog w) A (Builtin.«tuple_iterator.__next__» ⟨[.ref it],[]⟩) P E s:=by
 obtain⟨hp,g,d,tk,os⟩:=s
 wp_walk
 rw [Int.toNat_natCast];cases hx:items[i]? with
 |none=>exact wpAny_bind (J6 (none_ hx))
 |some x=>
  refine wpAny_bind (wpAny_setField a1 rfl (by simp) (P6 (more x _ hx ⟨_,Heap.get?_update_self _ a1 ?_,rfl,?_⟩ (Heap.SameBut.update ..))))
  ·rfl
  ·simp [Obj.mapFields,rawInt]
theorem Yu {Q:PySem.Fin->Shared->Prop}(hh:A.handled=none)(hE: ∀h' e,(∀b o,s.heap.get? b=some o->h'.get? b=some o)->(∃o,h'.get? e=some o/\o.cls= .type "StopIteration")->E (.ref e) {s with heap:=h'}):wpAny (model prog w) A Builtin.SmallTypes.stopIteration Q E s:=by
 obtain⟨hp,g,d,tk,os⟩:=s;unfold Builtin.SmallTypes.stopIteration
 wp_walk
 unfold raiseNew;refine wpAny_bind (wpAny_handled ?_);rw [hh];exact wpAny_bind (P6 (wpAny_throw (hE _ _ (λb o q=>G3 _ (G3 _ q)) ⟨_,D4 _ rfl,rfl⟩)))
theorem VT {it t:Addr}{i:Nat}{x:Value}{Q:Value->Shared->Prop}(hit:s.heap.IsTupleIter it t i)(ht:s.heap.IsTuple t items)(hx:items[i]? =some x)
 (hQ: ∀h',h'.IsTupleIter it t (i+1)->Heap.SameBut it s.heap h'->Q x {s with heap:=h'}):wpAny (model prog w) A (Builtin.SmallTypes.nextOf (.ref it)) Q E s:=by
 obtain⟨⟨c,d1,dt,s1⟩,ho,rfl,rfl⟩:=id hit;obtain⟨⟨c2,d2,dt2,s2⟩,hol,rfl,nl,rfl⟩:=ht;exact wpAny_bind (N6 hit.typeIs M4 (M6 M4 hit.typeIs L8 (Xt ho hol (λy h' e b1 b2=>⟨y,rfl,P6 (by rw [hx] at e;cases e;exact hQ h' b1 b2)⟩) λe=>by rw [hx] at e;cases e) (L1 _)))
theorem wP {it t:Addr}{i:Nat}{Q:Value->Shared->Prop}(hh:A.handled=none)(hit:s.heap.IsTupleIter it t i)(ht:s.heap.IsTuple t items)(hx:items[i]? =none)
 (hE: ∀h' e,Heap.ExtBut it s.heap h'->(∃o,h'.get? e=some o/\o.cls= .type "StopIteration")->E (.ref e) {s with heap:=h'}):wpAny (model prog w) A (Builtin.SmallTypes.nextOf (.ref it)) Q E s:=by
 obtain⟨⟨c,d1,dt,s1⟩,ho,rfl,rfl⟩:=id hit;obtain⟨⟨c2,d2,dt2,s2⟩,hol,rfl,nl,rfl⟩:=ht;refine wpAny_bind (N6 hit.typeIs M4 (M6 M4 hit.typeIs L8 (Xt ho hol (λy h' e b1 b2=>by rw [hx] at e;cases e) λ_=>wpAny_bind (wpAny_setField ho rfl (by simp) ?_)) (L1 _)));exact Yu (s:= {s with heap:=_}) hh λh' e grown stop=>hE h' e (λb o ne q=>grown b o ((Heap.SameBut.update ..).extBut b o ne q)) stop
end
theorem Xu {prog:Program}{w:World}{A:Around}(hh:A.handled=none)(it t:Addr)(hne:t≠it)(items:Array Value):
 Draws prog w A it [it,t] items.size (λi v=>items[i]? =some v) (λi h=>h.IsTupleIter it t i/\h.IsTuple t items) where
 live:=λ_ _ st=>let ⟨o,ho,_⟩:=st.1;⟨o,ho⟩
 frame:=λ_ _ _ st hk=>⟨st.1.at λo e=>hk it (by simp) o e,st.2.at λo e=>hk t (by simp) o e⟩
 item:=λi s Q E hi st hQ=>VT st.1 st.2 (x:=items[i]) (by simp [hi]) λh' hit' hs'=>hQ _ h' s.toks (by simp [hi]) ⟨hit',st.2.extBut hs'.extBut hne⟩ hs'
 done:=λs Q E st hE=>wP hh st.1 st.2 (by simp) hE
theorem Xv {prog:Program}{w:World}{A:Around}(hh:A.handled=none)(it t:Addr)(items:Array Value)(n:Nat)(hn:items.size<=n):
 Draws prog w A it [it,t] n (λ_ _=>False) (λi h=>i=n/\h.IsTupleIter it t n/\h.IsTuple t items) where
 live:=λ_ _ st=>let ⟨o,ho,_⟩:=st.2.1;⟨o,ho⟩
 frame:=λ_ _ _ st hk=>⟨st.1,st.2.1.at λo e=>hk it (by simp) o e,st.2.2.at λo e=>hk t (by simp) o e⟩
 item:=λi s Q E hi st hQ=>absurd st.1 (D5 hi)
 done:=λs Q E st hE=>wP hh st.2.1 st.2.2 (Array.getElem?_eq_none hn) hE
section
variable {prog:Program}{w:World}{A:Around}{E:Value->Shared->Prop}{s:Shared}
theorem Xw {l:Addr}{its:Array Value}{P:PySem.Fin->Shared->Prop}(at_:s.heap.IsTuple l its)
 (h: ∀h',IsEnum h' (s.heap.objs.size+1) s.heap.objs.size 0 .none->h'.IsTupleIter s.heap.objs.size l 0->(∀b o,s.heap.get? b=some o->h'.get? b=some o)->P (.done (.ret (.ref (s.heap.objs.size+1)))) {s with heap:=h'}):
 wpAny (model prog w) A (Builtin.«enumerate.__new__» ⟨[.type "enumerate",.ref l],[]⟩) P E s:=by
 have fine:=sub_enumerate;obtain⟨⟨c,dd,dt,sl⟩,there,rfl,n,rfl⟩:=id at_;obtain⟨hp,g,d,tk,os⟩:=s;have size: ∀o,(hp.push o).objs.size=hp.objs.size+1:=λo=>J1 ..
 have made:=D4 (hp.push {cls:= .type "tuple_iterator",data:= .fields #[.ref l,.int 0 0]}) (o:= {cls:= .type "enumerate",data:= .fields #[.none,.bool false,.ref hp.objs.size,rawInt 0,.none,.none]}) rfl;have fin:=h _ (by rw [<-size];exact made) ⟨_,G3 _ (D4 _ rfl),rfl,rfl⟩ λb o old=>G3 _ (G3 _ old)
 rw [<-size {cls:= .type "tuple_iterator",data:= .fields #[.ref l,.int 0 0]}] at fin
 wp_walk using C3 there
 refine wpAny_stack_any λcalls=>P6 ?_
 split
 case h_1 c _ _ _ _ _=>cases c==Value.type "enumerate" <;>(wp_walk using C3 there,O8 at_;exact fin)
 case h_2=>wp_walk using C3 there,O8 at_;exact fin
theorem Zf {l:Addr}{items:Array Value}{Q:Value->Shared->Prop}(hL:s.heap.IsTuple l items)
 (h: ∀h',IsEnum h' (s.heap.objs.size+1) s.heap.objs.size 0 .none->h'.IsTupleIter s.heap.objs.size l 0->(∀b o,s.heap.get? b=some o->h'.get? b=some o)->Q (.ref (s.heap.objs.size+1)) {s with heap:=h'}):
 wpAny (model prog w) A (call (.type "enumerate") [.ref l]) Q E s:=
 callType_new F.called_enumerate (by decide) (F.typeCall_enumerate_1 _) (F.newCall_enumerate_1 _) (λ_=>F.args_object_init_2 _ _) F.entry_enumerate_new
  (S:=λ_ R s=>s.heap.IsTuple l items/\ ∀h',IsEnum h' (s.heap.objs.size+1) s.heap.objs.size 0 .none->h'.IsTupleIter s.heap.objs.size l 0->(∀b o,s.heap.get? b=some o->h'.get? b=some o)->R (.ok (.ret (.ref (s.heap.objs.size+1)))) {s with heap:=h'})
  (.of_wp λ_ _ _ _ _ ⟨tup,k⟩=>Xw tup λh' e i old=>⟨_,rfl,k h' e i old⟩) ⟨hL,λh' e i old=>⟨⟨_,e,rfl⟩,h h' e i old⟩⟩
end
section
variable {X:Cx}{pins:List (Addr×Obj)}{σ:List (Option V)}{H:Hp}{s:Shared}{h':Heap}
theorem Inv.turnL {t':Nat}{ch:List Addr}(I:Inv X pins σ H s)(k: ∀b o,b ∉ ch->s.heap.get? b=some o->h'.get? b=some o)(hc: ∀b∈ch,Ui X pins H b):Inv X pins σ H {s with heap:=h',toks:=t'}:=by
 refine I.step (g':=s.gens) (d':=s.drawn) (ch:=ch) (λb hb=>let ⟨_,f1,_,f3,f4,f5⟩:=hc b hb;⟨f3,f1,f4,f5⟩) (λb o _ _ nb e _=>k b o nb e) (λb o _ _ nb e _=>⟨o.slots,k b o nb e⟩) (λ_ _ _ _ n=>n)
  (λb o nb e=>⟨o,k b o nb e⟩) (λ_ _ e=>e) (λ_ _ _ e=>e) (λb ps e=>⟨#[],by rw [e];simp⟩) (λm hm=> ?_) (λb u e=> ?_) I.bare
 ·obtain⟨o,es,ep,ho,r⟩:=hm;exact⟨o,es,ep,k _ o (λz=>(hc _ z).2.1 rfl) ho,r⟩
 ·refine(I.hok b u e).stay (λc v hb q=>k c v (λz=> ?_) q) (λ_ q=>q) λ_ _ q=>q
  have f:=(hc c z).1;rcases hb with w|w
  ·rw [w,e] at f;cases f
  ·rw [w] at f;cases f
theorem Inv.turnLaid {t':Nat}{ch:List Addr}{a:Addr}{o:HO}(I:Inv X pins σ H s)(k: ∀b u,b ∉ ch->s.heap.get? b=some u->h'.get? b=some u)(hc: ∀b∈ch,Ui X pins H b)(hp:s.heap.objs.size<=a)
 (new:ObjOk X.prog X.w (upd H a o) h' a o):Inv X pins σ (upd H a o) {s with heap:=h',toks:=t'}:=by
 have hn:=I.hok.fresh hp;refine I.step (g':=s.gens) (d':=s.drawn) (ch:=ch) (λb hb=>let ⟨_,f1,_,f3,f4,f5⟩:=hc b hb;⟨f3,f1,f4,f5⟩) (λb u _ _ nb e _=>k b u nb e) (λb u _ _ nb e _=>⟨u.slots,k b u nb e⟩)
  (λb u _ e n=>by rw [jq (D5 (G8 (P3 e) hp))];exact n) (λb u nb e=>⟨u,k b u nb e⟩) (λb xs q=>by rw [jq (jm q hn)];exact q) (λb u xs q=>by rw [jq (jm q hn)];exact q)
  (λb ps q=>⟨#[],by rw [jq (jm q hn),q];simp⟩) (λm hm=> ?_) (λb u e=> ?_) I.bare
 ·obtain⟨u,es,ep,ho,r⟩:=hm;exact⟨u,es,ep,k _ u (λz=>(hc _ z).2.1 rfl) ho,r⟩
 ·by_cases hb:b=a
  ·subst hb;rw [ju] at e;cases e;exact new
  ·rw [jq hb] at e;refine(I.hok b u e).stay (λc v hb q=>k c v (λz=> ?_) q) (λc q=>by rw [jq (jm q hn)];exact q) λc xs q=>by rw [jq (jm q hn)];exact q
   have f:=(hc c z).1;rcases hb with w|w
   ·rw [w,e] at f;cases f
   ·rw [w] at f;cases f
end
def Ite (K:PySem.W.Frag)(a:Addr):It:=
 ⟨λi H=> ∃xs x,SqT K H a xs/\xs[i]? =some x,λi H x H'=> ∃p v,H p=none/\(∀xs,SqT K H a xs->xs[i]? =some v)/\x= .ref p/\H'=upd H p (.tup [.int i,v]),λi H=> ∃xs,SqT K H a xs/\xs.length<=i⟩
theorem Xx {P:Program}{w:World}{K:PySem.W.Frag}{es:List Expr}{k:Nat}{pos:Pos}(a it e:Addr)(hei:e≠it)(hae:a≠e)(hai:a≠it):Turn P w K (.Tuple es k pos) (Ite K a) [e,it] e (λi h=>(∃old,IsEnum h e it i old)/\h.IsTupleIter it a i) where
 mem:=by simp
 obj:=λi h st b hb=>by
  rcases P0.mp hb with z|z
  ·subst z;obtain⟨old,q⟩:=st.1;exact⟨_,q,λv z=>by cases z⟩
  ·have z:=G5.mp z;subst z;obtain⟨o,q,c,d⟩:=st.2;exact⟨o,q,λv z=>by rw [d] at z;cases z⟩
 keep:=λi h h' st k=>⟨let ⟨old,q⟩:=st.1;⟨old,k e (by simp) _ q⟩,st.2.at λo q=>k it (by simp) o q⟩
 item:=by
  intro X hP hw hK hc i pins s σ H E I hf st hg;subst hP hw hK;obtain⟨xs,x,hq,hx⟩:=hg;obtain⟨its,rv,p,hz⟩:=I.tuple hq;obtain⟨u,hu,ru⟩:=rv.get hx;have hi:i<its.toArray.size:=by have:=(G9.mp hu).1;simpa using this
  obtain⟨old,he⟩:=st.1;have helt:e<s.heap.objs.size:=P3 he;refine wpAny_pyNext_enum_itemD (Xu (prog:=X.prog) (w:=X.w) (A:=X.A.in1) (I.ok.hd hc) it a hai its.toArray) he ⟨st.2,p⟩ hi hei (by simp [hei,Ne.symm hae]) λx' h' tk hx' ho hs' hT hsz hk=> ?_
  have ex:x'=u:=R7 (hx'.symm.trans (show its.toArray[i]? =some u by simpa using hu));subst ex;refine⟨_,rfl,wpAny_letOwnedTupleGo_enum ho λh2 he2 hs2=> ?_⟩;have hn:H s.heap.objs.size=none:=I.hok.fresh (G4 _);have hT2:h2.get? s.heap.objs.size=some {cls:= .type "tuple",data:= .seq #[.int i tk,x']}:=(hs2.2 _ (B1 helt)).trans hT;refine⟨.ref s.heap.objs.size,upd H s.heap.objs.size (.tup [.int i,x]),?_,rfl,⟨_,x,hn,λys hy=>by rw [I.tuple_inj hy hq];exact hx,rfl,rfl⟩,⟨⟨x',by simpa using he2⟩,hs'.1.at λo y=>(hs2.2 it (Ne.symm hei)).trans y⟩,λb hb=> ?_⟩
  ·refine I.turnLaid (h':=h2) (t':=tk+1) (ch:= [e,it]) (λb u hb q=> ?_) hf (G4 _) ⟨by show 2<=sizeLine;decide,[.int i tk,x'],.cons ⟨tk,rfl⟩ (.cons ru .nil),⟨_,hT2,rfl,rfl,_,rfl⟩⟩;have b1:b≠e:=λz=>hb (by simp [z])
   have b2:b≠it:=λz=>hb (by simp [z])
   exact(hs2.2 b b1).trans (hk b u b1 b2 q)
  ·have f:=(hf b hb).1;have:b≠s.heap.objs.size:=λz=>by
    rcases P0.mp hb with w|w
    ·rw [<-w,z] at helt;exact absurd helt (T4 _)
    ·have w:=G5.mp w;obtain⟨o,ho',_⟩:=st.2;have:=P3 ho';rw [<-w,z] at this;exact absurd this (T4 _)
   rw [jq this];exact f
 done:=by
  intro X hP hw hK hc i pins s σ H E I hf st hg;subst hP hw hK;obtain⟨xs,hq,hx⟩:=hg;obtain⟨its,rv,p,hz⟩:=I.tuple hq;obtain⟨old,he⟩:=st.1;have hl:=rv.length;refine wpAny_pyNext_enum_endD (Xv (prog:=X.prog) (w:=X.w) (A:=X.A.in1) (I.ok.hd hc) it a its.toArray i (by simp;omega)) he ⟨rfl,st.2,p⟩ λh' hx'=>⟨rfl,I.turnL (t':=s.toks) (ch:= [it]) (λb o hb q=>hx' b o (λz=>hb (by simp [z])) q) λb hb=>hf b (P5 _ hb)⟩
 self:=λ_ _ _ _ _ st h=>let ⟨_,q⟩:=st.1;wpAny_pyIter_enum q h
section
variable {X:Cx}
def Cf (K:PySem.W.Frag)(ta:TA):TI:=λσ H R=>ta σ H λvs H1=> ∃a,vs= [.ref a]/\(∃xs,SqT K H1 a xs)/\R (Ite K a) H1
theorem Dp {es:List Expr}{k:Nat}{tp:Pos}{a:Expr}{ta:TA}{p pos:Pos}(hg:Gl X "enumerate")(hm:X.mg "enumerate" =none)(ha:PA X [a] ta)(hs:starEach [a] X.env= [(false,eval a X.env)]:=by rfl):
 PI X (.Tuple es k tp) (.Call (.Name "enumerate" p) [a] [] pos) (Cf X.K ta):=by
 intro pins s σ H R I h;refine Call_ (Jy I hg hm (show bootBuiltins "enumerate" =some (.type "enumerate") by decide +kernel) (T8 (thn (ha pos pins s σ H _ I h) λus s1 ⟨vs,H1,I1,r1,q1⟩=> ?_) hs rfl));obtain⟨a,e,⟨xs,hq⟩,q⟩:=q1;subst e;cases r1 with
 |cons r rr=>
  cases rr;cases r;obtain⟨its,rv,p,hz⟩:=I1.tuple hq;have hlt:a<s1.heap.objs.size:=by obtain⟨o,ho,_⟩:=p;exact P3 ho
  refine Zf (show s1.heap.IsTuple a its.toArray from p) λh' he hit hk=> ?_
  refine wpAny_pyIter_enum he ?_;refine⟨s1.heap.objs.size+1,[s1.heap.objs.size+1,s1.heap.objs.size],_,_,H1,rfl,I1.kept (t':=s1.toks) hk,Xx a s1.heap.objs.size (s1.heap.objs.size+1) (B1 (B7 _)) (D5 (A2 hlt)) (D5 hlt),⟨⟨_,he⟩,hit⟩,λb hb=> ?_,q⟩;have hb':s1.heap.objs.size<=b:=by
   rcases P0.mp hb with w|w
   ·rw [w];exact K2 _
   ·rw [G5.mp w];exact G4 _
  exact I1.fpOk hb' (I1.hok.fresh hb')
end
def Jp (ds:List D):List D:=ds.zipIdx.map λp=> .tup [.int (p.2:Int),p.1]
def iE (ta:TAD):TID:=λσ h R=>ta σ h λxs h1=> ∃ds,xs= [.tup ds]/\R (λ_=>some (Jp ds)) h1
theorem wE {ds:List D}{i:Nat}{d:D}(h:(Jp ds)[i]? =some d): ∃x,ds[i]? =some x/\d= .tup [.int (i:Int),x]:=by
 unfold Jp at h;rw [P1,List.getElem?_zipIdx] at h;cases q:ds[i]? with
 |none=>rw [q] at h;cases h
 |some x=>
  rw [q] at h;refine⟨x,rfl,?_⟩;have h':some (D.tup [.int ((0+i:Nat):Int),x])=some d:=h;rw [Nat.zero_add] at h';exact(R7 h').symm
theorem jH (ds:List D):(Jp ds).length=ds.length:=by simp [Jp]
section
variable {K:PySem.W.Frag}
theorem Xy {H:Hp}{a:Addr}{vs:List V}{ds:List D}(hv:H a=some (.tup vs))(r:RelDs K H ds vs):DH K H (λ_=>some (Jp ds)) (Ite K a):=λH' h' k rh ds' e i=>by
 cases e;have hv':=k.tup _ _ hv;have r':=r.mono k;refine⟨λd hd=> ?_,λhl=>⟨vs,SqT.of hv',by rw [<-r.length,<-jH];exact hl⟩⟩;obtain⟨x,hx,ed⟩:=wE hd;subst ed;obtain⟨v,e1,e2⟩:=r'.get hx;refine⟨⟨vs,v,SqT.of hv',e1⟩,λx' H'' ⟨p,v',hp,hx',ex,eH⟩=> ?_⟩;subst ex eH;have ev:v'=v:=by have:=hx' vs (SqT.of hv');rw [e1] at this;exact(R7 this).symm
 subst ev;have k2:Kept H' (upd H' p (.tup [.int i,v'])):= .new hp;exact⟨k2,RelH.new rh hp,p,[.int i,v'],rfl,ju,_,_,rfl,rfl,_,_,rfl,e2.mono k2,rfl⟩
theorem Dq {ta:TAD}: ∀σ H R,LI K (iE ta) σ H R->Cf K (LA K ta) σ H R:=λσ H R ⟨σd,h,Rd,rs,rh,q,p⟩=>
 LA.bind rs rh q λds vs h1 H1 k1 rs1 rh1 r1 ⟨es,e,q1⟩=>by
  subst e;obtain⟨v,e,r2⟩:=jy r1;obtain⟨a,ws,e',hv,r⟩:=(show ∃a vs,v= .ref a/\H1 a=some (.tup vs)/\RelDs K H1 es vs from r2);subst e';exact⟨a,e,⟨ws,SqT.of hv⟩,p _ _ _ _ k1 rh1 (Xy hv r) q1⟩
end
section
variable {X:Cx}
theorem yP {es:List Expr}{k:Nat}{tp:Pos}{a:Expr}{ta:TAD}{p pos:Pos}(hg:Gl X "enumerate")(hm:X.mg "enumerate" =none)(ha:JA X [a] ta)(hs:starEach [a] X.env= [(false,eval a X.env)]:=by rfl):
 JI X (.Tuple es k tp) (.Call (.Name "enumerate" p) [a] [] pos) (iE ta):=⟨(Dp hg hm ha.to hs).imp Dq⟩
end
section
variable {X:Cx}
theorem Bv {tg:Expr}{p pos:Pos}{a b:Expr}{ta:TAD}(hg:Gl X "range")(hm:X.mg "range" =none)(ha:JA X [a,b] ta)(hs:starEach [a,b] X.env= [(false,eval a X.env),(false,eval b X.env)]:=by rfl)(hs2:starEach [b] X.env= [(false,eval b X.env)]:=by rfl):JI X tg (.Call (.Name "range" p) [a,b] [] pos) (iR2 ta):=⟨(Ux hg hm ha.to hs hs2).imp NY⟩
end
end L2
namespace L2
open PySem PySem.Spec PyProof.Rows
structure ShowOk (p:PyData):Prop where
 sh:p.showable=true
 dp:p.depth<=60
 ln:p.shown.length<=sizeLine
mutual
theorem yQ {h:HD}: ∀ {p:PyData} {d:D},ToP h d p->p.hasDict=false
 | .none,_,_=>rfl
 | .bool _,_,_=>rfl
 | .int _,_,_=>rfl
 | .str _,_,_=>rfl
 | .tuple ps,d,t=>by
  obtain⟨ds,_,ts⟩:=(show ∃ds,d= .tup ds/\ToPs h ds ps from t);simpa only [PyData.hasDict] using noDict_ToPs ts
 | .list ps,d,t=>by
  obtain⟨a,ds,_,_,ts⟩:=(show ∃a ds,d= .lst a/\h a=some ds/\ToPs h ds ps from t);simpa only [PyData.hasDict] using noDict_ToPs ts
 | .dict _,_,t=>(show False from t).elim
theorem noDict_ToPs {h:HD}: ∀ {ps:List PyData} {ds:List D},ToPs h ds ps->PyData.hasDictAll ps=false
 | [],_,_=>rfl
 |p::ps,ds,t=>by
  obtain⟨d,r,_,t1,t2⟩:=(show ∃d r,ds=d::r/\ToP h d p/\ToPs h r ps from t);simp only [PyData.hasDictAll,yQ t1,noDict_ToPs t2,Bool.or_self]
end
def MO:RDn:=λds h Q=> ∃d p,ds= [d]/\ToP h d p/\ShowOk p/\Q (.str p.shown) h
theorem QN {X:Cx}{k:Nat}(hr:Room k X.A):wG X (.builtin "repr") MO:=by
 intro pins s σ H xs us Q I r h;obtain⟨ds,h,Qd,rs,rh,⟨d,p,e,t,so,q⟩,post⟩:=h;subst e;obtain⟨v,e,r1⟩:=jy rs;subst e;obtain⟨u,rfl,ru⟩:=Jq r;have fin: ∀t',EP X pins σ Q (.str p.shown t') {s with toks:=s.toks+1}:=λt'=>⟨.str p.shown,H,I.tok _,⟨_,rfl⟩,post (.str _) _ _ _ (.refl H) rh rfl q⟩
 have fin0: ∀t',EP X pins σ Q (.str p.shown t') s:=λt'=>⟨.str p.shown,H,I,⟨_,rfl⟩,post (.str _) _ _ _ (.refl H) rh rfl q⟩
 have big: ∀a,u= .ref a->wpAny (model X.prog X.w) X.A (call (.builtin "repr") [.ref a]) (EP X pins σ Q) X.xe s:=λa e=>by
  obtain⟨as,rd⟩:=wT I rh t r1 ru;subst e;exact repr_of_reads' rd so.sh (PyData.noDict_hsm (yQ t)) hr.gd (by have:=hr.units;have:=so.dp;omega) (λ_ _ e=>e)
   (λh' u' tk hk=>⟨.str p.shown,H,I.kept hk,⟨_,rfl⟩,post (.str _) _ _ _ (.refl H) rh rfl q⟩) so.ln
 cases p with
 |none=>
  cases (show d= .non from t);cases (show v= .non from r1);cases (show u= .none from ru);exact PySem.P.repr_of_none (fin _)
 |bool b=>
  cases (show d= .bl b from t);cases (show v= .bl b from r1);cases (show u= .bool b from ru);exact PySem.P.repr_of_bool (fin _)
 |int i=>
  cases (show d= .int i from t);cases (show v= .int i from r1);obtain⟨k,rfl⟩:=(show ∃t,u=Value.int i t from ru);exact PySem.P.repr_of_int (by simpa [PyData.showable] using so.sh) (fin _)
 |str x=>
  cases (show d= .str x from t);cases (show v= .str x from r1);obtain⟨k,rfl⟩:=(show ∃t,u=Value.str x t from ru);exact PySem.P.repr_of_str (fin _) so.ln
 |tuple ps=>
  obtain⟨ds,e,ts⟩:=(show ∃ds,d= .tup ds/\ToPs h ds ps from t);subst e;obtain⟨a,vs,e,hH,rs⟩:=(show ∃a vs,v= .ref a/\H a=some (.tup vs)/\RelDs X.K H ds vs from r1);subst e;cases (show u= .ref a from ru);exact big a rfl
 |list ps=>
  obtain⟨a,ds,e,ha,ts⟩:=(show ∃a ds,d= .lst a/\h a=some ds/\ToPs h ds ps from t);subst e;have e:v= .ref a:=r1.1;subst e;cases (show u= .ref a from ru);exact big a rfl
 |dict _=>exact(show False from t).elim
theorem QP {ta:TAD}{g:TGD}{tb:TSD}{E:EndsD}{σ:SD}{h h1:HD}(m:Int)(n:Nat)(W:Nat->SD->HD->Prop)(hm:0<=m)(hm2:m<1000000)(hn:n<1000000)
 (ht: ∀R:List D->HD->Prop,R [.int m,.int (m+(n:Int))] h1->ta σ h R)(w0:W 0 σ h1)(done: ∀σ' h',W n σ' h'->E.nx σ' h')
 (turn: ∀i σ' h',i<n->W i σ' h'->g (.int (m+(i:Int))) σ' h' λσ2 h2=>tb (Nxt E λσ3 h4=>i+1<=n/\W (i+1) σ3 h4) σ2 h2):PL (iR2 ta) g tb E σ h:=by
 refine ht _ ⟨m,m+(n:Int),rfl,⟨by omega,by omega,by omega,by omega⟩,n,λi σ' h'=>i<=n/\W i σ' h',⟨B9 _,w0⟩,?_⟩;rintro i σ' h' ⟨hi,w⟩;have en:(m+(n:Int)-m).toNat=n:=by omega
 refine⟨_,rfl,by simp [en],λhl=> ?_,λd hd=> ?_⟩
 ·have:i=n:=by simp [en] at hl;omega
  subst this;exact done _ _ w
 ·rw [en,P1] at hd;cases hx:(List.range n)[i]? with
  |none=>rw [hx] at hd;cases hd
  |some y=>
   rw [hx] at hd;cases hd;obtain⟨hi2,e⟩:=G9.mp hx;simp at hi2 e;subst e;exact turn i σ' h' hi2 w
theorem Xz {x:Int}{e:Nat}(h0:0<=x)(h1:x<2^e)(he:e<=1919):x.natAbs.log2<1920:=by
 have h2:x.natAbs<2^e:=Jc h0 h1
 by_cases z:x.natAbs=0
 ·rw [z];decide
 ·have h3:=A7 z |>.mpr (G8 h2 (M7 (by decide) (show e<=1920 by omega)));exact h3
theorem zI: ∀ {ps:List PyData},(∀p∈ps,p.showable=true)->PyData.showableAll ps=true
 | [],_=>rfl
 |p::ps,h=>by
  simp only [PyData.showableAll,h p P4,zI λx hx=>h x (P5 _ hx),Bool.and_self]
theorem zh: ∀ps:List PyData,PyData.shownAll ps=ps.map PyData.shown
 | []=>rfl
 |p::ps=>by simp only [PyData.shownAll,D1,zh ps]
theorem wV {k:Nat}: ∀ {ps:List PyData},(∀p∈ps,p.depth<=k)->PyData.depthAll ps<=k
 | [],_=>by simp [PyData.depthAll]
 |p::ps,h=>by
  simp only [PyData.depthAll];have:=h p P4;have:=wV λx hx=>h x (P5 _ hx)
  omega
theorem XA {b:Nat}: ∀ {l:List Nat},(∀x∈l,x<=b)->l.sum<=b*l.length
 | [],_=>by simp
 |x::l,h=>by
  have h1:=h x P4;have h2:=XA λy hy=>h y (P5 _ hy)
  simp only [List.sum_cons,D0,Nat.mul_succ];omega
structure ShowB (p:PyData)(k b:Nat):Prop where
 sh:p.showable=true
 dp:p.depth<=k
 ln:p.shown.length<=b
theorem ShowB.ok {p:PyData}{k b:Nat}(h:ShowB p k b)(hk:k<=60)(hb:b<=16777216):ShowOk p:=⟨h.sh,D3 h.dp hk,D3 h.ln hb⟩
theorem ShowB.mono {p:PyData}{k b k' b':Nat}(h:ShowB p k b)(hk:k<=k')(hb:b<=b'):ShowB p k' b':=⟨h.sh,D3 h.dp hk,D3 h.ln hb⟩
theorem XB {x:Int}{e:Nat}(h0:0<=x)(h1:x<2^e)(he:e<=1919):ShowB (.int x) 0 (e+2):=by
 refine⟨by simpa [PyData.showable] using Xz h0 h1 he,by simp [PyData.depth],?_⟩;show (Str.ofString (toString x)).length<=e+2;rw [E9];have h2:x.natAbs<2^e:=Jc h0 h1;refine int_text_length_le (by omega) ?_
 by_cases z:x.natAbs=0
 ·rw [z];exact Nat.succ_pos _
 ·exact(A7 z).mpr (G8 h2 (M7 (by decide) (by omega)))
theorem ShowB.tup {ps:List PyData}{k b:Nat}(h: ∀p∈ps,ShowB p k b):ShowB (.tuple ps) (k+1) ((b+2)*ps.length+3):=by
 refine⟨?_,?_,?_⟩
 ·simpa only [PyData.showable] using zI λp hp=>(h p hp).sh
 ·simp only [PyData.depth];have:=wV λp hp=>(h p hp).dp;omega
 ·simp only [PyData.shown];have h1:=tupleText_len_le (PyData.shownAll ps);rw [zh,G0,S6] at h1;have h2:((ps.map ((λx=>x.length)∘PyData.shown))).sum<=b*ps.length:=by
   have:=XA (b:=b) (l:=ps.map ((λx:Str=>x.length)∘PyData.shown)) (λx hx=>by obtain⟨p,hp,e⟩:=R3.mp hx;rw [<-e];exact(h p hp).ln);rw [G0] at this;exact this
  rw [zh,Nat.add_mul];omega
theorem ShowB.lst {ps:List PyData}{k b:Nat}(h: ∀p∈ps,ShowB p k b):ShowB (.list ps) (k+1) ((b+2)*ps.length+3):=by
 refine⟨?_,?_,?_⟩
 ·simpa only [PyData.showable] using zI λp hp=>(h p hp).sh
 ·simp only [PyData.depth];have:=wV λp hp=>(h p hp).dp;omega
 ·simp only [PyData.shown];have h1:=listText_len_le (PyData.shownAll ps);rw [zh,G0,S6] at h1;have h2:((ps.map ((λx=>x.length)∘PyData.shown))).sum<=b*ps.length:=by
   have:=XA (b:=b) (l:=ps.map ((λx:Str=>x.length)∘PyData.shown)) (λx hx=>by obtain⟨p,hp,e⟩:=R3.mp hx;rw [<-e];exact(h p hp).ln);rw [G0] at this;exact this
  rw [zh,Nat.add_mul];omega
theorem XC {r:List Int}{e:Nat}(h0: ∀x∈r,0<=x)(h1: ∀x∈r,x<2^e)(he:e<=1919):ShowB (.tuple (r.map .int)) 1 ((e+4)*r.length+3):=by
 have:=ShowB.tup (ps:=r.map PyData.int) (k:=0) (b:=e+2) λp hp=>by obtain⟨x,hx,e⟩:=R3.mp hp;rw [<-e];exact XB (h0 x hx) (h1 x hx) he
 rw [G0] at this;exact this
theorem Wf {n e:Nat}{T:List (List Int)}(h:Sq n e T)(h6:n<=6)(he:e<=1919):ShowB (Ul T) 2 (60*e+300):=by
 have:=ShowB.tup (ps:=T.map λr=>PyData.tuple (r.map .int)) (k:=1) (b:=(e+4)*6+3) λp hp=>by
  obtain⟨r,hr,ep⟩:=R3.mp hp;rw [<-ep];refine(XC (h.nn r hr) (h.bit r hr) he).mono (G4 _) ?_;have:=N7 (e+4) (show r.length<=6 by rw [h.row r hr];exact h6);omega
 rw [G0,h.len] at this;refine this.mono (G4 _) ?_;have:=N7 ((e+4)*6+3+2) h6;omega
end L2
namespace L2
open PySem PySem.Spec PyProof.Rows PySem.SeqAt
def RP (n:Nat)(T:List (List Int))(k i j:Nat):Prop:=ent (Br n T k) i j≠0
structure Grid (n:Nat)(h0 h:HD)(p R:Addr)(rs:List Addr):Prop where
 at_:h R=some (rs.map D.lst)
 len:rs.length=n
 nR:R ∉ rs
 fR:h0 R=none
 np:p ∉ rs
 nRp:R≠p
 row: ∀a∈rs,h0 a=none/\ ∃r,h a=some (r.map D.int)/\zU n r
section
variable {n:Nat}{h0 h:HD}{p R:Addr}{rs:List Addr}
theorem Grid.pen (g:Grid n h0 h p R rs)(ds:List D):Grid n h0 (zm h p ds) p R rs:=
 ⟨ji g.nRp g.at_,g.len,g.nR,g.fR,g.np,g.nRp,λa ha=>⟨(g.row a ha).1,let ⟨r,e,gr⟩:=(g.row a ha).2;⟨r,ji (λz=>g.np (z ▸ ha)) e,gr⟩⟩⟩
theorem Grid.pick (g:Grid n h0 h p R rs){i:Nat}(hi:i<n): ∃a r,atI (rs.map D.lst) (i:Int)=some (.lst a)/\a∈rs/\h a=some (r.map D.int)/\zU n r/\h0 a=none/\a≠p:=by
 have hi':i<rs.length:=by rw [g.len];exact hi
 have hm:=T0 hi';obtain⟨f,r,e,gr⟩:=g.row _ hm;exact⟨rs[i],r,yM (by rw [P1,G2 hi'];rfl),hm,e,gr,f,λz=>g.np (z ▸ hm)⟩
theorem Grid.set (g:Grid n h0 h p R rs){a:Addr}{r:List Int}(ha:a∈rs)(e:h a=some (r.map D.int))(gr:zU n r){j:Nat}{v:Int}(v0:0<=v)(v1:v<=1000000):Grid n h0 (zm h a ((r.map D.int).set j (.int v))) p R rs:=by
 refine⟨ji (λz=>g.nR (z ▸ ha)) g.at_,g.len,g.nR,g.fR,g.np,g.nRp,λb hb=>⟨(g.row b hb).1,?_⟩⟩
 by_cases z:b=a
 ·subst z;refine⟨r.set j v,by rw [ja,List.map_set],by rw [List.length_set];exact gr.1,λx hx=> ?_⟩;rcases List.mem_or_eq_of_mem_set hx with y|y
  ·exact gr.2 x y
  ·subst y;exact⟨v0,v1⟩
 ·obtain⟨r',e',gr'⟩:=(g.row b hb).2;exact⟨r',ji z e',gr'⟩
theorem Grid.tab (g:Grid n h0 h p R rs): ∃T,GoodTab n T/\(rs.map λa=>D.tup ((h a).getD []))=T.map zo:=by
 have key: ∀l:List Addr,(∀a∈l,∃r,h a=some (r.map D.int)/\zU n r)-> ∃T:List (List Int),T.length=l.length/\(∀r∈T,zU n r)/\(l.map λa=>D.tup ((h a).getD []))=T.map zo:=by
  intro l
  induction l with
  |nil=>intro _;exact⟨[],rfl,by simp,rfl⟩
  |cons a l ih=>
   intro hl;obtain⟨T,a1,a2,a3⟩:=ih λb hb=>hl b (P5 _ hb)
   obtain⟨r,e,gr⟩:=hl a P4;refine⟨r::T,by simp [a1],λx hx=> ?_,?_⟩
   ·rcases P0.mp hx with z|z
    ·subst z;exact gr
    ·exact a2 x z
   ·rw [D1,D1,a3,e];rfl
 obtain⟨T,a1,a2,a3⟩:=key rs λa ha=>(g.row a ha).2
 exact⟨T,⟨by rw [a1,g.len],a2⟩,a3⟩
end
theorem XD {i:Nat}{js:List Nat}{ti:TID}{te:TED}{σ:SD}{h h1:HD}{Q:KD}(ds:List D)(W:Nat->List D->HD->Prop)(hn:ds.length<=1000)(ht: ∀R:ItD->HD->Prop,R (λ_=>some ds) h1->ti σ h R)
 (w0:W 0 [] h1)(wl: ∀k ys h',W k ys h'->ys.length<=k)(turn: ∀k ys h' d,ds[k]? =some d->W k ys h'->te ((jZ js σ).set i (some d)) h' λy h4=> ∃h5,Sub h5 h4/\(k+1<=ds.length/\W (k+1) (ys++ [y]) h5))
 (done: ∀ys h',W ds.length ys h'-> ∀p,h' p=none->Q (.lst p) (zm h' p ys)):Wa (bN i) js ti ZZ te σ h Q:=by
 refine ht _ ⟨ds.length,λk ys h'=>k<=ds.length/\W k ys h',⟨B9 _,w0⟩,?_⟩;rintro k ys h' ⟨hk,w⟩;refine⟨D3 (wl k ys h' w) (R9 (jX (by omega))),ds,rfl,G4 _,λhl p hp=> ?_,λd hd=>⟨_,rfl,?_⟩⟩
 ·have:k=ds.length:=by omega
  subst this;exact done _ _ w p hp
 ·unfold ZZ;dsimp only;rw [if_pos rfl];exact turn k ys h' d hd w
theorem Dr {n:Nat}{o:List Nat}(ho:Ordr n o){i:Nat}(hi:i<n): ∃k,k<n/\atI (o.map λ(k:Nat)=>D.int (k:Int)) (i:Int)=some (.int (k:Int)):=by
 have hi':i<o.length:=by rw [ho.ord.len];exact hi
 refine⟨o[i],S3.mp (ho.mem_iff.mp (T0 hi')),yM (by rw [P1,G2 hi'];rfl)⟩
theorem Yv {n i:Nat}(h:i<n):ixN n (i:Int)=some i:=by
 unfold ixN;simp;omega
variable {X:Cx}
theorem call_divmodB:CallR X (.builtin "divmod") (λxs H Q=> ∃i j,xs= [.int i,.int j]/\(0<j/\j<2^200)/\ ∀p,H p=none->Q (.ref p) (upd H p (.tup [.int (i / j),.int (i%j)]))):=by
 intro pins s σ H xs us Q I r h;obtain⟨i,j,rfl,⟨h1,h2⟩,q⟩:=h;obtain⟨u,w',rfl,⟨t,rfl⟩,⟨t',rfl⟩⟩:=Qs r;refine divmod_int (by omega) ?_ (.inl (PyProof.noPylong_of_log2 ?_))
 ·rw [O1 i (by omega),O2 i (by omega)];have hn:H s.heap.objs.size=none:=I.hok.fresh (G4 _);refine⟨.ref s.heap.objs.size,_,?_,rfl,q _ hn⟩;refine I.laid (λb o e=>G3 _ e) (G4 _) ⟨by simp only [D0,D9];rw [sizeLine_eq];decide,[.int (i / j) s.toks,.int (i%j) (s.toks+1)],.cons ⟨_,rfl⟩ (.cons ⟨_,rfl⟩ .nil),?_⟩;exact⟨_,D4 s.heap rfl,rfl,rfl,0,rfl⟩
 ·have h3:j.natAbs<2^200:=Jc (by omega) h2;have h4:=(A7 (by omega:j.natAbs≠0)).mpr h3;omega
def Ds:RDn:=λds h Q=> ∃i j:Int,ds= [.int i,.int j]/\(0<j/\j<2^200)/\Q (.tup [.int (i / j),.int (i%j)]) h
theorem VU:wG X (.builtin "divmod") Ds:=call_divmodB.imp λxs H Q ⟨ds,h,Qd,r,rh,⟨i,j,e,c,q⟩,p⟩=>by
 subst e;obtain⟨v,w,e,r1,r2⟩:=wj r;cases (show v= .int i from r1);cases (show w= .int j from r2);exact⟨i,j,e,c,λa ha=>p (.tup [.int (i / j),.int (i%j)]) _ _ _ (.new ha) (rh.new ha) ⟨a,_,rfl,ju,.cons rfl (.cons rfl .nil)⟩ q⟩
def jJ (d:D)(a b:Int):Bool:=match d with
 | .int x=>decide (a<=x)&&decide (x<=b)
 |_=>false
theorem MP (x m:Int):decide (x<m)=decide (x<=m-1):=by
 by_cases h:x<m
 ·rw [P7 h,P7 (by omega)]
 ·rw [P2 h,P2 (by omega)]
def ZJ (x:Str)(i:Int):PyData:= .dict [(.str x,.int i)]
theorem XE {pins:List (Addr×Obj)}{σ:St}{H:Hp}{s:Shared}{x:Str}{i:Int}{v:V}{u:Value}(I:Inv X pins σ H s)(r:RelD X.K H (.dic x i) v)(ru:RelV v u): ∃a,Reads s.heap u (ZJ x i) [a]/\a≠sysModules:=by
 obtain⟨a,e,hH⟩:=(show ∃a,v= .ref a/\H a=some (.dK [(Sum.inr x,V.int i)]) from r);subst e;cases (show u= .ref a from ru);obtain⟨-,hy,vs,kv,o,es,ep,hg,ex,hd,-,pr,-⟩:=(show ObjOk X.prog X.w H s.heap a (.dK [(Sum.inr x,V.int i)]) from I.hok a _ hH);cases kv with
 |cons q t=>
  cases t;generalize hes:es.toList=es' at pr;cases pr with
  |cons k1 k2 k3=>
   cases k3;rename_i b e;obtain⟨q1,q2⟩:=q;obtain⟨t,ht⟩:=(show ∃t,b.2=Value.int i t from q2);have k1':Yd (Sum.inr x) e.key=true:=by
    rw [show (Sum.inr x:Key)=b.1 from q1];exact k1
   rcases jG k1' with ⟨_,_,z,_⟩|⟨y,t2,z,hk⟩
   ·cases z
   ·cases z;refine⟨a,?_,N4.mp hy⟩;refine Reads.dict (as:= []) (bs:= []) hg ex.1 hd ?_ ?_
    ·rw [hes];show ReadsAll s.heap [e.key] [.str x] [];rw [hk];exact .cons (.str x t2) .nil
    ·rw [hes];show ReadsAll s.heap [e.val] [.int i] [];rw [k2,ht];exact .cons (.int i t) .nil
def Dt:RDn:=λds h Q=>MO ds h Q\/ ∃a d x i p,ds= [.lst a]/\h a=some [d,.dic x i]/\ToP h d p/\ShowOk (.list [p,ZJ x i])/\Q (.str (PyData.list [p,ZJ x i]).shown) h
theorem Vo {k:Nat}(hr:Room k X.A):wG X (.builtin "repr") Dt:=by
 intro pins s σ H xs us Q I r h;obtain⟨ds,h,Qd,rs,rh,q,post⟩:=h;rcases q with q|⟨a,d,x,i,p,e,ha,t,so,q⟩
 ·exact QN hr pins s σ H xs us Q I r ⟨ds,h,Qd,rs,rh,q,post⟩
 subst e;obtain⟨v,e,r1⟩:=jy rs;subst e;obtain⟨u,rfl,ru⟩:=Jq r;obtain⟨vs,hH,rd⟩:=rh a _ ha;have e:v= .ref a:=r1.1;subst e;cases (show u= .ref a from ru);obtain⟨its,rv,pl,_⟩:=I.list (SqL.of hH);obtain⟨o,ho,hc,n,hd⟩:=pl.isList;obtain⟨v1,vr,e,rd1,rd'⟩:=(show ∃v r,vs=v::r/\RelD X.K H d v/\RelDs X.K H [.dic x i] r from rd);subst e;obtain⟨v2,e,rd2⟩:=jy rd';subst e;cases rv with
 |cons ru1 rt=>
  cases rt with
  |cons ru2 rt2=>
   cases rt2;rename_i u1 u2;obtain⟨as1,q1⟩:=wT I rh t rd1 ru1;obtain⟨a2,q2,n2⟩:=XE I rd2 ru2;have hall:ReadsAll s.heap [u1,u2] [p,ZJ x i] (as1++([a2]++ [])):= .cons q1 (.cons q2 .nil);have hs:=so.sh;have hz':(listText (PyData.shownAll [p,ZJ x i])).length<=sizeLine:=by simpa only [PyData.shown] using so.ln
   have hsa:PyData.showableAll [p,ZJ x i]=true:=by simpa [PyData.showable] using hs
   have hs1:PyData.showableAll [p]=true/\PyData.showableAll [ZJ x i]=true:=by
    simp only [PyData.showableAll,Bool.and_true,R4] at hsa ⊢;exact hsa
   obtain⟨b1,hb1,k1⟩:=ReprAllK.of_readsAll (prog:=X.prog) (w:=X.w) (.cons q1 .nil) hs1.1 (λhx=>by simp [PyData.hasDictAll,yQ t] at hx) (λt ht=>D3 (listText_mem_le (ts:=PyData.shownAll [p,ZJ x i]) (by simp only [PyData.shownAll,G5] at ht ⊢;rw [ht];exact P4)) hz');obtain⟨b2,hb2,k2⟩:=ReprAllK.of_readsAll (prog:=X.prog) (w:=X.w) (.cons q2 .nil) hs1.2 (λ_ hm=>by simp at hm;exact n2 hm.symm) (λt ht=>D3 (listText_mem_le (ts:=PyData.shownAll [p,ZJ x i]) (by simp only [PyData.shownAll,G5] at ht ⊢;rw [ht];exact P5 _ P4)) hz');have d1:PyData.depthAll [p]<=PyData.depthAll [p,ZJ x i]:=by simp only [PyData.depthAll];omega
   have d2:PyData.depthAll [ZJ x i]<=PyData.depthAll [p,ZJ x i]:=by simp only [PyData.depthAll];omega
   have hb:ReadAtMost s.heap (PyData.depthAll [p,ZJ x i]) (b1++b2):=(hb1.mono d1).append (hb2.mono d2);have hk:ReprAllK X.prog X.w (b1++b2) s.heap (PyData.depthAll [p,ZJ x i]) [u1,u2] (PyData.shownAll [p,ZJ x i]):=by
    cases k1.more_le (λb hb=>D6 b2 hb) d1 with
    |cons a1 _=>
     cases k2.more_le (λb hb=>G1 b1 hb) d2 with
     |cons a2 _=>exact .cons a1 (.cons a2 .nil)
   have hna:a ∉ b1++b2:=not_mem_of_deeper (.list ho hc hd hall) (by simp only [PyData.depth];omega) hb;have hdp:=so.dp;have hun:=hr.units;simp only [PyData.depth] at hdp;refine call_repr_slot (by omega) ⟨o,ho,hc⟩ F.slot_list_repr.toG ?_;exact call_list_reprK ho hc hd hna (by simpa using hk.length_eq) (λi y e=>hk.item i y (by simpa using e)) hr.gd (λb _=>Clear.nil b) (by show X.A.units+1+_<cLine;omega) (λ_ _ e=>e)
    (λh' u' tk hk=>⟨_,_,rfl,⟨.str (PyData.list [p,ZJ x i]).shown,H,I.kept hk,⟨u',by simp only [PyData.shown]⟩,post (.str _) _ _ _ (.refl H) rh rfl q⟩⟩) hz'
end L2
set_option maxRecDepth 35000
namespace L2
open PySem PySem.Spec PyProof.Rows PySem.SeqAt
def Sm (k b:Nat)(d:D):Prop:= ∃p:PyData,(∀h,ToP h d p)/\ShowB p k b/\p.canLay0=true
theorem Sm.mono {k b k' b':Nat}{d:D}(h:Sm k b d)(hk:k<=k')(hb:b<=b'):Sm k' b' d:=let ⟨p,t,s,c⟩:=h;⟨p,t,s.mono hk hb,c⟩
theorem GF:Sm 0 200 .non:=⟨.none,λ_=>rfl,⟨rfl,by decide,by decide⟩,rfl⟩
theorem MQ (b:Bool):Sm 0 200 (.bl b):=⟨.bool b,λ_=>rfl,by cases b<;>exact⟨rfl,by decide,by decide⟩,rfl⟩
theorem yy {i:Int}(h:i.natAbs<2^100):Sm 0 200 (.int i):=by
 refine⟨.int i,λ_=>rfl,⟨?_,by simp [PyData.depth],?_⟩,rfl⟩
 ·have:i.natAbs.log2<1920:=by
   by_cases z:i.natAbs=0
   ·rw [z];decide
   ·exact(A7 z).mpr (G8 h (M7 (by decide) (by decide)))
  simpa [PyData.showable] using this
 ·show (Str.ofString (toString i)).length<=200;rw [E9];refine int_text_length_le (by decide) ?_
  by_cases z:i.natAbs=0
  ·rw [z];decide
  ·exact(A7 z).mpr (G8 h (M7 (by decide) (by decide)))
theorem sms {k b:Nat}: ∀ {ds:List D},(∀d∈ds,Sm k b d)-> ∃ps:List PyData,ps.length=ds.length/\(∀h,ToPs h ds ps)/\(∀p∈ps,ShowB p k b)/\PyData.canLayAll0 ps=true
 | [],_=>⟨[],rfl,λ_=>rfl,by simp,rfl⟩
 |d::ds,h=>by
  obtain⟨p,t,s,c⟩:=h d P4;obtain⟨ps,l,ts,ss,cs⟩:=sms λx hx=>h x (P5 _ hx)
  refine⟨p::ps,by simp [l],λh=>⟨d,ds,rfl,t h,ts h⟩,λq hq=> ?_,by simp [PyData.canLayAll0,c,cs]⟩;rcases P0.mp hq with e|e
  ·rw [e];exact s
  ·exact ss q e
theorem Sm.tup {k b m:Nat}{ds:List D}(h: ∀d∈ds,Sm k b d)(hm:ds.length<=m):Sm (k+1) ((b+2)*m+3) (.tup ds):=by
 obtain⟨ps,l,ts,ss,cs⟩:=sms h;refine⟨.tuple ps,λh=>⟨ds,rfl,ts h⟩,(ShowB.tup ss).mono (G4 _) ?_,by simpa only [PyData.canLay0] using cs⟩;have:=N7 (b+2) (show ps.length<=m by omega);omega
def Th (h:HD)(d:D):Prop:=Sm 2 5000000 d\/(∃a ds,d= .lst a/\h a=some ds/\ds.length<=155/\ ∀x∈ds,Sm 1 35000 x)\/d= .dic (Str.ofString "a") 1
theorem Th.sub {h h':HD}{d:D}(t:Th h d)(s:Sub h h'):Th h' d:=by
 rcases t with t|⟨a,ds,e,ha,r⟩|t
 ·exact .inl t
 ·exact .inr (.inl ⟨a,ds,e,s a ds ha,r⟩)
 ·exact .inr (.inr t)
theorem XF:ShowB (ZJ (Str.ofString "a") 1) 50 200:=⟨by decide +kernel,by decide +kernel,by decide +kernel⟩
theorem Je {p q:PyData}{k k' b b':Nat}(hp:ShowB p k b)(hq:ShowB q k' b')(h1:k<=50)(h2:k'<=50)(hb:b<=6000000)(hb':b'<=6000000):ShowOk (.list [p,q]):=by
 have:=ShowB.lst (ps:= [p,q]) (k:=50) (b:=6000000) λx hx=>by
  simp only [P0,D2,M3] at hx;rcases hx with e|e
  ·rw [e];exact hp.mono h1 hb
  ·rw [e];exact hq.mono h2 hb'
 exact this.ok (by decide) (by simp only [D0,D9];omega)
theorem CY {n e:Nat}{T:List (List Int)}{h:HD}{d:D}(t:Sq n e T)(h6:n<=6)(he:e<=1000)(th:Th h d): ∃txt:Str,∀ (h':HD) p (Q:KD),Sub h h'->h' p=some [zH T,d]->Q (.str txt) h'->Dt [.lst p] h' Q:=by
 have sT:=Wf t h6 (show e<=1919 by omega);rcases th with ⟨q,tq,sq,_⟩|⟨a,ds,e,ha,hl,hs⟩|e
 ·exact⟨(PyData.list [Ul T,q]).shown,λh' p Q _ hp qq=> .inl ⟨_,.list [Ul T,q],rfl,⟨p,_,rfl,hp,_,_,rfl,Jd h' T,_,_,rfl,tq h',rfl⟩,Je sT sq (by omega) (by omega) (by omega) (by omega),qq⟩⟩
 ·obtain⟨ps,l,ts,ss,_⟩:=sms hs;subst e;have sl:=ShowB.lst ss;refine⟨(PyData.list [Ul T,.list ps]).shown,λh' p Q sb hp qq=> .inl ⟨_,.list [Ul T,.list ps],rfl,⟨p,_,rfl,hp,_,_,rfl,Jd h' T,_,_,rfl,⟨a,ds,rfl,sb a ds ha,ts h'⟩,rfl⟩,Je sT sl (by omega) (by omega) (by omega) ?_,qq⟩⟩;have:=N7 (35000+2) (show ps.length<=155 by omega);omega
 ·subst e;exact⟨(PyData.list [Ul T,ZJ (Str.ofString "a") 1]).shown,λh' p Q _ hp qq=> .inr ⟨p,_,_,_,Ul T,rfl,hp,Jd h' T,Je sT XF (by omega) (by omega) (by omega) (by omega),qq⟩⟩
theorem GG {x:Str}(h:x=Str.ofString "1" \/x=Str.ofString "" \/x=Str.ofString "0"):Sm 0 200 (.str x):=by
 rcases h with e|e|e<;>subst e<;>exact⟨.str _,λ_=>rfl,⟨by decide +kernel,by decide +kernel,by decide +kernel⟩,by decide +kernel⟩
def bnd:Nat->Nat
 |0=>200
 |k+1=>(bnd k+2)*155+3
theorem GH: ∀k,200<=bnd k
 |0=>G4 _
 |k+1=>by have:=GH k;show 200<=(bnd k+2)*155+3;omega
mutual
def smB:Nat->D->Bool
 |_,.non=>true
 |_,.bl _=>true
 |_,.int i=>decide (i.natAbs<2^100)
 |_,.str x=>decide (x=Str.ofString "1")||decide (x=Str.ofString "")||decide (x=Str.ofString "0")
 |k+1,.tup ds=>decide (ds.length<=155)&&smBs k ds
 |_,_=>false
def smBs:Nat->List D->Bool
 |_,[]=>true
 |k,d::ds=>smB k d&&smBs k ds
end
theorem Vp {k:Nat}: ∀ {ds:List D},smBs k ds=true-> ∀d∈ds,smB k d=true
 |d::ds,h,x,hx=>by
  have h':(smB k d&&smBs k ds)=true:=h;rw [R4] at h';rcases P0.mp hx with e|e
  ·rw [e];exact h'.1
  ·exact Vp h'.2 x e
def SmK (k:Nat)(d:D):Prop:=Sm k (bnd k) d
theorem SmK.up {k:Nat}{d:D}(h:SmK k d):SmK (k+1) d:=Sm.mono h (by omega) (by show bnd k<=(bnd k+2)*155+3;omega)
theorem SmK.of0 {d:D}(h:Sm 0 200 d)(k:Nat):SmK k d:=Sm.mono h (by omega) (GH k)
theorem SmK.tup {k:Nat}{ds:List D}(h: ∀d∈ds,SmK k d)(hm:ds.length<=155):SmK (k+1) (.tup ds):=Sm.tup h hm
theorem Vq: ∀ (k:Nat) (d:D),smB k d=true->SmK k d
 |k,.non,_=>SmK.of0 GF k
 |k,.bl b,_=>SmK.of0 (MQ b) k
 |k,.int i,h=>SmK.of0 (yy (by cases k<;>exact B5 h)) k
 |k,.str x,h=>SmK.of0 (GG (by
  have h':(decide (x=Str.ofString "1")||decide (x=Str.ofString "")||decide (x=Str.ofString "0"))=true:=by cases k<;>exact h
  simp only [L7,F7] at h';rcases h' with (a|b)|c
  ·exact .inl a
  ·exact .inr (.inl b)
  ·exact .inr (.inr c))) k
 |0,.tup ds,h=>by cases h
 |k+1,.tup ds,h=>by
  have h':(decide (ds.length<=155)&&smBs k ds)=true:=h;rw [R4,F7] at h';exact SmK.tup (λd hd=>Vq k d (Vp h'.2 d hd)) h'.1
 |0,.lst _,h=>by cases h
 |_+1,.lst _,h=>by cases h
 |0,.dic _ _,h=>by cases h
 |_+1,.dic _ _,h=>by cases h
 |0,.dct _,h=>by cases h
 |_+1,.dct _,h=>by cases h
 |0,.scr _,h=>by cases h
 |_+1,.scr _,h=>by cases h
theorem SmK.th {h:HD}{d:D}(s:SmK 2 d):Th h d:= .inl (Sm.mono s (G4 _) (by decide))
theorem Th.lst {h:HD}{a:Addr}{ds:List D}(ha:h a=some ds)(hl:ds.length<=155)(hs: ∀x∈ds,SmK 1 x):Th h (.lst a):= .inr (.inl ⟨a,ds,rfl,ha,hl,λx hx=>Sm.mono (hs x hx) (G4 _) (by decide)⟩)
structure SmN (n:Nat)(ds:List D):Prop where
 len:ds.length<=n
 sm: ∀d∈ds,SmK 1 d
theorem SmN.app {m n:Nat}{a b:List D}(x:SmN m a)(y:SmN n b):SmN (m+n) (a++b):=⟨by rw [P8];have:=x.len;have:=y.len;omega,λd hd=>(P9.mp hd).elim (x.sm d) (y.sm d)⟩
theorem SmN.cut {n:Nat}{a:List D}(x:SmN n a)(lo hi:Option Int):SmN n (Jr a lo hi):=⟨by have:=x.len;unfold Jr;rw [List.length_take,List.length_drop];omega,λd hd=>x.sm d (List.mem_of_mem_drop (List.mem_of_mem_take hd))⟩
theorem SmN.one {d:D}(h:SmK 1 d):SmN 1 [d]:=⟨G4 _,λx hx=>by rw [G5.mp hx];exact h⟩
theorem SmN.rev {n:Nat}{a:List D}(x:SmN n a):SmN n a.reverse:=⟨by rw [List.length_reverse];exact x.len,λd hd=>x.sm d (List.mem_reverse.mp hd)⟩
theorem SmN.th {n:Nat}{a:List D}{h:HD}(x:SmN n a)(hn:n<=155:=by decide):Th h (.tup a):=(SmK.tup x.sm (D3 x.len hn)).th
theorem SmN.ord {W:List Nat}{n m:Nat}(hW: ∀i∈W,i<n)(hn:n<=100)(hl:W.length<=m):SmN m (W.map λ(k:Nat)=>D.int (k:Int)):=⟨by rw [G0];exact hl,λd hd=>by
 obtain⟨i,hi,rfl⟩:=R3.mp hd;have:=hW i hi;exact SmK.of0 (yy (G8 (show ((i:Nat):Int).natAbs<100 by rw [Int.natAbs_natCast];omega) (by decide))) 1⟩
theorem yA {h:HD}{p a:Addr}{ds:List D}(n:a≠p)(e:h a=some ds):wg h p a=some ds:=(if_neg n).trans e
theorem vF {h h':HD}{p:Addr}(b:But p h h'):Sub (wg h p) (wg h' p):=⟨λa ds e=>(by
 have e:(if a=p then none else h a)=some ds:=e;show (if a=p then none else h' a)=some ds
 by_cases z:a=p
 ·rw [if_pos z] at e;cases e
 ·rw [if_neg z] at e ⊢;exact b a ds z e),b.dc⟩
theorem QQ {h:HD}{p:Addr}:Sub (wg h p) h:= .drop h p
section
variable {α:Type}{i i':Nat}{js:List Nat}{ti:TID}{te:TED}{σ:SD}{h:HD}{Q:KD}{j:ItD}
theorem CZ (xs:List α)(c c' g:α->D)(p:α->Bool){tt:TTD}(hz:xs.length<=1000)(hj:j h=some (xs.map λx=> .tup [c x,c' x]))(ht: ∀R:ItD->HD->Prop,R j h->ti σ h R)
 (hp: ∀x∈xs,∀Q':Bool->HD->Prop,Q' (p x) h->tt (((jZ js σ).set i (some (c x))).set i' (some (c' x))) h Q')(he: ∀x∈xs,p x=true-> ∀Q':KD,Q' (g x) h->te (((jZ js σ).set i (some (c x))).set i' (some (c' x))) h Q')(hq: ∀a,h a=none->Q (.lst a) (zm h a ((xs.filter p).map g))):Wa (b2 i i') js ti tt te σ h Q:=by
 refine ht _ ⟨xs.length,λk ys h'=>h'=h/\ys=((xs.take k).filter p).map g,⟨rfl,by simp⟩,?_⟩;rintro k ys h' ⟨rfl,rfl⟩;refine⟨?_,_,hj,by simp,λhl a ha=> ?_,λd hd=> ?_⟩
 ·have:=H0 p (xs.take k);simp only [G0,M5] at this ⊢;exact R9 (jX (by omega))
 ·rw [S2 (by simpa using hl)];exact hq a ha
 ·rw [P1] at hd;cases hx:xs[k]? with
  |none=>rw [hx] at hd;cases hd
  |some x=>
   rw [hx] at hd;cases hd;refine⟨_,⟨_,_,rfl,rfl⟩,?_⟩;refine hp x (D7 hx) _ ?_;cases hb:p x with
   |true=>
    rw [if_pos rfl];refine he x (D7 hx) hb _ ⟨_,Sub.refl _,rfl,?_⟩;rw [N2,hx];simp [hb]
   |false=>
    rw [if_neg (by decide)];refine⟨_,Sub.refl _,rfl,?_⟩;rw [N2,hx];simp [hb]
end
def Um (T:List (List Int))(n p:Nat):List Nat:=(List.range n).filter λj=>decide (ent T p j>0)
def cnt (T:List (List Int))(n o:Nat):Nat->Nat->Int
 |0,p=>if p=o then 1 else 0
 |t+1,p=>((Um T n p).map (cnt T n o t)).sum
section
variable {T:List (List Int)}{n o:Nat}
theorem MR {p j:Nat}(h:j∈Um T n p):j<n:=S3.mp (E4.mp h).1
theorem Du (p:Nat):(Um T n p).length<=n:=by
 have:=H0 (λj=>decide (ent T p j>0)) (List.range n)
 rwa [T7] at this
def Fa (T:List (List Int))(n o t p:Nat):Nat:=(Um T n p).findIdx λj=>decide (cnt T n o t j>0)
def nxt (T:List (List Int))(n o t p:Nat):Nat:=(Um T n p).getD (Fa T n o t p) 0
end
end L2
namespace L2
open PySem PySem.Spec PyProof.Rows PySem.W
abbrev TXD:=SD->HD->(Str->HD->Prop)->Prop
abbrev RDx:=List D->HD->(Str->HD->Prop)->Prop
end L2
namespace L2
open PySem PySem.Spec PyProof.Rows PySem.SeqAt
section
variable {n e:Nat}{T:List (List Int)}
instance (k i j:Nat):Decidable (RP n T k i j):=inferInstanceAs (Decidable (ent (Br n T k) i j≠0))
end
theorem XG {α β:Type}(f:α->List β){xs:List α}{k:Nat}{x:α}(h:xs[k]? =some x):(xs.take (k+1)).flatMap f=(xs.take k).flatMap f++f x:=by
 rw [N2,h,J3];simp
theorem XH {α β:Type}(p:α->Bool)(g:α->β){xs:List α}{k:Nat}{x:α}(h:xs[k]? =some x):((xs.take (k+1)).filter p).map g=((xs.take k).filter p).map g++if p x=true then [g x] else []:=by
 rw [N2,h,List.filter_append,M0]
 congr 1
 by_cases c:p x=true
 ·rw [if_pos c];simp [c]
 ·rw [if_neg c];simp [c]
theorem ve {α β:Type}(f:α->List β)(xs:List α)(k:Nat):((xs.take k).flatMap f).length<=(xs.flatMap f).length:=by
 conv=>rhs;rw [<-E8 k xs,J3,P8]
 omega
section
variable {α β:Type}{i i':Nat}{js:List Nat}{ti ti':TID}{tt':TTD}{te:TED}{σ:SD}{h:HD}{Q:KD}{j:ItD}
theorem MS (xs:List α)(c:α->D)(ys:α->List β)(c':β->D)(p:α->β->Bool)(g:α->β->D)(hz:(xs.flatMap λx=>((ys x).filter (p x)).map (g x)).length<=sizeLine)(hj: ∀h',Sub h h'->j h'=some (xs.map c))(ht: ∀R:ItD->HD->Prop,R j h->ti σ h R)
 (hin: ∀x∈xs,∀h',Sub h h'-> ∀R:ItD->HD->Prop,(∀j' h2,Sub h' h2->(∀h3,Sub h2 h3->j' h3=some ((ys x).map c'))->R j' h2)->ti' ((jZ js σ).set i (some (c x))) h' R)
 (hp: ∀x∈xs,∀y∈ys x,∀h',Sub h h'-> ∀Q':Bool->HD->Prop,Q' (p x y) h'->tt' (((jZ js σ).set i (some (c x))).set i' (some (c' y))) h' Q')
 (he: ∀x∈xs,∀y∈ys x,p x y=true-> ∀h',Sub h h'-> ∀Q':KD,Q' (g x y) h'->te (((jZ js σ).set i (some (c x))).set i' (some (c' y))) h' Q')
 (hq: ∀a h',Sub h h'->h' a=none->Q (.lst a) (zm h' a (xs.flatMap λx=>((ys x).filter (p x)).map (g x)))):DI (bN i) js ti ZZ i' ti' tt' te σ h Q:=by
 refine ht _ ⟨xs.length,λk zs h'=>Sub h h'/\zs=(xs.take k).flatMap λx=>((ys x).filter (p x)).map (g x),⟨Sub.refl h,rfl⟩,?_⟩;rintro k zs h1 ⟨s1,rfl⟩;refine⟨D3 (ve _ xs k) hz,xs.map c,hj h1 s1,by rw [G0];exact G4 _,λhl a ha=> ?_,λd hd=> ?_⟩
 ·rw [G0] at hl;rw [S2 hl];exact hq a h1 s1 ha
 rw [P1] at hd;cases ex:xs[k]? with
 |none=>rw [ex] at hd;cases hd
 |some x=>
  rw [ex] at hd;injection hd with hd
  subst hd;have mx:=D7 ex;refine⟨_,rfl,?_⟩;unfold ZZ;refine yN ?_;refine hin x mx h1 s1 _ λj' h2 s2 hj'=>⟨(ys x).length,λm zs h'=>Sub h2 h'/\zs=((xs.take k).flatMap λx=>((ys x).filter (p x)).map (g x))++(((ys x).take m).filter (p x)).map (g x),⟨Sub.refl h2,by simp⟩,?_⟩
  rintro m zs h3 ⟨s3,rfl⟩;have s03:Sub h h3:=(s1.trans s2).trans s3;have tk:=XG (λx=>((ys x).filter (p x)).map (g x)) ex;refine⟨?_,(ys x).map c',hj' h3 s3,by rw [G0];exact G4 _,λhl=> ?_,λd hd=> ?_⟩
  ·refine D3 ?_ (D3 (ve (λx=>((ys x).filter (p x)).map (g x)) xs (k+1)) hz);rw [tk,P8,P8,G0,G0];have:=(List.take_sublist m (ys x)).filter (p x) |>.length_le;omega
  ·rw [G0] at hl;refine⟨h3,Sub.refl _,s03,?_⟩;rw [tk,S2 hl]
  ·rw [P1] at hd;cases ey:(ys x)[m]? with
   |none=>rw [ey] at hd;cases hd
   |some y=>
    rw [ey] at hd;injection hd with hd
    subst hd;have my:=D7 ey;have tf:=XH (p x) (g x) ey;refine hp x mx y my h3 s03 _ ?_
    by_cases cp:p x y=true
    ·rw [if_pos cp] at tf ⊢;refine he x mx y my cp h3 s03 _ ⟨h3,Sub.refl _,s3,?_⟩;rw [tf,N1]
    ·rw [if_neg cp] at tf ⊢;refine⟨h3,Sub.refl _,s3,?_⟩;rw [tf,L4]
end
end L2
namespace L2
open PySem PySem.Spec PyProof.Rows
def s5:Nat->Nat
 |0=>0
 |d+1=>5*s5 d+1
def f5 (N:Nat):Nat->Nat->Nat
 |0,a=>a
 |d+1,a=>(f5 N d a*5+1)%N
theorem Vr: ∀ (fuel k n:Nat),3<=k-> ∃m,3<=m/\SetTable.sizeAbove.go n fuel (2^k)=2^m/\(n<2^(k+fuel)->n<2^m)
 |0,k,n,h=>⟨k,h,rfl,λz=>z⟩
 |fuel+1,k,n,h=>by
  unfold SetTable.sizeAbove.go
  by_cases c:2^k<=n
  ·rw [if_pos c,<-Nat.pow_succ];obtain⟨m,a,b,d⟩:=Vr fuel (k+1) n (by omega);exact⟨m,a,b,λz=>d (by rw [Nat.add_right_comm,Nat.add_assoc];exact z)⟩
  ·rw [if_neg c];exact⟨k,h,rfl,λ_=>by omega⟩
theorem above {n:Nat}(h:n<2^67): ∃m,SetTable.sizeAbove n=2^m/\n<SetTable.sizeAbove n/\8<=SetTable.sizeAbove n:=by
 obtain⟨m,a,b,c⟩:=Vr 64 3 n (by decide);have b:SetTable.sizeAbove n=2^m:=b;refine⟨m,b,by rw [b];exact c h,?_⟩;rw [b];exact M7 (show 0<2 by decide) a
end L2
namespace L2
open PySem PySem.Spec PyProof.Rows HT
def Dv (h h':Heap):Prop:= ∀ (b:Addr) (o:Obj),o.cls= .type "tuple" ->h.get? b=some o->h'.get? b=some o
structure MemK (prog:Program)(w:World)(K:Type)[DecidableEq K] where
 is:Heap->K->Addr->Prop
 hash:K->Int
 inj: ∀ {h:Heap} {x y:K} {a:Addr},is h x a->is h y a->x=y
 keep: ∀ {h h':Heap} {x:K} {a:Addr},Dv h h'->is h x a->is h' x a
 hashed: ∀ {A:Around} {E:Value->Shared->Prop} {s:Shared} {x:K} {a:Addr} {Q:Int->Shared->Prop},A.units+8<cLine->is s.heap x a->(∀tk,Q (hash x) {s with toks:=tk})->wpAny (model prog w) A (pyHash (.ref a)) Q E s
 same: ∀ {A:Around} {E:Value->Shared->Prop} {s:Shared} {x y:K} {a b:Addr} {Q:Bool->Shared->Prop},A.units+8<cLine->is s.heap x a->is s.heap y b->Q (decide (x=y)) s->wpAny (model prog w) A (eqBool (.ref a) (.ref b)) Q E s
 quiet: ∀ {A:Around} {E:Value->Shared->Prop} {s:Shared} {x:K} {a:Addr} {Q:Bool->Shared->Prop},is s.heap x a->Q true s->wpAny (model prog w) A (eqIsQuiet 8 (.ref a)) Q E s
 cls: ∀ {A:Around} {E:Value->Shared->Prop} {s:Shared} {x:K} {a:Addr} {Q:Bool->Shared->Prop},is s.heap x a->Q false s->wpAny (model prog w) A (ofAClassStatement 8 (.ref a)) Q E s
 byv: ∀ {A:Around} {E:Value->Shared->Prop} {s:Shared} {x:K} {a:Addr} {Q:Bool->Shared->Prop},is s.heap x a->Q true s->wpAny (model prog w) A (hashByValue 8 (.ref a)) Q E s
section
variable {prog:Program}{w:World}{A:Around}{E:Value->Shared->Prop}{s:Shared}{K:Type}[DecidableEq K]
theorem Wg: ∀ {xs ys:List K},xs.Nodup->(∀x∈xs,x∈ys)->xs.length<=ys.length
 | [],_,_,_=>B9 _
 |x::xs,ys,nd,h=>by
  obtain⟨n1,n2⟩:=C7.mp nd;have le:=Wg (ys:=ys.erase x) n2 λy hy=>(List.mem_erase_of_ne (λ(e:y=x)=>n1 (by rw [<-e];exact hy))).mpr (h y (.tail _ hy))
  rw [List.length_erase_of_mem (h x (.head _))] at le;have pos:=List.length_pos_of_mem (h x (.head _));rw [D0];omega
end
end L2
namespace L2
open PySem PySem.Spec PyProof.Rows PySem.W
structure DefIn (K:Frag)(x:Str)(st:Stmt)(f:Addr)(fd:FuncData):Prop where
 at_:nsIn K mainGlobals x=some (some (.ref f))
 fn:Fun K x x st f fd
variable {K:Frag}{h base:Heap}{mg:Str->Option Value}{x:Str}{st:Stmt}{f:Addr}{fd:FuncData}{P:Program}{w:World}{n:Nat}{ps:List Str}
theorem MT {oc:Value}{od an:Option Addr}{osl:Array (Option Value)}{kV doc pm cdv ct:Value}(a:nsIn K mainGlobals x=some (some (.ref f)))(l:K.lookup f=some ⟨oc,od,.func (fnOf x x (wf st) (zt st) (jj st) .none kV doc pm an cdv ct),osl⟩)
 (c:codeIn K cdv x=true)(k:keepIn K (.ref f)=true):DefIn K x st f (fnOf x x (wf st) (zt st) (jj st) .none kV doc pm an cdv ct):=⟨a,RE l c k⟩
abbrev Bw (x:Str)(st:Stmt)(ps:List Str):Prop:= ∀ (kV doc pm:Value) (an:Option Addr) (cdv ct:Value) (us:List Value),us.length=ps.length->bindArgs (fnOf x x (wf st) (zt st) (jj st) .none kV doc pm an cdv ct) ⟨us,[]⟩=pure (ps.zip us)
theorem DefIn.nm (d:DefIn K x st f fd)(X:K.In h)(G:h.Ns mainGlobals mg):mg x=some (.ref f):=mg_of X G d.at_
theorem DefIn.cal {sp:RDn}(d:DefIn K x st f fd)(l:OpenLaw)(w:World)(base:Heap)(X:K.In h)(G:h.Ns mainGlobals mg)(ok:FnOk l.prog w K mg base CX0 n f fd ps (LSp K sp))(b:Bw x st ps:=by first|(exact λ_ _ _ _ _ _ us hl=>match us,hl with| [_],_=>rfl)|(exact λ_ _ _ _ _ _ us hl=>match us,hl with| [_,_],_=>rfl)|(exact λ_ _ _ _ _ _ us hl=>match us,hl with| [_,_,_],_=>rfl)|(exact λ_ _ _ _ _ _ us hl=>match us,hl with| [_,_,_,_],_=>rfl)|(exact λ_ _ _ _ _ _ us hl=>match us,hl with| [_,_,_,_,_],_=>rfl)):jB l.prog w K mg base n x ps sp:=⟨_,_,ok,d.fn.binds b,d.fn.kp,d.nm X G⟩
def zsB (K:Frag):Bool:= ["len","max","min","divmod","all","any","repr","sum","sorted","int","tuple","list","set","bool","isinstance","range","zip","enumerate","reversed"].all λx=>nsIn K mainGlobals (Str.ofString x)==some none
theorem Bx (X:K.In h)(G:h.Ns mainGlobals mg)(e:zsB K=true):Zs mg:=by
 unfold zsB at e;rw [R1] at e;have m:=λ(x:String) hx=>mg_none_of X G (beq_iff_eq.mp (e x hx))
 exact⟨m "len" (by decide),m "max" (by decide),m "min" (by decide),m "divmod" (by decide),m "all" (by decide),m "any" (by decide),m "repr" (by decide),m "sum" (by decide),m "sorted" (by decide),m "int" (by decide),m "tuple" (by decide),m "list" (by decide),m "set" (by decide),m "bool" (by decide),m "isinstance" (by decide),m "range" (by decide),m "zip" (by decide),m "enumerate" (by decide),m "reversed" (by decide)⟩
end L2
namespace L2
open PySem PySem.Spec PyProof.Rows
def kvV (kvs:List (Int×V)):List (Key×V):=kvs.map λp=>((Sum.inl p.1:Key),p.2)
def wW {α:Type}(kv:List (Int×α))(k:Int):Option α:=(kv.find? λp=>decide (p.1=k)).map (·.2)
def VW {α:Type}(kv:List (Int×α))(k:Int)(d:α):List (Int×α):=if (wW kv k).isSome then kv.map (λp=>if p.1=k then (p.1,d) else p) else kv++ [(k,d)]
section
variable {α:Type}{kv r:List (Int×α)}{p:Int×α}{k:Int}
theorem QR (e:p.1=k):wW (p::r) k=some p.2:=by simp [wW,T9,e]
theorem QU (e: ¬p.1=k):wW (p::r) k=wW r k:=by simp [wW,T9,e]
end
section
variable {K:PySem.W.Frag}{H:Hp}{k:Int}
theorem zV: ∀ {kv:List (Int×D)} {kvs:List (Int×V)},kv.map (·.1)=kvs.map (·.1)->RelDs K H (kv.map (·.2)) (kvs.map (·.2))->(∀d,wW kv k=some d-> ∃v,ZI (kvV kvs) (Sum.inl k)=some v/\RelD K H d v)/\(wW kv k=none->ZI (kvV kvs) (Sum.inl k)=none)
 | [],[],_,_=>⟨λ_ z=>(nomatch z),λ_=>rfl⟩
 |p::r,[],e,_=>by cases e
 | [],q::s,e,_=>by cases e
 |p::r,q::s,e,h=>by
  rw [D1,D1] at e;injection e with e1 e2
  obtain⟨v,t,z,h1,h2⟩:=(show ∃v t,q.2::s.map (·.2)=v::t/\RelD K H p.2 v/\RelDs K H (r.map (·.2)) t from h);injection z with z1 z2
  subst z1;subst z2
  by_cases c:p.1=k
  ·rw [QR c];refine⟨λd z=> ?_,λz=>by cases z⟩;injection z with z
   subst z;exact⟨q.2,vB (by show (Sum.inl q.1:Key)=_;rw [<-e1,c]),h1⟩
  ·rw [QU c];have n: ¬ (Sum.inl q.1:Key)=Sum.inl k:=λz=>by injection z with z;exact c (e1.trans z)
   show (∀d,_-> ∃v,ZI ((Sum.inl q.1,q.2)::kvV s) _=_/\_)/\(_->ZI ((Sum.inl q.1,q.2)::kvV s) _=_);rw [vC n];exact zV e2 h2
theorem QV {kv:List (Int×D)}{kvs:List (Int×V)}{d:D}{v:V}(e:kv.map (·.1)=kvs.map (·.1))(r:RelDs K H (kv.map (·.2)) (kvs.map (·.2)))(rd:RelD K H d v): ∃kvs',JU (kvV kvs) (Sum.inl k) v=kvV kvs'/\(VW kv k d).map (·.1)=kvs'.map (·.1)/\RelDs K H ((VW kv k d).map (·.2)) (kvs'.map (·.2)):=by
 have g:=zV (k:=k) e r
 by_cases c:(wW kv k).isSome
 ·obtain⟨d0,hd0⟩:=M9.mp c;obtain⟨v0,hv0,_⟩:=g.1 d0 hd0;refine⟨kvs.map λp=>if p.1=k then (p.1,v) else p,?_,?_,?_⟩
  ·unfold JU;rw [vD,hv0];show List.map _ (kvV kvs)=_;unfold kvV;rw [S6,S6];refine L9 λp _=> ?_
   show (if (Sum.inl p.1:Key)=Sum.inl k then _ else _)=_
   by_cases z:p.1=k
   ·rw [if_pos (by rw [z])];show _=((Sum.inl (if p.1=k then (p.1,v) else p).1:Key),(if p.1=k then (p.1,v) else p).2);rw [if_pos z]
   ·rw [if_neg (λw=>z (by injection w))];show _=((Sum.inl (if p.1=k then (p.1,v) else p).1:Key),(if p.1=k then (p.1,v) else p).2);rw [if_neg z]
  ·unfold VW;rw [if_pos c,S6,S6];have a1:kv.map ((·.1)∘λp=>if p.1=k then (p.1,d) else p)=kv.map (·.1):=L9 λp _=>by show (if p.1=k then (p.1,d) else p).1=p.1;split<;>rfl
   have a2:kvs.map ((·.1)∘λp=>if p.1=k then (p.1,v) else p)=kvs.map (·.1):=L9 λp _=>by show (if p.1=k then (p.1,v) else p).1=p.1;split<;>rfl
   rw [a1,a2,e]
  ·unfold VW;rw [if_pos c];clear g c hd0 hv0
   induction kv generalizing kvs with
   |nil=>cases kvs with
    |nil=>exact .nil
    |cons q s=>cases e
   |cons p t ih=>cases kvs with
    |nil=>cases e
    |cons q s=>
     rw [D1,D1] at e;injection e with e1 e2
     obtain⟨u,w,z,h1,h2⟩:=(show ∃v t',q.2::s.map (·.2)=v::t'/\RelD K H p.2 v/\RelDs K H (t.map (·.2)) t' from r);injection z with z1 z2
     subst z1;subst z2;refine⟨(if q.1=k then (q.1,v) else q).2,_,rfl,?_,ih e2 h2⟩;show RelD K H (if p.1=k then (p.1,d) else p).2 _
     by_cases z:p.1=k
     ·rw [if_pos z,if_pos (e1 ▸ z)];exact rd
     ·rw [if_neg z,if_neg (e1 ▸ z)];exact h1
 ·have hn:wW kv k=none:=by simpa using c
  refine⟨kvs++ [(k,v)],?_,?_,?_⟩
  ·rw [Qy v (g.2 hn)];unfold kvV;rw [List.map_append];rfl
  ·unfold VW;rw [if_neg c,List.map_append,List.map_append,e];rfl
  ·unfold VW;rw [if_neg c,List.map_append,List.map_append];exact r.append (.cons rd .nil)
end
def MU (x i:Int):TED:=λ_ h Q=> ∀p,h.dc p=none->Q (.dct p) (Gv h p (.ik [(x,.int i)]))
section
variable {X:Cx}
theorem MV {x i:Int}{j k:Nat}{pos p1 p2:Pos}:JE X (.Dict [some (.Constant (.int x) j p1)] [.Constant (.int i) k p2] pos) (MU x i):=⟨by
 have h0:PPs X pos [some (.Constant (.int x) j p1)] [.Constant (.int i) k p2] [(tC (.int x),tC (.int i))]:=Vf pe_int pe_int UQ;refine PE.imp (UR h0 rfl rfl (by simp) (by simp)) ?_;rintro σ H Q ⟨σd,h,Qd,rs,rh,t,p⟩ q hq;show upd H q (.dK []) q=some (.dK [])/\_;refine⟨ju,[((Sum.inl x:Key),V.int i)],rfl,by simp,?_⟩;rw [Vk];exact p (.dct q) (.ref q) _ _ (.new hq) (rh.newC (c:= .ik [(x,.int i)]) hq ⟨[(x,.int i)],ju,rfl,.cons rfl .nil⟩) rfl (t q (rh.freeC hq))⟩
end
def ixC:RD2:=λx y h Q=> ∃a k kv d,x= .dct a/\y= .int k/\h.dc a=some (.ik kv)/\wW kv k=some d/\Q d h
def inC (neg:Bool):RD2:=λx y h Q=> ∃a k kv,y= .dct a/\x= .int k/\h.dc a=some (.ik kv)/\Q (.bl (neg !=(wW kv k).isSome)) h
section
variable {X:Cx}
theorem Fb {k : Nat} {a b : Expr} {ta tb : TED} {pos : Pos} (hr : Room k X.A) (ha : JE X a ta) (hb : JE X b tb) (hs : NF b := by intro _ _; rfl) : JE X (.Subscript a b pos) (dOp ixC ta tb) :=
  ⟨(Pl (by have := hr.un; omega) ha.to hb.to hs).imp fun σ H Q ⟨σd, h, Qd, rs, rh, t, post⟩ => LE.bind rs rh t fun d v h1 H1 k1 rs1 rh1 r1 t1 => LE.bind rs1 rh1 t1 fun d2 v2 h2 H2 k2 rs2 rh2 r2 ⟨a, x, kv, d3, e1, e2, e, g, q⟩ => by
    subst e1 e2
    cases (show v = .ref a from r1)
    cases (show v2 = .int x from r2)
    obtain ⟨kvs, hH, ek, rv⟩ := (show ∃ kvs : List (Int × V), _ from rh2.dc a _ e)
    obtain ⟨u, hu, ru⟩ := (zV ek rv).1 d3 g
    refine ⟨a, u, rfl, ?_, post d3 u _ _ (k1.trans k2) rh2 ru q⟩
    rw [← hu]
    exact .k (k := Sum.inl x) hH⟩
theorem XI {n:Nat}(hr:Room n X.A):OpQ X (compareOp .NotIn) (inC true):=λpins s σ H x y v u Q I rx ry ⟨d,d2,h,Qd,r1,r2,rh,⟨a,k,kv,e1,e2,e,q⟩,post⟩=>by
 subst e1 e2;cases (show y= .ref a from r2);cases (show x= .int k from r1);cases (show u=Value.ref a from ry);obtain⟨kvs,hH,ek,rv⟩:=(show ∃kvs:List (Int×V),_ from rh.dc a _ e);refine Pj (by have:=hr.un;omega) I (.k (k:=Sum.inl k) hH) rx λs' I'=>⟨.bl _,H,I',rfl,post (.bl _) _ _ _ (.refl H) rh ?_ q⟩
 show V.bl (!(ZI (kvV kvs) (Sum.inl k)).isSome)= .bl (true !=(wW kv k).isSome);cases g:wW kv k with
 |none=>rw [(zV ek rv).2 g];rfl
 |some d=>obtain⟨u,hu,_⟩:=(zV ek rv).1 d g;rw [hu];rfl
def By (td ty tv:TED):TSD:=λE σ h=>tv σ h λv h1=>td σ h1 λx h2=>ty σ h2 λy h3=> ∃a k kv,x= .dct a/\y= .int k/\h3.dc a=some (.ik kv)/\kv.length<1000/\E.nx σ (Gv h3 a (.ik (VW kv k v)))
theorem Bz {k : Nat} {o i value : Expr} {td ty tv : TED} {pos pos' : Pos} (hr : Room k X.A) (ho : JE X o td) (hi : JE X i ty) (hv : JE X value tv) (hs : swapsWith value (some (.Subscript o i pos')) pos.line X.env = pure false := by rfl) : JS X (.Assign [.Subscript o i pos'] value pos) (By td ty tv) :=
  ⟨(Pm (by have := hr.un; omega) ho.to hi.to hv.to hs).imp fun D σ H ⟨σd, h, Dd, rs, rh, t, nx, _⟩ => LE.bind rs rh t fun d v h1 H1 k1 rs1 rh1 r1 t1 => LE.bind rs1 rh1 t1 fun d2 v2 h2 H2 k2 rs2 rh2 r2 t2 => LE.bind rs2 rh2 t2 fun d3 v3 h3 H3 k3 rs3 rh3 r3 ⟨a, x, kv, e1, e2, e, hl, q⟩ => by
    subst e1 e2
    cases (show v2 = .ref a from r2)
    cases (show v3 = .int x from r3)
    obtain ⟨kvs, hH, ek, rv⟩ := (show ∃ kvs : List (Int × V), _ from rh3.dc a _ e)
    obtain ⟨kvs', p1, p2, p3⟩ := QV (k := x) ek rv ((r1.mono k2).mono k3)
    have ob : DObj (.dK (kvV kvs)) := .inl ⟨kvs, rfl⟩
    have hl' : (kvV kvs).length < sizeLine := by
      unfold kvV
      rw [G0, show kvs.length = kv.length by have := congrArg List.length ek; simpa using this.symm]
      exact G8 hl (by decide)
    refine ⟨a, _, rfl, .k (k := Sum.inl x) hH hl', nx σd _ σ _ (k1.trans (k2.trans (k3.trans (.putD hH ob)))) (rs3.mono (.putD hH ob)) (rh3.putC (c := .ik (VW kv x d)) hH ob ⟨kvs', ?_, p2, p3.mono (.putD hH ob)⟩) q⟩
    rw [ju]
    exact congrArg (fun z => some (HO.dK z)) p1⟩
def MW (td ty tx:TED):TED:=λσ h Q=>td σ h λx h1=> ∃a kv0,x= .dct a/\h1.dc a=some (.ik kv0)/\ty σ h1 λy h2=>tx σ h2 λz h3=> ∃k kv,y= .int k/\h3.dc a=some (.ik kv)/\Q ((wW kv k).getD z) h3
theorem MX {k : Nat} {o e f : Expr} {td ty tx : TED} {apos cpos : Pos} (hr : Room k X.A) (ho : JE X o td) (he : JE X e ty) (hf : JE X f tx) (m : M2 X o "get" apos e f cpos := by exact ⟨rfl, rfl, rfl, rfl⟩) : JE X (.Call (.Attribute o "get" apos) [e, f] [] cpos) (MW td ty tx) :=
  ⟨(QB (by have := hr.un; omega) ho.to he.to hf.to m).imp fun σ H Q ⟨σd, h, Qd, rs, rh, t, post⟩ => LE.bind rs rh t fun d v h1 H1 k1 rs1 rh1 r1 ⟨a, kv0, e1, z1, t1⟩ => by
    subst e1
    cases (show v = .ref a from r1)
    obtain ⟨kvs0, hH0, _⟩ := (show ∃ kvs : List (Int × V), _ from rh1.dc a _ z1)
    refine ⟨a, rfl, .inl ⟨_, .inl hH0⟩, LE.bind rs1 rh1 t1 fun d2 v2 h2 H2 k2 rs2 rh2 r2 t2 => LE.bind rs2 rh2 t2 fun d3 v3 h3 H3 k3 rs3 rh3 r3 ⟨x, kv, e2, e, q⟩ => ?_⟩
    subst e2
    cases (show v2 = .int x from r2)
    obtain ⟨kvs, hH, ek, rv⟩ := (show ∃ kvs : List (Int × V), _ from rh3.dc a _ e)
    refine ⟨_, .k (k := Sum.inl x) hH, post ((wW kv x).getD d3) _ _ _ (k1.trans (k2.trans k3)) rh3 ?_ q⟩
    show RelD X.K H3 ((wW kv x).getD d3) ((ZI (kvV kvs) (Sum.inl x)).getD v3)
    cases g : wW kv x with
    | none => rw [(zV ek rv).2 g]; exact r3
    | some d => obtain ⟨u, hu, ru⟩ := (zV ek rv).1 d g; rw [hu]; exact ru⟩
theorem MY {P:Program}{w:World}{k:Int}{v:Value}(h:(jL P w).is (Sum.inl k) v=true):RelV (.int k) v:=Value.isInt_shape h
theorem Wh {α β:Type}{R:α->β->Prop}: ∀ {xs:List α} {ys:List β},xs.length=ys.length->(∀ (i:Nat) (x:α) (y:β),xs[i]? =some x->ys[i]? =some y->R x y)->Paired R xs ys
 | [],[],_,_=> .nil
 |x::xs,y::ys,h,g=> .cons (g 0 x y rfl rfl) (Wh (by simpa using h) λi a b e1 e2=>g (i+1) a b (by simpa using e1) (by simpa using e2))
theorem Jt (hc:X.calm=true):CallR X (.type "list") (λxs H Q=> ∃ (a:Addr) (kvs:List (Int×V)),xs= [.ref a]/\H a=some (.dK (kvV kvs))/\ ∀p,H p=none->Q (.ref p) (upd H p (.lst (kvs.map λp=>V.int p.1)))):=by
 intro pins s σ H xs us Q I r h;obtain⟨a,kvs,rfl,e,q⟩:=h;obtain⟨u,rfl,ru⟩:=Jq r;cases ru;obtain⟨z,hd,vs,rel,o,es,ep,ho,r1⟩:=Pi I.hok e;have dd:s.heap.DictAt (jL X.prog X.w) a vs ep:=⟨o,es,ho,r1⟩;have hl:vs.length=kvs.length:=by rw [<-rel.length];unfold kvV;rw [List.length_map]
 refine PySem.W.kdl_call (PySem.W.kdl_dict hd) (I.ok.hd hc) dd (by rw [<-rel.length];exact z) λh' tk acc c keep hS it=> ?_
 have vals:Vals (kvs.map λp=>V.int p.1) acc.toList:=by
  refine Wh (by have:=it.1;have e0:=B8 (xs:=acc);rw [G0,e0,this,hl]) λi v u e1 e2=> ?_
  rw [P1] at e1;obtain⟨q1,e3,rfl⟩:=S0.mp e1;obtain⟨k,x,e4,e5⟩:=it.2 i u (by rw [<-Array.getElem?_toList];exact e2);have ek:(kvV kvs).map (·.1)=vs.map (·.1):=rel.keys;have e6:(vs.map (·.1))[i]? =some k:=by rw [P1,e4];rfl
  rw [<-ek] at e6;unfold kvV at e6;rw [S6,P1,e3] at e6;injection e6 with e6
  have e6:(Sum.inl q1.1:Key)=k:=e6;subst e6;exact MY e5
 refine⟨.ref s.heap.objs.size,_,I.laid (a:=s.heap.objs.size) (o:= .lst (kvs.map λp=>V.int p.1)) (t':=tk) keep (G4 _) ⟨?_,acc.toList,c,vals,by rw [Array.toArray_toList];exact hS⟩,rfl,q _ (I.hok.fresh (G4 _))⟩;rw [G0,<-hl,<-rel.length];exact z
def BA:RDn:=λds h Q=> ∃a kv,ds= [.dct a]/\h.dc a=some (.ik kv)/\ ∀p,h p=none->Q (.lst p) (zm h p (kv.map λx=>D.int x.1))
theorem QX (hc:X.calm=true):wG X (.type "list") BA:=(Jt hc).imp λxs H Q ⟨ds,h,Qd,r,rh,⟨a,kv,e,z,q⟩,p⟩=>by
 subst e;obtain⟨v,e,r1⟩:=jy r;cases (show v= .ref a from r1);subst e;obtain⟨kvs,hH,ek,rv⟩:=(show ∃kvs:List (Int×V),_ from rh.dc a _ z);refine⟨a,kvs,rfl,hH,λc hc=>p (.lst c) _ _ _ (.new hc) (rh.newL hc ?_) ⟨rfl,_,ju⟩ (q c (rh.free hc))⟩;have e1:(kv.map λx=>D.int x.1)=(kv.map (·.1)).map D.int:=by rw [S6];rfl
 have e2:(kvs.map λx=>V.int x.1)=(kvs.map (·.1)).map V.int:=by rw [S6];rfl
 rw [e1,e2,ek];exact zL _
end
theorem Sub.overC {h h':HD}{a:Addr}{c:DC}(sb:Sub h h')(e:h.dc a=none):Sub h (Gv h' a c):=⟨sb.ls,λb xs z=>by
 rw [JZ (λw=>by subst w;rw [e] at z;cases z)];exact sb.dc b xs z⟩
end L2
namespace My
open PySem L2
def top (i:Nat):Stmt:=PySem.Challenge.pw_firstpowers_k28_turns_by_anybody.main.body.getD i (.Pass ⟨0,0,0,0⟩)
abbrev yR:Stmt:=top 5
theorem Yw:FnScope ["thing"] ["thing"] (jj yR):=⟨rfl,rfl,rfl,by decide +kernel,rfl,by decide +kernel,by decide +kernel⟩
abbrev wX:Stmt:=top 6
theorem Wi:FnScope ["thing","least","most"] ["thing","least","most"] (jj wX):=⟨rfl,rfl,rfl,by decide +kernel,rfl,by decide +kernel,by decide +kernel⟩
abbrev zJ:Stmt:=top 7
theorem wC:FnScope ["thing","size","number"] ["thing","size"] (jj zJ):=⟨rfl,rfl,rfl,by decide +kernel,rfl,by decide +kernel,by decide +kernel⟩
abbrev zj:Stmt:=top 8
theorem zO:FnScope ["thing","row"] ["thing"] (jj zj):=⟨rfl,rfl,rfl,by decide +kernel,rfl,by decide +kernel,by decide +kernel⟩
abbrev wm:Stmt:=top 9
theorem Zg:FnScope ["thing"] ["thing"] (jj wm):=⟨rfl,rfl,rfl,by decide +kernel,rfl,by decide +kernel,by decide +kernel⟩
abbrev Yx:Stmt:=top 11
theorem VD:FnScope ["table","place","head","number"] ["table","place"] (jj Yx):=⟨rfl,rfl,rfl,by decide +kernel,rfl,by decide +kernel,by decide +kernel⟩
abbrev wY:Stmt:=top 14
theorem vo:FnScope ["thing","size","d","rest"] ["thing","size","d"] (jj wY):=⟨rfl,rfl,rfl,by decide +kernel,rfl,by decide +kernel,by decide +kernel⟩
abbrev wZ:Stmt:=top 15
theorem vp:FnScope ["table","d","rests","place","head"] ["table","d","rests"] (jj wZ):=⟨rfl,rfl,rfl,by decide +kernel,rfl,by decide +kernel,by decide +kernel⟩
abbrev wn:Stmt:=top 16
theorem Zh:FnScope ["table","thing"] ["table","thing"] (jj wn):=⟨rfl,rfl,rfl,by decide +kernel,rfl,by decide +kernel,by decide +kernel⟩
abbrev ya:Stmt:=top 18
theorem Wj:FnScope ["_law_script","_law_k"] ["_law_script","_law_k"] (jj ya):=⟨rfl,rfl,rfl,by decide +kernel,rfl,by decide +kernel,by decide +kernel⟩
abbrev yS:Stmt:=top 19
theorem Jo:FnScope ["_law_cell_here","_law_left"] ["_law_cell_here"] (jj yS):=⟨rfl,rfl,rfl,by decide +kernel,rfl,by decide +kernel,by decide +kernel⟩
abbrev yb:Stmt:=top 20
theorem zE:FnScope ["_law_pen_here","_law_many","_law_left","_law_found","_law_stir"] ["_law_pen_here","_law_many"] (jj yb):=⟨rfl,rfl,rfl,by decide +kernel,rfl,by decide +kernel,by decide +kernel⟩
abbrev wo:Stmt:=top 21
theorem Zi:FnScope ["_law_thing"] ["_law_thing"] (jj wo):=⟨rfl,rfl,rfl,by decide +kernel,rfl,by decide +kernel,by decide +kernel⟩
abbrev yT:Stmt:=top 22
theorem Jn:FnScope ["_law_pen_here","_law_some"] ["_law_pen_here"] (jj yT):=⟨rfl,rfl,rfl,by decide +kernel,rfl,by decide +kernel,by decide +kernel⟩
abbrev yc:Stmt:=top 23
theorem Wk:FnScope ["_law_pen_here"] ["_law_pen_here"] (jj yc):=⟨rfl,rfl,rfl,by decide +kernel,rfl,by decide +kernel,by decide +kernel⟩
abbrev wq:Stmt:=top 24
theorem jx:FnScope ["_law_pen_here","_law_size_here","_law_way","_law_often","_law_most","_law_rows","_law_one","_law_row","_law_other","_law_goes"] ["_law_pen_here","_law_size_here"] (jj wq):=⟨rfl,rfl,rfl,by decide +kernel,rfl,by decide +kernel,by decide +kernel⟩
abbrev wr:Stmt:=top 25
theorem zZ:FnScope ["_law_pen_here","_law_many","_law_found","_law_what"] ["_law_pen_here","_law_many"] (jj wr):=⟨rfl,rfl,rfl,by decide +kernel,rfl,by decide +kernel,by decide +kernel⟩
abbrev wt:Stmt:=top 26
theorem zc:FnScope ["_law_table_here","_law_thing","_law_d","_law_rests","_law_one","_law_row","_law_other","_law_number","_law_rest"] ["_law_table_here","_law_thing"] (jj wt):=⟨rfl,rfl,rfl,by decide +kernel,rfl,by decide +kernel,by decide +kernel⟩
abbrev jT:Stmt:=top 27
theorem jk:FnScope ["_law_pen_here","_law_size_here","_law_order_here","_law_d","_law_often","_law_most","_law_found","_law_at","_law_one","_law_to","_law_other","_law_row","_law_place"] ["_law_pen_here","_law_size_here"] (jj jT):=⟨rfl,rfl,rfl,by decide +kernel,rfl,by decide +kernel,by decide +kernel⟩
abbrev yU:Stmt:=top 28
theorem ze:FnScope ["_law_table_here","_law_d","_law_rests","_law_turn","_law_one","_law_other","_law_number","_law_place"] ["_law_table_here","_law_d"] (jj yU):=⟨rfl,rfl,rfl,by decide +kernel,rfl,by decide +kernel,by decide +kernel⟩
abbrev ye:Stmt:=top 29
theorem jW:FnScope ["_law_pen_here","_law_thing","_law_d","_law_rests","_law_at","_law_off","_law_some"] ["_law_pen_here","_law_thing"] (jj ye):=⟨rfl,rfl,rfl,by decide +kernel,rfl,by decide +kernel,by decide +kernel⟩
abbrev wu:Stmt:=top 30
theorem za:FnScope ["_law_table_here","_law_thing","_law_kept","_law_due","_law_turn","_law_found"] ["_law_table_here","_law_thing"] (jj wu):=⟨rfl,rfl,rfl,by decide +kernel,rfl,by decide +kernel,by decide +kernel⟩
abbrev VX:Stmt:=top 31
theorem zw:FnScope ["_law_script","_law_thing","_law_cell_here","_law_pen_here","_law_size_here","_law_table_here","_law_things","_law_d","_law_more","_law_rest","_law_row"] ["_law_script"] (jj VX):=⟨rfl,rfl,rfl,by decide +kernel,rfl,by decide +kernel,by decide +kernel⟩
section
variable {P:Program}{w:World}{K:PySem.W.Frag}{mg:Str->Option Value}{base:Heap}
/-- no def is asked of the script's list: a thing -/
def Vs:D->Bool
 | .int _=>true
 |_=>false
/-- a row of so many numbers from 0 on -/
def Nj:D->Bool
 | .int i=>decide (0<=i)
 |_=>false
def GI (d:D)(k:Int):Bool:=match d with
 | .tup ds=>decide ((ds.length:Int)=k)&&ds.all Nj
 |_=>false
/-! every part has a kind that is told,and no tuple is long -/
mutual
def okD:D->Bool
 | .scr _=>false| .exc _=>false| .fn _=>false| .dct _=>false
 | .tup ds=>decide (ds.length<=1000)&&okDs ds
 |_=>true
def okDs:List D->Bool
 | []=>true
 |d::ds=>okD d&&okDs ds
end
theorem vG: ∀ {ds:List D},okDs ds=true-> ∀d∈ds,okD d=true
 |d::ds,h,x,hx=>by
  have h':(okD d&&okDs ds)=true:=h;rw [R4] at h';rcases P0.mp hx with e|e
  ·subst e;exact h'.1
  ·exact vG h'.2 x e
theorem XJ: ∀ {ds:List D},(∀d∈ds,okD d=true)->okDs ds=true
 | [],_=>rfl
 |d::ds,h=>by
  show (okD d&&okDs ds)=true;rw [h d P4,XJ λx hx=>h x (P5 _ hx)];rfl
theorem yV {ds:List D}(h:okD (.tup ds)=true):ds.length<=1000/\ ∀d∈ds,okD d=true:=by
 have h':(decide (ds.length<=1000)&&okDs ds)=true:=h;rw [R4] at h';exact⟨B5 h'.1,vG h'.2⟩
theorem Vt {ds:List D}(h:ds.length<=1000)(h2: ∀d∈ds,okD d=true):okD (.tup ds)=true:=by
 show (decide (ds.length<=1000)&&okDs ds)=true;rw [P7 h,XJ h2];rfl
variable {d:D}
theorem zf (h:okD d=true): ∃n,Wb d=some n:=by
 cases d<;>first|exact⟨_,rfl⟩|cases h
/-- a table -/
def DK:D->Bool
 | .tup rs=>decide (1<=rs.length)&&decide (rs.length<=6)&&rs.all λr=>GI r rs.length
 |_=>false
def zv:RDn:=λds h Q=> ∃d n,ds= [d]/\Wb d=some n/\Q (.bl (Vs d)) h
variable {n:Nat}{f:Addr}{fd:FuncData}
theorem Yy (Z:Zs mg)(F:Fun K "is_whole" "is_whole" yR f fd):FnOk P w K mg base CX0 (n+1) f fd ["thing"] (LSp K zv):=by
 refine F.okJ Yw (λds h Q q=>by obtain⟨d,nm,e,hn,q⟩:=q;subst e;rfl) _ (λcdv A outer s H E hr=>(jn (we (GE (Ja (T:= "int") (by decide) rfl Z.isinstance rfl Z.int (by decide +kernel) (jv 0)) (XZ (Cc (Ja (T:= "bool") (by decide) rfl Z.isinstance rfl Z.bool (by decide +kernel) (jv 0)))))))) ?_;intro ds h Q q;obtain⟨d,nm,e,hn,q⟩:=q;subst e;simp only [Uj,UX,dIs,UV,zx,D1,T6,D0,D9,S9,S7,R6,T3,D.bl.injEq,UY,Xc,M1,hn];cases d<;>cases hn<;>exact⟨h,Sub.refl h,q⟩
def wv:RDn:=λds h Q=> ∃d,∃a b:Int,ds= [d,.int a,.int b]/\okD d=true/\Q (.bl (jJ d a b)) h
theorem Wl (Z:Zs mg)(F:Fun K "is_within" "is_within" wX f fd)(yX:jB P w K mg base n "is_whole" ["thing"] zv):FnOk P w K mg base CX0 (n+1) f fd ["thing","least","most"] (LSp K wv):=by
 obtain⟨WS,Zx,yY,yk,ym,yn⟩:=yX;refine F.okJ Wi (λds h Q q=>by obtain⟨d,a,b,e,ok,q⟩:=q;subst e;rfl) _ (λcdv A outer s H E hr=>(jn (we (GE (jC yY hr rfl yn ym yk (jac (jv 0) jb)) (XZ (GD Yn Yn (jv 1) (jv 0) (jv 2))))))) ?_;intro ds h Q q;obtain⟨d,a,b,e,ok,q⟩:=q;subst e;obtain⟨nm,hn⟩:=zf ok;refine⟨_,rfl,d,nm,rfl,hn,Vs d,rfl,?_⟩;cases d with
 |int x=>
  refine yN ⟨_,rfl,_,rfl,_,rfl,?_⟩;show if decide (a<=x)=true then _ else _
  by_cases h1:a<=x
  ·rw [P7 h1];simp only [jJ,P7 h1,A8] at q;exact yN ⟨_,rfl,h,Sub.refl h,q⟩
  ·rw [P2 h1];simp only [jJ,P2 h1,N9] at q;exact wN ⟨h,Sub.refl h,q⟩
 |_=>exact wN ⟨h,Sub.refl h,q⟩
def ww:RDn:=λds h Q=> ∃d k,ds= [d,.int k]/\okD d=true/\Q (.bl (GI d k)) h
theorem Jf (Z:Zs mg)(F:Fun K "is_table_row" "is_table_row" zJ f fd)(yX:jB P w K mg base n "is_whole" ["thing"] zv):FnOk P w K mg base CX0 (n+1) f fd ["thing","size"] (LSp K ww):=by
 obtain⟨WS,Zx,yY,yk,ym,yn⟩:=yX;refine F.okJ wC (λds h Q q=>by obtain⟨d,k,e,ok,q⟩:=q;subst e;rfl) _ (λcdv A outer s H E hr=>(jg (Js (jpt (Uk (wk (wU (Ja (T:= "tuple") (by decide) rfl Z.isinstance rfl Z.tuple (by decide +kernel) (jv 0)))) (XY (zG oq_ne (jM zA rfl Z.len R8 (jac (jv 0) jb)) (jv 1) (jE _))))) (jn (we jbl)) jS) (by exact(jn (we (jM (JM rfl) rfl Z.all T5 (jac (jlc (i:=2) (js:= [2]) rfl (jA (by rfl)) (wc (jv 0)) (by decide) wC.nd rfl (by first|exact Or.inl rfl|exact Or.inr rfl) (λX' hX=>zd) (λX' hX=>by obtain⟨C,s₀,H₀,ex,rfl⟩:=hX;exact(GE (jC yY hr rfl yn ym yk (jac (jv 2) jb)) (XZ (XX PZ (jv 2) jw (jE _)))))) jb))))))) ?_;intro ds h Q q;obtain⟨d,k,e,ok,q⟩:=q;subst e;obtain⟨nm,hn⟩:=zf ok;simp only [Xa,DG,RM,UW,vS,dIs,UV,zx,D1,T6,D0,D9,List.replicate,S9,S7,R6,T3,D.bl.injEq,Uj,dC,Xc,VP,dCB,yt,VO,dOp,Mq,N8,neD,M1,hn];cases d with
 |tup es=>
  cases hn;obtain⟨hl,ht⟩:=yV ok;simp only [Mt]
  by_cases hk:(es.length:Int)=k
  ·simp only [hk];simp;refine Xi (ds:=es) (h1:=h) (j:=λ_=>some es) (λx=> .bl (Nj x)) (R9 (jX hl)) rfl (λR r=>⟨.tup es,rfl,r⟩) (λd hd Q' q'=> ?_) (λp hp=> ?_)
   ·obtain⟨nn,hnn⟩:=zf (ht d hd);refine⟨d,rfl,d,nn,rfl,hnn,Vs d,rfl,?_⟩;cases d with
    |int i=>exact yN ⟨.int i,rfl,q'⟩
    |_=>exact wN q'
   ·refine⟨p,es.map Nj,rfl,by rw [ja];simp,h,?_,?_⟩
    ·rw [zM hp];exact Sub.refl h
    ·simpa [GI,hk,C1,Function.comp_def] using q
  ·simp [hk];exact⟨h,Sub.refl h,by simpa [GI,hk] using q⟩
 |_=>cases hn<;>exact⟨h,Sub.refl h,q⟩
def zN:RDn:=λds h Q=> ∃d,ds= [d]/\okD d=true/\Q (.bl (DK d)) h
theorem yW (Z:Zs mg)(F:Fun K "has_table_form" "has_table_form" zj f fd)(Ju:jB P w K mg base n "is_table_row" ["thing","size"] ww)(yj: ∃tk,mg "MOST_ROWS" =some (.int 6 tk)):FnOk P w K mg base CX0 (n+1) f fd ["thing"] (LSp K zN):=by
 obtain⟨Uo,Uh,Jv,Jj,Jl,Jm⟩:=Ju;obtain⟨tk_MOST_ROWS,m_MOST_ROWS⟩:=yj;refine F.okJ zO (λds h Q q=>by obtain⟨d,e,ok,q⟩:=q;subst e;rfl) _ (λcdv A outer s H E hr=>(jg (Js (jpt (Uk (wk (wU (Ja (T:= "tuple") (by decide) rfl Z.isinstance rfl Z.tuple (by decide +kernel) (jv 0)))) (XY (wk (Xq Yn Yn jw (jM zA rfl Z.len R8 (jac (jv 0) jb)) (MK rfl m_MOST_ROWS)))))) (jn (we jbl)) jS) (by exact(jn (we (jM (JM rfl) rfl Z.all T5 (jac (jlc (i:=1) (js:= [1]) rfl (jA (by rfl)) (wc (jv 0)) (by decide) zO.nd rfl (by first|exact Or.inl rfl|exact Or.inr rfl) (λX' hX=>zd) (λX' hX=>by obtain⟨C,s₀,H₀,ex,rfl⟩:=hX;exact(jC Jv hr rfl Jm Jl Jj (jac (jv 1) (by exact(jac (jM zA rfl Z.len R8 (jac (jv 0) jb)) jb)))))) jb))))))) ?_;intro ds h Q q;obtain⟨d,e,ok,q⟩:=q;subst e;obtain⟨nm,hn⟩:=zf ok;simp only [Xa,DG,RM,UW,vS,dIs,UV,zx,D1,T6,D0,D9,List.replicate,S9,S7,R6,T3,D.bl.injEq,Uj,dC,Xc,VP,dCB,yt,VO,vT,Mq,Gx,M1,hn];cases d with
 |tup es=>
  cases hn;obtain⟨hl,ht⟩:=yV ok;simp only [Mt]
  by_cases h1:1<=es.length
  ·by_cases h6:es.length<=6
   ·have h1':(1:Int)<=es.length:=by omega
    have h6':(es.length:Int)<=6:=by omega
    simp [h1',h6'];refine Xi (ds:=es) (h1:=h) (j:=λ_=>some es) (λx=> .bl (GI x es.length)) (R9 (jX hl)) rfl (λR r=>⟨.tup es,rfl,r⟩) (λd hd Q' q'=> ?_) (λp hp=> ?_)
    ·exact⟨d,rfl,.tup es,rfl,d,es.length,rfl,ht d hd,q'⟩
    ·refine⟨p,es.map λx=>GI x es.length,rfl,by rw [ja];simp,h,?_,?_⟩
     ·rw [zM hp];exact Sub.refl h
     ·simpa [DK,h1,h6,C1,Function.comp_def] using q
   ·have h1':(1:Int)<=es.length:=by omega
    have h6': ¬ (es.length:Int)<=6:=by omega
    simp [h1',h6'];exact⟨h,Sub.refl h,by simpa [DK,h1,h6] using q⟩
  ·have h1': ¬ (1:Int)<=es.length:=by omega
   simp [h1'];exact⟨h,Sub.refl h,by simpa [DK,h1] using q⟩
 |_=>cases hn<;>exact⟨h,Sub.refl h,q⟩
variable {x:Int}
theorem Dw (h:0<=x):Nj (.int x)=true:=P7 h
variable {e:Nat}{T:List (List Int)}
theorem Dx (h:Sq n e T){r:List Int}(hr:r∈T):GI (zo r) n=true:=by
 simp only [GI,zo,G0,h.row r hr,decide_true,A8,C1,R1,J4];intro x hx;exact Dw (h.nn r hr x hx)
theorem Dy (h:Sq n e T)(h1:1<=n)(h6:n<=6):DK (zH T)=true:=by
 simp only [DK,zH,G0,h.len,P7 h1,P7 h6,A8,C1,R1,J4];intro r hr;exact Dx h hr
theorem MZ (h:Sq n e T)(h6:n<=6):okD (zH T)=true:=
 Vt (by rw [G0,h.len];omega) λd hd=>by
  obtain⟨r,hr,rfl⟩:=R3.mp hd;exact Vt (by rw [G0,h.row r hr];omega) λd hd=>by obtain⟨x,_,rfl⟩:=R3.mp hd;rfl
def yB:RDn:=λds h Q=> ∃T,∃n e:Nat,ds= [zH T]/\Sq n e T/\1<=n/\n<=6/\Q .non h
theorem Zj (Z:Zs mg)(F:Fun K "want_table" "want_table" wm f fd)(vv:jB P w K mg base n "has_table_form" ["thing"] zN):FnOk P w K mg base CX0 (n+1) f fd ["thing"] (LSp K yB):=by
 obtain⟨VC,YV,vw,yZ,va,vb⟩:=vv;refine F.okJ Zg (λds h Q q=>by obtain⟨T,k,b,e,hT,h1,h6,q⟩:=q;subst e;rfl) _ (λcdv A outer s H E hr=>(jn (Js (wk (wU (jC vw hr rfl vb va yZ (jac (jv 0) jb)))) (jn MN) jS))) ?_;intro ds h Q q;obtain⟨T,k,b,e,hT,h1,h6,q⟩:=q;subst e;refine⟨_,rfl,zH T,rfl,MZ hT h6,_,rfl,?_⟩;rw [Dy hT h1 h6];exact wN ⟨h,Sub.refl h,q⟩
theorem Dz {r:List Int}(h:r.length=n):Jp (r.map D.int)=(List.range n).map λ(j:Nat)=>D.tup [.int (j:Int),.int (r.getD j 0)]:=by
 apply List.ext_getElem?;intro i
 by_cases hi:i<n
 ·have hi':i<(Jp (r.map D.int)).length:=by rw [jH,G0,h];exact hi
  obtain⟨x,hx,ed⟩:=wE (G2 hi');rw [G2 hi',ed];rw [P1,L6 hi];rw [P1,G2 (by omega)] at hx;injection hx with hx
  rw [<-hx];show some (D.tup [D.int (i:Int),D.int r[i]])=some (D.tup [D.int (i:Int),D.int (r.getD i 0)]);rw [R0,G2 (show i<r.length by omega)];rfl
 ·rw [B2 (by rw [jH,G0];omega),B2 (by simp;omega)]
def Vu:RDn:=λds h Q=> ∃T,∃n e p:Nat,ds= [zH T,.int (p:Int)]/\Sq n e T/\n<=6/\p<n/\ ∀F,h F=none->Q (.lst F) (zm h F ((Um T n p).map λ(k:Nat)=>D.int (k:Int)))
theorem QY (Z:Zs mg)(F:Fun K "heads" "heads" Yx f fd):FnOk P w K mg base CX0 (n+1) f fd ["table","place"] (LSp K Vu):=by
 refine F.okJ VD (λds h Q q=>by obtain⟨T,n,bb,p,e,hT,n6,hp,q⟩:=q;subst e;rfl) _ (λcdv A outer s H E hr=>(jn (we (CS (i:=2) (j:=3) (js:= [2,3]) rfl (jA (by rfl)) (yP rfl Z.enumerate (jac (jix (jv 0) (jv 1) (λ_ _=>rfl)) jb)) (by decide) (by decide) (by decide) VD.nd rfl rfl (by first|exact Or.inl rfl|exact Or.inr rfl) (by first|exact Or.inl rfl|exact Or.inr rfl) (λX' hX=>by obtain⟨C,s₀,H₀,ex,rfl⟩:=hX;exact Do (zG oq_ne (jv 3) jw (jE _))) (λX' hX=>by obtain⟨C,s₀,H₀,ex,rfl⟩:=hX;exact(jv 2)))))) ?_;intro ds h Q q;obtain⟨T,n,bb,p,e,hT,n6,hp,q⟩:=q;subst e;refine CZ (j:=λ_=>some (Jp ((T.getD p []).map D.int))) (List.range n) (λj=> .int (j:Int)) (λj=> .int ((T.getD p []).getD j 0)) (λj=> .int (j:Int)) (λj=>decide (ent T p j>0)) (by rw [T7];omega) (congrArg some (Dz (hT.row _ (Sq.getRow hT hp)))) (λR r=>⟨_,rfl,_,rfl,_,Xs hT hp,_,rfl,r⟩) (λx hx Q' q'=>⟨_,rfl,_,rfl,?_⟩) (λx hx _ Q' q'=>⟨_,rfl,q'⟩) (λF eF=>⟨_,Sub.refl _,q F eF⟩);have hnn:=(hT.ent_nn hp (S3.mp hx)).1;have e4:(!decide (((T.getD p []).getD x 0)=0))=decide (ent T p x>0):=by
  show (!decide (ent T p x=0))=_
  by_cases z:ent T p x=0
  ·rw [z];rfl
  ·rw [P2 z,P7 (by omega)];rfl
 rw [<-e4] at q';exact q'
def wd (d:D)(n k:Int):Bool:=match d with
 | .tup es=>decide ((es.length:Int)=n)&&es.all (λx=>jJ x 0 (k-1))
 |_=>false
def vf:RDn:=λds h Q=> ∃d,∃n k:Int,ds= [d,.int n,.int k]/\okD d=true/\Q (.bl (wd d n k)) h
theorem Wm (Z:Zs mg)(F:Fun K "are_rests" "are_rests" wY f fd)(yg:jB P w K mg base n "is_within" ["thing","least","most"] wv):FnOk P w K mg base CX0 (n+1) f fd ["thing","size","d"] (LSp K vf):=by
 obtain⟨Zw,Jx,yi,wz,wA,wB⟩:=yg;refine F.okJ vo (λds h Q q=>by obtain⟨d,n,k,e,ok,q⟩:=q;subst e;rfl) _ (λcdv A outer s H E hr=>(jg (Js (jpt (Uk (wk (wU (Ja (T:= "tuple") (by decide) rfl Z.isinstance rfl Z.tuple (by decide +kernel) (jv 0)))) (XY (zG oq_ne (jM zA rfl Z.len R8 (jac (jv 0) jb)) (jv 1) (jE _))))) (jn (we jbl)) jS) (by exact(jn (we (jM (JM rfl) rfl Z.all T5 (jac (jlc (i:=3) (js:= [3]) rfl (jA (by rfl)) (wc (jv 0)) (by decide) vo.nd rfl (by first|exact Or.inl rfl|exact Or.inr rfl) (λX' hX=>zd) (λX' hX=>by obtain⟨C,s₀,H₀,ex,rfl⟩:=hX;exact(jC yi hr rfl wB wA wz (jac (jv 3) (by exact(jac jw (by exact(jac (jop vU (jv 2) jw) jb)))))))) jb))))))) ?_;intro ds h Q q;obtain⟨d,n,k,e,ok,q⟩:=q;subst e;obtain⟨nm,hn⟩:=zf ok;cases d with
 |tup es=>
  obtain⟨hl,ht⟩:=yV ok;refine jp (λσ' h'=>(es.length:Int)=n/\σ'= [some (.tup es),some (.int n),some (.int k),none]/\h=h') (λC hC=>⟨_,rfl,_,rfl,_,rfl,wN ⟨_,rfl,_,rfl,?_⟩⟩) ?_
  ·show ∃b,D.bl (!decide ((es.length:Int)=n))= .bl b/\_
   by_cases z:(es.length:Int)=n
   ·rw [P7 z];exact⟨_,rfl,wN (hC _ _ ⟨z,rfl,rfl⟩)⟩
   ·have e:wd (.tup es) n k=false:=by show (decide _&&_)=false;rw [P2 z];rfl
    rw [e] at q;rw [P2 z];exact⟨_,rfl,yN ⟨h,Sub.refl h,q⟩⟩
  rintro _ _ ⟨z,rfl,rfl⟩;have e:wd (.tup es) n k=es.all (λx=>jJ x 0 (k-1)):=by show (decide _&&_)=_;rw [P7 z];rfl
  rw [e] at q;exact Bt es (λx=>x) (λx=>jJ x 0 (k-1)) hl (by rw [J8]) (λR r=>⟨_,rfl,r⟩) (λx hx Q' q'=>⟨_,rfl,_,rfl,x,0,k-1,rfl,ht x hx,q'⟩) ⟨h,Sub.refl h,q⟩
 |_=>cases hn<;>exact jp (λ_ _=>False) (λC hC=>⟨_,rfl,_,rfl,_,rfl,yN (yN ⟨h,Sub.refl h,q⟩)⟩) (λ_ _ z=>z.elim)
variable {h:HD}
theorem QZ {b:D->SD->SD->Prop}{js:List Nat}{ti ti':TID}{tt tt':TTD}{i':Nat}{te:TED}{E:EndsD}{σ:SD}(x:DI b js ti tt i' ti' tt' te σ h λv h1=>Mu [v] h1 λd h2=>E.rt d h2):Uj (dCB Mu (yt (DI b js ti tt i' ti' tt' te) VO)) E σ h:=x
theorem Vv {α:Type}{f:Nat->List α}: ∀ {xs:List Nat},(∀x∈xs,(f x).length<=6)->(xs.flatMap f).length<=6*xs.length
 | [],_=>B9 _
 |x::xs,h=>by
  have a:=h x P4;have b:=Vv (xs:=xs) λy hy=>h y (P5 _ hy)
  rw [A3,P8,D0];omega
def jV (d:D)(j:Nat):Int:=match d with
 | .tup es=>(match es.getD j .non with| .int x=>x|_=>0)
 |_=>0
def Ga (T:List (List Int))(n:Nat)(x:D)(k:Int):Bool:=(List.range n).all λp=>(Um T n p).all λj=>decide (jV x j=(jV x p+1)%k)
/-- turns of a table,whatever both are -/
def Wn (T:List (List Int))(n:Nat)(d x:D):Bool:=match d with
 | .int k=>jJ (.int k) 1 6&&(wd x n k&&Ga T n x k)
 |_=>false
variable {k:Int}
theorem Vw {es:List D}{n:Int}(h:wd (.tup es) n k=true):(es.length:Int)=n/\ ∀j:Nat,j<es.length-> ∃r:Int,atI es (j:Int)=some (.int r)/\jV (.tup es) j=r/\0<=r/\r<=k-1:=by
 have h':(decide ((es.length:Int)=n)&&es.all (λx=>jJ x 0 (k-1)))=true:=h;rw [R4,F2,R1] at h';refine⟨h'.1,λj hj=> ?_⟩;have w:=h'.2 es[j] (T0 hj);cases e:es[j] with
 |int r=>
  rw [e] at w;have w':(decide ((0:Int)<=r)&&decide (r<=k-1))=true:=w;rw [R4,F2,F2] at w';refine⟨r,yM (by rw [G2 hj,e]),?_,w'.1,w'.2⟩;unfold jV;dsimp only;rw [R0,G2 hj,e];rfl
 |_=>rw [e] at w;cases w
theorem XL {α β:Type}{f g:α->List β}: ∀ {xs:List α},(∀x∈xs,f x=g x)->xs.flatMap f=xs.flatMap g
 | [],_=>rfl
 |x::xs,h=>by rw [A3,A3,h x P4,XL λy hy=>h y (P5 _ hy)]
def vg:RDn:=λds h Q=> ∃T d x,∃n e:Nat,ds= [zH T,d,x]/\Sq n e T/\1<=n/\n<=6/\okD d=true/\okD x=true/\Q (.bl (Wn T n d x)) h
theorem Wo (Z:Zs mg)(F:Fun K "are_turns" "are_turns" wZ f fd)(YF:jB P w K mg base n "are_rests" ["thing","size","d"] vf)(yg:jB P w K mg base n "is_within" ["thing","least","most"] wv)(DB:jB P w K mg base n "heads" ["table","place"] Vu)(wy: ∃tk,mg "MOST_TURNS" =some (.int 6 tk)):FnOk P w K mg base CX0 (n+1) f fd ["table","d","rests"] (LSp K vg):=by
 obtain⟨Gj,Qm,YK,WI,WW,Yb⟩:=YF;obtain⟨Zw,Jx,yi,wz,wA,wB⟩:=yg;obtain⟨Nd,DM,DD,Gf,Gp,Gq⟩:=DB;obtain⟨tk_MOST_TURNS,m_MOST_TURNS⟩:=wy;refine F.okJ vp (λds h Q q=>by obtain⟨T,d,x,n,b,e,hT,h1,h6,okd,okx,q⟩:=q;subst e;rfl) _ (λcdv A outer s H E hr=>(jg (Js (jpt (Uk (wk (wU (jC yi hr rfl wB wA wz (jac (jv 1) (by exact(jac jw (by exact(jac (MK rfl m_MOST_TURNS) jb)))))))) (XY (wk (wU (jC YK hr rfl Yb WW WI (jac (jv 2) (by exact(jac (jM zA rfl Z.len R8 (jac (jv 0) jb)) (by exact(jac (jv 1) jb))))))))))) (jn (we jbl)) jS) (by exact(jn (we (jM (JM rfl) rfl Z.all T5 (jac (CT (i:=3) (i':=4) (js:= [3,4]) rfl (jA (by rfl)) (Ys rfl Z.range (jac (jM zA rfl Z.len R8 (jac (jv 0) jb)) jb)) (by decide) (by decide) (by decide) vp.nd rfl rfl (by first|exact Or.inl rfl|exact Or.inr rfl) (by first|exact Or.inl rfl|exact Or.inr rfl) (λX' hX=>zd) (λX' hX=>by obtain⟨C,s₀,H₀,ex,rfl⟩:=hX;exact(wc (jC DD hr rfl Gq Gp Gf (jac (jv 0) (by exact(jac (jv 3) jb)))))) (λX' hX=>zd) (λX' hX=>by obtain⟨C,s₀,H₀,ex,rfl⟩:=hX;exact(XX oq_eq (jix (jv 2) (jv 4) (λ_ _=>rfl)) (jop zy (jop jR (jix (jv 2) (jv 3) (λ_ _=>rfl)) jw) (jv 1)) (jE _)))) jb))))))) ?_;intro ds h Q q;obtain⟨T,d,x,n,b,e,hT,h1,h6,okd,okx,q⟩:=q;subst e;have hlen:(((T.map zo).length:Nat):Int)=(n:Int):=by rw [G0,hT.len]
 refine jp (λσ' h'=> ∃k es,d= .int k/\x= .tup es/\jJ (.int k) 1 6=true/\wd (.tup es) n k=true/\σ'= [some (zH T),some (.int k),some (.tup es),none,none]/\h=h') (λC hC=>⟨_,rfl,d,1,6,rfl,okd,_,rfl,?_⟩) ?_
 ·cases hw:jJ d 1 6 with
  |false=>
   have e:Wn T n d x=false:=by
    cases d with
    |int k=>show (jJ (.int k) 1 6&&_)=false;rw [hw];rfl
    |_=>rfl
   rw [e] at q;exact yN (yN ⟨h,Sub.refl h,q⟩)
  |true=>
   cases d with
   |int k=>
    refine wN ⟨_,rfl,_,rfl,_,rfl,x,_,k,rfl,okx,_,rfl,?_⟩;rw [hlen];cases hr:wd x n k with
    |false=>
     have e:Wn T n (.int k) x=false:=by show (_&&(wd x n k&&_))=false;rw [hr,N9,Bool.and_false]
     rw [e] at q;exact yN ⟨h,Sub.refl h,q⟩
    |true=>
     cases x with
     |tup es=>exact wN (hC _ _ ⟨k,es,rfl,rfl,hw,hr,rfl,rfl⟩)
     |_=>cases hr
   |_=>cases hw
 rintro _ _ ⟨k,es,rfl,rfl,hw,hr,rfl,rfl⟩;have e:Wn T n (.int k) (.tup es)=Ga T n (.tup es) k:=by show (_&&(wd _ n k&&_))=_;rw [hw,hr];rfl
 rw [e] at q;obtain⟨el,at_⟩:=Vw hr;have kp:0<k:=by
  have w':(decide ((1:Int)<=k)&&decide (k<=6))=true:=hw;rw [R4,F2] at w';omega
 refine QZ (MS (List.range n) (λ(i:Nat)=> .int (i:Int)) (λp=>Um T n p) (λ(j:Nat)=> .int (j:Int)) (λ_ _=>true) (λp j=> .bl (decide (jV (.tup es) j=(jV (.tup es) p+1)%k))) ?_ (λh' _=>rfl) (λR r=>⟨_,rfl,(n:Int),by rw [G0,hT.len],by omega,by omega,r⟩) (λp hp h' s R r=>⟨_,rfl,_,rfl,T,n,b,p,rfl,hT,h6,S3.mp hp,λF eF=>r (λh=>h F) _ (Sub.newAt (Sub.refl _) eF) λh3 s3=>s3 _ _ ja⟩) (λp hp j hj h' s Q' q'=>q') (λp hp j hj _ h' s Q' q'=> ?_) λa h' s ha=> ?_)
 ·exact D3 (Vv λp _=>by rw [G0];exact D3 (H0 _ _) (D3 (Du p) h6)) (R9 (jX (by rw [T7];omega)))
 ·have hp:=S3.mp hp;have hj:=MR hj;obtain⟨r,a1,a2,_⟩:=at_ j (by omega);obtain⟨r',b1,b2,_⟩:=at_ p (by omega);rw [a2,b2] at q';exact⟨_,rfl,_,rfl,_,a1,_,rfl,_,rfl,_,b1,_,rfl,kp,q'⟩
 ·refine⟨a,(List.range n).flatMap λp=>(Um T n p).map λj=>decide (jV (.tup es) j=(jV (.tup es) p+1)%k),rfl,?_,?_⟩
  ·rw [ja,List.map_flatMap];refine congrArg some (XL λp _=> ?_);rw [List.filter_eq_self.mpr (λ_ _=>rfl),S6];rfl
  ·rw [zM ha,List.all_flatMap];refine⟨h,s,?_⟩;rw [show ((List.range n).all λp=>((Um T n p).map λj=>decide (jV (.tup es) j=(jV (.tup es) p+1)%k)).all id)=Ga T n (.tup es) k from congrArg (List.all (List.range n)) (funext λp=>by rw [C1];rfl)];exact q
/-- a number of turns and a zP for each place -/
def wH (T:List (List Int))(n:Nat)(d:D):Bool:=match d with
 | .tup [a,x]=>Wn T n a x
 |_=>false
theorem GJ {es:List D}(h:((es.length:Nat):Int)=2): ∃a x,es= [a,x]:=by
 cases es with
 |nil=>cases h
 |cons a r=>cases r with
  |nil=>cases h
  |cons x r=>cases r with
   |nil=>exact⟨a,x,rfl⟩
   |cons y r=>simp only [D0] at h;omega
theorem Vx {es:List D}(h: ¬ ((es.length:Nat):Int)=2):wH T n (.tup es)=false:=by
 unfold wH;split
 ·rename_i e;injection e with e;rw [e] at h;exact absurd rfl h
 ·rfl
def yC:RDn:=λds h Q=> ∃T d,∃n e:Nat,ds= [zH T,d]/\Sq n e T/\1<=n/\n<=6/\okD d=true/\Q (.bl (wH T n d)) h
theorem Zk (Z:Zs mg)(F:Fun K "turns_hold" "turns_hold" wn f fd)(Wz:jB P w K mg base n "want_table" ["thing"] yB)(YG:jB P w K mg base n "are_turns" ["table","d","rests"] vg):FnOk P w K mg base CX0 (n+1) f fd ["table","thing"] (LSp K yC):=by
 obtain⟨Qi,XV,WE,Zv,ZC,ZH⟩:=Wz;obtain⟨Gk,Qn,YL,WJ,WX,Yc⟩:=YG;refine F.okJ Zh (λds h Q q=>by obtain⟨T,d,n,b,e,hT,h1,h6,ok,q⟩:=q;subst e;rfl) _ (λcdv A outer s H E hr=>(jg (QM (jC WE hr rfl ZH ZC Zv (jac (jv 0) jb))) (by exact(jg (Js (jpt (Uk (wk (wU (Ja (T:= "tuple") (by decide) rfl Z.isinstance rfl Z.tuple (by decide +kernel) (jv 1)))) (XY (zG oq_ne (jM zA rfl Z.len R8 (jac (jv 1) jb)) jw (jE _))))) (jn (we jbl)) jS) (by exact(jn (we (jC YL hr rfl Yc WX WJ (jac (jv 0) (by exact(jac (jix (jv 1) jw (λ_ _=>rfl)) (by exact(jac (jix (jv 1) jw (λ_ _=>rfl)) jb))))))))))))) ?_;intro ds h Q q;obtain⟨T,d,n,b,e,hT,h1,h6,ok,q⟩:=q;subst e;refine jp (λσ' h'=>σ'= [some (zH T),some d]/\h=h') (λC hC=>⟨_,rfl,T,n,b,rfl,hT,h1,h6,hC _ _ ⟨rfl,rfl⟩⟩) ?_;rintro _ _ ⟨rfl,rfl⟩;obtain⟨nm,hn⟩:=zf ok;cases d with
 |tup es=>
  cases hn;obtain⟨hl,ht⟩:=yV ok;refine jp (λσ' h'=>(∃a x,es= [a,x])/\σ'= [some (zH T),some (.tup es)]/\h=h') (λC hC=>⟨_,rfl,"tuple",rfl,_,rfl,wN ⟨_,rfl,_,rfl,?_⟩⟩) ?_
  ·show if (!decide (((es.length:Nat):Int)=2))=true then _ else _
   by_cases z:((es.length:Nat):Int)=2
   ·rw [P7 z];exact wN (hC _ _ ⟨GJ z,rfl,rfl⟩)
   ·rw [P2 z];rw [Vx z] at q;exact yN ⟨h,Sub.refl h,q⟩
  rintro _ _ ⟨⟨a,x,rfl⟩,rfl,rfl⟩;exact⟨_,rfl,_,rfl,_,rfl,_,rfl,_,rfl,T,a,x,n,b,rfl,hT,h1,h6,ht a (by simp),ht x (by simp),_,Sub.refl h,q⟩
 |_=>cases hn<;>exact jp (λ_ _=>False) (λC hC=>⟨_,rfl,_,rfl,_,rfl,yN ⟨h,Sub.refl h,q⟩⟩) (λ_ _ z=>z.elim)
def vh:RDn:=λds h Q=> ∃ns k,ds= [.scr ns,.int k]/\0<=k/\ ∀n,Q (.int n) h
theorem Wp (Z:Zs mg)(F:Fun K "_law_cell" "_law_cell" ya f fd):FnOk P w K mg base CX0 (n+1) f fd ["_law_script","_law_k"] (LSp K vh):=by
 refine F.okJ Wj (λds h Q q=>by obtain⟨ns,k,e,h0,q⟩:=q;subst e;rfl) _ (λcdv A outer s H E hr=>(jg (Js (zG PX (jv 1) (jM zA rfl Z.len R8 (jac (jv 0) jb)) (jE _)) (jn (we (jix (jv 0) (jv 1) (λ_ _=>rfl)))) jS) (by exact(jn (we jw))))) ?_;intro ds h Q q;obtain⟨ns,k,e,h0,q⟩:=q;subst e;simp only [Xa,DG,vS,dOp,UV,zx,D1,T6,D0,D9,S9,S7,N8,R6,T3,dCB,yt,VO,Mq,Gx,D.bl.injEq,Uj,ixD,Xc,M1,VP,dC];refine ZT (λc=> ?_) (λ_=>⟨h,Sub.refl h,q 0⟩);have c':k<(ns.length:Int):=B5 c;have hk:k.toNat<ns.length:=by omega
 have ek:k=((k.toNat:Nat):Int):=by omega
 have z:=yM (G2 hk);rw [<-ek] at z;exact⟨ns[k.toNat],z,h,Sub.refl h,q _⟩
def Jg:RDn:=λds h Q=> ∃c,ds= [.int c]/\ ∀p l fl,h p=none->0<=l->(fl=0\/fl=1)->Q (.lst p) (zm h p [.int l,.int fl])
theorem Yz (Z:Zs mg)(F:Fun K "_law_pen" "_law_pen" yS f fd):FnOk P w K mg base CX0 (n+1) f fd ["_law_cell_here"] (LSp K Jg):=by
 refine F.okJ Jo (λds h Q q=>by obtain⟨c,e,q⟩:=q;subst e;rfl) _ (λcdv A outer s H E hr=>(jg (wO (i:=1) Jo.nd rfl (Or.inl rfl) (jM (Ms rfl) rfl Z.max (by decide +kernel) (jac (jv 0) (by exact(jac (jop vU jw (jv 0)) jb))))) (by exact(jn (we (vt (jac (jv 1) (by exact(jac (zi Gz rfl Z.int (by decide +kernel) (jac (XX PZ (jv 1) (jop Vi jw jw) (jE _)) jb)) jb))))))))) ?_;intro ds h Q q;obtain⟨c,e,q⟩:=q;subst e;simp only [Xa,PB,dCB,yt,UV,zx,D1,T6,D0,D9,List.replicate,S9,S7,R6,T3,dOp,dC,BX,VO,Bg,Uj,DF,List.set_cons_succ,List.set_cons_zero,N8,Bd,Gx,Bf,Xc,M1];refine⟨⟨by decide,by decide,by decide⟩,by decide,λp hp=>⟨_,Sub.refl _,q p _ _ hp ?_ ?_⟩⟩
 ·split<;>omega
 ·split<;>simp<;>omega
def jK:RDn:=λds h Q=> ∃p l fl m,ds= [.lst p,.int m]/\h p=some [.int l,.int fl]/\0<=l/\0<m/\m<2^200/\ ∀r l',0<=r->r<m->0<=l'->Q (.int r) (zm h p [.int l',.int fl])
theorem Wq (Z:Zs mg)(F:Fun K "_law_draw" "_law_draw" yb f fd):FnOk P w K mg base CX0 (n+1) f fd ["_law_pen_here","_law_many"] (LSp K jK):=by
 refine F.okJ zE (λds h Q q=>by obtain⟨p,l,fl,m,e,hp,h0,hm,hm2,q⟩:=q;subst e;rfl) _ (λcdv A outer s H E hr=>(jg (Js (zG oq_eq (jix (jv 0) jw (λ_ _=>rfl)) jw (jE _)) (jg (Dm (jM VU rfl Z.divmod (by decide +kernel) (jac (jix (jv 0) jw (λ_ _=>rfl)) (by exact(jac (jv 1) jb)))) (vd (i:=2) (j:=3) rfl zE.nd rfl rfl (Or.inl rfl) (Or.inl rfl))) (by exact(jg (Dm (jv 2) (Vm (jv 0) jw)) (by exact(jn (we (jv 3))))))) jS) (by exact(jg (wO (i:=4) zE.nd rfl (Or.inl rfl) (jop zy (jop vW (jop jR (jop zy (jix (jv 0) jw (λ_ _=>rfl)) jw) jw) jw) jw)) (by exact(jg (wO (i:=4) zE.nd rfl (Or.inl rfl) (jop zy (jop jR (jop vW (jv 4) (jv 4)) jw) jw)) (by exact(jg (Dm (jop zy (jop jR (jop vW (jv 4) jw) jw) jw) (Vm (jv 0) jw)) (by exact(jn (we (jop zy (jop PV (jix (jv 0) jw (λ_ _=>rfl)) jw) (jv 1))))))))))))) ?_;intro ds h Q q;obtain⟨p,l,fl,m,e,hp,h0,hm,hm2,q⟩:=q;subst e;refine jp (λσ' h'=>σ'= [some (.lst p),some (.int m),none,none,none]/\h=h') (λC hC=>⟨_,rfl,_,_,hp,rfl,?_⟩) ?_
 ·show ∃k,D.bl (decide (fl=1))= .bl k/\_;refine⟨_,rfl,ZT (λ_=> ?_) λ_=>hC _ _ ⟨rfl,rfl⟩⟩;exact⟨_,rfl,_,_,hp,rfl,_,rfl,_,_,rfl,⟨hm,hm2⟩,_,_,rfl,_,rfl,_,rfl,p,0,_,0,rfl,rfl,hp,rfl,_,rfl,_,Sub.refl _,q (l%m) (l / m) (B3 _ (Int.ne_of_gt hm)) (B0 _ hm) (Int.ediv_nonneg h0 (Int.le_of_lt hm))⟩
 rintro _ _ ⟨rfl,rfl⟩;refine jp (λσ' h'=> ∃z:Int,σ'= [some (.lst p),some (.int m),none,none,some (.int z)]/\(0<=z/\z<2147483629)/\h=h') (λC hC=>⟨_,rfl,_,_,hp,rfl,by decide,.inr ⟨by decide,by decide⟩,by decide,hC _ _ ⟨_,rfl,⟨B3 _ (by decide),B0 _ (by decide)⟩,rfl⟩⟩) ?_;rintro _ _ ⟨z,rfl,⟨z0,z1⟩,rfl⟩;refine jp (λσ' h'=> ∃y:Int,σ'= [some (.lst p),some (.int m),none,none,some (.int y)]/\h=h') (λC hC=>⟨_,rfl,_,rfl,.inl ⟨Int.lt_of_lt_of_le (by decide) z0,Int.lt_trans z1 (by decide)⟩,by decide,hC _ _ ⟨_,rfl,rfl⟩⟩) ?_;rintro _ _ ⟨y,rfl,rfl⟩;refine jp (λσ' h'=> ∃x:Int,σ'= [some (.lst p),some (.int m),none,none,some (.int y)]/\0<=x/\h'=zm h p [.int x,.int fl]) (λC hC=>⟨_,rfl,.inr ⟨by decide,by decide⟩,by decide,_,rfl,p,0,_,0,rfl,rfl,hp,rfl,hC _ _ ⟨_,rfl,B3 _ (by decide),rfl⟩⟩) ?_;rintro _ _ ⟨x,rfl,x0,rfl⟩;exact⟨_,rfl,_,_,ja,rfl,⟨by decide,by decide⟩,_,rfl,hm,_,Sub.refl _,q (x / 32%m) x (B3 _ (Int.ne_of_gt hm)) (B0 _ hm) x0⟩
theorem Zl (Z:Zs mg)(F:Fun K "_law_whole" "_law_whole" wo f fd):FnOk P w K mg base CX0 (n+1) f fd ["_law_thing"] (LSp K zv):=by
 refine F.okJ Zi (λds h Q q=>by obtain⟨d,nm,e,hn,q⟩:=q;subst e;rfl) _ (λcdv A outer s H E hr=>(jn (we (GE (Ja (T:= "int") (by decide) rfl Z.isinstance rfl Z.int (by decide +kernel) (jv 0)) (XZ (Cc (Ja (T:= "bool") (by decide) rfl Z.isinstance rfl Z.bool (by decide +kernel) (jv 0)))))))) ?_;intro ds h Q q;obtain⟨d,nm,e,hn,q⟩:=q;subst e;simp only [Uj,UX,dIs,UV,zx,D1,T6,D0,D9,S9,S7,R6,T3,D.bl.injEq,UY,Xc,M1,hn];cases d<;>cases hn<;>exact⟨h,Sub.refl h,q⟩
def Jh:RDn:=λds h Q=> ∃p l fl,ds= [.lst p]/\h p=some [.int l,.int fl]/\0<=l/\ ∀d l' h',okD d=true->Th (wg h' p) d->But p h h'->h' p=some [.int l',.int fl]->0<=l'->Q d h'
theorem YA (Z:Zs mg)(F:Fun K "_law_odd" "_law_odd" yT f fd)(jz:jB P w K mg base n "_law_draw" ["_law_pen_here","_law_many"] jK):FnOk P w K mg base CX0 (n+1) f fd ["_law_pen_here"] (LSp K Jh):=by
 obtain⟨jQ,jP,jh,jd,je,jf⟩:=jz;refine F.okJ Jn (λds h Q q=>by obtain⟨p,l,fl,e,hp,h0,q⟩:=q;subst e;rfl) _ (λcdv A outer s H E hr=>(jg (wO (i:=1) Jn.nd rfl (Or.inl rfl) (vt (jac Bn (by exact(jac jbl (by exact(jac jbl (by exact(jac (Bp jw) (by exact(jac Bo (by exact(jac Bo (by exact(jac (zC jb) (by exact(jac (vt jb) (by exact(jac (zC (jac jw jb)) (by exact(jac (vt (jac jw jb)) (by exact(jac MM (by exact(jac (zC (jac jw (by exact(jac jw jb)))) (by exact(jac (jop Vi jw jw) (by exact(jac (zC (jac jw (by exact(jac (zC jb) jb)))) (by exact(jac (zC (jac (zC jb) jb)) jb))))))))))))))))))))))))))))))) (by exact(jn (we (jix (jop jR (jv 1) (vt (jac (zC (jac (zC (jac jw jb)) jb)) jb))) (jC jh hr rfl jf je jd (jac (jv 0) (by exact(jac jw jb)))) (λ_ _=>rfl))))))) ?_;intro ds h Q q;obtain⟨p,l,fl,e,hp,h0,q⟩:=q;subst e;simp only [Xa,PB,DF,yt,dC,dUn,Bk,Ni,VO,D9,D0,Vj,dOp,Bd,Uj,UV,zx,D1,T6,List.replicate,S9,S7,List.set_cons_succ,List.set_cons_zero,N8,R6,T3,BW,dCB,ixD,M1,Xc]
 repeat (first|intro _|refine⟨by decide,?_⟩|refine⟨⟨by decide,by decide,by decide⟩,?_⟩)
 rename_i p1 e1 p2 e2 p4 e4 p5 e5;have k1:=jc (M:= []) hp e1;have k2:=jc (M:= [.int 0]) k1 e2;have n1:p1≠p:=jr hp e1;have n2:p2≠p:=jr k1 e2;refine⟨_,_,ji (Ne.symm (Dj e5)) ja,ja,by simp only [D0,D9];decide,λp6 e6=> ?_⟩;refine⟨p,l,fl,16,rfl,jc (jc (jc k2 e4) e5) e6,h0,by decide,by decide,λr l' r0 r1 l0=> ?_⟩;obtain⟨d,hd,ed⟩:=zR (xs:= [D.non,D.bl true,D.bl false,D.int (-1),D.str (Str.ofString "1"),D.str (Str.ofString ""),D.tup [],D.lst p1,D.tup [D.int 0],D.lst p2,D.dic (Str.ofString "a") 1,D.tup [D.int 0,D.int 1],D.int (10^Int.toNat 30),D.tup [D.int 0,D.tup []],D.tup [D.tup []]]++ [D.tup [D.tup [D.int 0]]]) r0 r1;refine⟨_,d,ji (jr (jc (jc k2 e4) e5) e6) ja,ed,_,Sub.refl _,q d l' _ (vG ?_ d hd) ?_ ((((((But.refl p h).new e1).new e2).new e4).new e5).new e6).put ja l0⟩
 ·rfl
 ·simp only [P9,P0,D2,M3] at hd;rcases hd with (e|e|e|e|e|e|e|e|e|e|e|e|e|e|e)|e<;>subst e
  all_goals first
   |exact SmK.th (Vq 2 _ (by decide +kernel))
   |exact .inr (.inr rfl)
   |exact Th.lst (yA n1 (ji n1 (jc (jc (jc (jc ja e2) e4) e5) e6))) (by decide) (by simp)
   |exact Th.lst (yA n2 (ji n2 (jc (jc (jc ja e4) e5) e6))) (by decide) (λx hx=>by rw [G5.mp hx];exact Vq 1 _ (by decide +kernel))
def vj:RDn:=λds h Q=> ∃p l fl,ds= [.lst p]/\h p=some [.int l,.int fl]/\0<=l/\ ∀ (k:Nat) l',1<=k->k<=6->0<=l'->Q (.int (k:Int)) (zm h p [.int l',.int fl])
theorem Wr (Z:Zs mg)(F:Fun K "_law_size" "_law_size" yc f fd)(jz:jB P w K mg base n "_law_draw" ["_law_pen_here","_law_many"] jK):FnOk P w K mg base CX0 (n+1) f fd ["_law_pen_here"] (LSp K vj):=by
 obtain⟨jQ,jP,jh,jd,je,jf⟩:=jz;refine F.okJ Wk (λds h Q q=>by obtain⟨p,l,fl,e,hp,h0,q⟩:=q;subst e;rfl) _ (λcdv A outer s H E hr=>(jn (we (jix (vt (jac jw (by exact(jac jw (by exact(jac jw (by exact(jac jw (by exact(jac jw (by exact(jac jw (by exact(jac jw (by exact(jac jw (by exact(jac jw (by exact(jac jw (by exact(jac jw (by exact(jac jw jb)))))))))))))))))))))))) (jC jh hr rfl jf je jd (jac (jv 0) (by exact(jac jw jb)))) (λ_ _=>rfl))))) ?_;intro ds h Q q;obtain⟨p,l,fl,e,hp,h0,q⟩:=q;subst e;simp only [Uj,dOp,DF,yt,dC,VO,D0,D9,dCB,UV,zx,D1,T6,S9,S7,R6,T3,ixD,Xc,M1];refine⟨by decide,λp1 e1=>⟨p,l,fl,12,rfl,jc hp e1,h0,by decide,by decide,λr l' r0 r1 l0=> ?_⟩⟩;obtain⟨d,hd,ed⟩:=zR (xs:= [D.int 1,D.int 2,D.int 3,D.int 4,D.int 5,D.int 3,D.int 4,D.int 2,D.int 6,D.int 5,D.int 4,D.int 3]) r0 r1;refine⟨_,d,ji (jr hp e1) ja,ed,_,Sub.both (Sub.newAt (Sub.refl h) e1),?_⟩;have q': ∀k:Nat,1<=k->k<=6->Q (.int (k:Int)) (zm h p [.int l',.int fl]):=λk a b=>q k l' a b l0
 simp only [P0,D2,M3] at hd;rcases hd with e|e|e|e|e|e|e|e|e|e|e|e<;>subst e
 ·exact q' 1 (by decide) (by decide)
 ·exact q' 2 (by decide) (by decide)
 ·exact q' 3 (by decide) (by decide)
 ·exact q' 4 (by decide) (by decide)
 ·exact q' 5 (by decide) (by decide)
 ·exact q' 3 (by decide) (by decide)
 ·exact q' 4 (by decide) (by decide)
 ·exact q' 2 (by decide) (by decide)
 ·exact q' 6 (by decide) (by decide)
 ·exact q' 5 (by decide) (by decide)
 ·exact q' 4 (by decide) (by decide)
 ·exact q' 3 (by decide) (by decide)
def zp:RDn:=λds h Q=> ∃p l fl,∃k:Nat,ds= [.lst p,.int (k:Int)]/\h p=some [.int l,.int fl]/\0<=l/\1<=k/\k<=6/\ ∀T l',GoodTab k T->0<=l'->Q (zH T) (zm h p [.int l',.int fl])
theorem Zm (Z:Zs mg)(F:Fun K "_law_table" "_law_table" wq f fd)(jz:jB P w K mg base n "_law_draw" ["_law_pen_here","_law_many"] jK):FnOk P w K mg base CX0 (n+1) f fd ["_law_pen_here","_law_size_here"] (LSp K zp):=by
 obtain⟨jQ,jP,jh,jd,je,jf⟩:=jz;refine F.okJ jx (λds h Q q=>by obtain⟨p,l,fl,k,e,hp,h0,hk1,hk6,q⟩:=q;subst e;rfl) _ (λcdv A outer s H E hr=>(jg (CQ (i:=2) (j:=3) rfl jx.nd rfl rfl (by decide) rfl rfl (jac (jC jh hr rfl jf je jd (jac (jv 0) (by exact(jac jw jb)))) (by exact(jac (jix (vt (jac jw (by exact(jac jw (by exact(jac jw jb)))))) (jC jh hr rfl jf je jd (jac (jv 0) (by exact(jac jw jb)))) (λ_ _=>rfl)) jb))) rfl) (by exact(jg (wO (i:=4) jx.nd rfl (Or.inl rfl) (jix (vt (jac jw (by exact(jac jw (by exact(jac jw (by exact(jac (jop Vi jw jw) jb)))))))) (jC jh hr rfl jf je jd (jac (jv 0) (by exact(jac jw jb)))) (λ_ _=>rfl))) (by exact(jg (wO (i:=5) jx.nd rfl (Or.inl rfl) (vt jb)) (by exact(jg (Vl R5 rfl (Ys rfl Z.range (jac (jv 1) jb)) (zT (i:=6) jx.nd rfl (Or.inl rfl)) (jg (wO (i:=7) jx.nd rfl (Or.inl rfl) (vt jb)) (by exact(jg (Vl R5 rfl (Ys rfl Z.range (jac (jv 1) jb)) (zT (i:=8) jx.nd rfl (Or.inl rfl)) (jg (wO (i:=9) jx.nd rfl (Or.inl rfl) (XX oq_eq (jC jh hr rfl jf je jd (jac (jv 0) (by exact(jac (jv 3) jb)))) jw (jE _))) (by exact(jg (Js (zG PX (jv 2) jw (jE _)) (jn (wO (i:=9) jx.nd rfl (Or.inl rfl) (jor (XX oq_eq (jv 8) (jop zy (jop jR (jv 6) jw) (jv 1)) (jE _)) (XZ (GE (jv 9) (XZ (XX (GC hr.units) (jC jh hr rfl jf je jd (jac (jv 0) (by exact(jac jw jb)))) (jv 2) (jE _)))))))) jS) (by exact(jg (Js (zG oq_eq (jv 2) jw (jE _)) (jn (wO (i:=9) jx.nd rfl (Or.inl rfl) (jor (GE (jv 9) (XZ (XX oq_eq (jop zy (jop vU (jv 8) (jv 6)) jw) jw (jE _)))) (XZ (XX (GC hr.units) (jv 8) (jop jR (jv 6) jw) (jE _)))))) jS) (by exact(jg (Js (zG oq_eq (jv 2) jw (jE _)) (jn (wO (i:=9) jx.nd rfl (Or.inl rfl) (GE (jv 9) (XZ (XX PZ (jv 8) (jv 6) (jE _)))))) jS) (by exact(jn (QM (Cd (jv 7) (jop vW (zi Gz rfl Z.int (by decide +kernel) (jac (jv 9) jb)) (jop jR jw (jC jh hr rfl jf je jd (jac (jv 0) (by exact(jac (jv 4) jb)))))))))))))))))) (by exact(jn (QM (Cd (jv 5) (zi cq_tuple rfl Z.tuple (by decide +kernel) (jac (jv 7) jb)))))))))) (by exact(jn (we (zi cq_tuple rfl Z.tuple (by decide +kernel) (jac (jv 5) jb))))))))))))) ?_;intro ds h Q q;obtain⟨p,l,fl,k,e,hp,h0,hk1,hk6,q⟩:=q;subst e;refine jp (λσ' h'=> ∃way o l2,σ'= [some (.lst p),some (.int (k:Int)),some (.int way),some (.int o),none,none,none,none,none,none]/\0<o/\o<1000/\0<=l2/\h' p=some [.int l2,.int fl]/\But p h h') (λC hC=>⟨_,rfl,p,l,fl,6,rfl,hp,h0,by decide,by decide,λway l1 w0 w1 l10=>⟨(by show 3<=sizeLine;decide),λp1 e1=>⟨_,rfl,p,l1,fl,3,rfl,jc ja e1,l10,by decide,by decide,λr l2 r0 r1 l20=> ?_⟩⟩⟩) ?_
 ·obtain⟨oft,ho,eo⟩:=zR (xs:= [D.int 2,D.int 3,D.int 5]) r0 r1;obtain⟨o,e,o1,o2⟩: ∃o:Int,oft= .int o/\0<o/\o<1000:=by
   simp only [P0,D2,M3] at ho;rcases ho with e|e|e<;>exact⟨_,e,by decide,by decide⟩
  subst e;exact⟨_,_,ji (jr ja e1) ja,eo,_,_,rfl,hC _ _ ⟨way,o,l2,rfl,o1,o2,l20,ja,((But.upd).new e1).put⟩⟩
 rintro _ h1 ⟨way,o,l2,rfl,o1,o2,l20,kA,bA⟩;refine jp (λσ' h'=> ∃m l3,σ'= [some (.lst p),some (.int (k:Int)),some (.int way),some (.int o),some (.int m),none,none,none,none,none]/\0<m/\m<=1000000/\0<=l3/\h' p=some [.int l3,.int fl]/\But p h h') (λC hC=>⟨⟨by decide,by decide,by decide⟩,(by show 4<=sizeLine;decide),λp1 e1=>⟨_,rfl,p,l2,fl,4,rfl,jc kA e1,l20,by decide,by decide,λr l3 r0 r1 l30=> ?_⟩⟩) ?_
 ·obtain⟨most,ho,eo⟩:=zR (xs:= [D.int 1,D.int 1,D.int 3,D.int (10^Int.toNat 6)]) r0 r1;obtain⟨m,e,m1,m2⟩: ∃o:Int,most= .int o/\0<o/\o<=1000000:=by
   simp only [P0,D2,M3] at ho;rcases ho with e|e|e|e<;>exact⟨_,e,by decide,by decide⟩
  subst e;exact⟨_,_,ji (jr kA e1) ja,eo,hC _ _ ⟨m,l3,rfl,m1,m2,l30,ja,(bA.new e1).put⟩⟩
 clear kA bA;rintro _ h2 ⟨m,l3,rfl,m1,m2,l30,kB,bB⟩;refine jp (λσ' h'=> ∃R,σ'= [some (.lst p),some (.int (k:Int)),some (.int way),some (.int o),some (.int m),some (.lst R),none,none,none,none]/\R≠p/\h R=none/\h' R=some []/\h' p=some [.int l3,.int fl]/\But p h h') (λC hC=>⟨(by show 0<=sizeLine;decide),λR eR=>hC _ _ ⟨R,rfl,jr kB eR,Ze bB eR (jr kB eR),ja,jc kB eR,bB.new eR⟩⟩) ?_;clear kB bB;rintro _ h3 ⟨R,rfl,nR,fR,kR,kC,bC⟩;refine jp (λσ' h'=> ∃a b c d l4 rows,σ'= [some (.lst p),some (.int (k:Int)),some (.int way),some (.int o),some (.int m),some (.lst R),a,b,c,d]/\0<=l4/\h' p=some [.int l4,.int fl]/\h' R=some (rows.map zo)/\But p h h'/\GoodTab k rows) (λC hC=> ?_) (λσ' h' ⟨a,b,c,d,l4,rows,e,l40,kD,kE,bD,g⟩=>by subst e;exact⟨_,rfl,_,kE,_,bD.sub kD,q rows l4 g l40⟩);refine vX k (λi σ' h'=> ∃a b c d l4 rows,σ'= [some (.lst p),some (.int (k:Int)),some (.int way),some (.int o),some (.int m),some (.lst R),a,b,c,d]/\0<=l4/\h' p=some [.int l4,.int fl]/\h' R=some (rows.map zo)/\But p h h'/\rows.length=i/\ ∀r∈rows,zU k r) (by omega) (λR' r=>⟨_,rfl,r⟩)
  ⟨none,none,none,none,l3,[],rfl,l30,kC,kR,bC,rfl,λr hr=>nomatch hr⟩ (λσ' h' z=>hC _ _ z) ?_
 clear kC kR bC;rintro i _ h4 hi ⟨a,b,c,d,l4,rows,rfl,l40,kD,kE,bD,g1,g2⟩;refine jp (λσ' h'=> ∃S,σ'= [some (.lst p),some (.int (k:Int)),some (.int way),some (.int o),some (.int m),some (.lst R),some (.int (i:Int)),some (.lst S),c,d]/\S≠p/\S≠R/\h S=none/\h' S=some []/\h' p=some [.int l4,.int fl]/\h' R=some (rows.map zo)/\But p h h') (λC hC=>⟨(by show 0<=sizeLine;decide),λS eS=>hC _ _ ⟨S,rfl,jr kD eS,jr kE eS,Ze bD eS (jr kD eS),ja,jc kD eS,jc kE eS,bD.new eS⟩⟩) ?_;clear kD kE bD;rintro _ h5 ⟨S,rfl,nS,nSR,fS,kS,kD,kE,bD⟩;refine jp (λσ' h'=> ∃c d l5 row,σ'= [some (.lst p),some (.int (k:Int)),some (.int way),some (.int o),some (.int m),some (.lst R),some (.int (i:Int)),some (.lst S),c,d]/\0<=l5/\h' p=some [.int l5,.int fl]/\h' R=some (rows.map zo)/\h' S=some (row.map D.int)/\But p h h'/\zU k row) (λC hC=> ?_) ?_
 rotate_left
 ·rintro _ h6 ⟨c,d,l5,row,rfl,l50,kD,kE,kF,bD,g⟩;refine⟨_,rfl,R,rfl,_,rfl,_,kF,_,kE,?_,_,Sub.refl _,by omega,_,_,_,_,l5,rows++ [row],rfl,l50,ji (Ne.symm nR) kD,?_,bD.putNew fR,by rw [P8,g1];rfl,?_⟩
  ·rw [G0];exact C9 (show rows.length<=1000 by omega) (by decide)
  ·rw [ja,M0];rfl
  ·intro r hr;rcases P9.mp hr with z|z
   ·exact g2 r z
   ·rw [G5.mp z];exact g
 refine vX k (λj σ' h'=> ∃c d l5 row,σ'= [some (.lst p),some (.int (k:Int)),some (.int way),some (.int o),some (.int m),some (.lst R),some (.int (i:Int)),some (.lst S),c,d]/\0<=l5/\h' p=some [.int l5,.int fl]/\h' R=some (rows.map zo)/\h' S=some (row.map D.int)/\But p h h'/\row.length=j/\ ∀x∈row,0<=x/\x<=1000000) (by omega) (λR' r=>⟨_,rfl,r⟩)
  ⟨_,_,l4,[],rfl,l40,kD,kE,kS,bD,rfl,λr hr=>nomatch hr⟩ (λσ' h' z=>hC _ _ z) ?_
 clear kD kE kS bD;rintro j _ h6 hj ⟨c,d,l5,row,rfl,l50,kD,kE,kF,bD,g1',g2'⟩;refine jp (λσ' h'=> ∃ (g:Bool) (l6:Int),σ'= [some (.lst p),some (.int (k:Int)),some (.int way),some (.int o),some (.int m),some (.lst R),some (.int (i:Int)),some (.lst S),some (.int (j:Int)),some (.bl g)]/\0<=l6/\h' p=some [.int l6,.int fl]/\h' R=some (rows.map zo)/\h' S=some (row.map D.int)/\But p h h') (λC hC=>⟨_,rfl,_,rfl,p,l5,fl,o,rfl,kD,l50,o1,by omega,λr l6 r0 r1 l60=>hC _ _ ⟨_,l6,rfl,l60,ja,ji nR kE,ji nS kF,bD.put⟩⟩) ?_;clear kD kE kF bD;rintro _ _ ⟨g,l6,rfl,l60,kD,kE,kF,bD⟩;refine jp (λσ' h'=> ∃ (g:Bool) (l6:Int),σ'= [some (.lst p),some (.int (k:Int)),some (.int way),some (.int o),some (.int m),some (.lst R),some (.int (i:Int)),some (.lst S),some (.int (j:Int)),some (.bl g)]/\0<=l6/\h' p=some [.int l6,.int fl]/\h' R=some (rows.map zo)/\h' S=some (row.map D.int)/\But p h h') (λC hC=>⟨_,rfl,_,rfl,ZT (λ_=>⟨_,rfl,_,rfl,_,rfl,by omega,_,rfl,ZT (λ_=>hC _ _ ⟨_,l6,rfl,l60,kD,kE,kF,bD⟩) λ_=>⟨_,rfl,_,rfl,ZT (λ_=>⟨_,rfl,p,l6,fl,2,rfl,kD,l60,by decide,by decide,λr l7 r0 r1 l70=>⟨_,rfl,hC _ _ ⟨_,l7,rfl,l70,ja,ji nR kE,ji nS kF,bD.put⟩⟩⟩) λ_=>hC _ _ ⟨_,l6,rfl,l60,kD,kE,kF,bD⟩⟩⟩) λ_=>hC _ _ ⟨_,l6,rfl,l60,kD,kE,kF,bD⟩⟩) ?_;clear kD kE kF bD;rintro _ _ ⟨g,l6,rfl,l60,kD,kE,kF,bD⟩;refine jp (λσ' h'=> ∃ (g:Bool) (l6:Int),σ'= [some (.lst p),some (.int (k:Int)),some (.int way),some (.int o),some (.int m),some (.lst R),some (.int (i:Int)),some (.lst S),some (.int (j:Int)),some (.bl g)]/\0<=l6/\h' p=some [.int l6,.int fl]/\h' R=some (rows.map zo)/\h' S=some (row.map D.int)/\But p h h') (λC hC=>⟨_,rfl,_,rfl,ZT (λ_=>⟨_,rfl,_,rfl,ZT (λ_=>⟨_,rfl,_,rfl,by decide,_,rfl,ZT (λ_=>hC _ _ ⟨_,l6,rfl,l60,kD,kE,kF,bD⟩) λ_=>⟨_,rfl,_,rfl,hC _ _ ⟨_,l6,rfl,l60,kD,kE,kF,bD⟩⟩⟩) λ_=>⟨_,rfl,ZT (λ_=>hC _ _ ⟨_,l6,rfl,l60,kD,kE,kF,bD⟩) λ_=>⟨_,rfl,_,rfl,hC _ _ ⟨_,l6,rfl,l60,kD,kE,kF,bD⟩⟩⟩⟩) λ_=>hC _ _ ⟨_,l6,rfl,l60,kD,kE,kF,bD⟩⟩) ?_;clear kD kE kF bD;rintro _ _ ⟨g,l6,rfl,l60,kD,kE,kF,bD⟩;refine jp (λσ' h'=> ∃ (g:Bool) (l6:Int),σ'= [some (.lst p),some (.int (k:Int)),some (.int way),some (.int o),some (.int m),some (.lst R),some (.int (i:Int)),some (.lst S),some (.int (j:Int)),some (.bl g)]/\0<=l6/\h' p=some [.int l6,.int fl]/\h' R=some (rows.map zo)/\h' S=some (row.map D.int)/\But p h h') (λC hC=>⟨_,rfl,_,rfl,ZT (λ_=>⟨_,rfl,_,rfl,ZT (λ_=>⟨_,rfl,_,rfl,hC _ _ ⟨_,l6,rfl,l60,kD,kE,kF,bD⟩⟩) λ_=>hC _ _ ⟨_,l6,rfl,l60,kD,kE,kF,bD⟩⟩) λ_=>hC _ _ ⟨_,l6,rfl,l60,kD,kE,kF,bD⟩⟩) ?_;clear kD kE kF bD;rintro _ _ ⟨g,l6,rfl,l60,kD,kE,kF,bD⟩;have gi: ∀x r:Int,0<=r->r<m->x=0\/x=1->CMul x (1+r)/\0<=x*(1+r)/\x*(1+r)<=1000000:=λx r r0 r1 hx=>by
  rcases hx with e|e<;>subst e
  ·exact⟨.inl ⟨by decide,by decide⟩,by omega,by omega⟩
  ·exact⟨.inl ⟨by decide,by decide⟩,by omega,by omega⟩
 refine⟨_,rfl,S,rfl,_,rfl,_,rfl,_,rfl,p,l6,fl,m,rfl,kD,l60,m1,by omega,λr l7 r0 r1 l70=> ?_⟩;have gg:=gi (if g=true then 1 else 0) r r0 r1 (by cases g<;>decide);refine⟨gg.1,_,ji nS kF,?_,_,Sub.refl _,by omega,_,_,l7,row++ [(if g=true then 1 else 0)*(1+r)],rfl,l70,ji (Ne.symm nS) ja,ji (Ne.symm nSR) (ji nR kE),?_,(bD.put).putNew fS,by rw [P8,g1'];rfl,?_⟩
 ·rw [G0];exact C9 (show row.length<=1000 by omega) (by decide)
 ·rw [ja,M0];rfl
 ·intro x hx;rcases P9.mp hx with z|z
  ·exact g2' x z
  ·rw [G5.mp z];exact gg.2
def yD:RDn:=λds h Q=> ∃p l fl,∃k:Nat,ds= [.lst p,.int (k:Int)]/\h p=some [.int l,.int fl]/\0<=l/\k<=6/\ ∀o l',Ordr k o->0<=l'->Q (Qa o) (zm h p [.int l',.int fl])
theorem Zn (Z:Zs mg)(F:Fun K "_law_order" "_law_order" wr f fd)(jz:jB P w K mg base n "_law_draw" ["_law_pen_here","_law_many"] jK):FnOk P w K mg base CX0 (n+1) f fd ["_law_pen_here","_law_many"] (LSp K yD):=by
 obtain⟨jQ,jP,jh,jd,je,jf⟩:=jz;refine F.okJ zZ (λds h Q q=>by obtain⟨p,l,fl,k,e,hp,h0,hk,q⟩:=q;subst e;rfl) _ (λcdv A outer s H E hr=>(jg (wO (i:=2) zZ.nd rfl (Or.inl rfl) (vt jb)) (by exact(jg (Vl R5 rfl (Ys rfl Z.range (jac (jv 1) jb)) (zT (i:=3) zZ.nd rfl (Or.inl rfl)) (jn (QM (CU (jv 2) (jC jh hr rfl jf je jd (jac (jv 0) (by exact(jac (jop jR (jv 3) jw) jb)))) (jv 3))))) (by exact(jn (we (zi cq_tuple rfl Z.tuple (by decide +kernel) (jac (jv 2) jb))))))))) ?_;intro ds h Q q;obtain⟨p,l,fl,k,e,hp,h0,hk,q⟩:=q;subst e;refine jp (λσ' h'=> ∃R,σ'= [some (.lst p),some (.int (k:Int)),some (.lst R),none]/\R≠p/\h R=none/\h' R=some []/\h' p=some [.int l,.int fl]/\But p h h') (λC hC=> ?_) ?_
 ·exact⟨(by show 0<=sizeLine;decide),λR eR=>hC _ _ ⟨R,rfl,jr hp eR,eR,ja,jc hp eR,(But.refl p h).new eR⟩⟩
 rintro σ' h1 ⟨R,rfl,nR,fR,kR,kp,bt⟩;refine jp (λσ' h'=> ∃a l2 o,σ'= [some (.lst p),some (.int (k:Int)),some (.lst R),a]/\0<=l2/\Ordr k o/\h' R=some (o.map λ(i:Nat)=>D.int (i:Int))/\h' p=some [.int l2,.int fl]/\But p h h') (λC hC=> ?_) ?_
 ·refine vX k (λi σ' h'=> ∃a l2 o,σ'= [some (.lst p),some (.int (k:Int)),some (.lst R),a]/\0<=l2/\Ordr i o/\h' R=some (o.map λ(i:Nat)=>D.int (i:Int))/\h' p=some [.int l2,.int fl]/\But p h h') (by omega) (λR' r=>⟨_,rfl,r⟩) ⟨none,l,[],rfl,h0,List.Perm.nil,kR,kp,bt⟩ (λσ' h' z=>hC _ _ z) ?_;rintro i _ h2 hi ⟨a,l2,o,rfl,l20,ho,kR2,kp2,bt2⟩;refine⟨_,rfl,R,rfl,_,rfl,_,rfl,p,l2,fl,(i:Int)+1,rfl,kp2,l20,by omega,by omega,λr l3 r0 r1 l30=> ?_⟩;have lo:o.length=i:=ho.ord.len;refine⟨_,rfl,r.toNat,_,by rw [Int.toNat_of_nonneg r0],by omega,ji nR kR2,?_,_,Sub.refl _,by omega,_,l3,o.take r.toNat++i::o.drop r.toNat,rfl,l30,ho.insert r.toNat,?_,ji (Ne.symm nR) ja,(bt2.put).putNew fR⟩
  ·rw [G0];exact C9 (show o.length<=1000 by omega) (by decide)
  ·rw [ja,M0,D1,List.map_take,List.map_drop]
 rintro _ h3 ⟨a,l2,o,rfl,l20,ho,kR3,kp3,bt3⟩;exact⟨_,rfl,_,kR3,_,bt3.sub kp3,q o l2 ho l20⟩
theorem Vy {a b:Int}(k0:0<k)(b0:0<=b)(b1:b<=k-1):((b-a-1)%k=0)↔b=(a+1)%k:=by
 have eb:b%k=b:=Int.emod_eq_of_lt b0 (by omega);rw [show b-a-1=b-(a+1) by omega,<-Int.emod_eq_emod_iff_emod_sub_eq_zero,eb]
theorem hds_in {p j:Nat}:j∈Um T n p↔j<n/\ent T p j>0:=by unfold Um;rw [List.mem_filter,List.mem_range,decide_eq_true_iff]
theorem DA {x:D}{p j:Nat}(hp:p<n)(hj:j<n)(ha:ent T p j>0)(h: ¬jV x j=(jV x p+1)%k):Ga T n x k=false:=by
 cases c:Ga T n x k with
 |false=>rfl
 |true=>exact absurd (B5 (R1.mp (R1.mp c p (S3.mpr hp)) j (hds_in.mpr ⟨hj,ha⟩))) h
theorem Gb {x:D}(h: ∀p j,p<n->j<n->ent T p j>0->jV x j=(jV x p+1)%k):Ga T n x k=true:=
 R1.mpr λp hp=>R1.mpr λj hj=>P7 (h p j (S3.mp hp) (hds_in.mp hj).1 (hds_in.mp hj).2)
def yE:RDn:=λds h Q=> ∃T d,∃n e:Nat,ds= [zH T,d]/\Sq n e T/\1<=n/\n<=6/\okD d=true/\Q (.bl (wH T n d)) h
theorem Zo (Z:Zs mg)(F:Fun K "_law_turns" "_law_turns" wt f fd)(Wx:jB P w K mg base n "_law_whole" ["_law_thing"] zv):FnOk P w K mg base CX0 (n+1) f fd ["_law_table_here","_law_thing"] (LSp K yE):=by
 obtain⟨Qg,XT,vn,yG,yH,yI⟩:=Wx;refine F.okJ zc (λds h Q q=>by obtain⟨T,d,n,b,e,hT,h1,h6,ok,q⟩:=q;subst e;rfl) _ (λcdv A outer s H E hr=>(jg (Js (jpt (Uk (wk (wU (Ja (T:= "tuple") (by decide) rfl Z.isinstance rfl Z.tuple (by decide +kernel) (jv 1)))) (Uk (zG oq_ne (jM zA rfl Z.len R8 (jac (jv 1) jb)) jw (jE _)) (Uk (wk (wU (jC vn hr rfl yI yH yG (jac (jix (jv 1) jw (λ_ _=>rfl)) jb)))) (XY (wk (Xq Yn Yn jw (jix (jv 1) jw (λ_ _=>rfl)) jw))))))) (jn (we jbl)) jS) (by exact(jg (Dm (jv 1) (vd (i:=2) (j:=3) rfl zc.nd rfl rfl (by first|exact Or.inr rfl|exact Or.inl rfl) (Or.inl rfl))) (by exact(jg (Js (jpt (Uk (wk (wU (Ja (T:= "tuple") (by decide) rfl Z.isinstance rfl Z.tuple (by decide +kernel) (jv 3)))) (XY (zG oq_ne (jM zA rfl Z.len R8 (jac (jv 3) jb)) (jM zA rfl Z.len R8 (jac (jv 0) jb)) (jE _))))) (jn (we jbl)) jS) (by exact(jg (Js (wk (wU (jM (JM rfl) rfl Z.all T5 (jac (jlc (i:=8) (js:= [8]) rfl (jA (by rfl)) (wc (jv 3)) (by decide) zc.nd rfl (by first|exact Or.inl rfl|exact Or.inr rfl) (λX' hX=>zd) (λX' hX=>by obtain⟨C,s₀,H₀,ex,rfl⟩:=hX;exact(GE (jC vn hr rfl yI yH yG (jac (jv 8) jb)) (XZ (GD Yn PX jw (jv 8) (jv 2)))))) jb)))) (jn (we jbl)) jS) (by exact(jg (Vl R5 rfl (yP rfl Z.enumerate (jac (jv 0) jb)) (vd (i:=4) (j:=5) rfl zc.nd rfl rfl (Or.inl rfl) (Or.inl rfl)) (jn (Vl R5 rfl (yP rfl Z.enumerate (jac (jv 5) jb)) (vd (i:=6) (j:=7) rfl zc.nd rfl rfl (Or.inl rfl) (Or.inl rfl)) (jn (Js (jpt (QL (zG PY (jv 7) jw (jE _)) (Dl (zG oq_ne (jop zy (jop vU (jop vU (jix (jv 3) (jv 6) (λ_ _=>rfl)) (jix (jv 3) (jv 4) (λ_ _=>rfl))) jw) (jv 2)) jw (jE _))))) (jn (we jbl)) jS))))) (by exact(jn (we jbl))))))))))))) ?_;intro ds h Q q;obtain⟨T,d,n,b,e,hT,h1,h6,ok,q⟩:=q;subst e;have hlen:(((T.map zo).length:Nat):Int)=(n:Int):=by rw [G0,hT.len]
 obtain⟨nm,hn⟩:=zf ok;cases d with
 |tup es=>
  cases hn;obtain⟨hl,ht⟩:=yV ok;refine jp (λσ' h'=>(∃k x,es= [.int k,x]/\1<=k/\k<=6)/\σ'= [some (zH T),some (.tup es),none,none,none,none,none,none,none]/\h=h') (λC hC=>⟨_,rfl,"tuple",rfl,_,rfl,wN ⟨_,rfl,_,rfl,?_⟩⟩) ?_
  ·show if (!decide (((es.length:Nat):Int)=2))=true then _ else _
   by_cases z:((es.length:Nat):Int)=2
   ·rw [P7 z];obtain⟨a,x,rfl⟩:=GJ z;obtain⟨na,hna⟩:=zf (ht a (by simp));refine wN ⟨_,rfl,_,rfl,a,na,rfl,hna,_,rfl,?_⟩;cases a with
    |int k=>
     refine wN ⟨_,rfl,_,rfl,_,rfl,?_⟩;show if decide ((1:Int)<=k)=true then _ else _
     by_cases c1:(1:Int)<=k
     ·rw [P7 c1];refine yN ⟨_,rfl,?_⟩;show if (!decide (k<=6))=true then _ else _
      by_cases c2:k<=6
      ·rw [P7 c2];exact wN (hC _ _ ⟨⟨k,x,rfl,c1,c2⟩,rfl,rfl⟩)
      ·rw [P2 c2];have e:wH T n (.tup [.int k,x])=false:=by
        show ((decide ((1:Int)<=k)&&decide (k<=6))&&_)=false;rw [P2 c2,Bool.and_false,N9]
       rw [e] at q;exact yN ⟨h,Sub.refl h,q⟩
     ·rw [P2 c1];have e:wH T n (.tup [.int k,x])=false:=by
       show ((decide ((1:Int)<=k)&&decide (k<=6))&&_)=false;rw [P2 c1,N9,N9]
      rw [e] at q;exact wN ⟨_,rfl,yN ⟨h,Sub.refl h,q⟩⟩
    |_=>exact yN ⟨h,Sub.refl h,q⟩
   ·rw [P2 z];rw [Vx z] at q;exact yN ⟨h,Sub.refl h,q⟩
  rintro _ _ ⟨⟨k,x,rfl,k1,k6⟩,rfl,rfl⟩;have w6:jJ (.int k) 1 6=true:=by show (decide ((1:Int)<=k)&&decide (k<=6))=true;rw [P7 k1,P7 k6];rfl
  have e0:wH T n (.tup [.int k,x])=(wd x n k&&Ga T n x k):=by show (jJ (.int k) 1 6&&_)=_;rw [w6];rfl
  rw [e0] at q;refine jp (λσ' h'=>σ'= [some (zH T),some (.tup [.int k,x]),some (.int k),some x,none,none,none,none,none]/\h=h') (λC hC=>⟨_,rfl,_,_,rfl,hC _ _ ⟨rfl,rfl⟩⟩) ?_;rintro _ _ ⟨rfl,rfl⟩;have okx:=ht x (by simp);obtain⟨nx,hnx⟩:=zf okx;cases x with
  |tup rs=>
   cases hnx;obtain⟨hrl,hrt⟩:=yV okx;refine jp (λσ' h'=>((rs.length:Nat):Int)=n/\σ'= [some (zH T),some (.tup [.int k,.tup rs]),some (.int k),some (.tup rs),none,none,none,none,none]/\h=h') (λC hC=>⟨_,rfl,"tuple",rfl,_,rfl,wN ⟨_,rfl,_,rfl,_,rfl,?_⟩⟩) ?_
   ·show if (!decide (((rs.length:Nat):Int)=(((T.map zo).length:Nat):Int)))=true then _ else _
    rw [hlen]
    by_cases z:((rs.length:Nat):Int)=n
    ·rw [P7 z];exact wN (hC _ _ ⟨z,rfl,rfl⟩)
    ·rw [P2 z];have e:wd (.tup rs) n k=false:=by show (decide _&&_)=false;rw [P2 z];rfl
     rw [e] at q;exact yN ⟨h,Sub.refl h,q⟩
   rintro _ _ ⟨z,rfl,rfl⟩;have e1:wd (.tup rs) n k=rs.all λx=>jJ x 0 (k-1):=by show (decide _&&_)=_;rw [P7 z];rfl
   refine jp (λσ' h'=>(rs.all λx=>jJ x 0 (k-1))=true/\σ'= [some (zH T),some (.tup [.int k,.tup rs]),some (.int k),some (.tup rs),none,none,none,none,none]/\h=h') (λC hC=> ?_) ?_
   ·refine Bt rs (λx=>x) (λx=>jJ x 0 (k-1)) hrl (by rw [J8]) (λR r=>⟨_,rfl,r⟩) (λx hx Q' q'=> ?_) ⟨_,rfl,?_⟩
    ·obtain⟨ny,hny⟩:=zf (hrt x hx);refine⟨_,rfl,x,ny,rfl,hny,Vs x,rfl,?_⟩;cases x with
     |int y=>
      refine yN ⟨_,rfl,_,rfl,?_⟩;show if decide (0<=y)=true then _ else _
      by_cases y0:0<=y
      ·rw [P7 y0];simp only [jJ,P7 y0,A8] at q';rw [<-MP] at q';exact yN ⟨_,rfl,q'⟩
      ·rw [P2 y0];simp only [jJ,P2 y0,N9] at q';exact wN q'
     |_=>exact wN q'
    ·show if (!(rs.all λx=>jJ x 0 (k-1)))=true then _ else _
     cases hp:rs.all λx=>jJ x 0 (k-1) with
     |false=>
      rw [e1,hp] at q;exact yN ⟨h,Sub.refl h,q⟩
     |true=>exact wN (hC _ _ ⟨hp,rfl,rfl⟩)
   rintro _ _ ⟨hall,rfl,rfl⟩;rw [hall] at e1;rw [e1] at q;have q:Q (.bl (Ga T n (.tup rs) k)) h:=q;obtain⟨el,at_⟩:=Vw e1;refine jp (λσ' h'=>(∀p j,p<n->j<n->ent T p j>0->jV (.tup rs) j=(jV (.tup rs) p+1)%k)/\h=h') (λC hC=> ?_) (λ_ _ ⟨g,e⟩=>by subst e;rw [Gb g] at q;exact⟨h,Sub.refl h,q⟩);refine yx (h1:=h) (j:=λ_=>some (Jp (T.map zo))) (Jp (T.map zo)) (λi σ' h'=> ∃a b c d e,σ'= [some (zH T),some (.tup [.int k,.tup rs]),some (.int k),some (.tup rs),a,b,c,d,e]/\(∀p j,p<i->j<n->ent T p j>0->jV (.tup rs) j=(jV (.tup rs) p+1)%k)/\h=h') (λR r=>⟨_,rfl,_,rfl,r⟩) (λ_ _ _ _=>rfl) ⟨_,_,_,_,_,rfl,λp j z=>by omega,rfl⟩ (λσ' h' ⟨_,_,_,_,_,_,g,e⟩=>hC _ _ ⟨by rw [jH,G0,hT.len] at g;exact g,e⟩) ?_;rintro i dd _ _ hdd ⟨a,b',c,d,e,rfl,g,rfl⟩;obtain⟨rw_,hrw,rfl⟩:=wE hdd;rw [P1] at hrw;obtain⟨r,hr,rfl⟩:=S0.mp hrw;have hi:i<n:=by rw [<-hT.len];exact(G9.mp hr).1
   have er:T.getD i []=r:=by rw [R0,hr];rfl
   have gr:=hT.row r (D7 hr);refine⟨_,_,rfl,?_⟩;refine yx (h1:=h) (j:=λ_=>some (Jp (r.map D.int))) (Jp (r.map D.int)) (λi2 σ' h'=> ∃c d,σ'= [some (zH T),some (.tup [.int k,.tup rs]),some (.int k),some (.tup rs),some (.int (i:Int)),some (zo r),c,d,e]/\(∀j,j<i2->ent T i j>0->jV (.tup rs) j=(jV (.tup rs) i+1)%k)/\h=h') (λR r=>⟨_,rfl,_,rfl,r⟩) (λ_ _ _ _=>rfl) ⟨_,_,rfl,λj z=>by omega,rfl⟩ ?_ ?_
   ·rintro _ _ ⟨c,d,rfl,g2,rfl⟩;refine⟨_,Sub.refl _,by rw [jH,G0,hT.len];omega,_,_,_,_,_,rfl,λp j hp hj ha=> ?_,rfl⟩;rcases J9 p i with zz|zz
    ·exact g p j zz hj ha
    ·have:p=i:=by omega
     subst this;exact g2 j (by rw [jH,G0,gr];exact hj) ha
   rintro i2 dd _ _ hdd ⟨c,d,rfl,g2,rfl⟩;obtain⟨x,hx,rfl⟩:=wE hdd;rw [P1] at hx;obtain⟨y,hy,rfl⟩:=S0.mp hx;have hi2:i2<n:=by rw [<-gr];exact(G9.mp hy).1
   have ey:ent T i i2=y:=by unfold ent;rw [er,List.getD_eq_getElem?_getD,hy];rfl
   refine⟨_,_,rfl,⟨_,rfl,_,rfl,?_⟩⟩;obtain⟨ra,a1,a2,a3,a4⟩:=at_ i2 (by omega);obtain⟨rb,b1,b2,b3,b4⟩:=at_ i (by omega);show if decide (y>0)=true then _ else _
   by_cases yp:y>0
   ·rw [P7 yp];refine yN ⟨_,rfl,_,rfl,_,a1,_,rfl,_,rfl,_,b1,_,rfl,by omega,_,rfl,?_⟩;show if (!decide ((ra-rb-1)%k=0))=true then _ else _
    by_cases yz:(ra-rb-1)%k=0
    ·rw [P7 yz];refine wN ⟨_,Sub.refl _,by rw [jH,G0,gr];omega,_,_,rfl,λj hj ha=> ?_,rfl⟩;rcases J9 j i2 with zz|zz
     ·exact g2 j zz ha
     ·have:j=i2:=by omega
      subst this;rw [a2,b2];exact(Vy (by omega) a3 a4).mp yz
    ·rw [P2 yz];have e5:Ga T n (.tup rs) k=false:=DA hi hi2 (by omega) (by rw [a2,b2];exact λw=>yz ((Vy (by omega) a3 a4).mpr w));rw [e5] at q;exact yN ⟨h,Sub.refl h,q⟩
   ·rw [P2 yp];refine wN (wN ⟨_,Sub.refl _,by rw [jH,G0,gr];omega,_,_,rfl,λj hj ha=> ?_,rfl⟩);rcases J9 j i2 with zz|zz
    ·exact g2 j zz ha
    ·have:j=i2:=by omega
     subst this;omega
  |_=>cases hnx<;>exact jp (λ_ _=>False) (λC hC=>⟨_,rfl,_,rfl,_,rfl,yN ⟨h,Sub.refl h,q⟩⟩) (λ_ _ z=>z.elim)
 |_=>cases hn<;>exact jp (λ_ _=>False) (λC hC=>⟨_,rfl,_,rfl,_,rfl,yN ⟨h,Sub.refl h,q⟩⟩) (λ_ _ z=>z.elim)
theorem wI (Z:Zs mg)(F:Fun K "_law_joined_table" "_law_joined_table" jT f fd)(Wt:jB P w K mg base n "_law_order" ["_law_pen_here","_law_many"] yD)(jz:jB P w K mg base n "_law_draw" ["_law_pen_here","_law_many"] jK):FnOk P w K mg base CX0 (n+1) f fd ["_law_pen_here","_law_size_here"] (LSp K zp):=by
 obtain⟨Qb,XO,WA,Zq,Zy,ZD⟩:=Wt;obtain⟨jQ,jP,jh,jd,je,jf⟩:=jz;refine F.okJ jk (λds h Q q=>by obtain⟨p,l,fl,k,e,hp,h0,hk1,hk6,q⟩:=q;subst e;rfl) _ (λcdv A outer s H E hr=>(jg (wO (i:=2) jk.nd rfl (by first|exact Or.inr rfl|exact Or.inl rfl) (jC WA hr rfl ZD Zy Zq (jac (jv 0) (by exact(jac (jv 1) jb))))) (by exact(jg (wO (i:=3) jk.nd rfl (Or.inl rfl) (jix (vt (jac jw (by exact(jac jw (by exact(jac jw (by exact(jac (jv 1) (by exact(jac jw jb)))))))))) (jC jh hr rfl jf je jd (jac (jv 0) (by exact(jac jw jb)))) (λ_ _=>rfl))) (by exact(jg (wO (i:=4) jk.nd rfl (Or.inl rfl) (jix (vt (jac jw (by exact(jac jw (by exact(jac jw jb)))))) (jC jh hr rfl jf je jd (jac (jv 0) (by exact(jac jw jb)))) (λ_ _=>rfl))) (by exact(jg (wO (i:=5) jk.nd rfl (Or.inl rfl) (jix (vt (jac jw (by exact(jac jw (by exact(jac jw jb)))))) (jC jh hr rfl jf je jd (jac (jv 0) (by exact(jac jw jb)))) (λ_ _=>rfl))) (by exact(jg (ML (i:=11) (k:=6) (js:= [11]) rfl jk.nd rfl (Or.inl rfl) (jA (by rfl)) (wc (jv 2)) (by decide) rfl (by first|exact Or.inl rfl|exact Or.inr rfl) (λX' hX=>zd) (λX' hX=>by obtain⟨C,s₀,H₀,ex,rfl⟩:=hX;exact(jlc (i:=12) (js:= [12]) rfl (jA (by rfl)) (wc (jv 2)) (by decide) jk.nd rfl (by first|exact Or.inl rfl|exact Or.inr rfl) (λX' hX=>zd) (λX' hX=>by obtain⟨C,s₀,H₀,ex,rfl⟩:=hX;exact jw)))) (by exact(jg (Vl R5 rfl (yP rfl Z.enumerate (jac (jv 2) jb)) (vd (i:=7) (j:=8) rfl jk.nd rfl rfl (Or.inl rfl) (Or.inl rfl)) (jg (Dm (jop jR jw (jC jh hr rfl jf je jd (jac (jv 0) (by exact(jac (jv 5) jb))))) (Vm (jix (jv 6) (jv 8) (λ_ _=>rfl)) (jix (jv 2) (jop zy (jop jR (jv 7) jw) (jv 1)) (λ_ _=>rfl)))) (by exact(jn (Vl R5 rfl (yP rfl Z.enumerate (jac (jv 2) jb)) (vd (i:=9) (j:=10) rfl jk.nd rfl rfl (Or.inl rfl) (Or.inl rfl)) (jn (Js (jpt (QL (zG oq_eq (jC jh hr rfl jf je jd (jac (jv 0) (by exact(jac (jv 4) jb)))) jw (jE _)) (QL (zG oq_eq (jop zy (jop vU (jop vU (jv 9) (jv 7)) jw) (jv 3)) jw (jE _)) (Dl (jpt (Uk (zG oq_eq (jop zy (jv 1) (jv 3)) jw (jE _)) (XY (zG PY (jv 9) (jv 7) (jE _))))))))) (jn (Dm (jop jR jw (jC jh hr rfl jf je jd (jac (jv 0) (by exact(jac (jv 5) jb))))) (Vm (jix (jv 6) (jv 8) (λ_ _=>rfl)) (jv 10)))) jS))))))) (by exact(jn (we (zi yw rfl Z.tuple (by decide +kernel) (jac (jlc (i:=11) (js:= [11]) rfl (jA (by rfl)) (wc (jv 6)) (by decide) jk.nd rfl (by first|exact Or.inl rfl|exact Or.inr rfl) (λX' hX=>zd) (λX' hX=>by obtain⟨C,s₀,H₀,ex,rfl⟩:=hX;exact(zi cq_tuple rfl Z.tuple (by decide +kernel) (jac (jv 11) jb)))) jb))))))))))))))))) ?_;intro ds h Q q;obtain⟨p,l,fl,k,e,hp,h0,hk1,hk6,q⟩:=q;subst e;refine jp (λσ' h'=> ∃o l2,σ'= [some (.lst p),some (.int (k:Int)),some (Qa o),none,none,none,none,none,none,none,none,none,none]/\Ordr k o/\0<=l2/\h' p=some [.int l2,.int fl]/\But p h h') (λC hC=>⟨_,rfl,_,rfl,p,l,fl,k,rfl,hp,h0,hk6,λo l2 ho l20=>hC _ _ ⟨o,l2,rfl,ho,l20,ja,But.upd⟩⟩) ?_;rintro _ h1 ⟨o,l2,rfl,ho,l20,kp,bt⟩;have hlo:o.length=k:=ho.ord.len;refine jp (λσ' h'=> ∃dv l3,σ'= [some (.lst p),some (.int (k:Int)),some (Qa o),some (.int dv),none,none,none,none,none,none,none,none,none]/\0<dv/\dv<1000/\0<=l3/\h' p=some [.int l3,.int fl]/\But p h h') (λC hC=> ?_) ?_
 ·refine⟨_,rfl,(by show 5<=sizeLine;decide),λp1 e1=>⟨_,rfl,p,l2,fl,5,rfl,jc kp e1,l20,by decide,by decide,λr l3 r0 r1 l30=> ?_⟩⟩;obtain⟨oft',ho',eo⟩:=zR (xs:= [D.int 1,D.int 2,D.int 3,D.int (k:Int),D.int 1]) r0 r1;refine⟨_,oft',ji (jr kp e1) ja,eo,?_⟩;obtain⟨x,rfl,x1,x2⟩: ∃x:Int,oft'= .int x/\0<x/\x<1000:=by
   simp only [P0,D2,M3] at ho';rcases ho' with e|e|e|e|e<;>exact⟨_,e,by omega,by omega⟩
  exact hC _ _ ⟨x,l3,rfl,x1,x2,l30,ja,(bt.new e1).put⟩
 rintro _ h2 ⟨dv,l3,rfl,dv1,dv2,l30,kp,bt⟩;refine jp (λσ' h'=> ∃oft l4,σ'= [some (.lst p),some (.int (k:Int)),some (Qa o),some (.int dv),some (.int oft),none,none,none,none,none,none,none,none]/\0<oft/\oft<1000/\0<=l4/\h' p=some [.int l4,.int fl]/\But p h h') (λC hC=> ?_) ?_
 ·refine⟨(by show 3<=sizeLine;decide),λp1 e1=>⟨_,rfl,p,l3,fl,3,rfl,jc kp e1,l30,by decide,by decide,λr l4 r0 r1 l40=> ?_⟩⟩;obtain⟨oft',ho',eo⟩:=zR (xs:= [D.int 2,D.int 3,D.int 6]) r0 r1;refine⟨_,oft',ji (jr kp e1) ja,eo,?_⟩;obtain⟨x,rfl,x1,x2⟩: ∃x:Int,oft'= .int x/\0<x/\x<1000:=by
   simp only [P0,D2,M3] at ho';rcases ho' with e|e|e<;>exact⟨_,e,by omega,by omega⟩
  exact hC _ _ ⟨x,l4,rfl,x1,x2,l40,ja,(bt.new e1).put⟩
 rintro _ h2 ⟨oft,l4,rfl,of1,of2,l40,kp,bt⟩;refine jp (λσ' h'=> ∃mo l5,σ'= [some (.lst p),some (.int (k:Int)),some (Qa o),some (.int dv),some (.int oft),some (.int mo),none,none,none,none,none,none,none]/\0<mo/\mo<1000/\0<=l5/\h' p=some [.int l5,.int fl]/\But p h h') (λC hC=> ?_) ?_
 ·refine⟨(by show 3<=sizeLine;decide),λp1 e1=>⟨_,rfl,p,l4,fl,3,rfl,jc kp e1,l40,by decide,by decide,λr l5 r0 r1 l50=> ?_⟩⟩;obtain⟨oft',ho',eo⟩:=zR (xs:= [D.int 1,D.int 1,D.int 5]) r0 r1;refine⟨_,oft',ji (jr kp e1) ja,eo,?_⟩;obtain⟨x,rfl,x1,x2⟩: ∃x:Int,oft'= .int x/\0<x/\x<1000:=by
   simp only [P0,D2,M3] at ho';rcases ho' with e|e|e<;>exact⟨_,e,by omega,by omega⟩
  exact hC _ _ ⟨x,l5,rfl,x1,x2,l50,ja,(bt.new e1).put⟩
 rintro _ h2 ⟨mo,l5,rfl,mo1,mo2,l50,kp,bt⟩;refine jp (λσ' h'=> ∃R rs,σ'= [some (.lst p),some (.int (k:Int)),some (Qa o),some (.int dv),some (.int oft),some (.int mo),some (.lst R),none,none,none,none,none,none]/\h' p=some [.int l5,.int fl]/\But p h h'/\Grid k h h' p R rs) (λC hC=> ?_) ?_
 ·refine XD (h1:=h2) (o.map λ(k:Nat)=>D.int (k:Int)) (λi ys h'=> ∃rs,ys=rs.map D.lst/\rs.length=i/\h' p=some [.int l5,.int fl]/\But p h h'/\p ∉ rs/\ ∀a∈rs,h a=none/\ ∃r,h' a=some (r.map D.int)/\zU k r) (by rw [G0];omega) (λR r=>⟨_,rfl,r⟩) ⟨[],rfl,rfl,kp,bt,by simp,by simp⟩ (λi ys h' ⟨rs,e,el,_⟩=>by rw [e,G0];omega) ?_ ?_
  ·rintro i ys h3 d hd ⟨rs,rfl,lrs,kp3,bt3,nprs,rows3⟩;have hi:i<k:=by have:=(G9.mp hd).1;rw [G0] at this;omega
   refine lcA o (λ(k:Nat)=>D.int (k:Int)) (λ_=>D.int 0) (by omega) rfl (λR r=>⟨_,rfl,r⟩) (λx hx Q' q'=>q') (λq4 e4=> ?_);refine⟨_,Sub.refl _,by rw [G0];omega,rs++ [q4],by rw [M0];rfl,by simp [lrs],jc kp3 e4,bt3.new e4,?_,λa ha=> ?_⟩
   ·intro z;rcases P9.mp z with y|y
    ·exact nprs y
    ·exact jr kp3 e4 (G5.mp y).symm
   ·rcases P9.mp ha with z|z
    ·obtain⟨f',r',e',g'⟩:=rows3 a z;exact⟨f',r',jc e' e4,g'⟩
    ·have:=G5.mp z;subst this;refine⟨Ze bt3 e4 (jr kp3 e4),o.map λ_=>(0:Int),by rw [ja,S6];rfl,by rw [G0];exact hlo,λx hx=> ?_⟩;obtain⟨_,_,rfl⟩:=R3.mp hx;exact⟨by decide,by decide⟩
  ·rintro ys h3 ⟨rs,rfl,lrs,kp3,bt3,nprs,rows3⟩ R eR;rw [G0] at lrs;refine hC _ _ ⟨R,rs,rfl,jc kp3 eR,bt3.new eR,⟨ja,by rw [lrs];exact hlo,?_,Ze bt3 eR (jr kp3 eR),nprs,jr kp3 eR,λa ha=>⟨(rows3 a ha).1,?_⟩⟩⟩
   ·intro hR;obtain⟨_,r,e',_⟩:=rows3 R hR;rw [e'] at eR;cases eR
   ·obtain⟨r,e',g'⟩:=(rows3 a ha).2;exact⟨r,jc e' eR,g'⟩
 rintro _ h3 ⟨R,rs,rfl,kp,bt,g⟩;have hen:(Jp (o.map λ(k:Nat)=>D.int (k:Int))).length=k:=by rw [jH,G0];exact hlo
 have hel: ∀i d,(Jp (o.map λ(k:Nat)=>D.int (k:Int)))[i]? =some d->i<k/\ ∃y,y<k/\d= .tup [.int (i:Int),.int (y:Int)]:=λi d hd=>by
  have hi:i<k:=by have:=(G9.mp hd).1;omega
  obtain⟨x,hx,ed⟩:=wE hd;have hi':i<o.length:=by omega
  rw [P1,G2 hi'] at hx;injection hx with hx
  exact⟨hi,o[i],S3.mp (ho.mem_iff.mp (T0 hi')),by rw [ed,<-hx]⟩
 refine jp (λσ' h'=> ∃a b c d l6,σ'= [some (.lst p),some (.int (k:Int)),some (Qa o),some (.int dv),some (.int oft),some (.int mo),some (.lst R),a,b,c,d,none,none]/\0<=l6/\h' p=some [.int l6,.int fl]/\But p h h'/\Grid k h h' p R rs) (λC hC=> ?_) ?_
 ·refine yx (h1:=h3) (j:=λ_=>some (Jp (o.map λ(k:Nat)=>D.int (k:Int)))) (Jp (o.map λ(k:Nat)=>D.int (k:Int))) (λi σ' h'=> ∃a b c d l6,σ'= [some (.lst p),some (.int (k:Int)),some (Qa o),some (.int dv),some (.int oft),some (.int mo),some (.lst R),a,b,c,d,none,none]/\0<=l6/\h' p=some [.int l6,.int fl]/\But p h h'/\Grid k h h' p R rs) (λR r=>⟨_,rfl,_,rfl,r⟩) (λ_ _ _ _=>rfl) ⟨none,none,none,none,l5,rfl,l50,kp,bt,g⟩ (λσ' h' z=>hC _ _ z) ?_;rintro i dd _ h4 hdd ⟨a,b,c,d,l6,rfl,l60,kp4,bt4,g4⟩;obtain⟨hi,y1,hy1,rfl⟩:=hel i dd hdd;refine⟨_,_,rfl,?_⟩;obtain⟨y3,hy3,ey3⟩:=Dr ho (Nat.mod_lt (i+1) (by omega:0<k));have em:((i:Int)+1)%(k:Int)=(((i+1)%k:Nat):Int):=by rw [Int.natCast_emod,Int.natCast_add];rfl
  rw [<-em] at ey3;refine jp (λσ' h'=> ∃l6,σ'= [some (.lst p),some (.int (k:Int)),some (Qa o),some (.int dv),some (.int oft),some (.int mo),some (.lst R),some (.int (i:Int)),some (.int (y1:Int)),c,d,none,none]/\0<=l6/\h' p=some [.int l6,.int fl]/\But p h h'/\Grid k h h' p R rs) (λC2 hC2=> ?_) ?_
  ·refine⟨_,rfl,_,rfl,p,l6,fl,mo,rfl,kp4,l60,mo1,by omega,λv l7 v0 v1 l70=> ?_⟩;have g5:=g4.pen [.int l7,.int fl];obtain⟨a',r',at',ha',er',gr',fa',na'⟩:=g5.pick hy1;exact⟨_,rfl,_,rfl,_,_,g5.at_,at',_,rfl,_,rfl,_,rfl,(by omega:(0:Int)<(k:Int)),_,ey3,a',(y3:Int),_,y3,rfl,rfl,er',Yv (by rw [G0,gr'.1];exact hy3),hC2 _ _ ⟨l7,rfl,l70,ji (Ne.symm na') ja,(bt4.put).putNew fa',g5.set ha' er' gr' (by omega) (by omega)⟩⟩
  rintro _ h5 ⟨l6,rfl,l60,kp5,bt5,g5⟩;refine yx (h1:=h5) (j:=λ_=>some (Jp (o.map λ(k:Nat)=>D.int (k:Int)))) (Jp (o.map λ(k:Nat)=>D.int (k:Int))) (λ_ σ' h'=> ∃c d l6,σ'= [some (.lst p),some (.int (k:Int)),some (Qa o),some (.int dv),some (.int oft),some (.int mo),some (.lst R),some (.int (i:Int)),some (.int (y1:Int)),c,d,none,none]/\0<=l6/\h' p=some [.int l6,.int fl]/\But p h h'/\Grid k h h' p R rs) (λR r=>⟨_,rfl,_,rfl,r⟩) (λ_ _ _ _=>rfl) ⟨c,d,l6,rfl,l60,kp5,bt5,g5⟩ ?_ ?_
  ·rintro _ h6 ⟨c,d,l6,rfl,l60,kp6,bt6,g6⟩;exact⟨_,Sub.refl _,by omega,_,_,_,_,l6,rfl,l60,kp6,bt6,g6⟩
  rintro i2 dd _ h6 hdd2 ⟨c,d,l6,rfl,l60,kp6,bt6,g6⟩;obtain⟨hi2,y2,hy2,rfl⟩:=hel i2 dd hdd2;refine⟨_,_,rfl,?_⟩;refine⟨_,rfl,_,rfl,p,l6,fl,oft,rfl,kp6,l60,of1,by omega,λw l7 w0 w1 l70=>⟨_,rfl,ZT (λ_=> ?_) (λ_=>wN ⟨_,Sub.refl _,by omega,_,_,l7,rfl,l70,ja,bt6.put,g6.pen _⟩)⟩⟩;refine⟨_,rfl,_,rfl,_,rfl,dv1,_,rfl,ZT (λ_=> ?_) (λ_=>wN ⟨_,Sub.refl _,by omega,_,_,l7,rfl,l70,ja,bt6.put,g6.pen _⟩)⟩;refine⟨_,rfl,_,rfl,dv1,_,rfl,ZT (λ_=>yN ?_) (λ_=> ?_)⟩
  ·refine⟨_,rfl,_,rfl,p,l7,fl,mo,rfl,ja,l70,mo1,by omega,λv l8 v0 v1 l80=> ?_⟩;have g8:=(g6.pen [.int l7,.int fl]).pen [.int l8,.int fl];obtain⟨a',r',at',ha',er',gr',fa',na'⟩:=g8.pick hy1;exact⟨_,rfl,_,rfl,_,_,g8.at_,at',_,rfl,a',(y2:Int),_,y2,rfl,rfl,er',Yv (by rw [G0,gr'.1];exact hy2),_,Sub.refl _,by omega,_,_,l8,rfl,l80,ji (Ne.symm na') ja,((bt6.put).put).putNew fa',g8.set ha' er' gr' (by omega) (by omega)⟩
  ·refine⟨_,rfl,_,rfl,_,rfl,ZT (λ_=> ?_) (λ_=>⟨_,Sub.refl _,by omega,_,_,l7,rfl,l70,ja,bt6.put,g6.pen _⟩)⟩;refine⟨_,rfl,_,rfl,p,l7,fl,mo,rfl,ja,l70,mo1,by omega,λv l8 v0 v1 l80=> ?_⟩;have g8:=(g6.pen [.int l7,.int fl]).pen [.int l8,.int fl];obtain⟨a',r',at',ha',er',gr',fa',na'⟩:=g8.pick hy1;exact⟨_,rfl,_,rfl,_,_,g8.at_,at',_,rfl,a',(y2:Int),_,y2,rfl,rfl,er',Yv (by rw [G0,gr'.1];exact hy2),_,Sub.refl _,by omega,_,_,l8,rfl,l80,ji (Ne.symm na') ja,((bt6.put).put).putNew fa',g8.set ha' er' gr' (by omega) (by omega)⟩
 rintro _ h6 ⟨a,b,c,d,l6,rfl,l60,kp,bt,g⟩;obtain⟨T,gT,eT⟩:=g.tab;refine Bs (j:=λh=>h R) rs D.lst (λa=> .tup ((h6 a).getD [])) (by rw [g.len];omega) g.at_ (λR r=>⟨_,rfl,r⟩) (λa ha Q' q'=> ?_) ⟨_,bt.sub kp,?_⟩
 ·obtain⟨_,r,er,_⟩:=g.row a ha;rw [er] at q';exact⟨_,rfl,_,er,q'⟩
 ·rw [eT];exact q T l6 gT l60
/-- numbers below k for places below n -/
structure KI (n:Nat)(k:Int)(kv:List (Int×D)):Prop where
 nd:(kv.map (·.1)).Nodup
 key: ∀p∈kv,0<=p.1/\p.1<(n:Int)
 val: ∀p∈kv,∃v:Int,p.2= .int v/\0<=v/\v<k
variable {kv:List (Int×D)}
theorem Gc (h:wW kv x=some d):(x,d)∈kv:=by
 unfold wW at h;obtain⟨p,e,rfl⟩:=S0.mp h;have:=List.find?_some e;have e1:p.1=x:=B5 this;rw [<-e1];exact List.mem_of_find?_eq_some e
theorem Vz (h:x∈kv.map (·.1)):(wW kv x).isSome=true:=by
 obtain⟨p,hp,rfl⟩:=R3.mp h;unfold wW;rw [A1,List.find?_isSome];exact⟨p,hp,P7 rfl⟩
theorem Gd (h:wW kv x=none):x ∉ kv.map (·.1):=λz=>by
 have:=Vz z;rw [h] at this;cases this
theorem KI.len (g:KI n k kv):kv.length<=n:=by
 have:=Wg (ys:=(List.range n).map λ(i:Nat)=>(i:Int)) g.nd λx hx=>by
  obtain⟨p,hp,rfl⟩:=R3.mp hx;obtain⟨a,b⟩:=g.key p hp;exact R3.mpr ⟨p.1.toNat,S3.mpr (by omega),by omega⟩
 rw [G0,G0,T7] at this;exact this
theorem KI.get (g:KI n k kv)(h:wW kv x=some d): ∃v:Int,d= .int v/\0<=v/\v<k:=g.val _ (Gc h)
theorem VA (h:wW kv x=none):VW kv x d=kv++ [(x,d)]:=by unfold VW;rw [h];rfl
theorem KI.put {v:Int}(g:KI n k kv)(h:wW kv x=none)(x0:0<=x)(x1:x<(n:Int))(v0:0<=v)(v1:v<k):KI n k (VW kv x (.int v)):=by
 rw [VA h];refine⟨?_,λp hp=> ?_,λp hp=> ?_⟩
 ·rw [M0,List.nodup_append];refine⟨g.nd,by simp,λa ha b hb e=> ?_⟩;have:b=x:=by simpa using hb
  subst this;subst e;exact Gd h ha
 ·rcases P9.mp hp with z|z
  ·exact g.key p z
  ·rw [G5.mp z];exact⟨x0,x1⟩
 ·rcases P9.mp hp with z|z
  ·exact g.val p z
  ·rw [G5.mp z];exact⟨v,rfl,v0,v1⟩
theorem Ge {y:Int}(h:wW kv x=none)(hy:y∈kv.map (·.1)):y∈(VW kv x d).map (·.1):=by
 rw [VA h,M0];exact D6 _ hy
def DL (kv:List (Int×D))(x:Int):Int:=match wW kv x with
 |some (.int v)=>v
 |_=>0
theorem KI.at (g:KI n k kv)(k0:0<k)(x:Int):(wW kv x).getD (.int 0)= .int (DL kv x)/\0<=DL kv x/\DL kv x<k:=by
 unfold DL;cases e:wW kv x with
 |none=>exact⟨rfl,by simp,by simpa using k0⟩
 |some d=>
  obtain⟨v,rfl,v0,v1⟩:=g.get e;exact⟨rfl,v0,v1⟩
def Ji:RDn:=λds h Q=> ∃T,∃n e:Nat,∃k:Int,ds= [zH T,.int k]/\Sq n e T/\1<=n/\n<=6/\1<=k/\k<=6/\ ∀rs:List Int,rs.length=n->(∀r∈rs,0<=r/\r<k)->Q (zo rs) h
theorem YB (Z:Zs mg)(F:Fun K "_law_led" "_law_led" yU f fd):FnOk P w K mg base CX0 (n+1) f fd ["_law_table_here","_law_d"] (LSp K Ji):=by
 refine F.okJ ze (λds h Q q=>by obtain⟨T,n,b,k,e,hT,n1,n6,k1,k6,q⟩:=q;subst e;rfl) _ (λcdv A outer s H E hr=>(jg (wO (i:=2) ze.nd rfl (by first|exact Or.inr rfl|exact Or.inl rfl) MV) (by exact(jg (Vl R5 rfl (Ys rfl Z.range (jac (jM zA rfl Z.len R8 (jac (jv 0) jb)) jb)) (zT (i:=3) ze.nd rfl (Or.inl rfl)) (jn (Vl R5 rfl (wc (jM Xo rfl Z.sorted (by decide +kernel) (jac (zi (QX rfl) rfl Z.list (by decide +kernel) (jac (jv 2) jb)) jb))) (zT (i:=4) ze.nd rfl (Or.inl rfl)) (jn (Vl R5 rfl (yP rfl Z.enumerate (jac (jix (jv 0) (jv 4) (λ_ _=>rfl)) jb)) (vd (i:=5) (j:=6) rfl ze.nd rfl rfl (Or.inl rfl) (Or.inl rfl)) (jn (Js (jpt (QL (zG PY (jv 6) jw (jE _)) (Dl (zG (XI hr) (jv 5) (jv 2) (by with_unfolding_all rfl))))) (jn (Bz hr (jv 2) (jv 5) (jop zy (jop jR (Fb hr (jv 2) (jv 4)) jw) (jv 1)))) jS))))))) (by exact(jn (we (zi yw rfl Z.tuple (by decide +kernel) (jac (jlc (i:=7) (js:= [7]) rfl (jA (by rfl)) (Ys rfl Z.range (jac (jM zA rfl Z.len R8 (jac (jv 0) jb)) jb)) (by decide) ze.nd rfl (by first|exact Or.inl rfl|exact Or.inr rfl) (λX' hX=>zd) (λX' hX=>by obtain⟨C,s₀,H₀,ex,rfl⟩:=hX;exact(MX hr (jv 2) (jv 7) jw))) jb))))))))) ?_;intro ds h Q q;obtain⟨T,n,b,k,e,hT,n1,n6,k1,k6,q⟩:=q;subst e;have hlen:(((T.map zo).length:Nat):Int)=(n:Int):=by rw [G0,hT.len]
 refine jp (λσ' h'=> ∃a,σ'= [some (zH T),some (.int k),some (.dct a),none,none,none,none,none]/\h.dc a=none/\h'.dc a=some (.ik [(0,.int 0)])/\Sub h h') (λC hC=>λa ea=>hC _ _ ⟨a,rfl,ea,yr,.newC ea⟩) ?_;rintro _ h1 ⟨a,rfl,fa,ka,sb⟩;have g0:KI n k [(0,.int 0)]:=⟨by simp,λp hp=>by rw [G5.mp hp];exact⟨by decide,by show (0:Int)<n;omega⟩,λp hp=>by rw [G5.mp hp];exact⟨0,rfl,by decide,by omega⟩⟩;refine jp (λσ' h'=> ∃kv x3 x4 x5 x6,σ'= [some (zH T),some (.int k),some (.dct a),x3,x4,x5,x6,none]/\h'.dc a=some (.ik kv)/\KI n k kv/\Sub h h') (λC hC=> ?_) ?_
 ·refine vX n (λi σ' h'=> ∃kv x3 x4 x5 x6,σ'= [some (zH T),some (.int k),some (.dct a),x3,x4,x5,x6,none]/\h'.dc a=some (.ik kv)/\KI n k kv/\Sub h h') (by omega) (λR r=>⟨_,rfl,by show R [.int (((T.map zo).length:Nat):Int)] h1;rw [hlen];exact r⟩) ⟨_,_,_,_,_,rfl,ka,g0,sb⟩ (λσ' h' z=>hC _ _ z) ?_;clear ka sb;rintro i _ h2 hi ⟨kv,x3,x4,x5,x6,rfl,ka,g,sb⟩;refine⟨_,rfl,a,kv,rfl,ka,λp1 e1=>⟨kv.map (·.1),.inr ⟨p1,rfl,by rw [ja,S6];rfl⟩,by rw [G0];have:=g.len;omega,λp2 ns' e2 pm _=> ?_⟩⟩;refine vY (ns'.map D.int) (λj σ' h'=> ∃kv x4 x5 x6,σ'= [some (zH T),some (.int k),some (.dct a),some (.int (i:Int)),x4,x5,x6,none]/\h'.dc a=some (.ik kv)/\KI n k kv/\(∀x∈ns',x∈kv.map (·.1))/\h' p2=some (ns'.map D.int)/\Sub h h') (λj σ' h' ⟨_,_,_,_,_,_,_,_,z,_⟩=>z) ⟨kv,_,_,_,rfl,ka,g,λx hx=>pm.mem_iff.mp hx,ja,(sb.newAt e1).newAt e2⟩ (λσ' h' ⟨kv,x4,x5,x6,e,ka,g,_,_,sb⟩=>⟨_,Sub.refl _,by omega,kv,_,x4,x5,x6,e,ka,g,sb⟩) ?_;clear ka sb g;rintro j d _ h3 hj ⟨kv,x4,x5,x6,rfl,ka,g,gm,kp,sb⟩;rw [P1] at hj;obtain⟨x,hx,rfl⟩:=S0.mp hj;have jl:j<ns'.length:=(G9.mp hx).1;have xm:=gm x (D7 hx);obtain⟨x0,x1⟩:0<=x/\x<(n:Int):=by obtain⟨pp,hp,rfl⟩:=R3.mp xm;exact g.key pp hp
  obtain⟨y,rfl⟩: ∃y:Nat,x=(y:Int):=⟨x.toNat,by omega⟩;have hy:y<n:=by omega
  have hr:=Sq.getRow hT hy;have gr:=hT.row _ hr;show PL _ _ _ _ [some (zH T),some (.int k),some (.dct a),some (.int (i:Int)),some (.int (y:Int)),x5,x6,none] h3;refine yx (h1:=h3) (j:=λ_=>some (Jp ((T.getD y []).map D.int))) (Jp ((T.getD y []).map D.int)) (λm σ' h'=> ∃kv x5 x6,σ'= [some (zH T),some (.int k),some (.dct a),some (.int (i:Int)),some (.int (y:Int)),x5,x6,none]/\h'.dc a=some (.ik kv)/\KI n k kv/\(∀x∈ns',x∈kv.map (·.1))/\h' p2=some (ns'.map D.int)/\Sub h h') (λR r=>⟨_,rfl,_,rfl,_,Xs hT hy,_,rfl,r⟩) (λ_ _ _ _=>rfl) ⟨kv,_,_,rfl,ka,g,gm,kp,sb⟩ (λσ' h' ⟨kv,x5,x6,e,ka,g,gm,kp,sb⟩=>⟨_,Sub.refl _,by rw [G0];omega,kv,_,x5,x6,e,ka,g,gm,kp,sb⟩) ?_;clear ka sb g gm kp xm;rintro m dd _ h4 hdd ⟨kv,x5,x6,rfl,ka,g,gm,kp,sb⟩;obtain⟨z,hz,rfl⟩:=wE hdd;rw [P1] at hz;obtain⟨v,hv,rfl⟩:=S0.mp hz;have hm:m<n:=by rw [<-gr];exact(G9.mp hv).1
  have ml:m+1<=(Jp ((T.getD y []).map D.int)).length:=by rw [jH,G0,gr];omega
  refine⟨_,_,rfl,⟨_,rfl,_,rfl,ZT (λ_=>⟨_,rfl,_,rfl,a,(m:Int),kv,rfl,rfl,ka,_,rfl,?_⟩) λ_=>wN ⟨_,Sub.refl _,ml,kv,_,_,rfl,ka,g,gm,kp,sb⟩⟩⟩;cases eg:wW kv (m:Int) with
  |some d0=>exact wN ⟨_,Sub.refl _,ml,kv,_,_,rfl,ka,g,gm,kp,sb⟩
  |none=>
   obtain⟨d1,hd1⟩:=M9.mp (Vz (gm _ (D7 hx)));obtain⟨v1,rfl,v10,v11⟩:=g.get hd1;have mn:=B3 (v1+1) (show k≠0 by omega);have ml2:=B0 (v1+1) (show 0<k by omega);refine yN ⟨_,rfl,_,rfl,a,(y:Int),kv,_,rfl,rfl,ka,hd1,_,rfl,by omega,_,rfl,_,rfl,a,(m:Int),kv,rfl,rfl,ka,by have:=g.len;omega,?_⟩;exact⟨_,Sub.refl _,ml,VW kv (m:Int) (.int ((v1+1)%k)),_,_,rfl,yr,g.put eg (by omega) (by omega) mn ml2,λx hx=>Ge eg (gm x hx),kp,sb.overC fa⟩
 rintro _ h2 ⟨kv,x3,x4,x5,x6,rfl,ka',g,sb⟩;refine Bs (List.range n) (λ(i:Nat)=> .int (i:Int)) (λ(i:Nat)=> .int (DL kv (i:Int))) (by rw [T7];omega) rfl (λR r=>⟨_,rfl,(n:Int),by rw [hlen],by omega,by omega,r⟩) (λi hi Q' q'=> ?_) ⟨h,sb,?_⟩
 ·have ga:=g.at (by omega) (i:Int);rw [<-ga.1] at q';exact⟨_,rfl,a,kv,rfl,ka',_,rfl,_,kv,rfl,ka',q'⟩
 ·have:=q ((List.range n).map λ(i:Nat)=>DL kv (i:Int)) (by rw [G0,T7]) λr hr=>by
   obtain⟨i,_,rfl⟩:=R3.mp hr;exact(g.at (by omega) (i:Int)).2
  unfold zo at this;rw [S6] at this;exact this
variable {xs:List D}
theorem XM {x:D}{lo hi:Option Int}(h:x∈Jr xs lo hi):x∈xs:=List.mem_of_mem_drop (List.mem_of_mem_take h)
theorem XN {lo hi:Option Int}:(Jr xs lo hi).length<=xs.length:=by unfold Jr;rw [List.length_take,List.length_drop];omega
def okN (n:Nat)(ds:List D):Prop:=ds.length<=n/\ ∀d∈ds,okD d=true
theorem okN.app {m:Nat}{a b:List D}(x:okN m a)(y:okN n b):okN (m+n) (a++b):=⟨by rw [P8];have:=x.1;have:=y.1;omega,λd hd=>(P9.mp hd).elim (x.2 d) (y.2 d)⟩
theorem okN.cut {a:List D}(x:okN n a)(lo hi:Option Int):okN n (Jr a lo hi):=⟨D3 XN x.1,λd hd=>x.2 d (XM hd)⟩
theorem okN.one (h:okD d=true):okN 1 [d]:=⟨G4 _,λx hx=>by rw [G5.mp hx];exact h⟩
theorem okN.sz {m:Nat}{a b:List D}(x:okN m a)(y:okN n b)(h:m+n<=1000:=by decide):a.length+b.length<=sizeLine:=R9 (jX (by have:=x.1;have:=y.1;omega))
/-- what may be handed in: small,as ahead,or a number and a list of numbers -/
def Tn (h:HD)(d:D):Prop:=Sm 5 5000000 d\/Th h d\/ ∃ (a:Addr) (k:Int) (ns:List Int),d= .tup [.int k,.lst a]/\h a=some (ns.map D.int)/\k.natAbs<100/\ns.length<=6/\ ∀x∈ns,x.natAbs<100
theorem Tn.sub {h':HD}(t:Tn h d)(s:Sub h h'):Tn h' d:=by
 rcases t with z|z|⟨a,k,ns,e,ha,r⟩
 ·exact .inl z
 ·exact .inr (.inl (z.sub s))
 ·exact .inr (.inr ⟨a,k,ns,e,s a _ ha,r⟩)
theorem VB (h:x.natAbs<100):Sm 1 1000 (.int x):=(yy (G8 h (by decide))).mono (by decide) (by decide)
theorem Fc (t:Sq n e T)(h6:n<=6)(he:e<=1000)(th:Tn h d): ∃txt:Str,∀ (h':HD) p (Q:KD),Sub h h'->h' p=some [zH T,d]->Q (.str txt) h'->Dt [.lst p] h' Q:=by
 have sT:=Wf t h6 (show e<=1919 by omega);rcases th with ⟨q,tq,sq,_⟩|th|⟨a,k,ns,rfl,ha,hk,hl,hs⟩
 ·exact⟨(PyData.list [Ul T,q]).shown,λh' p Q _ hp qq=> .inl ⟨_,.list [Ul T,q],rfl,⟨p,_,rfl,hp,_,_,rfl,Jd h' T,_,_,rfl,tq h',rfl⟩,Je sT sq (by omega) (by omega) (by omega) (by omega),qq⟩⟩
 ·exact CY t h6 he th
 ·obtain⟨ps,l,ts,ss,_⟩:=sms (k:=0) (b:=200) (ds:=ns.map D.int) λd hd=>by
   obtain⟨x,hx,rfl⟩:=R3.mp hd;exact yy (G8 (hs x hx) (by decide))
  obtain⟨pk,tk,sk,_⟩:=yy (i:=k) (G8 hk (by decide));have l6:ps.length<=6:=by rw [l,G0];exact hl
  have sl:ShowB (.list ps) 1 2000:=(ShowB.lst ss).mono (G4 _) (by have:=N7 202 l6;omega);have st:ShowB (.tuple [pk,.list ps]) 2 5000:=(ShowB.tup (k:=1) (b:=2000) λx hx=>by
   simp only [P0,D2,M3] at hx;rcases hx with e|e
   ·rw [e];exact sk.mono (by decide) (by decide)
   ·rw [e];exact sl).mono (G4 _) (by show (2000+2)*2+3<=5000;decide)
  exact⟨(PyData.list [Ul T,.tuple [pk,.list ps]]).shown,λh' p Q sb hp qq=> .inl ⟨_,.list [Ul T,.tuple [pk,.list ps]],rfl,⟨p,_,rfl,hp,_,_,rfl,Jd h' T,_,_,rfl,⟨_,rfl,_,_,rfl,tk h',_,_,rfl,⟨a,_,rfl,sb a _ ha,ts h'⟩,rfl⟩,rfl⟩,Je sT st (by omega) (by omega) (by omega) (by omega),qq⟩⟩
/-- told of,and small -/
def OS (b:Nat)(d:D):Prop:=okD d=true/\Sm (if b=1000 then 1 else 2) b d
theorem vk (h:x.natAbs<100):OS 1000 (.int x):=⟨rfl,VB h⟩
theorem JN (h: ∀x∈xs,OS 1000 x)(hl:xs.length<=13):OS 13029 (.tup xs):=⟨Vt (by omega) λx hx=>(h x hx).1,Sm.tup (λx hx=>(h x hx).2) hl⟩
theorem OS.up (h:OS 1000 d):OS 13029 d:=⟨h.1,h.2.mono (by decide) (by decide)⟩
theorem vH (h: ∀x∈xs,OS 13029 x)(hl:xs.length<=3):okD (.tup xs)=true/\ ∀h,Tn h (.tup xs):=⟨Vt (by omega) λx hx=>(h x hx).1,λ_=> .inl ((Sm.tup (λx hx=>(h x hx).2) hl).mono (by decide) (by decide))⟩
def vm:RDn:=λds h Q=> ∃p l fl,∃k:Int,∃rs:List Int,ds= [.lst p,.tup [.int k,zo rs]]/\h p=some [.int l,.int fl]/\0<=l/\1<=k/\k<=6/\1<=rs.length/\rs.length<=6/\(∀r∈rs,0<=r/\r<k)/\ ∀d l' h',okD d=true->Tn (wg h' p) d->But p h h'->h' p=some [.int l',.int fl]->0<=l'->Q d h'
theorem Ws (Z:Zs mg)(F:Fun K "_law_bent" "_law_bent" ye f fd)(jz:jB P w K mg base n "_law_draw" ["_law_pen_here","_law_many"] jK):FnOk P w K mg base CX0 (n+1) f fd ["_law_pen_here","_law_thing"] (LSp K vm):=by
 obtain⟨jQ,jP,jh,jd,je,jf⟩:=jz;refine F.okJ jW (λds h Q q=>by obtain⟨p,l,fl,k,rs,e,hp,h0,k1,k6,r1,r6,gr,q⟩:=q;subst e;rfl) _ (λcdv A outer s H E hr=>(jg (Dm (jv 1) (vd (i:=2) (j:=3) rfl jW.nd rfl rfl (Or.inl rfl) (Or.inl rfl))) (by exact(jg (wO (i:=4) jW.nd rfl (Or.inl rfl) (jC jh hr rfl jf je jd (jac (jv 0) (by exact(jac (jM zA rfl Z.len R8 (jac (jv 3) jb)) jb))))) (by exact(jg (wO (i:=5) jW.nd rfl (Or.inl rfl) (jix (vt (jac jbl (by exact(jac Bn (by exact(jac (Bp jw) (by exact(jac (jv 2) (by exact(jac Bo (by exact(jac (zC (jac jw jb)) (by exact(jac (jC jh hr rfl jf je jd (jac (jv 0) (by exact(jac jw jb)))) (by exact(jac jbl (by exact(jac (jop Vi jw jw) jb)))))))))))))))))) (jC jh hr rfl jf je jd (jac (jv 0) (by exact(jac jw jb)))) (λ_ _=>rfl))) (by exact(jg (wO (i:=6) jW.nd rfl (Or.inl rfl) (vt (jac (zC (jac (jv 2) (by exact(jac (jop jR (jop jR (Vn (jv 3) Yt (Jb (jv 4))) (zC (jac (jv 5) jb))) (Vn (jv 3) (Jb (jop jR (jv 4) jw)) Yt)) jb)))) (by exact(jac (zC (jac (jv 5) (by exact(jac (jv 3) jb)))) (by exact(jac (zC (jac (jv 2) (by exact(jac (Vn (jv 3) Yt (Jb (Bp jw))) jb)))) (by exact(jac (zC (jac (jv 2) (by exact(jac (jop jR (jv 3) (zC (jac jw jb))) jb)))) jb))))))))) (by exact(jg (wO (i:=6) jW.nd rfl (Or.inl rfl) (jop jR (jv 6) (vt (jac (zC (jac (jv 2) (by exact(jac (zi Db rfl Z.list (by decide +kernel) (jac (jv 3) jb)) jb)))) (by exact(jac (vt (jac (jv 2) (by exact(jac (jv 3) jb)))) (by exact(jac (zC (jac (jv 2) jb)) (by exact(jac (zC (jac (jv 2) (by exact(jac (jv 3) (by exact(jac jw jb)))))) (by exact(jac (zC (jac (jv 3) (by exact(jac (jv 2) jb)))) (by exact(jac (zC (jac (jop jR (jv 2) jw) (by exact(jac (jv 3) jb)))) (by exact(jac (zC (jac (jop vW jw (jv 2)) (by exact(jac (jv 3) jb)))) jb)))))))))))))))) (by exact(jn (we (jix (jv 6) (jC jh hr rfl jf je jd (jac (jv 0) (by exact(jac jw jb)))) (λ_ _=>rfl))))))))))))))) ?_;intro ds h Q q;obtain⟨p,l,fl,k,rs,e,hp,h0,k1,k6,r1,r6,gr,q⟩:=q;subst e;have rsm: ∀r∈rs,r.natAbs<100:=λr hr=>by have:=gr r hr;omega
 have ok_:OS 1000 (.int k):=vk (by omega);have er: ∀x∈rs.map D.int,OS 1000 x:=λx hx=>by obtain⟨y,hy,rfl⟩:=R3.mp hx;exact vk (rsm y hy)
 have nR:okN 6 (rs.map D.int):=⟨by rw [G0];exact r6,λd hd=>(er d hd).1⟩;have hlen:(((rs.map D.int).length:Nat):Int)=(rs.length:Int):=by rw [G0]
 refine jp (λσ' h'=>σ'= [some (.lst p),some (.tup [.int k,zo rs]),some (.int k),some (zo rs),none,none,none]/\h=h') (λC hC=>⟨_,rfl,_,_,rfl,hC _ _ ⟨rfl,rfl⟩⟩) ?_;rintro _ _ ⟨rfl,rfl⟩;refine jp (λσ' h'=> ∃ (a l1:Int),σ'= [some (.lst p),some (.tup [.int k,zo rs]),some (.int k),some (zo rs),some (.int a),none,none]/\0<=l1/\h' p=some [.int l1,.int fl]/\But p h h') (λC hC=>⟨_,rfl,_,rfl,p,l,fl,_,rfl,hp,h0,by rw [hlen];omega,by rw [hlen];omega,λa l1 a0 a1 l10=>hC _ _ ⟨a,l1,rfl,l10,ja,But.upd⟩⟩) ?_;rintro _ h1 ⟨a,l1,rfl,l10,kp,bt⟩;refine jp (λσ' h'=> ∃ (off:D) (l1:Int),σ'= [some (.lst p),some (.tup [.int k,zo rs]),some (.int k),some (zo rs),some (.int a),some off,none]/\OS 1000 off/\0<=l1/\h' p=some [.int l1,.int fl]/\But p h h') (λC hC=> ?_) ?_
 ·refine⟨_,rfl,(by show 1<=sizeLine;decide),_,rfl,p,l1,fl,6,rfl,kp,l10,by decide,by decide,λx l2 x0 x1 l20=>⟨⟨by decide,by decide,by decide⟩,(by show 9<=sizeLine;decide),λp1 e1=>⟨_,rfl,p,l2,fl,9,rfl,jc ja e1,l20,by decide,by decide,λr l3 r0 r1 l30=> ?_⟩⟩⟩;obtain⟨d,hd,ed⟩:=zR (xs:= [D.bl true,D.non,D.int (-1),D.int k,D.str (Str.ofString "0"),D.tup [D.int 0],D.int x,D.bl false,D.int (10^Int.toNat 30)]) r0 r1;refine⟨_,d,ji (jr ja e1) ja,ed,hC _ _ ⟨d,l3,rfl,⟨vG (by rfl) d hd,?_⟩,l30,ja,((bt.put).new e1).put⟩⟩;simp only [P0,D2,M3] at hd;rcases hd with e|e|e|e|e|e|e|e|e<;>subst e
  all_goals first|exact ok_.2|exact(GF).mono (by decide) (by decide)|exact(MQ _).mono (by decide) (by decide)|exact VB (by omega)|exact(Sm.tup (m:=1) (λd hd=>by rw [G5.mp hd];exact yy (by decide)) (by decide)).mono (by decide) (by decide)|exact(yy (by decide)).mono (by decide) (by decide)|exact(GG (.inr (.inr rfl))).mono (by decide) (by decide)
 rintro _ h2 ⟨off,l2,rfl,ooff,l20,kp,bt⟩;have no:okN 1 [off]:=okN.one ooff.1;have nz:okN 1 [D.int 0]:=okN.one rfl;have mc: ∀ (lo hi:Option Int),∀x∈Jr (rs.map D.int) lo hi,OS 1000 x:=λlo hi x hx=>er x (XM hx)
 have lc: ∀ (lo hi:Option Int),(Jr (rs.map D.int) lo hi).length<=6:=λlo hi=>D3 XN nR.1
 have two: ∀x y:D,OS 13029 x->OS 13029 y->okD (.tup [x,y])=true/\ ∀h,Tn h (.tup [x,y]):=λx y ox oy=>vH (λz hz=>by
  simp only [P0,D2,M3] at hz;rcases hz with e|e<;>subst e
  ·exact ox
  ·exact oy) (by show 2<=3;decide)
 refine jp (λσ' h'=> ∃R xs,σ'= [some (.lst p),some (.tup [.int k,zo rs]),some (.int k),some (zo rs),some (.int a),some off,some (.lst R)]/\h' R=some xs/\xs.length=4/\(∀d∈xs,okD d=true/\ ∀h,Tn h d)/\h' p=some [.int l2,.int fl]/\But p h h') (λC hC=> ?_) ?_
 ·refine⟨_,rfl,_,rfl,_,rfl,_,rfl,_,rfl,(by show 1<=sizeLine;decide),(nR.cut _ _).sz no,_,rfl,_,rfl,_,rfl,((nR.cut _ _).app no).sz (nR.cut _ _),(by show 2<=sizeLine;decide),_,rfl,_,rfl,(by show 2<=sizeLine;decide),_,rfl,_,rfl,_,rfl,(by show 2<=sizeLine;decide),_,rfl,_,rfl,(by show 1<=sizeLine;decide),nR.sz nz,(by show 2<=sizeLine;decide),(by show 4<=sizeLine;decide),λR eR=>hC _ _ ⟨R,_,rfl,ja,rfl,?_,jc kp eR,bt.new eR⟩⟩;intro d hd;simp only [P0,D2,M3] at hd;rcases hd with e|e|e|e<;>subst e
  ·refine two _ _ ok_.up (JN (λx hx=> ?_) ?_)
   ·rcases P9.mp hx with z|z
    ·rcases P9.mp z with z|z
     ·exact mc _ _ x z
     ·rw [G5.mp z];exact ooff
    ·exact mc _ _ x z
   ·have:=lc none (some a);have:=lc (some (a+1)) none;rw [P8,P8,F8];omega
  ·exact two _ _ ooff.up (JN er (by rw [G0];omega))
  ·exact two _ _ ok_.up (JN (mc _ _) (D3 (lc _ _) (by decide)))
  ·exact two _ _ ok_.up (JN (λx hx=>(P9.mp hx).elim (er x) λz=>by rw [G5.mp z];exact vk (by decide)) (by rw [P8,G0,F8];omega))
 rintro _ h3 ⟨R,xs,rfl,kR,lR,gR,kp,bt⟩;refine jp (λσ' h'=> ∃R xs,σ'= [some (.lst p),some (.tup [.int k,zo rs]),some (.int k),some (zo rs),some (.int a),some off,some (.lst R)]/\h' R=some xs/\xs.length=11/\(∀d∈xs,okD d=true/\Tn (wg h' p) d)/\h' p=some [.int l2,.int fl]/\But p h h') (λC hC=> ?_) ?_
 ·refine⟨_,rfl,_,rfl,_,rfl,λp1 e1=>⟨(by show 2<=sizeLine;decide),_,rfl,_,rfl,(by show 2<=sizeLine;decide),λp2 e2=>⟨_,rfl,(by show 1<=sizeLine;decide),_,rfl,_,rfl,(by show 3<=sizeLine;decide),_,rfl,_,rfl,(by show 2<=sizeLine;decide),_,rfl,_,rfl,(by show 2<=sizeLine;decide),_,rfl,.inl ⟨by decide,by decide⟩,_,rfl,(by show 2<=sizeLine;decide),(by show 7<=sizeLine;decide),λp3 e3=>⟨_,_,jc (jc (jc kR e1) e2) e3,ja,?_,λp4 e4=>hC _ _ ⟨p4,_,rfl,ja,?_,?_,jc (jc (jc (jc kp e1) e2) e3) e4,(((bt.new e1).new e2).new e3).new e4⟩⟩⟩⟩⟩
  ·rw [lR];show 4+7<=sizeLine;decide
  ·rw [P8,lR];rfl
  ·have nn1:=jr kp e1;have nn2:=jr (jc kp e1) e2;have K1: ∀x∈ [D.int k,zo rs],SmK 1 x:=λx hx=>by
    simp only [P0,D2,M3] at hx;rcases hx with e|e<;>subst e
    ·exact SmK.of0 (yy (G8 (show k.natAbs<100 by omega) (by decide))) 1
    ·exact SmK.tup (λx hx=>by obtain⟨y,hy,rfl⟩:=R3.mp hx;exact SmK.of0 (yy (G8 (rsm y hy) (by decide))) 0) (by rw [G0];omega)
   have oR:OS 13029 (zo rs):=JN er (by rw [G0];omega);intro d hd;rcases P9.mp hd with z|z
   ·exact⟨(gR d z).1,(gR d z).2 _⟩
   simp only [P0,D2,M3] at z;rcases z with e|e|e|e|e|e|e<;>subst e
   ·exact⟨rfl,.inr (.inr ⟨p1,k,rs,rfl,yA nn1 (jc (jc (jc ja e2) e3) e4),by omega,r6,rsm⟩)⟩
   ·exact⟨rfl,.inr (.inl (Th.lst (yA nn2 (jc (jc ja e3) e4)) (by show 2<=155;decide) K1))⟩
   ·have:=vH (xs:= [.int k]) (λx hx=>by rw [G5.mp hx];exact ok_.up) (by show 1<=3;decide);exact⟨this.1,this.2 _⟩
   ·have:=vH (xs:= [.int k,zo rs,.int 0]) (λx hx=>by
     simp only [P0,D2,M3] at hx;rcases hx with e|e|e<;>subst e
     ·exact ok_.up
     ·exact oR
     ·exact(vk (by decide)).up) (by show 3<=3;decide)
    exact⟨this.1,this.2 _⟩
   ·exact⟨(two _ _ oR ok_.up).1,(two _ _ oR ok_.up).2 _⟩
   ·have o1:OS 1000 (.int (k+1)):=vk (by omega);exact⟨(two _ _ o1.up oR).1,(two _ _ o1.up oR).2 _⟩
   ·have o1:OS 1000 (.int (2*k)):=vk (by omega);exact⟨(two _ _ o1.up oR).1,(two _ _ o1.up oR).2 _⟩
 rintro _ h4 ⟨R,xs,rfl,kR,lR,gR,kp,bt⟩;have nR':R≠p:=λz=>by
  subst z;rw [kp] at kR;injection kR with kR;rw [<-kR] at lR;cases lR
 refine⟨_,rfl,_,rfl,p,l2,fl,11,rfl,kp,l20,by decide,by decide,λx l3 r0 r1 l30=> ?_⟩;obtain⟨d,hd,ed⟩:=zR (xs:=xs) r0 (by rw [lR];exact r1);exact⟨_,_,ji nR' kR,ed,_,Sub.refl _,q d l3 _ (gR d hd).1 ((gR d hd).2.sub (vF ((But.refl p h4).put))) bt.put ja l30⟩
def yF:RDn:=λds h Q=> ∃T d,∃n e:Nat,ds= [zH T,d]/\Sq n e T/\1<=n/\n<=6/\okD d=true/\e<=1000/\Tn h d/\Q (.bl true) h
theorem Zp (Z:Zs mg)(F:Fun K "_law_right" "_law_right" wu f fd)(Ww:jB P w K mg base n "_law_turns" ["_law_table_here","_law_thing"] yE)(Wy:jB P w K mg base n "turns_hold" ["table","thing"] yC):FnOk P w K mg base CX0 (n+1) f fd ["_law_table_here","_law_thing"] (LSp K yF):=by
 obtain⟨Qf,XS,WC,Zt,ZA,ZF⟩:=Ww;obtain⟨Qh,XU,WD,Zu,ZB,ZG⟩:=Wy;refine F.okJ za (λds h Q q=>by obtain⟨T,d,n,bb,e,hT,n1,n6,ok,he,th,q⟩:=q;subst e;rfl) _ (λcdv A outer s H E hr=>(jg (wO (i:=2) za.nd rfl (Or.inl rfl) (jM (Vo hr) rfl Z.repr (by decide +kernel) (jac (vt (jac (jv 0) (by exact(jac (jv 1) jb)))) jb))) (by exact(jg (wO (i:=3) za.nd rfl (Or.inl rfl) (jC WC hr rfl ZF ZA Zt (jac (jv 0) (by exact(jac (jv 1) jb))))) (by exact(jg (Vl R5 rfl (Ys rfl Z.range (jac jw jb)) (zT (i:=4) za.nd rfl (Or.inl rfl)) (jg (wO (i:=5) za.nd rfl (Or.inl rfl) (jC WD hr rfl ZG ZB Zu (jac (jv 0) (by exact(jac (jv 1) jb))))) (by exact(jn (Js (jpt (Uk (wk (wU (Ja (T:= "bool") (by decide) rfl Z.isinstance rfl Z.bool (by decide +kernel) (jv 5)))) (XY (zG (MJ hr.units) (jv 5) (jv 3) (jE _))))) (jn (we jbl)) jS))))) (by exact(jn (we (XX oq_eq (jM (Vo hr) rfl Z.repr (by decide +kernel) (jac (vt (jac (jv 0) (by exact(jac (jv 1) jb)))) jb)) (jv 2) (jE _))))))))))) ?_;intro ds h Q q;obtain⟨T,d,n,bb,e,hT,n1,n6,ok,he,th,q⟩:=q;subst e;obtain⟨txt,rep⟩:=Fc hT n6 he th;refine jp (λσ' h'=>σ'= [some (zH T),some d,some (.str txt),none,none,none]/\Sub h h') (λC hC=>⟨_,rfl,_,rfl,(by show 2<=sizeLine;decide),λp1 e1=>rep _ p1 _ (Sub.newAt (Sub.refl h) e1) ja (hC _ _ ⟨rfl,Sub.newAt (Sub.refl h) e1⟩)⟩) ?_;rintro _ h1 ⟨rfl,sb⟩;refine jp (λσ' h'=>σ'= [some (zH T),some d,some (.str txt),some (.bl (wH T n d)),none,none]/\h1=h') (λC hC=>⟨_,rfl,_,rfl,T,d,n,bb,rfl,hT,n1,n6,ok,hC _ _ ⟨rfl,rfl⟩⟩) ?_;rintro _ _ ⟨rfl,rfl⟩;refine jp (λσ' h'=> ∃a b,σ'= [some (zH T),some d,some (.str txt),some (.bl (wH T n d)),a,b]/\h1=h') (λC hC=> ?_) ?_
 ·refine vX 2 (λi σ' h'=> ∃a b,σ'= [some (zH T),some d,some (.str txt),some (.bl (wH T n d)),a,b]/\h1=h') (by decide) (λR r=>r) ⟨none,none,rfl,rfl⟩ (λσ' h' z=>hC _ _ z) ?_;rintro i _ _ hi ⟨a,b,rfl,rfl⟩;refine jp (λσ' h'=>σ'= [some (zH T),some d,some (.str txt),some (.bl (wH T n d)),some (.int (i:Int)),some (.bl (wH T n d))]/\h1=h') (λC2 hC2=>⟨_,rfl,_,rfl,T,d,n,bb,rfl,hT,n1,n6,ok,hC2 _ _ ⟨rfl,rfl⟩⟩) ?_;rintro _ _ ⟨rfl,rfl⟩;refine⟨_,rfl,"bool",rfl,_,rfl,wN ⟨_,rfl,_,rfl,?_⟩⟩;refine⟨_,rfl,?_⟩;have e0:(!decide (wH T n d=wH T n d))=false:=by rw [P7 rfl];rfl
  show if (!decide (wH T n d=wH T n d))=true then _ else _
  rw [e0];exact wN ⟨_,Sub.refl _,by omega,_,_,rfl,rfl⟩
 rintro _ _ ⟨a,b,rfl,rfl⟩;refine⟨_,rfl,_,rfl,(by show 2<=sizeLine;decide),λp1 e1=>rep _ p1 _ (Sub.newAt sb e1) ja ⟨_,rfl,h,Sub.newAt sb e1,?_⟩⟩;have e0:decide (txt=txt)=true:=P7 rfl;show Q (.bl (decide (txt=txt))) h;rw [e0];exact q
theorem Na {i:Nat}{js:List Nat}{ti:TID}{te:TED}{σ:SD}{h1:HD}{Q:KD}(ds:List D)(W:Nat->List D->HD->Prop)(hn:ds.length<=1000)(ht: ∀R:ItD->HD->Prop,R (λ_=>some ds) h1->ti σ h R)
 (w0:W 0 [] h1)(wl: ∀k ys h',W k ys h'->ys.length<=k)(turn: ∀k ys h' d,ds[k]? =some d->W k ys h'->te ((jZ js σ).set i (some d)) h' λy h4=> ∃h5,Sub h5 h4/\(k+1<=ds.length/\W (k+1) (ys++ [y]) h5))
 (done: ∀ys h',W ds.length ys h'->Q (.tup ys) h'):dCB JL (yt (Wa (bN i) js ti ZZ te) VO) σ h Q:=by
 show Wa (bN i) js ti ZZ te σ h (λx h1=>JL [x] h1 Q);exact XD ds W hn ht w0 wl turn λys h' w p hp=>(show ∃zs,zm h' p ys p=some zs/\Q (.tup zs) (wg (zm h' p ys) p) from ⟨_,ja,by rw [zM hp];exact done ys h' w⟩)
theorem Nb (Z:Zs mg)(F:Fun K "law" "law" VX f fd)(Wu:jB P w K mg base n "_law_right" ["_law_table_here","_law_thing"] yF)(YD:jB P w K mg base n "_law_cell" ["_law_script","_law_k"] vh)(Ua:jB P w K mg base n "_law_pen" ["_law_cell_here"] Jg)(YE:jB P w K mg base n "_law_size" ["_law_pen_here"] vj)(yf:jB P w K mg base n "_law_joined_table" ["_law_pen_here","_law_size_here"] zp)(jz:jB P w K mg base n "_law_draw" ["_law_pen_here","_law_many"] jK)(Wv:jB P w K mg base n "_law_table" ["_law_pen_here","_law_size_here"] zp)(VZ:jB P w K mg base n "_law_odd" ["_law_pen_here"] Jh)(VY:jB P w K mg base n "_law_led" ["_law_table_here","_law_d"] Ji)(YC:jB P w K mg base n "_law_bent" ["_law_pen_here","_law_thing"] vm):FnOk P w K mg base CX0 (n+1) f fd ["_law_script"] (LSp K Xk):=by
 obtain⟨Qc,XQ,wx,zW,zX,zY⟩:=Wu;obtain⟨Gh,Qk,YI,WG,WU,WZ⟩:=YD;obtain⟨GM,Go,Ud,YO,YY,Vb⟩:=Ua;obtain⟨Gi,Ql,YJ,WH,WV,Ya⟩:=YE;obtain⟨WR,ZK,yh,wJ,wK,wL⟩:=yf;obtain⟨jQ,jP,jh,jd,je,jf⟩:=jz;obtain⟨Qe,XR,WB,Zr,Zz,ZE⟩:=Wv;obtain⟨GL,Gn,Uc,YN,YX,Va⟩:=VZ;obtain⟨GK,Gm,Ub,YM,YW,YZ⟩:=VY;obtain⟨Gg,Qj,YH,WF,WT,WY⟩:=YC;refine F.okJ zw (λds h Q q=>by obtain⟨ns,e,hh,hns,q⟩:=q;subst e;rfl) _ (λcdv A outer s H E hr=>(jg (Vl R5 rfl (Xr (vt (jac (zC (jac jw (by exact(jac (zC (jac jw jb)) jb)))) (by exact(jac (zC (jac jw (by exact(jac (zC (jac jw jb)) jb)))) (by exact(jac (zC (jac jw (by exact(jac (zC (jac jw jb)) jb)))) (by exact(jac (zC (jac jw (by exact(jac (zC (jac jw jb)) jb)))) (by exact(jac (zC (jac jw (by exact(jac (zC (jac jw jb)) jb)))) (by exact(jac (zC (jac jbl (by exact(jac (zC (jac jw jb)) jb)))) (by exact(jac (zC (jac jw (by exact(jac (zC (jac jw jb)) jb)))) (by exact(jac (zC (jac jw (by exact(jac (vt (jac jw jb)) jb)))) (by exact(jac Bn jb))))))))))))))))))) (zT (i:=1) zw.nd rfl (Or.inl rfl)) (jn (Js (jpt (Uk (wk (wU (jC wx hr rfl zY zX zW (jac (zC (jac (zC (jac jw jb)) jb)) (by exact(jac (jv 1) jb)))))) (XY (wk (wU (jC wx hr rfl zY zX zW (jac (zC (jac (zC (jac jw jb)) jb)) (by exact(jac (jv 1) jb))))))))) (jn (we jbl)) jS))) (by exact(jg (Vl R5 rfl (Xr (jop jR (vt (jac (jC YI hr rfl WZ WU WG (jac (jv 0) (by exact(jac jw jb)))) jb)) (Vn (jv 0) (Jb jw) (Jb jw)))) (zT (i:=2) zw.nd rfl (Or.inl rfl)) (jg (wO (i:=3) zw.nd rfl (by first|exact Or.inr rfl|exact Or.inl rfl) (jC Ud hr rfl Vb YY YO (jac (jv 2) jb))) (by exact(jg (wO (i:=4) zw.nd rfl (Or.inl rfl) (jC YJ hr rfl Ya WV WH (jac (jv 3) jb))) (by exact(jg (wO (i:=5) zw.nd rfl (by first|exact Or.inr rfl|exact Or.inl rfl) (jC yh hr rfl wL wK wJ (jac (jv 3) (by exact(jac (jv 4) jb))))) (by exact(jg (Js (zG oq_eq (jC jh hr rfl jf je jd (jac (jv 3) (by exact(jac jw jb)))) jw (jE _)) (jn (wO (i:=5) zw.nd rfl (by first|exact Or.inr rfl|exact Or.inl rfl) (jC WB hr rfl ZE Zz Zr (jac (jv 3) (by exact(jac (jv 4) jb)))))) jS) (by exact(jg (wO (i:=6) zw.nd rfl (Or.inl rfl) (vt (jac (jC Uc hr rfl Va YX YN (jac (jv 3) jb)) jb))) (by exact(jg (Vl R5 rfl (Bv rfl Z.range (jac jw (by exact(jac jw jb)))) (zT (i:=7) zw.nd rfl (by first|exact Or.inr rfl|exact Or.inl rfl)) (jg (wO (i:=1) zw.nd rfl (Or.inl rfl) (zC (jac (jv 7) (by exact(jac (jC Ub hr rfl YZ YW YM (jac (jv 5) (by exact(jac (jv 7) jb)))) jb))))) (by exact(jg (wO (i:=8) zw.nd rfl (Or.inl rfl) (zC (jac (jv 7) (by exact(jac (zi yw rfl Z.tuple (by decide +kernel) (jac (jlc (i:=9) (js:= [9]) rfl (jA (by rfl)) (wc (jix (jv 1) jw (λ_ _=>rfl))) (by decide) zw.nd rfl (by first|exact Or.inl rfl|exact Or.inr rfl) (λX' hX=>zd) (λX' hX=>by obtain⟨C,s₀,H₀,ex,rfl⟩:=hX;exact(jop zy (jop jR (jv 9) jw) (jv 7)))) jb)) jb))))) (by exact(jn (wO (i:=6) zw.nd rfl (Or.inl rfl) (jop jR (jv 6) (vt (jac (jv 1) (by exact(jac (jv 8) (by exact(jac (jC YH hr rfl WY WT WF (jac (jv 3) (by exact(jac (jv 1) jb)))) (by exact(jac (zC (jac (jv 7) (by exact(jac (zi yw rfl Z.tuple (by decide +kernel) (jac (jlc (i:=10) (js:= [10]) rfl (jA (by rfl)) (wc (jv 5)) (by decide) zw.nd rfl (by first|exact Or.inl rfl|exact Or.inr rfl) (λX' hX=>zd) (λX' hX=>by obtain⟨C,s₀,H₀,ex,rfl⟩:=hX;exact(jC jh hr rfl jf je jd (jac (jv 3) (by exact(jac (jv 7) jb)))))) jb)) jb)))) jb)))))))))))))))) (by exact(jn (Js (wk (wU (jM (JM rfl) rfl Z.all T5 (jac (jlc (i:=1) (js:= [1]) rfl (jA (by rfl)) (wc (jv 6)) (by decide) zw.nd rfl (by first|exact Or.inl rfl|exact Or.inr rfl) (λX' hX=>zd) (λX' hX=>by obtain⟨C,s₀,H₀,ex,rfl⟩:=hX;exact(jC wx hr rfl zY zX zW (jac (jv 5) (by exact(jac (jv 1) jb)))))) jb)))) (jn (we jbl)) jS))))))))))))))) (by exact(jn (we jbl))))))) ?_;intro ds h Q q;obtain⟨ns,e,hh,hns,q⟩:=q;subst e;have hA:Sq 1 3 [[(0:Int)]]:=⟨by decide,by decide,by decide,by decide⟩;have hB:Sq 1 3 [[(3:Int)]]:=⟨by decide,by decide,by decide,by decide⟩;refine jp (λσ' h'=> ∃a,σ'= [some (.scr ns),a,none,none,none,none,none,none,none,none,none]) (λC hC=> ?_) ?_
 ·refine⟨(by show 1<=sizeLine;decide),(by show 2<=sizeLine;decide),(by show 1<=sizeLine;decide),(by show 2<=sizeLine;decide),(by show 1<=sizeLine;decide),(by show 2<=sizeLine;decide),(by show 1<=sizeLine;decide),(by show 2<=sizeLine;decide),(by show 1<=sizeLine;decide),(by show 2<=sizeLine;decide),(by show 1<=sizeLine;decide),(by show 2<=sizeLine;decide),(by show 1<=sizeLine;decide),(by show 2<=sizeLine;decide),(by show 1<=sizeLine;decide),λp1 e1=>⟨(by show 2<=sizeLine;decide),(by show 9<=sizeLine;decide),λp2 e2=>⟨p2,rfl,?_⟩⟩⟩;generalize hts: [D.tup [D.int 1,D.tup [D.int 0]],D.tup [D.int 2,D.tup [D.int 0]],D.tup [D.int 6,D.tup [D.int 5]],D.tup [D.int 7,D.tup [D.int 0]],D.tup [D.int 0,D.tup [D.int 0]],D.tup [D.bl true,D.tup [D.int 0]],D.tup [D.int 1,D.tup [D.int 1]],D.tup [D.int 1,D.lst p1],D.non]=ts;have good: ∀d∈ts,okD d=true/\ ∀h':HD,h' p1=some [D.int 0]->Tn h' d:=λd hd=>by
   rw [<-hts] at hd;simp only [P0,D2,M3] at hd;rcases hd with e|e|e|e|e|e|e|e|e<;>subst e
   all_goals refine⟨rfl,?_⟩
   all_goals first
    |exact λh' _=> .inr (.inl (SmK.th (Vq 2 _ (by decide +kernel))))
    |exact λh' e=> .inr (.inr ⟨p1,1,[0],rfl,e,by decide,by decide,by decide⟩)
  refine vY ts (λi σ' h'=>(∃a,σ'= [some (.scr ns),a,none,none,none,none,none,none,none,none,none])/\h' p2=some ts/\h' p1=some [D.int 0]) (λi σ' h' z=>z.2.1) ⟨⟨_,rfl⟩,by rw [<-hts];exact ja,jc ja e2⟩ (λσ' h' z=>hC _ _ z.1) ?_;rintro i d _ h1 hi ⟨⟨a,rfl⟩,k2,k1⟩;obtain⟨ok,th⟩:=good d (D7 hi);have hil:i<ts.length:=(G9.mp hi).1;exact⟨(by show 1<=sizeLine;decide),(by show 1<=sizeLine;decide),_,rfl,[[0]],d,1,3,rfl,hA,by decide,by decide,ok,by decide,th _ k1,_,rfl,wN ⟨(by show 1<=sizeLine;decide),(by show 1<=sizeLine;decide),_,rfl,[[3]],d,1,3,rfl,hB,by decide,by decide,ok,by decide,th _ k1,_,rfl,wN ⟨_,Sub.refl _,by omega,⟨_,rfl⟩,k2,k1⟩⟩⟩
 rintro _ h ⟨a0,rfl⟩;refine jp (λσ' h'=>True) (λC hC=> ?_) (λσ' h3 hV=>⟨h3,Sub.refl _,q h3⟩);refine⟨_,rfl,ns,0,rfl,(by decide),λn0=>⟨(by show 1<=sizeLine;decide),λp1 e1=>⟨_,rfl,_,rfl,_,rfl,λp2 e2=>⟨_,_,jc ja e2,ja,?_,λp3 e3=>⟨p3,rfl,?_⟩⟩⟩⟩⟩
 ·have:(Jr ns (some 1) (some 5)).length<=ns.length:=by unfold Jr;rw [List.length_take,List.length_drop];omega
  rw [G0];exact R9 (jX (by simp only [D0,D9];omega))
 generalize hcs:([D.int n0]++(Jr ns (some 1) (some 5)).map D.int)=cs;have hint: ∀d∈cs,∃c,d= .int c:=λd hd=>by
  rw [<-hcs] at hd;rcases P9.mp hd with z|z
  ·exact⟨n0,G5.mp z⟩
  ·obtain⟨x,_,e⟩:=R3.mp z;exact⟨x,e.symm⟩
 refine vY cs (λi σ' h'=> ∃a1 a2 a3 a4 a5 a6 a7 a8 a9 a10,σ'= [some (.scr ns),a1,a2,a3,a4,a5,a6,a7,a8,a9,a10]/\h' p3=some cs) (λi σ' h' ⟨_,_,_,_,_,_,_,_,_,_,_,k⟩=>k) ⟨_,_,_,_,_,_,_,_,_,_,rfl,ja⟩ (λσ' h' _=>hC _ _ True.intro) ?_;rintro i d _ h4 hi ⟨b1,b2,b3,b4,b5,b6,b7,b8,b9,b10,rfl,k3⟩;obtain⟨c,rfl⟩:=hint d (D7 hi);have hil:i<cs.length:=(G9.mp hi).1;show Xa _ _ _ [some (.scr ns),b1,some (.int c),b3,b4,b5,b6,b7,b8,b9,b10] h4;refine jp (λσ' h'=> ∃p l fl,σ'= [some (.scr ns),b1,some (.int c),some (.lst p),b4,b5,b6,b7,b8,b9,b10]/\h' p=some [.int l,.int fl]/\0<=l/\h' p3=some cs/\p3≠p) (λC hC=> ?_) ?_
 ·refine⟨_,rfl,c,rfl,λp l fl ep l0 _=>hC _ _ ⟨p,l,fl,rfl,ja,l0,jc k3 ep,Ne.symm (jr k3 ep)⟩⟩
 rintro _ h5 ⟨p,l,fl,rfl,kp,l0,k3,n3⟩;refine jp (λσ' h'=> ∃ (n:Nat) (l2:Int),σ'= [some (.scr ns),b1,some (.int c),some (.lst p),some (.int (n:Int)),b5,b6,b7,b8,b9,b10]/\1<=n/\n<=6/\h' p=some [.int l2,.int fl]/\0<=l2/\h' p3=some cs) (λC hC=>⟨_,rfl,p,l,fl,rfl,kp,l0,λn l2 n1 n6 l20=>hC _ _ ⟨n,l2,rfl,n1,n6,ja,l20,ji n3 k3⟩⟩) ?_;clear kp l0 k3;rintro _ h6 ⟨n,l2,rfl,n1,n6,kp,l20,k3⟩;refine jp (λσ' h'=> ∃T l2,σ'= [some (.scr ns),b1,some (.int c),some (.lst p),some (.int (n:Int)),some (zH T),b6,b7,b8,b9,b10]/\Sq n 20 T/\h' p=some [.int l2,.int fl]/\0<=l2/\h' p3=some cs) (λC hC=>⟨_,rfl,_,rfl,p,l2,fl,n,rfl,kp,l20,n1,n6,λT l3 gT l30=>hC _ _ ⟨T,l3,rfl,gT.sq,ja,l30,ji n3 k3⟩⟩) ?_;clear kp l20 k3;rintro _ h7 ⟨T,l2,rfl,hT,kp,l20,k3⟩;refine jp (λσ' h'=> ∃T l2,σ'= [some (.scr ns),b1,some (.int c),some (.lst p),some (.int (n:Int)),some (zH T),b6,b7,b8,b9,b10]/\Sq n 20 T/\h' p=some [.int l2,.int fl]/\0<=l2/\h' p3=some cs) (λC hC=>⟨_,rfl,p,l2,fl,3,rfl,kp,l20,by decide,by decide,λx l3 x0 x1 l30=>⟨_,rfl,ZT (λ_=>⟨_,rfl,_,rfl,p,l3,fl,n,rfl,ja,l30,n1,n6,λT l4 gT l40=>hC _ _ ⟨T,l4,rfl,gT.sq,ja,l40,ji n3 (ji n3 k3)⟩⟩) λ_=>hC _ _ ⟨T,l3,rfl,hT,ja,l30,ji n3 k3⟩⟩⟩) ?_;clear kp l20 k3 hT;rintro _ h8 ⟨T,l2,rfl,hT,kp,l20,k3⟩;have hlen:(((T.map zo).length:Nat):Int)=(n:Int):=by rw [G0,hT.len]
 refine jp (λσ' h'=> ∃X xs l2,σ'= [some (.scr ns),b1,some (.int c),some (.lst p),some (.int (n:Int)),some (zH T),some (.lst X),b7,b8,b9,b10]/\h' X=some xs/\xs.length=1/\(∀d∈xs,okD d=true/\Tn (wg h' p) d)/\h' p=some [.int l2,.int fl]/\0<=l2/\h' p3=some cs) (λC hC=>⟨_,rfl,p,l2,fl,rfl,kp,l20,λd1 l3 g1 o1 t1 bt1 kp1 l30=>⟨(by show 1<=sizeLine;decide),λX eX=>hC _ _ ⟨X,_,l3,rfl,ja,rfl,λd hd=> ?_,jc kp1 eX,l30,jc (bt1 _ _ n3 k3) eX⟩⟩⟩) ?_
 ·rw [G5.mp hd];exact⟨o1,.inr (.inl (t1.sub (vF ((But.refl p g1).new eX))))⟩
 clear kp l20 k3;rintro _ h9 ⟨X,xs,l2,rfl,kX,lX,gX,kp,l20,k3⟩;refine jp (λσ' h'=> ∃X xs b1 b7 b8 b9 b10,σ'= [some (.scr ns),b1,some (.int c),some (.lst p),some (.int (n:Int)),some (zH T),some (.lst X),b7,b8,b9,b10]/\h' X=some xs/\xs.length<=25/\(∀d∈xs,okD d=true/\Tn (wg h' p) d)/\h' p3=some cs) (λC hC=> ?_) ?_
 ·refine QP 1 6 (λt σ' h'=> ∃X xs b1 b7 b8 b9 b10 l2,σ'= [some (.scr ns),b1,some (.int c),some (.lst p),some (.int (n:Int)),some (zH T),some (.lst X),b7,b8,b9,b10]/\h' X=some xs/\xs.length=1+4*t/\(∀d∈xs,okD d=true/\Tn (wg h' p) d)/\h' p=some [.int l2,.int fl]/\0<=l2/\h' p3=some cs) (by decide) (by decide) (by decide) (λR r=>r) ⟨X,xs,_,_,_,_,_,l2,rfl,kX,lX,gX,kp,l20,k3⟩ (λσ' h' ⟨X,xs,b1,b7,b8,b9,b10,l2,e,kX,lX,gX,_,_,k3⟩=>hC _ _ ⟨X,xs,b1,b7,b8,b9,b10,e,kX,by omega,gX,k3⟩) ?_;clear kX lX gX kp l20 k3;rintro t _ h10 ht ⟨X,xs,c1,c7,c8,c9,c10,l2,rfl,kX,lX,gX,kp,l20,k3⟩;show Xa _ _ _ [some (.scr ns),c1,some (.int c),some (.lst p),some (.int (n:Int)),some (zH T),some (.lst X),some (.int (1+(t:Int))),c8,c9,c10] h10;have k1:(1:Int)<=1+(t:Int):=by omega
  have k6:1+(t:Int)<=6:=by omega
  generalize 1+(t:Int)=k at k1 k6;have nX:X≠p:=λz=>by subst z;rw [kp] at kX;injection kX with kX;rw [<-kX] at lX;simp at lX;omega
  refine jp (λσ' h'=> ∃rs:List Int,σ'= [some (.scr ns),some (.tup [.int k,zo rs]),some (.int c),some (.lst p),some (.int (n:Int)),some (zH T),some (.lst X),some (.int k),c8,c9,c10]/\rs.length=n/\(∀r∈rs,0<=r/\r<k)/\h10=h') (λC hC=>⟨_,rfl,_,rfl,_,rfl,T,n,20,k,rfl,hT,n1,n6,k1,k6,λrs rl rb=>⟨(by show 2<=sizeLine;decide),hC _ _ ⟨rs,rfl,rl,rb,rfl⟩⟩⟩) ?_;rintro _ _ ⟨rs,rfl,rl,rb,rfl⟩;refine jp (λσ' h'=> ∃ms:List Int,σ'= [some (.scr ns),some (.tup [.int k,zo rs]),some (.int c),some (.lst p),some (.int (n:Int)),some (zH T),some (.lst X),some (.int k),some (.tup [.int k,zo ms]),c9,c10]/\ms.length=n/\(∀r∈ms,0<=r/\r<k)/\h10=h') (λC hC=>⟨_,rfl,Bs rs D.int (λr=> .int ((r+1)%k)) (by omega) rfl (λR r=>⟨_,rfl,_,rfl,r⟩) (λr hr Q' q'=>⟨_,rfl,_,rfl,by omega,q'⟩) ⟨(by show 2<=sizeLine;decide),hC _ _ ⟨rs.map λr=>(r+1)%k,?_,by rw [G0];exact rl,λr hr=> ?_,rfl⟩⟩⟩) ?_
  ·unfold zo;rw [List.map_map];rfl
  ·obtain⟨x,_,rfl⟩:=R3.mp hr;exact⟨B3 _ (by omega),B0 _ (by omega)⟩
  rintro _ _ ⟨ms,rfl,ml,mb,rfl⟩;have oth: ∀ws:List Int,ws.length=n->(∀r∈ws,0<=r/\r<k)->okD (.tup [.int k,zo ws])=true/\ ∀h,Tn h (.tup [.int k,zo ws]):=λws wl wb=>vH (λx hx=>by
   simp only [P0,D2,M3] at hx;rcases hx with e|e<;>subst e
   ·exact(vk (by omega)).up
   ·exact JN (λx hx=>by obtain⟨y,hy,rfl⟩:=R3.mp hx;exact vk (by have:=wb y hy;omega)) (by rw [G0];omega)) (by show 2<=3;decide)
  refine⟨_,rfl,_,rfl,_,rfl,_,rfl,_,rfl,p,l2,fl,k,rs,rfl,kp,l20,k1,k6,by omega,by omega,rb,λd l3 g okd td bt kp2 l30=> ?_⟩;refine⟨_,rfl,?_⟩;refine Na (h1:=g) (T.map zo) (λi ys h'=> ∃ (zs:List Int) (l:Int),ys=zs.map D.int/\zs.length=i/\(∀r∈zs,0<=r/\r<k)/\h' p=some [.int l,.int fl]/\0<=l/\But p g h') (by rw [G0,hT.len];omega) (λR r=>⟨_,rfl,r⟩) ⟨[],l3,rfl,rfl,(λr hr=>by cases hr),kp2,l30,But.refl p g⟩ (λi ys h' ⟨zs,_,e,el,_⟩=>by rw [e,G0];omega) ?_ ?_
  ·rintro i ys h' d' hd' ⟨zs,l4,rfl,zl,zb,kp4,l40,bt4⟩;have hi:=(G9.mp hd').1;exact⟨_,rfl,_,rfl,p,l4,fl,k,rfl,kp4,l40,by omega,by omega,λx l5 x0 x1 l50=>⟨_,Sub.refl _,by omega,zs++ [x],l5,by rw [M0];rfl,by rw [P8,zl];rfl,λr hr=>(P9.mp hr).elim (zb r) λz=>by rw [G5.mp z];exact⟨x0,x1⟩,ja,l50,bt4.put⟩⟩
  rintro ys h' ⟨zs,l4,rfl,zl,zb,kp4,l40,bt4⟩;rw [G0,hT.len] at zl;refine⟨(by show 2<=sizeLine;decide),(by show 4<=sizeLine;decide),λZ eZ=>⟨_,_,jc (bt4 _ _ nX (bt _ _ nX kX)) eZ,ja,?_,λY eY=>⟨_,Sub.refl _,by omega,Y,_,_,_,_,_,_,l4,rfl,ja,?_,λx hx=> ?_,jc (jc kp4 eZ) eY,l40,jc (jc (bt4 _ _ n3 (bt _ _ n3 k3)) eZ) eY⟩⟩⟩
  ·rw [lX];exact R9 (jX (by simp only [D0,D9];omega))
  ·rw [P8,lX];simp only [D0,D9];omega
  ·rcases P9.mp hx with z|z
   ·obtain⟨a1,a2⟩:=gX x z;exact⟨a1,a2.sub (vF ((((bt.trans bt4).new eZ).new eY)))⟩
   ·simp only [P0,D2,M3] at z;rcases z with e|e|e|e<;>subst e
    ·exact⟨(oth rs rl rb).1,(oth rs rl rb).2 _⟩
    ·exact⟨(oth ms ml mb).1,(oth ms ml mb).2 _⟩
    ·exact⟨okd,td.sub (vF ((bt4.new eZ).new eY))⟩
    ·exact⟨(oth zs zl zb).1,(oth zs zl zb).2 _⟩
 clear kX lX gX kp l20 k3;rintro _ h10 ⟨X,xs,c1,c7,c8,c9,c10,rfl,kX,lX,gX,k3⟩;refine Bt (j:=λh=>h X) xs (λd=>d) (λ_=>true) (by omega) (by rw [J8];exact kX) (λR r=>⟨_,rfl,r⟩) (λd hd Q' q'=>⟨_,rfl,_,rfl,T,d,n,20,rfl,hT,n1,n6,(gX d hd).1,by decide,(gX d hd).2.sub QQ,q'⟩) ?_;rw [show (xs.all λ_=>true)=true from R1.mpr λ_ _=>rfl];exact⟨_,rfl,wN ⟨_,Sub.refl _,by omega,_,_,_,_,_,_,_,_,_,_,rfl,k3⟩⟩
end
theorem Nc {l:PySem.W.OpenLaw}{w:World}{K:PySem.W.Frag}{h:Heap}{mg:Str->Option Value}{fa:Addr}(X:K.In h)(G:h.Ns mainGlobals mg)(hfa:mg "law" =some (.ref fa))
 {f0:Addr}{e0:FuncData}(d0:DefIn K "is_whole" yR f0 e0)
 {f1:Addr}{e1:FuncData}(d1:DefIn K "is_within" wX f1 e1)
 {f2:Addr}{e2:FuncData}(d2:DefIn K "is_table_row" zJ f2 e2)
 {f3:Addr}{e3:FuncData}(d3:DefIn K "has_table_form" zj f3 e3)
 {f4:Addr}{e4:FuncData}(d4:DefIn K "want_table" wm f4 e4)
 {f5:Addr}{e5:FuncData}(d5:DefIn K "heads" Yx f5 e5)
 {f6:Addr}{e6:FuncData}(d6:DefIn K "are_rests" wY f6 e6)
 {f7:Addr}{e7:FuncData}(d7:DefIn K "are_turns" wZ f7 e7)
 {f8:Addr}{e8:FuncData}(d8:DefIn K "turns_hold" wn f8 e8)
 {f9:Addr}{e9:FuncData}(d9:DefIn K "_law_cell" ya f9 e9)
 {f10:Addr}{e10:FuncData}(d10:DefIn K "_law_pen" yS f10 e10)
 {f11:Addr}{e11:FuncData}(d11:DefIn K "_law_draw" yb f11 e11)
 {f12:Addr}{e12:FuncData}(d12:DefIn K "_law_whole" wo f12 e12)
 {f13:Addr}{e13:FuncData}(d13:DefIn K "_law_odd" yT f13 e13)
 {f14:Addr}{e14:FuncData}(d14:DefIn K "_law_size" yc f14 e14)
 {f15:Addr}{e15:FuncData}(d15:DefIn K "_law_table" wq f15 e15)
 {f16:Addr}{e16:FuncData}(d16:DefIn K "_law_order" wr f16 e16)
 {f17:Addr}{e17:FuncData}(d17:DefIn K "_law_turns" wt f17 e17)
 {f18:Addr}{e18:FuncData}(d18:DefIn K "_law_joined_table" jT f18 e18)
 {f19:Addr}{e19:FuncData}(d19:DefIn K "_law_led" yU f19 e19)
 {f20:Addr}{e20:FuncData}(d20:DefIn K "_law_bent" ye f20 e20)
 {f21:Addr}{e21:FuncData}(d21:DefIn K "_law_right" wu f21 e21)
 {f22:Addr}{e22:FuncData}(d22:DefIn K "law" VX f22 e22)
 {tk0:Tok}(v0:PySem.W.nsIn K mainGlobals "MOST_ROWS" =some (some (.int 6 tk0)))
 {tk1:Tok}(v1:PySem.W.nsIn K mainGlobals "MOST_TURNS" =some (some (.int 6 tk1)))
 (z:zsB K=true)
 : ∃fd:FuncData,(∀ (s:Shared) (v:Value),BindsTo s fd ⟨[v],[]⟩ [("_law_script",v)])/\ ∀base:Heap,K.In base->base.Ns mainGlobals mg->Bm mg base->FnOk l.prog w K mg base CX0 7 fa fd ["_law_script"] (LSp K Xk):=by
 have e:=hfa.symm.trans (d22.nm X G);cases e;have yj: ∃tk,mg "MOST_ROWS" =some (.int 6 tk):=⟨_,PySem.W.mg_of X G v0⟩;have wy: ∃tk,mg "MOST_TURNS" =some (.int 6 tk):=⟨_,PySem.W.mg_of X G v1⟩;have Z:=Bx X G z;obtain⟨_,_,kV,dc,pm,an,cd,ct,_,rfl,_⟩:=d22.fn.ex;refine⟨PySem.W.fnOf "law" "law" (wf VX) (zt VX) (jj VX) .none kV dc pm an cd ct,λs v=> .of_eq rfl,λbase _ _ B=> ?_⟩;have JP:=λn=>d0.cal l w base X G (Yy (n:=n+0) Z d0.fn)
 have Jk:=λn=>d1.cal l w base X G (Wl (n:=n+1) Z d1.fn (JP (n+0)))
 have Jw:=λn=>d2.cal l w base X G (Jf (n:=n+1) Z d2.fn (JP (n+0)))
 have vx:=λn=>d3.cal l w base X G (yW (n:=n+2) Z d3.fn (Jw (n+0)) yj)
 have WQ:=λn=>d4.cal l w base X G (Zj (n:=n+3) Z d4.fn (vx (n+0)))
 have DE:=λn=>d5.cal l w base X G (QY (n:=n+0) Z d5.fn)
 have YT:=λn=>d6.cal l w base X G (Wm (n:=n+2) Z d6.fn (Jk (n+0)))
 have YU:=λn=>d7.cal l w base X G (Wo (n:=n+3) Z d7.fn (YT (n+0)) (Jk (n+1)) (DE (n+2)) wy)
 have WP:=λn=>d8.cal l w base X G (Zk (n:=n+4) Z d8.fn (WQ (n+0)) (YU (n+0)))
 have YR:=λn=>d9.cal l w base X G (Wp (n:=n+0) Z d9.fn)
 have Ug:=λn=>d10.cal l w base X G (Yz (n:=n+0) Z d10.fn)
 have jU:=λn=>d11.cal l w base X G (Wq (n:=n+0) Z d11.fn)
 have WO:=λn=>d12.cal l w base X G (Zl (n:=n+0) Z d12.fn)
 have Uf:=λn=>d13.cal l w base X G (YA (n:=n+1) Z d13.fn (jU (n+0)))
 have YS:=λn=>d14.cal l w base X G (Wr (n:=n+1) Z d14.fn (jU (n+0)))
 have WM:=λn=>d15.cal l w base X G (Zm (n:=n+1) Z d15.fn (jU (n+0)))
 have WK:=λn=>d16.cal l w base X G (Zn (n:=n+1) Z d16.fn (jU (n+0)))
 have WN:=λn=>d17.cal l w base X G (Zo (n:=n+1) Z d17.fn (WO (n+0)))
 have yl:=λn=>d18.cal l w base X G (wI (n:=n+2) Z d18.fn (WK (n+0)) (jU (n+1)))
 have Ue:=λn=>d19.cal l w base X G (YB (n:=n+0) Z d19.fn)
 have YQ:=λn=>d20.cal l w base X G (Ws (n:=n+1) Z d20.fn (jU (n+0)))
 have WL:=λn=>d21.cal l w base X G (Zp (n:=n+5) Z d21.fn (WN (n+3)) (WP (n+0)))
 exact Nb (n:=6) Z d22.fn (WL 0) (YR 5) (Ug 5) (YS 4) (yl 3) (jU 5) (WM 4) (Uf 4) (Ue 5) (YQ 4)
end My
namespace PySem.W.Fast
def tw2369179682786666527:=()
def tw3274866729528676160:=()
def tw8211097426482989725:=()
def tw12879538648810374955:=()
def tw6676879719744830572:=()
def tw17509183299599915677:=()
def tw16416330919660242252:=()
def tw16908350847874286032:=()
def tw16554987836559280209:=()
def tw10696595694571396096:=()
def tw7129157363233438341:=()
def tw3560951346038871894:=()
def tw5749368979798419445:=()
def tw16273285919898542128:=()
def tw11970986722243715769:=()
def tw8509229302811162360:=()
def tw15187515909393005023:=()
def tw5459128659167638641:=()
def tw2889603135860501449:=()
def tw8487214376191358339:=()
def tw7219011818420742088:=()
def tw1013174396468651370:=()
def tw2325908793172715546:=()
def tw16094129859573429007:=()
def tw6957600811295715210:=()
def tw12173477763999727756:=()
def tw3835229430490851528:=()
def tw806183845985153062:=()
def tw10831230736454787677:=()
def tw11476399927209814076:=()
def tw14476579485569375264:=()
def tw5582868833972653014:=()
def tw5962569028199029830:=()
def tw1918591531150319768:=()
def tw9538114867787447771:=()
def tw3329479196145777264:=()
def tw13283202374506933833:=()
def tw11079084407739664856:=()
def tw7647789196075749134:=()
def tw17643694521815738576:=()
def tw8105111851093473685:=()
def tw904084328648863674:=()
def tw7551672065628387904:=()
def tw15420029264952600943:=()
def tw17854809817155921787:=()
def tw11403647360668386924:=()
def tw7890707872820642069:=()
def tw6791862883312031124:=()
def tw177168759955242775:=()
def tw3062220211995857288:=()
def tw13827943675292084941:=()
def tw1001025531397681401:=()
def tw12248184798956918974:=()
def tw16288552834367020876:=()
def tw7177304447695140519:=()
def tw4981763611616849014:=()
def tw9923012012546107923:=()
def tw17673992720616739174:=()
def tw5516680927549928639:=()
def tw16469484149715917473:=()
def tw17921264334852651426:=()
def tw9423290051159244087:=()
def tw17608453299400882541:=()
def tw169035983843319917:=()
def tw8548585301977267298:=()
def tw13203233021235317290:=()
def tw5801974612545041724:=()
def tw13449179535043195729:=()
def tw2711386895821466857:=()
def tw4835672664067093475:=()
def tw4719042918499030346:=()
def tw11630362584447310170:=()
def tw3750051047238727331:=()
def tw2402505316654869798:=()
def tw14363791687125735400:=()
def tw8021402448907045404:=()
def tw10664168479287583654:=()
def tw16545725366549676441:=()
def tw1924156653424167902:=()
end PySem.W.Fast
open PySem PySem.W PyProof.Rows
set_option maxRecDepth 100000 in
set_option maxHeartbeats 0 in
theorem PySem.Challenge.cw_firstpowers_k28_turns_by_anybody_holds : PySem.Challenge.rw_firstpowers_k28_turns_by_anybody.Holds := by
  w_on; o_law; k_head; (case hw => w_witness2)
  k_fill
  refine L2.QK (l := PySem.Challenge.rw_firstpowers_k28_turns_by_anybody) (k := 7) (x := "_law_script") rfl rfl ⟨rfl, by decide, by decide, rfl⟩ (fun w h Y => PySem.W.kIn_of Y) ?B ?F
  case B => intro w; kernel_rfl
  case F =>
    intro w mg fa h KX G hmg
    refine' My.Nc KX G hmg ?d0 ?d1 ?d2 ?d3 ?d4 ?d5 ?d6 ?d7 ?d8 ?d9 ?d10 ?d11 ?d12 ?d13 ?d14 ?d15 ?d16 ?d17 ?d18 ?d19 ?d20 ?d21 ?d22 ?v0 ?v1 ?z
    case d0 | d1 | d2 | d3 | d4 | d5 | d6 | d7 | d8 | d9 | d10 | d11 | d12 | d13 | d14 | d15 | d16 | d17 | d18 | d19 | d20 | d21 | d22 => refine' L2.MT ?a ?l ?c ?k; (case a => k_is); (case l => k_is); (case c => k_is); (case k => k_is)
    case v0 | v1 => k_is
    case z => kernel_rfl
