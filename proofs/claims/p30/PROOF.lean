import PyProof.Rows.All
import Wide.All
import OpenK.AllK
import Wide.FinOn
import Lean
import PyProof.EqAt
import PyProof.EqKinds
import PyProof.TupleCall
import PyProof.Rows.TopTwo
import KE.KIsAll
import PyProof.ExcAttrAll.ValueError
import KE.KTryMore
import KE.KRevIter
import PyProof.SetRoads
import PySem.Challenge.RW_firstpowers_k30_rounds_refused
set_option Elab.async false
set_option linter.all false
set_option maxRecDepth 100000
abbrev G0a:= @List.length_append
abbrev G0b:= @List.getElem?_eq_getElem
abbrev G0c:= @List.length_map
abbrev G0d:= @List.getElem?_cons_zero
abbrev G0e:= @List.getElem?_cons_succ
abbrev G0f:= @PySem.Heap.get?_push_of_some
abbrev G0g:= @List.mem_singleton
abbrev G0h:= @List.length_cons
abbrev G0i:= @List.mem_of_getElem?
abbrev G0j:= @PySem.wpAny_pure
abbrev G0k:= @Nat.le_refl
abbrev G0l:= @List.append_assoc
abbrev G0m:= @List.length_nil
abbrev G0n:= @Option.some.injEq
abbrev G0o:= @List.getElem?_eq_some_iff
abbrev G0p:= @List.mem_append
abbrev G0q:= @List.getElem?_append_right
abbrev G0r:= @List.mem_cons
abbrev G0s:= @Bool.false_ne_true
abbrev G0t:= @List.mem_append_right
abbrev G0u:= @List.size_toArray
abbrev G0v:= @List.nil_append
abbrev G0w:= @List.map_cons
abbrev G0x:= @List.set_cons_succ
abbrev G0y:= @List.set_cons_zero
abbrev G0z:= @List.cons_append
abbrev G0A:= @PySem.Heap.lt_size
abbrev G0B:= @Nat.lt_of_lt_of_le
abbrev G0C:= @List.mem_cons_self
abbrev G0D:= @PySem.wpAny_mono
abbrev G0E:= @List.length_take
abbrev G0F:= @exists_eq_left'
abbrev G0G:= @List.mem_cons_of_mem
abbrev G0H:= @List.getElem?_map
abbrev G0I:= @List.getElem?_append_left
abbrev G0J:= @List.take_append_drop
abbrev G0K:= @List.take_of_length_le
abbrev G0L:= @List.length_reverse
abbrev G0M:= @List.map_nil
abbrev G0N:= @List.pairwise_append
abbrev G0O:= @List.mem_of_mem_take
abbrev G0P:= @decide_eq_true
abbrev G0Q:= @Nat.ne_of_lt
abbrev G0R:= @decide_eq_false
abbrev G0S:= @PySem.Heap.get?_push_size
abbrev G0T:= @Bool.and_eq_true
abbrev G0U:= @List.not_mem_nil
abbrev G0V:= @Array.length_toList
abbrev G0W:= @Nat.le_of_lt
abbrev G0X:= @List.length_drop
abbrev G0Y:= @List.all_eq_true
abbrev G0Z:= @Array.toList_append
abbrev G00:= @List.pairwise_singleton
abbrev G01:= @Nat.le_trans
abbrev G02:= @PySem.boot_len
abbrev G03:= @List.getD_eq_getElem?_getD
abbrev G04:= @List.mem_of_mem_drop
abbrev G05:= @List.mem_map
abbrev G06:= @Array.getElem?_toList
abbrev G07:= @List.map_append
abbrev G08:= @List.mem_append_left
abbrev G09:= @List.lookup_cons
abbrev G1a:= @List.mem_reverse
abbrev G1b:= @Option.some.inj
abbrev G1c:= @PyProof.Rows.slot_tuple_getitem
abbrev G1d:= @List.take_add_one
abbrev G1e:= @PySem.mem_of_lookup
abbrev G1f:= @PySem.wpAny_execs_cons
abbrev G1g:= @List.getElem_mem
abbrev G1h:= @PySem.PassesOwn.never
abbrev G1i:= @PySem.wpAny_truthy_bool
abbrev G1j:= @List.reverse_perm
abbrev G1k:= @List.getElem?_set_ne
abbrev G1l:= @Nat.zero_le
abbrev G1m:= @List.drop_eq_nil_of_le
abbrev G1n:= @Nat.lt_irrefl
abbrev G1o:= @List.getElem?_drop
abbrev G1p:= @List.getElem?_take_of_lt
abbrev G1q:= @PySem.wpAny_newObj_type
abbrev G1r:= @decide_eq_true_iff
abbrev G1s:= @PySem.W.kia_one
abbrev G1t:= @List.append_nil
abbrev G1u:= @Option.isSome_iff_exists
abbrev G1v:= @of_decide_eq_true
abbrev G1w:= @PySem.wpAny_holding
abbrev G1x:= @Bool.eq_iff_iff
abbrev G1y:= @List.replicate_succ
abbrev G1z:= @List.drop_sublist
abbrev G1A:= @List.mem_range
abbrev G1B:= @List.length_singleton
abbrev G1C:= @PySem.wpAny_Call_Name_kw
abbrev G1D:= @PySem.wpAny_call_entry
abbrev G1E:= @List.drop_append_of_le_length
abbrev G1F:= @List.take_append_of_le_length
abbrev G1G:= @PySem.wpAny_callSpecial?_slot
abbrev G1H:= @List.filter_cons_of_pos
abbrev G1I:= @List.filter_cons_of_neg
abbrev G1J:= @Nat.ne_of_gt
abbrev G1K:= @List.map_map
abbrev G1L:= @List.take_sublist
abbrev G1M:= @List.length_range
abbrev G1N:= @List.mem_filter
abbrev G1O:= @List.getElem_of_mem
abbrev G1P:= @List.map_congr_left
abbrev G1Q:= @List.getElem?_set_self
abbrev G1R:= @PySem.F.slot_tuple_iterator_next
abbrev G1S:= @List.length_replicate
abbrev G1T:= @List.getElem?_eq_none
abbrev G1U:= @List.all_map
abbrev G1V:= @List.length_filter_le
abbrev G1W:= @Nat.zero_add
abbrev G1X:= @List.filter_append
abbrev G1Y:= @List.drop_drop
abbrev G1Z:= @PySem.W.hideAll_none
abbrev G10:= @or_false
abbrev G11:= @Array.toList_extract
abbrev G12:= @PySem.wpAny_passesOwn
abbrev G13:= @List.flatten_cons
abbrev G14:= @Bool.or_eq_true
abbrev G15:= @Nat.add_zero
abbrev G16:= @PySem.W.hideAll_get
abbrev G17:= @List.getElem?_replicate
abbrev G18:= @List.length_eq_zero_iff
abbrev G19:= @Nat.lt_succ_self
abbrev G2a:= @PySem.W.cellsFrom_some
abbrev G2b:= @Option.map_eq_some_iff
abbrev G2c:= @List.mem_filterMap
abbrev G2d:= @Nat.lt_of_le_of_lt
abbrev G2e:= @PyProof.Rows.boot_isinstance
abbrev G2f:= @Int.emod_lt_of_pos
abbrev G2g:= @PySem.wpAny_execs_nil
abbrev G2h:= @PyProof.Rows.callWith_type1
abbrev G2i:= @List.find?_cons
abbrev G2j:= @List.perm_append_comm
abbrev G2k:= @List.getElem?_reverse
abbrev G2l:= @PyProof.Rows.boot_all
abbrev G2m:= @Array.toList_push
abbrev G2n:= @List.pairwise_map
abbrev G2o:= @PySem.wpAny_newFunctionEnv_cells
abbrev G2p:= @List.pairwise_iff_getElem
abbrev G2q:= @Nat.min_le_right
abbrev G2r:= @beq_eq_false_iff_ne
abbrev G2s:= @List.getElem?_range
abbrev G2t:= @PySem.F.args_tuple_add_2
abbrev G2u:= @PySem.AutoSeq1.wpAny_loadPart'
abbrev G2v:= @PySem.wpAny_standAt
abbrev G2w:= @PySem.Calls.spliced_cons
abbrev G2x:= @List.of_mem_zip
abbrev G2y:= @List.zip_cons_cons
abbrev G2z:= @PySem.F.entry_tuple_add
abbrev G2A:= @PySem.F.plainAttrs_list
abbrev G2B:= @List.pairwise_cons
abbrev G2C:= @List.range_succ
abbrev G2D:= @Int.emod_nonneg
abbrev G2E:= @PySem.F.slot_tuple_add
abbrev G2F:= @PySem.wpAny_field
abbrev G2G:= @beq_iff_eq
abbrev G2H:= @List.getElem?_set
abbrev G2I:= @Nat.lt_of_succ_le
abbrev G2J:= @Nat.not_lt
abbrev G2K:= @decide_eq_true_eq
abbrev G2L:= @List.reverse_cons
abbrev G2M:= @Int.toNat_natCast
abbrev G2N:= @PySem.codeAny_mono
abbrev G2O:= @PySem.codeAny_call_function
abbrev G2P:= @PyProof.Rows.callWith_builtin1
abbrev G2Q:= @PySem.F.slot_tuple_lt
abbrev G2R:= @Nat.lt_trans
abbrev G2S:= @List.pairwise_reverse
abbrev G2T:= @List.take_length
abbrev G2U:= @List.eq_nil_of_length_eq_zero
abbrev G2V:= @PySem.Around.frames_deeper
abbrev G2W:= @Nat.pow_le_pow_right
abbrev G2X:= @Array.toList_reverse
abbrev G2Y:= @PySem.F.args_tuple_iterator_next_1
abbrev G2Z:= @Bool.true_and
abbrev G20:= @List.nodup_cons
abbrev G21:= @PyProof.Rows.entry_tuple_getitem
abbrev G22:= @PySem.F.slot_int_rmul
abbrev G23:= @List.forIn_cons
abbrev G24:= @PySem.F.entry_tuple_iterator_next
abbrev G25:= @PySem.Heap.get?_update_ne
abbrev G26:= @Int.fdiv_eq_ediv_of_nonneg
abbrev G27:= @Int.fmod_eq_emod_of_nonneg
abbrev G28:= @Array.isEmpty_eq_false_iff
abbrev G29:= @Array.toList_setIfInBounds
abbrev G3a:= @PySem.W.of_hideAll
abbrev G3b:= @PySem.W.callWith_K
abbrev G3c:= @PySem.W.codeRec_of
abbrev G3d:= @PySem.wpAny_pyIter_tuple
abbrev G3e:= @PyProof.Rows.slicePart_none
abbrev G3f:= @List.getElem?_eq_none_iff
abbrev G3g:= @Decidable.byContradiction
abbrev G3h:= @List.getLastD_eq_getLast?
abbrev G3i:= @List.getLast?_eq_getElem?
abbrev G3j:= @PySem.wpAny_Assign_Name
abbrev G3k:= @PySem.wpAny_rule
abbrev G3l:= @PySem.wpAny_pyIter_list
abbrev G3m:= @PySem.Calls.spliced_nil
abbrev G3n:= @PySem.wpAny_call
abbrev G3o:= @List.zip_nil_left
abbrev G3p:= @PySem.wpAny_sequenceKey
abbrev G3q:= @PySem.call_meets
abbrev G3r:= @PySem.W.Looks.here
abbrev G3s:= @Array.size_setIfInBounds
abbrev G3t:= @List.ext_getElem?
abbrev G3u:= @List.mapM_toArray
abbrev G3v:= @List.flatMap_cons
abbrev G3w:= @PySem.F.args_tuple_lt_2
abbrev G3x:= @decide_eq_false_iff_not
abbrev G3y:= @PySem.F.slot_list_count
abbrev G3z:= @Nat.add_sub_cancel_left
abbrev G3A:= @Nat.add_assoc
abbrev G3B:= @PySem.noFill_tuple_add
abbrev G3C:= @List.all_toArray
abbrev G3D:= @PySem.F.entry_tuple_lt
abbrev G3E:= @PySem.wpAny_typeOf
abbrev G3F:= @Nat.le_of_eq
abbrev G3G:= @Nat.min_eq_left
abbrev G3H:= @PySem.W.kat_nil
abbrev G3I:= @List.filter_nil
abbrev G3J:= @if_false
abbrev G3K:= @PySem.typeIs_int
abbrev G3L:= @List.take_zero
abbrev G3M:= @List.drop_take
abbrev G3N:= @List.take_take
abbrev G3O:= @PySem.sizeLine_eq
abbrev G3P:= @List.map_id
namespace L2
open PySem PySem.Spec PyProof.Rows
abbrev Key:=Sum Int Str
def jhE:Key->Value->Bool
 | .inl k,v=>Value.isInt k v
 | .inr x,v=>Value.isStrOf x v
def jqY (w:World):Key->Int
 | .inl k=>hashInt k
 | .inr x=>hashStr w x
theorem jaP: ∀ {k:Key} {v:Value},jhE k v=true->(∃i t,k=Sum.inl i/\v=Value.int i t)\/(∃x t,k=Sum.inr x/\v=Value.str x t)
 | .inl i,v,h=>by
  obtain⟨t,e⟩:=Value.isInt_shape (k:=i) (v:=v) h
  exact .inl ⟨i,t,rfl,e⟩
 | .inr x,v,h=>by
  obtain⟨t,e⟩:=Value.isStrOf_shape (x:=x) (v:=v) h
  exact .inr ⟨x,t,rfl,e⟩
theorem jif (i:Int) (t:Tok):jhE (.inl i) (.int i t)=true:=by simp [jhE,Value.isInt]
theorem jig (x:Str) (t:Tok):jhE (.inr x) (.str x t)=true:=by simp [jhE,Value.isStrOf]
theorem jm6 (a b:Int):decide ((Sum.inl a:Key)=Sum.inl b)=(a==b):=by
 by_cases e:a=b
 ·subst e;simp
 ·have h: ¬ (Sum.inl a:Key)=Sum.inl b:=λq=>e (Sum.inl.inj q)
  rw [G0R h]
  exact(G2r.mpr e).symm
theorem jm7 (a b:Str):decide ((Sum.inr a:Key)=Sum.inr b)=decide (a=b):=by
 by_cases e:a=b
 ·subst e;simp
 ·have h: ¬ (Sum.inr a:Key)=Sum.inr b:=λq=>e (Sum.inr.inj q)
  rw [G0R h,G0R e]
theorem jm8 (a:Int) (b:Str):decide ((Sum.inl a:Key)=Sum.inr b)=false:=G0R (λq=>nomatch q)
theorem jm9 (a:Str) (b:Int):decide ((Sum.inr a:Key)=Sum.inl b)=false:=G0R (λq=>nomatch q)
def jbf (prog:Program) (w:World):PySem.KeyKind prog w Key where
 is:=jhE
 hash:=jqY w
 inj:=λv a b ha hb=>by
  rcases jaP ha with ⟨i,t,rfl,rfl⟩|⟨x,t,rfl,rfl⟩
  ·rcases jaP hb with ⟨j,u,rfl,e⟩|⟨y,u,rfl,e⟩
   ·injection e with e1 _;rw [e1]
   ·exact nomatch e
  ·rcases jaP hb with ⟨j,u,rfl,e⟩|⟨y,u,rfl,e⟩
   ·exact nomatch e
   ·injection e with e1 _;rw [e1]
 byValue:=λk v h=>by
  rcases jaP h with ⟨i,t,rfl,rfl⟩|⟨x,t,rfl,rfl⟩<;>rfl
 pyHash:=λhv h=>by
  rcases jaP hv with ⟨i,t,rfl,rfl⟩|⟨x,t,rfl,rfl⟩
  ·exact wpAny_pyHash_int h
  ·exact wpAny_pyHash_str h
 eqBool:=λhu hv h=>by
  rcases jaP hu with ⟨i,t,rfl,rfl⟩|⟨x,t,rfl,rfl⟩
  ·rcases jaP hv with ⟨j,u,rfl,rfl⟩|⟨y,u,rfl,rfl⟩
   ·rw [jm6] at h;exact wpAny_eqBool_int h
   ·rw [jm8] at h;exact SeqAt.EqAt.int_str i t y u _ _ _ _ h
  ·rcases jaP hv with ⟨j,u,rfl,rfl⟩|⟨y,u,rfl,rfl⟩
   ·rw [jm9] at h;exact SeqAt.EqAt.str_int x t j u _ _ _ _ h
   ·rw [jm7] at h;exact wpAny_eqBool_str h
 «strs» :=λk x t v h=>by
  rcases jaP h with ⟨i,u,rfl,e⟩|⟨y,u,rfl,e⟩
  ·exact nomatch e
  ·injection e with e1 _
   subst e1
   cases v<;>rfl
theorem jgC (prog:Program) (w:World) (i:Int) (t:Tok):(jbf prog w).is (.inl i) (.int i t)=true:=jif i t
theorem jgD (prog:Program) (w:World) (x:Str) (t:Tok):(jbf prog w).is (.inr x) (.str x t)=true:=jig x t
inductive V where
 |non|bl (b:Bool)|int (i:Int)|str (x:Str)|byt (b:Array UInt8)|flt (b:UInt64)|ref (a:Addr)|ty (n:String)
 deriving DecidableEq
def RelV:V->Value->Prop
 | .non,u=>u=Value.none
 | .bl b,u=>u=Value.bool b
 | .int i,u=> ∃t,u=Value.int i t
 | .str x,u=> ∃t,u=Value.str x t
 | .byt b,u=> ∃t,u=Value.bytes b t
 | .flt b,u=> ∃t,u=Value.float b t
 | .ref a,u=>u=Value.ref a
 | .ty n,u=>u=Value.type n
abbrev Vals:List V->List Value->Prop:=Paired RelV
theorem Vals.length {xs:List V} {us:List Value} (r:Vals xs us):xs.length=us.length:=Paired.length r
theorem Vals.get: ∀ {xs:List V} {us:List Value} {i:Nat} {x:V},Vals xs us->xs[i]? =some x-> ∃u,us[i]? =some u/\RelV x u
 |_,_,_,_,.nil,e=>by simp at e
 |_,_,0,_,.cons r _,e=>by simp at e;subst e;exact⟨_,rfl,r⟩
 |_,_,i+1,x,.cons _ t,e=>by
  obtain⟨u,h1,h2⟩:=Vals.get (i:=i) (x:=x) t (by simpa using e)
  exact⟨u,by simpa using h1,h2⟩
theorem Vals.set {x:V} {u:Value} (r:RelV x u): ∀ {xs:List V} {us:List Value} (i:Nat),Vals xs us->Vals (xs.set i x) (us.set i u)
 |_,_,_,.nil=> .nil
 |_,_,0,.cons _ t=> .cons r t
 |_,_,i+1,.cons q t=> .cons q (Vals.set r i t)
theorem Vals.append: ∀ {xs ys:List V} {us ws:List Value},Vals xs us->Vals ys ws->Vals (xs++ys) (us++ws)
 |_,_,_,_,.nil,s=>s
 |_,_,_,_,.cons r t,s=> .cons r (Vals.append t s)
theorem Vals.take: ∀ {xs:List V} {us:List Value} (n:Nat),Vals xs us->Vals (xs.take n) (us.take n)
 |_,_,0,_=> .nil
 |_,_,_+1,.nil=> .nil
 |_,_,n+1,.cons r t=> .cons r (Vals.take n t)
theorem Vals.drop: ∀ {xs:List V} {us:List Value} (n:Nat),Vals xs us->Vals (xs.drop n) (us.drop n)
 |_,_,0,r=>r
 |_,_,_+1,.nil=> .nil
 |_,_,n+1,.cons _ t=>Vals.drop n t
def RelO:Option V->Option Value->Prop
 |some v,some u=>RelV v u
 |none,none=>True
 |_,_=>False
def KV {κ:Type}:List (κ×V)->List (κ×Value)->Prop:=Paired λ(p:κ×V) (q:κ×Value)=>p.1=q.1/\RelV p.2 q.2
def kV:Key->V
 | .inl i=> .int i
 | .inr x=> .str x
inductive HO where
 /-- a list -/
 |lst (xs:List V)
 /-- a tuple (never changes) -/
 |tup (xs:List V)
 /-- a dict whose keys are ints and texts;one whose keys are tuples of ints and texts (the empty one is both) -/
 |dK (kvs:List (Key×V))|dT (kvs:List (List Key×V))
 /-- a set of ints: its members,its size -/
 |set (S:Int->Bool) (n:Nat)
 /-- an instance of the class at C,its dict at dx,its attributes -/
 |ins (C dx:Addr) (fs:List (Str×V))
 /-- the dict of the instance at x -/
 |own (x:Addr)
 /-- the dict of an exception -/
 |xd (fs:List (Str×V))
 /-- a bound method,f of x -/
 |met (f x:Addr)
 /-- a range object lo,lo+1,.. below hi -/
 |rng (lo hi:Int)
 /-- a thing that is known to the object (the script;a dict while a loop walks it):read,never written while it is so -/
 |frz (o:Obj) (u:HO)
 /-- a code object's table -/
 |tbl (ps:Array Value)
 /-- any other thing,by what is true of its one object (a def of one's own: SetO a S n:=HO.ext λh=> ..) -/
 |ext (φ:Heap->Prop)
abbrev Hp:=Addr->Option HO
def upd (H:Hp) (a:Addr) (o:HO):Hp:=λb=>if b=a then some o else H b
theorem jaj {H:Hp} {a:Addr} {o:HO}:upd H a o a=some o:=by unfold upd;rw [if_pos rfl]
theorem jak {H:Hp} {a b:Addr} {o:HO} (h:b≠a):upd H a o b=H b:=by unfold upd;rw [if_neg h]
theorem jih {H:Hp} {a b:Addr} {o u:HO} (h:H a=some o) (h' :H b=some u) (d:o≠u):a≠b:=by
 intro e;subst e;rw [h] at h';exact d (G1b h')
theorem jal {H:Hp} {a b:Addr} {o:HO} (h:H a=some o) (h' :H b=none):a≠b:=by
 intro e;subst e;rw [h] at h';cases h'
def IsTupN (h:Heap) (a:Addr) (items:Array Value):Prop:= ∃o,h.get? a=some o/\o.cls= .type "tuple" /\o.dict=none/\ ∃n,o.data= .seq items n
theorem IsTupN.tup {h:Heap} {a:Addr} {items:Array Value} (x:IsTupN h a items):IsTup h a items:=let ⟨o,e,c,_,n,d⟩:=x;⟨o,e,c,n,d⟩
theorem IsTupN.new (h:Heap) (items:Array Value):IsTupN (h.push {cls:= .type "tuple",data:= .seq items}) h.objs.size items:=⟨_,G0S _ rfl,rfl,rfl,_,rfl⟩
section
variable (P:Program) (w:World)
def ObjOk (H:Hp) (h:Heap) (a:Addr):HO->Prop
 | .lst xs=>xs.length<=sizeLine/\ ∃ (its:List Value) (n:Nat),Vals xs its/\h.get? a=some {cls:= .type "list",data:= .seq its.toArray n}
 | .tup xs=>xs.length<=sizeLine/\ ∃its:List Value,Vals xs its/\IsTupN h a its.toArray
 | .dK kvs=>kvs.length<=sizeLine/\(a==sysModules)=false/\ ∃vs,KV kvs vs/\h.DictOf (jbf P w) a vs
 | .dT kvs=>kvs.length<=sizeLine/\(a==sysModules)=false/\ ∃xs:List (List Key×Addr×Value),
  Paired (λ(p:List Key×V) (q:List Key×Addr×Value)=>p.1=q.1/\H q.2.1=some (.tup (p.1.map kV))/\RelV p.2 q.2.2) kvs xs/\
  ∃o es ep,h.get? a=some o/\o.ExactDict/\o.data= .dict es ep/\es.toList=xs.map (entryOfKey (tupleKind (jbf P w)))/\(xs.map (·.1)).Nodup
 | .set S n=>h.SetOf (intKind P w) a S n
 | .ins C dx fs=>H dx=some (.own a)/\fs.length<=1000/\dx≠a/\h.get? a=some (PySem.W.instObj C dx)/\
  ∃mA,h.Ns1 dx mA/\(∀f,RelO (fs.lookup f) (mA f))/\PySem.Within mA (fs.map (·.1))
 | .own _=> ∃o,h.get? a=some o
 | .xd fs=> ∃mA,h.Ns1 a mA/\ ∀f,RelO (fs.lookup f) (mA f)
 | .rng lo hi=> ∃t u v,h.get? a=some {cls:= .type "range",data:= .fields #[.int lo t,.int hi u,.int 1 v]}
 | .frz o u=>h.get? a=some o/\ObjOk H h a u
 | .tbl ps=>h.get? a=some {cls:= .none,data:= .fields ps}
 | .met f x=>h.get? a=some (PySem.W.methodObj (.ref f) (.ref x))
 | .ext φ=>φ h/\(∃o,h.get? a=some o)/\ ∀h1 h2:Heap,φ h1->(∀o,h1.get? a=some o->h2.get? a=some o)->φ h2
def HOk (H:Hp) (h:Heap):Prop:= ∀a o,H a=some o->ObjOk P w H h a o
end
section
variable {P:Program} {w:World} {H H' :Hp} {h h' :Heap} {a:Addr} {o:HO}
theorem ObjOk.lt (x:ObjOk P w H h a o):a<h.objs.size:=by
 cases o with
 |lst xs=>obtain⟨_,_,_,_,e⟩:=x;exact G0A e
 |tup xs=>obtain⟨_,_,_,p⟩:=x;exact p.tup.lt
 |dK kvs=>obtain⟨_,_,_,_,o,_,_,e,_⟩:=x;exact G0A e
 |dT kvs=>obtain⟨_,_,_,_,o,_,_,e,_⟩:=x;exact G0A e
 |set S n=>obtain⟨o,_,_,_,e,_⟩:=x;exact G0A e
 |ins C dx fs=>obtain⟨_,_,_,e,_⟩:=x;exact G0A e
 |own y=>obtain⟨_,e⟩:=x;exact G0A e
 |xd fs=>obtain⟨_,⟨_,_,_,e,_⟩,_⟩:=x;exact G0A e
 |rng lo hi=>obtain⟨_,_,_,e⟩:=x;exact G0A e
 |frz ob u=>obtain⟨e,_⟩:=x;exact G0A e
 |tbl ps=>exact G0A (show h.get? a=some _ from x)
 |met f y=>exact G0A (show h.get? a=some _ from x)
 |ext φ=>obtain⟨_,⟨_,e⟩,_⟩:=x;exact G0A e
theorem Paired.mapP {α β:Type} {F G:α->β->Prop}: ∀ {l₁:List α} {l₂:List β},Paired F l₁ l₂->(∀a b,F a b->G a b)->Paired G l₁ l₂
 |_,_,.nil,_=> .nil
 |_,_,.cons r t,f=> .cons (f _ _ r) (Paired.mapP t f)
theorem ObjOk.stay (x:ObjOk P w H h a o) (k: ∀b u,(b=a\/H b=some (.own a))->h.get? b=some u->h'.get? b=some u)
 (ho: ∀b,H b=some (.own a)->H' b=some (.own a)) (ht: ∀b xs,H b=some (.tup xs)->H' b=some (.tup xs)):ObjOk P w H' h' a o:=by
 induction o with
 |lst xs=>obtain⟨z,its,n,r,e⟩:=x;exact⟨z,its,n,r,k _ _ (.inl rfl) e⟩
 |tup xs=>obtain⟨z,its,r,ob,e,c⟩:=x;exact⟨z,its,r,ob,k _ _ (.inl rfl) e,c⟩
 |dK kvs=>obtain⟨z,y,vs,r,ob,es,ep,e,c⟩:=x;exact⟨z,y,vs,r,ob,es,ep,k _ _ (.inl rfl) e,c⟩
 |dT kvs=>
  obtain⟨z,y,xs,r,ob,es,ep,e,c⟩:=x
  exact⟨z,y,xs,Paired.mapP r λp q z=>⟨z.1,ht _ _ z.2.1,z.2.2⟩,ob,es,ep,k _ _ (.inl rfl) e,c⟩
 |set S n=>obtain⟨ob,es,ep,t,e,c⟩:=x;exact⟨ob,es,ep,t,k _ _ (.inl rfl) e,c⟩
 |ins C dx fs=>
  obtain⟨d,z,ne,e,mA,⟨od,es,ep,e2,c⟩,r⟩:=x
  exact⟨ho _ d,z,ne,k _ _ (.inl rfl) e,mA,⟨od,es,ep,k _ _ (.inr d) e2,c⟩,r⟩
 |own y=>obtain⟨ob,e⟩:=x;exact⟨ob,k _ _ (.inl rfl) e⟩
 |xd fs=>obtain⟨mA,⟨od,es,ep,e,c⟩,r⟩:=x;exact⟨mA,⟨od,es,ep,k _ _ (.inl rfl) e,c⟩,r⟩
 |rng lo hi=>obtain⟨t,u,v,e⟩:=x;exact⟨t,u,v,k _ _ (.inl rfl) e⟩
 |frz ob u ih=>obtain⟨e,q⟩:=x;exact⟨k _ _ (.inl rfl) e,ih q⟩
 |tbl ps=>
  have e:h.get? a=some {cls:= .none,data:= .fields ps}:=x
  show h'.get? a=some {cls:= .none,data:= .fields ps}
  exact k a _ (.inl rfl) e
 |met f y=>
  have e:h.get? a=some (PySem.W.methodObj (.ref f) (.ref y)):=x
  show h'.get? a=some (PySem.W.methodObj (.ref f) (.ref y))
  exact k a _ (.inl rfl) e
 |ext φ=>obtain⟨p,⟨o,e⟩,st⟩:=x;exact⟨st _ _ p λo q=>k _ _ (.inl rfl) q,⟨o,k _ _ (.inl rfl) e⟩,st⟩
theorem HOk.lt (x:HOk P w H h) (e:H a=some o):a<h.objs.size:=(x a o e).lt
theorem HOk.fresh (x:HOk P w H h) (e:h.objs.size<=a):H a=none:=by
 cases q:H a with
 |none=>rfl
 |some u=>exact absurd (G0B (x.lt q) e) (G1n _)
theorem HOk.kept (x:HOk P w H h) (k: ∀b u,h.get? b=some u->h'.get? b=some u):HOk P w H h' :=λa o e=>
 (x a o e).stay (λb u _ q=>k b u q) (λ_ q=>q) λ_ _ q=>q
theorem HOk.laid (x:HOk P w H h) (k: ∀b u,h.get? b=some u->h'.get? b=some u) (hp:h.objs.size<=a) (new:ObjOk P w (upd H a o) h' a o):HOk P w (upd H a o) h' :=λb u e=>by
 have hn:=x.fresh hp
 by_cases hb:b=a
 ·subst hb;rw [jaj] at e;cases e;exact new
 ·rw [jak hb] at e
  exact(x b u e).stay (λc v _ q=>k c v q) (λc q=>by rw [jak (jal q hn)];exact q) λc xs q=>by rw [jak (jal q hn)];exact q
end
def Rd (H:Hp) (a:Addr) (u:HO):Prop:=H a=some u\/ ∃o,H a=some (.frz o u)
theorem Rd.ok {P:Program} {w:World} {H:Hp} {h:Heap} {a:Addr} {u:HO} (r:Rd H a u) (x:HOk P w H h):ObjOk P w H h a u:=by
 rcases r with r|⟨o,r⟩
 ·exact x a u r
 ·obtain⟨_,q⟩:=x a _ r
  exact q
def Mut:Option HO->Prop
 |some (.lst _)=>True
 |some (.dK _)=>True
 |some (.dT _)=>True
 |some (.set _ _)=>True
 |some (.ins _ _ _)=>True
 |some (.ext _)=>True
 |_=>False
section
variable {P:Program} {w:World} {H:Hp} {h h' :Heap} {x e:Addr} {o' :HO}
theorem HOk.write (ok:HOk P w H h) (mu:Mut (H x)) (he:e=x\/H e=some (.own x)) (k: ∀b u,b≠e->h.get? b=some u->h'.get? b=some u) (heo: ∃u,h'.get? e=some u)
 (new:ObjOk P w (upd H x o') h' x o'):HOk P w (upd H x o') h' :=λb u q=>by
 have nown: ∀c y,H c=some (.own y)->c≠x:=λc y r z=>by subst z;rw [r] at mu;exact mu
 have ntup: ∀c xs,H c=some (.tup xs)->c≠x:=λc xs r z=>by subst z;rw [r] at mu;exact mu
 by_cases hb:b=x
 ·subst hb;rw [jaj] at q;cases q;exact new
 ·rw [jak hb] at q
  by_cases hbe:b=e
  ·have q' :H b=some (.own x):=by
    rcases he with z|z
    ·exact absurd (hbe.trans z) hb
    ·rw [hbe];exact z
   rw [q] at q';cases q'
   obtain⟨v,hv⟩:=heo
   exact⟨v,by rw [hbe];exact hv⟩
  ·refine(ok b u q).stay (λc v hc r=>k c v ?_ r) (λc r=>by rw [jak (nown c b r)];exact r) λc xs r=>by rw [jak (ntup c xs r)];exact r
   rcases hc with rfl|hc
   ·exact hbe
   ·rintro rfl
    rcases he with z|z
    ·exact nown c b hc z
    ·rw [hc] at z;cases z;exact hb rfl
end
structure Un (fs ex:List Addr) (H H' :Hp) (h h' :Heap):Prop where
 keep: ∀b o,h.get? b=some o->H b=none->b ∉ fs->b ∉ ex->h'.get? b=some o
 slot: ∀b o,h.get? b=some o->H b=none->b∈fs->b ∉ ex-> ∃sl,h'.get? b=some {o with slots:=sl}
 free: ∀b o,h.get? b=some o->H b=none->b ∉ ex->H' b=none
 there: ∀b o,h.get? b=some o->b ∉ ex-> ∃o',h'.get? b=some o'
 tups: ∀b xs,H b=some (.tup xs)->H' b=some (.tup xs)
 frzs: ∀b o u,H b=some (.frz o u)->H' b=some (.frz o u)
 tbls: ∀b ps,H b=some (.tbl ps)-> ∃more,H' b=some (.tbl (ps++more))
section
variable {fs fs' ex ex' :List Addr} {H H1 H2:Hp} {h h1 h2 h' :Heap} {a x e:Addr} {o:HO}
theorem Un.any (u:Un fs ex H H1 h h1) {b:Addr} {ob:Obj} (q:h.get? b=some ob) (n:H b=none) (hx:b ∉ ex): ∃sl,h1.get? b=some {ob with slots:=sl}:=by
 by_cases hb:b∈fs
 ·exact u.slot b ob q n hb hx
 ·exact⟨ob.slots,u.keep b ob q n hb hx⟩
theorem Un.kept (k: ∀b u,h.get? b=some u->h'.get? b=some u):Un fs ex H H h h' :=
 ⟨λb ob q _ _ _=>k b ob q,λb ob q _ _ _=>⟨ob.slots,k b ob q⟩,λ_ _ _ n _=>n,λb ob q _=>⟨ob,k b ob q⟩,λ_ _ q=>q,λ_ _ _ q=>q,λ_ ps q=>⟨#[],by rw [q];simp⟩⟩
theorem Un.refl:Un fs ex H H h h:=Un.kept λ_ _ q=>q
theorem Un.laid (k: ∀b u,h.get? b=some u->h'.get? b=some u) (hp:h.objs.size<=a) (hn:H a=none):Un fs ex H (upd H a o) h h' where
 keep:=λb u q _ _ _=>k b u q
 slot:=λb u q _ _ _=>⟨u.slots,k b u q⟩
 free:=λb u q n _=>by rw [jak (G0Q (G0B (G0A q) hp))];exact n
 there:=λb u q _=>⟨u,k b u q⟩
 tups:=λb xs q=>by rw [jak (jal q hn)];exact q
 frzs:=λb u xs q=>by rw [jak (jal q hn)];exact q
 tbls:=λb ps q=>⟨#[],by rw [jak (jal q hn),q];simp⟩
theorem Un.write (mu:Mut (H x)) (he:e=x\/H e=some (.own x)) (k: ∀b u,b≠e->h.get? b=some u->h'.get? b=some u) (heo: ∃u,h'.get? e=some u):Un fs ex H (upd H x o) h h' :=by
 have hx: ∀b,H b=none->b≠x:=λb n z=>by subst z;rw [n] at mu;exact mu
 have hb: ∀b,H b=none->b≠e:=λb n z=>by
  subst z
  rcases he with r|r
  ·exact hx b n r
  ·rw [n] at r;cases r
 have hm: ∀b u,H b=some u-> ¬Mut (some u)->b≠x:=λb u q nm z=>by subst z;rw [q] at mu;exact nm mu
 refine⟨λb u q n _ _=>k b u (hb b n) q,λb u q n _ _=>⟨u.slots,k b u (hb b n) q⟩,λb u q n _=>by rw [jak (hx b n)];exact n,λb u q _=> ?_,
  λb xs q=>by rw [jak (hm b _ q λz=>z)];exact q,λb u xs q=>by rw [jak (hm b _ q λz=>z)];exact q,λb ps q=>⟨#[],by rw [jak (hm b _ q λz=>z),q];simp⟩⟩
 by_cases hbe:b=e
 ·subst hbe;exact heo
 ·exact⟨u,k b u hbe q⟩
end
def trk (h:Heap) (H:Hp):List Addr:=(List.range h.objs.size).filter λa=>(H a).isSome
def jjX (h:Heap) (H:Hp):Heap:=PySem.W.hideAll h (trk h H)
theorem jii (h:Heap) (H:Hp):(jjX h H).objs.size=h.objs.size:=PySem.W.hideAll_size _ _
theorem jfr {h:Heap} {H:Hp} {b:Addr} {o:Obj} (e:h.get? b=some o) (n:H b=none):(jjX h H).get? b=some o:=
 G16 _ e λhm=>by
  have q:(H b).isSome=true:=(G1N.mp hm).2
  rw [n] at q;simp at q
theorem jlm {h:Heap} {H:Hp} {b:Addr} {o:Obj} (e:(jjX h H).get? b=some o):h.get? b=some o/\H b=none:=by
 have e' :h.get? b=some o:=G3a (trk h H) e
 refine⟨e',?_⟩
 cases q:H b with
 |none=>rfl
 |some x=>
  have hm:b∈trk h H:=G1N.mpr ⟨G1A.mpr (G0A e'),by simp [q]⟩
  have z:(jjX h H).get? b=none:=G1Z (trk h H) hm
  rw [z] at e;cases e
def jln (g h:Heap) (L:Addr):List (Addr×Obj):=(List.range h.objs.size).filterMap λa=>if a=L\/(g.get? a).isSome=true then none else (h.get? a).map λo=>(a,o)
def rest (g h:Heap) (L d:Addr):List (Addr×Obj):=(jln g h L).filter λp=>decide (p.1≠d)
structure Mod (K:PySem.W.Frag) (mg:Str->Option Value) (base:Heap):Prop where
 kin:K.In base
 glob:base.Ns mainGlobals mg
 blt: ∃mb,base.Ns builtinsNs mb/\ ∀x:Str,x≠ "__name__" ->mb x=bootBuiltins x
 nolimit:base.NoLimit
structure Cx where
 prog:Program
 w:World
 K:PySem.W.Frag
 mg:Str->Option Value
 base:Heap
 A:Around
 N:List Str
 s₀:Shared
 H₀:Hp
 env:Env
 outer:List Env
 stack:List Env
 ex:List Addr
 fn:Str->Bool
 calm:Bool
 pn:List (Addr×Obj)
 xe:Value->Shared->Prop
def frs (l:List Env):List Addr:=l.filterMap (·.frame)
abbrev Cx.fs (X:Cx):List Addr:=frs X.outer
def Vis (sc:Scope) (x:Str):Prop:=sc.names.lookup x=some .local\/sc.names.lookup x=some .cell\/sc.names.lookup x=some .free
def Loc (sc:Scope) (x:Str):Prop:=sc.names.lookup x=some .local\/sc.names.lookup x=some .cell
def jqZ (env:Env) (h:Heap) (m:Str->Option Value) (x:Str) (u:Value):Prop:=
 (env.kindOf x=some .local/\m x=some u)\/((env.kindOf x=some .cell\/env.kindOf x=some .free)/\ ∃c,env.cells.lookup x=some c/\h.IsCell c (some u))
structure Cx.Ok (X:Cx):Prop where
 mod:Mod X.K X.mg X.base
 kind:X.env.scope.kind= .function
 glob:X.env.globals=mainGlobals
 blt:X.env.builtins=builtinsNs
 above:X.s₀.heap.objs.size<=X.env.locals
 inj: ∀x y c,X.env.cells.lookup x=some c->X.env.cells.lookup y=some c->x=y
 has: ∀x,(X.env.kindOf x=some .cell\/X.env.kindOf x=some .free)-> ∃c,X.env.cells.lookup x=some c
 cab: ∀x c,X.fn x=true->X.env.cells.lookup x=some c->X.s₀.heap.objs.size<=c
 hd:X.calm=true->X.A.handled=none
 frames:X.A.frames=some X.stack
 stk:X.stack=X.outer\/(X.stack=X.env::X.outer/\X.env.frame=some X.env.locals)
 exf: ∀b∈X.ex,b≠X.env.locals/\ ∀x c,X.env.cells.lookup x=some c->c≠b
 bs: ∀b o,X.base.get? b=some o->X.s₀.heap.get? b=some o/\X.H₀ b=none
 bsz:X.base.objs.size<=X.s₀.heap.objs.size
 noex: ∀b o,X.base.get? b=some o->b ∉ X.ex
 exfs: ∀b∈X.ex,b ∉ X.fs
 funs:X.s₀.heap.FunFrames X.base X.outer
 frf: ∀b∈X.fs,X.H₀ b=none
structure Inv (X:Cx) (pins:List (Addr×Obj)) (σ:List (Option V)) (H:Hp) (s:Shared):Prop where
 ok:X.Ok
 os:s.os=X.s₀.os
 bare:AllBare s.gens
 base:Un X.fs X.ex X.H₀ H X.s₀.heap s.heap
 loc: ∃m,s.heap.Ns X.env.locals m/\ ∀ (i:Nat) (x:Str) (v:V),X.N[i]? =some x->σ[i]? =some (some v)->Vis X.env.scope x-> ∃u,RelV v u/\jqZ X.env s.heap m x u
 cell: ∀x c,X.env.cells.lookup x=some c-> ∃v,s.heap.IsCell c v
 free:H X.env.locals=none
 freeC: ∀x c,X.env.cells.lookup x=some c->H c=none
 pin: ∀p∈X.pn++pins,s.heap.get? p.1=some p.2/\H p.1=none/\p.1≠X.env.locals/\p.1 ∉ X.fs/\ ∀v,p.2.data≠ .cell v
 hok:HOk X.prog X.w H s.heap
 len:σ.length=X.N.length
section
variable {X:Cx} {pins:List (Addr×Obj)} {σ:List (Option V)} {H H' :Hp} {s:Shared} {h' :Heap}
theorem Cx.Ok.nofr (ok:X.Ok) {b:Addr} {o:Obj} (e:X.base.get? b=some o):b ∉ X.fs:=λhb=>by
 have:=(ok.funs.mem hb).1
 rw [e] at this;cases this
theorem Inv.bs (I:Inv X pins σ H s): ∀b o,X.base.get? b=some o->s.heap.get? b=some o/\H b=none:=λb o e=>
 ⟨I.base.keep b o (I.ok.bs b o e).1 (I.ok.bs b o e).2 (I.ok.nofr e) (I.ok.noex b o e),I.base.free b o (I.ok.bs b o e).1 (I.ok.bs b o e).2 (I.ok.noex b o e)⟩
theorem Inv.bk (I:Inv X pins σ H s): ∀b o,X.base.get? b=some o->s.heap.get? b=some o:=λb o e=>(I.bs b o e).1
theorem Inv.mod (I:Inv X pins σ H s):Mod X.K X.mg X.base:=I.ok.mod
theorem Inv.kIn (I:Inv X pins σ H s):X.K.In s.heap:=I.ok.mod.kin.keeps I.bk
theorem Inv.lt (I:Inv X pins σ H s):X.env.locals<s.heap.objs.size:=let ⟨_,hn,_⟩:=I.loc;hn.lt
theorem Inv.sz (I:Inv X pins σ H s):X.s₀.heap.objs.size<=s.heap.objs.size:=G01 I.ok.above (G0W I.lt)
theorem Inv.nofs (I:Inv X pins σ H s) {a:Addr} (h:s.heap.objs.size<=a):a ∉ X.fs:=λhb=>by
 obtain⟨_,o,ho,_⟩:=I.ok.funs.mem hb
 exact absurd (G0B (G0A ho) (G01 I.sz h)) (G1n _)
theorem Inv.cne (I:Inv X pins σ H s): ∀x c,X.env.cells.lookup x=some c->c≠X.env.locals:=λx c e z=>by
 obtain⟨v,o,ho,hd⟩:=I.cell x c e
 obtain⟨m,⟨o',es,ep,ho',hd',_⟩,_⟩:=I.loc
 rw [z,ho'] at ho;cases ho;rw [hd'] at hd;cases hd
theorem Inv.funs (I:Inv X pins σ H s):s.heap.FunFrames X.base X.outer:=by
 have all: ∀ (l:List Env),(∀b∈frs l,b∈X.fs)->X.s₀.heap.FunFrames X.base l->s.heap.FunFrames X.base l:=by
  intro l
  induction l with
  |nil=>intro _ _;trivial
  |cons env r ih=>
   intro hs hl
   obtain⟨hk,⟨L,o,hf,hn,ho,hd⟩,hr⟩:=hl
   have hL:L∈X.fs:=hs L (by unfold frs;rw [List.filterMap_cons,hf];exact List.mem_cons_self)
   obtain⟨sl,e⟩:=I.base.slot L o ho (I.ok.frf L hL) hL λz=>I.ok.exfs L z hL
   exact⟨hk,⟨L,_,hf,hn,e,hd⟩,ih (λb hb=>hs b (by unfold frs;rw [List.filterMap_cons,hf];exact List.mem_cons_of_mem _ hb)) hr⟩
 exact all X.outer (λ_ hb=>hb) I.ok.funs
theorem Inv.stack (I:Inv X pins σ H s):s.heap.FunFrames X.base X.stack:=by
 rcases I.ok.stk with e|⟨e,hf⟩
 ·rw [e];exact I.funs
 ·rw [e]
  obtain⟨m,hn,_⟩:=I.loc
  refine .cons (by rw [I.ok.kind];decide) hf hn ?_ I.funs
  exact Heap.get?_none_of_le (G01 I.ok.bsz I.ok.above)
theorem Inv.stkSub (I:Inv X pins σ H s): ∀b∈frs X.stack,b∈X.env.locals::X.fs:=λb hb=>by
 rcases I.ok.stk with e|⟨e,hf⟩
 ·rw [e] at hb;exact G0G _ hb
 ·rw [e] at hb
  unfold frs at hb
  rw [List.filterMap_cons,hf] at hb
  exact hb
theorem Inv.stkFree (I:Inv X pins σ H s): ∀b∈frs X.stack,H b=none:=λb hb=>by
 rcases G0r.mp (I.stkSub b hb) with e|hb
 ·rw [e];exact I.free
 ·obtain⟨_,o,ho,_⟩:=I.ok.funs.mem hb
  exact I.base.free b o ho (I.ok.frf b hb) λz=>I.ok.exfs b z hb
theorem Inv.step {g' :Array GenState} {t' :Nat} {d' :Drawn} {ch:List Addr} (I:Inv X pins σ H s)
 (hch: ∀b∈ch,(b∈X.ex\/X.s₀.heap.objs.size<=b)/\b≠X.env.locals/\(∀x c,X.env.cells.lookup x=some c->c≠b)/\ ∀p∈X.pn++pins,p.1≠b)
 (keep: ∀b o,b≠X.env.locals->b ∉ X.fs->b ∉ ch->s.heap.get? b=some o->H b=none->h'.get? b=some o)
 (slot: ∀b o,b≠X.env.locals->b∈X.fs->b ∉ ch->s.heap.get? b=some o->H b=none-> ∃sl,h'.get? b=some {o with slots:=sl}) (free: ∀b o,b ∉ ch->s.heap.get? b=some o->H b=none->H' b=none)
 (there: ∀b o,b ∉ ch->s.heap.get? b=some o-> ∃o',h'.get? b=some o')
 (tups: ∀b xs,H b=some (.tup xs)->H' b=some (.tup xs)) (frzs: ∀b o u,H b=some (.frz o u)->H' b=some (.frz o u)) (tbls: ∀b ps,H b=some (.tbl ps)-> ∃more,H' b=some (.tbl (ps++more)))
 (ns: ∀m,s.heap.Ns X.env.locals m->h'.Ns X.env.locals m) (hok:HOk X.prog X.w H' h') (hg:AllBare g'):
 Inv X pins σ H' {s with heap:=h',gens:=g',drawn:=d',toks:=t'}:=by
 have neL: ∀b o,X.s₀.heap.get? b=some o->b≠X.env.locals:=λb o e=>G0Q (G0B (G0A e) I.ok.above)
 have neC: ∀b o,X.s₀.heap.get? b=some o->b ∉ X.ex->b ∉ ch:=λb o e hx hb=>by
  rcases (hch b hb).1 with z|z
  ·exact hx z
  ·exact absurd (G0B (G0A e) z) (G1n _)
 have cellK: ∀x c,X.env.cells.lookup x=some c-> ∀v,s.heap.IsCell c v->h'.IsCell c v:=λx c e v ⟨o,ho,hd⟩=>by
  have nch:c ∉ ch:=λz=>(hch c z).2.2.1 x c e rfl
  by_cases hc:c∈X.fs
  ·obtain⟨sl,q⟩:=slot c o (I.cne x c e) hc nch ho (I.freeC x c e)
   exact⟨_,q,hd⟩
  ·exact⟨o,keep c o (I.cne x c e) hc nch ho (I.freeC x c e),hd⟩
 refine⟨I.ok,I.os,hg,⟨λb o e n hb hx=> ?_,λb o e n hb hx=> ?_,λb o e n hx=> ?_,λb o e hx=> ?_,λb xs e=>tups b xs (I.base.tups b xs e),λb o xs e=>frzs b o xs (I.base.frzs b o xs e),λb ps e=> ?_⟩,?_,λx c e=> ?_,?_,λx c e=> ?_,λp hp=> ?_,hok,I.len⟩
 ·exact keep b o (neL b o e) hb (neC b o e hx) (I.base.keep b o e n hb hx) (I.base.free b o e n hx)
 ·obtain⟨sl,e1⟩:=I.base.slot b o e n hb hx
  obtain⟨sl',e2⟩:=slot b _ (neL b o e) hb (neC b o e hx) e1 (I.base.free b o e n hx)
  exact⟨sl',e2⟩
 ·obtain⟨o',e1⟩:=I.base.there b o e hx
  exact free b o' (neC b o e hx) e1 (I.base.free b o e n hx)
 ·obtain⟨o',e1⟩:=I.base.there b o e hx
  exact there b o' (neC b o e hx) e1
 ·obtain⟨m1,e1⟩:=I.base.tbls b ps e
  obtain⟨m2,e2⟩:=tbls b _ e1
  exact⟨m1++m2,by rw [e2,Array.append_assoc]⟩
 ·obtain⟨m,hn,hl⟩:=I.loc
  refine⟨m,ns m hn,λi x v e1 e2 e3=> ?_⟩
  obtain⟨u,r,l⟩:=hl i x v e1 e2 e3
  refine⟨u,r,?_⟩
  rcases l with l|⟨k,c,e,z⟩
  ·exact .inl l
  ·exact .inr ⟨k,c,e,cellK x c e _ z⟩
 ·obtain⟨v,z⟩:=I.cell x c e
  exact⟨v,cellK x c e v z⟩
 ·obtain⟨m,⟨o,_,_,ho,_⟩,_⟩:=I.loc
  exact free _ o (λz=>(hch _ z).2.1 rfl) ho I.free
 ·obtain⟨v,o,ho,hd⟩:=I.cell x c e
  exact free c o (λz=>(hch c z).2.2.1 x c e rfl) ho (I.freeC x c e)
 ·obtain⟨e,n,ne,nf,d⟩:=I.pin p hp
  have nch:p.1 ∉ ch:=λz=>(hch p.1 z).2.2.2 p hp rfl
  exact⟨keep p.1 p.2 ne nf nch e n,free p.1 p.2 nch e n,ne,nf,d⟩
theorem Inv.un {t' :Nat} (I:Inv X pins σ H s) (u:Un X.fs [] H H' s.heap h') (hok:HOk X.prog X.w H' h'):Inv X pins σ H' {s with heap:=h',toks:=t'}:=by
 obtain⟨m,⟨o,es,ep,ho,r⟩,_⟩:=id I.loc
 obtain⟨sl,hL⟩:=u.any ho I.free (by simp)
 exact I.step (g' :=s.gens) (d' :=s.drawn) (ch:= []) (λ_ z=>nomatch z) (λb o _ hb _ e n=>u.keep b o e n hb (by simp)) (λb o _ hb _ e n=>u.slot b o e n hb (by simp)) (λb o _ e n=>u.free b o e n (by simp)) (λb o _ e=>u.there b o e (by simp)) u.tups u.frzs u.tbls (λm' hm=>by
  obtain⟨o',es',ep',ho',r'⟩:=hm
  rw [ho] at ho';cases ho'
  exact⟨_,es',ep',hL,r'⟩) hok I.bare
theorem Inv.call {g' :Array GenState} {t' :Nat} {d' :Drawn} {ch:List Addr} (I:Inv X pins σ H s) (u:Un (frs X.stack) ch H H' s.heap h') (hok:HOk X.prog X.w H' h') (hg:AllBare g')
 (hch: ∀b∈ch,(b∈X.ex\/X.s₀.heap.objs.size<=b)/\b≠X.env.locals/\(∀x c,X.env.cells.lookup x=some c->c≠b)/\ ∀p∈X.pn++pins,p.1≠b):
 Inv X pins σ H' {s with heap:=h',gens:=g',drawn:=d',toks:=t'}:=by
 obtain⟨m,⟨o,es,ep,ho,r⟩,_⟩:=id I.loc
 obtain⟨sl,hL⟩:=u.any ho I.free λz=>(hch _ z).2.1 rfl
 exact I.step (ch:=ch) hch (λb o hL hb hc e n=>u.keep b o e n (λz=>(G0r.mp (I.stkSub b z)).elim hL hb) hc) (λb o _ _ hc e n=>u.any e n hc) (λb o hc e n=>u.free b o e n hc) (λb o hc e=>u.there b o e hc) u.tups u.frzs u.tbls (λm' hm=>by
  obtain⟨o',es',ep',ho',r'⟩:=hm
  rw [ho] at ho';cases ho'
  exact⟨_,es',ep',hL,r'⟩) hok hg
theorem Inv.turned {t' :Nat} {it:Addr} (I:Inv X pins σ H s) (k: ∀b o,b≠it->s.heap.get? b=some o->h'.get? b=some o) (hn:H it=none) (hL:it≠X.env.locals)
 (h1:it∈X.ex\/X.s₀.heap.objs.size<=it) (h2: ∀x c,X.env.cells.lookup x=some c->c≠it) (h3: ∀p∈X.pn++pins,p.1≠it):Inv X pins σ H {s with heap:=h',toks:=t'}:=by
 have nit: ∀b u,H b=some u->b≠it:=λb u e z=>by rw [z,hn] at e;cases e
 refine I.step (g' :=s.gens) (d' :=s.drawn) (ch:= [it]) (λb hb=> ?_) (λb o _ _ hc e _=>k b o (λz=>hc (by simp [z])) e) (λb o _ _ hc e _=>⟨o.slots,k b o (λz=>hc (by simp [z])) e⟩) (λ_ _ _ _ n=>n)
  (λb o hc e=>⟨o,k b o (λz=>hc (by simp [z])) e⟩) (λ_ _ e=>e) (λ_ _ _ e=>e) (λb ps e=>⟨#[],by rw [e];simp⟩) (λm hm=> ?_) (λb u e=> ?_) I.bare
 ·have e:b=it:=by simpa using hb
  subst e
  exact⟨h1,hL,h2,h3⟩
 ·obtain⟨o,es,ep,ho,r⟩:=hm
  exact⟨o,es,ep,k _ o (Ne.symm hL) ho,r⟩
 ·refine(I.hok b u e).stay (λc v hc q=>k c v ?_ q) (λ_ q=>q) λ_ _ q=>q
  rcases hc with z|z
  ·rw [z];exact nit b u e
  ·exact nit c _ z
theorem Inv.tok (I:Inv X pins σ H s) (t:Nat):Inv X pins σ H {s with toks:=t}:=I.un (h' :=s.heap) (t' :=t) Un.refl I.hok
theorem Inv.kept {t' :Nat} (I:Inv X pins σ H s) (k: ∀b u,s.heap.get? b=some u->h'.get? b=some u):Inv X pins σ H {s with heap:=h',toks:=t'}:=I.un (Un.kept k) (I.hok.kept k)
theorem Inv.laid {a:Addr} {o:HO} {t' :Nat} (I:Inv X pins σ H s) (k: ∀b u,s.heap.get? b=some u->h'.get? b=some u) (hp:s.heap.objs.size<=a) (new:ObjOk X.prog X.w (upd H a o) h' a o):
 Inv X pins σ (upd H a o) {s with heap:=h',toks:=t'}:=I.un (Un.laid k hp (I.hok.fresh hp)) (I.hok.laid k hp new)
theorem Inv.write {x e:Addr} {o:HO} {t' :Nat} (I:Inv X pins σ H s) (mu:Mut (H x)) (he:e=x\/H e=some (.own x)) (k: ∀b u,b≠e->s.heap.get? b=some u->h'.get? b=some u) (heo: ∃u,h'.get? e=some u)
 (new:ObjOk X.prog X.w (upd H x o) h' x o):Inv X pins σ (upd H x o) {s with heap:=h',toks:=t'}:=I.un (Un.write mu he k heo) (I.hok.write mu he k heo new)
theorem Inv.weak {σ' :List (Option V)} (I:Inv X pins σ H s) (hl:σ'.length=σ.length) (w: ∀ (i:Nat) v,σ'[i]? =some (some v)->σ[i]? =some (some v)):Inv X pins σ' H s:=
 ⟨I.ok,I.os,I.bare,I.base,let ⟨m,hn,hl'⟩:=I.loc;⟨m,hn,λi x v e1 e2 e3=>hl' i x v e1 (w i v e2) e3⟩,I.cell,I.free,I.freeC,I.pin,I.hok,hl.trans I.len⟩
theorem Inv.pins_of {pins' :List (Addr×Obj)} (I:Inv X pins σ H s) (h: ∀p∈pins',s.heap.get? p.1=some p.2/\H p.1=none/\p.1≠X.env.locals/\p.1 ∉ X.fs/\ ∀v,p.2.data≠ .cell v):Inv X pins' σ H s:=
 ⟨I.ok,I.os,I.bare,I.base,I.loc,I.cell,I.free,I.freeC,λp hp=>(G0p.mp hp).elim (λz=>I.pin p (G08 _ z)) (h p),I.hok,I.len⟩
theorem jfs {N:List Str} (hN:N.Nodup) {i j:Nat} {x:Str} (a:N[i]? =some x) (b:N[j]? =some x):i=j:=by
 obtain⟨h1,e1⟩:=G0o.mp a
 obtain⟨h2,e2⟩:=G0o.mp b
 exact(List.getElem_inj hN).mp (e1.trans e2.symm)
theorem jij {M:Model} {A:Around} {E:Value->Shared->Prop} {i:Nat} {x:Str} {v:V} {u:Value} {Q:Unit->Shared->Prop} (I:Inv X pins σ H s) (hN:X.N.Nodup) (hi:X.N[i]? =some x) (hx:Loc X.env.scope x) (r:RelV v u)
 (h: ∀s',Inv X pins (σ.set i (some v)) H s' ->(∃a,Heap.SameBut a s.heap s'.heap/\(a=X.env.locals\/X.env.cells.lookup x=some a))->Q () s') (hf:X.fn x=true\/X.env.scope.names.lookup x=some .local:=by first|exact .inl rfl|exact .inr rfl|assumption):wpAny M A (storeName X.env x u) Q E s:=by
 obtain⟨m,hn,hl⟩:=id I.loc
 have hcls:(X.env.scope.kind== .class||(X.env.scope.kind== .module&&X.env.locals !=X.env.globals))=false:=by rw [I.ok.kind];rfl
 have hiσ:i<σ.length:=by rw [I.len];exact(G0o.mp hi).1
 have cne:=I.cne
 have tracked: ∀ {a:Addr} {h' :Heap},(∃o,s.heap.get? a=some o/\H a=none)->Heap.SameBut a s.heap h' ->HOk X.prog X.w H h' :=λ{a h'} ha hs b ob e=>by
  obtain⟨_,_,hfree⟩:=ha
  refine(I.hok b ob e).stay (λc w' hc q=>(hs.2 c ?_).trans q) (λ_ q=>q) λ_ _ q=>q
  rintro rfl
  rcases hc with rfl|hc
  ·rw [hfree] at e;cases e
  ·rw [hfree] at hc;cases hc
 rcases hx with hk|hk
 ·refine wpAny_storeName_local hk hn (λh' hn' hs=> ?_) hcls
  obtain⟨oL,_,_,hoL,_⟩:=id hn
  refine h _ ⟨I.ok,I.os,I.bare,⟨λb o e n hb hx=> ?_,λb o e n hb hx=> ?_,I.base.free,λb o e hx=> ?_,I.base.tups,I.base.frzs,I.base.tbls⟩,⟨_,hn',λj y v' e1 e2 e3=> ?_⟩,λy c e=> ?_,I.free,I.freeC,λp hp=> ?_,tracked ⟨oL,hoL,I.free⟩ hs,by simpa using I.len⟩ ⟨_,hs,.inl rfl⟩
  ·exact(hs.2 b (G0Q (G0B (G0A e) I.ok.above))).trans (I.base.keep b o e n hb hx)
  ·obtain⟨sl,e1⟩:=I.base.slot b o e n hb hx
   exact⟨sl,(hs.2 b (G0Q (G0B (G0A e) I.ok.above))).trans e1⟩
  ·obtain⟨o',e1⟩:=I.base.there b o e hx
   exact⟨o',(hs.2 b (G0Q (G0B (G0A e) I.ok.above))).trans e1⟩
  ·by_cases hj:j=i
   ·subst hj
    rw [hi] at e1;cases e1
    rw [G1Q hiσ] at e2
    cases e2
    exact⟨u,r,.inl ⟨hk,by simp⟩⟩
   ·rw [G1k (Ne.symm hj)] at e2
    obtain⟨u',r',q⟩:=hl j y v' e1 e2 e3
    refine⟨u',r',?_⟩
    rcases q with ⟨k,e⟩|⟨k,c,e,z⟩
    ·refine .inl ⟨k,?_⟩
     have:y≠x:=λe=>hj (jfs hN e1 (e ▸ hi))
     simp [this,e]
    ·exact .inr ⟨k,c,e,z.sameBut hs (cne y c e)⟩
  ·obtain⟨w',z⟩:=I.cell y c e
   exact⟨w',z.sameBut hs (cne y c e)⟩
  ·obtain⟨e,n,ne,nf,d⟩:=I.pin p hp
   exact⟨(hs.2 p.1 ne).trans e,n,ne,nf,d⟩
 ·have hfn:X.fn x=true:=by
   rcases hf with z|z
   ·exact z
   ·rw [z] at hk;cases hk
  obtain⟨c,hc⟩:=I.ok.has x (.inl hk)
  obtain⟨w',z⟩:=I.cell x c hc
  refine wpAny_storeName_cell I.ok.kind hk hc z (λh' hc' hs=> ?_)
  obtain⟨oc,hoc,hocd⟩:=id z
  refine h {s with heap:=h'} ⟨I.ok,I.os,I.bare,⟨λb o e n hb hx=> ?_,λb o e n hb hx=> ?_,I.base.free,λb o e hx=> ?_,I.base.tups,I.base.frzs,I.base.tbls⟩,⟨m,hn.sameBut hs (Ne.symm (cne x c hc)),λj y v' e1 e2 e3=> ?_⟩,λy c' e=> ?_,I.free,I.freeC,λp hp=> ?_,tracked ⟨oc,hoc,I.freeC x c hc⟩ hs,by simpa using I.len⟩ ⟨c,hs,.inr hc⟩
  ·exact(hs.2 b (G0Q (G0B (G0A e) (I.ok.cab x c hfn hc)))).trans (I.base.keep b o e n hb hx)
  ·obtain⟨sl,e1⟩:=I.base.slot b o e n hb hx
   exact⟨sl,(hs.2 b (G0Q (G0B (G0A e) (I.ok.cab x c hfn hc)))).trans e1⟩
  ·obtain⟨o',e1⟩:=I.base.there b o e hx
   exact⟨o',(hs.2 b (G0Q (G0B (G0A e) (I.ok.cab x c hfn hc)))).trans e1⟩
  ·by_cases hj:j=i
   ·subst hj
    rw [hi] at e1;cases e1
    rw [G1Q hiσ] at e2
    cases e2
    exact⟨u,r,.inr ⟨.inl hk,c,hc,hc'⟩⟩
   ·rw [G1k (Ne.symm hj)] at e2
    obtain⟨u',r',q⟩:=hl j y v' e1 e2 e3
    refine⟨u',r',?_⟩
    rcases q with q|⟨k,c',e,z'⟩
    ·exact .inl q
    ·refine .inr ⟨k,c',e,z'.sameBut hs ?_⟩
     rintro rfl
     exact hj (jfs hN e1 (I.ok.inj _ _ _ e hc ▸ hi))
  ·by_cases hcc:c' =c
   ·subst hcc;exact⟨_,hc'⟩
   ·obtain⟨w2,z2⟩:=I.cell y c' e
    exact⟨w2,z2.sameBut hs hcc⟩
  ·obtain⟨e,n,ne,nf,d⟩:=I.pin p hp
   refine⟨(hs.2 p.1 ?_).trans e,n,ne,nf,d⟩
   intro q
   rw [q,hoc] at e
   have q' :oc=p.2:=G1b e
   exact d w' (by rw [<-q'];exact hocd)
theorem jb5 {M:Model} {A:Around} {E:Value->Shared->Prop} {i:Nat} {x:Str} {v:V} {u:Value} {Q:Unit->Shared->Prop} (I:Inv X pins σ H s) (hN:X.N.Nodup) (hi:X.N[i]? =some x) (hx:Loc X.env.scope x) (r:RelV v u)
 (h: ∀s',Inv X pins (σ.set i (some v)) H s' ->Q () s') (hf:X.fn x=true\/X.env.scope.names.lookup x=some .local:=by first|exact .inl rfl|exact .inr rfl|assumption):wpAny M A (storeName X.env x u) Q E s:=
 jij I hN hi hx r (λs' I' _=>h s' I') hf
theorem Inv.call' {s' :Shared} {ch:List Addr} (I:Inv X pins σ H s) (ho:s'.os=s.os) (u:Un (frs X.stack) ch H H' s.heap s'.heap) (hok:HOk X.prog X.w H' s'.heap) (hg:AllBare s'.gens)
 (hch: ∀b∈ch,(b∈X.ex\/X.s₀.heap.objs.size<=b)/\b≠X.env.locals/\(∀x c,X.env.cells.lookup x=some c->c≠b)/\ ∀p∈X.pn++pins,p.1≠b):Inv X pins σ H' s' :=by
 obtain⟨h',g',d',t',o'⟩:=s'
 have e:o' =s.os:=ho
 subst e
 exact I.call (g' :=g') (t' :=t') (d' :=d') u hok hg hch
end
abbrev XK:=Value->Option Addr->Hp->Prop
abbrev St:=List (Option V)
abbrev VK:=V->Hp->Prop
abbrev TE:=St->Hp->VK->Prop
abbrev TT:=St->Hp->(Bool->Hp->Prop)->Prop
abbrev TA:=St->Hp->(List V->Hp->Prop)->Prop
structure Ends where
 nx:St->Hp->Prop
 rt:VK
 bk:St->Hp->Prop:=λ_ _=>False
 ct:St->Hp->Prop:=λ_ _=>False
abbrev TS:=Ends->St->Hp->Prop
def EP (X:Cx) (pins:List (Addr×Obj)) (σ:St) (Q:VK) (u:Value) (s' :Shared):Prop:= ∃v H',Inv X pins σ H' s' /\RelV v u/\Q v H'
def TP (X:Cx) (pins:List (Addr×Obj)) (σ:St) (Q:Bool->Hp->Prop) (b:Bool) (s' :Shared):Prop:= ∃H',Inv X pins σ H' s' /\Q b H'
def AP (X:Cx) (pins:List (Addr×Obj)) (σ:St) (Q:List V->Hp->Prop) (us:List Value) (s' :Shared):Prop:= ∃vs H',Inv X pins σ H' s' /\Vals vs us/\Q vs H'
def SP (X:Cx) (pins:List (Addr×Obj)) (D:Ends) (f:Flow) (s' :Shared):Prop:=
 match f with
 | .next=> ∃σ' H',Inv X pins σ' H' s' /\D.nx σ' H'
 | .brk=> ∃σ' H',Inv X pins σ' H' s' /\D.bk σ' H'
 | .cont=> ∃σ' H',Inv X pins σ' H' s' /\D.ct σ' H'
 | .ret u=> ∃v σ' H',Inv X pins σ' H' s' /\RelV v u/\D.rt v H'
def PE (X:Cx) (e:Expr) (t:TE):Prop:=
 ∀ (pins:List (Addr×Obj)) (s:Shared) (σ:St) (H:Hp) (Q:VK),Inv X pins σ H s->t σ H Q->wpAny (model X.prog X.w) X.A (eval e X.env) (EP X pins σ Q) X.xe s
def PT (X:Cx) (e:Expr) (t:TT):Prop:=
 ∀ (pins:List (Addr×Obj)) (s:Shared) (σ:St) (H:Hp) (Q:Bool->Hp->Prop),Inv X pins σ H s->t σ H Q->wpAny (model X.prog X.w) X.A (isTrue e X.env (eval e X.env)) (TP X pins σ Q) X.xe s
def PW (X:Cx) (e:Expr) (t:TT):Prop:=
 ∀ (whole:Sem Value) (pins:List (Addr×Obj)) (s:Shared) (σ:St) (H:Hp) (Q:Bool->Hp->Prop),Inv X pins σ H s->t σ H Q->wpAny (model X.prog X.w) X.A (isTrue e X.env whole) (TP X pins σ Q) X.xe s
theorem PW.pt {X:Cx} {e:Expr} {t:TT} (h:PW X e t):PT X e t:=h _
def PA (X:Cx) (es:List Expr) (t:TA):Prop:=
 ∀ (pos:Pos) (pins:List (Addr×Obj)) (s:Shared) (σ:St) (H:Hp) (Q:List V->Hp->Prop),Inv X pins σ H s->t σ H Q->wpAny (model X.prog X.w) X.A (spliced (backTo pos (starEach es X.env))) (AP X pins σ Q) X.xe s
def PS (X:Cx) (st:Stmt) (t:TS):Prop:=
 ∀ (pins:List (Addr×Obj)) (s:Shared) (σ:St) (H:Hp) (D:Ends),Inv X pins σ H s->t D σ H->wpAny (model X.prog X.w) X.A (exec st X.env) (SP X pins D) X.xe s
def PSs (X:Cx) (st:List Stmt) (t:TS):Prop:=
 ∀ (pins:List (Addr×Obj)) (s:Shared) (σ:St) (H:Hp) (D:Ends),Inv X pins σ H s->t D σ H->wpAny (model X.prog X.w) X.A (execs st X.env) (SP X pins D) X.xe s
theorem thn {α:Type} {t:Sem α} {Q Q' :α->Shared->Prop} {M:Model} {A:Around} {E:Value->Shared->Prop} {s:Shared} (h:wpAny M A t Q E s) (hQ: ∀a s,Q a s->Q' a s):wpAny M A t Q' E s:=G0D h hQ λ_ _ x=>x
section
variable {X:Cx}
def jqp (i:Nat):TE:=λσ H Q=> ∃v,σ[i]? =some (some v)/\Q v H
def tC (v:V):TE:=λ_ H Q=>Q v H
theorem jna {i:Nat} {x:Str} {pos:Pos} (hN:X.N[i]? =some x) (hv:Vis X.env.scope x) (hd:(x==("__debug__" :Str))=false:=by decide) (hcd:(x==("__classdict__" :Str))=false:=by decide):PE X (.Name x pos) (jqp i):=by
 intro pins s σ H Q I h
 obtain⟨v,e,h⟩:=h
 obtain⟨m,hn,hl⟩:=I.loc
 obtain⟨u,r,l⟩:=hl i x v hN e hv
 have fin:EP X pins σ Q u s:=⟨v,H,I,r,h⟩
 rcases l with ⟨hk,hm⟩|⟨hk,c,hc,hcell⟩
 ·exact wpAny_Name (wpAny_loadName_local I.ok.kind hk hn hm fin) hd
 ·rcases hk with hk|hk
  ·exact wpAny_Name (wpAny_loadName_cell I.ok.kind hk hc hcell fin) hd
  ·exact wpAny_Name (wpAny_loadName_free I.ok.kind hk hc hcell fin hcd) hd
theorem pe_int {i j pos}:PE X (.Constant (.int i) j pos) (tC (.int i)):=λ_ _ _ H _ I h=>wpAny_Constant_int ⟨.int i,H,I.tok _,⟨_,rfl⟩,h⟩
theorem pe_bl {b j pos}:PE X (.Constant (.bool b) j pos) (tC (.bl b)):=λ_ _ _ H _ I h=>Constant_bool ⟨.bl b,H,I,rfl,h⟩
theorem pe_non {j pos}:PE X (.Constant .none j pos) (tC .non):=λ_ _ _ H _ I h=>Constant_none ⟨.non,H,I,rfl,h⟩
theorem pe_str {x j pos}:PE X (.Constant (.str x) j pos) (tC (.str x)):=λ_ _ _ H _ I h=>Calls.Constant_str ⟨.str x,H,I.tok _,⟨_,rfl⟩,h⟩
def Gl (X:Cx) (x:Str):Prop:=X.env.kindOf x=some .globalImplicit
theorem jdI {E:Value->Shared->Prop} {pins:List (Addr×Obj)} {s:Shared} {σ:St} {H:Hp} {x:Str} {u:Value} {pos:Pos} {Q:Value->Shared->Prop} (I:Inv X pins σ H s) (hg:Gl X x) (hm:X.mg x=some u) (h:Q u s)
 (hd:(x==("__debug__" :Str))=false:=by decide):wpAny (model X.prog X.w) X.A (eval (.Name x pos) X.env) Q E s:=
 Calls.Name_function_global I.ok.kind hg (Calls.loadGlobal_global (by rw [I.ok.glob];exact I.mod.glob.keeps I.bk) hm h) hd
theorem jfb {E:Value->Shared->Prop} {pins:List (Addr×Obj)} {s:Shared} {σ:St} {H:Hp} {x:Str} {u:Value} {pos:Pos} {Q:Value->Shared->Prop} (I:Inv X pins σ H s) (hg:Gl X x) (hm:X.mg x=none) (hv:bootBuiltins x=some u) (h:Q u s)
 (hn:x≠ "__name__" :=by decide) (hd:(x==("__debug__" :Str))=false:=by decide):wpAny (model X.prog X.w) X.A (eval (.Name x pos) X.env) Q E s:=by
 obtain⟨mb,h1,h2⟩:=I.mod.blt
 exact Calls.Name_function_global I.ok.kind hg (Calls.loadGlobal_builtin (by rw [I.ok.glob];exact I.mod.glob.keeps I.bk) hm (by rw [I.ok.blt];exact h1.keeps I.bk) ((h2 x hn).trans hv) h) hd
theorem jik {x:Str} {v:V} {u:Value} {pos:Pos} (hg:Gl X x) (hm:X.mg x=some u) (r:RelV v u) (hd:(x==("__debug__" :Str))=false:=by decide):PE X (.Name x pos) (tC v):=
 λ_ _ _ H _ I h=>jdI I hg hm ⟨v,H,I,r,h⟩ hd
theorem jil {x:Str} {v:V} {u:Value} {pos:Pos} (hg:Gl X x) (hm:X.mg x=none) (hv:bootBuiltins x=some u) (r:RelV v u) (hn:x≠ "__name__" :=by decide) (hd:(x==("__debug__" :Str))=false:=by decide):PE X (.Name x pos) (tC v):=
 λ_ _ _ H _ I h=>jfb I hg hm hv ⟨v,H,I,r,h⟩ hn hd
variable {a b:Expr} {ta tb:TE} {pos:Pos}
theorem jjY (b:Expr) {op:CmpOp} (h:op≠ .In) (h2:op≠ .NotIn):behindInMarks op b=false:=by
 have e1:(op==CmpOp.In)=false:=by cases op<;>first|rfl|exact absurd rfl h
 have e2:(op==CmpOp.NotIn)=false:=by cases op<;>first|rfl|exact absurd rfl h2
 cases b<;>simp [behindInMarks,e1,e2]
def tB (t:TE):TT:=λσ H Q=>t σ H λx H1=> ∃c,x= .bl c/\Q c H1
theorem jnb {e:Expr} {t:TE} (h:PE X e t) (he: ∀whole,isTrue e X.env whole=(do let v <-whole;standAt e.pos;holding [v] (truthy v)):=by intro _;rfl):PT X e (tB t):=by
 intro pins s σ H Q I hw
 refine isTrue_plain (thn (h pins s σ H _ I hw) λv s1 ⟨x,H1,I1,r1,q1⟩=> ?_) (he _)
 obtain⟨d,rfl,q⟩:=q1
 cases r1
 exact G1i ⟨H1,I1,q⟩
variable {tA tB' :TT} {rest:List Expr}
def jqq (t u:TT):TT:=λσ H Q=>t σ H λc H1=>if c=true then u σ H1 Q else Q false H1
def tOr (t u:TT):TT:=λσ H Q=>t σ H λc H1=>if c=true then Q true H1 else u σ H1 Q
def jqr (t:TT):TT:=λσ H Q=>t σ H λc H1=>Q (!c) H1
theorem jlo (ha:PT X a tA):PW X (.BoolOp .And [a] pos) tA:=by
 intro wh pins s σ H Q I h
 refine isTrue_and (thn (ha pins s σ H Q I h) λc s1 e=> ?_)
 cases c with
 |true=>exact isTrue_and_nil e
 |false=>exact e
theorem jnc (ha:PT X a tA):PW X (.BoolOp .Or [a] pos) tA:=by
 intro wh pins s σ H Q I h
 refine isTrue_or (thn (ha pins s σ H Q I h) λc s1 e=> ?_)
 cases c with
 |false=>exact isTrue_or_nil e
 |true=>exact e
theorem jnd (ha:PT X a tA) (hb:PW X (.BoolOp .And (b::rest) pos) tB'):PW X (.BoolOp .And (a::b::rest) pos) (jqq tA tB'):=by
 intro wh pins s σ H Q I h
 refine isTrue_and (thn (ha pins s σ H _ I h) λc s1 ⟨H1,I1,q1⟩=> ?_)
 cases c with
 |true=>exact hb wh pins s1 σ H1 Q I1 q1
 |false=>exact⟨H1,I1,q1⟩
theorem jpm (ha:PT X a tA) (hb:PW X (.BoolOp .Or (b::rest) pos) tB'):PW X (.BoolOp .Or (a::b::rest) pos) (tOr tA tB'):=by
 intro wh pins s σ H Q I h
 refine isTrue_or (thn (ha pins s σ H _ I h) λc s1 ⟨H1,I1,q1⟩=> ?_)
 cases c with
 |true=>exact⟨H1,I1,q1⟩
 |false=>exact hb wh pins s1 σ H1 Q I1 q1
theorem jne (ha:PT X a tA):PT X (.UnaryOp .Not a pos) (jqr tA):=by
 intro pins s σ H Q I h
 exact isTrue_not (ha pins s σ H (λc H1=>Q (!c) H1) I h)
def jnf (ta tb:TE):TE:=λσ H Q=>ta σ H λx H1=> ∃c,x= .bl c/\if c=true then tb σ H1 Q else Q (.bl false) H1
def jqs (ta tb:TE):TE:=λσ H Q=>ta σ H λx H1=> ∃c,x= .bl c/\if c=true then Q (.bl true) H1 else tb σ H1 Q
def jng (ta:TE):TE:=λσ H Q=>ta σ H λx H1=> ∃c,x= .bl c/\Q (.bl (!c)) H1
theorem jnh {op} {t:TE} (h:PE X a t):PE X (.BoolOp op [a] pos) t:=λpins s σ H Q I hw=>BoolOp_one (h pins s σ H Q I hw)
theorem jni (ha:PE X a ta) (hb:PE X (.BoolOp .And (b::rest) pos) tb):PE X (.BoolOp .And (a::b::rest) pos) (jnf ta tb):=by
 intro pins s σ H Q I h
 refine BoolOp_and (thn (ha pins s σ H _ I h) λv s1 ⟨x,H1,I1,r1,q1⟩=> ?_)
 obtain⟨c,rfl,q1⟩:=q1
 cases r1
 refine G1i ?_
 cases c with
 |true=>exact hb pins s1 σ H1 Q I1 q1
 |false=>exact⟨.bl false,H1,I1,rfl,q1⟩
theorem jpn (ha:PE X a ta) (hb:PE X (.BoolOp .Or (b::rest) pos) tb):PE X (.BoolOp .Or (a::b::rest) pos) (jqs ta tb):=by
 intro pins s σ H Q I h
 refine BoolOp_or (thn (ha pins s σ H _ I h) λv s1 ⟨x,H1,I1,r1,q1⟩=> ?_)
 obtain⟨c,rfl,q1⟩:=q1
 cases r1
 refine G1i ?_
 cases c with
 |false=>exact hb pins s1 σ H1 Q I1 q1
 |true=>exact⟨.bl true,H1,I1,rfl,q1⟩
theorem jnj (ha:PE X a ta):PE X (.UnaryOp .Not a pos) (jng ta):=by
 intro pins s σ H Q I h
 refine UnaryOp_ (thn (ha pins s σ H _ I h) λv s1 ⟨x,H1,I1,r1,q1⟩=> ?_)
 obtain⟨c,rfl,q1⟩:=q1
 cases r1
 exact not_of (G1i ⟨.bl (!c),H1,I1,rfl,q1⟩)
end
def SqL (K:PySem.W.Frag) (H:Hp) (a:Addr) (xs:List V):Prop:=
 Rd H a (.lst xs)\/
  ∃ (o:Obj) (its:Array Value) (n:Nat),K.lookup a=some o/\o.cls= .type "list" /\o.dict=none/\o.data= .seq its n/\its.size<=sizeLine/\Vals xs its.toList
def SqT (K:PySem.W.Frag) (H:Hp) (a:Addr) (xs:List V):Prop:=
 Rd H a (.tup xs)\/
  ∃ (o:Obj) (its:Array Value) (n:Nat),K.lookup a=some o/\o.cls= .type "tuple" /\o.data= .seq its n/\its.size<=sizeLine/\Vals xs its.toList
def jq0:Value->Option V
 | .none=>some .non
 | .bool b=>some (.bl b)
 | .int i _=>some (.int i)
 | .str x _=>some (.str x)
 | .bytes b _=>some (.byt b)
 | .float b _=>some (.flt b)
 | .ref a=>some (.ref a)
 | .type n=>some (.ty n)
 |_=>none
theorem RelV.abs {x:V} {u:Value} (r:RelV x u):jq0 u=some x:=by
 cases x with
 |non=>cases r;rfl
 |bl _=>cases r;rfl
 |int _=>obtain⟨t,rfl⟩:=r;rfl
 |str _=>obtain⟨t,rfl⟩:=r;rfl
 |byt _=>obtain⟨t,rfl⟩:=r;rfl
 |flt _=>obtain⟨t,rfl⟩:=r;rfl
 |ref _=>cases r;rfl
 |ty _=>cases r;rfl
theorem RelV.inj {x y:V} {u:Value} (r:RelV x u) (q:RelV y u):x=y:=G1b (r.abs.symm.trans q.abs)
theorem Vals.inj: ∀ {xs ys:List V} {us:List Value},Vals xs us->Vals ys us->xs=ys
 |_,_,_,.nil,.nil=>rfl
 |_,_,_,.cons r t,.cons r' t' =>by rw [r.inj r',Vals.inj t t']
section
variable {X:Cx} {pins:List (Addr×Obj)} {σ:St} {H:Hp} {s:Shared} {a:Addr} {xs ys:List V}
theorem SqL.of {K:PySem.W.Frag} (h:H a=some (.lst xs)):SqL K H a xs:= .inl (.inl h)
theorem SqT.of {K:PySem.W.Frag} (h:H a=some (.tup xs)):SqT K H a xs:= .inl (.inl h)
theorem Inv.list (I:Inv X pins σ H s) (h:SqL X.K H a xs): ∃its:List Value,Vals xs its/\PlainL s.heap a its.toArray/\xs.length<=sizeLine:=by
 rcases h with h|⟨o,its,n,hk,hc,hd,hs,hz,r⟩
 ·obtain⟨z,its,n,r,e⟩:=h.ok I.hok
  exact⟨its,r,⟨_,n,e,rfl,rfl,rfl⟩,z⟩
 ·refine⟨its.toList,r,⟨o,n,I.kIn a o hk,hc,hd,by simpa using hs⟩,?_⟩
  have e:=r.length
  simp only [G0V] at e
  omega
theorem Inv.tuple (I:Inv X pins σ H s) (h:SqT X.K H a xs): ∃its:List Value,Vals xs its/\IsTup s.heap a its.toArray/\xs.length<=sizeLine:=by
 rcases h with h|⟨o,its,n,hk,hc,hs,hz,r⟩
 ·obtain⟨z,its,r,p⟩:=h.ok I.hok
  exact⟨its,r,p.tup,z⟩
 ·refine⟨its.toList,r,⟨o,I.kIn a o hk,hc,n,by simpa using hs⟩,?_⟩
  have e:=r.length
  simp only [G0V] at e
  omega
theorem Inv.list_inj (I:Inv X pins σ H s) (h:SqL X.K H a xs) (h' :SqL X.K H a ys):xs=ys:=by
 obtain⟨its,r,⟨o,n,e,_,_,d⟩,_⟩:=I.list h
 obtain⟨its',r',⟨o',n',e',_,_,d'⟩,_⟩:=I.list h'
 rw [e] at e';cases e'
 rw [d] at d'
 injection d' with d1 _
 have:its=its' :=by simpa using congrArg Array.toList d1
 subst this
 exact r.inj r'
theorem Inv.tuple_inj (I:Inv X pins σ H s) (h:SqT X.K H a xs) (h' :SqT X.K H a ys):xs=ys:=by
 obtain⟨its,r,⟨o,e,_,n,d⟩,_⟩:=I.tuple h
 obtain⟨its',r',⟨o',e',_,n',d'⟩,_⟩:=I.tuple h'
 rw [e] at e';cases e'
 rw [d] at d'
 injection d' with d1 _
 have:its=its' :=by simpa using congrArg Array.toList d1
 subst this
 exact r.inj r'
end
abbrev Cx.wish (X:Cx) (E:Value->Shared->Prop):Cx:= {X with xe:=E}
abbrev Cx.nox (X:Cx):Cx:=X.wish λ_ _=>False
theorem Cx.Ok.wish {X:Cx} (ok:X.Ok) (E:Value->Shared->Prop):(X.wish E).Ok:=
 ⟨ok.mod,ok.kind,ok.glob,ok.blt,ok.above,ok.inj,ok.has,ok.cab,ok.hd,ok.frames,ok.stk,ok.exf,ok.bs,ok.bsz,ok.noex,ok.exfs,ok.funs,ok.frf⟩
theorem Cx.Ok.unwish {X:Cx} {E:Value->Shared->Prop} (ok:(X.wish E).Ok):X.Ok:=
 ⟨ok.mod,ok.kind,ok.glob,ok.blt,ok.above,ok.inj,ok.has,ok.cab,ok.hd,ok.frames,ok.stk,ok.exf,ok.bs,ok.bsz,ok.noex,ok.exfs,ok.funs,ok.frf⟩
section
variable {X:Cx} {pins:List (Addr×Obj)} {σ:St} {H:Hp} {s:Shared} {E:Value->Shared->Prop}
theorem Inv.wish (I:Inv X pins σ H s) (E:Value->Shared->Prop):Inv (X.wish E) pins σ H s:=⟨I.ok.wish E,I.os,I.bare,I.base,I.loc,I.cell,I.free,I.freeC,I.pin,I.hok,I.len⟩
theorem Inv.unwish (I:Inv (X.wish E) pins σ H s):Inv X pins σ H s:=⟨I.ok.unwish,I.os,I.bare,I.base,I.loc,I.cell,I.free,I.freeC,I.pin,I.hok,I.len⟩
theorem SP.unwish {D:Ends} {f:Flow} {s' :Shared} (h:SP (X.wish E) pins D f s'):SP X pins D f s' :=by
 cases f with
 |next=>obtain⟨σ',H',I,q⟩:=h;exact⟨σ',H',I.unwish,q⟩
 |brk=>obtain⟨σ',H',I,q⟩:=h;exact⟨σ',H',I.unwish,q⟩
 |cont=>obtain⟨σ',H',I,q⟩:=h;exact⟨σ',H',I.unwish,q⟩
 |ret u=>obtain⟨v,σ',H',I,r,q⟩:=h;exact⟨v,σ',H',I.unwish,r,q⟩
theorem PSs.nox {st:List Stmt} {t:TS} (h:PSs X.nox st t):PSs X st t:=λpins s σ H D I hw=>
 G0D (h pins s σ H D (I.wish _) hw) (λ_ _ q=>q.unwish) λ_ _ z=>False.elim z
end
section
variable {X:Cx} {st:Stmt} {rest:List Stmt} {t u:TS} {e:Expr} {te:TE} {pos:Pos}
def jnk:TS:=λD σ H=>D.nx σ H
def jqt (t u:TS):TS:=λD σ H=>t {D with nx:=u D} σ H
theorem pss_nil:PSs X [] jnk:=λ_ _ σ H _ I h=>G2g ⟨σ,H,I,h⟩
theorem jjZ (h1:PS X st t) (h2:PSs X rest u):PSs X (st::rest) (jqt t u):=by
 intro pins s σ H D I h
 refine G1f (thn (h1 pins s σ H {D with nx:=u D} I h) λf s1 q=> ?_)
 cases f with
 |next=>
  obtain⟨σ',H',I',q⟩:=q
  exact h2 pins s1 σ' H' D I' q
 |ret v=>exact q
 |brk=>exact q
 |cont=>exact q
theorem jlp (h1:PS X st t):PSs X [st] t:=by
 intro pins s σ H D I h
 refine G1f (thn (h1 pins s σ H D I h) λf s1 q=> ?_)
 cases f with
 |next=>exact G2g q
 |ret v=>exact q
 |brk=>exact q
 |cont=>exact q
theorem Inv.quiet {pins:List (Addr×Obj)} {σ:St} {H:Hp} {s:Shared} (I:Inv X pins σ H s):interactive X.env=false:=by simp [interactive,I.ok.kind]
def jnl (te:TE):TS:=λD σ H=>te σ H λ_ H1=>D.nx σ H1
theorem jlq (he:PE X e te) (hs:swapsWith e none pos.line X.env=pure false:=by rfl):PS X (.Expr e pos) (jnl te):=by
 intro pins s σ H D I h
 exact wpAny_Expr_any (thn (he pins s σ H _ I h) λv s1 ⟨x,H1,I1,r1,q1⟩=>⟨σ,H1,I1,q1⟩) I.quiet hs
def jqu (te:TE):TS:=λD σ H=>te σ H D.rt
theorem jnm (he:PE X e te):PS X (.Return (some e) pos) (jqu te):=by
 intro pins s σ H D I h
 exact wpAny_Return_some (thn (he pins s σ H _ I h) λv s1 ⟨x,H1,I1,r1,q1⟩=>⟨x,σ,H1,I1,r1,q1⟩)
def jqv (c:TT) (t u:TS):TS:=λD σ H=>c σ H λb H1=>if b=true then t D σ H1 else u D σ H1
theorem jpo {c:Expr} {a b:List Stmt} {tc:TT} (hc:PT X c tc) (ha:PSs X a t) (hb:PSs X b u):PS X (.If c a b pos) (jqv tc t u):=by
 intro pins s σ H D I h
 refine wpAny_If (thn (hc pins s σ H _ I h) λd s1 ⟨H1,I1,q1⟩=> ?_)
 cases d with
 |true=>exact ha pins s1 σ H1 D I1 q1
 |false=>exact hb pins s1 σ H1 D I1 q1
end
abbrev TG:=V->St->Hp->(St->Hp->Prop)->Prop
abbrev TGs:=List V->St->Hp->(St->Hp->Prop)->Prop
def PG (X:Cx) (target:Expr) (t:TG):Prop:=
 ∀ (pins:List (Addr×Obj)) (s:Shared) (σ:St) (H:Hp) (v:V) (u:Value) (Q:St->Hp->Prop),Inv X pins σ H s->RelV v u->t v σ H Q->
  wpAny (model X.prog X.w) X.A (assign target X.env u) (λ_ s' => ∃σ' H',Inv X pins σ' H' s' /\Q σ' H') X.xe s
def PGs (X:Cx) (ts:List Expr) (t:TGs):Prop:=
 ∀ (pins:List (Addr×Obj)) (s:Shared) (σ:St) (H:Hp) (vs:List V) (us:List Value) (Q:St->Hp->Prop),Inv X pins σ H s->Vals vs us->t vs σ H Q->
  wpAny (model X.prog X.w) X.A (assignInOrder ((assignEach ts X.env).map (·.2)) us) (λ_ s' => ∃σ' H',Inv X pins σ' H' s' /\Q σ' H') X.xe s
abbrev jpp:=V->V->V->Hp->(Hp->Prop)->Prop
def jqw (X:Cx) (t:jpp):Prop:=
 ∀ (pins:List (Addr×Obj)) (s:Shared) (σ:St) (H:Hp) (o i v:V) (ov iv u:Value) (Q:Hp->Prop),Inv X pins σ H s->RelV o ov->RelV i iv->RelV v u->t o i v H Q->
  wpAny (model X.prog X.w) X.A (setItem ov iv u) (λ_ s' => ∃H',Inv X pins σ H' s' /\Q H') X.xe s
section
variable {X:Cx} {pos:Pos}
def jcl (i:Nat):TG:=λv σ H Q=>Q (σ.set i (some v)) H
theorem jc1 {i:Nat} {x:Str} (hN:X.N.Nodup) (hi:X.N[i]? =some x) (hx:Loc X.env.scope x) (hf:X.fn x=true\/X.env.scope.names.lookup x=some .local:=by first|exact .inl rfl|exact .inr rfl|assumption):PG X (.Name x pos) (jcl i):=by
 intro pins s σ H v u Q I r h
 exact wpAny_assign_Name (jb5 I hN hi hx r (λs' I' =>⟨_,H,I',h⟩) hf)
def jpq:TGs:=λvs σ H Q=>vs= []/\Q σ H
def jim (t:TG) (u:TGs):TGs:=λvs σ H Q=> ∃v r,vs=v::r/\t v σ H λσ' H' =>u r σ' H' Q
theorem jin:PGs X [] jpq:=by
 intro pins s σ H vs us Q I r h
 obtain⟨e,h⟩:=h
 subst e
 cases r
 exact assignInOrder_nil ⟨σ,H,I,h⟩
theorem jeb {e:Expr} {es:List Expr} {t:TG} {u:TGs} (h1:PG X e t) (h2:PGs X es u)
 (hs:(assignEach (e::es) X.env).map (·.2)=assign e X.env::(assignEach es X.env).map (·.2):=by rfl):PGs X (e::es) (jim t u):=by
 intro pins s σ H vs us Q I r h
 obtain⟨v,vr,e1,h⟩:=h
 subst e1
 cases r with
 |cons r rr=>
  rw [hs]
  refine assignInOrder_cons (thn (h1 pins s σ H _ _ _ I r h) λ_ s1 ⟨σ1,H1,I1,q1⟩=> ?_)
  exact h2 pins s1 σ1 H1 _ _ Q I1 rr q1
def jpr (K:PySem.W.Frag) (n:Nat) (t:TGs):TG:=λv σ H Q=> ∃a xs,v= .ref a/\SqT K H a xs/\xs.length=n/\t xs σ H Q
theorem jkV {es:List Expr} {k:Nat} {t:TGs} {n:Nat} (hc:X.calm=true) (h:PGs X es t)
 (hn:(assignEach es X.env).length=n:=by rfl) (hst:(assignEach es X.env).findIdx? (·.1)=none:=by rfl):PG X (.Tuple es k pos) (jpr X.K n t):=by
 intro pins s σ H v u Q I r hw
 obtain⟨a,xs,e1,hq,hl,hw⟩:=hw
 subst e1
 cases r
 obtain⟨its,rv,ht,hz⟩:=I.tuple hq
 refine assign_Tuple_tuple (I.ok.hd hc) ht (by simp [hn,<-hl,rv.length]) hst λh' hx=> ?_
 have I1:Inv X pins σ H {s with heap:=h'}:=I.kept (t' :=s.toks) λb o e=>hx b o (G0Q (G0A e)) e
 exact h pins _ σ H xs _ Q I1 (by simpa using rv) hw
def jq1 (to ti:TE) (t:jpp):TG:=λv σ H Q=>to σ H λo H1=>ti σ H1 λi H2=>t o i v H2 λH3=>Q σ H3
theorem jnn {o i:Expr} {to ti:TE} {t:jpp} (ho:PE X o to) (hi:PE X i ti) (hs:jqw X t)
 (ha: ∀v,assign (.Subscript o i pos) X.env v=(do
  let ov <-holding [v] (eval o X.env)
  let iv <-holding [v,ov] (eval i X.env)
  standAt pos
  holding [v,ov,iv] (setItem ov iv v)
  release [v,ov,iv] []):=by intro _;rfl):PG X (.Subscript o i pos) (jq1 to ti t):=by
 intro pins s σ H v u Q I r h
 rw [ha]
 refine wpAny_bind (G1w (thn (ho pins s σ H _ I h) λov s1 ⟨x,H1,I1,r1,q1⟩=> ?_))
 refine wpAny_bind (G1w (thn (hi pins s1 σ H1 _ I1 q1) λiv s2 ⟨y,H2,I2,r2,q2⟩=> ?_))
 refine wpAny_bind (G2v (wpAny_bind (G1w (thn (hs pins s2 σ H2 x y v ov iv u _ I2 r1 r2 r q2) λ_ s3 ⟨H3,I3,q3⟩=> ?_))))
 exact wpAny_release ⟨σ,H3,I3,q3⟩
def jkW (te:TE) (g:TG):TS:=λD σ H=>te σ H λx H1=>g x σ H1 D.nx
theorem jno {tg e:Expr} {te:TE} {g:TG} (he:PE X e te) (hg:PG X tg g) (hs:swapsWithSole [tg] e pos.line X.env=pure false:=by rfl) (hw:swappedStores [tg] e X.env=pure none:=by rfl)
 (h1:(assignEach [tg] X.env).map (·.2)= [assign tg X.env]:=by rfl):PS X (.Assign [tg] e pos) (jkW te g):=by
 intro pins s σ H D I h
 refine wpAny_Assign_stores (thn (he pins s σ H _ I h) λv s1 ⟨x,H1,I1,r1,q1⟩=> ?_) hs hw
 rw [h1]
 exact thn (hg pins s1 σ H1 x v _ I1 r1 q1) λ_ s2 q=>q
theorem jnp {i:Nat} {x:Str} {e:Expr} {te:TE} {pos' :Pos} (hN:X.N.Nodup) (hi:X.N[i]? =some x) (hx:Loc X.env.scope x) (he:PE X e te) (hs:swapsWith e (some (.Name x pos')) pos.line X.env=pure false:=by rfl) (hf:X.fn x=true\/X.env.scope.names.lookup x=some .local:=by first|exact .inl rfl|exact .inr rfl|assumption):
 PS X (.Assign [.Name x pos'] e pos) (jkW te (jcl i)):=by
 intro pins s σ H D I h
 refine G3j (thn (he pins s σ H _ I h) λv s1 ⟨y,H1,I1,r1,q1⟩=> ?_) hs
 exact jb5 I1 hN hi hx r1 (λs2 I2=>⟨_,H1,I2,q1⟩) hf
def jqx (i j:Nat) (ta:TA):TS:=λD σ H=>ta σ H λvs H1=> ∃v w,vs= [v,w]/\D.nx ((σ.set i (some v)).set j (some w)) H1
theorem jnq {i j:Nat} {x y:Str} {a b:Expr} {ta:TA} {px py pt:Pos} {kt k2 pt2} (hc:X.calm=true) (hN:X.N.Nodup) (hi:X.N[i]? =some x) (hj:X.N[j]? =some y) (hij:i≠j)
 (hx:X.env.scope.names.lookup x=some .local) (hy:X.env.scope.names.lookup y=some .local) (ha:PA X [a,b] ta)
 (hw:swappedStores [.Tuple [.Name x px,.Name y py] kt pt] (.Tuple [a,b] k2 pt2) X.env=pure (some [x,y]))
 (hs:swapsWithSole [.Tuple [.Name x px,.Name y py] kt pt] (.Tuple [a,b] k2 pt2) pos.line X.env=pure false:=by rfl):
 PS X (.Assign [.Tuple [.Name x px,.Name y py] kt pt] (.Tuple [a,b] k2 pt2) pos) (jqx i j ta):=by
 intro pins s σ H D I h
 rw [exec_Assign_arm]
 refine wpAny_bind (G2v ?_)
 rw [hs]
 refine wpAny_bind (G0j ?_)
 rw [if_neg (by decide)]
 refine wpAny_bind (Tuple_ (thn (ha _ pins s σ H _ I h) λus s1 ⟨vs,H1,I1,r1,q1⟩=> ?_))
 obtain⟨v,w,e1,q1⟩:=q1
 subst e1
 obtain⟨u1,u2,rfl,rv,rw'⟩: ∃u1 u2,us= [u1,u2]/\RelV v u1/\RelV w u2:=by
  cases r1 with
  |cons p q=>
   cases q with
   |cons p' q' =>
    cases q'
    exact⟨_,_,rfl,p,p'⟩
 refine G1q ?_ (by show 2<=sizeLine;decide)
 have I2:Inv X pins σ H1 {s1 with heap:=s1.heap.push {cls:= .type "tuple",data:= .seq [u1,u2].toArray}}:=I1.kept (t' :=s1.toks) λb o e=>G0f _ e
 rw [hw]
 refine wpAny_bind (G0j ?_)
 show wpAny (model X.prog X.w) X.A (do rule "assign.swapped-stores";let items <-unpackItems (.ref s1.heap.objs.size) 2 none;assignInOrder [λv=>bindName X.env y v,λv=>bindName X.env x v] items.reverse;pure Flow.next) _ _ _
 refine wpAny_bind (G3k (wpAny_bind (unpackItems_tuple (items:= #[u1,u2]) (I.ok.hd hc) (IsTup.new s1.heap _) λh' hx' => ?_)))
 have I3:=I2.kept (h' :=h') (t' :=s1.toks) λb o e=>hx' b o (G0Q (G0A e)) e
 show wpAny _ _ (assignInOrder [λv=>bindName X.env y v,λv=>bindName X.env x v] [u2,u1] >>= λ_=>pure Flow.next) _ _ _
 refine wpAny_bind (assignInOrder_cons (wpAny_bindName (jb5 I3 hN hj (.inl hy) rw' (λs2 I4=> ?_) (.inr hy))))
 refine assignInOrder_cons (wpAny_bindName (jb5 I4 hN hi (.inl hx) rv (λs3 I5=>assignInOrder_nil (G0j ?_)) (.inr hx)))
 rw [List.set_comm _ _ (Ne.symm hij)] at I5
 exact⟨_,H1,I5,q1⟩
def jkX (c:TT) (tb:TS):TS:=λD σ H=> ∃W:Nat->St->Hp->Prop,(∃m,W m σ H)/\ ∀m σ H,W m σ H->
 c σ H λb H1=>if b=true then ∃N:St->Hp->Prop,(∀σ' H',N σ' H' -> ∃m',m' <m/\W m' σ' H')/\tb {D with nx:=N,ct:=N,bk:=D.nx} σ H1 else D.nx σ H1
theorem jj0 {c:Expr} {body:List Stmt} {tc:TT} {tb:TS} (hp:PassesOwn (model X.prog X.w) X.A X.env X.xe) (hc:PT X c tc) (hb:PSs X body tb):PS X (.While c body [] pos) (jkX tc tb):=by
 intro pins s σ H D I h
 obtain⟨W,⟨m0,w0⟩,turn⟩:=h
 refine wpAny_While (codeAny_whileLoop (λn s' => ∃σ' H',Inv X pins σ' H' s' /\W n σ' H') ?_ m0 ⟨σ,H,I,w0⟩)
 rintro n s1 ⟨σ1,H1,I1,w1⟩
 refine G12 hp (thn (hc pins s1 σ1 H1 _ I1 (turn n σ1 H1 w1)) λb s2 ⟨H2,I2,q2⟩=> ?_)
 cases b with
 |true=>
  obtain⟨N,hN,q2⟩:=q2
  rw [if_pos rfl]
  refine G12 hp (thn (hb pins s2 σ1 H2 _ I2 q2) λf s3 q3=> ?_)
  cases f with
  |next=>
   obtain⟨σ3,H3,I3,n3⟩:=q3
   obtain⟨m',hm,w3⟩:=hN σ3 H3 n3
   exact⟨m',hm,σ3,H3,I3,w3⟩
  |cont=>
   obtain⟨σ3,H3,I3,n3⟩:=q3
   obtain⟨m',hm,w3⟩:=hN σ3 H3 n3
   exact⟨m',hm,σ3,H3,I3,w3⟩
  |brk=>exact q3
  |ret v=>exact q3
 |false=>
  rw [if_neg G0s]
  exact G2g ⟨σ1,H2,I2,q2⟩
end
structure It where
 go:Nat->Hp->Prop
 yld:Nat->Hp->V->Hp->Prop
 stop:Nat->Hp->Prop
def jic (X:Cx) (pins:List (Addr×Obj)) (H:Hp) (b:Addr):Prop:=
 H b=none/\b≠X.env.locals/\b ∉ X.fs/\(b∈X.ex\/X.s₀.heap.objs.size<=b)/\(∀x c,X.env.cells.lookup x=some c->c≠b)/\ ∀p∈X.pn++pins,p.1≠b
theorem Inv.fpOk {X:Cx} {pins:List (Addr×Obj)} {σ:St} {H H' :Hp} {s:Shared} {b:Addr} (I:Inv X pins σ H s) (hb:s.heap.objs.size<=b) (hn:H' b=none):jic X pins H' b:=by
 refine⟨hn,G1J (G0B I.lt hb),I.nofs hb,.inr (G01 I.sz hb),λx c e z=> ?_,λp hp z=> ?_⟩
 ·obtain⟨v,q⟩:=I.cell x c e
  exact absurd (G0B q.lt (by rw [z];exact hb)) (G1n _)
 ·exact absurd (G0B (G0A (I.pin p hp).1) (by rw [z];exact hb)) (G1n _)
structure Turn (P:Program) (w:World) (K:PySem.W.Frag) (tg:Expr) (J:It) (fp:List Addr) (it:Addr) (tn:Nat->Heap->Prop):Prop where
 mem:it∈fp
 obj: ∀i h,tn i h-> ∀b∈fp,∃o,h.get? b=some o/\ ∀v,o.data≠ .cell v
 keep: ∀i h h',tn i h->(∀b∈fp,∀o,h.get? b=some o->h'.get? b=some o)->tn i h'
 item: ∀ (X:Cx),X.prog=P->X.w=w->X.K=K->X.calm=true-> ∀ (i:Nat) (pins:List (Addr×Obj)) (s:Shared) (σ:St) (H:Hp) (E:Value->Shared->Prop),Inv X pins σ H s->(∀b∈fp,jic X pins H b)->tn i s.heap->J.go i H->
  wpAny (model P w) X.A (pyNext (.ref it)) (λr s1=> ∃u,r=some u/\
   wpAny (model P w) X.A (letOwnedTupleGo tg (.ref it) u) (λ_ s2=> ∃x H',Inv X pins σ H' s2/\RelV x u/\J.yld i H x H' /\tn (i+1) s2.heap/\ ∀b∈fp,H' b=none) E s1) E s
 done: ∀ (X:Cx),X.prog=P->X.w=w->X.K=K->X.calm=true-> ∀ (i:Nat) (pins:List (Addr×Obj)) (s:Shared) (σ:St) (H:Hp) (E:Value->Shared->Prop),Inv X pins σ H s->(∀b∈fp,jic X pins H b)->tn i s.heap->J.stop i H->
  wpAny (model P w) X.A (pyNext (.ref it)) (λr s1=>r=none/\Inv X pins σ H s1) E s
 self: ∀ (A:Around) (i:Nat) (s:Shared) (Q:Value->Shared->Prop) (E:Value->Shared->Prop),tn i s.heap->Q (.ref it) s->wpAny (model P w) A (pyIter (.ref it)) Q E s
abbrev TI:=St->Hp->(It->Hp->Prop)->Prop
def PIE (X:Cx) (pins:List (Addr×Obj)) (σ:St) (tg:Expr) (R:It->Hp->Prop) (itv:Value) (s2:Shared):Prop:=
 ∃ (it:Addr) (fp:List Addr) (tn:Nat->Heap->Prop) (J:It) (H' :Hp),itv= .ref it/\Inv X pins σ H' s2/\Turn X.prog X.w X.K tg J fp it tn/\tn 0 s2.heap/\(∀b∈fp,jic X pins H' b)/\R J H'
def PI (X:Cx) (tg iter:Expr) (wi:TI):Prop:=
 ∀ (pins:List (Addr×Obj)) (s:Shared) (σ:St) (H:Hp) (R:It->Hp->Prop),Inv X pins σ H s->wi σ H R->
  wpAny (model X.prog X.w) X.A (eval iter X.env) (λv s1=>wpAny (model X.prog X.w) X.A (pyIter v) (PIE X pins σ tg R) X.xe s1) X.xe s
theorem jlr {M : Model} {A : Around} {E : Value → Shared → Prop} {s : Shared} {tg : Expr} {it : Addr} {u : Value} {o : Obj} {n : String} {vs : Array Value} {Q : Unit → Shared → Prop} (ho : s.heap.get? it = some o) (hc : o.cls = .type n) (hd : o.data = .fields vs)
    (hn : ["enumerate", "zip", "dict_itemiterator", "dict_reverseitemiterator", "odict_iterator", "itertools.zip_longest", "itertools.pairwise"].contains n = false) (hQ : Q () s) : wpAny M A (letOwnedTupleGo tg (.ref it) u) Q E s := by
  unfold letOwnedTupleGo
  cases tg <;> first
    | exact G0j hQ
    | (cases u <;> first
        | exact G0j hQ
        | (refine wpAny_bind (wpAny_load ho ?_)
           rw [hc, hd]
           show wpAny M A (if (["enumerate", "zip", "dict_itemiterator", "dict_reverseitemiterator", "odict_iterator", "itertools.zip_longest", "itertools.pairwise"].contains n && vs[0]? == some (rawInt _)) = true then _ else _) Q E s
           rw [if_neg (by intro h; rw [hn, Bool.false_and] at h; cases h)]
           exact G0j hQ))
def Itl (K:PySem.W.Frag) (a:Addr):It:=
 ⟨λi H=> ∃xs x,SqL K H a xs/\xs[i]? =some x,λi H x H' =>H' =H/\ ∀xs,SqL K H a xs->xs[i]? =some x,λi H=> ∃xs,SqL K H a xs/\xs.length<=i⟩
def Itt (K:PySem.W.Frag) (a:Addr):It:=
 ⟨λi H=> ∃xs x,SqT K H a xs/\xs[i]? =some x,λi H x H' =>H' =H/\ ∀xs,SqT K H a xs->xs[i]? =some x,λi H=> ∃xs,SqT K H a xs/\xs.length<=i⟩
def Itr (lo:Int) (n:Nat):It:=⟨λi _=>i<n,λi H x H' =>H' =H/\x= .int (lo+i),λi _=>n<=i⟩
theorem jfY {P:Program} {w:World} {K:PySem.W.Frag} {tg:Expr} (a it:Addr):Turn P w K tg (Itl K a) [it] it (λi h=>h.IsListIter it a i) where
 mem:=by simp
 obj:=λi h st b hb=>by
  have e:b=it:=by simpa using hb
  subst e
  obtain⟨o,e,c,d⟩:=st
  exact⟨o,e,λv z=>by rw [d] at z;cases z⟩
 keep:=λi h h' st k=>st.at λo e=>k it (by simp) o e
 item:=by
  intro X hP hw hK hc i pins s σ H E I hf st hg
  subst hP hw hK
  obtain⟨xs,x,hq,hx⟩:=hg
  obtain⟨its,rv,p,hz⟩:=I.list hq
  obtain⟨u,hu,ru⟩:=rv.get hx
  obtain⟨f0,f1,f2,f3,f4,f5⟩:=hf it (by simp)
  refine wpAny_pyNext_list_item st p.isList (x:=u) (by simpa using hu) λh' st' sb=> ?_
  have I1:Inv X pins σ H {s with heap:=h'}:=I.turned (t' :=s.toks) (λb o hb e=>(sb.2 b hb).trans e) f0 f1 f3 f4 f5
  obtain⟨o,e,c,d⟩:=id st'
  exact⟨u,rfl,jlr (s:= {s with heap:=h'}) e c d (by decide) ⟨x,H,I1,ru,⟨rfl,λys hy=>by rw [I.list_inj hy hq];exact hx⟩,st',λb hb=>(hf b hb).1⟩⟩
 done:=by
  intro X hP hw hK hc i pins s σ H E I hf st hg
  subst hP hw hK
  obtain⟨xs,hq,hx⟩:=hg
  obtain⟨its,rv,p,hz⟩:=I.list hq
  obtain⟨f0,f1,f2,f3,f4,f5⟩:=hf it (by simp)
  have hl:=rv.length
  exact wpAny_pyNext_list_end (I.ok.hd hc) st p.isList (by simp;omega) λh' eb=>⟨rfl,I.turned (t' :=s.toks) (λb o hb e=>eb b o hb e) f0 f1 f3 f4 f5⟩
 self:=λ_ _ _ _ _ st h=>wpAny_pyIter_listiter st h
theorem jhF {P:Program} {w:World} {K:PySem.W.Frag} {tg:Expr} (a it:Addr):Turn P w K tg (Itt K a) [it] it (λi h=>h.IsTupleIter it a i) where
 mem:=by simp
 obj:=λi h st b hb=>by
  have e:b=it:=by simpa using hb
  subst e
  obtain⟨o,e,c,d⟩:=st
  exact⟨o,e,λv z=>by rw [d] at z;cases z⟩
 keep:=λi h h' st k=>st.at λo e=>k it (by simp) o e
 item:=by
  intro X hP hw hK hc i pins s σ H E I hf st hg
  subst hP hw hK
  obtain⟨xs,x,hq,hx⟩:=hg
  obtain⟨its,rv,p,hz⟩:=I.tuple hq
  obtain⟨u,hu,ru⟩:=rv.get hx
  obtain⟨f0,f1,f2,f3,f4,f5⟩:=hf it (by simp)
  refine wpAny_pyNext_tuple_item st (show s.heap.IsTuple a its.toArray from p) (x:=u) (by simpa using hu) λh' st' sb=> ?_
  have I1:Inv X pins σ H {s with heap:=h'}:=I.turned (t' :=s.toks) (λb o hb e=>(sb.2 b hb).trans e) f0 f1 f3 f4 f5
  obtain⟨o,e,c,d⟩:=id st'
  exact⟨u,rfl,jlr (s:= {s with heap:=h'}) e c d (by decide) ⟨x,H,I1,ru,⟨rfl,λys hy=>by rw [I.tuple_inj hy hq];exact hx⟩,st',λb hb=>(hf b hb).1⟩⟩
 done:=by
  intro X hP hw hK hc i pins s σ H E I hf st hg
  subst hP hw hK
  obtain⟨xs,hq,hx⟩:=hg
  obtain⟨its,rv,p,hz⟩:=I.tuple hq
  obtain⟨f0,f1,f2,f3,f4,f5⟩:=hf it (by simp)
  have hl:=rv.length
  exact wpAny_pyNext_tuple_end (I.ok.hd hc) st (show s.heap.IsTuple a its.toArray from p) (by simp;omega) λh' eb=>⟨rfl,I.turned (t' :=s.toks) (λb o hb e=>eb b o hb e) f0 f1 f3 f4 f5⟩
 self:=λ_ _ _ _ _ st h=>wpAny_pyIter_tupleiter st h
theorem jhG {P:Program} {w:World} {K:PySem.W.Frag} {tg:Expr} (it:Addr) (lo:Int) (n:Nat):Turn P w K tg (Itr lo n) [it] it (λi h=>IsRangeIter h it (lo+(i:Nat)*1) ((n:Int)-(i:Nat)) 1) where
 mem:=by simp
 obj:=λi h st b hb=>by
  have e:b=it:=by simpa using hb
  subst e
  exact⟨_,st,λv z=>by
   have z' :Data.fields _=Data.cell v:=z
   cases z'⟩
 keep:=λi h h' st k=>k it (by simp) _ st
 item:=by
  intro X hP hw hK hc i pins s σ H E I hf st hg
  subst hP hw hK
  obtain⟨f0,f1,f2,f3,f4,f5⟩:=hf it (by simp)
  have W:=Walks.range (prog:=X.prog) (w:=X.w) (I.ok.hd hc) it lo 1 n
  refine W.item i s _ _ hg st λv h' tk hv st' kk=> ?_
  obtain⟨t,rfl⟩:=hv
  have I1:Inv X pins σ H {s with heap:=h',toks:=tk}:=I.turned (λb o hb e=>kk b o (by simpa using hb) e) f0 f1 f3 f4 f5
  refine⟨_,rfl,jlr (s:= {s with heap:=h',toks:=tk}) (n:= "range_iterator") st' rfl rfl (by decide) ⟨.int (lo+i),H,I1,⟨t,?_⟩,⟨rfl,rfl⟩,st',λb hb=>(hf b hb).1⟩⟩
  rw [Int.mul_one]
 done:=by
  intro X hP hw hK hc i pins s σ H E I hf st hg
  subst hP hw hK
  obtain⟨f0,f1,f2,f3,f4,f5⟩:=hf it (by simp)
  exact wpAny_pyNext_range_end (I.ok.hd hc) st (by have:n<=i:=hg;omega) λh' eb=>⟨rfl,I.turned (t' :=s.toks) (λb o hb e=>eb b o hb e) f0 f1 f3 f4 f5⟩
 self:=λ_ _ _ _ _ st h=>wpAny_pyIter_rangeiter st h
section
variable {X:Cx} {tg:Expr}
def jnr (K:PySem.W.Frag) (tl:TE):TI:=λσ H R=>tl σ H λx H1=> ∃a,x= .ref a/\(∃xs,SqL K H1 a xs)/\R (Itl K a) H1
theorem jls {l:Expr} {tl:TE} (hl:PE X l tl):PI X tg l (jnr X.K tl):=by
 intro pins s σ H R I h
 refine thn (hl pins s σ H _ I h) λv s1 ⟨x,H1,I1,r1,q1⟩=> ?_
 obtain⟨a,e,⟨xs,hq⟩,q⟩:=q1
 subst e
 cases r1
 obtain⟨its,rv,p,hz⟩:=I1.list hq
 refine G3l p.isList ?_
 refine⟨s1.heap.objs.size,[s1.heap.objs.size],_,_,H1,rfl,I1.kept (t' :=s1.toks) λb o e=>G0f _ e,jfY a _,⟨_,G0S _ rfl,rfl,rfl⟩,λb hb=> ?_,q⟩
 have e:b=s1.heap.objs.size:=by simpa using hb
 subst e
 exact I1.fpOk (G0k _) (I1.hok.fresh (G0k _))
theorem jj1 {pins:List (Addr×Obj)} {σ:St} {H:Hp} {s:Shared} {R:It->Hp->Prop} {E:Value->Shared->Prop} {lo hi:Int} {t u v:Tok} {tk:Nat} (I:Inv X pins σ H s) (h1: -(2^62)<=lo) (h2:lo<2^62) (h3: -(2^62)<=hi) (h4:hi<2^62)
 (q:R (Itr lo (hi-lo).toNat) H):wpAny (model X.prog X.w) X.A (pyIter (.ref s.heap.objs.size)) (PIE X pins σ tg R) E {s with heap:=s.heap.push {cls:= .type "range",data:= .fields #[.int lo t,.int hi u,.int 1 v]},toks:=tk}:=by
 refine wpAny_pyIter_range (IsRange.new ..) (small_one h1 h2 h3 h4) ?_
 have I1:Inv X pins σ H {s with heap:=s.heap.push {cls:= .type "range",data:= .fields #[.int lo t,.int hi u,.int 1 v]},toks:=tk}:=I.kept λb o e=>G0f _ e
 refine⟨(s.heap.push {cls:= .type "range",data:= .fields #[.int lo t,.int hi u,.int 1 v]}).objs.size,[(s.heap.push {cls:= .type "range",data:= .fields #[.int lo t,.int hi u,.int 1 v]}).objs.size],_,_,H,rfl,
  I1.kept (t' :=tk) λb o e=>G0f _ e,jhG _ lo (hi-lo).toNat,?_,λb hb=> ?_,q⟩
 ·have e1:lo+((0:Nat):Int)*1=lo:=by simp
  have e2:(((hi-lo).toNat:Nat):Int)-((0:Nat):Int)=Builtin.Range.rangeSize lo hi 1:=by rw [rangeSize_one];split<;>omega
  show IsRangeIter _ _ (lo+((0:Nat):Int)*1) ((((hi-lo).toNat:Nat):Int)-((0:Nat):Int)) 1
  rw [e1,e2]
  exact G0S _ rfl
 ·have e:b=(s.heap.push {cls:= .type "range",data:= .fields #[.int lo t,.int hi u,.int 1 v]}).objs.size:=by simpa using hb
  subst e
  exact I1.fpOk (G0k _) (I1.hok.fresh (G0k _))
def jns (ta:TA):TI:=λσ H R=>ta σ H λvs H1=> ∃j:Int,vs= [.int j]/\ -(2^62)<=j/\j<2^62/\R (Itr 0 j.toNat) H1
theorem jio {a:Expr} {ta:TA} {p pos:Pos} (hg:Gl X "range") (hm:X.mg "range" =none) (ha:PA X [a] ta) (hs:starEach [a] X.env= [(false,eval a X.env)]:=by rfl):PI X tg (.Call (.Name "range" p) [a] [] pos) (jns ta):=by
 intro pins s σ H R I h
 refine Call_ (jfb I hg hm boot_range (G2h (thn (ha pos pins s σ H _ I h) λus s1 ⟨vs,H1,I1,r1,q1⟩=> ?_) hs rfl))
 obtain⟨j,e,q1,q2,q⟩:=q1
 subst e
 cases r1 with
 |cons r rr=>
  cases rr
  obtain⟨t,rfl⟩:=r
  exact call_range_1 (jj1 I1 (by omega) (by omega) q1 q2 (by simpa using q))
def jqy (wi:TI) (g:TG) (tb:TS):TS:=λD σ H=>wi σ H λJ H1=> ∃W:Nat->Nat->St->Hp->Prop,(∃m,W 0 m σ H1)/\ ∀i m σ H,W i m σ H->
 (J.stop i H/\D.nx σ H)\/(J.go i H/\ ∃N:St->Hp->Prop,(∀σ' H',N σ' H' -> ∃m',m' <m/\W (i+1) m' σ' H')/\ ∀x H',J.yld i H x H' ->g x σ H' λσ2 H2=>tb {D with nx:=N,ct:=N,bk:=D.nx} σ2 H2)
def jcP (fp:List Addr) (h:Heap):List (Addr×Obj):=fp.filterMap λb=>(h.get? b).map λo=>(b,o)
theorem jbx {fp:List Addr} {h:Heap} {b:Addr} {o:Obj} (hb:b∈fp) (e:h.get? b=some o):(b,o)∈jcP fp h:=G2c.mpr ⟨b,hb,by rw [e];rfl⟩
theorem jek {fp:List Addr} {h:Heap} {p:Addr×Obj} (hp:p∈jcP fp h):p.1∈fp/\h.get? p.1=some p.2:=by
 obtain⟨b,hb,e⟩:=G2c.mp hp
 cases q:h.get? b with
 |none=>rw [q] at e;cases e
 |some o=>
  rw [q] at e
  have e' :(b,o)=p:=G1b e
  subst e'
  exact⟨hb,q⟩
theorem Inv.pinned {pins:List (Addr×Obj)} {σ:St} {H:Hp} {s:Shared} {fp:List Addr} (I:Inv X pins σ H s) (hf: ∀b∈fp,jic X pins H b) (ho: ∀b∈fp,∃o,s.heap.get? b=some o/\ ∀v,o.data≠ .cell v):Inv X (pins++jcP fp s.heap) σ H s:=
 I.pins_of λp hp=>(G0p.mp hp).elim (λz=>I.pin p (G0t _ z)) λz=>by
  obtain⟨hb,e⟩:=jek z
  obtain⟨f0,f1,f2,_⟩:=hf p.1 hb
  obtain⟨o,e',d⟩:=ho p.1 hb
  rw [e] at e';cases e'
  exact⟨e,f0,f1,f2,d⟩
theorem Inv.unpinned {pins pl:List (Addr×Obj)} {σ:St} {H:Hp} {s:Shared} (I:Inv X (pins++pl) σ H s):Inv X pins σ H s:=I.pins_of λp hp=>I.pin p (G0t _ (G08 _ hp))
theorem jnt {iter:Expr} {body:List Stmt} {wi:TI} {g:TG} {tb:TS} {pos:Pos} (hp:PassesOwn (model X.prog X.w) X.A X.env X.xe) (hc:X.calm=true) (hi:PI X tg iter wi) (hg:PG X tg g) (hb:PSs X body tb)
 (hs: ∀x,foldedSetIterable iter X.env x=pure x:=by intro _;rfl):PS X (.For tg iter body [] pos) (jqy wi g tb):=by
 intro pins s σ H D I h
 refine wpAny_For (thn (hi pins s σ H _ I h) λv s1 h1=>thn h1 λitv s2 h2=> ?_) hs
 obtain⟨it,fp,tn,J,H2,e,I2,T,st2,f2,W,⟨m0,w0⟩,turn⟩:=h2
 subst e
 -- what stays true of the iterator's objects through the loop
 have stat: ∀ {H' :Hp},(∀b∈fp,H' b=none)-> ∀b∈fp,jic X pins H' b:=λhn b hb=>⟨hn b hb,(f2 b hb).2⟩
 refine codeAny_forLoop_any (λn s' => ∃i σ' H',Inv X pins σ' H' s' /\tn i s'.heap/\(∀b∈fp,H' b=none)/\W i n σ' H') ?_ m0 ⟨0,σ,H2,I2,st2,λb hb=>(f2 b hb).1,w0⟩
 rintro n s3 ⟨i,σ3,H3,I3,st3,fr3,w3⟩
 rcases turn i n σ3 H3 w3 with ⟨stop,qn⟩|⟨go,N,hN,step⟩
 ·refine G12 hp (thn (T.done X rfl rfl rfl hc i pins s3 σ3 H3 X.xe I3 (stat fr3) st3 stop) λr s4 ⟨hr,I4⟩=> ?_)
  subst hr
  exact G2g ⟨σ3,H3,I4,qn⟩
 ·refine G12 hp (thn (T.item X rfl rfl rfl hc i pins s3 σ3 H3 X.xe I3 (stat fr3) st3 go) λr s4 ⟨u,hr,h4⟩=> ?_)
  subst hr
  refine G12 hp (thn h4 λ_ s5 ⟨x,H5,I5,r5,y5,st5,fr5⟩=> ?_)
  have I5' :=I5.pinned (stat fr5) (T.obj _ _ st5)
  refine G12 hp (thn (hg _ s5 σ3 H5 x u _ I5' r5 (step x H5 y5)) λ_ s6 ⟨σ6,H6,I6,q6⟩=> ?_)
  refine G12 hp (thn (hb _ s6 σ6 H6 _ I6 q6) λf s7 q7=> ?_)
  have again: ∀ {σ7:St} {H7:Hp},Inv X (pins++jcP fp s5.heap) σ7 H7 s7->N σ7 H7-> ∃m,m<n/\ ∃i σ' H',Inv X pins σ' H' s7/\tn i s7.heap/\(∀b∈fp,H' b=none)/\W i m σ' H' :=λ{σ7 H7} I7 n7=>by
   obtain⟨m',hm,w7⟩:=hN σ7 H7 n7
   refine⟨m',hm,i+1,σ7,H7,I7.unpinned,T.keep _ _ _ st5 λb hb o e=>(I7.pin (b,o) (G0t _ (G0t _ (jbx hb e)))).1,λb hb=> ?_,w7⟩
   obtain⟨o,e,d⟩:=T.obj _ _ st5 b hb
   exact(I7.pin (b,o) (G0t _ (G0t _ (jbx hb e)))).2.1
  cases f with
  |next=>obtain⟨σ7,H7,I7,n7⟩:=q7;exact again I7 n7
  |cont=>obtain⟨σ7,H7,I7,n7⟩:=q7;exact again I7 n7
  |brk=>obtain⟨σ7,H7,I7,q7⟩:=q7;exact⟨σ7,H7,I7.unpinned,q7⟩
  |ret v=>obtain⟨x7,σ7,H7,I7,r7,q7⟩:=q7;exact⟨x7,σ7,H7,I7.unpinned,r7,q7⟩
end
abbrev R2:=V->V->Hp->VK->Prop
def OpR (X:Cx) (f:Value->Value->Sem Value) (r:R2):Prop:=
 ∀ (pins:List (Addr×Obj)) (s:Shared) (σ:St) (H:Hp) (x y:V) (v u:Value) (Q:VK),Inv X pins σ H s->RelV x v->RelV y u->r x y H Q->
  wpAny (model X.prog X.w) X.A (f v u) (EP X pins σ Q) X.xe s
def UnR (X:Cx) (f:Value->Sem Value) (r:V->Hp->VK->Prop):Prop:=
 ∀ (pins:List (Addr×Obj)) (s:Shared) (σ:St) (H:Hp) (x:V) (v:Value) (Q:VK),Inv X pins σ H s->RelV x v->r x H Q->
  wpAny (model X.prog X.w) X.A (f v) (EP X pins σ Q) X.xe s
def CallR (X:Cx) (f:Value) (r:List V->Hp->VK->Prop):Prop:=
 ∀ (pins:List (Addr×Obj)) (s:Shared) (σ:St) (H:Hp) (xs:List V) (us:List Value) (Q:VK),Inv X pins σ H s->Vals xs us->r xs H Q->
  wpAny (model X.prog X.w) X.A (call f us) (EP X pins σ Q) X.xe s
def tOp (r:R2) (ta tb:TE):TE:=λσ H Q=>ta σ H λx H1=>tb σ H1 λy H2=>r x y H2 Q
def tUn (r:V->Hp->VK->Prop) (ta:TE):TE:=λσ H Q=>ta σ H λx H1=>r x H1 Q
def rI (C:Int->Int->Prop) (g:Int->Int->V):R2:=λx y H Q=> ∃i j,x= .int i/\y= .int j/\C i j/\Q (g i j) H
def rI0 (g:Int->Int->V):R2:=λx y H Q=> ∃i j,x= .int i/\y= .int j/\Q (g i j) H
def rU (g:Int->V):V->Hp->VK->Prop:=λx H Q=> ∃i,x= .int i/\Q (g i) H
section
variable {X:Cx} {a b c:Expr} {ta tb tc:TE} {pos:Pos}
theorem jps (ha:PE X a ta) (hb:PE X b tb) {pins:List (Addr×Obj)} {s:Shared} {σ:St} {H:Hp} {R:V->V->Hp->Prop} (I:Inv X pins σ H s)
 (h:ta σ H λx H1=>tb σ H1 λy H2=>R x y H2) {Q:Value->Shared->Prop} {f:Value->Value->Sem Value}
 (hf: ∀v u s2 x y H2,Inv X pins σ H2 s2->RelV x v->RelV y u->R x y H2->wpAny (model X.prog X.w) X.A (f v u) Q X.xe s2):
 wpAny (model X.prog X.w) X.A (eval a X.env) (λv s₁=>wpAny (model X.prog X.w) X.A (eval b X.env) (λu s₂=>wpAny (model X.prog X.w) X.A (f v u) Q X.xe s₂) X.xe s₁) X.xe s:=by
 refine thn (ha pins s σ H _ I h) λv s1 ⟨x,H1,I1,r1,q1⟩=> ?_
 refine thn (hb pins s1 σ H1 _ I1 q1) λu s2 ⟨y,H2,I2,r2,q2⟩=> ?_
 exact hf v u s2 x y H2 I2 r1 r2 q2
theorem jpu {op:Operator} {r:R2} (ho:OpR X (binaryOp op) r) (ha:PE X a ta) (hb:PE X b tb):PE X (.BinOp a op b pos) (tOp r ta tb):=by
 intro pins s σ H Q I h
 exact wpAny_BinOp (jps ha hb I h λv u s2 x y H2 I2 rx ry q=>ho pins s2 σ H2 x y v u Q I2 rx ry q)
theorem jpv {op:UnaryOp} {r:V->Hp->VK->Prop} (ho:UnR X (unaryOp op) r) (ha:PE X a ta):PE X (.UnaryOp op a pos) (tUn r ta):=by
 intro pins s σ H Q I h
 exact UnaryOp_ (thn (ha pins s σ H _ I h) λv s1 ⟨x,H1,I1,r1,q1⟩=>ho pins s1 σ H1 x v Q I1 r1 q1)
theorem opI {f:Value->Value->Sem Value} {C:Int->Int->Prop} {g:Int->Int->Int}
 (rule: ∀ (i j:Int) (t u:Tok) (s:Shared) (Q:Value->Shared->Prop) (E:Value->Shared->Prop),C i j->Q (.int (g i j) s.toks) {s with toks:=s.toks+1}->wpAny (model X.prog X.w) X.A (f (.int i t) (.int j u)) Q E s):
 OpR X f (rI C λi j=> .int (g i j)):=by
 intro pins s σ H x y v u Q I rx ry h
 obtain⟨i,j,rfl,rfl,hc,q⟩:=h
 obtain⟨t,rfl⟩:=rx
 obtain⟨t',rfl⟩:=ry
 exact rule i j t t' s _ _ hc ⟨.int (g i j),H,I.tok _,⟨_,rfl⟩,q⟩
theorem jqz {f:Value->Value->Sem Value} {g:Int->Int->Int}
 (rule: ∀ (i j:Int) (t u:Tok) (s:Shared) (Q:Value->Shared->Prop) (E:Value->Shared->Prop),Q (.int (g i j) s.toks) {s with toks:=s.toks+1}->wpAny (model X.prog X.w) X.A (f (.int i t) (.int j u)) Q E s):
 OpR X f (rI0 λi j=> .int (g i j)):=by
 intro pins s σ H x y v u Q I rx ry h
 obtain⟨i,j,rfl,rfl,q⟩:=h
 obtain⟨t,rfl⟩:=rx
 obtain⟨t',rfl⟩:=ry
 exact rule i j t t' s _ _ ⟨.int (g i j),H,I.tok _,⟨_,rfl⟩,q⟩
theorem jpf {f:Value->Value->Sem Value} {g:Int->Int->Bool}
 (rule: ∀ (i j:Int) (t u:Tok) (s:Shared) (Q:Value->Shared->Prop) (E:Value->Shared->Prop),Q (.bool (g i j)) s->wpAny (model X.prog X.w) X.A (f (.int i t) (.int j u)) Q E s):
 OpR X f (rI0 λi j=> .bl (g i j)):=by
 intro pins s σ H x y v u Q I rx ry h
 obtain⟨i,j,rfl,rfl,q⟩:=h
 obtain⟨t,rfl⟩:=rx
 obtain⟨t',rfl⟩:=ry
 exact rule i j t t' s _ _ ⟨.bl (g i j),H,I,rfl,q⟩
def jpw (i j:Int):Prop:=0<j/\j<1073741824
def jqA (i j:Int):Prop:=0<=j/\j<=1000000/\i.natAbs<2^64
def CMul (i j:Int):Prop:=(-(2^64)<i/\i<2^64)\/(-(2^64)<j/\j<2^64)
theorem CMul.ok {i j:Int} (h:CMul i j):IntMulOk i j:=by
 rcases h with ⟨h1,h2⟩|⟨h1,h2⟩
 ·exact .of_left (intBits_le_64 h1 h2)
 ·exact .of_right (intBits_le_64 h1 h2)
theorem op_add:OpR X (binaryOp .Add) (rI0 λi j=> .int (i+j)):=jqz λ_ _ _ _ _ _ _ q=>add_int q
theorem jnu:OpR X (binaryOp .Sub) (rI0 λi j=> .int (i-j)):=jqz λ_ _ _ _ _ _ _ q=>sub_int q
theorem op_mul:OpR X (binaryOp .Mult) (rI CMul λi j=> .int (i*j)):=opI λ_ _ _ _ _ _ _ hc q=>mul_int q hc.ok
theorem jlt:OpR X (binaryOp .FloorDiv) (rI jpw λi j=> .int (i / j)):=opI λi j _ _ _ _ _ hc q=>by
 have h1:(0:Int)<j:=hc.1
 have h2:j<1073741824:=hc.2
 exact floordiv_int (by omega) (by rw [G26 i (by omega)];exact q) (.inl (PyProof.noPylong_small (by omega)))
theorem jnv:OpR X (binaryOp .Mod) (rI (λ_ j=>0<j) λi j=> .int (i%j)):=opI λi j _ _ _ _ _ hc q=>by
 have h1:(0:Int)<j:=hc
 exact mod_int' (by omega) (by rw [G27 i (by omega)];exact q)
theorem jnw:OpR X (binaryOp .Pow) (rI jqA λi j=> .int (i^j.toNat)):=opI λ_ _ _ _ _ _ _ hc q=>pow_int_small hc.1 hc.2.1 hc.2.2 q
theorem unI {f:Value->Sem Value} {g:Int->Int}
 (rule: ∀ (i:Int) (t:Tok) (s:Shared) (Q:Value->Shared->Prop) (E:Value->Shared->Prop),Q (.int (g i) s.toks) {s with toks:=s.toks+1}->wpAny (model X.prog X.w) X.A (f (.int i t)) Q E s):
 UnR X f (rU λi=> .int (g i)):=by
 intro pins s σ H x v Q I rx h
 obtain⟨i,rfl,q⟩:=h
 obtain⟨t,rfl⟩:=rx
 exact rule i t s _ _ ⟨.int (g i),H,I.tok _,⟨_,rfl⟩,q⟩
theorem jnx:UnR X (unaryOp .USub) (rU λi=> .int (-i)):=unI λ_ _ _ _ _ q=>neg_int q
end
def jqB:V->V->Bool
 | .non,.non=>true| .non,.int _=>true| .int _,.non=>true| .non,.bl _=>true| .bl _,.non=>true| .non,.str _=>true| .str _,.non=>true
 | .int _,.int _=>true| .bl _,.bl _=>true| .str _,.str _=>true| .byt _,.byt _=>true
 | .int _,.str _=>true| .str _,.int _=>true| .bl _,.str _=>true| .str _,.bl _=>true
 |_,_=>false
def rEq:R2:=λx y H Q=>jqB x y=true/\Q (.bl (decide (x=y))) H
def rNe:R2:=λx y H Q=>jqB x y=true/\Q (.bl (!decide (x=y))) H
theorem jip {i j:Int}:decide (V.int i=V.int j)=(i==j):=by
 rw [G1x]
 simp
theorem jkY {i j:Bool}:decide (V.bl i=V.bl j)=(i==j):=by
 rw [G1x]
 simp
theorem jiq {i j:Str}:decide (V.str i=V.str j)=(i==j):=by
 rw [G1x]
 simp
theorem jir {i j:Array UInt8}:decide (V.byt i=V.byt j)=(i.toList==j.toList):=by
 rw [G1x]
 cases i
 cases j
 simp
section
variable {X:Cx} {a b c:Expr} {ta tb tc:TE} {pos:Pos}
theorem jaG {pins:List (Addr×Obj)} {σ:St} {H:Hp} {s:Shared} {Q:VK} {k k' :Bool} (I:Inv X pins σ H s) (q:Q (.bl k) H) (e:k=k'):EP X pins σ Q (.bool k') s:=by
 subst e
 exact⟨.bl k,H,I,rfl,q⟩
theorem op_eq:OpR X (compareOp .Eq) rEq:=by
 intro pins s σ H x y v u Q I rx ry h
 obtain⟨hs,q⟩:=h
 cases x with
 |non=>
  cases rx
  cases y with
  |non=>cases ry;exact PySem.EqNone.eq_none_none (jaG I q (by simp))
  |bl j=>cases ry;exact PySem.EqNone.eq_none_bool (jaG I q (by simp))
  |int j=>obtain⟨t',rfl⟩:=ry;exact PySem.EqNone.eq_none_int (jaG I q (by simp))
  |str j=>obtain⟨t',rfl⟩:=ry;exact PySem.EqNone.eq_none_str (jaG I q (by simp))
  |_=>exact absurd (show false=true from hs) G0s
 |bl i=>
  cases rx
  cases y with
  |non=>cases ry;exact PySem.EqNone.eq_bool_none (jaG I q (by simp))
  |bl j=>cases ry;exact eq_bool (jaG I q jkY)
  |str j=>obtain⟨t',rfl⟩:=ry;exact PySem.EqMixed.eq_bool_str (jaG I q (by simp))
  |_=>exact absurd (show false=true from hs) G0s
 |int i=>
  obtain⟨t,rfl⟩:=rx
  cases y with
  |non=>cases ry;exact PySem.EqNone.eq_int_none (jaG I q (by simp))
  |int j=>obtain⟨t',rfl⟩:=ry;exact eq_int (jaG I q jip)
  |str j=>obtain⟨t',rfl⟩:=ry;exact PySem.EqMixed.eq_int_str (jaG I q (by simp))
  |_=>exact absurd (show false=true from hs) G0s
 |str i=>
  obtain⟨t,rfl⟩:=rx
  cases y with
  |non=>cases ry;exact PySem.EqNone.eq_str_none (jaG I q (by simp))
  |bl j=>cases ry;exact PySem.EqMixed.eq_str_bool (jaG I q (by simp))
  |int j=>obtain⟨t',rfl⟩:=ry;exact PySem.EqMixed.eq_str_int (jaG I q (by simp))
  |str j=>obtain⟨t',rfl⟩:=ry;exact eq_str (jaG I q jiq)
  |_=>exact absurd (show false=true from hs) G0s
 |byt i=>
  obtain⟨t,rfl⟩:=rx
  cases y with
  |byt j=>obtain⟨t',rfl⟩:=ry;exact PySem.W.eq_bytes (jaG I q jir)
  |_=>exact absurd (show false=true from hs) G0s
 |_=>cases y<;>exact absurd (show false=true from hs) G0s
theorem op_ne:OpR X (compareOp .NotEq) rNe:=by
 intro pins s σ H x y v u Q I rx ry h
 obtain⟨hs,q⟩:=h
 cases x with
 |non=>
  cases rx
  cases y with
  |non=>cases ry;exact PySem.EqNone.ne_none_none (jaG I q (by simp))
  |bl j=>cases ry;exact PySem.EqNone.ne_none_bool (jaG I q (by simp))
  |int j=>obtain⟨t',rfl⟩:=ry;exact PySem.EqNone.ne_none_int (jaG I q (by simp))
  |str j=>obtain⟨t',rfl⟩:=ry;exact PySem.EqNone.ne_none_str (jaG I q (by simp))
  |_=>exact absurd (show false=true from hs) G0s
 |bl i=>
  cases rx
  cases y with
  |non=>cases ry;exact PySem.EqNone.ne_bool_none (jaG I q (by simp))
  |bl j=>cases ry;exact ne_bool (jaG I q (congrArg not jkY))
  |str j=>obtain⟨t',rfl⟩:=ry;exact PySem.EqMixed.ne_bool_str (jaG I q (by simp))
  |_=>exact absurd (show false=true from hs) G0s
 |int i=>
  obtain⟨t,rfl⟩:=rx
  cases y with
  |non=>cases ry;exact PySem.EqNone.ne_int_none (jaG I q (by simp))
  |int j=>obtain⟨t',rfl⟩:=ry;exact ne_int (jaG I q (congrArg not jip))
  |str j=>obtain⟨t',rfl⟩:=ry;exact PySem.EqMixed.ne_int_str (jaG I q (by simp))
  |_=>exact absurd (show false=true from hs) G0s
 |str i=>
  obtain⟨t,rfl⟩:=rx
  cases y with
  |non=>cases ry;exact PySem.EqNone.ne_str_none (jaG I q (by simp))
  |bl j=>cases ry;exact PySem.EqMixed.ne_str_bool (jaG I q (by simp))
  |int j=>obtain⟨t',rfl⟩:=ry;exact PySem.EqMixed.ne_str_int (jaG I q (by simp))
  |str j=>obtain⟨t',rfl⟩:=ry;exact ne_str (jaG I q (congrArg not jiq))
  |_=>exact absurd (show false=true from hs) G0s
 |byt i=>
  obtain⟨t,rfl⟩:=rx
  cases y with
  |byt j=>obtain⟨t',rfl⟩:=ry;exact PySem.W.ne_bytes (jaG I q (congrArg not jir))
  |_=>exact absurd (show false=true from hs) G0s
 |_=>cases y<;>exact absurd (show false=true from hs) G0s
theorem jpx:OpR X (compareOp .Lt) (rI0 λi j=> .bl (decide (i<j))):=jpf λ_ _ _ _ _ _ _ q=>lt_int q
theorem jpy:OpR X (compareOp .LtE) (rI0 λi j=> .bl (decide (i<=j))):=jpf λ_ _ _ _ _ _ _ q=>le_int q
theorem jpz:OpR X (compareOp .Gt) (rI0 λi j=> .bl (decide (j<i))):=jpf λ_ _ _ _ _ _ _ q=>gt_int q
theorem jpA:OpR X (compareOp .GtE) (rI0 λi j=> .bl (decide (j<=i))):=jpf λ_ _ _ _ _ _ _ q=>ge_int q
theorem OpR.or {f:Value->Value->Sem Value} {r r' :R2} (h:OpR X f r) (h' :OpR X f r'):OpR X f (λx y H Q=>r x y H Q\/r' x y H Q):=by
 intro pins s σ H x y v u Q I rx ry q
 rcases q with q|q
 ·exact h pins s σ H x y v u Q I rx ry q
 ·exact h' pins s σ H x y v u Q I rx ry q
theorem jax (b:Expr) {op:CmpOp} (h:op≠ .In:=by decide) (h2:op≠ .NotIn:=by decide):behindInMarks op b=false:=by
 have e1:(op==CmpOp.In)=false:=by cases op<;>first|rfl|exact absurd rfl h
 have e2:(op==CmpOp.NotIn)=false:=by cases op<;>first|rfl|exact absurd rfl h2
 cases b<;>simp [behindInMarks,e1,e2]
theorem jlu {op:CmpOp} {r:R2} (ho:OpR X (compareOp op) r) (ha:PE X a ta) (hb:PE X b tb) (hm:behindInMarks op b=false):PE X (.Compare a [op] [b] pos) (tOp r ta tb):=by
 intro pins s σ H Q I h
 exact wpAny_Compare1 (jps ha hb I h λv u s2 x y H2 I2 rx ry q=>ho pins s2 σ H2 x y v u Q I2 rx ry q) hm
def jlv (t:TE):TT:=λσ H Q=>t σ H λx H' => ∃k,x= .bl k/\Q k H'
theorem jlw {op:CmpOp} {r:R2} (ho:OpR X (compareOp op) r) (ha:PE X a ta) (hb:PE X b tb) (hm:behindInMarks op b=false):PT X (.Compare a [op] [b] pos) (jlv (tOp r ta tb)):=by
 intro pins s σ H Q I h
 refine wpAny_isTrue_Compare1 (thn (ha pins s σ H _ I h) λv s1 ⟨x,H1,I1,r1,q1⟩=>thn (hb pins s1 σ H1 _ I1 q1) λu s2 ⟨y,H2,I2,r2,q2⟩=>
  thn (ho pins s2 σ H2 x y v u _ I2 r1 r2 q2) λc s3 ⟨z,H3,I3,r3,k,e,q3⟩=> ?_) hm
 subst e
 cases r3
 exact G1i ⟨H3,I3,q3⟩
def jis (r r' :R2) (ta tb tc:TE):TE:=λσ H Q=>ta σ H λx H1=>tb σ H1 λy H2=>r x y H2 λz H3=> ∃k,z= .bl k/\
 (if k=true then tc σ H3 λw' H4=>r' y w' H4 Q else Q (.bl false) H3)
theorem jj2 {op op' :CmpOp} {r r' :R2} (ho:OpR X (compareOp op) r) (ho' :OpR X (compareOp op') r') (ha:PE X a ta) (hb:PE X b tb) (hc:PE X c tc)
 (hm:lastMarks [op,op'] [b,c]=false:=by with_unfolding_all rfl):PE X (.Compare a [op,op'] [b,c] pos) (jis r r' ta tb tc):=by
 intro pins s σ H Q I h
 refine Compare_chain (thn (ha pins s σ H _ I h) λv s1 ⟨x,H1,I1,r1,q1⟩=>chain_link (thn (hb pins s1 σ H1 _ I1 q1) λu s2 ⟨y,H2,I2,r2,q2⟩=>
  thn (ho pins s2 σ H2 x y v u _ I2 r1 r2 q2) λd s3 ⟨z,H3,I3,r3,k,e,q3⟩=> ?_)) hm
 subst e
 cases r3
 refine G1i ?_
 cases k with
 |false=>exact ite_ff ⟨.bl false,H3,I3,rfl,q3⟩
 |true=>exact ite_tt (chain_last (thn (hc pins s3 σ H3 _ I3 q3) λw' s4 ⟨z',H4,I4,r4,q4⟩=>ho' pins s4 σ H4 y z' u w' Q I4 r2 r4 q4))
theorem jj3 {op op' :CmpOp} {r r' :R2} (ho:OpR X (compareOp op) r) (ho' :OpR X (compareOp op') r') (ha:PE X a ta) (hb:PE X b tb) (hc:PE X c tc)
 (hm:lastMarks [op,op'] [b,c]=false:=by with_unfolding_all rfl):PT X (.Compare a [op,op'] [b,c] pos) (jlv (jis r r' ta tb tc)):=by
 intro pins s σ H Q I h
 refine isTrue_chain (thn (ha pins s σ H _ I h) λv s1 ⟨x,H1,I1,r1,q1⟩=>test_link (thn (hb pins s1 σ H1 _ I1 q1) λu s2 ⟨y,H2,I2,r2,q2⟩=>
  thn (ho pins s2 σ H2 x y v u _ I2 r1 r2 q2) λd s3 ⟨z,H3,I3,r3,k,e,q3⟩=> ?_)) hm
 subst e
 cases r3
 refine G1i ?_
 cases k with
 |false=>
  obtain⟨k',e',q'⟩:=q3
  cases e'
  exact ite_ff ⟨H3,I3,q'⟩
 |true=>
  refine ite_tt (test_last (thn (hc pins s3 σ H3 _ I3 q3) λw' s4 ⟨z',H4,I4,r4,q4⟩=>thn (ho' pins s4 σ H4 y z' u w' _ I4 r2 r4 q4) λd' s5 ⟨z2,H5,I5,r5,k2,e2,q5⟩=> ?_))
  subst e2
  cases r5
  exact G1i ⟨H5,I5,q5⟩
theorem jfZ:(sizeLine:Nat)<2^63:=by rw [G3O];decide
theorem je2 {x:V} {us:List Value} (r:Vals [x] us): ∃u,us= [u]/\RelV x u:=by
 cases r with
 |cons r1 r2=>cases r2;exact⟨_,rfl,r1⟩
theorem jj4 {x y:V} {us:List Value} (r:Vals [x,y] us): ∃u w',us= [u,w']/\RelV x u/\RelV y w' :=by
 cases r with
 |cons r1 r2=>
  cases r2 with
  |cons r3 r4=>cases r4;exact⟨_,_,rfl,r1,r3⟩
theorem jit (hc:X.calm=true):CallR X (.builtin "max") (λxs H Q=> ∃i j,xs= [.int i,.int j]/\Q (.int (if j>i then j else i)) H):=by
 intro pins s σ H xs us Q I r h
 obtain⟨i,j,rfl,q⟩:=h
 obtain⟨u,w',rfl,⟨t,rfl⟩,⟨t',rfl⟩⟩:=jj4 r
 refine max_two_ints (I.ok.hd hc) λh' tk k=>⟨_,H,I.kept k,?_,q⟩
 by_cases hj:j>i
 ·rw [if_pos hj,if_pos hj];exact⟨_,rfl⟩
 ·rw [if_neg hj,if_neg hj];exact⟨_,rfl⟩
theorem call_int1:CallR X (.type "int") (λxs H Q=>(∃i,xs= [.int i]/\Q (.int i) H)\/ ∃k,xs= [.bl k]/\Q (.int (if k then 1 else 0)) H):=by
 intro pins s σ H xs us Q I r h
 rcases h with ⟨i,rfl,q⟩|⟨k,rfl,q⟩
 ·obtain⟨u,rfl,t,rfl⟩:=je2 r
  exact call_int_int ⟨.int i,H,I,⟨_,rfl⟩,q⟩
 ·obtain⟨u,rfl,r1⟩:=je2 r
  cases r1
  exact call_int_bool ⟨.int (if k then 1 else 0),H,I.tok _,⟨_,rfl⟩,q⟩
end
structure ObjM (h:Heap) (x dx C:Addr) (mA:Str->Option Value):Prop where
 obj:h.get? x=some (PySem.W.instObj C dx)
 ns:h.Ns1 dx mA
 ne:dx≠x
theorem jiu {h:Heap} {dx:Addr} {mA:Str->Option Value} (n:h.Ns1 dx mA): ∃od,h.get? dx=some od/\ ∀name,PySem.W.lookIn name od=some (mA name):=by
 obtain⟨o,es,ep,ho,hd,hk,_,hm⟩:=n
 refine⟨o,ho,λname=> ?_⟩
 have e:=hm name
 unfold nsFind findBy at e
 rw [<-Array.find?_toList] at e
 unfold PySem.W.lookIn
 rw [hd]
 dsimp only
 split
 ·rename_i y q
  rw [q] at e
  exact congrArg some e
 ·rename_i q
  rw [q] at e
  have a:es.toList.any (·.refKey)=false:=by
   rw [List.any_eq_false]
   intro y hy
   obtain⟨z,t,hkey⟩:=hk y (Array.mem_toList_iff.mp hy)
   simp [DictEntry.refKey,hkey]
  have a' : ¬es.toList.any (·.refKey)=true:=by rw [a];exact G0s
  rw [if_neg a']
  exact congrArg some e
theorem ObjM.look {h:Heap} {x dx C:Addr} {mA:Str->Option Value} (I:ObjM h x dx C mA): ∃od,PySem.W.InstAt h x (PySem.W.instObj C dx) C (some od)/\ ∀name,PySem.W.lookIn name od=some (mA name):=
 let ⟨od,ho,hl⟩:=jiu I.ns
 ⟨od,⟨I.obj,rfl,rfl,ho⟩,hl⟩
theorem RelO.some_of {v:V} {o:Option Value} (r:RelO (some v) o): ∃u,o=some u/\RelV v u:=by
 cases o with
 |none=>exact(show False from r).elim
 |some u=>exact⟨u,rfl,r⟩
section
variable {P:Program} {w:World} {H H' :Hp} {h h' :Heap} {a C dx:Addr} {fs fs' :List (Str×V)}
theorem jlx (hok:HOk P w H h) (e:H a=some (.ins C dx fs)): ∃mA,ObjM h a dx C mA/\(∀f,RelO (fs.lookup f) (mA f))/\PySem.Within mA (fs.map (·.1))/\fs.length<=1000/\H dx=some (.own a):=by
 obtain⟨d,z,ne,ob,mA,n,r,q⟩:=(show ObjOk P w H h a (.ins C dx fs) from hok a _ e)
 exact⟨mA,⟨ob,n,ne⟩,r,q,z,d⟩
end
structure Cls (K:PySem.W.Frag) (C:Addr):Prop where
 pg:PySem.W.plainGet K C Str.empty=true
 hd:PySem.W.hasDictIn K C=true
 po:PySem.W.plainOver K C=true
 sa:PySem.W.findIn K (.ref C) "__setattr__" =some (some (.builtin "object.__setattr__"))
theorem Cls.get {K:PySem.W.Frag} {C:Addr} (c:Cls K C) (f:Str):PySem.W.plainGet K C f=true:=c.pg
structure Con (K:PySem.W.Frag) (C:Addr) (f:Str) (v:V) (u:Value):Prop where
 at_:PySem.W.findIn K (.ref C) f=some (some u)
 rel:RelV v u
 get:PySem.W.specialIn K u "__get__" =some none
 cp:PySem.W.copiedNames.contains f=false
structure Meth (K:PySem.W.Frag) (C:Addr) (m:Str) (f:Addr):Prop where
 at_:PySem.W.findIn K (.ref C) m=some (some (.ref f))
 fn:PySem.W.isFn K (.ref f)=true
 kp:PySem.W.keepIn K (.ref f)=true
section
variable {X:Cx} {pins:List (Addr×Obj)} {σ:St} {H:Hp} {s:Shared} {A:Around} {E:Value->Shared->Prop} {Q:Value->Shared->Prop} {c:Value} {b:Bool}
inductive TyOf (K:PySem.W.Frag) (H:Hp):V->Value->Prop where
 |non:TyOf K H .non (.type "NoneType")
 |bl (x:Bool):TyOf K H (.bl x) (.type "bool")
 |int (i:Int):TyOf K H (.int i) (.type "int")
 |str (x:Str):TyOf K H (.str x) (.type "str")
 |flt (x:UInt64):TyOf K H (.flt x) (.type "float")
 |lst {a:Addr} {xs:List V} (e:H a=some (.lst xs)):TyOf K H (.ref a) (.type "list")
 |frz {a:Addr} {o:Obj} {xs:List V} (e:H a=some (.frz o (.lst xs))):TyOf K H (.ref a) (.type "list")
 |tup {a:Addr} {xs:List V} (e:H a=some (.tup xs)):TyOf K H (.ref a) (.type "tuple")
 |dK {a:Addr} {kvs:List (Key×V)} (e:H a=some (.dK kvs)):TyOf K H (.ref a) (.type "dict")
 |dT {a:Addr} {kvs:List (List Key×V)} (e:H a=some (.dT kvs)):TyOf K H (.ref a) (.type "dict")
 |ins {a C dx:Addr} {fs:List (Str×V)} (e:H a=some (.ins C dx fs)) (cl:Cls K C) (ha:PySem.W.findIn K (.ref C) "__class__" =some (some (.builtin "object.__class__")))
  (hn:PySem.W.specialIn K (.builtin "object.__class__") "__get__" =some (some (.builtin "getset_descriptor.__get__"))) (htk:PySem.W.takesIn K (.builtin "object.__class__")=some true)
  (hm:PySem.W.mroIn K C (.type "object")=some true):TyOf K H (.ref a) (.ref C)
theorem jiv {x:V} {u t:Value} (I:Inv X pins σ H s) (rx:RelV x u) (ty:TyOf X.K H x t) (e:PySem.W.kitOne X.K t c=some b) (h: ∀tk,Q (.bool b) {s with toks:=tk}):
 wpAny (model X.prog X.w) A (call (.builtin "isinstance") [u,c]) Q E s:=by
 cases ty with
 |non=>cases (show u=Value.none from rx);exact G1s PySem.W.kitx_none I.kIn True.intro e (λz=>nomatch z) h
 |bl y=>cases (show u=Value.bool y from rx);exact G1s PySem.W.kitx_bool I.kIn True.intro e (λz=>nomatch z) h
 |int i=>obtain⟨t,q⟩:=(show ∃t,u=Value.int i t from rx);cases q;exact G1s PySem.W.kitx_int I.kIn True.intro e (λz=>nomatch z) h
 |str y=>obtain⟨t,q⟩:=(show ∃t,u=Value.str y t from rx);cases q;exact G1s PySem.W.kitx_str I.kIn True.intro e (λz=>nomatch z) h
 |flt y=>obtain⟨t,q⟩:=(show ∃t,u=Value.float y t from rx);cases q;exact G1s PySem.W.kitx_float I.kIn True.intro e (λz=>nomatch z) h
 | @lst a xs ea=>
  cases (show u=Value.ref a from rx)
  obtain⟨_,_,n,_,h1⟩:=(show ObjOk X.prog X.w H s.heap a (.lst xs) from I.hok a _ ea)
  exact G1s PySem.W.kitx_list I.kIn ⟨_,h1,rfl⟩ e (λz=>nomatch z) h
 | @frz a ob xs ea=>
  cases (show u=Value.ref a from rx)
  obtain⟨_,_,_,n,_,h1⟩:=(show ObjOk X.prog X.w H s.heap a (.frz ob (.lst xs)) from I.hok a _ ea)
  exact G1s PySem.W.kitx_list I.kIn ⟨_,h1,rfl⟩ e (λz=>nomatch z) h
 | @tup a xs ea=>
  cases (show u=Value.ref a from rx)
  obtain⟨_,_,_,p⟩:=(show ObjOk X.prog X.w H s.heap a (.tup xs) from I.hok a _ ea)
  obtain⟨o,h1,h2,_⟩:=p
  exact G1s PySem.W.kitx_tuple I.kIn ⟨o,h1,h2⟩ e (λz=>nomatch z) h
 | @dK a kvs ea=>
  cases (show u=Value.ref a from rx)
  obtain⟨_,_,vs,_,p⟩:=(show ObjOk X.prog X.w H s.heap a (.dK kvs) from I.hok a _ ea)
  obtain⟨o,es,ep,h1,h2,_⟩:=p
  exact G1s PySem.W.kitx_dict I.kIn ⟨o,h1,h2.1⟩ e (λz=>nomatch z) h
 | @dT a kvs ea=>
  cases (show u=Value.ref a from rx)
  obtain⟨_,_,xs,_,o,es,ep,h1,h2,_⟩:=(show ObjOk X.prog X.w H s.heap a (.dT kvs) from I.hok a _ ea)
  exact G1s PySem.W.kitx_dict I.kIn ⟨o,h1,h2.1⟩ e (λz=>nomatch z) h
 | @ins a C dx fs ea cl ha hn htk hm=>
  cases (show u=Value.ref a from rx)
  obtain⟨mA,O,_⟩:=jlx I.hok ea
  obtain⟨od,J,_⟩:=O.look
  exact G1s (PySem.W.kitx_own (cl.get _) cl.hd ha hn htk hm) I.kIn J e (λz=>nomatch z) h
end
structure Room (k:Nat) (A:Around):Prop where
 hd:A.handled=none
 dp:A.depth+3*k+5<recursionLimit
 un:A.units+16*k+200<cLine
 gd:A.guards=some []
theorem Room.mono {j k:Nat} {A:Around} (r:Room k A) (h:j<=k):Room j A:=⟨r.hd,by have:=r.dp;omega,by have:=r.un;omega,r.gd⟩
theorem Room.deeper {k:Nat} {A:Around} (r:Room (k+1) A) (env:Env):Room k (A.deeper env):=
 ⟨r.hd,by have:=r.dp;show A.depth+1+3*k+5<_;omega,by have:=r.un;show A.units+3+16*k+200<_;omega,r.gd⟩
theorem Room.depth {k:Nat} {A:Around} (r:Room k A):A.depth<recursionLimit:=by have:=r.dp;omega
theorem Room.units {k:Nat} {A:Around} (r:Room k A):A.units+64<cLine:=by have:=r.un;omega
def jpB:TA:=λ_ H Q=>Q [] H
def jj5 (ta:TE) (tr:TA):TA:=λσ H Q=>ta σ H λx H1=>tr σ H1 λxs H2=>Q (x::xs) H2
section
variable {X:Cx} {e:Expr} {es:List Expr} {te:TE} {t:TA} {pos:Pos}
theorem pa_nil:PA X [] jpB:=λ_ _ _ _ H Q I h=>G3m ⟨[],H,I,.nil,h⟩
theorem jbS (ha:PE X e te) (hr:PA X es t) (hs:starEach (e::es) X.env=(false,eval e X.env)::starEach es X.env:=by rfl):PA X (e::es) (jj5 te t):=by
 intro pos pins s σ H Q I h
 rw [hs]
 show wpAny _ _ (spliced ((false,eval e X.env)::backTo pos (starEach es X.env))) _ _ s
 refine G2w (thn (ha pins s σ H _ I h) λu s1 ⟨x,H1,I1,r1,q1⟩=> ?_)
 exact thn (hr pos pins s1 σ H1 _ I1 q1) λus s2 ⟨xs,H2,I2,r2,q2⟩=>⟨x::xs,H2,I2,.cons r1 r2,q2⟩
def jqC (t:TA):TE:=λσ H Q=>t σ H λxs H1=>xs.length<=sizeLine/\ ∀p,H1 p=none->Q (.ref p) (upd H1 p (.tup xs))
def jqD (t:TA):TE:=λσ H Q=>t σ H λxs H1=>xs.length<=sizeLine/\ ∀p,H1 p=none->Q (.ref p) (upd H1 p (.lst xs))
theorem jny {x1} (h:PA X es t):PE X (.Tuple es x1 pos) (jqC t):=by
 intro pins s σ H Q I hq
 refine wpAny_Tuple_spliced (thn (h pos pins s σ H _ I hq) λus s1 ⟨xs,H1,I1,r,z,q⟩=>⟨by rw [<-r.length];exact z,?_⟩)
 have hf:H1 s1.heap.objs.size=none:=I1.hok.fresh (G0k _)
 refine⟨.ref s1.heap.objs.size,upd H1 s1.heap.objs.size (.tup xs),I1.laid (t' :=s1.toks) (λb u e=>G0f _ e) (G0k _) ?_,rfl,q _ hf⟩
 exact⟨z,us,r,IsTupN.new _ _⟩
theorem jnz (h:PA X es t):PE X (.List es pos) (jqD t):=by
 intro pins s σ H Q I hq
 refine wpAny_List_spliced (thn (h pos pins s σ H _ I hq) λus s1 ⟨xs,H1,I1,r,z,q⟩=>⟨by rw [<-r.length];exact z,?_⟩)
 have hf:H1 s1.heap.objs.size=none:=I1.hok.fresh (G0k _)
 refine⟨.ref s1.heap.objs.size,upd H1 s1.heap.objs.size (.lst xs),I1.laid (t' :=s1.toks) (λb u e=>G0f _ e) (G0k _) ?_,rfl,q _ hf⟩
 exact⟨z,us,0,r,G0S _ rfl⟩
end
abbrev Sp:=List V->Hp->VK->XK->Prop
abbrev CXT:=List Env->Hp->Shared->XK->Value->Shared->Prop
structure Env0 (P:Program) (w:World) (K:PySem.W.Frag) (mg:Str->Option Value) (base:Heap) (A:Around) (outer:List Env) (s:Shared) (H:Hp):Prop where
 frames:A.frames=some outer
 mod:Mod K mg base
 bs: ∀b o,base.get? b=some o->s.heap.get? b=some o/\H b=none
 bsz:base.objs.size<=s.heap.objs.size
 funs:s.heap.FunFrames base outer
 frf: ∀b∈frs outer,H b=none
 hok:HOk P w H s.heap
 bare:AllBare s.gens
def CE (outer:List Env) (P:Program) (w:World) (H:Hp) (s:Shared) (Q:VK) (u:Value) (s' :Shared):Prop:=
 ∃v H',s'.os=s.os/\AllBare s'.gens/\Un (frs outer) [] H H' s.heap s'.heap/\HOk P w H' s'.heap/\RelV v u/\Q v H'
def CR (CX:CXT) (outer:List Env) (P:Program) (w:World) (H:Hp) (s:Shared) (Q:VK) (E:XK) (r:Result) (s' :Shared):Prop:=
 match r with
 | .ok (.ret u)=>CE outer P w H s Q u s'
 | .ok _=>False
 | .error e=>CX outer H s E e s'
structure FnOk (P:Program) (w:World) (K:PySem.W.Frag) (mg:Str->Option Value) (base:Heap) (CX:CXT) (k:Nat) (f:Addr) (fd:FuncData) (ps:List Str) (sp:Sp):Prop where
 len: ∀vs H Q E,sp vs H Q E->vs.length=ps.length
 run: ∀ (A:Around) (outer:List Env) (s:Shared) (H:Hp) (args:Args) (us:List Value) (vs:List V) (Q:VK) (E:XK),Room k A->Env0 P w K mg base A outer s H->BindsTo s fd args (ps.zip us)->Vals vs us->sp vs H Q E->
  codeAny (model P w) A (.call (.ref f) args) (CR CX outer P w H s Q E) s
section
variable {X:Cx} {pins:List (Addr×Obj)} {σ:St} {H:Hp} {s s' :Shared}
theorem Inv.env0 (I:Inv X pins σ H s):Env0 X.prog X.w X.K X.mg X.base X.A X.stack s H:=
 ⟨I.ok.frames,I.ok.mod,I.bs,G01 I.ok.bsz I.sz,I.stack,I.stkFree,I.hok,I.bare⟩
theorem Inv.after {Q:VK} {u:Value} (I:Inv X pins σ H s) (h:CE X.stack X.prog X.w H s Q u s'):EP X pins σ Q u s' :=by
 obtain⟨v,H',os,bare,un,hok,r,q⟩:=h
 obtain⟨hh,g,d,t,os'⟩:=s'
 obtain rfl:os' =s.os:=os
 exact⟨v,H',I.call (h' :=hh) (g' :=g) (d' :=d) (t' :=t) (ch:= []) un hok bare (λb z=>absurd z (by simp)),r,q⟩
end
def jly (sp:Sp) (dvs:List V) (E:XK) (t:TA):TE:=λσ H Q=>t σ H λvs H1=>sp (vs++dvs) H1 Q E
def Binds (K:PySem.W.Frag) (fd:FuncData) (ps:List Str) (ds:List Value):Prop:=
 ∀ (s:Shared) (us:List Value),K.In s.heap->(us++ds).length=ps.length->BindsTo s fd ⟨us,[]⟩ (ps.zip (us++ds))
theorem Binds.all {K:PySem.W.Frag} {fd:FuncData} {ps:List Str} (h: ∀us:List Value,us.length=ps.length->bindArgs fd ⟨us,[]⟩=pure (ps.zip us)):Binds K fd ps []:=λs us _ hl=>by
 rw [G1t] at hl ⊢
 exact .of_eq (h us hl)
def jel (CX:CXT) (X:Cx) (E:XK):Prop:= ∀ (pins:List (Addr×Obj)) (σ:St) (H:Hp) (s:Shared) (e:Value) (s' :Shared),Inv X pins σ H s->CX X.stack H s E e s' ->X.xe e s'
section
variable {X:Cx} {CX:CXT} {k:Nat} {f C:Addr} {fd:FuncData} {ps:List Str} {sp:Sp} {dvs:List V} {ds:List Value} {E:XK} {x m:Str} {p pos apos:Pos} {e o:Expr} {es:List Expr} {ta:TE} {t:TA}
theorem jnA {pins:List (Addr×Obj)} {σ:St} {H:Hp} {s:Shared} {Q:VK} {us:List Value} {vs:List V} (F:FnOk X.prog X.w X.K X.mg X.base CX k f fd ps sp) (hr:Room k X.A) (hb:Binds X.K fd ps ds) (hd:Vals dvs ds) (hx:jel CX X E)
 (I:Inv X pins σ H s) (r:Vals vs us) (h:sp (vs++dvs) H Q E):wpAny (model X.prog X.w) X.A (call (.ref f) us) (EP X pins σ Q) X.xe s:=by
 have r2:Vals (vs++dvs) (us++ds):=r.append hd
 have hl:(us++ds).length=ps.length:=by rw [<-r2.length];exact F.len _ _ _ _ h
 refine G3n (G2N (F.run X.A X.stack s H ⟨us,[]⟩ (us++ds) (vs++dvs) Q E hr I.env0 (hb s us I.kIn hl) r2 h) λr s' hq=> ?_)
 cases r with
 |error e=>exact hx pins σ H s e s' I hq
 |ok fl=>
  cases fl with
  |ret u=>exact I.after hq
  |next=>exact False.elim hq
  |brk=>exact False.elim hq
  |cont=>exact False.elim hq
theorem jiw (F:FnOk X.prog X.w X.K X.mg X.base CX k f fd ps sp) (hr:Room k X.A) (hg:Gl X x) (hm:X.mg x=some (.ref f)) (hk:PySem.W.keepIn X.K (.ref f)=true) (hb:Binds X.K fd ps ds) (hd:Vals dvs ds) (hx:jel CX X E)
 (ha:PA X (e::es) t) (hdb:(x==("__debug__" :Str))=false:=by decide) (he:starEach (e::es) X.env=(false,eval e X.env)::starEach es X.env:=by rfl) (hpl:(backTo pos (starEach es X.env)).any (·.1)=false:=by rfl):
 PE X (.Call (.Name x p) (e::es) [] pos) (jly sp dvs E t):=by
 intro pins s σ H Q I h
 refine G1C (jdI I hg hm ?_ hdb)
 refine G3b (h₀:=X.base) I.ok.mod.kin hk (thn (ha pos pins s σ H _ I h) λus s1 ⟨vs,H1,I1,r,q⟩=>⟨I1.kIn,?_⟩) he hpl
 exact jnA F hr hb hd hx I1 r q
structure Mk (K:PySem.W.Frag) (C f:Addr):Prop where
 makes:PySem.W.makesIn K C=true
 init:PySem.W.findIn K (.ref C) "__init__" =some (some (.ref f))
 fn:PySem.W.isFn K (.ref f)=true
 kp:PySem.W.keepIn K (.ref C)=true
end
section
variable {X:Cx} {CX:CXT} {k:Nat} {f C:Addr} {fd:FuncData} {ps ks:List Str} {sp:Sp} {E:XK} {x m:Str} {p pos apos kpos:Pos} {e o:Expr} {es:List Expr} {kws:List Keyword} {te ta:TE} {t tk:TA} {nm:Option Str}
structure KBinds (K:PySem.W.Frag) (fd:FuncData) (ps ks:List Str) (g:List Value->List Value->List Value) (gV:List V->List V->List V):Prop where
 to: ∀ (s:Shared) (us ws:List Value),K.In s.heap->(g us ws).length=ps.length->BindsTo s fd ⟨us,ks.zip ws⟩ (ps.zip (g us ws))
 rel: ∀ {vs:List V} {us:List Value} {zs:List V} {ws:List Value},Vals vs us->Vals zs ws->Vals (gV vs zs) (g us ws)
variable {g:List Value->List Value->List Value} {gV:List V->List V->List V}
end
structure FnScope (N P:List Str) (sc:Scope):Prop where
 kind:sc.kind= .function
 co:sc.isCoroutine=false
 gen:sc.isGenerator=false
 nd:N.Nodup
 pre:N.take P.length=P
 par: ∀x∈P,sc.names.lookup x=some .local\/sc.names.lookup x=some .cell
 nofree: ∀y∈sc.names,y.2≠ .free
theorem jf0 {kindOf:Str->Option NameKind} {x:Str}: ∀ {binds:List (Str×Value)} {m:Str->Option Value},(∀v,(x,v) ∉ binds)->bindL kindOf binds m x=m x
 | [],_,_=>rfl
 |(n,v)::r,m,h=>by
  unfold bindL
  rw [jf0 λw hw=>h w (G0G _ hw)]
  split
  ·have:x≠n:=by rintro rfl;exact h v G0C
   simp [this]
  ·rfl
theorem jf1 {kindOf:Str->Option NameKind} {x:Str}: ∀ {binds:List (Str×Value)} {m:Str->Option Value},(∀v,(x,v) ∉ binds)->bindC kindOf binds m x=m x
 | [],_,_=>rfl
 |(n,v)::r,m,h=>by
  unfold bindC
  rw [jf1 λw hw=>h w (G0G _ hw)]
  split
  ·rfl
  ·have:x≠n:=by rintro rfl;exact h v G0C
   simp [this]
theorem jem {kindOf:Str->Option NameKind} {x:Str} {v:Value}: ∀ {P:List Str} {vs:List Value} {i:Nat} {m:Str->Option Value},P.Nodup->P[i]? =some x->vs[i]? =some v->kindOf x=some .local->
 bindL kindOf (P.zip vs) m x=some v
 | [],_,_,_,_,h,_,_=>by simp at h
 |_::_,[],_,_,_,_,h,_=>by simp at h
 |p::P,w::vs,0,m,nd,h1,h2,hk=>by
  simp at h1 h2;subst h1;subst h2
  show bindL kindOf ((p,w)::P.zip vs) m p=_
  unfold bindL
  rw [jf0 λv hv=>(G20.mp nd).1 (G2x hv).1,if_pos hk]
  simp
 |p::P,w::vs,i+1,m,nd,h1,h2,hk=>by
  show bindL kindOf ((p,w)::P.zip vs) m x=_
  unfold bindL
  exact jem (i:=i) (G20.mp nd).2 (by simpa using h1) (by simpa using h2) hk
theorem jen {kindOf:Str->Option NameKind} {x:Str} {v:Value}: ∀ {P:List Str} {vs:List Value} {i:Nat} {m:Str->Option Value},P.Nodup->P[i]? =some x->vs[i]? =some v->kindOf x≠some .local->
 bindC kindOf (P.zip vs) m x=some v
 | [],_,_,_,_,h,_,_=>by simp at h
 |_::_,[],_,_,_,_,h,_=>by simp at h
 |p::P,w::vs,0,m,nd,h1,h2,hk=>by
  simp at h1 h2;subst h1;subst h2
  show bindC kindOf ((p,w)::P.zip vs) m p=_
  unfold bindC
  rw [jf1 λv hv=>(G20.mp nd).1 (G2x hv).1,if_neg hk]
  simp
 |p::P,w::vs,i+1,m,nd,h1,h2,hk=>by
  show bindC kindOf ((p,w)::P.zip vs) m x=_
  unfold bindC
  exact jen (i:=i) (G20.mp nd).2 (by simpa using h1) (by simpa using h2) hk
def start (N:List Str) (vs:List V):St:=vs.map some++List.replicate (N.length-vs.length) none
def jft (CX:CXT) (P:Program) (w:World) (K:PySem.W.Frag) (mg:Str->Option Value) (base:Heap) (N:List Str) (qual:Str) (scope:Scope) (f:Addr) (cd:Value) (A:Around) (outer:List Env) (s:Shared) (H:Hp) (E:XK):Cx where
 prog:=P
 w:=w
 K:=K
 mg:=mg
 base:=base
 A:=A.deeper (envOfC qual scope s.heap.objs.size f cd)
 N:=N
 s₀:=s
 H₀:=H
 env:=envOfC qual scope s.heap.objs.size f cd
 outer:=outer
 stack:=envOfC qual scope s.heap.objs.size f cd::outer
 ex:= []
 calm:=true
 fn:=λ_=>true
 pn:= []
 xe:=λe s' =>wpAny (model P w) (A.deeper (envOfC qual scope s.heap.objs.size f cd)) (leaving (envOfC qual scope s.heap.objs.size f cd) e) (λ_ s'' =>CX outer H s E e s'') (λe' s'' =>CX outer H s E e' s'') s'
theorem jcz {sc:Scope} {n:Nat} {x:Str} (h:sc.names.lookup x=some .cell): ∃c,(cellsFrom n sc.names []).lookup x=some c:=by
 have q:=G2a sc.names n [] (.inl h)
 exact G1u.mp q
theorem jf2 {CX:CXT} {P:Program} {w:World} {K:PySem.W.Frag} {mg:Str->Option Value} {base:Heap} {N ps:List Str} {qual:Str} {scope:Scope} {f:Addr} {cd:Value} {A:Around} {outer:List Env} {s s1:Shared} {H:Hp} {E:XK} {us:List Value} {vs:List V}
 (S:FnScope N ps scope) (hd:A.handled=none) (e0:Env0 P w K mg base A outer s H) (hl:vs.length=ps.length) (r:Vals vs us)
 (x:InCallC s s.heap.objs.size (bindL (envOfC qual scope s.heap.objs.size f cd).kindOf (ps.zip us) λ_=>none) (cellsFrom (s.heap.objs.size+1) scope.names []) (bindC (envOfC qual scope s.heap.objs.size f cd).kindOf (ps.zip us) λ_=>none) s1):
 Inv (jft CX P w K mg base N qual scope f cd A outer s H E) [] (start N vs) H s1:=by
 have hpl:ps.length<=N.length:=by have:=congrArg List.length S.pre;rw [G0E] at this;omega
 obtain⟨h1,tk,rfl,hk⟩:=x.done
 have noA: ∀b:Addr,b ∉ (jft CX P w K mg base N qual scope f cd A outer s H E).ex:=λb z=>absurd (show b∈([]:List Addr) from z) (by simp)
 refine⟨⟨e0.mod,S.kind,rfl,rfl,G0k _,λy z c h1 h2=> ?_,λy hy=> ?_,λy c _ h=> ?_,λ_=>hd,G2V e0.frames,.inr ⟨rfl,rfl⟩,λb z=>absurd z (noA b),e0.bs,e0.bsz,λb _ _=>noA b,λb z=>absurd z (noA b),e0.funs,e0.frf⟩,
  rfl,e0.bare,Un.kept hk,⟨_,x.toInCall.ns,λi y v h1 h2 h3=> ?_⟩,λy c h=>⟨_,x.cell y c h⟩,e0.hok.fresh (G0k _),λy c h=> ?_,λp hp=>absurd (show p∈([]:List (Addr×Obj)) from hp) (by simp),e0.hok.kept hk,?_⟩
 ·exact name_of_addr x.apart (G1e h1) (G1e h2)
 ·have hy:scope.names.lookup y=some .cell\/scope.names.lookup y=some .free:=hy
  rcases hy with hy|hy
  ·exact jcz hy
  ·exact absurd rfl (S.nofree _ (G1e hy))
 ·exact G0W (x.above y c (G1e h))
 ·have hi:i<vs.length:=by
   unfold start at h2
   by_cases hi:i<vs.length
   ·exact hi
   ·rw [G0q (by simpa using hi)] at h2
    rw [G17] at h2
    split at h2<;>cases h2
  have ha:vs[i]? =some v:=by
   unfold start at h2
   rw [G0I (by simpa using hi),G0H] at h2
   cases e:vs[i]? with
   |none=>rw [e] at h2;cases h2
   |some a=>rw [e] at h2;cases h2;rfl
  obtain⟨u,hu,rv⟩:=r.get ha
  have hp:ps[i]? =some y:=by
   rw [<-S.pre,G1p (by omega)];exact h1
  have ndP:ps.Nodup:=by rw [<-S.pre];exact S.nd.sublist (G1L _ _)
  refine⟨u,rv,?_⟩
  rcases S.par y (G0i hp) with k|k
  ·exact .inl ⟨k,jem ndP hp hu k⟩
  ·obtain⟨c,e⟩:=jcz (n:=s.heap.objs.size+1) k
   refine .inr ⟨.inl k,c,e,?_⟩
   have q:=x.cell y c e
   rw [jen ndP hp hu (by show scope.names.lookup y≠_;rw [k];decide)] at q
   exact q
 ·exact e0.hok.fresh (G0W (x.above y c (G1e h)))
 ·unfold start
  show _=N.length
  rw [G0a,G0c,G1S]
  omega
theorem jlz {CX:CXT} {P:Program} {w:World} {K:PySem.W.Frag} {mg:Str->Option Value} {base:Heap} {k:Nat} {f:Addr} {name qual:Str} {params:Arguments} {body:List Stmt} {scope:Scope} {dV kV doc pm cdv ct oc:Value} {an od:Option Addr}
 {osl:Array (Option Value)} {N ps:List Str} {sp:Sp} (lk:K.lookup f=some ⟨oc,od,.func (PySem.W.fnOf name qual params body scope dV kV doc pm an cdv ct),osl⟩) (hcd:PySem.W.codeIn K cdv qual=true) (S:FnScope N ps scope)
 (len: ∀vs H Q E,sp vs H Q E->vs.length=ps.length)
 (hbody: ∀ (A:Around) (outer:List Env) (s:Shared) (H:Hp) (vs:List V) (Q:VK) (E:XK),Room k (A.deeper (envOfC qual scope s.heap.objs.size f cdv))->sp vs H Q E->
  ∃t,PSs (jft CX P w K mg base N qual scope f cdv A outer s H E) body t/\t {nx:=λ_ H' =>Q .non H',rt:=Q} (start N vs) H):
 FnOk P w K mg base CX (k+1) f (PySem.W.fnOf name qual params body scope dV kV doc pm an cdv ct) ps sp:=by
 refine⟨len,λA outer s H args us vs Q E hr e0 hb r hsp=> ?_⟩
 have hl:=len _ _ _ _ hsp
 have KX:K.In s.heap:=e0.mod.kin.keeps λb o e=>(e0.bs b o e).1
 have lim:s.heap.NoLimit:=e0.mod.nolimit.keeps λb o e=>(e0.bs b o e).1
 have hkind: ∀y∈ps.zip us,scope.names.lookup y.1=some .local\/(scope.names.lookup y.1=some .cell/\((cellsFrom (s.heap.objs.size+1) scope.names []).lookup y.1).isSome=true):=λ⟨n,v⟩ hy=>by
  rcases S.par n (G2x hy).1 with q|q
  ·exact .inl q
  ·exact .inr ⟨q,G2a _ _ _ (.inl q)⟩
 refine G2O hr.depth (KX _ _ lk) rfl S.co S.gen rfl (G3c KX hcd) (hb _ _ _ _ ?_)
 refine G2o S.kind hkind λenv he s1 x=> ?_
 subst he
 refine⟨lim.keeps x.toInCall.keep,codeAny_func ?_⟩
 obtain⟨t,ht,hq⟩:=hbody A outer s H vs Q E (hr.deeper _) hsp
 have I:Inv (jft CX P w K mg base N qual scope f cdv A outer s H E) [] (start N vs) H s1:=jf2 S hr.hd e0 hl r x
 refine G0D (ht [] s1 (start N vs) H _ I hq) (λfl s' hs=> ?_) λe s' hs=>hs
 have fin: ∀ {σ' :St} {H' :Hp} {v:V} {u:Value},Inv (jft CX P w K mg base N qual scope f cdv A outer s H E) [] σ' H' s' ->RelV v u->Q v H' ->CE outer P w H s Q u s' :=
  λ{σ' H' v u} J rv q=>⟨v,H',J.os,J.bare,J.base,J.hok,rv,q⟩
 cases fl with
 |ret u=>
  obtain⟨v,σ',H',J,rv,q⟩:=hs
  exact fin J rv q
 |next=>
  obtain⟨σ',H',J,q⟩:=hs
  exact fin (v:=V.non) (u:=Value.none) J rfl q
 |brk=>
  obtain⟨_,_,_,q⟩:=hs
  exact False.elim q
 |cont=>
  obtain⟨_,_,_,q⟩:=hs
  exact False.elim q
section
variable {X:Cx} {x:Str} {p pos:Pos} {e:Expr} {es:List Expr} {t:TA} {id T:String} {r:List V->Hp->VK->Prop}
def tCB (r:List V->Hp->VK->Prop) (t:TA):TE:=λσ H Q=>t σ H λvs H1=>r vs H1 Q
theorem jec (hc:CallR X (.builtin id) r) (hg:Gl X x) (hm:X.mg x=none) (hv:bootBuiltins x=some (.builtin id)) (ha:PA X (e::es) t) (hn:x≠ "__name__" :=by decide) (hdb:(x==("__debug__" :Str))=false:=by decide)
 (he:starEach (e::es) X.env=(false,eval e X.env)::starEach es X.env:=by rfl) (hpl:(backTo pos (starEach es X.env)).any (·.1)=false:=by rfl):PE X (.Call (.Name x p) (e::es) [] pos) (tCB r t):=by
 intro pins s σ H Q I h
 refine G1C (jfb I hg hm hv ?_ hn hdb)
 exact G2P (thn (ha pos pins s σ H _ I h) λus s1 ⟨vs,H1,I1,r1,q1⟩=>hc pins s1 σ H1 vs us Q I1 r1 q1) he hpl
theorem jiy (hc:CallR X (.type T) r) (hg:Gl X x) (hm:X.mg x=none) (hv:bootBuiltins x=some (.type T)) (ha:PA X (e::es) t) (hn:x≠ "__name__" :=by decide) (hdb:(x==("__debug__" :Str))=false:=by decide)
 (he:starEach (e::es) X.env=(false,eval e X.env)::starEach es X.env:=by rfl) (hpl:(backTo pos (starEach es X.env)).any (·.1)=false:=by rfl):PE X (.Call (.Name x p) (e::es) [] pos) (tCB r t):=by
 intro pins s σ H Q I h
 refine G1C (jfb I hg hm hv ?_ hn hdb)
 exact G2h (thn (ha pos pins s σ H _ I h) λus s1 ⟨vs,H1,I1,r1,q1⟩=>hc pins s1 σ H1 vs us Q I1 r1 q1) he hpl
end
end L2
namespace HT
open PySem PyProof.Rows
def jaQ:List Int->List Int->Bool
 | [],[]=>false
 | [],_::_=>true
 |_::_,[]=>false
 |x::xs,y::ys=>if x=y then jaQ xs ys else decide (x<y)
theorem jfc (x y:Int) (xs ys:List Int):jaQ (x::xs) (y::ys)=if x=y then jaQ xs ys else decide (x<y):=rfl
theorem jfu:jaQ [] []=false:=rfl
theorem je3 (y:Int) (ys:List Int):jaQ [] (y::ys)=true:=rfl
theorem je4 (x:Int) (xs:List Int):jaQ (x::xs) []=false:=rfl
theorem jg8 (A:Around) (s:Shared) (a:Int) (t:Tok) (c:Int) (u:Tok): ∃e,SeqAt.EqAt A s (.int a t) (.int c u) e/\(e=true↔a=c):=
 ⟨(a==c),SeqAt.EqAt.int_int a t c u,by simp⟩
theorem jj6 (A:Around) (s:Shared) (a:Int) (t:Tok) (c:Int) (u:Tok) (prog:Program) (w:World) (E:Value->Shared->Prop) (Q:Value->Shared->Prop) (h:Q (.bool (decide (a<c))) s):
 wpAny (model prog w) A (richCompare .Lt (.int a t) (.int c u)) Q E s:=
 (PyProof.Rows.lt_int h:wpAny (model prog w) A (compareOp .Lt (.int a t) (.int c u)) Q E s)
section
open PySem.SeqAt
open PySem.AutoSeq1 (wpAny_loadPart')
open PySem.MeetsSeq PySem.MeetsSeq2 PySem.MeetsSeq3
theorem jdl (l b:Addr) (items items2:Array Value) (n n2:Nat) (dd dd2:Option Addr) (sl sl2:Array (Option Value)) (ns ms:List Int) (hi:IntsAre items.toList ns) (hj:IntsAre items2.toList ms):
 Meets (Builtin.«tuple.__lt__» ⟨[.ref l,.ref b],[]⟩)
  (λ_ R s=>s.heap.get? l=some {cls:= .type "tuple",dict:=dd,data:= .seq items n,slots:=sl}/\s.heap.get? b=some {cls:= .type "tuple",dict:=dd2,data:= .seq items2 n2,slots:=sl2}/\
   R (.ok (.ret (.bool (jaQ ns ms)))) s):=
 .of_wp λprog w A R s h=>by
  obtain⟨hp,g,d,tk,os⟩:=s;obtain⟨hl,hb,h⟩:=h
  have f2:=AutoSeq1.sub_tuple_tuple
  have z1:items.size=ns.length:=by rw [<-hi.length];simp
  have z2:items2.size=ms.length:=by rw [<-hj.length];simp
  wp_walk using wpAny_loadPart' hl,wpAny_loadPart' hb,wpAny_forIn_list _ (λrest b s' =>b.1=none/\s' =⟨hp,g,d,tk,os⟩/\ ∃ (vs ws:List Value) (ns' ms' :List Int),rest=vs.zip ws/\
   IntsAre vs ns' /\IntsAre ws ms' /\ns'.length+items2.size=ms'.length+items.size/\R (.ok (.ret (.bool (jaQ ns' ms')))) ⟨hp,g,d,tk,os⟩) _
  case turn=>
   rintro ⟨y,x⟩ rest b s' ⟨hb',rfl,vs,ws,ns',ms',hz,hvi,hwi,hlen,hR⟩
   cases hvi with
   |nil=>rw [G3o] at hz;cases hz
   |cons a t hvi' =>
    cases hwi with
    |nil=>rw [List.zip_nil_right] at hz;cases hz
    |cons c u hwi' =>
     rw [G2y] at hz
     injection hz with hyx hrest
     injection hyx with hy hx
     subst hy hx
     rw [jfc] at hR
     simp only [G0h] at hlen
     obtain⟨e,he,hiff⟩:=jg8 A.in1 ⟨hp,g,d,tk,os⟩ a t c u
     refine wpAny_bind (he prog w _ _ ?_)
     cases e with
     |true=>
      rw [if_pos (hiff.mp rfl)] at hR
      wp_walk
      exact⟨rfl,rfl,_,_,_,_,hrest,hvi',hwi',by omega,hR⟩
     |false=>
      rw [if_neg (λq=>absurd (hiff.mpr q) G0s)] at hR
      have hri:=jj6 A.in1 ⟨hp,g,d,tk,os⟩ a t c u prog w
      wp_walk using hri
      exact⟨_,rfl,by simpa using hR⟩
  case fin=>
   rintro ⟨b1,b2⟩ s' ⟨hb',rfl,vs,ws,ns',ms',hz,hvi,hwi,hlen,hR⟩
   simp only at hb'
   subst hb'
   have hv:jaQ ns' ms' =decide (items.size<items2.size):=by
    cases hvi with
    |nil=>
     cases hwi with
     |nil=>
      simp only [G0m] at hlen
      rw [jfu]
      exact(G0R (by omega)).symm
     |cons c u hw=>
      simp only [G0m,G0h] at hlen
      rw [je3]
      exact(G0P (by omega)).symm
    |cons a t hv=>
     cases hwi with
     |nil=>
      simp only [G0m,G0h] at hlen
      rw [je4]
      exact(G0R (by omega)).symm
     |cons c u hw=>
      rw [G2y] at hz
      cases hz
   rw [hv] at hR
   wp_walk
   exact⟨_,rfl,by simpa [Builtin.Tuple.tupleCompareSizes] using hR⟩
  case h=>
   exact⟨rfl,rfl,items.toList,items2.toList,ns,ms,rfl,hi,hj,by omega,h⟩
end
section
variable {prog:Program} {w:World} {A:Around} {E:Value->Shared->Prop} {s:Shared}
theorem jhH {l b:Addr} {items items2:Array Value} {ns ms:List Int} {Q:Value->Shared->Prop} (hl:IsTup s.heap l items) (hb:IsTup s.heap b items2) (hi:IntsAre items.toList ns) (hj:IntsAre items2.toList ms)
 (hu:A.units<cLine) (h:Q (.bool (jaQ ns ms)) s):wpAny (model prog w) A (compareOp .Lt (.ref l) (.ref b)) Q E s:=by
 obtain⟨⟨cls,dd,data,sl⟩,ho,hc,n,hd⟩:=id hl
 obtain⟨⟨cls2,dd2,data2,sl2⟩,ho2,hc2,n2,hd2⟩:=id hb
 simp only at hc hd hc2 hd2
 subst hc hd hc2 hd2
 exact richCompare_meets_room (op:= .Lt) ⟨_,ho,rfl⟩ ⟨_,ho2,rfl⟩ G2Q G3D (G3w _ _) (jdl l b items items2 n n2 dd dd2 sl sl2 ns ms hi hj)
  ⟨ho,ho2,show Value.bool (jaQ ns ms)≠Value.notImplemented/\Q (.bool (jaQ ns ms)) s from ⟨(λx=>nomatch x),h⟩⟩ hu
theorem jlA {t b:Addr} {vs ws:List Value} {Q:Value->Shared->Prop} (ht:IsTup s.heap t vs.toArray) (hb:IsTup s.heap b ws.toArray) (hv:vs≠ [])
 (h1:ws= []->Q (.ref t) s) (h2:ws≠ []->Q (.ref s.heap.objs.size) {s with heap:=s.heap.push {cls:= .type "tuple",data:= .seq (vs++ws).toArray}})
 (hsz:vs.length+ws.length<=sizeLine):wpAny (model prog w) A (binaryOp .Add (.ref t) (.ref b)) Q E s:=by
 obtain⟨⟨cls,dd,data,sl⟩,ho,hc,n,hd⟩:=id ht
 obtain⟨⟨cls2,dd2,data2,sl2⟩,ho2,hc2,n2,hd2⟩:=id hb
 simp only at hc hd hc2 hd2
 subst hc hd hc2 hd2
 have e:vs.toArray++ws.toArray=(vs++ws).toArray:=by simp
 by_cases hw:ws= []
 ·exact concat_meets ⟨_,ho,rfl⟩ ⟨_,ho2,rfl⟩ G3B seq_tuple_add G2E G2z (G2t _ _)
   (tuple_addW1 t b vs.toArray ws.toArray n n2 dd dd2 sl sl2 (by simpa using hv) (by simp [hw])) ⟨ho,ho2,h1 hw⟩
 ·refine concat_meets ⟨_,ho,rfl⟩ ⟨_,ho2,rfl⟩ G3B seq_tuple_add G2E G2z (G2t _ _)
   (tuple_addW2 t b vs.toArray ws.toArray n n2 dd dd2 sl sl2 (by simpa using hv) (by simpa using hw) (by rw [G0u,G0u];exact hsz)) ⟨ho,ho2,?_⟩
  rw [e]
  exact h2 hw
def sIx (n d:Nat):Option Int->Nat
 |none=>d
 |some v=>if v<0 then (v+(n:Int)).toNat else min v.toNat n
theorem jnB (n d:Nat) (hd:d<=n) (o:Option Int):sIx n d o<=n:=by
 cases o with
 |none=>exact hd
 |some v=>
  show (if v<0 then (v+(n:Int)).toNat else min v.toNat n)<=n
  by_cases hv:v<0
  ·rw [if_pos hv];omega
  ·rw [if_neg hv];exact G2q _ _
theorem jiz (v:Int) (n d:Nat):(if v<0 then max (v+(n:Int)) 0 else min v (n:Int))=((sIx n d (some v):Nat):Int):=by
 show (if v<0 then max (v+(n:Int)) 0 else min v (n:Int))=(((if v<0 then (v+(n:Int)).toNat else min v.toNat n):Nat):Int)
 by_cases hv:v<0
 ·simp only [if_pos hv];omega
 ·simp only [if_neg hv];omega
theorem jhI (lo hi:Option Int) (n:Nat):Builtin.Slice.sliceAdjust lo hi 1 (n:Int)=(((sIx n 0 lo:Nat):Int),((sIx n n hi:Nat):Int)):=by
 have h1: ¬ ((1:Int)<0):=by omega
 unfold Builtin.Slice.sliceAdjust
 simp only [h1,G3J]
 refine Prod.ext ?_ ?_
 ·cases lo with
  |none=>rfl
  |some v=>exact jiz v n 0
 ·cases hi with
  |none=>rfl
  |some v=>exact jiz v n n
theorem jhJ (i j:Nat):Builtin.Slice.slicePlaces (i:Int) (j:Int) 1=j-i:=by
 unfold Builtin.Slice.slicePlaces
 have h1:(1:Int)>0:=by omega
 simp only [h1,if_true,Int.ediv_one]
 split<;>omega
theorem jfd {v:Value} {o:Option Int} {Q:Option Int->Shared->Prop} (p:IsPart v o) (h:Q o s):wpAny (model prog w) A (Builtin.Slice.slicePartIndex v) Q E s:=by
 cases p with
 |none=>exact G3e h
 |int i t=>exact slicePart_int h
theorem jcf {sl:Addr} {vl vu:Value} {lo hi:Option Int} {n:Nat} {Q:Int×Int×Nat->Shared->Prop} (hs:s.heap.IsSliceOf sl vl vu .none) (pl:IsPart vl lo) (pu:IsPart vu hi)
 (h:Q (((sIx n 0 lo:Nat):Int),1,sIx n n hi-sIx n 0 lo) s):wpAny (model prog w) A (Builtin.Slice.sliceApplied (.ref sl) (pure (n:Int))) Q E s:=by
 obtain⟨os,hos,hcs,hds⟩:=id hs
 unfold Builtin.Slice.sliceApplied Builtin.Slice.sliceFields
 refine wpAny_bind (wpAny_bind (G2F hos hds (x:=vl) rfl (wpAny_bind (G2F hos hds (x:=vu) rfl (wpAny_bind (G2F hos hds (x:= .none) rfl (G0j ?_)))))))
 refine wpAny_bind (G3e ?_)
 show wpAny _ _ (if ((1:Int)==0)=true then _ else _) _ _ s
 rw [if_neg (by decide)]
 refine wpAny_bind (jfd pl (wpAny_bind (jfd pu (wpAny_bind (G0j ?_)))))
 show wpAny _ _ (match Builtin.Slice.sliceAdjust lo hi 1 (n:Int) with|(lo,hi)=>pure (lo,(1:Int),Builtin.Slice.slicePlaces lo hi 1)) _ _ s
 rw [jhI lo hi n]
 show wpAny _ _ (pure (((sIx n 0 lo:Nat):Int),(1:Int),Builtin.Slice.slicePlaces ((sIx n 0 lo:Nat):Int) ((sIx n n hi:Nat):Int) 1)) _ _ s
 rw [jhJ]
 exact G0j h
theorem jj7 (xs:Array Value) (i k:Nat):((List.range k).filterMap λ(m:Nat)=>xs[((i:Int)+(m:Int)*1).toNat]?).toArray=((xs.toList.drop i).take k).toArray:=by
 have e:(λ(m:Nat)=>xs[((i:Int)+(m:Int)*1).toNat]?)=λm=>xs[i+m]? :=by
  funext m
  have:((i:Int)+(m:Int)*1).toNat=i+m:=by omega
  rw [this]
 rw [e]
 have:=pick_run xs i k
 rw [List.filterMap_map] at this
 have e2:((λx=>xs[x]?)∘λx=>i+x)=λm=>xs[i+m]? :=rfl
 rw [e2] at this
 rw [this]
theorem jdJ {t sl:Addr} {items:Array Value} {vl vu:Value} {lo hi:Option Int} {Q:Value->Shared->Prop} (ht:IsTup s.heap t items) (hs:s.heap.IsSliceOf sl vl vu .none) (pl:IsPart vl lo) (pu:IsPart vu hi)
 (hw: ¬ (sIx items.size 0 lo=0/\sIx items.size items.size hi=items.size))
 (h:Q (.ref s.heap.objs.size) {s with heap:=s.heap.push {cls:= .type "tuple",data:= .seq ((items.toList.drop (sIx items.size 0 lo)).take (sIx items.size items.size hi-sIx items.size 0 lo)).toArray}})
 (hsz:items.size<=sizeLine):wpAny (model prog w) A (getItem (.ref t) (.ref sl)) Q E s:=by
 have htake:sizeOk (.seq ((items.toList.drop (sIx items.size 0 lo)).take (sIx items.size items.size hi-sIx items.size 0 lo)).toArray):=by
  show ((items.toList.drop (sIx items.size 0 lo)).take (sIx items.size items.size hi-sIx items.size 0 lo)).toArray.size<=sizeLine
  rw [G0u,G0E,G0X,G0V]
  omega
 have hj:sIx items.size items.size hi<=items.size:=jnB _ _ (G0k _) hi
 obtain⟨os,hos,hcs,hds⟩:=id hs
 have hTs:s.TypeIs (.ref sl) "slice" :=⟨os,hos,hcs⟩
 unfold getItem
 try with_reducible refine G1w ?_
 first|refine wpAny_bind (G0j ?_)|skip
 refine wpAny_bind (G3p ht.typeIs (by decide) ?_)
 refine wpAny_bind (G1G (name:=Str.ofString "__getitem__") ht.typeIs G1c
  (G1D G1c ht.typeIs G21 ?_ (args_tuple_getitem _ _)))
 show wpAny _ _ (Builtin.Tuple.tupleItemsOf (.ref t) >>= _) _ _ s
 refine wpAny_bind (tupleItemsOf_ ht ?_)
 refine wpAny_bind (G3E hTs ?_)
 rw [if_pos (by decide)]
 refine wpAny_bind (jcf hs pl pu ?_)
 have hno: ¬ ((((sIx items.size 0 lo:Nat):Int)==0&&(1:Int)==1&&(sIx items.size items.size hi-sIx items.size 0 lo)==items.size)=true):=by
  intro q
  rw [G0T,G0T] at q
  have q1:((sIx items.size 0 lo:Nat):Int)=0:=eq_of_beq q.1.1
  have q2:sIx items.size items.size hi-sIx items.size 0 lo=items.size:=eq_of_beq q.2
  exact hw ⟨by omega,by omega⟩
 show wpAny _ _ (if (((sIx items.size 0 lo:Nat):Int)==0&&(1:Int)==1&&(sIx items.size items.size hi-sIx items.size 0 lo)==items.size)=true then _ else _) _ _ s
 rw [if_neg hno,jj7]
 first
  |exact wpAny_bind (m:=Builtin.Tuple.tupleExact _) (G1q (G0j ⟨_,rfl,G0j h⟩) htake)
  |exact wpAny_bind (m:=Builtin.Tuple.tupleExact _) (G1q (wpAny_bind (G0j (G0j ⟨_,rfl,G0j h⟩))) htake)
  |exact wpAny_bind (wpAny_bind (m:=Builtin.Tuple.tupleExact _) (G1q (G0j (G0j ⟨_,rfl,G0j h⟩)) htake))
  |exact wpAny_bind (wpAny_bind (m:=Builtin.Tuple.tupleExact _) (G1q (G0j ⟨_,rfl,G0j h⟩) htake))
end
end HT
namespace L2
open PySem PySem.Spec PyProof.Rows
abbrev TO:=St->Hp->(Option Int->Hp->Prop)->Prop
def PO (X:Cx) (e:Option Expr) (t:TO):Prop:=
 ∀ (pins:List (Addr×Obj)) (s:Shared) (σ:St) (H:Hp) (Q:Option Int->Hp->Prop),Inv X pins σ H s->t σ H Q->
  wpAny (model X.prog X.w) X.A (evalPart e X.env) (λu s' => ∃o H',Inv X pins σ H' s' /\IsPart u o/\Q o H') X.xe s
def jlB:TO:=λ_ H Q=>Q none H
def jpC (t:TE):TO:=λσ H Q=>t σ H λx H1=> ∃i,x= .int i/\Q (some i) H1
section
variable {X:Cx} {e:Expr} {te:TE} {lo hi:Option Expr} {tl th:TO} {pos p2:Pos}
theorem po_none:PO X none jlB:=by
 intro pins s σ H Q I h
 rw [evalPart_none]
 exact G0j ⟨none,H,I,.none,h⟩
theorem jlC (h:PE X e te):PO X (some e) (jpC te):=by
 intro pins s σ H Q I hw
 rw [evalPart_some]
 refine thn (h pins s σ H _ I hw) λu s1 ⟨x,H1,I1,r1,q1⟩=> ?_
 obtain⟨i,rfl,q⟩:=q1
 obtain⟨t,rfl⟩:=r1
 exact⟨some i,H1,I1,.int i t,q⟩
def SlR (X:Cx) (r:V->Option Int->Option Int->Hp->VK->Prop):Prop:=
 ∀ (pins:List (Addr×Obj)) (s:Shared) (σ:St) (H:Hp) (x:V) (v vl vu:Value) (lo hi:Option Int) (sl:Addr) (Q:VK),Inv X pins σ H s->RelV x v->s.heap.IsSliceOf sl vl vu .none->IsPart vl lo->IsPart vu hi->r x lo hi H Q->
  ∃T id,typeLookup (.type T) "__getitem__" =pure (some (.builtin id))/\s.TypeIs v T/\wpAny (model X.prog X.w) X.A (getItem v (.ref sl)) (EP X pins σ Q) X.xe s
theorem SlR.or {r r' :V->Option Int->Option Int->Hp->VK->Prop} (h:SlR X r) (h' :SlR X r'):SlR X (λx lo hi H Q=>r x lo hi H Q\/r' x lo hi H Q):=by
 intro pins s σ H x v vl vu lo hi sl Q I rx hs pl pu q
 rcases q with q|q
 ·exact h pins s σ H x v vl vu lo hi sl Q I rx hs pl pu q
 ·exact h' pins s σ H x v vl vu lo hi sl Q I rx hs pl pu q
def tSl (r:V->Option Int->Option Int->Hp->VK->Prop) (te:TE) (tl th:TO):TE:=λσ H Q=>te σ H λx H1=>tl σ H1 λl H2=>th σ H2 λu H3=>r x l u H3 Q
theorem jj8 {r:V->Option Int->Option Int->Hp->VK->Prop} (hr:SlR X r) (he:PE X e te) (hl:PO X lo tl) (hu:PO X hi th):PE X (.Subscript e (.Slice lo hi none p2) pos) (tSl r te tl th):=by
 intro pins s σ H Q I h
 refine Subscript_ (thn (he pins s σ H _ I h) λv s1 ⟨x,H1,I1,r1,q1⟩=> ?_)
 refine wpAny_Slice (thn (hl pins s1 σ H1 _ I1 q1) λvl s2 ⟨l,H2,I2,pl,q2⟩=>thn (hu pins s2 σ H2 _ I2 q2) λvu s3 ⟨u,H3,I3,pu,q3⟩=> ?_)
 rw [evalPart_none]
 refine G0j ?_
 have I4:Inv X pins σ H3 {s3 with heap:=s3.heap.push {cls:= .type "slice",data:= .fields #[vl,vu,.none]}}:=I3.kept (t' :=s3.toks) λb ob q=>G0f _ q
 obtain⟨T,id,hT,ht,hg⟩:=hr pins {s3 with heap:=s3.heap.push {cls:= .type "slice",data:= .fields #[vl,vu,.none]}} σ H3 x v vl vu l u s3.heap.objs.size Q I4 r1 (Heap.IsSliceOf.new ..) pl pu q3
 show wpAny (model X.prog X.w) X.A (subscriptTail e (.Slice lo hi none p2) v (.ref s3.heap.objs.size)) (EP X pins σ Q) X.xe {s3 with heap:=s3.heap.push {cls:= .type "slice",data:= .fields #[vl,vu,.none]}}
 exact tail_any (ops:= [.ref s3.heap.objs.size,v]) ht hT hg (by with_unfolding_all rfl)
def jjT (xs:List V) (lo hi:Option Int):List V:=(xs.drop (HT.sIx xs.length 0 lo)).take (HT.sIx xs.length xs.length hi-HT.sIx xs.length 0 lo)
theorem jeo (xs:List V) (lo hi:Option Int):(jjT xs lo hi).length<=xs.length:=by
 unfold jjT
 rw [G0E,G0X]
 omega
def jq2 (K:PySem.W.Frag):V->Option Int->Option Int->Hp->VK->Prop:=λx lo hi H Q=> ∃a xs,x= .ref a/\SqT K H a xs/\
 ¬ (HT.sIx xs.length 0 lo=0/\HT.sIx xs.length xs.length hi=xs.length)/\ ∀p,H p=none->Q (.ref p) (upd H p (.tup (jjT xs lo hi)))
theorem sl_tup:SlR X (jq2 X.K):=by
 intro pins s σ H x v vl vu lo hi sl Q I rx hs pl pu h
 obtain⟨a,xs,rfl,hx,hw,q⟩:=h
 cases rx
 obtain⟨its,r,ht,hz⟩:=I.tuple hx
 have hlen:its.toArray.size=xs.length:=by rw [G0u];exact r.length.symm
 refine⟨"tuple",_,PyProof.Rows.slot_tuple_getitem.lookup,ht.typeIs,?_⟩
 refine HT.jdJ ht hs pl pu (by rw [hlen];exact hw) ?_ (by rw [hlen];exact hz)
 rw [hlen]
 refine⟨.ref s.heap.objs.size,_,I.laid (t' :=s.toks) (o:= .tup (jjT xs lo hi)) (λb ob q=>G0f _ q) (G0k _) ?_,rfl,q _ (I.hok.fresh (G0k _))⟩
 exact⟨G01 (jeo xs lo hi) hz,_,(r.drop (HT.sIx xs.length 0 lo)).take (HT.sIx xs.length xs.length hi-HT.sIx xs.length 0 lo),IsTupN.new _ _⟩
def jpD (K:PySem.W.Frag):R2:=λx y H Q=> ∃a b xs ys,x= .ref a/\y= .ref b/\SqT K H a xs/\SqT K H b ys/\xs≠ []/\xs.length+ys.length<=sizeLine/\
 (ys= []->Q (.ref a) H)/\(ys≠ []-> ∀p,H p=none->Q (.ref p) (upd H p (.tup (xs++ys))))
theorem Vals.nil_iff {xs:List V} {us:List Value} (r:Vals xs us):us= []↔xs= []:=by
 cases r with
 |nil=>simp
 |cons _ _=>simp
theorem op_catT:OpR X (binaryOp .Add) (jpD X.K):=by
 intro pins s σ H x y v u Q I rx ry h
 obtain⟨a,b,xs,ys,rfl,rfl,ha,hb,hx,hz,q1,q2⟩:=h
 cases rx
 cases ry
 obtain⟨its,r1,p1,_⟩:=I.tuple ha
 obtain⟨its2,r2,p2,_⟩:=I.tuple hb
 refine HT.jlA p1 p2 (λz=>hx (r1.nil_iff.mp z)) (λz=>⟨.ref a,H,I,rfl,q1 (r2.nil_iff.mp z)⟩) (λz=> ?_) (by rw [<-r1.length,<-r2.length];exact hz)
 refine⟨.ref s.heap.objs.size,_,I.laid (t' :=s.toks) (o:= .tup (xs++ys)) (λb ob q=>G0f _ q) (G0k _) ?_,rfl,q2 (λw=>z (r2.nil_iff.mpr w)) _ (I.hok.fresh (G0k _))⟩
 exact⟨by rw [G0a];exact hz,_,r1.append r2,IsTupN.new _ _⟩
end
def ixN (n:Nat) (i:Int):Option Nat:=if 0<=i then (if i<n then some i.toNat else none) else if-(n:Int)<=i then some (i+n).toNat else none
def atI {α:Type} (xs:List α) (i:Int):Option α:=(ixN xs.length i).bind λj=>xs[j]?
theorem jiA {n:Nat} {i:Int} {j:Nat} (h:ixN n i=some j):seqIndex? i n=some j/\j<n/\ -(n:Int)<=i/\i<n:=by
 unfold ixN at h
 by_cases h0:0<=i
 ·rw [if_pos h0] at h
  by_cases h1:i<n
  ·rw [if_pos h1] at h
   have e:i.toNat=j:=G1b h
   exact⟨by rw [seqIndex_of h0 h1,e],by omega,by omega,h1⟩
  ·rw [if_neg h1] at h;cases h
 ·rw [if_neg h0] at h
  by_cases h1: -(n:Int)<=i
  ·rw [if_pos h1] at h
   have e:(i+n).toNat=j:=G1b h
   exact⟨by rw [seqIndex_neg (by omega) h1,e],by omega,h1,by omega⟩
  ·rw [if_neg h1] at h;cases h
theorem jgE {α:Type} {xs:List α} {i:Int} {v:α} (h:atI xs i=some v): ∃j,seqIndex? i xs.length=some j/\xs[j]? =some v/\j<xs.length/\ -(xs.length:Int)<=i/\i<xs.length:=by
 unfold atI at h
 cases e:ixN xs.length i with
 |none=>rw [e] at h;cases h
 |some j=>
  rw [e] at h
  obtain⟨h1,h2,h3,h4⟩:=jiA e
  exact⟨j,h1,h,h2,h3,h4⟩
theorem jb6 {α:Type} {xs:List α} {j:Nat} {v:α} (h:xs[j]? =some v):atI xs (j:Int)=some v:=by
 have hj:j<xs.length:=(G0o.mp h).1
 have e:ixN xs.length (j:Int)=some j:=by
  unfold ixN
  rw [if_pos (by omega),if_pos (by omega)];simp
 unfold atI;rw [e];exact h
def jgF (b:Expr):Prop:= ∀o i,subscripted b false o i=operate [o,i] (getItem o i)
def IxR (X:Cx) (r:R2):Prop:=
 ∀ (value slice:Expr) (pins:List (Addr×Obj)) (s:Shared) (σ:St) (H:Hp) (x y:V) (v u:Value) (Q:VK),Inv X pins σ H s->RelV x v->RelV y u->r x y H Q->
  subscripted slice false v u=operate [v,u] (getItem v u)->wpAny (model X.prog X.w) X.A (subscriptTail value slice v u) (EP X pins σ Q) X.xe s
def MtR (X:Cx) (id:String) (r:V->List V->Hp->VK->Prop):Prop:=
 ∀ (pins:List (Addr×Obj)) (s:Shared) (σ:St) (H:Hp) (x:V) (xs:List V) (v:Value) (us:List Value) (Q:VK),Inv X pins σ H s->RelV x v->Vals xs us->r x xs H Q->
  wpAny (model X.prog X.w) X.A (call (.builtin id) (v::us)) (EP X pins σ Q) X.xe s
section
variable {X:Cx} {a b:Expr} {ta tb:TE} {pos:Pos}
theorem IxR.or {r r' :R2} (h:IxR X r) (h' :IxR X r'):IxR X (λx y H Q=>r x y H Q\/r' x y H Q):=by
 intro value slice pins s σ H x y v u Q I rx ry q hs
 rcases q with q|q
 ·exact h value slice pins s σ H x y v u Q I rx ry q hs
 ·exact h' value slice pins s σ H x y v u Q I rx ry q hs
theorem jpE {r:R2} (hr:IxR X r) (ha:PE X a ta) (hb:PE X b tb) (hs:jgF b):PE X (.Subscript a b pos) (tOp r ta tb):=by
 intro pins s σ H Q I h
 exact Subscript_ (jps ha hb I h λv u s2 x y H2 I2 rx ry q=>hr a b pins s2 σ H2 x y v u Q I2 rx ry q (hs _ _))
def jqE (K:PySem.W.Frag):R2:=λx y H Q=> ∃p xs i v,x= .ref p/\y= .int i/\SqL K H p xs/\atI xs i=some v/\Q v H
def jqF (K:PySem.W.Frag):R2:=λx y H Q=> ∃p xs i v,x= .ref p/\y= .int i/\SqT K H p xs/\atI xs i=some v/\Q v H
def jqG:R2:=λx y H Q=> ∃z i c,x= .str z/\y= .int i/\z.length<=sizeLine/\atI z.cps.toList i=some c/\Q (.str ⟨#[c]⟩) H
theorem ix_list:IxR X (jqE X.K):=by
 intro value slice pins s σ H x y v u Q I rx ry h hs
 obtain⟨p,xs,i,z,rfl,rfl,hq,he,q⟩:=h
 cases rx
 obtain⟨t,rfl⟩:=ry
 obtain⟨its,r,pl,hz⟩:=I.list hq
 obtain⟨j,h1,h2,h3,h4,h5⟩:=jgE he
 obtain⟨w,ew,rw'⟩:=r.get h2
 have hl:=r.length
 have hn:=jfZ
 have fin:EP X pins σ Q w s:=⟨z,H,I,rw',q⟩
 by_cases h0:0<=i
 ·have hj:i.toNat=j:=by
   rw [seqIndex_of h0 h5] at h1
   exact G1b h1
  exact item_listR pl.isList h0 (by omega) (by rw [hj];simpa using ew) fin hs
 ·have hj:(i+(its.toArray.size:Int)).toNat=j:=by
   rw [seqIndex_neg (by omega) h4] at h1
   rw [G0u,<-hl]
   exact G1b h1
  exact subscriptTail_builtinR (x:=w) pl.isList.typeIs slot_list_getitem.lookup
   (wpAny_getItem_list_neg (Q:=λr s' =>r=w/\EP X pins σ Q r s') pl.isList (by omega) (by rw [G0u]<;>omega) (by omega) (by rw [hj];simpa using ew) ⟨rfl,fin⟩) hs
theorem ix_tup:IxR X (jqF X.K):=by
 intro value slice pins s σ H x y v u Q I rx ry h hs
 obtain⟨p,xs,i,z,rfl,rfl,hq,he,q⟩:=h
 cases rx
 obtain⟨t,rfl⟩:=ry
 obtain⟨its,r,pl,hz⟩:=I.tuple hq
 obtain⟨j,h1,h2,h3,h4,h5⟩:=jgE he
 obtain⟨w,ew,rw'⟩:=r.get h2
 have hl:=r.length
 have hn:=jfZ
 have fin:EP X pins σ Q w s:=⟨z,H,I,rw',q⟩
 exact subscriptTail_builtinR (x:=w) pl.typeIs slot_tuple_getitem.lookup
  (getItem_tuple (j:=j) (Q:=λr s' =>r=w/\EP X pins σ Q r s') pl (by omega) (by omega) (by rw [G0u,<-hl];exact h1) (by simpa using ew) ⟨rfl,fin⟩) hs
theorem jnC:IxR X jqG:=by
 intro value slice pins s σ H x y v u Q I rx ry h hs
 obtain⟨z,i,c,rfl,rfl,hz,he,q⟩:=h
 obtain⟨t,rfl⟩:=rx
 obtain⟨t',rfl⟩:=ry
 obtain⟨j,h1,h2,h3,h4,h5⟩:=jgE he
 have hl:z.cps.toList.length=z.length:=by simp [Str.length]
 rw [hl] at h1 h4 h5
 have hn:=jfZ
 exact tail_any (typeIs_str s z t) slot_str_getitem.lookup (getItem_str (c:=c) (by
  have e1:decide (i< -(2^63:Int))=false:=G0R (by omega)
  have e2:decide (i>=2^63)=false:=G0R (by omega)
  rw [e1,e2,Bool.or_false]) (by rw [h1];simpa using h2) ⟨.str ⟨#[c]⟩,H,I.tok _,⟨_,rfl⟩,q⟩) hs
def rIx (K:PySem.W.Frag):R2:=λx y H Q=>jqE K x y H Q\/jqF K x y H Q\/jqG x y H Q
theorem jnD:IxR X (rIx X.K):=ix_list.or (ix_tup.or jnC)
theorem jhK (its:List Value) (n j:Nat) (u:Value):Obj.mapSeq (·.setIfInBounds j u) {cls:= .type "list",data:= .seq its.toArray n}= {cls:= .type "list",data:= .seq (its.set j u).toArray n}:=by
 simp [Obj.mapSeq]
theorem Inv.lst {pins:List (Addr×Obj)} {σ:St} {H:Hp} {s:Shared} {p:Addr} {xs:List V} (I:Inv X pins σ H s) (h:H p=some (.lst xs)):
 ∃ (its:List Value) (n:Nat),Vals xs its/\s.heap.get? p=some {cls:= .type "list",data:= .seq its.toArray n}/\xs.length<=sizeLine:=by
 obtain⟨z,its,n,r,e⟩:=I.hok p _ h
 exact⟨its,n,r,e,z⟩
theorem Inv.lstUpd {pins:List (Addr×Obj)} {σ:St} {H:Hp} {s:Shared} {p:Addr} {xs ys:List V} {its its' :List Value} {n n' :Nat} {f:Obj->Obj} (I:Inv X pins σ H s) (h:H p=some (.lst xs))
 (ho:s.heap.get? p=some {cls:= .type "list",data:= .seq its.toArray n}) (hf:f {cls:= .type "list",data:= .seq its.toArray n}= {cls:= .type "list",data:= .seq its'.toArray n'}) (r:Vals ys its') (hz:ys.length<=sizeLine) (t:Nat):
 Inv X pins σ (upd H p (.lst ys)) {s with heap:=s.heap.update p f,toks:=t}:=by
 have e:(s.heap.update p f).get? p=some {cls:= .type "list",data:= .seq its'.toArray n'}:=by
  rw [Heap.get?_update_self f ho (by rw [hf]<;>rfl),hf]
 refine I.write (x:=p) (e:=p) (by rw [h];trivial) (.inl rfl) (λb u hb q=>(Heap.get?_update_other _ _ (Ne.symm hb)).trans q) ⟨_,e⟩ ?_
 exact⟨hz,its',n',r,e⟩
def jpF:V->V->V->Hp->(Hp->Prop)->Prop:=λo i v H Q=> ∃p xs k j,o= .ref p/\i= .int k/\H p=some (.lst xs)/\ixN xs.length k=some j/\Q (upd H p (.lst (xs.set j v)))
theorem jj9:jqw X jpF:=by
 intro pins s σ H o i v ov iv u Q I ro ri rv h
 obtain⟨p,xs,k,j,rfl,rfl,hp,hj,q⟩:=h
 cases ro
 obtain⟨t,rfl⟩:=ri
 obtain⟨its,n,r,ho,hz⟩:=I.lst hp
 obtain⟨h1,h2,h3,h4⟩:=jiA hj
 have hl:=r.length
 have hn:=jfZ
 have I' :Inv X pins σ (upd H p (.lst (xs.set j v))) {s with heap:=s.heap.update p (Obj.mapSeq (·.setIfInBounds j u))}:=
  I.lstUpd hp ho (jhK its n j u) (r.set rv j) (by rw [List.length_set];exact hz) s.toks
 by_cases h0:0<=k
 ·have hk:k.toNat=j:=by
   rw [seqIndex_of h0 h4] at h1
   exact G1b h1
  exact PySem.W.ki_setAt ho h0 (by omega) (by rw [G0u,<-hl];exact h4) (by rw [hk];exact⟨_,I',q⟩)
 ·have hk:(k+(its.toArray.size:Int)).toNat=j:=by
   rw [seqIndex_neg (by omega) h3] at h1
   rw [G0u,<-hl]
   exact G1b h1
  exact PySem.W.ki_setBack ho (by omega) (by rw [G0u,<-hl];exact h3) (by omega) (by rw [hk];exact⟨_,I',q⟩)
theorem jf3 (lo hi:Option Int) (n:Nat):(sliceBounds lo hi none n).1=((HT.sIx n 0 lo:Nat):Int)/\(sliceBounds lo hi none n).2.1=((HT.sIx n n hi:Nat):Int)/\(sliceBounds lo hi none n).2.2=1:=by
 refine⟨?_,?_,rfl⟩
 ·cases lo with
  |none=>simp [sliceBounds,HT.sIx]
  |some i=>
   simp only [sliceBounds,HT.sIx,Option.getD_none,show (1:Int)>0 by decide,if_true]
   by_cases h:i<0
   ·simp only [h,if_true]<;>omega
   ·simp only [h,G3J]<;>omega
 ·cases hi with
  |none=>simp [sliceBounds,HT.sIx]
  |some i=>
   simp only [sliceBounds,HT.sIx,Option.getD_none,show (1:Int)>0 by decide,if_true]
   by_cases h:i<0
   ·simp only [h,if_true]<;>omega
   ·simp only [h,G3J]<;>omega
theorem jfv (its:List Value) (lo hi:Option Int):slicePick its.toArray lo hi none=((its.drop (HT.sIx its.length 0 lo)).take (HT.sIx its.length its.length hi-HT.sIx its.length 0 lo)).toArray:=by
 obtain⟨h1,h2,h3⟩:=jf3 lo hi its.toArray.size
 unfold slicePick
 rw [h1,h2,h3]
 simp only [sliceRange_one,pick_run,G0u]<;>rfl
def jq3 (K:PySem.W.Frag):V->Option Int->Option Int->Hp->VK->Prop:=λx lo hi H Q=> ∃a xs,x= .ref a/\SqL K H a xs/\ ∀p,H p=none->Q (.ref p) (upd H p (.lst (jjT xs lo hi)))
theorem jlD:SlR X (jq3 X.K):=by
 intro pins s σ H x v vl vu lo hi sl Q I rx hs pl pu h
 obtain⟨a,xs,rfl,hx,q⟩:=h
 cases rx
 obtain⟨its,r,ht,hz⟩:=I.list hx
 have hlen:=r.length
 refine⟨"list",_,slot_list_getitem.lookup,ht.isList.typeIs,?_⟩
 refine wpAny_getItem_list_slice ht.isList hs pl pu .none (by simp) ?_ (by rw [G0u]<;>omega)
 rw [jfv,<-hlen]
 refine⟨.ref s.heap.objs.size,_,I.laid (t' :=s.toks) (o:= .lst (jjT xs lo hi)) (λb ob q=>G0f _ q) (G0k _) ?_,rfl,q _ (I.hok.fresh (G0k _))⟩
 exact⟨G01 (jeo xs lo hi) hz,_,0,(r.drop (HT.sIx xs.length 0 lo)).take (HT.sIx xs.length xs.length hi-HT.sIx xs.length 0 lo),G0S _ rfl⟩
theorem call_len_seq:CallR X (.builtin "len") (λxs H Q=> ∃p ys,xs= [.ref p]/\(SqL X.K H p ys\/SqT X.K H p ys)/\Q (.int ys.length) H):=by
 intro pins s σ H xs us Q I r h
 obtain⟨p,ys,rfl,hq,q⟩:=h
 obtain⟨u,rfl,rx⟩:=je2 r
 cases rx
 have hn:=jfZ
 rcases hq with hq|hq
 ·obtain⟨its,r',pl,hz⟩:=I.list hq
  have hlen:=r'.length
  exact Calls.call_len_list pl.isList (by simp only [G0u]<;>omega) ⟨.int ys.length,H,I.tok _,⟨s.toks+1,by rw [G0u,hlen]⟩,q⟩
 ·obtain⟨its,r',pl,hz⟩:=I.tuple hq
  have hlen:=r'.length
  exact len_tuple pl (by simp only [G0u]<;>omega) ⟨.int ys.length,H,I.tok _,⟨s.toks+1,by rw [G0u,hlen]⟩,q⟩
theorem call_list_of:CallR X (.type "list") (λxs H Q=> ∃p ys,xs= [.ref p]/\(SqL X.K H p ys\/SqT X.K H p ys)/\ ∀l,H l=none->Q (.ref l) (upd H l (.lst ys))):=by
 intro pins s σ H xs us Q I r h
 obtain⟨p,ys,rfl,hq,q⟩:=h
 obtain⟨u,rfl,rx⟩:=je2 r
 cases rx
 have fin: ∀ (its:List Value),Vals ys its->ys.length<=sizeLine-> ∀ (h' :Heap) (c' :Nat),(∀b o',s.heap.get? b=some o' ->h'.get? b=some o')->
  h'.get? s.heap.objs.size=some {cls:= .type "list",dict:=none,data:= .seq its.toArray c',slots:= #[]}->EP X pins σ Q (.ref s.heap.objs.size) {s with heap:=h'}:=λits r' hz h' c' kp e=>
  ⟨.ref s.heap.objs.size,_,I.laid (t' :=s.toks) kp (G0k _) (show ObjOk X.prog X.w _ h' _ (.lst ys) from ⟨hz,its,c',r',e⟩),rfl,q _ (I.hok.fresh (G0k _))⟩
 rcases hq with hq|hq
 ·obtain⟨its,r',pl,hz⟩:=I.list hq
  have hlen:=r'.length
  obtain⟨o,ho,hc,n,hd⟩:=pl.isList
  exact call_list_seq p (.inl rfl) ho hc hd (λh' c' kp e=>fin its r' hz h' c' kp e) (by simp only [G0u]<;>omega)
 ·obtain⟨its,r',pl,hz⟩:=I.tuple hq
  have hlen:=r'.length
  obtain⟨o,ho,hc,n,hd⟩:=pl
  exact call_list_seq p (.inr rfl) ho hc hd (λh' c' kp e=>fin its r' hz h' c' kp e) (by simp only [G0u]<;>omega)
theorem call_tuple_of:CallR X (.type "tuple") (λxs H Q=> ∃p ys,xs= [.ref p]/\((SqL X.K H p ys/\ ∀l,H l=none->Q (.ref l) (upd H l (.tup ys)))\/(SqT X.K H p ys/\Q (.ref p) H))):=by
 intro pins s σ H xs us Q I r h
 obtain⟨p,ys,rfl,h⟩:=h
 obtain⟨u,rfl,rx⟩:=je2 r
 cases rx
 rcases h with ⟨hq,q⟩|⟨hq,q⟩
 ·obtain⟨its,r',pl,hz⟩:=I.list hq
  have hlen:=r'.length
  refine call_tuple_list pl.isList (λh' kp=> ?_) (by simp only [G0u]<;>omega)
  have I1:Inv X pins σ H {s with heap:=h'}:=I.kept (t' :=s.toks) kp
  have I2:Inv X pins σ (upd H h'.objs.size (.tup ys)) {s with heap:=h'.push {cls:= .type "tuple",data:= .seq its.toArray}}:=
   I1.laid (t' :=s.toks) (λb o e=>G0f _ e) (G0k _) (show ObjOk X.prog X.w _ _ _ (.tup ys) from ⟨hz,its,r',IsTupN.new _ _⟩)
  exact⟨.ref h'.objs.size,_,I2,rfl,q _ (I1.hok.fresh (G0k _))⟩
 ·obtain⟨its,r',pl,hz⟩:=I.tuple hq
  exact call_tuple_same pl ⟨.ref p,H,I,rfl,q⟩
def tyV (K:PySem.W.Frag) (T:String) (x:V) (H:Hp):Prop:=match x with
 | .str _=>T= "str"
 | .int _=>T= "int"
 | .ref p=>(T= "list" /\ ∃xs,SqL K H p xs)\/(T= "tuple" /\ ∃o,K.lookup p=some o/\o.cls= .type "tuple" /\o.dict=none)\/
  (T= "dict" /\((∃kvs,H p=some (.dK kvs))\/ ∃kvs,H p=some (.dT kvs)))\/(T= "set" /\ ∃S n,H p=some (.set S n))
 |_=>False
theorem jnE {pins:List (Addr×Obj)} {σ:St} {H:Hp} {s:Shared} {T:String} {x:V} {v:Value} (I:Inv X pins σ H s) (r:RelV x v) (ty:tyV X.K T x H):
 s.TypeIs v T/\ ∀a,v= .ref a-> ∃ob,s.heap.get? a=some ob/\ob.dict=none:=by
 cases x with
 |str z=>
  obtain⟨t,rfl⟩:=r
  cases (show T= "str" from ty)
  exact⟨typeIs_str s z t,λ_ e=>nomatch e⟩
 |int i=>
  obtain⟨t,rfl⟩:=r
  cases (show T= "int" from ty)
  exact⟨G3K s i t,λ_ e=>nomatch e⟩
 |ref p=>
  cases r
  rcases ty with ⟨rfl,xs,hq⟩|⟨rfl,o,hk,hc,hd⟩|⟨rfl,hk⟩|⟨rfl,S,n,hk⟩
  ·obtain⟨its,_,pl,_⟩:=I.list hq
   refine⟨pl.isList.typeIs,λa e=> ?_⟩
   cases e
   obtain⟨o,n,e,c,hd,_⟩:=pl
   exact⟨o,e,hd⟩
  ·refine⟨⟨o,I.kIn p o hk,hc⟩,λa e=> ?_⟩
   cases e
   exact⟨o,I.kIn _ o hk,hd⟩
  ·have z: ∃o,s.heap.get? p=some o/\o.ExactDict:=by
    rcases hk with ⟨kvs,hk⟩|⟨kvs,hk⟩
    ·obtain⟨_,_,_,_,o,_,_,e,ex,_⟩:=I.hok p _ hk
     exact⟨o,e,ex⟩
    ·obtain⟨_,_,_,_,o,_,_,e,ex,_⟩:=I.hok p _ hk
     exact⟨o,e,ex⟩
   obtain⟨o,e,ex⟩:=z
   refine⟨⟨o,e,ex.1⟩,λa e2=> ?_⟩
   cases e2
   exact⟨o,e,ex.2.1⟩
  ·obtain⟨o,_,_,_,e,ex,_⟩:=I.hok p _ hk
   refine⟨⟨o,e,ex.1⟩,λa e2=> ?_⟩
   cases e2
   exact⟨o,e,ex.2.1⟩
 |_=>exact False.elim ty
def tBM (K:PySem.W.Frag) (T:String) (r:V->List V->Hp->VK->Prop) (to:TE) (t:TA):TE:=λσ H Q=>to σ H λx H1=>tyV K T x H1/\t σ H1 λxs H2=>r x xs H2 Q
variable {o e:Expr} {es:List Expr} {to:TE} {t:TA} {name:Str} {apos cpos:Pos} {T id:String} {r:V->List V->Hp->VK->Prop}
theorem jlE (pa:PlainAttrs T) (slot:Slot T name id) (hty:typeOf (.builtin id)=pure (.type "method_descriptor")) (hm:MtR X id r) (ho:PE X o to) (ha:PA X (e::es) t)
 (hbase:attributeBase o name X.env (eval o X.env)=eval o X.env:=by rfl)
 (hfew:((backTo cpos (starEach (e::es) X.env)).all (λx=> !x.1)&&(backToKw cpos (keywordEach [] X.env)).all (λx=>x.1.isSome)
  &&decide ((e::es).length+([]:List Keyword).length+(if ([]:List Keyword).isEmpty then 0 else 1)<30))=true:=by rfl)
 (hline:(apos.endLine==cpos.line)=true:=by rfl) (hs:starEach (e::es) X.env=(false,eval e X.env)::starEach es X.env:=by rfl) (hplain:(backTo cpos (starEach es X.env)).any (·.1)=false:=by rfl):
 PE X (.Call (.Attribute o name apos) (e::es) [] cpos) (tBM X.K T r to t):=by
 intro pins s σ H Q I h
 refine wpAny_Call_method_late hbase hfew hline rfl (thn (ho pins s σ H _ I h) λv s1 ⟨x,H1,I1,r1,ty,q1⟩=> ?_)
 obtain⟨h1,h2⟩:=jnE I1 r1 ty
 refine⟨T,id,pa,slot,hty,h1,h2,?_⟩
 have hA:=ha cpos pins s1 σ H1 _ I1 q1
 rw [hs] at hA ⊢
 refine Calls.callWith_builtin (by show (false||(backTo cpos (starEach es X.env)).any (·.1))=false;rw [hplain]<;>rfl) (Calls.evalArgs_plain ?_)
 exact thn hA λus s2 ⟨vs,H2,I2,r2,q2⟩=>hm pins s2 σ H2 x vs v us Q I2 r1 r2 q2
end
def MtM (X:Cx) (id:String) (r:V->List V->Hp->VK->Prop):Prop:=
 ∀ (pins:List (Addr×Obj)) (s:Shared) (σ:St) (H:Hp) (x:V) (xs:List V) (v:Value) (us:List Value) (Q:VK),Inv X pins σ H s->RelV x v->Vals xs us->r x xs H Q->
  wpAny (model X.prog X.w) X.A (call (.builtin id) (v::us)) (EP X pins σ Q) X.xe s
theorem Vals.one: ∀ {x:V} {us:List Value},Vals [x] us-> ∃u,us= [u]/\RelV x u
 |_,_,.cons r .nil=>⟨_,rfl,r⟩
theorem Vals.rep {xs:List V} {us:List Value} (h:Vals xs us): ∀k:Nat,Vals (List.replicate k xs).flatten (List.replicate k us).flatten
 |0=> .nil
 |k+1=>by
  rw [G1y,G1y,G13,G13]
  exact Vals.append h (Vals.rep h k)
theorem jep (its:List Value): ∀ (k:Nat) (acc:List Value),
 List.foldl (λx1 x2=>x1++x2) acc.toArray (List.replicate k its.toArray)=(acc++(List.replicate k its).flatten).toArray
 |0,acc=>by simp
 |k+1,acc=>by
  have e:acc.toArray++its.toArray=(acc++its).toArray:=by simp
  have e2:(acc++its)++(List.replicate k its).flatten=acc++(List.replicate (k+1) its).flatten:=by
   rw [G1y,G13,G0l]
  rw [<-e2,<-jep its k (acc++its),<-e,G1y,List.foldl_cons]
section
variable {X:Cx} {pins:List (Addr×Obj)} {σ:St} {H:Hp} {s:Shared} {l b:Addr} {xs ys zs:List V}
theorem Inv.lset {its its' :List Value} {n:Nat} {f:Array Value->Array Value} {t' :Nat} (I:Inv X pins σ H s) (hH:H l=some (.lst xs))
 (e:s.heap.get? l=some {cls:= .type "list",data:= .seq its.toArray n}) (hf:f its.toArray=its'.toArray) (hv:Vals ys its') (hz:ys.length<=sizeLine):
 Inv X pins σ (upd H l (.lst ys)) {s with heap:=s.heap.update l (Obj.mapSeq f),toks:=t'}:=by
 have q:=PySem.IsL.update e f
 rw [hf] at q
 refine I.write (x:=l) (e:=l) (by rw [hH];exact trivial) (.inl rfl) (λb' u hb hu=>(Heap.get?_update_other s.heap (Obj.mapSeq f) (Ne.symm hb)).trans hu) ⟨_,q⟩ ?_
 exact⟨hz,its',_,hv,q⟩
theorem Inv.lnew {its:List Value} {t' :Nat} (I:Inv X pins σ H s) (hv:Vals ys its) (hz:ys.length<=sizeLine):
 Inv X pins σ (upd H s.heap.objs.size (.lst ys)) {s with heap:=s.heap.push {cls:= .type "list",data:= .seq its.toArray},toks:=t'}:=
 I.laid (λ_ _ q=>G0f _ q) (G0k _) ⟨hz,its,0,hv,G0S _ rfl⟩
theorem Inv.fresh (I:Inv X pins σ H s):H s.heap.objs.size=none:=I.hok.fresh (G0k _)
theorem Inv.lstM (I:Inv X pins σ H s) (hH:H l=some (.lst xs)):xs.length<=sizeLine/\ ∃ (its:List Value) (n:Nat),Vals xs its/\xs.length=its.length/\s.heap.get? l=some {cls:= .type "list",data:= .seq its.toArray n}:=by
 obtain⟨z,its,n,r,e⟩:=I.hok l _ hH
 exact⟨z,its,n,r,r.length,e⟩
theorem jka {n:Nat} (h:n<=sizeLine):Builtin.List.listTooLong n=false:=by
 unfold Builtin.List.listTooLong
 exact G0R (by omega)
end
section
variable {X:Cx}
def jlF:V->List V->Hp->VK->Prop:=λx vs H Q=> ∃l xs y,x= .ref l/\vs= [y]/\H l=some (.lst xs)/\xs.length<sizeLine/\Q .non (upd H l (.lst (xs++ [y])))
theorem jiB:MtM X "list.append" jlF:=by
 intro pins s σ H x vs v us Q I rx rv h
 obtain⟨l,xs,y,rfl,rfl,hH,hz,q⟩:=h
 cases rx
 obtain⟨u,rfl,ru⟩:=rv.one
 obtain⟨z,its,n,r,hl,e⟩:=I.lstM hH
 refine G3q F.slot_list_append ⟨_,e,rfl⟩ F.entry_list_append (F.args_list_append_2 _ _) (PySem.list_append l its.toArray n u (by rw [G0u];omega)) ⟨e,?_⟩
 refine⟨.non,_,I.lset (its' :=its++ [u]) hH e (by simp) (r.append (.cons ru .nil)) ?_,rfl,q⟩
 rw [G0a,G1B]
 omega
def jq4:R2:=λx y H Q=> ∃l b xs zs,x= .ref l/\y= .ref b/\H l=some (.lst xs)/\H b=some (.lst zs)/\xs.length+zs.length<=sizeLine/\ ∀p,H p=none->Q (.ref p) (upd H p (.lst (xs++zs)))
theorem jnF:OpR X (binaryOp .Add) jq4:=by
 intro pins s σ H x y v u Q I rx ry h
 obtain⟨l,b,xs,zs,rfl,rfl,hH,hB,hz,q⟩:=h
 cases rx
 cases ry
 obtain⟨z,its,n,r,hl,e⟩:=I.lstM hH
 obtain⟨z2,its2,n2,r2,hl2,e2⟩:=I.lstM hB
 refine PySem.P.add_list e e2 ?_ (by rw [G0u,G0u];omega)
 have ea:its.toArray++its2.toArray=(its++its2).toArray:=by simp
 rw [ea]
 exact⟨.ref _,_,I.lnew (t' :=s.toks) (r.append r2) (by rw [G0a];omega),rfl,q _ I.fresh⟩
def jq5:R2:=λx y H Q=> ∃l k xs,x= .ref l/\y= .int k/\H l=some (.lst xs)/\ -(2^63)<=k/\k<2^63/\xs.length*k.toNat<=sizeLine/\
 ∀p,H p=none->Q (.ref p) (upd H p (.lst (List.replicate k.toNat xs).flatten))
theorem jgG {α:Type} (xs:List α) (k:Nat):(List.replicate k xs).flatten.length=k*xs.length:=by
 induction k with
 |zero=>simp
 |succ k ih=>rw [G1y,G13,G0a,ih,Nat.succ_mul,Nat.add_comm]
theorem jnG:OpR X (binaryOp .Mult) jq5:=by
 intro pins s σ H x y v u Q I rx ry h
 obtain⟨l,k,xs,rfl,rfl,hH,h1,h2,hz,q⟩:=h
 cases rx
 obtain⟨t,rfl⟩:=ry
 obtain⟨z,its,n,r,hl,e⟩:=I.lstM hH
 have hlen:its.toArray.size*k.toNat<=sizeLine:=by rw [G0u,<-hl];exact hz
 have hcap: ¬its.toArray.size*k.toNat>(2^63-1) / 8:=by
  have:(sizeLine:Nat)<=(2^63-1) / 8:=by decide
  omega
 have hfit: ¬ (!Builtin.List.listFitsIndex k)=true:=by
  rw [fitsIndex_both h1 h2]
  exact G0s
 have hlong: ¬Builtin.List.listTooLong (its.toArray.size*k.toNat)=true:=by
  rw [jka hlen]
  exact G0s
 have hnew:List.foldl (λx1 x2=>x1++x2) #[] (List.replicate (if its.toArray.isEmpty=true then 0 else k.toNat) its.toArray)=(List.replicate k.toNat its).flatten.toArray:=by
  have f0: ∀m:Nat,List.foldl (λx1 x2=>x1++x2) #[] (List.replicate m its.toArray)=(List.replicate m its).flatten.toArray:=λm=>by
   have:=jep its m []
   rw [G0v] at this
   exact this
  rw [f0]
  cases its with
  |nil=>simp
  |cons a r' =>rw [if_neg (by simp)]
 refine wpAny_binaryOp_repeat_ref (T:= "list") (U:= "int") (by decide) ⟨_,e,rfl⟩ (λs' =>G3K s' k t) noFill_list_mul F.fills_int_mul G22 repeat_list F.slot_int_index.lookup
  (G3q G22 (G3K s k t) F.entry_int_rmul (F.args_int_rmul_2 _ _) (int___rmul___int_list k t l its.toArray n)
   ⟨e,rfl,⟨_,e,rfl⟩,G3q F.slot_list_mul ⟨_,e,rfl⟩ F.entry_list_mul (F.args_list_mul_2 _ _) (AutoListH.list___mul___list_int_3 l its.toArray n k t hfit hcap hlong) ⟨e,?_⟩⟩)
 rw [hnew]
 exact⟨.ref _,_,I.lnew (t' :=s.toks) (r.rep k.toNat) (by rw [jgG,Nat.mul_comm];exact hz),rfl,q _ I.fresh⟩
end
end L2
namespace Att
open PySem PySem.W PySem.Calls PyProof.Rows
theorem jeq {P:Params} {h:Heap}: ∀ (ns:List Int) (vs:List Value),WellAll P h vs (ns.map WData.int)->IntsAre vs ns:=by
 intro ns
 induction ns with
 |nil=>
  intro vs w
  rw [G0M] at w
  cases w
  exact .nil
 |cons n ns ih=>
  intro vs w
  rw [G0w] at w
  cases w with
  |cons a b=>
   cases a
   exact .cons _ _ (ih _ b)
theorem jiC {l:OpenLaw} {n:Nat} (hn:l.most=some n) {P:Params} {h:Heap} {args:List WData} {vals:List Value}
 (hpre:l.row.toRowW.claim.pre args=true) (hwl:WellAll P h vals args):
 ∃a vs ns,vals= [Value.ref a]/\args= [WData.list (ns.map WData.int)]/\h.get? a=some {cls:= .type "list",data:= .seq vs.toArray}/\IntsAre vs ns/\ns.length<=n:=by
 have hsh:WShape.hasAll [] args [.list .int]=true:=(pre_splitW hpre).1
 have hc:l.pre.holds [] {args:=args}=true:=(pre_splitW hpre).2
 obtain⟨d,r,rfl,h1,h2⟩:=hasAllW_cons hsh
 obtain rfl:=hasAllW_nil h2
 obtain⟨xs,rfl,h3⟩:=hasW_list h1
 obtain⟨ns,rfl⟩:=items_int h3
 have hlen:ns.length<=n:=by
  unfold OpenLaw.pre at hc
  have h4:(WTm.not (.lt (.lit (.int (n:Int))) (.len (.arg 0)))).holds [] {args:= [.list (ns.map .int)]}=true:=by
   have h4:=(holds_andW hc).1
   rw [hn] at h4
   exact h4
  have h5:=condW_of h4 (w_not (w_lt w_lit (w_len_list (w_arg rfl))))
  rw [G0c] at h5
  refine Nat.le_of_not_lt λq=> ?_
  have q' :(n:Int)<((ns.length:Nat):Int):=by omega
  first
   |(rw [G0P q'] at h5;exact absurd h5 (by decide))
   |(simp at h5;omega)
 cases hwl with
 |cons w1 w2=>
  cases w2
  cases w1 with
  |list ho hall=>exact⟨_,_,ns,rfl,rfl,ho,jeq ns _ hall,hlen⟩
theorem jiD (l:OpenLaw) (args:List WData):l.row.toRowW.claim.post args (.bool true) args=true:=
 postW_of (r:=l.row.toRowW) (X:=(true==true))
  (show WShape.has [] (.bool true) .bool=true by first|rfl|decide|simp [WShape.has,WShape.arms,WShape.armsAll])
  (show (WTm.eq .res (.lit (.bool true))).value [] {args:=args,res:=some (.bool true),after:=args}=some (.bool (true==true)) from w_eq_bool (w_res rfl) w_lit) rfl
theorem attach_call {l:OpenLaw} {n:Nat} {q:Program} {loose:List Str} {XP:(Str->Option Value)->Heap->Prop} {YP:World->Heap->Prop} {d:DefRec}
 (hn:l.most=some n) (hdf:d.params.defaults= [])
 (call: ∀ (w:World) (s₀ s₁:Shared) (mg mb:Str->Option Value) (fa:Addr) (o:Obj) (pm cd doc:Value) (a:Addr) (vs:List Value) (ns:List Int),
  Ground q loose [] XP w s₀ mg mb s₁.heap->YP w s₁.heap->
  s₁.heap.get? fa=some o->o.data= .func (docDef d.name d.params d.body d.scope pm cd doc)->s₁.heap.CodeRec cd d.name->mg d.name=some (.ref fa)->
  s₁.heap.get? a=some {cls:= .type "list",data:= .seq vs.toArray}->IntsAre vs ns->ns.length<=n->s₁.gens= #[]->
  codeAny (model l.prog w) callerA (.call (.ref fa) ⟨[.ref a],[]⟩) (λr s' =>r= .ok (.ret (.bool true))/\OldK s₁.heap s'.heap/\s'.os=s₁.os/\AllBare s'.gens) s₁):
 WalkO q loose XP YP l.row.toRowW d [] (λf vs=>PySem.call f vs):=by
 intro w s₀ s₁ mg mb G Y fa o pm cd doc dV kV ho hd hcd hD hmg hg args vals as hpre hlay hrd hwl hlo
 obtain rfl:dV= .none:=Dflts.none hD hdf
 obtain rfl:kV= .none:=Dflts.noKw hD
 obtain⟨a,vs,ns,rfl,rfl,hobj,hints,hlen⟩:=jiC hn hpre hwl
 refine enter_call (G2N (call w s₀ s₁ mg mb fa o pm cd doc a vs ns G Y ho (fd_plain hd) hcd hmg hobj hints hlen hg) λr s' hq=> ?_)
 obtain⟨rfl,h2,h3,h4⟩:=hq
 exact⟨.inl ⟨.bool true,.bool true,[],rfl,λ_=>rfl,.bool true,jiD l _,λ_=>⟨List.Pairwise.nil,λ_ hm=>(nomatch hm)⟩⟩,h2,h3,h4⟩
end Att
namespace L2
open PySem PySem.Spec PyProof.Rows
theorem jf4: ∀ {vs:List Value} {ns:List Int},IntsAre vs ns->Vals (ns.map V.int) vs
 |_,_,.nil=> .nil
 |_,_,.cons n t h=> .cons ⟨t,rfl⟩ (jf4 h)
def Only (H:Hp):Prop:= ∀b,H b=none\/ ∃o xs,H b=some (.frz o (.lst xs))
def jcp (s:Stmt):Arguments:=match s with
 | .FunctionDef _ a _ _ _ _ _ _ _ _=>a
 |_=> {posonlyargs:= [],args:= [],vararg:=none,kwonlyargs:= [],kw_defaults:= [],kwarg:=none,defaults:= []}
def jaV (s:Stmt):List Stmt:=match s with
 | .FunctionDef _ _ b _ _ _ _ _ _ _=>b
 |_=> []
def jae (s:Stmt):Scope:=match s with
 | .FunctionDef _ _ _ _ _ _ sc _ _ _=>sc
 |_=> {kind:= .function,names:= [],isGenerator:=false,isCoroutine:=false}
abbrev CX0:CXT:=λ_ _ _ _ _ _=>False
abbrev E0:XK:=λ_ _ _=>False
theorem jlG {X:Cx}:jel CX0 X E0:=λ_ _ _ _ _ _ _ h=>h.elim
structure Fun (K:PySem.W.Frag) (x qual:Str) (st:Stmt) (f:Addr) (fd:FuncData):Prop where
 ex: ∃ (oc:Value) (od:Option Addr) (kV doc pm:Value) (an:Option Addr) (cdv ct:Value) (osl:Array (Option Value)),
  fd=PySem.W.fnOf x qual (jcp st) (jaV st) (jae st) .none kV doc pm an cdv ct/\K.lookup f=some ⟨oc,od,.func fd,osl⟩/\PySem.W.codeIn K cdv qual=true
 kp:PySem.W.keepIn K (.ref f)=true
section
variable {P:Program} {w:World} {K:PySem.W.Frag} {mg:Str->Option Value} {base:Heap}
theorem Fun.ok {x qual:Str} {st:Stmt} {f:Addr} {fd:FuncData} {N ps:List Str} {k:Nat} {sp:Sp} (F:Fun K x qual st f fd) (S:FnScope N ps (jae st)) (len: ∀vs H Q E,sp vs H Q E->vs.length=ps.length)
 (hbody: ∀ (cdv:Value) (A:Around) (outer:List Env) (s:Shared) (H:Hp) (vs:List V) (Q:VK) (E:XK),Room k (A.deeper (envOfC qual (jae st) s.heap.objs.size f cdv))->sp vs H Q E->
  ∃t,PSs (jft CX0 P w K mg base N qual (jae st) f cdv A outer s H E).nox (jaV st) t/\t {nx:=λ_ H' =>Q .non H',rt:=Q} (start N vs) H):FnOk P w K mg base CX0 (k+1) f fd ps sp:=by
 obtain⟨oc,od,kV,doc,pm,an,cdv,ct,osl,rfl,lk,hcd⟩:=F.ex
 refine jlz lk hcd S len λA outer s H vs Q E hr hsp=> ?_
 obtain⟨t,h,q⟩:=hbody cdv A outer s H vs Q E hr hsp
 exact⟨t,h.nox,q⟩
theorem Fun.binds {x qual:Str} {st:Stmt} {f:Addr} {fd:FuncData} {ps:List Str} (F:Fun K x qual st f fd)
 (h: ∀ (kV doc pm:Value) (an:Option Addr) (cdv ct:Value) (us:List Value),us.length=ps.length->bindArgs (PySem.W.fnOf x qual (jcp st) (jaV st) (jae st) .none kV doc pm an cdv ct) ⟨us,[]⟩=pure (ps.zip us)):Binds K fd ps []:=by
 obtain⟨oc,od,kV,doc,pm,an,cdv,ct,osl,rfl,lk,hcd⟩:=F.ex
 exact .all (h kV doc pm an cdv ct)
theorem jnH {x qual:Str} {st:Stmt} {f:Addr} {oc:Value} {od an:Option Addr} {osl:Array (Option Value)} {kV doc pm cdv ct:Value} (l:K.lookup f=some ⟨oc,od,.func (PySem.W.fnOf x qual (jcp st) (jaV st) (jae st) .none kV doc pm an cdv ct),osl⟩)
 (c:PySem.W.codeIn K cdv qual=true) (k:PySem.W.keepIn K (.ref f)=true):Fun K x qual st f (PySem.W.fnOf x qual (jcp st) (jaV st) (jae st) .none kV doc pm an cdv ct):=⟨⟨oc,od,kV,doc,pm,an,cdv,ct,osl,rfl,l,c⟩,k⟩
end
theorem jaA {n:Nat} (h:n<=1000):n<sizeLine:=G2d h (by decide)
theorem jer {A B:Prop} (h:B):if false=true then A else B:=by
 rw [if_neg G0s]
 exact h
theorem jgH {A B:Prop} (h:A):if true=true then A else B:=by
 rw [if_pos rfl]
 exact h
theorem jg9 {c A B:Prop} [Decidable c] (h1:c->A) (h2: ¬c->B):if c then A else B:=by
 by_cases h:c
 ·rw [if_pos h]
  exact h1 h
 ·rw [if_neg h]
  exact h2 h
section
variable {κ:Type} [DecidableEq κ]
def jjU (kvs:List (κ×V)) (k:κ):Option V:=(kvs.find? λkv=>decide (kv.1=k)).map (·.2)
def jkZ (kvs:List (κ×V)) (k:κ) (v:V):List (κ×V):=
 if (kvs.any λkv=>decide (kv.1=k))=true then kvs.map (λkv=>if kv.1=k then (kv.1,v) else kv) else kvs++ [(k,v)]
theorem jha {p:κ×V} {r:List (κ×V)} {k:κ} (e:p.1=k):jjU (p::r) k=some p.2:=by simp [jjU,G2i,e]
theorem jhb {p:κ×V} {r:List (κ×V)} {k:κ} (e: ¬p.1=k):jjU (p::r) k=jjU r k:=by simp [jjU,G2i,e]
theorem jgI (kvs:List (κ×V)) (k:κ) (v:V):(jkZ kvs k v).length<=kvs.length+1:=by
 unfold jkZ
 split
 ·rw [G0c];omega
 ·rw [G0a,G0h,G0m];omega
theorem KV.val {kvs:List (κ×V)} {vs:List (κ×Value)} (r:KV kvs vs) (k:κ):RelO (jjU kvs k) (valueAt vs k):=by
 unfold KV at r
 induction r with
 |nil=>exact True.intro
 | @cons p q ps qs h t ih=>
  obtain⟨h1,h2⟩:=h
  by_cases e:p.1=k
  ·have e' :q.1=k:=h1.symm.trans e
   have b:valueAt (q::qs) k=some q.2:=by simp [valueAt,G2i,e']
   rw [jha e,b];exact h2
  ·have e' : ¬q.1=k:=λz=>e (h1.trans z)
   have b:valueAt (q::qs) k=valueAt qs k:=by simp [valueAt,G2i,e']
   rw [jhb e,b];exact ih
theorem KV.any {kvs:List (κ×V)} {vs:List (κ×Value)} (r:KV kvs vs) (k:κ):(kvs.any λkv=>decide (kv.1=k))=vs.any λkv=>decide (kv.1=k):=by
 unfold KV at r
 induction r with
 |nil=>rfl
 |cons h t ih=>rw [List.any_cons,List.any_cons,ih,h.1]
theorem KV.repl {kvs:List (κ×V)} {vs:List (κ×Value)} (r:KV kvs vs) (k:κ) {y:V} {u:Value} (ry:RelV y u):
 KV (kvs.map λkv=>if kv.1=k then (kv.1,y) else kv) (vs.map λkv=>if kv.1=k then (kv.1,u) else kv):=by
 unfold KV at r ⊢
 induction r with
 |nil=>exact .nil
 | @cons p q ps qs h t ih=>
  rw [G0w,G0w]
  refine .cons ?_ ih
  obtain⟨h1,h2⟩:=h
  by_cases e:p.1=k
  ·rw [if_pos e,if_pos (h1.symm.trans e)];exact⟨h1,ry⟩
  ·rw [if_neg e,if_neg (λz=>e (h1.trans z))];exact⟨h1,h2⟩
theorem KV.put {kvs:List (κ×V)} {vs:List (κ×Value)} (r:KV kvs vs) (k:κ) {y:V} {u:Value} (ry:RelV y u):KV (jkZ kvs k y) (stored vs k u):=by
 unfold jkZ stored
 rw [r.any k]
 by_cases e:(vs.any λkv=>decide (kv.1=k))=true
 ·rw [if_pos e,if_pos e];exact r.repl k ry
 ·rw [if_neg e,if_neg e];exact Paired.snoc r ⟨rfl,ry⟩
theorem KV.length {kvs:List (κ×V)} {vs:List (κ×Value)} (r:KV kvs vs):kvs.length=vs.length:=Paired.length r
end
theorem jlH {P:Program} {w:World} {k:Key} {u:Value} (r:RelV (kV k) u):(jbf P w).is k u=true:=by
 cases k with
 |inl i=>obtain⟨t,e⟩:=(show ∃t,u=Value.int i t from r);subst e;exact jgC P w i t
 |inr x=>obtain⟨t,e⟩:=(show ∃t,u=Value.str x t from r);subst e;exact jgD P w x t
theorem jf5 {P:Program} {w:World}: ∀ {ks:List Key} {us:List Value},Vals (ks.map kV) us->ItemsAre (jbf P w) ks us
 | [],_,r=>by rw [G0M] at r;cases r;exact .nil
 |k::ks,_,r=>by
  rw [G0w] at r
  cases r with
  |cons h t=>exact .cons (jlH h) (jf5 t)
abbrev KT (H:Hp):List (List Key×V)->List (List Key×Addr×Value)->Prop:=Paired λp q=>p.1=q.1/\H q.2.1=some (.tup (p.1.map kV))/\RelV p.2 q.2.2
theorem KT.val {H:Hp} {kvs:List (List Key×V)} {xs:List (List Key×Addr×Value)} (r:KT H kvs xs) (k:List Key):RelO (jjU kvs k) ((atKey xs k).map (·.2)):=by
 induction r with
 |nil=>exact True.intro
 | @cons p q ps qs h t ih=>
  obtain⟨h1,_,h2⟩:=h
  by_cases e:p.1=k
  ·have e' :q.1=k:=h1.symm.trans e
   have b:atKey (q::qs) k=some q.2:=by simp [atKey,G2i,e']
   rw [jha e,b];exact h2
  ·have e' : ¬q.1=k:=λz=>e (h1.trans z)
   have b:atKey (q::qs) k=atKey qs k:=by simp [atKey,G2i,e']
   rw [jhb e,b];exact ih
section
variable {P:Program} {w:World} {H:Hp} {h:Heap} {a:Addr}
theorem jnI {u:HO} (ok:HOk P w H h) (e:Rd H a u):ObjOk P w H h a u:=e.ok ok
theorem jkb {kvs:List (Key×V)} (ok:HOk P w H h) (e:Rd H a (.dK kvs)):kvs.length<=sizeLine/\(a==sysModules)=false/\ ∃vs,KV kvs vs/\h.DictOf (jbf P w) a vs:=
 show ObjOk P w H h a (.dK kvs) from jnI ok e
theorem jpG {kvs:List (Key×V)} (ok:HOk P w H h) (e:H a=some (.dK kvs)):kvs.length<=sizeLine/\(a==sysModules)=false/\ ∃vs,KV kvs vs/\h.DictOf (jbf P w) a vs:=jkb ok (.inl e)
theorem jk0 {ks:List Key} (ok:HOk P w H h) (e:H a=some (.tup (ks.map kV))):(tupleKind (jbf P w)).is h ks a:=by
 obtain⟨_,its,r,o,h1,h2,_,n,h3⟩:=(show ObjOk P w H h a (.tup (ks.map kV)) from ok a _ e)
 exact⟨o,its.toArray,n,h1,h2,h3,by simpa using jf5 r⟩
theorem jnJ {kvs:List (List Key×V)} (ok:HOk P w H h) (e:Rd H a (.dT kvs)):kvs.length<=sizeLine/\(a==sysModules)=false/\
 ∃xs,KT H kvs xs/\h.DictOfH (tupleKind (jbf P w)) a xs:=by
 obtain⟨z,y,xs,r,o,es,ep,h1,h2,h3,h4,h5⟩:=(show ObjOk P w H h a (.dT kvs) from jnI ok e)
 refine⟨z,y,xs,r,o,es,ep,h1,h2,h3,h4,λx hx=> ?_,h5⟩
 have all: ∀ {l:List (List Key×V)} {m:List (List Key×Addr×Value)},KT H l m-> ∀x∈m,(tupleKind (jbf P w)).is h x.1 x.2.1:=by
  intro l m q
  induction q with
  |nil=>intro x hx;exact nomatch hx
  | @cons p q ps qs hq t ih=>
   intro x hx
   rcases G0r.mp hx with e|hx
   ·subst e
    exact jk0 ok (by rw [<-hq.1];exact hq.2.1)
   ·exact ih x hx
 exact all r x hx
end
def jpH (H:Hp) (a:Addr) (y:V) (r:Option V):Prop:=
 (∃kvs k,Rd H a (.dK kvs)/\y=kV k/\r=jjU kvs k)\/ ∃kvs k b,Rd H a (.dT kvs)/\y= .ref b/\H b=some (.tup (k.map kV))/\r=jjU kvs k
section
variable {X:Cx} {pins:List (Addr×Obj)} {σ:St} {H:Hp} {s:Shared} {a:Addr} {y v:V} {u r:Value} {o:Option V} {A:Around} {E:Value->Shared->Prop}
theorem Inv.big (I:Inv X pins σ H s):sysModules<s.heap.objs.size:=by
 have h:mainGlobals<s.heap.objs.size:=(I.mod.glob.keeps I.bk).lt
 exact G2R (by decide) h
theorem jiE {Q:Value->Shared->Prop} (hu:A.units+1<cLine) (I:Inv X pins σ H s) (g:jpH H a y (some v)) (ry:RelV y u) (h: ∀w' s',Inv X pins σ H s' ->RelV v w' ->Q w' s'):
 wpAny (model X.prog X.w) A (getItem (.ref a) u) Q E s:=by
 rcases g with ⟨kvs,k,e,ey,l⟩|⟨kvs,k,b,e,ey,eb,l⟩
 ·subst ey
  obtain⟨z,hd,vs,rel,dd⟩:=jkb I.hok e
  obtain⟨w',hw,rw'⟩:=RelO.some_of (v:=v) (o:=valueAt vs k) (by rw [l];exact rel.val k)
  exact wpAny_getItem_of (jlH ry) dd.mapOf hw (h w' _ (I.tok _) rw')
 ·subst ey
  cases (show u=Value.ref b from ry)
  obtain⟨z,hd,xs,rel,dd⟩:=jnJ I.hok e
  obtain⟨w',hw,rw'⟩:=RelO.some_of (v:=v) (o:=(atKey xs k).map (·.2)) (by rw [l];exact rel.val k)
  obtain⟨p,hp,hp2⟩:=G2b.mp hw
  refine wpAny_getItem_heap (tupleKind_room_in1 hu) (jk0 I.hok eb) dd hp ?_
  rw [hp2]
  exact h w' _ (I.tok _) rw'
theorem jlI {h' :Heap} {t' :Nat} {ob:HO} (I:Inv X pins σ H s) (mu:Mut (H a)) (hs:Heap.SameBut a s.heap h') (he: ∃q,h'.get? a=some q) (new:ObjOk X.prog X.w (upd H a ob) h' a ob):
 Inv X pins σ (upd H a ob) {s with heap:=h',toks:=t'}:=
 I.write (x:=a) (e:=a) mu (.inl rfl) (λb q hb z=>(hs.2 b hb).trans z) he new
theorem jnK {P:Program} {w:World} {H' :Hp} {h' :Heap} {kvs:List (Key×V)} {vs:List (Key×Value)} (z:kvs.length<=sizeLine) (hd:(a==sysModules)=false) (rel:KV kvs vs) (dd:h'.DictOf (jbf P w) a vs):
 ObjOk P w H' h' a (.dK kvs):=⟨z,hd,vs,rel,dd⟩
end
section
variable {X:Cx} {pins:List (Addr×Obj)} {σ:St} {H:Hp} {s:Shared} {a:Addr} {kvs:List (Key×V)} {k:Key} {u:Value} {A:Around} {E:Value->Shared->Prop}
theorem jpI {Q:Value->Shared->Prop} (I:Inv X pins σ H s) (e:Rd H a (.dK kvs)) (h: ∀t s',Inv X pins σ H s' ->Q (.int kvs.length t) s'):wpAny (model X.prog X.w) A (call (.builtin "len") [.ref a]) Q E s:=by
 obtain⟨z,hd,vs,rel,dd⟩:=jkb I.hok e
 refine call_len_dict hd dd (by rw [<-rel.length];rw [G3O] at z;omega) ?_
 rw [<-rel.length]
 exact h _ _ (I.tok _)
end
def jpJ (i:Expr):Prop:= ∀ov iv,subscripted i false ov iv=operate [ov,iv] (getItem ov iv)
theorem jlJ {prog:Program} {w:World} {A:Around} {E:Value->Shared->Prop} {s:Shared} {env:Env} {value slice:Expr} {pos:Pos} {T id:String} {Q:Value->Shared->Prop}
 (hl:typeLookup (.type T) "__getitem__" =pure (some (.builtin id))) (hs:jpJ slice)
 (h:wpAny (model prog w) A (eval value env) (λo s₁=>wpAny (model prog w) A (eval slice env) (λi s₂=>s₂.TypeIs o T/\wpAny (model prog w) A (getItem o i) Q E s₂) E s₁) E s):
 wpAny (model prog w) A (eval (.Subscript value slice pos) env) Q E s:=by
 refine Subscript_ (G0D h (λo s₁ h₁=>G0D h₁ (λi s₂ h₂=> ?_) λ_ _ x=>x) λ_ _ x=>x)
 obtain⟨hT,h₂⟩:=h₂
 unfold subscriptTail
 refine wpAny_bind ?_
 rw [getitemInPython_of_ne hT.not_modules]
 refine wpAny_bind (wpAny_specialOf hT hl ?_)
 have fin:wpAny (model prog w) A (subscripted slice false o i) (λr s₃=>wpAny (model prog w) A (letTemporaryGo value o r >>= λ_=>pure r) Q E s₃) E s₂:=by
  rw [hs o i]
  exact wpAny_operating (G0D h₂ (λr s₃ h₃=>wpAny_bind (wpAny_letTemporaryGo (G0j h₃))) λ_ _ x=>x)
 first
  |exact G0j (wpAny_bind fin)
  |exact wpAny_bind (G0j (wpAny_bind fin))
  |exact wpAny_bind fin
theorem jgJ {X:Cx} {pins:List (Addr×Obj)} {σ:St} {H:Hp} {s:Shared} {a:Addr} {y:V} {o:Option V} (I:Inv X pins σ H s) (g:jpH H a y o):s.TypeIs (.ref a) "dict" :=by
 rcases g with ⟨kvs,k,e,_,_⟩|⟨kvs,k,b,e,_,_,_⟩
 ·obtain⟨_,_,vs,_,dd⟩:=jkb I.hok e
  exact dd.typeIs
 ·obtain⟨_,_,xs,_,dd⟩:=jnJ I.hok e
  exact dd.typeIs
def jpK (td ty:TE):TE:=λσ H Q=>td σ H λx H1=>ty σ H1 λy H2=> ∃a v,x= .ref a/\jpH H2 a y (some v)/\Q v H2
section
variable {X:Cx} {o i e value:Expr} {pos pos' tpos:Pos} {td ty tv:TE}
theorem jlK (hu:X.A.units+1<cLine) (ho:PE X o td) (hi:PE X i ty) (hs:jpJ i):PE X (.Subscript o i pos) (jpK td ty):=by
 intro pins s σ H Q I h
 refine jlJ PySem.F.slot_dict_getitem.lookup hs (thn (ho pins s σ H _ I h) λu s1 ⟨x,H1,I1,rx,q1⟩=>thn (hi pins s1 σ H1 _ I1 q1) λiv s2 ⟨y,H2,I2,ry,a,v,ex,g,q2⟩=> ?_)
 subst ex
 obtain rfl:u=Value.ref a:=rx
 exact⟨jgJ I2 g,jiE hu I2 g ry λw' s3 I3 rw' =>⟨v,H2,I3,rw',q2⟩⟩
end
theorem jkc {P:Program} {w:World} {H:Hp} (h:Heap) (hb:sysModules<h.objs.size):ObjOk P w H (h.push {cls:= .type "dict",data:= .dict #[]}) h.objs.size (.dK []):=
 ⟨G1l _,G2r.mpr (Ne.symm (G0Q hb)),[],.nil,Heap.DictOf.new h⟩
def jiF:List (TE×TE)->St->Hp->(List (V×V)->Hp->Prop)->Prop
 | [],_,H,Q=>Q [] H
 |(tk,tv)::r,σ,H,Q=>tk σ H λx H1=>tv σ H1 λy H2=>jiF r σ H2 λps H3=>Q ((x,y)::ps) H3
abbrev VV:List (V×V)->List (Value×Value)->Prop:=Paired λp q=>RelV p.1 q.1/\RelV p.2 q.2
def PPs (X:Cx) (pos:Pos) (keys:List (Option Expr)) (values:List Expr) (trs:List (TE×TE)):Prop:=
 ∀ (pins:List (Addr×Obj)) (s:Shared) (σ:St) (H:Hp) (Q:List (V×V)->Hp->Prop),Inv X pins σ H s->jiF trs σ H Q->
  wpAny (model X.prog X.w) X.A (evalPairs (pairTrees keys values X.env pos)) (λvs s' => ∃ps H',Inv X pins σ H' s' /\VV ps vs/\Q ps H') X.xe s
theorem jiG {X:Cx} {pos:Pos}:PPs X pos [] [] []:=λpins s σ H Q I h=>pairTrees_nil_walk ⟨[],H,I,.nil,h⟩
theorem jhc {X:Cx} {pos:Pos} {k v:Expr} {ks:List (Option Expr)} {vs:List Expr} {tk tv:TE} {trs:List (TE×TE)} (hk:PE X k tk) (hv:PE X v tv) (hr:PPs X pos ks vs trs):
 PPs X pos (some k::ks) (v::vs) ((tk,tv)::trs):=λpins s σ H Q I h=>
 pairTrees_cons_walk (thn (hk pins s σ H _ I h) λu s1 ⟨x,H1,I1,rx,q1⟩=>thn (hv pins s1 σ H1 _ I1 q1) λw2 s2 ⟨y,H2,I2,ry,q2⟩=>
  thn (hr pins s2 σ H2 _ I2 q2) λws s3 ⟨ps,H3,I3,rel,q3⟩=>⟨(x,y)::ps,H3,I3,.cons ⟨rx,ry⟩ rel,q3⟩)
def jf6 (kvs more:List (Key×V)):List (Key×V):=more.foldl (λacc kv=>jkZ acc kv.1 kv.2) kvs
theorem KV.merge: ∀ {more:List (Key×V)} {rs:List (Key×Value)} {kvs:List (Key×V)} {vs:List (Key×Value)},KV more rs->KV kvs vs->KV (jf6 kvs more) (merged vs rs):=by
 intro more rs kvs vs r
 unfold KV at r
 induction r generalizing kvs vs with
 |nil=>intro q;exact q
 | @cons p q ps qs h t ih=>
  intro r0
  have e:KV (jkZ kvs p.1 p.2) (stored vs q.1 q.2):=by
   have:=r0.put p.1 h.2
   rw [<-h.1];exact this
  exact ih e
theorem jdm: ∀ (more kvs:List (Key×V)),(jf6 kvs more).length<=kvs.length+more.length
 | [],kvs=>by show kvs.length<=kvs.length+0;omega
 |p::r,kvs=>by
  have h1:=jdm r (jkZ kvs p.1 p.2)
  have h2:=jgI kvs p.1 p.2
  show (jf6 (jkZ kvs p.1 p.2) r).length<=_
  rw [G0h];omega
theorem jfe {P:Program} {w:World}: ∀ {kvs:List (Key×V)} {ws:List (Value×Value)},VV (kvs.map λkv=>(kV kv.1,kv.2)) ws-> ∃rs,Carries (jbf P w) ws rs/\KV kvs rs
 | [],_,r=>by rw [G0M] at r;cases r;exact⟨[],True.intro,.nil⟩
 |p::kvs,_,r=>by
  rw [G0w] at r
  cases r with
  | @cons a b as bs h t=>
   obtain⟨rs,c,q⟩:=jfe (P:=P) (w:=w) t
   obtain⟨b1,b2⟩:=b
   exact⟨(p.1,b2)::rs,⟨jlH h.1,rfl,c⟩,.cons ⟨rfl,h.2⟩ q⟩
def jpL (trs:List (TE×TE)):TE:=λσ H Q=> ∀p,H p=none->jiF trs σ (upd H p (.dK [])) λps H2=>H2 p=some (.dK [])/\ ∃kvs:List (Key×V),ps=kvs.map (λkv=>(kV kv.1,kv.2))/\kvs.length<=15/\Q (.ref p) (upd H2 p (.dK (jf6 [] kvs)))
theorem jiH {X:Cx} {pos:Pos} {keys:List (Option Expr)} {values:List Expr} {trs:List (TE×TE)} (h:PPs X pos keys values trs) (hall:keys.all (·.isSome)=true) (hl:keys.length=values.length) (h0:keys≠ [])
 (h15:keys.length<=15):PE X (.Dict keys values pos) (jpL trs):=by
 intro pins s σ H Q I q
 have hn:=I.hok.fresh (G0k s.heap.objs.size)
 have I1:=I.laid (a:=s.heap.objs.size) (o:= .dK []) (h' :=s.heap.push {cls:= .type "dict",data:= .dict #[]}) (t' :=s.toks) (λ_ _ q=>G0f _ q) (G0k _) (jkc s.heap I.big)
 refine wpAny_Dict_walk (knd:=jbf X.prog X.w) hall hl h0 h15 (thn (h pins _ σ _ _ I1 (q _ hn)) λws s2 ⟨ps,H2,I2,rel,e,kvs,ep,lk,q2⟩=> ?_)
 subst ep
 obtain⟨rs,c,rk⟩:=jfe (P:=X.prog) (w:=X.w) rel
 obtain⟨z,hd,vs0,r0,dd⟩:=jpG I2.hok e
 cases r0
 refine⟨rs,c,dd,λh' dd' hs=>⟨.ref s.heap.objs.size,_,?_,rfl,q2⟩⟩
 have hz:(jf6 [] kvs).length<=sizeLine:=by
  have h1:=jdm kvs []
  rw [G0m] at h1
  rw [G3O];omega
 have he: ∃q,h'.get? s.heap.objs.size=some q:=let ⟨q,_,_,hq,_⟩:=dd';⟨q,hq⟩
 exact jlI I2 (by rw [e];exact True.intro) hs he (jnK hz hd (rk.merge .nil) dd')
structure M1 (X:Cx) (o:Expr) (m:Str) (apos:Pos) (e:Expr) (cpos:Pos):Prop where
 base:attributeBase o m X.env (eval o X.env)=eval o X.env
 few:((backTo cpos (starEach [e] X.env)).all (λx=> !x.1)&&(backToKw cpos (keywordEach [] X.env)).all (λx=>x.1.isSome)
  &&decide (([e]:List Expr).length+([]:List Keyword).length+(if ([]:List Keyword).isEmpty then 0 else 1)<30))=true
 line:(apos.endLine==cpos.line)=true
 trees:backTo cpos (starEach [e] X.env)= [(false,eval e X.env)]
structure M2 (X:Cx) (o:Expr) (m:Str) (apos:Pos) (e f:Expr) (cpos:Pos):Prop where
 base:attributeBase o m X.env (eval o X.env)=eval o X.env
 few:((backTo cpos (starEach [e,f] X.env)).all (λx=> !x.1)&&(backToKw cpos (keywordEach [] X.env)).all (λx=>x.1.isSome)
  &&decide (([e,f]:List Expr).length+([]:List Keyword).length+(if ([]:List Keyword).isEmpty then 0 else 1)<30))=true
 line:(apos.endLine==cpos.line)=true
 trees:backTo cpos (starEach [e,f] X.env)= [(false,eval e X.env),(false,eval f X.env)]
def jbT (names:List (Str×NameKind)) (env:Env) (cs:List (Str×Addr)):List (Str×Addr):=
 names.foldl (λcs p=>if p.2= .free then (match env.cells.lookup p.1 with|some c=>(p.1,c)::cs|none=>cs) else cs) cs
theorem jbo (p:Str×NameKind) (l:List (Str×NameKind)) (env:Env) (cs:List (Str×Addr)):
 jbT (p::l) env cs=jbT l env (if p.2= .free then (match env.cells.lookup p.1 with|some c=>(p.1,c)::cs|none=>cs) else cs):=rfl
theorem jes {env:Env} {f:Str×NameKind->List (Str×Addr)->Sem (ForInStep (List (Str×Addr)))}
 (h1: ∀p cs,p.2≠ .free->f p cs=pure (.yield cs)) (h2: ∀p cs c,p.2= .free->env.cells.lookup p.1=some c->f p cs=pure (.yield ((p.1,c)::cs))):
 ∀ (l:List (Str×NameKind)) (cs:List (Str×Addr)),(∀p∈l,p.2= .free-> ∃c,env.cells.lookup p.1=some c)->forIn l cs f=pure (jbT l env cs)
 | [],cs,_=>rfl
 |p::l,cs,h=>by
  have ih:=jes h1 h2 l
  by_cases hp:p.2= .free
  ·obtain⟨c,hc⟩:=h p G0C hp
   rw [G23,h2 p cs c hp hc,pure_bind]
   show forIn l ((p.1,c)::cs) f=_
   rw [ih _ λq hq=>h q (G0G _ hq),jbo,if_pos hp,hc]
  ·rw [G23,h1 p cs hp,pure_bind]
   show forIn l cs f=_
   rw [ih _ λq hq=>h q (G0G _ hq),jbo,if_neg hp]
theorem jfw {scope:Scope} {env:Env} (h: ∀p∈scope.names,p.2= .free-> ∃c,env.cells.lookup p.1=some c):closureFor scope env=pure (jbT scope.names env []):=by
 simp only [closureFor]
 rw [jes (env:=env) (λp cs hp=> ?_) (λp cs c hp hc=> ?_) _ _ h]
 ·rfl
 ·obtain⟨n,k⟩:=p
  have hb:(k==NameKind.free)=false:=by simpa using hp
  simp only [hb,Bool.false_eq_true,G3J]
 ·obtain⟨n,k⟩:=p
  have hb:(k==NameKind.free)=true:=by simpa using hp
  have hc' :env.cells.lookup n=some c:=hc
  simp only [hb,if_true,cellOf,hc',pure_bind]
theorem jet {env:Env}: ∀ (l:List (Str×NameKind)) (cs:List (Str×Addr)),(∀p∈cs,env.cells.lookup p.1=some p.2)-> ∀p∈jbT l env cs,env.cells.lookup p.1=some p.2
 | [],cs,h,p,hp=>h p hp
 |q::l,cs,h,p,hp=>by
  rw [jbo] at hp
  refine jet l _ (λr hr=> ?_) p hp
  by_cases hq:q.2= .free
  ·rw [if_pos hq] at hr
   cases e:env.cells.lookup q.1 with
   |none=>rw [e] at hr;exact h r hr
   |some c=>
    rw [e] at hr
    rcases G0r.mp hr with rfl|hr
    ·exact e
    ·exact h r hr
  ·rw [if_neg hq] at hr;exact h r hr
theorem jeu {env:Env}: ∀ (l:List (Str×NameKind)) (cs:List (Str×Addr)),∀p∈cs,p∈jbT l env cs
 | [],cs,p,hp=>hp
 |q::l,cs,p,hp=>by
  rw [jbo]
  refine jeu l _ p ?_
  by_cases hq:q.2= .free
  ·rw [if_pos hq]
   cases e:env.cells.lookup q.1 with
   |none=>exact hp
   |some c=>exact G0G _ hp
  ·rw [if_neg hq];exact hp
theorem jev {env:Env} {x:Str} {c:Addr} (hc:env.cells.lookup x=some c): ∀ (l:List (Str×NameKind)) (cs:List (Str×Addr)),(x,NameKind.free)∈l->(x,c)∈jbT l env cs
 |q::l,cs,h=>by
  rw [jbo]
  rcases G0r.mp h with e|h
  ·subst e
   rw [if_pos rfl,hc]
   exact jeu l _ _ G0C
  ·exact jev hc l _ h
theorem jby {α:Type}: ∀ {l:List (Str×α)} {x:Str} {c:α},l.lookup x=some c->(x,c)∈l
 | [],_,_,h=>by simp at h
 |(n,k)::r,x,c,h=>by
  rw [G09] at h
  cases hx:x==n with
  |true=>
   rw [hx] at h
   have e:x=n:=eq_of_beq hx
   cases h;subst e
   exact G0C
  |false=>rw [hx] at h;exact G0G _ (jby h)
theorem jff {α:Type}: ∀ {l:List (Str×α)} {x:Str} {c:α},(x,c)∈l-> ∃c',l.lookup x=some c'
 |(n,k)::r,x,c,h=>by
  rw [G09]
  cases hx:x==n with
  |true=>exact⟨_,rfl⟩
  |false=>
   rcases G0r.mp h with e|h
   ·cases e;simp at hx
   ·exact jff h
theorem jfg {l:List (Str×NameKind)} {env:Env} {x:Str} {c:Addr} (h:(jbT l env []).lookup x=some c):env.cells.lookup x=some c:=
 jet l [] (λ_ z=>nomatch z) (x,c) (jby h)
theorem jiI {l:List (Str×NameKind)} {env:Env} {x:Str} {c:Addr} (hc:env.cells.lookup x=some c) (h:(x,NameKind.free)∈l):(jbT l env []).lookup x=some c:=by
 obtain⟨c',e⟩:=jff (jev hc l [] h)
 have:=jfg e
 rw [hc] at this;cases this
 exact e
theorem jb7 {κ:Type} {f:Str×κ->Str×κ} {g:Str->κ->κ} (hf: ∀n k,f (n,k)=(n,g n k)) (x:Str): ∀l:List (Str×κ),(l.map f).lookup x=(l.lookup x).map (g x)
 | []=>rfl
 |(n,k)::r=>by
  rw [G0w,hf,G09,G09,jb7 hf x r]
  cases same:x==n with
  |false=>rfl
  |true=>rw [eq_of_beq same];rfl
theorem jaS {env:Env} {names:List (Str×NameKind)} {x:Str} {k:NameKind} (found:
 (names.map λ(n,k)=>if (k==NameKind.free&&env.scope.kind== .function&&env.kindOf n==some .cell) then (n,NameKind.cell) else (n,k)).lookup x=some k):
  names.lookup x=some k\/names.lookup x=some .free:=by
 rw [jb7 (g:=λn k=>if (k==NameKind.free&&env.scope.kind== .function&&env.kindOf n==some .cell) then .cell else k) (λn k=>by dsimp only;split<;>rfl)] at found
 obtain⟨k0,was,now⟩:=G2b.mp found
 split at now
 ·rename_i c
  simp only [G0T,G2G] at c
  exact .inr (by rw [was,c.1.1])
 ·exact .inl (by rw [was,now])
theorem jbv: ∀ (names:List (Str×NameKind)) (n:Nat) (acc:List (Str×Addr)) (p:Str×Addr),p∈cellsFrom n names acc->p∈acc\/(n<=p.2/\(p.1,NameKind.cell)∈names)
 | [],_,_,_,h=> .inl h
 |(x,k)::r,n,acc,p,h=>by
  unfold cellsFrom at h
  split at h
  ·rename_i hk
   rcases jbv r (n+1) _ p h with z|⟨z1,z2⟩
   ·rcases G0r.mp z with e|z
    ·subst e
     have:k= .cell:=by simpa using hk
     subst this
     exact .inr ⟨G0k _,G0C⟩
    ·exact .inl z
   ·exact .inr ⟨by omega,G0G _ z2⟩
  ·rcases jbv r n acc p h with z|⟨z1,z2⟩
   ·exact .inl z
   ·exact .inr ⟨z1,G0G _ z2⟩
theorem jaJ: ∀ (names:List (Str×NameKind)) (n:Nat) (acc:List (Str×Addr)),cellsFrom n names acc=cellsFrom n names []++acc
 | [],_,_=>rfl
 |(x,k)::r,n,acc=>by
  unfold cellsFrom
  split
  ·rw [jaJ r (n+1) ((x,n)::acc),jaJ r (n+1) [(x,n)],G0l];rfl
  ·exact jaJ r n acc
theorem jdK {α:Type} (l l' :List (Str×α)) (x:Str):(l++l').lookup x=(match l.lookup x with|some c=>some c|none=>l'.lookup x):=by
 induction l with
 |nil=>rfl
 |cons p l ih=>
  obtain⟨n,c⟩:=p
  rw [G0z,G09,G09]
  cases x==n with
  |true=>rfl
  |false=>exact ih
theorem jc2 {env:Env} {names:List (Str×NameKind)} {x:Str} (here:names.lookup x=some .cell):
 (names.map λ(n,k)=>if (k==NameKind.free&&env.scope.kind== .function&&env.kindOf n==some .cell) then (n,NameKind.cell) else (n,k)).lookup x=some .cell:=by
 rw [jb7 (g:=λn k=>if (k==NameKind.free&&env.scope.kind== .function&&env.kindOf n==some .cell) then .cell else k) (λn k=>by dsimp only;split<;>rfl),here]
 simp
section
variable {M:Model} {A:Around} {E:Value->Shared->Prop} {s:Shared}
theorem jhL (h:Heap) (names:List (Str×NameKind)):(∀n c,(n,c)∈cellsFrom h.objs.size names []->(pushCells h names).IsCell c none/\h.objs.size<=c)/\(cellsFrom h.objs.size names []).Pairwise λx y=>x.2≠y.2:=
 have laid:=cellsFrom_ok names h h.objs.size [] ⟨by simp,.nil⟩ (G0k _)
 ⟨laid.empty,laid.apart⟩
theorem jf7 {scope:Scope} {globals:Addr} {closure:List (Str×Addr)} {qual:Str} {func:Option Addr} {code:Value} {outer:Env} {builtins:Addr} {Q:Env->Shared->Prop}
 (hQ: ∀h',h'.Ns s.heap.objs.size (λ_=>none)->(∀b o,s.heap.get? b=some o->h'.get? b=some o)->(∀n c,(n,c)∈cellsFrom (s.heap.objs.size+1) scope.names []->h'.IsCell c none/\s.heap.objs.size+1<=c)->
  ((cellsFrom (s.heap.objs.size+1) scope.names []).Pairwise λx y=>x.2≠y.2)->
  Q (newEnv scope s.heap.objs.size globals (cellsFrom (s.heap.objs.size+1) scope.names closure) qual func code (some outer) builtins) {s with heap:=h'}):
 wpAny M A (newFunctionEnv scope globals closure [] qual func code (some outer) builtins) Q E s:=by
 have names:=jhL (s.heap.push {cls:= .type "dict",data:= .dict #[]}) scope.names
 have first:(s.heap.push {cls:= .type "dict",data:= .dict #[]}).objs.size=s.heap.objs.size+1:=Heap.size_push ..
 rw [first] at names
 unfold newFunctionEnv
 refine wpAny_bind (wpAny_alloc (wpAny_bind (wpAny_layCells _ (λn k cs=>rfl) _ _ _ _ ?_)))
 simp only [Option.isSome_some,if_true]
 rw [first]
 exact wpAny_bind (G0j (G0j (hQ _ ((Heap.Ns.new _ _).keeps (pushCells_keeps _ _)) (λb o here=>pushCells_keeps _ _ b o (G0f _ here)) names.1 names.2)))
end
def jaH (X:Cx) (scope:Scope) (C:Addr):List (Str×Addr):=cellsFrom (C+1) scope.names (jbT scope.names X.env [])
def jfx (X:Cx) (scope:Scope) (C:Addr) (s₀:Shared) (H₀:Hp) (ex:List Addr):Cx:=
 {X with s₀:=s₀,H₀:=H₀,env:=compEnvC scope (jaH X scope C) C X.env,outer:=X.stack,ex:=ex,fn:=λx=>scope.names.lookup x==some .cell,pn:= [],xe:=λ_ _=>False}
def jau (X:Cx) (scope:Scope) (X' :Cx):Prop:= ∃C s₀ H₀ ex,X' =jfx X scope C s₀ H₀ ex
structure BlockOk (X:Cx) (scope:Scope) (js:List Nat):Prop where
 kind:scope.kind= .function
 locs: ∀p∈scope.names,p.2= .local->scope.names.lookup p.1=some .local
 cels: ∀p∈scope.names,p.2= .cell->scope.names.lookup p.1=some .cell
 free: ∀p∈scope.names,p.2= .free->X.env.scope.names.lookup p.1=some .cell\/X.env.scope.names.lookup p.1=some .free
 js: ∀ (i:Nat) (x:Str),X.N[i]? =some x->(scope.names.lookup x=some .local\/scope.names.lookup x=some .cell)->i∈js
theorem jb0 {X:Cx} {scope:Scope} {js:List Nat} (S:BlockOk X scope js) {C:Addr} {x:Str} {c:Addr} (h:(jaH X scope C).lookup x=some c):
 (scope.names.lookup x≠some .cell/\X.env.cells.lookup x=some c)\/(scope.names.lookup x=some .cell/\(x,c)∈cellsFrom (C+1) scope.names []):=by
 unfold jaH at h
 rw [jaJ,jdK] at h
 cases e:(cellsFrom (C+1) scope.names []).lookup x with
 |some d=>
  rw [e] at h
  cases h
  have m:=jby e
  rcases jbv _ _ _ _ m with z|⟨_,z⟩
  ·exact absurd z (by simp)
  ·exact .inr ⟨S.cels _ z rfl,m⟩
 |none=>
  rw [e] at h
  refine .inl ⟨λz=> ?_,jfg h⟩
  obtain⟨d,hd⟩:=jcz (sc:=scope) (n:=C+1) z
  rw [e] at hd;cases hd
theorem jdX {X:Cx} {scope:Scope} {js:List Nat} (S:BlockOk X scope js) {C:Addr} {x:Str} {c:Addr} (hc:X.env.cells.lookup x=some c) (h:(x,NameKind.free)∈scope.names) (hn:scope.names.lookup x≠some .cell):(jaH X scope C).lookup x=some c:=by
 unfold jaH
 rw [jaJ,jdK]
 cases e:(cellsFrom (C+1) scope.names []).lookup x with
 |some d=>
  rcases jbv _ _ _ _ (jby e) with z|⟨_,z⟩
  ·exact absurd z (by simp)
  ·exact absurd (S.cels _ z rfl) hn
 |none=>exact jiI hc h
def jbu:List Nat->St->St
 | [],σ=>σ
 |j::js,σ=>jbu js (σ.set j none)
theorem jfh: ∀ (js:List Nat) (σ:St),(jbu js σ).length=σ.length
 | [],_=>rfl
 |j::js,σ=>by rw [jbu,jfh js];simp
theorem jew: ∀ (js:List Nat) (σ:St) (i:Nat) (v:V),(jbu js σ)[i]? =some (some v)->σ[i]? =some (some v)
 | [],_,_,_,h=>h
 |j::js,σ,i,v,h=>by
  have h1:=jew js _ i v h
  by_cases e:i=j
  ·subst e
   rw [G2H] at h1
   simp at h1
  ·rwa [G1k (Ne.symm e)] at h1
theorem jbg: ∀ (js:List Nat) (σ:St) (i:Nat) (v:V),i∈js-> ¬ (jbu js σ)[i]? =some (some v)
 |j::js,σ,i,v,hm,h=>by
  rcases G0r.mp hm with rfl|hm
  ·have h1:=jew js _ i v h
   rw [G2H] at h1
   simp at h1
  ·exact jbg js _ i v hm h
theorem HOk.track {P:Program} {w:World} {H:Hp} {h:Heap} {a:Addr} {o:HO} (x:HOk P w H h) (hn:H a=none) (new:ObjOk P w (upd H a o) h a o):HOk P w (upd H a o) h:=λb u e=>by
 by_cases hb:b=a
 ·subst hb;rw [jaj] at e;cases e;exact new
 ·rw [jak hb] at e
  exact(x b u e).stay (λc v _ q=>q) (λc q=>by rw [jak (jal q hn)];exact q) λc xs q=>by rw [jak (jal q hn)];exact q
def Agree (σ σ' :St):Prop:=σ'.length=σ.length/\ ∀ (i:Nat) (v:V),σ[i]? =some (some v)->σ'[i]? =some (some v)
theorem Agree.set {σ:St} {j:Nat} (v:V) (h: ∀u,¬σ[j]? =some (some u)):Agree σ (σ.set j (some v)):=⟨by simp,λi u q=>by
 by_cases e:j=i
 ·subst e;exact absurd q (h u)
 ·rw [G1k e];exact q⟩
theorem Agree.trans {a b c:St} (x:Agree a b) (y:Agree b c):Agree a c:=⟨y.1.trans x.1,λi v h=>y.2 i v (x.2 i v h)⟩
def PTs (X:Cx) (ifs:List Expr) (t:TT):Prop:=
 ∀ (pins:List (Addr×Obj)) (s:Shared) (σ:St) (H:Hp) (Q:Bool->Hp->Prop),Inv X pins σ H s->t σ H Q->
  wpAny (model X.prog X.w) X.A (forIn ifs true λc r=>if r=true then do let ok <-isTrue c X.env (eval c X.env);pure (ForInStep.yield ok) else pure (ForInStep.yield r)) (TP X pins σ Q) X.xe s
def jqH:TT:=λ_ H Q=>Q true H
theorem jlL {X:Cx}:PTs X [] jqH:=λ_ _ _ H _ I h=>wpAny_tests_nil ⟨H,I,h⟩
theorem jlM {X:Cx} {c:Expr} {t:TT} (hc:PT X c t):PTs X [c] t:=λpins s σ H Q I h=>wpAny_tests_one (hc pins s σ H Q I h)
def jfi (iter target:Expr) (ifs:List Expr) (it:Value) (env:Env) (act:Sem Unit) (nxt:Code):Sem PySem.Fin:=do
 standAt iter.pos
 match <-pyNext it with
 |none=>pure (.done .next)
 |some v=>
  letOwnedTupleGo target it v
  assign target env v
  let mut ok:=true
  for c in ifs do
   if ok then ok <-isTrue c env (eval c env)
  if ok then act
  again nxt
theorem jhd {prog:Program} {w:World} {A:Around} {R:Result->Shared->Prop} {s:Shared} {elt target iter:Expr} {gens:List Comprehension} {scope:Scope} {pos:Pos} {ifs:List Expr} {depth:Nat} {it acc:Value} {env:Env} {act:Sem Unit} (I:Nat->Shared->Prop)
 (heq:compTurn (.ListComp elt gens scope pos) depth it acc env=jfi iter target ifs it env act (.compLoop (.ListComp elt gens scope pos) depth it acc env))
 (turn: ∀n s,I n s->wpAny (model prog w) A (pyNext it) (λr s₁=>match r with
  |none=>R (.ok .next) s₁
  |some v=>wpAny (model prog w) A (letOwnedTupleGo target it v) (λ_ s₁=>wpAny (model prog w) A (assign target env v) (λ_ s₂=>
   wpAny (model prog w) A (forIn ifs true λc r=>if r=true then do let ok <-PySem.isTrue c env (eval c env);pure (ForInStep.yield ok) else pure (ForInStep.yield r)) (λok s₃=>
    if ok=true then wpAny (model prog w) A act (λ_ s₅=> ∃m,m<n/\I m s₅) (λ_ _=>False) s₃
    else ∃m,m<n/\I m s₃) (λ_ _=>False) s₂) (λ_ _=>False) s₁) (λ_ _=>False) s₁) (λ_ _=>False) s)
 (n:Nat) (h:I n s):
 codeAny (model prog w) A (.compLoop (.ListComp elt gens scope pos) depth it acc env) R s:=by
 refine codeAny_loop rfl I (λn s hI=> ?_) n h
 show wpAny _ A ((compTurn (.ListComp elt gens scope pos) depth it acc env).onRaise (λx=>do noteFrame x env;theTreesLotGoes x)) _ _ s
 refine wpAny_noted ?_
 rw [heq]
 unfold jfi
 refine wpAny_bind (G2v (wpAny_bind (G0D (turn n s hI) (λr s₁ h₁=> ?_) λ_ _ h' =>h'.elim)))
 cases r with
 |none=>exact G0j h₁
 |some v=>
  refine wpAny_bind (G0D h₁ (λ_ s₁ h₁=> ?_) λ_ _ h' =>h'.elim)
  refine wpAny_bind (G0D h₁ (λ_ s₂ h₂=>wpAny_bind (G0D h₂ (λok s₃ h₃=> ?_) λ_ _ h' =>h'.elim)) λ_ _ h' =>h'.elim)
  cases ok with
  |false=>exact G0j ⟨rfl,h₃⟩
  |true=>exact wpAny_bind (G0D h₃ (λ_ s₅ h₅=>G0j ⟨rfl,h₅⟩) λ_ _ h' =>h'.elim)
abbrev TM:=St->Hp->List V->(List V->Hp->Prop)->Prop
def jpg (X:Cx) (D:Addr) (act:Sem Unit) (t:TM):Prop:=
 ∀ (pins:List (Addr×Obj)) (s:Shared) (σ:St) (H:Hp) (ys:List V) (us:List Value) (Q:List V->Hp->Prop),Inv X ([(D,LCg.lst us)]++pins) σ H s->Vals ys us->ys.length<=sizeLine->D∈X.ex->(∀x c,X.env.cells.lookup x=some c->c≠D)->(∀p∈X.pn++pins,p.1≠D)->t σ H ys Q->
  wpAny (model X.prog X.w) X.A act (λ_ s' => ∃ys' us' H',Vals ys' us' /\Inv X ([(D,LCg.lst us')]++pins) σ H' s' /\Q ys' H') (λ_ _=>False) s
def jnL (te:TE):TM:=λσ H ys Q=>te σ H λy H1=>Q (ys++ [y]) H1
def jfj (elt:Expr) (env:Env) (acc:Value):Sem Unit:=do let _ <-call (.builtin "list.append") [acc,<-eval elt env]
theorem jfy {X:Cx} {D:Addr} {elt:Expr} {te:TE} (hx:X.xe=λ_ _=>False) (he:PE X elt te):jpg X D (jfj elt X.env (.ref D)) (jnL te):=by
 intro pins s σ H ys us Q I hv hz DX cD pD h
 have q:=he _ s σ H _ I h
 rw [hx] at q
 unfold jfj
 refine wpAny_bind (G0D q (λy s1 ⟨yv,H1,I1,r1,q1⟩=> ?_) λ_ _ z=>z)
 have zD:=I1.pin (D,LCg.lst us) (G0t _ (G08 _ G0C))
 refine wpAny_bind (append_at (its:=us.toArray) (n:=us.length) zD.1 (λh11 hs11 hD11=>G0j ?_) (by rw [G0u,<-hv.length];exact hz))
 have I10u:Inv X pins σ H1 s1:=I1.pins_of λp hp=>I1.pin p (G0t _ (G0t _ hp))
 have I11:Inv X pins σ H1 {s1 with heap:=h11}:=I10u.turned (t' :=s1.toks) (it:=D) (λb o hb e=>hs11.extBut b o hb e) zD.2.1 zD.2.2.1 (.inl DX) cD pD
 have eD:h11.get? D=some (LCg.lst (us++ [y])):=by rw [hD11];exact congrArg some (LCg.lst_snoc us y)
 refine⟨ys++ [yv],us++ [y],H1,hv.append (.cons r1 .nil),I11.pins_of λp hp=> ?_,q1⟩
 rcases G0p.mp hp with z|z
 ·rcases G0g.mp z with rfl
  exact⟨eD,zD.2.1,zD.2.2.1,zD.2.2.2.1,λv z=>by cases z⟩
 ·exact I11.pin p (G0t _ z)
def jph (js : List Nat) (wi : TI) (g : TG) (tt : TT) (tm : TM) : TE := fun σ H Q => wi σ H fun J H1 =>
  ∃ W : Nat → Nat → List V → Hp → Prop, (∃ m, W 0 m [] H1) ∧ ∀ i m ys H, W i m ys H → ys.length ≤ sizeLine ∧
    ((J.stop i H ∧ ∀ p, H p = none → Q (.ref p) (upd H p (.lst ys))) ∨
     (J.go i H ∧ ∀ x H', J.yld i H x H' → g x (jbu js σ) H' fun σ2 H2 => Agree (jbu js σ) σ2 ∧ tt σ2 H2 fun b H3 =>
        if b = true then tm σ2 H3 ys fun ys' H4 => ∃ m', m' < m ∧ W (i + 1) m' ys' H4 else ∃ m', m' < m ∧ W (i + 1) m' ys H3))
def tLC (js:List Nat) (wi:TI) (g:TG) (tt:TT) (te:TE):TE:=jph js wi g tt (jnL te)
theorem jk1 {X:Cx} {e elt iter tg:Expr} {ifs:List Expr} {rest:List Comprehension} {scope:Scope} {pos pos0:Pos} {js:List Nat} {wi:TI} {g:TG} {tt:TT} {tm:TM} {use:Option (Value->Sem Unit)} {Qv:Value->Shared->Prop} (hc:X.calm=true) (S:BlockOk X scope js) (hi:PI X tg iter wi)
 (he0:e= .ListComp elt (⟨tg,iter,ifs,0⟩::rest) scope pos)
 (hg: ∀X',jau X scope X' ->PG X' tg g) (ht: ∀X',jau X scope X' ->PTs X' ifs tt)
 (act:Env->Value->Sem Unit) (hturn: ∀it acc env,compTurn e 0 it acc env=jfi iter tg ifs it env (act env acc) (.compLoop e 0 it acc env)) (he: ∀X',jau X scope X' -> ∀D,jpg X' D (act X'.env (.ref D)) tm)
 (hs: ∀x,foldedSetIterable iter X.env x=pure x) {pins:List (Addr×Obj)} {s:Shared} {σ:St} {H:Hp} {Q:VK} (I:Inv X pins σ H s) (h:jph js wi g tt tm σ H Q)
 (fin: ∀ (D C:Addr) (H' :Hp) (s' :Shared) (m:Str->Option Value),s'.heap.Ns C m->(∀h',Heap.SameBut C s'.heap h' ->Inv X pins σ H' {s' with heap:=h'})->H' C=none->C≠X.env.locals->C ∉ X.fs->X.s₀.heap.objs.size<=C->(∀x c,X.env.cells.lookup x=some c->c≠C)->(∀p∈X.pn++pins,p.1≠C)->
  Q (.ref D) H' ->compPost (model X.prog X.w) X.A X.xe use Qv (.ref D) C (.ok .next) s'):
 wpAny (model X.prog X.w) X.A (comprehension e scope X.env pos0 (newList []) false (eval iter X.env) use) Qv X.xe s:=by
 have hclos:=jfw (scope:=scope) (env:=X.env) (λp hp e=>I.ok.has p.1 (S.free p hp e))
 subst he0
 refine wpAny_comprehension_free (use:=use) rfl hs hclos S.kind S.locs (thn (hi pins s σ H _ I h) λv s1 h1=>thn h1 λitv s2 h2=> ?_)
 obtain⟨it,fp,tn,J,H2,e,I2,T,st2,f2,W,⟨m0,w0⟩,turn⟩:=h2
 subst e
 refine G1q (jf7 (λh₁ hns₁ hkp₁ hcl₁ hap₁=> ?_))
 dsimp only at hns₁ hkp₁ hcl₁ hap₁ ⊢
 generalize hD:s2.heap.objs.size=D
 generalize hH3:s2.heap.push {cls:= .type "list",dict:=none,data:= .seq ([]:List Value).toArray}=h3 at hns₁ hkp₁ hcl₁ hap₁ ⊢
 have sz3:h3.objs.size=D+1:=by rw [<-hH3,Heap.size_push,hD]
 have up3: ∀b o,s2.heap.get? b=some o->h3.get? b=some o:=λb o e=>hH3 ▸ G0f _ e
 have I3:Inv X pins σ H2 {s2 with heap:=h3}:=I2.kept (t' :=s2.toks) up3
 have hD3:h3.get? D=some (LCg.lst []):=by rw [<-hH3,<-hD];exact G0S _ rfl
 have fD:jic X pins H2 D:=I2.fpOk (by rw [hD];exact G0k _) (I2.hok.fresh (by rw [hD];exact G0k _))
 have obf: ∀b∈fp,∃o,s2.heap.get? b=some o/\ ∀v,o.data≠ .cell v:=T.obj _ _ st2
 have ltf: ∀b∈fp,b<D:=λb hb=>by obtain⟨o,e,_⟩:=obf b hb;rw [<-hD];exact G0A e
 generalize hC:h3.objs.size=C at hns₁ hcl₁ hap₁ ⊢
 have CD:C=D+1:=hC.symm.trans sz3
 have upC: ∀b o,h3.get? b=some o->h₁.get? b=some o:=hkp₁
 generalize hX:jfx X scope C {s2 with heap:=h3} H2 (fp++ [D])=X'
 have iX:jau X scope X' :=⟨C,_,_,_,hX.symm⟩
 have hf: ∀b∈fp++ [D],jic X pins H2 b:=λb hb=>(G0p.mp hb).elim (f2 b) λz=>by rw [G0g.mp z];exact fD
 have cl: ∀x c,(jaH X scope C).lookup x=some c->X.env.cells.lookup x=some c\/C<c:=λx c e=>by
  rcases jb0 S e with ⟨_,z⟩|⟨_,z⟩
  ·exact .inl z
  ·exact .inr (G2I (hcl₁ x c z).2)
 have olt: ∀x c,X.env.cells.lookup x=some c->c<C:=λx c e=>by obtain⟨v,q⟩:=I3.cell x c e;rw [<-hC];exact q.lt
 have ltb: ∀b∈fp++ [D],b<C:=λb hb=>(G0p.mp hb).elim (λz=>by have:=ltf b z;rw [CD];exact Nat.lt_succ_of_lt this) λz=>by rw [G0g.mp z,CD];exact G19 _
 have okX:X'.Ok:=by
  subst hX
  refine⟨I.ok.mod,S.kind,I.ok.glob,I.ok.blt,G3F hC,λx y c e1 e2=> ?_,λx hx=> ?_,λx c z e=> ?_,I.ok.hd,I.ok.frames,.inl rfl,λb hb=>⟨G0Q (ltb b hb),λx c e=>(cl x c e).elim (λz=>(hf b hb).2.2.2.2.1 x c z) λz=>G1J (G2R (ltb b hb) z)⟩,
   I3.bs,G01 I.ok.bsz I3.sz,λb o e hb=> ?_,λb hb z=> ?_,I3.stack,I3.stkFree⟩
  ·rcases jb0 S e1 with ⟨_,z1⟩|⟨_,z1⟩<;>rcases jb0 S e2 with ⟨_,z2⟩|⟨_,z2⟩
   ·exact I.ok.inj x y c z1 z2
   ·exact absurd (G2R (olt x c z1) (G2I (hcl₁ y c z2).2)) (G1n _)
   ·exact absurd (G2R (olt y c z2) (G2I (hcl₁ x c z1).2)) (G1n _)
   ·exact name_of_addr hap₁ z1 z2
  ·have own:scope.names.lookup x=some .cell-> ∃c,(jaH X scope C).lookup x=some c:=λz=>by
    obtain⟨c,hc⟩:=jcz (sc:=scope) (n:=C+1) z
    exact⟨c,by unfold jaH;rw [jaJ,jdK,hc]⟩
   have shr:scope.names.lookup x=some .free-> ∃c,(jaH X scope C).lookup x=some c:=λz=>by
    have fm:=jby z
    obtain⟨c,hc⟩:=I.ok.has x (S.free _ fm rfl)
    exact⟨c,jdX S hc fm (by rw [z];decide)⟩
   rcases hx with hx|hx
   ·rcases jaS (env:=X.env) hx with z|z
    ·exact own z
    ·exact shr z
   ·rcases jaS (env:=X.env) hx with z|z<;>exact shr z
  ·have z' :scope.names.lookup x=some .cell:=by
    have z2:(scope.names.lookup x==some NameKind.cell)=true:=z
    simpa using z2
   rcases jb0 S e with ⟨n,_⟩|⟨_,m⟩
   ·exact absurd z' n
   ·show h3.objs.size<=c
    rw [hC];exact G0W (G2I (hcl₁ x c m).2)
  ·rcases (hf b hb).2.2.2.1 with z|z
   ·exact I.ok.noex b o e z
   ·exact absurd (G0B (G0A e) (G01 I.ok.bsz z)) (G1n _)
  ·rcases G0r.mp (I.stkSub b z) with q|q
   ·exact(hf b hb).2.1 q
   ·exact(hf b hb).2.2.1 q
 -- the block's first state
 have I4:Inv X' [(D,LCg.lst [])] (jbu js σ) H2 {s2 with heap:=h₁}:=by
  subst hX
  have hDC:D≠C:=by rw [CD];exact G0Q (G19 _)
  refine⟨okX,rfl,I2.bare,Un.kept (λb u e=>upC b u e),⟨_,hns₁,λi x v e1 e2 e3=> ?_⟩,λx c e=> ?_,I3.hok.fresh (G3F hC),λx c e=>(cl x c e).elim (λz=>I2.freeC x c z) (λz=>I3.hok.fresh (by rw [<-hC] at z;exact G0W z)),λp hp=> ?_,I3.hok.kept upC,(jfh js σ).trans I2.len⟩
  ·have fr:scope.names.lookup x=some .free:=by
    rcases e3 with e3|e3|e3
    ·rcases jaS (env:=X.env) e3 with z|z
     ·exact absurd e2 (jbg js σ i v (S.js i x e1 (.inl z)))
     ·exact z
    ·rcases jaS (env:=X.env) e3 with z|z
     ·exact absurd e2 (jbg js σ i v (S.js i x e1 (.inr z)))
     ·exact z
    ·rcases jaS (env:=X.env) e3 with z|z<;>exact z
   have fm:=jby fr
   obtain⟨m,hm,hl⟩:=I2.loc
   have vis:=S.free _ fm rfl
   obtain⟨u,r,lk⟩:=hl i x v e1 (jew js σ i v e2) (.inr vis)
   have kd:(relabel scope X.env).names.lookup x=some .cell\/(relabel scope X.env).names.lookup x=some .free:=by
    rcases e3 with e3|e3|e3
    ·rcases jaS (env:=X.env) e3 with z|z
     ·rw [fr] at z;cases z
     ·exfalso
      have z2:=e3
      -- a local's kind stays
      exact absurd e2 (jbg js σ i v (S.js i x e1 (.inl (by
       have q: ∀ (l:List (Str×NameKind)),(l.map λ(n,k)=>if (k==NameKind.free&&X.env.scope.kind== .function&&X.env.kindOf n==some .cell) then (n,NameKind.cell) else (n,k)).lookup x=some .local->l.lookup x=some .local:=by
        intro l
        induction l with
        |nil=>intro h;simp at h
        |cons p l ih=>
         obtain⟨n,k'⟩:=p
         intro h
         have h' :List.lookup x ((if (k' ==NameKind.free&&X.env.scope.kind== .function&&X.env.kindOf n==some .cell)=true then (n,NameKind.cell) else (n,k'))::(l.map λ(n,k)=>if (k==NameKind.free&&X.env.scope.kind== .function&&X.env.kindOf n==some .cell) then (n,NameKind.cell) else (n,k)))=some .local:=h
         rw [G09]
         by_cases hc:(k' ==NameKind.free&&X.env.scope.kind== .function&&X.env.kindOf n==some .cell)=true
         ·rw [if_pos hc,G09] at h'
          cases hx:x==n with
          |true=>rw [hx] at h';cases h'
          |false=>rw [hx] at h';exact ih h'
         ·rw [if_neg hc,G09] at h'
          cases hx:x==n with
          |true=>rw [hx] at h';exact h'
          |false=>rw [hx] at h';exact ih h'
       exact q _ z2))))
    ·exact .inl e3
    ·exact .inr e3
   rcases lk with ⟨k,_⟩|⟨_,c,hc,hcell⟩
   ·have k' :X.env.scope.names.lookup x=some .local:=k
    rcases vis with z|z<;>(rw [k'] at z;cases z)
   ·refine⟨u,r,.inr ⟨kd,c,jdX S hc fm (by rw [fr];decide),?_⟩⟩
    obtain⟨o,ho,hd⟩:=hcell
    exact⟨o,upC _ _ (up3 _ _ ho),hd⟩
  ·rcases jb0 S e with ⟨_,z⟩|⟨_,z⟩
   ·obtain⟨v,o,ho,hd⟩:=I2.cell x c z
    exact⟨v,o,upC _ _ (up3 _ _ ho),hd⟩
   ·exact⟨none,(hcl₁ x c z).1⟩
  ·have hp' :p∈ [(D,LCg.lst [])]:=hp
   rcases G0g.mp hp' with rfl
   refine⟨upC _ _ hD3,fD.1,hDC,λz=> ?_,λv z=>by cases z⟩
   rcases G0r.mp (I.stkSub D z) with q|q
   ·exact fD.2.1 q
   ·exact fD.2.2.1 q
 have st4:tn 0 h₁:=T.keep _ _ _ st2 λb _ o e=>upC _ _ (up3 _ _ e)
 have eA:X'.A=X.A:=by rw [<-hX];rfl
 have eP:X'.prog=X.prog:=by rw [<-hX];rfl
 have eW:X'.w=X.w:=by rw [<-hX];rfl
 have eK:X'.K=X.K:=by rw [<-hX];rfl
 have eC:X'.calm=true:=by rw [<-hX];exact hc
 have eV:X'.env=compEnvC scope (jaH X scope C) C X.env:=by rw [<-hX];rfl
 have eE:X'.xe=λ_ _=>False:=by rw [<-hX];rfl
 -- what stays true of the iterator's objects
 have stat: ∀ {us:List Value} {H' :Hp},(∀b∈fp,H' b=none)-> ∀b∈fp,jic X' [(D,LCg.lst us)] H' b:=λ{us H'} hn b hb=>by
  have q:=hf b (G08 _ hb)
  subst hX
  refine⟨hn b hb,G0Q (ltb b (G08 _ hb)),λz=> ?_,.inl (G08 _ hb),λx c e=>(cl x c e).elim (λz=>q.2.2.2.2.1 x c z) (λz=>G1J (G2R (ltb b (G08 _ hb)) z)),λp hp=> ?_⟩
  ·rcases G0r.mp (I.stkSub b z) with r|r
   ·exact q.2.1 r
   ·exact q.2.2.1 r
  ·have hp' :p∈ [(D,LCg.lst us)]:=hp
   rcases G0g.mp hp' with rfl
   exact G1J (ltf b hb)
 have loop: ∀s₃:Shared,s₃= {s2 with heap:=h₁}->
  codeAny (model X.prog X.w) X.A (.compLoop (.ListComp elt (⟨tg,iter,ifs,0⟩::rest) scope pos) 0 (.ref it) (.ref D) (compEnvC scope (jaH X scope C) C X.env))
   (compPost (model X.prog X.w) X.A X.xe use Qv (.ref D) C) s₃:=by
  rintro s₃ rfl
  refine jhd (act:=act (compEnvC scope (jaH X scope C) C X.env) (.ref D)) (λn s' => ∃i ys us H',Vals ys us/\Inv X' [(D,LCg.lst us)] (jbu js σ) H' s' /\tn i s'.heap/\(∀b∈fp,H' b=none)/\W i n ys H') (hturn _ _ _) ?_ m0
   ⟨0,[],[],H2,.nil,I4,st4,λb hb=>(f2 b hb).1,w0⟩
  rintro n s5 ⟨i,ys,us,H5,hv5,I5,st5,fr5,w5⟩
  obtain⟨hz,tr⟩:=turn i n ys H5 w5
  rcases tr with ⟨stop,qn⟩|⟨go,step⟩
  ·have q:=T.done X' eP eW eK eC i _ s5 _ H5 (λ_ _=>False) I5 (stat fr5) st5 stop
   rw [eA] at q
   refine G0D q (λr s6 ⟨hr,I6⟩=> ?_) λ_ _ z=>z
   subst hr
   obtain⟨m6,hm6,_⟩:=I6.loc
   rw [eV] at hm6
   have zD:=I6.pin (D,LCg.lst us) (G0t _ G0C)
   have HD:H5 D=none:=zD.2.1
   have oD:s6.heap.get? D=some (LCg.lst us):=zD.1
   have hDC:D≠C:=by rw [CD];exact G0Q (G19 _)
   have HC:H5 C=none:=by have z:=I6.free;rw [eV] at z;exact z
   have B:=I6.base
   have os6:s6.os=s2.os:=by have z:=I6.os;rw [<-hX] at z;exact z
   have Bu:Un (frs X.stack) (fp++ [D]) H2 H5 h3 s6.heap:=by rw [<-hX] at B;exact B
   have neC: ∀b o,h3.get? b=some o->b≠C:=λb o e=>by rw [<-hC];exact G0Q (G0A e)
   refine fin D C (upd H5 D (.lst ys)) s6 m6 hm6 (λh' hs' => ?_) (by rw [jak (Ne.symm hDC)];exact HC) ?_ ?_ ?_ (λx c e=>G0Q (olt x c e)) ?_ (qn D HD)
   ·have hk5:HOk X.prog X.w H5 h' :=λb u e=>by
     have z:=I6.hok b u e
     rw [eP,eW] at z
     refine z.stay (λc v hc q=>hs'.extBut c v ?_ q) (λ_ q=>q) λ_ _ q=>q
     rcases hc with rfl|hc
     ·exact jal e HC
     ·exact jal hc HC
    refine I3.call' (ch:=fp++ [D]) os6 ⟨λb o e n hb hx=> ?_,λb o e n hb hx=> ?_,λb o e n hx=> ?_,λb o e hx=> ?_,λb xs e=> ?_,λb o u e=> ?_,λb ps e=> ?_⟩ (hk5.track HD ?_) I6.bare λb hb=> ?_
    ·exact hs'.extBut b o (neC b o e) (Bu.keep b o e n hb hx)
    ·obtain⟨sl,q⟩:=Bu.slot b o e n hb hx
     exact⟨sl,hs'.extBut b _ (neC b o e) q⟩
    ·rw [jak λz=>hx (by rw [z];exact G0t _ G0C)]
     exact Bu.free b o e n hx
    ·obtain⟨o',q⟩:=Bu.there b o e hx
     exact⟨o',hs'.extBut b _ (neC b o e) q⟩
    ·have z:=Bu.tups b xs e
     rw [jak (jal z HD)];exact z
    ·have z:=Bu.frzs b o u e
     rw [jak (jal z HD)];exact z
    ·obtain⟨more,z⟩:=Bu.tbls b ps e
     exact⟨more,by rw [jak (jal z HD)];exact z⟩
    ·exact⟨hz,us,us.length,hv5,hs'.extBut D _ hDC oD⟩
    ·have q:=hf b hb
     exact⟨q.2.2.2.1,q.2.1,q.2.2.2.2.1,q.2.2.2.2.2⟩
   ·rw [<-hC];exact G1J I3.lt
   ·exact I3.nofs (G3F hC)
   ·rw [<-hC];exact I3.sz
   ·intro p hp
    have:=(I3.pin p hp).1
    rw [<-hC];exact G0Q (G0A this)
  ·have q:=T.item X' eP eW eK eC i _ s5 _ H5 (λ_ _=>False) I5 (stat fr5) st5 go
   rw [eA] at q
   refine G0D q (λr s6 ⟨u,hr,h6⟩=> ?_) λ_ _ z=>z
   subst hr
   refine G0D h6 (λ_ s7 ⟨x,H7,I7,r7,y7,st7,fr7⟩=> ?_) λ_ _ z=>z
   have I7' :=I7.pinned (stat fr7) (T.obj _ _ st7)
   have q7:=hg X' iX _ s7 _ H7 x u _ I7' r7 (step x H7 y7)
   rw [eP,eW,eA,eV,eE] at q7
   refine G0D q7 (λ_ s8 ⟨σ8,H8,I8,ag8,q8⟩=> ?_) λ_ _ z=>z
   have q9:=ht X' iX _ s8 σ8 H8 _ I8 q8
   rw [eP,eW,eA,eV,eE] at q9
   refine G0D q9 (λok s9 ⟨H9,I9,q9⟩=> ?_) λ_ _ z=>z
   have keepT: ∀ {σ' :St} {H' :Hp} {s' :Shared} {us:List Value},Inv X' ([(D,LCg.lst us)]++jcP fp s7.heap) σ' H' s' ->tn (i+1) s'.heap/\ ∀b∈fp,H' b=none:=λ{σ' H' s' us} I' =>
    ⟨T.keep _ _ _ st7 λb hb o e=>(I'.pin (b,o) (G0t _ (G0t _ (jbx hb e)))).1,λb hb=>by
     obtain⟨o,e,_⟩:=T.obj _ _ st7 b hb
     exact(I'.pin (b,o) (G0t _ (G0t _ (jbx hb e)))).2.1⟩
   cases ok with
   |false=>
    have q9: ∃m',m' <n/\W (i+1) m' ys H9:=q9
    obtain⟨m',hm,w9⟩:=q9
    obtain⟨t9,f9⟩:=keepT I9
    exact⟨m',hm,i+1,ys,us,H9,hv5,(I9.unpinned).weak ag8.1.symm ag8.2,t9,f9,w9⟩
   |true=>
    have q9:tm σ8 H9 ys λys' H4=> ∃m',m' <n/\W (i+1) m' ys' H4:=q9
    have DX:D∈X'.ex:=by rw [<-hX];exact G0t _ G0C
    have pD: ∀p∈X'.pn++jcP fp s7.heap,p.1≠D:=λp hp=>by
     have hp' :p∈jcP fp s7.heap:=by rw [<-hX] at hp;simpa [jfx] using hp
     exact G0Q (ltf _ (jek hp').1)
    have cD: ∀x c,X'.env.cells.lookup x=some c->c≠D:=λx c e=>by
     rw [eV] at e
     exact(cl x c e).elim (λz=>fD.2.2.2.2.1 x c z) λz=>G1J (G2R (by rw [CD];exact G19 _) z)
    have q10:=he X' iX D _ s9 σ8 H9 ys us _ I9 hv5 hz DX cD pD q9
    rw [eP,eW,eA,eV] at q10
    show wpAny _ _ (act _ _) _ _ s9
    refine G0D q10 (λ_ s10 ⟨ys',us',H10,hv10,I10,m',hm,w10⟩=> ?_) λ_ _ z=>z
    obtain⟨t10,f10⟩:=keepT I10
    exact⟨m',hm,i+1,ys',us',H10,hv10,(I10.unpinned).weak ag8.1.symm ag8.2,t10,f10,w10⟩
 exact codeAny_compStart_list (loop _ rfl) (T.self X.A 0 _ _ _ st4 (loop _ rfl))
theorem jnM {X:Cx} {elt iter tg:Expr} {ifs:List Expr} {scope:Scope} {pos:Pos} {js:List Nat} {wi:TI} {g:TG} {tt:TT} {te:TE} (hc:X.calm=true) (S:BlockOk X scope js) (hi:PI X tg iter wi)
 (hg: ∀X',jau X scope X' ->PG X' tg g) (ht: ∀X',jau X scope X' ->PTs X' ifs tt) (he: ∀X',jau X scope X' ->PE X' elt te)
 (hs: ∀x,foldedSetIterable iter X.env x=pure x:=by intro _;rfl):PE X (.ListComp elt [⟨tg,iter,ifs,0⟩] scope pos) (tLC js wi g tt te):=by
 intro pins s σ H Q I h
 rw [eval_ListComp]
 exact jk1 (use:=none) hc S hi rfl hg ht (jfj elt) (λ_ _ _=>rfl) (λX' hX D=>jfy (by obtain⟨_,_,_,_,rfl⟩:=hX;rfl) (he X' hX)) hs I h
  λD C H' s' m hn hk _ _ _ _ _ _ q=>⟨m,hn,λh' hs' =>⟨.ref D,H',hk h' hs',rfl,q⟩⟩
theorem jiJ {X:Cx} {e elt iter tg:Expr} {ifs:List Expr} {rest:List Comprehension} {scope:Scope} {pos pos' spos:Pos} {x:Str} {js:List Nat} {wi:TI} {g g' :TG} {tt:TT} {tm:TM} (hc:X.calm=true) (S:BlockOk X scope js) (hi:PI X tg iter wi)
 (he0:e= .ListComp elt (⟨tg,iter,ifs,0⟩::rest) scope pos) (hg: ∀X',jau X scope X' ->PG X' tg g) (ht: ∀X',jau X scope X' ->PTs X' ifs tt)
 (act:Env->Value->Sem Unit) (hturn: ∀it acc env,compTurn e 0 it acc env=jfi iter tg ifs it env (act env acc) (.compLoop e 0 it acc env)) (he: ∀X',jau X scope X' -> ∀D,jpg X' D (act X'.env (.ref D)) tm)
 (hg' :PG X (.Name x pos') g') (hsw:swapsWith e (some (.Name x pos')) spos.line X.env=pure true)
 (hs: ∀x,foldedSetIterable iter X.env x=pure x):PS X (.Assign [.Name x pos'] e spos) (jkW (jph js wi g tt tm) g'):=by
 intro pins s σ H Dn I h
 rw [exec_Assign_Name_used _ _ _ _ hsw]
 refine wpAny_bind (G2v (wpAny_bind ?_))
 subst he0
 rw [arm_evalThenUse_ListComp]
 show wpAny _ X.A (do let _ <-comprehension (.ListComp elt (⟨tg,iter,ifs,0⟩::rest) scope pos) scope X.env _ (newList []) false (eval iter X.env) (some (assign (.Name x pos') X.env))) _ _ s
 refine wpAny_bind (G0D (jk1 (use:=some (assign (.Name x pos') X.env)) (Qv:=λ_ s' =>SP X pins Dn .next s') hc S hi rfl hg ht act hturn he hs I h ?_) (λ_ s' hq=>G0j (G0j hq)) λ_ _ e=>e)
 intro D C H' s' m hn hk HC nL nf sz ncell npin q
 show wpAny _ X.A (assign (.Name x pos') X.env (.ref D)) _ _ s'
 obtain⟨o,es,ep,ho,hd,hr⟩:=id hn
 have I1:Inv X pins σ H' s' :=hk s'.heap (Heap.SameBut.refl ..)
 have I2:Inv X (pins++ [(C,o)]) σ H' s' :=I1.pins_of λp hp=>by
  rcases G0p.mp hp with z|z
  ·exact I1.pin p (G0t _ z)
  ·rcases G0g.mp z with rfl
   exact⟨ho,HC,nL,nf,λv z=>by rw [hd] at z;cases z⟩
 refine G0D (hg' _ s' σ H' (.ref D) (.ref D) _ I2 rfl q) (λ_ s3 ⟨σ3,H3,I3,q3⟩=> ?_) λ_ _ z=>z
 have pC:=I3.pin (C,o) (G0t _ (G0t _ G0C))
 refine⟨m,hn.at' λo' e' => ?_,λh' hs' => ?_⟩
 ·rw [ho] at e';cases e';exact pC.1
 ·exact⟨σ3,H3,(I3.unpinned).turned (t' :=s3.toks) (it:=C) (λb o hb e=>hs'.extBut b o hb e) pC.2.1 nL (.inr sz) ncell npin,q3⟩
theorem jkd {X:Cx} {elt iter tg:Expr} {ifs:List Expr} {scope:Scope} {pos pos' spos:Pos} {x:Str} {js:List Nat} {wi:TI} {g g' :TG} {tt:TT} {te:TE} (hc:X.calm=true) (S:BlockOk X scope js) (hi:PI X tg iter wi)
 (hg: ∀X',jau X scope X' ->PG X' tg g) (ht: ∀X',jau X scope X' ->PTs X' ifs tt) (he: ∀X',jau X scope X' ->PE X' elt te)
 (hg' :PG X (.Name x pos') g') (hsw:swapsWith (.ListComp elt [⟨tg,iter,ifs,0⟩] scope pos) (some (.Name x pos')) spos.line X.env=pure true)
 (hs: ∀x,foldedSetIterable iter X.env x=pure x:=by intro _;rfl):PS X (.Assign [.Name x pos'] (.ListComp elt [⟨tg,iter,ifs,0⟩] scope pos) spos) (jkW (tLC js wi g tt te) g'):=
 jiJ hc S hi rfl hg ht (jfj elt) (λ_ _ _=>rfl) (λX' hX D=>jfy (by obtain⟨_,_,_,_,rfl⟩:=hX;rfl) (he X' hX)) hg' hsw hs
def jiK (e iter:Expr) (env:Env) (acc:Value):Sem Unit:=do
 let x <-eval iter env
 standAt iter.pos
 let x <-foldedSetIterable iter env x
 let _ <-runOwn (.compStart e 1 (<-holding [x] (pyIter x)) acc env) env
def mIn (wi : TI) (g : TG) (tt : TT) (tm : TM) : TM := fun σ H ys Q => wi σ H fun J H1 =>
  ∃ W : Nat → Nat → List V → Hp → Prop, (∃ m, W 0 m ys H1) ∧ ∀ i m ys H, W i m ys H → ys.length ≤ sizeLine ∧
    ((J.stop i H ∧ Q ys H) ∨
     (J.go i H ∧ ∀ x H', J.yld i H x H' → g x σ H' fun σ2 H2 => Agree σ σ2 ∧ tt σ2 H2 fun b H3 =>
        if b = true then tm σ2 H3 ys fun ys' H4 => ∃ m', m' < m ∧ W (i + 1) m' ys' H4 else ∃ m', m' < m ∧ W (i + 1) m' ys H3))
theorem jdn {prog:Program} {w:World} {A:Around} {R:Result->Shared->Prop} {s:Shared} {elt:Expr} {g0 g1:Comprehension} {scope:Scope} {pos:Pos} {it acc:Value} {env:Env} (ha:g1.is_async=0)
 (h0:codeAny (model prog w) A (.compLoop (.ListComp elt [g0,g1] scope pos) 1 it acc env) R s)
 (h:wpAny (model prog w) A (pyIter it) (λit' s' =>codeAny (model prog w) A (.compLoop (.ListComp elt [g0,g1] scope pos) 1 it' acc env) R s')
  (notedBy (model prog w) A env λx s' =>R (.error x) s') s):
 codeAny (model prog w) A (.compStart (.ListComp elt [g0,g1] scope pos) 1 it acc env) R s:=by
 obtain⟨tg,iter,ifs,as⟩:=g1
 cases (show as=0 from ha)
 refine codeAny_of_tree (wpAny_notedAt ?_)
 obtain⟨hp,g,d,tk,os⟩:=s
 unfold compStart
 wp_walk
 refine wpAny_askSetting ?_
 split
 ·exact G0j ⟨rfl,h0⟩
 ·exact wpAny_bind (G3k (wpAny_bind (G2v (wpAny_bind (G0D h (λ_ _ on=>G0j ⟨rfl,on⟩) λ_ _ x=>x)))))
theorem jlN {X:Cx} {D:Addr} {elt iter tg:Expr} {g0:Comprehension} {ifs:List Expr} {scope:Scope} {pos:Pos} {wi:TI} {g:TG} {tt:TT} {te:TE} (hc:X.calm=true) (hx:X.xe=λ_ _=>False)
 (hi:PI X tg iter wi) (hg:PG X tg g) (ht:PTs X ifs tt) (he:PE X elt te) (hs: ∀x,foldedSetIterable iter X.env x=pure x):
 jpg X D (jiK (.ListComp elt [g0,⟨tg,iter,ifs,0⟩] scope pos) iter X.env (.ref D)) (mIn wi g tt (jnL te)):=by
 intro pins s σ H ys us Q I hv hz DX cD pD h
 have q:=hi _ s σ H _ I h
 rw [hx] at q
 unfold jiK
 refine wpAny_bind (G0D q (λv s1 h1=>wpAny_bind (G2v (wpAny_bind (wpAny_of_eq (hs v) (wpAny_bind (G1w (G0D h1 (λitv s2 h2=> ?_) λ_ _ z=>z))))))) λ_ _ z=>z)
 obtain⟨it,fp,tn,J,H2,e,I2,T,st2,f2,W,⟨m0,w0⟩,turn⟩:=h2
 subst e
 refine wpAny_bind (wpAny_runOwn ?_)
 have neD: ∀b∈fp,b≠D:=λb hb=>by
  have z:=(f2 b hb).2.2.2.2.2 (D,LCg.lst us) (G0t _ (G08 _ G0C))
  exact Ne.symm z
 have stat: ∀ {us' :List Value} {H' :Hp},(∀b∈fp,H' b=none)-> ∀b∈fp,jic X ([(D,LCg.lst us')]++pins) H' b:=λ{us' H'} hn b hb=>by
  have q:=f2 b hb
  refine⟨hn b hb,q.2.1,q.2.2.1,q.2.2.2.1,q.2.2.2.2.1,λp hp=> ?_⟩
  rcases G0p.mp hp with z|z
  ·exact q.2.2.2.2.2 p (G08 _ z)
  ·rcases G0p.mp z with z|z
   ·rcases G0g.mp z with rfl
    exact Ne.symm (neD b hb)
   ·exact q.2.2.2.2.2 p (G0t _ (G0t _ z))
 have loop:codeAny (model X.prog X.w) X.A (.compLoop (.ListComp elt [g0,⟨tg,iter,ifs,0⟩] scope pos) 1 (.ref it) (.ref D) X.env)
  (λr s' =>match r with| .ok f=>wpAny (model X.prog X.w) X.A (pure ()) (λ_ s' => ∃ys' us' H',Vals ys' us' /\Inv X ([(D,LCg.lst us')]++pins) σ H' s' /\Q ys' H') (λ_ _=>False) s' | .error e=>cameBackBy (model X.prog X.w) X.A X.env (λ_ _=>False) e s') s2:=by
  refine jhd (act:=jfj elt X.env (.ref D)) (λn s' => ∃i ys us H',Vals ys us/\Inv X ([(D,LCg.lst us)]++pins) σ H' s' /\tn i s'.heap/\(∀b∈fp,H' b=none)/\W i n ys H') rfl ?_ m0
   ⟨0,ys,us,H2,hv,I2,st2,λb hb=>(f2 b hb).1,w0⟩
  rintro n s5 ⟨i,ys,us,H5,hv5,I5,st5,fr5,w5⟩
  obtain⟨hz,tr⟩:=turn i n ys H5 w5
  rcases tr with ⟨stop,qn⟩|⟨go,step⟩
  ·refine G0D (T.done X rfl rfl rfl hc i _ s5 _ H5 (λ_ _=>False) I5 (stat fr5) st5 stop) (λr s6 ⟨hr,I6⟩=> ?_) λ_ _ z=>z
   subst hr
   exact G0j ⟨ys,us,H5,hv5,I6,qn⟩
  ·refine G0D (T.item X rfl rfl rfl hc i _ s5 _ H5 (λ_ _=>False) I5 (stat fr5) st5 go) (λr s6 ⟨u,hr,h6⟩=> ?_) λ_ _ z=>z
   subst hr
   refine G0D h6 (λ_ s7 ⟨x,H7,I7,r7,y7,st7,fr7⟩=> ?_) λ_ _ z=>z
   have I7' :=I7.pinned (stat fr7) (T.obj _ _ st7)
   have q7:=hg _ s7 _ H7 x u _ I7' r7 (step x H7 y7)
   rw [hx] at q7
   refine G0D q7 (λ_ s8 ⟨σ8,H8,I8,ag8,q8⟩=> ?_) λ_ _ z=>z
   have q9:=ht _ s8 σ8 H8 _ I8 q8
   rw [hx] at q9
   refine G0D q9 (λok s9 ⟨H9,I9,q9⟩=> ?_) λ_ _ z=>z
   have keepT: ∀ {σ' :St} {H' :Hp} {s' :Shared} {us:List Value},Inv X (([(D,LCg.lst us)]++pins)++jcP fp s7.heap) σ' H' s' ->tn (i+1) s'.heap/\ ∀b∈fp,H' b=none:=λ{σ' H' s' us} I' =>
    ⟨T.keep _ _ _ st7 λb hb o e=>(I'.pin (b,o) (G0t _ (G0t _ (jbx hb e)))).1,λb hb=>by
     obtain⟨o,e,_⟩:=T.obj _ _ st7 b hb
     exact(I'.pin (b,o) (G0t _ (G0t _ (jbx hb e)))).2.1⟩
   cases ok with
   |false=>
    have q9: ∃m',m' <n/\W (i+1) m' ys H9:=q9
    obtain⟨m',hm,w9⟩:=q9
    obtain⟨t9,f9⟩:=keepT I9
    exact⟨m',hm,i+1,ys,us,H9,hv5,(I9.unpinned).weak ag8.1.symm ag8.2,t9,f9,w9⟩
   |true=>
    have q9:jnL te σ8 H9 ys λys' H4=> ∃m',m' <n/\W (i+1) m' ys' H4:=q9
    have pD' : ∀p∈X.pn++(pins++jcP fp s7.heap),p.1≠D:=λp hp=>by
     rcases G0p.mp hp with z|z
     ·exact pD p (G08 _ z)
     ·rcases G0p.mp z with z|z
      ·exact pD p (G0t _ z)
      ·exact neD _ (jek z).1
    rw [G0l] at I9
    have q10:=jfy (D:=D) hx he (pins++jcP fp s7.heap) s9 σ8 H9 ys us _ I9 hv5 hz DX cD pD' q9
    show wpAny _ _ (jfj _ _ _) _ _ s9
    refine G0D q10 (λ_ s10 ⟨ys',us',H10,hv10,I10,m',hm,w10⟩=> ?_) λ_ _ z=>z
    rw [<-G0l] at I10
    obtain⟨t10,f10⟩:=keepT I10
    exact⟨m',hm,i+1,ys',us',H10,hv10,(I10.unpinned).weak ag8.1.symm ag8.2,t10,f10,w10⟩
 exact jdn rfl loop (T.self X.A 0 _ _ _ st2 loop)
theorem jlO (elt iter tg iter' tg' :Expr) (ifs ifs' :List Expr) (scope:Scope) (pos:Pos) (it acc:Value) (env:Env):
 compTurn (.ListComp elt [⟨tg,iter,ifs,0⟩,⟨tg',iter',ifs',0⟩] scope pos) 0 it acc env=
  jfi iter tg ifs it env (jiK (.ListComp elt [⟨tg,iter,ifs,0⟩,⟨tg',iter',ifs',0⟩] scope pos) iter' env acc) (.compLoop (.ListComp elt [⟨tg,iter,ifs,0⟩,⟨tg',iter',ifs',0⟩] scope pos) 0 it acc env):=by
 unfold jfi jiK
 simp only [bind_assoc,pure_bind]
 rfl
def jqI (js:List Nat) (wi:TI) (g:TG) (tt:TT) (wi' :TI) (g' :TG) (tt' :TT) (te:TE):TE:=jph js wi g tt (mIn wi' g' tt' (jnL te))
inductive D where
 |non|bl (b:Bool)|int (i:Int)|str (x:Str)|tup (ds:List D)|lst (a:Addr)|dic (x:Str) (i:Int)|dni (x:Int) (i:Int)|scr (ns:List Int)|exc (C:Addr)|fn (a:Addr)
def Scr (K:PySem.W.Frag) (H:Hp) (a:Addr) (ns:List Int):Prop:=
 (∃o,H a=some (.frz o (.lst (ns.map V.int))))\/
  ∃ (o:Obj) (its:Array Value) (n:Nat),K.lookup a=some o/\o.cls= .type "list" /\o.dict=none/\o.data= .seq its n/\its.size<=sizeLine/\Vals (ns.map V.int) its.toList
theorem Scr.sq {K:PySem.W.Frag} {H:Hp} {a:Addr} {ns:List Int} (h:Scr K H a ns):SqL K H a (ns.map V.int):=h.elim (λz=> .inl (.inr z)) .inr
mutual
def RelD (K:PySem.W.Frag) (H:Hp):D->V->Prop
 | .non,v=>v= .non
 | .bl b,v=>v= .bl b
 | .int i,v=>v= .int i
 | .str x,v=>v= .str x
 | .tup ds,v=> ∃a vs,v= .ref a/\H a=some (.tup vs)/\RelDs K H ds vs
 | .lst a,v=>v= .ref a/\ ∃vs,H a=some (.lst vs)
 | .dic x i,v=> ∃a,v= .ref a/\H a=some (.dK [(Sum.inr x,V.int i)])
 | .dni x i,v=> ∃a,v= .ref a/\H a=some (.dK [(Sum.inl x,V.int i)])
 | .scr ns,v=> ∃a,v= .ref a/\Scr K H a ns
 | .exc C,v=> ∃x o vs,v= .ref x/\H x=some (.frz o (.own 0))/\o.cls= .ref C/\o.data= .fields vs
 | .fn a,v=>v= .ref a/\PySem.W.keepIn K (.ref a)=true
def RelDs (K:PySem.W.Frag) (H:Hp):List D->List V->Prop
 | [],vs=>vs= []
 |d::ds,vs=> ∃v r,vs=v::r/\RelD K H d v/\RelDs K H ds r
end
structure Kept (H H' :Hp):Prop where
 tup: ∀a xs,H a=some (.tup xs)->H' a=some (.tup xs)
 lst: ∀a xs,H a=some (.lst xs)-> ∃ys,H' a=some (.lst ys)
 dic: ∀a k,H a=some (.dK k)->H' a=some (.dK k)
 frz: ∀a o u,H a=some (.frz o u)->H' a=some (.frz o u)
theorem Kept.refl (H:Hp):Kept H H:=⟨λ_ _ h=>h,λ_ xs h=>⟨xs,h⟩,λ_ _ h=>h,λ_ _ _ h=>h⟩
theorem Kept.trans {A B C:Hp} (x:Kept A B) (y:Kept B C):Kept A C:=
 ⟨λa xs h=>y.tup a xs (x.tup a xs h),λa xs h=>let ⟨_,e⟩:=x.lst a xs h;y.lst a _ e,λa k h=>y.dic a k (x.dic a k h),λa o u h=>y.frz a o u (x.frz a o u h)⟩
theorem Kept.new {H:Hp} {p:Addr} {o:HO} (h:H p=none):Kept H (upd H p o):=
 ⟨λa xs e=>by rw [jak (jal e h)];exact e,λa xs e=>⟨xs,by rw [jak (jal e h)];exact e⟩,λa k e=>by rw [jak (jal e h)];exact e,λa o u e=>by rw [jak (jal e h)];exact e⟩
theorem Kept.put {H:Hp} {p:Addr} {xs ys:List V} (h:H p=some (.lst xs)):Kept H (upd H p (.lst ys)):=
 ⟨λa zs e=>by rw [jak (jih e h (by intro z;cases z))];exact e,λa zs e=>by
  by_cases q:a=p
  ·subst q;exact⟨ys,jaj⟩
  ·exact⟨zs,by rw [jak q];exact e⟩,
  λa k e=>by rw [jak (jih e h (by intro z;cases z))];exact e,λa o u e=>by rw [jak (jih e h (by intro z;cases z))];exact e⟩
mutual
theorem RelD.mono {K:PySem.W.Frag} {H H' :Hp} (k:Kept H H'): ∀ {d:D} {v:V},RelD K H d v->RelD K H' d v
 | .non,_,h=>h
 | .bl _,_,h=>h
 | .int _,_,h=>h
 | .str _,_,h=>h
 | .tup ds,v,h=>by
  obtain⟨a,vs,e,h1,h2⟩:=(show ∃a vs,v= .ref a/\H a=some (.tup vs)/\RelDs K H ds vs from h)
  exact⟨a,vs,e,k.tup _ _ h1,RelDs.mono k h2⟩
 | .lst a,v,h=>by
  obtain⟨e,vs,h1⟩:=(show v= .ref a/\ ∃vs,H a=some (.lst vs) from h)
  exact⟨e,k.lst _ _ h1⟩
 | .dic x i,v,h=>by
  obtain⟨a,e,h1⟩:=(show ∃a,v= .ref a/\H a=some (.dK [(Sum.inr x,V.int i)]) from h)
  exact⟨a,e,k.dic _ _ h1⟩
 | .dni x i,v,h=>by
  obtain⟨a,e,h1⟩:=(show ∃a,v= .ref a/\H a=some (.dK [(Sum.inl x,V.int i)]) from h)
  exact⟨a,e,k.dic _ _ h1⟩
 | .scr ns,v,h=>by
  obtain⟨a,e,h1⟩:=(show ∃a,v= .ref a/\Scr K H a ns from h)
  exact⟨a,e,h1.elim (λ⟨o,z⟩=> .inl ⟨o,k.frz _ _ _ z⟩) .inr⟩
 | .exc C,v,h=>by
  obtain⟨x,o,vs,e,h1,r⟩:=(show ∃x o vs,v= .ref x/\H x=some (.frz o (.own 0))/\o.cls= .ref C/\o.data= .fields vs from h)
  exact⟨x,o,vs,e,k.frz _ _ _ h1,r⟩
 | .fn a,v,h=>h
theorem RelDs.mono {K:PySem.W.Frag} {H H' :Hp} (k:Kept H H'): ∀ {ds:List D} {vs:List V},RelDs K H ds vs->RelDs K H' ds vs
 | [],_,h=>h
 |d::ds,vs,h=>by
  obtain⟨v,r,e,h1,h2⟩:=(show ∃v r,vs=v::r/\RelD K H d v/\RelDs K H ds r from h)
  exact⟨v,r,e,RelD.mono k h1,RelDs.mono k h2⟩
end
section
variable {K:PySem.W.Frag} {H:Hp}
theorem RelDs.nil:RelDs K H [] []:=rfl
theorem RelDs.cons {d:D} {v:V} {ds:List D} {vs:List V} (h:RelD K H d v) (t:RelDs K H ds vs):RelDs K H (d::ds) (v::vs):=⟨v,vs,rfl,h,t⟩
theorem RelDs.length: ∀ {ds:List D} {vs:List V},RelDs K H ds vs->ds.length=vs.length
 | [],_,h=>by cases (show _= [] from h);rfl
 |d::ds,vs,h=>by
  obtain⟨v,r,e,_,h2⟩:=(show ∃v r,vs=v::r/\RelD K H d v/\RelDs K H ds r from h)
  subst e
  simp [RelDs.length h2]
theorem RelDs.append: ∀ {ds es:List D} {vs us:List V},RelDs K H ds vs->RelDs K H es us->RelDs K H (ds++es) (vs++us)
 | [],_,_,_,h,g=>by cases (show _= [] from h);exact g
 |d::ds,es,vs,us,h,g=>by
  obtain⟨v,r,e,h1,h2⟩:=(show ∃v r,vs=v::r/\RelD K H d v/\RelDs K H ds r from h)
  subst e
  exact .cons h1 (RelDs.append h2 g)
theorem RelDs.get: ∀ {ds:List D} {vs:List V} {i:Nat} {d:D},RelDs K H ds vs->ds[i]? =some d-> ∃v,vs[i]? =some v/\RelD K H d v
 |d' ::ds,vs,i,d,h,e=>by
  obtain⟨v,r,q,h1,h2⟩:=(show ∃v r,vs=v::r/\RelD K H d' v/\RelDs K H ds r from h)
  subst q
  cases i with
  |zero=>simp at e;subst e;exact⟨v,rfl,h1⟩
  |succ i=>
   obtain⟨u,q1,q2⟩:=RelDs.get h2 (i:=i) (d:=d) (by simpa using e)
   exact⟨u,by simpa using q1,q2⟩
theorem RelDs.take (n:Nat): ∀ {ds:List D} {vs:List V},RelDs K H ds vs->RelDs K H (ds.take n) (vs.take n):=by
 induction n with
 |zero=>intro ds vs _;exact(rfl:RelDs K H [] [])
 |succ n ih=>
  intro ds vs h
  cases ds with
  |nil=>cases (show vs= [] from h);exact .nil
  |cons d ds=>
   obtain⟨v,r,e,h1,h2⟩:=(show ∃v r,vs=v::r/\RelD K H d v/\RelDs K H ds r from h)
   subst e;exact .cons h1 (ih h2)
theorem RelDs.drop (n:Nat): ∀ {ds:List D} {vs:List V},RelDs K H ds vs->RelDs K H (ds.drop n) (vs.drop n):=by
 induction n with
 |zero=>intro ds vs h;exact h
 |succ n ih=>
  intro ds vs h
  cases ds with
  |nil=>cases (show vs= [] from h);exact .nil
  |cons d ds=>
   obtain⟨v,r,e,h1,h2⟩:=(show ∃v r,vs=v::r/\RelD K H d v/\RelDs K H ds r from h)
   subst e;exact ih h2
theorem RelDs.set {d:D} {v:V} (q:RelD K H d v): ∀ {ds:List D} {vs:List V} (i:Nat),RelDs K H ds vs->RelDs K H (ds.set i d) (vs.set i v)
 | [],_,_,h=>by cases (show _= [] from h);exact .nil
 |e::ds,vs,i,h=>by
  obtain⟨u,r,z,h1,h2⟩:=(show ∃u r,vs=u::r/\RelD K H e u/\RelDs K H ds r from h)
  subst z
  cases i with
  |zero=>exact .cons q h2
  |succ i=>exact .cons h1 (RelDs.set q i h2)
theorem jcA: ∀ns:List Int,RelDs K H (ns.map D.int) (ns.map V.int)
 | []=> .nil
 |n::ns=> .cons rfl (jcA ns)
end
abbrev HD:=Addr->Option (List D)
def jbp (h:HD) (a:Addr) (ds:List D):HD:=λb=>if b=a then some ds else h b
def jdL (h:HD) (a:Addr):HD:=λb=>if b=a then none else h b
theorem jaa {h:HD} {a:Addr} {ds:List D}:jbp h a ds a=some ds:=if_pos rfl
theorem jbA {h:HD} {a b:Addr} {ds:List D} (e:b≠a):jbp h a ds b=h b:=if_neg e
theorem jb1 {h:HD} {a:Addr} {ds:List D} (e:h a=none):jdL (jbp h a ds) a=h:=by
 funext b;unfold jdL jbp;by_cases q:b=a
 ·subst q;simp [e]
 ·simp [q]
def LN:List Str:= ["law","_law_right","_law_words","_law_other_words","_law_many_right","_law_all","_law_told_row","_law_all_right","_law_desk_right","_law_signs_right","_law_lists_right","_law_text_right"]
def TabK (K:PySem.W.Frag) (P:Addr):Prop:= ∃x∈LN,∃c,PySem.W.tabIn K x=some (c,P)
def CodesOk (H:Hp) (ps:Array Value):Prop:=TriplesOk ps.toList/\ ∀pos cv,codeAmong pos ps.toList=some cv-> ∃ (c:Addr) (o:Obj) (vs:Array Value) (q:Str) (t:Tok),cv= .ref c/\H c=some (.frz o (.own 0))/\o.data= .fields vs/\vs[1]? =some (.str q t)
def CTabs (K:PySem.W.Frag) (H:Hp):Prop:= ∀P,TabK K P-> ∃ps,H P=some (.tbl ps)/\CodesOk H ps
theorem CodesOk.mono {H H' :Hp} {ps:Array Value} (k: ∀a o u,H a=some (.frz o u)->H' a=some (.frz o u)) (c:CodesOk H ps):CodesOk H' ps:=
 ⟨c.1,λpos cv e=>let ⟨c',o,vs,q,t,e1,e2,r⟩:=c.2 pos cv e;⟨c',o,vs,q,t,e1,k _ _ _ e2,r⟩⟩
theorem CTabs.mono {K:PySem.W.Frag} {H H' :Hp} (x:CTabs K H) (k: ∀a o u,H a=some (.frz o u)->H' a=some (.frz o u)) (kt: ∀a ps,H a=some (.tbl ps)->H' a=some (.tbl ps)):CTabs K H' :=λP hP=>
 let ⟨ps,e,c⟩:=x P hP;⟨ps,kt _ _ e,c.mono k⟩
theorem CTabs.new {K:PySem.W.Frag} {H:Hp} {p:Addr} {o:HO} (x:CTabs K H) (e:H p=none):CTabs K (upd H p o):=
 x.mono (λa o' u h=>by rw [jak (jal h e)];exact h) λa ps h=>by rw [jak (jal h e)];exact h
theorem CTabs.put {K:PySem.W.Frag} {H:Hp} {p:Addr} {o:HO} {xs:List V} (x:CTabs K H) (e:H p=some (.lst xs)):CTabs K (upd H p o):=
 x.mono (λa o' u h=>by rw [jak (jih h e (by intro z;cases z))];exact h) λa ps h=>by rw [jak (jih h e (by intro z;cases z))];exact h
structure RelH (K:PySem.W.Frag) (h:HD) (H:Hp):Prop where
 ls: ∀a ds,h a=some ds-> ∃vs,H a=some (.lst vs)/\RelDs K H ds vs
 tb:CTabs K H
instance {K:PySem.W.Frag} {h:HD} {H:Hp}:CoeFun (RelH K h H) λ_=> ∀a ds,h a=some ds-> ∃vs,H a=some (.lst vs)/\RelDs K H ds vs:=⟨RelH.ls⟩
def Sub (h h' :HD):Prop:= ∀a ds,h a=some ds->h' a=some ds
theorem Sub.refl (h:HD):Sub h h:=λ_ _ e=>e
theorem Sub.trans {a b c:HD} (x:Sub a b) (y:Sub b c):Sub a c:=λd ds e=>y d ds (x d ds e)
theorem Sub.drop (h:HD) (a:Addr):Sub (jdL h a) h:=λb ds e=>by
 unfold jdL at e;split at e
 ·cases e
 ·exact e
theorem Sub.new {h:HD} {p:Addr} {ds:List D} (e:h p=none):Sub h (jbp h p ds):=λa es q=>by
 rw [jbA];exact q
 intro z;subst z;rw [e] at q;cases q
section
variable {K:PySem.W.Frag} {h h' :HD} {H:Hp}
theorem RelH.sub (r:RelH K h H) (s:Sub h' h):RelH K h' H:=⟨λa ds e=>r a ds (s a ds e),r.tb⟩
theorem RelH.free (r:RelH K h H) {p:Addr} (e:H p=none):h p=none:=by
 cases q:h p with
 |none=>rfl
 |some ds=>obtain⟨vs,z,_⟩:=r p ds q;rw [e] at z;cases z
theorem RelH.new (r:RelH K h H) {p:Addr} {o:HO} (e:H p=none):RelH K h (upd H p o):=⟨λa ds q=>by
 obtain⟨vs,z,w⟩:=r a ds q
 exact⟨vs,by rw [jak (jal z e)];exact z,w.mono (.new e)⟩,r.tb.new e⟩
theorem RelH.newL (r:RelH K h H) {p:Addr} {ds:List D} {vs:List V} (e:H p=none) (q:RelDs K H ds vs):RelH K (jbp h p ds) (upd H p (.lst vs)):=⟨λa es z=>by
 by_cases w:a=p
 ·subst w;rw [jaa] at z;cases z
  exact⟨vs,jaj,q.mono (.new e)⟩
 ·rw [jbA w] at z
  obtain⟨us,z1,z2⟩:=r a es z
  exact⟨us,by rw [jak w];exact z1,z2.mono (.new e)⟩,r.tb.new e⟩
theorem RelH.put (r:RelH K h H) {p:Addr} {ds:List D} {vs us:List V} (e:H p=some (.lst us)) (q:RelDs K H ds vs):RelH K (jbp h p ds) (upd H p (.lst vs)):=⟨λa es z=>by
 by_cases w:a=p
 ·subst w;rw [jaa] at z;cases z
  exact⟨vs,jaj,q.mono (.put e)⟩
 ·rw [jbA w] at z
  obtain⟨us,z1,z2⟩:=r a es z
  exact⟨us,by rw [jak w];exact z1,z2.mono (.put e)⟩,r.tb.put e⟩
end
abbrev SD:=List (Option D)
def RelS (K:PySem.W.Frag) (H:Hp) (σd:SD) (σ:St):Prop:=σd.length=σ.length/\ ∀ (i:Nat) (d:D),σd[i]? =some (some d)-> ∃v,σ[i]? =some (some v)/\RelD K H d v
theorem RelS.mono {K:PySem.W.Frag} {H H' :Hp} {σd:SD} {σ:St} (r:RelS K H σd σ) (k:Kept H H'):RelS K H' σd σ:=⟨r.1,λi d e=>let ⟨v,a,b⟩:=r.2 i d e;⟨v,a,b.mono k⟩⟩
theorem RelS.set {K:PySem.W.Frag} {H:Hp} {σd:SD} {σ:St} {d:D} {v:V} (r:RelS K H σd σ) (q:RelD K H d v) (i:Nat):RelS K H (σd.set i (some d)) (σ.set i (some v)):=⟨by simp [r.1],λj e h=>by
 by_cases z:i=j
 ·subst z
  rw [G2H] at h ⊢
  by_cases hl:i<σd.length
  ·rw [if_pos rfl,if_pos hl] at h
   rw [if_pos rfl,if_pos (by rw [<-r.1];exact hl)]
   cases h;exact⟨v,rfl,q⟩
  ·rw [if_pos rfl,if_neg hl] at h;cases h
 ·rw [G1k z] at h ⊢
  exact r.2 j e h⟩
theorem RelS.clear1 {K:PySem.W.Frag} {H:Hp} {σd:SD} {σ:St} (r:RelS K H σd σ) (i:Nat):RelS K H (σd.set i none) (σ.set i none):=⟨by simp [r.1],λj e h=>by
 by_cases z:i=j
 ·subst z
  rw [G2H] at h
  split at h
  ·split at h<;>cases h
  ·contradiction
 ·rw [G1k z] at h ⊢
  exact r.2 j e h⟩
def jaT:List Nat->SD->SD
 | [],σ=>σ
 |j::js,σ=>jaT js (σ.set j none)
theorem RelS.clear {K:PySem.W.Frag} {H:Hp}: ∀ (js:List Nat) {σd:SD} {σ:St},RelS K H σd σ->RelS K H (jaT js σd) (jbu js σ)
 | [],_,_,r=>r
 |j::js,_,_,r=>RelS.clear js (r.clear1 j)
abbrev KD:=D->HD->Prop
abbrev TED:=SD->HD->KD->Prop
abbrev TTD:=SD->HD->(Bool->HD->Prop)->Prop
abbrev TAD:=SD->HD->(List D->HD->Prop)->Prop
abbrev RD2:=D->D->HD->KD->Prop
abbrev RDn:=List D->HD->KD->Prop
structure EndsD where
 nx:SD->HD->Prop
 rt:KD
 bk:SD->HD->Prop:=λ_ _=>False
 ct:SD->HD->Prop:=λ_ _=>False
abbrev TSD:=EndsD->SD->HD->Prop
abbrev TGD:=D->SD->HD->(SD->HD->Prop)->Prop
def jk2 (K:PySem.W.Frag) (H:Hp) (Qd:KD) (Q:VK):Prop:= ∀d v h' H',Kept H H' ->RelH K h' H' ->RelD K H' d v->Qd d h' ->Q v H'
def LE (K:PySem.W.Frag) (t:TED):TE:=λσ H Q=> ∃σd h Qd,RelS K H σd σ/\RelH K h H/\t σd h Qd/\jk2 K H Qd Q
def LT (K:PySem.W.Frag) (t:TTD):TT:=λσ H Q=> ∃σd h Qd,RelS K H σd σ/\RelH K h H/\t σd h Qd/\ ∀b h' H',Kept H H' ->RelH K h' H' ->Qd b h' ->Q b H'
def LA (K:PySem.W.Frag) (t:TAD):TA:=λσ H Q=> ∃σd h Qd,RelS K H σd σ/\RelH K h H/\t σd h Qd/\ ∀ds vs h' H',Kept H H' ->RelH K h' H' ->RelDs K H' ds vs->Qd ds h' ->Q vs H'
def LR (K:PySem.W.Frag) (f:RD2):R2:=λx y H Q=> ∃dx dy h Qd,RelD K H dx x/\RelD K H dy y/\RelH K h H/\f dx dy h Qd/\jk2 K H Qd Q
def LC (K:PySem.W.Frag) (f:RDn):List V->Hp->VK->Prop:=λxs H Q=> ∃ds h Qd,RelDs K H ds xs/\RelH K h H/\f ds h Qd/\jk2 K H Qd Q
def LG (K:PySem.W.Frag) (g:TGD):TG:=λv σ H Q=> ∃d σd h Qd,RelD K H d v/\RelS K H σd σ/\RelH K h H/\g d σd h Qd/\ ∀σd' h' σ' H',Kept H H' ->RelS K H' σd' σ' ->RelH K h' H' ->Qd σd' h' ->Q σ' H'
def LS (K:PySem.W.Frag) (t:TSD):TS:=λD₀ σ H=> ∃σd h Dd,RelS K H σd σ/\RelH K h H/\t Dd σd h/\
 (∀σd' h' σ' H',Kept H H' ->RelS K H' σd' σ' ->RelH K h' H' ->Dd.nx σd' h' ->D₀.nx σ' H')/\jk2 K H Dd.rt D₀.rt/\
 (∀σd' h' σ' H',Kept H H' ->RelS K H' σd' σ' ->RelH K h' H' ->Dd.bk σd' h' ->D₀.bk σ' H')/\(∀σd' h' σ' H',Kept H H' ->RelS K H' σd' σ' ->RelH K h' H' ->Dd.ct σd' h' ->D₀.ct σ' H')
theorem PE.imp {X:Cx} {e:Expr} {t t' :TE} (h:PE X e t) (i: ∀σ H Q,t' σ H Q->t σ H Q):PE X e t' :=λpins s σ H Q I q=>h pins s σ H Q I (i σ H Q q)
theorem PT.imp {X:Cx} {e:Expr} {t t' :TT} (h:PT X e t) (i: ∀σ H Q,t' σ H Q->t σ H Q):PT X e t' :=λpins s σ H Q I q=>h pins s σ H Q I (i σ H Q q)
theorem PW.imp {X:Cx} {e:Expr} {t t' :TT} (h:PW X e t) (i: ∀σ H Q,t' σ H Q->t σ H Q):PW X e t' :=λwh pins s σ H Q I q=>h wh pins s σ H Q I (i σ H Q q)
theorem PA.imp {X:Cx} {e:List Expr} {t t' :TA} (h:PA X e t) (i: ∀σ H Q,t' σ H Q->t σ H Q):PA X e t' :=λpos pins s σ H Q I q=>h pos pins s σ H Q I (i σ H Q q)
theorem PS.imp {X:Cx} {e:Stmt} {t t' :TS} (h:PS X e t) (i: ∀D σ H,t' D σ H->t D σ H):PS X e t' :=λpins s σ H D I q=>h pins s σ H D I (i D σ H q)
theorem PSs.imp {X:Cx} {e:List Stmt} {t t' :TS} (h:PSs X e t) (i: ∀D σ H,t' D σ H->t D σ H):PSs X e t' :=λpins s σ H D I q=>h pins s σ H D I (i D σ H q)
theorem PG.imp {X:Cx} {e:Expr} {t t' :TG} (h:PG X e t) (i: ∀v σ H Q,t' v σ H Q->t v σ H Q):PG X e t' :=λpins s σ H v u Q I r q=>h pins s σ H v u Q I r (i v σ H Q q)
theorem OpR.imp {X:Cx} {f:Value->Value->Sem Value} {r r' :R2} (h:OpR X f r) (i: ∀x y H Q,r' x y H Q->r x y H Q):OpR X f r' :=λpins s σ H x y v u Q I a b q=>h pins s σ H x y v u Q I a b (i x y H Q q)
theorem CallR.imp {X:Cx} {f:Value} {r r' :List V->Hp->VK->Prop} (h:CallR X f r) (i: ∀xs H Q,r' xs H Q->r xs H Q):CallR X f r' :=λpins s σ H xs us Q I a q=>h pins s σ H xs us Q I a (i xs H Q q)
def jcB (i:Nat):TED:=λσ h Q=> ∃d,σ[i]? =some (some d)/\Q d h
def dC (d:D):TED:=λ_ h Q=>Q d h
def dOp (f:RD2) (ta tb:TED):TED:=λσ h Q=>ta σ h λx h1=>tb σ h1 λy h2=>f x y h2 Q
def jb8:TAD:=λ_ h Q=>Q [] h
def jaK (ta:TED) (tr:TAD):TAD:=λσ h Q=>ta σ h λx h1=>tr σ h1 λxs h2=>Q (x::xs) h2
def jcC (t:TAD):TED:=λσ h Q=>t σ h λds h1=>ds.length<=sizeLine/\Q (.tup ds) h1
def jcH (t:TAD):TED:=λσ h Q=>t σ h λds h1=>ds.length<=sizeLine/\ ∀p,h1 p=none->Q (.lst p) (jbp h1 p ds)
def dCB (r:RDn) (t:TAD):TED:=λσ h Q=>t σ h λds h1=>r ds h1 Q
def jaR (t:TED):TTD:=λσ h Q=>t σ h λx h1=> ∃k,x= .bl k/\Q k h1
def jay (r r' :RD2) (ta tb tc:TED):TED:=λσ h Q=>ta σ h λx h1=>tb σ h1 λy h2=>r x y h2 λz h3=> ∃k,z= .bl k/\
 (if k=true then tc σ h3 λw h4=>r' y w h4 Q else Q (.bl false) h3)
def jaW (t u:TTD):TTD:=λσ h Q=>t σ h λc h1=>if c=true then u σ h1 Q else Q false h1
def jcI (t u:TTD):TTD:=λσ h Q=>t σ h λc h1=>if c=true then Q true h1 else u σ h1 Q
def jaX (t:TTD):TTD:=λσ h Q=>t σ h λc h1=>Q (!c) h1
def jaY (ta tb:TED):TED:=λσ h Q=>ta σ h λx h1=> ∃c,x= .bl c/\if c=true then tb σ h1 Q else Q (.bl false) h1
def jcJ (ta tb:TED):TED:=λσ h Q=>ta σ h λx h1=> ∃c,x= .bl c/\if c=true then Q (.bl true) h1 else tb σ h1 Q
def jaZ (ta:TED):TED:=λσ h Q=>ta σ h λx h1=> ∃c,x= .bl c/\Q (.bl (!c)) h1
def dIf (t:TTD) (ta tb:TED):TED:=λσ h Q=>t σ h λc h1=>if c=true then ta σ h1 Q else tb σ h1 Q
section
variable {K:PySem.W.Frag}
theorem jnN (i:Nat): ∀σ H Q,LE K (jcB i) σ H Q->jqp i σ H Q:=λσ H Q ⟨σd,h,Qd,rs,rh,⟨d,e,q⟩,p⟩=>let ⟨v,e1,e2⟩:=rs.2 i d e;⟨v,e1,p d v h H (.refl H) rh e2 q⟩
theorem jnO {d:D} {v:V} (r: ∀H,RelD K H d v): ∀σ H Q,LE K (dC d) σ H Q->tC v σ H Q:=λσ H Q ⟨σd,h,Qd,rs,rh,q,p⟩=>p d v h H (.refl H) rh (r H) q
theorem jaF {H H1:Hp} {Qd:KD} {Q:VK} (p:jk2 K H Qd Q) (k:Kept H H1):jk2 K H1 Qd Q:=λd v h' H' k' =>p d v h' H' (k.trans k')
theorem LE.bind {ta:TED} {σ:St} {H:Hp} {σd:SD} {h:HD} {kd:KD} {k:VK} (rs:RelS K H σd σ) (rh:RelH K h H) (t:ta σd h kd) (f: ∀d v h' H',Kept H H' ->RelS K H' σd σ->RelH K h' H' ->RelD K H' d v->kd d h' ->k v H'):LE K ta σ H k:=
 ⟨σd,h,kd,rs,rh,t,λd v h' H' kp r1 r2 q=>f d v h' H' kp (rs.mono kp) r1 r2 q⟩
theorem LT.bind {ta:TTD} {σ:St} {H:Hp} {σd:SD} {h:HD} {kd:Bool->HD->Prop} {k:Bool->Hp->Prop} (rs:RelS K H σd σ) (rh:RelH K h H) (t:ta σd h kd) (f: ∀b h' H',Kept H H' ->RelS K H' σd σ->RelH K h' H' ->kd b h' ->k b H'):LT K ta σ H k:=
 ⟨σd,h,kd,rs,rh,t,λb h' H' kp r1 q=>f b h' H' kp (rs.mono kp) r1 q⟩
theorem LA.bind {ta:TAD} {σ:St} {H:Hp} {σd:SD} {h:HD} {kd:List D->HD->Prop} {k:List V->Hp->Prop} (rs:RelS K H σd σ) (rh:RelH K h H) (t:ta σd h kd) (f: ∀ds vs h' H',Kept H H' ->RelS K H' σd σ->RelH K h' H' ->RelDs K H' ds vs->kd ds h' ->k vs H'):LA K ta σ H k:=
 ⟨σd,h,kd,rs,rh,t,λd v h' H' kp r1 r2 q=>f d v h' H' kp (rs.mono kp) r1 r2 q⟩
theorem jlP {f:RD2} {ta tb:TED}: ∀σ H Q,LE K (dOp f ta tb) σ H Q->tOp (LR K f) (LE K ta) (LE K tb) σ H Q:=λσ H Q ⟨σd,h,Qd,rs,rh,t,p⟩=>
 LE.bind rs rh t λd v h1 H1 k1 rs1 rh1 r1 t1=>LE.bind rs1 rh1 t1 λd2 v2 h2 H2 k2 rs2 rh2 r2 t2=>⟨d,d2,h2,Qd,r1.mono k2,r2,rh2,t2,jaF p (k1.trans k2)⟩
theorem jnP: ∀σ H Q,LA K jb8 σ H Q->jpB σ H Q:=λσ H Q ⟨σd,h,Qd,rs,rh,t,p⟩=>p [] [] h H (.refl H) rh rfl t
theorem jlQ {ta:TED} {tr:TAD}: ∀σ H Q,LA K (jaK ta tr) σ H Q->jj5 (LE K ta) (LA K tr) σ H Q:=λσ H Q ⟨σd,h,Qd,rs,rh,t,p⟩=>
 LE.bind rs rh t λd v h1 H1 k1 rs1 rh1 r1 t1=>LA.bind rs1 rh1 t1 λds vs h2 H2 k2 rs2 rh2 r2 t2=>p _ _ h2 H2 (k1.trans k2) rh2 (.cons (r1.mono k2) r2) t2
theorem jnQ {t:TAD}: ∀σ H Q,LE K (jcC t) σ H Q->jqC (LA K t) σ H Q:=λσ H Q ⟨σd,h,Qd,rs,rh,t,p⟩=>
 LA.bind rs rh t λds vs h1 H1 k1 rs1 rh1 r1 ⟨z,q⟩=>⟨by rw [<-r1.length];exact z,λa ha=>p (.tup ds) (.ref a) h1 _ (k1.trans (.new ha)) (rh1.new ha) ⟨a,vs,rfl,jaj,r1.mono (.new ha)⟩ q⟩
theorem jnR {t:TAD}: ∀σ H Q,LE K (jcH t) σ H Q->jqD (LA K t) σ H Q:=λσ H Q ⟨σd,h,Qd,rs,rh,t,p⟩=>
 LA.bind rs rh t λds vs h1 H1 k1 rs1 rh1 r1 ⟨z,q⟩=>⟨by rw [<-r1.length];exact z,λa ha=>p (.lst a) (.ref a) _ _ (k1.trans (.new ha)) (rh1.newL ha r1) ⟨rfl,vs,jaj⟩ (q a (rh1.free ha))⟩
theorem jnS {r:RDn} {t:TAD}: ∀σ H Q,LE K (dCB r t) σ H Q->tCB (LC K r) (LA K t) σ H Q:=λσ H Q ⟨σd,h,Qd,rs,rh,t,p⟩=>
 LA.bind rs rh t λds vs h1 H1 k1 rs1 rh1 r1 q=>⟨ds,h1,Qd,r1,rh1,q,jaF p k1⟩
theorem jiL {t:TED}: ∀σ H Q,LT K (jaR t) σ H Q->jlv (LE K t) σ H Q:=λσ H Q ⟨σd,h,Qd,rs,rh,t,p⟩=>
 LE.bind rs rh t λd v h1 H1 k1 rs1 rh1 r1 ⟨k,e,q⟩=>by subst e;exact⟨k,r1,p k h1 H1 k1 rh1 q⟩
theorem jke {t:TED}: ∀σ H Q,LT K (jaR t) σ H Q->tB (LE K t) σ H Q:=λσ H Q ⟨σd,h,Qd,rs,rh,t,p⟩=>
 LE.bind rs rh t λd v h1 H1 k1 rs1 rh1 r1 ⟨k,e,q⟩=>by subst e;exact⟨k,r1,p k h1 H1 k1 rh1 q⟩
theorem jhe {r r' :RD2} {ta tb tc:TED}: ∀σ H Q,LE K (jay r r' ta tb tc) σ H Q->jis (LR K r) (LR K r') (LE K ta) (LE K tb) (LE K tc) σ H Q:=λσ H Q ⟨σd,h,Qd,rs,rh,t,p⟩=>
 LE.bind rs rh t λd v h1 H1 k1 rs1 rh1 r1 t1=>LE.bind rs1 rh1 t1 λd2 v2 h2 H2 k2 rs2 rh2 r2 t2=>⟨d,d2,h2,_,r1.mono k2,r2,rh2,t2,λd3 v3 h3 H3 k3 rh3 r3 ⟨k,e,q⟩=>by
  subst e
  refine⟨k,r3,?_⟩
  cases k with
  |true=>
   rw [if_pos rfl] at q ⊢
   exact LE.bind (rs2.mono k3) rh3 q λd4 v4 h4 H4 k4 rs4 rh4 r4 t4=>⟨d2,d4,h4,Qd,(r2.mono k3).mono k4,r4,rh4,t4,jaF p (k1.trans (k2.trans (k3.trans k4)))⟩
  |false=>
   rw [if_neg G0s] at q ⊢
   exact p (.bl false) _ h3 H3 (k1.trans (k2.trans k3)) rh3 rfl q⟩
theorem jnT {t u:TTD}: ∀σ H Q,LT K (jaW t u) σ H Q->jqq (LT K t) (LT K u) σ H Q:=λσ H Q ⟨σd,h,Qd,rs,rh,t,p⟩=>
 LT.bind rs rh t λb h1 H1 k1 rs1 rh1 q=>by
  cases b with
  |true=>rw [if_pos rfl] at q ⊢;exact⟨σd,h1,Qd,rs1,rh1,q,λb h' H' k=>p b h' H' (k1.trans k)⟩
  |false=>rw [if_neg G0s] at q ⊢;exact p _ _ _ k1 rh1 q
theorem jpM {t u:TTD}: ∀σ H Q,LT K (jcI t u) σ H Q->tOr (LT K t) (LT K u) σ H Q:=λσ H Q ⟨σd,h,Qd,rs,rh,t,p⟩=>
 LT.bind rs rh t λb h1 H1 k1 rs1 rh1 q=>by
  cases b with
  |true=>rw [if_pos rfl] at q ⊢;exact p _ _ _ k1 rh1 q
  |false=>rw [if_neg G0s] at q ⊢;exact⟨σd,h1,Qd,rs1,rh1,q,λb h' H' k=>p b h' H' (k1.trans k)⟩
theorem jnU {t:TTD}: ∀σ H Q,LT K (jaX t) σ H Q->jqr (LT K t) σ H Q:=λσ H Q ⟨σd,h,Qd,rs,rh,t,p⟩=>
 LT.bind rs rh t λb h1 H1 k1 rs1 rh1 q=>p _ _ _ k1 rh1 q
theorem jnV {ta tb:TED}: ∀σ H Q,LE K (jaY ta tb) σ H Q->jnf (LE K ta) (LE K tb) σ H Q:=λσ H Q ⟨σd,h,Qd,rs,rh,t,p⟩=>
 LE.bind rs rh t λd v h1 H1 k1 rs1 rh1 r1 ⟨c,e,q⟩=>by
  subst e
  refine⟨c,r1,?_⟩
  cases c with
  |true=>rw [if_pos rfl] at q ⊢;exact⟨σd,h1,Qd,rs1,rh1,q,jaF p k1⟩
  |false=>rw [if_neg G0s] at q ⊢;exact p (.bl false) _ _ _ k1 rh1 rfl q
theorem jpN {ta tb:TED}: ∀σ H Q,LE K (jcJ ta tb) σ H Q->jqs (LE K ta) (LE K tb) σ H Q:=λσ H Q ⟨σd,h,Qd,rs,rh,t,p⟩=>
 LE.bind rs rh t λd v h1 H1 k1 rs1 rh1 r1 ⟨c,e,q⟩=>by
  subst e
  refine⟨c,r1,?_⟩
  cases c with
  |true=>rw [if_pos rfl] at q ⊢;exact p (.bl true) _ _ _ k1 rh1 rfl q
  |false=>rw [if_neg G0s] at q ⊢;exact⟨σd,h1,Qd,rs1,rh1,q,jaF p k1⟩
theorem jnW {ta:TED}: ∀σ H Q,LE K (jaZ ta) σ H Q->jng (LE K ta) σ H Q:=λσ H Q ⟨σd,h,Qd,rs,rh,t,p⟩=>
 LE.bind rs rh t λd v h1 H1 k1 rs1 rh1 r1 ⟨c,e,q⟩=>by subst e;exact⟨c,r1,p (.bl (!c)) _ _ _ k1 rh1 rfl q⟩
end
abbrev QE (X:Cx) (e:Expr) (t:TED):Prop:=PE X e (LE X.K t)
abbrev QT (X:Cx) (e:Expr) (t:TTD):Prop:=PT X e (LT X.K t)
abbrev QW (X:Cx) (e:Expr) (t:TTD):Prop:=PW X e (LT X.K t)
abbrev QA (X:Cx) (es:List Expr) (t:TAD):Prop:=PA X es (LA X.K t)
abbrev QS (X:Cx) (s:Stmt) (t:TSD):Prop:=PS X s (LS X.K t)
abbrev QSs (X:Cx) (s:List Stmt) (t:TSD):Prop:=PSs X s (LS X.K t)
abbrev QG (X:Cx) (e:Expr) (t:TGD):Prop:=PG X e (LG X.K t)
abbrev OpQ (X:Cx) (f:Value->Value->Sem Value) (r:RD2):Prop:=OpR X f (LR X.K r)
abbrev jdo (X:Cx) (f:Value) (r:RDn):Prop:=CallR X f (LC X.K r)
section
variable {X:Cx} {a b c e:Expr} {es rest:List Expr} {ta tb tc te:TED} {t u:TAD} {tt tu:TTD} {pos:Pos} {f r r' :RD2}
theorem qv (i:Nat) {x:Str} (hN:X.N[i]? =some x:=by rfl) (hv:Vis X.env.scope x:=by first|exact Or.inl rfl|exact Or.inr (Or.inl rfl)|exact Or.inr (Or.inr rfl)) (hd:(x==("__debug__" :Str))=false:=by decide)
 (hcd:(x==("__classdict__" :Str))=false:=by decide):QE X (.Name x pos) (jcB i):=(jna hN hv hd hcd).imp (jnN i)
theorem jqJ {i:Int} {j:Nat}:QE X (.Constant (.int i) j pos) (dC (.int i)):=pe_int.imp (jnO λ_=>rfl)
theorem qbl {i:Bool} {j:Nat}:QE X (.Constant (.bool i) j pos) (dC (.bl i)):=pe_bl.imp (jnO λ_=>rfl)
theorem jq6 {j:Nat}:QE X (.Constant .none j pos) (dC .non):=pe_non.imp (jnO λ_=>rfl)
theorem jq7 {x:Str} {j:Nat}:QE X (.Constant (.str x) j pos) (dC (.str x)):=pe_str.imp (jnO λ_=>rfl)
theorem jpO {x:Str} {i:Int} {tk:Tok} (hg:Gl X x) (hm:X.mg x=some (.int i tk)) (hd:(x==("__debug__" :Str))=false:=by decide):QE X (.Name x pos) (dC (.int i)):=
 (jik (v:= .int i) hg hm ⟨tk,rfl⟩ hd).imp (jnO λ_=>rfl)
theorem qop {op:Operator} (ho:OpQ X (binaryOp op) f) (ha:QE X a ta) (hb:QE X b tb):QE X (.BinOp a op b pos) (dOp f ta tb):=(jpu ho ha hb).imp jlP
theorem jq8 {op:CmpOp} (ho:OpQ X (compareOp op) f) (ha:QE X a ta) (hb:QE X b tb) (hm:behindInMarks op b=false):QE X (.Compare a [op] [b] pos) (dOp f ta tb):=(jlu ho ha hb hm).imp jlP
theorem jpP {op:CmpOp} (ho:OpQ X (compareOp op) f) (ha:QE X a ta) (hb:QE X b tb) (hm:behindInMarks op b=false):QT X (.Compare a [op] [b] pos) (jaR (dOp f ta tb)):=
 (jlw ho ha hb hm).imp λσ H Q h=>by
  obtain⟨σd,h,Qd,rs,rh,t,p⟩:=jiL (t:=dOp f ta tb) σ H Q h
  exact jlP σ H _ ⟨σd,h,Qd,rs,rh,t,p⟩
theorem jnX {op op' :CmpOp} (ho:OpQ X (compareOp op) r) (ho' :OpQ X (compareOp op') r') (ha:QE X a ta) (hb:QE X b tb) (hc:QE X c tc) (hm:lastMarks [op,op'] [b,c]=false:=by with_unfolding_all rfl):
 QE X (.Compare a [op,op'] [b,c] pos) (jay r r' ta tb tc):=(jj2 ho ho' ha hb hc hm).imp jhe
theorem jlR {op op' :CmpOp} (ho:OpQ X (compareOp op) r) (ho' :OpQ X (compareOp op') r') (ha:QE X a ta) (hb:QE X b tb) (hc:QE X c tc) (hm:lastMarks [op,op'] [b,c]=false:=by with_unfolding_all rfl):
 QT X (.Compare a [op,op'] [b,c] pos) (jaR (jay r r' ta tb tc)):=(jj3 ho ho' ha hb hc hm).imp λσ H Q h=>by
 obtain⟨σd,h,Qd,rs,rh,t,p⟩:=jiL (t:=jay r r' ta tb tc) σ H Q h
 exact jhe σ H _ ⟨σd,h,Qd,rs,rh,t,p⟩
theorem jpQ (ha:QE X a ta) (he: ∀whole,isTrue a X.env whole=(do let v <-whole;standAt a.pos;holding [v] (truthy v)):=by intro _;rfl):QT X a (jaR ta):=(jnb ha he).imp jke
theorem jpR (ha:QT X a tt):QW X (.BoolOp .And [a] pos) tt:=jlo ha
theorem jq9 (ha:QT X a tt):QW X (.BoolOp .Or [a] pos) tt:=jnc ha
theorem jpS (ha:QT X a tt) (hb:QW X (.BoolOp .And (b::rest) pos) tu):QW X (.BoolOp .And (a::b::rest) pos) (jaW tt tu):=(jnd ha hb).imp jnT
theorem jra (ha:QT X a tt) (hb:QW X (.BoolOp .Or (b::rest) pos) tu):QW X (.BoolOp .Or (a::b::rest) pos) (jcI tt tu):=(jpm ha hb).imp jpM
theorem jpT (ha:QT X a tt):QT X (.UnaryOp .Not a pos) (jaX tt):=(jne ha).imp jnU
theorem jrb {op:BoolOp} (ha:QE X a ta):QE X (.BoolOp op [a] pos) ta:=jnh ha
theorem jrc (ha:QE X a ta) (hb:QE X (.BoolOp .And (b::rest) pos) tb):QE X (.BoolOp .And (a::b::rest) pos) (jaY ta tb):=(jni ha hb).imp jnV
theorem qor (ha:QE X a ta) (hb:QE X (.BoolOp .Or (b::rest) pos) tb):QE X (.BoolOp .Or (a::b::rest) pos) (jcJ ta tb):=(jpn ha hb).imp jpN
theorem jrd (ha:QE X a ta):QE X (.UnaryOp .Not a pos) (jaZ ta):=(jnj ha).imp jnW
theorem jnY:QA X [] jb8:=pa_nil.imp jnP
theorem jlS (ha:QE X e te) (hr:QA X es t) (hs:starEach (e::es) X.env=(false,eval e X.env)::starEach es X.env:=by rfl):QA X (e::es) (jaK te t):=(jbS ha hr hs).imp jlQ
theorem jre {k:Nat} (h:QA X es t):QE X (.Tuple es k pos) (jcC t):=(jny h).imp jnQ
theorem jrf (h:QA X es t):QE X (.List es pos) (jcH t):=(jnz h).imp jnR
end
def ja0:TSD:=λD σ h=>D.nx σ h
def jcg (t u:TSD):TSD:=λD σ h=>t {D with nx:=u D} σ h
def ja1 (te:TED):TSD:=λD σ h=>te σ h λ_ h1=>D.nx σ h1
def jcq (te:TED):TSD:=λD σ h=>te σ h D.rt
def jbd:TSD:=λD _ h=>D.rt .non h
def jcK (c:TTD) (t u:TSD):TSD:=λD σ h=>c σ h λb h1=>if b=true then t D σ h1 else u D σ h1
def jcm (i:Nat) (te:TED):TSD:=λD σ h=>te σ h λd h1=>D.nx (σ.set i (some d)) h1
def jcL (te:TED) (g:TGD):TSD:=λD σ h=>te σ h λx h1=>g x σ h1 D.nx
def jcM (i j:Nat) (ta:TAD):TSD:=λD σ h=>ta σ h λds h1=> ∃v w,ds= [v,w]/\D.nx ((σ.set i (some v)).set j (some w)) h1
def gN (i:Nat):TGD:=λd σ h Q=>Q (σ.set i (some d)) h
def gT2 (i j:Nat):TGD:=λd σ h Q=> ∃x y,d= .tup [x,y]/\Q ((σ.set i (some x)).set j (some y)) h
section
variable {K:PySem.W.Frag}
theorem LS.of {t:TSD} {D₀:Ends} {σ:St} {H:Hp} {σd:SD} {h:HD} {Dd:EndsD} (rs:RelS K H σd σ) (rh:RelH K h H) (q:t Dd σd h)
 (nx: ∀σd' h' σ' H',Kept H H' ->RelS K H' σd' σ' ->RelH K h' H' ->Dd.nx σd' h' ->D₀.nx σ' H') (rt:jk2 K H Dd.rt D₀.rt)
 (bk: ∀σd' h' σ' H',Kept H H' ->RelS K H' σd' σ' ->RelH K h' H' ->Dd.bk σd' h' ->D₀.bk σ' H') (ct: ∀σd' h' σ' H',Kept H H' ->RelS K H' σd' σ' ->RelH K h' H' ->Dd.ct σd' h' ->D₀.ct σ' H'):LS K t D₀ σ H:=⟨σd,h,Dd,rs,rh,q,nx,rt,bk,ct⟩
theorem jlT: ∀D σ H,LS K ja0 D σ H->jnk D σ H:=λD σ H ⟨σd,h,Dd,rs,rh,q,nx,_⟩=>nx σd h σ H (.refl H) rs rh q
theorem jnZ {t u:TSD}: ∀D σ H,LS K (jcg t u) D σ H->jqt (LS K t) (LS K u) D σ H:=λD σ H ⟨σd,h,Dd,rs,rh,q,nx,rt,bk,ct⟩=>
 LS.of rs rh q (λσd' h' σ' H' k rs' rh' q' =>⟨σd',h',Dd,rs',rh',q',λa b c d k' =>nx a b c d (k.trans k'),jaF rt k,λa b c d k' =>bk a b c d (k.trans k'),λa b c d k' =>ct a b c d (k.trans k')⟩) rt bk ct
theorem jlU {te:TED}: ∀D σ H,LS K (ja1 te) D σ H->jnl (LE K te) D σ H:=λD σ H ⟨σd,h,Dd,rs,rh,q,nx,rt,bk,ct⟩=>
 LE.bind rs rh q λd v h1 H1 k1 rs1 rh1 r1 q1=>nx _ _ _ _ k1 rs1 rh1 q1
theorem jn0 {te:TED}: ∀D σ H,LS K (jcq te) D σ H->jqu (LE K te) D σ H:=λD σ H ⟨σd,h,Dd,rs,rh,q,nx,rt,bk,ct⟩=>⟨σd,h,Dd.rt,rs,rh,q,rt⟩
theorem jpU {c:TTD} {t u:TSD}: ∀D σ H,LS K (jcK c t u) D σ H->jqv (LT K c) (LS K t) (LS K u) D σ H:=λD σ H ⟨σd,h,Dd,rs,rh,q,nx,rt,bk,ct⟩=>
 LT.bind rs rh q λb h1 H1 k rs1 rh1 q1=>by
  cases b with
  |true=>rw [if_pos rfl] at q1 ⊢;exact⟨σd,h1,Dd,rs1,rh1,q1,λa b c d k' =>nx a b c d (k.trans k'),jaF rt k,λa b c d k' =>bk a b c d (k.trans k'),λa b c d k' =>ct a b c d (k.trans k')⟩
  |false=>rw [if_neg G0s] at q1 ⊢;exact⟨σd,h1,Dd,rs1,rh1,q1,λa b c d k' =>nx a b c d (k.trans k'),jaF rt k,λa b c d k' =>bk a b c d (k.trans k'),λa b c d k' =>ct a b c d (k.trans k')⟩
theorem jiM {i:Nat} {te:TED}: ∀D σ H,LS K (jcm i te) D σ H->jkW (LE K te) (jcl i) D σ H:=λD σ H ⟨σd,h,Dd,rs,rh,q,nx,rt,bk,ct⟩=>
 LE.bind rs rh q λd v h1 H1 k1 rs1 rh1 r1 q1=>nx _ _ _ _ k1 (rs1.set r1 i) rh1 q1
theorem jn1 {te:TED} {g:TGD}: ∀D σ H,LS K (jcL te g) D σ H->jkW (LE K te) (LG K g) D σ H:=λD σ H ⟨σd,h,Dd,rs,rh,q,nx,rt,bk,ct⟩=>
 LE.bind rs rh q λd v h1 H1 k1 rs1 rh1 r1 q1=>⟨d,σd,h1,_,r1,rs1,rh1,q1,λa b c e k' =>nx a b c e (k1.trans k')⟩
theorem jn2 {i j:Nat} {ta:TAD}: ∀D σ H,LS K (jcM i j ta) D σ H->jqx i j (LA K ta) D σ H:=λD σ H ⟨σd,h,Dd,rs,rh,q,nx,rt,bk,ct⟩=>
 LA.bind rs rh q λds vs h1 H1 k1 rs1 rh1 r1 ⟨x,y,e,q1⟩=>by
  subst e
  obtain⟨v,r,e,r2,r3⟩:=(show ∃v r,vs=v::r/\RelD K H1 x v/\RelDs K H1 [y] r from r1)
  obtain⟨w,r',e',r4,r5⟩:=(show ∃v r',r=v::r' /\RelD K H1 y v/\RelDs K H1 [] r' from r3)
  cases (show r' = [] from r5)
  subst e' e
  exact⟨v,w,rfl,nx _ _ _ _ k1 ((rs1.set r2 i).set r4 j) rh1 q1⟩
theorem jlV (i:Nat): ∀v σ H Q,LG K (gN i) v σ H Q->jcl i v σ H Q:=λv σ H Q ⟨d,σd,h,Qd,r,rs,rh,q,p⟩=>p _ _ _ _ (.refl H) (rs.set r i) rh q
theorem jdp {H:Hp} {x y:D} {vs:List V} (r:RelDs K H [x,y] vs): ∃v w,vs= [v,w]/\RelD K H x v/\RelD K H y w:=by
 obtain⟨v,r1,e,r2,r3⟩:=(show ∃v r,vs=v::r/\RelD K H x v/\RelDs K H [y] r from r)
 obtain⟨w,z,e',r4,r5⟩:=(show ∃v z,r1=v::z/\RelD K H y v/\RelDs K H [] z from r3)
 cases (show z= [] from r5)
 subst e' e
 exact⟨v,w,rfl,r2,r4⟩
theorem jaI {H:Hp} {x:D} {vs:List V} (r:RelDs K H [x] vs): ∃v,vs= [v]/\RelD K H x v:=by
 obtain⟨v,r1,e,r2,r3⟩:=(show ∃v r,vs=v::r/\RelD K H x v/\RelDs K H [] r from r)
 cases (show r1= [] from r3)
 exact⟨v,e,r2⟩
theorem jn3 (i j:Nat): ∀v σ H Q,LG K (gT2 i j) v σ H Q->jpr K 2 (jim (jcl i) (jim (jcl j) jpq)) v σ H Q:=λv σ H Q ⟨d,σd,h,Qd,r,rs,rh,⟨x,y,e,q⟩,p⟩=>by
 subst e
 obtain⟨a,vs,e,hH,r1⟩:=(show ∃a vs,v= .ref a/\H a=some (.tup vs)/\RelDs K H [x,y] vs from r)
 obtain⟨v1,v2,e1,r2,r3⟩:=jdp r1
 subst e e1
 exact⟨a,[v1,v2],rfl,SqT.of hH,rfl,v1,[v2],rfl,v2,[],rfl,rfl,p _ _ _ _ (.refl H) ((rs.set r2 i).set r3 j) rh q⟩
end
section
variable {X:Cx} {st:Stmt} {sts:List Stmt} {t u:TSD} {e:Expr} {te:TED} {pos:Pos}
theorem jn4:QSs X [] ja0:=pss_nil.imp jlT
theorem jlW (h1:QS X st t) (h2:QSs X sts u):QSs X (st::sts) (jcg t u):=(jjZ h1 h2).imp jnZ
theorem jn5 (h1:QS X st t):QSs X [st] t:=jlp h1
theorem jpV (he:QE X e te) (hs:swapsWith e none pos.line X.env=pure false:=by rfl):QS X (.Expr e pos) (ja1 te):=(jlq he hs).imp jlU
theorem jrg (he:QE X e te):QS X (.Return (some e) pos) (jcq te):=(jnm he).imp jn0
theorem jrh {c:Expr} {a b:List Stmt} {tc:TTD} (hc:QT X c tc) (ha:QSs X a t) (hb:QSs X b u):QS X (.If c a b pos) (jcK tc t u):=(jpo hc ha hb).imp jpU
theorem jri {i:Nat} {x:Str} {pos' :Pos} (hN:X.N.Nodup) (hi:X.N[i]? =some x) (hx:Loc X.env.scope x) (he:QE X e te) (hs:swapsWith e (some (.Name x pos')) pos.line X.env=pure false:=by rfl)
 (hf:X.fn x=true\/X.env.scope.names.lookup x=some .local:=by first|exact .inl rfl|exact .inr rfl|assumption):QS X (.Assign [.Name x pos'] e pos) (jcm i te):=(jnp hN hi hx he hs hf).imp jiM
theorem jlX {i:Nat} {x:Str} (hN:X.N.Nodup) (hi:X.N[i]? =some x) (hx:Loc X.env.scope x) (hf:X.fn x=true\/X.env.scope.names.lookup x=some .local:=by first|exact .inl rfl|exact .inr rfl|assumption):QG X (.Name x pos) (gN i):=
 (jc1 hN hi hx hf).imp (jlV i)
theorem jn6 {i j:Nat} {x y:Str} {p1 p2:Pos} {k:Nat} (hc:X.calm=true) (hN:X.N.Nodup) (hi:X.N[i]? =some x) (hj:X.N[j]? =some y) (hx:Loc X.env.scope x) (hy:Loc X.env.scope y)
 (hf:X.fn x=true\/X.env.scope.names.lookup x=some .local:=by first|exact .inl rfl|exact .inr rfl|assumption) (hf2:X.fn y=true\/X.env.scope.names.lookup y=some .local:=by first|exact .inl rfl|exact .inr rfl|assumption):
 QG X (.Tuple [.Name x p1,.Name y p2] k pos) (gT2 i j):=(jkV hc (jeb (jc1 hN hi hx hf) (jeb (jc1 hN hj hy hf2) jin))).imp (jn3 i j)
theorem jrj {tg:Expr} {g:TGD} (he:QE X e te) (hg:QG X tg g) (hs:swapsWithSole [tg] e pos.line X.env=pure false:=by rfl) (hsw:swappedStores [tg] e X.env=pure none:=by rfl)
 (h1:(assignEach [tg] X.env).map (·.2)= [assign tg X.env]:=by rfl):QS X (.Assign [tg] e pos) (jcL te g):=(jno he hg hs hsw h1).imp jn1
theorem jrk {i j:Nat} {x y:Str} {a b:Expr} {ta:TAD} {px py pt:Pos} {kt k2 pt2} (hc:X.calm=true) (hN:X.N.Nodup) (hi:X.N[i]? =some x) (hj:X.N[j]? =some y) (hij:i≠j)
 (hx:X.env.scope.names.lookup x=some .local) (hy:X.env.scope.names.lookup y=some .local) (ha:QA X [a,b] ta)
 (hw:swappedStores [.Tuple [.Name x px,.Name y py] kt pt] (.Tuple [a,b] k2 pt2) X.env=pure (some [x,y]))
 (hs:swapsWithSole [.Tuple [.Name x px,.Name y py] kt pt] (.Tuple [a,b] k2 pt2) pos.line X.env=pure false:=by rfl):
 QS X (.Assign [.Tuple [.Name x px,.Name y py] kt pt] (.Tuple [a,b] k2 pt2) pos) (jcM i j ta):=(jnq hc hN hi hj hij hx hy ha hw hs).imp jn2
end
abbrev ItD:=HD->Option (List D)
def jm4 (K:PySem.W.Frag) (H:Hp) (j:ItD) (J:It):Prop:= ∀H' h',Kept H H' ->RelH K h' H' -> ∀ds,j h' =some ds-> ∀i:Nat,
 (∀d,ds[i]? =some d->J.go i H' /\ ∀x H'',J.yld i H' x H'' ->Kept H' H'' /\RelH K h' H'' /\RelD K H'' d x)/\(ds.length<=i->J.stop i H')
abbrev TID:=SD->HD->(ItD->HD->Prop)->Prop
def LI (K:PySem.W.Frag) (t:TID):TI:=λσ H R=> ∃σd h Rd,RelS K H σd σ/\RelH K h H/\t σd h Rd/\ ∀j J h' H',Kept H H' ->RelH K h' H' ->jm4 K H' j J->Rd j h' ->R J H'
abbrev QI (X:Cx) (tg iter:Expr) (t:TID):Prop:=PI X tg iter (LI X.K t)
theorem PI.imp {X:Cx} {tg e:Expr} {t t' :TI} (h:PI X tg e t) (i: ∀σ H R,t' σ H R->t σ H R):PI X tg e t' :=λpins s σ H R I q=>h pins s σ H R I (i σ H R q)
def iL (te:TED):TID:=λσ h R=>te σ h λx h1=> ∃a,x= .lst a/\R (λh=>h a) h1
def iR1 (ta:TAD):TID:=λσ h R=>ta σ h λds h1=> ∃n:Int,ds= [.int n]/\ -(2^62)<=n/\n<2^62/\R (λ_=>some ((List.range n.toNat).map λ(k:Nat)=>D.int (k:Int))) h1
section
variable {K:PySem.W.Frag}
theorem jf8 (H:Hp) (a:Addr):jm4 K H (λh=>h a) (Itl K a):=λH' h' k rh ds e i=>by
 obtain⟨vs,hv,r⟩:=rh a ds e
 refine⟨λd hd=> ?_,λhl=>⟨vs,SqL.of hv,by rw [<-r.length];exact hl⟩⟩
 obtain⟨v,e1,e2⟩:=r.get hd
 refine⟨⟨vs,v,SqL.of hv,e1⟩,λx H'' ⟨eH,hx⟩=> ?_⟩
 subst eH
 have:=hx vs (SqL.of hv)
 rw [e1] at this;cases this
 exact⟨.refl _,rh,e2⟩
theorem jkf {H:Hp} {a:Addr} {vs:List V} {ds:List D} (hv:H a=some (.tup vs)) (r:RelDs K H ds vs):jm4 K H (λ_=>some ds) (Itt K a):=λH' h' k rh ds' e i=>by
 cases e
 have hv' :=k.tup _ _ hv
 have r' :=r.mono k
 refine⟨λd hd=> ?_,λhl=>⟨vs,SqT.of hv',by rw [<-r.length];exact hl⟩⟩
 obtain⟨v,e1,e2⟩:=r'.get hd
 refine⟨⟨vs,v,SqT.of hv',e1⟩,λx H'' ⟨eH,hx⟩=> ?_⟩
 subst eH
 have:=hx vs (SqT.of hv')
 rw [e1] at this;cases this
 exact⟨.refl _,rh,e2⟩
theorem jhM (H:Hp) (lo:Int) (n:Nat) (ds:List D) (hd:ds=(List.range n).map λ(k:Nat)=>D.int (lo+(k:Int))):jm4 K H (λ_=>some ds) (Itr lo n):=λH' h' k rh ds' e i=>by
 cases e
 subst hd
 refine⟨λd hd=> ?_,λhl=>(show n<=i by simpa using hl)⟩
 rw [G0H] at hd
 have hi:i<n:=by
  by_cases z:i<n
  ·exact z
  ·rw [G1T (by simpa using z)] at hd;cases hd
 rw [G2s hi] at hd
 cases hd
 refine⟨hi,λx H'' ⟨eH,hx⟩=> ?_⟩
 subst eH hx
 exact⟨.refl _,rh,rfl⟩
theorem jlY {te:TED}: ∀σ H R,LI K (iL te) σ H R->jnr K (LE K te) σ H R:=λσ H R ⟨σd,h,Rd,rs,rh,q,p⟩=>
 LE.bind rs rh q λd v h1 H1 k1 rs1 rh1 r1 ⟨a,e,q1⟩=>by
  subst e
  obtain⟨e,vs,hv⟩:=(show v= .ref a/\ ∃vs,H1 a=some (.lst vs) from r1)
  exact⟨a,e,⟨vs,SqL.of hv⟩,p _ _ _ _ k1 rh1 (jf8 H1 a) q1⟩
theorem jpW {ta:TAD}: ∀σ H R,LI K (iR1 ta) σ H R->jns (LA K ta) σ H R:=λσ H R ⟨σd,h,Rd,rs,rh,q,p⟩=>
 LA.bind rs rh q λds vs h1 H1 k1 rs1 rh1 r1 ⟨n,e,b1,b2,q1⟩=>by
  subst e
  obtain⟨v,e,r2⟩:=jaI r1
  cases (show v= .int n from r2)
  exact⟨n,e,b1,b2,p _ _ _ _ k1 rh1 (jhM H1 0 n.toNat _ (by simp)) q1⟩
end
def jn7 (ti:TID) (g:TGD) (tb:TSD):TSD:=λD σ h=>ti σ h λj h1=> ∃ (n:Nat) (W:Nat->SD->HD->Prop),W 0 σ h1/\ ∀i σ' h',W i σ' h' -> ∃ds,j h' =some ds/\ds.length<=n/\(ds.length<=i->D.nx σ' h')/\
 ∀d,ds[i]? =some d->g d σ' h' λσ2 h2=>tb {D with nx:=λσ3 h3=> ∃h4,Sub h4 h3/\W (i+1) σ3 h4,ct:=λσ3 h3=> ∃h4,Sub h4 h3/\W (i+1) σ3 h4,bk:=D.nx} σ2 h2
theorem jn8 {K:PySem.W.Frag} {ti:TID} {g:TGD} {tb:TSD}: ∀D σ H,LS K (jn7 ti g tb) D σ H->jqy (LI K ti) (LG K g) (LS K tb) D σ H:=λD σ H ⟨σd,h,Dd,rs,rh,q,nx,rt,bk,ct⟩=>by
 refine⟨σd,h,_,rs,rh,q,λj J h1 H1 k1 rh1 jo ⟨n,W,w0,turn⟩=> ?_⟩
 refine⟨λi m σ' H' =>m=n-i/\Kept H1 H' /\ ∃σd' h',RelS K H' σd' σ' /\RelH K h' H' /\W i σd' h',⟨n-0,rfl,.refl _,σd,h1,rs.mono k1,rh1,w0⟩,?_⟩
 rintro i m σ' H' ⟨rfl,kp,σd',h',rs',rh',w⟩
 obtain⟨ds,ej,hn,stop,go⟩:=turn i σd' h' w
 have jo' :=jo H' h' kp rh' ds ej i
 by_cases hi:i<ds.length
 ·obtain⟨g1,y1⟩:=jo'.1 ds[i] (G0b hi)
  refine .inr ⟨g1,λσ2 H2=>Kept H1 H2/\ ∃σd2 h2,RelS K H2 σd2 σ2/\RelH K h2 H2/\W (i+1) σd2 h2,λσ2 H2 ⟨k2,a,b,c,d,e⟩=>⟨n-(i+1),by omega,rfl,k2,a,b,c,d,e⟩,λx H'' y=> ?_⟩
  obtain⟨k2,rh2,r2⟩:=y1 x H'' y
  refine⟨ds[i],σd',h',_,r2,rs'.mono k2,rh2,go ds[i] (G0b hi),λσd3 h3 σ3 H3 k3 rs3 rh3 q3=> ?_⟩
  have kk:Kept H H3:=k1.trans (kp.trans (k2.trans k3))
  have kk1:Kept H1 H3:=kp.trans (k2.trans k3)
  exact⟨σd3,h3,_,rs3,rh3,q3,λa b c d k4 rs4 rh4 ⟨h4,sb,w4⟩=>⟨kk1.trans k4,a,h4,rs4,rh4.sub sb,w4⟩,jaF rt kk,λa b c d k4 rs4 rh4 q4=>nx a b c d (kk.trans k4) rs4 rh4 q4,λa b c d k4 rs4 rh4 ⟨h4,sb,w4⟩=>⟨kk1.trans k4,a,h4,rs4,rh4.sub sb,w4⟩⟩
 ·exact .inl ⟨jo'.2 (G2J.mp hi),nx _ _ _ _ (k1.trans kp) rs' rh' (stop (G2J.mp hi))⟩
def jgK:TTD:=λ_ h Q=>Q true h
def jex (bind:D->SD->SD->Prop) (js:List Nat) (ti:TID) (tt:TTD) (te:TED):TED:=λσ h Q=>ti σ h λj h1=> ∃ (n:Nat) (W:Nat->List D->HD->Prop),W 0 [] h1/\ ∀i ys h',W i ys h' ->ys.length<=sizeLine/\
 ∃ds,j h' =some ds/\ds.length<=n/\(ds.length<=i-> ∀p,h' p=none->Q (.lst p) (jbp h' p ys))/\
  ∀d,ds[i]? =some d-> ∃σ2,bind d (jaT js σ) σ2/\tt σ2 h' λb h3=>if b=true then te σ2 h3 λy h4=> ∃h5,Sub h5 h4/\W (i+1) (ys++ [y]) h5 else ∃h5,Sub h5 h3/\W (i+1) ys h5
def bN (i:Nat):D->SD->SD->Prop:=λd σ σ2=>σ2=σ.set i (some d)
def b2 (i j:Nat):D->SD->SD->Prop:=λd σ σ2=> ∃x y,d= .tup [x,y]/\σ2=(σ.set i (some x)).set j (some y)
theorem jn9 {K:PySem.W.Frag}: ∀σ H Q,LT K jgK σ H Q->jqH σ H Q:=λσ H Q ⟨σd,h,Qd,rs,rh,q,p⟩=>p true h H (.refl H) rh q
def jiN (K:PySem.W.Frag) (js:List Nat) (bind:D->SD->SD->Prop) (g:TG):Prop:= ∀ (σ:St) (σd σd2:SD) (H:Hp) (d:D) (v:V) (Q:St->Hp->Prop),RelS K H (jaT js σd) (jbu js σ)->RelD K H d v->bind d (jaT js σd) σd2->
 (∀σ2,Agree (jbu js σ) σ2->RelS K H σd2 σ2->Q σ2 H)->g v (jbu js σ) H Q
theorem joa {K:PySem.W.Frag} {js:List Nat} {i:Nat} (hi:i∈js):jiN K js (bN i) (jcl i):=λσ σd σd2 H d v Q rs r b q=>by
 cases (show σd2=_ from b)
 exact q _ (.set v λu=>jbg js σ i u hi) (rs.set r i)
theorem jpX {K:PySem.W.Frag} {js:List Nat} {i j:Nat} (hi:i∈js) (hj:j∈js) (hij:i≠j):jiN K js (b2 i j) (jpr K 2 (jim (jcl i) (jim (jcl j) jpq))):=λσ σd σd2 H d v Q rs r b q=>by
 obtain⟨x,y,e,e2⟩:=b
 subst e e2
 obtain⟨a,vs,e,hH,r1⟩:=(show ∃a vs,v= .ref a/\H a=some (.tup vs)/\RelDs K H [x,y] vs from r)
 obtain⟨v1,v2,e1,r2,r3⟩:=jdp r1
 subst e e1
 refine⟨a,[v1,v2],rfl,SqT.of hH,rfl,v1,[v2],rfl,v2,[],rfl,rfl,q _ (.trans (.set v1 λu=>jbg js σ i u hi) (.set v2 λu z=> ?_)) ((rs.set r2 i).set r3 j)⟩
 rw [G1k hij] at z
 exact jbg js σ j u hj z
theorem jlZ {K:PySem.W.Frag} {bind:D->SD->SD->Prop} {js:List Nat} {ti:TID} {tt:TTD} {te:TED} {g:TG} (hb:jiN K js bind g): ∀σ H Q,LE K (jex bind js ti tt te) σ H Q->tLC js (LI K ti) g (LT K tt) (LE K te) σ H Q:=
 λσ H Q ⟨σd,h,Qd,rs,rh,q,p⟩=>by
  refine⟨σd,h,_,rs,rh,q,λj J h1 H1 k1 rh1 jo ⟨n,W,w0,turn⟩=> ?_⟩
  refine⟨λi m ys H' =>m=n-i/\Kept H1 H' /\ ∃ds h',RelDs K H' ds ys/\RelH K h' H' /\W i ds h',⟨n-0,rfl,.refl _,[],h1,rfl,rh1,w0⟩,?_⟩
  rintro i m ys H' ⟨rfl,kp,yd,h',ry,rh',w⟩
  obtain⟨hz,ds,ej,hn,stop,go⟩:=turn i yd h' w
  refine⟨by rw [<-ry.length];exact hz,?_⟩
  have jo' :=jo H' h' kp rh' ds ej i
  have kk:Kept H H' :=k1.trans kp
  by_cases hi:i<ds.length
  ·obtain⟨g1,y1⟩:=jo'.1 ds[i] (G0b hi)
   refine .inr ⟨g1,λx H'' y=> ?_⟩
   obtain⟨k2,rh2,r2⟩:=y1 x H'' y
   obtain⟨σd2,bd,q2⟩:=go ds[i] (G0b hi)
   refine hb σ σd σd2 H'' ds[i] x _ (((rs.mono (kk.trans k2))).clear js) r2 bd λσ2 ag rs2=>⟨ag,?_⟩
   refine LT.bind rs2 rh2 q2 λb h3 H3 k3 rs3 rh3 q3=> ?_
   cases b with
   |true=>
    rw [if_pos rfl] at q3 ⊢
    refine LE.bind rs3 rh3 q3 λd4 v4 h4 H4 k4 rs4 rh4 r4 ⟨h5,sb,w5⟩=>⟨n-(i+1),by omega,rfl,kp.trans (k2.trans (k3.trans k4)),yd++ [d4],h5,(ry.mono (k2.trans (k3.trans k4))).append (.cons r4 .nil),rh4.sub sb,w5⟩
   |false=>
    rw [if_neg G0s] at q3 ⊢
    obtain⟨h5,sb,w5⟩:=q3
    exact⟨n-(i+1),by omega,rfl,kp.trans (k2.trans k3),yd,h5,ry.mono (k2.trans k3),rh3.sub sb,w5⟩
  ·refine .inl ⟨jo'.2 (G2J.mp hi),λa ha=>p (.lst a) (.ref a) _ _ (kk.trans (.new ha)) (rh'.newL ha ry) ⟨rfl,ys,jaj⟩ (stop (G2J.mp hi) a (rh'.free ha))⟩
theorem jcD {X:Cx} {scope:Scope} {C:Addr} {s₀:Shared} {H₀:Hp} {ex:List Addr} {i:Nat} {x:Str} {p:Pos} (hN:X.N.Nodup) (hx:X.N[i]? =some x) (hl:scope.names.lookup x=some .local\/scope.names.lookup x=some .cell):
 PG (jfx X scope C s₀ H₀ ex) (.Name x p) (jcl i):=by
 rcases hl with z|z
 ·exact jc1 hN hx (.inl (lookup_relabel_local z)) (.inr (lookup_relabel_local z))
 ·exact jc1 hN hx (.inr (jc2 z)) (.inl (by show (scope.names.lookup x==some NameKind.cell)=true;rw [z];rfl))
section
variable {X:Cx} {tg e iter elt:Expr} {te:TED} {ti:TID} {g:TGD} {tb:TSD} {tt:TTD} {pos:Pos} {ta:TAD} {scope:Scope} {js:List Nat} {ifs:List Expr}
theorem jl0 (he:QE X e te):QI X tg e (iL te):=(jls he).imp jlY
theorem jpY {p:Pos} {a:Expr} (hg:Gl X "range") (hm:X.mg "range" =none) (ha:QA X [a] ta) (hs:starEach [a] X.env= [(false,eval a X.env)]:=by rfl):QI X tg (.Call (.Name "range" p) [a] [] pos) (iR1 ta):=(jio hg hm ha hs).imp jpW
theorem jrl {body:List Stmt} (hp:PassesOwn (model X.prog X.w) X.A X.env X.xe) (hc:X.calm=true) (hi:QI X tg iter ti) (hg:QG X tg g) (hb:QSs X body tb) (hs: ∀x,foldedSetIterable iter X.env x=pure x:=by intro _;rfl):
 QS X (.For tg iter body [] pos) (jn7 ti g tb):=(jnt hp hc hi hg hb hs).imp jn8
theorem jl1:PTs X [] (LT X.K jgK):=λpins s σ H Q I h=>jlL pins s σ H Q I (jn9 σ H Q h)
theorem jl2 {c:Expr} (hc:QT X c tt):PTs X [c] (LT X.K tt):=jlM hc
theorem qlc {i:Nat} {x:Str} {p:Pos} (hc:X.calm=true) (S:BlockOk X scope js) (hi:QI X (.Name x p) iter ti) (hj:i∈js) (hN:X.N.Nodup) (hx:X.N[i]? =some x) (hl:scope.names.lookup x=some .local\/scope.names.lookup x=some .cell)
 (ht: ∀X',jau X scope X' ->PTs X' ifs (LT X'.K tt)) (he: ∀X',jau X scope X' ->QE X' elt te) (hs: ∀x,foldedSetIterable iter X.env x=pure x:=by intro _;rfl):
 QE X (.ListComp elt [⟨.Name x p,iter,ifs,0⟩] scope pos) (jex (bN i) js ti tt te):=
 (jnM hc S hi (λX' hX=>by obtain⟨C,s₀,H₀,ex,rfl⟩:=hX;exact jcD hN hx hl) (λX' hX=>by have:=ht X' hX;obtain⟨C,s₀,H₀,ex,rfl⟩:=hX;exact this)
  (λX' hX=>by have:=he X' hX;obtain⟨C,s₀,H₀,ex,rfl⟩:=hX;exact this) hs).imp (jlZ (joa hj))
theorem jrm {i j:Nat} {x y:Str} {p1 p2 p3:Pos} {k:Nat} (hc:X.calm=true) (S:BlockOk X scope js) (hi:QI X (.Tuple [.Name x p1,.Name y p2] k p3) iter ti) (hj:i∈js) (hj2:j∈js) (hij:i≠j) (hN:X.N.Nodup) (hx:X.N[i]? =some x) (hy:X.N[j]? =some y)
 (hl:scope.names.lookup x=some .local\/scope.names.lookup x=some .cell) (hl2:scope.names.lookup y=some .local\/scope.names.lookup y=some .cell)
 (ht: ∀X',jau X scope X' ->PTs X' ifs (LT X'.K tt)) (he: ∀X',jau X scope X' ->QE X' elt te) (hs: ∀x,foldedSetIterable iter X.env x=pure x:=by intro _;rfl):
 QE X (.ListComp elt [⟨.Tuple [.Name x p1,.Name y p2] k p3,iter,ifs,0⟩] scope pos) (jex (b2 i j) js ti tt te):=
 (jnM hc S hi (λX' hX=>by
  obtain⟨C,s₀,H₀,ex,rfl⟩:=hX
  exact jkV hc (jeb (jcD hN hx hl) (jeb (jcD hN hy hl2) jin))) (λX' hX=>by have:=ht X' hX;obtain⟨C,s₀,H₀,ex,rfl⟩:=hX;exact this)
  (λX' hX=>by have:=he X' hX;obtain⟨C,s₀,H₀,ex,rfl⟩:=hX;exact this) hs).imp (jlZ (jpX hj hj2 hij))
end
def LSp (K:PySem.W.Frag) (spd:RDn):Sp:=λvs H Q _=>LC K spd vs H Q
theorem jiO {K:PySem.W.Frag} {spd:RDn} {t:TAD} {E:XK}: ∀σ H Q,LE K (dCB spd t) σ H Q->jly (LSp K spd) [] E (LA K t) σ H Q:=λσ H Q ⟨σd,h,Qd,rs,rh,t,p⟩=>
 LA.bind rs rh t λds vs h1 H1 k1 rs1 rh1 r1 q=>by rw [G1t];exact⟨ds,h1,Qd,r1,rh1,q,jaF p k1⟩
section
variable {X:Cx} {k:Nat} {f:Addr} {fd:FuncData} {ps:List Str} {spd:RDn} {x:Str} {p pos:Pos} {e:Expr} {es:List Expr} {t:TAD}
theorem jpZ (F:FnOk X.prog X.w X.K X.mg X.base CX0 k f fd ps (LSp X.K spd)) (hr:Room k X.A) (hg:Gl X x) (hm:X.mg x=some (.ref f)) (hk:PySem.W.keepIn X.K (.ref f)=true) (hb:Binds X.K fd ps [])
 (ha:QA X (e::es) t) (hdb:(x==("__debug__" :Str))=false:=by decide) (he:starEach (e::es) X.env=(false,eval e X.env)::starEach es X.env:=by rfl) (hpl:(backTo pos (starEach es X.env)).any (·.1)=false:=by rfl):
 QE X (.Call (.Name x p) (e::es) [] pos) (dCB spd t):=(jiw F hr hg hm hk hb .nil jlG ha hdb he hpl).imp jiO
theorem job {id:String} {r:RDn} (hc:jdo X (.builtin id) r) (hg:Gl X x) (hm:X.mg x=none) (hv:bootBuiltins x=some (.builtin id)) (ha:QA X (e::es) t) (hn:x≠ "__name__" :=by decide) (hdb:(x==("__debug__" :Str))=false:=by decide)
 (he:starEach (e::es) X.env=(false,eval e X.env)::starEach es X.env:=by rfl) (hpl:(backTo pos (starEach es X.env)).any (·.1)=false:=by rfl):QE X (.Call (.Name x p) (e::es) [] pos) (dCB r t):=(jec hc hg hm hv ha hn hdb he hpl).imp jnS
theorem jl3 {T:String} {r:RDn} (hc:jdo X (.type T) r) (hg:Gl X x) (hm:X.mg x=none) (hv:bootBuiltins x=some (.type T)) (ha:QA X (e::es) t) (hn:x≠ "__name__" :=by decide) (hdb:(x==("__debug__" :Str))=false:=by decide)
 (he:starEach (e::es) X.env=(false,eval e X.env)::starEach es X.env:=by rfl) (hpl:(backTo pos (starEach es X.env)).any (·.1)=false:=by rfl):QE X (.Call (.Name x p) (e::es) [] pos) (dCB r t):=(jiy hc hg hm hv ha hn hdb he hpl).imp jnS
end
def jap (N:List Str) (ds:List D):SD:=ds.map some++List.replicate (N.length-ds.length) none
theorem jcE {K:PySem.W.Frag} {H:Hp} {N:List Str} {ds:List D} {vs:List V} (r:RelDs K H ds vs):RelS K H (jap N ds) (start N vs):=by
 have hl:=r.length
 refine⟨by unfold jap start;simp [hl],λi d e=> ?_⟩
 unfold jap at e
 unfold start
 by_cases hi:i<ds.length
 ·rw [G0I (by simpa using hi),G0H] at e
  cases q:ds[i]? with
  |none=>rw [q] at e;cases e
  |some d' =>
   rw [q] at e;cases e
   obtain⟨v,e1,e2⟩:=r.get q
   exact⟨v,by rw [G0I (by simpa [<-hl] using hi),G0H,e1];rfl,e2⟩
 ·rw [G0q (by simpa using hi),G17] at e
  split at e<;>cases e
def jch (Q:KD):EndsD:= {nx:=λ_ h=> ∃h',Sub h' h/\Q .non h',rt:=λd h=> ∃h',Sub h' h/\Q d h'}
section
variable {P:Program} {w:World} {K:PySem.W.Frag} {mg:Str->Option Value} {base:Heap}
theorem Fun.okD {x qual:Str} {st:Stmt} {f:Addr} {fd:FuncData} {N ps:List Str} {k:Nat} {spd:RDn} (F:Fun K x qual st f fd) (S:FnScope N ps (jae st)) (len: ∀ds h Q,spd ds h Q->ds.length=ps.length)
 (tb:TSD) (hbody: ∀ (cdv:Value) (A:Around) (outer:List Env) (s:Shared) (H:Hp) (E:XK),Room k (A.deeper (envOfC qual (jae st) s.heap.objs.size f cdv))->QSs (jft CX0 P w K mg base N qual (jae st) f cdv A outer s H E).nox (jaV st) tb)
 (read: ∀ds h Q,spd ds h Q->tb (jch Q) (jap N ds) h):FnOk P w K mg base CX0 (k+1) f fd ps (LSp K spd):=by
 refine F.ok S (λvs H Q E h=> ?_) (λcdv A outer s H vs Q E hr h=> ?_)
 ·obtain⟨ds,h,Qd,r,rh,q,p⟩:=h
  rw [<-r.length];exact len _ _ _ q
 ·obtain⟨ds,h,Qd,r,rh,q,p⟩:=h
  refine⟨_,hbody cdv A outer s H E hr,jap N ds,h,jch Qd,jcE r,rh,read ds h Qd q,λσd' h' σ' H' k rs' rh' ⟨h2,sb,q'⟩=>p .non .non h2 H' k (rh'.sub sb) rfl q',λd v h' H' k rh' r' ⟨h2,sb,q'⟩=>p d v h2 H' k (rh'.sub sb) r' q',λ_ _ _ _ _ _ _ z=>z.elim,λ_ _ _ _ _ _ _ z=>z.elim⟩
end
section
variable {X:Cx} {iter elt:Expr} {te:TED} {ti:TID} {tt:TTD} {pos spos:Pos} {scope:Scope} {js:List Nat} {ifs:List Expr}
theorem joc {i k:Nat} {x y:Str} {p py:Pos} (hc:X.calm=true) (hN:X.N.Nodup) (hk:X.N[k]? =some y) (hy:Loc X.env.scope y) (S:BlockOk X scope js) (hi:QI X (.Name x p) iter ti) (hj:i∈js) (hx:X.N[i]? =some x) (hl:scope.names.lookup x=some .local\/scope.names.lookup x=some .cell)
 (ht: ∀X',jau X scope X' ->PTs X' ifs (LT X'.K tt)) (he: ∀X',jau X scope X' ->QE X' elt te)
 (hsw:swapsWith (.ListComp elt [⟨.Name x p,iter,ifs,0⟩] scope pos) (some (.Name y py)) spos.line X.env=pure true:=by rfl)
 (hf:X.fn y=true\/X.env.scope.names.lookup y=some .local:=by first|exact .inl rfl|exact .inr rfl|assumption) (hs: ∀x,foldedSetIterable iter X.env x=pure x:=by intro _;rfl):
 QS X (.Assign [.Name y py] (.ListComp elt [⟨.Name x p,iter,ifs,0⟩] scope pos) spos) (jcm k (jex (bN i) js ti tt te)):=by
 have base:PS X (.Assign [.Name y py] (.ListComp elt [⟨.Name x p,iter,ifs,0⟩] scope pos) spos) (jkW (tLC js (LI X.K ti) (jcl i) (LT X.K tt) (LE X.K te)) (jcl k)):=
  jkd hc S hi (λX' hX=>by obtain⟨C,s₀,H₀,ex,rfl⟩:=hX;exact jcD hN hx hl) (λX' hX=>by have:=ht X' hX;obtain⟨C,s₀,H₀,ex,rfl⟩:=hX;exact this)
   (λX' hX=>by have:=he X' hX;obtain⟨C,s₀,H₀,ex,rfl⟩:=hX;exact this) (jc1 hN hk hy hf) hsw hs
 exact base.imp λD σ H h=>by
  obtain⟨σd,hd,Qd,rs,rh,t,p⟩:=jiM (K:=X.K) D σ H h
  exact jlZ (joa hj) σ H _ ⟨σd,hd,Qd,rs,rh,t,p⟩
end
def dIn (i' :Nat) (ti:TID) (tt:TTD) (te:TED) (V:List D->HD->Prop) (ys:List D):SD->HD->Prop:=λσ h=>ti σ h λj h1=> ∃ (n:Nat) (W:Nat->List D->HD->Prop),W 0 ys h1/\ ∀i ys h',W i ys h' ->ys.length<=sizeLine/\
 ∃ds,j h' =some ds/\ds.length<=n/\(ds.length<=i->V ys h')/\
  ∀d,ds[i]? =some d->tt (σ.set i' (some d)) h' λb h3=>if b=true then te (σ.set i' (some d)) h3 λy h4=> ∃h5,Sub h5 h4/\W (i+1) (ys++ [y]) h5 else ∃h5,Sub h5 h3/\W (i+1) ys h5
def jp0 (bind:D->SD->SD->Prop) (js:List Nat) (ti:TID) (tt:TTD) (i' :Nat) (ti' :TID) (tt' :TTD) (te:TED):TED:=λσ h Q=>ti σ h λj h1=> ∃ (n:Nat) (W:Nat->List D->HD->Prop),W 0 [] h1/\ ∀i ys h',W i ys h' ->ys.length<=sizeLine/\
 ∃ds,j h' =some ds/\ds.length<=n/\(ds.length<=i-> ∀p,h' p=none->Q (.lst p) (jbp h' p ys))/\
  ∀d,ds[i]? =some d-> ∃σ2,bind d (jaT js σ) σ2/\tt σ2 h' λb h3=>if b=true then dIn i' ti' tt' te (λys' h6=> ∃h5,Sub h5 h6/\W (i+1) ys' h5) ys σ2 h3 else ∃h5,Sub h5 h3/\W (i+1) ys h5
def jiP (K:PySem.W.Frag) (js:List Nat) (i' :Nat) (bind:D->SD->SD->Prop) (g:TG):Prop:= ∀ (σ:St) (σd σd2:SD) (H:Hp) (d:D) (v:V) (Q:St->Hp->Prop),RelS K H (jaT js σd) (jbu js σ)->RelD K H d v->bind d (jaT js σd) σd2->
 (∀σ2,Agree (jbu js σ) σ2->(∀u,¬σ2[i']? =some (some u))->RelS K H σd2 σ2->Q σ2 H)->g v (jbu js σ) H Q
theorem jod {K:PySem.W.Frag} {js:List Nat} {i i' :Nat} (hi:i∈js) (hi' :i' ∈js) (hne:i≠i'):jiP K js i' (bN i) (jcl i):=λσ σd σd2 H d v Q rs r b q=>by
 cases (show σd2=_ from b)
 refine q _ (.set v λu=>jbg js σ i u hi) (λu z=> ?_) (rs.set r i)
 rw [G1k hne] at z
 exact jbg js σ i' u hi' z
theorem joe {K:PySem.W.Frag} {bind:D->SD->SD->Prop} {js:List Nat} {i' :Nat} {ti ti' :TID} {tt tt' :TTD} {te:TED} {g:TG} (hb:jiP K js i' bind g): ∀σ H Q,LE K (jp0 bind js ti tt i' ti' tt' te) σ H Q->jqI js (LI K ti) g (LT K tt) (LI K ti') (jcl i') (LT K tt') (LE K te) σ H Q:=
 λσ H Q ⟨σd,h,Qd,rs,rh,q,p⟩=>by
  refine⟨σd,h,_,rs,rh,q,λj J h1 H1 k1 rh1 jo ⟨n,W,w0,turn⟩=> ?_⟩
  refine⟨λi m ys H' =>m=n-i/\Kept H1 H' /\ ∃ds h',RelDs K H' ds ys/\RelH K h' H' /\W i ds h',⟨n-0,rfl,.refl _,[],h1,rfl,rh1,w0⟩,?_⟩
  rintro i m ys H' ⟨rfl,kp,yd,h',ry,rh',w⟩
  obtain⟨hz,ds,ej,hn,stop,go⟩:=turn i yd h' w
  refine⟨by rw [<-ry.length];exact hz,?_⟩
  have jo' :=jo H' h' kp rh' ds ej i
  have kk:Kept H H' :=k1.trans kp
  by_cases hi:i<ds.length
  ·obtain⟨g1,y1⟩:=jo'.1 ds[i] (G0b hi)
   refine .inr ⟨g1,λx H'' y=> ?_⟩
   obtain⟨k2,rh2,r2⟩:=y1 x H'' y
   obtain⟨σd2,bd,q2⟩:=go ds[i] (G0b hi)
   refine hb σ σd σd2 H'' ds[i] x _ (((rs.mono (kk.trans k2))).clear js) r2 bd λσ2 ag un rs2=>⟨ag,?_⟩
   refine LT.bind rs2 rh2 q2 λb h3 H3 k3 rs3 rh3 q3=> ?_
   cases b with
   |true=>
    rw [if_pos rfl] at q3 ⊢
    -- the second clause
    refine⟨σd2,h3,_,rs3,rh3,q3,λj2 J2 h4 H4 k4 rh4 jo2 ⟨n2,W2,w20,turn2⟩=> ?_⟩
    refine⟨λi2 m2 ys2 H5=>m2=n2-i2/\Kept H4 H5/\ ∃ds h5,RelDs K H5 ds ys2/\RelH K h5 H5/\W2 i2 ds h5,⟨n2-0,rfl,.refl _,yd,h4,ry.mono (k2.trans (k3.trans k4)),rh4,w20⟩,?_⟩
    rintro i2 m2 ys2 H5 ⟨rfl,kp5,yd5,h5,ry5,rh5,w5⟩
    obtain⟨hz5,ds5,ej5,hn5,stop5,go5⟩:=turn2 i2 yd5 h5 w5
    refine⟨by rw [<-ry5.length];exact hz5,?_⟩
    have jo5:=jo2 H5 h5 kp5 rh5 ds5 ej5 i2
    have kk5:Kept H1 H5:=kp.trans (k2.trans (k3.trans (k4.trans kp5)))
    by_cases hi5:i2<ds5.length
    ·obtain⟨g5,y5⟩:=jo5.1 ds5[i2] (G0b hi5)
     refine .inr ⟨g5,λx6 H6 yy6=> ?_⟩
     obtain⟨k6,rh6,r6⟩:=y5 x6 H6 yy6
     refine⟨.set x6 un,?_⟩
     have rs6:=(rs3.mono (k4.trans (kp5.trans k6))).set r6 i'
     refine LT.bind rs6 rh6 (go5 ds5[i2] (G0b hi5)) λb h7 H7 k7 rs7 rh7 q7=> ?_
     cases b with
     |true=>
      rw [if_pos rfl] at q7 ⊢
      exact LE.bind rs7 rh7 q7 λd8 v8 h8 H8 k8 rs8 rh8 r8 ⟨h9,sb,w9⟩=>⟨n2-(i2+1),by omega,rfl,kp5.trans (k6.trans (k7.trans k8)),yd5++ [d8],h9,(ry5.mono (k6.trans (k7.trans k8))).append (.cons r8 .nil),rh8.sub sb,w9⟩
     |false=>
      rw [if_neg G0s] at q7 ⊢
      obtain⟨h9,sb,w9⟩:=q7
      exact⟨n2-(i2+1),by omega,rfl,kp5.trans (k6.trans k7),yd5,h9,ry5.mono (k6.trans k7),rh7.sub sb,w9⟩
    ·obtain⟨h9,sb,w9⟩:=stop5 (G2J.mp hi5)
     exact .inl ⟨jo5.2 (G2J.mp hi5),n-(i+1),by omega,rfl,kk5,yd5,h9,ry5,rh5.sub sb,w9⟩
   |false=>
    rw [if_neg G0s] at q3 ⊢
    obtain⟨h5,sb,w5⟩:=q3
    exact⟨n-(i+1),by omega,rfl,kp.trans (k2.trans k3),yd,h5,ry.mono (k2.trans k3),rh3.sub sb,w5⟩
  ·refine .inl ⟨jo'.2 (G2J.mp hi),λa ha=>p (.lst a) (.ref a) _ _ (kk.trans (.new ha)) (rh'.newL ha ry) ⟨rfl,ys,jaj⟩ (stop (G2J.mp hi) a (rh'.free ha))⟩
def jc3:RD2:=λx y h Q=>match x,y with
 | .int i,.int j=>Q (.int (i+j)) h
 | .tup a,.tup b=>a.length+b.length<=sizeLine/\Q (.tup (a++b)) h
 | .lst a,.lst b=> ∃xs ys,h a=some xs/\h b=some ys/\xs.length+ys.length<=sizeLine/\ ∀p,h p=none->Q (.lst p) (jbp h p (xs++ys))
 |_,_=>False
def jc4:RD2:=λx y h Q=>match x,y with
 | .int i,.int j=>Q (.int (i-j)) h
 |_,_=>False
def jcQ:RD2:=λx y h Q=>match x,y with
 | .int i,.int j=>CMul i j/\Q (.int (i*j)) h
 | .lst a,.int k=> ∃xs,h a=some xs/\ -(2^63)<=k/\k<2^63/\xs.length*k.toNat<=sizeLine/\ ∀p,h p=none->Q (.lst p) (jbp h p (List.replicate k.toNat xs).flatten)
 |_,_=>False
def jc5:RD2:=λx y h Q=>match x,y with
 | .int i,.int j=>0<j/\Q (.int (i%j)) h
 |_,_=>False
def ja9:RD2:=λx y h Q=>match x,y with
 | .int i,.int j=>jpw i j/\Q (.int (i / j)) h
 |_,_=>False
def jc6:RD2:=λx y h Q=>match x,y with
 | .int i,.int j=>jqA i j/\Q (.int (i^j.toNat)) h
 |_,_=>False
def jcr (p:Int->Int->Bool):RD2:=λx y h Q=>match x,y with
 | .int i,.int j=>Q (.bl (p i j)) h
 |_,_=>False
def eqD:RD2:=λx y h Q=>match x,y with
 | .int i,.int j=>Q (.bl (decide (i=j))) h
 | .bl i,.bl j=>Q (.bl (decide (i=j))) h
 | .str i,.str j=>Q (.bl (decide (i=j))) h
 |_,_=>False
def neD:RD2:=λx y h Q=>match x,y with
 | .int i,.int j=>Q (.bl (!decide (i=j))) h
 | .bl i,.bl j=>Q (.bl (!decide (i=j))) h
 | .str i,.str j=>Q (.bl (!decide (i=j))) h
 |_,_=>False
section
variable {X:Cx}
theorem jgL {f:Value->Value->Sem Value} {C:Int->Int->Prop} {g:Int->Int->V} {gd:Int->Int->D} {r:RD2} (ho:OpR X f (rI C g)) (hg: ∀i j H,RelD X.K H (gd i j) (g i j))
 (hr: ∀x y h Q,r x y h Q-> ∃i j,x= .int i/\y= .int j/\C i j/\Q (gd i j) h):OpQ X f r:=ho.imp λx y H Q ⟨dx,dy,h,Qd,rx,ry,rh,q,p⟩=>by
 obtain⟨i,j,e1,e2,c,q'⟩:=hr dx dy h Qd q
 subst e1 e2
 exact⟨i,j,rx,ry,c,p _ _ _ _ (.refl H) rh (hg i j H) q'⟩
theorem jdq {f:Value->Value->Sem Value} {g:Int->Int->V} {gd:Int->Int->D} {r:RD2} (ho:OpR X f (rI0 g)) (hg: ∀i j H,RelD X.K H (gd i j) (g i j))
 (hr: ∀x y h Q,r x y h Q-> ∃i j,x= .int i/\y= .int j/\Q (gd i j) h):OpQ X f r:=ho.imp λx y H Q ⟨dx,dy,h,Qd,rx,ry,rh,q,p⟩=>by
 obtain⟨i,j,e1,e2,q'⟩:=hr dx dy h Qd q
 subst e1 e2
 exact⟨i,j,rx,ry,p _ _ _ _ (.refl H) rh (hg i j H) q'⟩
theorem jiQ:OpQ X (binaryOp .Sub) jc4:=jdq (gd:=λi j=> .int (i-j)) jnu (λ_ _ _=>rfl) λx y h Q q=>by
 cases x<;>cases y<;>first|exact False.elim q|exact⟨_,_,rfl,rfl,q⟩
theorem jdr:OpQ X (binaryOp .Mod) jc5:=jgL (gd:=λi j=> .int (i%j)) jnv (λ_ _ _=>rfl) λx y h Q q=>by
 cases x<;>cases y<;>first|exact False.elim q|exact⟨_,_,rfl,rfl,q.1,q.2⟩
theorem jl4:OpQ X (binaryOp .FloorDiv) ja9:=jgL (gd:=λi j=> .int (i / j)) jlt (λ_ _ _=>rfl) λx y h Q q=>by
 cases x<;>cases y<;>first|exact False.elim q|exact⟨_,_,rfl,rfl,q.1,q.2⟩
theorem jhf:OpQ X (binaryOp .Pow) jc6:=jgL (gd:=λi j=> .int (i^j.toNat)) jnw (λ_ _ _=>rfl) λx y h Q q=>by
 cases x<;>cases y<;>first|exact False.elim q|exact⟨_,_,rfl,rfl,q.1,q.2⟩
theorem jfz {p:Int->Int->Bool}: ∀x y h Q,jcr p x y h Q-> ∃i j,x= .int i/\y= .int j/\Q (.bl (p i j)) h:=λx y h Q q=>by
 cases x<;>cases y<;>first|exact False.elim q|exact⟨_,_,rfl,rfl,q⟩
theorem jkg:OpQ X (compareOp .Lt) (jcr λi j=>decide (i<j)):=jdq (gd:=λi j=> .bl (decide (i<j))) jpx (λ_ _ _=>rfl) jfz
theorem jhN:OpQ X (compareOp .LtE) (jcr λi j=>decide (i<=j)):=jdq (gd:=λi j=> .bl (decide (i<=j))) jpy (λ_ _ _=>rfl) jfz
theorem jp1:OpQ X (compareOp .Gt) (jcr λi j=>decide (j<i)):=jdq (gd:=λi j=> .bl (decide (j<i))) jpz (λ_ _ _=>rfl) jfz
theorem jkh:OpQ X (compareOp .GtE) (jcr λi j=>decide (j<=i)):=jdq (gd:=λi j=> .bl (decide (j<=i))) jpA (λ_ _ _=>rfl) jfz
theorem jm5 {α:Type} [DecidableEq α] {f:α->V} (hf: ∀a b,f a=f b->a=b) (a b:α):decide (f a=f b)=decide (a=b):=by
 by_cases h:a=b
 ·subst h;simp
 ·rw [G0R h,G0R (λe=>h (hf a b e))]
theorem oq_eq:OpQ X (compareOp .Eq) eqD:=op_eq.imp λx y H Q ⟨dx,dy,h,Qd,rx,ry,rh,q,p⟩=>by
 cases dx<;>cases dy<;>first
  |exact False.elim q
  |(cases (show x= .int _ from rx);cases (show y= .int _ from ry);refine⟨rfl,p _ _ _ _ (.refl H) rh ?_ q⟩;rw [jm5 (f:=V.int) (λa b e=>by cases e;rfl)];rfl)
  |(cases (show x= .bl _ from rx);cases (show y= .bl _ from ry);refine⟨rfl,p _ _ _ _ (.refl H) rh ?_ q⟩;rw [jm5 (f:=V.bl) (λa b e=>by cases e;rfl)];rfl)
  |(cases (show x= .str _ from rx);cases (show y= .str _ from ry);refine⟨rfl,p _ _ _ _ (.refl H) rh ?_ q⟩;rw [jm5 (f:=V.str) (λa b e=>by cases e;rfl)];rfl)
theorem oq_ne:OpQ X (compareOp .NotEq) neD:=op_ne.imp λx y H Q ⟨dx,dy,h,Qd,rx,ry,rh,q,p⟩=>by
 cases dx<;>cases dy<;>first
  |exact False.elim q
  |(cases (show x= .int _ from rx);cases (show y= .int _ from ry);refine⟨rfl,p _ _ _ _ (.refl H) rh ?_ q⟩;rw [jm5 (f:=V.int) (λa b e=>by cases e;rfl)];rfl)
  |(cases (show x= .bl _ from rx);cases (show y= .bl _ from ry);refine⟨rfl,p _ _ _ _ (.refl H) rh ?_ q⟩;rw [jm5 (f:=V.bl) (λa b e=>by cases e;rfl)];rfl)
  |(cases (show x= .str _ from rx);cases (show y= .str _ from ry);refine⟨rfl,p _ _ _ _ (.refl H) rh ?_ q⟩;rw [jm5 (f:=V.str) (λa b e=>by cases e;rfl)];rfl)
def jof (K:PySem.W.Frag):R2:=λx y H Q=> ∃a b xs ys,x= .ref a/\y= .ref b/\SqT K H a xs/\SqT K H b ys/\xs= []/\Q (.ref b) H
theorem op_catT0:OpR X (binaryOp .Add) (jof X.K):=by
 intro pins s σ H x y v u Q I rx ry h
 obtain⟨a,b,xs,ys,rfl,rfl,ha,hb,hx,q⟩:=h
 cases rx
 cases ry
 obtain⟨its,r1,p1,_⟩:=I.tuple ha
 obtain⟨its2,r2,p2,_⟩:=I.tuple hb
 have hv:its= []:=r1.nil_iff.mpr hx
 obtain⟨⟨cls,dd,data,sl⟩,ho,hc,n,hd⟩:=id p1
 obtain⟨⟨cls2,dd2,data2,sl2⟩,ho2,hc2,n2,hd2⟩:=id p2
 simp only at hc hd hc2 hd2
 subst hc hd hc2 hd2
 exact concat_meets ⟨_,ho,rfl⟩ ⟨_,ho2,rfl⟩ G3B seq_tuple_add G2E G2z (G2t _ _)
  (tuple_addW0 a b its.toArray its2.toArray n n2 dd dd2 sl sl2 (by simp [hv])) ⟨ho,ho2,.ref b,H,I,rfl,q⟩
theorem jaB:OpQ X (binaryOp .Add) jc3:=(op_add.or (op_catT.or (op_catT0.or jnF))).imp λx y H Q ⟨dx,dy,h,Qd,rx,ry,rh,q,p⟩=>by
 cases dx<;>cases dy<;>first
  |exact False.elim q
  |skip
 ·exact .inl ⟨_,_,rx,ry,p (.int _) _ _ _ (.refl H) rh rfl q⟩
 ·rename_i ds es
  obtain⟨a,vs,e1,h1,r1⟩:=(show ∃a vs,x= .ref a/\H a=some (.tup vs)/\RelDs X.K H ds vs from rx)
  obtain⟨b,us,e2,h2,r2⟩:=(show ∃a vs,y= .ref a/\H a=some (.tup vs)/\RelDs X.K H es vs from ry)
  subst e1 e2
  obtain⟨hz,q⟩:=q
  by_cases hv:vs= []
  ·subst hv
   have e:ds= []:=G18.mp r1.length
   subst e
   exact .inr (.inr (.inl ⟨a,b,[],us,rfl,rfl,SqT.of h1,SqT.of h2,rfl,p (.tup es) _ _ _ (.refl H) rh ⟨b,us,rfl,h2,r2⟩ q⟩))
  ·refine .inr (.inl ⟨a,b,vs,us,rfl,rfl,SqT.of h1,SqT.of h2,hv,by rw [<-r1.length,<-r2.length];exact hz,λe=> ?_,λ_ c hc=> ?_⟩)
   ·subst e
    have e:es= []:=G18.mp r2.length
    subst e
    rw [G1t] at q
    exact p (.tup ds) _ _ _ (.refl H) rh ⟨a,vs,rfl,h1,r1⟩ q
   ·exact p (.tup (ds++es)) _ _ _ (.new hc) (rh.new hc) ⟨c,vs++us,rfl,jaj,(r1.append r2).mono (.new hc)⟩ q
 ·rename_i a b
  obtain⟨xs,ys,h1,h2,hz,q⟩:=q
  obtain⟨vs,e1,r1⟩:=rh a xs h1
  obtain⟨us,e2,r2⟩:=rh b ys h2
  refine .inr (.inr (.inr ⟨a,b,vs,us,rx.1,ry.1,e1,e2,by rw [<-r1.length,<-r2.length];exact hz,λc hc=> ?_⟩))
  exact p (.lst c) _ _ _ (.new hc) (rh.newL hc (r1.append r2)) ⟨rfl,_,jaj⟩ (q c (rh.free hc))
theorem RelDs.flat {K:PySem.W.Frag} {H:Hp} {ds:List D} {vs:List V} (r:RelDs K H ds vs): ∀k:Nat,RelDs K H (List.replicate k ds).flatten (List.replicate k vs).flatten
 |0=>by simp;exact .nil
 |k+1=>by rw [G1y,G1y,G13,G13];exact r.append (RelDs.flat r k)
theorem oq_mul:OpQ X (binaryOp .Mult) jcQ:=(op_mul.or jnG).imp λx y H Q ⟨dx,dy,h,Qd,rx,ry,rh,q,p⟩=>by
 cases dx<;>cases dy<;>first
  |exact False.elim q
  |skip
 ·exact .inl ⟨_,_,rx,ry,q.1,p (.int _) _ _ _ (.refl H) rh rfl q.2⟩
 ·obtain⟨xs,h1,b1,b2,hz,q⟩:=q
  obtain⟨vs,e1,r1⟩:=rh _ xs h1
  refine .inr ⟨_,_,vs,rx.1,ry,e1,b1,b2,by rw [<-r1.length];exact hz,λc hc=> ?_⟩
  exact p (.lst c) _ _ _ (.new hc) (rh.newL hc (r1.flat _)) ⟨rfl,_,jaj⟩ (q c (rh.free hc))
end
def ixD:RD2:=λx y h Q=>match x,y with
 | .tup ds,.int i=> ∃d,atI ds i=some d/\Q d h
 | .lst a,.int i=> ∃ds d,h a=some ds/\atI ds i=some d/\Q d h
 | .scr ns,.int i=> ∃n,atI ns i=some n/\Q (.int n) h
 |_,_=>False
theorem jiR {K:PySem.W.Frag} {H:Hp} {ds:List D} {vs:List V} (r:RelDs K H ds vs) {i:Int} {d:D} (e:atI ds i=some d): ∃v,atI vs i=some v/\RelD K H d v:=by
 unfold atI at e ⊢
 rw [<-r.length]
 cases q:ixN ds.length i with
 |none=>rw [q] at e;cases e
 |some j=>rw [q] at e;exact r.get e
theorem jl5 {α β:Type} (f:α->β) {xs:List α} {i:Int} {x:α} (e:atI xs i=some x):atI (xs.map f) i=some (f x):=by
 unfold atI at e ⊢
 rw [G0c]
 cases q:ixN xs.length i with
 |none=>rw [q] at e;cases e
 |some j=>
  rw [q] at e
  show (xs.map f)[j]? =_
  rw [G0H,(show xs[j]? =some x from e)];rfl
section
variable {X:Cx} {a b e:Expr} {ta tb te:TED} {pos p2:Pos}
theorem jp2: ∀σ H Q,LE X.K (dOp ixD ta tb) σ H Q->tOp (rIx X.K) (LE X.K ta) (LE X.K tb) σ H Q:=λσ H Q ⟨σd,h,Qd,rs,rh,t,p⟩=>
 LE.bind rs rh t λdx x h1 H1 k1 rs1 rh1 r1 t1=>LE.bind rs1 rh1 t1 λdy y h2 H2 k2 rs2 rh2 ry q=>by
  have rx:=r1.mono k2
  have kk:=k1.trans k2
  cases dx<;>cases dy<;>first
   |exact False.elim q
   |skip
  ·rename_i ds i
   obtain⟨d,e,q⟩:=q
   obtain⟨a,vs,e1,hH,r⟩:=(show ∃a vs,x= .ref a/\H2 a=some (.tup vs)/\RelDs X.K H2 ds vs from rx)
   obtain⟨v,e2,rv⟩:=jiR r e
   exact .inr (.inl ⟨a,vs,i,v,e1,ry,SqT.of hH,e2,p _ _ _ _ kk rh2 rv q⟩)
  ·rename_i a i
   obtain⟨ds,d,hd,e,q⟩:=q
   obtain⟨vs,hH,r⟩:=rh2 a ds hd
   obtain⟨v,e2,rv⟩:=jiR r e
   exact .inl ⟨a,vs,i,v,rx.1,ry,SqL.of hH,e2,p _ _ _ _ kk rh2 rv q⟩
  ·rename_i ns i
   obtain⟨n,e,q⟩:=q
   obtain⟨a,e1,hS⟩:=(show ∃a,x= .ref a/\Scr X.K H2 a ns from rx)
   exact .inl ⟨a,_,i,.int n,e1,ry,hS.sq,jl5 V.int e,p (.int n) _ _ _ kk rh2 rfl q⟩
theorem qix (ha:QE X a ta) (hb:QE X b tb) (hs:jgF b):QE X (.Subscript a b pos) (dOp ixD ta tb):=(jpE jnD ha hb hs).imp jp2
end
def jcR:RDn:=λds h Q=>match ds with
 | [.tup xs]=>Q (.int xs.length) h
 | [.lst a]=> ∃xs,h a=some xs/\Q (.int xs.length) h
 | [.scr ns]=>Q (.int ns.length) h
 |_=>False
def jcS:RDn:=λds h Q=>match ds with
 | [.int i]=>Q (.int i) h
 | [.bl k]=>Q (.int (if k then 1 else 0)) h
 |_=>False
def jcT:RDn:=λds h Q=>match ds with
 | [.int i,.int j]=>Q (.int (if j>i then j else i)) h
 |_=>False
def jas:RDn:=λds h Q=>match ds with
 | [.int i,.int j]=>jpw i j/\Q (.tup [.int (i / j),.int (i%j)]) h
 |_=>False
def jaE:RDn:=λds h Q=>match ds with
 | [.tup xs]=>Q (.tup xs) h
 | [.lst a]=> ∃xs,h a=some xs/\Q (.tup xs) h
 |_=>False
def jav:RDn:=λds h Q=>match ds with
 | [.lst a]=> ∃xs,h a=some xs/\Q (.tup xs) (jdL h a)
 |_=>False
def ja2:RDn:=λds h Q=>match ds with
 | [.tup xs]=> ∀p,h p=none->Q (.lst p) (jbp h p xs)
 | [.lst a]=> ∃xs,h a=some xs/\ ∀p,h p=none->Q (.lst p) (jbp h p xs)
 |_=>False
section
variable {X:Cx}
theorem jbk:jdo X (.builtin "len") jcR:=call_len_seq.imp λxs H Q ⟨ds,h,Qd,r,rh,q,p⟩=>by
 unfold jcR at q
 split at q
 ·rename_i es
  obtain⟨v,e,r1⟩:=jaI r
  obtain⟨a,vs,e1,hH,r2⟩:=(show ∃a vs,v= .ref a/\H a=some (.tup vs)/\RelDs X.K H es vs from r1)
  subst e e1
  exact⟨a,vs,rfl,.inr (SqT.of hH),by rw [<-r2.length];exact p (.int _) _ _ _ (.refl H) rh rfl q⟩
 ·rename_i a
  obtain⟨es,hd,q⟩:=q
  obtain⟨v,e,r1⟩:=jaI r
  obtain⟨vs,hH,r2⟩:=rh a es hd
  have e1:v= .ref a:=r1.1
  subst e e1
  exact⟨a,vs,rfl,.inl (SqL.of hH),by rw [<-r2.length];exact p (.int _) _ _ _ (.refl H) rh rfl q⟩
 ·rename_i ns
  obtain⟨v,e,r1⟩:=jaI r
  obtain⟨a,e1,hS⟩:=(show ∃a,v= .ref a/\Scr X.K H a ns from r1)
  subst e e1
  exact⟨a,_,rfl,.inl hS.sq,by rw [G0c];exact p (.int _) _ _ _ (.refl H) rh rfl q⟩
 ·exact q.elim
theorem jk3:jdo X (.type "int") jcS:=call_int1.imp λxs H Q ⟨ds,h,Qd,r,rh,q,p⟩=>by
 unfold jcS at q
 split at q
 ·rename_i i
  obtain⟨v,e,r1⟩:=jaI r
  cases (show v= .int i from r1)
  exact .inl ⟨i,e,p (.int i) _ _ _ (.refl H) rh rfl q⟩
 ·rename_i k
  obtain⟨v,e,r1⟩:=jaI r
  cases (show v= .bl k from r1)
  exact .inr ⟨k,e,p (.int _) _ _ _ (.refl H) rh rfl q⟩
 ·exact q.elim
theorem jog (hc:X.calm=true):jdo X (.builtin "max") jcT:=(jit hc).imp λxs H Q ⟨ds,h,Qd,r,rh,q,p⟩=>by
 unfold jcT at q
 split at q
 ·rename_i i j
  obtain⟨v,w,e,r1,r2⟩:=jdp r
  cases (show v= .int i from r1)
  cases (show w= .int j from r2)
  exact⟨i,j,e,p (.int _) _ _ _ (.refl H) rh rfl q⟩
 ·exact q.elim
theorem cq_tuple:jdo X (.type "tuple") jaE:=call_tuple_of.imp λxs H Q ⟨ds,h,Qd,r,rh,q,p⟩=>by
 unfold jaE at q
 split at q
 ·rename_i es
  obtain⟨v,e,r1⟩:=jaI r
  obtain⟨a,vs,e1,hH,r2⟩:=(show ∃a vs,v= .ref a/\H a=some (.tup vs)/\RelDs X.K H es vs from r1)
  subst e e1
  exact⟨a,vs,rfl,.inr ⟨SqT.of hH,p (.tup es) _ _ _ (.refl H) rh ⟨a,vs,rfl,hH,r2⟩ q⟩⟩
 ·rename_i a
  obtain⟨es,hd,q⟩:=q
  obtain⟨v,e,r1⟩:=jaI r
  obtain⟨vs,hH,r2⟩:=rh a es hd
  have e1:v= .ref a:=r1.1
  subst e e1
  exact⟨a,vs,rfl,.inl ⟨SqL.of hH,λc hc=>p (.tup es) _ _ _ (.new hc) (rh.new hc) ⟨c,vs,rfl,jaj,r2.mono (.new hc)⟩ q⟩⟩
 ·exact q.elim
theorem jey:jdo X (.type "tuple") jav:=cq_tuple.imp λxs H Q ⟨ds,h,Qd,r,rh,q,p⟩=>by
 unfold jav at q
 split at q
 ·rename_i a
  obtain⟨es,hd,q⟩:=q
  exact⟨[.lst a],h,λd h' =>Qd d (jdL h' a),r,rh,⟨es,hd,q⟩,λd v h' H' k rh' rd q' =>p d v _ H' k (rh'.sub (Sub.drop h' a)) rd q'⟩
 ·exact q.elim
theorem jiS:jdo X (.type "list") ja2:=call_list_of.imp λxs H Q ⟨ds,h,Qd,r,rh,q,p⟩=>by
 unfold ja2 at q
 split at q
 ·rename_i es
  obtain⟨v,e,r1⟩:=jaI r
  obtain⟨a,vs,e1,hH,r2⟩:=(show ∃a vs,v= .ref a/\H a=some (.tup vs)/\RelDs X.K H es vs from r1)
  subst e e1
  exact⟨a,vs,rfl,.inr (SqT.of hH),λc hc=>p (.lst c) _ _ _ (.new hc) (rh.newL hc r2) ⟨rfl,_,jaj⟩ (q c (rh.free hc))⟩
 ·rename_i a
  obtain⟨es,hd,q⟩:=q
  obtain⟨v,e,r1⟩:=jaI r
  obtain⟨vs,hH,r2⟩:=rh a es hd
  have e1:v= .ref a:=r1.1
  subst e e1
  exact⟨a,vs,rfl,.inl (SqL.of hH),λc hc=>p (.lst c) _ _ _ (.new hc) (rh.newL hc r2) ⟨rfl,_,jaj⟩ (q c (rh.free hc))⟩
 ·exact q.elim
end
def jf9:D->Option String
 | .non=>some "NoneType" | .bl _=>some "bool" | .int _=>some "int" | .str _=>some "str" | .tup _=>some "tuple" | .lst _=>some "list" | .dic _ _=>some "dict" | .dni _ _=>some "dict" | .scr _=>none| .exc _=>none| .fn _=>none
def jl6 (T:String) (n:String):Bool:=n==T||(T== "int" &&n== "bool")
theorem jki {K:PySem.W.Frag} {H:Hp} {d:D} {v:V} {n:String} (r:RelD K H d v) (e:jf9 d=some n):TyOf K H v (.type n):=by
 cases d with
 |non=>cases (show v= .non from r);cases e;exact .non
 |bl b=>cases (show v= .bl b from r);cases e;exact .bl b
 |int i=>cases (show v= .int i from r);cases e;exact .int i
 |str x=>cases (show v= .str x from r);cases e;exact .str x
 |tup ds=>
  obtain⟨a,vs,e1,hH,_⟩:=(show ∃a vs,v= .ref a/\H a=some (.tup vs)/\RelDs K H ds vs from r)
  subst e1;cases e;exact .tup hH
 |lst a=>
  obtain⟨e1,vs,hH⟩:=(show v= .ref a/\ ∃vs,H a=some (.lst vs) from r)
  subst e1;cases e;exact .lst hH
 |dic x i=>
  obtain⟨a,e1,hH⟩:=(show ∃a,v= .ref a/\H a=some (.dK [(Sum.inr x,V.int i)]) from r)
  subst e1;cases e;exact .dK hH
 |dni x i=>
  obtain⟨a,e1,hH⟩:=(show ∃a,v= .ref a/\H a=some (.dK [(Sum.inl x,V.int i)]) from r)
  subst e1;cases e;exact .dK hH
 |scr ns=>cases e
 |exc C=>cases e
 |fn a=>cases e
def jl7:List String:= ["NoneType","bool","int","str","tuple","list","dict"]
theorem jhO {d:D} {n:String} (e:jf9 d=some n):n∈jl7:=by
 cases d<;>cases e<;>decide
def jp3 (K:PySem.W.Frag):Prop:= ∀n∈jl7,∀T∈ ["tuple","int","bool","list","str"],PySem.W.kitOne K (.type n) (.type T)=some (jl6 T n)
theorem jl8 (K:PySem.W.Frag):jp3 K:=by
 intro n hn T hT
 simp only [jl7,G0r,G0U,G10] at hn hT
 rcases hn with rfl|rfl|rfl|rfl|rfl|rfl|rfl<;>rcases hT with rfl|rfl|rfl|rfl|rfl<;>with_unfolding_all rfl
theorem jiT {X:Cx} (T:String):CallR X (.builtin "isinstance") (λxs H Q=> ∃x t b,xs= [x,.ty T]/\TyOf X.K H x t/\PySem.W.kitOne X.K t (.type T)=some b/\Q (.bl b) H):=by
 intro pins s σ H xs us Q I r h
 obtain⟨x,t,b,rfl,ty,e,q⟩:=h
 obtain⟨u,w',rfl,rx,rt⟩:=jj4 r
 cases (show w' =Value.type T from rt)
 exact jiv I rx ty e λtk=>⟨.bl b,H,I.tok tk,rfl,q⟩
def dIs (T:String) (ta:TED):TED:=λσ h Q=>ta σ h λx h1=> ∃n,jf9 x=some n/\Q (.bl (jl6 T n)) h1
theorem jp4 {X:Cx} {a:Expr} {ta:TED} {T:String} {t:Str} {p p2 pos:Pos} (hT:T∈ ["tuple","int","bool","list","str"]) (hg:Gl X "isinstance") (hm:X.mg "isinstance" =none) (hg2:Gl X t) (hm2:X.mg t=none) (hv:bootBuiltins t=some (.type T)) (ha:QE X a ta)
 (hn:t≠ "__name__" :=by decide) (hd:(t==("__debug__" :Str))=false:=by decide)
 (h1:starEach [a,.Name t p2] X.env=(false,eval a X.env)::starEach [.Name t p2] X.env:=by rfl) (h2:(backTo pos (starEach [.Name t p2] X.env)).any (·.1)=false:=by rfl):
 QE X (.Call (.Name "isinstance" p) [a,.Name t p2] [] pos) (dIs T ta):=
 (jec (jiT T) hg hm G2e (jbS ha (jbS (jil (v:= .ty T) hg2 hm2 hv rfl hn hd) pa_nil (by rfl)) h1) (by decide) (by decide) h1 h2).imp
  λσ H Q ⟨σd,h,Qd,rs,rh,t,p⟩=>LE.bind rs rh t λd v h1 H1 k1 rs1 rh1 r1 ⟨n,e,q⟩=>⟨v,.type n,jl6 T n,rfl,jki r1 e,jl8 _ n (jhO e) T hT,p (.bl _) _ _ _ k1 rh1 rfl q⟩
theorem jiU (bs:List Bool):(List.range bs.length).all (λi=>bs.getD i false)=bs.all id:=by
 induction bs with
 |nil=>rfl
 |cons b bs ih=>
  rw [G0h,List.range_succ_eq_map,List.all_cons,G1U,List.all_cons]
  show (b&&_)=(b&&bs.all id)
  rw [<-ih]
  rfl
theorem jiV {bs:List Bool} {its:List Value} (r:Vals (bs.map V.bl) its) {i:Nat} {v:Value} (e:its[i]? =some v):v= .bool (bs.getD i false):=by
 have hl:=r.length
 rw [G0c] at hl
 have hi:i<its.length:=(G0o.mp e).1
 have hb:(bs.map V.bl)[i]? =some (.bl bs[i]):=by rw [G0H,G0b (by omega)];rfl
 obtain⟨u,e1,r1⟩:=r.get hb
 rw [e] at e1;cases e1
 rw [G03,G0b (by omega)]
 exact r1
section
variable {X:Cx}
theorem jfA (hc:X.calm=true):CallR X (.builtin "all") (λxs H Q=> ∃ (a:Addr) (bs:List Bool),xs= [.ref a]/\SqL X.K H a (bs.map V.bl)/\Q (.bl (bs.all id)) H):=by
 intro pins s σ H xs us Q I r h
 obtain⟨a,bs,rfl,hS,q⟩:=h
 obtain⟨u,rfl,ru⟩:=je2 r
 cases ru
 obtain⟨its,rv,pl,hz⟩:=I.list hS
 have hl:=pl.isList
 have hlt:a<s.heap.objs.size:=by obtain⟨_,e,_⟩:=hl;exact G0A e
 refine call_all_walk (G3l hl ?_)
 refine⟨s.heap.objs.size,_,_,_,_,_,λi=>bs.getD i false,rfl,Walks.list (A:=X.A.in1) (show X.A.in1.handled=none from I.ok.hd hc) s.heap.objs.size a (G0Q hlt) its.toArray,⟨⟨_,G0S _ rfl,rfl,rfl⟩,hl.push _⟩,?_,λh' tk hk=> ?_⟩
 ·intro i v s' Q' E' hP hQ
  have e:its[i]? =some v:=by simpa using hP
  rw [jiV rv e]
  exact G1i hQ
 ·have hn:its.toArray.size=bs.length:=by rw [G0u,<-rv.length,G0c]
  rw [hn,jiU]
  exact⟨.bl _,H,I.kept (t' :=tk) (λb o e=>hk b o (λz=>by rw [G0g.mp z] at e;exact absurd (G0A e) (G1n _)) (G0f _ e)),rfl,q⟩
theorem jez {K:PySem.W.Frag} {H:Hp}: ∀ {bs:List Bool} {vs:List V},RelDs K H (bs.map D.bl) vs->vs=bs.map V.bl
 | [],_,h=>h
 |b::bs,vs,h=>by
  obtain⟨v,r,e,h1,h2⟩:=(show ∃v r,vs=v::r/\RelD K H (.bl b) v/\RelDs K H (bs.map D.bl) r from h)
  rw [e,jez h2,(show v= .bl b from h1)];rfl
def jp5:RDn:=λds h Q=> ∃ (a:Addr) (bs:List Bool),ds= [.lst a]/\h a=some (bs.map D.bl)/\Q (.bl (bs.all id)) (jdL h a)
theorem jhg (hc:X.calm=true):jdo X (.builtin "all") jp5:=(jfA hc).imp λxs H Q ⟨ds,h,Qd,r,rh,⟨a,bs,e,hd,q⟩,p⟩=>by
 subst e
 obtain⟨v,e,r1⟩:=jaI r
 obtain⟨vs,hH,r2⟩:=rh a _ hd
 have e1:v= .ref a:=r1.1
 rw [jez r2] at hH
 subst e e1
 exact⟨a,bs,rfl,SqL.of hH,p (.bl _) _ _ _ (.refl H) (rh.sub (Sub.drop h a)) rfl q⟩
end
def jcU (to:TED) (te:TED):TED:=λσ h Q=>to σ h λx h1=> ∃a,x= .lst a/\te σ h1 λy h2=> ∃xs,h2 a=some xs/\xs.length<sizeLine/\Q .non (jbp h2 a (xs++ [y]))
section
variable {X:Cx} {o e i:Expr} {to te ti:TED} {apos cpos pos:Pos}
theorem jrn (ho:QE X o to) (he:QE X e te) (hbase:attributeBase o "append" X.env (eval o X.env)=eval o X.env:=by rfl)
 (hfew:((backTo cpos (starEach [e] X.env)).all (λx=> !x.1)&&(backToKw cpos (keywordEach [] X.env)).all (λx=>x.1.isSome)&&decide ([e].length+([]:List Keyword).length+(if ([]:List Keyword).isEmpty then 0 else 1)<30))=true:=by rfl)
 (hline:(apos.endLine==cpos.line)=true:=by rfl) (hs:starEach [e] X.env=(false,eval e X.env)::starEach [] X.env:=by rfl) (hplain:(backTo cpos (starEach [] X.env)).any (·.1)=false:=by rfl):
 QE X (.Call (.Attribute o "append" apos) [e] [] cpos) (jcU to te):=
 (jlE G2A PySem.F.slot_list_append PySem.F.type_list_append jiB ho (jbS he pa_nil hs) hbase hfew hline hs hplain).imp
  λσ H Q ⟨σd,h,Qd,rs,rh,t,p⟩=>LE.bind rs rh t λd v h1 H1 k1 rs1 rh1 r1 ⟨a,e,q⟩=>by
   subst e
   obtain⟨e1,vs,hH⟩:=(show v= .ref a/\ ∃vs,H1 a=some (.lst vs) from r1)
   subst e1
   refine⟨.inl ⟨rfl,vs,SqL.of hH⟩,?_⟩
   refine LE.bind rs1 rh1 q λy u h2 H2 k2 rs2 rh2 r2 ⟨xs,hx,hz,q2⟩=> ?_
   obtain⟨ws,hW,r3⟩:=rh2 a xs hx
   refine⟨a,ws,u,rfl,rfl,hW,by rw [<-r3.length];exact hz,p .non _ _ _ (k1.trans (k2.trans (.put hW))) (rh2.put hW (r3.append (.cons r2 .nil))) rfl q2⟩
def ja3 (to ti:TED):TGD:=λd σ h Q=>to σ h λo h1=>ti σ h1 λi h2=> ∃a k xs j,o= .lst a/\i= .int k/\h2 a=some xs/\ixN xs.length k=some j/\Q σ (jbp h2 a (xs.set j d))
theorem joh (ho:QE X o to) (hi:QE X i ti)
 (ha: ∀v,assign (.Subscript o i pos) X.env v=(do
  let ov <-holding [v] (eval o X.env)
  let iv <-holding [v,ov] (eval i X.env)
  standAt pos
  holding [v,ov,iv] (setItem ov iv v)
  release [v,ov,iv] []):=by intro _;rfl):QG X (.Subscript o i pos) (ja3 to ti):=
 (jnn ho hi jj9 ha).imp λv σ H Q ⟨d,σd,h,Qd,r,rs,rh,q,p⟩=>
  LE.bind rs rh q λd1 v1 h1 H1 k1 rs1 rh1 r1 q1=>LE.bind rs1 rh1 q1 λd2 v2 h2 H2 k2 rs2 rh2 r2 ⟨a,k,xs,j,e1,e2,hx,hj,q2⟩=>by
   subst e1 e2
   have e3:v1= .ref a:=(r1.mono k2).1
   obtain⟨ws,hW,r3⟩:=rh2 a xs hx
   refine⟨a,ws,k,j,e3,r2,hW,by rw [<-r3.length];exact hj,p _ _ _ _ (k1.trans (k2.trans (.put hW))) (rs2.mono (.put hW)) (rh2.put hW (RelDs.set ((r.mono k1).mono k2) j r3)) q2⟩
end
def jk4 (N:List Str) (sc:List (Str×NameKind)) (scope:Scope) (js:List Nat):Bool:=
 scope.kind== .function&&scope.names.all (λp=>p.2 != .cell||scope.names.lookup p.1==some .cell)&&scope.names.all (λp=>p.2 != .local||scope.names.lookup p.1==some .local)&&
 scope.names.all (λp=>p.2 != .free||sc.lookup p.1==some .cell||sc.lookup p.1==some .free)&&
 (List.range N.length).all λi=>(scope.names.lookup (N.getD i Str.empty) !=some .local&&scope.names.lookup (N.getD i Str.empty) !=some .cell)||js.contains i
theorem jaz {X:Cx} {scope:Scope} {js:List Nat} (h:jk4 X.N X.env.scope.names scope js=true):BlockOk X scope js:=by
 unfold jk4 at h
 simp only [G0T] at h
 obtain⟨⟨⟨⟨h1,h2⟩,h3⟩,h4⟩,h5⟩:=h
 refine⟨eq_of_beq h1,λp hp e=> ?_,λp hp e=> ?_,λp hp e=> ?_,λi x e1 e2=> ?_⟩
 ·have:=G0Y.mp h3 p hp;rw [e] at this;simpa using this
 ·have:=G0Y.mp h2 p hp;rw [e] at this;simpa using this
 ·have:=G0Y.mp h4 p hp;rw [e] at this;simpa using this
 ·have hi:i<X.N.length:=(G0o.mp e1).1
  have:=G0Y.mp h5 i (G1A.mpr hi)
  rw [G03,e1,Option.getD_some] at this
  rcases e2 with e2|e2<;>(rw [e2] at this;simpa using this)
theorem qpt {X:Cx} {e:Expr} {t:TTD} (h:QW X e t):QT X e t:=h.pt
theorem jgM {i:Nat} {js:List Nat} {ti:TID} {te:TED} {σ:SD} {h h1:HD} {Q:KD} {ds:List D} {j:ItD} (f:D->D) (hz:ds.length<=sizeLine) (hj:j h1=some ds)
 (ht: ∀R:ItD->HD->Prop,R j h1->ti σ h R) (he: ∀d∈ds,∀Q' :KD,Q' (f d) h1->te ((jaT js σ).set i (some d)) h1 Q') (hq: ∀p,h1 p=none->Q (.lst p) (jbp h1 p (ds.map f))):jex (bN i) js ti jgK te σ h Q:=by
 refine ht _ ⟨ds.length,λk ys h' =>h' =h1/\ys=(ds.take k).map f,⟨rfl,by simp⟩,?_⟩
 rintro k ys h' ⟨rfl,rfl⟩
 refine⟨by simp only [G0c,G0E];omega,ds,hj,G0k _,λhl p hp=> ?_,λd hd=>⟨_,rfl,?_⟩⟩
 ·rw [G0K hl];exact hq p hp
 ·unfold jgK
  dsimp only
  rw [if_pos rfl]
  refine he d (G0i hd) _ ⟨h',Sub.refl _,rfl,?_⟩
  rw [G1d,hd]
  simp
end L2
namespace HT
open PySem PySem.Spec PyProof.Rows
section
variable {prog:Program} {w:World} {A:Around} {E:Value->Shared->Prop} {s:Shared}
theorem jc7 {t sl:Addr} {items:Array Value} {vl vu:Value} {lo hi:Option Int} {Q:Value->Shared->Prop} (ht:IsTup s.heap t items) (hs:s.heap.IsSliceOf sl vl vu .none) (pl:IsPart vl lo) (pu:IsPart vu hi)
 (hw:sIx items.size 0 lo=0/\sIx items.size items.size hi=items.size) (h:Q (.ref t) s):wpAny (model prog w) A (getItem (.ref t) (.ref sl)) Q E s:=by
 obtain⟨os,hos,hcs,hds⟩:=id hs
 have hTs:s.TypeIs (.ref sl) "slice" :=⟨os,hos,hcs⟩
 unfold getItem
 try with_reducible refine G1w ?_
 first|refine wpAny_bind (G0j ?_)|skip
 refine wpAny_bind (G3p ht.typeIs (by decide) ?_)
 refine wpAny_bind (G1G (name:=Str.ofString "__getitem__") ht.typeIs G1c
  (G1D G1c ht.typeIs G21 ?_ (args_tuple_getitem _ _)))
 show wpAny _ _ (Builtin.Tuple.tupleItemsOf (.ref t) >>= _) _ _ s
 refine wpAny_bind (tupleItemsOf_ ht ?_)
 refine wpAny_bind (G3E hTs ?_)
 rw [if_pos (by decide)]
 refine wpAny_bind (jcf hs pl pu ?_)
 have hyes:((((sIx items.size 0 lo:Nat):Int)==0&&(1:Int)==1&&(sIx items.size items.size hi-sIx items.size 0 lo)==items.size)=true):=by
  rw [hw.1,hw.2];simp
 show wpAny _ _ (if (((sIx items.size 0 lo:Nat):Int)==0&&(1:Int)==1&&(sIx items.size items.size hi-sIx items.size 0 lo)==items.size)=true then _ else _) _ _ s
 rw [if_pos hyes]
 refine wpAny_bind (m:=Builtin.Tuple.tupleIsExact (.ref t)) ?_
 unfold Builtin.Tuple.tupleIsExact
 refine wpAny_bind (G3E ht.typeIs (G0j ?_))
 rw [if_pos (by decide)]
 exact wpAny_bind (G3k (G0j ⟨_,rfl,G0j h⟩))
end
end HT
namespace L2
open PySem PySem.Spec PyProof.Rows
def jro (K:PySem.W.Frag):V->Option Int->Option Int->Hp->VK->Prop:=λx lo hi H Q=> ∃a xs,x= .ref a/\SqT K H a xs/\(HT.sIx xs.length 0 lo=0/\HT.sIx xs.length xs.length hi=xs.length)/\Q (.ref a) H
theorem sl_whole {X:Cx}:SlR X (jro X.K):=by
 intro pins s σ H x v vl vu lo hi sl Q I rx hs pl pu h
 obtain⟨a,xs,rfl,hx,hw,q⟩:=h
 cases rx
 obtain⟨its,r,ht,hz⟩:=I.tuple hx
 have hlen:its.toArray.size=xs.length:=by rw [G0u];exact r.length.symm
 refine⟨"tuple",_,PyProof.Rows.slot_tuple_getitem.lookup,ht.typeIs,?_⟩
 exact HT.jc7 ht hs pl pu (by rw [hlen];exact hw) ⟨.ref a,H,I,rfl,q⟩
def jfB {α:Type} (xs:List α) (lo hi:Option Int):List α:=(xs.drop (HT.sIx xs.length 0 lo)).take (HT.sIx xs.length xs.length hi-HT.sIx xs.length 0 lo)
abbrev TOD:=SD->HD->(Option Int->HD->Prop)->Prop
def jaq:TOD:=λ_ h Q=>Q none h
def ja4 (t:TED):TOD:=λσ h Q=>t σ h λx h1=> ∃i,x= .int i/\Q (some i) h1
def LO (K:PySem.W.Frag) (t:TOD):TO:=λσ H Q=> ∃σd h Qd,RelS K H σd σ/\RelH K h H/\t σd h Qd/\ ∀o h' H',Kept H H' ->RelH K h' H' ->Qd o h' ->Q o H'
theorem LO.bind {K:PySem.W.Frag} {ta:TOD} {σ:St} {H:Hp} {σd:SD} {h:HD} {kd:Option Int->HD->Prop} {k:Option Int->Hp->Prop} (rs:RelS K H σd σ) (rh:RelH K h H) (t:ta σd h kd) (f: ∀o h' H',Kept H H' ->RelS K H' σd σ->RelH K h' H' ->kd o h' ->k o H'):LO K ta σ H k:=
 ⟨σd,h,kd,rs,rh,t,λo h' H' kp r1 q=>f o h' H' kp (rs.mono kp) r1 q⟩
theorem PO.imp {X:Cx} {e:Option Expr} {t t' :TO} (h:PO X e t) (i: ∀σ H Q,t' σ H Q->t σ H Q):PO X e t' :=λpins s σ H Q I q=>h pins s σ H Q I (i σ H Q q)
abbrev QO (X:Cx) (e:Option Expr) (t:TOD):Prop:=PO X e (LO X.K t)
theorem jl9 {X:Cx}:QO X none jaq:=po_none.imp λσ H Q ⟨σd,h,Qd,rs,rh,q,p⟩=>p none h H (.refl H) rh q
theorem jma {X:Cx} {e:Expr} {te:TED} (he:QE X e te):QO X (some e) (ja4 te):=(jlC he).imp λσ H Q ⟨σd,h,Qd,rs,rh,q,p⟩=>
 LE.bind rs rh q λd v h1 H1 k1 rs1 rh1 r1 ⟨i,e,q1⟩=>by subst e;exact⟨i,r1,p _ _ _ k1 rh1 q1⟩
def slD:D->Option Int->Option Int->HD->KD->Prop:=λx lo hi h Q=>match x with
 | .tup ds=>Q (.tup (jfB ds lo hi)) h
 | .scr ns=> ∀p,h p=none->Q (.lst p) (jbp h p ((jfB ns lo hi).map D.int))
 | .lst a=> ∃ds,h a=some ds/\ ∀p,h p=none->Q (.lst p) (jbp h p (jfB ds lo hi))
 |_=>False
def dSl (te:TED) (tl th:TOD):TED:=λσ h Q=>te σ h λx h1=>tl σ h1 λl h2=>th σ h2 λu h3=>slD x l u h3 Q
theorem jfC {K:PySem.W.Frag} {H:Hp} {ds:List D} {vs:List V} (r:RelDs K H ds vs) (lo hi:Option Int):RelDs K H (jfB ds lo hi) (jjT vs lo hi):=by
 unfold jfB jjT
 rw [r.length]
 exact(r.drop _).take _
theorem jmb {α β:Type} (f:α->β) (xs:List α) (lo hi:Option Int):jfB (xs.map f) lo hi=(jfB xs lo hi).map f:=by
 unfold jfB
 rw [G0c,List.map_take,List.map_drop]
theorem joi {X:Cx} {e:Expr} {te:TED} {lo hi:Option Expr} {tl th:TOD} {pos p2:Pos} (he:QE X e te) (hl:QO X lo tl) (hu:QO X hi th):QE X (.Subscript e (.Slice lo hi none p2) pos) (dSl te tl th):=
 (jj8 (sl_tup.or (sl_whole.or jlD)) he hl hu).imp λσ H Q ⟨σd,h,Qd,rs,rh,q,p⟩=>
  LE.bind rs rh q λd v h1 H1 k1 rs1 rh1 r1 q1=>LO.bind rs1 rh1 q1 λl h2 H2 k2 rs2 rh2 q2=>LO.bind rs2 rh2 q2 λu h3 H3 k3 rs3 rh3 q3=>by
   have rv:=(r1.mono k2).mono k3
   have kk:=k1.trans (k2.trans k3)
   cases d<;>first
    |exact False.elim q3
    |skip
   ·rename_i ds
    obtain⟨a,vs,e1,hH,r⟩:=(show ∃a vs,v= .ref a/\H3 a=some (.tup vs)/\RelDs X.K H3 ds vs from rv)
    by_cases hw:HT.sIx vs.length 0 l=0/\HT.sIx vs.length vs.length u=vs.length
    ·refine .inr (.inl ⟨a,vs,e1,SqT.of hH,hw,p (.tup (jfB ds l u)) _ _ _ kk rh3 ⟨a,vs,rfl,hH,?_⟩ q3⟩)
     have z:=jfC r l u
     have e:jjT vs l u=vs:=by unfold jjT;rw [hw.1,hw.2];simp
     rwa [e] at z
    ·exact .inl ⟨a,vs,e1,SqT.of hH,hw,λc hc=>p (.tup (jfB ds l u)) _ _ _ (kk.trans (.new hc)) (rh3.new hc) ⟨c,_,rfl,jaj,(jfC r l u).mono (.new hc)⟩ q3⟩
   ·rename_i a
    obtain⟨ds,hd,q3⟩:=q3
    obtain⟨vs,hH,r⟩:=rh3 a ds hd
    exact .inr (.inr ⟨a,vs,rv.1,SqL.of hH,λc hc=>p (.lst c) _ _ _ (kk.trans (.new hc)) (rh3.newL hc (jfC r l u)) ⟨rfl,_,jaj⟩ (q3 c (rh3.free hc))⟩)
   ·rename_i ns
    obtain⟨a,e1,hS⟩:=(show ∃a,v= .ref a/\Scr X.K H3 a ns from rv)
    refine .inr (.inr ⟨a,_,e1,hS.sq,λc hc=>p (.lst c) _ _ _ (kk.trans (.new hc)) (rh3.newL hc ?_) ⟨rfl,_,jaj⟩ (q3 c (rh3.free hc))⟩)
    have z:=jfC (jcA (K:=X.K) (H:=H3) ns) l u
    rwa [jmb] at z
end L2
namespace HT
open PySem PySem.Spec PyProof.Rows
open Sem (wp)
open Builtin
theorem jd5:fillsNumberSlot (.type "tuple") "mul" =pure false:=
 PySem.fillsNumberSlot_seq (id:= "tuple.__mul__") (r:=some (.builtin "tuple.__rmul__")) F.slot_tuple_mul.lookup (by decide +kernel) F.slot_tuple_rmul.lookup (by decide +kernel)
theorem jga:seqRepeat? (.type "tuple")=pure (some (.builtin "tuple.__mul__")):=by
 unfold seqRepeat?
 rw [PySem.seqSlot_of (T:= "tuple") (name:= "__mul__") (id:= "tuple.__mul__") F.slot_tuple_mul.lookup (by decide +kernel),PySem.seqSlot_of (T:= "tuple") (name:= "__rmul__") (id:= "tuple.__rmul__") F.slot_tuple_rmul.lookup (by decide +kernel)]
 rfl
section
variable {prog:Program} {w:World} {A:Around} {E:Value->Shared->Prop} {s:Shared}
theorem jfD {k:Int} {t:Tok} {l:Addr} {o:Obj} {its:Array Value} {n:Nat} {P:PySem.Fin->Shared->Prop} (at_:s.heap.get? l=some o) (tup:o.cls= .type "tuple") (dat:o.data= .seq its n) (h:P (.done (.ret .notImplemented)) s):wpAny (model prog w) A (Builtin.«int.__rmul__» ⟨[.int k t,.ref l],[]⟩) P E s:=by
 obtain⟨c,dd,dt,sl⟩:=o
 cases tup;cases dat
 obtain⟨hp,g,d,tk,os⟩:=s
 wp_walk
 exact h
theorem jgN {l:Addr} {its:Array Value} {n:Nat} {x:Int} {u:Tok} {dd:Option Addr} {sl:Array (Option Value)} {P:PySem.Fin->Shared->Prop} (at_:s.heap.get? l=some {cls:= .type "tuple",dict:=dd,data:= .seq its n,slots:=sl}) (fits: -(2^63)<=x/\x<2^63)
 (same:(its.isEmpty||x==1)=true->P (.done (.ret (.ref l))) s)
 (gone:(its.isEmpty||x==1)=false->(decide (x<=0)||its.isEmpty)=true->P (.done (.ret (.ref s.heap.objs.size))) {s with heap:=s.heap.push {cls:= .type "tuple",data:= .seq #[]}})
 (more:(its.isEmpty||x==1)=false->(decide (x<=0)||its.isEmpty)=false-> ¬ (its.size:Int)*x>(2^63-1) / 8/\Builtin.Tuple.tupleTooMany ((its.size:Int)*x)=false/\((List.replicate x.toNat its).foldl (· ++ ·) #[]).size<=sizeLine/\
  P (.done (.ret (.ref s.heap.objs.size))) {s with heap:=s.heap.push {cls:= .type "tuple",data:= .seq ((List.replicate x.toNat its).foldl (· ++ ·) #[])}}):
 wpAny (model prog w) A (Builtin.«tuple.__mul__» ⟨[.ref l,.int x u],[]⟩) P E s:=by
 obtain⟨hp,g,d,tk,os⟩:=s
 wp_walk
 rw [if_neg (by simp only [G14,G2K];omega)]
 wp_walk
 cases c1:(its.isEmpty||x==1) with
 |true=>
  rw [if_pos rfl]
  wp_walk
  exact same c1
 |false=>
  rw [if_neg G0s]
  cases c2:(decide (x<=0)||its.isEmpty) with
  |true=>
   rw [if_pos rfl]
   wp_walk
   exact gone c1 c2
  |false=>
   obtain⟨m1,m2,m3,m4⟩:=more c1 c2
   rw [if_neg G0s]
   dsimp only
   rw [if_neg m1,m2,if_neg G0s]
   wp_walk
   exact m4
end
end HT
namespace L2
open PySem PySem.Spec PyProof.Rows
def jp6 (K:PySem.W.Frag):R2:=λx y H Q=> ∃ (a:Addr) (k:Int) (xs:List V),x= .ref a/\y= .int k/\SqT K H a xs/\ -(2^63)<=k/\k<2^63/\xs.length*k.toNat<=sizeLine/\
 ((xs= []\/k=1)->Q (.ref a) H)/\(¬ (xs= []\/k=1)-> ∀p,H p=none->Q (.ref p) (upd H p (.tup (List.replicate k.toNat xs).flatten)))
theorem jed {l:List Value}:l.toArray= #[]↔l= []:=by cases l<;>simp
theorem jmc {X:Cx}:OpR X (binaryOp .Mult) (jp6 X.K):=by
 intro pins s σ H x y v u Q I rx ry h
 obtain⟨a,k,xs,rfl,rfl,hH,h1,h2,hz,q1,q2⟩:=h
 cases rx
 obtain⟨t,rfl⟩:=ry
 obtain⟨its,r,ht,_⟩:=I.tuple hH
 obtain⟨⟨cls,dd,data,sl⟩,ho,hc,n,hd⟩:=id ht
 simp only at hc hd
 subst hc hd
 have hl:=r.length
 have hnew:(List.replicate k.toNat its.toArray).foldl (· ++ ·) #[]=(List.replicate k.toNat its).flatten.toArray:=by
  have:=jep its k.toNat []
  rw [G0v] at this
  exact this
 have few:its.length*k.toNat<=sizeLine:=by rw [<-hl];exact hz
 have free:=I.hok.fresh (G0k _)
 refine wpAny_binaryOp_repeat_ref (T:= "tuple") (U:= "int") (by decide) ⟨_,ho,rfl⟩ (λs' =>G3K s' k t) HT.jd5 F.fills_int_mul G22 HT.jga F.slot_int_index.lookup
  (G1D G22 (G3K s k t) F.entry_int_rmul (HT.jfD ho rfl rfl ⟨_,rfl,rfl,⟨_,ho,rfl⟩,G1D F.slot_tuple_mul ⟨_,ho,rfl⟩ F.entry_tuple_mul (HT.jgN ho ⟨h1,h2⟩ (λc=> ?_) (λc c0=> ?_) (λc c0=> ?_)) (F.args_tuple_mul_2 _ _)⟩) (F.args_int_rmul_2 _ _))
 ·refine⟨_,rfl,.ref a,H,I,rfl,q1 ?_⟩
  simp only [G14,G2G,Array.isEmpty_iff,jed] at c
  exact c.imp (λe=>r.nil_iff.mp e) id
 ·simp only [Bool.or_eq_false_iff,G2r,G28,ne_eq,jed] at c
  have k0:k.toNat=0:=by
   simp only [G14,G2K,Array.isEmpty_iff,jed] at c0
   have:=c0.resolve_right c.1;omega
  have last:=q2 (λz=>z.elim (λe=>c.1 (r.nil_iff.mpr e)) c.2) _ free
  rw [k0] at last
  exact⟨_,rfl,.ref s.heap.objs.size,_,I.laid (t' :=s.toks) (o:= .tup []) (λb ob q=>G0f _ q) (G0k _) ⟨by decide,[],.nil,IsTupN.new _ _⟩,rfl,last⟩
 ·simp only [Bool.or_eq_false_iff,G2r,G28,ne_eq,jed,G3x] at c c0
  have em:((its.toArray.size:Nat):Int)*k=((its.length*k.toNat:Nat):Int):=by rw [Int.natCast_mul,G0u,show ((k.toNat:Nat):Int)=k by omega]
  have cap:(sizeLine:Nat)<=(2^63-1) / 8:=by decide
  rw [em,hnew]
  refine⟨by omega,by unfold Builtin.Tuple.tupleTooMany;exact decide_eq_false (by omega),by rw [List.size_toArray,jgG,Nat.mul_comm];exact few,_,rfl,.ref s.heap.objs.size,_,I.laid (t' :=s.toks) (o:= .tup (List.replicate k.toNat xs).flatten) (λb ob q=>Heap.get?_push_of_some _ q) (Nat.le_refl _) ⟨by rw [jgG,Nat.mul_comm];exact hz,_,r.rep k.toNat,IsTupN.new _ _⟩,rfl,q2 (λz=>z.elim (λe=>c.1 (r.nil_iff.mpr e)) c.2) _ free⟩
def jcV:RD2:=λx y h Q=>match x,y with
 | .tup ds,.int k=> -(2^63)<=k/\k<2^63/\ds.length*k.toNat<=sizeLine/\Q (.tup (List.replicate k.toNat ds).flatten) h
 |x,y=>jcQ x y h Q
theorem jbs {X:Cx}:OpQ X (binaryOp .Mult) jcV:=(oq_mul.or jmc).imp λx y H Q ⟨dx,dy,h,Qd,rx,ry,rh,q,p⟩=>by
 by_cases ht: ∃ds k,dx= .tup ds/\dy= .int k
 ·obtain⟨ds,k,e1,e2⟩:=ht
  subst e1 e2
  obtain⟨b1,b2,hz,q⟩:=q
  obtain⟨a,vs,e,hH,r⟩:=(show ∃a vs,x= .ref a/\H a=some (.tup vs)/\RelDs X.K H ds vs from rx)
  refine .inr ⟨a,k,vs,e,ry,SqT.of hH,b1,b2,by rw [<-r.length];exact hz,λhs=> ?_,λ_ c hc=>p (.tup _) _ _ _ (.new hc) (rh.new hc) ⟨c,_,rfl,jaj,(r.flat _).mono (.new hc)⟩ q⟩
  refine p (.tup _) _ _ _ (.refl H) rh ⟨a,vs,rfl,hH,?_⟩ q
  rcases hs with e0|e1
  ·subst e0
   have:ds= []:=G18.mp r.length
   subst this;simpa using r
  ·subst e1;simpa using r
 ·refine .inl ⟨dx,dy,h,Qd,rx,ry,rh,?_,p⟩
  unfold jcV at q
  split at q
  ·exact absurd ⟨_,_,rfl,rfl⟩ ht
  ·exact q
def jcN:D->HD->KD->Prop:=λx h Q=>match x with
 | .int i=>Q (.int (-i)) h
 |_=>False
def dUn (f:D->HD->KD->Prop) (ta:TED):TED:=λσ h Q=>ta σ h λx h1=>f x h1 Q
theorem jqK {X:Cx} {a:Expr} {ta:TED} {pos:Pos} (ha:QE X a ta):QE X (.UnaryOp .USub a pos) (dUn jcN ta):=
 (jpv jnx ha).imp λσ H Q ⟨σd,h,Qd,rs,rh,t,p⟩=>LE.bind rs rh t λd v h1 H1 k1 rs1 rh1 r1 q=>by
  cases d<;>first
   |exact False.elim q
   |exact⟨_,r1,p (.int _) _ _ _ k1 rh1 rfl q⟩
end L2
namespace HT
open PySem PySem.Spec PyProof.Rows
section
variable {prog:Program} {w:World} {A:Around} {E:Value->Shared->Prop} {s:Shared}
theorem jhP (n:Nat):Builtin.Slice.sliceAdjust none none (-1) (n:Int)=((n:Int)-1,-1):=rfl
theorem jhQ (n:Nat):Builtin.Slice.slicePlaces ((n:Int)-1) (-1) (-1)=n:=by
 unfold Builtin.Slice.slicePlaces
 have h1: ¬ ((-1:Int)>0):=by omega
 simp only [h1,G3J,show (- -1:Int)=1 by decide,Int.ediv_one]
 split<;>omega
theorem jkj (xs:Array Value):((List.range xs.size).filterMap λ(k:Nat)=>xs[((xs.size:Int)-1+(k:Int)*(-1)).toNat]?).toArray=xs.toList.reverse.toArray:=by
 have e:(λ(k:Nat)=>xs[((xs.size:Int)-1+(k:Int)*(-1)).toNat]?)=(λk=>xs[xs.size-1-k]?):=by
  funext k
  have:((xs.size:Int)-1+(k:Int)*(-1)).toNat=xs.size-1-k:=by omega
  rw [this]
 rw [e]
 have h2:(List.range xs.size).filterMap (λk=>xs[xs.size-1-k]?)=((List.range xs.size).map (λk=>xs.size-1-k)).filterMap (xs[·]?):=by rw [List.filterMap_map];rfl
 rw [h2,PySem.W.krv_range,List.filterMap_reverse,PySem.W.krv_all]
theorem jdM {t sl:Addr} {items:Array Value} {u:Tok} {Q:Value->Shared->Prop} (ht:IsTup s.heap t items) (hs:s.heap.IsSliceOf sl .none .none (.int (-1) u))
 (h:Q (.ref s.heap.objs.size) {s with heap:=s.heap.push {cls:= .type "tuple",data:= .seq items.toList.reverse.toArray}})
 (hsz:items.size<=sizeLine):wpAny (model prog w) A (getItem (.ref t) (.ref sl)) Q E s:=by
 have htake:sizeOk (.seq items.toList.reverse.toArray):=by
  show items.toList.reverse.toArray.size<=sizeLine
  rw [G0u,G0L,G0V];exact hsz
 obtain⟨os,hos,hcs,hds⟩:=id hs
 have hTs:s.TypeIs (.ref sl) "slice" :=⟨os,hos,hcs⟩
 unfold getItem
 try with_reducible refine G1w ?_
 first|refine wpAny_bind (G0j ?_)|skip
 refine wpAny_bind (G3p ht.typeIs (by decide) ?_)
 refine wpAny_bind (G1G (name:=Str.ofString "__getitem__") ht.typeIs G1c
  (G1D G1c ht.typeIs G21 ?_ (args_tuple_getitem _ _)))
 show wpAny _ _ (Builtin.Tuple.tupleItemsOf (.ref t) >>= _) _ _ s
 refine wpAny_bind (tupleItemsOf_ ht ?_)
 refine wpAny_bind (G3E hTs ?_)
 rw [if_pos (by decide)]
 have ap:wpAny (model prog w) A.in1 (Builtin.Slice.sliceApplied (.ref sl) (pure (items.size:Int))) (λr s' =>r=((items.size:Int)-1,-1,items.size)/\s' =s) (λ_ _=>False) s:=by
  unfold Builtin.Slice.sliceApplied Builtin.Slice.sliceFields
  refine wpAny_bind (wpAny_bind (G2F hos hds (x:= .none) rfl (wpAny_bind (G2F hos hds (x:= .none) rfl (wpAny_bind (G2F hos hds (x:= .int (-1) u) rfl (G0j ?_)))))))
  refine wpAny_bind (slicePart_int ?_)
  show wpAny _ _ (if ((-1:Int)==0)=true then _ else _) _ _ s
  rw [if_neg (by decide)]
  refine wpAny_bind (G3e (wpAny_bind (G3e (wpAny_bind (G0j ?_)))))
  show wpAny _ _ (match Builtin.Slice.sliceAdjust none none (-1) (items.size:Int) with|(lo,hi)=>pure (lo,(-1:Int),Builtin.Slice.slicePlaces lo hi (-1))) _ _ s
  rw [jhP]
  show wpAny _ _ (pure ((items.size:Int)-1,(-1:Int),Builtin.Slice.slicePlaces ((items.size:Int)-1) (-1) (-1))) _ _ s
  rw [jhQ]
  exact G0j ⟨rfl,rfl⟩
 refine wpAny_bind (G0D ap (λr s' e=> ?_) λ_ _ z=>z.elim)
 obtain⟨rfl,rfl⟩:=e
 have hno: ¬ ((((items.size:Int)-1)==0&&(-1:Int)==1&&items.size==items.size)=true):=by
  rw [show ((-1:Int)==1)=false by decide];simp
 show wpAny _ _ (if ((((items.size:Int)-1)==0&&(-1:Int)==1&&items.size==items.size)=true) then _ else _) _ _ s'
 rw [if_neg hno,jkj]
 first
  |exact wpAny_bind (m:=Builtin.Tuple.tupleExact _) (G1q (G0j ⟨_,rfl,G0j h⟩) htake)
  |exact wpAny_bind (m:=Builtin.Tuple.tupleExact _) (G1q (wpAny_bind (G0j (G0j ⟨_,rfl,G0j h⟩))) htake)
  |exact wpAny_bind (wpAny_bind (m:=Builtin.Tuple.tupleExact _) (G1q (G0j (G0j ⟨_,rfl,G0j h⟩)) htake))
  |exact wpAny_bind (wpAny_bind (m:=Builtin.Tuple.tupleExact _) (G1q (G0j ⟨_,rfl,G0j h⟩) htake))
end
end HT
namespace L2
open PySem PySem.Spec PyProof.Rows
def jcW (te:TED):TED:=λσ h Q=>te σ h λx h1=> ∃ds,x= .tup ds/\Q (.tup ds.reverse) h1
theorem Vals.rev: ∀ {xs:List V} {us:List Value},Vals xs us->Vals xs.reverse us.reverse
 |_,_,.nil=> .nil
 |_,_,.cons r t=>by rw [G2L,G2L];exact(Vals.rev t).append (.cons r .nil)
theorem RelDs.rev {K:PySem.W.Frag} {H:Hp}: ∀ {ds:List D} {vs:List V},RelDs K H ds vs->RelDs K H ds.reverse vs.reverse
 | [],_,h=>by cases (show _= [] from h);exact .nil
 |d::ds,vs,h=>by
  obtain⟨v,r,e,h1,h2⟩:=(show ∃v r,vs=v::r/\RelD K H d v/\RelDs K H ds r from h)
  subst e
  rw [G2L,G2L];exact(RelDs.rev h2).append (.cons h1 .nil)
theorem jrp {X:Cx} {e:Expr} {te:TED} {pos p2 p3 p4:Pos} {j:Nat} (he:QE X e te):QE X (.Subscript e (.Slice none none (some (.UnaryOp .USub (.Constant (.int 1) j p4) p3)) p2) pos) (jcW te):=by
 intro pins s σ H Q I h
 obtain⟨σd,h,Qd,rs,rh,t,p⟩:=h
 refine Subscript_ (thn (he pins s σ H _ I (LE.bind rs rh t λd v h1 H1 k1 rs1 rh1 r1 q1=>(show ∃σd h1 d,RelS X.K H1 σd σ/\RelH X.K h1 H1/\RelD X.K H1 d v/\Kept H H1/\ ∃ds,d= .tup ds/\Qd (.tup ds.reverse) h1 from ⟨σd,h1,d,rs1,rh1,r1,k1,q1⟩))) λv s1 ⟨x,H1,I1,r1,q1⟩=> ?_)
 obtain⟨σd1,h1,d,rs1,rh1,rd,k1,ds,e1,q1⟩:=q1
 subst e1
 obtain⟨a,vs,e2,hH,r2⟩:=(show ∃a vs,x= .ref a/\H1 a=some (.tup vs)/\RelDs X.K H1 ds vs from rd)
 subst e2
 cases r1
 refine wpAny_Slice ?_
 rw [evalPart_none]
 refine G0j ?_
 refine G0j ?_
 rw [evalPart_some]
 have hneg:LE X.K (dUn jcN (dC (.int 1))) σ H1 (λv H' =>v=V.int (-1)/\RelH X.K h1 H' /\Kept H1 H'):=
  ⟨σd1,h1,λd h' =>d= .int (-1)/\h' =h1,rs1,rh1,⟨rfl,rfl⟩,λd v h' H' k rh' r' e=>by
   obtain⟨e1,e2⟩:=e
   subst e1 e2;exact⟨r',rh',k⟩⟩
 refine thn ((jqK (jqJ (X:=X) (i:=1) (j:=j) (pos:=p4)) (pos:=p3)) pins s1 σ H1 _ I1 hneg) λu s2 ⟨y,H2,I2,ry,ey,rh2,k2⟩=> ?_
 subst ey
 obtain⟨tk,rfl⟩:=ry
 have hH2:=k2.tup _ _ hH
 have I4:Inv X pins σ H2 {s2 with heap:=s2.heap.push {cls:= .type "slice",data:= .fields #[.none,.none,.int (-1) tk]}}:=I2.kept (t' :=s2.toks) λb ob q=>G0f _ q
 obtain⟨its,r,ht,hz⟩:=I4.tuple (SqT.of hH2)
 have hlen:its.toArray.size=vs.length:=by rw [G0u];exact r.length.symm
 show wpAny (model X.prog X.w) X.A (subscriptTail e (.Slice none none (some (.UnaryOp .USub (.Constant (.int 1) j p4) p3)) p2) (.ref a) (.ref s2.heap.objs.size)) (EP X pins σ Q) X.xe {s2 with heap:=s2.heap.push {cls:= .type "slice",data:= .fields #[.none,.none,.int (-1) tk]}}
 refine tail_any (ops:= [.ref a,.ref s2.heap.objs.size]) ht.typeIs PyProof.Rows.slot_tuple_getitem.lookup ?_ (by with_unfolding_all rfl)
 refine HT.jdM ht (Heap.IsSliceOf.new ..) ?_ (by rw [hlen];exact hz)
 have hf:=I4.hok.fresh (G0k _)
 refine⟨.ref _,_,I4.laid (t' :=s2.toks) (o:= .tup vs.reverse) (λb ob q=>G0f _ q) (G0k _) ⟨by rw [G0L];exact hz,_,Vals.rev r,IsTupN.new _ _⟩,rfl,?_⟩
 exact p (.tup ds.reverse) _ _ _ (k1.trans (k2.trans (.new hf))) (rh2.new hf) ⟨_,_,rfl,jaj,((r2.mono k2).rev).mono (.new hf)⟩ q1
def jaC (x:Str) (i:Int):TED:=λ_ h Q=>Q (.dic x i) h
theorem jhh {H:Hp} {p:Addr} {a b:HO}:upd (upd H p a) p b=upd H p b:=by
 funext q;unfold upd;split<;>rfl
theorem joj {X:Cx} {x:Str} {i:Int} {j k:Nat} {pos p1 p2:Pos}:QE X (.Dict [some (.Constant (.str x) j p1)] [.Constant (.int i) k p2] pos) (jaC x i):=by
 have h0:PPs X pos [some (.Constant (.str x) j p1)] [.Constant (.int i) k p2] [(tC (.str x),tC (.int i))]:=jhc pe_str pe_int jiG
 refine PE.imp (jiH h0 rfl rfl (by simp) (by simp)) ?_
 rintro σ H Q ⟨σd,h,Qd,rs,rh,t,p⟩ q hq
 show upd H q (.dK []) q=some (.dK [])/\_
 refine⟨jaj,[((Sum.inr x:Key),V.int i)],rfl,by simp,?_⟩
 rw [jhh]
 exact p (.dic x i) (.ref q) h _ (.new hq) (rh.new hq) ⟨q,rfl,jaj⟩ t
def jgO:List (Option Expr)->List Expr->Option (Str×Int)
 | [some (.Constant (.str x) _ _)],[.Constant (.int i) _ _]=>some (x,i)
 |_,_=>none
theorem jok {X:Cx} {ks:List (Option Expr)} {vs:List Expr} {pos:Pos} {x:Str} {i:Int} (h:jgO ks vs=some (x,i):=by rfl):QE X (.Dict ks vs pos) (jaC x i):=by
 unfold jgO at h
 split at h
 ·cases h;exact joj
 ·cases h
def jol (K:PySem.W.Frag) (tl:TE):TI:=λσ H R=>tl σ H λx H1=> ∃a,x= .ref a/\((∃xs,SqL K H1 a xs/\R (Itl K a) H1)\/ ∃xs,SqT K H1 a xs/\R (Itt K a) H1)
theorem jom {X:Cx} {tg l:Expr} {tl:TE} (hl:PE X l tl):PI X tg l (jol X.K tl):=by
 intro pins s σ H R I h
 refine thn (hl pins s σ H _ I h) λv s1 ⟨x,H1,I1,r1,q1⟩=> ?_
 obtain⟨a,e,q⟩:=q1
 subst e
 cases r1
 rcases q with ⟨xs,hq,q⟩|⟨xs,hq,q⟩
 ·obtain⟨its,rv,p,hz⟩:=I1.list hq
  refine G3l p.isList ?_
  refine⟨s1.heap.objs.size,[s1.heap.objs.size],_,_,H1,rfl,I1.kept (t' :=s1.toks) λb o e=>G0f _ e,jfY a _,⟨_,G0S _ rfl,rfl,rfl⟩,λb hb=> ?_,q⟩
  have e:b=s1.heap.objs.size:=by simpa using hb
  subst e
  exact I1.fpOk (G0k _) (I1.hok.fresh (G0k _))
 ·obtain⟨its,rv,p,hz⟩:=I1.tuple hq
  refine G3d (show s1.heap.IsTuple a its.toArray from p) ?_
  refine⟨s1.heap.objs.size,[s1.heap.objs.size],_,_,H1,rfl,I1.kept (t' :=s1.toks) λb o e=>G0f _ e,jhF a _,⟨_,G0S _ rfl,rfl,rfl⟩,λb hb=> ?_,q⟩
  have e:b=s1.heap.objs.size:=by simpa using hb
  subst e
  exact I1.fpOk (G0k _) (I1.hok.fresh (G0k _))
def iS (te:TED):TID:=λσ h R=>te σ h λx h1=>match x with
 | .lst a=>R (λh=>h a) h1
 | .tup ds=>R (λ_=>some ds) h1
 | .scr ns=>R (λ_=>some (ns.map D.int)) h1
 |_=>False
theorem jkk {K:PySem.W.Frag} {H:Hp} {a:Addr} {ns:List Int} (hs:Scr K H a ns):jm4 K H (λ_=>some (ns.map D.int)) (Itl K a):=λH' h' k rh ds' e i=>by
 cases e
 have hs' :Scr K H' a ns:=hs.elim (λ⟨o,z⟩=> .inl ⟨o,k.frz _ _ _ z⟩) .inr
 refine⟨λd hd=> ?_,λhl=>⟨_,hs'.sq,by simpa using hl⟩⟩
 obtain⟨v,e1,e2⟩:=(jcA (K:=K) (H:=H') ns).get hd
 refine⟨⟨_,v,hs'.sq,e1⟩,λx H'' ⟨eH,hx⟩=> ?_⟩
 subst eH
 have:=hx _ hs'.sq
 rw [e1] at this;cases this
 exact⟨.refl _,rh,e2⟩
theorem jon {K:PySem.W.Frag} {te:TED}: ∀σ H R,LI K (iS te) σ H R->jol K (LE K te) σ H R:=λσ H R ⟨σd,h,Rd,rs,rh,q,p⟩=>
 LE.bind rs rh q λd v h1 H1 k1 rs1 rh1 r1 q1=>by
  cases d<;>first
   |exact False.elim q1
   |skip
  ·rename_i ds
   obtain⟨a,vs,e,hv,r⟩:=(show ∃a vs,v= .ref a/\H1 a=some (.tup vs)/\RelDs K H1 ds vs from r1)
   exact⟨a,e,.inr ⟨vs,SqT.of hv,p _ _ _ _ k1 rh1 (jkf hv r) q1⟩⟩
  ·rename_i a
   obtain⟨e,vs,hv⟩:=(show v= .ref a/\ ∃vs,H1 a=some (.lst vs) from r1)
   exact⟨a,e,.inl ⟨vs,SqL.of hv,p _ _ _ _ k1 rh1 (jf8 H1 a) q1⟩⟩
  ·rename_i ns
   obtain⟨a,e,hS⟩:=(show ∃a,v= .ref a/\Scr K H1 a ns from r1)
   exact⟨a,e,.inl ⟨_,hS.sq,p _ _ _ _ k1 rh1 (jkk hS) q1⟩⟩
theorem joo {X:Cx} {tg e:Expr} {te:TED} (he:QE X e te):QI X tg e (iS te):=(jom he).imp jon
def jaD:TSD:=λ_ _ _=>False
theorem joq {X:Cx} {st:Stmt}:QS X st jaD:=λ_ _ _ _ _ _ ⟨_,_,_,_,_,z,_⟩=>z.elim
structure Zs (mg:Str->Option Value):Prop where
 len:mg "len" =none
 max:mg "max" =none
 min:mg "min" =none
 divmod:mg "divmod" =none
 all:mg "all" =none
 any:mg "any" =none
 repr:mg "repr" =none
 sum:mg "sum" =none
 sorted:mg "sorted" =none
 int:mg "int" =none
 tuple:mg "tuple" =none
 list:mg "list" =none
 set:mg "set" =none
 bool:mg "bool" =none
 isinstance:mg "isinstance" =none
 range:mg "range" =none
 zip:mg "zip" =none
 enumerate:mg "enumerate" =none
 reversed:mg "reversed" =none
def jan (P:Program) (w:World) (K:PySem.W.Frag) (mg:Str->Option Value) (base:Heap) (n:Nat) (x:Str) (ps:List Str) (sp:RDn):Prop:=
 ∃ (g:Addr) (gd:FuncData),FnOk P w K mg base CX0 n g gd ps (LSp K sp)/\Binds K gd ps []/\PySem.W.keepIn K (.ref g)=true/\mg x=some (.ref g)
def jiW:RDn:=λds h Q=> ∃ns,ds= [.scr ns]/\(∀a,h a=none)/\ns.length<=63/\ ∀h',Q (.bl true) h'
def Bm (mg:Str->Option Value) (base:Heap):Prop:= ∃bm ob,mg "__builtins__" =some (.ref bm)/\bm≠builtinsNs/\base.get? bm=some ob/\ob.cls= .type "module" /\ob.dict=some builtinsNs/\ob.data= .plain
def jbL (K:PySem.W.Frag):List (Addr×Addr):=LN.filterMap (PySem.W.tabIn K)
theorem TabK.mem {K:PySem.W.Frag} {P:Addr} (h:TabK K P): ∃c,(c,P)∈jbL K:=let ⟨x,hx,c,e⟩:=h;⟨c,G2c.mpr ⟨x,hx,e⟩⟩
theorem jiX {P:Program} {w:World} {K:PySem.W.Frag} {mg mb:Str->Option Value} {k:Nat} {fa a:Addr} {fd:FuncData} {x:Str} {s₁:Shared} {vs:List Value} {ns:List Int}
 (KX:K.In s₁.heap) (hns:s₁.heap.Ns mainGlobals mg) (hb:s₁.heap.Ns builtinsNs mb) (hbb: ∀x:Str,x≠ "__name__" ->mb x=bootBuiltins x) (hlim:s₁.heap.NoLimit) (hg:s₁.gens= #[])
 (ha:s₁.heap.get? a=some {cls:= .type "list",data:= .seq vs.toArray}) (hi:IntsAre vs ns) (hl:ns.length<=63) (hr:Room k callerA)
 (hbm:Bm mg s₁.heap) (F: ∀base:Heap,K.In base->base.Ns mainGlobals mg->Bm mg base->FnOk P w K mg base CX0 k fa fd [x] (LSp K jiW)) (hbind: ∀ (s:Shared) (u:Value),BindsTo s fd ⟨[u],[]⟩ [(x,u)])
 (hT: ∀p∈jbL K,PySem.W.CodeHd s₁.heap p.1 p.2/\s₁.heap.get? p.2=some (PySem.W.tabObj #[])/\K.lookup p.2=none):
 codeAny (model P w) callerA (.call (.ref fa) ⟨[.ref a],[]⟩) (λr s' =>r= .ok (.ret (.bool true))/\OldK s₁.heap s'.heap/\s'.os=s₁.os/\AllBare s'.gens) s₁:=by
 have rv:=jf4 hi
 have lenV:=hi.length
 have hz:ns.length<=sizeLine:=G01 hl (by decide)
 have hT' : ∀b,b∈(jbL K).map (·.2)-> ∃c,PySem.W.CodeHd s₁.heap c b/\s₁.heap.get? b=some (PySem.W.tabObj #[])/\K.lookup b=none:=λb hb=>by
  obtain⟨p,hp,rfl⟩:=G05.mp hb
  exact⟨p.1,hT p hp⟩
 have core: ∀H:Hp,Scr K H a ns->HOk P w H s₁.heap->(∀b u,H b=some u->(b=a/\K.lookup a=none/\ ∃o xs,u= .frz o (.lst xs))\/(b∈(jbL K).map (·.2)/\u= .tbl #[]))->(∀b,b∈(jbL K).map (·.2)->H b=some (.tbl #[]))->
  codeAny (model P w) callerA (.call (.ref fa) ⟨[.ref a],[]⟩) (λr s' =>r= .ok (.ret (.bool true))/\OldK s₁.heap s'.heap/\s'.os=s₁.os/\AllBare s'.gens) s₁:=by
  intro H hS hok hA hTt
  have noA: ∀ {b:Addr} {o:Obj} {es:Array DictEntry} {ep:Nat},s₁.heap.get? b=some o->o.data= .dict es ep->H b=none:=λ{b o es ep} e d=>by
   cases q:H b with
   |none=>rfl
   |some u=>
    rcases hA b u q with ⟨rfl,_,_⟩|⟨z,_⟩
    ·rw [ha] at e;cases e
     have d' :Data.seq vs.toArray _=Data.dict es ep:=d
     cases d'
    ·obtain⟨c,_,e2,_⟩:=hT' b z
     rw [e2] at e;cases e
     have d' :Data.fields _=Data.dict es ep:=d
     cases d'
  have nsK: ∀ {b:Addr} {m:Str->Option Value},s₁.heap.Ns b m->(jjX s₁.heap H).Ns b m:=λ{b m} ⟨o,es,ep,e,d,r⟩=>⟨o,es,ep,jfr e (noA e d),d,r⟩
  have hKb:K.In (jjX s₁.heap H):=λb o e=>jfr (KX b o e) (by
   cases q:H b with
   |none=>rfl
   |some u=>
    rcases hA b u q with ⟨rfl,z,_⟩|⟨z,_⟩
    ·rw [z] at e;cases e
    ·obtain⟨c,_,_,z2⟩:=hT' b z
     rw [z2] at e;cases e)
  have hM:Mod K mg (jjX s₁.heap H):=⟨hKb,nsK hns,⟨mb,nsK hb,hbb⟩,let ⟨mc,h1,h2⟩:=hlim;⟨mc,nsK h1,h2⟩⟩
  have e0:Env0 P w K mg (jjX s₁.heap H) callerA [] s₁ H:=⟨rfl,hM,λb o e=>jlm e,G3F (jii _ _),trivial,λb hb=>absurd (show b∈([]:List Addr) from hb) (by simp),hok,.of_eq hg⟩
  have hsp:LSp K jiW [.ref a] H (λv _=>v= .bl true) (λ_ _ _=>False):=by
   refine⟨[.scr ns],λ_=>none,λd _=>d= .bl true,⟨.ref a,[],rfl,⟨a,rfl,hS⟩,rfl⟩,⟨λb ds e=>(by cases e),λp hp=> ?_⟩,⟨ns,rfl,λ_=>rfl,hl,λ_=>rfl⟩,?_⟩
   ·obtain⟨c,hc⟩:=hp.mem
    exact⟨#[],hTt p (List.mem_map_of_mem (f:=(·.2)) hc),trivial,λpos cv e=>(by cases e)⟩
   ·intro d v h' H' _ _ r e
    subst e;exact r
  have hBm:Bm mg (jjX s₁.heap H):=by
   obtain⟨bm,ob,b1,b2,b3,b4,r⟩:=hbm
   refine⟨bm,ob,b1,b2,jfr b3 ?_,b4,r⟩
   cases q:H bm with
   |none=>rfl
   |some u=>
    rcases hA bm u q with ⟨rfl,_,_⟩|⟨z,_⟩
    ·rw [ha] at b3;cases b3;exact absurd (Value.type.inj b4) (by decide)
    ·obtain⟨c,_,e2,_⟩:=hT' bm z
     rw [e2] at b3;cases b3;cases b4
  refine G2N ((F _ hKb (nsK hns) hBm).run callerA [] s₁ H ⟨[.ref a],[]⟩ [.ref a] [.ref a] _ _ hr e0 (hbind s₁ (.ref a)) (.cons rfl .nil) hsp) λr s' h=> ?_
  cases r with
  |error e=>exact False.elim h
  |ok fl=>
   cases fl with
   |next=>exact False.elim h
   |brk=>exact False.elim h
   |cont=>exact False.elim h
   |ret u=>
    obtain⟨v,H',os,bare,un,hok',r',q⟩:=h
    have q' :v= .bl true:=q
    subst q'
    obtain rfl:u=Value.bool true:=r'
    have one: ∀b o,s₁.heap.get? b=some o->s'.heap.get? b=some o\/(b∈(jbL K).map (·.2)/\ ∃more,s'.heap.get? b=some (PySem.W.tabObj more)):=λb o e=>by
     cases q:H b with
     |none=>exact .inl (un.keep b o e q (by intro z;exact absurd (show b∈([]:List Addr) from z) (by simp)) (by simp))
     |some u=>
      rcases hA b u q with ⟨rfl,_,ob,xs,rfl⟩|⟨z,rfl⟩
      ·have z2:=un.frzs _ ob _ q
       obtain⟨e1,_⟩:=hok _ _ q
       obtain⟨e2,_⟩:=hok' _ _ z2
       rw [e] at e1;cases e1
       exact .inl e2
      ·obtain⟨more,z2⟩:=un.tbls b _ q
       exact .inr ⟨z,_,(show s'.heap.get? b=some _ from hok' b _ z2)⟩
    refine⟨rfl,⟨λb o e=> ?_,λb o e=> ?_⟩,os,bare⟩
    ·rcases one b o e with z|⟨z,more,z2⟩
     ·exact .inl z
     ·obtain⟨c,hc,e2,_⟩:=hT' b z
      rw [e] at e2;cases e2
      refine .inr (.inl ⟨(hc.tab e).isCodeTable,rfl,#[],more,rfl,?_⟩)
      rw [z2]
      simp
    ·rcases one b o e with z|⟨z,more,z2⟩
     ·exact⟨_,z⟩
     ·exact⟨_,z2⟩
 have nT:a ∉ (jbL K).map (·.2):=λz=>by
  obtain⟨c,_,e2,_⟩:=hT' a z
  rw [ha] at e2;cases e2
 have okT: ∀ {H:Hp} (b:Addr),b∈(jbL K).map (·.2)->ObjOk P w H s₁.heap b (.tbl #[]):=λb hb=>let ⟨_,_,e,_⟩:=hT' b hb;e
 cases hk:K.lookup a with
 |some o=>
  have e:=KX a o hk
  rw [ha] at e
  cases e
  refine core (λb=>if b∈(jbL K).map (·.2) then some (.tbl #[]) else none) (.inr ⟨_,vs.toArray,_,hk,rfl,rfl,rfl,by rw [G0u,lenV];exact hz,by simpa using rv⟩) (λb u z=> ?_) (λb u z=> ?_) λb hb=>if_pos hb
  ·by_cases hb:b∈(jbL K).map (·.2)
   ·have z' :=(if_pos hb).symm.trans z
    cases z'
    exact okT b hb
   ·have z' :=(if_neg hb).symm.trans z
    cases z'
  ·by_cases hb:b∈(jbL K).map (·.2)
   ·have z' :=(if_pos hb).symm.trans z
    cases z'
    exact .inr ⟨hb,rfl⟩
   ·have z' :=(if_neg hb).symm.trans z
    cases z'
 |none=>
  refine core (λb=>if b=a then some (.frz {cls:= .type "list",data:= .seq vs.toArray} (.lst (ns.map V.int))) else if b∈(jbL K).map (·.2) then some (.tbl #[]) else none) (.inl ⟨{cls:= .type "list",data:= .seq vs.toArray},if_pos rfl⟩) (λb u z=> ?_) (λb u z=> ?_) λb hb=> ?_
  ·by_cases hb:b=a
   ·have z' :=(if_pos hb).symm.trans z
    cases z'
    subst hb
    exact⟨ha,by rw [G0c];exact hz,vs,_,rv,ha⟩
   ·have z' :=(if_neg hb).symm.trans z
    by_cases hb2:b∈(jbL K).map (·.2)
    ·have z2:=(if_pos hb2).symm.trans z'
     cases z2
     exact okT b hb2
    ·have z2:=(if_neg hb2).symm.trans z'
     cases z2
  ·by_cases hb:b=a
   ·have z' :=(if_pos hb).symm.trans z
    cases z'
    exact .inl ⟨hb,hk,_,_,rfl⟩
   ·have z' :=(if_neg hb).symm.trans z
    by_cases hb2:b∈(jbL K).map (·.2)
    ·have z2:=(if_pos hb2).symm.trans z'
     cases z2
     exact .inr ⟨hb2,rfl⟩
    ·have z2:=(if_neg hb2).symm.trans z'
     cases z2
  ·have:b≠a:=λz=>nT (z ▸ hb)
   show (if b=a then _ else _)=_
   rw [if_neg this,if_pos hb]
def jp7 (q:Program) (K:PySem.W.Frag):Bool:=LN.all λx=>match PySem.W.tabIn K x with
 |some p=>(K.lookup p.2).isNone&&((PyProof.Rows.recsOf q).find? (λe=>e.name==x)).isSome
 |none=>true
theorem jkl {l:PySem.W.OpenLaw} {k:Nat} {q:Program} {loose:List Str} {XP:(Str->Option Value)->Heap->Prop} {YP:World->Heap->Prop} {d:DefRec} {K:Params->PySem.W.Frag} {x:Str} (hn:l.most=some 63) (hdf:d.params.defaults= []) (hr:Room k callerA)
 (hY: ∀ (w:World) (h:Heap),YP w h->(K w.params).In h) (hB: ∀w:World,jp7 q (K w.params)=true)
 (F: ∀ (w:World) (mg:Str->Option Value) (fa:Addr) (h:Heap),(K w.params).In h->h.Ns mainGlobals mg->mg d.name=some (.ref fa)->
  ∃fd:FuncData,(∀ (s:Shared) (u:Value),BindsTo s fd ⟨[u],[]⟩ [(x,u)])/\ ∀base:Heap,(K w.params).In base->base.Ns mainGlobals mg->Bm mg base->FnOk l.prog w (K w.params) mg base CX0 k fa fd [x] (LSp (K w.params) jiW)):
 PySem.W.WalkO q loose XP YP l.row.toRowW d [] (λf vs=>PySem.call f vs):=by
 refine Att.attach_call hn hdf λw s₀ s₁ mg mb fa o pm cd doc a vs ns G Y ho hd hcd hmg hobj hints hlen hg=> ?_
 have KX:=hY w _ Y
 obtain⟨fd,hb,hF⟩:=F w mg fa _ KX G.T.g hmg
 refine jiX KX G.T.g G.T.b G.T.builtins G.T.nolimit hg hobj hints hlen hr G.T.bmain hF hb λp hp=> ?_
 obtain⟨x,hx,e⟩:=G2c.mp hp
 have z:=G0Y.mp (hB w) x hx
 rw [e] at z
 simp only [G0T,Option.isNone_iff_eq_none] at z
 obtain⟨dd,hdd⟩:=G1u.mp z.2
 have t:=PySem.W.tab_of (c:=p.1) (P:=p.2) G.T KX hdd e
 exact⟨t.1,t.2,z.1⟩
def jgP:Expr->Bool
 | .Starred .. =>false
 |_=>true
theorem jgQ {e:Expr} {es:List Expr} {env:Env} (h:jgP e=true):starEach (e::es) env=(false,eval e env)::starEach es env:=by
 cases e<;>first|rfl|cases h
theorem qac {X:Cx} {e:Expr} {es:List Expr} {te:TED} {t:TAD} (ha:QE X e te) (hr:QA X es t) (h:jgP e=true:=by rfl):QA X (e::es) (jaK te t):=jlS ha hr (jgQ h)
theorem jbU {α:Type} {xs:List α} {i:Int} (h0:0<=i) (h1:i<xs.length): ∃x∈xs,atI xs i=some x:=by
 have hk:i.toNat<xs.length:=by omega
 have ek:i=((i.toNat:Nat):Int):=by omega
 have z:=jb6 (G0b hk)
 rw [<-ek] at z
 exact⟨xs[i.toNat],G1g hk,z⟩
theorem Sub.both {h h' :HD} {p:Addr} {L:List D} (s:Sub h h'):Sub (jbp h p L) (jbp h' p L):=λa ds e=>by
 by_cases q:a=p
 ·subst q;rw [jaa] at e ⊢;exact e
 ·rw [jbA q] at e ⊢;exact s a ds e
theorem Sub.newAt {h h' :HD} {p:Addr} {L:List D} (s:Sub h h') (e:h' p=none):Sub h (jbp h' p L):=s.trans (.new e)
def But (p:Addr) (h h' :HD):Prop:= ∀a ds,a≠p->h a=some ds->h' a=some ds
theorem But.refl (p:Addr) (h:HD):But p h h:=λ_ _ _ e=>e
theorem But.new {p q:Addr} {h h' :HD} {L:List D} (s:But p h h') (e:h' q=none):But p h (jbp h' q L):=λa ds n z=>by
 have:=s a ds n z
 rw [jbA (λw=>by subst w;rw [e] at this;cases this)];exact this
theorem But.put {p:Addr} {h h' :HD} {L:List D} (s:But p h h'):But p h (jbp h' p L):=λa ds n z=>by rw [jbA n];exact s a ds n z
theorem But.putNew {p q:Addr} {h h' :HD} {L:List D} (s:But p h h') (e:h q=none):But p h (jbp h' q L):=λa ds n z=>by
 rw [jbA (λw=>by subst w;rw [e] at z;cases z)];exact s a ds n z
theorem But.sub {p:Addr} {h h' :HD} {L:List D} (s:But p h h') (e:h' p=some L):Sub (jbp h p L) h' :=λa ds z=>by
 by_cases q:a=p
 ·subst q;rw [jaa] at z;cases z;exact e
 ·rw [jbA q] at z;exact s a ds q z
theorem But.upd {p:Addr} {h:HD} {L:List D}:But p h (jbp h p L):=λa ds n z=>by rw [jbA n];exact z
theorem jao {h:HD} {p q:Addr} {L:List D} (e:h p=some L) (f:h q=none):q≠p:=λz=>by subst z;rw [e] at f;cases f
theorem jad {h:HD} {p q:Addr} {L M:List D} (e:h p=some L) (f:h q=none):jbp h q M p=some L:=by rw [jbA (λz=>by subst z;rw [e] at f;cases f)];exact e
theorem jmd {h:HD} {a b:Addr} {L:List D} (e:jbp h a L b=none):b≠a:=λz=>by subst z;rw [jaa] at e;cases e
theorem jag {h:HD} {a b:Addr} {L M:List D} (n:b≠a) (e:h b=some M):jbp h a L b=some M:=by rw [jbA n];exact e
theorem jeA {n:Nat} {i:Nat} {d:D} (h:((List.range n).map λ(k:Nat)=>D.int (k:Int))[i]? =some d):i<n/\d= .int i:=by
 rw [G0H] at h
 by_cases hi:i<n
 ·rw [G2s hi] at h;cases h;exact⟨hi,rfl⟩
 ·rw [G1T (by simpa using hi)] at h;cases h
theorem jah {t u:TSD} {E:EndsD} {σ:SD} {h:HD} (V:SD->HD->Prop) (first: ∀K:SD->HD->Prop,(∀σ' h',V σ' h' ->K σ' h')->t {E with nx:=K} σ h) (rest: ∀σ' h',V σ' h' ->u E σ' h'):jcg t u E σ h:=first (u E) rest
theorem jiY {p q:Addr} {h h' :HD} (b:But p h h') (e:h' q=none) (n:q≠p):h q=none:=by
 cases z:h q with
 |none=>rfl
 |some ds=>rw [b q ds n z] at e;cases e
def Nxt (E:EndsD) (V:SD->HD->Prop):EndsD:= {E with nx:=λσ3 h3=> ∃h4,Sub h4 h3/\V σ3 h4,ct:=λσ3 h3=> ∃h4,Sub h4 h3/\V σ3 h4,bk:=E.nx}
theorem jdN {ta:TAD} {g:TGD} {tb:TSD} {E:EndsD} {σ:SD} {h h1:HD} (n:Nat) (W:Nat->SD->HD->Prop) (hn:n<1000000)
 (ht: ∀R:List D->HD->Prop,R [.int (n:Int)] h1->ta σ h R) (w0:W 0 σ h1) (done: ∀σ' h',W n σ' h' ->E.nx σ' h')
 (turn: ∀i σ' h',i<n->W i σ' h' ->g (.int (i:Int)) σ' h' λσ2 h2=>tb (Nxt E λσ3 h4=>i+1<=n/\W (i+1) σ3 h4) σ2 h2):jn7 (iR1 ta) g tb E σ h:=by
 refine ht _ ⟨(n:Int),rfl,by omega,by omega,n,λi σ' h' =>i<=n/\W i σ' h',⟨G1l _,w0⟩,?_⟩
 rintro i σ' h' ⟨hi,w⟩
 refine⟨_,rfl,by simp,λhl=> ?_,λd hd=> ?_⟩
 ·have:i=n:=by simp at hl;omega
  subst this;exact done _ _ w
 ·obtain⟨hi',e⟩:=jeA hd
  have hi2:i<n:=by omega
  subst e
  exact turn i σ' h' hi2 w
theorem jkm {ti:TID} {g:TGD} {tb:TSD} {E:EndsD} {σ:SD} {h h1:HD} {j:ItD} (ds:List D) (W:Nat->SD->HD->Prop)
 (ht: ∀R:ItD->HD->Prop,R j h1->ti σ h R) (hj: ∀i σ' h',W i σ' h' ->j h' =some ds) (w0:W 0 σ h1) (done: ∀σ' h',W ds.length σ' h' ->E.nx σ' h')
 (turn: ∀i d σ' h',ds[i]? =some d->W i σ' h' ->g d σ' h' λσ2 h2=>tb (Nxt E λσ3 h4=>i+1<=ds.length/\W (i+1) σ3 h4) σ2 h2):jn7 ti g tb E σ h:=by
 refine ht _ ⟨ds.length,λi σ' h' =>i<=ds.length/\W i σ' h',⟨G1l _,w0⟩,?_⟩
 rintro i σ' h' ⟨hi,w⟩
 refine⟨ds,hj i σ' h' w,G0k _,λhl=> ?_,λd hd=>turn i d σ' h' hd w⟩
 have:i=ds.length:=by omega
 subst this;exact done _ _ w
theorem jeB {g:TGD} {tb:TSD} {E:EndsD} {σ:SD} {h1:HD} {j:ItD} (ds:List D) (W:Nat->SD->HD->Prop)
 (hj: ∀i σ' h',W i σ' h' ->j h' =some ds) (w0:W 0 σ h1) (done: ∀σ' h',W ds.length σ' h' ->E.nx σ' h')
 (turn: ∀i d σ' h',ds[i]? =some d->W i σ' h' ->g d σ' h' λσ2 h2=>tb (Nxt E λσ3 h4=>i+1<=ds.length/\W (i+1) σ3 h4) σ2 h2):
 ∃ (n:Nat) (W:Nat->SD->HD->Prop),W 0 σ h1/\ ∀i σ' h',W i σ' h' -> ∃ds,j h' =some ds/\ds.length<=n/\(ds.length<=i->E.nx σ' h')/\
  ∀d,ds[i]? =some d->g d σ' h' λσ2 h2=>tb {E with nx:=λσ3 h3=> ∃h4,Sub h4 h3/\W (i+1) σ3 h4,ct:=λσ3 h3=> ∃h4,Sub h4 h3/\W (i+1) σ3 h4,bk:=E.nx} σ2 h2:=by
 refine⟨ds.length,λi σ' h' =>i<=ds.length/\W i σ' h',⟨G1l _,w0⟩,?_⟩
 rintro i σ' h' ⟨hi,w⟩
 refine⟨ds,hj i σ' h' w,G0k _,λhl=> ?_,λd hd=>turn i d σ' h' hd w⟩
 have:i=ds.length:=by omega
 subst this;exact done _ _ w
theorem jk5 {i:Nat} {js:List Nat} {ta:TAD} {te:TED} {σ:SD} {h h1:HD} {Q:KD} (n:Nat) (W:Nat->List D->HD->Prop) (hn:n<=1000) (ht: ∀R:List D->HD->Prop,R [.int (n:Int)] h1->ta σ h R)
 (w0:W 0 [] h1) (wl: ∀k ys h',W k ys h' ->ys.length=k) (turn: ∀k ys h',k<n->W k ys h' ->te ((jaT js σ).set i (some (.int (k:Int)))) h' λy h4=> ∃h5,Sub h5 h4/\(k+1<=n/\W (k+1) (ys++ [y]) h5))
 (done: ∀ys h',W n ys h' -> ∀p,h' p=none->Q (.lst p) (jbp h' p ys)):jex (bN i) js (iR1 ta) jgK te σ h Q:=by
 refine ht _ ⟨(n:Int),rfl,by omega,by omega,n,λk ys h' =>k<=n/\W k ys h',⟨G1l _,w0⟩,?_⟩
 rintro k ys h' ⟨hk,w⟩
 refine⟨by rw [wl k ys h' w];exact G0W (jaA (by omega)),_,rfl,by simp,λhl p hp=> ?_,λd hd=>⟨_,rfl,?_⟩⟩
 ·have:k=n:=by simp at hl;omega
  subst this;exact done ys h' w p hp
 ·obtain⟨hi',e⟩:=jeA hd
  subst e
  unfold jgK
  dsimp only
  rw [if_pos rfl]
  exact turn k ys h' (by omega) w
end L2
namespace L2
open PySem PySem.Spec PyProof.Rows PySem.SeqAt
mutual
def ToP (h:HD):D->PyData->Prop
 |d,.none=>d= .non
 |d,.bool b=>d= .bl b
 |d,.int i=>d= .int i
 |d,.str x=>d= .str x
 |d,.tuple ps=> ∃ds,d= .tup ds/\ToPs h ds ps
 |d,.list ps=> ∃a ds,d= .lst a/\h a=some ds/\ToPs h ds ps
 |_,.dict _=>False
def ToPs (h:HD):List D->List PyData->Prop
 |ds,[]=>ds= []
 |ds,p::ps=> ∃d r,ds=d::r/\ToP h d p/\ToPs h r ps
end
section
variable {X:Cx} {pins:List (Addr×Obj)} {σ:St} {H:Hp} {s:Shared} {h:HD}
mutual
theorem jba (I:Inv X pins σ H s) (rh:RelH X.K h H): ∀ {p:PyData} {d:D} {v:V} {u:Value},ToP h d p->RelD X.K H d v->RelV v u-> ∃as,Reads s.heap u p as
 | .none,d,v,u,t,r,ru=>by cases (show d= .non from t);cases (show v= .non from r);cases (show u= .none from ru);exact⟨[],.none⟩
 | .bool b,d,v,u,t,r,ru=>by cases (show d= .bl b from t);cases (show v= .bl b from r);cases (show u= .bool b from ru);exact⟨[],.bool b⟩
 | .int i,d,v,u,t,r,ru=>by cases (show d= .int i from t);cases (show v= .int i from r);obtain⟨k,rfl⟩:=(show ∃t,u=Value.int i t from ru);exact⟨[],.int i k⟩
 | .str x,d,v,u,t,r,ru=>by cases (show d= .str x from t);cases (show v= .str x from r);obtain⟨k,rfl⟩:=(show ∃t,u=Value.str x t from ru);exact⟨[],.str x k⟩
 | .tuple ps,d,v,u,t,r,ru=>by
  obtain⟨ds,e,ts⟩:=(show ∃ds,d= .tup ds/\ToPs h ds ps from t)
  subst e
  obtain⟨a,vs,e,hH,rs⟩:=(show ∃a vs,v= .ref a/\H a=some (.tup vs)/\RelDs X.K H ds vs from r)
  subst e
  cases (show u= .ref a from ru)
  obtain⟨its,rv,ht,_⟩:=I.tuple (SqT.of hH)
  obtain⟨o,ho,hc,n,hd⟩:=ht
  obtain⟨as,q⟩:=reads_Ds I rh ts rs rv
  exact⟨as,.tuple ho hc hd q⟩
 | .list ps,d,v,u,t,r,ru=>by
  obtain⟨a,ds,e,ha,ts⟩:=(show ∃a ds,d= .lst a/\h a=some ds/\ToPs h ds ps from t)
  subst e
  obtain⟨vs,hH,rs⟩:=rh a ds ha
  have e:v= .ref a:=r.1
  subst e
  cases (show u= .ref a from ru)
  obtain⟨its,rv,pl,_⟩:=I.list (SqL.of hH)
  obtain⟨o,ho,hc,n,hd⟩:=pl.isList
  obtain⟨as,q⟩:=reads_Ds I rh ts rs rv
  exact⟨a::as,.list ho hc hd q⟩
 | .dict _,_,_,_,t,_,_=>(show False from t).elim
theorem reads_Ds (I:Inv X pins σ H s) (rh:RelH X.K h H): ∀ {ps:List PyData} {ds:List D} {vs:List V} {us:List Value},ToPs h ds ps->RelDs X.K H ds vs->Vals vs us-> ∃as,ReadsAll s.heap us ps as
 | [],ds,vs,us,t,r,rv=>by
  cases (show ds= [] from t);cases (show vs= [] from r);cases rv;exact⟨[],.nil⟩
 |p::ps,ds,vs,us,t,r,rv=>by
  obtain⟨d,dr,e,t1,t2⟩:=(show ∃d r,ds=d::r/\ToP h d p/\ToPs h r ps from t)
  subst e
  obtain⟨v,vr,e,r1,r2⟩:=(show ∃v r,vs=v::r/\RelD X.K H d v/\RelDs X.K H dr r from r)
  subst e
  cases rv with
  |cons ru rt=>
   obtain⟨as,q1⟩:=jba I rh t1 r1 ru
   obtain⟨bs,q2⟩:=reads_Ds I rh t2 r2 rt
   exact⟨as++bs,.cons q1 q2⟩
end
end
def eqE:RD2:=λx y h Q=>match x,y with
 | .int i,.int j=>Q (.bl (decide (i=j))) h
 | .bl i,.bl j=>Q (.bl (decide (i=j))) h
 | .str i,.str j=>Q (.bl (decide (i=j))) h
 |x,y=> ∃p q,ToP h x p/\ToP h y q/\shaped p=true/\shaped q=true/\Q (.bl (PyData.eqv p q)) h
def neE:RD2:=λx y h Q=>match x,y with
 | .int i,.int j=>Q (.bl (!decide (i=j))) h
 | .bl i,.bl j=>Q (.bl (!decide (i=j))) h
 | .str i,.str j=>Q (.bl (!decide (i=j))) h
 |x,y=> ∃p q,ToP h x p/\ToP h y q/\shaped p=true/\shaped q=true/\Q (.bl (!PyData.eqv p q)) h
section
variable {X:Cx}
def eqG:RD2:=λx y h Q=> ∃p q,ToP h x p/\ToP h y q/\shaped p=true/\shaped q=true/\Q (.bl (PyData.eqv p q)) h
def neG:RD2:=λx y h Q=> ∃p q,ToP h x p/\ToP h y q/\shaped p=true/\shaped q=true/\Q (.bl (!PyData.eqv p q)) h
theorem jos (hu:X.A.units+64<cLine):OpQ X (compareOp .Eq) eqG:=by
 intro pins s σ H x y v u Q I rx ry h
 obtain⟨dx,dy,h,Qd,r1,r2,rh,⟨p,q,t1,t2,s1,s2,qq⟩,post⟩:=h
 obtain⟨as,a1⟩:=jba I rh t1 r1 rx
 obtain⟨bs,b1⟩:=jba I rh t2 r2 ry
 exact compareEq_shaped a1 b1 s1 s2 hu ⟨.bl _,H,I,rfl,post (.bl _) _ _ _ (.refl H) rh rfl qq⟩
theorem jot (hu:X.A.units+64<cLine):OpQ X (compareOp .NotEq) neG:=by
 intro pins s σ H x y v u Q I rx ry h
 obtain⟨dx,dy,h,Qd,r1,r2,rh,⟨p,q,t1,t2,s1,s2,qq⟩,post⟩:=h
 obtain⟨as,a1⟩:=jba I rh t1 r1 rx
 obtain⟨bs,b1⟩:=jba I rh t2 r2 ry
 exact compareNe_shaped a1 b1 s1 s2 hu ⟨.bl _,H,I,rfl,post (.bl _) _ _ _ (.refl H) rh rfl qq⟩
theorem OpQ.or' {f:Value->Value->Sem Value} {r r' r2:RD2} (h:OpQ X f r) (h' :OpQ X f r') (i: ∀x y hh Q,r2 x y hh Q->r x y hh Q\/r' x y hh Q):OpQ X f r2:=λpins s σ H x y v u Q I rx ry ⟨dx,dy,hd,Qd,r1,r2',rh,q,p⟩=>
 (i dx dy hd Qd q).elim (λz=>h pins s σ H x y v u Q I rx ry ⟨dx,dy,hd,Qd,r1,r2',rh,z,p⟩) λz=>h' pins s σ H x y v u Q I rx ry ⟨dx,dy,hd,Qd,r1,r2',rh,z,p⟩
theorem jgb (hu:X.A.units+64<cLine):OpQ X (compareOp .Eq) eqE:=oq_eq.or' (jos hu) λx y h Q q=>by
 unfold eqE at q
 split at q
 ·exact .inl q
 ·exact .inl q
 ·exact .inl q
 ·exact .inr q
theorem jhi (hu:X.A.units+64<cLine):OpQ X (compareOp .NotEq) neE:=oq_ne.or' (jot hu) λx y h Q q=>by
 unfold neE at q
 split at q
 ·exact .inl q
 ·exact .inl q
 ·exact .inl q
 ·exact .inr q
def isN:D->Bool
 | .non=>true
 |_=>false
def isV (neg:Bool):RD2:=λx y h Q=>match y with
 | .non=>Q (.bl (neg !=isN x)) h
 | .bl c=>match x with
  | .bl b=>Q (.bl (neg !=(b==c))) h
  | .non=>Q (.bl neg) h
  |_=>False
 |_=>False
end
end L2
namespace L2
open PySem PySem.Spec PyProof.Rows
theorem jk6: ∀ {ns:List Int} {us:List Value},Vals (ns.map V.int) us->IntsAre us ns
 | [],_,r=>by cases r;exact .nil
 |n::ns,_,r=>by
  cases r with
  |cons r t=>obtain⟨k,rfl⟩:=r;exact .cons n k (jk6 t)
theorem jds {K:PySem.W.Frag} {H:Hp}: ∀ {ns:List Int} {vs:List V},RelDs K H (ns.map D.int) vs->vs=ns.map V.int
 | [],_,h=>h
 |n::ns,vs,h=>by
  obtain⟨v,r,e,h1,h2⟩:=(show ∃v r,vs=v::r/\RelD K H (.int n) v/\RelDs K H (ns.map D.int) r from h)
  rw [e,jds h2,(show v= .int n from h1)];rfl
def jdh:RDn:=λds h Q=> ∃ (a:Addr) (ns:List Int),ds= [.lst a]/\h a=some (ns.map D.int)/\Q (.int ns.sum) (jdL h a)
def jat:RDn:=λds h Q=> ∃ns:List Int,(ds= [.tup (ns.map D.int)]\/ ∃a,ds= [.lst a]/\h a=some (ns.map D.int))/\ns.length<64/\ ∀ (p:Addr) (ns' :List Int),h p=none->ns'.Perm ns->ns'.Pairwise (· <= ·)->Q (.lst p) (jbp h p (ns'.map D.int))
def jdi (to te:TED):TED:=λσ h Q=>to σ h λx h1=> ∃ns:List Int,x= .tup (ns.map D.int)/\te σ h1 λy h2=> ∃k:Int,y= .int k/\k∈ns/\Q (.int (ns.idxOf k:Nat)) h2
def jdj (to ti te:TED):TED:=λσ h Q=>to σ h λx h1=> ∃a,x= .lst a/\ti σ h1 λi h2=>te σ h2 λy h3=> ∃ (k:Nat) (xs:List D),i= .int (k:Int)/\k<=1000/\h3 a=some xs/\xs.length<sizeLine/\Q .non (jbp h3 a (xs.take k++y::xs.drop k))
def jbe (ta:TAD):TED:=λσ h Q=>ta σ h λds h1=> ∃n:Nat,ds= [.int (n:Int)]/\n<=1000/\ ∀p,h1 p=none->Q (.lst p) (jbp h1 p ((List.range n).map λ(k:Nat)=>D.int (k:Int)))
structure JE (X:Cx) (e:Expr) (t:TED):Prop where
 to:QE X e t
structure JT (X:Cx) (e:Expr) (t:TTD):Prop where
 to:QT X e t
structure JW (X:Cx) (e:Expr) (t:TTD):Prop where
 to:QW X e t
structure JA (X:Cx) (e:List Expr) (t:TAD):Prop where
 to:QA X e t
structure JS (X:Cx) (e:Stmt) (t:TSD):Prop where
 to:QS X e t
structure JSs (X:Cx) (e:List Stmt) (t:TSD):Prop where
 to:QSs X e t
structure JG (X:Cx) (e:Expr) (t:TGD):Prop where
 to:QG X e t
structure JI (X:Cx) (tg e:Expr) (t:TID):Prop where
 to:QI X tg e t
structure JO (X:Cx) (e:Option Expr) (t:TOD):Prop where
 to:QO X e t
section
variable {X:Cx} {a b c e:Expr} {es rest:List Expr} {ta tb tc te:TED} {t u:TAD} {tt tu:TTD} {pos:Pos} {f r r' :RD2}
theorem jv (i:Nat) {x:Str} (hN:X.N[i]? =some x:=by rfl) (hv:Vis X.env.scope x:=by first|exact Or.inl rfl|exact Or.inr (Or.inl rfl)|exact Or.inr (Or.inr rfl)) (hd:(x==("__debug__" :Str))=false:=by decide) (hcd:(x==("__classdict__" :Str))=false:=by decide):JE X (.Name x pos) (jcB i):=⟨qv (i:=i) (hN:=hN) (hv:=hv) (hd:=hd) (hcd:=hcd)⟩
theorem jam {i:Int} {j:Nat}:JE X (.Constant (.int i) j pos) (dC (.int i)):=⟨jqJ⟩
theorem jbl {i:Bool} {j:Nat}:JE X (.Constant (.bool i) j pos) (dC (.bl i)):=⟨qbl⟩
theorem jjV {j:Nat}:JE X (.Constant .none j pos) (dC .non):=⟨jq6⟩
theorem jdH {x:Str} {j:Nat}:JE X (.Constant (.str x) j pos) (dC (.str x)):=⟨jq7⟩
theorem jp8 {x:Str} {i:Int} {tk:Tok} (hg:Gl X x) (hm:X.mg x=some (.int i tk)) (hd:(x==("__debug__" :Str))=false:=by decide):JE X (.Name x pos) (dC (.int i)):=⟨jpO (hg:=hg) (hm:=hm) (hd:=hd)⟩
theorem jop {op:Operator} (ho:OpQ X (binaryOp op) f) (ha:JE X a ta) (hb:JE X b tb):JE X (.BinOp a op b pos) (dOp f ta tb):=⟨qop (ho:=ho) (ha:=ha.to) (hb:=hb.to)⟩
theorem jid {op:CmpOp} (ho:OpQ X (compareOp op) f) (ha:JE X a ta) (hb:JE X b tb) (hm:behindInMarks op b=false):JE X (.Compare a [op] [b] pos) (dOp f ta tb):=⟨jq8 (ho:=ho) (ha:=ha.to) (hb:=hb.to) (hm:=hm)⟩
theorem jbq {op:CmpOp} (ho:OpQ X (compareOp op) f) (ha:JE X a ta) (hb:JE X b tb) (hm:behindInMarks op b=false):JT X (.Compare a [op] [b] pos) (jaR (dOp f ta tb)):=⟨jpP (ho:=ho) (ha:=ha.to) (hb:=hb.to) (hm:=hm)⟩
theorem jou {op op' :CmpOp} (ho:OpQ X (compareOp op) r) (ho' :OpQ X (compareOp op') r') (ha:JE X a ta) (hb:JE X b tb) (hc:JE X c tc) (hm:lastMarks [op,op'] [b,c]=false:=by with_unfolding_all rfl):JE X (.Compare a [op,op'] [b,c] pos) (jay r r' ta tb tc):=⟨jnX (ho:=ho) (ho' :=ho') (ha:=ha.to) (hb:=hb.to) (hc:=hc.to) (hm:=hm)⟩
theorem jiZ {op op' :CmpOp} (ho:OpQ X (compareOp op) r) (ho' :OpQ X (compareOp op') r') (ha:JE X a ta) (hb:JE X b tb) (hc:JE X c tc) (hm:lastMarks [op,op'] [b,c]=false:=by with_unfolding_all rfl):JT X (.Compare a [op,op'] [b,c] pos) (jaR (jay r r' ta tb tc)):=⟨jlR (ho:=ho) (ho' :=ho') (ha:=ha.to) (hb:=hb.to) (hc:=hc.to) (hm:=hm)⟩
theorem jcn (ha:JE X a ta) (he: ∀whole,isTrue a X.env whole=(do let v <-whole;standAt a.pos;holding [v] (truthy v)):=by intro _;rfl):JT X a (jaR ta):=⟨jpQ (ha:=ha.to) (he:=he)⟩
theorem ji0 (ha:JT X a tt):JW X (.BoolOp .And [a] pos) tt:=⟨jpR (ha:=ha.to)⟩
theorem jk7 (ha:JT X a tt):JW X (.BoolOp .Or [a] pos) tt:=⟨jq9 (ha:=ha.to)⟩
theorem ji1 (ha:JT X a tt) (hb:JW X (.BoolOp .And (b::rest) pos) tu):JW X (.BoolOp .And (a::b::rest) pos) (jaW tt tu):=⟨jpS (ha:=ha.to) (hb:=hb.to)⟩
theorem jk8 (ha:JT X a tt) (hb:JW X (.BoolOp .Or (b::rest) pos) tu):JW X (.BoolOp .Or (a::b::rest) pos) (jcI tt tu):=⟨jra (ha:=ha.to) (hb:=hb.to)⟩
theorem jcO (ha:JT X a tt):JT X (.UnaryOp .Not a pos) (jaX tt):=⟨jpT (ha:=ha.to)⟩
theorem jie {op:BoolOp} (ha:JE X a ta):JE X (.BoolOp op [a] pos) ta:=⟨jrb (ha:=ha.to)⟩
theorem jkn (ha:JE X a ta) (hb:JE X (.BoolOp .And (b::rest) pos) tb):JE X (.BoolOp .And (a::b::rest) pos) (jaY ta tb):=⟨jrc (ha:=ha.to) (hb:=hb.to)⟩
theorem jor (ha:JE X a ta) (hb:JE X (.BoolOp .Or (b::rest) pos) tb):JE X (.BoolOp .Or (a::b::rest) pos) (jcJ ta tb):=⟨qor (ha:=ha.to) (hb:=hb.to)⟩
theorem jqL (ha:JE X a ta):JE X (.UnaryOp .Not a pos) (jaZ ta):=⟨jrd (ha:=ha.to)⟩
theorem jab:JA X [] jb8:=⟨jnY⟩
theorem jbr {k:Nat} (h:JA X es t):JE X (.Tuple es k pos) (jcC t):=⟨jre (h:=h.to)⟩
theorem jb4 (h:JA X es t):JE X (.List es pos) (jcH t):=⟨jrf (h:=h.to)⟩
end
section
variable {X:Cx} {st:Stmt} {sts:List Stmt} {t u:TSD} {e:Expr} {te:TED} {pos:Pos}
theorem jaU:JSs X [] ja0:=⟨jn4⟩
theorem jaf (h1:JS X st t) (h2:JSs X sts u):JSs X (st::sts) (jcg t u):=⟨jlW (h1:=h1.to) (h2:=h2.to)⟩
theorem jai (h1:JS X st t):JSs X [st] t:=⟨jn5 (h1:=h1.to)⟩
theorem jeC (he:JE X e te) (hs:swapsWith e none pos.line X.env=pure false:=by rfl):JS X (.Expr e pos) (ja1 te):=⟨jpV (he:=he.to) (hs:=hs)⟩
theorem jbM (he:JE X e te):JS X (.Return (some e) pos) (jcq te):=⟨jrg (he:=he.to)⟩
theorem jee {c:Expr} {a b:List Stmt} {tc:TTD} (hc:JT X c tc) (ha:JSs X a t) (hb:JSs X b u):JS X (.If c a b pos) (jcK tc t u):=⟨jrh (hc:=hc.to) (ha:=ha.to) (hb:=hb.to)⟩
theorem jbV {i:Nat} {x:Str} {pos' :Pos} (hN:X.N.Nodup) (hi:X.N[i]? =some x) (hx:Loc X.env.scope x) (he:JE X e te) (hs:swapsWith e (some (.Name x pos')) pos.line X.env=pure false:=by rfl) (hf:X.fn x=true\/X.env.scope.names.lookup x=some .local:=by first|exact .inl rfl|exact .inr rfl|assumption):JS X (.Assign [.Name x pos'] e pos) (jcm i te):=⟨jri (hN:=hN) (hi:=hi) (hx:=hx) (he:=he.to) (hs:=hs) (hf:=hf)⟩
theorem jbW {i:Nat} {x:Str} (hN:X.N.Nodup) (hi:X.N[i]? =some x) (hx:Loc X.env.scope x) (hf:X.fn x=true\/X.env.scope.names.lookup x=some .local:=by first|exact .inl rfl|exact .inr rfl|assumption):JG X (.Name x pos) (gN i):=⟨jlX (hN:=hN) (hi:=hi) (hx:=hx) (hf:=hf)⟩
theorem jov {i j:Nat} {x y:Str} {p1 p2:Pos} {k:Nat} (hc:X.calm=true) (hN:X.N.Nodup) (hi:X.N[i]? =some x) (hj:X.N[j]? =some y) (hx:Loc X.env.scope x) (hy:Loc X.env.scope y) (hf:X.fn x=true\/X.env.scope.names.lookup x=some .local:=by first|exact .inl rfl|exact .inr rfl|assumption) (hf2:X.fn y=true\/X.env.scope.names.lookup y=some .local:=by first|exact .inl rfl|exact .inr rfl|assumption):JG X (.Tuple [.Name x p1,.Name y p2] k pos) (gT2 i j):=⟨jn6 (hc:=hc) (hN:=hN) (hi:=hi) (hj:=hj) (hx:=hx) (hy:=hy) (hf:=hf) (hf2:=hf2)⟩
theorem jpi {tg:Expr} {g:TGD} (he:JE X e te) (hg:JG X tg g) (hs:swapsWithSole [tg] e pos.line X.env=pure false:=by rfl) (hsw:swappedStores [tg] e X.env=pure none:=by rfl) (h1:(assignEach [tg] X.env).map (·.2)= [assign tg X.env]:=by rfl):JS X (.Assign [tg] e pos) (jcL te g):=⟨jrj (he:=he.to) (hg:=hg.to) (hs:=hs) (hsw:=hsw) (h1:=h1)⟩
theorem jp9 {i j:Nat} {x y:Str} {a b:Expr} {ta:TAD} {px py pt:Pos} {kt k2 pt2} (hc:X.calm=true) (hN:X.N.Nodup) (hi:X.N[i]? =some x) (hj:X.N[j]? =some y) (hij:i≠j) (hx:X.env.scope.names.lookup x=some .local) (hy:X.env.scope.names.lookup y=some .local) (ha:JA X [a,b] ta) (hw:swappedStores [.Tuple [.Name x px,.Name y py] kt pt] (.Tuple [a,b] k2 pt2) X.env=pure (some [x,y])) (hs:swapsWithSole [.Tuple [.Name x px,.Name y py] kt pt] (.Tuple [a,b] k2 pt2) pos.line X.env=pure false:=by rfl):JS X (.Assign [.Tuple [.Name x px,.Name y py] kt pt] (.Tuple [a,b] k2 pt2) pos) (jcM i j ta):=⟨jrk (hc:=hc) (hN:=hN) (hi:=hi) (hj:=hj) (hij:=hij) (hx:=hx) (hy:=hy) (ha:=ha.to) (hw:=hw) (hs:=hs)⟩
end
section
variable {X:Cx} {tg e iter elt:Expr} {te:TED} {ti:TID} {g:TGD} {tb:TSD} {tt:TTD} {pos:Pos} {ta:TAD} {scope:Scope} {js:List Nat} {ifs:List Expr}
theorem ji2 (he:JE X e te):JI X tg e (iL te):=⟨jl0 (he:=he.to)⟩
theorem jeD {p:Pos} {a:Expr} (hg:Gl X "range") (hm:X.mg "range" =none) (ha:JA X [a] ta) (hs:starEach [a] X.env= [(false,eval a X.env)]:=by rfl):JI X tg (.Call (.Name "range" p) [a] [] pos) (iR1 ta):=⟨jpY (hg:=hg) (hm:=hm) (ha:=ha.to) (hs:=hs)⟩
theorem jjW {body:List Stmt} (hp:PassesOwn (model X.prog X.w) X.A X.env X.xe) (hc:X.calm=true) (hi:JI X tg iter ti) (hg:JG X tg g) (hb:JSs X body tb) (hs: ∀x,foldedSetIterable iter X.env x=pure x:=by intro _;rfl):JS X (.For tg iter body [] pos) (jn7 ti g tb):=⟨jrl (hp:=hp) (hc:=hc) (hi:=hi.to) (hg:=hg.to) (hb:=hb.to) (hs:=hs)⟩
theorem jbB:PTs X [] (LT X.K jgK):=jl1
theorem jfE {c:Expr} (hc:JT X c tt):PTs X [c] (LT X.K tt):=jl2 (hc:=hc.to)
theorem jlc {i:Nat} {x:Str} {p:Pos} (hc:X.calm=true) (S:BlockOk X scope js) (hi:JI X (.Name x p) iter ti) (hj:i∈js) (hN:X.N.Nodup) (hx:X.N[i]? =some x) (hl:scope.names.lookup x=some .local\/scope.names.lookup x=some .cell) (ht: ∀X',jau X scope X' ->PTs X' ifs (LT X'.K tt)) (he: ∀X',jau X scope X' ->JE X' elt te) (hs: ∀x,foldedSetIterable iter X.env x=pure x:=by intro _;rfl):JE X (.ListComp elt [⟨.Name x p,iter,ifs,0⟩] scope pos) (jex (bN i) js ti tt te):=⟨qlc (hc:=hc) (S:=S) (hi:=hi.to) (hj:=hj) (hN:=hN) (hx:=hx) (hl:=hl) (ht:=ht) (he:=λX' hX=>(he X' hX).to) (hs:=hs)⟩
theorem jrq {i j:Nat} {x y:Str} {p1 p2 p3:Pos} {k:Nat} (hc:X.calm=true) (S:BlockOk X scope js) (hi:JI X (.Tuple [.Name x p1,.Name y p2] k p3) iter ti) (hj:i∈js) (hj2:j∈js) (hij:i≠j) (hN:X.N.Nodup) (hx:X.N[i]? =some x) (hy:X.N[j]? =some y) (hl:scope.names.lookup x=some .local\/scope.names.lookup x=some .cell) (hl2:scope.names.lookup y=some .local\/scope.names.lookup y=some .cell) (ht: ∀X',jau X scope X' ->PTs X' ifs (LT X'.K tt)) (he: ∀X',jau X scope X' ->JE X' elt te) (hs: ∀x,foldedSetIterable iter X.env x=pure x:=by intro _;rfl):JE X (.ListComp elt [⟨.Tuple [.Name x p1,.Name y p2] k p3,iter,ifs,0⟩] scope pos) (jex (b2 i j) js ti tt te):=⟨jrm (hc:=hc) (S:=S) (hi:=hi.to) (hj:=hj) (hj2:=hj2) (hij:=hij) (hN:=hN) (hx:=hx) (hy:=hy) (hl:=hl) (hl2:=hl2) (ht:=ht) (he:=λX' hX=>(he X' hX).to) (hs:=hs)⟩
end
section
variable {X:Cx} {k:Nat} {f:Addr} {fd:FuncData} {ps:List Str} {spd:RDn} {x:Str} {p pos:Pos} {e:Expr} {es:List Expr} {t:TAD}
theorem jaw (F:FnOk X.prog X.w X.K X.mg X.base CX0 k f fd ps (LSp X.K spd)) (hr:Room k X.A) (hg:Gl X x) (hm:X.mg x=some (.ref f)) (hk:PySem.W.keepIn X.K (.ref f)=true) (hb:Binds X.K fd ps []) (ha:JA X (e::es) t) (hdb:(x==("__debug__" :Str))=false:=by decide) (he:starEach (e::es) X.env=(false,eval e X.env)::starEach es X.env:=by rfl) (hpl:(backTo pos (starEach es X.env)).any (·.1)=false:=by rfl):JE X (.Call (.Name x p) (e::es) [] pos) (dCB spd t):=⟨jpZ (F:=F) (hr:=hr) (hg:=hg) (hm:=hm) (hk:=hk) (hb:=hb) (ha:=ha.to) (hdb:=hdb) (he:=he) (hpl:=hpl)⟩
theorem jaN {id:String} {r:RDn} (hc:jdo X (.builtin id) r) (hg:Gl X x) (hm:X.mg x=none) (hv:bootBuiltins x=some (.builtin id)) (ha:JA X (e::es) t) (hn:x≠ "__name__" :=by decide) (hdb:(x==("__debug__" :Str))=false:=by decide) (he:starEach (e::es) X.env=(false,eval e X.env)::starEach es X.env:=by rfl) (hpl:(backTo pos (starEach es X.env)).any (·.1)=false:=by rfl):JE X (.Call (.Name x p) (e::es) [] pos) (dCB r t):=⟨job (hc:=hc) (hg:=hg) (hm:=hm) (hv:=hv) (ha:=ha.to) (hn:=hn) (hdb:=hdb) (he:=he) (hpl:=hpl)⟩
theorem jb9 {T:String} {r:RDn} (hc:jdo X (.type T) r) (hg:Gl X x) (hm:X.mg x=none) (hv:bootBuiltins x=some (.type T)) (ha:JA X (e::es) t) (hn:x≠ "__name__" :=by decide) (hdb:(x==("__debug__" :Str))=false:=by decide) (he:starEach (e::es) X.env=(false,eval e X.env)::starEach es X.env:=by rfl) (hpl:(backTo pos (starEach es X.env)).any (·.1)=false:=by rfl):JE X (.Call (.Name x p) (e::es) [] pos) (dCB r t):=⟨jl3 (hc:=hc) (hg:=hg) (hm:=hm) (hv:=hv) (ha:=ha.to) (hn:=hn) (hdb:=hdb) (he:=he) (hpl:=hpl)⟩
end
section
variable {X:Cx} {iter elt:Expr} {te:TED} {ti:TID} {tt:TTD} {pos spos:Pos} {scope:Scope} {js:List Nat} {ifs:List Expr}
theorem jk9 {i k:Nat} {x y:Str} {p py:Pos} (hc:X.calm=true) (hN:X.N.Nodup) (hk:X.N[k]? =some y) (hy:Loc X.env.scope y) (S:BlockOk X scope js) (hi:JI X (.Name x p) iter ti) (hj:i∈js) (hx:X.N[i]? =some x) (hl:scope.names.lookup x=some .local\/scope.names.lookup x=some .cell) (ht: ∀X',jau X scope X' ->PTs X' ifs (LT X'.K tt)) (he: ∀X',jau X scope X' ->JE X' elt te) (hsw:swapsWith (.ListComp elt [⟨.Name x p,iter,ifs,0⟩] scope pos) (some (.Name y py)) spos.line X.env=pure true:=by rfl) (hf:X.fn y=true\/X.env.scope.names.lookup y=some .local:=by first|exact .inl rfl|exact .inr rfl|assumption) (hs: ∀x,foldedSetIterable iter X.env x=pure x:=by intro _;rfl):JS X (.Assign [.Name y py] (.ListComp elt [⟨.Name x p,iter,ifs,0⟩] scope pos) spos) (jcm k (jex (bN i) js ti tt te)):=⟨joc (hc:=hc) (hN:=hN) (hk:=hk) (hy:=hy) (S:=S) (hi:=hi.to) (hj:=hj) (hx:=hx) (hl:=hl) (ht:=ht) (he:=λX' hX=>(he X' hX).to) (hsw:=hsw) (hf:=hf) (hs:=hs)⟩
end
section
variable {X:Cx} {a b e:Expr} {ta tb te:TED} {pos p2:Pos}
theorem jix (ha:JE X a ta) (hb:JE X b tb) (hs:jgF b):JE X (.Subscript a b pos) (dOp ixD ta tb):=⟨qix (ha:=ha.to) (hb:=hb.to) (hs:=hs)⟩
end
theorem je5 {X:Cx} {a:Expr} {ta:TED} {T:String} {t:Str} {p p2 pos:Pos} (hT:T∈ ["tuple","int","bool","list","str"]) (hg:Gl X "isinstance") (hm:X.mg "isinstance" =none) (hg2:Gl X t) (hm2:X.mg t=none) (hv:bootBuiltins t=some (.type T)) (ha:JE X a ta) (hn:t≠ "__name__" :=by decide) (hd:(t==("__debug__" :Str))=false:=by decide) (h1:starEach [a,.Name t p2] X.env=(false,eval a X.env)::starEach [.Name t p2] X.env:=by rfl) (h2:(backTo pos (starEach [.Name t p2] X.env)).any (·.1)=false:=by rfl):JE X (.Call (.Name "isinstance" p) [a,.Name t p2] [] pos) (dIs T ta):=⟨jp4 (hT:=hT) (hg:=hg) (hm:=hm) (hg2:=hg2) (hm2:=hm2) (hv:=hv) (ha:=ha.to) (hn:=hn) (hd:=hd) (h1:=h1) (h2:=h2)⟩
section
variable {X:Cx} {o e i:Expr} {to te ti:TED} {apos cpos pos:Pos}
theorem jme (ho:JE X o to) (he:JE X e te) (hbase:attributeBase o "append" X.env (eval o X.env)=eval o X.env:=by rfl) (hfew:((backTo cpos (starEach [e] X.env)).all (λx=> !x.1)&&(backToKw cpos (keywordEach [] X.env)).all (λx=>x.1.isSome)&&decide ([e].length+([]:List Keyword).length+(if ([]:List Keyword).isEmpty then 0 else 1)<30))=true:=by rfl) (hline:(apos.endLine==cpos.line)=true:=by rfl) (hs:starEach [e] X.env=(false,eval e X.env)::starEach [] X.env:=by rfl) (hplain:(backTo cpos (starEach [] X.env)).any (·.1)=false:=by rfl):JE X (.Call (.Attribute o "append" apos) [e] [] cpos) (jcU to te):=⟨jrn (ho:=ho.to) (he:=he.to) (hbase:=hbase) (hfew:=hfew) (hline:=hline) (hs:=hs) (hplain:=hplain)⟩
theorem ji3 (ho:JE X o to) (hi:JE X i ti) (ha: ∀v,assign (.Subscript o i pos) X.env v=(do
 let ov <-holding [v] (eval o X.env)
 let iv <-holding [v,ov] (eval i X.env)
 standAt pos
 holding [v,ov,iv] (setItem ov iv v)
 release [v,ov,iv] []):=by intro _;rfl):JG X (.Subscript o i pos) (ja3 to ti):=⟨joh (ho:=ho.to) (hi:=hi.to) (ha:=ha)⟩
end
theorem jpt {X:Cx} {e:Expr} {t:TTD} (h:JW X e t):JT X e t:=⟨qpt (h:=h.to)⟩
theorem jca {X:Cx}:JO X none jaq:=⟨jl9⟩
theorem jbC {X:Cx} {e:Expr} {te:TED} (he:JE X e te):JO X (some e) (ja4 te):=⟨jma (he:=he.to)⟩
theorem jcX {X:Cx} {e:Expr} {te:TED} {lo hi:Option Expr} {tl th:TOD} {pos p2:Pos} (he:JE X e te) (hl:JO X lo tl) (hu:JO X hi th):JE X (.Subscript e (.Slice lo hi none p2) pos) (dSl te tl th):=⟨joi (he:=he.to) (hl:=hl.to) (hu:=hu.to)⟩
theorem jow {X:Cx} {a:Expr} {ta:TED} {pos:Pos} (ha:JE X a ta):JE X (.UnaryOp .USub a pos) (dUn jcN ta):=⟨jqK (ha:=ha.to)⟩
theorem jqM {X:Cx} {e:Expr} {te:TED} {pos p2 p3 p4:Pos} {j:Nat} (he:JE X e te):JE X (.Subscript e (.Slice none none (some (.UnaryOp .USub (.Constant (.int 1) j p4) p3)) p2) pos) (jcW te):=⟨jrp (he:=he.to)⟩
theorem jla {X:Cx} {ks:List (Option Expr)} {vs:List Expr} {pos:Pos} {x:Str} {i:Int} (h:jgO ks vs=some (x,i):=by rfl):JE X (.Dict ks vs pos) (jaC x i):=⟨jok (h:=h)⟩
theorem jcs {X:Cx} {tg e:Expr} {te:TED} (he:JE X e te):JI X tg e (iS te):=⟨joo (he:=he.to)⟩
theorem jfk {X:Cx} {st:Stmt}:JS X st jaD:=⟨joq⟩
theorem jac {X:Cx} {e:Expr} {es:List Expr} {te:TED} {t:TAD} (ha:JE X e te) (hr:JA X es t) (h:jgP e=true:=by rfl):JA X (e::es) (jaK te t):=⟨qac (ha:=ha.to) (hr:=hr.to) (h:=h)⟩
section
variable {P:Program} {w:World} {K:PySem.W.Frag} {mg:Str->Option Value} {base:Heap}
theorem Fun.okJ {x qual:Str} {st:Stmt} {f:Addr} {fd:FuncData} {N ps:List Str} {k:Nat} {spd:RDn} (F:Fun K x qual st f fd) (S:FnScope N ps (jae st)) (len: ∀ds h Q,spd ds h Q->ds.length=ps.length)
 (tb:TSD) (hbody: ∀ (cdv:Value) (A:Around) (outer:List Env) (s:Shared) (H:Hp) (E:XK),Room k (A.deeper (envOfC qual (jae st) s.heap.objs.size f cdv))->JSs (jft CX0 P w K mg base N qual (jae st) f cdv A outer s H E).nox (jaV st) tb)
 (read: ∀ds h Q,spd ds h Q->tb (jch Q) (jap N ds) h):FnOk P w K mg base CX0 (k+1) f fd ps (LSp K spd):=F.okD S len tb (λcdv A outer s H E hr=>(hbody cdv A outer s H E hr).to) read
end
def jdt (r:List Int):D:= .tup (r.map D.int)
def jaM (T:List (List Int)):D:= .tup (T.map jdt)
def jdO (n:Nat) (r:List Int):Prop:=r.length=n/\ ∀x∈r,0<=x/\x<=1000000
def GoodTab (n:Nat) (T:List (List Int)):Prop:=T.length=n/\ ∀r∈T,jdO n r
structure Sq (n e:Nat) (T:List (List Int)):Prop where
 len:T.length=n
 row: ∀r∈T,r.length=n
 nn: ∀r∈T,∀x∈r,0<=x
 bit: ∀r∈T,∀x∈r,x<2^e
theorem GoodTab.sq {n:Nat} {T:List (List Int)} (g:GoodTab n T):Sq n 20 T:=⟨g.1,λr hr=>(g.2 r hr).1,λr hr x hx=>((g.2 r hr).2 x hx).1,λr hr x hx=>Int.lt_of_le_of_lt ((g.2 r hr).2 x hx).2 (by decide)⟩
def ent (T:List (List Int)) (i j:Nat):Int:=(T.getD i []).getD j 0
def mkT (n:Nat) (f:Nat->Nat->Int):List (List Int):=(List.range n).map λi=>(List.range n).map λj=>f i j
theorem Sq.ent_nn {n e:Nat} {T:List (List Int)} (h:Sq n e T) {i j:Nat} (hi:i<n) (hj:j<n):0<=ent T i j/\ent T i j<2^e:=by
 have hi' :i<T.length:=by rw [h.len];exact hi
 have hr:T.getD i []=T[i]:=by rw [G03,G0b hi'];rfl
 have hm:T[i]∈T:=G1g hi'
 have hj' :j<T[i].length:=by rw [h.row _ hm];exact hj
 have he:ent T i j=T[i][j]:=by unfold ent;rw [hr,List.getD_eq_getElem?_getD,List.getElem?_eq_getElem hj'];rfl
 rw [he]
 exact⟨h.nn _ hm _ (G1g hj'),h.bit _ hm _ (G1g hj')⟩
def jqa (n:Nat) (f:Nat->Int):Int:=((List.range n).map f).sum
def jqN (n:Nat) (T U:List (List Int)):List (List Int):=mkT n λi j=>jqa n λk=>ent T i k*ent U k j
def jrr (n:Nat):List (List Int):=mkT n λi j=>if i=j then 1 else 0
def jqb (n:Nat) (T:List (List Int)):Nat->List (List Int)
 |0=>jrr n
 |k+1=>jqN n (jqb n T k) T
def jox (n:Nat) (T:List (List Int)):List (List Int):=mkT n λi j=>if ent T i j=0 then 0 else 1
structure Ord (n:Nat) (o:List Nat):Prop where
 len:o.length=n
 all: ∀i,i<n->i∈o
def jqc (i j:Int):Prop:= ∃m n:Nat,i.natAbs<2^m/\j.natAbs<2^n/\m+n<=134217728
def jdk:RD2:=λx y h Q=>match x,y with
 | .int i,.int j=>jqc i j/\Q (.int (i*j)) h
 |_,_=>False
theorem ji4 {x:Int} {e:Nat} (h0:0<=x) (h1:x<2^e):x.natAbs<2^e:=by
 have:((2^e:Nat):Int)=2^e:=by simp
 omega
section
variable {α β:Type} {i i' :Nat} {js:List Nat} {ti ti' :TID} {te:TED} {σ:SD} {h:HD} {Q:KD} {j:ItD}
theorem lcA (xs:List α) (c g:α->D) (hz:xs.length<=1000) (hj:j h=some (xs.map c)) (ht: ∀R:ItD->HD->Prop,R j h->ti σ h R)
 (he: ∀x∈xs,∀Q' :KD,Q' (g x) h->te ((jaT js σ).set i (some (c x))) h Q') (hq: ∀p,h p=none->Q (.lst p) (jbp h p (xs.map g))):jex (bN i) js ti jgK te σ h Q:=by
 refine ht _ ⟨xs.length,λk ys h' =>h' =h/\ys=(xs.take k).map g,⟨rfl,by simp⟩,?_⟩
 rintro k ys h' ⟨rfl,rfl⟩
 refine⟨by simp only [G0c,G0E];exact G0W (jaA (by omega)),xs.map c,hj,by simp,λhl p hp=> ?_,λd hd=>⟨_,rfl,?_⟩⟩
 ·rw [G0K (by simpa using hl)];exact hq p hp
 ·unfold jgK
  dsimp only
  rw [if_pos rfl]
  rw [G0H] at hd
  cases hx:xs[k]? with
  |none=>rw [hx] at hd;cases hd
  |some x=>
   rw [hx] at hd;cases hd
   refine he x (G0i hx) _ ⟨h',Sub.refl _,rfl,?_⟩
   rw [G1d,hx]
   simp
theorem lcF (xs:List α) (c g:α->D) (p:α->Bool) {tt:TTD} (hz:xs.length<=1000) (hj:j h=some (xs.map c)) (ht: ∀R:ItD->HD->Prop,R j h->ti σ h R)
 (hp: ∀x∈xs,∀Q' :Bool->HD->Prop,Q' (p x) h->tt ((jaT js σ).set i (some (c x))) h Q') (he: ∀x∈xs,p x=true-> ∀Q' :KD,Q' (g x) h->te ((jaT js σ).set i (some (c x))) h Q') (hq: ∀a,h a=none->Q (.lst a) (jbp h a ((xs.filter p).map g))):jex (bN i) js ti tt te σ h Q:=by
 refine ht _ ⟨xs.length,λk ys h' =>h' =h/\ys=((xs.take k).filter p).map g,⟨rfl,by simp⟩,?_⟩
 rintro k ys h' ⟨rfl,rfl⟩
 refine⟨?_,xs.map c,hj,by simp,λhl a ha=> ?_,λd hd=>⟨_,rfl,?_⟩⟩
 ·have:=G1V p (xs.take k)
  simp only [G0c,G0E] at this ⊢
  exact G0W (jaA (by omega))
 ·rw [G0K (by simpa using hl)];exact hq a ha
 ·rw [G0H] at hd
  cases hx:xs[k]? with
  |none=>rw [hx] at hd;cases hd
  |some x=>
   rw [hx] at hd;cases hd
   refine hp x (G0i hx) _ ?_
   cases hb:p x with
   |true=>
    rw [if_pos rfl]
    refine he x (G0i hx) hb _ ⟨h',Sub.refl _,rfl,?_⟩
    rw [G1d,hx]
    simp [hb]
   |false=>
    rw [if_neg G0s]
    refine⟨h',Sub.refl _,rfl,?_⟩
    rw [G1d,hx]
    simp [hb]
theorem jqO (xs:List α) (c g:α->D) (hz:xs.length<=1000) (hj:j h=some (xs.map c)) (ht: ∀R:ItD->HD->Prop,R j h->ti σ h R)
 (he: ∀x∈xs,∀Q' :KD,Q' (g x) h->te ((jaT js σ).set i (some (c x))) h Q') (hq:Q (.tup (xs.map g)) h):dCB jav (jaK (jex (bN i) js ti jgK te) jb8) σ h Q:=by
 show jex (bN i) js ti jgK te σ h (λx h1=>jav [x] h1 Q)
 exact lcA xs c g hz hj ht he λp hp=>(show ∃ys,jbp h p (xs.map g) p=some ys/\Q (.tup ys) (jdL (jbp h p (xs.map g)) p) from ⟨_,jaa,by rw [jb1 hp];exact hq⟩)
theorem jrs (xs:List α) (c:α->D) (g:α->Bool) (hz:xs.length<=1000) (hj:j h=some (xs.map c)) (ht: ∀R:ItD->HD->Prop,R j h->ti σ h R)
 (he: ∀x∈xs,∀Q' :KD,Q' (.bl (g x)) h->te ((jaT js σ).set i (some (c x))) h Q') (hq:Q (.bl (xs.all g)) h):dCB jp5 (jaK (jex (bN i) js ti jgK te) jb8) σ h Q:=by
 show jex (bN i) js ti jgK te σ h (λx h1=>jp5 [x] h1 Q)
 exact lcA xs c (λx=> .bl (g x)) hz hj ht he λp hp=>⟨p,xs.map g,rfl,by rw [jaa,G1K];rfl,by rw [jb1 hp,G1U];exact hq⟩
end
end L2
namespace L2
open PySem PySem.Spec PyProof.Rows PySem.SeqAt
def jqd (j:ItD):TID:=λ_ h R=>R j h
theorem ji5 {b:D->SD->SD->Prop} {js:List Nat} {ti:TID} {tt:TTD} {te:TED} {σ:SD} {h:HD} {Q:KD} (x:ti σ h λj h1=>dCB jav (jaK (jex b js (jqd j) tt te) jb8) σ h1 Q):dCB jav (jaK (jex b js ti tt te) jb8) σ h Q:=x
def jcb (o:List Nat):D:= .tup (o.map λ(k:Nat)=>D.int (k:Int))
def jko (o:List Nat):List Int:=o.map λ(k:Nat)=>(k:Int)
theorem jmf (o:List Nat):jcb o= .tup ((jko o).map D.int):=by unfold jcb jko;rw [List.map_map];rfl
theorem jgc (h:HD): ∀ns:List Int,ToPs h (ns.map D.int) (ns.map PyData.int)
 | []=>rfl
 |n::ns=>⟨_,_,rfl,rfl,jgc h ns⟩
def jqP (r:List Int):PyData:= .tuple (r.map .int)
def jqQ (T:List (List Int)):PyData:= .tuple (T.map jqP)
theorem jgR {n e:Nat} {T:List (List Int)} (h:Sq n e T) {i:Nat} (hi:i<n):atI (T.map jdt) (i:Int)=some (jdt (T.getD i [])):=by
 have hi' :i<T.length:=by rw [h.len];exact hi
 exact jb6 (by rw [G0H,G03,G0b hi'];rfl)
theorem Sq.getRow {n e:Nat} {T:List (List Int)} (h:Sq n e T) {i:Nat} (hi:i<n):T.getD i []∈T:=by
 have hi' :i<T.length:=by rw [h.len];exact hi
 rw [G03,G0b hi'];exact G1g hi'
theorem ji6 {n:Nat} {r:List Int} (h:r.length=n) {j:Nat} (hj:j<n):atI (r.map D.int) (j:Int)=some (.int (r.getD j 0)):=by
 have hj' :j<r.length:=by rw [h];exact hj
 exact jb6 (by rw [G0H,G03,G0b hj'];rfl)
section
variable {prog:Program} {w:World} {A:Around} {E:Value->Shared->Prop} {s:Shared}
theorem ji7 {it t:Addr} {i n:Nat} {items:Array Value} {d1 d2:Option Addr} {s1 s2:Array (Option Value)} {P:PySem.Fin->Shared->Prop} (a1:s.heap.get? it=some {cls:= .type "tuple_iterator",dict:=d1,data:= .fields #[.ref t,.int i 0],slots:=s1}) (a2:s.heap.get? t=some {cls:= .type "tuple",dict:=d2,data:= .seq items n,slots:=s2})
 (more: ∀x h',items[i]? =some x->h'.IsTupleIter it t (i+1)->Heap.SameBut it s.heap h' ->P (.done (.ret x)) {s with heap:=h'})
 (none_:items[i]? =none->wpAny (model prog w) A (do setField (.ref it) 0 .none;Builtin.SmallTypes.stopIteration) P E s):wpAny (model prog w) A (Builtin.«tuple_iterator.__next__» ⟨[.ref it],[]⟩) P E s:=by
 obtain⟨hp,g,d,tk,os⟩:=s
 wp_walk
 rw [G2M]
 cases hx:items[i]? with
 |none=>exact wpAny_bind (G3k (none_ hx))
 |some x=>
  refine wpAny_bind (wpAny_setField a1 rfl (by simp) (G0j (more x _ hx ⟨_,Heap.get?_update_self _ a1 ?_,rfl,?_⟩ (Heap.SameBut.update ..))))
  ·rfl
  ·simp [Obj.mapFields,rawInt]
theorem jgS {Q:PySem.Fin->Shared->Prop} (hh:A.handled=none) (hE: ∀h' e,(∀b o,s.heap.get? b=some o->h'.get? b=some o)->(∃o,h'.get? e=some o/\o.cls= .type "StopIteration")->E (.ref e) {s with heap:=h'}):wpAny (model prog w) A Builtin.SmallTypes.stopIteration Q E s:=by
 obtain⟨hp,g,d,tk,os⟩:=s
 unfold Builtin.SmallTypes.stopIteration
 wp_walk
 unfold raiseNew
 refine wpAny_bind (wpAny_handled ?_)
 rw [hh]
 exact wpAny_bind (G0j (wpAny_throw (hE _ _ (λb o q=>G0f _ (G0f _ q)) ⟨_,G0S _ rfl,rfl⟩)))
theorem jhR {it t:Addr} {i:Nat} {items:Array Value} {x:Value} {Q:Value->Shared->Prop} (hit:s.heap.IsTupleIter it t i) (ht:s.heap.IsTuple t items) (hx:items[i]? =some x)
 (hQ: ∀h',h'.IsTupleIter it t (i+1)->Heap.SameBut it s.heap h' ->Q x {s with heap:=h'}):wpAny (model prog w) A (Builtin.SmallTypes.nextOf (.ref it)) Q E s:=by
 obtain⟨⟨c,d1,dt,s1⟩,ho,rfl,rfl⟩:=id hit
 obtain⟨⟨c2,d2,dt2,s2⟩,hol,rfl,nl,rfl⟩:=ht
 exact wpAny_bind (G1G hit.typeIs G1R (G1D G1R hit.typeIs G24 (ji7 ho hol (λy h' e b1 b2=>⟨y,rfl,G0j (by rw [hx] at e;cases e;exact hQ h' b1 b2)⟩) λe=>by rw [hx] at e;cases e) (G2Y _)))
theorem jcY {it t:Addr} {i:Nat} {items:Array Value} {Q:Value->Shared->Prop} (hh:A.handled=none) (hit:s.heap.IsTupleIter it t i) (ht:s.heap.IsTuple t items) (hx:items[i]? =none)
 (hE: ∀h' e,Heap.ExtBut it s.heap h' ->(∃o,h'.get? e=some o/\o.cls= .type "StopIteration")->E (.ref e) {s with heap:=h'}):wpAny (model prog w) A (Builtin.SmallTypes.nextOf (.ref it)) Q E s:=by
 obtain⟨⟨c,d1,dt,s1⟩,ho,rfl,rfl⟩:=id hit
 obtain⟨⟨c2,d2,dt2,s2⟩,hol,rfl,nl,rfl⟩:=ht
 refine wpAny_bind (G1G hit.typeIs G1R (G1D G1R hit.typeIs G24 (ji7 ho hol (λy h' e b1 b2=>by rw [hx] at e;cases e) λ_=>wpAny_bind (wpAny_setField ho rfl (by simp) ?_)) (G2Y _)))
 exact jgS (s:= {s with heap:=_}) hh λh' e grown stop=>hE h' e (λb o ne q=>grown b o ((Heap.SameBut.update ..).extBut b o ne q)) stop
end
theorem ji8 {prog:Program} {w:World} {A:Around} (hh:A.handled=none) (it t:Addr) (hne:t≠it) (items:Array Value):
 Draws prog w A it [it,t] items.size (λi v=>items[i]? =some v) (λi h=>h.IsTupleIter it t i/\h.IsTuple t items) where
 live:=λ_ _ st=>let ⟨o,ho,_⟩:=st.1;⟨o,ho⟩
 frame:=λ_ _ _ st hk=>⟨st.1.at λo e=>hk it (by simp) o e,st.2.at λo e=>hk t (by simp) o e⟩
 item:=λi s Q E hi st hQ=>jhR st.1 st.2 (x:=items[i]) (by simp [hi]) λh' hit' hs' =>hQ _ h' s.toks (by simp [hi]) ⟨hit',st.2.extBut hs'.extBut hne⟩ hs'
 done:=λs Q E st hE=>jcY hh st.1 st.2 (by simp) hE
theorem ji9 {prog:Program} {w:World} {A:Around} (hh:A.handled=none) (it t:Addr) (items:Array Value) (n:Nat) (hn:items.size<=n):
 Draws prog w A it [it,t] n (λ_ _=>False) (λi h=>i=n/\h.IsTupleIter it t n/\h.IsTuple t items) where
 live:=λ_ _ st=>let ⟨o,ho,_⟩:=st.2.1;⟨o,ho⟩
 frame:=λ_ _ _ st hk=>⟨st.1,st.2.1.at λo e=>hk it (by simp) o e,st.2.2.at λo e=>hk t (by simp) o e⟩
 item:=λi s Q E hi st hQ=>absurd st.1 (G0Q hi)
 done:=λs Q E st hE=>jcY hh st.2.1 st.2.2 (Array.getElem?_eq_none hn) hE
set_option maxHeartbeats 1000000 in
section
variable {prog:Program} {w:World} {A:Around} {E:Value->Shared->Prop} {s:Shared}
theorem jja {l:Addr} {its:Array Value} {P:PySem.Fin->Shared->Prop} (at_:s.heap.IsTuple l its)
 (h: ∀h',IsEnum h' (s.heap.objs.size+1) s.heap.objs.size 0 .none->h'.IsTupleIter s.heap.objs.size l 0->(∀b o,s.heap.get? b=some o->h'.get? b=some o)->P (.done (.ret (.ref (s.heap.objs.size+1)))) {s with heap:=h'}):
 wpAny (model prog w) A (Builtin.«enumerate.__new__» ⟨[.type "enumerate",.ref l],[]⟩) P E s:=by
 have fine:=sub_enumerate
 obtain⟨⟨c,dd,dt,sl⟩,there,rfl,n,rfl⟩:=id at_
 obtain⟨hp,g,d,tk,os⟩:=s
 have size: ∀o,(hp.push o).objs.size=hp.objs.size+1:=λo=>Heap.size_push ..
 have made:=G0S (hp.push {cls:= .type "tuple_iterator",data:= .fields #[.ref l,.int 0 0]}) (o:= {cls:= .type "enumerate",data:= .fields #[.none,.bool false,.ref hp.objs.size,rawInt 0,.none,.none]}) rfl
 have fin:=h _ (by rw [<-size];exact made) ⟨_,G0f _ (G0S _ rfl),rfl,rfl⟩ λb o old=>G0f _ (G0f _ old)
 rw [<-size {cls:= .type "tuple_iterator",data:= .fields #[.ref l,.int 0 0]}] at fin
 wp_walk using G2u there
 refine wpAny_stack_any λcalls=>G0j ?_
 split
 case h_1 c _ _ _ _ _=>cases c==Value.type "enumerate" <;>(wp_walk using G2u there,G3d at_;exact fin)
 case h_2=>wp_walk using G2u there,G3d at_;exact fin
theorem jfF {l:Addr} {items:Array Value} {Q:Value->Shared->Prop} (hL:s.heap.IsTuple l items)
 (h: ∀h',IsEnum h' (s.heap.objs.size+1) s.heap.objs.size 0 .none->h'.IsTupleIter s.heap.objs.size l 0->(∀b o,s.heap.get? b=some o->h'.get? b=some o)->Q (.ref (s.heap.objs.size+1)) {s with heap:=h'}):
 wpAny (model prog w) A (call (.type "enumerate") [.ref l]) Q E s:=
 callType_new F.called_enumerate (by decide) (F.typeCall_enumerate_1 _) (F.newCall_enumerate_1 _) (λ_=>F.args_object_init_2 _ _) F.entry_enumerate_new
  (S:=λ_ R s=>s.heap.IsTuple l items/\ ∀h',IsEnum h' (s.heap.objs.size+1) s.heap.objs.size 0 .none->h'.IsTupleIter s.heap.objs.size l 0->(∀b o,s.heap.get? b=some o->h'.get? b=some o)->R (.ok (.ret (.ref (s.heap.objs.size+1)))) {s with heap:=h'})
  (.of_wp λ_ _ _ _ _ ⟨tup,k⟩=>jja tup λh' e i old=>⟨_,rfl,k h' e i old⟩) ⟨hL,λh' e i old=>⟨⟨_,e,rfl⟩,h h' e i old⟩⟩
end
section
variable {X:Cx} {pins:List (Addr×Obj)} {σ:List (Option V)} {H:Hp} {s:Shared} {h' :Heap}
theorem Inv.turnL {t' :Nat} {ch:List Addr} (I:Inv X pins σ H s) (k: ∀b o,b ∉ ch->s.heap.get? b=some o->h'.get? b=some o) (hc: ∀b∈ch,jic X pins H b):Inv X pins σ H {s with heap:=h',toks:=t'}:=by
 refine I.step (g' :=s.gens) (d' :=s.drawn) (ch:=ch) (λb hb=>let ⟨_,f1,_,f3,f4,f5⟩:=hc b hb;⟨f3,f1,f4,f5⟩) (λb o _ _ nb e _=>k b o nb e) (λb o _ _ nb e _=>⟨o.slots,k b o nb e⟩) (λ_ _ _ _ n=>n)
  (λb o nb e=>⟨o,k b o nb e⟩) (λ_ _ e=>e) (λ_ _ _ e=>e) (λb ps e=>⟨#[],by rw [e];simp⟩) (λm hm=> ?_) (λb u e=> ?_) I.bare
 ·obtain⟨o,es,ep,ho,r⟩:=hm
  exact⟨o,es,ep,k _ o (λz=>(hc _ z).2.1 rfl) ho,r⟩
 ·refine(I.hok b u e).stay (λc v hb q=>k c v (λz=> ?_) q) (λ_ q=>q) λ_ _ q=>q
  have f:=(hc c z).1
  rcases hb with w|w
  ·rw [w,e] at f;cases f
  ·rw [w] at f;cases f
theorem Inv.turnLaid {t' :Nat} {ch:List Addr} {a:Addr} {o:HO} (I:Inv X pins σ H s) (k: ∀b u,b ∉ ch->s.heap.get? b=some u->h'.get? b=some u) (hc: ∀b∈ch,jic X pins H b) (hp:s.heap.objs.size<=a)
 (new:ObjOk X.prog X.w (upd H a o) h' a o):Inv X pins σ (upd H a o) {s with heap:=h',toks:=t'}:=by
 have hn:=I.hok.fresh hp
 refine I.step (g' :=s.gens) (d' :=s.drawn) (ch:=ch) (λb hb=>let ⟨_,f1,_,f3,f4,f5⟩:=hc b hb;⟨f3,f1,f4,f5⟩) (λb u _ _ nb e _=>k b u nb e) (λb u _ _ nb e _=>⟨u.slots,k b u nb e⟩)
  (λb u _ e n=>by rw [jak (G0Q (G0B (G0A e) hp))];exact n) (λb u nb e=>⟨u,k b u nb e⟩) (λb xs q=>by rw [jak (jal q hn)];exact q) (λb u xs q=>by rw [jak (jal q hn)];exact q)
  (λb ps q=>⟨#[],by rw [jak (jal q hn),q];simp⟩) (λm hm=> ?_) (λb u e=> ?_) I.bare
 ·obtain⟨u,es,ep,ho,r⟩:=hm
  exact⟨u,es,ep,k _ u (λz=>(hc _ z).2.1 rfl) ho,r⟩
 ·by_cases hb:b=a
  ·subst hb;rw [jaj] at e;cases e;exact new
  ·rw [jak hb] at e
   refine(I.hok b u e).stay (λc v hb q=>k c v (λz=> ?_) q) (λc q=>by rw [jak (jal q hn)];exact q) λc xs q=>by rw [jak (jal q hn)];exact q
   have f:=(hc c z).1
   rcases hb with w|w
   ·rw [w,e] at f;cases f
   ·rw [w] at f;cases f
end
def Ite (K:PySem.W.Frag) (a:Addr):It:=
 ⟨λi H=> ∃xs x,SqT K H a xs/\xs[i]? =some x,λi H x H' => ∃p v,H p=none/\(∀xs,SqT K H a xs->xs[i]? =some v)/\x= .ref p/\H' =upd H p (.tup [.int i,v]),λi H=> ∃xs,SqT K H a xs/\xs.length<=i⟩
theorem jjb {P:Program} {w:World} {K:PySem.W.Frag} {es:List Expr} {k:Nat} {pos:Pos} (a it e:Addr) (hei:e≠it) (hae:a≠e) (hai:a≠it):Turn P w K (.Tuple es k pos) (Ite K a) [e,it] e (λi h=>(∃old,IsEnum h e it i old)/\h.IsTupleIter it a i) where
 mem:=by simp
 obj:=λi h st b hb=>by
  rcases G0r.mp hb with z|z
  ·subst z;obtain⟨old,q⟩:=st.1;exact⟨_,q,λv z=>by cases z⟩
  ·have z:=G0g.mp z
   subst z;obtain⟨o,q,c,d⟩:=st.2;exact⟨o,q,λv z=>by rw [d] at z;cases z⟩
 keep:=λi h h' st k=>⟨let ⟨old,q⟩:=st.1;⟨old,k e (by simp) _ q⟩,st.2.at λo q=>k it (by simp) o q⟩
 item:=by
  intro X hP hw hK hc i pins s σ H E I hf st hg
  subst hP hw hK
  obtain⟨xs,x,hq,hx⟩:=hg
  obtain⟨its,rv,p,hz⟩:=I.tuple hq
  obtain⟨u,hu,ru⟩:=rv.get hx
  have hi:i<its.toArray.size:=by have:=(G0o.mp hu).1;simpa using this
  obtain⟨old,he⟩:=st.1
  have helt:e<s.heap.objs.size:=G0A he
  refine wpAny_pyNext_enum_itemD (ji8 (prog:=X.prog) (w:=X.w) (A:=X.A.in1) (I.ok.hd hc) it a hai its.toArray) he ⟨st.2,p⟩ hi hei (by simp [hei,Ne.symm hae]) λx' h' tk hx' ho hs' hT hsz hk=> ?_
  have ex:x' =u:=G1b (hx'.symm.trans (show its.toArray[i]? =some u by simpa using hu))
  subst ex
  refine⟨_,rfl,wpAny_letOwnedTupleGo_enum ho λh2 he2 hs2=> ?_⟩
  have hn:H s.heap.objs.size=none:=I.hok.fresh (G0k _)
  have hT2:h2.get? s.heap.objs.size=some {cls:= .type "tuple",data:= .seq #[.int i tk,x']}:=(hs2.2 _ (G1J helt)).trans hT
  refine⟨.ref s.heap.objs.size,upd H s.heap.objs.size (.tup [.int i,x]),?_,rfl,⟨_,x,hn,λys hy=>by rw [I.tuple_inj hy hq];exact hx,rfl,rfl⟩,⟨⟨x',by simpa using he2⟩,hs'.1.at λo y=>(hs2.2 it (Ne.symm hei)).trans y⟩,λb hb=> ?_⟩
  ·refine I.turnLaid (h' :=h2) (t' :=tk+1) (ch:= [e,it]) (λb u hb q=> ?_) hf (G0k _) ⟨by show 2<=sizeLine;decide,[.int i tk,x'],.cons ⟨tk,rfl⟩ (.cons ru .nil),⟨_,hT2,rfl,rfl,_,rfl⟩⟩
   have b1:b≠e:=λz=>hb (by simp [z])
   have b2:b≠it:=λz=>hb (by simp [z])
   exact(hs2.2 b b1).trans (hk b u b1 b2 q)
  ·have f:=(hf b hb).1
   have:b≠s.heap.objs.size:=λz=>by
    rcases G0r.mp hb with w|w
    ·rw [<-w,z] at helt;exact absurd helt (G1n _)
    ·have w:=G0g.mp w
     obtain⟨o,ho',_⟩:=st.2
     have:=G0A ho'
     rw [<-w,z] at this;exact absurd this (G1n _)
   rw [jak this];exact f
 done:=by
  intro X hP hw hK hc i pins s σ H E I hf st hg
  subst hP hw hK
  obtain⟨xs,hq,hx⟩:=hg
  obtain⟨its,rv,p,hz⟩:=I.tuple hq
  obtain⟨old,he⟩:=st.1
  have hl:=rv.length
  refine wpAny_pyNext_enum_endD (ji9 (prog:=X.prog) (w:=X.w) (A:=X.A.in1) (I.ok.hd hc) it a its.toArray i (by simp;omega)) he ⟨rfl,st.2,p⟩ λh' hx' =>⟨rfl,I.turnL (t' :=s.toks) (ch:= [it]) (λb o hb q=>hx' b o (λz=>hb (by simp [z])) q) λb hb=>hf b (G0G _ hb)⟩
 self:=λ_ _ _ _ _ st h=>let ⟨_,q⟩:=st.1;wpAny_pyIter_enum q h
section
variable {X:Cx}
def jqR (K:PySem.W.Frag) (ta:TA):TI:=λσ H R=>ta σ H λvs H1=> ∃a,vs= [.ref a]/\(∃xs,SqT K H1 a xs)/\R (Ite K a) H1
theorem jmg {es:List Expr} {k:Nat} {tp:Pos} {a:Expr} {ta:TA} {p pos:Pos} (hg:Gl X "enumerate") (hm:X.mg "enumerate" =none) (ha:PA X [a] ta) (hs:starEach [a] X.env= [(false,eval a X.env)]:=by rfl):
 PI X (.Tuple es k tp) (.Call (.Name "enumerate" p) [a] [] pos) (jqR X.K ta):=by
 intro pins s σ H R I h
 refine Call_ (jfb I hg hm (show bootBuiltins "enumerate" =some (.type "enumerate") by decide +kernel) (G2h (thn (ha pos pins s σ H _ I h) λus s1 ⟨vs,H1,I1,r1,q1⟩=> ?_) hs rfl))
 obtain⟨a,e,⟨xs,hq⟩,q⟩:=q1
 subst e
 cases r1 with
 |cons r rr=>
  cases rr
  cases r
  obtain⟨its,rv,p,hz⟩:=I1.tuple hq
  have hlt:a<s1.heap.objs.size:=by obtain⟨o,ho,_⟩:=p;exact G0A ho
  refine jfF (show s1.heap.IsTuple a its.toArray from p) λh' he hit hk=> ?_
  refine wpAny_pyIter_enum he ?_
  refine⟨s1.heap.objs.size+1,[s1.heap.objs.size+1,s1.heap.objs.size],_,_,H1,rfl,I1.kept (t' :=s1.toks) hk,jjb a s1.heap.objs.size (s1.heap.objs.size+1) (G1J (G19 _)) (G0Q (Nat.lt_succ_of_lt hlt)) (G0Q hlt),⟨⟨_,he⟩,hit⟩,λb hb=> ?_,q⟩
  have hb' :s1.heap.objs.size<=b:=by
   rcases G0r.mp hb with w|w
   ·rw [w];exact Nat.le_succ _
   ·rw [G0g.mp w];exact G0k _
  exact I1.fpOk hb' (I1.hok.fresh hb')
end
def jkp (ds:List D):List D:=ds.zipIdx.map λp=> .tup [.int (p.2:Int),p.1]
def iE (ta:TAD):TID:=λσ h R=>ta σ h λxs h1=> ∃ds,xs= [.tup ds]/\R (λ_=>some (jkp ds)) h1
theorem jhj {ds:List D} {i:Nat} {d:D} (h:(jkp ds)[i]? =some d): ∃x,ds[i]? =some x/\d= .tup [.int (i:Int),x]:=by
 unfold jkp at h
 rw [G0H,List.getElem?_zipIdx] at h
 cases q:ds[i]? with
 |none=>rw [q] at h;cases h
 |some x=>
  rw [q] at h
  refine⟨x,rfl,?_⟩
  have h' :some (D.tup [.int ((0+i:Nat):Int),x])=some d:=h
  rw [G1W] at h'
  exact(G1b h').symm
theorem jc8 (ds:List D):(jkp ds).length=ds.length:=by simp [jkp]
section
variable {K:PySem.W.Frag}
theorem jjc {H:Hp} {a:Addr} {vs:List V} {ds:List D} (hv:H a=some (.tup vs)) (r:RelDs K H ds vs):jm4 K H (λ_=>some (jkp ds)) (Ite K a):=λH' h' k rh ds' e i=>by
 cases e
 have hv' :=k.tup _ _ hv
 have r' :=r.mono k
 refine⟨λd hd=> ?_,λhl=>⟨vs,SqT.of hv',by rw [<-r.length,<-jc8];exact hl⟩⟩
 obtain⟨x,hx,ed⟩:=jhj hd
 subst ed
 obtain⟨v,e1,e2⟩:=r'.get hx
 refine⟨⟨vs,v,SqT.of hv',e1⟩,λx' H'' ⟨p,v',hp,hx',ex,eH⟩=> ?_⟩
 subst ex eH
 have ev:v' =v:=by have:=hx' vs (SqT.of hv');rw [e1] at this;exact(G1b this).symm
 subst ev
 have k2:Kept H' (upd H' p (.tup [.int i,v'])):= .new hp
 exact⟨k2,RelH.new rh hp,p,[.int i,v'],rfl,jaj,_,_,rfl,rfl,_,_,rfl,e2.mono k2,rfl⟩
theorem jmh {ta:TAD}: ∀σ H R,LI K (iE ta) σ H R->jqR K (LA K ta) σ H R:=λσ H R ⟨σd,h,Rd,rs,rh,q,p⟩=>
 LA.bind rs rh q λds vs h1 H1 k1 rs1 rh1 r1 ⟨es,e,q1⟩=>by
  subst e
  obtain⟨v,e,r2⟩:=jaI r1
  obtain⟨a,ws,e',hv,r⟩:=(show ∃a vs,v= .ref a/\H1 a=some (.tup vs)/\RelDs K H1 es vs from r2)
  subst e'
  exact⟨a,e,⟨ws,SqT.of hv⟩,p _ _ _ _ k1 rh1 (jjc hv r) q1⟩
end
section
variable {X:Cx}
theorem jmi {es:List Expr} {k:Nat} {tp:Pos} {a:Expr} {ta:TAD} {p pos:Pos} (hg:Gl X "enumerate") (hm:X.mg "enumerate" =none) (ha:JA X [a] ta) (hs:starEach [a] X.env= [(false,eval a X.env)]:=by rfl):
 JI X (.Tuple es k tp) (.Call (.Name "enumerate" p) [a] [] pos) (iE ta):=⟨(jmg hg hm ha.to hs).imp jmh⟩
end
def jjd (c:TTD) (tb:TSD):TSD:=λD σ h=> ∃W:Nat->SD->HD->Prop,(∃m,W m σ h)/\ ∀m σ' h',W m σ' h' ->c σ' h' λb h1=>
 if b=true then tb {D with nx:=λσ2 h2=> ∃m' h3,m' <m/\Sub h3 h2/\W m' σ2 h3,ct:=λσ2 h2=> ∃m' h3,m' <m/\Sub h3 h2/\W m' σ2 h3,bk:=D.nx} σ' h1 else D.nx σ' h1
theorem jkq {K:PySem.W.Frag} {c:TTD} {tb:TSD}: ∀D σ H,LS K (jjd c tb) D σ H->jkX (LT K c) (LS K tb) D σ H:=λD σ H ⟨σd,h,Dd,rs,rh,⟨W,⟨m0,w0⟩,turn⟩,nx,rt,bk,ct⟩=>by
 refine⟨λm σ' H' =>Kept H H' /\ ∃σd' h',RelS K H' σd' σ' /\RelH K h' H' /\W m σd' h',⟨m0,.refl _,σd,h,rs,rh,w0⟩,?_⟩
 rintro m σ' H' ⟨kp,σd',h',rs',rh',w⟩
 refine LT.bind rs' rh' (turn m σd' h' w) λb h1 H1 k1 rs1 rh1 q1=> ?_
 cases b with
 |false=>
  rw [if_neg G0s] at q1 ⊢
  exact nx _ _ _ _ (kp.trans k1) rs1 rh1 q1
 |true=>
  rw [if_pos rfl] at q1 ⊢
  have kk:Kept H H1:=kp.trans k1
  refine⟨λσ2 H2=>Kept H H2/\ ∃m',m' <m/\ ∃σd2 h2,RelS K H2 σd2 σ2/\RelH K h2 H2/\W m' σd2 h2,λσ2 H2 ⟨k2,m',hm,a,b,c,d,e⟩=>⟨m',hm,k2,a,b,c,d,e⟩,?_⟩
  exact⟨σd',h1,_,rs1,rh1,q1,λa b c d k4 rs4 rh4 ⟨m',h4,hm,sb,w4⟩=>⟨kk.trans k4,m',hm,a,h4,rs4,rh4.sub sb,w4⟩,jaF rt kk,λa b c d k4 rs4 rh4 q4=>nx a b c d (kk.trans k4) rs4 rh4 q4,λa b c d k4 rs4 rh4 ⟨m',h4,hm,sb,w4⟩=>⟨kk.trans k4,m',hm,a,h4,rs4,rh4.sub sb,w4⟩⟩
section
variable {X:Cx} {pos:Pos}
theorem jje {c:Expr} {body:List Stmt} {tc:TTD} {tb:TSD} (hp:PassesOwn (model X.prog X.w) X.A X.env X.xe) (hc:JT X c tc) (hb:JSs X body tb):JS X (.While c body [] pos) (jjd tc tb):=⟨(jj0 hp hc.to hb.to).imp jkq⟩
end
theorem jfG {c:TTD} {tb:TSD} {E:EndsD} {σ:SD} {h:HD} (W:Nat->SD->HD->Prop) (m:Nat) (w0:W m σ h)
 (turn: ∀m σ' h',W m σ' h' ->c σ' h' λb h1=>if b=true then tb {E with nx:=λσ2 h2=> ∃m' h3,m' <m/\Sub h3 h2/\W m' σ2 h3,ct:=λσ2 h2=> ∃m' h3,m' <m/\Sub h3 h2/\W m' σ2 h3,bk:=E.nx} σ' h1 else E.nx σ' h1):jjd c tb E σ h:=⟨W,⟨m,w0⟩,turn⟩
section
variable {prog:Program} {w:World} {A:Around} {E:Value->Shared->Prop} {s:Shared} {z TI TO i1 i2:Addr}
structure ZApart (z TI TO i1 i2:Addr):Prop where
 z1:z≠i1
 z2:z≠i2
 zO:z≠TO
 zI:z≠TI
 O1:TO≠i1
 O2:TO≠i2
 OI:TO≠TI
 I1:TI≠i1
 I2:TI≠i2
end
def inE (neg:Bool):RD2:=λx y h Q=> ∃ (p:PyData) (ps:List PyData),ToP h x p/\(ToP h y (.list ps)\/ToP h y (.tuple ps))/\p.canLay0=true/\PyData.canLayAll0 ps=true/\p.depth<=60/\Q (.bl (neg !=ps.any λz=>PyData.eqv z p)) h
section
variable {X:Cx}
theorem jqe (hu:X.A.units+64<cLine):OpQ X (compareOp .In) (inE false):=by
 intro pins s σ H x y v u Q I rx ry h
 obtain⟨dx,dy,h,Qd,r1,r2,rh,⟨p,ps,t1,t2,c1,c2,c3,qq⟩,post⟩:=h
 obtain⟨as,a1⟩:=jba I rh t1 r1 rx
 have hu' :X.A.units+1+min (PyData.depthAll ps) p.depth<cLine:=by have:=G2q (PyData.depthAll ps) p.depth;omega
 have q' :Qd (.bl (ps.any λz=>PyData.eqv z p)) h:=by simpa using qq
 rcases t2 with t2|t2
 ·obtain⟨bs,b1⟩:=jba I rh t2 r2 ry
  exact in_list_reads b1 a1 c2 c1 hu' ⟨.bl _,H,I,rfl,post (.bl _) _ _ _ (.refl H) rh rfl q'⟩
 ·obtain⟨bs,b1⟩:=jba I rh t2 r2 ry
  exact in_tuple_reads b1 a1 c2 c1 hu' ⟨.bl _,H,I,rfl,post (.bl _) _ _ _ (.refl H) rh rfl q'⟩
theorem jkr (hu:X.A.units+64<cLine):OpQ X (compareOp .NotIn) (inE true):=by
 intro pins s σ H x y v u Q I rx ry h
 obtain⟨dx,dy,h,Qd,r1,r2,rh,⟨p,ps,t1,t2,c1,c2,c3,qq⟩,post⟩:=h
 obtain⟨as,a1⟩:=jba I rh t1 r1 rx
 have hu' :X.A.units+1+min (PyData.depthAll ps) p.depth<cLine:=by have:=G2q (PyData.depthAll ps) p.depth;omega
 have q' :Qd (.bl (!ps.any λz=>PyData.eqv z p)) h:=by simpa using qq
 rcases t2 with t2|t2
 ·obtain⟨bs,b1⟩:=jba I rh t2 r2 ry
  exact notIn_list_reads b1 a1 c2 c1 hu' ⟨.bl _,H,I,rfl,post (.bl _) _ _ _ (.refl H) rh rfl q'⟩
 ·obtain⟨bs,b1⟩:=jba I rh t2 r2 ry
  exact notIn_tuple_reads b1 a1 c2 c1 hu' ⟨.bl _,H,I,rfl,post (.bl _) _ _ _ (.refl H) rh rfl q'⟩
end
end L2
namespace L2
open PySem PySem.Spec PyProof.Rows
structure ShowOk (p:PyData):Prop where
 sh:p.showable=true
 dp:p.depth<=60
 ln:p.shown.length<=sizeLine
theorem jcZ: ∀ {ps:List PyData},(∀p∈ps,p.showable=true)->PyData.showableAll ps=true
 | [],_=>rfl
 |p::ps,h=>by
  simp only [PyData.showableAll,h p G0C,jcZ λx hx=>h x (G0G _ hx),Bool.and_self]
theorem jct: ∀ps:List PyData,PyData.shownAll ps=ps.map PyData.shown
 | []=>rfl
 |p::ps=>by simp only [PyData.shownAll,G0w,jct ps]
theorem jeE {k:Nat}: ∀ {ps:List PyData},(∀p∈ps,p.depth<=k)->PyData.depthAll ps<=k
 | [],_=>by simp [PyData.depthAll]
 |p::ps,h=>by
  simp only [PyData.depthAll]
  have:=h p G0C
  have:=jeE λx hx=>h x (G0G _ hx)
  omega
theorem jlb {b:Nat}: ∀ {l:List Nat},(∀x∈l,x<=b)->l.sum<=b*l.length
 | [],_=>by simp
 |x::l,h=>by
  have h1:=h x G0C
  have h2:=jlb λy hy=>h y (G0G _ hy)
  simp only [List.sum_cons,G0h,Nat.mul_succ]
  omega
structure ShowB (p:PyData) (k b:Nat):Prop where
 sh:p.showable=true
 dp:p.depth<=k
 ln:p.shown.length<=b
theorem ShowB.mono {p:PyData} {k b k' b' :Nat} (h:ShowB p k b) (hk:k<=k') (hb:b<=b'):ShowB p k' b' :=⟨h.sh,G01 h.dp hk,G01 h.ln hb⟩
theorem ShowB.tup {ps:List PyData} {k b:Nat} (h: ∀p∈ps,ShowB p k b):ShowB (.tuple ps) (k+1) ((b+2)*ps.length+3):=by
 refine⟨?_,?_,?_⟩
 ·simpa only [PyData.showable] using jcZ λp hp=>(h p hp).sh
 ·simp only [PyData.depth];have:=jeE λp hp=>(h p hp).dp;omega
 ·simp only [PyData.shown]
  have h1:=tupleText_len_le (PyData.shownAll ps)
  rw [jct,G0c,G1K] at h1
  have h2:((ps.map ((λx=>x.length)∘PyData.shown))).sum<=b*ps.length:=by
   have:=jlb (b:=b) (l:=ps.map ((λx:Str=>x.length)∘PyData.shown)) (λx hx=>by obtain⟨p,hp,e⟩:=G05.mp hx;rw [<-e];exact(h p hp).ln)
   rw [G0c] at this;exact this
  rw [jct,Nat.add_mul]
  omega
end L2
namespace HT
open PySem PySem.Spec PyProof.Rows
open AutoSeq1 (wpAny_loadPart')
section
variable {prog:Program} {w:World} {A:Around} {E:Value->Shared->Prop} {s:Shared}
structure RangeOf (h:Heap) (r:Addr) (a b c:Int) (n:Nat):Prop where
 at_: ∃t u v,IsRange h r a b c t u v
 small:Builtin.Range.small a b c=true
 many:Builtin.Range.rangeSize a b c=n
 fits:n<=2^24
end
end HT
namespace L2
open PySem PySem.Spec PyProof.Rows PySem.SeqAt
theorem jks {X:Cx} (hu:X.A.units+64<cLine):MtM X "list.index" (λx vs H Q=> ∃ (a:Addr) (y:V) (dy:D) (h:HD) (p:PyData) (ps:List PyData) (j:Nat) (z:PyData),x= .ref a/\vs= [y]/\RelD X.K H dy y/\RelH X.K h H/\ToP h (.lst a) (.list ps)/\ToP h dy p/\p.canLay0=true/\PyData.canLayAll0 ps=true/\p.depth<=60/\j<1000000/\ps[j]? =some z/\PyData.eqv z p=true/\(∀m y,m<j->ps[m]? =some y->PyData.eqv y p=false)/\Q (.int (j:Int)) H):=by
 intro pins s σ H x vs v us Q I rx rv h
 obtain⟨a,y,dy,h,p,ps,j,z,rfl,rfl,rd,rh,t1,t2,c1,c2,c3,hj,hz,hit,hno,q⟩:=h
 cases rx
 obtain⟨u,rfl,ru⟩:=je2 rv
 obtain⟨a',ds,ea,ha,ts⟩:=(show ∃a' ds,D.lst a= .lst a' /\h a' =some ds/\ToPs h ds ps from t1)
 cases ea
 obtain⟨ws,hH,_⟩:=rh a ds ha
 obtain⟨as,r1⟩:=jba I rh t1 (show RelD X.K H (.lst a) (.ref a) from ⟨rfl,ws,hH⟩) (show RelV (.ref a) (.ref a) from rfl)
 obtain⟨bs,r2⟩:=jba I rh t2 rd ru
 cases r1 with
 |list h1 h2 h3 h4=>
  rename_i o its n cs
  have em:=readsAll_map ps _ _ c2 h4
  have gm: ∀m (hm:m<its.size),ps[m]? =some (readOf s.heap its[m]):=λm hm=>by
   rw [<-em,G0H,G06,Array.getElem?_eq_getElem hm];rfl
  have hlen:its.size=ps.length:=by rw [<-em,G0c,G0V]
  have hjs:j<its.size:=by rw [hlen];exact(G0o.mp hz).1
  have hu' :X.A.units+1+min (PyData.depthAll ps) p.depth<cLine:=by have:=G2q (PyData.depthAll ps) p.depth;omega
  obtain⟨oc,od,odt,osl⟩:=o
  simp only at h2 h3
  subst h2 h3
  refine G3q F.slot_list_index ⟨_,h1,rfl⟩ F.entry_list_index (F.args_list_index_2 _ _) (list_indexAt a its n od osl u (λy=>PyData.eqv (readOf s.heap y) p) j hjs (by omega) ?_ ?_) ⟨h1,items_eqAt h4 r2 c2 c1 hu',?_⟩
  ·have:=gm j hjs
   rw [hz] at this;injection this with this
   rw [<-this];exact hit
  ·intro m hm hmj;exact hno m _ hmj (gm m hm)
  ·exact⟨.int (j:Int),H,I.tok _,⟨_,rfl⟩,q⟩
def jrt (to te:TED):TED:=λσ h Q=>to σ h λx h1=> ∃a,x= .lst a/\te σ h1 λy h2=> ∃ (p:PyData) (ps:List PyData) (j:Nat) (z:PyData),ToP h2 (.lst a) (.list ps)/\ToP h2 y p/\p.canLay0=true/\PyData.canLayAll0 ps=true/\p.depth<=60/\j<1000000/\ps[j]? =some z/\PyData.eqv z p=true/\(∀m y,m<j->ps[m]? =some y->PyData.eqv y p=false)/\Q (.int (j:Int)) h2
section
variable {X:Cx} {o e i:Expr} {to te ti:TED} {apos cpos:Pos}
theorem jru (hu : X.A.units + 64 < cLine) (ho : JE X o to) (he : JE X e te) (hbase : attributeBase o "index" X.env (eval o X.env) = eval o X.env := by rfl)
    (hfew : ((backTo cpos (starEach [e] X.env)).all (fun x => !x.1) && (backToKw cpos (keywordEach [] X.env)).all (fun x => x.1.isSome) && decide ([e].length + ([] : List Keyword).length + (if ([] : List Keyword).isEmpty then 0 else 1) < 30)) = true := by rfl)
    (hline : (apos.endLine == cpos.line) = true := by rfl) (hs : starEach [e] X.env = (false, eval e X.env) :: starEach [] X.env := by rfl) (hplain : (backTo cpos (starEach [] X.env)).any (·.1) = false := by rfl) :
    JE X (.Call (.Attribute o "index" apos) [e] [] cpos) (jrt to te) :=
  ⟨(jlE G2A PySem.F.slot_list_index PySem.F.type_list_index (jks hu) ho.to (jbS he.to pa_nil hs) hbase hfew hline hs hplain).imp
    fun σ H Q ⟨σd, h, Qd, rs, rh, t, p⟩ => LE.bind rs rh t fun d v h1 H1 k1 rs1 rh1 r1 ⟨a, e, q⟩ => by
      subst e
      obtain ⟨e1, vs, hH⟩ := (show v = .ref a ∧ ∃ vs, H1 a = some (.lst vs) from r1)
      subst e1
      refine ⟨.inl ⟨rfl, vs, SqL.of hH⟩, ?_⟩
      refine LE.bind rs1 rh1 q fun y u h2 H2 k2 rs2 rh2 r2 ⟨pd, ps, j, z, t1, t2, c1, c2, c3, hj, hz, hit, hno, q2⟩ => ?_
      exact ⟨a, u, y, h2, pd, ps, j, z, rfl, rfl, r2, rh2, t1, t2, c1, c2, c3, hj, hz, hit, hno, p (.int _) _ _ _ (k1.trans k2) rh2 rfl q2⟩⟩
end
theorem jmj {i:Nat} {js:List Nat} {ta:TAD} {tt:TTD} {te:TED} {σ:SD} {h h1:HD} {Q:KD} (n:Nat) (W:Nat->List D->HD->Prop) (hn:n<=1000) (ht: ∀R:List D->HD->Prop,R [.int (n:Int)] h1->ta σ h R)
 (w0:W 0 [] h1) (wl: ∀k ys h',W k ys h' ->ys.length<=k) (turn: ∀k ys h',k<n->W k ys h' ->tt ((jaT js σ).set i (some (.int (k:Int)))) h' λb h3=>if b=true then te ((jaT js σ).set i (some (.int (k:Int)))) h3 λy h4=> ∃h5,Sub h5 h4/\(k+1<=n/\W (k+1) (ys++ [y]) h5) else ∃h5,Sub h5 h3/\(k+1<=n/\W (k+1) ys h5))
 (done: ∀ys h',W n ys h' -> ∀p,h' p=none->Q (.lst p) (jbp h' p ys)):jex (bN i) js (iR1 ta) tt te σ h Q:=by
 refine ht _ ⟨(n:Int),rfl,by omega,by omega,n,λk ys h' =>k<=n/\W k ys h',⟨G1l _,w0⟩,?_⟩
 rintro k ys h' ⟨hk,w⟩
 refine⟨G01 (wl k ys h' w) (G0W (jaA (by omega))),_,rfl,by simp,λhl p hp=> ?_,λd hd=>⟨_,rfl,?_⟩⟩
 ·have:k=n:=by simp at hl;omega
  subst this;exact done _ _ w p hp
 ·obtain⟨hi',e⟩:=jeA hd
  have hk2:k<n:=by omega
  subst e
  exact turn k ys h' hk2 w
def IsS (n:Nat) (S:List Nat):Prop:= ∃p:Nat->Bool,S=(List.range n).filter p
def itF {α:Type} (f:α->α) (x:α):Nat->α
 |0=>x
 |k+1=>f (itF f x k)
def jrv (S:List Nat):PyData:=jqP (jko S)
theorem jmk (h:HD) (S:List Nat):ToP h (jcb S) (jrv S):=by rw [jmf];exact⟨_,rfl,jgc h _⟩
theorem jml {α:Type} {f:Nat->α} {L i:Nat} (h:i<L):atI ((List.range L).map f) (i:Int)=some (f i):=
 jb6 (by rw [G0H,G2s h];rfl)
theorem jkt {i:Nat} {js:List Nat} {ta:TAD} {tt:TTD} {te:TED} {σ:SD} {h h1:HD} {Q:KD} (n:Nat) (W:Nat->List D->HD->Prop) (hn:n<=1000) (ht: ∀R:List D->HD->Prop,R [.int (n:Int)] h1->ta σ h R)
 (w0:W 0 [] h1) (wl: ∀k ys h',W k ys h' ->ys.length<=k) (turn: ∀k ys h',k<n->W k ys h' ->tt ((jaT js σ).set i (some (.int (k:Int)))) h' λb h3=>if b=true then te ((jaT js σ).set i (some (.int (k:Int)))) h3 λy h4=> ∃h5,Sub h5 h4/\(k+1<=n/\W (k+1) (ys++ [y]) h5) else ∃h5,Sub h5 h3/\(k+1<=n/\W (k+1) ys h5))
 (done: ∀ys h',W n ys h' ->Q (.tup ys) h'):dCB jav (jaK (jex (bN i) js (iR1 ta) tt te) jb8) σ h Q:=by
 show jex (bN i) js (iR1 ta) tt te σ h (λx h1=>jav [x] h1 Q)
 exact jmj n W hn ht w0 wl turn λys h' w p hp=>(show ∃zs,jbp h' p ys p=some zs/\Q (.tup zs) (jdL (jbp h' p ys) p) from ⟨_,jaa,by rw [jb1 hp];exact done ys h' w⟩)
structure Enc {α:Type} [DecidableEq α] (e:α->D) (p:α->PyData):Prop where
 to: ∀ (h:HD) a,ToP h (e a) (p a)
 lay: ∀a,(p a).canLay0=true
 dp: ∀a,(p a).depth<=60
 eq: ∀a b,PyData.eqv (p a) (p b)=decide (a=b)
def mk1 (n:Nat) (T:List (List Int)) (M:List (List Int)):List (List Int):=jox n (jqN n M T)
def jqf (n:Nat) (T:List (List Int)) (i:Nat):List (List Int):=itF (mk1 n T) (jox n T) i
def RP (n:Nat) (T:List (List Int)) (k i j:Nat):Prop:=ent (jqb n T k) i j≠0
section
variable {n e:Nat} {T:List (List Int)}
structure Course (n:Nat) (T:List (List Int)) (L J:Nat):Prop where
 nd:((List.range L).map (jqf n T)).Nodup
 lt:J<L
 eq:jqf n T L=jqf n T J
end
structure Grid (n:Nat) (h0 h:HD) (p R:Addr) (rs:List Addr):Prop where
 at_:h R=some (rs.map D.lst)
 len:rs.length=n
 nR:R ∉ rs
 fR:h0 R=none
 np:p ∉ rs
 nRp:R≠p
 row: ∀a∈rs,h0 a=none/\ ∃r,h a=some (r.map D.int)/\jdO n r
theorem jmm {n i:Nat} (h:i<n):ixN n (i:Int)=some i:=by
 unfold ixN;simp;omega
theorem call_divmodB {X:Cx}:CallR X (.builtin "divmod") (λxs H Q=> ∃i j,xs= [.int i,.int j]/\(0<j/\j<2^200)/\ ∀p,H p=none->Q (.ref p) (upd H p (.tup [.int (i / j),.int (i%j)]))):=by
 intro pins s σ H xs us Q I r h
 obtain⟨i,j,rfl,⟨h1,h2⟩,q⟩:=h
 obtain⟨u,w',rfl,⟨t,rfl⟩,⟨t',rfl⟩⟩:=jj4 r
 refine divmod_int (by omega) ?_ (.inl (PyProof.noPylong_of_log2 ?_))
 ·rw [G26 i (by omega),G27 i (by omega)]
  have hn:H s.heap.objs.size=none:=I.hok.fresh (G0k _)
  refine⟨.ref s.heap.objs.size,_,?_,rfl,q _ hn⟩
  refine I.laid (λb o e=>G0f _ e) (G0k _) ⟨by simp only [G0h,G0m];rw [G3O];decide,[.int (i / j) s.toks,.int (i%j) (s.toks+1)],.cons ⟨_,rfl⟩ (.cons ⟨_,rfl⟩ .nil),?_⟩
  exact⟨_,G0S s.heap rfl,rfl,rfl,0,rfl⟩
 ·have h3:j.natAbs<2^200:=ji4 (by omega) h2
  have h4:=(Nat.log2_lt (by omega:j.natAbs≠0)).mpr h3
  omega
def jmn:RDn:=λds h Q=> ∃i j:Int,ds= [.int i,.int j]/\(0<j/\j<2^200)/\Q (.tup [.int (i / j),.int (i%j)]) h
theorem jhS {X:Cx}:jdo X (.builtin "divmod") jmn:=call_divmodB.imp λxs H Q ⟨ds,h,Qd,r,rh,⟨i,j,e,c,q⟩,p⟩=>by
 subst e
 obtain⟨v,w,e,r1,r2⟩:=jdp r
 cases (show v= .int i from r1)
 cases (show w= .int j from r2)
 exact⟨i,j,e,c,λa ha=>p (.tup [.int (i / j),.int (i%j)]) _ _ _ (.new ha) (rh.new ha) ⟨a,_,rfl,jaj,.cons rfl (.cons rfl .nil)⟩ q⟩
structure TabsOk (n:Nat) (Ts:List (List (List Int))):Prop where
 n1:1<=n
 n3:n<=3
 l1:1<=Ts.length
 l3:Ts.length<=3
 sq: ∀T∈Ts,Sq n 20 T
def jdP (d:D) (a b:Int):Bool:=match d with
 | .int x=>decide (a<=x)&&decide (x<=b)
 |_=>false
def jmo (d:D) (m:Int):Bool:=match d with
 | .tup es=>es.all λx=>jdP x 0 (m-1)
 |_=>false
end L2
set_option maxRecDepth 35000
namespace L2
open PySem PySem.Spec PyProof.Rows PySem.SeqAt
def Sm (k b:Nat) (d:D):Prop:= ∃p:PyData,(∀h,ToP h d p)/\ShowB p k b/\p.canLay0=true
theorem Sm.mono {k b k' b' :Nat} {d:D} (h:Sm k b d) (hk:k<=k') (hb:b<=b'):Sm k' b' d:=let ⟨p,t,s,c⟩:=h;⟨p,t,s.mono hk hb,c⟩
theorem joy:Sm 0 200 .non:=⟨.none,λ_=>rfl,⟨rfl,by decide,by decide⟩,rfl⟩
theorem jqg (b:Bool):Sm 0 200 (.bl b):=⟨.bool b,λ_=>rfl,by cases b<;>exact⟨rfl,by decide,by decide⟩,rfl⟩
theorem jld {i:Int} (h:i.natAbs<2^100):Sm 0 200 (.int i):=by
 refine⟨.int i,λ_=>rfl,⟨?_,by simp [PyData.depth],?_⟩,rfl⟩
 ·have:i.natAbs.log2<1920:=by
   by_cases z:i.natAbs=0
   ·rw [z];decide
   ·exact(Nat.log2_lt z).mpr (G0B h (G2W (by decide) (by decide)))
  simpa [PyData.showable] using this
 ·show (Str.ofString (toString i)).length<=200
  rw [PySem.ofString_length]
  refine int_text_length_le (by decide) ?_
  by_cases z:i.natAbs=0
  ·rw [z];decide
  ·exact(Nat.log2_lt z).mpr (G0B h (G2W (by decide) (by decide)))
theorem sms {k b:Nat}: ∀ {ds:List D},(∀d∈ds,Sm k b d)-> ∃ps:List PyData,ps.length=ds.length/\(∀h,ToPs h ds ps)/\(∀p∈ps,ShowB p k b)/\PyData.canLayAll0 ps=true
 | [],_=>⟨[],rfl,λ_=>rfl,by simp,rfl⟩
 |d::ds,h=>by
  obtain⟨p,t,s,c⟩:=h d G0C
  obtain⟨ps,l,ts,ss,cs⟩:=sms λx hx=>h x (G0G _ hx)
  refine⟨p::ps,by simp [l],λh=>⟨d,ds,rfl,t h,ts h⟩,λq hq=> ?_,by simp [PyData.canLayAll0,c,cs]⟩
  rcases G0r.mp hq with e|e
  ·rw [e];exact s
  ·exact ss q e
theorem Sm.tup {k b m:Nat} {ds:List D} (h: ∀d∈ds,Sm k b d) (hm:ds.length<=m):Sm (k+1) ((b+2)*m+3) (.tup ds):=by
 obtain⟨ps,l,ts,ss,cs⟩:=sms h
 refine⟨.tuple ps,λh=>⟨ds,rfl,ts h⟩,(ShowB.tup ss).mono (G0k _) ?_,by simpa only [PyData.canLay0] using cs⟩
 have:=Nat.mul_le_mul_left (b+2) (show ps.length<=m by omega)
 omega
def Th (h:HD) (d:D):Prop:=Sm 2 5000000 d\/(∃a ds,d= .lst a/\h a=some ds/\ds.length<=155/\ ∀x∈ds,Sm 1 35000 x)\/d= .dic (Str.ofString "a") 1
theorem joz {x:Str} (h:x=Str.ofString "1" \/x=Str.ofString "" \/x=Str.ofString "0"):Sm 0 200 (.str x):=by
 rcases h with e|e|e<;>subst e<;>exact⟨.str _,λ_=>rfl,⟨by decide +kernel,by decide +kernel,by decide +kernel⟩,by decide +kernel⟩
def bnd:Nat->Nat
 |0=>200
 |k+1=>(bnd k+2)*155+3
theorem jle: ∀k,200<=bnd k
 |0=>G0k _
 |k+1=>by have:=jle k;show 200<=(bnd k+2)*155+3;omega
mutual
def smB:Nat->D->Bool
 |_,.non=>true
 |_,.bl _=>true
 |_,.int i=>decide (i.natAbs<2^100)
 |_,.str x=>decide (x=Str.ofString "1")||decide (x=Str.ofString "")||decide (x=Str.ofString "0")
 |k+1,.tup ds=>decide (ds.length<=155)&&smBs k ds
 |_,_=>false
def smBs:Nat->List D->Bool
 |_,[]=>true
 |k,d::ds=>smB k d&&smBs k ds
end
theorem jhk {k:Nat}: ∀ {ds:List D},smBs k ds=true-> ∀d∈ds,smB k d=true
 |d::ds,h,x,hx=>by
  have h' :(smB k d&&smBs k ds)=true:=h
  rw [G0T] at h'
  rcases G0r.mp hx with e|e
  ·rw [e];exact h'.1
  ·exact jhk h'.2 x e
def SmK (k:Nat) (d:D):Prop:=Sm k (bnd k) d
theorem SmK.up {k:Nat} {d:D} (h:SmK k d):SmK (k+1) d:=Sm.mono h (by omega) (by show bnd k<=(bnd k+2)*155+3;omega)
theorem SmK.of0 {d:D} (h:Sm 0 200 d) (k:Nat):SmK k d:=Sm.mono h (by omega) (jle k)
theorem SmK.tup {k:Nat} {ds:List D} (h: ∀d∈ds,SmK k d) (hm:ds.length<=155):SmK (k+1) (.tup ds):=Sm.tup h hm
theorem jjf: ∀ (k:Nat) (d:D),smB k d=true->SmK k d
 |k,.non,_=>SmK.of0 joy k
 |k,.bl b,_=>SmK.of0 (jqg b) k
 |k,.int i,h=>SmK.of0 (jld (by cases k<;>exact G1v h)) k
 |k,.str x,h=>SmK.of0 (joz (by
  have h' :(decide (x=Str.ofString "1")||decide (x=Str.ofString "")||decide (x=Str.ofString "0"))=true:=by cases k<;>exact h
  simp only [G14,G2K] at h'
  rcases h' with (a|b)|c
  ·exact .inl a
  ·exact .inr (.inl b)
  ·exact .inr (.inr c))) k
 |0,.tup ds,h=>by cases h
 |k+1,.tup ds,h=>by
  have h' :(decide (ds.length<=155)&&smBs k ds)=true:=h
  rw [G0T,G2K] at h'
  exact SmK.tup (λd hd=>jjf k d (jhk h'.2 d hd)) h'.1
 |0,.lst _,h=>by cases h
 |_+1,.lst _,h=>by cases h
 |0,.dic _ _,h=>by cases h
 |_+1,.dic _ _,h=>by cases h
 |0,.dni _ _,h=>by cases h
 |_+1,.dni _ _,h=>by cases h
 |0,.scr _,h=>by cases h
 |_+1,.scr _,h=>by cases h
theorem SmK.th {h:HD} {d:D} (s:SmK 2 d):Th h d:= .inl (Sm.mono s (G0k _) (by decide))
theorem Th.lst {h:HD} {a:Addr} {ds:List D} (ha:h a=some ds) (hl:ds.length<=155) (hs: ∀x∈ds,SmK 1 x):Th h (.lst a):= .inr (.inl ⟨a,ds,rfl,ha,hl,λx hx=>Sm.mono (hs x hx) (G0k _) (by decide)⟩)
structure SmN (n:Nat) (ds:List D):Prop where
 len:ds.length<=n
 sm: ∀d∈ds,SmK 1 d
theorem SmN.app {m n:Nat} {a b:List D} (x:SmN m a) (y:SmN n b):SmN (m+n) (a++b):=⟨by rw [G0a];have:=x.len;have:=y.len;omega,λd hd=>(G0p.mp hd).elim (x.sm d) (y.sm d)⟩
theorem SmN.cut {n:Nat} {a:List D} (x:SmN n a) (lo hi:Option Int):SmN n (jfB a lo hi):=⟨by have:=x.len;unfold jfB;rw [List.length_take,List.length_drop];omega,λd hd=>x.sm d (List.mem_of_mem_drop (List.mem_of_mem_take hd))⟩
theorem SmN.one {d:D} (h:SmK 1 d):SmN 1 [d]:=⟨G0k _,λx hx=>by rw [G0g.mp hx];exact h⟩
theorem SmN.rev {n:Nat} {a:List D} (x:SmN n a):SmN n a.reverse:=⟨by rw [G0L];exact x.len,λd hd=>x.sm d (G1a.mp hd)⟩
theorem SmN.th {n:Nat} {a:List D} {h:HD} (x:SmN n a) (hn:n<=155:=by decide):Th h (.tup a):=(SmK.tup x.sm (G01 x.len hn)).th
theorem SmN.ord {W:List Nat} {n m:Nat} (hW: ∀i∈W,i<n) (hn:n<=100) (hl:W.length<=m):SmN m (W.map λ(k:Nat)=>D.int (k:Int)):=⟨by rw [G0c];exact hl,λd hd=>by
 obtain⟨i,hi,rfl⟩:=G05.mp hd
 have:=hW i hi
 exact SmK.of0 (jld (G0B (show ((i:Nat):Int).natAbs<100 by rw [Int.natAbs_natCast];omega) (by decide))) 1⟩
theorem jgd {h:HD} {p a:Addr} {ds:List D} (n:a≠p) (e:h a=some ds):jdL h p a=some ds:=by unfold jdL;rw [if_neg n];exact e
section
variable {α:Type} {i i' :Nat} {js:List Nat} {ti:TID} {te:TED} {σ:SD} {h:HD} {Q:KD} {j:ItD}
theorem jrw (xs:List α) (c c' g:α->D) (p:α->Bool) {tt:TTD} (hz:xs.length<=1000) (hj:j h=some (xs.map λx=> .tup [c x,c' x])) (ht: ∀R:ItD->HD->Prop,R j h->ti σ h R)
 (hp: ∀x∈xs,∀Q' :Bool->HD->Prop,Q' (p x) h->tt (((jaT js σ).set i (some (c x))).set i' (some (c' x))) h Q') (he: ∀x∈xs,p x=true-> ∀Q' :KD,Q' (g x) h->te (((jaT js σ).set i (some (c x))).set i' (some (c' x))) h Q') (hq: ∀a,h a=none->Q (.lst a) (jbp h a ((xs.filter p).map g))):jex (b2 i i') js ti tt te σ h Q:=by
 refine ht _ ⟨xs.length,λk ys h' =>h' =h/\ys=((xs.take k).filter p).map g,⟨rfl,by simp⟩,?_⟩
 rintro k ys h' ⟨rfl,rfl⟩
 refine⟨?_,_,hj,by simp,λhl a ha=> ?_,λd hd=> ?_⟩
 ·have:=G1V p (xs.take k)
  simp only [G0c,G0E] at this ⊢
  exact G0W (jaA (by omega))
 ·rw [G0K (by simpa using hl)];exact hq a ha
 ·rw [G0H] at hd
  cases hx:xs[k]? with
  |none=>rw [hx] at hd;cases hd
  |some x=>
   rw [hx] at hd;cases hd
   refine⟨_,⟨_,_,rfl,rfl⟩,?_⟩
   refine hp x (G0i hx) _ ?_
   cases hb:p x with
   |true=>
    rw [if_pos rfl]
    refine he x (G0i hx) hb _ ⟨_,Sub.refl _,rfl,?_⟩
    rw [G1d,hx];simp [hb]
   |false=>
    rw [if_neg (by decide)]
    refine⟨_,Sub.refl _,rfl,?_⟩
    rw [G1d,hx];simp [hb]
end
def jlf (T:List (List Int)) (n p:Nat):List Nat:=(List.range n).filter λj=>decide (ent T p j>0)
def cnt (T:List (List Int)) (n o:Nat):Nat->Nat->Int
 |0,p=>if p=o then 1 else 0
 |t+1,p=>((jlf T n p).map (cnt T n o t)).sum
section
variable {T:List (List Int)} {n o:Nat}
def jrx (T:List (List Int)) (n o t p:Nat):Nat:=(jlf T n p).findIdx λj=>decide (cnt T n o t j>0)
def nxt (T:List (List Int)) (n o t p:Nat):Nat:=(jlf T n p).getD (jrx T n o t p) 0
end
theorem jku {α:Type} {xs:List α} {x:α} (h1:1<=xs.length) (h:xs[xs.length-1]? =some x):atI xs (-1)=some x:=by
 unfold atI ixN
 rw [if_neg (by decide),if_pos (by omega)]
 show xs[(-1+(xs.length:Int)).toNat]? =_
 rw [show (-1+(xs.length:Int)).toNat=xs.length-1 by omega];exact h
end L2
namespace L2
open PySem PySem.Spec PyProof.Rows
theorem ObjOk.there {P:Program} {w:World} {H:Hp} {h:Heap} {a:Addr} {o:HO} (x:ObjOk P w H h a o): ∃u,h.get? a=some u:=by
 cases o with
 |lst xs=>obtain⟨_,_,_,_,e⟩:=x;exact⟨_,e⟩
 |tup xs=>obtain⟨_,_,_,p⟩:=x;obtain⟨o,e,_⟩:=p;exact⟨_,e⟩
 |dK kvs=>obtain⟨_,_,_,_,o,_,_,e,_⟩:=x;exact⟨_,e⟩
 |dT kvs=>obtain⟨_,_,_,_,o,_,_,e,_⟩:=x;exact⟨_,e⟩
 |set S n=>obtain⟨o,_,_,_,e,_⟩:=x;exact⟨_,e⟩
 |ins C dx fs=>obtain⟨_,_,_,e,_⟩:=x;exact⟨_,e⟩
 |own y=>obtain⟨_,e⟩:=x;exact⟨_,e⟩
 |xd fs=>obtain⟨_,⟨_,_,_,e,_⟩,_⟩:=x;exact⟨_,e⟩
 |rng lo hi=>obtain⟨_,_,_,e⟩:=x;exact⟨_,e⟩
 |frz ob u=>obtain⟨e,_⟩:=x;exact⟨_,e⟩
 |tbl ps=>exact⟨_,(show h.get? a=some _ from x)⟩
 |met f y=>exact⟨_,(show h.get? a=some _ from x)⟩
 |ext φ=>obtain⟨_,⟨_,e⟩,_⟩:=x;exact⟨_,e⟩
theorem ja7 {h b b' :Heap}: ∀ {l:List Env},h.FunFrames b l->(∀a∈frs l,b'.get? a=none)->h.FunFrames b' l
 | [],_,_=>trivial
 |env::r,⟨hk,⟨L,o,hf,_,ho,hd⟩,hr⟩,n=>by
  refine⟨hk,⟨L,o,hf,n L ?_,ho,hd⟩,ja7 hr λa ha=>n a ?_⟩
  ·unfold frs;rw [List.filterMap_cons,hf];exact .head _
  ·unfold frs;rw [List.filterMap_cons,hf];exact .tail _ ha
structure Fly (h0:Heap) (H:Hp) (h:Heap) (x C:Addr):Prop where
 ex: ∃ (oe:Obj) (vs:Array Value) (a0:Value) (T:Addr) (oT:Obj) (ts:Array Value),h.get? x=some oe/\oe.cls= .ref C/\oe.data= .fields vs/\vs[0]? =some a0/\vs[1]? =some (.ref T)/\T≠x/\
  h.get? T=some oT/\oT.data= .fields ts/\ts[3]? =some .none/\H T=none/\h0.get? T=none
 nx:H x=none
 n0:h0.get? x=none
def CXR (P:Program) (w:World):CXT:=λouter H s E e s' => ∃x C H',e= .ref x/\s'.os=s.os/\AllBare s'.gens/\Un (frs outer) [] H H' s.heap s'.heap/\HOk P w H' s'.heap/\Fly s.heap H' s'.heap x C/\E (.ref C) none H'
structure Rz0 (X:Cx):Prop where
 stk:X.stack=X.env::X.outer
 fr:X.env.frame=some X.env.locals
 ex:X.ex= []
structure Rz (X:Cx) (E:XK):Prop extends Rz0 X where
 xe: ∀e s',wpAny (model X.prog X.w) X.A (leaving X.env e) (λ_ s'' =>CXR X.prog X.w X.outer X.H₀ X.s₀ E e s'') (λe' s'' =>CXR X.prog X.w X.outer X.H₀ X.s₀ E e' s'') s' ->X.xe e s'
section
variable {X:Cx} {pins:List (Addr×Obj)} {σ:St} {H:Hp} {s:Shared} {E:XK} {x C:Addr}
theorem jjg (I:Inv X pins σ H s) (Z:Rz0 X) {ys:List Addr} (hy: ∀y∈ys,H y=none/\X.s₀.heap.get? y=none) {h' :Heap}
 (kb: ∀b o,s.heap.get? b=some o->b ∉ ys->b ∉ frs (X.env::X.outer)->h'.get? b=some o)
 (up: ∀b o,s.heap.get? b=some o->b∈frs (X.env::X.outer)-> ∃sl,h'.get? b=some {o with slots:=sl}):
 Un X.fs [] X.H₀ H X.s₀.heap h' /\HOk X.prog X.w H h' /\
  ∀T oT ts,h'.get? T=some oT->oT.data= .fields ts->(∀o,s.heap.get? T=some o->T∈ys\/T∈frs (X.env::X.outer))->H T=none/\X.s₀.heap.get? T=none:=by
 have nex: ∀b,b ∉ X.ex:=λb=>by rw [Z.ex];simp
 have neL: ∀b o,X.s₀.heap.get? b=some o->b≠X.env.locals:=λb o e=>G0Q (G0B (G0A e) I.ok.above)
 have mem: ∀b,b∈frs (X.env::X.outer)↔b=X.env.locals\/b∈X.fs:=λb=>by
  show b∈List.filterMap _ _↔_
  rw [List.filterMap_cons,Z.fr]
  exact G0r
 have nys: ∀b o,X.s₀.heap.get? b=some o->b ∉ ys:=λb o e z=>by rw [(hy b z).2] at e;cases e
 have trf: ∀b u,H b=some u->b ∉ ys/\b ∉ frs (X.env::X.outer):=λb u e=>by
  refine⟨λz=> ?_,λz=> ?_⟩
  ·rw [(hy b z).1] at e;cases e
  ·have:=I.stkFree b (by rw [Z.stk];exact z)
   rw [this] at e;cases e
 refine⟨⟨λb o e n hb hx=> ?_,λb o e n hb hx=> ?_,λb o e n hx=>I.base.free b o e n (nex b),λb o e hx=> ?_,I.base.tups,I.base.frzs,I.base.tbls⟩,λa o e=> ?_,λT oT ts hT hd hn=>⟨?_,?_⟩⟩
 ·exact kb b o (I.base.keep b o e n hb (nex b)) (nys b o e) λz=>((mem b).mp z).elim (neL b o e) hb
 ·obtain⟨sl,e1⟩:=I.base.slot b o e n hb (nex b)
  obtain⟨sl',e2⟩:=up b _ e1 ((mem b).mpr (.inr hb))
  exact⟨sl',e2⟩
 ·obtain⟨o',e1⟩:=I.base.there b o e (nex b)
  by_cases hb:b∈frs (X.env::X.outer)
  ·obtain⟨sl,e2⟩:=up b o' e1 hb;exact⟨_,e2⟩
  ·exact⟨_,kb b o' e1 (nys b o e) hb⟩
 ·refine(I.hok a o e).stay (λb u hb q=> ?_) (λ_ q=>q) λ_ _ q=>q
  rcases hb with rfl|hb
  ·exact kb b u q (trf b _ e).1 (trf b _ e).2
  ·exact kb b u q (trf b _ hb).1 (trf b _ hb).2
 ·cases q:H T with
  |none=>rfl
  |some u=>
   obtain⟨o,e⟩:=(I.hok T u q).there
   exact absurd (hn o e) λz=>z.elim (trf T u q).1 (trf T u q).2
 ·cases q:X.s₀.heap.get? T with
  |none=>rfl
  |some o=>
   exfalso
   obtain⟨o',e1⟩:=I.base.there T o q (nex T)
   rcases hn o' e1 with z|z
   ·exact nys T o q z
   ·rcases (mem T).mp z with z' |z'
    ·exact neL T o q z'
    ·obtain⟨_,o2,e2,nd⟩:=(show s.heap.FunFrames X.base (X.env::X.outer) from Z.stk ▸ I.stack).mem z
     obtain⟨sl,e3⟩:=up T o2 e2 z
     rw [hT] at e3;cases e3
     exact nd ts hd
theorem jjh {Q:Unit->Shared->Prop} {M:Model} {EE:Value->Shared->Prop} (I:Inv X pins σ H s) (Z:Rz X E) (fl:Fly X.s₀.heap H s.heap x C)
 (k: ∀h',Un X.fs [] X.H₀ H X.s₀.heap h' ->HOk X.prog X.w H h' ->Fly X.s₀.heap H h' x C->Q () {s with heap:=h'}):wpAny M X.A (leaving X.env (.ref x)) Q EE s:=by
 obtain⟨oe,vs,a0,T,oT,ts,he,hc,hd,h0,h1,hTx,hT,hTd,h3,hHT,h0T⟩:=fl.ex
 have hfr:X.A.frames=some (X.env::X.outer):=by rw [I.ok.frames,Z.stk]
 have stk:s.heap.FunFrames X.base (X.env::X.outer):=Z.stk ▸ I.stack
 have ff:s.heap.FunFrames (PySem.W.hideAll s.heap (x::T::frs (X.env::X.outer))) (X.env::X.outer):=ja7 stk λa ha=>G1Z _ (.tail _ (.tail _ ha))
 refine wpAny_leaves_onW (base:=PySem.W.hideAll s.heap (x::T::frs (X.env::X.outer))) (cls:= .ref C) (a0:=a0) hfr Z.fr
  ⟨λb o e=>G3a _ e,G1Z _ (.head _),ff,oe,vs,T,oT,ts,he,⟨hc,h0⟩,hd,h1,G1Z _ (.tail _ (.head _)),hTx,hT,hTd,h3⟩ λh' hfl' hup=> ?_
 obtain⟨st,_,_,oe',vs',T',oT',ts',he',⟨hc',h0'⟩,hd',h1',hTB,hTx',hT',hTd',h3'⟩:=hfl'
 obtain⟨r1,r2,r3⟩:=jjg (ys:= [x,T]) (h' :=h') I Z.toRz0 (λy hy=>by
  rcases G0r.mp hy with rfl|hy
  ·exact⟨fl.nx,fl.n0⟩
  ·rcases G0r.mp hy with rfl|hy
   ·exact⟨hHT,h0T⟩
   ·cases hy) (λb o e n1 n2=>st b o (G16 _ e λz=>by
    rcases G0r.mp z with rfl|z
    ·exact n1 (.head _)
    ·rcases G0r.mp z with rfl|z
     ·exact n1 (.tail _ (.head _))
     ·exact n2 z)) λb o e hb=>by
  obtain⟨_,o2,e2,nd⟩:=stk.mem hb
  rw [e] at e2;cases e2
  exact hup b o e nd
 obtain⟨q1,q2⟩:=r3 T' oT' ts' hT' hTd' λo e=>by
  by_cases z:T' ∈frs (X.env::X.outer)
  ·exact .inr z
  ·refine .inl ?_
   by_cases z1:T' =x
   ·rw [z1];exact .head _
   ·by_cases z2:T' =T
    ·rw [z2];exact .tail _ (.head _)
    ·rw [G16 _ e (by simp only [G0r,not_or];exact⟨z1,z2,z⟩)] at hTB;cases hTB
 exact k h' r1 r2 ⟨⟨oe',vs',a0,T',oT',ts',he',hc',hd',h0',h1',hTx',hT',hTd',h3',q1,q2⟩,fl.nx,fl.n0⟩
theorem jhT {Q:Unit->Shared->Prop} {M:Model} {EE:Value->Shared->Prop} {h1:Heap} {args:List Value} (I:Inv X pins σ H s) (Z:Rz X E) (hm:Heap.MadeExcOf s.heap h1 x (.ref C) args)
 (k: ∀h',Un X.fs [] X.H₀ H X.s₀.heap h' ->HOk X.prog X.w H h' ->Fly X.s₀.heap H h' x C->Q () {s with heap:=h'}):wpAny M X.A (leaving X.env (.ref x)) Q EE {s with heap:=h1}:=by
 have hfr:X.A.frames=some (X.env::X.outer):=by rw [I.ok.frames,Z.stk]
 have stk:s.heap.FunFrames X.base (X.env::X.outer):=Z.stk ▸ I.stack
 have ff:s.heap.FunFrames (PySem.W.hideAll s.heap (frs (X.env::X.outer))) (X.env::X.outer):=ja7 stk λa ha=>G1Z _ ha
 refine wpAny_leaves_madeW (base:=PySem.W.hideAll s.heap (frs (X.env::X.outer))) (h:=s.heap) (s:= {s with heap:=h1}) hfr Z.fr (λb o e=>G3a _ e) ff hm λh' t hfl' _ _ hup=> ?_
 obtain⟨st,_,_,oe',vs',T',oT',ts',he',⟨hc',h0'⟩,hd',h1',hTB,hTx',hT',hTd',h3'⟩:=hfl'
 obtain⟨r1,r2,r3⟩:=jjg (ys:= []) (h' :=h') I Z.toRz0 (λy hy=>nomatch hy) (λb o e _ n2=>st b o (G16 _ e n2)) λb o e hb=>by
  obtain⟨_,o2,e2,nd⟩:=stk.mem hb
  rw [e] at e2;cases e2
  exact hup b o (hm.keeps b o e) nd
 obtain⟨q1,q2⟩:=r3 T' oT' ts' hT' hTd' λo e=>by
  by_cases z:T' ∈frs (X.env::X.outer)
  ·exact .inr z
  ·rw [G16 _ e z] at hTB;cases hTB
 obtain⟨p1,p2⟩:=r3 x oe' vs' he' hd' λo e=>by rw [hm.new] at e;cases e
 exact k h' r1 r2 ⟨⟨oe',vs',_,T',oT',ts',he',hc',hd',h0',h1',hTx',hT',hTd',h3',q1,q2⟩,p1,p2⟩
theorem jqh (Z:Rz X E):jel (CXR X.prog X.w) X E:=by
 intro pins σ H s e s' I ⟨x,C,H',he,os,bare,un,hok,fl,q⟩
 subst he
 obtain⟨hh,g,d,t,os'⟩:=s'
 obtain rfl:os' =s.os:=os
 have I' :=I.call (h' :=hh) (g' :=g) (d' :=d) (t' :=t) (ch:= []) un hok bare (λb z=>absurd z (by simp))
 have nex: ∀b,b ∉ X.ex:=λb=>by rw [Z.ex];simp
 have f0: ∀b,s.heap.get? b=none->X.s₀.heap.get? b=none:=λb n=>by
  cases q:X.s₀.heap.get? b with
  |none=>rfl
  |some o=>obtain⟨o',e⟩:=I.base.there b o q (nex b);rw [n] at e;cases e
 have fl' :Fly X.s₀.heap H' hh x C:=by
  obtain⟨⟨oe,vs,a0,T,oT,ts,a1,a2,a3,a4,a5,a6,a7,a8,a9,a10,a11⟩,nx,n0⟩:=fl
  exact⟨⟨oe,vs,a0,T,oT,ts,a1,a2,a3,a4,a5,a6,a7,a8,a9,a10,f0 _ a11⟩,nx,f0 _ n0⟩
 exact Z.xe _ _ (jjh I' Z fl' λh' u hk f=>⟨x,C,H',rfl,I'.os,I'.bare,u,hk,f,q⟩)
end
end L2
namespace L2
open PySem PySem.Spec PyProof.Rows PySem.W
def jd6 (cells:List (Str×Addr)):List (Str×NameKind)->List (Str×Addr)->List (Str×Addr)
 | [],cs=>cs
 |(n,k)::r,cs=>jd6 cells r (if k== .free then (match cells.lookup n with|some c=>(n,c)::cs|none=>cs) else cs)
theorem jcc {env:Env}: ∀ (names:List (Str×NameKind)) (cs:List (Str×Addr)),(∀n,(n,NameKind.free)∈names-> ∃c,env.cells.lookup n=some c)->
 (forIn names cs (λ(x:Str×NameKind) (r:List (Str×Addr))=>do
  let (name,kind):=x
  if kind== .free then
   let c <-cellOf env name
   pure (ForInStep.yield ((name,c)::r))
  else pure (ForInStep.yield r)):Sem (List (Str×Addr)))=pure (jd6 env.cells names cs)
 | [],cs,_=>rfl
 |(n,k)::r,cs,h=>by
  rw [G23]
  by_cases hk:(k==NameKind.free)=true
  ·have hk' :k= .free:=eq_of_beq hk
   subst hk'
   obtain⟨c,hc⟩:=h n (.head _)
   unfold jd6
   simp only [beq_self_eq_true,if_true,cellOf,hc,pure_bind]
   exact jcc r _ λn hn=>h n (.tail _ hn)
  ·unfold jd6
   simp only [hk,G3J,pure_bind]
   exact jcc r _ λn hn=>h n (.tail _ hn)
theorem jeF {scope:Scope} {env:Env} (h: ∀n,(n,NameKind.free)∈scope.names-> ∃c,env.cells.lookup n=some c):closureFor scope env=pure (jd6 env.cells scope.names []):=by
 have:=jcc (env:=env) scope.names [] h
 unfold closureFor
 first
  |exact this
  |simpa using this
theorem jb2 {cells:List (Str×Addr)}: ∀ (names:List (Str×NameKind)) (cs:List (Str×Addr)),(∀x c,cs.lookup x=some c->cells.lookup x=some c)-> ∀x c,(jd6 cells names cs).lookup x=some c->cells.lookup x=some c
 | [],_,h,x,c,e=>h x c e
 |(n,k)::r,cs,h,x,c,e=>by
  unfold jd6 at e
  refine jb2 r _ (λy d hy=> ?_) x c e
  split at hy
  ·split at hy
   ·rename_i c' hc'
    rw [G09] at hy
    by_cases q:(y==n)=true
    ·rw [q] at hy;cases hy;rw [eq_of_beq q];exact hc'
    ·simp only [q] at hy;exact h y d hy
   ·exact h y d hy
  ·exact h y d hy
theorem jeG {cells:List (Str×Addr)}: ∀ (names:List (Str×NameKind)) (cs:List (Str×Addr)) (x:Str),((x,NameKind.free)∈names/\(∃c,cells.lookup x=some c)\/ ∃c,cs.lookup x=some c)-> ∃c,(jd6 cells names cs).lookup x=some c
 | [],_,x,h=>h.elim (λz=>nomatch z.1) id
 |(n,k)::r,cs,x,h=>by
  unfold jd6
  refine jeG r _ x ?_
  rcases h with ⟨hm,c,hc⟩|⟨c,hc⟩
  ·rcases G0r.mp hm with q|q
   ·cases q
    right
    simp only [beq_self_eq_true,if_true,hc]
    exact⟨c,by simp⟩
   ·exact .inl ⟨q,c,hc⟩
  ·right
   split
   ·split
    ·rename_i c' hc'
     by_cases q:(x==n)=true
     ·exact⟨c',by rw [G09,q]⟩
     ·exact⟨c,by rw [G09];simp only [q];exact hc⟩
    ·exact⟨c,hc⟩
   ·exact⟨c,hc⟩
structure LamOk (sc:Scope):Prop where
 kind:sc.kind= .function
 co:sc.isCoroutine=false
 gen:sc.isGenerator=false
 nocell: ∀y∈sc.names,y.2≠ .cell/\y.2≠ .local
def je6:Arguments:= {posonlyargs:= [],args:= [],vararg:=none,kwonlyargs:= [],kw_defaults:= [],kwarg:=none,defaults:= []}
theorem jge {a0 b0:Nat} {c:Value}: ∀l:List Value,TriplesOk l->TriplesOk (l++ [rawInt a0,rawInt b0,c]):=by
 intro l h
 fun_induction TriplesOk l with
 |case1=>simp [TriplesOk,rawInt]
 |case2 a t b u x rest ih=>simp only [G0z,TriplesOk];exact ih h
 |case3 l h1 h2=>exact h.elim
theorem jhU {p:Pos} {a0 b0:Nat} {c cv:Value}: ∀l:List Value,TriplesOk l->codeAmong p (l++ [rawInt a0,rawInt b0,c])=some cv->codeAmong p l=some cv\/cv=c:=by
 intro l h e
 fun_induction TriplesOk l with
 |case1=>
  right
  simp only [G0v,codeAmong,rawInt] at e
  split at e
  ·exact(G1b e).symm
  ·cases e
 |case2 a t b u x rest ih=>
  simp only [G0z,codeAmong] at e ⊢
  split at e
  ·rename_i hc;left;rw [if_pos hc];exact e
  ·rename_i hc;rw [if_neg hc];exact ih h e
 |case3 l h1 h2=>exact h.elim
def CodeF (H:Hp) (cv:Value) (q:Str):Prop:= ∃ (c:Addr) (o:Obj) (vs:Array Value) (t:Tok),cv= .ref c/\H c=some (.frz o (.own 0))/\o.data= .fields vs/\vs[1]? =some (.str q t)
theorem CodeF.rec {P:Program} {w:World} {H:Hp} {h:Heap} {cv:Value} {q:Str} (x:CodeF H cv q) (ok:HOk P w H h):h.CodeRec cv q:=let ⟨c,o,vs,t,e,e2,r⟩:=x;⟨c,o,vs,t,e,(ok c _ e2).1,r⟩
section
variable {X:Cx} {pins:List (Addr×Obj)} {σ:St} {H:Hp} {s:Shared}
theorem jkv {M:Model} {A:Around} {E:Value->Shared->Prop} {Q:Value->Shared->Prop} {body:Expr} {scope:Scope} {pos:Pos} {c P:Addr} {ps:Array Value} {clos:List (Str×Addr)} (I:Inv X pins σ H s) (B:Bm X.mg X.base)
 (hcode:X.env.code= .ref c) (hc:codeHdIn X.K c P=true) (hP:H P=some (.tbl ps)) (hps:CodesOk H ps) (hcl:closureFor scope X.env=pure clos)
 (k: ∀ (f:Addr) (q qual:Str) (pm cv ctv:Value) (H' :Hp) (h' :Heap) (tk:Tok),Inv X pins σ H' {s with heap:=h',toks:=tk}->Kept H H' ->(∀a xs,H a=some (.lst xs)->H' a=some (.lst xs))->
  (∀a ps',H a=some (.tbl ps')->a≠P->H' a=some (.tbl ps'))->(∃ps',H' P=some (.tbl ps')/\CodesOk H' ps')->
  h'.get? f=some {cls:= .type "function",data:= .func (kla_fn "<lambda>" qual je6 body scope clos pm cv ctv)}->CodeF H' cv q->H' f=none->(∀x d,X.env.cells.lookup x=some d->d≠f)->f≠X.env.locals->f ∉ X.fs->Q (.ref f) {s with heap:=h',toks:=tk}):
 wpAny M A (eval (.Lambda je6 body scope pos) X.env) Q E s:=by
 have hPg:s.heap.get? P=some (tabObj ps):=I.hok P _ hP
 have C:CodeHd s.heap c P:=codeHd_of_K I.kIn hc
 have hgs:s.heap.Ns mainGlobals X.mg:=I.mod.glob.keeps I.bk
 obtain⟨bm,ob,b1,b2,b3,b4,b5,b6⟩:=B
 have bb:=I.bs _ _ b3
 have hgP:mainGlobals≠P:=λq=>by
  obtain⟨o,es,ep,e,hd,_⟩:=hgs
  rw [q,hPg] at e;cases e;cases hd
 have hbP:bm≠P:=λq=>by rw [q,hP] at bb;cases bb.2
 have hbG:bm≠mainGlobals:=λq=>by
  obtain⟨o,es,ep,e,hd,_⟩:=hgs
  rw [q,e] at bb;cases bb.1;rw [hd] at b6;cases b6
 have BA:s.heap.BuiltinsAt X.mg P:=⟨bm,ob,b1,b2,hbG,hbP,bb.1,b4,b5,b6⟩
 have away: ∀f,s.heap.objs.size<=f->(∀x d,X.env.cells.lookup x=some d->d≠f)/\f≠X.env.locals/\f ∉ X.fs:=λf hf=>⟨λx d e z=>by
  obtain⟨v,o,ho,_⟩:=I.cell x d e
  exact absurd (G0B (G0A ho) (z ▸ hf)) (G1n _),λz=>absurd (G0B I.lt (z ▸ hf)) (G1n _),I.nofs hf⟩
 refine kla_eval rfl ?_
 cases hf:codeAmong pos ps.toList with
 |none=>
  refine kla_makeFunction (mg:=X.mg) hcl I.ok.glob hgs hcode C hPg hps.1 hf hgP BA λc' ctv h' tk hx hge hlt hrec htb=> ?_
  have hP' :P<s.heap.objs.size:=G0A hPg
  have hcP:c' ≠P:=G1J (G0B hP' hge)
  have hcn:H c' =none:=I.hok.fresh hge
  obtain⟨c₂,oc,vs,t,e2,hoc,hd,hv⟩:=hrec
  cases e2
  have szle:s.heap.objs.size<=h'.objs.size:=G0W (G2d hge hlt)
  have kp: ∀ (o2:Obj) b o,b≠P->s.heap.get? b=some o->(h'.push o2).get? b=some o:=λo2 b o nb e=>G0f _ (hx b o nb e)
  have hnP: ∀b u,H b=some u->(∀ps',u≠ .tbl ps')->b≠P:=λb u e n z=>by rw [z,hP] at e;cases e;exact n _ rfl
  have look: ∀b,b≠P->b≠c' ->upd (upd H c' (.frz oc (.own 0))) P (.tbl (ps++ #[rawInt pos.line,rawInt pos.col,.ref c'])) b=H b:=λb n1 n2=>by rw [jak n1,jak n2]
  have ncs: ∀b u,H b=some u->b≠c' :=λb u e z=>by rw [z,hcn] at e;cases e
  have frzs: ∀b o u,H b=some (.frz o u)->upd (upd H c' (.frz oc (.own 0))) P (.tbl (ps++ #[rawInt pos.line,rawInt pos.col,.ref c'])) b=some (.frz o u):=λb o u e=>by
   rw [look b (hnP b _ e (by intro _ z;cases z)) (ncs b _ e)];exact e
  refine k h'.objs.size (X.env.qual++ "<lambda>") (X.env.qual++ "<lambda>") _ (.ref c') ctv (upd (upd H c' (.frz oc (.own 0))) P (.tbl (ps++ #[rawInt pos.line,rawInt pos.col,.ref c']))) _ tk ?_ ?_ ?_ ?_ ?_ (G0S _ rfl) ⟨c',oc,vs,t,rfl,by rw [jak hcP,jaj],hd,hv⟩ ?_ (away _ szle).1 (away _ szle).2.1 (away _ szle).2.2
  ·refine I.un (t' :=tk) ⟨λb o e n hb hx' =>kp _ b o (λz=>by rw [z,hP] at n;cases n) e,λb o e n hb hx' =>⟨o.slots,kp _ b o (λz=>by rw [z,hP] at n;cases n) e⟩,λb o e n hx' => ?_,λb o e hx' => ?_,λb xs e=> ?_,frzs,λb ps' e=> ?_⟩ λa o e=> ?_
   ·rw [look b (λz=>by rw [z,hP] at n;cases n) (G0Q (G0B (G0A e) hge))];exact n
   ·by_cases z:b=P
    ·rw [z];exact⟨_,G0f _ htb⟩
    ·exact⟨_,kp _ b o z e⟩
   ·rw [look b (hnP b _ e (by intro _ z;cases z)) (ncs b _ e)];exact e
   ·by_cases z:b=P
    ·subst z;rw [hP] at e;cases e;exact⟨_,jaj⟩
    ·exact⟨#[],by rw [look b z (ncs b _ e),e];simp⟩
   ·by_cases z:a=P
    ·subst z;rw [jaj] at e;cases e
     exact G0f _ htb
    ·rw [jak z] at e
     by_cases z2:a=c'
     ·subst z2;rw [jaj] at e;cases e
      exact⟨G0f _ hoc,⟨oc,G0f _ hoc⟩⟩
     ·rw [jak z2] at e
      refine(I.hok a o e).stay (λb u hb q=> ?_) (λb q=> ?_) λb xs q=> ?_
      ·rcases hb with rfl|hb
       ·exact kp _ b u z q
       ·exact kp _ b u (hnP b _ hb (by intro _ z;cases z)) q
      ·rw [look b (hnP b _ q (by intro _ z;cases z)) (ncs b _ q)];exact q
      ·rw [look b (hnP b _ q (by intro _ z;cases z)) (ncs b _ q)];exact q
  ·refine⟨λa xs e=> ?_,λa xs e=>⟨xs,?_⟩,λa kk e=> ?_,frzs⟩<;>(rw [look a (hnP a _ e (by intro _ z;cases z)) (ncs a _ e)];exact e)
  ·intro a xs e;rw [look a (hnP a _ e (by intro _ z;cases z)) (ncs a _ e)];exact e
  ·intro a ps' e n;rw [look a n (ncs a _ e)];exact e
  ·refine⟨_,jaj,?_,λp cv e=> ?_⟩
   ·simp only [G0Z]
    exact jge _ hps.1
   ·simp only [G0Z] at e
    rcases jhU ps.toList hps.1 e with e|e
    ·obtain⟨c1,o,vs',q',t',e1,e2,r⟩:=hps.2 p cv e
     exact⟨c1,o,vs',q',t',e1,frzs _ _ _ e2,r⟩
    ·exact⟨c',oc,vs,_,t,e,by rw [jak hcP,jaj],hd,hv⟩
  ·have:H h'.objs.size=none:=I.hok.fresh szle
   rw [look _ (G1J (G0B hP' szle)) (G1J hlt)];exact this
 |some cv=>
  obtain⟨c1,o,vs,q,t,rfl,e2,hd,hv⟩:=hps.2 pos cv hf
  obtain⟨ho,_⟩:=I.hok c1 _ e2
  refine kla_makeFunctionHit (mg:=X.mg) hcl I.ok.glob hgs hcode C hPg hps.1 hf BA λctv h' tk hk hsz=> ?_
  exact k h'.objs.size q (X.env.qual++ "<lambda>") _ (.ref c1) ctv H _ tk (I.kept (t' :=tk) λb u e=>G0f _ (hk b u e)) (.refl H) (λ_ _ e=>e) (λ_ _ e _=>e) ⟨ps,hP,hps⟩ (G0S _ rfl) ⟨c1,o,vs,t,rfl,e2,hd,hv⟩
   (I.hok.fresh hsz) (away _ hsz).1 (away _ hsz).2.1 (away _ hsz).2.2
end
structure Cap (N:List Str) (σ:St) (sc:Scope) (cl:List (Str×Addr)) (h:Heap) (H:Hp):Prop where
 len:σ.length=N.length
 inj: ∀x y c,cl.lookup x=some c->cl.lookup y=some c->x=y
 has: ∀x,sc.names.lookup x=some .free-> ∃c,cl.lookup x=some c
 cell: ∀x c,cl.lookup x=some c->(∃v,h.IsCell c v)/\H c=none
 loc: ∀ (i:Nat) (x:Str) (v:V),N[i]? =some x->σ[i]? =some (some v)->sc.names.lookup x=some .free-> ∃u c,RelV v u/\cl.lookup x=some c/\h.IsCell c (some u)
theorem jbD {α β:Type} [BEq α] [LawfulBEq α]: ∀ {l:List (α×β)} {x:α} {y:β},l.lookup x=some y->(x,y)∈l
 | [],_,_,h=>by cases h
 |(a,b)::r,x,y,h=>by
  rw [G09] at h
  by_cases q:(x==a)=true
  ·rw [q] at h;cases h;rw [eq_of_beq q];exact .head _
  ·simp only [q] at h;exact .tail _ (jbD h)
def jji (sc:Scope) (env:Env):Prop:= ∀n,(n,NameKind.free)∈sc.names->env.kindOf n=some .cell\/env.kindOf n=some .free
theorem Cap.of {X:Cx} {pins:List (Addr×Obj)} {σ:St} {H:Hp} {s:Shared} {sc:Scope} (I:Inv X pins σ H s) (hf:jji sc X.env):Cap X.N σ sc (jd6 X.env.cells sc.names []) s.heap H where
 len:=I.len
 inj:=λx y c h1 h2=>I.ok.inj x y c (jb2 _ _ (λ_ _ z=>by cases z) _ _ h1) (jb2 _ _ (λ_ _ z=>by cases z) _ _ h2)
 has:=λx h=>jeG _ _ _ (.inl ⟨jbD h,I.ok.has x (hf x (jbD h))⟩)
 cell:=λx c h=>⟨I.cell x c (jb2 _ _ (λ_ _ z=>by cases z) _ _ h),I.freeC x c (jb2 _ _ (λ_ _ z=>by cases z) _ _ h)⟩
 loc:=λi x v h1 h2 h3=>by
  obtain⟨m,hn,hl⟩:=I.loc
  have hk:=hf x (jbD h3)
  obtain⟨u,r,l⟩:=hl i x v h1 h2 (.inr hk)
  obtain⟨c,hc⟩:=jeG (cells:=X.env.cells) sc.names [] x (.inl ⟨jbD h3,I.ok.has x hk⟩)
  refine⟨u,c,r,hc,?_⟩
  have hc' :=jb2 _ _ (λ_ _ z=>by cases z) _ _ hc
  rcases l with ⟨k,_⟩|⟨_,c2,e,z⟩
  ·rcases hk with k2|k2<;>(rw [k] at k2;cases k2)
  ·rw [hc'] at e;cases e;exact z
theorem Cap.step {N:List Str} {σ:St} {sc:Scope} {cl:List (Str×Addr)} {h h' :Heap} {H H' :Hp} {fs:List Addr} (C:Cap N σ sc cl h H) (u:Un fs [] H H' h h'):Cap N σ sc cl h' H' :=by
 have k: ∀x c v,cl.lookup x=some c->h.IsCell c v->h'.IsCell c v:=λx c v e ⟨o,ho,hd⟩=>by
  obtain⟨sl,q⟩:=u.any ho (C.cell x c e).2 (by simp)
  exact⟨_,q,hd⟩
 exact⟨C.len,C.inj,C.has,λx c e=>by
  obtain⟨⟨v,z⟩,n⟩:=C.cell x c e
  obtain⟨o,ho,_⟩:=id z
  exact⟨⟨v,k x c v e z⟩,u.free c o ho n (by simp)⟩,λi x v h1 h2 h3=>let ⟨uu,c,r,e,z⟩:=C.loc i x v h1 h2 h3;⟨uu,c,r,e,k x c _ e z⟩⟩
def cxL (CX:CXT) (P:Program) (w:World) (K:PySem.W.Frag) (mg:Str->Option Value) (base:Heap) (N:List Str) (q:Str) (scope:Scope) (f:Addr) (cd:Value) (cl:List (Str×Addr)) (A:Around) (outer:List Env) (s:Shared) (H:Hp) (E:XK):Cx where
 prog:=P
 w:=w
 K:=K
 mg:=mg
 base:=base
 A:=A.deeper (envX q scope s.heap.objs.size f cd cl)
 N:=N
 s₀:=s
 H₀:=H
 env:=envX q scope s.heap.objs.size f cd cl
 outer:=outer
 stack:=envX q scope s.heap.objs.size f cd cl::outer
 ex:= []
 calm:=true
 fn:=λ_=>false
 pn:= []
 xe:=λe s' =>wpAny (model P w) (A.deeper (envX q scope s.heap.objs.size f cd cl)) (leaving (envX q scope s.heap.objs.size f cd cl) e) (λ_ s'' =>CX outer H s E e s'') (λe' s'' =>CX outer H s E e' s'') s'
theorem jmp {CX:CXT} {P:Program} {w:World} {K:PySem.W.Frag} {mg:Str->Option Value} {base:Heap} {N:List Str} {q:Str} {scope:Scope} {f:Addr} {cd:Value} {cl:List (Str×Addr)} {A:Around} {outer:List Env} {s:Shared} {H:Hp} {E:XK} {σ:St} {h₁:Heap} {tk:Tok}
 (L:LamOk scope) (hd:A.handled=none) (e0:Env0 P w K mg base A outer s H) (C:Cap N σ scope cl s.heap H) (hns:h₁.Ns s.heap.objs.size (λ_=>none)) (hk: ∀b o,s.heap.get? b=some o->h₁.get? b=some o):
 Inv (cxL CX P w K mg base N q scope f cd cl A outer s H E) [] σ H {s with heap:=h₁,toks:=tk}:=by
 have noA: ∀b:Addr,b ∉ (cxL CX P w K mg base N q scope f cd cl A outer s H E).ex:=λb z=>absurd (show b∈([]:List Addr) from z) (by simp)
 have nofr: ∀y,scope.names.lookup y=some .cell\/scope.names.lookup y=some .free->scope.names.lookup y=some .free:=λy hy=>hy.elim (λz=>absurd rfl (L.nocell _ (jbD z)).1) id
 refine⟨⟨e0.mod,L.kind,rfl,rfl,G0k _,λy z c h1 h2=>C.inj y z c h1 h2,λy hy=>C.has y (nofr y hy),λy c z=>(by cases z),λ_=>hd,G2V e0.frames,.inr ⟨rfl,rfl⟩,λb z=>absurd z (noA b),e0.bs,e0.bsz,λb _ _=>noA b,λb z=>absurd z (noA b),e0.funs,e0.frf⟩,
  rfl,e0.bare,Un.kept hk,⟨_,hns,λi y v h1 h2 h3=> ?_⟩,λy c h=> ?_,e0.hok.fresh (G0k _),λy c h=>(C.cell y c h).2,λp hp=>absurd (show p∈([]:List (Addr×Obj)) from hp) (by simp),e0.hok.kept hk,C.len⟩
 ·have h3' :scope.names.lookup y=some .free:=by
   rcases h3 with z|z
   ·exact absurd rfl (L.nocell _ (jbD z)).2
   ·exact nofr y z
  obtain⟨u,c,r,e,o,ho,hd'⟩:=C.loc i y v h1 h2 h3'
  exact⟨u,r,.inr ⟨.inr h3',c,e,o,hk _ _ ho,hd'⟩⟩
 ·obtain⟨⟨v,o,ho,hd'⟩,_⟩:=C.cell y c h
  exact⟨v,o,hk _ _ ho,hd'⟩
theorem jjj {prog:Program} {w:World} {A:Around} {R:Result->Shared->Prop} {s:Shared} {f:Addr} {o:Obj} {qual q:Str} {body:Expr} {scope:Scope} {cl:List (Str×Addr)} {pm cd ctv:Value} (L:LamOk scope) (deep:A.depth<recursionLimit)
 (there:s.heap.get? f=some o) (lam:o.data= .func (kla_fn "<lambda>" qual je6 body scope cl pm cd ctv)) (named:s.heap.CodeRec cd q) (lim:s.heap.NoLimit)
 (go: ∀h₁,h₁.Ns s.heap.objs.size (λ_=>none)->(∀b o,s.heap.get? b=some o->h₁.get? b=some o)->
  codeAny (model prog w) A (.expr body (envX q scope s.heap.objs.size f cd cl)) R {s with heap:=h₁,toks:=s.toks+0}):
 codeAny (model prog w) A (.call (.ref f) ⟨[],[]⟩) R s:=by
 obtain⟨c,oc,vs,t,rfl,hoc,hdc,hq⟩:=named
 obtain⟨h,g,d,tk,os⟩:=s
 have frame:=λ{A' :Around} {Q:Env->Shared->Prop} {E:Value->Shared->Prop} (k: ∀h₁,_->_->Q _ _)=>wpAny_newFunctionEnv (M:=model prog w) (A:=A') (s:=⟨h,g,d,tk,os⟩) (E:=E) (scope:=scope) (globals:=mainGlobals) (closure:=cl) (binds:= []) (qual:=q++ ".<locals>.") (func:=some f) (code:= .ref c) (around:=none) (builtins:=builtinsNs) (Q:=Q) (λx hx=>(L.nocell x hx).1) (λx hx=>nomatch hx) k L.kind
 refine codeAny_of_tree ?_
 show wpAny _ A.in1 (callAny (.ref f) ⟨[],[]⟩) _ _ _
 wp_walk using wpAny_load there
 rw [lam]
 have nothing:bindArgs (kla_fn "<lambda>" qual je6 body scope cl pm (.ref c) ctv) ⟨[],[]⟩=pure []:=rfl
 show wpAny _ _ (callFunction f (kla_fn "<lambda>" qual je6 body scope cl pm (.ref c) ctv) ⟨[],[]⟩) _ _ _
 unfold callFunction
 rw [nothing]
 show wpAny _ _ (field (.ref c) 1 >>= _) _ _ _
 refine wpAny_bind (G2F hoc hdc hq ?_)
 repeat refine wpAny_bind (G0j ?_)
 refine wpAny_bind (frame λh₁ empty same=>wpAny_bind (wpAny_enterFrame (lim.fresh _ same) deep ?_))
 simp only [kla_fn,L.co,L.gen]
 exact G0j ⟨rfl,go h₁ empty λb o old=>same.extBut _ _ (λz=>absurd (G0A old) (by rw [z];exact G1n _)) (G0f _ old)⟩
theorem jmq {CX:CXT} {P:Program} {w:World} {K:PySem.W.Frag} {mg:Str->Option Value} {base:Heap} {N:List Str} {q qual:Str} {scope:Scope} {f:Addr} {cd pm ctv:Value} {cl:List (Str×Addr)} {A:Around} {outer:List Env} {s:Shared} {H:Hp} {E:XK} {σ:St} {o:Obj} {body:Expr} {t:TE} {Q:VK} {k:Nat}
 (L:LamOk scope) (hr:Room (k+1) A) (e0:Env0 P w K mg base A outer s H) (C:Cap N σ scope cl s.heap H) (ho:s.heap.get? f=some o) (hd:o.data= .func (kla_fn "<lambda>" qual je6 body scope cl pm cd ctv)) (hc:CodeF H cd q)
 (hb:PE (cxL CX P w K mg base N q scope f cd cl A outer s H E) body t) (ht:t σ H Q):codeAny (model P w) A (.call (.ref f) ⟨[],[]⟩) (CR CX outer P w H s Q E) s:=by
 have lim:s.heap.NoLimit:=e0.mod.nolimit.keeps λb o e=>(e0.bs b o e).1
 refine jjj L hr.depth ho hd (hc.rec e0.hok) lim λh₁ hns hk₁=> ?_
 have I:=jmp (CX:=CX) (q:=q) (f:=f) (cd:=cd) (E:=E) (tk:=s.toks+0) L hr.hd e0 C hns hk₁
 refine kla_codeExpr (G0D (hb [] _ σ H Q I ht) (λv s' hs=> ?_) λ_ _ y=>y)
 obtain⟨v',H',J,rv,q'⟩:=hs
 exact⟨v',H',J.os,J.bare,J.base,J.hok,rv,q'⟩
abbrev TXD:=SD->HD->(Str->HD->Prop)->Prop
def WX (X:Cx) (E:XK) (H:Hp) (R:Str->HD->Prop):Prop:= ∀c C h' H',Kept H H' ->RelH X.K h' H' ->X.mg c=some (.ref C)->R c h' ->E (.ref C) none H'
theorem WX.mono {X:Cx} {E:XK} {H H' :Hp} {R:Str->HD->Prop} (w:WX X E H R) (k:Kept H H'):WX X E H' R:=λc C h2 H2 k2=>w c C h2 H2 (k.trans k2)
structure JX (X:Cx) (sts:List Stmt) (t:TXD):Prop where
 to: ∀ (E:XK),Rz X E-> ∀ (pins:List (Addr×Obj)) (s:Shared) (σ:St) (H:Hp) (σd:SD) (h:HD) (R:Str->HD->Prop),Inv X pins σ H s->RelS X.K H σd σ->RelH X.K h H->t σd h R->WX X E H R->
  wpAny (model X.prog X.w) X.A (execs sts X.env) (λ_ _=>False) X.xe s
structure JXE (X:Cx) (e:Expr) (t:TXD):Prop where
 to: ∀ (E:XK),Rz X E-> ∀ (pins:List (Addr×Obj)) (s:Shared) (σ:St) (H:Hp) (σd:SD) (h:HD) (R:Str->HD->Prop),Inv X pins σ H s->RelS X.K H σd σ->RelH X.K h H->t σd h R->WX X E H R->
  wpAny (model X.prog X.w) X.A (eval e X.env) (λ_ _=>False) X.xe s
theorem JS.nox {X:Cx} {st:Stmt} {t:TSD} (h:JS X.nox st t):JS X st t:=⟨λpins s σ H D I hw=>
 G0D (h.to pins s σ H D (I.wish _) hw) (λ_ _ q=>q.unwish) λ_ _ z=>False.elim z⟩
def jry (t:TSD) (u:TXD):TXD:=λσ h R=>t {nx:=λσ' h' =>u σ' h' R,rt:=λ_ _=>False} σ h
def xIf (t:TTD) (u:TXD):TXD:=λσ h R=>t σ h λk h' =>k=true/\u σ h' R
def xRz (c:Str):TXD:=λ_ h R=>R c h
abbrev RDx:=List D->HD->(Str->HD->Prop)->Prop
def jqi (spr:RDx) (t:TAD):TXD:=λσ h R=>t σ h λds h1=>spr ds h1 R
def jhV (mg:Str->Option Value) (K:PySem.W.Frag) (spr:RDx):Sp:=λvs H _ E=> ∃ds h R,RelDs K H ds vs/\RelH K h H/\spr ds h R/\ ∀c C h' H',Kept H H' ->RelH K h' H' ->mg c=some (.ref C)->R c h' ->E (.ref C) none H'
def bmV:List Value:= [.type "ValueError",.type "Exception",.type "BaseException",.type "object"]
theorem jkw {K:Frag} {mg:Str->Option Value} {base:Heap} (P:Program) (M:Mod K mg base): ∃loose mb,TopRead P loose mg mb base:=by
 obtain⟨mb,laid,boot⟩:=M.blt
 obtain⟨o,es,ep,at_,isd,texts,finds⟩:=id M.glob
 refine⟨es.toList.filterMap λe=>match e.key with| .str n _=>some n|_=>none,mb,M.glob,laid,M.nolimit,boot,λx _ out _ _ _=> ?_⟩
 rw [<-finds x]
 cases hit:nsFind es x with
 |none=>rfl
 |some v=>
  refine absurd ?_ out
  unfold nsFind findBy at hit
  obtain⟨e,hf,_⟩:=G2b.mp hit
  have isx:e.key.isStr x=true:=Array.find?_some (p:=λ(e:DictEntry)=>e.key.isStr x) hf
  have mem:=Array.mem_of_find?_eq_some hf
  obtain⟨n,t,ek⟩:=texts e mem
  rw [ek] at isx
  have nx:n=x:=by simpa [Value.isStr] using isx
  exact G2c.mpr ⟨e,by simpa using mem,by rw [ek,nx]⟩
def OwnX (K:PySem.W.Frag) (mg:Str->Option Value) (c:Str):Prop:= ∃C,mg c=some (.ref C)/\nsIn K mainGlobals c=some (some (.ref C))/\excIn K C bmV "ValueError.__new__" =true
theorem OwnX.at {K:Frag} {mg:Str->Option Value} {base h:Heap} {c:Str} (P:Program) (O:OwnX K mg c) (M:Mod K mg base) (kept: ∀b o,base.get? b=some o->h.get? b=some o): ∃C,mg c=some (.ref C)/\OwnCls c C bmV "ValueError.__new__" mg h:=
 let ⟨C,hm,hn,hx⟩:=O
 let ⟨_,_,T⟩:=jkw P M
 ⟨C,hm,(own_of_in M.kin T hn hx).keeps kept⟩
section
variable {X:Cx} {c:Expr} {e:Expr} {es:List Expr} {st:Stmt} {a b rest:List Stmt} {t:TSD} {tt:TTD} {u:TXD} {ta:TAD} {pos p:Pos}
theorem jgT (hs:JS X st t) (hr:JX X rest u):JX X (st::rest) (jry t u):=⟨λE Z pins s σ H σd h R I rs rh ht w=>by
 refine G1f (thn (hs.to pins s σ H {nx:=λσ' H' => ∃σd' h',Kept H H' /\RelS X.K H' σd' σ' /\RelH X.K h' H' /\u σd' h' R,rt:=λ_ _=>False} I
  ⟨σd,h,_,rs,rh,ht,λσd' h' σ' H' k rs' rh' q=>⟨σd',h',k,rs',rh',q⟩,λ_ _ _ _ _ _ _ q=>q,λ_ _ _ _ _ _ _ q=>q,λ_ _ _ _ _ _ _ q=>q⟩) λf s1 q=> ?_)
 cases f with
 |next=>
  obtain⟨σ',H',I',σd',h',k,rs',rh',q⟩:=q
  exact hr.to E Z pins s1 σ' H' σd' h' R I' rs' rh' q (w.mono k)
 |ret v=>obtain⟨_,_,_,_,_,q⟩:=q;exact q
 |brk=>obtain⟨_,_,_,q⟩:=q;exact q
 |cont=>obtain⟨_,_,_,q⟩:=q;exact q⟩
theorem jmr (hc:JT X c tt) (ha:JX X a u):JX X (.If c a b pos::rest) (xIf tt u):=⟨λE Z pins s σ H σd h R I rs rh ht w=>by
 refine G1f (G0D (wpAny_If (Q:=λ_ _=>False) (thn (hc.to pins s σ H (λk H' =>k=true/\ ∃h',Kept H H' /\RelS X.K H' σd σ/\RelH X.K h' H' /\u σd h' R) I
  ⟨σd,h,_,rs,rh,ht,λk h' H' kp rh' q=>⟨q.1,h',kp,rs.mono kp,rh',q.2⟩⟩) λd s1 q=> ?_)) (λ_ _ z=>z.elim) λ_ _ z=>z)
 obtain⟨H',I',rfl,h',kp,rs',rh',q⟩:=q
 exact ha.to E Z pins s1 σ H' σd h' R I' rs' rh' q (w.mono kp)⟩
theorem jfH (he:JXE X e u) (hs:swapsWith e none pos.line X.env=pure false:=by rfl):JX X (.Expr e pos::rest) u:=⟨λE Z pins s σ H σd h R I rs rh ht w=>
 G1f (wpAny_Expr_any (G0D (he.to E Z pins s σ H σd h R I rs rh ht w) (λ_ _ z=>z.elim) λ_ _ z=>z) I.quiet hs)⟩
theorem joA (he:JXE X e u):JX X (.Return (some e) pos::rest) u:=⟨λE Z pins s σ H σd h R I rs rh ht w=>
 G1f (wpAny_Return_some (G0D (he.to E Z pins s σ H σd h R I rs rh ht w) (λ_ _ z=>z.elim) λ_ _ z=>z))⟩
theorem joB {x:Str} {pos' :Pos} (he:JXE X e u) (hs:swapsWith e (some (.Name x pos')) pos.line X.env=pure false:=by rfl):JX X (.Assign [.Name x pos'] e pos::rest) u:=⟨λE Z pins s σ H σd h R I rs rh ht w=>
 G1f (G3j (G0D (he.to E Z pins s σ H σd h R I rs rh ht w) (λ_ _ z=>z.elim) λ_ _ z=>z) hs)⟩
theorem jfI {x:Str} {np cpos p2:Pos} {m:Str} {j:Nat} (hg:Gl X x) (O:OwnX X.K X.mg x) (hcalm:X.calm=true) (hd:(x==("__debug__" :Str))=false:=by decide)
 (he:starEach [Expr.Constant (.str m) j p2] X.env=(false,eval (.Constant (.str m) j p2) X.env)::starEach [] X.env:=by rfl):
 JX X (.Raise (some (.Call (.Name x np) [.Constant (.str m) j p2] [] cpos)) none pos::rest) (xRz x):=⟨λE Z pins s σ H σd h R I rs rh ht w=>by
 obtain⟨C,hm,own⟩:=O.at X.prog I.mod I.bk
 refine G1f (G0D (?_:wpAny _ _ _ (λ_ _=>False) _ _) (λ_ _ z=>z.elim) λ_ _ z=>z)
 obtain⟨_,_,_,_,_,_,_,_,_,_,_,_,_,_,_,_,_,isC,laid,noInit,tail⟩:=own.obj
 refine' wpAny_Raise_call_subT PySem.F.excBase_ValueError (tail.hasType PySem.F.excBase_ValueError.hasBase) (I.ok.hd hcalm) (by rw [he];rfl) noInit (jdI I hg hm ⟨rfl,?_⟩ hd)
 rotate_right 1
 rw [he]
 refine Calls.evalArgs_plain (G2w (PySem.Calls.Constant_str (k:=j) (pos:=p2) (G3m ⟨rfl,(by show 1<=sizeLine;decide),isC,laid,tail,λh' e hme=> ?_⟩)))
 refine Z.xe _ _ (jhT (s:= {s with toks:=s.toks+1}) (I.tok _) Z hme λh2 un hok fl=> ?_)
 exact⟨e,C,H,rfl,I.os,I.bare,un,hok,fl,w x C h H (.refl H) rh hm ht⟩⟩
theorem jbm {k:Nat} {f:Addr} {fd:FuncData} {ps:List Str} {spr:RDx} {x:Str} (F:FnOk X.prog X.w X.K X.mg X.base (CXR X.prog X.w) k f fd ps (jhV X.mg X.K spr)) (hr:Room k X.A) (hg:Gl X x) (hm:X.mg x=some (.ref f)) (hk:PySem.W.keepIn X.K (.ref f)=true) (hb:Binds X.K fd ps [])
 (ha:JA X (e::es) ta) (hdb:(x==("__debug__" :Str))=false:=by decide) (he:starEach (e::es) X.env=(false,eval e X.env)::starEach es X.env:=by rfl) (hpl:(backTo pos (starEach es X.env)).any (·.1)=false:=by rfl):
 JXE X (.Call (.Name x p) (e::es) [] pos) (jqi spr ta):=⟨λE Z pins s σ H σd h R I rs rh ht w=>by
 refine thn (jiw F hr hg hm hk hb .nil (jqh Z) ha.to hdb he hpl pins s σ H (λ_ _=>False) I
  ⟨σd,h,_,rs,rh,ht,λds vs h' H' kp rh' r q=>by show jhV X.mg X.K spr (vs++ []) H' (λ_ _=>False) E;rw [G1t];exact⟨ds,h',R,r,rh',q,λc C h2 H2 k2=>w c C h2 H2 (kp.trans k2)⟩⟩) λ_ _ ⟨_,_,_,_,z⟩=>z⟩
end
section
variable {P:Program} {w:World} {K:PySem.W.Frag} {mg:Str->Option Value} {base:Heap}
theorem jms {N:List Str} {qual:Str} {scope:Scope} {f:Addr} {cd:Value} {A:Around} {outer:List Env} {s:Shared} {H:Hp} {E:XK}:Rz (jft (CXR P w) P w K mg base N qual scope f cd A outer s H E) E:=⟨⟨rfl,rfl,rfl⟩,λ_ _ h=>h⟩
theorem joC {N:List Str} {q:Str} {scope:Scope} {f:Addr} {cd:Value} {cl:List (Str×Addr)} {A:Around} {outer:List Env} {s:Shared} {H:Hp} {E:XK}:Rz (cxL (CXR P w) P w K mg base N q scope f cd cl A outer s H E) E:=⟨⟨rfl,rfl,rfl⟩,λ_ _ h=>h⟩
theorem Fun.okX {x qual:Str} {st:Stmt} {f:Addr} {fd:FuncData} {N ps:List Str} {k:Nat} {spr:RDx} (F:Fun K x qual st f fd) (S:FnScope N ps (jae st)) (len: ∀ds h R,spr ds h R->ds.length=ps.length)
 (tb:TXD) (hbody: ∀ (cdv:Value) (A:Around) (outer:List Env) (s:Shared) (H:Hp) (E:XK),Room k (A.deeper (envOfC qual (jae st) s.heap.objs.size f cdv))->JX (jft (CXR P w) P w K mg base N qual (jae st) f cdv A outer s H E) (jaV st) tb)
 (read: ∀ds h R,spr ds h R->tb (jap N ds) h R):FnOk P w K mg base (CXR P w) (k+1) f fd ps (jhV mg K spr):=by
 obtain⟨oc,od,kV,doc,pm,an,cdv,ct,osl,rfl,lk,hcd⟩:=F.ex
 refine jlz lk hcd S (λvs H Q E h=> ?_) λA outer s H vs Q E hr hsp=> ?_
 ·obtain⟨ds,h,R,r,rh,q,p⟩:=h
  rw [<-r.length];exact len _ _ _ q
 ·obtain⟨ds,h,R,r,rh,q,p⟩:=hsp
  refine⟨λ_ σ H' =>σ=start N vs/\H' =H,λpins s' σ H' D I ⟨e1,e2⟩=> ?_,rfl,rfl⟩
  subst e1;subst e2
  exact G0D ((hbody cdv A outer s H' E hr).to E jms pins s' _ H' (jap N ds) h R I (jcE r) rh (read ds h R q) p) (λ_ _ z=>z.elim) λ_ _ z=>z
end
def jbh (P:Program) (w:World) (K:PySem.W.Frag) (mg:Str->Option Value) (base:Heap) (n:Nat) (x:Str) (ps:List Str) (spr:RDx):Prop:=
 ∃ (g:Addr) (gd:FuncData),FnOk P w K mg base (CXR P w) n g gd ps (jhV mg K spr)/\Binds K gd ps []/\PySem.W.keepIn K (.ref g)=true/\mg x=some (.ref g)
end L2
namespace L2
open PySem PySem.Spec PyProof.Rows
structure RoomU (k:Nat) (A:Around):Prop where
 dp:A.depth+3*k+5<recursionLimit
 un:A.units+16*k+200<cLine
 gd:A.guards=some []
theorem Room.u {k:Nat} {A:Around} (r:Room k A):RoomU k A:=⟨r.dp,r.un,r.gd⟩
theorem RoomU.deeper {k:Nat} {A:Around} (r:RoomU (k+1) A) (env:Env):RoomU k (A.deeper env):=
 ⟨by have:=r.dp;show A.depth+1+3*k+5<_;omega,by have:=r.un;show A.units+3+16*k+200<_;omega,r.gd⟩
theorem RoomU.depth {k:Nat} {A:Around} (r:RoomU k A):A.depth<recursionLimit:=by have:=r.dp;omega
theorem RoomU.units {k:Nat} {A:Around} (r:RoomU k A):A.units+64<cLine:=by have:=r.un;omega
structure FnOkU (P:Program) (w:World) (K:PySem.W.Frag) (mg:Str->Option Value) (base:Heap) (CX:CXT) (k:Nat) (f:Addr) (fd:FuncData) (ps:List Str) (sp:Sp):Prop where
 len: ∀vs H Q E,sp vs H Q E->vs.length=ps.length
 run: ∀ (A:Around) (outer:List Env) (s:Shared) (H:Hp) (args:Args) (us:List Value) (vs:List V) (Q:VK) (E:XK),RoomU k A->Env0 P w K mg base A outer s H->BindsTo s fd args (ps.zip us)->Vals vs us->sp vs H Q E->
  codeAny (model P w) A (.call (.ref f) args) (CR CX outer P w H s Q E) s
section
variable {X:Cx} {CX:CXT} {k:Nat} {f C:Addr} {fd:FuncData} {ps:List Str} {sp:Sp} {dvs:List V} {ds:List Value} {E:XK} {x m:Str} {p pos apos:Pos} {e o:Expr} {es:List Expr} {ta:TE} {t:TA}
theorem jmt {pins:List (Addr×Obj)} {σ:St} {H:Hp} {s:Shared} {Q:VK} {us:List Value} {vs:List V} (F:FnOkU X.prog X.w X.K X.mg X.base CX k f fd ps sp) (hr:RoomU k X.A) (hb:Binds X.K fd ps ds) (hd:Vals dvs ds) (hx:jel CX X E)
 (I:Inv X pins σ H s) (r:Vals vs us) (h:sp (vs++dvs) H Q E):wpAny (model X.prog X.w) X.A (call (.ref f) us) (EP X pins σ Q) X.xe s:=by
 have r2:Vals (vs++dvs) (us++ds):=r.append hd
 have hl:(us++ds).length=ps.length:=by rw [<-r2.length];exact F.len _ _ _ _ h
 refine G3n (G2N (F.run X.A X.stack s H ⟨us,[]⟩ (us++ds) (vs++dvs) Q E hr I.env0 (hb s us I.kIn hl) r2 h) λr s' hq=> ?_)
 cases r with
 |error e=>exact hx pins σ H s e s' I hq
 |ok fl=>
  cases fl with
  |ret u=>exact I.after hq
  |next=>exact False.elim hq
  |brk=>exact False.elim hq
  |cont=>exact False.elim hq
theorem jkx (F:FnOkU X.prog X.w X.K X.mg X.base CX k f fd ps sp) (hr:RoomU k X.A) (hg:Gl X x) (hm:X.mg x=some (.ref f)) (hk:PySem.W.keepIn X.K (.ref f)=true) (hb:Binds X.K fd ps ds) (hd:Vals dvs ds) (hx:jel CX X E)
 (ha:PA X (e::es) t) (hdb:(x==("__debug__" :Str))=false:=by decide) (he:starEach (e::es) X.env=(false,eval e X.env)::starEach es X.env:=by rfl) (hpl:(backTo pos (starEach es X.env)).any (·.1)=false:=by rfl):
 PE X (.Call (.Name x p) (e::es) [] pos) (jly sp dvs E t):=by
 intro pins s σ H Q I h
 refine G1C (jdI I hg hm ?_ hdb)
 refine G3b (h₀:=X.base) I.ok.mod.kin hk (thn (ha pos pins s σ H _ I h) λus s1 ⟨vs,H1,I1,r,q⟩=>⟨I1.kIn,?_⟩) he hpl
 exact jmt F hr hb hd hx I1 r q
end
def jgf (CX:CXT) (P:Program) (w:World) (K:PySem.W.Frag) (mg:Str->Option Value) (base:Heap) (N:List Str) (qual:Str) (scope:Scope) (f:Addr) (cd:Value) (A:Around) (outer:List Env) (s:Shared) (H:Hp) (E:XK):Cx where
 prog:=P
 w:=w
 K:=K
 mg:=mg
 base:=base
 A:=A.deeper (envOfC qual scope s.heap.objs.size f cd)
 N:=N
 s₀:=s
 H₀:=H
 env:=envOfC qual scope s.heap.objs.size f cd
 outer:=outer
 stack:=envOfC qual scope s.heap.objs.size f cd::outer
 ex:= []
 calm:=false
 fn:=λ_=>true
 pn:= []
 xe:=λe s' =>wpAny (model P w) (A.deeper (envOfC qual scope s.heap.objs.size f cd)) (leaving (envOfC qual scope s.heap.objs.size f cd) e) (λ_ s'' =>CX outer H s E e s'') (λe' s'' =>CX outer H s E e' s'') s'
theorem jhW {CX:CXT} {P:Program} {w:World} {K:PySem.W.Frag} {mg:Str->Option Value} {base:Heap} {N ps:List Str} {qual:Str} {scope:Scope} {f:Addr} {cd:Value} {A:Around} {outer:List Env} {s s1:Shared} {H:Hp} {E:XK} {us:List Value} {vs:List V}
 (S:FnScope N ps scope) (e0:Env0 P w K mg base A outer s H) (hl:vs.length=ps.length) (r:Vals vs us)
 (x:InCallC s s.heap.objs.size (bindL (envOfC qual scope s.heap.objs.size f cd).kindOf (ps.zip us) λ_=>none) (cellsFrom (s.heap.objs.size+1) scope.names []) (bindC (envOfC qual scope s.heap.objs.size f cd).kindOf (ps.zip us) λ_=>none) s1):
 Inv (jgf CX P w K mg base N qual scope f cd A outer s H E) [] (start N vs) H s1:=by
 have hpl:ps.length<=N.length:=by have:=congrArg List.length S.pre;rw [G0E] at this;omega
 obtain⟨h1,tk,rfl,hk⟩:=x.done
 have noA: ∀b:Addr,b ∉ (jgf CX P w K mg base N qual scope f cd A outer s H E).ex:=λb z=>absurd (show b∈([]:List Addr) from z) (by simp)
 refine⟨⟨e0.mod,S.kind,rfl,rfl,G0k _,λy z c h1 h2=> ?_,λy hy=> ?_,λy c _ h=> ?_,λz=>(by cases z),G2V e0.frames,.inr ⟨rfl,rfl⟩,λb z=>absurd z (noA b),e0.bs,e0.bsz,λb _ _=>noA b,λb z=>absurd z (noA b),e0.funs,e0.frf⟩,
  rfl,e0.bare,Un.kept hk,⟨_,x.toInCall.ns,λi y v h1 h2 h3=> ?_⟩,λy c h=>⟨_,x.cell y c h⟩,e0.hok.fresh (G0k _),λy c h=> ?_,λp hp=>absurd (show p∈([]:List (Addr×Obj)) from hp) (by simp),e0.hok.kept hk,?_⟩
 ·exact name_of_addr x.apart (G1e h1) (G1e h2)
 ·have hy:scope.names.lookup y=some .cell\/scope.names.lookup y=some .free:=hy
  rcases hy with hy|hy
  ·exact jcz hy
  ·exact absurd rfl (S.nofree _ (G1e hy))
 ·exact G0W (x.above y c (G1e h))
 ·have hi:i<vs.length:=by
   unfold start at h2
   by_cases hi:i<vs.length
   ·exact hi
   ·rw [G0q (by simpa using hi)] at h2
    rw [G17] at h2
    split at h2<;>cases h2
  have ha:vs[i]? =some v:=by
   unfold start at h2
   rw [G0I (by simpa using hi),G0H] at h2
   cases e:vs[i]? with
   |none=>rw [e] at h2;cases h2
   |some a=>rw [e] at h2;cases h2;rfl
  obtain⟨u,hu,rv⟩:=r.get ha
  have hp:ps[i]? =some y:=by
   rw [<-S.pre,G1p (by omega)];exact h1
  have ndP:ps.Nodup:=by rw [<-S.pre];exact S.nd.sublist (G1L _ _)
  refine⟨u,rv,?_⟩
  rcases S.par y (G0i hp) with k|k
  ·exact .inl ⟨k,jem ndP hp hu k⟩
  ·obtain⟨c,e⟩:=jcz (n:=s.heap.objs.size+1) k
   refine .inr ⟨.inl k,c,e,?_⟩
   have q:=x.cell y c e
   rw [jen ndP hp hu (by show scope.names.lookup y≠_;rw [k];decide)] at q
   exact q
 ·exact e0.hok.fresh (G0W (x.above y c (G1e h)))
 ·unfold start
  show _=N.length
  rw [G0a,G0c,G1S]
  omega
theorem joD {CX:CXT} {P:Program} {w:World} {K:PySem.W.Frag} {mg:Str->Option Value} {base:Heap} {k:Nat} {f:Addr} {name qual:Str} {params:Arguments} {body:List Stmt} {scope:Scope} {dV kV doc pm cdv ct oc:Value} {an od:Option Addr}
 {osl:Array (Option Value)} {N ps:List Str} {sp:Sp} (lk:K.lookup f=some ⟨oc,od,.func (PySem.W.fnOf name qual params body scope dV kV doc pm an cdv ct),osl⟩) (hcd:PySem.W.codeIn K cdv qual=true) (S:FnScope N ps scope)
 (len: ∀vs H Q E,sp vs H Q E->vs.length=ps.length)
 (hbody: ∀ (A:Around) (outer:List Env) (s:Shared) (H:Hp) (vs:List V) (Q:VK) (E:XK),RoomU k (A.deeper (envOfC qual scope s.heap.objs.size f cdv))->sp vs H Q E->
  ∃t,PSs (jgf CX P w K mg base N qual scope f cdv A outer s H E) body t/\t {nx:=λ_ H' =>Q .non H',rt:=Q} (start N vs) H):
 FnOkU P w K mg base CX (k+1) f (PySem.W.fnOf name qual params body scope dV kV doc pm an cdv ct) ps sp:=by
 refine⟨len,λA outer s H args us vs Q E hr e0 hb r hsp=> ?_⟩
 have hl:=len _ _ _ _ hsp
 have KX:K.In s.heap:=e0.mod.kin.keeps λb o e=>(e0.bs b o e).1
 have lim:s.heap.NoLimit:=e0.mod.nolimit.keeps λb o e=>(e0.bs b o e).1
 have hkind: ∀y∈ps.zip us,scope.names.lookup y.1=some .local\/(scope.names.lookup y.1=some .cell/\((cellsFrom (s.heap.objs.size+1) scope.names []).lookup y.1).isSome=true):=λ⟨n,v⟩ hy=>by
  rcases S.par n (G2x hy).1 with q|q
  ·exact .inl q
  ·exact .inr ⟨q,G2a _ _ _ (.inl q)⟩
 refine G2O hr.depth (KX _ _ lk) rfl S.co S.gen rfl (G3c KX hcd) (hb _ _ _ _ ?_)
 refine G2o S.kind hkind λenv he s1 x=> ?_
 subst he
 refine⟨lim.keeps x.toInCall.keep,codeAny_func ?_⟩
 obtain⟨t,ht,hq⟩:=hbody A outer s H vs Q E (hr.deeper _) hsp
 have I:Inv (jgf CX P w K mg base N qual scope f cdv A outer s H E) [] (start N vs) H s1:=jhW S e0 hl r x
 refine G0D (ht [] s1 (start N vs) H _ I hq) (λfl s' hs=> ?_) λe s' hs=>hs
 have fin: ∀ {σ' :St} {H' :Hp} {v:V} {u:Value},Inv (jgf CX P w K mg base N qual scope f cdv A outer s H E) [] σ' H' s' ->RelV v u->Q v H' ->CE outer P w H s Q u s' :=
  λ{σ' H' v u} J rv q=>⟨v,H',J.os,J.bare,J.base,J.hok,rv,q⟩
 cases fl with
 |ret u=>
  obtain⟨v,σ',H',J,rv,q⟩:=hs
  exact fin J rv q
 |next=>
  obtain⟨σ',H',J,q⟩:=hs
  exact fin (v:=V.non) (u:=Value.none) J rfl q
 |brk=>
  obtain⟨_,_,_,q⟩:=hs
  exact False.elim q
 |cont=>
  obtain⟨_,_,_,q⟩:=hs
  exact False.elim q
section
variable {P:Program} {w:World} {K:PySem.W.Frag} {mg:Str->Option Value} {base:Heap}
theorem Fun.okU {x qual:Str} {st:Stmt} {f:Addr} {fd:FuncData} {N ps:List Str} {k:Nat} {sp:Sp} (F:Fun K x qual st f fd) (S:FnScope N ps (jae st)) (len: ∀vs H Q E,sp vs H Q E->vs.length=ps.length)
 (hbody: ∀ (cdv:Value) (A:Around) (outer:List Env) (s:Shared) (H:Hp) (vs:List V) (Q:VK) (E:XK),RoomU k (A.deeper (envOfC qual (jae st) s.heap.objs.size f cdv))->sp vs H Q E->
  ∃t,PSs (jgf CX0 P w K mg base N qual (jae st) f cdv A outer s H E).nox (jaV st) t/\t {nx:=λ_ H' =>Q .non H',rt:=Q} (start N vs) H):FnOkU P w K mg base CX0 (k+1) f fd ps sp:=by
 obtain⟨oc,od,kV,doc,pm,an,cdv,ct,osl,rfl,lk,hcd⟩:=F.ex
 refine joD lk hcd S len λA outer s H vs Q E hr hsp=> ?_
 obtain⟨t,h,q⟩:=hbody cdv A outer s H vs Q E hr hsp
 exact⟨t,h.nox,q⟩
theorem Fun.okDU {x qual:Str} {st:Stmt} {f:Addr} {fd:FuncData} {N ps:List Str} {k:Nat} {spd:RDn} (F:Fun K x qual st f fd) (S:FnScope N ps (jae st)) (len: ∀ds h Q,spd ds h Q->ds.length=ps.length)
 (tb:TSD) (hbody: ∀ (cdv:Value) (A:Around) (outer:List Env) (s:Shared) (H:Hp) (E:XK),RoomU k (A.deeper (envOfC qual (jae st) s.heap.objs.size f cdv))->QSs (jgf CX0 P w K mg base N qual (jae st) f cdv A outer s H E).nox (jaV st) tb)
 (read: ∀ds h Q,spd ds h Q->tb (jch Q) (jap N ds) h):FnOkU P w K mg base CX0 (k+1) f fd ps (LSp K spd):=by
 refine F.okU S (λvs H Q E h=> ?_) (λcdv A outer s H vs Q E hr h=> ?_)
 ·obtain⟨ds,h,Qd,r,rh,q,p⟩:=h
  rw [<-r.length];exact len _ _ _ q
 ·obtain⟨ds,h,Qd,r,rh,q,p⟩:=h
  refine⟨_,hbody cdv A outer s H E hr,jap N ds,h,jch Qd,jcE r,rh,read ds h Qd q,λσd' h' σ' H' k rs' rh' ⟨h2,sb,q'⟩=>p .non .non h2 H' k (rh'.sub sb) rfl q',λd v h' H' k rh' r' ⟨h2,sb,q'⟩=>p d v h2 H' k (rh'.sub sb) r' q',λ_ _ _ _ _ _ _ z=>z.elim,λ_ _ _ _ _ _ _ z=>z.elim⟩
theorem Fun.okJU {x qual:Str} {st:Stmt} {f:Addr} {fd:FuncData} {N ps:List Str} {k:Nat} {spd:RDn} (F:Fun K x qual st f fd) (S:FnScope N ps (jae st)) (len: ∀ds h Q,spd ds h Q->ds.length=ps.length)
 (tb:TSD) (hbody: ∀ (cdv:Value) (A:Around) (outer:List Env) (s:Shared) (H:Hp) (E:XK),RoomU k (A.deeper (envOfC qual (jae st) s.heap.objs.size f cdv))->JSs (jgf CX0 P w K mg base N qual (jae st) f cdv A outer s H E).nox (jaV st) tb)
 (read: ∀ds h Q,spd ds h Q->tb (jch Q) (jap N ds) h):FnOkU P w K mg base CX0 (k+1) f fd ps (LSp K spd):=F.okDU S len tb (λcdv A outer s H E hr=>(hbody cdv A outer s H E hr).to) read
end
structure FnOkS (P:Program) (w:World) (K:PySem.W.Frag) (mg:Str->Option Value) (base:Heap) (CX:CXT) (k:Nat) (f:Addr) (fd:FuncData) (ps:List Str) (sp:Shared->Sp):Prop where
 len: ∀s vs H Q E,sp s vs H Q E->vs.length=ps.length
 run: ∀ (A:Around) (outer:List Env) (s:Shared) (H:Hp) (args:Args) (us:List Value) (vs:List V) (Q:VK) (E:XK),Room k A->Env0 P w K mg base A outer s H->BindsTo s fd args (ps.zip us)->Vals vs us->sp s vs H Q E->
  codeAny (model P w) A (.call (.ref f) args) (CR CX outer P w H s Q E) s
section
variable {X:Cx} {CX:CXT} {k:Nat} {f C:Addr} {fd:FuncData} {ps:List Str} {sp:Sp} {dvs:List V} {ds:List Value} {E:XK} {x m:Str} {p pos apos:Pos} {e o:Expr} {es:List Expr} {ta:TE} {t:TA}
theorem jmu {pins:List (Addr×Obj)} {σ:St} {H:Hp} {s:Shared} {Q:VK} {us:List Value} {vs:List V} {sp:Shared->Sp} (F:FnOkS X.prog X.w X.K X.mg X.base CX k f fd ps sp) (hr:Room k X.A) (hb:Binds X.K fd ps ds) (hd:Vals dvs ds) (hx:jel CX X E)
 (I:Inv X pins σ H s) (r:Vals vs us) (h:sp s (vs++dvs) H Q E):wpAny (model X.prog X.w) X.A (call (.ref f) us) (EP X pins σ Q) X.xe s:=by
 have r2:Vals (vs++dvs) (us++ds):=r.append hd
 have hl:(us++ds).length=ps.length:=by rw [<-r2.length];exact F.len _ _ _ _ _ h
 refine G3n (G2N (F.run X.A X.stack s H ⟨us,[]⟩ (us++ds) (vs++dvs) Q E hr I.env0 (hb s us I.kIn hl) r2 h) λr s' hq=> ?_)
 cases r with
 |error e=>exact hx pins σ H s e s' I hq
 |ok fl=>
  cases fl with
  |ret u=>exact I.after hq
  |next=>exact False.elim hq
  |brk=>exact False.elim hq
  |cont=>exact False.elim hq
end
theorem joE {CX:CXT} {P:Program} {w:World} {K:PySem.W.Frag} {mg:Str->Option Value} {base:Heap} {k:Nat} {f:Addr} {name qual:Str} {params:Arguments} {body:List Stmt} {scope:Scope} {dV kV doc pm cdv ct oc:Value} {an od:Option Addr}
 {osl:Array (Option Value)} {N ps:List Str} {sp:Shared->Sp} (lk:K.lookup f=some ⟨oc,od,.func (PySem.W.fnOf name qual params body scope dV kV doc pm an cdv ct),osl⟩) (hcd:PySem.W.codeIn K cdv qual=true) (S:FnScope N ps scope)
 (len: ∀s vs H Q E,sp s vs H Q E->vs.length=ps.length)
 (hbody: ∀ (A:Around) (outer:List Env) (s:Shared) (H:Hp) (vs:List V) (Q:VK) (E:XK),Room k (A.deeper (envOfC qual scope s.heap.objs.size f cdv))->sp s vs H Q E->
  ∀s1,Inv (jft CX P w K mg base N qual scope f cdv A outer s H E) [] (start N vs) H s1->wpAny (model P w) (A.deeper (envOfC qual scope s.heap.objs.size f cdv)) (execs body (envOfC qual scope s.heap.objs.size f cdv)) (SP (jft CX P w K mg base N qual scope f cdv A outer s H E) [] {nx:=λ_ H' =>Q .non H',rt:=Q}) (jft CX P w K mg base N qual scope f cdv A outer s H E).xe s1):
 FnOkS P w K mg base CX (k+1) f (PySem.W.fnOf name qual params body scope dV kV doc pm an cdv ct) ps sp:=by
 refine⟨len,λA outer s H args us vs Q E hr e0 hb r hsp=> ?_⟩
 have hl:=len _ _ _ _ _ hsp
 have KX:K.In s.heap:=e0.mod.kin.keeps λb o e=>(e0.bs b o e).1
 have lim:s.heap.NoLimit:=e0.mod.nolimit.keeps λb o e=>(e0.bs b o e).1
 have hkind: ∀y∈ps.zip us,scope.names.lookup y.1=some .local\/(scope.names.lookup y.1=some .cell/\((cellsFrom (s.heap.objs.size+1) scope.names []).lookup y.1).isSome=true):=λ⟨n,v⟩ hy=>by
  rcases S.par n (G2x hy).1 with q|q
  ·exact .inl q
  ·exact .inr ⟨q,G2a _ _ _ (.inl q)⟩
 refine G2O hr.depth (KX _ _ lk) rfl S.co S.gen rfl (G3c KX hcd) (hb _ _ _ _ ?_)
 refine G2o S.kind hkind λenv he s1 x=> ?_
 subst he
 refine⟨lim.keeps x.toInCall.keep,codeAny_func ?_⟩
 have ht:=hbody A outer s H vs Q E (hr.deeper _) hsp
 have I:Inv (jft CX P w K mg base N qual scope f cdv A outer s H E) [] (start N vs) H s1:=jf2 S hr.hd e0 hl r x
 refine G0D (ht s1 I) (λfl s' hs=> ?_) λe s' hs=>hs
 have fin: ∀ {σ' :St} {H' :Hp} {v:V} {u:Value},Inv (jft CX P w K mg base N qual scope f cdv A outer s H E) [] σ' H' s' ->RelV v u->Q v H' ->CE outer P w H s Q u s' :=
  λ{σ' H' v u} J rv q=>⟨v,H',J.os,J.bare,J.base,J.hok,rv,q⟩
 cases fl with
 |ret u=>
  obtain⟨v,σ',H',J,rv,q⟩:=hs
  exact fin J rv q
 |next=>
  obtain⟨σ',H',J,q⟩:=hs
  exact fin (v:=V.non) (u:=Value.none) J rfl q
 |brk=>
  obtain⟨_,_,_,q⟩:=hs
  exact False.elim q
 |cont=>
  obtain⟨_,_,_,q⟩:=hs
  exact False.elim q
section
variable {X:Cx} {k:Nat} {f:Addr} {fd:FuncData} {ps:List Str} {spd:RDn} {x:Str} {p pos:Pos} {e:Expr} {es:List Expr} {t:TAD}
theorem joF (F:FnOkU X.prog X.w X.K X.mg X.base CX0 k f fd ps (LSp X.K spd)) (hr:RoomU k X.A) (hg:Gl X x) (hm:X.mg x=some (.ref f)) (hk:PySem.W.keepIn X.K (.ref f)=true) (hb:Binds X.K fd ps [])
 (ha:JA X (e::es) t) (hdb:(x==("__debug__" :Str))=false:=by decide) (he:starEach (e::es) X.env=(false,eval e X.env)::starEach es X.env:=by rfl) (hpl:(backTo pos (starEach es X.env)).any (·.1)=false:=by rfl):
 JE X (.Call (.Name x p) (e::es) [] pos) (dCB spd t):=⟨(jkx F hr hg hm hk hb .nil jlG ha.to hdb he hpl).imp jiO⟩
end
def jjk (P:Program) (w:World) (K:PySem.W.Frag) (mg:Str->Option Value) (base:Heap) (n:Nat) (x:Str) (ps:List Str) (sp:RDn):Prop:=
 ∃ (g:Addr) (gd:FuncData),FnOkU P w K mg base CX0 n g gd ps (LSp K sp)/\Binds K gd ps []/\PySem.W.keepIn K (.ref g)=true/\mg x=some (.ref g)
end L2
namespace L2
open PySem PySem.Spec PyProof.Rows PySem.W PySem.Calls PySem.Builtin PySem.Builtin.ObjectAttr PySem.Builtin.Getset_descriptor
section
variable {prog:Program} {w:World} {A:Around} {E:Value->Shared->Prop} {s:Shared} {K:Frag} {x D:Addr}
structure ExcK (K:Frag) (D:Addr):Prop where
 cls:(clsIn K D).isSome=true
 ga:findIn K (.ref D) "__getattribute__" =some (some (.builtin "BaseException.__getattribute__"))
 hk:findIn K (.ref D) "__getattr__" =some none
 ca:findIn K (.ref D) "__class__" =some (some (.builtin "object.__class__"))
 gt:specialIn K (.builtin "object.__class__") "__get__" =some (some (.builtin "getset_descriptor.__get__"))
 tk:takesIn K (.builtin "object.__class__")=some true
 ob:mroIn K D (.type "object")=some true
 be:mroIn K D (.type "BaseException")=some true
def ExcAt (x D:Addr) (h:Heap):Prop:= ∃o,h.get? x=some o/\o.cls= .ref D
theorem ExcAt.type {M:Model} {h:Heap} (I:ExcAt x D h):Looks M h (typeOf (.ref x)) (.ref D):=let ⟨o,h1,h2⟩:=I;h2 ▸ (Looks.ld h1).andThen .now
theorem jhX {tp:Value} {R:Result->Shared->Prop} (X:K.In s.heap) (I:ExcAt x D s.heap) (ob:mroIn K D (.type "object")=some true)
 (h:R (.ok (.ret (.ref D))) s):codeAny (model prog w) A (.call (.builtin "getset_descriptor.__get__") ⟨[.builtin "object.__class__",.ref x,tp],[]⟩) R s:=by
 obtain⟨hp,g,dr,t,os⟩:=s
 have known:Looks (model prog w) hp (isInstance (.ref x) (.type "object")) true:=I.type.andThen (looks_mroIn X ob)
 have passed:Looks (model prog w) hp (descrCheckInstance (.builtin "object.__class__") (.ref x)) ():=
  Looks.andThen (a:=(("__class__" :Str),Value.type "object")) (Looks.of_pure (congrArg (λp:String×String=>(pure (Str.ofString p.2,Value.type p.1):Sem (Str×Value))) KF.owner_class)) (known.andThen .now)
 have shown:Looks (model prog w) hp (shownTypeOf (.ref x)) (.ref D):=I.type.andThen .now
 have asked:=KF.slot_gs.check (model prog w) A.in1 (λe s' =>R (.error e) s') ⟨hp,g,dr,t,os⟩ (.builtin "object.__class__") [.ref x,tp] []
 refine codeAny_call_builtin KF.slot_gs.plain KF.entry_gs (asked _ KF.type_class (KF.args_gs _ _ _) ?_)
 show wpAny _ _ (descrGetArgs _ >>= _) _ _ _
 rw [dga_obj]
 refine wpAny_bind (G0j (wpAny_bind (passed.at (G0j ⟨Code.quiet_builtin _ (by decide +kernel),codeAny_builtin KF.entry_class ?_⟩))))
 exact wpAny_bind (shown.at (G0j h))
theorem jky {M:Model} {h:Heap} (X:K.In h) (Z:ExcK K D):Looks M h (find (.ref x) (.ref D) "__class__") (.bind (.builtin "getset_descriptor.__get__") (.builtin "object.__class__")):=by
 have L1:=looks_findIn (M:=M) X Z.ca
 have L2:Looks M h (getOf (some (.builtin "object.__class__"))) (some (.builtin "getset_descriptor.__get__")):=looks_specialIn X Z.gt
 have L3:=looks_takesIn (M:=M) X Z.tk
 exact L1.andThen (L2.andThen ((show Looks M h (dataDescriptor? (some (.builtin "object.__class__")) (some (.builtin "getset_descriptor.__get__"))) (some (.builtin "getset_descriptor.__get__",.builtin "object.__class__")) from L3.andThen .now).andThen (Looks.tag .now)))
theorem jmv {M:Model} {h:Heap} (X:K.In h) (I:ExcAt x D h) (Z:ExcK K D) (n:Value):Looks M h (checkBuiltinCall "BaseException.__getattribute__" ⟨[.ref x,n],[]⟩) ():=by
 have known:Looks M h (isInstance (.ref x) (.type "BaseException")) true:=I.type.andThen (looks_mroIn X Z.be)
 have fits:=PySem.F.args_bexc_ga (.ref x) n
 unfold checkBuiltinCall
 rw [show builtinKind "BaseException.__getattribute__" =some .slot by decide +kernel,show splitId "BaseException.__getattribute__" =some ("BaseException","__getattribute__") by decide +kernel]
 exact known.andThen (Looks.of_pure fits)
theorem je7 {tk:Tok} {R:Result->Shared->Prop} (X:K.In s.heap) (I:ExcAt x D s.heap) (Z:ExcK K D) (h:R (.ok (.ret (.ref D))) s):
 codeAny (model prog w) A (.call (.builtin "BaseException.__getattribute__") ⟨[.ref x,.str "__class__" tk],[]⟩) R s:=
 codeAny_call_builtin PySem.F.attr_ValueError.ga.plain PySem.F.entry_bexc_ga (G3r (jmv X I Z _) (wpAny_bind (G0j (wpAny_bind (G0j (wpAny_bind (G3r I.type (wpAny_bind (G3r (jky X Z) (wpAny_bind (G1w (G3n (jhX X I Z.ob (G0j h))))))))))))))
theorem jhY {Q:Option Value->Shared->Prop} (X:K.In s.heap) (I:ExcAt x D s.heap) (Z:ExcK K D) (h:Q (some (.ref D)) {s with toks:=s.toks+1}):wpAny (model prog w) A (getAttr? (.ref x) "__class__") Q E s:=by
 have byReader:=PySem.F.attr_ValueError.ga.bind (.ref x)
 have asked: ∀ {A' :Around} {P:Value->Shared->Prop} {E' :Value->Shared->Prop},P (.ref D) {s with toks:=s.toks+1}->wpAny (model prog w) A' (boundAndCalled (.builtin "BaseException.__getattribute__") (.ref x) (.str "__class__" s.toks)) P E' {s with toks:=s.toks+1}:=λp=>by
  unfold boundAndCalled
  rw [byReader]
  exact wpAny_bind (G0j (G3n (je7 (s:= {s with toks:=s.toks+1}) X I Z p)))
 have own: ∀ {A' :Around} {P:Value->Shared->Prop} {E' :Value->Shared->Prop},P (.ref D) {s with toks:=s.toks+1}->wpAny (model prog w) A' (getAttrByItsOwn (.ref x) (.str "__class__" s.toks) (.ref D) (.builtin "BaseException.__getattribute__") false false) P E' {s with toks:=s.toks+1}:=λp=>
  wpAny_bind (G3r (s:= {s with toks:=s.toks+1}) (looks_findIn X Z.hk) (wpAny_bind (wpAny_attempt (G1w (asked (G0j p))))))
 exact wpAny_bind (wpAny_mkText (wpAny_bind (wpAny_attempt (G1w (wpAny_bind (G3r (s:= {s with toks:=s.toks+1}) I.type (wpAny_bind (G3r (s:= {s with toks:=s.toks+1}) (looks_findIn X Z.ga) (own (G0j h))))))))))
theorem jkz (Z:ExcK K D):KitX K (.ref x) (.ref D) (ExcAt x D):=by
 have isClass: ∀ {h:Heap},K.In h-> ∃o c,h.get? D=some o/\o.data= .cls c:=λX=>by
  obtain⟨c,hc⟩:=G1u.mp Z.cls
  revert hc
  unfold clsIn
  split
  ·rename_i ho;exact λ_=>⟨_,_,X _ _ ho,rfl⟩
  ·exact λz=>nomatch z
 refine⟨λ_ _ _ I=>I.type,λM h X _=> ?_,λh tp dd its n sl X htp=> ?_,λX I k=>jhY X I Z k⟩
 ·obtain⟨o,c,ho,hd⟩:=isClass X
  exact(Looks.ld ho).andThen (Looks.of_pure (by rw [hd]))
 ·obtain⟨o,c,ho,hd⟩:=isClass X
  cases hq:(Value.ref D==Value.ref tp) with
  |false=>rfl
  |true=>
   cases (G2G.mp hq)
   rw [htp] at ho
   cases ho;cases hd
end
end L2
namespace L2
open PySem PySem.Spec PyProof.Rows PySem.SeqAt PySem.W
theorem jkA {X:Cx} (hu:X.A.units+64<cLine):MtM X "list.count" (λx vs H Q=> ∃ (a:Addr) (y:V) (dy:D) (h:HD) (p:PyData) (ps:List PyData),x= .ref a/\vs= [y]/\RelD X.K H dy y/\RelH X.K h H/\ToP h (.lst a) (.list ps)/\ToP h dy p/\p.canLay0=true/\PyData.canLayAll0 ps=true/\p.depth<=60/\Q (.int ((ps.countP λz=>PyData.eqv z p:Nat):Int)) H):=by
 intro pins s σ H x vs v us Q I rx rv h
 obtain⟨a,y,dy,h,p,ps,rfl,rfl,rd,rh,t1,t2,c1,c2,c3,q⟩:=h
 cases rx
 obtain⟨u,rfl,ru⟩:=je2 rv
 obtain⟨a',ds,ea,ha,ts⟩:=(show ∃a' ds,D.lst a= .lst a' /\h a' =some ds/\ToPs h ds ps from t1)
 cases ea
 obtain⟨ws,hH,_⟩:=rh a ds ha
 obtain⟨as,r1⟩:=jba I rh t1 (show RelD X.K H (.lst a) (.ref a) from ⟨rfl,ws,hH⟩) (show RelV (.ref a) (.ref a) from rfl)
 obtain⟨bs,r2⟩:=jba I rh t2 rd ru
 cases r1 with
 |list h1 h2 h3 h4=>
  rename_i o its n cs
  have em:=readsAll_map ps _ _ c2 h4
  have hu' :X.A.units+1+min (PyData.depthAll ps) p.depth<cLine:=by have:=G2q (PyData.depthAll ps) p.depth;omega
  obtain⟨oc,od,odt,osl⟩:=o
  simp only at h2 h3
  subst h2 h3
  refine G3q G3y ⟨_,h1,rfl⟩ PySem.F.entry_list_count (PySem.F.args_list_count_2 _ _) (list_countAt a its n od osl u (λy=>PyData.eqv (readOf s.heap y) p)) ⟨h1,items_eqAt h4 r2 c2 c1 hu',?_⟩
  have e:its.toList.countP (λy=>PyData.eqv (readOf s.heap y) p)=ps.countP λz=>PyData.eqv z p:=by
   rw [<-em,List.countP_map];rfl
  exact⟨.int _,H,I.tok _,⟨_,by rw [e]⟩,q⟩
def jrz (to te:TED):TED:=λσ h Q=>to σ h λx h1=> ∃a,x= .lst a/\te σ h1 λy h2=> ∃ (p:PyData) (ps:List PyData),ToP h2 (.lst a) (.list ps)/\ToP h2 y p/\p.canLay0=true/\PyData.canLayAll0 ps=true/\p.depth<=60/\Q (.int ((ps.countP λz=>PyData.eqv z p:Nat):Int)) h2
section
variable {X:Cx} {o e i:Expr} {to te ti:TED} {apos cpos:Pos}
theorem jrA (hu : X.A.units + 64 < cLine) (ho : JE X o to) (he : JE X e te) (hbase : attributeBase o "count" X.env (eval o X.env) = eval o X.env := by rfl)
    (hfew : ((backTo cpos (starEach [e] X.env)).all (fun x => !x.1) && (backToKw cpos (keywordEach [] X.env)).all (fun x => x.1.isSome) && decide ([e].length + ([] : List Keyword).length + (if ([] : List Keyword).isEmpty then 0 else 1) < 30)) = true := by rfl)
    (hline : (apos.endLine == cpos.line) = true := by rfl) (hs : starEach [e] X.env = (false, eval e X.env) :: starEach [] X.env := by rfl) (hplain : (backTo cpos (starEach [] X.env)).any (·.1) = false := by rfl) :
    JE X (.Call (.Attribute o "count" apos) [e] [] cpos) (jrz to te) :=
  ⟨(jlE G2A G3y PySem.F.type_list_count (jkA hu) ho.to (jbS he.to pa_nil hs) hbase hfew hline hs hplain).imp
    fun σ H Q ⟨σd, h, Qd, rs, rh, t, p⟩ => LE.bind rs rh t fun d v h1 H1 k1 rs1 rh1 r1 ⟨a, e, q⟩ => by
      subst e
      obtain ⟨e1, vs, hH⟩ := (show v = .ref a ∧ ∃ vs, H1 a = some (.lst vs) from r1)
      subst e1
      refine ⟨.inl ⟨rfl, vs, SqL.of hH⟩, ?_⟩
      refine LE.bind rs1 rh1 q fun y u h2 H2 k2 rs2 rh2 r2 ⟨pd, ps, t1, t2, c1, c2, c3, q2⟩ => ?_
      exact ⟨a, u, y, h2, pd, ps, rfl, rfl, r2, rh2, t1, t2, c1, c2, c3, p (.int _) _ _ _ (k1.trans k2) rh2 rfl q2⟩⟩
end
def jqj (K:Frag) (c:Value) (ta:TED):TED:=λσ h Q=>ta σ h λx h1=> ∃C b,x= .exc C/\ExcK K C/\kitOne K (.ref C) c=some b/\Q (.bl b) h1
theorem jfl {X:Cx} {v:V} {c:Value} (rc: ∀u,RelV v u->u=c):CallR X (.builtin "isinstance") (λxs H Q=> ∃x C o b,xs= [.ref x,v]/\H x=some (.frz o (.own 0))/\o.cls= .ref C/\ExcK X.K C/\kitOne X.K (.ref C) c=some b/\Q (.bl b) H):=by
 intro pins s σ H xs us Q I r h
 obtain⟨x,C,o,b,rfl,hx,hc,Z,e,q⟩:=h
 obtain⟨u,w',rfl,rx,rt⟩:=jj4 r
 cases rx
 cases rc _ rt
 exact kia_one (jkz Z) I.kIn ⟨o,(I.hok x _ hx).1,hc⟩ e (λz=>nomatch z) λtk=>⟨.bl b,H,I.tok tk,rfl,q⟩
section
variable {X:Cx} {a:Expr} {ta:TED} {t:Str} {p p2 pos:Pos}
theorem jjl {v:V} {c:Value}: ∀σ H Q,LE X.K (jqj X.K c ta) σ H Q->tCB (λxs H Q=> ∃x C o b,xs= [.ref x,v]/\H x=some (.frz o (.own 0))/\o.cls= .ref C/\ExcK X.K C/\kitOne X.K (.ref C) c=some b/\Q (.bl b) H) (jj5 (LE X.K ta) (jj5 (tC v) jpB)) σ H Q:=
 λσ H Q ⟨σd,h,Qd,rs,rh,t,p⟩=>LE.bind rs rh t λd u h1 H1 k1 rs1 rh1 r1 ⟨C,b,e,Z,k,q⟩=>by
  subst e
  obtain⟨x,o,vs,e1,hx,hc,_⟩:=(show ∃x o vs,u= .ref x/\H1 x=some (.frz o (.own 0))/\o.cls= .ref C/\o.data= .fields vs from r1)
  subst e1
  exact⟨x,C,o,b,rfl,hx,hc,Z,k,p (.bl b) _ _ _ k1 rh1 rfl q⟩
theorem jhZ {KK:Frag} {D:Addr} (hg:Gl X "isinstance") (hm:X.mg "isinstance" =none) (hg2:Gl X t) (hm2:X.mg t=some (.ref D)) (ha:JE X a ta) (hd:(t==("__debug__" :Str))=false:=by decide)
 (h1:starEach [a,.Name t p2] X.env=(false,eval a X.env)::starEach [.Name t p2] X.env:=by rfl) (h2:(backTo pos (starEach [.Name t p2] X.env)).any (·.1)=false:=by rfl) (hK:X.K=KK:=by rfl):
 JE X (.Call (.Name "isinstance" p) [a,.Name t p2] [] pos) (jqj KK (.ref D) ta):=
 hK ▸ ⟨(jec (jfl (v:= .ref D) λu r=>r) hg hm G2e (jbS ha.to (jbS (jik (v:= .ref D) hg2 hm2 rfl hd) pa_nil (by rfl)) h1) (by decide) (by decide) h1 h2).imp jjl⟩
theorem jrB {KK:Frag} {T:String} (hg:Gl X "isinstance") (hm:X.mg "isinstance" =none) (hg2:Gl X t) (hm2:X.mg t=none) (hv:bootBuiltins t=some (.type T)) (ha:JE X a ta) (hn:t≠ "__name__" :=by decide) (hd:(t==("__debug__" :Str))=false:=by decide)
 (h1:starEach [a,.Name t p2] X.env=(false,eval a X.env)::starEach [.Name t p2] X.env:=by rfl) (h2:(backTo pos (starEach [.Name t p2] X.env)).any (·.1)=false:=by rfl) (hK:X.K=KK:=by rfl):
 JE X (.Call (.Name "isinstance" p) [a,.Name t p2] [] pos) (jqj KK (.type T) ta):=
 hK ▸ ⟨(jec (jfl (v:= .ty T) λu r=>r) hg hm G2e (jbS ha.to (jbS (jil (v:= .ty T) hg2 hm2 hv rfl hn hd) pa_nil (by rfl)) h1) (by decide) (by decide) h1 h2).imp jjl⟩
end
end L2
namespace L2
open PySem PySem.Spec PyProof.Rows PySem.W
section
variable {X:Cx} {σ:St} {H:Hp} {s:Shared} {x C:Addr}
theorem Inv.relaid {B h' :Heap} {T:Addr} {a0:Value} (I:Inv X [] σ H s) (Z:Rz0 X) (hpn:X.pn= []) (hx:H x=none/\X.s₀.heap.get? x=none) (hT:H T=none/\X.s₀.heap.get? T=none)
 (hB:B=hideAll s.heap (x::T::frs (X.env::X.outer))) (fl:Heap.FlyingW B (X.env::X.outer) x (.ref C) a0 h') (up:s.heap.UpToSlots h'):Inv X [] σ H {s with heap:=h'}/\Fly X.s₀.heap H h' x C:=by
 subst hB
 have stk:s.heap.FunFrames X.base (X.env::X.outer):=Z.stk ▸ I.stack
 obtain⟨st,_,_,oe',vs',T',oT',ts',he',⟨hc',h0'⟩,hd',h1',hTB,hTx',hT',hTd',h3'⟩:=fl
 obtain⟨r1,r2,r3⟩:=jjg (ys:= [x,T]) (h' :=h') I Z (λy hy=>by
  rcases G0r.mp hy with rfl|hy
  ·exact hx
  ·rcases G0r.mp hy with rfl|hy
   ·exact hT
   ·cases hy) (λb o e n1 n2=>st b o (hideAll_get _ e λz=>by
    rcases G0r.mp z with rfl|z
    ·exact n1 (.head _)
    ·rcases G0r.mp z with rfl|z
     ·exact n1 (.tail _ (.head _))
     ·exact n2 z)) λb o e hb=>by
  obtain⟨_,o2,e2,nd⟩:=stk.mem hb
  rw [e] at e2;cases e2
  exact up b o e nd
 obtain⟨q1,q2⟩:=r3 T' oT' ts' hT' hTd' λo e=>by
  by_cases z:T' ∈frs (X.env::X.outer)
  ·exact .inr z
  ·refine .inl ?_
   by_cases z1:T' =x
   ·rw [z1];exact .head _
   ·by_cases z2:T' =T
    ·rw [z2];exact .tail _ (.head _)
    ·rw [hideAll_get _ e (by simp only [G0r,not_or];exact⟨z1,z2,z⟩)] at hTB;cases hTB
 have cellK: ∀c v,s.heap.IsCell c v->h'.IsCell c v:=λc v ⟨o,ho,hd⟩=>by
  obtain⟨sl,e⟩:=up c o ho λws q=>by rw [hd] at q;cases q
  exact⟨_,e,hd⟩
 refine⟨⟨I.ok,I.os,I.bare,by rw [Z.ex];exact r1,?_,λy c e=> ?_,I.free,I.freeC,λp hp=> ?_,r2,I.len⟩,⟨⟨oe',vs',a0,T',oT',ts',he',hc',hd',h0',h1',hTx',hT',hTd',h3',q1,q2⟩,hx.1,hx.2⟩⟩
 ·obtain⟨m,hn,hl⟩:=I.loc
  refine⟨m,up.ns hn,λi y v e1 e2 e3=> ?_⟩
  obtain⟨u,r,l⟩:=hl i y v e1 e2 e3
  exact⟨u,r,l.imp id λ⟨k,c,e,z⟩=>⟨k,c,e,cellK c _ z⟩⟩
 ·obtain⟨v,z⟩:=I.cell y c e
  exact⟨v,cellK c v z⟩
 ·rw [hpn] at hp;cases hp
theorem Inv.track {oe:Obj} {vs:Array Value} (I:Inv X [] σ H s) (hpn:X.pn= []) (hn:H x=none) (h0:X.s₀.heap.get? x=none) (hx:s.heap.get? x=some oe) (hd:oe.data= .fields vs):Inv X [] σ (upd H x (.frz oe (.own 0))) s:=by
 have ne: ∀b u,H b=some u->b≠x:=λb u e z=>by rw [z,hn] at e;cases e
 have ne0: ∀b o,X.s₀.heap.get? b=some o->b≠x:=λb o e z=>by rw [z,h0] at e;cases e
 have cn: ∀y c,X.env.cells.lookup y=some c->c≠x:=λy c e z=>by
  obtain⟨v,o,ho,hc⟩:=I.cell y c e
  rw [z,hx] at ho;cases ho;rw [hd] at hc;cases hc
 refine⟨I.ok,I.os,I.bare,⟨I.base.keep,I.base.slot,λb o e n hx=> ?_,I.base.there,λb xs e=> ?_,λb o u e=> ?_,λb ps e=> ?_⟩,I.loc,I.cell,?_,λy c e=> ?_,λp hp=> ?_,λa o e=> ?_,I.len⟩
 ·rw [jak (ne0 b o e)];exact I.base.free b o e n hx
 ·have:=I.base.tups b xs e;rw [jak (ne b _ this)];exact this
 ·have:=I.base.frzs b o u e;rw [jak (ne b _ this)];exact this
 ·obtain⟨more,this⟩:=I.base.tbls b ps e;exact⟨more,by rw [jak (ne b _ this)];exact this⟩
 ·rw [jak (λz=> ?_)]
  ·exact I.free
  ·obtain⟨m,⟨o,es,ep,e,d,_⟩,_⟩:=I.loc
   rw [z,hx] at e;cases e;rw [hd] at d;cases d
 ·rw [jak (cn y c e)];exact I.freeC y c e
 ·rw [hpn] at hp;cases hp
 ·by_cases z:a=x
  ·subst z;rw [jaj] at e;cases e
   exact⟨hx,⟨oe,hx⟩⟩
  ·rw [jak z] at e
   exact(I.hok a o e).stay (λ_ _ _ q=>q) (λb q=>by rw [jak (ne b _ q)];exact q) λb xs q=>by rw [jak (ne b _ q)];exact q
theorem jjm {M:Model} {A:Around} {E:Value->Shared->Prop} {i:Nat} {y:Str} {v:V} {Q:Unit->Shared->Prop} (I:Inv X [] σ H s) (hpn:X.pn= []) (hN:X.N.Nodup) (hi:X.N[i]? =some y) (hk:X.env.scope.names.lookup y=some .local) (hv:σ[i]? =some (some v))
 (h: ∀s',Inv X [] (σ.set i none) H s' ->Q () s'):wpAny M A (unbindName X.env y) Q E s:=by
 obtain⟨m,hn,hl⟩:=id I.loc
 have hcls:(X.env.scope.kind== .class||(X.env.scope.kind== .module&&X.env.locals !=X.env.globals))=false:=by rw [I.ok.kind];rfl
 have hiσ:i<σ.length:=by rw [I.len];exact(G0o.mp hi).1
 obtain⟨u,r,l⟩:=hl i y v hi hv (.inl hk)
 have hm:m y=some u:=by
  rcases l with ⟨_,e⟩|⟨k,_⟩
  ·exact e
  ·rcases k with k|k<;>(have k' :X.env.scope.names.lookup y=_:=k;rw [hk] at k';cases k')
 refine wpAny_unbindName_local hk hn hm hcls λh' u' hn' hs=> ?_
 obtain⟨oL,_,_,hoL,_⟩:=id hn
 have cne:=I.cne
 refine h _ ⟨I.ok,I.os,I.bare,⟨λb o e n hb hx=> ?_,λb o e n hb hx=> ?_,I.base.free,λb o e hx=> ?_,I.base.tups,I.base.frzs,I.base.tbls⟩,⟨_,hn',λj z v' e1 e2 e3=> ?_⟩,λz c e=> ?_,I.free,I.freeC,λp hp=> ?_,λb ob e=> ?_,by simpa using I.len⟩
 ·exact(hs.2 b (G0Q (G0B (G0A e) I.ok.above))).trans (I.base.keep b o e n hb hx)
 ·obtain⟨sl,e1⟩:=I.base.slot b o e n hb hx
  exact⟨sl,(hs.2 b (G0Q (G0B (G0A e) I.ok.above))).trans e1⟩
 ·obtain⟨o',e1⟩:=I.base.there b o e hx
  exact⟨o',(hs.2 b (G0Q (G0B (G0A e) I.ok.above))).trans e1⟩
 ·by_cases hj:j=i
  ·subst hj
   rw [G1Q hiσ] at e2
   cases e2
  ·rw [G1k (Ne.symm hj)] at e2
   obtain⟨u2,r',q⟩:=hl j z v' e1 e2 e3
   refine⟨u2,r',?_⟩
   rcases q with ⟨k,e⟩|⟨k,c,e,q⟩
   ·refine .inl ⟨k,?_⟩
    have:z≠y:=λe=>hj (jfs hN e1 (e ▸ hi))
    simp [this,e]
   ·exact .inr ⟨k,c,e,q.sameBut hs (cne z c e)⟩
 ·obtain⟨w',q⟩:=I.cell z c e
  exact⟨w',q.sameBut hs (cne z c e)⟩
 ·rw [hpn] at hp;cases hp
 ·refine(I.hok b ob e).stay (λc w' hc q=>(hs.2 c ?_).trans q) (λ_ q=>q) λ_ _ q=>q
  rintro rfl
  rcases hc with rfl|hc
  ·rw [I.free] at e;cases e
  ·rw [I.free] at hc;cases hc
end
def cxH (X:Cx) (x:Addr):Cx:= {X with A:=X.A.mark (some (.ref x)),calm:=false,xe:=λ_ _=>False}
section
variable {X:Cx} {pins:List (Addr×Obj)} {σ:St} {H:Hp} {s:Shared} {x C:Addr}
theorem Inv.suite (I:Inv X pins σ H s) (x:Addr):Inv (cxH X x) pins σ H s:=
 ⟨⟨I.ok.mod,I.ok.kind,I.ok.glob,I.ok.blt,I.ok.above,I.ok.inj,I.ok.has,I.ok.cab,λz=>(by cases z),I.ok.frames,I.ok.stk,I.ok.exf,I.ok.bs,I.ok.bsz,I.ok.noex,I.ok.exfs,I.ok.funs,I.ok.frf⟩,I.os,I.bare,I.base,I.loc,I.cell,I.free,I.freeC,I.pin,I.hok,I.len⟩
theorem Inv.unsuite (I:Inv (cxH X x) pins σ H s) (ok:X.Ok):Inv X pins σ H s:=⟨ok,I.os,I.bare,I.base,I.loc,I.cell,I.free,I.freeC,I.pin,I.hok,I.len⟩
theorem jkB {E:Value->Shared->Prop} {n:Str} {i:Nat} {PE:Addr} {b0:Stmt} {suite:List Stmt} {t:TS} {D:Ends} {np pos:Pos} (Z:Rz0 X) (hpn:X.pn= []) (hN:X.N.Nodup) (hi:X.N[i]? =some n) (hl:X.env.scope.names.lookup n=some .local)
 (hg:Gl X "PowerError") (hm:X.mg "PowerError" =some (.ref PE)) (hex:exmOne X.K (.ref C) (.ref PE)=some true) (I:Inv X [] σ H s) (fl:Fly X.s₀.heap H s.heap x C) (hs:PSs (cxH X x) (b0::suite) t)
 (ht: ∀oe vs,oe.cls= .ref C->oe.data= .fields vs->t {nx:=λ_ _=>False,rt:=D.rt} (σ.set i (some (.ref x))) (upd H x (.frz oe (.own 0)))):
 wpAny (model X.prog X.w) X.A (noteFrame (.ref x) X.env) (λ_ s₂=>wpAny (model X.prog X.w) X.A (setFlight (.ref x) none) (λ_ s₃=>wpAny (model X.prog X.w) X.A (handleBy (.ref x) X.env [.ExceptHandler (some (.Name "PowerError" np)) (some n) (b0::suite) pos]) (SP X [] D) E s₃) E s₂) E s:=by
 obtain⟨oe0,vs0,a0,T,oT,ts,he,hc,hd,h0,h1,hTx,hT,hTd,h3,hHT,h0T⟩:=fl.ex
 have hfr:X.A.frames=some (X.env::X.outer):=by rw [I.ok.frames,Z.stk]
 have stk:s.heap.FunFrames X.base (X.env::X.outer):=Z.stk ▸ I.stack
 have ff:s.heap.FunFrames (hideAll s.heap (x::T::frs (X.env::X.outer))) (X.env::X.outer):=ja7 stk λa ha=>hideAll_none _ (.tail _ (.tail _ ha))
 refine wpAny_looks_onW (base:=hideAll s.heap (x::T::frs (X.env::X.outer))) (cls:= .ref C) (a0:=a0) hfr Z.fr
  ⟨λb o e=>of_hideAll _ e,hideAll_none _ (.head _),ff,oe0,vs0,T,oT,ts,he,⟨hc,h0⟩,hd,h1,hideAll_none _ (.tail _ (.head _)),hTx,hT,hTd,h3⟩ λh₄ hheld₄ hup₄=> ?_
 refine wpAny_landsW hheld₄ λh₅ hfl₅ hup₅=> ?_
 obtain⟨I5,F5⟩:=I.relaid Z hpn ⟨fl.nx,fl.n0⟩ ⟨hHT,h0T⟩ rfl hfl₅ (hup₄.trans hup₅)
 refine wpAny_handleBy_cons (codeAny_handlers_test (jdI (X:=cxH X x) (I5.suite x) hg hm ?_)) (by intro q;cases q)
 have at5:ExcAt x C h₅:=let ⟨oe,_,_,_,_,_,e,c,_⟩:=F5.ex;⟨oe,e,c⟩
 refine(exm_one (M:=model X.prog X.w) (h:=h₅) I5.kIn at5.type hex).here ?_
 refine codeAny_handlers_suite_as ?_
 refine lands_againW hfl₅ λh₆ hfl₆ hup₆=> ?_
 obtain⟨I6,F6⟩:=I.relaid Z hpn ⟨fl.nx,fl.n0⟩ ⟨hHT,h0T⟩ rfl hfl₆ (hup₄.trans (hup₅.trans hup₆))
 obtain⟨oe,vs,_,_,_,_,e6,c6,d6,_⟩:=F6.ex
 have I7:=I6.track hpn F6.nx F6.n0 e6 d6
 refine jb5 I7 hN hi (.inl hl) (v:= .ref x) rfl (λs8 I8=> ?_) (.inr hl)
 refine G0D (hs [] s8 _ _ _ (I8.suite x) (ht oe vs c6 d6)) (λf s9 q=> ?_) λ_ _ z=>z.elim
 cases f with
 |next=>obtain⟨_,_,_,z⟩:=q;exact z.elim
 |brk=>obtain⟨_,_,_,z⟩:=q;exact z.elim
 |cont=>obtain⟨_,_,_,z⟩:=q;exact z.elim
 |ret u=>
  obtain⟨v,σ',H3,J,rv,qq⟩:=q
  have J1:Inv X [] σ' H3 s9:=J.unsuite I.ok
  refine wpAny_bind (wpAny_bindName (jb5 J1 hN hi (.inl hl) (v:= .non) rfl (λs10 J2=> ?_) (.inr hl)))
  unfold unbindBehindTheSuite
  have hlt:i<σ'.length:=by rw [J1.len];exact(G0o.mp hi).1
  exact wpAny_onRaise (jjm J2 hpn hN hi hl (v:= .non) (by rw [G1Q hlt]) λs11 J3=>⟨v,_,H3,J3,rv,qq⟩)
end
def CW:List (Str×Str):= [("NoTable","table"),("NoPlace","place"),("NoNumber","number"),("NoOrder","order"),("NoSet","set"),("NoWalk","walk"),("NoLengths","lengths"),("NoWay","way"),("Apart","apart"),("NoRow","row")]
def CN:List Str:= ["NoTable","NoPlace","NoNumber","NoOrder","NoSet","NoWalk","NoLengths","NoWay","Apart","NoRow"]
def jdu (c:Str):Str:=(CW.lookup c).getD "other"
def jhl (P:Program) (w:World) (K:PySem.W.Frag) (mg:Str->Option Value) (base:Heap) (n:Nat):Shared->Sp:=λs vs H Q _=>
 ∃ (f:Addr) (o:Obj) (qual:Str) (pm cv ctv:Value) (cl:List (Str×Addr)) (q:Str) (N:List Str) (σ:St) (scope:Scope) (body:Expr) (h:HD) (Qd:KD),vs= [.ref f]/\s.heap.get? f=some o/\o.data= .func (kla_fn "<lambda>" qual je6 body scope cl pm cv ctv)/\CodeF H cv q/\H f=none/\LamOk scope/\Cap N σ scope cl s.heap H/\RelH K h H/\jk2 K H Qd Q/\
 ((∃QT:VK,(∀ (A' :Around) (outer' :List Env) (s' :Shared) (E' :XK),Room n (A'.deeper (envX q scope s'.heap.objs.size f cv cl))-> ∃t,PE (cxL CX0 P w K mg base N q scope f cv cl A' outer' s' H E') body t/\t σ H QT)/\
  ∀v H',QT v H' -> ∃d h',Kept H H' /\RelH K h' H' /\RelD K H' d v/\Qd (.tup [.str "told",d]) h')\/
  (∃RT:Addr->Hp->Prop,(∀ (A' :Around) (outer' :List Env) (s' :Shared),Room n (A'.deeper (envX q scope s'.heap.objs.size f cv cl))-> ∀pins s2,Inv (cxL (CXR P w) P w K mg base N q scope f cv cl A' outer' s' H (λc _ H' => ∃C,c= .ref C/\RT C H')) pins σ H s2->
   wpAny (model P w) (A'.deeper (envX q scope s'.heap.objs.size f cv cl)) (eval body (envX q scope s'.heap.objs.size f cv cl)) (λ_ _=>False) (cxL (CXR P w) P w K mg base N q scope f cv cl A' outer' s' H (λc _ H' => ∃C,c= .ref C/\RT C H')).xe s2)/\
   ∀C H',RT C H' -> ∃c h',mg c=some (.ref C)/\c∈CN/\Kept H H' /\RelH K h' H' /\Qd (.tup [.str (jdu c)]) h'))
abbrev N1:List Str:= ["_law_call","_law_found","_law_e","_law_word"]
theorem RoomU.mark {k:Nat} {A:Around} {v:Option Value} (r:RoomU k A):RoomU k (A.mark v):=⟨r.dp,r.un,r.gd⟩
theorem jjn {M:Model} {f:Addr} (h:Heap) (X: ∃o fd,h.get? f=some o/\o.data= .func fd): ∃k,(k=Keeper.frame\/k=Keeper.machine\/k=Keeper.boundFrame)/\Looks M h (keeperOf (.ref f)) k:=by
 obtain⟨o,fd,e,d⟩:=X
 refine⟨.frame,.inl rfl,(Looks.ld (part:=none) e).andThen ?_⟩
 rw [d]
 exact .now
theorem jmw {P:Program} {w:World} {K:PySem.W.Frag} {mg:Str->Option Value} {base:Heap} {st:Stmt} {fs:Addr} {fds:FuncData} {n:Nat} {pe:Addr} {p1 p2 p3 p4 p5 p6 p7 p8 p9 p10 p11:Pos} {j k:Nat} {b0:Stmt} {suite:List Stmt}
 (F:Fun K "_law_said" "_law_said" st fs fds) (S:FnScope N1 ["_law_call"] (jae st))
 (hb:jaV st= [.Try [.Assign [.Name "_law_found" p1] (.Call (.Name "_law_call" p2) [] [] p3) p4] [.ExceptHandler (some (.Name "PowerError" p5)) (some "_law_e") (b0::suite) p6] [] [] p7,.Return (some (.Tuple [.Constant (.str "told") j p8,.Name "_law_found" p9] k p10)) p11])
 (l0:(jae st).names.lookup ("_law_call" :Str)=some .local) (l1:(jae st).names.lookup ("_law_found" :Str)=some .local) (l2:(jae st).names.lookup ("_law_e" :Str)=some .local) (lp:(jae st).names.lookup ("PowerError" :Str)=some .globalImplicit)
 (hm:mg "PowerError" =some (.ref pe)) (hex: ∀c∈CN,∀C,mg c=some (.ref C)->exmOne K (.ref C) (.ref pe)=some true) (tS:TSD)
 (hsuite: ∀ (cdv:Value) (A:Around) (outer:List Env) (s:Shared) (H:Hp) (E:XK) (x:Addr),RoomU n ((A.deeper (envOfC "_law_said" (jae st) s.heap.objs.size fs cdv)).mark (some (.ref x)))->JSs (cxH (jft CX0 P w K mg base N1 "_law_said" (jae st) fs cdv A outer s H E) x) (b0::suite) tS)
 (hread: ∀c∈CN,∀ (C:Addr) (h:HD) (Qd:KD),mg c=some (.ref C)->Qd (.tup [.str (jdu c)]) h->tS {nx:=λ_ _=>False,rt:=λd h' => ∃h2,Sub h2 h' /\Qd d h2} [none,none,some (.exc C),none] h):
 FnOkS P w K mg base CX0 (n+2) fs fds ["_law_call"] (jhl P w K mg base n):=by
 obtain⟨oc,od,kV,doc,pm,an,cdv,ct,osl,rfl,lk,hcd⟩:=F.ex
 refine joE lk hcd S (λs vs H Q E h=> ?_) λA outer s H vs Q E hr hsp s1 I=> ?_
 ·obtain⟨f,_,_,_,_,_,_,_,_,_,_,_,_,_,rfl,_⟩:=h;rfl
 obtain⟨f,o,qual,pmv,cv,ctv,cl,q,N,σ,scope,body,h,Qd,rfl,ho,hod,hcf,hHf,L,C,rh,post,alt⟩:=hsp
 have un:=I.base
 obtain⟨sl,ho1⟩:=un.any ho hHf (by intro z;cases z)
 have C1:Cap N σ scope cl s1.heap H:=C.step un
 have hr0:Room (n+1) (A.deeper (envOfC "_law_said" (jae st) s.heap.objs.size fs cdv)):=hr
 rw [hb]
 have callee: ∀ {CX:CXT} {E' :XK} {QT:VK} {t:TE} {Q2:Value->Shared->Prop} {EE:Value->Shared->Prop},PE (cxL CX P w K mg base N q scope f cv cl (A.deeper (envOfC "_law_said" (jae st) s.heap.objs.size fs cdv)) (envOfC "_law_said" (jae st) s.heap.objs.size fs cdv::outer) s1 H E') body t->t σ H QT->
  (∀r s2,CR CX (envOfC "_law_said" (jae st) s.heap.objs.size fs cdv::outer) P w H s1 QT E' r s2->match r with| .ok (.ret v)=>Q2 v s2| .ok _=>False| .error e=>EE e s2)->
  wpAny (model P w) (A.deeper (envOfC "_law_said" (jae st) s.heap.objs.size fs cdv)) (eval (.Call (.Name "_law_call" p2) [] [] p3) (envOfC "_law_said" (jae st) s.heap.objs.size fs cdv)) Q2 EE s1:=by
  intro CX E' QT t Q2 EE hbt ht hk
  refine G1C ?_
  obtain⟨m,hn,hl⟩:=I.loc
  obtain⟨u,ru,l⟩:=hl 0 "_law_call" (.ref f) rfl rfl (.inl l0)
  cases ru
  have hmm:m "_law_call" =some (.ref f):=by
   rcases l with ⟨_,e⟩|⟨kk,_⟩
   ·exact e
   ·rcases kk with kk|kk<;>(have k' :(jae st).names.lookup ("_law_call" :Str)=_:=kk;rw [l0] at k';cases k')
  refine wpAny_Name (wpAny_loadName_local S.kind l0 hn hmm ?_) (by decide)
  refine callWith_of (P:=λh=> ∃o fd,h.get? f=some o/\o.data= .func fd) rfl jjn (evalArgs_nil3 ⟨⟨_,_,ho1,hod⟩,?_⟩)
  exact G3n (G2N (jmq (CX:=CX) (k:=n) L hr0 I.env0 C1 ho1 hod hcf hbt ht) hk)
 refine G1f (wpAny_Try_except ?_)
 refine G1f (G3j ?_ rfl)
 rcases alt with ⟨QT,hT,hQ⟩|⟨RT,hR,hQ⟩
 ·obtain⟨t,hbt,ht⟩:=hT (A.deeper (envOfC "_law_said" (jae st) s.heap.objs.size fs cdv)) (envOfC "_law_said" (jae st) s.heap.objs.size fs cdv::outer) s1 E0 (hr0.deeper _)
  refine callee hbt ht λr s2 hq=> ?_
  cases r with
  |error e=>exact False.elim hq
  |ok fl=>
   cases fl with
   |next=>exact False.elim hq
   |brk=>exact False.elim hq
   |cont=>exact False.elim hq
   |ret u=>
    obtain⟨v,H',I2,rv,qt⟩:=I.after hq
    obtain⟨d,h',kp,rh',rd,qd⟩:=hQ v H' qt
    refine jb5 I2 (i:=1) (x:= "_law_found") S.nd rfl (.inl l1) rv (λs3 I3=> ?_) (.inr l1)
    refine G2g (G2g ?_)
    have hret:JSs (jft CX0 P w K mg base N1 "_law_said" (jae st) fs cdv A outer s H E) [.Return (some (.Tuple [.Constant (.str "told") j p8,.Name "_law_found" p9] k p10)) p11] (jcq (jcC (jaK (dC (.str "told")) (jaK (jcB 1) jb8)))):=
     jai (jbM (jbr (jac jdH (jac (jv 1 rfl (.inl l1)) jab))))
    exact hret.to [] s3 _ H' _ I3 ⟨[none,some d,none,none],h',{nx:=λ_ _=>False,rt:=Qd},⟨rfl,λi d' e=>by
     match i,e with
     |0,e=>cases e
     |1,e=>cases e;exact⟨v,rfl,rd⟩
     |2,e=>cases e
     |3,e=>cases e
     |i+4,e=>simp at e⟩,rh',⟨_,rfl,(by show 2<=sizeLine;decide),qd⟩,λ_ _ _ _ _ _ _ z=>z.elim,jaF post kp,λ_ _ _ _ _ _ _ z=>z.elim,λ_ _ _ _ _ _ _ z=>z.elim⟩
 ·refine callee (CX:=CXR P w) (E' :=λc _ H' => ∃C,c= .ref C/\RT C H') (QT:=λ_ _=>False) (t:=λσ' H' _=>σ' =σ/\H' =H)
   (λpins s2 σ' H' Q' I' ⟨e1,e2⟩=> ?_) ⟨rfl,rfl⟩ λr s2 hq=> ?_
  ·subst e1;subst e2
   exact G0D (hR _ _ s1 (hr0.deeper _) pins s2 I') (λ_ _ z=>z.elim) λ_ _ z=>z
  cases r with
  |ok fl=>
   cases fl with
   |next=>exact False.elim hq
   |brk=>exact False.elim hq
   |cont=>exact False.elim hq
   |ret u=>obtain⟨_,_,_,_,_,_,_,z⟩:=hq;exact z.elim
  |error e=>
   obtain⟨x,C',H',rfl,os,bare,un2,hok,fl,C2,eC,rt⟩:=hq
   cases eC
   obtain⟨c,h',hmc,hcn,kp,rh',qd⟩:=hQ C' H' rt
   have I2:=I.call' (ch:= []) os un2 hok bare (λb z=>absurd z (by simp))
   have f0: ∀b,s1.heap.get? b=none->s.heap.get? b=none:=λb nb=>by
    cases qq:s.heap.get? b with
    |none=>rfl
    |some o=>obtain⟨o',e⟩:=I.base.there b o qq (by intro z;cases z);rw [nb] at e;cases e
   have fl' :Fly s.heap H' s2.heap x C' :=by
    obtain⟨⟨oe,vs,a0,T,oT,ts,a1,a2,a3,a4,a5,a6,a7,a8,a9,a10,a11⟩,nx,n0⟩:=fl
    exact⟨⟨oe,vs,a0,T,oT,ts,a1,a2,a3,a4,a5,a6,a7,a8,a9,a10,f0 _ a11⟩,nx,f0 _ n0⟩
   have hsu:=hsuite cdv A outer s H E x (RoomU.mark ((hr0.mono (Nat.le_succ n)).u))
   refine G0D (jkB (X:=jft CX0 P w K mg base N1 "_law_said" (jae st) fs cdv A outer s H E) (σ:=start N1 [V.ref f]) (i:=2) (n:= "_law_e") (C:=C') (t:=LS K tS) (D:= {nx:=λ_ _=>False,rt:=Q}) ⟨rfl,rfl,rfl⟩ rfl S.nd rfl l2 lp hm (hex c hcn C' hmc) I2 fl' hsu.to λoe vs hc hd=> ?_) (λ_ s3 h3=>G0D h3 (λ_ s4 h4=>G0D h4 (λfl s5 h5=> ?_) λ_ _ z=>z) λ_ _ z=>z) λ_ _ z=>z
   ·refine⟨[none,none,some (.exc C'),none],h',_,⟨rfl,λi d' e=> ?_⟩,rh'.new fl'.nx,hread c hcn C' h' Qd hmc qd,λ_ _ _ _ _ _ _ z=>z.elim,λd v h2 H2 k2 rh2 rd ⟨h3,sb,q3⟩=>post d v h3 H2 ((kp.trans (.new fl'.nx)).trans k2) (rh2.sub sb) rd q3,λ_ _ _ _ _ _ _ z=>z.elim,λ_ _ _ _ _ _ _ z=>z.elim⟩
    match i,e with
    |0,e=>cases e
    |1,e=>cases e
    |3,e=>cases e
    |i+4,e=>simp at e
    |2,e=>cases e;exact⟨.ref x,rfl,x,oe,vs,rfl,jaj,hc,hd⟩
   ·cases fl with
    |next=>obtain⟨_,_,_,z⟩:=h5;exact z.elim
    |brk=>obtain⟨_,_,_,z⟩:=h5;exact z.elim
    |cont=>obtain⟨_,_,_,z⟩:=h5;exact z.elim
    |ret u=>exact h5
def jqk (tT:TED) (tR:TXD):TED:=λσ h Q=>tT σ h (λd h' =>Q (.tup [.str "told",d]) h')\/tR σ h (λc h' =>c∈CN/\Q (.tup [.str (jdu c)]) h')
def jqS (sc:Scope):Bool:=sc.kind== .function&& !sc.isCoroutine&& !sc.isGenerator&&sc.names.all λy=>y.2 != .cell&&y.2 != .local
theorem jgg {sc:Scope} (hk:sc.kind= .function) (h:jqS sc=true):LamOk sc:=by
 unfold jqS at h
 simp only [G0T,Bool.not_eq_true',G0Y,bne_iff_ne,ne_eq] at h
 exact⟨hk,h.1.1.2,h.1.2,λy hy=>h.2 y hy⟩
def jh0 (sc sc' :Scope):Bool:=sc.names.all λy=>y.2 != .free||(sc'.names.lookup y.1==some .cell||sc'.names.lookup y.1==some .free)
theorem jeH {sc:Scope} {env:Env} (h:jh0 sc env.scope=true):jji sc env:=λn hn=>by
 have:=G0Y.mp h _ hn
 simp only [bne_self_eq_false,Bool.false_or,G14,G2G] at this
 exact this
theorem jjo {X:Cx} {n:Nat} {fs:Addr} {fds:FuncData} {scope:Scope} {body:Expr} {lpos p pos:Pos} {tT:TED} {tR:TXD} {c P:Addr}
 (F:FnOkS X.prog X.w X.K X.mg X.base CX0 (n+2) fs fds ["_law_call"] (jhl X.prog X.w X.K X.mg X.base n)) (hr:Room (n+2) X.A) (hg:Gl X "_law_said") (hm:X.mg "_law_said" =some (.ref fs)) (hk:keepIn X.K (.ref fs)=true) (hb:Binds X.K fds ["_law_call"] [])
 (B:Bm X.mg X.base) (hcode:X.env.code= .ref c) (hc:codeHdIn X.K c P=true) (hTK:TabK X.K P) (L:LamOk scope) (hfr:jji scope X.env)
 (hT: ∀ (q:Str) (cv:Value) (cl:List (Str×Addr)) (f:Addr) (A:Around) (outer:List Env) (s:Shared) (H:Hp) (E:XK),Room n (A.deeper (envX q scope s.heap.objs.size f cv cl))->JE (cxL CX0 X.prog X.w X.K X.mg X.base X.N q scope f cv cl A outer s H E) body tT)
 (hR: ∀ (q:Str) (cv:Value) (cl:List (Str×Addr)) (f:Addr) (A:Around) (outer:List Env) (s:Shared) (H:Hp) (E:XK),Room n (A.deeper (envX q scope s.heap.objs.size f cv cl))->JXE (cxL (CXR X.prog X.w) X.prog X.w X.K X.mg X.base X.N q scope f cv cl A outer s H E) body tR)
 (he:starEach [Expr.Lambda je6 body scope lpos] X.env=(false,eval (.Lambda je6 body scope lpos) X.env)::starEach [] X.env:=by rfl) (hpl:(backTo pos (starEach [] X.env)).any (·.1)=false:=by rfl):
 JE X (.Call (.Name "_law_said" p) [.Lambda je6 body scope lpos] [] pos) (jqk tT tR):=⟨λpins s σ H Q I ⟨σd,h,Qd,rs,rh,alt,post⟩=>by
 refine G1C (jdI I hg hm ?_ (by decide))
 refine G3b (h₀:=X.base) I.ok.mod.kin hk ?_ he hpl
 rw [he]
 obtain⟨ps,hP,hps⟩:=rh.tb P hTK
 have hcl:closureFor scope X.env=pure (jd6 X.env.cells scope.names []):=jeF λn hn=>I.ok.has n (hfr n hn)
 refine G2w (jkv I B hcode hc hP hps hcl λf q qual pm cv ctv H1 h1 tk I1 kp lsts tbls jqQ hf hcf hHf _ _ _=>G3m ⟨I1.kIn,?_⟩)
 have rh1:RelH X.K h H1:=⟨λa ds e=>by
  obtain⟨vs,e1,e2⟩:=rh a ds e
  exact⟨vs,lsts _ _ e1,e2.mono kp⟩,λP' hP' =>by
  by_cases z:P' =P
  ·subst z;exact jqQ
  ·obtain⟨ps',e1,e2⟩:=rh.tb P' hP'
   exact⟨ps',tbls _ _ e1 z,e2.mono kp.frz⟩⟩
 have rs1:RelS X.K H1 σd σ:=rs.mono kp
 refine jmu (us:= [.ref f]) (vs:= [.ref f]) (dvs:= []) (ds:= []) (E:=E0) F hr hb .nil jlG I1 (.cons rfl .nil) ?_
 refine⟨f,_,qual,pm,cv,ctv,jd6 X.env.cells scope.names [],q,X.N,σ,scope,body,h,Qd,rfl,hf,rfl,hcf,hHf,L,Cap.of I1 hfr,rh1,jaF post kp,?_⟩
 rcases alt with t|t
 ·refine .inl ⟨λv H' => ∃d h',Kept H1 H' /\RelH X.K h' H' /\RelD X.K H' d v/\Qd (.tup [.str "told",d]) h',λA' outer' s' E' hr' =>⟨_,(hT q cv _ f A' outer' s' H1 E' hr').to,σd,h,_,rs1,rh1,t,λd v h' H' k r1 r2 q=>⟨d,h',k,r1,r2,q⟩⟩,λv H' q=>q⟩
 ·refine .inr ⟨λC H' => ∃c h',X.mg c=some (.ref C)/\c∈CN/\Kept H1 H' /\RelH X.K h' H' /\Qd (.tup [.str (jdu c)]) h',λA' outer' s' hr' pins2 s2 I2=> ?_,λC H' q=>q⟩
  exact(hR q cv _ f A' outer' s' H1 _ hr').to _ joC pins2 s2 σ H1 σd h _ I2 rs1 rh1 t λc C h' H' k rh' hmc ⟨hcn,qq⟩=>⟨C,rfl,c,h',hmc,hcn,k,rh',qq⟩⟩
theorem jkC {K:Frag} {x:Str} {f c P:Addr} {oc:Value} {od:Option Addr} {fd:FuncData} {osl:Array (Option Value)} (a:nsIn K mainGlobals x=some (some (.ref f))) (l:K.lookup f=some ⟨oc,od,.func fd,osl⟩) (t:tabIn K x=some (c,P)):fd.code= .ref c:=by
 unfold tabIn at t
 rw [a] at t
 simp only [l] at t
 split at t
 ·rename_i c' hc'
  split at t
  ·split at t
   ·cases t;exact hc'
   ·cases t
  ·cases t
 ·cases t
def CN13:List Str:= ["NoTable","NoPlace","NoNumber","NoOrder","NoSet","NoWalk","NoLengths","NoWay","Apart","NoRow","NoTables","NoText","TooGreat"]
def adr (K:Frag) (x:Str):Option Addr:=match nsIn K mainGlobals x with
 |some (some (.ref a))=>some a
 |_=>none
def jkD (K:Frag) (C:Addr):Bool:=(clsIn K C).isSome&&findIn K (.ref C) "__getattribute__" ==some (some (.builtin "BaseException.__getattribute__"))&&findIn K (.ref C) "__getattr__" ==some none
 &&findIn K (.ref C) "__class__" ==some (some (.builtin "object.__class__"))&&specialIn K (.builtin "object.__class__") "__get__" ==some (some (.builtin "getset_descriptor.__get__"))
 &&takesIn K (.builtin "object.__class__")==some true&&mroIn K C (.type "object")==some true&&mroIn K C (.type "BaseException")==some true
theorem jmx {K:Frag} {C:Addr} (h:jkD K C=true):ExcK K C:=by
 unfold jkD at h
 simp only [G0T,G2G] at h
 obtain⟨⟨⟨⟨⟨⟨⟨a,b⟩,c⟩,d⟩,e⟩,f⟩,g⟩,i⟩:=h
 exact⟨a,b,c,d,e,f,g,i⟩
def jlg (K:Frag) (c:Str):Bool:=match adr K c,adr K "PowerError" with
 |some C,some pe=>excIn K C bmV "ValueError.__new__" &&jkD K C&&kitOne K (.ref C) (.type "ValueError")==some true&&exmOne K (.ref C) (.ref pe)==some true&&CN13.all λd=>match adr K d with
  |some D=>kitOne K (.ref C) (.ref D)==some (c==d)
  |none=>false
 |_,_=>false
def jql (K:Frag):Bool:=CN.all (jlg K)&&CN13.all (λd=>(adr K d).isSome)&&(adr K "PowerError").isSome&&nsIn K mainGlobals "ValueError" ==some none
structure Exc (K:Frag) (mg:Str->Option Value):Prop where
 own: ∀c∈CN,OwnX K mg c
 ek: ∀c∈CN,∀C,mg c=some (.ref C)->ExcK K C
 kit: ∀c∈CN,∀d∈CN13,∀C D,mg c=some (.ref C)->mg d=some (.ref D)->kitOne K (.ref C) (.ref D)=some (c==d)
 val: ∀c∈CN,∀C,mg c=some (.ref C)->kitOne K (.ref C) (.type "ValueError")=some true
 pe: ∃pe,mg "PowerError" =some (.ref pe)/\ ∀c∈CN,∀C,mg c=some (.ref C)->exmOne K (.ref C) (.ref pe)=some true
 cls: ∀d∈CN13,∃D,mg d=some (.ref D)
 ve:mg "ValueError" =none
theorem jhm {K:Frag} {h:Heap} {mg:Str->Option Value} {x:Str} {a:Addr} (X:K.In h) (G:h.Ns mainGlobals mg) (e:adr K x=some a):mg x=some (.ref a):=by
 unfold adr at e
 split at e
 ·rename_i q;cases e;exact mg_of X G q
 ·cases e
theorem joG {K:Frag} {x:Str} {a:Addr} (e:adr K x=some a):nsIn K mainGlobals x=some (some (.ref a)):=by
 unfold adr at e
 split at e
 ·rename_i q;cases e;exact q
 ·cases e
theorem joH {K:Frag} {h:Heap} {mg:Str->Option Value} (X:K.In h) (G:h.Ns mainGlobals mg) (e:jql K=true):Exc K mg:=by
 unfold jql at e
 simp only [G0T,G0Y,G2G] at e
 obtain⟨⟨⟨e1,e2⟩,e3⟩,e4⟩:=e
 obtain⟨pe,hpe⟩:=G1u.mp e3
 have A: ∀c∈CN,∃C,adr K c=some C/\mg c=some (.ref C)/\excIn K C bmV "ValueError.__new__" =true/\jkD K C=true/\kitOne K (.ref C) (.type "ValueError")=some true/\exmOne K (.ref C) (.ref pe)=some true/\ ∀d∈CN13,∀D,adr K d=some D->kitOne K (.ref C) (.ref D)=some (c==d):=λc hc=>by
  have q:=e1 c hc
  unfold jlg at q
  rw [hpe] at q
  split at q
  ·rename_i C pe' h1 h2
   cases h2
   simp only [G0T,G0Y,G2G] at q
   obtain⟨⟨⟨⟨q1,q2⟩,q3⟩,q4⟩,q5⟩:=q
   refine⟨C,h1,jhm X G h1,q1,q2,q3,q4,λd hd D hD=> ?_⟩
   have:=q5 d hd
   rw [hD] at this
   simpa using this
  ·cases q
 have same: ∀ {c:Str} {C C' :Addr},mg c=some (.ref C)->mg c=some (.ref C')->C=C' :=λa b=>by rw [a] at b;cases b;rfl
 refine⟨λc hc=> ?_,λc hc C h=> ?_,λc hc d hd C D h1 h2=> ?_,λc hc C h=> ?_,⟨pe,jhm X G hpe,λc hc C h=> ?_⟩,λd hd=> ?_,mg_none_of X G e4⟩
 ·obtain⟨C,a,m,q,_⟩:=A c hc;exact⟨C,m,joG a,q⟩
 ·obtain⟨C',_,m,_,q,_⟩:=A c hc;cases same h m;exact jmx q
 ·obtain⟨C',_,m,_,_,_,_,q⟩:=A c hc;cases same h1 m
  obtain⟨D',hD⟩:=G1u.mp (e2 d hd)
  cases same h2 (jhm X G hD)
  exact q d hd D hD
 ·obtain⟨C',_,m,_,_,q,_⟩:=A c hc;cases same h m;exact q
 ·obtain⟨C',_,m,_,_,_,q,_⟩:=A c hc;cases same h m;exact q
 ·obtain⟨D',hD⟩:=G1u.mp (e2 d hd)
  exact⟨D',jhm X G hD⟩
def xOr (t u:TXD):TXD:=λσ h R=>t σ h R\/u σ h R
theorem jmy {X:Cx} {sts:List Stmt} {t u:TXD} (a:JX X sts t) (b:JX X sts u):JX X sts (xOr t u):=⟨λE Z pins s σ H σd h R I rs rh ht w=>ht.elim (λq=>a.to E Z pins s σ H σd h R I rs rh q w) λq=>b.to E Z pins s σ H σd h R I rs rh q w⟩
section
variable {P:Program} {w:World} {K:PySem.W.Frag} {mg:Str->Option Value} {base:Heap}
theorem Fun.okJL {x qual:Str} {st:Stmt} {f c Pt:Addr} {fd:FuncData} {N ps:List Str} {k:Nat} {spd:RDn} (F:Fun K x qual st f fd) (a:nsIn K mainGlobals x=some (some (.ref f))) (T:tabIn K x=some (c,Pt)) (S:FnScope N ps (jae st)) (len: ∀ds h Q,spd ds h Q->ds.length=ps.length)
 (tb:TSD) (hbody: ∀ (A:Around) (outer:List Env) (s:Shared) (H:Hp) (E:XK),Room k (A.deeper (envOfC qual (jae st) s.heap.objs.size f (.ref c)))->JSs (jft CX0 P w K mg base N qual (jae st) f (.ref c) A outer s H E).nox (jaV st) tb)
 (read: ∀ds h Q,spd ds h Q->tb (jch Q) (jap N ds) h):FnOk P w K mg base CX0 (k+1) f fd ps (LSp K spd):=by
 obtain⟨oc,od,kV,doc,pm,an,cdv,ct,osl,rfl,lk,hcd⟩:=F.ex
 have e:cdv= .ref c:=jkC a lk T
 subst e
 refine jlz lk hcd S (λvs H Q E h=> ?_) λA outer s H vs Q E hr h=> ?_
 ·obtain⟨ds,h,Qd,r,rh,q,p⟩:=h
  rw [<-r.length];exact len _ _ _ q
 ·obtain⟨ds,h,Qd,r,rh,q,p⟩:=h
  refine⟨_,((hbody A outer s H E hr).to).nox,jap N ds,h,jch Qd,jcE r,rh,read ds h Qd q,λσd' h' σ' H' k rs' rh' ⟨h2,sb,q'⟩=>p .non .non h2 H' k (rh'.sub sb) rfl q',λd v h' H' k rh' r' ⟨h2,sb,q'⟩=>p d v h2 H' k (rh'.sub sb) r' q',λ_ _ _ _ _ _ _ z=>z.elim,λ_ _ _ _ _ _ _ z=>z.elim⟩
end
def joI (P:Program) (w:World) (K:PySem.W.Frag) (mg:Str->Option Value) (base:Heap) (n:Nat):Prop:=
 ∃ (g:Addr) (gd:FuncData),FnOkS P w K mg base CX0 (n+2) g gd ["_law_call"] (jhl P w K mg base n)/\Binds K gd ["_law_call"] []/\PySem.W.keepIn K (.ref g)=true/\mg "_law_said" =some (.ref g)
def jmz (K:Frag) (x:Str):Bool:=match tabIn K x with
 |some p=>codeHdIn K p.1 p.2
 |none=>false
theorem jmA {K:Frag} {x:Str} (h:jmz K x=true): ∃c P,tabIn K x=some (c,P)/\codeHdIn K c P=true:=by
 unfold jmz at h
 split at h
 ·rename_i p e;exact⟨p.1,p.2,e,h⟩
 ·cases h
def jjp (mg:Str->Option Value):RDn:=λds h Q=> ∃c C,ds= [.exc C]/\c∈CN/\mg c=some (.ref C)/\ ∀h',Sub h h' ->Q (.str (jdu c)) h'
end L2
namespace L2
open PySem PySem.Spec PyProof.Rows PySem.SeqAt
section
variable {n e:Nat} {T:List (List Int)}
instance (k i j:Nat):Decidable (RP n T k i j):=inferInstanceAs (Decidable (ent (jqb n T k) i j≠0))
end
end L2
namespace L2
open PySem PySem.Spec PyProof.Rows PySem.W
section
variable {X:Cx} {e a b iter:Expr} {es:List Expr} {u:TXD} {pos p:Pos} {rest:List Stmt}
theorem jjq (he:JXE X e u) (hs:starEach (e::es) X.env=(false,eval e X.env)::starEach es X.env) (E:XK) (Z:Rz X E) (pins:List (Addr×Obj)) (s:Shared) (σ:St) (H:Hp) (σd:SD) (h:HD) (R:Str->HD->Prop) (I:Inv X pins σ H s) (rs:RelS X.K H σd σ) (rh:RelH X.K h H) (ht:u σd h R) (w:WX X E H R):
 wpAny (model X.prog X.w) X.A (spliced (backTo pos (starEach (e::es) X.env))) (λ_ _=>False) X.xe s:=by
 rw [hs]
 show wpAny _ _ (spliced ((false,eval e X.env)::backTo pos (starEach es X.env))) _ _ s
 exact G2w (G0D (he.to E Z pins s σ H σd h R I rs rh ht w) (λ_ _ z=>z.elim) λ_ _ z=>z)
theorem joJ {tg:Expr} {body:List Stmt} (hi:JXE X iter u) (hs: ∀x,foldedSetIterable iter X.env x=pure x:=by intro _;rfl):JX X (.For tg iter body [] pos::rest) u:=⟨λE Z pins s σ H σd h R I rs rh ht w=>
 G1f (wpAny_For (G0D (hi.to E Z pins s σ H σd h R I rs rh ht w) (λ_ _ z=>z.elim) λ_ _ z=>z) hs)⟩
theorem jmB {x:Str} {id:String} (hg:Gl X x) (hm:X.mg x=none) (hv:bootBuiltins x=some (.builtin id)) (ha:JXE X e u) (hn:x≠ "__name__" :=by decide) (hdb:(x==("__debug__" :Str))=false:=by decide)
 (he:starEach (e::es) X.env=(false,eval e X.env)::starEach es X.env:=by rfl) (hpl:(backTo pos (starEach es X.env)).any (·.1)=false:=by rfl):JXE X (.Call (.Name x p) (e::es) [] pos) u:=⟨λE Z pins s σ H σd h R I rs rh ht w=>
 G1C (jfb I hg hm hv (G2P (G0D (jjq ha he E Z pins s σ H σd h R I rs rh ht w) (λ_ _ z=>z.elim) λ_ _ z=>z) he hpl) hn hdb)⟩
theorem jfJ {sts:List Stmt}:JSs X sts jaD:=⟨λpins s σ H D I h=>by obtain⟨_,_,_,_,_,f,_⟩:=h;exact False.elim f⟩
end
end L2
namespace L2
open PySem PySem.Spec PyProof.Rows
def TrV (K:PySem.W.Frag) (H:Hp):V->Bool->Prop
 | .bl b,c=>c=b
 | .int i,c=>c=(i !=0)
 | .non,c=>c=false
 | .ref a,c=> ∃xs,SqL K H a xs/\c= !xs.isEmpty
 |_,_=>False
def TrD (h:HD):D->Bool->Prop
 | .bl b,c=>c=b
 | .int i,c=>c=(i !=0)
 | .non,c=>c=false
 | .lst a,c=> ∃ds,h a=some ds/\c= !ds.isEmpty
 |_,_=>False
theorem TrD.to {K:PySem.W.Frag} {H:Hp} {h:HD} {d:D} {v:V} {c:Bool} (t:TrD h d c) (r:RelD K H d v) (rh:RelH K h H):TrV K H v c:=by
 cases d<;>try exact t.elim
 ·have e:v= .non:=r;subst e;exact t
 ·have e:v= .bl _:=r;subst e;exact t
 ·have e:v= .int _:=r;subst e;exact t
 ·obtain⟨e,_⟩:=r
  subst e
  obtain⟨ds,hd,e⟩:=t
  obtain⟨vs,hv,r'⟩:=rh _ ds hd
  refine⟨vs,SqL.of hv,?_⟩
  rw [e]
  have:=r'.length
  cases ds<;>cases vs<;>first|rfl|(simp at this)
section
variable {X:Cx} {pins:List (Addr×Obj)} {σ:St} {H:Hp} {s:Shared} {E:Value->Shared->Prop}
theorem Inv.trv {v:V} {u:Value} {c:Bool} {Q:Bool->Shared->Prop} (I:Inv X pins σ H s) (r:RelV v u) (t:TrV X.K H v c) (q: ∀s',Inv X pins σ H s' ->Q c s'):wpAny (model X.prog X.w) X.A (truthy u) Q E s:=by
 cases v<;>try exact t.elim
 ·have e:u=Value.none:=r;subst e;have e:c=false:=t;subst e;exact truthy_none (q _ I)
 ·have e:u=Value.bool _:=r;subst e;have e:c=_:=t;subst e;exact G1i (q _ I)
 ·obtain⟨t',e⟩:=r;subst e;have e:c=_:=t;subst e;exact truthy_int (q _ I)
 ·have e:u=Value.ref _:=r
  subst e
  obtain⟨xs,hx,e⟩:=t
  obtain⟨its,rv,p,hz⟩:=I.list hx
  have hl:=rv.length
  have e2:c= !its.toArray.isEmpty:=by
   rw [e]
   cases xs<;>cases its<;>first|rfl|(simp at hl)
  refine wpAny_truthy_list p.isList ?_ ?_
  ·have:xs.length<=16777216:=G01 hz (by decide)
   simp only [G0u]
   have e3:((2:Int)^63)=9223372036854775808:=by decide
   rw [e3];omega
  ·rw [<-e2];exact q _ (I.tok _)
end
section
variable {X:Cx} {a b:Expr} {rest:List Expr} {pos:Pos}
def jqT (K:PySem.W.Frag) (t:TE):TT:=λσ H Q=>t σ H λx H1=> ∃c,TrV K H1 x c/\Q c H1
theorem joK {e:Expr} {t:TE} (h:PE X e t) (he: ∀whole,isTrue e X.env whole=(do let v <-whole;standAt e.pos;holding [v] (truthy v)):=by intro _;rfl):PT X e (jqT X.K t):=by
 intro pins s σ H Q I hw
 refine isTrue_plain (thn (h pins s σ H _ I hw) λv s1 ⟨x,H1,I1,r1,q1⟩=> ?_) (he _)
 obtain⟨c,t1,q⟩:=q1
 exact I1.trv r1 t1 λs' I' =>⟨H1,I',q⟩
def jqU (t:TED):TTD:=λσ h Q=>t σ h λx h1=> ∃c,TrD h1 x c/\Q c h1
variable {K:PySem.W.Frag}
theorem joL {t:TED}: ∀σ H Q,LT K (jqU t) σ H Q->jqT K (LE K t) σ H Q:=λσ H Q ⟨σd,h,Qd,rs,rh,t,p⟩=>
 LE.bind rs rh t λd v h1 H1 k1 rs1 rh1 r1 ⟨k,e,q⟩=>⟨k,e.to r1 rh1,p k h1 H1 k1 rh1 q⟩
theorem jqm {ta:TED} (ha:JE X a ta) (he: ∀whole,isTrue a X.env whole=(do let v <-whole;standAt a.pos;holding [v] (truthy v)):=by intro _;rfl):JT X a (jqU ta):=⟨(joK ha.to he).imp joL⟩
end
end L2
namespace L2
open PySem PySem.Spec PyProof.Rows PySem.SeqAt
structure GQ (n:Nat) (h0 h:HD) (p R:Addr) (rs:List Addr) (f:Nat->Nat->Int):Prop where
 at_:h R=some (rs.map D.lst)
 len:rs.length=n
 nR:R ∉ rs
 nd:rs.Nodup
 fR:h0 R=none
 np:p ∉ rs
 Rp:R≠p
 row: ∀i a,rs[i]? =some a->h0 a=none/\h a=some ((List.range n).map λj=>D.int (f i j))
 nn: ∀i j,0<=f i j/\f i j<=1000000
end L2
namespace HT
open PySem PySem.Spec PyProof.Rows
structure Tab (L:Bool) (n:Nat) (t:SetTable):Prop where
 fits:t.fits n=true
 led:t.led=L
 dum:t.dummies= #[]
 rise:t.plain=true\/n<=1->t.place.toList.Pairwise (· < ·)
def jqV (e:Int×Value):Int:=match e.2 with
 | .int n _=>n
 |_=>0
structure SetI (L:Bool) (es:Array (Int×Value)) (t:SetTable) (ns:List Int):Prop where
 tab:Tab L es.size t
 nums: ∀e∈es.toList,∃n tk,e=(hashInt n,.int n tk)
 nd:(es.toList.map jqV).Nodup
 mem: ∀n,n∈es.toList.map jqV↔n∈ns
inductive Mode (w:World) (a:Addr) (es:Array (Int×Value)) (ep:Nat) (t:SetTable):List Value->(Value->Nat->Heap->Prop)->Addr->Prop
 |text (b:w.params.followText "set-order" =true):Mode w a es ep t ((pickOrder (w.params.setOrder a ep) es).toList.map (·.2)) (λf _ _=>f=rawInt 0) a
 |drawn (b:w.params.followText "set-order" =false) (d:t.plain=false) (two:1<es.size) (ord:List Nat) (p:ord.Perm (List.range es.size)) (tp:Addr):
  Mode w a es ep t (ord.map λj=>(es.getD j (0,.none)).2) (λf _ h=>f= .ref tp/\h.IsTuple tp (ord.map λj=>rawInt (j:Nat)).toArray) tp
 |table (b:w.params.followText "set-order" =false) (d:t.plain=true\/es.size<=1):Mode w a es ep t (es.toList.map (·.2)) (λf i _=> ∃slot:Nat,f=rawInt slot/\SetTable.below t.place slot=i) a
end HT
namespace L2
theorem IsS.ext {n:Nat} {S S' :List Nat} (h:IsS n S) (h' :IsS n S') (m: ∀j,j∈S↔j∈S'):S=S' :=by
 obtain⟨p,rfl⟩:=h
 obtain⟨q,rfl⟩:=h'
 refine List.filter_congr λj hj=> ?_
 have:=m j
 rw [G1N,G1N] at this
 have e:p j=true↔q j=true:=⟨λz=>(this.mp ⟨hj,z⟩).2,λz=>(this.mpr ⟨hj,z⟩).2⟩
 cases hp:p j<;>cases hq:q j<;>simp_all
inductive Made (L:List Nat):Nat->Prop
 |z:Made L 0
 |s {n l:Nat}:Made L n->l∈L->Made L (n+l)
structure Lens (L:List Nat):Prop where
 rise:L.Pairwise (· < ·)
 lo: ∀l∈L,1<=l
 hi: ∀l∈L,l<=12
 some:1<=L.length
 few:L.length<=6
end L2
namespace HT
open PySem PyProof.Rows
section
variable {prog:Program} {w:World} {A:Around} {E:Value->Shared->Prop} {σ α β:Type} {J:Shared->Prop}
def Tm (prog:Program) (w:World) (A:Around) (E:Value->Shared->Prop) (J:Shared->Prop) {σ α:Type} (m:StateT σ Sem α) (Q:α->σ->Prop) (st:σ):Prop:=
 ∀s,J s->wpAny (model prog w) A (m.run st) (λr s' =>Q r.1 r.2/\J s') E s
theorem Tm.pure {a:α} {Q:α->σ->Prop} {st:σ} (h:Q a st):Tm prog w A E J (Pure.pure a:StateT σ Sem α) Q st:=λs j=>by
 rw [StateT.run_pure];exact G0j ⟨h,j⟩
theorem Tm.bind {m:StateT σ Sem α} {f:α->StateT σ Sem β} {Q:β->σ->Prop} {st:σ} (h:Tm prog w A E J m (λa st' =>Tm prog w A E J (f a) Q st') st):Tm prog w A E J (m >>= f) Q st:=λs j=>by
 rw [StateT.run_bind]
 exact wpAny_bind (G0D (h s j) (λr s' x=>x.1 s' x.2) λ_ _ e=>e)
theorem Tm.get {Q:σ->σ->Prop} {st:σ} (h:Q st st):Tm prog w A E J (MonadState.get:StateT σ Sem σ) Q st:=λs j=>by
 show wpAny _ _ ((StateT.get:StateT σ Sem σ).run st) _ _ _
 exact G0j ⟨h,j⟩
theorem Tm.mono {m:StateT σ Sem α} {Q Q' :α->σ->Prop} {st:σ} (h:Tm prog w A E J m Q st) (q: ∀a st',Q a st' ->Q' a st'):Tm prog w A E J m Q' st:=λs j=>
 G0D (h s j) (λr s' x=>⟨q _ _ x.1,x.2⟩) λ_ _ e=>e
theorem Tm.range' {f:Nat->β->StateT σ Sem (ForInStep β)} (I:Nat->β->σ->Prop) {Q:β->σ->Prop} {b:Nat} (step: ∀i c st,i<b->I i c st->Tm prog w A E J (f i c) (λr st' =>match r with| .done c' =>Q c' st' | .yield c' =>I (i+1) c' st') st) (fin: ∀c st,I b c st->Q c st):
 ∀ (k i:Nat) (c:β) (st:σ),i+k=b->I i c st->Tm prog w A E J (forIn (List.range' i k) c f) Q st
 |0,i,c,st,e,h=>by
  rw [List.range'_zero,List.forIn_nil]
  exact .pure (fin c st (by rw [<-e];exact h))
 |k+1,i,c,st,e,h=>by
  rw [List.range'_succ,G23]
  refine .bind ((step i c st (by omega) h).mono λr st' x=> ?_)
  cases r with
  |done c' =>exact .pure x
  |yield c' =>exact Tm.range' I step fin k (i+1) c' st' (by omega) x
theorem Tm.range {f:Nat->β->StateT σ Sem (ForInStep β)} (I:Nat->β->σ->Prop) {Q:β->σ->Prop} {a b:Nat} {c:β} {st:σ} (hab:a<=b) (h:I a c st) (step: ∀i c st,i<b->I i c st->Tm prog w A E J (f i c) (λr st' =>match r with| .done c' =>Q c' st' | .yield c' =>I (i+1) c' st') st) (fin: ∀c st,I b c st->Q c st):
 Tm prog w A E J (forIn [a:b] c f) Q st:=λs j=>by
 rw [Std.Legacy.Range.forIn_eq_forIn_range']
 have e:([a:b]:Std.Legacy.Range).size=b-a:=by simp [Std.Legacy.Range.size]
 rw [e]
 exact Tm.range' I step fin (b-a) a c st (by omega) h s j
end
section
variable {prog:Program} {w:World} {A:Around} {E:Value->Shared->Prop} {J:Shared->Prop} {κ:SortKind} {U:Keyed->Prop} {R:Keyed->Keyed->Bool}
def jgB (prog:Program) (w:World) (A:Around) (J:Shared->Prop) (κ:SortKind) (U:Keyed->Prop) (R:Keyed->Keyed->Bool):Prop:=
 ∀x y,U x->U y-> ∀s,J s->wpAny (model prog w) A (keyLt' κ x.1 y.1) (λb s' =>b=R x y/\J s') (λ_ _=>False) s
theorem Tm.lt {x y:Keyed} {st:SortSt} {Q:Option Bool->SortSt->Prop} (a:jgB prog w A J κ U R) (k:kindOf st=κ) (hx:U x) (hy:U y) (q:Q (some (R x y)) st):Tm prog w A E J (lt' x y) Q st:=by
 rw [lt'_eq]
 refine .bind (.get ?_)
 rw [k]
 intro s j
 rw [StateT.run_bind]
 refine wpAny_bind ?_
 show wpAny _ _ ((StateT.lift _:StateT SortSt Sem _).run st) _ _ _
 rw [StateT.run_lift]
 refine wpAny_bind (wpAny_attempt (G0D (a x y hx hy s j) (λb s' x=> ?_) λ_ _ e=>e.elim))
 obtain⟨rfl,j'⟩:=x
 exact G0j (Tm.pure (prog:=prog) (w:=w) (A:=A) (E:=E) (J:=J) q s' j')
theorem Tm.elem {arr:Array Keyed} {i:Nat} {x:Keyed} {st:SortSt} {Q:Keyed->SortSt->Prop} (e:arr[i]? =some x) (q:Q x st):Tm prog w A E J (elem' arr i) Q st:=by
 rw [elem'_eq,e]
 exact .pure q
theorem joM {n lo hi:Nat} {g:Nat->Bool} {st:SortSt} {f:Nat->Option (Option Nat)×Nat×Nat->StateT SortSt Sem (ForInStep (Option (Option Nat)×Nat×Nat))} (anti: ∀i j,i<=j->j<n->g j=true->g i=true)
 (h1:lo<=hi) (h2:hi<=n) (a1: ∀i,i<lo->g i=true) (a2: ∀i,hi<=i->i<n->g i=false)
 (stop: ∀i l,Tm prog w A E J (f i (none,l,l)) (λr st' =>st' =st/\r= .done (none,l,l)) st)
 (step: ∀i l u,l<u->u<=n->Tm prog w A E J (f i (none,l,u)) (λr st' =>st' =st/\r=if g (l+(u-l) / 2)=true then .yield (none,l+(u-l) / 2+1,u) else .yield (none,l,l+(u-l) / 2)) st):
 Tm prog w A E J (forIn [0:n] (none,lo,hi) f) (λc st' =>st' =st/\c.1=none/\c.2.2<=n/\(∀i,i<c.2.2->g i=true)/\ ∀i,c.2.2<=i->i<n->g i=false) st:=by
 have no: ∀i j,i<=j->j<n->g i=false->g j=false:=λi j hij hj z=>by
  cases hb:g j with
  |false=>rfl
  |true=>rw [anti i j hij hj hb] at z;cases z
 refine Tm.range (λi c st' =>st' =st/\c.1=none/\c.2.1<=c.2.2/\c.2.2<=n/\(∀i,i<c.2.1->g i=true)/\(∀i,c.2.2<=i->i<n->g i=false)/\c.2.2-c.2.1+i<=n) (Nat.zero_le _) ⟨rfl,rfl,h1,h2,a1,a2,by dsimp only;omega⟩ ?_ ?_
 ·rintro i ⟨r,l,u⟩ _ hi ⟨rfl,hr,b1,b2,b3,b4,b5⟩
  dsimp only at hr b1 b2 b3 b4 b5
  subst hr
  by_cases z:l=u
  ·subst z
   refine(stop i l).mono ?_
   rintro _ _ ⟨rfl,rfl⟩
   exact⟨rfl,rfl,b2,b3,b4⟩
  ·refine(step i l u (by omega) b2).mono ?_
   rintro _ _ ⟨rfl,rfl⟩
   cases hg:g (l+(u-l) / 2) with
   |true=>
    rw [if_pos rfl]
    exact⟨rfl,rfl,by dsimp only;omega,b2,λj hj=>anti j _ (by dsimp only at hj;omega) (by omega) hg,b4,by dsimp only;omega⟩
   |false=>
    rw [if_neg (by decide)]
    exact⟨rfl,rfl,by dsimp only;omega,by dsimp only;omega,b3,λj hj hn=>no _ j hj hn hg,by dsimp only;omega⟩
 ·rintro ⟨r,l,u⟩ _ ⟨rfl,hr,b1,b2,b3,b4,b5⟩
  dsimp only at hr b1 b2 b3 b4 b5 ⊢
  exact⟨rfl,hr,b2,λj hj=>b3 j (by omega),b4⟩
def gal:Bool->Keyed->Array Keyed->Nat->Nat->Nat->StateT SortSt Sem (Option Nat):=sortPriv% PySem.Builtin.gallop
def byd (R:Keyed->Keyed->Bool) (left:Bool) (key:Keyed) (arr:Array Keyed) (base i:Nat):Bool:=
 match arr[base+i]? with
 |some x=>if left=true then R x key else !R key x
 |none=>false
theorem jjr {left:Bool} {key:Keyed} {arr:Array Keyed} {base n hint:Nat} {st:SortSt} {Q:Option Nat->SortSt->Prop} (a:jgB prog w A J κ U R) (k:kindOf st=κ) (uk:U key) (ua: ∀i,i<n-> ∃x,arr[base+i]? =some x/\U x)
 (anti: ∀i j,i<=j->j<n->byd R left key arr base j=true->byd R left key arr base i=true) (hh:hint<n)
 (q: ∀m,m<=n->(∀i,i<m->byd R left key arr base i=true)->(∀i,m<=i->i<n->byd R left key arr base i=false)->Q (some m) st):Tm prog w A E J (gal left key arr base n hint) Q st:=by
 have ask: ∀i (Q' :Option Bool->SortSt->Prop),i<n->Q' (some (byd R left key arr base i)) st->Tm prog w A E J (do let x <-elem' arr (base+i);if left=true then lt' x key else do let b <-lt' key x;Pure.pure (b.map λz=> !z)) Q' st:=λi Q' hi q' =>by
  obtain⟨x,ex,ux⟩:=ua i hi
  refine .bind (.elem ex ?_)
  unfold byd at q'
  rw [ex] at q'
  cases left with
  |true=>exact .lt a k ux uk q'
  |false=>exact .bind (.lt a k uk ux (.pure q'))
 have no: ∀i j,i<=j->j<n->byd R left key arr base i=false->byd R left key arr base j=false:=λi j hij hj z=>by
  cases hb:byd R left key arr base j with
  |false=>rfl
  |true=>rw [anti i j hij hj hb] at z;cases z
 unfold gal
 refine .bind (ask hint _ hh ?_)
 dsimp only
 cases hb:byd R left key arr base hint with
 |true=>
  rw [if_pos rfl]
  refine .bind (Tm.mono (Tm.range (λi c st' =>st' =st/\c.1=none/\c.2.1<c.2.2/\hint+c.2.1<n/\byd R left key arr base (hint+c.2.1)=true/\i+1<=c.2.2)
   (Q:=λc st' =>st' =st/\c.1=none/\c.2.1<c.2.2/\hint+c.2.1<n/\byd R left key arr base (hint+c.2.1)=true/\(n-hint<=c.2.2\/byd R left key arr base (hint+c.2.2)=false)) (G1l _) ⟨rfl,rfl,by decide,by omega,by simpa using hb,by decide⟩ ?_ ?_) ?_)
  ·rintro i ⟨r,lo,of⟩ _ hi ⟨rfl,hr,h1,h2,h3,h4⟩
   dsimp only at hr h1 h2 h3 h4 ⊢
   subst hr
   by_cases z:of>=n-hint
   ·rw [if_pos z]
    exact .pure ⟨rfl,rfl,h1,h2,h3,.inl z⟩
   ·rw [if_neg z]
    refine .bind (ask (hint+of) _ (by omega) ?_)
    dsimp only
    cases hc:byd R left key arr base (hint+of) with
    |true=>exact .pure ⟨rfl,rfl,by dsimp only;omega,by dsimp only;omega,hc,by dsimp only;omega⟩
    |false=>exact .pure ⟨rfl,rfl,h1,h2,h3,.inr hc⟩
  ·rintro ⟨r,lo,of⟩ _ ⟨rfl,hr,h1,h2,h3,h4⟩
   exact⟨rfl,hr,h1,h2,h3,.inl (by dsimp only at h4 ⊢;omega)⟩
  ·rintro ⟨r,lo,of⟩ _ ⟨rfl,hr,h1,h2,h3,h4⟩
   dsimp only at hr h1 h2 h3 h4 ⊢
   subst hr
   dsimp only
   refine .bind (Tm.mono (joM (g:=byd R left key arr base) anti (by omega) (by omega) (λi hi=>anti i _ (by omega) h2 h3) (λi hi hn=> ?_) (λi l=> ?_) (λi l u hl hu=> ?_)) ?_)
   ·rcases h4 with z|z
    ·omega
    ·exact no (hint+of) i (by omega) hn z
   ·rw [if_pos (G0k l)]
    exact .pure ⟨rfl,rfl⟩
   ·rw [if_neg (show ¬l>=u by omega)]
    refine .bind (ask (l+(u-l) / 2) _ (by omega) ?_)
    dsimp only
    cases byd R left key arr base (l+(u-l) / 2)<;>exact .pure ⟨rfl,rfl⟩
   ·rintro ⟨r,l,u⟩ _ ⟨rfl,hr,b2,b3,b4⟩
    dsimp only at hr b2 b3 b4 ⊢
    subst hr
    exact .pure (q u b2 b3 b4)
 |false=>
  rw [if_neg (by decide)]
  refine .bind (Tm.mono (Tm.range (λi c st' =>st' =st/\c.1=none/\c.2.1<c.2.2/\c.2.1<=hint/\byd R left key arr base (hint-c.2.1)=false/\i+1<=c.2.2)
   (Q:=λc st' =>st' =st/\c.1=none/\c.2.1<c.2.2/\c.2.1<=hint/\byd R left key arr base (hint-c.2.1)=false/\(hint+1<=c.2.2\/byd R left key arr base (hint-c.2.2)=true)) (Nat.zero_le _) ⟨rfl,rfl,by decide,by dsimp only;omega,by simpa using hb,by decide⟩ ?_ ?_) ?_)
  ·rintro i ⟨r,lo,of⟩ _ hi ⟨rfl,hr,h1,h2,h3,h4⟩
   dsimp only at hr h1 h2 h3 h4 ⊢
   subst hr
   by_cases z:of>=hint+1
   ·rw [if_pos z]
    exact .pure ⟨rfl,rfl,h1,h2,h3,.inl z⟩
   ·rw [if_neg z]
    refine .bind (ask (hint-of) _ (by omega) ?_)
    dsimp only
    cases hc:byd R left key arr base (hint-of) with
    |false=>exact .pure ⟨rfl,rfl,by dsimp only;omega,by dsimp only;omega,hc,by dsimp only;omega⟩
    |true=>exact .pure ⟨rfl,rfl,h1,h2,h3,.inr hc⟩
  ·rintro ⟨r,lo,of⟩ _ ⟨rfl,hr,h1,h2,h3,h4⟩
   exact⟨rfl,hr,h1,h2,h3,.inl (by dsimp only at h4 ⊢;omega)⟩
  ·rintro ⟨r,lo,of⟩ _ ⟨rfl,hr,h1,h2,h3,h4⟩
   dsimp only at hr h1 h2 h3 h4 ⊢
   subst hr
   dsimp only
   refine .bind (Tm.mono (joM (g:=byd R left key arr base) anti (by omega) (by omega) (λi hi=> ?_) (λi hi hn=>no _ i hi hn h3) (λi l=> ?_) (λi l u hl hu=> ?_)) ?_)
   ·rcases h4 with z|z
    ·omega
    ·exact anti i (hint-of) (by omega) (by omega) z
   ·rw [if_pos (G0k l)]
    exact .pure ⟨rfl,rfl⟩
   ·rw [if_neg (show ¬l>=u by omega)]
    refine .bind (ask (l+(u-l) / 2) _ (by omega) ?_)
    dsimp only
    cases byd R left key arr base (l+(u-l) / 2)<;>exact .pure ⟨rfl,rfl⟩
   ·rintro ⟨r,l,u⟩ _ ⟨rfl,hr,b2,b3,b4⟩
    dsimp only at hr b2 b3 b4 ⊢
    subst hr
    exact .pure (q u b2 b3 b4)
end
section
variable {κ:Type} {U:κ->Prop} {R:κ->κ->Bool} {al bl:List κ}
structure Ordd (U:κ->Prop) (R:κ->κ->Bool):Prop where
 asym: ∀x y,U x->U y->R x y=true->R y x=false
 neg: ∀x y z,U x->U y->U z->R x z=true->R x y=true\/R y z=true
theorem Ordd.refl (o:Ordd U R) {x:κ} (u:U x):R x x=false:=by
 cases h:R x x with
 |false=>rfl
 |true=>have:=o.asym x x u u h;rw [h] at this;exact this
theorem Ordd.trans (o:Ordd U R) {x y z:κ} (ux:U x) (uy:U y) (uz:U z) (a:R y x=false) (b:R z y=false):R z x=false:=by
 cases h:R z x with
 |false=>rfl
 |true=>
  rcases o.neg z y x uz uy ux h with z|z
  ·rw [b] at z;cases z
  ·rw [a] at z;cases z
abbrev Srt (R:κ->κ->Bool) (l:List κ):Prop:=l.Pairwise λx y=>R y x=false
structure MI (R:κ->κ->Bool) (al bl:List κ) (ia ib:Nat) (out:List κ):Prop where
 perm:out.Perm (al.take ia++bl.take ib)
 srt:Srt R out
 ra: ∀x∈out,∀y∈al.drop ia,R y x=false
 rb: ∀x∈out,∀y∈bl.drop ib,R y x=false
theorem jar {l:List κ} {i:Nat} {y:κ} (h:l[i]? =some y):l.drop i=y::l.drop (i+1):=by
 obtain⟨hi,e⟩:=G0o.mp h
 rw [List.drop_eq_getElem_cons hi,e]
theorem jb3 {l:List κ} {i:Nat} {y:κ} (h:l[i]? =some y):l.take (i+1)=l.take i++ [y]:=by
 rw [G1d,h];rfl
theorem MI.start (al bl:List κ):MI R al bl 0 0 []:=⟨.refl _,.nil,λx hx=>(G0U hx).elim,λx hx=>(G0U hx).elim⟩
theorem MI.pushB {ia ib:Nat} {out:List κ} {y:κ} (m:MI R al bl ia ib out) (o:Ordd U R) (ua: ∀x∈al,U x) (ub: ∀x∈bl,U x) (sa:Srt R al) (sb:Srt R bl) (hy:bl[ib]? =some y) (lt: ∀z,al[ia]? =some z->R y z=true):MI R al bl ia (ib+1) (out++ [y]):=by
 have dy:=jar hy
 have uy:=ub y (G0i hy)
 have sdb:Srt R (bl.drop ib):=sb.sublist (G1z _ _)
 rw [dy] at sdb
 refine⟨?_,?_,λx hx z hz=> ?_,λx hx z hz=> ?_⟩
 ·rw [jb3 hy,<-G0l]
  exact m.perm.append_right _
 ·refine G0N.mpr ⟨m.srt,G00 _ _,λx hx z hz=> ?_⟩
  rw [G0g.mp hz]
  exact m.rb x hx y (by rw [dy];exact G0C ..)
 ·rcases G0p.mp hx with w|w
  ·exact m.ra x w z hz
  ·rw [G0g.mp w]
   cases e:al[ia]? with
   |none=>rw [G1m (G3f.mp e)] at hz;cases hz
   |some a0=>
    have da:=jar e
    have ua0:=ua a0 (G0i e)
    have sda:Srt R (al.drop ia):=sa.sublist (G1z _ _)
    rw [da] at sda hz
    have l0:=o.asym y a0 uy ua0 (lt a0 e)
    rcases G0r.mp hz with v|v
    ·rw [v];exact l0
    ·exact o.trans uy ua0 (ua z (G04 v)) l0 ((G2B.mp sda).1 z v)
 ·rcases G0p.mp hx with w|w
  ·exact m.rb x w z (by rw [dy];exact G0G _ hz)
  ·rw [G0g.mp w]
   exact(G2B.mp sdb).1 z hz
theorem MI.pushA {ia ib:Nat} {out:List κ} {y:κ} (m:MI R al bl ia ib out) (o:Ordd U R) (ua: ∀x∈al,U x) (ub: ∀x∈bl,U x) (sa:Srt R al) (sb:Srt R bl) (hy:al[ia]? =some y) (ge: ∀z,bl[ib]? =some z->R z y=false):MI R al bl (ia+1) ib (out++ [y]):=by
 have dy:=jar hy
 have uy:=ua y (G0i hy)
 have sda:Srt R (al.drop ia):=sa.sublist (G1z _ _)
 rw [dy] at sda
 refine⟨?_,?_,λx hx z hz=> ?_,λx hx z hz=> ?_⟩
 ·rw [jb3 hy]
  refine(m.perm.append_right [y]).trans ?_
  rw [G0l,G0l]
  exact(G2j).append_left _
 ·refine G0N.mpr ⟨m.srt,G00 _ _,λx hx z hz=> ?_⟩
  rw [G0g.mp hz]
  exact m.ra x hx y (by rw [dy];exact G0C ..)
 ·rcases G0p.mp hx with w|w
  ·exact m.ra x w z (by rw [dy];exact G0G _ hz)
  ·rw [G0g.mp w]
   exact(G2B.mp sda).1 z hz
 ·rcases G0p.mp hx with w|w
  ·exact m.rb x w z hz
  ·rw [G0g.mp w]
   cases e:bl[ib]? with
   |none=>rw [G1m (G3f.mp e)] at hz;cases hz
   |some b0=>
    have db:=jar e
    have ub0:=ub b0 (G0i e)
    have sdb:Srt R (bl.drop ib):=sb.sublist (G1z _ _)
    rw [db] at sdb hz
    have l0:=ge b0 e
    rcases G0r.mp hz with v|v
    ·rw [v];exact l0
    ·exact o.trans uy ub0 (ub z (G04 v)) l0 ((G2B.mp sdb).1 z v)
theorem MI.manyA {ib:Nat} (o:Ordd U R) (ua: ∀x∈al,U x) (ub: ∀x∈bl,U x) (sa:Srt R al) (sb:Srt R bl): ∀ (k:Nat) {ia:Nat} {out:List κ},MI R al bl ia ib out->ia+k<=al.length->(∀i,i<k-> ∀y,al[ia+i]? =some y-> ∀z,bl[ib]? =some z->R z y=false)->MI R al bl (ia+k) ib (out++(al.drop ia).take k)
 |0,ia,out,m,_,_=>by rw [G3L,G1t];exact m
 |k+1,ia,out,m,hk,h=>by
  obtain⟨y,hy⟩: ∃y,al[ia]? =some y:=⟨_,G0b (by omega)⟩
  have m1:=m.pushA o ua ub sa sb hy (h 0 (by omega) y hy)
  have:=MI.manyA o ua ub sa sb k m1 (by omega) (λi hi y hy=>h (i+1) (by omega) y (by rw [show ia+(i+1)=ia+1+i by omega];exact hy))
  rw [show ia+(k+1)=ia+1+k by omega,jar hy,List.take_succ_cons,List.append_cons]
  exact this
theorem MI.manyB {ia:Nat} (o:Ordd U R) (ua: ∀x∈al,U x) (ub: ∀x∈bl,U x) (sa:Srt R al) (sb:Srt R bl): ∀ (k:Nat) {ib:Nat} {out:List κ},MI R al bl ia ib out->ib+k<=bl.length->(∀i,i<k-> ∀y,bl[ib+i]? =some y-> ∀z,al[ia]? =some z->R y z=true)->MI R al bl ia (ib+k) (out++(bl.drop ib).take k)
 |0,ib,out,m,_,_=>by rw [G3L,G1t];exact m
 |k+1,ib,out,m,hk,h=>by
  obtain⟨y,hy⟩: ∃y,bl[ib]? =some y:=⟨_,G0b (by omega)⟩
  have m1:=m.pushB o ua ub sa sb hy (h 0 (by omega) y hy)
  have:=MI.manyB o ua ub sa sb k m1 (by omega) (λi hi y hy=>h (i+1) (by omega) y (by rw [show ib+(i+1)=ib+1+i by omega];exact hy))
  rw [show ib+(k+1)=ib+1+k by omega,jar hy,List.take_succ_cons,List.append_cons]
  exact this
theorem MI.all {out:List κ} (m:MI R al bl al.length bl.length out):out.Perm (al++bl)/\Srt R out:=by
 have:=m.perm
 rw [G2T,G2T] at this
 exact⟨this,m.srt⟩
theorem MI.done {ia ib:Nat} {out:List κ} (m:MI R al bl ia ib out) (o:Ordd U R) (ua: ∀x∈al,U x) (ub: ∀x∈bl,U x) (sa:Srt R al) (sb:Srt R bl) (ha:ia<=al.length) (hb:ib<=bl.length) (h:ia=al.length\/ib=bl.length):(out++al.drop ia++bl.drop ib).Perm (al++bl)/\Srt R (out++al.drop ia++bl.drop ib):=by
 have m1:=MI.manyA o ua ub sa sb (al.length-ia) m (by omega) (λi hi y hy z hz=>by
  have:=(G0o.mp hz).1
  omega)
 rw [show ia+(al.length-ia)=al.length by omega,G0K (by rw [G0X];exact G0k _)] at m1
 have m2:=MI.manyB o ua ub sa sb (bl.length-ib) m1 (by omega) (λi hi y hy z hz=>by
  have:=(G0o.mp hz).1
  omega)
 rw [show ib+(bl.length-ib)=bl.length by omega,G0K (l:=bl.drop ib) (by rw [G0X];exact G0k _)] at m2
 exact m2.all
theorem MI.lastA {ia ib:Nat} {out:List κ} (m:MI R al bl ia ib out) (o:Ordd U R) (ua: ∀x∈al,U x) (ub: ∀x∈bl,U x) (sa:Srt R al) (sb:Srt R bl) (ha:ia+1=al.length) (hb:ib<=bl.length) (h: ∀y∈bl,∀z,al[al.length-1]? =some z->R y z=true):(out++bl.drop ib++al.drop ia).Perm (al++bl)/\Srt R (out++bl.drop ib++al.drop ia):=by
 have m2:=MI.manyB o ua ub sa sb (bl.length-ib) m (by omega) (λi hi y hy z hz=>h y (G0i hy) z (by rw [<-ha];exact hz))
 rw [show ib+(bl.length-ib)=bl.length by omega,G0K (by rw [G0X];exact G0k _)] at m2
 have m1:=MI.manyA o ua ub sa sb (al.length-ia) m2 (by omega) (λi hi y hy z hz=>by
  have:=(G0o.mp hz).1
  omega)
 rw [show ia+(al.length-ia)=al.length by omega,G0K (l:=al.drop ia) (by rw [G0X];exact G0k _)] at m1
 exact m1.all
end
section
variable {prog:Program} {w:World} {A:Around} {E:Value->Shared->Prop} {J:Shared->Prop} {κ:SortKind} {U:Keyed->Prop} {R:Keyed->Keyed->Bool}
theorem Tm.rule {σ:Type} {x:String} {Q:Unit->σ->Prop} {st:σ} (q:Q () st):Tm prog w A E J (liftM (PySem.rule x):StateT σ Sem Unit) Q st:=λs j=>by
 show wpAny _ _ ((StateT.lift _:StateT σ Sem _).run st) _ _ _
 rw [StateT.run_lift]
 exact wpAny_bind (G3k (G0j ⟨q,j⟩))
theorem Tm.modify {σ:Type} {f:σ->σ} {Q:Unit->σ->Prop} {st:σ} (q:Q () (f st)):Tm prog w A E J (_root_.modify f:StateT σ Sem PUnit) Q st:=λs j=>by
 rw [StateT.run_modify]
 exact G0j ⟨q,j⟩
def mLo:Array Keyed->Array Keyed->StateT SortSt Sem (Array Keyed):=sortPriv% PySem.Builtin.mergeLo
def Gal (st st' :SortSt):Prop:=kindOf st' =kindOf st/\arrOf st' =arrOf st/\pendingOf st' =pendingOf st/\failedOf st' =failedOf st
theorem Gal.refl (st:SortSt):Gal st st:=⟨rfl,rfl,rfl,rfl⟩
theorem jef (a:Array Keyed) (i:Nat):(a.extract i).toList=a.toList.drop i:=by
 rw [G11,List.extract_eq_drop_take]
 exact G0K (by simp)
theorem jhn (a:Array Keyed) (i k:Nat):(a.extract i (i+k)).toList=(a.toList.drop i).take k:=by
 rw [G11,List.extract_eq_drop_take,G3z]
def jco (R:Keyed->Keyed->Bool) (a b c:Array Keyed):Prop:=c.toList.Perm (a.toList++b.toList)/\Srt R c.toList
structure Two (U:Keyed->Prop) (R:Keyed->Keyed->Bool) (a b:Array Keyed):Prop where
 o:Ordd U R
 ua: ∀x∈a.toList,U x
 ub: ∀x∈b.toList,U x
 sa:Srt R a.toList
 sb:Srt R b.toList
 last: ∀y∈b.toList,∀z,a.toList[a.toList.length-1]? =some z->R y z=true
abbrev MA (R:Keyed->Keyed->Bool) (a b:Array Keyed) (ia ib:Nat) (out:Array Keyed):Prop:=MI R a.toList b.toList ia ib out.toList
section
variable {a b out:Array Keyed} {ia ib:Nat}
theorem MA.done (t:Two U R a b) (m:MA R a b ia ib out) (ha:ia<=a.size) (hb:ib<=b.size) (h:ia=a.size\/ib=b.size):jco R a b (out++a.extract ia++b.extract ib):=by
 have:=MI.done m t.o t.ua t.ub t.sa t.sb (by simpa using ha) (by simpa using hb) (by simpa using h)
 unfold jco
 rw [G0Z,G0Z,jef,jef]
 exact this
theorem MA.lastA (t:Two U R a b) (m:MA R a b ia ib out) (ha:ia+1=a.size) (hb:ib<=b.size):jco R a b (out++b.extract ib++a.extract ia):=by
 have:=MI.lastA m t.o t.ua t.ub t.sa t.sb (by simpa using ha) (by simpa using hb) t.last
 unfold jco
 rw [G0Z,G0Z,jef,jef]
 exact this
theorem MA.pushB (t:Two U R a b) {y:Keyed} (m:MA R a b ia ib out) (hy:b.toList[ib]? =some y) (lt: ∀z,a.toList[ia]? =some z->R y z=true):MA R a b ia (ib+1) (out.push y):=by
 have:=MI.pushB m t.o t.ua t.ub t.sa t.sb hy lt
 show MI R _ _ _ _ (out.push y).toList
 rw [G2m];exact this
theorem MA.pushA (t:Two U R a b) {y:Keyed} (m:MA R a b ia ib out) (hy:a.toList[ia]? =some y) (ge: ∀z,b.toList[ib]? =some z->R z y=false):MA R a b (ia+1) ib (out.push y):=by
 have:=MI.pushA m t.o t.ua t.ub t.sa t.sb hy ge
 show MI R _ _ _ _ (out.push y).toList
 rw [G2m];exact this
theorem MA.manyA (t:Two U R a b) (m:MA R a b ia ib out) (k:Nat) (hk:ia+k<=a.size) (h: ∀i,i<k-> ∀y,a.toList[ia+i]? =some y-> ∀z,b.toList[ib]? =some z->R z y=false):MA R a b (ia+k) ib (out++a.extract ia (ia+k)):=by
 have:=MI.manyA t.o t.ua t.ub t.sa t.sb k m (by simpa using hk) h
 show MI R _ _ _ _ (out++a.extract ia (ia+k)).toList
 rw [G0Z,jhn];exact this
theorem MA.manyB (t:Two U R a b) (m:MA R a b ia ib out) (k:Nat) (hk:ib+k<=b.size) (h: ∀i,i<k-> ∀y,b.toList[ib+i]? =some y-> ∀z,a.toList[ia]? =some z->R y z=true):MA R a b ia (ib+k) (out++b.extract ib (ib+k)):=by
 have:=MI.manyB t.o t.ua t.ub t.sa t.sb k m (by simpa using hk) h
 show MI R _ _ _ _ (out++b.extract ib (ib+k)).toList
 rw [G0Z,jhn];exact this
end
theorem jci {left:Bool} {key x:Keyed} {arr:Array Keyed} {base i:Nat} (h:arr.toList[base+i]? =some x):byd R left key arr base i=if left=true then R x key else !R key x:=by
 unfold byd
 rw [<-G06,h]
theorem jeI {l:List Keyed} (s:Srt R l) (o:Ordd U R) (u: ∀x∈l,U x) {i j:Nat} {x y:Keyed} (hij:i<=j) (hx:l[i]? =some x) (hy:l[j]? =some y):R y x=false:=by
 by_cases z:i=j
 ·subst z
  rw [hx] at hy;injection hy with hy;subst hy
  exact o.refl (u x (G0i hx))
 ·obtain⟨h1,e1⟩:=G0o.mp hx
  obtain⟨h2,e2⟩:=G0o.mp hy
  have:=G2p.mp s i j h1 h2 (by omega)
  rw [e1,e2] at this;exact this
theorem jeJ {arr:Array Keyed} {i:Nat} (h:i<arr.size): ∃x,arr.toList[i]? =some x/\arr[i]? =some x:=⟨arr[i],by simp [h],by simp [h]⟩
theorem jqW {arr:Array Keyed} {y:Keyed} {base n hint:Nat} {st:SortSt} {Q:Option Nat->SortSt->Prop} (ak:jgB prog w A J κ U R) (kd:kindOf st=κ) (o:Ordd U R) (u: ∀x∈arr.toList,U x) (s:Srt R arr.toList) (uy:U y) (hn:base+n<=arr.size) (hh:hint<n)
 (q: ∀k,k<=n->(∀i,i<k-> ∀x,arr.toList[base+i]? =some x->R y x=false)->(∀i,k<=i->i<n-> ∀x,arr.toList[base+i]? =some x->R y x=true)->Q (some k) st):Tm prog w A E J (gal false y arr base n hint) Q st:=by
 refine jjr ak kd uy (λi hi=> ?_) (λi j hij hj h=> ?_) hh (λk k1 k2 k3=>q k k1 (λi hi x hx=> ?_) (λi h1 h2 x hx=> ?_))
 ·obtain⟨x,lx,ex⟩:=jeJ (show base+i<arr.size by omega)
  exact⟨x,ex,u x (G0i lx)⟩
 ·obtain⟨x,lx,_⟩:=jeJ (show base+i<arr.size by omega)
  obtain⟨z,lz,_⟩:=jeJ (show base+j<arr.size by omega)
  rw [jci lz] at h
  rw [jci lx]
  have hz:R y z=false:=by simpa using h
  have:=o.trans (u x (G0i lx)) (u z (G0i lz)) uy (jeI s o u (by omega) lx lz) hz
  simp [this]
 ·have:=k2 i hi
  rw [jci hx] at this
  simpa using this
 ·have:=k3 i h1 h2
  rw [jci hx] at this
  simpa using this
theorem jpj {arr:Array Keyed} {y:Keyed} {base n hint:Nat} {st:SortSt} {Q:Option Nat->SortSt->Prop} (ak:jgB prog w A J κ U R) (kd:kindOf st=κ) (o:Ordd U R) (u: ∀x∈arr.toList,U x) (s:Srt R arr.toList) (uy:U y) (hn:base+n<=arr.size) (hh:hint<n)
 (q: ∀k,k<=n->(∀i,i<k-> ∀x,arr.toList[base+i]? =some x->R x y=true)->(∀i,k<=i->i<n-> ∀x,arr.toList[base+i]? =some x->R x y=false)->Q (some k) st):Tm prog w A E J (gal true y arr base n hint) Q st:=by
 refine jjr ak kd uy (λi hi=> ?_) (λi j hij hj h=> ?_) hh (λk k1 k2 k3=>q k k1 (λi hi x hx=> ?_) (λi h1 h2 x hx=> ?_))
 ·obtain⟨x,lx,ex⟩:=jeJ (show base+i<arr.size by omega)
  exact⟨x,ex,u x (G0i lx)⟩
 ·obtain⟨x,lx,_⟩:=jeJ (show base+i<arr.size by omega)
  obtain⟨z,lz,_⟩:=jeJ (show base+j<arr.size by omega)
  rw [jci lz] at h
  rw [jci lx]
  have hz:R z y=true:=by simpa using h
  rcases o.neg z x y (u z (G0i lz)) (u x (G0i lx)) uy hz with v|v
  ·rw [jeI s o u (by omega) lx lz] at v;cases v
  ·simp [v]
 ·have:=k2 i hi
  rw [jci hx] at this
  simpa using this
 ·have:=k3 i h1 h2
  rw [jci hx] at this
  simpa using this
theorem joN {a b:Array Keyed} {st:SortSt} {Q:Array Keyed->SortSt->Prop} (ak:jgB prog w A J κ U R) (kd:kindOf st=κ) (t:Two U R a b)
 (na:1<=a.size) (nb:1<=b.size) (first: ∀y z,b.toList[0]? =some y->a.toList[0]? =some z->R y z=true)
 (q: ∀c st',Gal st st' ->jco R a b c->Q c st'):Tm prog w A E J (mLo a b) Q st:=by
 have gb: ∀i,i<b.size-> ∃y,b[i]? =some y/\b.toList[i]? =some y/\U y:=λi hi=>⟨b[i],by simp [hi],by simp [hi],t.ub _ (by simp)⟩
 have ga: ∀i,i<a.size-> ∃y,a[i]? =some y/\a.toList[i]? =some y/\U y:=λi hi=>⟨a[i],by simp [hi],by simp [hi],t.ua _ (by simp)⟩
 unfold mLo
 refine .bind (.rule ?_)
 obtain⟨b0,eb0,lb0,ub0⟩:=gb 0 (by omega)
 refine .bind (.elem eb0 ?_)
 have m0:MA R a b 0 1 #[b0]:=MA.pushB t (out:= #[]) (MI.start _ _) lb0 (λz hz=>first _ z lb0 hz)
 dsimp only
 by_cases z1:1=b.size
 ·rw [if_pos (by simpa using z1)]
  exact .pure (q _ _ (Gal.refl st) (MA.done t m0 (G1l _) (by omega) (.inr z1)))
 rw [if_neg (by simpa using z1)]
 by_cases z2:0+1=a.size
 ·rw [if_pos (by simpa using z2)]
  exact .pure (q _ _ (Gal.refl st) (MA.lastA t m0 z2 (by omega)))
 rw [if_neg (by simpa using z2)]
 refine .bind (.get ?_)
 refine .bind (Tm.mono (Tm.range (λi c st' =>Gal st st' /\c.1=none/\MA R a b c.2.2.1 c.2.2.2.1 c.2.1/\c.2.2.1+1<a.size/\c.2.2.2.1<b.size/\i+1<=c.2.2.1+c.2.2.2.1)
  (Q:=λc st' =>Gal st st' /\ ∃r,c.1=some r/\jco R a b r) (Nat.zero_le _) ⟨Gal.refl st,rfl,m0,by dsimp only;omega,by dsimp only;omega,by dsimp only;omega⟩ ?_ ?_) ?_)
 ·rintro i ⟨r,out,ia,ib,mg⟩ st1 hi ⟨gl,hr,m,h1,h2,h3⟩
  dsimp only at hr m h1 h2 h3 ⊢
  subst hr
  refine .bind (Tm.mono (Tm.range (λj c st' =>Gal st st' /\c.1=none/\MA R a b c.2.2.1 c.2.2.2.1 c.2.1/\c.2.2.1+1<a.size/\c.2.2.2.1<b.size/\ia+ib+j<=c.2.2.1+c.2.2.2.1)
   (Q:=λc st' =>Gal st st' /\((∃r,c.1=some r/\jco R a b r)\/(c.1=none/\MA R a b c.2.2.1 c.2.2.2.1 c.2.1/\c.2.2.1+1<a.size/\c.2.2.2.1<b.size/\ia+ib+1<=c.2.2.1+c.2.2.2.1))) (Nat.zero_le _) ⟨gl,rfl,m,h1,h2,by dsimp only;omega⟩ ?_ ?_) ?_)
  ·clear m h1 h2
   rintro j ⟨r,out,ja,jb,ac,bc⟩ st2 hj ⟨gl2,hr,m,h1,h2,h4⟩
   dsimp only at hr m h1 h2 h4 ⊢
   subst hr
   obtain⟨y,ey,ly,uy⟩:=gb jb h2
   obtain⟨x,ex,lx,ux⟩:=ga ja (by omega)
   refine .bind (.elem ey (.bind (.elem ex (.bind (.lt ak (gl2.1.trans kd) uy ux ?_)))))
   dsimp only
   cases hb:R y x with
   |true=>
    rw [if_pos rfl]
    refine .bind (.elem ey ?_)
    have m1:=MA.pushB t m ly (λz hz=>by rw [lx] at hz;injection hz with hz;rw [<-hz];exact hb)
    by_cases c1:jb+1=b.size
    ·rw [if_pos (by simpa using c1)]
     exact .pure ⟨gl2,.inl ⟨_,rfl,MA.done t m1 (by omega) (by omega) (.inr c1)⟩⟩
    rw [if_neg (by simpa using c1)]
    split
    ·exact .pure ⟨gl2,.inr ⟨rfl,m1,h1,by dsimp only;omega,by dsimp only;omega⟩⟩
    ·exact .pure ⟨gl2,rfl,m1,h1,by dsimp only;omega,by dsimp only;omega⟩
   |false=>
    rw [if_neg (by decide)]
    refine .bind (.elem ex ?_)
    have m1:=MA.pushA t m lx (λz hz=>by rw [ly] at hz;injection hz with hz;rw [<-hz];exact hb)
    by_cases c1:ja+1+1=a.size
    ·rw [if_pos (by simpa using c1)]
     exact .pure ⟨gl2,.inl ⟨_,rfl,MA.lastA t m1 c1 (by omega)⟩⟩
    rw [if_neg (by simpa using c1)]
    split
    ·exact .pure ⟨gl2,.inr ⟨rfl,m1,by dsimp only;omega,h2,by dsimp only;omega⟩⟩
    ·exact .pure ⟨gl2,rfl,m1,by dsimp only;omega,h2,by dsimp only;omega⟩
  ·rintro ⟨r,out,ja,jb,ac,bc⟩ st2 ⟨gl2,hr,m,h1,h2,h4⟩
   dsimp only at h1 h2 h4
   omega
  ·clear m h1 h2
   rintro ⟨r,out,ja,jb,ac,bc⟩ st2 ⟨gl2,⟨c,hr,wh⟩|⟨hr,m,h1,h2,h4⟩⟩
   ·dsimp only at hr ⊢
    subst hr
    exact .pure ⟨gl2,c,rfl,wh⟩
   dsimp only at hr m h1 h2 h4 ⊢
   subst hr
   refine .bind (.rule ?_)
   refine .bind (Tm.mono (Tm.range (λj c st' =>Gal st st' /\c.1=none/\MA R a b c.2.2.1 c.2.2.2.1 c.2.1/\c.2.2.1+1<a.size/\c.2.2.2.1<b.size/\ja+jb+j<=c.2.2.1+c.2.2.2.1)
    (Q:=λc st' =>Gal st st' /\((∃r,c.1=some r/\jco R a b r)\/(c.1=none/\MA R a b c.2.2.1 c.2.2.2.1 c.2.1/\c.2.2.1+1<a.size/\c.2.2.2.1<b.size/\ja+jb<=c.2.2.1+c.2.2.2.1))) (Nat.zero_le _) ⟨gl2,rfl,m,h1,h2,by dsimp only;omega⟩ ?_ ?_) ?_)
   ·clear m h1 h2 gl2
    rintro j ⟨r,out,pa,pb,mg,ac,bc⟩ st2 hj ⟨gl2,hr,m,h1,h2,h5⟩
    dsimp only at hr m h1 h2 h5 ⊢
    subst hr
    obtain⟨y,ey,ly,uy⟩:=gb pb h2
    by_cases zg:mg>1
    all_goals
     first|rw [if_pos zg]|rw [if_neg zg]
     refine .bind (Tm.modify ?_)
     refine .bind (.elem ey (.bind (jqW ak (gl2.1.trans kd) t.o t.ua t.sa uy (by omega) (by omega) λk k1 k2 k3=> ?_)))
     dsimp only
     have m1:=MA.manyA t m k (by omega) (λi hi x hx z hz=>by rw [ly] at hz;injection hz with hz;rw [<-hz];exact k2 i hi x hx)
     by_cases kz:k>0
     ·rw [if_pos kz]
      by_cases c1:pa+k+1=a.size
      ·rw [if_pos (by simpa using c1)]
       exact .pure ⟨gl2,.inl ⟨_,rfl,MA.lastA t m1 c1 (by omega)⟩⟩
      rw [if_neg (by simpa using c1)]
      by_cases c2:pa+k=a.size
      ·rw [if_pos (by simpa using c2)]
       exact .pure ⟨gl2,.inl ⟨_,rfl,MA.done t m1 (by omega) (by omega) (.inl c2)⟩⟩
      rw [if_neg (by simpa using c2)]
      have P1:pa+k+1<a.size:=by omega
      have M2:=MA.pushB t m1 ly (λx hx=>k3 k (G0k _) (by omega) x hx)
      refine .bind (.elem ey ?_)
      by_cases c3:pb+1=b.size
      ·rw [if_pos (by simpa using c3)]
       exact .pure ⟨gl2,.inl ⟨_,rfl,MA.done t M2 (by omega) (by omega) (.inr c3)⟩⟩
      rw [if_neg (by simpa using c3)]
      obtain⟨x,ex,lx,ux⟩:=ga (pa+k) (by omega)
      refine .bind (.elem ex (.bind (jpj ak (gl2.1.trans kd) t.o t.ub t.sb ux (by omega) (by omega) λk' q1 q2 q3=> ?_)))
      dsimp only
      have M3:=MA.manyB t M2 k' (by omega) (λi hi y' hy z hz=>by rw [lx] at hz;injection hz with hz;rw [<-hz];exact q2 i hi y' hy)
      by_cases kz' :k' >0
      ·rw [if_pos kz']
       by_cases c4:pb+1+k' =b.size
       ·rw [if_pos (by simpa using c4)]
        exact .pure ⟨gl2,.inl ⟨_,rfl,MA.done t M3 (by omega) (by omega) (.inr c4)⟩⟩
       rw [if_neg (by simpa using c4)]
       refine .bind (.elem ex ?_)
       have M4:=MA.pushA t M3 lx (λz hz=>q3 k' (G0k _) (by omega) z hz)
       by_cases c5:pa+k+1+1=a.size
       ·rw [if_pos (by simpa using c5)]
        exact .pure ⟨gl2,.inl ⟨_,rfl,MA.lastA t M4 c5 (by omega)⟩⟩
       rw [if_neg (by simpa using c5)]
       by_cases c6:(decide (k<7)&&decide (k' <7))=true
       ·rw [if_pos c6]
        exact .pure ⟨gl2,.inr ⟨rfl,M4,by dsimp only;omega,by dsimp only;omega,by dsimp only;omega⟩⟩
       ·rw [if_neg c6]
        exact .pure ⟨gl2,rfl,M4,by dsimp only;omega,by dsimp only;omega,by dsimp only;omega⟩
      ·rw [if_neg kz']
       refine .bind (.elem ex ?_)
       have M4:=MA.pushA t M2 lx (λz hz=>q3 0 (by omega) (by omega) z hz)
       by_cases c5:pa+k+1+1=a.size
       ·rw [if_pos (by simpa using c5)]
        exact .pure ⟨gl2,.inl ⟨_,rfl,MA.lastA t M4 c5 (by omega)⟩⟩
       rw [if_neg (by simpa using c5)]
       by_cases c6:(decide (k<7)&&decide (k' <7))=true
       ·rw [if_pos c6]
        exact .pure ⟨gl2,.inr ⟨rfl,M4,by dsimp only;omega,by dsimp only;omega,by dsimp only;omega⟩⟩
       ·rw [if_neg c6]
        exact .pure ⟨gl2,rfl,M4,by dsimp only;omega,by dsimp only;omega,by dsimp only;omega⟩
     ·rw [if_neg kz]
      have k0:k=0:=by omega
      have P1:pa+1<a.size:=h1
      have M2:=MA.pushB t m ly (λx hx=>k3 0 (by omega) (by omega) x hx)
      refine .bind (.elem ey ?_)
      by_cases c3:pb+1=b.size
      ·rw [if_pos (by simpa using c3)]
       exact .pure ⟨gl2,.inl ⟨_,rfl,MA.done t M2 (by omega) (by omega) (.inr c3)⟩⟩
      rw [if_neg (by simpa using c3)]
      obtain⟨x,ex,lx,ux⟩:=ga (pa) (by omega)
      refine .bind (.elem ex (.bind (jpj ak (gl2.1.trans kd) t.o t.ub t.sb ux (by omega) (by omega) λk' q1 q2 q3=> ?_)))
      dsimp only
      have M3:=MA.manyB t M2 k' (by omega) (λi hi y' hy z hz=>by rw [lx] at hz;injection hz with hz;rw [<-hz];exact q2 i hi y' hy)
      by_cases kz' :k' >0
      ·rw [if_pos kz']
       by_cases c4:pb+1+k' =b.size
       ·rw [if_pos (by simpa using c4)]
        exact .pure ⟨gl2,.inl ⟨_,rfl,MA.done t M3 (by omega) (by omega) (.inr c4)⟩⟩
       rw [if_neg (by simpa using c4)]
       refine .bind (.elem ex ?_)
       have M4:=MA.pushA t M3 lx (λz hz=>q3 k' (G0k _) (by omega) z hz)
       by_cases c5:pa+1+1=a.size
       ·rw [if_pos (by simpa using c5)]
        exact .pure ⟨gl2,.inl ⟨_,rfl,MA.lastA t M4 c5 (by omega)⟩⟩
       rw [if_neg (by simpa using c5)]
       by_cases c6:(decide (k<7)&&decide (k' <7))=true
       ·rw [if_pos c6]
        exact .pure ⟨gl2,.inr ⟨rfl,M4,by dsimp only;omega,by dsimp only;omega,by dsimp only;omega⟩⟩
       ·rw [if_neg c6]
        exact .pure ⟨gl2,rfl,M4,by dsimp only;omega,by dsimp only;omega,by dsimp only;omega⟩
      ·rw [if_neg kz']
       refine .bind (.elem ex ?_)
       have M4:=MA.pushA t M2 lx (λz hz=>q3 0 (by omega) (by omega) z hz)
       by_cases c5:pa+1+1=a.size
       ·rw [if_pos (by simpa using c5)]
        exact .pure ⟨gl2,.inl ⟨_,rfl,MA.lastA t M4 c5 (by omega)⟩⟩
       rw [if_neg (by simpa using c5)]
       by_cases c6:(decide (k<7)&&decide (k' <7))=true
       ·rw [if_pos c6]
        exact .pure ⟨gl2,.inr ⟨rfl,M4,by dsimp only;omega,by dsimp only;omega,by dsimp only;omega⟩⟩
       ·rw [if_neg c6]
        exact .pure ⟨gl2,rfl,M4,by dsimp only;omega,by dsimp only;omega,by dsimp only;omega⟩
   ·rintro ⟨r,out,pa,pb,mg,ac,bc⟩ st3 ⟨gl3,hr,m,h1,h2,h5⟩
    dsimp only at h1 h2 h5
    omega
   ·clear m h1 h2
    rintro ⟨r,out,pa,pb,mg,ac,bc⟩ st3 ⟨gl3,⟨c,hr,wh⟩|⟨hr,m,h1,h2,h5⟩⟩
    ·dsimp only at hr ⊢
     subst hr
     exact .pure ⟨gl3,c,rfl,wh⟩
    dsimp only at hr m h1 h2 h5 ⊢
    subst hr
    refine .bind (Tm.modify ?_)
    exact .pure ⟨gl3,rfl,m,h1,h2,by dsimp only;omega⟩
 ·rintro ⟨r,out,ia,ib,mg⟩ st1 ⟨gl,hr,m,h1,h2,h3⟩
  dsimp only at h1 h2 h3
  omega
 ·rintro ⟨r,out,ia,ib,mg⟩ st1 ⟨gl,c,hr,wh⟩
  dsimp only at hr ⊢
  subst hr
  exact .pure (q c st1 gl wh)
end
section
variable {prog:Program} {w:World} {A:Around} {E:Value->Shared->Prop} {J:Shared->Prop} {κ:SortKind} {U:Keyed->Prop} {R:Keyed->Keyed->Bool}
abbrev Flp (R:Keyed->Keyed->Bool):Keyed->Keyed->Bool:=λx y=>R y x
theorem Ordd.flip (o:Ordd U R):Ordd U (Flp R):=⟨λx y ux uy h=>o.asym y x uy ux h,λx y z ux uy uz h=>(o.neg z y x uz uy ux h).symm⟩
theorem ja8 {l:List Keyed} (s:Srt R l):Srt (Flp R) l.reverse:=G2S.mpr s
theorem jho {l:List Keyed} (s:Srt (Flp R) l):Srt R l.reverse:=G2S.mpr s
theorem jjs {l:List Keyed} {n:Nat} (h1:1<=n) (hn:n<=l.length):l.reverse[l.length-n]? =l[n-1]? :=by
 rw [G2k (by omega)]
 congr 1;omega
theorem jbw {l:List Keyed} {z:Keyed} {n:Nat} (hn:n<=l.length) (h:l.reverse[l.length-n]? =some z):1<=n/\l[n-1]? =some z:=by
 have:=(G0o.mp h).1
 rw [G0L] at this
 have n1:1<=n:=by omega
 exact⟨n1,by rw [<-jjs n1 hn];exact h⟩
theorem jdv (l:List Keyed) {n:Nat} (hn:n<=l.length):l.reverse.drop (l.length-n)=(l.take n).reverse:=by
 rw [List.drop_reverse]
 congr 2;omega
def MH (R:Keyed->Keyed->Bool) (a b:Array Keyed) (na nb:Nat) (out:Array Keyed):Prop:=MI (Flp R) b.toList.reverse a.toList.reverse (b.toList.length-nb) (a.toList.length-na) out.toList
structure TwoH (U:Keyed->Prop) (R:Keyed->Keyed->Bool) (a b:Array Keyed):Prop where
 o:Ordd U R
 ua: ∀x∈a.toList,U x
 ub: ∀x∈b.toList,U x
 sa:Srt R a.toList
 sb:Srt R b.toList
 first: ∀z∈a.toList,∀y,b.toList[0]? =some y->R y z=true
section
variable {a b out:Array Keyed} {na nb:Nat}
theorem TwoH.fa (t:TwoH U R a b): ∀x∈a.toList.reverse,U x:=λx hx=>t.ua x (G1a.mp hx)
theorem TwoH.fb (t:TwoH U R a b): ∀x∈b.toList.reverse,U x:=λx hx=>t.ub x (G1a.mp hx)
theorem MH.start (a b:Array Keyed):MH R a b a.toList.length b.toList.length #[]:=by
 unfold MH;rw [Nat.sub_self,Nat.sub_self];exact MI.start _ _
theorem MH.pushA (t:TwoH U R a b) {y:Keyed} (m:MH R a b na nb out) (h1:1<=na) (hn:na<=a.toList.length) (hb:nb<=b.toList.length) (hy:a.toList[na-1]? =some y) (lt: ∀z,1<=nb->b.toList[nb-1]? =some z->R z y=true):MH R a b (na-1) nb (out.push y):=by
 have:=MI.pushB m t.o.flip t.fb t.fa (ja8 t.sb) (ja8 t.sa) (by rw [jjs h1 hn];exact hy) (λz hz=>lt z (jbw hb hz).1 (jbw hb hz).2)
 unfold MH
 rw [G2m,show a.toList.length-(na-1)=a.toList.length-na+1 by omega];exact this
theorem MH.pushB (t:TwoH U R a b) {y:Keyed} (m:MH R a b na nb out) (h1:1<=nb) (hn:nb<=b.toList.length) (ha:na<=a.toList.length) (hy:b.toList[nb-1]? =some y) (ge: ∀z,1<=na->a.toList[na-1]? =some z->R y z=false):MH R a b na (nb-1) (out.push y):=by
 have:=MI.pushA m t.o.flip t.fb t.fa (ja8 t.sb) (ja8 t.sa) (by rw [jjs h1 hn];exact hy) (λz hz=>ge z (jbw ha hz).1 (jbw ha hz).2)
 unfold MH
 rw [G2m,show b.toList.length-(nb-1)=b.toList.length-nb+1 by omega];exact this
theorem jdw (a:Array Keyed) (n:Nat):(a.extract 0 n).toList=a.toList.take n:=by
 rw [G11,List.extract_eq_drop_take,List.drop_zero,Nat.sub_zero]
theorem MH.done (t:TwoH U R a b) (m:MH R a b na nb out) (ha:na<=a.toList.length) (hb:nb<=b.toList.length) (h:na=0\/nb=0):jco R a b (a.extract 0 na++b.extract 0 nb++out.reverse):=by
 have:=MI.done m t.o.flip t.fb t.fa (ja8 t.sb) (ja8 t.sa) (by rw [G0L];omega) (by rw [G0L];omega) (by rw [G0L,G0L];omega)
 rw [jdv _ ha,jdv _ hb] at this
 have e:(a.extract 0 na++b.extract 0 nb++out.reverse).toList=(out.toList++(b.toList.take nb).reverse++(a.toList.take na).reverse).reverse:=by
  rw [G0Z,G0Z,jdw,jdw,G2X]
  simp [G0l]
 unfold jco
 rw [e]
 refine⟨(G1j _).trans (this.1.trans ?_),jho this.2⟩
 exact(List.Perm.append (G1j _) (G1j _)).trans G2j
theorem MH.firstB (t:TwoH U R a b) (m:MH R a b na nb out) (ha:na<=a.toList.length) (hb:nb=1) (hb' :1<=b.toList.length):jco R a b (b.extract 0 nb++a.extract 0 na++out.reverse):=by
 subst hb
 have:=MI.lastA m t.o.flip t.fb t.fa (ja8 t.sb) (ja8 t.sa) (by rw [G0L];omega) (by rw [G0L];omega) (λz hz y hy=>by
  rw [G0L] at hy
  have:=(jbw hb' hy).2
  exact t.first z (G1a.mp hz) y (by simpa using this))
 rw [jdv _ ha,jdv _ hb'] at this
 have e:(b.extract 0 1++a.extract 0 na++out.reverse).toList=(out.toList++(a.toList.take na).reverse++(b.toList.take 1).reverse).reverse:=by
  rw [G0Z,G0Z,jdw,jdw,G2X]
  simp [G0l]
 unfold jco
 rw [e]
 refine⟨(G1j _).trans (this.1.trans ?_),jho this.2⟩
 exact(List.Perm.append (G1j _) (G1j _)).trans G2j
theorem jhp (l:List Keyed) {p n:Nat} (h1:p<=n) (hn:n<=l.length):(l.reverse.drop (l.length-n)).take (n-p)=((l.drop p).take (n-p)).reverse:=by
 rw [jdv l hn,List.take_reverse,G0E,G3M,G3G hn,show n-(n-p)=p by omega]
theorem jjt (a:Array Keyed) {p n:Nat} (h:p<=n):(a.extract p n).reverse.toList=((a.toList.drop p).take (n-p)).reverse:=by
 rw [G2X,G11,List.extract_eq_drop_take]
theorem MH.manyA (t:TwoH U R a b) (m:MH R a b na nb out) (p:Nat) (hp:p<=na) (hn:na<=a.toList.length) (hb:nb<=b.toList.length) (h: ∀i,p<=i->i<na-> ∀y,a.toList[i]? =some y-> ∀z,1<=nb->b.toList[nb-1]? =some z->R z y=true):MH R a b p nb (out++(a.extract p na).reverse):=by
 have:=MI.manyB t.o.flip t.fb t.fa (ja8 t.sb) (ja8 t.sa) (na-p) m (by rw [G0L];omega) (λi hi y hy z hz=>by
  rw [G2k (by omega)] at hy
  exact h _ (by omega) (by omega) y hy z (jbw hb hz).1 (jbw hb hz).2)
 rw [jhp _ hp hn] at this
 unfold MH
 rw [G0Z,jjt _ hp,show a.toList.length-p=a.toList.length-na+(na-p) by omega]
 exact this
theorem MH.manyB (t:TwoH U R a b) (m:MH R a b na nb out) (p:Nat) (hp:p<=nb) (hn:nb<=b.toList.length) (ha:na<=a.toList.length) (h: ∀i,p<=i->i<nb-> ∀y,b.toList[i]? =some y-> ∀z,1<=na->a.toList[na-1]? =some z->R y z=false):MH R a b na p (out++(b.extract p nb).reverse):=by
 have:=MI.manyA t.o.flip t.fb t.fa (ja8 t.sb) (ja8 t.sa) (nb-p) m (by rw [G0L];omega) (λi hi y hy z hz=>by
  rw [G2k (by omega)] at hy
  exact h _ (by omega) (by omega) y hy z (jbw ha hz).1 (jbw ha hz).2)
 rw [jhp _ hp hn] at this
 unfold MH
 rw [G0Z,jjt _ hp,show b.toList.length-p=b.toList.length-nb+(nb-p) by omega]
 exact this
end
def mHi:Array Keyed->Array Keyed->StateT SortSt Sem (Array Keyed):=sortPriv% PySem.Builtin.mergeHi
theorem joO {a b:Array Keyed} {st:SortSt} {Q:Array Keyed->SortSt->Prop} (ak:jgB prog w A J κ U R) (kd:kindOf st=κ) (t:TwoH U R a b)
 (na:1<=a.size) (nb:1<=b.size) (last: ∀y z,b.toList[b.size-1]? =some y->a.toList[a.size-1]? =some z->R y z=true)
 (q: ∀c st',Gal st st' ->jco R a b c->Q c st'):Tm prog w A E J (mHi a b) Q st:=by
 have gb: ∀i,i<b.size-> ∃y,b[i]? =some y/\b.toList[i]? =some y/\U y:=λi hi=>⟨b[i],by simp [hi],by simp [hi],t.ub _ (by simp)⟩
 have ga: ∀i,i<a.size-> ∃y,a[i]? =some y/\a.toList[i]? =some y/\U y:=λi hi=>⟨a[i],by simp [hi],by simp [hi],t.ua _ (by simp)⟩
 have la:a.toList.length=a.size:=by simp
 have lb:b.toList.length=b.size:=by simp
 unfold mHi
 refine .bind (.rule ?_)
 obtain⟨a0,ea0,la0,ua0⟩:=ga (a.size-1) (by omega)
 refine .bind (.elem ea0 ?_)
 have m0:MH R a b (a.size-1) b.size #[a0]:=by
  have m:=MH.start (R:=R) a b
  rw [la,lb] at m
  exact MH.pushA t m na (by omega) (by omega) la0 (λz _ hz=>last z a0 hz la0)
 dsimp only
 by_cases z1:a.size-1=0
 ·rw [if_pos (by simpa using z1)]
  exact .pure (q _ _ (Gal.refl st) (MH.done t m0 (by omega) (by omega) (.inl z1)))
 rw [if_neg (by simpa using z1)]
 by_cases z2:b.size=1
 ·rw [if_pos (by simpa using z2)]
  exact .pure (q _ _ (Gal.refl st) (MH.firstB t m0 (by omega) z2 (by omega)))
 rw [if_neg (by simpa using z2)]
 refine .bind (.get ?_)
 refine .bind (Tm.mono (Tm.range (λi c st' =>Gal st st' /\c.1=none/\MH R a b c.2.1 c.2.2.1 c.2.2.2.1/\1<=c.2.1/\c.2.1<=a.size/\2<=c.2.2.1/\c.2.2.1<=b.size/\i+1+c.2.1+c.2.2.1<=a.size+b.size)
  (Q:=λc st' =>Gal st st' /\ ∃r,c.1=some r/\jco R a b r) (Nat.zero_le _) ⟨Gal.refl st,rfl,m0,by dsimp only;omega,by dsimp only;omega,by dsimp only;omega,by dsimp only;omega,by dsimp only;omega⟩ ?_ ?_) ?_)
 ·rintro i ⟨r,ia,ib,out,mg⟩ st1 hi ⟨gl,hr,m,h1,g1,h2,g2,h3⟩
  dsimp only at hr m h1 g1 h2 g2 h3 ⊢
  subst hr
  refine .bind (Tm.mono (Tm.range (λj c st' =>Gal st st' /\c.1=none/\MH R a b c.2.1 c.2.2.1 c.2.2.2.1/\1<=c.2.1/\c.2.1<=a.size/\2<=c.2.2.1/\c.2.2.1<=b.size/\j+c.2.1+c.2.2.1<=ia+ib)
   (Q:=λc st' =>Gal st st' /\((∃r,c.1=some r/\jco R a b r)\/(c.1=none/\MH R a b c.2.1 c.2.2.1 c.2.2.2.1/\1<=c.2.1/\c.2.1<=a.size/\2<=c.2.2.1/\c.2.2.1<=b.size/\1+c.2.1+c.2.2.1<=ia+ib))) (Nat.zero_le _) ⟨gl,rfl,m,h1,g1,h2,g2,by dsimp only;omega⟩ ?_ ?_) ?_)
  ·clear m h1 h2
   rintro j ⟨r,ja,jb,out,ac,bc⟩ st2 hj ⟨gl2,hr,m,h1,f1,h2,f2,h4⟩
   dsimp only at hr m h1 f1 h2 f2 h4 ⊢
   subst hr
   obtain⟨y,ey,ly,uy⟩:=gb (jb-1) (by omega)
   obtain⟨x,ex,lx,ux⟩:=ga (ja-1) (by omega)
   refine .bind (.elem ey (.bind (.elem ex (.bind (.lt ak (gl2.1.trans kd) uy ux ?_)))))
   dsimp only
   cases hb:R y x with
   |true=>
    rw [if_pos rfl]
    refine .bind (.elem ex ?_)
    have m1:=MH.pushA t m h1 (by omega) (by omega) lx (λz _ hz=>by rw [ly] at hz;injection hz with hz;rw [<-hz];exact hb)
    by_cases c1:ja-1=0
    ·rw [if_pos (by simpa using c1)]
     exact .pure ⟨gl2,.inl ⟨_,rfl,MH.done t m1 (by omega) (by omega) (.inl c1)⟩⟩
    rw [if_neg (by simpa using c1)]
    split
    ·exact .pure ⟨gl2,.inr ⟨rfl,m1,by dsimp only;omega,by dsimp only;omega,h2,f2,by dsimp only;omega⟩⟩
    ·exact .pure ⟨gl2,rfl,m1,by dsimp only;omega,by dsimp only;omega,h2,f2,by dsimp only;omega⟩
   |false=>
    rw [if_neg (by decide)]
    refine .bind (.elem ey ?_)
    have m1:=MH.pushB t m (by omega) (by omega) (by omega) ly (λz _ hz=>by rw [lx] at hz;injection hz with hz;rw [<-hz];exact hb)
    by_cases c1:jb-1=1
    ·rw [if_pos (by simpa using c1)]
     exact .pure ⟨gl2,.inl ⟨_,rfl,MH.firstB t m1 (by omega) c1 (by omega)⟩⟩
    rw [if_neg (by simpa using c1)]
    split
    ·exact .pure ⟨gl2,.inr ⟨rfl,m1,h1,f1,by dsimp only;omega,by dsimp only;omega,by dsimp only;omega⟩⟩
    ·exact .pure ⟨gl2,rfl,m1,h1,f1,by dsimp only;omega,by dsimp only;omega,by dsimp only;omega⟩
  ·rintro ⟨r,ja,jb,out,ac,bc⟩ st2 ⟨gl2,hr,m,h1,f1,h2,f2,h4⟩
   dsimp only at h1 h2 h4
   omega
  ·clear m h1 h2
   rintro ⟨r,ja,jb,out,ac,bc⟩ st2 ⟨gl2,⟨c,hr,wh⟩|⟨hr,m,h1,f1,h2,f2,h4⟩⟩
   ·dsimp only at hr ⊢
    subst hr
    exact .pure ⟨gl2,c,rfl,wh⟩
   dsimp only at hr m h1 f1 h2 f2 h4 ⊢
   subst hr
   refine .bind (.rule ?_)
   refine .bind (Tm.mono (Tm.range (λj c st' =>Gal st st' /\c.1=none/\MH R a b c.2.1 c.2.2.1 c.2.2.2.1/\1<=c.2.1/\c.2.1<=a.size/\2<=c.2.2.1/\c.2.2.1<=b.size/\j+c.2.1+c.2.2.1<=ja+jb)
    (Q:=λc st' =>Gal st st' /\((∃r,c.1=some r/\jco R a b r)\/(c.1=none/\MH R a b c.2.1 c.2.2.1 c.2.2.2.1/\1<=c.2.1/\c.2.1<=a.size/\2<=c.2.2.1/\c.2.2.1<=b.size/\c.2.1+c.2.2.1<=ja+jb))) (Nat.zero_le _) ⟨gl2,rfl,m,h1,f1,h2,f2,by dsimp only;omega⟩ ?_ ?_) ?_)
   ·clear m gl2
    rintro j ⟨r,pa,pb,out,mg,ac,bc⟩ st2 hj ⟨gl2,hr,m,h1,f1,h2,f2,h5⟩
    dsimp only at hr m h1 f1 h2 f2 h5 ⊢
    subst hr
    obtain⟨y,ey,ly,uy⟩:=gb (pb-1) (by omega)
    by_cases zg:mg>1
    all_goals
     first|rw [if_pos zg]|rw [if_neg zg]
     refine .bind (Tm.modify ?_)
     refine .bind (.elem ey (.bind (jqW ak (gl2.1.trans kd) t.o t.ua t.sa uy (by omega) (by omega) λk k1 k2 k3=> ?_)))
     dsimp only
     have m1:=MH.manyA t m k (by omega) (by omega) (by omega) (λi hi1 hi2 x hx z hz1 hz=>by rw [ly] at hz;injection hz with hz;rw [<-hz];exact k3 i hi1 hi2 x (by rw [G1W];exact hx))
     by_cases kz:pa-k>0
     ·rw [if_pos kz]
      by_cases c1:k=0
      ·rw [if_pos (by simpa using c1)]
       exact .pure ⟨gl2,.inl ⟨_,rfl,MH.done t m1 (by omega) (by omega) (.inl c1)⟩⟩
      rw [if_neg (by simpa using c1)]
      refine .bind (.elem ey ?_)
      have M2:=MH.pushB t m1 (by omega) (by omega) (by omega) ly (λz hz1 hz=>k2 (k-1) (by omega) z (by rw [G1W];exact hz))
      by_cases c3:pb-1=1
      ·rw [if_pos (by simpa using c3)]
       exact .pure ⟨gl2,.inl ⟨_,rfl,MH.firstB t M2 (by omega) c3 (by omega)⟩⟩
      rw [if_neg (by simpa using c3)]
      obtain⟨x,ex,lx,ux⟩:=ga (k-1) (by omega)
      refine .bind (.elem ex (.bind (jpj ak (gl2.1.trans kd) t.o t.ub t.sb ux (by omega) (by omega) λk' q1 q2 q3=> ?_)))
      dsimp only
      have M3:=MH.manyB t M2 k' (by omega) (by omega) (by omega) (λi hi1 hi2 y' hy z hz1 hz=>by rw [lx] at hz;injection hz with hz;rw [<-hz];exact q3 i hi1 hi2 y' (by rw [G1W];exact hy))
      by_cases kz' :pb-1-k' >0
      ·rw [if_pos kz']
       by_cases c4:k' =1
       ·rw [if_pos (by simpa using c4)]
        exact .pure ⟨gl2,.inl ⟨_,rfl,MH.firstB t M3 (by omega) c4 (by omega)⟩⟩
       rw [if_neg (by simpa using c4)]
       by_cases c7:k' =0
       ·rw [if_pos (by simpa using c7)]
        exact .pure ⟨gl2,.inl ⟨_,rfl,MH.done t M3 (by omega) (by omega) (.inr c7)⟩⟩
       rw [if_neg (by simpa using c7)]
       refine .bind (.elem ex ?_)
       have M4:=MH.pushA t M3 (by omega) (by omega) (by omega) lx (λz hz1 hz=>q2 (k' -1) (by omega) z (by rw [G1W];exact hz))
       by_cases c5:k-1=0
       ·rw [if_pos (by simpa using c5)]
        exact .pure ⟨gl2,.inl ⟨_,rfl,MH.done t M4 (by omega) (by omega) (.inl c5)⟩⟩
       rw [if_neg (by simpa using c5)]
       by_cases c6:(decide (pa-k<7)&&decide (pb-1-k' <7))=true
       ·rw [if_pos c6]
        exact .pure ⟨gl2,.inr ⟨rfl,M4,by dsimp only;omega,by dsimp only;omega,by dsimp only;omega,by dsimp only;omega,by dsimp only;omega⟩⟩
       ·rw [if_neg c6]
        exact .pure ⟨gl2,rfl,M4,by dsimp only;omega,by dsimp only;omega,by dsimp only;omega,by dsimp only;omega,by dsimp only;omega⟩
      ·rw [if_neg kz']
       refine .bind (.elem ex ?_)
       have M4:=MH.pushA t M2 (by omega) (by omega) (by omega) lx (λz hz1 hz=>q2 ((pb-1)-1) (by omega) z (by rw [G1W];exact hz))
       by_cases c5:k-1=0
       ·rw [if_pos (by simpa using c5)]
        exact .pure ⟨gl2,.inl ⟨_,rfl,MH.done t M4 (by omega) (by omega) (.inl c5)⟩⟩
       rw [if_neg (by simpa using c5)]
       by_cases c6:(decide (pa-k<7)&&decide (pb-1-k' <7))=true
       ·rw [if_pos c6]
        exact .pure ⟨gl2,.inr ⟨rfl,M4,by dsimp only;omega,by dsimp only;omega,by dsimp only;omega,by dsimp only;omega,by dsimp only;omega⟩⟩
       ·rw [if_neg c6]
        exact .pure ⟨gl2,rfl,M4,by dsimp only;omega,by dsimp only;omega,by dsimp only;omega,by dsimp only;omega,by dsimp only;omega⟩
     ·rw [if_neg kz]
      refine .bind (.elem ey ?_)
      have M2:=MH.pushB t m (by omega) (by omega) (by omega) ly (λz hz1 hz=>k2 (pa-1) (by omega) z (by rw [G1W];exact hz))
      by_cases c3:pb-1=1
      ·rw [if_pos (by simpa using c3)]
       exact .pure ⟨gl2,.inl ⟨_,rfl,MH.firstB t M2 (by omega) c3 (by omega)⟩⟩
      rw [if_neg (by simpa using c3)]
      obtain⟨x,ex,lx,ux⟩:=ga (pa-1) (by omega)
      refine .bind (.elem ex (.bind (jpj ak (gl2.1.trans kd) t.o t.ub t.sb ux (by omega) (by omega) λk' q1 q2 q3=> ?_)))
      dsimp only
      have M3:=MH.manyB t M2 k' (by omega) (by omega) (by omega) (λi hi1 hi2 y' hy z hz1 hz=>by rw [lx] at hz;injection hz with hz;rw [<-hz];exact q3 i hi1 hi2 y' (by rw [G1W];exact hy))
      by_cases kz' :pb-1-k' >0
      ·rw [if_pos kz']
       by_cases c4:k' =1
       ·rw [if_pos (by simpa using c4)]
        exact .pure ⟨gl2,.inl ⟨_,rfl,MH.firstB t M3 (by omega) c4 (by omega)⟩⟩
       rw [if_neg (by simpa using c4)]
       by_cases c7:k' =0
       ·rw [if_pos (by simpa using c7)]
        exact .pure ⟨gl2,.inl ⟨_,rfl,MH.done t M3 (by omega) (by omega) (.inr c7)⟩⟩
       rw [if_neg (by simpa using c7)]
       refine .bind (.elem ex ?_)
       have M4:=MH.pushA t M3 (by omega) (by omega) (by omega) lx (λz hz1 hz=>q2 (k' -1) (by omega) z (by rw [G1W];exact hz))
       by_cases c5:pa-1=0
       ·rw [if_pos (by simpa using c5)]
        exact .pure ⟨gl2,.inl ⟨_,rfl,MH.done t M4 (by omega) (by omega) (.inl c5)⟩⟩
       rw [if_neg (by simpa using c5)]
       by_cases c6:(decide (pa-k<7)&&decide (pb-1-k' <7))=true
       ·rw [if_pos c6]
        exact .pure ⟨gl2,.inr ⟨rfl,M4,by dsimp only;omega,by dsimp only;omega,by dsimp only;omega,by dsimp only;omega,by dsimp only;omega⟩⟩
       ·rw [if_neg c6]
        exact .pure ⟨gl2,rfl,M4,by dsimp only;omega,by dsimp only;omega,by dsimp only;omega,by dsimp only;omega,by dsimp only;omega⟩
      ·rw [if_neg kz']
       refine .bind (.elem ex ?_)
       have M4:=MH.pushA t M2 (by omega) (by omega) (by omega) lx (λz hz1 hz=>q2 ((pb-1)-1) (by omega) z (by rw [G1W];exact hz))
       by_cases c5:pa-1=0
       ·rw [if_pos (by simpa using c5)]
        exact .pure ⟨gl2,.inl ⟨_,rfl,MH.done t M4 (by omega) (by omega) (.inl c5)⟩⟩
       rw [if_neg (by simpa using c5)]
       by_cases c6:(decide (pa-k<7)&&decide (pb-1-k' <7))=true
       ·rw [if_pos c6]
        exact .pure ⟨gl2,.inr ⟨rfl,M4,by dsimp only;omega,by dsimp only;omega,by dsimp only;omega,by dsimp only;omega,by dsimp only;omega⟩⟩
       ·rw [if_neg c6]
        exact .pure ⟨gl2,rfl,M4,by dsimp only;omega,by dsimp only;omega,by dsimp only;omega,by dsimp only;omega,by dsimp only;omega⟩
   ·rintro ⟨r,pa,pb,out,mg,ac,bc⟩ st3 ⟨gl3,hr,m,h1,f1,h2,f2,h5⟩
    dsimp only at h1 h2 h5
    omega
   ·clear m
    rintro ⟨r,pa,pb,out,mg,ac,bc⟩ st3 ⟨gl3,⟨c,hr,wh⟩|⟨hr,m,h1,f1,h2,f2,h5⟩⟩
    ·dsimp only at hr ⊢
     subst hr
     exact .pure ⟨gl3,c,rfl,wh⟩
    dsimp only at hr m h1 f1 h2 f2 h5 ⊢
    subst hr
    refine .bind (Tm.modify ?_)
    exact .pure ⟨gl3,rfl,m,h1,f1,h2,f2,by dsimp only;omega⟩
 ·rintro ⟨r,ia,ib,out,mg⟩ st1 ⟨gl,hr,m,h1,g1,h2,g2,h3⟩
  dsimp only at h1 h2 h3
  omega
 ·rintro ⟨r,ia,ib,out,mg⟩ st1 ⟨gl,c,hr,wh⟩
  dsimp only at hr ⊢
  subst hr
  exact .pure (q c st1 gl wh)
end
section
variable {prog:Program} {w:World} {A:Around} {E:Value->Shared->Prop} {J:Shared->Prop} {κ:SortKind} {U:Keyed->Prop} {R:Keyed->Keyed->Bool}
def seg (l:List Keyed) (p n:Nat):List Keyed:=(l.drop p).take n
theorem jfm {l:List Keyed} {p n i:Nat} (hi:i<n):(seg l p n)[i]? =l[p+i]? :=by
 unfold seg
 rw [G1p hi,G1o]
theorem jeK {l:List Keyed} {p n:Nat} (h:p+n<=l.length):(seg l p n).length=n:=by
 unfold seg
 rw [G0E,G0X];omega
theorem jgU {l:List Keyed} {p n:Nat} {x:Keyed} (h:x∈seg l p n):x∈l:=G04 (G0O h)
theorem jqX {left:Bool} {arr:Array Keyed} {y:Keyed} {base n hint:Nat} {st:SortSt} {Q:Option Nat->SortSt->Prop} (ak:jgB prog w A J κ U R) (kd:kindOf st=κ) (o:Ordd U R) (u: ∀x∈arr.toList,U x) (s:Srt R (seg arr.toList base n)) (uy:U y) (hn:base+n<=arr.size) (hh:hint<n)
 (q: ∀k,k<=n->(∀x∈(seg arr.toList base n).take k,(if left=true then R x y else !R y x)=true)->(∀x∈(seg arr.toList base n).drop k,(if left=true then R x y else !R y x)=false)->Q (some k) st):Tm prog w A E J (gal left y arr base n hint) Q st:=by
 have ln:arr.toList.length=arr.size:=by simp
 have sl:(seg arr.toList base n).length=n:=jeK (by omega)
 have us: ∀x∈seg arr.toList base n,U x:=λx hx=>u x (jgU hx)
 refine jjr ak kd uy (λi hi=> ?_) (λi j hij hj h=> ?_) hh (λk k1 k2 k3=>q k k1 (λx hx=> ?_) (λx hx=> ?_))
 ·obtain⟨x,lx,ex⟩:=jeJ (show base+i<arr.size by omega)
  exact⟨x,ex,u x (G0i lx)⟩
 ·obtain⟨x,lx,_⟩:=jeJ (show base+i<arr.size by omega)
  obtain⟨z,lz,_⟩:=jeJ (show base+j<arr.size by omega)
  have ux:=u x (G0i lx)
  have uz:=u z (G0i lz)
  have le:=jeI s o us hij (by rw [jfm (by omega)];exact lx) (by rw [jfm hj];exact lz)
  rw [jci lz] at h
  rw [jci lx]
  cases left with
  |true=>
   have hz:R z y=true:=by simpa using h
   rcases o.neg z x y uz ux uy hz with v|v
   ·rw [le] at v;cases v
   ·simp [v]
  |false=>
   have hz:R y z=false:=by simpa using h
   have:=o.trans ux uz uy le hz
   simp [this]
 ·obtain⟨i,hi,e⟩:=G1O hx
  rw [G0E,sl] at hi
  have lx:arr.toList[base+i]? =some x:=by
   rw [<-jfm (n:=n) (by omega),G0b (by omega),<-e,List.getElem_take]
  have:=k2 i (by omega)
  rw [jci lx] at this;exact this
 ·obtain⟨i,hi,e⟩:=G1O hx
  rw [G0X,sl] at hi
  have lx:arr.toList[base+(k+i)]? =some x:=by
   rw [<-jfm (n:=n) (by omega),G0b (by omega),<-e,List.getElem_drop]
  have:=k3 (k+i) (by omega) (by omega)
  rw [jci lx] at this;exact this
theorem jhq: ∀ (m:List Keyed) (arr:Array Keyed) (p d:Nat),p+d+m.length<=arr.size->((m.zipIdx d).foldl (λ(c:Array Keyed) (x:Keyed×Nat)=>c.setIfInBounds (p+x.2) x.1) arr).toList=arr.toList.take (p+d)++m++arr.toList.drop (p+d+m.length)
 | [],arr,p,d,_=>by simp
 |x::m,arr,p,d,h=>by
  rw [G0h] at h
  rw [List.zipIdx_cons,List.foldl_cons]
  rw [jhq m _ p (d+1) (by rw [G3s];omega)]
  have hl:arr.toList.length=arr.size:=by simp
  rw [G29]
  have e1:(arr.toList.set (p+d) x).take (p+(d+1))=arr.toList.take (p+d)++ [x]:=by
   rw [show p+(d+1)=p+d+1 by omega,G1d,G1Q (by omega)]
   rw [List.take_set_of_le (G0k _)]
   rfl
  have e2:(arr.toList.set (p+d) x).drop (p+(d+1)+m.length)=arr.toList.drop (p+d+(m.length+1)):=by
   rw [List.drop_set_of_lt (by omega),show p+(d+1)+m.length=p+d+(m.length+1) by omega]
  rw [e1,e2,G0h]
  simp [G0l]
end
section
variable {prog:Program} {w:World} {A:Around} {E:Value->Shared->Prop} {J:Shared->Prop} {κ:SortKind} {U:Keyed->Prop} {R:Keyed->Keyed->Bool}
theorem Tm.set {σ:Type} {st st' :σ} {Q:PUnit->σ->Prop} (q:Q ⟨⟩ st'):Tm prog w A E J (MonadStateOf.set st' :StateT σ Sem PUnit) Q st:=λs j=>by
 show wpAny _ _ ((StateT.set st' :StateT σ Sem PUnit).run st) _ _ _
 exact G0j ⟨q,j⟩
theorem jju (a:Array Keyed) {p n:Nat} (h:p<=n):(a.extract p n).toList=seg a.toList p (n-p):=by
 rw [G11,List.extract_eq_drop_take];rfl
theorem jgV (o:Ordd U R) {l:List Keyed} (u: ∀x∈l,U x) (s:Srt R l) {z:Keyed} (hz:l[l.length-1]? =some z) {x:Keyed} (hx:x∈l):R z x=false:=by
 obtain⟨i,hi,e⟩:=G1O hx
 exact jeI s o u (show i<=l.length-1 by omega) (by rw [G0b hi,e]) hz
theorem jhr (o:Ordd U R) {l:List Keyed} (u: ∀x∈l,U x) (s:Srt R l) {z:Keyed} (hz:l[0]? =some z) {x:Keyed} (hx:x∈l):R x z=false:=by
 obtain⟨i,hi,e⟩:=G1O hx
 exact jeI s o u (G1l _) hz (by rw [G0b hi,e])
theorem jeL (o:Ordd U R) {X Y c:List Keyed} {k k2:Nat} {y0 x9:Keyed} (uX: ∀x∈X,U x) (uY: ∀x∈Y,U x) (sX:Srt R X) (sY:Srt R Y) (hy:Y[0]? =some y0) (hx:X[X.length-1]? =some x9)
 (f1: ∀x∈X.take k,R y0 x=false) (g2: ∀y∈Y.drop k2,R y x9=false) (hp:c.Perm (X.drop k++Y.take k2)) (sc:Srt R c):(X.take k++c++Y.drop k2).Perm (X++Y)/\Srt R (X.take k++c++Y.drop k2):=by
 have uy0:=uY y0 (G0i hy)
 have ux9:=uX x9 (G0i hx)
 constructor
 ·have e:X++Y=X.take k++(X.drop k++Y.take k2)++Y.drop k2:=by
   rw [<-G0l,G0J,G0l,G0J]
  rw [e]
  exact(hp.append_left _).append_right _
 ·have inX: ∀x∈X.take k,∀z∈X.drop k,R z x=false:=λx hx z hz=>by
   have:Srt R (X.take k++X.drop k):=by rw [G0J];exact sX
   exact(G0N.mp this).2.2 x hx z hz
  have inY: ∀x∈Y.take k2,∀z∈Y.drop k2,R z x=false:=λx hx z hz=>by
   have:Srt R (Y.take k2++Y.drop k2):=by rw [G0J];exact sY
   exact(G0N.mp this).2.2 x hx z hz
  have xy: ∀x∈X.take k,∀y∈Y,R y x=false:=λx hx y hy' =>o.trans (uX x (G0O hx)) uy0 (uY y hy') (f1 x hx) (jhr o uY sY hy hy')
  have yx: ∀x∈X,∀y∈Y.drop k2,R y x=false:=λx hx' y hy' =>o.trans (uX x hx') ux9 (uY y (G04 hy')) (jgV o uX sX hx hx') (g2 y hy')
  have xc: ∀x∈X.take k,∀z∈c,R z x=false:=λx hx z hz=>by
   rcases G0p.mp (hp.mem_iff.mp hz) with v|v
   ·exact inX x hx z v
   ·exact xy x hx z (G0O v)
  refine G0N.mpr ⟨G0N.mpr ⟨sX.sublist (G1L _ _),sc,xc⟩,sY.sublist (G1z _ _),λx hx y hy=> ?_⟩
  rcases G0p.mp hx with v|v
  ·exact xy x v y (G04 hy)
  ·rcases G0p.mp (hp.mem_iff.mp v) with v|v
   ·exact yx x (G04 v) y hy
   ·exact inY x v y hy
theorem jgh (l:List Keyed) {p n m:Nat}:l=l.take p++(seg l p n++seg l (p+n) m)++l.drop (p+n+m):=by
 unfold seg
 have e1:(l.drop (p+n)).take m++l.drop (p+n+m)=l.drop (p+n):=by
  rw [show l.drop (p+n+m)=(l.drop (p+n)).drop m by rw [G1Y],G0J]
 have e2:(l.drop p).take n++l.drop (p+n)=l.drop p:=by
  rw [show l.drop (p+n)=(l.drop p).drop n by rw [G1Y],G0J]
 rw [G0l,G0l,e1,e2,G0J]
theorem joP {st:SortSt} {Q:Bool->SortSt->Prop} {i sa na pw sb nb pw2:Nat} (ak:jgB prog w A J κ U R) (kd:kindOf st=κ) (o:Ordd U R) (u: ∀x∈(arrOf st).toList,U x) (p1:(pendingOf st)[i]? =some (sa,na,pw)) (p2:(pendingOf st)[i+1]? =some (sb,nb,pw2))
 (hs:sa+na=sb) (n1:1<=na) (n2:1<=nb) (hz:sb+nb<=(arrOf st).size) (s1:Srt R (seg (arrOf st).toList sa na)) (s2:Srt R (seg (arrOf st).toList sb nb)) (hf:failedOf st=none)
 (q: ∀st' Z,kindOf st' =κ->failedOf st' =none->pendingOf st' =((pendingOf st).setIfInBounds i (sa,na+nb,pw)).eraseIdxIfInBounds (i+1)->(arrOf st').toList=(arrOf st).toList.take sa++Z++(arrOf st).toList.drop (sb+nb)->Z.Perm (seg (arrOf st).toList sa na++seg (arrOf st).toList sb nb)->Srt R Z->Q true st'):
 Tm prog w A E J (mergeAt' i) Q st:=by
 have ln:(arrOf st).toList.length=(arrOf st).size:=by simp
 unfold mergeAt'
 refine .bind (.get ?_)
 dsimp only
 rw [p1,p2]
 dsimp only
 refine .bind (Tm.set ?_)
 subst hs
 have lX:(seg (arrOf st).toList sa na).length=na:=jeK (by omega)
 have lY:(seg (arrOf st).toList (sa+na) nb).length=nb:=jeK (by omega)
 have uX: ∀x∈seg (arrOf st).toList sa na,U x:=λx hx=>u x (jgU hx)
 have uY: ∀x∈seg (arrOf st).toList (sa+na) nb,U x:=λx hx=>u x (jgU hx)
 obtain⟨y0,ly0,ey0⟩:=jeJ (arr:=arrOf st) (show sa+na<(arrOf st).size by omega)
 obtain⟨x9,lx9,ex9⟩:=jeJ (arr:=arrOf st) (show sa+(na-1)<(arrOf st).size by omega)
 have hy:(seg (arrOf st).toList (sa+na) nb)[0]? =some y0:=by rw [jfm (by omega)];exact ly0
 have hx:(seg (arrOf st).toList sa na)[(seg (arrOf st).toList sa na).length-1]? =some x9:=by rw [lX,jfm (by omega)];exact lx9
 have uy0:=u y0 (G0i ly0)
 have ux9:=u x9 (G0i lx9)
 have c3:=jgh (arrOf st).toList (p:=sa) (n:=na) (m:=nb)
 have same: ∀ (st' :SortSt),arrOf st' =arrOf st-> ∀k k2,(∀x∈(seg (arrOf st).toList sa na).take k,R y0 x=false)->(∀y∈(seg (arrOf st).toList (sa+na) nb).drop k2,R y x9=false)->(na<=k\/k2=0)->Srt R (seg (arrOf st).toList sa na++seg (arrOf st).toList (sa+na) nb):=λst' e k k2 f1 g2 h=>by
  have pl:(((seg (arrOf st).toList sa na).drop k++(seg (arrOf st).toList (sa+na) nb).take k2)).Perm ((seg (arrOf st).toList sa na).drop k++(seg (arrOf st).toList (sa+na) nb).take k2):= .refl _
  have sc:Srt R ((seg (arrOf st).toList sa na).drop k++(seg (arrOf st).toList (sa+na) nb).take k2):=by
   rcases h with h|h
   ·rw [G1m (by omega),G0v];exact s2.sublist (G1L _ _)
   ·rw [h,G3L,G1t];exact s1.sublist (G1z _ _)
  have:=(jeL o uX uY s1 s2 hy hx f1 g2 pl sc).2
  rw [<-G0l,G0J,G0l,G0J] at this
  exact this
 refine .bind (.elem ey0 (.bind (jqX (left:=false) ak kd o u s1 uy0 (show sa+na<=(arrOf st).size by omega) (by omega) λk k1 f1 f2=> ?_)))
 have f1: ∀x∈(seg (arrOf st).toList sa na).take k,R y0 x=false:=λx hx=>by simpa using f1 x hx
 have f2: ∀x∈(seg (arrOf st).toList sa na).drop k,R y0 x=true:=λx hx=>by simpa using f2 x hx
 dsimp only
 by_cases z1:na-k=0
 ·rw [if_pos (by simpa using z1)]
  refine .pure (q _ (seg (arrOf st).toList sa na++seg (arrOf st).toList (sa+na) nb) kd hf rfl c3 (.refl _) (same st rfl k nb f1 (λy hy=> ?_) (.inl (by omega))))
  rw [G1m (by omega)] at hy;cases hy
 rw [if_neg (by simpa using z1)]
 refine .bind (.elem (show _=some x9 by rw [show sa+k+(na-k)-1=sa+(na-1) by omega];exact ex9) (.bind (jqX (left:=true) ak kd o u s2 ux9 (show sa+na+nb<=(arrOf st).size by omega) (by omega) λk2 j1 g1 g2=> ?_)))
 have g1: ∀y∈(seg (arrOf st).toList (sa+na) nb).take k2,R y x9=true:=λx hx=>by simpa using g1 x hx
 have g2: ∀y∈(seg (arrOf st).toList (sa+na) nb).drop k2,R y x9=false:=λx hx=>by simpa using g2 x hx
 dsimp only
 by_cases z2:k2=0
 ·rw [if_pos (by simpa using z2)]
  exact .pure (q _ _ kd hf rfl c3 (.refl _) (same st rfl k k2 f1 g2 (.inr z2)))
 rw [if_neg (by simpa using z2)]
 have eX:((arrOf st).extract (sa+k) (sa+na)).toList=(seg (arrOf st).toList sa na).drop k:=by
  rw [jju _ (by omega)];unfold seg
  rw [G3M,G1Y,show sa+na-(sa+k)=na-k by omega]
 have eY:((arrOf st).extract (sa+na) (sa+na+k2)).toList=(seg (arrOf st).toList (sa+na) nb).take k2:=by
  rw [jju _ (by omega)];unfold seg
  rw [G3N,show sa+na+k2-(sa+na)=min k2 nb by omega]
 have sx:((arrOf st).extract (sa+k) (sa+na)).size=na-k:=by rw [<-G0V,eX,G0X,lX]
 have sy:((arrOf st).extract (sa+na) (sa+na+k2)).size=k2:=by rw [<-G0V,eY,G0E,lY];omega
 have hx2: ∀z,((seg (arrOf st).toList sa na).drop k)[((seg (arrOf st).toList sa na).drop k).length-1]? =some z->z=x9:=λz hz' =>by
  rw [G0X,G1o,lX,show k+(na-k-1)=na-1 by omega] at hz'
  rw [lX] at hx
  rw [hx] at hz';injection hz' with hz';exact hz'.symm
 have hy2: ∀z,((seg (arrOf st).toList (sa+na) nb).take k2)[0]? =some z->z=y0:=λz hz' =>by
  rw [G1p (by omega),hy] at hz';injection hz' with hz';exact hz'.symm
 have put: ∀c:Array Keyed,jco R ((arrOf st).extract (sa+k) (sa+na)) ((arrOf st).extract (sa+na) (sa+na+k2)) c->(c.toList.zipIdx.foldl (λ(d:Array Keyed) (x:Keyed×Nat)=>d.setIfInBounds (sa+k+x.2) x.1) (arrOf st)).toList=(arrOf st).toList.take sa++((seg (arrOf st).toList sa na).take k++c.toList++(seg (arrOf st).toList (sa+na) nb).drop k2)++(arrOf st).toList.drop (sa+na+nb):=λc wh=>by
  have lc:c.toList.length=na-k+k2:=by
   rw [wh.1.length_eq,G0a,G0V,G0V,sx,sy]
  have:=jhq c.toList (arrOf st) (sa+k) 0 (by omega)
  rw [this,lc,G15,show sa+k+(na-k+k2)=sa+na+k2 by omega]
  have e1:(arrOf st).toList.take (sa+k)=(arrOf st).toList.take sa++(seg (arrOf st).toList sa na).take k:=by
   unfold seg
   rw [G3N,G3G k1,List.take_add]
  have e2:(arrOf st).toList.drop (sa+na+k2)=(seg (arrOf st).toList (sa+na) nb).drop k2++(arrOf st).toList.drop (sa+na+nb):=by
   unfold seg
   have h1:((arrOf st).toList.drop (sa+na)).drop k2=(((arrOf st).toList.drop (sa+na)).take nb++((arrOf st).toList.drop (sa+na)).drop nb).drop k2:=by rw [G0J]
   rw [G1E (by rw [G0E,G0X];omega),G1Y,G1Y] at h1
   exact h1
  rw [e1,e2]
  simp [G0l]
 have jr: ∀c:Array Keyed,jco R ((arrOf st).extract (sa+k) (sa+na)) ((arrOf st).extract (sa+na) (sa+na+k2)) c->_:=λc wh=>jeL o (c:=c.toList) uX uY s1 s2 hy hx f1 g2 (by have:=wh.1;rw [eX,eY] at this;exact this) wh.2
 by_cases z3:na-k<=k2
 ·rw [if_pos z3]
  refine .bind (joN ak kd ⟨o,λx hx=> ?_,λx hx=> ?_,?_,?_,λy hy z hz' => ?_⟩ (by rw [sx];omega) (by rw [sy];omega) (λy z hy' hz' => ?_) λc st' gl wh=> .bind (Tm.modify (.bind (.get (.pure ?_)))))
  ·rw [eX] at hx;exact uX x (G04 hx)
  ·rw [eY] at hx;exact uY x (G0O hx)
  ·rw [eX];exact s1.sublist (G1z _ _)
  ·rw [eY];exact s2.sublist (G1L _ _)
  ·rw [eY] at hy
   rw [eX] at hz'
   rw [hx2 z hz'];exact g1 y hy
  ·rw [eY] at hy'
   rw [eX] at hz'
   rw [hy2 y hy'];exact f2 z (G0i hz')
  ·have e:failedOf st' =none:=gl.2.2.2.trans hf
   show Q (failedOf st').isNone _
   rw [e]
   refine q _ _ (gl.1.trans kd) e gl.2.2.1 ?_ (jr c wh).1 (jr c wh).2
   have ea:arrOf st' =arrOf st:=gl.2.1
   show (c.toList.zipIdx.foldl _ (arrOf st')).toList=_
   rw [ea];exact put c wh
 ·rw [if_neg z3]
  refine .bind (joO ak kd ⟨o,λx hx=> ?_,λx hx=> ?_,?_,?_,λz hz' y hy' => ?_⟩ (by rw [sx];omega) (by rw [sy];omega) (λy z hy' hz' => ?_) λc st' gl wh=> .bind (Tm.modify (.bind (.get (.pure ?_)))))
  ·rw [eX] at hx;exact uX x (G04 hx)
  ·rw [eY] at hx;exact uY x (G0O hx)
  ·rw [eX];exact s1.sublist (G1z _ _)
  ·rw [eY];exact s2.sublist (G1L _ _)
  ·rw [eY] at hy'
   rw [eX] at hz'
   rw [hy2 y hy'];exact f2 z hz'
  ·rw [eY] at hy'
   rw [eX,sx] at hz'
   have:=hx2 z (by rw [G0X,lX];exact hz')
   rw [this];exact g1 y (G0i hy')
  ·have e:failedOf st' =none:=gl.2.2.2.trans hf
   show Q (failedOf st').isNone _
   rw [e]
   refine q _ _ (gl.1.trans kd) e gl.2.2.1 ?_ (jr c wh).1 (jr c wh).2
   have ea:arrOf st' =arrOf st:=gl.2.1
   show (c.toList.zipIdx.foldl _ (arrOf st')).toList=_
   rw [ea];exact put c wh
end
section
variable {prog:Program} {w:World} {A:Around} {E:Value->Shared->Prop} {J:Shared->Prop} {κ:SortKind} {U:Keyed->Prop} {R:Keyed->Keyed->Bool}
def Lies (st:SortSt) (P Z S:List Keyed):Prop:=(arrOf st).toList=P++Z++S
def Arr (st st' :SortSt):Prop:=kindOf st' =kindOf st/\pendingOf st' =pendingOf st/\failedOf st' =failedOf st/\gallopOf st' =gallopOf st
theorem Arr.refl (st:SortSt):Arr st st:=⟨rfl,rfl,rfl,rfl⟩
theorem jkE (xs:Array Keyed) (P Z S:List Keyed) (h:xs.toList=P++Z++S):(mirror xs P.length (P.length+Z.length) ((P.length+Z.length-P.length) / 2)).toList=P++Z.reverse++S:=by
 have hl:xs.size=P.length+Z.length+S.length:=by rw [<-G0V,h];simp [G3A]
 refine G3t λk=> ?_
 rw [G06,getElem?_mirror_all (by omega)]
 by_cases c:P.length<=k/\k<P.length+Z.length
 ·rw [if_pos c,<-G06,h,G0l,G0l]
  have e1:(P++(Z++S))[P.length+(P.length+Z.length)-1-k]? =Z[P.length+Z.length-1-k]? :=by
   rw [G0q (by omega),G0I (by omega)]
   congr 1;omega
  have e2:(P++(Z.reverse++S))[k]? =Z[P.length+Z.length-1-k]? :=by
   rw [G0q (by omega),G0I (by rw [G0L];omega),G2k (by omega)]
   congr 1;omega
  rw [e1,e2]
 ·rw [if_neg c,<-G06,h,G0l,G0l]
  by_cases d:k<P.length
  ·rw [G0I d,G0I d]
  ·have e1:(P++(Z++S))[k]? =S[k-P.length-Z.length]? :=by
    rw [G0q (by omega),G0q (by omega)]
   have e2:(P++(Z.reverse++S))[k]? =S[k-P.length-Z.length]? :=by
    rw [G0q (by omega),G0q (by rw [G0L];omega),G0L]
   rw [e1,e2]
theorem Tm.rev {st:SortSt} {P Z S:List Keyed} {i j:Nat} {Q:Unit->SortSt->Prop} (h:Lies st P Z S) (hi:i=P.length) (hj:j=P.length+Z.length) (q: ∀st',Arr st st' ->Lies st' P Z.reverse S->Q () st'):Tm prog w A E J (reverseSlice' i j) Q st:=by
 rw [reverseSlice'_eq]
 subst hi hj
 exact .modify (q _ ⟨rfl,rfl,rfl,rfl⟩ (jkE _ P Z S h))
theorem Tm.ltAt {st:SortSt} {x y:Keyed} {i j:Nat} {Q:Option Bool->SortSt->Prop} (ak:jgB prog w A J κ U R) (kd:kindOf st=κ) (hx:(arrOf st).toList[i]? =some x) (hy:(arrOf st).toList[j]? =some y) (ux:U x) (uy:U y) (q:Q (some (R x y)) st):Tm prog w A E J (ltAt' i j) Q st:=by
 rw [ltAt'_eq]
 exact .bind (.get (.bind (.elem (by rw [<-G06];exact hx) (.bind (.elem (by rw [<-G06];exact hy) (.lt ak kd ux uy q))))))
abbrev Dsc (R:Keyed->Keyed->Bool) (l:List Keyed):Prop:=l.Pairwise λx y=>R x y=false
theorem jfK {l:List Keyed} (d:Dsc R l):Srt R l.reverse:=G2S.mpr d
theorem jdx (o:Ordd U R) {l:List Keyed} {x y:Keyed} (u: ∀z∈l++ [x],U z) (uy:U y) (s:Srt R (l++ [x])) (h:R y x=false):Srt R (l++ [x]++ [y]):=by
 refine G0N.mpr ⟨s,G00 _ _,λz hz v hv=> ?_⟩
 rw [G0g.mp hv]
 have ux:=u x (by simp)
 rcases G0p.mp hz with w|w
 ·exact o.trans (u z hz) ux uy ((G0N.mp s).2.2 z w x (by simp)) h
 ·rw [G0g.mp w];exact h
theorem jkF {l m:List Keyed} (s:Dsc R (l++m)) (alike: ∀x∈m,∀y∈m,R x y=false):Dsc R (l++m.reverse):=by
 obtain⟨a,b,c⟩:=G0N.mp s
 refine G0N.mpr ⟨a,?_,λx hx y hy=>c x hx y (G1a.mp hy)⟩
 rw [G2p]
 intro i j hi hj _
 exact alike _ (G1a.mp (G1g hi)) _ (G1a.mp (G1g hj))
end
section
variable {prog:Program} {w:World} {A:Around} {E:Value->Shared->Prop} {J:Shared->Prop} {κ:SortKind} {U:Keyed->Prop} {R:Keyed->Keyed->Bool}
theorem Arr.trans {a b c:SortSt} (x:Arr a b) (y:Arr b c):Arr a c:=⟨y.1.trans x.1,y.2.1.trans x.2.1,y.2.2.1.trans x.2.2.1,y.2.2.2.trans x.2.2.2⟩
theorem Lies.rest {st:SortSt} {P Z S:List Keyed} (h:Lies st P Z S) {i:Nat}:(arrOf st).toList[P.length+Z.length+i]? =S[i]? :=by
 rw [h,G0q (by rw [G0a];omega),G0a]
 congr 1;omega
theorem Lies.end {st:SortSt} {P W S:List Keyed} {x:Keyed} (h:Lies st P (W++ [x]) S):(arrOf st).toList[P.length+W.length]? =some x:=by
 rw [h,G0l,G0q (by omega),G0l,G0q (by omega)]
 simp
theorem jbz {l:List Keyed} (h:1<=l.length): ∃W x,l=W++ [x]:=by
 rcases List.eq_nil_or_concat l with e|⟨W,x,e⟩
 ·subst e;simp at h
 ·exact⟨W,x,by rw [e,List.concat_eq_append]⟩
structure Fall (R:Keyed->Keyed->Bool) (T Z1 Z2:List Keyed) (n:Nat):Prop where
 len:(Z1++Z2).length=n
 perm:(Z1++Z2).Perm (T.take n)
 dsc:Dsc R (Z1++Z2)
 alike: ∀x∈Z2,∀y∈Z2,R x y=false
 ne:1<=Z2.length
theorem Fall.turn {T Z1 Z2:List Keyed} {n:Nat} (f:Fall R T Z1 Z2 n):Fall R T Z1 Z2.reverse n:=
 ⟨by have:=f.len;simp only [G0a,G0L] at this ⊢;exact this,((G1j Z2).append_left Z1).trans f.perm,jkF f.dsc f.alike,λx hx y hy=>f.alike x (G1a.mp hx) y (G1a.mp hy),by rw [G0L];exact f.ne⟩
theorem Fall.mem {T Z1 Z2:List Keyed} {n:Nat} (f:Fall R T Z1 Z2 n) {x:Keyed} (h:x∈Z1++Z2):x∈T:=G0O (f.perm.mem_iff.mp h)
theorem jbE {T Z:List Keyed} {n:Nat} {y:Keyed} (h:Z.Perm (T.take n)) (hy:T[n]? =some y):(Z++ [y]).Perm (T.take (n+1)):=by
 rw [jb3 hy];exact h.append_right _
theorem Fall.below (o:Ordd U R) {T Z1 Z2:List Keyed} {n:Nat} {x y:Keyed} (u: ∀x∈T,U x) (f:Fall R T Z1 Z2 n) (hx:x∈Z2) (hy:T[n]? =some y) (h:R y x=true):Fall R T (Z1++Z2) [y] (n+1):=by
 have uy:=u y (G0i hy)
 have ux:=u x (f.mem (G0p.mpr (.inr hx)))
 have xy:=o.asym y x uy ux h
 refine⟨by rw [G0a,f.len];rfl,jbE f.perm hy,?_,λa ha b hb=> ?_,by simp⟩
 ·refine G0N.mpr ⟨f.dsc,G00 _ _,λz hz v hv=> ?_⟩
  rw [G0g.mp hv]
  have uz:=u z (f.mem hz)
  have zx:R z x=false:=by
   rcases G0p.mp hz with w|w
   ·exact(G0N.mp f.dsc).2.2 z w x hx
   ·exact f.alike z w x hx
  exact o.trans uy ux uz xy zx
 ·rw [G0g.mp ha,G0g.mp hb];exact o.refl uy
theorem Fall.like (o:Ordd U R) {T Z1 Z2:List Keyed} {n:Nat} {x y:Keyed} (u: ∀x∈T,U x) (f:Fall R T Z1 Z2 n) (hx:x∈Z2) (hy:T[n]? =some y) (h:R y x=false) (h' :R x y=false):Fall R T Z1 (Z2++ [y]) (n+1):=by
 have uy:=u y (G0i hy)
 have ux:=u x (f.mem (G0p.mpr (.inr hx)))
 have zy: ∀z∈Z1++Z2,R z y=false:=λz hz=>by
  have uz:=u z (f.mem hz)
  have zx:R z x=false:=by
   rcases G0p.mp hz with w|w
   ·exact(G0N.mp f.dsc).2.2 z w x hx
   ·exact f.alike z w x hx
  exact o.trans uy ux uz h' zx
 have yz: ∀z∈Z2,R y z=false:=λz hz=>o.trans (u z (f.mem (G0p.mpr (.inr hz)))) ux uy (f.alike x hx z hz) h
 refine⟨by rw [<-G0l,G0a,f.len];rfl,by rw [<-G0l];exact jbE f.perm hy,?_,λa ha b hb=> ?_,by simp⟩
 ·rw [<-G0l]
  refine G0N.mpr ⟨f.dsc,G00 _ _,λz hz v hv=> ?_⟩
  rw [G0g.mp hv];exact zy z hz
 ·rcases G0p.mp ha with p|p<;>rcases G0p.mp hb with r|r
  ·exact f.alike a p b r
  ·rw [G0g.mp r];exact zy a (G0p.mpr (.inr p))
  ·rw [G0g.mp p];exact yz b r
  ·rw [G0g.mp p,G0g.mp r];exact o.refl uy
theorem jkG {st:SortSt} {Q:Option Nat->SortSt->Prop} {P T:List Keyed} (ak:jgB prog w A J κ U R) (kd:kindOf st=κ) (o:Ordd U R) (u: ∀x∈T,U x) (h:Lies st P [] T) (h1:1<=T.length)
 (q: ∀n st' Z,1<=n->n<=T.length->Arr st st' ->Lies st' P Z (T.drop n)->Z.Perm (T.take n)->Srt R Z->Q (some n) st'):Tm prog w A E J (countRun' P.length T.length) Q st:=by
 have at0: ∀ {i:Nat} {j:Nat},j=P.length+i->(arrOf st).toList[j]? =T[i]? :=λ{i j} e=>by
  have:=h.rest (i:=i)
  rw [G0m,G15] at this
  rw [e];exact this
 have tl: ∀n,n<T.length-> ∃y,T[n]? =some y/\U y:=λn hn=>⟨T[n],G0b hn,u _ (G1g hn)⟩
 unfold countRun'
 refine .bind (Tm.mono (Tm.range (λi c st' =>st' =st/\c=(none,i)/\Srt R (T.take i)/\1<=i) (Q:=λc st' =>st' =st/\c.1=none/\1<=c.2/\c.2<=T.length/\Srt R (T.take c.2)/\(c.2<T.length-> ∀x y,T[c.2-1]? =some x->T[c.2]? =some y->R y x=true)) h1 ⟨rfl,rfl,?_,G0k _⟩ ?_ ?_) ?_)
 ·obtain⟨W,x,e⟩: ∃x r,T=x::r:=by cases T with|nil=>simp at h1|cons x r=>exact⟨x,r,rfl⟩
  rw [e];exact G00 _ _
 ·rintro i ⟨r,m⟩ _ hi ⟨rfl,hc,sr,i1⟩
  injection hc with hr hm
  subst hr hm
  dsimp only
  obtain⟨y,hy,uy⟩:=tl m hi
  obtain⟨x,hx,ux⟩:=tl (m-1) (by omega)
  refine .bind (.ltAt ak kd (show _=some y by rw [at0 rfl];exact hy) (show _=some x by rw [at0 (i:=m-1) (by omega)];exact hx) uy ux ?_)
  dsimp only
  cases hb:R y x with
  |true=>
   rw [if_pos rfl]
   refine .pure ⟨rfl,rfl,i1,by dsimp only;omega,sr,λ_ a b ha hb' => ?_⟩
   dsimp only at ha hb'
   rw [hx] at ha;rw [hy] at hb'
   injection ha with ha;injection hb' with hb'
   rw [<-ha,<-hb'];exact hb
  |false=>
   rw [if_neg (by decide)]
   refine .pure ⟨rfl,rfl,?_,by omega⟩
   have e1:T.take m=T.take (m-1)++ [x]:=by
    have:=jb3 hx
    rw [show m-1+1=m by omega] at this;exact this
   rw [jb3 hy]
   rw [e1] at sr ⊢
   exact jdx o (λz hz=>u z (G0O (i:=m) (by rw [e1];exact hz))) uy sr hb
 ·rintro ⟨r,m⟩ _ ⟨rfl,hc,sr,i1⟩
  injection hc with hr hm
  subst hr hm
  exact⟨rfl,rfl,i1,G0k _,sr,λz=>absurd z (G1n _)⟩
 ·rintro ⟨r,n⟩ st' ⟨rfl,hr,n1,n2,sr,br⟩
  dsimp only at hr n1 n2 sr br ⊢
  subst hr
  dsimp only
  have LT: ∀m,Lies st' P (T.take m) (T.drop m):=λm=>by
   have:=h
   unfold Lies at this ⊢
   rw [this,G1t,G0l,G0J]
  by_cases z1:n=T.length
  ·rw [if_pos (by simpa using z1)]
   exact .pure (q n _ _ n1 n2 (Arr.refl _) (LT n) (.refl _) sr)
  rw [if_neg (by simpa using z1)]
  obtain⟨y,hy,uy⟩:=tl n (by omega)
  obtain⟨x,hx,ux⟩:=tl (n-1) (by omega)
  have yx:=br (by omega) x y hx hy
  have ex:T.take n=T.take (n-1)++ [x]:=by
   have:=jb3 hx
   rw [show n-1+1=n by omega] at this;exact this
  have lt:(T.take n).length=n:=by rw [G0E];omega
  have dy:T.drop n=y::T.drop (n+1):=jar hy
  by_cases z2:n>1
  ·rw [if_pos z2]
   obtain⟨x0,hx0,ux0⟩:=tl 0 (by omega)
   refine .bind (.ltAt ak kd (show _=some x0 by rw [at0 (i:=0) (j:=P.length) (by omega)];exact hx0) (show _=some x by rw [at0 (i:=n-1) (by omega)];exact hx) ux0 ux ?_)
   dsimp only
   cases hr0:R x0 x with
   |true=>
    rw [if_pos rfl]
    exact .pure (q n _ _ n1 n2 (Arr.refl _) (LT n) (.refl _) sr)
   |false=>
    rw [if_neg (by decide)]
    have alike: ∀p∈T.take n,∀r∈T.take n,R p r=false:=λp hp r hr=>by
     have up:=u p (G0O hp)
     have ur:=u r (G0O hr)
     have us: ∀z∈T.take n,U z:=λz hz=>u z (G0O hz)
     have a1:R p x0=false:=jhr o us sr (z:=x0) (by rw [G1p (by omega)];exact hx0) hp
     have a2:R x r=false:=jgV o us sr (z:=x) (by rw [lt,G1p (by omega)];exact hx) hr
     have a3:R p x=false:=by
      have:=jgV o us sr (z:=x) (by rw [lt,G1p (by omega)];exact hx) hp
      cases hpx:R p x with
      |false=>rfl
      |true=>
       rcases o.neg p x0 x up ux0 ux hpx with v|v
       ·rw [a1] at v;cases v
       ·rw [hr0] at v;cases v
     exact o.trans ur ux up a2 a3
    have F0:Fall R T [] (T.take n).reverse n:=Fall.turn ⟨lt,.refl _,G2p.mpr λi j hi hj _=>alike _ (G1g hi) _ (G1g hj),alike,by rw [lt];exact n1⟩
    have F1:=F0.below o u (x:=x) (G1a.mpr (by rw [ex];simp)) hy yx
    refine .bind (.rev (LT n) rfl (by rw [lt]) λst1 ar1 L0=> .bind (.rule ?_))
    have L1:Lies st1 P (([]++(T.take n).reverse)++ [y]) (T.drop (n+1)):=by
     have:=L0
     unfold Lies at this ⊢
     rw [this,dy];simp
    generalize []++(T.take n).reverse=Zr at F1 L1
    refine .bind (Tm.mono (Tm.range (λi c s2=>Arr st' s2/\c.1=none/\c.2.1=i/\ ∃Z1 Z2,Lies s2 P (Z1++Z2) (T.drop i)/\Fall R T Z1 Z2 i/\Z2.length=c.2.2+1) (Q:=λc s2=>Arr st' s2/\c.1=none/\1<=c.2.1/\c.2.1<=T.length/\ ∃Z1 Z2,Lies s2 P (Z1++Z2) (T.drop c.2.1)/\Fall R T Z1 Z2 c.2.1/\Z2.length=c.2.2+1) (by omega) ⟨ar1,rfl,rfl,Zr,[y],L1,F1,rfl⟩ ?_ ?_) ?_)
    ·rintro i ⟨r,m,neq⟩ s2 hi ⟨ar2,hr,hm,Z1,Z2,L2,F2,l2⟩
     dsimp only at hr hm L2 F2 l2 ⊢
     subst hr hm
     have l12:=F2.len
     obtain⟨W,x2,eW⟩:=jbz F2.ne
     have m1:1<=m:=by
      have p:=F2.len
      have r:=F2.ne
      rw [G0a] at p
      omega
     obtain⟨y2,hy2,uy2⟩:=tl m hi
     have xin:x2∈Z2:=by rw [eW];simp
     have ux2:=u x2 (F2.mem (G0p.mpr (.inr xin)))
     have ay:(arrOf s2).toList[P.length+m]? =some y2:=by
      have:=L2.rest (i:=0)
      rw [G1o,l12] at this
      rw [G15] at this
      rw [this];exact hy2
     have ax:(arrOf s2).toList[P.length+m-1]? =some x2:=by
      have L3:Lies s2 P ((Z1++W)++ [x2]) (T.drop m):=by
       have:=L2
       unfold Lies at this ⊢
       rw [this,eW];simp
      have:=L3.end
      rw [<-this]
      congr 1
      rw [eW] at l12
      simp only [G0a,G1B] at l12 ⊢
      omega
     refine .bind (.ltAt ak (ar2.1.trans kd) ay ax uy2 ux2 ?_)
     dsimp only
     cases hb:R y2 x2 with
     |true=>
      rw [if_pos rfl]
      by_cases zq:neq>0
      ·rw [if_pos zq]
       have L2' :Lies s2 (P++Z1) Z2 (T.drop m):=by
        have:=L2
        unfold Lies at this ⊢
        rw [this];simp
       refine .bind (.rev L2' (by rw [G0a] at l12 ⊢;omega) (by rw [G0a] at l12 ⊢;omega) λs3 ar3 L3=> .pure ⟨ar2.trans ar3,rfl,rfl,Z1++Z2.reverse,[y2],?_,F2.turn.below o u (G1a.mpr xin) hy2 hb,rfl⟩)
       have:=L3
       unfold Lies at this ⊢
       rw [this,jar hy2];simp
      ·rw [if_neg zq]
       refine .pure ⟨ar2,rfl,rfl,Z1++Z2,[y2],?_,F2.below o u xin hy2 hb,rfl⟩
       have:=L2
       unfold Lies at this ⊢
       rw [this,jar hy2];simp
     |false=>
      rw [if_neg (by decide)]
      refine .bind (.ltAt ak (ar2.1.trans kd) ax ay ux2 uy2 ?_)
      dsimp only
      cases hc:R x2 y2 with
      |true=>
       rw [if_pos rfl]
       exact .pure ⟨ar2,rfl,by dsimp only;omega,by dsimp only;omega,Z1,Z2,L2,F2,l2⟩
      |false=>
       rw [if_neg (by decide)]
       refine .pure ⟨ar2,rfl,rfl,Z1,Z2++ [y2],?_,F2.like o u xin hy2 hb hc,by rw [G0a,l2];rfl⟩
       have:=L2
       unfold Lies at this ⊢
       rw [this,jar hy2];simp
    ·rintro ⟨r,m,neq⟩ s2 ⟨ar2,hr,hm,Z1,Z2,L2,F2,l2⟩
     dsimp only at hr hm L2 F2 l2
     subst hr hm
     exact⟨ar2,rfl,h1,G0k _,Z1,Z2,L2,F2,l2⟩
    ·rintro ⟨r,m,neq⟩ s2 ⟨ar2,hr,m1,m2,Z1,Z2,L2,F2,l2⟩
     dsimp only at hr m1 m2 L2 F2 l2 ⊢
     subst hr
     have l12:=F2.len
     dsimp only
     by_cases zq:neq>0
     ·rw [if_pos zq]
      have L2' :Lies s2 (P++Z1) Z2 (T.drop m):=by
       have:=L2
       unfold Lies at this ⊢
       rw [this];simp
      refine .bind (.rev L2' (by rw [G0a] at l12 ⊢;omega) (by rw [G0a] at l12 ⊢;omega) λs3 ar3 L3=> ?_)
      have L3' :Lies s3 P (Z1++Z2.reverse) (T.drop m):=by
       have:=L3
       unfold Lies at this ⊢
       rw [this];simp
      have F3:=F2.turn
      refine .bind (.rev L3' rfl (by rw [F3.len]) λs4 ar4 L4=> ?_)
      have ar4:=(ar2.trans ar3).trans ar4
      have pm:=(G1j (Z1++Z2.reverse)).trans F3.perm
      have sz:=jfK F3.dsc
      refine .bind (Tm.mono (Tm.range (λi c s5=>Arr st' s5/\c=(none,i)/\1<=i/\ ∃Z,Lies s5 P Z (T.drop i)/\Z.Perm (T.take i)/\Srt R Z) (Q:=λc s5=>Arr st' s5/\c.1=none/\1<=c.2/\c.2<=T.length/\ ∃Z,Lies s5 P Z (T.drop c.2)/\Z.Perm (T.take c.2)/\Srt R Z) m2 ⟨ar4,rfl,m1,_,L4,pm,sz⟩ ?_ ?_) ?_)
      ·rintro i ⟨r,m'⟩ s5 hi ⟨ar5,hc,i1,Z,L5,p5,s5'⟩
       injection hc with hr hm
       subst hr hm
       dsimp only
       have lz:Z.length=m' :=by rw [p5.length_eq,G0E];omega
       obtain⟨W,x5,eW⟩:=jbz (l:=Z) (by omega)
       subst eW
       have lw:W.length+1=m' :=by rw [G0a] at lz;exact lz
       obtain⟨y5,hy5,uy5⟩:=tl m' hi
       have uZ: ∀z∈W++ [x5],U z:=λz hz=>u z (G0O (p5.mem_iff.mp hz))
       refine .bind (.ltAt ak (ar5.1.trans kd) (show _=some y5 by have:=L5.rest (i:=0);rw [G1o,lz] at this;rw [G15] at this;rw [this];exact hy5) (show _=some x5 by rw [show P.length+m' -1=P.length+W.length by omega];exact L5.end) uy5 (uZ x5 (by simp)) ?_)
       dsimp only
       cases hb:R y5 x5 with
       |true=>
        rw [if_pos rfl]
        exact .pure ⟨ar5,rfl,i1,by dsimp only;omega,_,L5,p5,s5'⟩
       |false=>
        rw [if_neg (by decide)]
        refine .pure ⟨ar5,rfl,by omega,W++ [x5]++ [y5],?_,jbE p5 hy5,jdx o uZ uy5 s5' hb⟩
        have:=L5
        unfold Lies at this ⊢
        rw [this,jar hy5];simp
      ·rintro ⟨r,m'⟩ s5 ⟨ar5,hc,i1,Z,L5,p5,s5'⟩
       injection hc with hr hm
       subst hr hm
       exact⟨ar5,rfl,i1,G0k _,Z,L5,p5,s5'⟩
      ·rintro ⟨r,m'⟩ s5 ⟨ar5,hr,i1,i2,Z,L5,p5,s5'⟩
       dsimp only at hr i1 i2 L5 p5 ⊢
       subst hr
       exact .pure (q m' s5 Z i1 i2 ar5 L5 p5 s5')
     ·rw [if_neg zq]
      refine .bind (.rev L2 rfl (by rw [l12]) λs4 ar4 L4=> ?_)
      have ar4:=ar2.trans ar4
      have pm:=(G1j (Z1++Z2)).trans F2.perm
      have sz:=jfK F2.dsc
      refine .bind (Tm.mono (Tm.range (λi c s5=>Arr st' s5/\c=(none,i)/\1<=i/\ ∃Z,Lies s5 P Z (T.drop i)/\Z.Perm (T.take i)/\Srt R Z) (Q:=λc s5=>Arr st' s5/\c.1=none/\1<=c.2/\c.2<=T.length/\ ∃Z,Lies s5 P Z (T.drop c.2)/\Z.Perm (T.take c.2)/\Srt R Z) m2 ⟨ar4,rfl,m1,_,L4,pm,sz⟩ ?_ ?_) ?_)
      ·rintro i ⟨r,m'⟩ s5 hi ⟨ar5,hc,i1,Z,L5,p5,s5'⟩
       injection hc with hr hm
       subst hr hm
       dsimp only
       have lz:Z.length=m' :=by rw [p5.length_eq,G0E];omega
       obtain⟨W,x5,eW⟩:=jbz (l:=Z) (by omega)
       subst eW
       have lw:W.length+1=m' :=by rw [G0a] at lz;exact lz
       obtain⟨y5,hy5,uy5⟩:=tl m' hi
       have uZ: ∀z∈W++ [x5],U z:=λz hz=>u z (G0O (p5.mem_iff.mp hz))
       refine .bind (.ltAt ak (ar5.1.trans kd) (show _=some y5 by have:=L5.rest (i:=0);rw [G1o,lz] at this;rw [G15] at this;rw [this];exact hy5) (show _=some x5 by rw [show P.length+m' -1=P.length+W.length by omega];exact L5.end) uy5 (uZ x5 (by simp)) ?_)
       dsimp only
       cases hb:R y5 x5 with
       |true=>
        rw [if_pos rfl]
        exact .pure ⟨ar5,rfl,i1,by dsimp only;omega,_,L5,p5,s5'⟩
       |false=>
        rw [if_neg (by decide)]
        refine .pure ⟨ar5,rfl,by omega,W++ [x5]++ [y5],?_,jbE p5 hy5,jdx o uZ uy5 s5' hb⟩
        have:=L5
        unfold Lies at this ⊢
        rw [this,jar hy5];simp
      ·rintro ⟨r,m'⟩ s5 ⟨ar5,hc,i1,Z,L5,p5,s5'⟩
       injection hc with hr hm
       subst hr hm
       exact⟨ar5,rfl,i1,G0k _,Z,L5,p5,s5'⟩
      ·rintro ⟨r,m'⟩ s5 ⟨ar5,hr,i1,i2,Z,L5,p5,s5'⟩
       dsimp only at hr i1 i2 L5 p5 ⊢
       subst hr
       exact .pure (q m' s5 Z i1 i2 ar5 L5 p5 s5')
  ·rw [if_neg z2]
   refine .bind (.rule ?_)
   have n0:n=1:=by omega
   have F0:Fall R T [] (T.take n) n:=⟨lt,.refl _,by subst n0;rw [ex];exact G00 _ _,λp hp r hr=>by
    subst n0
    rw [ex] at hp hr
    have hp' :p=x:=by simpa using hp
    have hr' :r=x:=by simpa using hr
    rw [hp',hr'];exact o.refl ux,by rw [lt];exact n1⟩
   have F1:=F0.below o u (x:=x) (by rw [ex];simp) hy yx
   have ar1:=Arr.refl st'
   have L1:Lies st' P (([]++T.take n)++ [y]) (T.drop (n+1)):=by
    have:=LT n
    unfold Lies at this ⊢
    rw [this,dy];simp
   generalize []++T.take n=Zr at F1 L1
   refine .bind (Tm.mono (Tm.range (λi c s2=>Arr st' s2/\c.1=none/\c.2.1=i/\ ∃Z1 Z2,Lies s2 P (Z1++Z2) (T.drop i)/\Fall R T Z1 Z2 i/\Z2.length=c.2.2+1) (Q:=λc s2=>Arr st' s2/\c.1=none/\1<=c.2.1/\c.2.1<=T.length/\ ∃Z1 Z2,Lies s2 P (Z1++Z2) (T.drop c.2.1)/\Fall R T Z1 Z2 c.2.1/\Z2.length=c.2.2+1) (by omega) ⟨ar1,rfl,rfl,Zr,[y],L1,F1,rfl⟩ ?_ ?_) ?_)
   ·rintro i ⟨r,m,neq⟩ s2 hi ⟨ar2,hr,hm,Z1,Z2,L2,F2,l2⟩
    dsimp only at hr hm L2 F2 l2 ⊢
    subst hr hm
    have l12:=F2.len
    obtain⟨W,x2,eW⟩:=jbz F2.ne
    have m1:1<=m:=by
     have p:=F2.len
     have r:=F2.ne
     rw [G0a] at p
     omega
    obtain⟨y2,hy2,uy2⟩:=tl m hi
    have xin:x2∈Z2:=by rw [eW];simp
    have ux2:=u x2 (F2.mem (G0p.mpr (.inr xin)))
    have ay:(arrOf s2).toList[P.length+m]? =some y2:=by
     have:=L2.rest (i:=0)
     rw [G1o,l12] at this
     rw [G15] at this
     rw [this];exact hy2
    have ax:(arrOf s2).toList[P.length+m-1]? =some x2:=by
     have L3:Lies s2 P ((Z1++W)++ [x2]) (T.drop m):=by
      have:=L2
      unfold Lies at this ⊢
      rw [this,eW];simp
     have:=L3.end
     rw [<-this]
     congr 1
     rw [eW] at l12
     simp only [G0a,G1B] at l12 ⊢
     omega
    refine .bind (.ltAt ak (ar2.1.trans kd) ay ax uy2 ux2 ?_)
    dsimp only
    cases hb:R y2 x2 with
    |true=>
     rw [if_pos rfl]
     by_cases zq:neq>0
     ·rw [if_pos zq]
      have L2' :Lies s2 (P++Z1) Z2 (T.drop m):=by
       have:=L2
       unfold Lies at this ⊢
       rw [this];simp
      refine .bind (.rev L2' (by rw [G0a] at l12 ⊢;omega) (by rw [G0a] at l12 ⊢;omega) λs3 ar3 L3=> .pure ⟨ar2.trans ar3,rfl,rfl,Z1++Z2.reverse,[y2],?_,F2.turn.below o u (G1a.mpr xin) hy2 hb,rfl⟩)
      have:=L3
      unfold Lies at this ⊢
      rw [this,jar hy2];simp
     ·rw [if_neg zq]
      refine .pure ⟨ar2,rfl,rfl,Z1++Z2,[y2],?_,F2.below o u xin hy2 hb,rfl⟩
      have:=L2
      unfold Lies at this ⊢
      rw [this,jar hy2];simp
    |false=>
     rw [if_neg (by decide)]
     refine .bind (.ltAt ak (ar2.1.trans kd) ax ay ux2 uy2 ?_)
     dsimp only
     cases hc:R x2 y2 with
     |true=>
      rw [if_pos rfl]
      exact .pure ⟨ar2,rfl,by dsimp only;omega,by dsimp only;omega,Z1,Z2,L2,F2,l2⟩
     |false=>
      rw [if_neg (by decide)]
      refine .pure ⟨ar2,rfl,rfl,Z1,Z2++ [y2],?_,F2.like o u xin hy2 hb hc,by rw [G0a,l2];rfl⟩
      have:=L2
      unfold Lies at this ⊢
      rw [this,jar hy2];simp
   ·rintro ⟨r,m,neq⟩ s2 ⟨ar2,hr,hm,Z1,Z2,L2,F2,l2⟩
    dsimp only at hr hm L2 F2 l2
    subst hr hm
    exact⟨ar2,rfl,h1,G0k _,Z1,Z2,L2,F2,l2⟩
   ·rintro ⟨r,m,neq⟩ s2 ⟨ar2,hr,m1,m2,Z1,Z2,L2,F2,l2⟩
    dsimp only at hr m1 m2 L2 F2 l2 ⊢
    subst hr
    have l12:=F2.len
    dsimp only
    by_cases zq:neq>0
    ·rw [if_pos zq]
     have L2' :Lies s2 (P++Z1) Z2 (T.drop m):=by
      have:=L2
      unfold Lies at this ⊢
      rw [this];simp
     refine .bind (.rev L2' (by rw [G0a] at l12 ⊢;omega) (by rw [G0a] at l12 ⊢;omega) λs3 ar3 L3=> ?_)
     have L3' :Lies s3 P (Z1++Z2.reverse) (T.drop m):=by
      have:=L3
      unfold Lies at this ⊢
      rw [this];simp
     have F3:=F2.turn
     refine .bind (.rev L3' rfl (by rw [F3.len]) λs4 ar4 L4=> ?_)
     have ar4:=(ar2.trans ar3).trans ar4
     have pm:=(G1j (Z1++Z2.reverse)).trans F3.perm
     have sz:=jfK F3.dsc
     refine .bind (Tm.mono (Tm.range (λi c s5=>Arr st' s5/\c=(none,i)/\1<=i/\ ∃Z,Lies s5 P Z (T.drop i)/\Z.Perm (T.take i)/\Srt R Z) (Q:=λc s5=>Arr st' s5/\c.1=none/\1<=c.2/\c.2<=T.length/\ ∃Z,Lies s5 P Z (T.drop c.2)/\Z.Perm (T.take c.2)/\Srt R Z) m2 ⟨ar4,rfl,m1,_,L4,pm,sz⟩ ?_ ?_) ?_)
     ·rintro i ⟨r,m'⟩ s5 hi ⟨ar5,hc,i1,Z,L5,p5,s5'⟩
      injection hc with hr hm
      subst hr hm
      dsimp only
      have lz:Z.length=m' :=by rw [p5.length_eq,G0E];omega
      obtain⟨W,x5,eW⟩:=jbz (l:=Z) (by omega)
      subst eW
      have lw:W.length+1=m' :=by rw [G0a] at lz;exact lz
      obtain⟨y5,hy5,uy5⟩:=tl m' hi
      have uZ: ∀z∈W++ [x5],U z:=λz hz=>u z (G0O (p5.mem_iff.mp hz))
      refine .bind (.ltAt ak (ar5.1.trans kd) (show _=some y5 by have:=L5.rest (i:=0);rw [G1o,lz] at this;rw [G15] at this;rw [this];exact hy5) (show _=some x5 by rw [show P.length+m' -1=P.length+W.length by omega];exact L5.end) uy5 (uZ x5 (by simp)) ?_)
      dsimp only
      cases hb:R y5 x5 with
      |true=>
       rw [if_pos rfl]
       exact .pure ⟨ar5,rfl,i1,by dsimp only;omega,_,L5,p5,s5'⟩
      |false=>
       rw [if_neg (by decide)]
       refine .pure ⟨ar5,rfl,by omega,W++ [x5]++ [y5],?_,jbE p5 hy5,jdx o uZ uy5 s5' hb⟩
       have:=L5
       unfold Lies at this ⊢
       rw [this,jar hy5];simp
     ·rintro ⟨r,m'⟩ s5 ⟨ar5,hc,i1,Z,L5,p5,s5'⟩
      injection hc with hr hm
      subst hr hm
      exact⟨ar5,rfl,i1,G0k _,Z,L5,p5,s5'⟩
     ·rintro ⟨r,m'⟩ s5 ⟨ar5,hr,i1,i2,Z,L5,p5,s5'⟩
      dsimp only at hr i1 i2 L5 p5 ⊢
      subst hr
      exact .pure (q m' s5 Z i1 i2 ar5 L5 p5 s5')
    ·rw [if_neg zq]
     refine .bind (.rev L2 rfl (by rw [l12]) λs4 ar4 L4=> ?_)
     have ar4:=ar2.trans ar4
     have pm:=(G1j (Z1++Z2)).trans F2.perm
     have sz:=jfK F2.dsc
     refine .bind (Tm.mono (Tm.range (λi c s5=>Arr st' s5/\c=(none,i)/\1<=i/\ ∃Z,Lies s5 P Z (T.drop i)/\Z.Perm (T.take i)/\Srt R Z) (Q:=λc s5=>Arr st' s5/\c.1=none/\1<=c.2/\c.2<=T.length/\ ∃Z,Lies s5 P Z (T.drop c.2)/\Z.Perm (T.take c.2)/\Srt R Z) m2 ⟨ar4,rfl,m1,_,L4,pm,sz⟩ ?_ ?_) ?_)
     ·rintro i ⟨r,m'⟩ s5 hi ⟨ar5,hc,i1,Z,L5,p5,s5'⟩
      injection hc with hr hm
      subst hr hm
      dsimp only
      have lz:Z.length=m' :=by rw [p5.length_eq,G0E];omega
      obtain⟨W,x5,eW⟩:=jbz (l:=Z) (by omega)
      subst eW
      have lw:W.length+1=m' :=by rw [G0a] at lz;exact lz
      obtain⟨y5,hy5,uy5⟩:=tl m' hi
      have uZ: ∀z∈W++ [x5],U z:=λz hz=>u z (G0O (p5.mem_iff.mp hz))
      refine .bind (.ltAt ak (ar5.1.trans kd) (show _=some y5 by have:=L5.rest (i:=0);rw [G1o,lz] at this;rw [G15] at this;rw [this];exact hy5) (show _=some x5 by rw [show P.length+m' -1=P.length+W.length by omega];exact L5.end) uy5 (uZ x5 (by simp)) ?_)
      dsimp only
      cases hb:R y5 x5 with
      |true=>
       rw [if_pos rfl]
       exact .pure ⟨ar5,rfl,i1,by dsimp only;omega,_,L5,p5,s5'⟩
      |false=>
       rw [if_neg (by decide)]
       refine .pure ⟨ar5,rfl,by omega,W++ [x5]++ [y5],?_,jbE p5 hy5,jdx o uZ uy5 s5' hb⟩
       have:=L5
       unfold Lies at this ⊢
       rw [this,jar hy5];simp
     ·rintro ⟨r,m'⟩ s5 ⟨ar5,hc,i1,Z,L5,p5,s5'⟩
      injection hc with hr hm
      subst hr hm
      exact⟨ar5,rfl,i1,G0k _,Z,L5,p5,s5'⟩
     ·rintro ⟨r,m'⟩ s5 ⟨ar5,hr,i1,i2,Z,L5,p5,s5'⟩
      dsimp only at hr i1 i2 L5 p5 ⊢
      subst hr
      exact .pure (q m' s5 Z i1 i2 ar5 L5 p5 s5')
end
section
variable {prog:Program} {w:World} {A:Around} {E:Value->Shared->Prop} {J:Shared->Prop} {κ:SortKind} {U:Keyed->Prop} {R:Keyed->Keyed->Bool}
theorem jkH (xs:Array Keyed) (P Z S:List Keyed) (y:Keyed) (l:Nat) (hl:l<=Z.length) (h:xs.toList=P++Z++y::S):(bubble xs (P.length+Z.length) (Z.length-l)).toList=P++(Z.take l++ [y]++Z.drop l)++S:=by
 have hz:xs.size=P.length+Z.length+(S.length+1):=by rw [<-G0V,h];simp [G3A]
 have at_: ∀k,xs[k]? =(P++Z++y::S)[k]? :=λk=>by rw [<-G06,h]
 refine G3t λk=> ?_
 rw [G06,getElem?_bubble (by omega) _ (by omega)]
 have lt:(Z.take l).length=l:=by rw [G0E];omega
 by_cases c:k=P.length+Z.length-(Z.length-l)
 ·rw [if_pos c,at_]
  have e1:(P++Z++y::S)[P.length+Z.length]? =some y:=by
   rw [G0q (by rw [G0a];omega),G0a,Nat.sub_self];rfl
  have e2:(P++(Z.take l++ [y]++Z.drop l)++S)[k]? =some y:=by
   rw [G0l,G0q (by omega),G0l,G0l,G0q (by rw [lt];omega),lt,show k-P.length-l=0 by omega];rfl
  rw [e1,e2]
 ·rw [if_neg c]
  by_cases d:P.length+Z.length-(Z.length-l)<k/\k<=P.length+Z.length
  ·rw [if_pos d,at_]
   have e1:(P++Z++y::S)[k-1]? =Z[k-1-P.length]? :=by
    rw [G0l,G0q (by omega),G0I (by omega)]
   have e2:(P++(Z.take l++ [y]++Z.drop l)++S)[k]? =Z[k-1-P.length]? :=by
    rw [G0l,G0q (by omega),G0I (by simp only [G0a,G0E,G0X,G1B];omega),G0q (by rw [G0a,lt];simp;omega),G0a,lt,G1o]
    congr 1;simp;omega
   rw [e1,e2]
  ·rw [if_neg d,at_]
   by_cases f:k<P.length+l
   ·have e1:(P++Z++y::S)[k]? =(P++Z.take l)[k]? :=by
     have:P++Z++y::S=P++Z.take l++(Z.drop l++y::S):=by
      rw [G0l,G0l,<-G0l (Z.take l),G0J]
     rw [this,G0I (by rw [G0a,lt];omega)]
    have e2:(P++(Z.take l++ [y]++Z.drop l)++S)[k]? =(P++Z.take l)[k]? :=by
     have:P++(Z.take l++ [y]++Z.drop l)++S=P++Z.take l++([y]++Z.drop l++S):=by simp [G0l]
     rw [this,G0I (by rw [G0a,lt];omega)]
    rw [e1,e2]
   ·have e1:(P++Z++y::S)[k]? =S[k-P.length-Z.length-1]? :=by
     rw [G0q (by rw [G0a];omega),G0a,List.getElem?_cons,if_neg (by omega)]
     congr 1;omega
    have e2:(P++(Z.take l++ [y]++Z.drop l)++S)[k]? =S[k-P.length-Z.length-1]? :=by
     rw [G0q (by simp only [G0a,G0E,G0X,G1B];omega)]
     congr 1;simp only [G0a,G0E,G0X,G1B];omega
    rw [e1,e2]
theorem jmC (o:Ordd U R) {Z:List Keyed} {y:Keyed} {l:Nat} (u: ∀z∈Z,U z) (uy:U y) (s:Srt R Z) (a: ∀z∈Z.take l,R y z=false) (b: ∀z∈Z.drop l,R y z=true):Srt R (Z.take l++ [y]++Z.drop l):=by
 have s' :Srt R (Z.take l++Z.drop l):=by rw [G0J];exact s
 obtain⟨s1,s2,s3⟩:=G0N.mp s'
 refine G0N.mpr ⟨G0N.mpr ⟨s1,G00 _ _,λx hx z hz=> ?_⟩,s2,λx hx z hz=> ?_⟩
 ·rw [G0g.mp hz];exact a x hx
 ·rcases G0p.mp hx with v|v
  ·exact s3 x v z hz
  ·rw [G0g.mp v]
   exact o.asym y z uy (u z (G04 hz)) (b z hz)
theorem joQ {st:SortSt} {Q:Bool->SortSt->Prop} {P T Z:List Keyed} {n k:Nat} (ak:jgB prog w A J κ U R) (kd:kindOf st=κ) (o:Ordd U R) (u: ∀x∈T,U x) (h:Lies st P Z (T.drop k)) (hp:Z.Perm (T.take k)) (hs:Srt R Z) (k1:1<=k) (kn:k<=n) (hn:n<=T.length)
 (q: ∀st' Z',Arr st st' ->Lies st' P Z' (T.drop n)->Z'.Perm (T.take n)->Srt R Z' ->Q true st'):Tm prog w A E J (binarySort' P.length n k) Q st:=by
 unfold binarySort'
 refine .bind (Tm.mono (Tm.range (λi c s1=>Arr st s1/\c.1=none/\1<=i/\ ∃Z,Lies s1 P Z (T.drop i)/\Z.Perm (T.take i)/\Srt R Z) (Q:=λc s1=>Arr st s1/\c.1=none/\ ∃Z,Lies s1 P Z (T.drop n)/\Z.Perm (T.take n)/\Srt R Z) (by omega) ⟨Arr.refl st,rfl,by omega,Z,by rw [Nat.max_eq_left k1];exact h,by rw [Nat.max_eq_left k1];exact hp,hs⟩ ?_ ?_) ?_)
 ·rintro i ⟨r,c2⟩ s1 hi ⟨ar,hr,i1,Z,L,p,s⟩
  dsimp only at hr ⊢
  subst hr
  obtain⟨y,hy⟩: ∃y,T[i]? =some y:=⟨_,G0b (by omega)⟩
  have uy:=u y (G0i hy)
  have lz:Z.length=i:=by rw [p.length_eq,G0E];omega
  have uZ: ∀z∈Z,U z:=λz hz=>u z (G0O (p.mem_iff.mp hz))
  have ay:(arrOf s1).toList[P.length+i]? =some y:=by
   have:=L.rest (i:=0)
   rw [G1o,lz] at this
   rw [G15] at this
   rw [this];exact hy
  have az: ∀m,m<i-> ∃z,Z[m]? =some z/\(arrOf s1).toList[P.length+m]? =some z:=λm hm=>by
   refine⟨Z[m],G0b (by omega),?_⟩
   rw [L,G0l,G0q (by omega),G0I (by omega),G3z,G0b (by omega)]
  refine .bind (Tm.mono (Tm.range (λj c s2=>s2=s1/\c.1=none/\c.2.1<=c.2.2/\c.2.2<=i/\(∀z∈Z.take c.2.1,R y z=false)/\(∀z∈Z.drop c.2.2,R y z=true)/\c.2.2-c.2.1+j<=i) (Q:=λc s2=>s2=s1/\c.1=none/\c.2.1<=i/\(∀z∈Z.take c.2.1,R y z=false)/\(∀z∈Z.drop c.2.1,R y z=true)) (Nat.zero_le _) ⟨rfl,rfl,Nat.zero_le _,Nat.le_refl _,λz hz=> ?_,λz hz=> ?_,by dsimp only;omega⟩ ?_ ?_) ?_)
  ·dsimp only at hz;rw [List.take_zero] at hz;cases hz
  ·dsimp only at hz;rw [List.drop_eq_nil_of_le (by omega)] at hz;cases hz
  ·rintro j ⟨r,l,v⟩ _ hj ⟨rfl,hr,b1,b2,b3,b4,b5⟩
   dsimp only at hr b1 b2 b3 b4 b5 ⊢
   subst hr
   by_cases c1:l>=v
   ·rw [if_pos c1]
    have:l=v:=by omega
    subst this
    exact .pure ⟨rfl,rfl,b2,b3,b4⟩
   rw [if_neg c1]
   obtain⟨z,hz,ez⟩:=az ((l+v) / 2) (by omega)
   have uz:=uZ z (G0i hz)
   refine .bind (.ltAt ak (ar.1.trans kd) ay ez uy uz ?_)
   dsimp only
   cases hb:R y z with
   |true=>
    rw [if_pos rfl]
    refine .pure ⟨rfl,rfl,by dsimp only;omega,by dsimp only;omega,b3,λx hx=> ?_,by dsimp only;omega⟩
    dsimp only at hx
    have zx:R x z=false:=by
     obtain⟨t,ht,e⟩:=G1O hx
     rw [G0X] at ht
     exact jeI s o uZ (show (l+v) / 2<=(l+v) / 2+t by omega) hz (by rw [G0b (by omega),<-e,List.getElem_drop])
    rcases o.neg y x z uy (uZ x (G04 hx)) uz hb with w|w
    ·exact w
    ·rw [zx] at w;cases w
   |false=>
    rw [if_neg (by decide)]
    refine .pure ⟨rfl,rfl,by dsimp only;omega,b2,λx hx=> ?_,b4,by dsimp only;omega⟩
    dsimp only at hx
    have xz:R z x=false:=by
     obtain⟨t,ht,e⟩:=G1O hx
     rw [G0E] at ht
     exact jeI s o uZ (show t<=(l+v) / 2 by omega) (by rw [G0b (by omega),<-e,List.getElem_take]) hz
    exact o.trans (uZ x (G0O hx)) uz uy xz hb
  ·rintro ⟨r,l,v⟩ _ ⟨rfl,hr,b1,b2,b3,b4,b5⟩
   dsimp only at hr b1 b2 b3 b4 b5 ⊢
   have:l=v:=by omega
   subst this
   exact⟨rfl,hr,b2,b3,b4⟩
  ·rintro ⟨r,l,v⟩ s2 ⟨rfl,hr,b2,b3,b4⟩
   dsimp only at hr b2 b3 b4 ⊢
   subst hr
   dsimp only
   refine .bind ?_
   show Tm prog w A E J (moveDown' (P.length+i) (P.length+l)) _ _
   rw [moveDown'_eq]
   refine .modify (.pure ⟨ar.trans ⟨rfl,rfl,rfl,rfl⟩,rfl,by omega,Z.take l++ [y]++Z.drop l,?_,?_,jmC o uZ uy s b3 b4⟩)
   ·have:=jkH (arrOf s2) P Z (T.drop (i+1)) y l (by omega) (by rw [<-jar hy];exact L)
    rw [lz] at this
    rw [show P.length+i-(P.length+l)=i-l by omega]
    exact this
   ·refine List.Perm.trans ?_ (jbE p hy)
    rw [G0l]
    have e:Z++ [y]=Z.take l++(Z.drop l++ [y]):=by rw [<-G0l,G0J]
    rw [e]
    exact(G2j).append_left _
 ·rintro ⟨r,c2⟩ s1 ⟨ar,hr,i1,Z,L,p,s⟩
  exact⟨ar,hr,Z,L,p,s⟩
 ·rintro ⟨r,c2⟩ s1 ⟨ar,hr,Z,L,p,s⟩
  dsimp only at hr ⊢
  subst hr
  exact .pure (q s1 Z ar L p s)
end
section
variable {prog:Program} {w:World} {A:Around} {E:Value->Shared->Prop} {J:Shared->Prop} {κ:SortKind} {U:Keyed->Prop} {R:Keyed->Keyed->Bool}
def Stk (R:Keyed->Keyed->Bool) (l:List Keyed):List (Nat×Nat×Nat)->Nat->Nat->Prop
 | [],s,e=>s=e
 |(p,n,_)::rest,s,e=>p=s/\1<=n/\Srt R (seg l p n)/\Stk R l rest (s+n) e
theorem Stk.le {l:List Keyed}: ∀ {pl:List (Nat×Nat×Nat)} {s e:Nat},Stk R l pl s e->s+pl.length<=e
 | [],s,e,h=>by cases h;simp
 |(p,n,_)::rest,s,e,⟨_,n1,_,h⟩=>by have:=Stk.le h;simp only [G0h];omega
theorem jkI {l l' :List Keyed} {p n e:Nat} (h:l.take e=l'.take e) (he:p+n<=e):seg l p n=seg l' p n:=by
 have cut: ∀k:List Keyed,seg k p n=seg (k.take e) p n:=λk=>by
  unfold seg
  rw [G3M,G3N,G3G (by omega)]
 rw [cut l,cut l',h]
theorem Stk.same {l l' :List Keyed}: ∀ {pl:List (Nat×Nat×Nat)} {s e:Nat},Stk R l pl s e->l.take e=l'.take e->Stk R l' pl s e
 | [],s,e,h,_=>h
 |(p,n,_)::rest,s,e,⟨a,b,c,d⟩,h=>by
  have:=d.le
  exact⟨a,b,by rw [<-jkI h (by omega)];exact c,d.same h⟩
theorem Stk.shift {l l' :List Keyed}: ∀ {pl:List (Nat×Nat×Nat)} {s e:Nat},Stk R l pl s e->l.drop s=l'.drop s->Stk R l' pl s e
 | [],s,e,h,_=>h
 |(p,n,_)::rest,s,e,⟨a,b,c,d⟩,h=>by
  subst a
  refine⟨rfl,b,by unfold seg at c ⊢;rw [<-h];exact c,d.shift ?_⟩
  rw [<-G1Y,<-G1Y,h]
theorem Stk.append {l:List Keyed}: ∀ {a b:List (Nat×Nat×Nat)} {s e:Nat},Stk R l (a++b) s e↔ ∃m,Stk R l a s m/\Stk R l b m e
 | [],b,s,e=>⟨λh=>⟨s,rfl,h⟩,λ⟨m,h,h'⟩=>by cases h;exact h'⟩
 |(p,n,w)::a,b,s,e=>by
  constructor
  ·rintro ⟨x,y,z,h⟩
   obtain⟨m,h1,h2⟩:=Stk.append.mp h
   exact⟨m,⟨x,y,z,h1⟩,h2⟩
  ·rintro ⟨m,⟨x,y,z,h1⟩,h2⟩
   exact⟨x,y,z,Stk.append.mpr ⟨m,h1,h2⟩⟩
structure Bt (R:Keyed->Keyed->Bool) (κ:SortKind) (l0:List Keyed) (lo:Nat) (st:SortSt):Prop where
 kind:kindOf st=κ
 failed:failedOf st=none
 perm:(arrOf st).toList.Perm l0
 stk:Stk R (arrOf st).toList (pendingOf st).toList 0 lo
theorem Bt.size {l0:List Keyed} {lo:Nat} {st:SortSt} (b:Bt R κ l0 lo st):(arrOf st).size=l0.length:=by rw [<-G0V,b.perm.length_eq]
theorem Bt.merge {l0:List Keyed} {lo:Nat} {st:SortSt} {Q:Bool->SortSt->Prop} {i:Nat} (ak:jgB prog w A J κ U R) (o:Ordd U R) (u: ∀x∈l0,U x) (b:Bt R κ l0 lo st) (hlo:lo<=l0.length) (hi:i+1<(pendingOf st).size)
 (q: ∀st',Bt R κ l0 lo st' ->(pendingOf st').size+1=(pendingOf st).size->(arrOf st').toList.drop lo=(arrOf st).toList.drop lo->Q true st'):Tm prog w A E J (mergeAt' i) Q st:=by
 have lp:(pendingOf st).toList.length=(pendingOf st).size:=by simp
 obtain⟨⟨sa,na,pw⟩,hx⟩: ∃x,(pendingOf st).toList[i]? =some x:=⟨_,G0b (by omega)⟩
 obtain⟨⟨sb,nb,pw2⟩,hy⟩: ∃y,(pendingOf st).toList[i+1]? =some y:=⟨_,G0b (by omega)⟩
 have e:(pendingOf st).toList=(pendingOf st).toList.take i++(sa,na,pw)::(sb,nb,pw2)::(pendingOf st).toList.drop (i+2):=by
  rw [<-jar hy,<-jar hx,G0J]
 have stk:=b.stk
 rw [e] at stk
 obtain⟨m,k1,em,n1,s1,eb,n2,s2,k2⟩:=Stk.append.mp stk
 subst em
 subst eb
 have le:=k2.le
 have sz:=b.size
 have hz:sa+na+nb<=(arrOf st).size:=by omega
 have ln:(arrOf st).toList.length=(arrOf st).size:=by simp
 refine joP ak b.kind o (λx hx=>u x (b.perm.mem_iff.mp hx)) (by rw [<-G06];exact hx) (by rw [<-G06];exact hy) rfl n1 n2 hz s1 s2 b.failed λst' Z kd hf hp ha pz sz' => ?_
 have hpl:(pendingOf st').toList=(pendingOf st).toList.take i++(sa,na+nb,pw)::(pendingOf st).toList.drop (i+2):=by
  rw [hp,Array.eraseIdxIfInBounds_eq,dif_pos (by rw [G3s];exact hi),Array.toList_eraseIdx,G29]
  generalize (pendingOf st).toList.drop (i+2)=B at e ⊢
  have li:((pendingOf st).toList.take i).length=i:=by rw [G0E];omega
  generalize (pendingOf st).toList.take i=A at e li ⊢
  rw [e]
  subst li
  simp [List.set_append,List.eraseIdx_append]
  intro z;omega
 have lZ:Z.length=na+nb:=by rw [pz.length_eq,G0a,jeK (by omega),jeK (by omega)]
 have lt:((arrOf st).toList.take sa).length=sa:=by rw [G0E];omega
 refine q st' ⟨kd,hf,?_,?_⟩ ?_ ?_
 ·rw [ha]
  refine List.Perm.trans ?_ b.perm
  have c3:=jgh (arrOf st).toList (p:=sa) (n:=na) (m:=nb)
  have pp:=(pz.append_left ((arrOf st).toList.take sa)).append_right ((arrOf st).toList.drop (sa+na+nb))
  rw [<-c3] at pp
  exact pp
 ·rw [hpl,ha]
  refine Stk.append.mpr ⟨sa,k1.same ?_,rfl,by omega,?_,?_⟩
  ·rw [G0l,G1F (by omega),G0K (l:=(arrOf st).toList.take sa) (by omega)]
  ·unfold seg
   rw [G0l,G1E (by omega),G1m (by omega),G0v,G1F (by omega),G0K (by omega)]
   exact sz'
  ·rw [<-G3A]
   refine k2.shift ?_
   have:((arrOf st).toList.take sa++Z).length=sa+na+nb:=by rw [G0a,lt,lZ];omega
   rw [G1E (by omega),G1m (as:=(arrOf st).toList.take sa++Z) (by omega),G0v]
 ·rw [<-G0V,<-G0V,hpl]
  have:(pendingOf st).toList.length=((pendingOf st).toList.take i++(sa,na,pw)::(sa+na,nb,pw2)::(pendingOf st).toList.drop (i+2)).length:=congrArg List.length e
  rw [this]
  simp only [G0a,G0h]
  omega
 ·rw [ha]
  have c1:((arrOf st).toList.take sa++Z).length=sa+na+nb:=by rw [G0a,lt,lZ];omega
  have c2:sa+na+nb<=lo:=by omega
  rw [List.drop_append,G1m (as:=(arrOf st).toList.take sa++Z) (by omega),G0v,G1Y,c1]
  congr 1;omega
theorem Bt.run {l0 Z:List Keyed} {lo n:Nat} {s1 s2:SortSt} (b:Bt R κ l0 lo s1) (hlo:lo<=l0.length) (ar:Arr s1 s2) (L:Lies s2 ((arrOf s1).toList.take lo) Z (((arrOf s1).toList.drop lo).drop n)) (p:Z.Perm (((arrOf s1).toList.drop lo).take n)) (sr:Srt R Z) (hn:n<=l0.length-lo):Bt R κ l0 lo s2/\Srt R (seg (arrOf s2).toList lo n):=by
 have ln:(arrOf s1).toList.length=l0.length:=b.perm.length_eq
 have lP:((arrOf s1).toList.take lo).length=lo:=by rw [G0E];omega
 have lZ:Z.length=n:=by rw [p.length_eq,G0E,G0X];omega
 have e:(arrOf s2).toList=(arrOf s1).toList.take lo++Z++((arrOf s1).toList.drop lo).drop n:=L
 refine⟨⟨ar.1.trans b.kind,ar.2.2.1.trans b.failed,?_,?_⟩,?_⟩
 ·rw [e]
  refine List.Perm.trans ?_ b.perm
  have pp:=(p.append_left ((arrOf s1).toList.take lo)).append_right (((arrOf s1).toList.drop lo).drop n)
  rw [G0l _ (((arrOf s1).toList.drop lo).take n),G0J,G0J] at pp
  exact pp
 ·rw [ar.2.1]
  refine b.stk.same ?_
  rw [e,G0l,G1F (by omega),G0K (l:=(arrOf s1).toList.take lo) (by omega)]
 ·rw [e]
  unfold seg
  rw [G0l,G1E (by omega),G1m (by omega),G0v,G1F (by omega),G0K (by omega)]
  exact sr
theorem Bt.push {l0:List Keyed} {lo n:Nat} {s:SortSt} (b:Bt R κ l0 lo s) (n1:1<=n) (g:Srt R (seg (arrOf s).toList lo n)):Bt R κ l0 (lo+n) (setPending s ((pendingOf s).push (lo,n,0))):=by
 refine⟨b.kind,b.failed,b.perm,?_⟩
 show Stk R (arrOf s).toList ((pendingOf s).push (lo,n,0)).toList 0 (lo+n)
 rw [G2m]
 exact Stk.append.mpr ⟨lo,b.stk,rfl,n1,g,rfl⟩
theorem Stk.mod {l:List Keyed} {f:Nat×Nat×Nat->Nat×Nat×Nat} (hf: ∀x,(f x).1=x.1/\(f x).2.1=x.2.1): ∀ {pl:List (Nat×Nat×Nat)} {k s e:Nat},Stk R l pl s e->Stk R l (pl.modify k f) s e
 | [],k,s,e,h=>by rw [List.modify_nil];exact h
 |(p,n,w)::rest,0,s,e,⟨a,b,c,d⟩=>by
  rw [List.modify_zero_cons]
  have e1:=(hf (p,n,w)).1
  have e2:=(hf (p,n,w)).2
  generalize f (p,n,w)=x at e1 e2
  obtain⟨p',n',w'⟩:=x
  dsimp only at e1 e2
  subst e1 e2
  exact⟨a,b,c,d⟩
 |(p,n,w)::rest,k+1,s,e,⟨a,b,c,d⟩=>by
  rw [List.modify_succ_cons]
  exact⟨a,b,c,d.mod hf⟩
theorem Bt.mod {l0:List Keyed} {lo k:Nat} {s:SortSt} {f:Nat×Nat×Nat->Nat×Nat×Nat} (b:Bt R κ l0 lo s) (hf: ∀x,(f x).1=x.1/\(f x).2.1=x.2.1):Bt R κ l0 lo (setPending s ((pendingOf s).modify k f)):=by
 refine⟨b.kind,b.failed,b.perm,?_⟩
 show Stk R (arrOf s).toList ((pendingOf s).modify k f).toList 0 lo
 rw [Array.toList_modify]
 exact b.stk.mod hf
theorem jkJ (c:Bool) (x:Nat):(if c=true then x-1 else x)<=x:=by cases c<;>simp
theorem jmD {l0:List Keyed} {st:SortSt} {Q:Unit->SortSt->Prop} (ak:jgB prog w A J κ U R) (o:Ordd U R) (u: ∀x∈l0,U x) (kd:kindOf st=κ) (hf:failedOf st=none) (hp:pendingOf st= #[]) (hl:(arrOf st).toList=l0)
 (q: ∀st',failedOf st' =none->(arrOf st').toList.Perm l0->Srt R (arrOf st').toList->Q () st'):Tm prog w A E J sortRuns' Q st:=by
 have b0:Bt R κ l0 0 st:=⟨kd,hf,by rw [hl],by rw [hp];rfl⟩
 rw [sortRuns'_eq]
 refine .bind (.get ?_)
 dsimp only
 rw [b0.size]
 generalize minRun' l0.length l0.length 0=mr
 refine .bind (Tm.mono (Tm.range (λi c s1=>c.1=none/\c.2<=l0.length/\i<=c.2/\Bt R κ l0 c.2 s1) (Q:=λc s1=>c.1=none/\Bt R κ l0 l0.length s1) (G1l _) ⟨rfl,G1l _,G1l _,b0⟩ ?_ ?_) ?_)
 ·rintro i ⟨r,lo⟩ s1 hi ⟨hr,h1,h2,b⟩
  dsimp only at hr h1 h2 b ⊢
  subst hr
  by_cases z1:lo>=l0.length
  ·rw [if_pos z1]
   have:lo=l0.length:=by omega
   subst this
   exact .pure ⟨rfl,b⟩
  rw [if_neg z1]
  have ln:(arrOf s1).toList.length=l0.length:=b.perm.length_eq
  have lP:((arrOf s1).toList.take lo).length=lo:=by rw [G0E];omega
  have lT:((arrOf s1).toList.drop lo).length=l0.length-lo:=by rw [G0X,ln]
  have uT: ∀x∈(arrOf s1).toList.drop lo,U x:=λx hx=>u x (b.perm.mem_iff.mp (G04 hx))
  have ct:=λ{Q}=>jkG (prog:=prog) (w:=w) (A:=A) (E:=E) (J:=J) (Q:=Q) (st:=s1) (P:=(arrOf s1).toList.take lo) (T:=(arrOf s1).toList.drop lo) ak b.kind o uT (by unfold Lies;rw [List.append_nil,List.take_append_drop]) (by omega)
  rw [lP,lT] at ct
  refine .bind (ct λn s2 Z n1 n2 ar L p sr=> ?_)
  dsimp only
  by_cases z2:n<mr
  ·rw [if_pos z2]
   have bn:=λ{Q}=>joQ (prog:=prog) (w:=w) (A:=A) (E:=E) (J:=J) (Q:=Q) (st:=s2) (P:=(arrOf s1).toList.take lo) (T:=(arrOf s1).toList.drop lo) (n:=min (l0.length-lo) mr) ak (ar.1.trans b.kind) o uT L p sr n1 (by omega) (by omega)
   rw [lP] at bn
   refine .bind (.rule (.bind (bn λs3 Z3 ar3 L3 p3 sr3=> ?_)))
   obtain⟨B,G⟩:=b.run h1 (ar.trans ar3) L3 p3 sr3 (by omega)
   have N1:1<=min (l0.length-lo) mr:=by omega
   rw [if_neg (by decide)]
   refine .bind (.get ?_)
   split
   ·refine .bind (Tm.mono (Tm.range (λj c s4=>c.1=none/\Bt R κ l0 lo s4/\Srt R (seg (arrOf s4).toList lo (min (l0.length-lo) mr))) (Q:=λc s4=>c.1=none/\Bt R κ l0 lo s4/\Srt R (seg (arrOf s4).toList lo (min (l0.length-lo) mr))) (G1l _) ⟨rfl,B,G⟩ ?_ (λ_ _ h=>h)) ?_)
    ·rintro j ⟨r,c⟩ s4 hj ⟨hr,B4,G4⟩
     dsimp only at hr ⊢
     subst hr
     refine .bind (.get ?_)
     split
     ·rename_i older heq
      split
      ·exact .pure ⟨rfl,B4,G4⟩
      ·have two:(pendingOf s4).size>1:=G3g λz=>by rw [if_neg z] at heq;cases heq
       refine .bind (Bt.merge ak o u B4 h1 (by omega) λs5 B5 _ dr=> ?_)
       refine .pure ⟨rfl,B5,?_⟩
       unfold seg at G4 ⊢
       rw [dr];exact G4
     ·exact .pure ⟨rfl,B4,G4⟩
    ·rintro ⟨r,c⟩ s4 ⟨hr,B4,G4⟩
     dsimp only at hr ⊢
     subst hr
     dsimp only
     refine .bind (.modify (.bind (.modify (.pure ⟨rfl,?_,?_,Bt.push (Bt.mod B4 λx=>⟨rfl,rfl⟩) N1 G4⟩))))
     ·dsimp only;omega
     ·dsimp only;omega
   ·refine .bind (.modify (.pure ⟨rfl,?_,?_,Bt.push B N1 G⟩))
    ·dsimp only;omega
    ·dsimp only;omega
  ·rw [if_neg z2]
   obtain⟨B,G⟩:=b.run h1 ar L p sr n2
   have N1:=n1
   refine .bind (.get ?_)
   split
   ·refine .bind (Tm.mono (Tm.range (λj c s4=>c.1=none/\Bt R κ l0 lo s4/\Srt R (seg (arrOf s4).toList lo (n))) (Q:=λc s4=>c.1=none/\Bt R κ l0 lo s4/\Srt R (seg (arrOf s4).toList lo (n))) (G1l _) ⟨rfl,B,G⟩ ?_ (λ_ _ h=>h)) ?_)
    ·rintro j ⟨r,c⟩ s4 hj ⟨hr,B4,G4⟩
     dsimp only at hr ⊢
     subst hr
     refine .bind (.get ?_)
     split
     ·rename_i older heq
      split
      ·exact .pure ⟨rfl,B4,G4⟩
      ·have two:(pendingOf s4).size>1:=G3g λz=>by rw [if_neg z] at heq;cases heq
       refine .bind (Bt.merge ak o u B4 h1 (by omega) λs5 B5 _ dr=> ?_)
       refine .pure ⟨rfl,B5,?_⟩
       unfold seg at G4 ⊢
       rw [dr];exact G4
     ·exact .pure ⟨rfl,B4,G4⟩
    ·rintro ⟨r,c⟩ s4 ⟨hr,B4,G4⟩
     dsimp only at hr ⊢
     subst hr
     dsimp only
     refine .bind (.modify (.bind (.modify (.pure ⟨rfl,?_,?_,Bt.push (Bt.mod B4 λx=>⟨rfl,rfl⟩) N1 G4⟩))))
     ·dsimp only;omega
     ·dsimp only;omega
   ·refine .bind (.modify (.pure ⟨rfl,?_,?_,Bt.push B N1 G⟩))
    ·dsimp only;omega
    ·dsimp only;omega
 ·rintro ⟨r,lo⟩ s1 ⟨hr,h1,h2,b⟩
  dsimp only at hr h1 h2 b
  have:lo=l0.length:=by omega
  subst this
  exact⟨hr,b⟩
 ·rintro ⟨r,lo⟩ s1 ⟨hr,b⟩
  dsimp only at hr ⊢
  subst hr
  dsimp only
  have le0:=b.stk.le
  have lp0:(pendingOf s1).toList.length=(pendingOf s1).size:=by simp
  refine .bind (Tm.mono (Tm.range (λj c s4=>c.1=none/\Bt R κ l0 l0.length s4/\(pendingOf s4).size+j<=l0.length) (Q:=λc s4=>c.1=none/\Bt R κ l0 l0.length s4/\(pendingOf s4).size<=1) (G1l _) ⟨rfl,b,by omega⟩ ?_ (λc s4 ⟨x,y,z⟩=>⟨x,y,by omega⟩)) ?_)
  ·rintro j ⟨r,c⟩ s4 hj ⟨hr,B4,z4⟩
   dsimp only at hr ⊢
   subst hr
   refine .bind (.get ?_)
   by_cases c1:(pendingOf s4).size<=1
   ·rw [if_pos c1]
    exact .pure ⟨rfl,B4,c1⟩
   rw [if_neg c1]
   refine .bind (Bt.merge ak o u B4 (G0k _) (G2d (Nat.add_le_add_right (jkJ _ _) 1) (by omega)) λs5 B5 z5 _=> ?_)
   exact .pure ⟨rfl,B5,by omega⟩
  ·rintro ⟨r,c⟩ s4 ⟨hr,B4,z4⟩
   dsimp only at hr ⊢
   subst hr
   refine .pure (q s4 B4.failed B4.perm ?_)
   have stk:=B4.stk
   have ln:(arrOf s4).toList.length=l0.length:=B4.perm.length_eq
   have lp:(pendingOf s4).toList.length=(pendingOf s4).size:=by simp
   generalize (pendingOf s4).toList=pl at stk lp
   match pl,stk,lp with
   | [],e,_=>
    have:l0.length=0:=e.symm
    have:(arrOf s4).toList= []:=G18.mp (by omega)
    rw [this];exact .nil
   | [(p,n,_)],⟨e1,_,sr,e2⟩,_=>
    subst e1
    have en:n=l0.length:=by have:0+n=l0.length:=e2;omega
    unfold seg at sr
    rw [List.drop_zero,G0K (by omega)] at sr
    exact sr
   |_::_::_,_,h=>simp only [G0h] at h;omega
end
section
variable {prog:Program} {w:World} {A:Around} {E:Value->Shared->Prop} {s:Shared} {κ:SortKind} {U:Keyed->Prop} {R:Keyed->Keyed->Bool}
def joR (s:Shared) (a:Addr) (h' :Heap):Prop:= ∀b o,b≠a->s.heap.get? b=some o->h'.get? b=some o
def Only (s:Shared) (h' :Heap):Shared->Prop:=λs' => ∃tk,s' = {s with heap:=h',toks:=tk}
theorem jkK {M:Model} {α β:Type} {c:Prop} [Decidable c] {m m' :Sem α} {F:α->Sem β} {Q:β->Shared->Prop} (h:wpAny M A ((if c then m else m') >>= F) Q E s):wpAny M A (if c then m >>= F else m' >>= F) Q E s:=by
 by_cases z:c
 ·rw [if_pos z] at h ⊢;exact h
 ·rw [if_neg z] at h ⊢;exact h
theorem jdQ (vs:List Value):(vs.toArray.zip vs.toArray).toList=vs.map λv=>(v,v):=by
 rw [Array.toList_zip]
 show vs.zip vs=_
 induction vs with
 |nil=>rfl
 |cons v vs ih=>rw [G2y,ih,G0w]
theorem jkL {a:Addr} {vs:List Value} {n:Nat} {P:Fin->Shared->Prop} (ho:s.heap.get? a=some (seqObj "list" vs.toArray n)) (hz:vs.length<=sizeLine)
 (hk:2<=vs.length-> ∀h',joR s a h' ->wpAny (model prog w) A (keyKind' vs.toArray) (λk s' =>k=κ/\Only s h' s') (λ_ _=>False) {s with heap:=h'}) (ak: ∀h',joR s a h' ->jgB prog w A (Only s h') κ U R) (o:Ordd U R) (u: ∀v∈vs,U (v,v))
 (q: ∀ (out:List Value) (c tk:Nat) (h' :Heap),joR s a h' ->h'.get? a=some (seqObj "list" out.toArray c)->out.Perm vs->(out.map λv=>(v,v)).Pairwise (λx y=>R y x=false)->P (.done (.ret .none)) {s with heap:=h',toks:=tk}):
 wpAny (model prog w) A (Builtin.«list.sort» ⟨[.ref a],[]⟩) P E s:=by
 have alt:=G0A ho
 have sv:vs.toArray.size=vs.length:=G0u ..
 rw [list_sort_plain]
 refine wpAny_bind (listItems_at ho rfl ?_)
 obtain⟨c1,ho1⟩: ∃c,(s.heap.update a (Obj.mapSeq λ_=>(#[]:Array Value))).get? a=some (seqObj "list" #[] c):=⟨_,get?_update_seq ho λ_=> #[]⟩
 refine wpAny_bind (listUpdate_at ho rfl ?_ (by rw [sv];exact hz) (G1l _))
 refine wpAny_bind (seqEpoch_at ho1 rfl ?_)
 refine wpAny_bind (wpAny_newTuple ?_ hz)
 refine wpAny_bind (wpAny_newList ?_ (G1l _))
 refine G1w ?_
 have past:joR s a (((s.heap.update a (Obj.mapSeq λ_=>(#[]:Array Value))).push {cls:= .type "tuple",data:= .seq vs.toArray.toList.toArray}).push {cls:= .type "list",data:= .seq ([]:List Value).toArray}):=λb x ne e=>by
  refine G0f _ (G0f _ ?_)
  rw [G25 _ _ _ _ ne];exact e
 have ho3:=G0f ({cls:= .type "list",data:= .seq ([]:List Value).toArray}:Obj) (G0f ({cls:= .type "tuple",data:= .seq vs.toArray.toList.toArray}:Obj) ho1)
 revert past ho3
 generalize ((s.heap.update a (Obj.mapSeq λ_=>(#[]:Array Value))).push ({cls:= .type "tuple",data:= .seq vs.toArray.toList.toArray}:Obj)).push ({cls:= .type "list",data:= .seq ([]:List Value).toArray}:Obj)=H3
 intro past ho3
 have kd:wpAny (model prog w) A (if vs.toArray.size<2 then pure general' else keyKind' vs.toArray) (λk s0=>(2<=vs.length->k=κ)/\Only s H3 s0) (λ_ _=>False) {s with heap:=H3}:=by
  by_cases c:vs.toArray.size<2
  ·rw [if_pos c]
   exact G0j ⟨λz=>by omega,s.toks,rfl⟩
  ·rw [if_neg c]
   exact G0D (hk (by omega) H3 past) (λk s0 x=>⟨λ_=>x.1,x.2⟩) λ_ _ e=>e
 have rn: ∀k s0,(2<=vs.length->k=κ)->Only s H3 s0->wpAny (model prog w) A ((if vs.toArray.size<2 then pure () else sortRuns' :StateT SortSt Sem Unit).run (SortSt.mk' k (vs.toArray.zip vs.toArray) #[] 7 none)) (λr s' =>(failedOf r.2=none/\(arrOf r.2).toList.Perm (vs.map λv=>(v,v))/\Srt R (arrOf r.2).toList)/\Only s H3 s') E s0:=by
  intro k s0 ek j
  by_cases c:vs.toArray.size<2
  ·rw [if_pos c,StateT.run_pure]
   refine G0j ⟨⟨rfl,?_,?_⟩,j⟩
   ·show (vs.toArray.zip vs.toArray).toList.Perm _
    rw [jdQ]
   ·show Srt R (vs.toArray.zip vs.toArray).toList
    rw [jdQ]
    rw [sv] at c
    match vs,c with
    | [],_=>exact List.Pairwise.nil
    | [v],_=>exact G00 _ _
  ·rw [if_neg c]
   have ek:=ek (by omega)
   subst ek
   refine jmD (E:=E) (ak H3 past) o (l0:=vs.map λv=>(v,v)) (st:=SortSt.mk' k (vs.toArray.zip vs.toArray) #[] 7 none) (λx hx=> ?_) rfl rfl rfl (jdQ vs) (Q:=λ_ st' =>failedOf st' =none/\(arrOf st').toList.Perm (vs.map λv=>(v,v))/\Srt R (arrOf st').toList) (λst' a1 a2 a3=>⟨a1,a2,a3⟩) s0 j
   obtain⟨v,hv,rfl⟩:=G05.mp hx
   exact u v hv
 dsimp only
 refine jkK (wpAny_bind (G0D kd (λk s0 x=> ?_) λ_ _ e=>e.elim))
 refine wpAny_bind (G0D (rn k s0 x.1 x.2) ?_ λ_ _ e=>e)
 rintro ⟨⟨⟩,st'⟩ s1 ⟨⟨hf,hp,hs⟩,tk,rfl⟩
 dsimp only
 have eo:((arrOf st').map λx=>x.2)=((arrOf st').toList.map λx=>x.2).toArray:=by
  rw [<-Array.toList_map,Array.toArray_toList]
 have two:(arrOf st').toList=((arrOf st').toList.map λx=>x.2).map λv=>(v,v):=by
  rw [G1K]
  refine(G3P _).symm.trans (G1P λx hx=> ?_)
  obtain⟨v,_,rfl⟩:=G05.mp (hp.mem_iff.mp hx)
  rfl
 have po:((arrOf st').toList.map λx=>x.2).Perm vs:=by
  have:=hp.map λx=>x.2
  rw [G1K] at this
  refine this.trans ?_
  rw [show ((λx:Keyed=>x.2)∘λv:Value=>(v,v))=id from rfl,G3P]
 rw [two] at hs
 rw [eo]
 generalize (arrOf st').toList.map (λx=>x.2)=out at hs po
 obtain⟨c2,ho4⟩: ∃c,(H3.update a (Obj.mapSeq λ_=>out.toArray)).get? a=some (seqObj "list" out.toArray c):=⟨_,get?_update_seq ho3 λ_=>out.toArray⟩
 refine wpAny_bind (seqEpoch_at (s:= {s with heap:=H3,toks:=tk}) ho3 rfl ?_)
 refine wpAny_bind (listUpdate_at (s:= {s with heap:=H3,toks:=tk}) ho3 rfl ?_ (G1l _) (by rw [G0u,po.length_eq];exact Nat.le_succ_of_le hz))
 rw [hf]
 simp only [bne_self_eq_false,Bool.false_eq_true,G3J]
 refine G0j (q out c2 tk _ (λb x ne e=> ?_) ho4 po hs)
 rw [G25 _ _ _ _ ne];exact past b x ne e
abbrev jd7 (h h' :Heap):Prop:= ∀b o,h.get? b=some o->h'.get? b=some o
theorem jh1 {l:Addr} {vs:List Value} {Q:Value->Shared->Prop} (hl:s.heap.IsList l vs.toArray) (hz:vs.length<sizeLine)
 (hk:2<=vs.length-> ∀h',jd7 s.heap h' ->wpAny (model prog w) A.in1.in1 (keyKind' vs.toArray) (λk s' =>k=κ/\Only s h' s') (λ_ _=>False) {s with heap:=h'}) (ak: ∀h',jd7 s.heap h' ->jgB prog w A.in1.in1 (Only s h') κ U R) (o:Ordd U R) (u: ∀v∈vs,U (v,v))
 (q: ∀ (h1 h' :Heap) (tk c:Nat) (out:List Value),jd7 s.heap h1->jd7 h1 h' ->h'.get? h1.objs.size=some (seqObj "list" out.toArray c)->out.Perm vs->(out.map λv=>(v,v)).Pairwise (λx y=>R y x=false)->Q (.ref h1.objs.size) {s with heap:=h',toks:=tk}):
 wpAny (model prog w) A (call (.builtin "sorted") [.ref l]) Q E s:=by
 refine Calls.call_function_entry kind_sorted plain_sorted entry_sorted (args_sorted1 _) (wpAny_bind (G0j (wpAny_bind (collect_list hl ?_ (by omega)))))
 have k1:jd7 s.heap ((s.heap.push (seqObj "list" #[] 0)).update s.heap.objs.size (Obj.mapSeq (· ++vs.toArray))):=λb x e=>by
  rw [G25 _ _ _ _ (G0Q (G0A e))]
  exact G0f _ e
 revert k1
 generalize (s.heap.push (seqObj "list" #[] 0)).update s.heap.objs.size (Obj.mapSeq (· ++vs.toArray))=H1
 intro k1
 have fresh:(H1.push (seqObj "list" vs.toArray 0)).get? H1.objs.size=some (seqObj "list" vs.toArray 0):=G0S _ rfl
 have kp: ∀h',joR {s with heap:=H1.push (seqObj "list" vs.toArray 0)} H1.objs.size h' ->jd7 H1 h' :=λh' p b x e=>p b x (G0Q (G0A e)) (G0f _ e)
 refine wpAny_bind (wpAny_newList (wpAny_bind (G1w (G1D slot_list_sort ⟨_,fresh,rfl⟩ entry_list_sort (jkL (s:= {s with heap:=H1.push (seqObj "list" vs.toArray 0)}) (κ:=κ) (U:=U) (R:=R) fresh (G0W hz) (λh2 h' p=>hk h2 h' λb x e=>kp h' p b x (k1 b x e)) (λh' p=>ak h' λb x e=>kp h' p b x (k1 b x e)) o u λout c tk h' p e1 e2 e3=>⟨_,rfl,?_⟩) (args_list_sort _)))) (G0W hz))
 exact G0j ⟨_,rfl,q H1 h' tk c out k1 (kp h' p) e1 e2 e3⟩
end
theorem jdR: ∀a b:List Int,jaQ a b=true->jaQ b a=false
 | [],[],h=>rfl
 | [],_::_,_=>rfl
 |_::_,[],h=>by cases h
 |x::xs,y::ys,h=>by
  unfold jaQ at h ⊢
  by_cases e:x=y
  ·subst e
   rw [if_pos rfl] at h ⊢
   exact jdR xs ys h
  ·rw [if_neg e] at h
   rw [if_neg (Ne.symm e)]
   have:=G1v h
   exact G0R (by omega)
theorem jeM: ∀a b c:List Int,jaQ a c=true->jaQ a b=true\/jaQ b c=true
 | [],[],c,h=> .inr h
 | [],_::_,_,_=> .inl rfl
 |_::_,_,[],h=>by cases h
 |x::xs,[],z::zs,h=> .inr rfl
 |x::xs,y::ys,z::zs,h=>by
  unfold jaQ at h ⊢
  by_cases e:x=z
  ·subst e
   rw [if_pos rfl] at h
   by_cases f:x=y
   ·subst f
    rw [if_pos rfl,if_pos rfl]
    exact jeM xs ys zs h
   ·rw [if_neg f,if_neg (Ne.symm f)]
    by_cases g:x<y
    ·exact .inl (G0P g)
    ·exact .inr (G0P (by omega))
  ·rw [if_neg e] at h
   have lt:=G1v h
   by_cases f:x=y
   ·subst f
    rw [if_neg e]
    exact .inr h
   ·rw [if_neg f]
    by_cases g:x<y
    ·exact .inl (G0P g)
    ·refine .inr ?_
     rw [if_neg (by omega)]
     exact G0P (by omega)
theorem jeN: ∀a b:List Int,jaQ a b=false->jaQ b a=false->a=b
 | [],[],_,_=>rfl
 | [],_::_,h,_=>by cases h
 |_::_,[],_,h=>by cases h
 |x::xs,y::ys,h,h' =>by
  unfold jaQ at h h'
  by_cases e:x=y
  ·subst e
   rw [if_pos rfl] at h h'
   rw [jeN xs ys h h']
  ·rw [if_neg e] at h
   rw [if_neg (Ne.symm e)] at h'
   have:=of_decide_eq_false h
   have:=of_decide_eq_false h'
   omega
theorem jjv {U:Keyed->Prop} (key:Value->List Int):Ordd U (λx y=>jaQ (key x.1) (key y.1)):=⟨λx y _ _ h=>jdR _ _ h,λx y z _ _ _ h=>jeM _ _ _ h⟩
def IT (h:Heap) (v:Value) (ns:List Int):Prop:= ∃a its,v= .ref a/\IsTup h a its/\IntsAre its.toList ns
theorem IT.keeps {h h' :Heap} {v:Value} {ns:List Int} (x:IT h v ns) (k:jd7 h h'):IT h' v ns:=let ⟨a,its,e,t,i⟩:=x;⟨a,its,e,t.keeps k,i⟩
theorem jhs: ∀ {vs:List Value} {ns ms:List Int},IntsAre vs ns->IntsAre vs ms->ns=ms
 |_,_,_,.nil,.nil=>rfl
 |_,_,_,.cons n t a,.cons _ _ b=>by rw [jhs a b]
theorem IT.one {h:Heap} {v:Value} {ns ms:List Int} (x:IT h v ns) (y:IT h v ms):ns=ms:=by
 obtain⟨a,its,rfl,⟨o,e,c,n,d⟩,i⟩:=x
 obtain⟨a',its',e2,⟨o',e',c',n',d'⟩,i'⟩:=y
 cases e2
 rw [e] at e'
 cases e'
 rw [d] at d'
 cases d'
 exact jhs i i'
open Classical in
noncomputable def ja5 (h:Heap) (v:Value):List Int:=if e: ∃ns,IT h v ns then e.choose else []
theorem IT.nums {h:Heap} {v:Value} {ns:List Int} (x:IT h v ns):ja5 h v=ns:=by
 have e: ∃ns,IT h v ns:=⟨ns,x⟩
 unfold ja5
 rw [dif_pos e]
 exact e.choose_spec.one x
section
variable {prog:Program} {w:World} {A:Around} {E:Value->Shared->Prop} {s:Shared}
theorem jdy {α β:Type} {M:Model} {f:α->Sem β} (r:α->β): ∀ (l:List α) {Q:List β->Shared->Prop},(∀v∈l,∀Q' :β->Shared->Prop,Q' (r v) s->wpAny M A (f v) Q' E s)->Q (l.map r) s->wpAny M A (l.mapM f) Q E s
 | [],_,_,q=>by
  rw [List.mapM_nil];exact G0j q
 |v::l,Q,hf,q=>by
  rw [List.mapM_cons]
  refine wpAny_bind (hf v G0C _ (wpAny_bind ?_))
  exact jdy r l (λu hu=>hf u (G0G _ hu)) (G0j q)
def jbb (h:Heap):Value->Option Value
 | .ref a=>match h.get? a with
  |some o=>match o.data with
   | .seq xs _=>xs[0]?
   |_=>none
  |none=>none
 |_=>none
theorem jkM {v:Value} {ns:List Int} {Q:Option Value->Shared->Prop} (x:IT s.heap v ns) (q:Q (jbb s.heap v) s):wpAny (model prog w) A (firstOfTuple' v) Q E s:=by
 obtain⟨a,its,rfl,⟨o,e,c,n,d⟩,i⟩:=x
 have fe:jbb s.heap (.ref a)=its[0]? :=by
  unfold jbb;dsimp only;rw [e];dsimp only;rw [d]
 rw [PySem.W.kas_first_eq]
 refine wpAny_bind (PySem.W.Looks.here (show PySem.W.Looks (model prog w) s.heap (typeOf (.ref a)) o.cls from (PySem.W.Looks.ld e).andThen .now) ?_)
 rw [c,if_neg (by decide)]
 refine wpAny_bind (listItems_at e d (G0j ?_))
 rw [<-fe];exact q
theorem jh2 {h:Heap} {v:Value} (x:IT h v []):jbb h v=none:=by
 obtain⟨a,its,rfl,⟨o,e,c,n,d⟩,i⟩:=x
 unfold jbb;dsimp only;rw [e];dsimp only;rw [d];dsimp only
 obtain⟨l⟩:=its
 cases i
 rfl
theorem jfn {h:Heap} {v:Value} {n:Int} {ns:List Int} (x:IT h v (n::ns)): ∃t,jbb h v=some (.int n t):=by
 obtain⟨a,its,rfl,⟨o,e,c,k,d⟩,i⟩:=x
 obtain⟨l⟩:=its
 cases i with
 |cons _ t i=>exact⟨t,by unfold jbb;dsimp only;rw [e];dsimp only;rw [d];rfl⟩
theorem jkN {h:Heap} {v:Value} {ns:List Int} (x:IT h v ns):(jbb h v).isSome= !ns.isEmpty:=by
 cases ns with
 |nil=>rw [jh2 x];rfl
 |cons n ns=>obtain⟨t,e⟩:=jfn x;rw [e];rfl
noncomputable def jjw (h:Heap) (vs:List Value):SortKind:=
 if (vs.all λv=> !(ja5 h v).isEmpty)=true then tuples' true else if ((vs[0]?.map λv=> !(ja5 h v).isEmpty)=some true) then general' else oneType'
theorem jjx {h:Heap} {vs:List Value} (h2:2<=vs.length) (x: ∀v∈vs,∃ns,IT h v ns) {Q:SortKind->Shared->Prop} (e:jd7 h s.heap) (q:Q (jjw h vs) s):wpAny (model prog w) A (keyKind' vs.toArray) Q E s:=by
 have fr: ∀v∈vs,(jbb s.heap v).isSome= !(ja5 h v).isEmpty:=λv hv=>by
  obtain⟨ns,t⟩:=x v hv
  rw [t.nums,jkN (t.keeps e)]
 rw [keyKind'_eq,G3u,map_eq_pure_bind]
 refine wpAny_bind (wpAny_bind (jdy (jbb s.heap) vs (λv hv Q' q' => ?_) (G0j ?_)))
 ·obtain⟨ns,t⟩:=x v hv
  exact jkM (t.keeps e) q'
 have all_:((vs.map (jbb s.heap)).toArray.all λo=>o.isSome)=vs.all λv=> !(ja5 h v).isEmpty:=by
  rw [G3C,G1U]
  rw [G1x,G0Y,G0Y]
  exact⟨λz v hv=>by rw [<-fr v hv];exact z v hv,λz v hv=>by show (jbb s.heap v).isSome=true;rw [fr v hv];exact z v hv⟩
 rw [all_]
 unfold jjw at q
 by_cases a1:(vs.all λv=> !(ja5 h v).isEmpty)=true
 ·rw [if_pos a1] at q
  rw [if_pos a1]
  refine wpAny_bind (G3k ?_)
  obtain⟨fs,efs,nums,ne⟩: ∃fs:List Value,vs.map (jbb s.heap)=fs.map some/\(∀f∈fs,∃n t,f=Value.int n t)/\fs.length=vs.length:=by
   have go: ∀l:List Value,(∀v∈l,v∈vs)-> ∃fs:List Value,l.map (jbb s.heap)=fs.map some/\(∀f∈fs,∃n t,f=Value.int n t)/\fs.length=l.length:=by
    intro l
    induction l with
    |nil=>exact λ_=>⟨[],rfl,λf hf=>absurd hf G0U,rfl⟩
    |cons v l ih=>
     intro sub
     obtain⟨fs,e1,e2,e3⟩:=ih λu hu=>sub u (G0G _ hu)
     have hv:=sub v G0C
     obtain⟨ns,t⟩:=x v hv
     have ne:=G0Y.mp a1 v hv
     rw [t.nums] at ne
     cases ns with
     |nil=>cases ne
     |cons n ns=>
      obtain⟨tk,ef⟩:=jfn (t.keeps e)
      refine⟨.int n tk::fs,by rw [G0w,G0w,ef,e1],λf hf=> ?_,by rw [G0h,G0h,e3]⟩
      rcases G0r.mp hf with rfl|hf
      ·exact⟨n,tk,rfl⟩
      ·exact e2 f hf
   exact go vs λ_ hv=>hv
  rw [efs]
  have fm:((fs.map some).toArray.filterMap id)=fs.toArray:=by simp
  rw [fm,oneTypeOnly'_eq,G3u,map_eq_pure_bind]
  refine wpAny_bind (wpAny_bind (wpAny_bind (jdy (λ_=>Value.type "int") fs (λf hf Q' q' => ?_) (G0j ?_))))
  ·obtain⟨n,t,rfl⟩:=nums f hf
   exact G0j q'
  ·match fs,ne with
   | [],ne=>rw [G0m] at ne;omega
   |f::fs,_=>
    have h0:(List.map (λ_=>Value.type "int") (f::fs)).toArray[0]? =some (Value.type "int"):=by simp
    have h1:((List.map (λ_=>Value.type "int") (f::fs)).toArray.all λy=>y==Value.type "int")=true:=by
     rw [G3C,G1U,G0Y]
     exact λ_ _=>rfl
    rw [h0]
    simp only [h1,if_true]
    exact G0j (G0j q)
 rw [if_neg a1] at q
 rw [if_neg a1]
 match vs,h2,x,fr,q with
 |v::vs,h2,x,fr,q=>
  have h0:((List.map (jbb s.heap) (v::vs)).toArray[0]?.bind id).isSome= !(ja5 h v).isEmpty:=by
   rw [<-fr v G0C];simp
  rw [h0]
  have h0' :(((v::vs)[0]?.map λv=> !(ja5 h v).isEmpty)=some true)↔(!(ja5 h v).isEmpty)=true:=by simp
  by_cases a2:(!(ja5 h v).isEmpty)=true
  ·rw [if_pos (h0'.mpr a2)] at q
   rw [if_pos a2]
   exact G0j q
  rw [if_neg λz=>a2 (h0'.mp z)] at q
  rw [if_neg a2]
  rw [oneTypeOnly'_eq,G3u,map_eq_pure_bind]
  refine wpAny_bind (wpAny_bind (wpAny_bind (jdy (λ_=>Value.type "tuple") (v::vs) (λf hf Q' q' => ?_) (G0j ?_))))
  ·obtain⟨ns,t⟩:=x f hf
   obtain⟨a,its,rfl,⟨o,e1,c,n,d⟩,i⟩:=t.keeps e
   refine PySem.W.Looks.here (show PySem.W.Looks (model prog w) s.heap (typeOf (.ref a)) o.cls from (PySem.W.Looks.ld e1).andThen .now) ?_
   rw [c];exact q'
  ·have h3:(List.map (λ_=>Value.type "tuple") (v::vs)).toArray[0]? =some (Value.type "tuple"):=by simp
   have h1:((List.map (λ_=>Value.type "tuple") (v::vs)).toArray.all λy=>y==Value.type "tuple")=true:=by
    rw [G3C,G1U,G0Y]
    exact λ_ _=>rfl
   rw [h3]
   simp only [h1,if_true]
   exact G0j (G0j q)
theorem jht {fin:Bool} {Q:Bool->Shared->Prop} {m n:Nat} (ef:fin=decide (m<n)): ∀ {vs us:List Value} {ns ms:List Int} (i:Nat),IntsAre vs ns->IntsAre us ms->ns.length+n=ms.length+m->Q (jaQ ns ms) s->PySem.W.KatLex prog w A true fin Q (vs.zip us) i s
 |_,_,_,_,i,.nil,.nil,l,q=>by
  subst ef
  rw [G3o]
  refine G3H ?_
  rw [G0R (by rw [G0m] at l;omega)];exact q
 |_,_,_,_,i,.nil,.cons c u y,l,q=>by
  subst ef
  rw [G3o]
  refine G3H ?_
  rw [G0P (by rw [G0m,G0h] at l;omega)];exact q
 |_,_,_,_,i,.cons a t x,.nil,l,q=>by
  subst ef
  rw [List.zip_nil_right]
  refine G3H ?_
  rw [G0R (by rw [G0m,G0h] at l;omega)];exact q
 |_,_,_,_,i,.cons a t x,.cons c u y,l,q=>by
  rw [G2y]
  rw [jfc] at q
  obtain⟨e,he,hiff⟩:=jg8 A s a t c u
  refine PySem.W.kat_cons (he prog w _ _ ?_)
  refine PySem.W.kat_go (λz=>PySem.W.kat_yes ?_) λz=>PySem.W.kat_no ?_
  ·rw [if_pos (hiff.mp z)] at q
   exact jht ef (i+1) x y (by rw [G0h,G0h] at l;omega) q
  ·rw [if_neg λz' =>by rw [hiff.mpr z'] at z;cases z] at q
   cases (true&&i==0) with
   |true=>exact oneLt_int q
   |false=>exact PySem.W.kat_one _ _ (PyProof.Rows.lt_int q)
theorem joS {v u:Value} {ns ms:List Int} {Q:Bool->Shared->Prop} (hu:A.units<cLine) (x:IT s.heap v ns) (y:IT s.heap u ms) (q:Q (jaQ ns ms) s):wpAny (model prog w) A (oneLt' true v u) Q E s:=by
 obtain⟨a,its,rfl,⟨⟨cls,dd,data,sl⟩,e1,c,n,d⟩,i⟩:=x
 obtain⟨b,its2,rfl,⟨⟨cls2,dd2,data2,sl2⟩,e2,c2,n2,d2⟩,i2⟩:=y
 simp only at c d c2 d2
 subst c d c2 d2
 rw [oneLt'_eq]
 simp only [if_true]
 refine wpAny_bind (wpAny_cRoomFor hu (wpAny_bind (wpAny_callSpecialIfBound?_slot ⟨_,e1,rfl⟩ G2Q (G3q G2Q ⟨_,e1,rfl⟩ G3D (G3w _ _) (jdl a b its its2 n n2 dd dd2 sl sl2 ns ms i i2) ⟨e1,e2,?_⟩))))
 exact G1i q
theorem joT {v u:Value} {ns ms:List Int} {Q:Bool->Shared->Prop} (hu:A.units<cLine) (x:IT s.heap v ns) (y:IT s.heap u ms) (q:Q (jaQ ns ms) s):wpAny (model prog w) A (oneLt' false v u) Q E s:=by
 obtain⟨a,its,rfl,t,i⟩:=x
 obtain⟨b,its2,rfl,t2,i2⟩:=y
 exact PySem.W.kat_one _ _ (jhH t t2 i i2 hu q)
theorem jjy {vs:List Value} (hu:A.units<cLine) {h' :Heap} (k:jd7 s.heap h'):jgB prog w A (Only s h') (jjw s.heap vs) (λx=> ∃ns,IT s.heap x.1 ns) (λx y=>jaQ (ja5 s.heap x.1) (ja5 s.heap y.1)):=by
 rintro ⟨x,x'⟩ ⟨y,y'⟩ ⟨ns,tx⟩ ⟨ms,ty⟩ s1 ⟨tk,rfl⟩
 dsimp only at tx ty ⊢
 have q:(jaQ ns ms=jaQ (ja5 s.heap x) (ja5 s.heap y)/\Only s h' {s with heap:=h',toks:=tk}):=⟨by rw [tx.nums,ty.nums],tk,rfl⟩
 have kx:=tx.keeps k
 have ky:=ty.keeps k
 unfold jjw
 by_cases a1:(vs.all λv=> !(ja5 s.heap v).isEmpty)=true
 ·rw [if_pos a1]
  obtain⟨a,its,rfl,⟨o,e1,c,n,d⟩,i⟩:=kx
  obtain⟨b,its2,rfl,⟨o2,e2,c2,n2,d2⟩,i2⟩:=ky
  refine PySem.W.kat_lt e1 d e2 d2 (jht rfl 0 i i2 ?_ q)
  have z1:=i.length
  have z2:=i2.length
  rw [G0V] at z1 z2
  omega
 rw [if_neg a1]
 by_cases a2:(vs[0]?.map λv=> !(ja5 s.heap v).isEmpty)=some true
 ·rw [if_pos a2]
  show wpAny _ _ (oneLt' false x y) _ _ _
  exact joT hu kx ky q
 ·rw [if_neg a2,keyLt'_oneType]
  exact joS hu kx ky q
theorem jgW {l:Addr} {vs:List Value} {Q:Value->Shared->Prop} (hu:A.in1.in1.units<cLine) (hl:s.heap.IsList l vs.toArray) (hz:vs.length<sizeLine) (x: ∀v∈vs,∃ns,IT s.heap v ns)
 (q: ∀ (h1 h' :Heap) (tk c:Nat) (out:List Value),jd7 s.heap h1->jd7 h1 h' ->h'.get? h1.objs.size=some (seqObj "list" out.toArray c)->out.Perm vs->out.Pairwise (λx y=>jaQ (ja5 s.heap y) (ja5 s.heap x)=false)->Q (.ref h1.objs.size) {s with heap:=h',toks:=tk}):
 wpAny (model prog w) A (call (.builtin "sorted") [.ref l]) Q E s:=by
 refine jh1 (κ:=jjw s.heap vs) (U:=λx=> ∃ns,IT s.heap x.1 ns) (R:=λx y=>jaQ (ja5 s.heap x.1) (ja5 s.heap y.1)) hl hz (λh2 h' k=> ?_) (λh' k=>jjy hu k) (jjv _) x λh1 h' tk c out k1 k2 e1 e2 e3=>q h1 h' tk c out k1 k2 e1 e2 ?_
 ·exact jjx (s:= {s with heap:=h'}) h2 x k ⟨rfl,s.toks,rfl⟩
 ·rw [G2n] at e3
  exact e3
end
end HT
namespace L2
open PySem PySem.Spec PyProof.Rows PySem.SeqAt HT
theorem jeO {α β:Type} {f:α->β}: ∀ {out:List β} {l:List α},out.Perm (l.map f)-> ∃l' :List α,l'.Perm l/\l'.map f=out
 | [],l,p=>by
  have e:=p.length_eq
  rw [G0c,G0m] at e
  exact⟨[],by rw [G2U e.symm],rfl⟩
 |x::out,l,p=>by
  obtain⟨y,hy,rfl⟩:=G05.mp (p.mem_iff.mp G0C)
  obtain⟨l1,l2,rfl⟩:=List.append_of_mem hy
  have p2:out.Perm ((l1++l2).map f):=by
   refine List.Perm.cons_inv (a:=f y) (p.trans ?_)
   rw [G07,G07,G0w]
   exact List.perm_middle
  obtain⟨l',a,b⟩:=jeO p2
  exact⟨y::l',(a.cons y).trans List.perm_middle.symm,by rw [G0w,b]⟩
def jqn (H:Hp) (v:V) (ns:List Int):Prop:= ∃a,v= .ref a/\H a=some (.tup (ns.map V.int))
theorem jgi {X:Cx} {k:Nat} (hr:Room k X.A):CallR X (.builtin "sorted") (λxs H Q=> ∃ (a:Addr) (ps:List (V×List Int)),xs= [.ref a]/\SqL X.K H a (ps.map (·.1))/\ps.length<sizeLine/\(∀p∈ps,jqn H p.1 p.2)/\ ∀ (q:Addr) (ps' :List (V×List Int)),H q=none->ps'.Perm ps->(ps'.map (·.2)).Pairwise (λx y=>HT.jaQ y x=false)->Q (.ref q) (upd H q (.lst (ps'.map (·.1))))):=by
 intro pins s σ H xs us Q I r h
 obtain⟨a,ps,rfl,hS,hz,ht,q⟩:=h
 obtain⟨u,rfl,ru⟩:=je2 r
 cases ru
 obtain⟨its,rv,pl,hz'⟩:=I.list hS
 obtain⟨zs,e1,e2,e3⟩: ∃zs:List (Value×V×List Int),its=zs.map (·.1)/\ps=zs.map (·.2)/\ ∀z∈zs,RelV z.2.1 z.1:=by
  clear hS q hz ht hz' pl
  induction ps generalizing its with
  |nil=>cases rv;exact⟨[],rfl,rfl,λz hz=>by cases hz⟩
  |cons p ps ih=>
   rw [G0w] at rv
   cases rv with
   |cons r1 r2=>
    obtain⟨zs,e1,e2,e3⟩:=ih _ r2
    exact⟨(_,p)::zs,by rw [G0w,<-e1],by rw [G0w,<-e2],λz hz=>by
     rcases G0r.mp hz with rfl|hz
     ·exact r1
     ·exact e3 z hz⟩
 subst e1 e2
 have it: ∀z∈zs,IT s.heap z.1 z.2.2:=λz hm=>by
  obtain⟨b,eb,hb⟩:=ht z.2 (List.mem_map_of_mem hm)
  have rz:=e3 z hm
  rw [eb] at rz
  have rz:z.1= .ref b:=rz
  obtain⟨_,us,r2,p⟩:=I.hok b _ hb
  exact⟨b,us.toArray,rz,p.tup,jk6 r2⟩
 have hu:X.A.in1.in1.units<cLine:=by
  have:=hr.un
  show X.A.units+1+1<cLine
  omega
 rw [G0c] at hz
 refine HT.jgW hu pl.isList (by rw [G0c];exact hz) (λv hv=> ?_) λh1 h' tk c out k1 k2 e4 pm srt=> ?_
 ·obtain⟨z,hm,rfl⟩:=G05.mp hv
  exact⟨_,it z hm⟩
 obtain⟨zs',pz,rfl⟩:=jeO pm
 have I1:=I.kept (t' :=s.toks) k1
 have vv: ∀l:List (Value×V×List Int),(∀z∈l,z∈zs)->Vals ((l.map (·.2)).map (·.1)) (l.map (·.1)):=λl=>by
  induction l with
  |nil=>exact λ_=> .nil
  |cons z l ih=>exact λsub=> .cons (e3 z (sub z G0C)) (ih λy hy=>sub y (G0G _ hy))
 refine⟨.ref _,_,I1.laid (t' :=tk) (o:= .lst ((zs'.map (·.2)).map (·.1))) k2 (G0k _) ⟨?_,_,c,vv zs' λz hm=>pz.mem_iff.mp hm,e4⟩,rfl,q _ (zs'.map (·.2)) (I1.hok.fresh (G0k _)) (pz.map _) ?_⟩
 ·rw [G0c,G0c,pz.length_eq];exact G0W hz
 ·rw [G2n,G2n]
  rw [G2n] at srt
  refine srt.imp_of_mem λ{y z} hy hz e=> ?_
  rw [<- (it y (pz.mem_iff.mp hy)).nums,<- (it z (pz.mem_iff.mp hz)).nums]
  exact e
abbrev tI (ns:List Int):D:= .tup (ns.map D.int)
def jmE:RDn:=λds h Q=> ∃ (a:Addr) (nss:List (List Int)),ds= [.lst a]/\h a=some (nss.map tI)/\nss.length<sizeLine/\ ∀ (p:Addr) (mss:List (List Int)),h p=none->mss.Perm nss->mss.Pairwise (λx y=>HT.jaQ y x=false)->Q (.lst p) (jbp h p (mss.map tI))
theorem jjz {K:PySem.W.Frag} {H:Hp}: ∀ {nss:List (List Int)} {vs:List V},RelDs K H (nss.map tI) vs-> ∃ps:List (V×List Int),vs=ps.map (·.1)/\nss=ps.map (·.2)/\ ∀p∈ps,jqn H p.1 p.2
 | [],vs,r=>⟨[],r,rfl,λp hp=>by cases hp⟩
 |ns::nss,vs,r=>by
  obtain⟨v,us,e,r1,r2⟩:=(show ∃v r,vs=v::r/\RelD K H (tI ns) v/\RelDs K H (nss.map tI) r from r)
  obtain⟨ps,e1,e2,e3⟩:=jjz r2
  obtain⟨a,ws,e4,hH,r4⟩:=(show ∃a vs,v= .ref a/\H a=some (.tup vs)/\RelDs K H (ns.map D.int) vs from r1)
  rw [jds r4] at hH
  exact⟨(v,ns)::ps,by rw [e,e1];rfl,by rw [e2];rfl,λp hp=>by
   rcases G0r.mp hp with rfl|hp
   ·exact⟨a,e4,hH⟩
   ·exact e3 p hp⟩
theorem jjA {K:PySem.W.Frag} {H:Hp}: ∀ {ps:List (V×List Int)},(∀p∈ps,jqn H p.1 p.2)->RelDs K H ((ps.map (·.2)).map tI) (ps.map (·.1))
 | [],_=> .nil
 |p::ps,h=> .cons (by
  obtain⟨a,e,hH⟩:=h p G0C
  exact⟨a,_,e,hH,jcA _⟩) (jjA λq hq=>h q (G0G _ hq))
theorem jh3 {X:Cx} {k:Nat} (hr:Room k X.A):jdo X (.builtin "sorted") jmE:=(jgi hr).imp λxs H Q ⟨ds,h,Qd,r,rh,⟨a,nss,e,hd,hz,q⟩,p⟩=>by
 subst e
 obtain⟨v,e,r1⟩:=jaI r
 obtain⟨vs,hH,r2⟩:=rh a _ hd
 have e1:v= .ref a:=r1.1
 subst e e1
 obtain⟨ps,rfl,rfl,ht⟩:=jjz r2
 refine⟨a,ps,rfl,SqL.of hH,by rw [G0c] at hz;exact hz,ht,λc ps' hc pm srt=> ?_⟩
 exact p (.lst c) _ _ _ (.new hc) (rh.newL hc (jjA λx hx=>ht x (pm.mem_iff.mp hx))) ⟨rfl,_,jaj⟩ (q c _ (rh.free hc) (pm.map _) srt)
abbrev toI (S:List Nat):List Int:=S.map λ(k:Nat)=>(k:Int)
theorem jmF {S S' :List Nat} (h:toI S=toI S'):S=S' :=by
 have:=congrArg (List.map Int.toNat) h
 rw [G1K,G1K] at this
 have e:(Int.toNat∘λ(k:Nat)=>(k:Int))=id:=by funext k;exact G2M k
 rw [e,G3P,G3P] at this
 exact this
theorem jlh (S:List Nat):tI (toI S)=jcb S:=by
 show D.tup _=D.tup _
 rw [G1K];rfl
def leS (a b:List Nat):Bool:= !HT.jaQ (toI b) (toI a)
theorem jjB (a b c:List Nat) (h:leS a b=true) (h' :leS b c=true):leS a c=true:=by
 unfold leS at*
 cases e:HT.jaQ (toI c) (toI a) with
 |false=>rfl
 |true=>
  rcases jeM _ (toI b) _ e with z|z
  ·rw [z] at h';cases h'
  ·rw [z] at h;cases h
theorem jjC (a b:List Nat):(leS a b||leS b a)=true:=by
 unfold leS
 cases e:HT.jaQ (toI b) (toI a) with
 |false=>rfl
 |true=>rw [jdR _ _ e];rfl
theorem jkO {a b:List Nat} (h:leS a b=true) (h' :leS b a=true):a=b:=by
 unfold leS at*
 refine jmF (jeN _ _ ?_ ?_)
 ·cases e:HT.jaQ (toI a) (toI b) with
  |false=>rfl
  |true=>rw [e] at h';cases h'
 ·cases e:HT.jaQ (toI b) (toI a) with
  |false=>rfl
  |true=>rw [e] at h;cases h
def jjD (l:List (List Nat)):List (List Nat):=l.mergeSort leS
theorem jh4 (l:List (List Nat)):(jjD l).Perm l:=List.mergeSort_perm _ _
theorem jh5 (l:List (List Nat)):(jjD l).Pairwise λa b=>leS a b=true:=List.pairwise_mergeSort jjB jjC l
theorem jjE {l P:List (List Nat)} (p:P.Perm l) (r:P.Pairwise λa b=>leS a b=true):P=jjD l:=
 List.Perm.eq_of_pairwise (λa b _ _ x y=>jkO x y) r (jh5 l) (p.trans (jh4 l).symm)
theorem jjF {l:List (List Nat)} {mss:List (List Int)} (p:mss.Perm (l.map toI)) (r:mss.Pairwise λx y=>HT.jaQ y x=false):mss.map tI=(jjD l).map jcb:=by
 obtain⟨P,pP,rfl⟩:=jeO p
 rw [G2n] at r
 rw [<-jjE pP (r.imp λe=>by unfold leS;rw [e];rfl),List.map_map]
 exact G1P λS _=>jlh S
end L2
namespace L2
open PySem PySem.Spec PyProof.Rows PySem.SeqAt
theorem jhu: ∀l:List Int,PyData.canLayAll0 (l.map PyData.int)=true
 | []=>rfl
 |x::l=>by show (PyData.canLay0 (.int x)&&_)=true;rw [jhu l];rfl
theorem jmG {neg:Bool} {x:Nat} {S:List Nat} {h:HD} {Q:KD} (q: ∀b:Bool,(b=true↔x∈S)->Q (.bl (neg !=b)) h):inE neg (.int (x:Int)) (jcb S) h Q:=by
 refine⟨.int x,(jko S).map PyData.int,rfl,.inr (jmk h S),rfl,jhu _,(by show (0:Nat)<=60;decide),q _ ?_⟩
 rw [List.any_eq_true]
 constructor
 ·rintro ⟨z,hz,e⟩
  obtain⟨m,hm,rfl⟩:=G05.mp hz
  obtain⟨y,hy,rfl⟩:=G05.mp (show m∈S.map λ(k:Nat)=>(k:Int) from hm)
  have:(y:Int)=x:=by simpa [PyData.eqv] using e
  have:y=x:=by omega
  exact this ▸ hy
 ·intro z
  exact⟨.int x,G05.mpr ⟨_,G05.mpr ⟨x,z,rfl⟩,rfl⟩,by simp [PyData.eqv]⟩
theorem jfL {h h' :HD} {a:Addr} (sb:Sub h h') (e:h' a=none):h a=none:=by
 cases z:h a with
 |none=>rfl
 |some ds=>rw [sb a ds z] at e;cases e
theorem Sub.over {h h' :HD} {a:Addr} {ds:List D} (sb:Sub h h') (e:h a=none):Sub h (jbp h' a ds):=λb xs k=>jag (λz=>by subst z;rw [e] at k;cases k) (sb b xs k)
theorem jmH {x:Nat} {S:List Nat} {h:HD} {Q:KD} (q:Q (.bl (!decide (x∈S))) h):inE true (.int (x:Int)) (jcb S) h Q:=jmG λbo hb=>by
 have:(true !=bo)= !decide (x∈S):=by
  cases bo with
  |true=>rw [G0P (hb.mp rfl)];rfl
  |false=>rw [G0R λz=>by have:=hb.mpr z;cases this];rfl
 rw [this];exact q
structure GB (n:Nat) (h0 h:HD) (R:Addr) (rs:List Addr) (f:Nat->Nat->Bool):Prop where
 at_:h R=some (rs.map D.lst)
 len:rs.length=n
 nR:R ∉ rs
 nd:rs.Nodup
 sb:Sub h0 h
 row: ∀i a,rs[i]? =some a->h0 a=none/\h a=some ((List.range n).map λj=>D.bl (f i j))
section
variable {n:Nat} {h0 h:HD} {R:Addr} {rs:List Addr} {f g:Nat->Nat->Bool}
theorem GB.put (G:GB n h0 h R rs f) {i j:Nat} {a:Addr} {v:Bool} (ha:rs[i]? =some a):GB n h0 (jbp h a (((List.range n).map λj=>D.bl (f i j)).set j (.bl v))) R rs (λx y=>if x=i/\y=j then v else f x y):=by
 have hm:=G0i ha
 have il:=(G0o.mp ha).1
 refine⟨jag (λz=>G.nR (z ▸ hm)) G.at_,G.len,G.nR,G.nd,G.sb.over (G.row i a ha).1,λx b hb=>⟨(G.row x b hb).1,?_⟩⟩
 by_cases z:x=i
 ·subst z
  have eb:b=a:=by rw [ha] at hb;injection hb with hb;exact hb.symm
  subst eb
  rw [jaa]
  refine congrArg some (List.ext_getElem (by simp) λm h1 h2=> ?_)
  rw [List.getElem_set]
  simp only [List.getElem_map,List.getElem_range]
  by_cases e:j=m
  ·subst e;simp
  ·rw [if_neg e,if_neg λw=>e w.2.symm]
 ·have ne:b≠a:=λw=>z ((List.getElem?_inj (G0o.mp hb).1 G.nd).mp (hb.trans (by rw [w];exact ha.symm)))
  rw [jag ne (G.row x b hb).2]
  exact congrArg some (G1P λy _=>by rw [if_neg λw=>z w.1])
theorem GB.pick (G:GB n h0 h R rs f) {i:Nat} (hi:i<n): ∃a,rs[i]? =some a/\atI (rs.map D.lst) (i:Int)=some (.lst a)/\h a=some ((List.range n).map λj=>D.bl (f i j)):=by
 have hi' :i<rs.length:=by rw [G.len];exact hi
 exact⟨rs[i],G0b hi',jb6 (by rw [G0H,G0b hi'];rfl),(G.row i _ (G0b hi')).2⟩
theorem GB.as (G:GB n h0 h R rs f) (e: ∀i j,i<n->j<n->f i j=g i j):GB n h0 h R rs g:=
 ⟨G.at_,G.len,G.nR,G.nd,G.sb,λi a ha=>⟨(G.row i a ha).1,by
  have hi:i<n:=by rw [<-G.len];exact(G0o.mp ha).1
  rw [(G.row i a ha).2]
  exact congrArg some (G1P λj hj=>by rw [e i j hi (G1A.mp hj)])⟩⟩
theorem GB.up (G:GB n h0 h R rs f) {h' :HD} (s:Sub h h'):GB n h0 h' R rs f:=⟨s _ _ G.at_,G.len,G.nR,G.nd,λa ds e=>s _ _ (G.sb _ _ e),λi a ha=>⟨(G.row i a ha).1,s _ _ (G.row i a ha).2⟩⟩
end
theorem jhv {n:Nat} {f:Nat->Bool} {j:Nat} (hj:j<n):atI ((List.range n).map λj=>D.bl (f j)) (j:Int)=some (.bl (f j)):=jml hj
def wk (T:List (List Int)):Nat->Nat->Nat->Bool
 |0,i,j=>decide (i=j)|| !decide (ent T i j=0)
 |b+1,i,j=>wk T b i j||(wk T b i b&&wk T b b j)
theorem jgX (T:List (List Int)): ∀b i,wk T b i i=true
 |0,i=>by unfold wk;rw [decide_eq_true rfl];rfl
 |b+1,i=>by unfold wk;rw [jgX T b i];rfl
theorem jli (T:List (List Int)) (b i:Nat):wk T (b+1) i b=wk T b i b:=by
 show (wk T b i b||(wk T b i b&&wk T b b b))=_
 cases wk T b i b<;>rfl
theorem jlj (T:List (List Int)) (b j:Nat):wk T (b+1) b j=wk T b b j:=by
 show (wk T b b j||(wk T b b b&&wk T b b j))=_
 cases wk T b b j<;>cases wk T b b b<;>rfl
theorem wk_by {T:List (List Int)} {b i j:Nat}:wk T (b+1) i j=true↔wk T b i j=true\/(wk T b i b=true/\wk T b b j=true):=by
 show (wk T b i j||(wk T b i b&&wk T b b j))=true↔_
 rw [G14,G0T]
theorem jcd {T:List (List Int)}: ∀ {b i k j:Nat},k<b->wk T b i k=true->wk T b k j=true->wk T b i j=true
 |b+1,i,k,j,hk,x,y=>by
  by_cases e:k=b
  ·subst e
   rw [jli] at x
   rw [jlj] at y
   exact wk_by.mpr (.inr ⟨x,y⟩)
  ·have lt:k<b:=by omega
   rcases wk_by.mp x with x|⟨x1,x2⟩
   ·rcases wk_by.mp y with y|⟨y1,y2⟩
    ·exact wk_by.mpr (.inl (jcd lt x y))
    ·exact wk_by.mpr (.inr ⟨jcd lt x y1,y2⟩)
   ·rcases wk_by.mp y with y|⟨y1,y2⟩
    ·exact wk_by.mpr (.inr ⟨x1,jcd lt x2 y⟩)
    ·exact wk_by.mpr (.inr ⟨x1,y2⟩)
theorem jeg {T:List (List Int)} {P:Nat->Nat->Prop} (r: ∀i,P i i) (a: ∀i j,ent T i j≠0->P i j) (t: ∀i k j,P i k->P k j->P i j): ∀ {b i j:Nat},wk T b i j=true->P i j
 |0,i,j,h=>by
  have h:(decide (i=j)|| !decide (ent T i j=0))=true:=h
  rw [G14] at h
  rcases h with h|h
  ·rw [G1v h];exact r j
  ·exact a i j λz=>by rw [G0P z] at h;cases h
 |b+1,i,j,h=>by
  rcases wk_by.mp h with h|⟨h1,h2⟩
  ·exact jeg r a t h
  ·exact t _ _ _ (jeg r a t h1) (jeg r a t h2)
def fW (T:List (List Int)) (b i j x y:Nat):Bool:=if x<i\/(x=i/\y<j) then wk T (b+1) x y else wk T b x y
theorem joU (T:List (List Int)) (b i j x:Nat):fW T b i j x b=wk T b x b:=by
 unfold fW
 rw [jli]
 by_cases c:x<i\/(x=i/\b<j)
 ·rw [if_pos c]
 ·rw [if_neg c]
theorem joV (T:List (List Int)) (b i j y:Nat):fW T b i j b y=wk T b b y:=by
 unfold fW
 rw [jlj]
 by_cases c:b<i\/(b=i/\y<j)
 ·rw [if_pos c]
 ·rw [if_neg c]
theorem joW {T:List (List Int)} {b i j:Nat} (h1:wk T b i b=true) (h2:wk T b b j=true) (x y:Nat):(if x=i/\y=j then true else fW T b i j x y)=fW T b i (j+1) x y:=by
 by_cases e:x=i/\y=j
 ·obtain⟨rfl,rfl⟩:=e
  unfold fW
  rw [if_pos ⟨rfl,rfl⟩,if_pos (.inr ⟨rfl,G19 _⟩)]
  exact(wk_by.mpr (.inr ⟨h1,h2⟩)).symm
 ·rw [if_neg e]
  unfold fW
  by_cases c:x<i\/(x=i/\y<j)
  ·rw [if_pos c,if_pos (by omega)]
  ·rw [if_neg c,if_neg (by omega)]
theorem jjG {T:List (List Int)} {b i j:Nat} (h: ¬ (wk T b i b=true/\wk T b b j=true)) (x y:Nat):fW T b i j x y=fW T b i (j+1) x y:=by
 unfold fW
 by_cases c:x<i\/(x=i/\y<j)
 ·rw [if_pos c,if_pos (by omega)]
 ·rw [if_neg c]
  by_cases e:x=i/\y=j
  ·obtain⟨rfl,rfl⟩:=e
   rw [if_pos (by omega),G1x,wk_by]
   exact⟨.inl,λz=>z.resolve_right h⟩
  ·rw [if_neg (by omega)]
theorem jmI {n:Nat} (T:List (List Int)) (b i x y:Nat) (hy:y<n):fW T b i n x y=fW T b (i+1) 0 x y:=by
 unfold fW
 by_cases c:x<i\/(x=i/\y<n)
 ·rw [if_pos c,if_pos (by omega)]
 ·rw [if_neg c,if_neg (by omega)]
theorem joX {n:Nat} (T:List (List Int)) (b x y:Nat) (hx:x<n):fW T b n 0 x y=wk T (b+1) x y:=by
 unfold fW
 rw [if_pos (.inl hx)]
theorem jmJ (T:List (List Int)) (b x y:Nat):wk T b x y=fW T b 0 0 x y:=by
 unfold fW
 rw [if_neg (by omega)]
section
variable {X:Cx} {iter iter' elt:Expr} {te:TED} {ti ti' :TID} {tt tt' :TTD} {pos spos:Pos} {scope:Scope} {js:List Nat} {ifs ifs' :List Expr}
theorem jmK {i i' k:Nat} {x z y:Str} {p pz py:Pos} (hc:X.calm=true) (hN:X.N.Nodup) (hk:X.N[k]? =some y) (hy:Loc X.env.scope y) (S:BlockOk X scope js) (hi:JI X (.Name x p) iter ti) (hj:i∈js) (hj' :i' ∈js) (hne:i≠i') (hx:X.N[i]? =some x) (hz:X.N[i']? =some z)
 (hl:scope.names.lookup x=some .local\/scope.names.lookup x=some .cell) (hl' :scope.names.lookup z=some .local\/scope.names.lookup z=some .cell)
 (ht: ∀X',jau X scope X' ->PTs X' ifs (LT X'.K tt)) (hi' : ∀X',jau X scope X' ->JI X' (.Name z pz) iter' ti') (ht' : ∀X',jau X scope X' ->PTs X' ifs' (LT X'.K tt')) (he: ∀X',jau X scope X' ->JE X' elt te)
 (hsw:swapsWith (.ListComp elt [⟨.Name x p,iter,ifs,0⟩,⟨.Name z pz,iter',ifs',0⟩] scope pos) (some (.Name y py)) spos.line X.env=pure true:=by rfl)
 (hf:X.fn y=true\/X.env.scope.names.lookup y=some .local:=by first|exact .inl rfl|exact .inr rfl|assumption) (hs: ∀x,foldedSetIterable iter X.env x=pure x:=by intro _;rfl) (hs' : ∀env x,foldedSetIterable iter' env x=pure x:=by intro _ _;rfl):
 JS X (.Assign [.Name y py] (.ListComp elt [⟨.Name x p,iter,ifs,0⟩,⟨.Name z pz,iter',ifs',0⟩] scope pos) spos) (jcm k (jp0 (bN i) js ti tt i' ti' tt' te)):=by
 have base:PS X (.Assign [.Name y py] (.ListComp elt [⟨.Name x p,iter,ifs,0⟩,⟨.Name z pz,iter',ifs',0⟩] scope pos) spos) (jkW (jqI js (LI X.K ti) (jcl i) (LT X.K tt) (LI X.K ti') (jcl i') (LT X.K tt') (LE X.K te)) (jcl k)):=
  jiJ hc S hi.to rfl (λX' hX=>by obtain⟨C,s₀,H₀,ex,rfl⟩:=hX;exact jcD hN hx hl) (λX' hX=>by have:=ht X' hX;obtain⟨C,s₀,H₀,ex,rfl⟩:=hX;exact this)
   (λenv acc=>jiK (.ListComp elt [⟨.Name x p,iter,ifs,0⟩,⟨.Name z pz,iter',ifs',0⟩] scope pos) iter' env acc) (λ_ _ _=>jlO ..)
   (λX' hX D=>by
    have a:=(hi' X' hX).to
    have b:=ht' X' hX
    have c:=(he X' hX).to
    obtain⟨C,s₀,H₀,ex,rfl⟩:=hX
    exact jlN (g:=jcl i') hc rfl a (jcD hN hz hl') b c (hs' _))
   (jc1 hN hk hy hf) hsw hs
 exact⟨base.imp λD σ H h=>by
  obtain⟨σd,hd,Qd,rs,rh,t,p⟩:=jiM (K:=X.K) D σ H h
  exact joe (jod hj hj' hne) σ H _ ⟨σd,hd,Qd,rs,rh,t,p⟩⟩
end
def joY (g:Nat->Nat->Bool) (w:List Nat) (j:Nat):Bool:=g (w.getLastD 0) j&&(decide (w.headD 0<j)&& !decide (j∈w))
def jpk (g:Nat->Nat->Bool) (n:Nat) (w:List Nat):List (List Nat):=((List.range n).filter (joY g w)).map λj=>w++ [j]
def lev (g:Nat->Nat->Bool) (n:Nat):Nat->List (List Nat)
 |0=>(List.range n).map λi=> [i]
 |t+1=>(lev g n t).flatMap (jpk g n)
theorem jbF {α:Type} {p q:α->Bool} (h: ∀a,p a=true->q a=true): ∀l:List α,(l.filter p).Sublist (l.filter q)
 | []=> .slnil
 |a::l=>by
  cases e:p a with
  |true=>rw [G1H e,G1H (h a e)];exact(jbF h l).cons₂ a
  |false=>
   rw [G1I (by rw [e];exact G0s)]
   cases e' :q a with
   |true=>rw [G1H e'];exact(jbF h l).cons a
   |false=>rw [G1I (by rw [e'];exact G0s)];exact jbF h l
theorem jeP {α β:Type} {f g:α->List β} (h: ∀a,(f a).Sublist (g a)): ∀ {l m:List α},l.Sublist m->(l.flatMap f).Sublist (m.flatMap g)
 |_,_,.slnil=> .slnil
 |_,_,.cons a s=>by rw [G3v];exact(jeP h s).trans (List.sublist_append_right _ _)
 |_,_,.cons₂ a s=>by rw [G3v,G3v];exact(h a).append (jeP h s)
theorem jeh {g g' :Nat->Nat->Bool} (h: ∀i j,g i j=true->g' i j=true) (n:Nat): ∀t,(lev g n t).Sublist (lev g' n t)
 |0=>List.Sublist.refl _
 |t+1=>jeP (λw=>(jbF (λj e=>by
  unfold joY at*
  rw [G0T] at*
  exact⟨h _ _ e.1,e.2⟩) (List.range n)).map _) (jeh h n t)
def jpl:Nat->Nat->Bool:=λ_ _=>true
theorem jmL: ∀n,n<=6-> ∀t,t<=6->(lev jpl n t).length<=144:=by decide +kernel
theorem jjH {g:Nat->Nat->Bool} {n t:Nat} (h6:n<=6) (ht:t<=6):(lev g n t).length<=144:=G01 (jeh (λ_ _ _=>rfl) n t).length_le (jmL n h6 t ht)
theorem jkP (n:Nat) (h6:n<=6):lev jpl n n= []:=by
 have: ∀n,n<=6->lev jpl n n= []:=by decide +kernel
 exact this n h6
theorem jmM {g:Nat->Nat->Bool} {n:Nat} (h6:n<=6):lev g n n= []:=G2U (Nat.le_zero.mp (by rw [<-G0m (α:=List Nat),<-jkP n h6];exact(jeh (λ_ _ _=>rfl) n n).length_le))
theorem joZ {g:Nat->Nat->Bool} {n t:Nat} (h:lev g n t= []):lev g n (t+1)= []:=by
 show (lev g n t).flatMap _= []
 rw [h];rfl
structure LevOk (n t:Nat) (w:List Nat):Prop where
 len:w.length=t+1
 lt: ∀i∈w,i<n
 nd:w.Nodup
 low: ∀i∈w,w.headD 0<=i
theorem jgj {g:Nat->Nat->Bool} {n:Nat}: ∀ {t:Nat} {w:List Nat},w∈lev g n t->LevOk n t w
 |0,w,h=>by
  obtain⟨i,hi,rfl⟩:=G05.mp h
  exact⟨rfl,λj hj=>by rw [G0g.mp hj];exact G1A.mp hi,G00 _ _,λj hj=>by rw [G0g.mp hj];exact G0k _⟩
 |t+1,w,h=>by
  obtain⟨v,hv,hw⟩:=List.mem_flatMap.mp h
  have o:=jgj hv
  obtain⟨j,hj,rfl⟩:=G05.mp hw
  obtain⟨hj1,hj2⟩:=G1N.mp hj
  unfold joY at hj2
  rw [G0T,G0T] at hj2
  obtain⟨_,h3,h4⟩:=hj2
  have h3:=G1v h3
  have h4:j ∉ v:=λz=>by rw [G0P z] at h4;cases h4
  have hd:(v++ [j]).headD 0=v.headD 0:=by
   cases v with
   |nil=>have:=o.len;cases this
   |cons a v=>rfl
  refine⟨by rw [G0a,o.len];rfl,λi hi=> ?_,?_,λi hi=> ?_⟩
  ·rcases G0p.mp hi with z|z
   ·exact o.lt i z
   ·rw [G0g.mp z];exact G1A.mp hj1
  ·exact List.nodup_append.mpr ⟨o.nd,G00 _ _,λa ha b hb e=>by rw [G0g.mp hb] at e;subst e;exact h4 ha⟩
  ·rw [hd]
   rcases G0p.mp hi with z|z
   ·exact o.low i z
   ·rw [G0g.mp z];exact G0W h3
def jgk (g:Nat->Nat->Bool) (n:Nat):Nat->List (List Nat)
 |0=> []
 |t+1=>jgk g n t++(lev g n t).filter λw=>g (w.getLastD 0) (w.headD 0)
def jcu (T:List (List Int)) (i j:Nat):Bool:=decide (ent T i j>0)
def jgl (T:List (List Int)) (n:Nat):List (List Nat):=jjD (jgk (jcu T) n n)
theorem jgm {g g' :Nat->Nat->Bool} (h: ∀i j,g i j=true->g' i j=true) (n:Nat): ∀t,(jgk g n t).length<=(jgk g' n t).length
 |0=>G0k _
 |t+1=>by
  show (jgk g n t++_).length<=(jgk g' n t++_).length
  rw [G0a,G0a]
  exact Nat.add_le_add (jgm h n t) (((jeh h n t).filter _).trans (jbF (λw e=>h _ _ e) _)).length_le
theorem jmN: ∀n,n<=6-> ∀t,t<=6->(jgk jpl n t).length<=415:=by decide +kernel
theorem jhw {g:Nat->Nat->Bool} {n t:Nat} (h6:n<=6) (ht:t<=6):(jgk g n t).length<=415:=G01 (jgm (λ_ _ _=>rfl) n t) (jmN n h6 t ht)
theorem jgn {g:Nat->Nat->Bool} {n:Nat}: ∀ {t:Nat} (k:Nat),lev g n t= []->jgk g n (t+k)=jgk g n t/\lev g n (t+k)= []
 |t,0,h=>⟨rfl,h⟩
 |t,k+1,h=>by
  obtain⟨a,b⟩:=jgn k h
  refine⟨?_,joZ b⟩
  show jgk g n (t+k)++(lev g n (t+k)).filter _=_
  rw [b,a,G3I,G1t]
theorem jhx {w:List Nat} {t:Nat} (h:w.length=t+1):atI (w.map λ(k:Nat)=>D.int (k:Int)) 0=some (.int ((w.headD 0:Nat):Int)):=by
 cases w with
 |nil=>cases h
 |cons a w=>exact jb6 (j:=0) rfl
theorem jlk {w:List Nat} {t:Nat} (h:w.length=t+1):atI (w.map λ(k:Nat)=>D.int (k:Int)) (-1)=some (.int ((w.getLastD 0:Nat):Int)):=by
 refine jku (by rw [G0c];omega) ?_
 rw [G0c,G0H,G3h,G3i,G0b (by omega)]
 rfl
theorem jjI {w:List Nat} {t:Nat} (h:w.length=t+1):w.getLastD 0∈w:=by
 rw [G3h,G3i,G0b (by omega)]
 exact G1g _
theorem jkQ {w:List Nat} {t:Nat} (h:w.length=t+1):w.headD 0∈w:=by
 cases w with
 |nil=>cases h
 |cons a w=>exact G0C
theorem jjJ {α β:Type} (f:α->List β) {xs:List α} {k:Nat} {x:α} (h:xs[k]? =some x):(xs.take (k+1)).flatMap f=(xs.take k).flatMap f++f x:=by
 rw [G1d,h,List.flatMap_append];simp
theorem jjK {α β:Type} (p:α->Bool) (g:α->β) {xs:List α} {k:Nat} {x:α} (h:xs[k]? =some x):((xs.take (k+1)).filter p).map g=((xs.take k).filter p).map g++if p x=true then [g x] else []:=by
 rw [G1d,h,G1X,G07]
 congr 1
 by_cases c:p x=true
 ·rw [if_pos c];simp [c]
 ·rw [if_neg c];simp [c]
theorem jdY {α β:Type} (f:α->List β) (xs:List α) (k:Nat):((xs.take k).flatMap f).length<=(xs.flatMap f).length:=by
 conv=>rhs;rw [<-G0J k xs,List.flatMap_append,G0a]
 omega
section
variable {α β:Type} {i i' :Nat} {js:List Nat} {ti ti' :TID} {tt' :TTD} {te:TED} {σ:SD} {h:HD} {Q:KD} {j:ItD}
theorem jo0 (xs:List α) (c:α->D) (ys:α->List β) (c' :β->D) (p:α->β->Bool) (g:α->β->D) (hz:(xs.flatMap λx=>((ys x).filter (p x)).map (g x)).length<=sizeLine) (hj: ∀h',Sub h h' ->j h' =some (xs.map c)) (ht: ∀R:ItD->HD->Prop,R j h->ti σ h R)
 (hin: ∀x∈xs,∀h',Sub h h' -> ∀R:ItD->HD->Prop,(∀j' h2,Sub h' h2->(∀h3,Sub h2 h3->j' h3=some ((ys x).map c'))->R j' h2)->ti' ((jaT js σ).set i (some (c x))) h' R)
 (hp: ∀x∈xs,∀y∈ys x,∀h',Sub h h' -> ∀Q' :Bool->HD->Prop,Q' (p x y) h' ->tt' (((jaT js σ).set i (some (c x))).set i' (some (c' y))) h' Q')
 (he: ∀x∈xs,∀y∈ys x,p x y=true-> ∀h',Sub h h' -> ∀Q' :KD,Q' (g x y) h' ->te (((jaT js σ).set i (some (c x))).set i' (some (c' y))) h' Q')
 (hq: ∀a h',Sub h h' ->h' a=none->Q (.lst a) (jbp h' a (xs.flatMap λx=>((ys x).filter (p x)).map (g x)))):jp0 (bN i) js ti jgK i' ti' tt' te σ h Q:=by
 refine ht _ ⟨xs.length,λk zs h' =>Sub h h' /\zs=(xs.take k).flatMap λx=>((ys x).filter (p x)).map (g x),⟨Sub.refl h,rfl⟩,?_⟩
 rintro k zs h1 ⟨s1,rfl⟩
 refine⟨G01 (jdY _ xs k) hz,xs.map c,hj h1 s1,by rw [G0c];exact G0k _,λhl a ha=> ?_,λd hd=> ?_⟩
 ·rw [G0c] at hl
  rw [G0K hl]
  exact hq a h1 s1 ha
 rw [G0H] at hd
 cases ex:xs[k]? with
 |none=>rw [ex] at hd;cases hd
 |some x=>
  rw [ex] at hd
  injection hd with hd
  subst hd
  have mx:=G0i ex
  refine⟨_,rfl,?_⟩
  unfold jgK
  refine jgH ?_
  refine hin x mx h1 s1 _ λj' h2 s2 hj' =>⟨(ys x).length,λm zs h' =>Sub h2 h' /\zs=((xs.take k).flatMap λx=>((ys x).filter (p x)).map (g x))++(((ys x).take m).filter (p x)).map (g x),⟨Sub.refl h2,by simp⟩,?_⟩
  rintro m zs h3 ⟨s3,rfl⟩
  have s03:Sub h h3:=λa ds e=>s3 _ _ (s2 _ _ (s1 _ _ e))
  have tk:=jjJ (λx=>((ys x).filter (p x)).map (g x)) ex
  refine⟨?_,(ys x).map c',hj' h3 s3,by rw [G0c];exact G0k _,λhl=> ?_,λd hd=> ?_⟩
  ·refine G01 ?_ (G01 (jdY (λx=>((ys x).filter (p x)).map (g x)) xs (k+1)) hz)
   rw [tk,G0a,G0a,G0c,G0c]
   have:=(G1L m (ys x)).filter (p x) |>.length_le
   omega
  ·rw [G0c] at hl
   refine⟨h3,Sub.refl _,s03,?_⟩
   rw [tk,G0K hl]
  ·rw [G0H] at hd
   cases ey:(ys x)[m]? with
   |none=>rw [ey] at hd;cases hd
   |some y=>
    rw [ey] at hd
    injection hd with hd
    subst hd
    have my:=G0i ey
    have tf:=jjK (p x) (g x) ey
    refine hp x mx y my h3 s03 _ ?_
    by_cases cp:p x y=true
    ·rw [if_pos cp] at tf ⊢
     refine he x mx y my cp h3 s03 _ ⟨h3,Sub.refl _,s3,?_⟩
     rw [tf,G0l]
    ·rw [if_neg cp] at tf ⊢
     refine⟨h3,Sub.refl _,s3,?_⟩
     rw [tf,G1t]
end
end L2
namespace HT
open PySem PySem.Spec PyProof.Rows
section
variable {prog:Program} {w:World} {A:Around} {E:Value->Shared->Prop} {s:Shared} {h0:Heap} {l I S:Addr} {vs:List Value} {lt:Value->Value->Bool}
structure At (h0:Heap) (l I S:Addr) (vs:List Value) (i:Nat) (st:Array Value) (h:Heap):Prop where
 kept:jd7 h0 h
 it:h.IsListIter I l i
 lst:h.IsList l vs.toArray
 store: ∃c,h.get? S=some (seqObj "list" st c)
end
end HT
namespace HT
open PySem PySem.Spec PyProof.Rows PySem.SeqAt
open PySem.AutoSeq1 (wpAny_loadPart')
open PySem.MeetsSeq PySem.MeetsSeq2 PySem.MeetsSeq3
inductive Lx (prog:Program) (w:World) (A:Around) (s:Shared):List Value->List Value->Bool->Prop
 |nn:Lx prog w A s [] [] false
 |nc (u:Value) (us:List Value):Lx prog w A s [] (u::us) true
 |cn (v:Value) (vs:List Value):Lx prog w A s (v::vs) [] false
 |same {v u:Value} {vs us:List Value} {b:Bool} (e:EqAt A s v u true) (t:Lx prog w A s vs us b):Lx prog w A s (v::vs) (u::us) b
 |unlike {v u:Value} {vs us:List Value} {b:Bool} (e:EqAt A s v u false) (t: ∀ (Q E:Value->Shared->Prop),Q (.bool b) s->wpAny (model prog w) A (richCompare .Lt v u) Q E s):Lx prog w A s (v::vs) (u::us) b
end HT
namespace L2
open PySem PySem.Spec PyProof.Rows PySem.SeqAt HT
open Classical in
noncomputable def readOf (h:Heap) (v:Value):PyData:=if e: ∃p as,p.canLay0=true/\Reads h v p as then e.choose else .none
end L2
namespace L2
open PySem PySem.Spec PyProof.Rows PySem.SeqAt
structure LensE (L:List Nat):Prop where
 rise:L.Pairwise (· < ·)
 lo: ∀l∈L,1<=l
 hi: ∀l∈L,l<=12
 few:L.length<=6
end L2
namespace L2
open PySem PySem.Spec PyProof.Rows
def s5:Nat->Nat
 |0=>0
 |d+1=>5*s5 d+1
def f5 (N:Nat):Nat->Nat->Nat
 |0,a=>a
 |d+1,a=>(f5 N d a*5+1)%N
def jo1 (t:SetTable):Nat->SetTable.Probe->SetTable.Probe
 |0,p=>p
 |n+1,p=>jo1 t n (t.advance p)
def Way (t:SetTable) (h:Int) (j:Nat):Prop:= ∃n,(jo1 t n (t.probeStart h)).j=j/\ ∀m,m<n->t.slot (jo1 t m (t.probeStart h)).j≠ .empty
structure Laid (t:SetTable) (hs:List Int):Prop where
 pow: ∃k,t.mask+1=2^k
 big:7<=t.mask
 dum:t.dummies= #[]
 rise:t.place.toList.Pairwise (· < ·)
 size:t.place.size=hs.length
 room:hs.length<=t.mask
 low: ∀ (i j:Nat),t.place[i]? =some j->j<=t.mask
 way: ∀ (i:Nat) (h:Int) (j:Nat),hs[i]? =some h->t.place[i]? =some j->Way t h j
def jrC (t:SetTable) (E:Nat->Bool) (h:Int) (j:Nat):Prop:= ∃n,(jo1 t n (t.probeStart h)).j=j/\ ∀m,m<n->E (jo1 t m (t.probeStart h)).j=false
def emO (owner:Array (Option Nat)) (x:Nat):Bool:=(owner.getD x (some 0)).isNone
structure Own (t:SetTable) (hs:List Int) (owner:Array (Option Nat)) (k:Nat):Prop where
 size:owner.size=t.mask+1
 lt: ∀x i:Nat,owner[x]? =some (some i)->i<k
 inj: ∀x y i:Nat,owner[x]? =some (some i)->owner[y]? =some (some i)->x=y
 all: ∀i,i<k-> ∃x:Nat,owner[x]? =some (some i)
 way: ∀ (x i:Nat) (h:Int),owner[x]? =some (some i)->hs[i]? =some h->jrC t (emO owner) h x
theorem jhy: ∀ (fuel k n:Nat),3<=k-> ∃m,3<=m/\SetTable.sizeAbove.go n fuel (2^k)=2^m/\(n<2^(k+fuel)->n<2^m)
 |0,k,n,h=>⟨k,h,rfl,λz=>z⟩
 |fuel+1,k,n,h=>by
  unfold SetTable.sizeAbove.go
  by_cases c:2^k<=n
  ·rw [if_pos c,<-Nat.pow_succ]
   obtain⟨m,a,b,d⟩:=jhy fuel (k+1) n (by omega)
   exact⟨m,a,b,λz=>d (by rw [Nat.add_right_comm,G3A];exact z)⟩
  ·rw [if_neg c]
   exact⟨k,h,rfl,λ_=>by omega⟩
theorem above {n:Nat} (h:n<2^67): ∃m,SetTable.sizeAbove n=2^m/\n<SetTable.sizeAbove n/\8<=SetTable.sizeAbove n:=by
 obtain⟨m,a,b,c⟩:=jhy 64 3 n (by decide)
 have b:SetTable.sizeAbove n=2^m:=b
 refine⟨m,b,by rw [b];exact c h,?_⟩
 rw [b]
 exact G2W (show 0<2 by decide) a
end L2
namespace L2
open PySem PySem.Spec PyProof.Rows HT
def jmO (h h' :Heap):Prop:= ∀ (b:Addr) (o:Obj),o.cls= .type "tuple" ->h.get? b=some o->h'.get? b=some o
structure MemK (prog:Program) (w:World) (K:Type) [DecidableEq K] where
 is:Heap->K->Addr->Prop
 hash:K->Int
 inj: ∀ {h:Heap} {x y:K} {a:Addr},is h x a->is h y a->x=y
 keep: ∀ {h h' :Heap} {x:K} {a:Addr},jmO h h' ->is h x a->is h' x a
 hashed: ∀ {A:Around} {E:Value->Shared->Prop} {s:Shared} {x:K} {a:Addr} {Q:Int->Shared->Prop},A.units+8<cLine->is s.heap x a->(∀tk,Q (hash x) {s with toks:=tk})->wpAny (model prog w) A (pyHash (.ref a)) Q E s
 same: ∀ {A:Around} {E:Value->Shared->Prop} {s:Shared} {x y:K} {a b:Addr} {Q:Bool->Shared->Prop},A.units+8<cLine->is s.heap x a->is s.heap y b->Q (decide (x=y)) s->wpAny (model prog w) A (eqBool (.ref a) (.ref b)) Q E s
 quiet: ∀ {A:Around} {E:Value->Shared->Prop} {s:Shared} {x:K} {a:Addr} {Q:Bool->Shared->Prop},is s.heap x a->Q true s->wpAny (model prog w) A (eqIsQuiet 8 (.ref a)) Q E s
 cls: ∀ {A:Around} {E:Value->Shared->Prop} {s:Shared} {x:K} {a:Addr} {Q:Bool->Shared->Prop},is s.heap x a->Q false s->wpAny (model prog w) A (ofAClassStatement 8 (.ref a)) Q E s
 byv: ∀ {A:Around} {E:Value->Shared->Prop} {s:Shared} {x:K} {a:Addr} {Q:Bool->Shared->Prop},is s.heap x a->Q true s->wpAny (model prog w) A (hashByValue 8 (.ref a)) Q E s
section
variable {prog:Program} {w:World} {A:Around} {E:Value->Shared->Prop} {s:Shared} {K:Type} [DecidableEq K]
structure SetT (M:MemK prog w K) (L:Bool) (is:K->Addr->Prop) (f:Int×Value->K) (es:Array (Int×Value)) (t:SetTable) (ks:List K):Prop where
 laid:Laid t (es.toList.map (·.1))
 led:t.led=L
 lean:es.size*5<t.mask*3
 mask:t.mask<=8*ks.length+16
 each: ∀e∈es.toList,e.1=M.hash (f e)/\ ∃b,e.2= .ref b/\is (f e) b
 nd:(es.toList.map f).Nodup
 mem: ∀k,k∈es.toList.map f↔k∈ks
end
end L2
namespace L2
open PySem PySem.Spec PyProof.Rows PySem.SeqAt HT
section
variable {X:Cx} {e r:Expr} {op:CmpOp} {u:TXD} {pos p:Pos} {a b rest:List Stmt}
theorem jo3 (he:JXE X e u) (hm:behindInMarks op r=false:=by first|exact jjY _ (by decide) (by decide)|rfl):JXE X (.Compare e [op] [r] pos) u:=⟨λE Z pins s σ H σd h R I rs rh ht w=>
 wpAny_Compare1 (G0D (he.to E Z pins s σ H σd h R I rs rh ht w) (λ_ _ z=>z.elim) λ_ _ z=>z) hm⟩
theorem jo4 (he:JXE X e u) (hv: ∀whole,isTrue e X.env whole=(do let v <-whole;standAt e.pos;holding [v] (truthy v)):=by intro _;rfl):JX X (.If (.UnaryOp .Not e p) a b pos::rest) u:=⟨λE Z pins s σ H σd h R I rs rh ht w=>
 G1f (wpAny_If (wpAny_isTrue_Not (wpAny_isTrue_value (G0D (he.to E Z pins s σ H σd h R I rs rh ht w) (λ_ _ z=>z.elim) λ_ _ z=>z) (hv _))))⟩
end
def pcS (T:List (List Int)) (n p:Nat):List Nat:=(List.range n).filter λj=>wk T n p j&&wk T n j p
def jfX (T:List (List Int)) (n:Nat):List (List Nat):=((List.range n).filter λp=>decide ((pcS T n p).headD 0=p)).map (pcS T n)
section
variable {T:List (List Int)} {n e:Nat}
theorem jo6 (p:Nat):IsS n (pcS T n p):=⟨_,rfl⟩
theorem mem_pc {p j:Nat}:j∈pcS T n p↔j<n/\wk T n p j=true/\wk T n j p=true:=by
 unfold pcS
 rw [G1N,G1A,G0T]
theorem jjL {p:Nat} (hp:p<n):p∈pcS T n p:=mem_pc.mpr ⟨hp,jgX T n p,jgX T n p⟩
theorem jmP {p q:Nat} (hp:p<n) (h:q∈pcS T n p):pcS T n q=pcS T n p:=by
 obtain⟨hq,h1,h2⟩:=mem_pc.mp h
 refine(jo6 q).ext (jo6 p) λj=> ?_
 rw [mem_pc,mem_pc]
 exact⟨λ⟨a,b,c⟩=>⟨a,jcd hq h1 b,jcd hq c h2⟩,λ⟨a,b,c⟩=>⟨a,jcd hp h2 b,jcd hp c h1⟩⟩
theorem jjM {p:Nat} (hp:p<n): ∃r,pcS T n p=(pcS T n p).headD 0::r:=by
 cases h:pcS T n p with
 |nil=>have:=jjL (T:=T) hp;rw [h] at this;cases this
 |cons x r=>exact⟨r,rfl⟩
theorem jmQ {p:Nat} (hp:p<n):(pcS T n p).headD 0<n/\pcS T n ((pcS T n p).headD 0)=pcS T n p:=by
 obtain⟨r,h⟩:=jjM (T:=T) hp
 have m:(pcS T n p).headD 0∈pcS T n p:=by
  generalize (pcS T n p).headD 0=x at h
  rw [h];exact G0C
 exact⟨(mem_pc.mp m).1,jmP hp m⟩
theorem mem_pcs {S:List Nat}:S∈jfX T n↔ ∃p,p<n/\S=pcS T n p:=by
 unfold jfX
 rw [G05]
 constructor
 ·rintro ⟨p,hp,rfl⟩
  exact⟨p,G1A.mp (G1N.mp hp).1,rfl⟩
 ·rintro ⟨p,hp,rfl⟩
  obtain⟨a,b⟩:=jmQ (T:=T) hp
  exact⟨(pcS T n p).headD 0,G1N.mpr ⟨G1A.mpr a,G0P (by rw [b])⟩,b⟩
end
end L2
namespace L2
open PySem PySem.Spec PyProof.Rows HT PySem.SeqAt
section
variable {prog:Program} {w:World} {A:Around} {E:Value->Shared->Prop} {s:Shared}
inductive RowsIn (prog:Program) (w:World) (h:Heap):List (List Int)->List Value->Prop
 |nil:RowsIn prog w h [] []
 |cons {r:List Int} {b:Addr} {T:List (List Int)} {vs:List Value}:IsTupleKey (intKind prog w) h r b->RowsIn prog w h T vs->RowsIn prog w h (r::T) (.ref b::vs)
end
end L2
namespace L2
open PySem PySem.Spec PyProof.Rows PySem.W
structure DefIn (K:Frag) (x:Str) (st:Stmt) (f:Addr) (fd:FuncData):Prop where
 at_:nsIn K mainGlobals x=some (some (.ref f))
 fn:Fun K x x st f fd
variable {K:Frag} {h base:Heap} {mg:Str->Option Value} {x:Str} {st:Stmt} {f:Addr} {fd:FuncData} {P:Program} {w:World} {n:Nat} {ps:List Str}
theorem jo7 {oc:Value} {od an:Option Addr} {osl:Array (Option Value)} {kV doc pm cdv ct:Value} (a:nsIn K mainGlobals x=some (some (.ref f))) (l:K.lookup f=some ⟨oc,od,.func (fnOf x x (jcp st) (jaV st) (jae st) .none kV doc pm an cdv ct),osl⟩)
 (c:codeIn K cdv x=true) (k:keepIn K (.ref f)=true):DefIn K x st f (fnOf x x (jcp st) (jaV st) (jae st) .none kV doc pm an cdv ct):=⟨a,jnH l c k⟩
abbrev jo8 (x:Str) (st:Stmt) (ps:List Str):Prop:= ∀ (kV doc pm:Value) (an:Option Addr) (cdv ct:Value) (us:List Value),us.length=ps.length->bindArgs (fnOf x x (jcp st) (jaV st) (jae st) .none kV doc pm an cdv ct) ⟨us,[]⟩=pure (ps.zip us)
theorem DefIn.nm (d:DefIn K x st f fd) (X:K.In h) (G:h.Ns mainGlobals mg):mg x=some (.ref f):=mg_of X G d.at_
theorem DefIn.cal {sp:RDn} (d:DefIn K x st f fd) (l:OpenLaw) (w:World) (base:Heap) (X:K.In h) (G:h.Ns mainGlobals mg) (ok:FnOk l.prog w K mg base CX0 n f fd ps (LSp K sp)) (b:jo8 x st ps:=by first|(exact λ_ _ _ _ _ _ us hl=>match us,hl with| [_],_=>rfl)|(exact λ_ _ _ _ _ _ us hl=>match us,hl with| [_,_],_=>rfl)|(exact λ_ _ _ _ _ _ us hl=>match us,hl with| [_,_,_],_=>rfl)|(exact λ_ _ _ _ _ _ us hl=>match us,hl with| [_,_,_,_],_=>rfl)|(exact λ_ _ _ _ _ _ us hl=>match us,hl with| [_,_,_,_,_],_=>rfl)):jan l.prog w K mg base n x ps sp:=⟨_,_,ok,d.fn.binds b,d.fn.kp,d.nm X G⟩
theorem DefIn.rai {sp:RDx} (d:DefIn K x st f fd) (l:OpenLaw) (w:World) (base:Heap) (X:K.In h) (G:h.Ns mainGlobals mg) (ok:FnOk l.prog w K mg base (CXR l.prog w) n f fd ps (jhV mg K sp)) (b:jo8 x st ps:=by first|(exact λ_ _ _ _ _ _ us hl=>match us,hl with| [_],_=>rfl)|(exact λ_ _ _ _ _ _ us hl=>match us,hl with| [_,_],_=>rfl)|(exact λ_ _ _ _ _ _ us hl=>match us,hl with| [_,_,_],_=>rfl)|(exact λ_ _ _ _ _ _ us hl=>match us,hl with| [_,_,_,_],_=>rfl)|(exact λ_ _ _ _ _ _ us hl=>match us,hl with| [_,_,_,_,_],_=>rfl)):jbh l.prog w K mg base n x ps sp:=⟨_,_,ok,d.fn.binds b,d.fn.kp,d.nm X G⟩
def zsB (K:Frag):Bool:= ["len","max","min","divmod","all","any","repr","sum","sorted","int","tuple","list","set","bool","isinstance","range","zip","enumerate","reversed"].all λx=>nsIn K mainGlobals (Str.ofString x)==some none
theorem jqo (X:K.In h) (G:h.Ns mainGlobals mg) (e:zsB K=true):Zs mg:=by
 unfold zsB at e
 rw [G0Y] at e
 have m:=λ(x:String) hx=>mg_none_of X G (G2G.mp (e x hx))
 exact⟨m "len" (by decide),m "max" (by decide),m "min" (by decide),m "divmod" (by decide),m "all" (by decide),m "any" (by decide),m "repr" (by decide),m "sum" (by decide),m "sorted" (by decide),m "int" (by decide),m "tuple" (by decide),m "list" (by decide),m "set" (by decide),m "bool" (by decide),m "isinstance" (by decide),m "range" (by decide),m "zip" (by decide),m "enumerate" (by decide),m "reversed" (by decide)⟩
end L2
namespace L2
open PySem PySem.Spec PyProof.Rows
def jo9 (x i:Int):TED:=λ_ h Q=>Q (.dni x i) h
theorem jpa {X:Cx} {x i:Int} {j k:Nat} {pos p1 p2:Pos}:JE X (.Dict [some (.Constant (.int x) j p1)] [.Constant (.int i) k p2] pos) (jo9 x i):=⟨by
 have h0:PPs X pos [some (.Constant (.int x) j p1)] [.Constant (.int i) k p2] [(tC (.int x),tC (.int i))]:=jhc pe_int pe_int jiG
 refine PE.imp (jiH h0 rfl rfl (by simp) (by simp)) ?_
 rintro σ H Q ⟨σd,h,Qd,rs,rh,t,p⟩ q hq
 show upd H q (.dK []) q=some (.dK [])/\_
 refine⟨jaj,[((Sum.inl x:Key),V.int i)],rfl,by simp,?_⟩
 rw [jhh]
 exact p (.dni x i) (.ref q) h _ (.new hq) (rh.new hq) ⟨q,rfl,jaj⟩ t⟩
def jrD:RDn:=λds h Q=> ∃x i,ds= [.dni x i]/\Q (.int 1) h
theorem jmR {X:Cx}:jdo X (.builtin "len") jrD:=(show CallR X (.builtin "len") (λxs H Q=> ∃ (a:Addr) (kv:Key×V),xs= [.ref a]/\H a=some (.dK [kv])/\Q (.int 1) H) from by
 intro pins s σ H xs us Q I r h
 obtain⟨a,kv,rfl,e,q⟩:=h
 obtain⟨u,rfl,ru⟩:=je2 r
 cases ru
 exact jpI I (.inl e) λt s' I' =>⟨.int 1,H,I',⟨_,rfl⟩,q⟩).imp λxs H Q ⟨ds,h,Qd,r,rh,⟨x,i,e,q⟩,p⟩=>by
 subst e
 obtain⟨v,e,r1⟩:=jaI r
 obtain⟨a,e1,hH⟩:=(show ∃a,v= .ref a/\H a=some (.dK [(Sum.inl x,V.int i)]) from r1)
 subst e e1
 exact⟨a,_,rfl,hH,p (.int 1) _ _ _ (.refl H) rh rfl q⟩
def ixI:RD2:=λx y h Q=> ∃k i,x= .dni k i/\y= .int k/\Q (.int i) h
theorem jrE {X : Cx} {k : Nat} {a b : Expr} {ta tb : TED} {pos : Pos} (hr : Room k X.A) (ha : JE X a ta) (hb : JE X b tb) (hs : jpJ b := by intro _ _; rfl) : JE X (.Subscript a b pos) (dOp ixI ta tb) :=
  ⟨(jlK (by have := hr.un; omega) ha.to hb.to hs).imp fun σ H Q ⟨σd, h, Qd, rs, rh, t, post⟩ => LE.bind rs rh t fun d v h1 H1 k1 rs1 rh1 r1 t1 => LE.bind rs1 rh1 t1 fun d2 v2 h2 H2 k2 rs2 rh2 r2 ⟨x, i, e1, e2, q⟩ => by
    subst e1 e2
    obtain ⟨c, e3, hH⟩ := (show ∃ a, v = .ref a ∧ H1 a = some (.dK [(Sum.inl x, V.int i)]) from r1)
    have e4 : v2 = .int x := r2
    subst e3 e4
    refine ⟨c, .int i, rfl, .inl ⟨_, Sum.inl x, .inl (k2.dic _ _ hH), rfl, ?_⟩, post (.int i) _ _ _ (k1.trans k2) rh2 rfl q⟩
    simp [jjU]⟩
end L2
namespace My
open PySem L2
def top (i:Nat):Stmt:=PySem.Challenge.pw_firstpowers_k30_rounds_refused.main.body.getD i (.Pass ⟨0,0,0,0⟩)
abbrev jdS:Stmt:=top 17
theorem jgY:FnScope ["thing"] ["thing"] (jae jdS):=⟨rfl,rfl,rfl,by decide +kernel,rfl,by decide +kernel,by decide +kernel⟩
abbrev jc9:Stmt:=top 18
theorem jgo:FnScope ["thing","least","most"] ["thing","least","most"] (jae jc9):=⟨rfl,rfl,rfl,by decide +kernel,rfl,by decide +kernel,by decide +kernel⟩
abbrev jdT:Stmt:=top 19
theorem jgZ:FnScope ["thing","size"] ["thing","size"] (jae jdT):=⟨rfl,rfl,rfl,by decide +kernel,rfl,by decide +kernel,by decide +kernel⟩
abbrev jcv:Stmt:=top 20
theorem sc_are_places:FnScope ["thing","size","each"] ["thing","size"] (jae jcv):=⟨rfl,rfl,rfl,by decide +kernel,rfl,by decide +kernel,by decide +kernel⟩
abbrev jbX:Stmt:=top 21
theorem sc_is_table_row:FnScope ["thing","size","number"] ["thing","size"] (jae jbX):=⟨rfl,rfl,rfl,by decide +kernel,rfl,by decide +kernel,by decide +kernel⟩
abbrev jbt:Stmt:=top 22
theorem sc_has_table_form:FnScope ["thing","row"] ["thing"] (jae jbt):=⟨rfl,rfl,rfl,by decide +kernel,rfl,by decide +kernel,by decide +kernel⟩
abbrev jbN:Stmt:=top 23
theorem jdz:FnScope ["thing"] ["thing"] (jae jbN):=⟨rfl,rfl,rfl,by decide +kernel,rfl,by decide +kernel,by decide +kernel⟩
abbrev jeQ:Stmt:=top 25
theorem sc_reaches:FnScope ["table","size","come","by","one","other"] ["table"] (jae jeQ):=⟨rfl,rfl,rfl,by decide +kernel,rfl,by decide +kernel,by decide +kernel⟩
abbrev jda:Stmt:=top 26
theorem sc_pieces_by:FnScope ["come","size","told","place","piece","other"] ["come"] (jae jda):=⟨rfl,rfl,rfl,by decide +kernel,rfl,by decide +kernel,by decide +kernel⟩
abbrev jei:Stmt:=top 27
theorem jgp:FnScope ["table"] ["table"] (jae jei):=⟨rfl,rfl,rfl,by decide +kernel,rfl,by decide +kernel,by decide +kernel⟩
abbrev jej:Stmt:=top 28
theorem jgq:FnScope ["table"] ["table"] (jae jej):=⟨rfl,rfl,rfl,by decide +kernel,rfl,by decide +kernel,by decide +kernel⟩
abbrev jg0:Stmt:=top 30
theorem sc_heads:FnScope ["table","place","head","number"] ["table","place"] (jae jg0):=⟨rfl,rfl,rfl,by decide +kernel,rfl,by decide +kernel,by decide +kernel⟩
abbrev jbG:Stmt:=top 33
theorem sc_greatest_into:FnScope ["one","other"] ["one","other"] (jae jbG):=⟨rfl,rfl,rfl,by decide +kernel,rfl,by decide +kernel,by decide +kernel⟩
abbrev jcF:Stmt:=top 34
theorem jeR:FnScope ["table","thing"] ["table","thing"] (jae jcF):=⟨rfl,rfl,rfl,by decide +kernel,rfl,by decide +kernel,by decide +kernel⟩
abbrev jbO:Stmt:=top 35
theorem sc_all_rounds:FnScope ["table","told","paths","place","path","head"] ["table"] (jae jbO):=⟨rfl,rfl,rfl,by decide +kernel,rfl,by decide +kernel,by decide +kernel⟩
abbrev jhz:Stmt:=top 36
theorem sc_beat:FnScope ["table","told","each"] ["table"] (jae jhz):=⟨rfl,rfl,rfl,by decide +kernel,rfl,by decide +kernel,by decide +kernel⟩
abbrev jbi:Stmt:=top 43
theorem sc_steps_from_start:FnScope ["table","fewest","some","steps","place"] ["table"] (jae jbi):=⟨rfl,rfl,rfl,by decide +kernel,rfl,by decide +kernel,by decide +kernel⟩
abbrev jbP:Stmt:=top 44
theorem jdA:FnScope ["table","thing"] ["table","thing"] (jae jbP):=⟨rfl,rfl,rfl,by decide +kernel,rfl,by decide +kernel,by decide +kernel⟩
abbrev jcG:Stmt:=top 45
theorem sc_turns_of:FnScope ["table","d","steps"] ["table"] (jae jcG):=⟨rfl,rfl,rfl,by decide +kernel,rfl,by decide +kernel,by decide +kernel⟩
abbrev jdb:Stmt:=top 47
theorem jgr:FnScope ["_law_script","_law_k"] ["_law_script","_law_k"] (jae jdb):=⟨rfl,rfl,rfl,by decide +kernel,rfl,by decide +kernel,by decide +kernel⟩
abbrev jdU:Stmt:=top 48
theorem sc__law_pen:FnScope ["_law_cell_here","_law_left"] ["_law_cell_here"] (jae jdU):=⟨rfl,rfl,rfl,by decide +kernel,rfl,by decide +kernel,by decide +kernel⟩
abbrev jdc:Stmt:=top 49
theorem sc__law_draw:FnScope ["_law_pen_here","_law_many","_law_left","_law_found","_law_stir"] ["_law_pen_here","_law_many"] (jae jdc):=⟨rfl,rfl,rfl,by decide +kernel,rfl,by decide +kernel,by decide +kernel⟩
abbrev jcw:Stmt:=top 50
theorem jfM:FnScope ["_law_thing"] ["_law_thing"] (jae jcw):=⟨rfl,rfl,rfl,by decide +kernel,rfl,by decide +kernel,by decide +kernel⟩
abbrev jdd:Stmt:=top 51
theorem sc__law_kind:FnScope ["_law_e","_law_seen","_law_words_here"] ["_law_e"] (jae jdd):=⟨rfl,rfl,rfl,by decide +kernel,rfl,by decide +kernel,by decide +kernel⟩
abbrev jde:Stmt:=top 52
theorem sc__law_said:FnScope ["_law_call","_law_found","_law_e","_law_word"] ["_law_call"] (jae jde):=⟨rfl,rfl,rfl,by decide +kernel,rfl,by decide +kernel,by decide +kernel⟩
abbrev jdV:Stmt:=top 53
theorem sc__law_odd:FnScope ["_law_pen_here","_law_some"] ["_law_pen_here"] (jae jdV):=⟨rfl,rfl,rfl,by decide +kernel,rfl,by decide +kernel,by decide +kernel⟩
abbrev jdf:Stmt:=top 54
theorem jgs:FnScope ["_law_pen_here"] ["_law_pen_here"] (jae jdf):=⟨rfl,rfl,rfl,by decide +kernel,rfl,by decide +kernel,by decide +kernel⟩
abbrev jcx:Stmt:=top 55
theorem sc__law_table:FnScope ["_law_pen_here","_law_size_here","_law_way","_law_often","_law_most","_law_rows","_law_one","_law_row","_law_other","_law_goes"] ["_law_pen_here","_law_size_here"] (jae jcx):=⟨rfl,rfl,rfl,by decide +kernel,rfl,by decide +kernel,by decide +kernel⟩
abbrev jbH:Stmt:=top 56
theorem sc__law_is_table:FnScope ["_law_thing","_law_row","_law_number"] ["_law_thing"] (jae jbH):=⟨rfl,rfl,rfl,by decide +kernel,rfl,by decide +kernel,by decide +kernel⟩
abbrev jbn:Stmt:=top 57
theorem sc__law_bent_table:FnScope ["_law_pen_here","_law_table_here","_law_size_here","_law_at","_law_to","_law_off","_law_row","_law_rows","_law_here","_law_things"] ["_law_pen_here","_law_table_here"] (jae jbn):=⟨rfl,rfl,rfl,by decide +kernel,rfl,by decide +kernel,by decide +kernel⟩
abbrev jbI:Stmt:=top 58
theorem sc__law_no_table:FnScope ["_law_pen_here","_law_some"] ["_law_pen_here"] (jae jbI):=⟨rfl,rfl,rfl,by decide +kernel,rfl,by decide +kernel,by decide +kernel⟩
abbrev jaO:Stmt:=top 59
theorem sc__law_words:FnScope ["_law_table_here","_law_found"] ["_law_table_here"] (jae jaO):=⟨rfl,rfl,rfl,by decide +kernel,rfl,by decide +kernel,by decide +kernel⟩
abbrev jh6:Stmt:=top 60
theorem sc_law:FnScope ["_law_script","_law_cell_here","_law_pen_here","_law_table_here","_law_bad","_law_size_here","_law_apart","_law_row"] ["_law_script"] (jae jh6):=⟨rfl,rfl,rfl,by decide +kernel,rfl,by decide +kernel,by decide +kernel⟩
section
variable {P:Program} {w:World} {K:PySem.W.Frag} {mg:Str->Option Value} {base:Heap}
/-- no def is asked of the script's list: a thing -/
def jhA:D->Bool
 | .int _=>true
 |_=>false
/-- a row of so many numbers from 0 on -/
def jkR:D->Bool
 | .int i=>decide (0<=i)
 |_=>false
def jg1 (d:D) (k:Int):Bool:=match d with
 | .tup ds=>decide ((ds.length:Int)=k)&&ds.all jkR
 |_=>false
/-! every part has a kind that is told,and no tuple is long -/
mutual
def okD:D->Bool
 | .scr _=>false| .exc _=>false| .fn _=>false
 | .tup ds=>decide (ds.length<=1000)&&okDs ds
 |_=>true
def okDs:List D->Bool
 | []=>true
 |d::ds=>okD d&&okDs ds
end
theorem jdB: ∀ {ds:List D},okDs ds=true-> ∀d∈ds,okD d=true
 |d::ds,h,x,hx=>by
  have h' :(okD d&&okDs ds)=true:=h
  rw [G0T] at h'
  rcases G0r.mp hx with e|e
  ·subst e;exact h'.1
  ·exact jdB h'.2 x e
theorem jjN: ∀ {ds:List D},(∀d∈ds,okD d=true)->okDs ds=true
 | [],_=>rfl
 |d::ds,h=>by
  show (okD d&&okDs ds)=true
  rw [h d G0C,jjN λx hx=>h x (G0G _ hx)];rfl
theorem jeS {ds:List D} (h:okD (.tup ds)=true):ds.length<=1000/\ ∀d∈ds,okD d=true:=by
 have h' :(decide (ds.length<=1000)&&okDs ds)=true:=h
 rw [G0T] at h'
 exact⟨G1v h'.1,jdB h'.2⟩
theorem jjO {ds:List D} (h:ds.length<=1000) (h2: ∀d∈ds,okD d=true):okD (.tup ds)=true:=by
 show (decide (ds.length<=1000)&&okDs ds)=true
 rw [G0P h,jjN h2];rfl
theorem jbQ {d:D} (h:okD d=true): ∃n,jf9 d=some n:=by
 cases d<;>first|exact⟨_,rfl⟩|cases h
/-- a table -/
def jeT:D->Bool
 | .tup rs=>decide (1<=rs.length)&&decide (rs.length<=6)&&rs.all λr=>jg1 r rs.length
 |_=>false
def jbJ:RDn:=λds h Q=> ∃d n,ds= [d]/\jf9 d=some n/\Q (.bl (jhA d)) h
set_option maxHeartbeats 2000000 in
theorem jg2 {n:Nat} {f:Addr} {fd:FuncData} (Z:Zs mg) (F:Fun K "is_whole" "is_whole" jdS f fd):FnOk P w K mg base CX0 (n+1) f fd ["thing"] (LSp K jbJ):=by
 refine F.okJ jgY (λds h Q q=>by obtain⟨d,nm,e,hn,q⟩:=q;subst e;rfl) _ (λcdv A outer s H E hr=>(jai (jbM (jkn (je5 (T:= "int") (by decide) rfl Z.isinstance rfl Z.int (by decide +kernel) (jv 0)) (jie (jqL (je5 (T:= "bool") (by decide) rfl Z.isinstance rfl Z.bool (by decide +kernel) (jv 0)))))))) ?_
 intro ds h Q q
 obtain⟨d,nm,e,hn,q⟩:=q
 subst e
 simp only [jcg,Nxt,jcK,jcI,jaW,jaX,jaR,dOp,jay,dIs,jcB,dCB,jaK,jb8,jcq,jbd,dC,ja0,jaD,jcm,jcL,jcM,ja1,jcC,jcH,jaY,jcJ,jaZ,dIf,dUn,jcW,dSl,jaq,ja4,jcU,jaC,gN,gT2,ja3,jc3,jc4,jcV,jcQ,jdk,jc5,ja9,jc6,jcr,eqD,neD,eqE,neE,isV,isN,jdh,jat,jdi,jdj,jbe,ixD,jcR,jcS,jcT,jas,jaE,jav,ja2,jcN,slD,jch,jap,G0w,G0M,G0h,G0m,List.replicate,G0z,G0v,G0x,G0y,G0d,G0e,G0n,G0F,D.bl.injEq,D.lst.injEq,hn]
 cases d<;>cases hn<;>exact⟨h,Sub.refl h,q⟩
def jdZ:RDn:=λds h Q=> ∃d,∃a b:Int,ds= [d,.int a,.int b]/\okD d=true/\Q (.bl (jdP d a b)) h
set_option maxHeartbeats 2000000 in
theorem jgt {n:Nat} {f:Addr} {fd:FuncData} (Z:Zs mg) (F:Fun K "is_within" "is_within" jc9 f fd) (C_is_whole:jan P w K mg base n "is_whole" ["thing"] jbJ):FnOk P w K mg base CX0 (n+1) f fd ["thing","least","most"] (LSp K jdZ):=by
 obtain⟨g_G_is_whole,gd_G_is_whole,G_is_whole,bG_is_whole,kG_is_whole,mG_is_whole⟩:=C_is_whole
 refine F.okJ jgo (λds h Q q=>by obtain⟨d,a,b,e,ok,q⟩:=q;subst e;rfl) _ (λcdv A outer s H E hr=>(jai (jbM (jkn (jaw G_is_whole hr rfl mG_is_whole kG_is_whole bG_is_whole (jac (jv 0) jab)) (jie (jou jhN jhN (jv 1) (jv 0) (jv 2))))))) ?_
 intro ds h Q q
 obtain⟨d,a,b,e,ok,q⟩:=q
 subst e
 obtain⟨nm,hn⟩:=jbQ ok
 refine⟨_,rfl,d,nm,rfl,hn,jhA d,rfl,?_⟩
 cases d with
 |int x=>
  refine jgH ⟨_,rfl,_,rfl,_,rfl,?_⟩
  show if decide (a<=x)=true then _ else _
  by_cases h1:a<=x
  ·rw [G0P h1]
   simp only [jdP,G0P h1,G2Z] at q
   exact jgH ⟨_,rfl,h,Sub.refl h,q⟩
  ·rw [G0R h1]
   simp only [jdP,G0R h1,Bool.false_and] at q
   exact jer ⟨h,Sub.refl h,q⟩
 |_=>exact jer ⟨h,Sub.refl h,q⟩
def jeU:RDn:=λds h Q=> ∃d,∃n:Int,ds= [d,.int n]/\okD d=true/\Q (.bl (jdP d 0 (n-1))) h
set_option maxHeartbeats 2000000 in
theorem jg3 {n:Nat} {f:Addr} {fd:FuncData} (Z:Zs mg) (F:Fun K "is_place" "is_place" jdT f fd) (C_is_within:jan P w K mg base n "is_within" ["thing","least","most"] jdZ):FnOk P w K mg base CX0 (n+1) f fd ["thing","size"] (LSp K jeU):=by
 obtain⟨g_G_is_within,gd_G_is_within,G_is_within,bG_is_within,kG_is_within,mG_is_within⟩:=C_is_within
 refine F.okJ jgZ (λds h Q q=>by obtain⟨d,k,e,ok,q⟩:=q;subst e;rfl) _ (λcdv A outer s H E hr=>(jai (jbM (jaw G_is_within hr rfl mG_is_within kG_is_within bG_is_within (jac (jv 0) (by exact(jac jam (by exact(jac (jop jiQ (jv 1) jam) jab))))))))) ?_
 intro ds h Q q
 obtain⟨d,k,e,ok,q⟩:=q
 subst e
 exact⟨_,rfl,_,rfl,d,0,k-1,rfl,ok,h,Sub.refl h,q⟩
def jdC:RDn:=λds h Q=> ∃d,∃n:Int,ds= [d,.int n]/\okD d=true/\Q (.bl (jmo d n)) h
set_option maxHeartbeats 2000000 in
theorem jfN {n:Nat} {f:Addr} {fd:FuncData} (Z:Zs mg) (F:Fun K "are_places" "are_places" jcv f fd) (C_is_place:jan P w K mg base n "is_place" ["thing","size"] jeU):FnOk P w K mg base CX0 (n+1) f fd ["thing","size"] (LSp K jdC):=by
 obtain⟨g_G_is_place,gd_G_is_place,G_is_place,bG_is_place,kG_is_place,mG_is_place⟩:=C_is_place
 refine F.okJ sc_are_places (λds h Q q=>by obtain⟨d,k,e,ok,q⟩:=q;subst e;rfl) _ (λcdv A outer s H E hr=>(jai (jbM (jkn (je5 (T:= "tuple") (by decide) rfl Z.isinstance rfl Z.tuple (by decide +kernel) (jv 0)) (jie (jaN (jhg rfl) rfl Z.all G2l (jac (jlc (i:=2) (js:= [2]) rfl (jaz (by rfl)) (jcs (jv 0)) (by decide) sc_are_places.nd rfl (by first|exact Or.inl rfl|exact Or.inr rfl) (λX' hX=>jbB) (λX' hX=>by obtain⟨C,s₀,H₀,ex,rfl⟩:=hX;exact(jaw G_is_place hr rfl mG_is_place kG_is_place bG_is_place (jac (jv 2) (by exact(jac (jv 1) jab)))))) jab))))))) ?_
 intro ds h Q q
 obtain⟨d,k,e,ok,q⟩:=q
 subst e
 obtain⟨nm,hn⟩:=jbQ ok
 refine⟨_,rfl,nm,hn,?_⟩
 cases d with
 |tup es=>
  cases hn
  obtain⟨hl,ht⟩:=jeS ok
  refine⟨_,rfl,jgH ?_⟩
  exact jrs es (λx=>x) (λx=>jdP x 0 (k-1)) hl (by rw [List.map_id']) (λR r=>⟨_,rfl,r⟩) (λx hx Q' q' =>⟨_,rfl,_,rfl,x,k,rfl,ht x hx,q'⟩) ⟨h,Sub.refl h,q⟩
 |_=>cases hn<;>exact⟨_,rfl,jer ⟨h,Sub.refl h,q⟩⟩
def jcy:RDn:=λds h Q=> ∃d k,ds= [d,.int k]/\okD d=true/\Q (.bl (jg1 d k)) h
set_option maxHeartbeats 2000000 in
theorem jeV {n:Nat} {f:Addr} {fd:FuncData} (Z:Zs mg) (F:Fun K "is_table_row" "is_table_row" jbX f fd) (C_is_whole:jan P w K mg base n "is_whole" ["thing"] jbJ):FnOk P w K mg base CX0 (n+1) f fd ["thing","size"] (LSp K jcy):=by
 obtain⟨g_G_is_whole,gd_G_is_whole,G_is_whole,bG_is_whole,kG_is_whole,mG_is_whole⟩:=C_is_whole
 refine F.okJ sc_is_table_row (λds h Q q=>by obtain⟨d,k,e,ok,q⟩:=q;subst e;rfl) _ (λcdv A outer s H E hr=>(jaf (jee (jpt (jk8 (jcO (jcn (je5 (T:= "tuple") (by decide) rfl Z.isinstance rfl Z.tuple (by decide +kernel) (jv 0)))) (jk7 (jbq oq_ne (jaN jbk rfl Z.len G02 (jac (jv 0) jab)) (jv 1) (jax _))))) (jai (jbM jbl)) jaU) (by exact(jai (jbM (jaN (jhg rfl) rfl Z.all G2l (jac (jlc (i:=2) (js:= [2]) rfl (jaz (by rfl)) (jcs (jv 0)) (by decide) sc_is_table_row.nd rfl (by first|exact Or.inl rfl|exact Or.inr rfl) (λX' hX=>jbB) (λX' hX=>by obtain⟨C,s₀,H₀,ex,rfl⟩:=hX;exact(jkn (jaw G_is_whole hr rfl mG_is_whole kG_is_whole bG_is_whole (jac (jv 2) jab)) (jie (jid jkh (jv 2) jam (jax _)))))) jab))))))) ?_
 intro ds h Q q
 obtain⟨d,k,e,ok,q⟩:=q
 subst e
 obtain⟨nm,hn⟩:=jbQ ok
 simp only [jcg,Nxt,jcK,jcI,jaW,jaX,jaR,dOp,jay,dIs,jcB,dCB,jaK,jb8,jcq,jbd,dC,ja0,jaD,jcm,jcL,jcM,ja1,jcC,jcH,jaY,jcJ,jaZ,dIf,dUn,jcW,dSl,jaq,ja4,jcU,jaC,gN,gT2,ja3,jc3,jc4,jcV,jcQ,jdk,jc5,ja9,jc6,jcr,eqD,neD,eqE,neE,isV,isN,jdh,jat,jdi,jdj,jbe,ixD,jcR,jcS,jcT,jas,jaE,jav,ja2,jcN,slD,jch,jap,G0w,G0M,G0h,G0m,List.replicate,G0z,G0v,G0x,G0y,G0d,G0e,G0n,G0F,D.bl.injEq,D.lst.injEq,hn]
 cases d with
 |tup es=>
  cases hn
  obtain⟨hl,ht⟩:=jeS ok
  simp only [jl6]
  by_cases hk:(es.length:Int)=k
  ·simp only [hk]
   simp
   refine jgM (ds:=es) (h1:=h) (j:=λ_=>some es) (λx=> .bl (jkR x)) (G0W (jaA hl)) rfl (λR r=>⟨.tup es,rfl,r⟩) (λd hd Q' q' => ?_) (λp hp=> ?_)
   ·obtain⟨nn,hnn⟩:=jbQ (ht d hd)
    refine⟨d,rfl,d,nn,rfl,hnn,jhA d,rfl,?_⟩
    cases d with
    |int i=>exact jgH ⟨.int i,rfl,q'⟩
    |_=>exact jer q'
   ·refine⟨p,es.map jkR,rfl,by rw [jaa];simp,h,?_,?_⟩
    ·rw [jb1 hp];exact Sub.refl h
    ·simpa [jg1,hk,G1U,Function.comp_def] using q
  ·simp [hk]
   exact⟨h,Sub.refl h,by simpa [jg1,hk] using q⟩
 |_=>cases hn<;>exact⟨h,Sub.refl h,q⟩
def jaL:RDn:=λds h Q=> ∃d,ds= [d]/\okD d=true/\Q (.bl (jeT d)) h
set_option maxHeartbeats 2000000 in
theorem jdW {n:Nat} {f:Addr} {fd:FuncData} (Z:Zs mg) (F:Fun K "has_table_form" "has_table_form" jbt f fd) (C_is_table_row:jan P w K mg base n "is_table_row" ["thing","size"] jcy) (M_MOST_ROWS: ∃tk,mg "MOST_ROWS" =some (.int 6 tk)):FnOk P w K mg base CX0 (n+1) f fd ["thing"] (LSp K jaL):=by
 obtain⟨g_G_is_table_row,gd_G_is_table_row,G_is_table_row,bG_is_table_row,kG_is_table_row,mG_is_table_row⟩:=C_is_table_row
 obtain⟨tk_MOST_ROWS,m_MOST_ROWS⟩:=M_MOST_ROWS
 refine F.okJ sc_has_table_form (λds h Q q=>by obtain⟨d,e,ok,q⟩:=q;subst e;rfl) _ (λcdv A outer s H E hr=>(jaf (jee (jpt (jk8 (jcO (jcn (je5 (T:= "tuple") (by decide) rfl Z.isinstance rfl Z.tuple (by decide +kernel) (jv 0)))) (jk7 (jcO (jiZ jhN jhN jam (jaN jbk rfl Z.len G02 (jac (jv 0) jab)) (jp8 rfl m_MOST_ROWS)))))) (jai (jbM jbl)) jaU) (by exact(jai (jbM (jaN (jhg rfl) rfl Z.all G2l (jac (jlc (i:=1) (js:= [1]) rfl (jaz (by rfl)) (jcs (jv 0)) (by decide) sc_has_table_form.nd rfl (by first|exact Or.inl rfl|exact Or.inr rfl) (λX' hX=>jbB) (λX' hX=>by obtain⟨C,s₀,H₀,ex,rfl⟩:=hX;exact(jaw G_is_table_row hr rfl mG_is_table_row kG_is_table_row bG_is_table_row (jac (jv 1) (by exact(jac (jaN jbk rfl Z.len G02 (jac (jv 0) jab)) jab)))))) jab))))))) ?_
 intro ds h Q q
 obtain⟨d,e,ok,q⟩:=q
 subst e
 obtain⟨nm,hn⟩:=jbQ ok
 simp only [jcg,Nxt,jcK,jcI,jaW,jaX,jaR,dOp,jay,dIs,jcB,dCB,jaK,jb8,jcq,jbd,dC,ja0,jaD,jcm,jcL,jcM,ja1,jcC,jcH,jaY,jcJ,jaZ,dIf,dUn,jcW,dSl,jaq,ja4,jcU,jaC,gN,gT2,ja3,jc3,jc4,jcV,jcQ,jdk,jc5,ja9,jc6,jcr,eqD,neD,eqE,neE,isV,isN,jdh,jat,jdi,jdj,jbe,ixD,jcR,jcS,jcT,jas,jaE,jav,ja2,jcN,slD,jch,jap,G0w,G0M,G0h,G0m,List.replicate,G0z,G0v,G0x,G0y,G0d,G0e,G0n,G0F,D.bl.injEq,D.lst.injEq,hn]
 cases d with
 |tup es=>
  cases hn
  obtain⟨hl,ht⟩:=jeS ok
  simp only [jl6]
  by_cases h1:1<=es.length
  ·by_cases h6:es.length<=6
   ·have h1' :(1:Int)<=es.length:=by omega
    have h6' :(es.length:Int)<=6:=by omega
    simp [h1',h6']
    refine jgM (ds:=es) (h1:=h) (j:=λ_=>some es) (λx=> .bl (jg1 x es.length)) (G0W (jaA hl)) rfl (λR r=>⟨.tup es,rfl,r⟩) (λd hd Q' q' => ?_) (λp hp=> ?_)
    ·exact⟨d,rfl,.tup es,rfl,d,es.length,rfl,ht d hd,q'⟩
    ·refine⟨p,es.map λx=>jg1 x es.length,rfl,by rw [jaa];simp,h,?_,?_⟩
     ·rw [jb1 hp];exact Sub.refl h
     ·simpa [jeT,h1,h6,G1U,Function.comp_def] using q
   ·have h1' :(1:Int)<=es.length:=by omega
    have h6' : ¬ (es.length:Int)<=6:=by omega
    simp [h1',h6']
    exact⟨h,Sub.refl h,by simpa [jeT,h1,h6] using q⟩
  ·have h1' : ¬ (1:Int)<=es.length:=by omega
   simp [h1']
   exact⟨h,Sub.refl h,by simpa [jeT,h1] using q⟩
 |_=>cases hn<;>exact⟨h,Sub.refl h,q⟩
theorem jmS {x:Int} (h:0<=x):jkR (.int x)=true:=G0P h
theorem jmT {n e:Nat} {T:List (List Int)} (h:Sq n e T) {r:List Int} (hr:r∈T):jg1 (jdt r) n=true:=by
 simp only [jg1,jdt,G0c,h.row r hr,decide_true,G2Z,G1U,G0Y,Function.comp_apply]
 intro x hx;exact jmS (h.nn r hr x hx)
theorem jmU {n e:Nat} {T:List (List Int)} (h:Sq n e T) (h1:1<=n) (h6:n<=6):jeT (jaM T)=true:=by
 simp only [jeT,jaM,G0c,h.len,G0P h1,G0P h6,G2Z,G1U,G0Y,Function.comp_apply]
 intro r hr;exact jmT h hr
theorem jpb {n e:Nat} {T:List (List Int)} (h:Sq n e T) (h6:n<=6):okD (jaM T)=true:=
 jjO (by rw [G0c,h.len];omega) λd hd=>by
  obtain⟨r,hr,rfl⟩:=G05.mp hd
  exact jjO (by rw [G0c,h.row r hr];omega) λd hd=>by obtain⟨x,_,rfl⟩:=G05.mp hd;rfl
def jbj:RDn:=λds h Q=> ∃T,∃n e:Nat,ds= [jaM T]/\Sq n e T/\1<=n/\n<=6/\Q .non h
set_option maxHeartbeats 2000000 in
theorem jfO {n:Nat} {f:Addr} {fd:FuncData} (Z:Zs mg) (F:Fun K "want_table" "want_table" jbN f fd) (C_has_table_form:jan P w K mg base n "has_table_form" ["thing"] jaL):FnOk P w K mg base CX0 (n+1) f fd ["thing"] (LSp K jbj):=by
 obtain⟨g_G_has_table_form,gd_G_has_table_form,G_has_table_form,bG_has_table_form,kG_has_table_form,mG_has_table_form⟩:=C_has_table_form
 refine F.okJ jdz (λds h Q q=>by obtain⟨T,k,b,e,hT,h1,h6,q⟩:=q;subst e;rfl) _ (λcdv A outer s H E hr=>(jai (jee (jcO (jcn (jaw G_has_table_form hr rfl mG_has_table_form kG_has_table_form bG_has_table_form (jac (jv 0) jab)))) (jai jfk) jaU))) ?_
 intro ds h Q q
 obtain⟨T,k,b,e,hT,h1,h6,q⟩:=q
 subst e
 refine⟨_,rfl,jaM T,rfl,jpb hT h6,_,rfl,?_⟩
 rw [jmU hT h1 h6]
 exact jer ⟨h,Sub.refl h,q⟩
def ja6:RDx:=λds h R=> ∃d,ds= [d]/\okD d=true/\jeT d=false/\R "NoTable" h
set_option maxHeartbeats 2000000 in
theorem je8 {n:Nat} {f:Addr} {fd:FuncData} (Z:Zs mg) (Ex:Exc K mg) (F:Fun K "want_table" "want_table" jbN f fd) (C_has_table_form:jan P w K mg base n "has_table_form" ["thing"] jaL):FnOk P w K mg base (CXR P w) (n+1) f fd ["thing"] (jhV mg K ja6):=by
 obtain⟨g_G_has_table_form,gd_G_has_table_form,G_has_table_form,bG_has_table_form,kG_has_table_form,mG_has_table_form⟩:=C_has_table_form
 refine F.okX jdz (λds h R q=>by obtain⟨d,e,ok,bad,q⟩:=q;subst e;rfl) _ (λcdv A outer s H E hr=>(jmr (jcO (jcn (jaw G_has_table_form hr rfl mG_has_table_form kG_has_table_form bG_has_table_form (jac (jv 0) jab)))) (jfI rfl (Ex.own "NoTable" (by decide)) rfl))) ?_
 intro ds h R q
 obtain⟨d,e,ok,bad,q⟩:=q
 subst e
 refine⟨_,rfl,d,rfl,ok,_,rfl,?_⟩
 rw [bad]
 exact⟨rfl,q⟩
def jfo:RDn:=λds h Q=> ∃T,∃n e:Nat,ds= [jaM T]/\Sq n e T/\n<=6/\ ∀R rs h',GB n h h' R rs (wk T n)->Q (.lst R) h'
set_option maxHeartbeats 2000000 in
theorem jh7 {n:Nat} {f:Addr} {fd:FuncData} (Z:Zs mg) (F:Fun K "reaches" "reaches" jeQ f fd):FnOk P w K mg base CX0 (n+1) f fd ["table"] (LSp K jfo):=by
 refine F.okJ sc_reaches (λds h Q q=>by obtain⟨T,n,b,e,hT,h6,q⟩:=q;subst e;rfl) _ (λcdv A outer s H E hr=>(jaf (jbV (i:=1) sc_reaches.nd rfl (by first|exact Or.inr rfl|exact Or.inl rfl) (jaN jbk rfl Z.len G02 (jac (jv 0) jab))) (by exact(jaf (jk9 (i:=4) (k:=2) (js:= [4]) rfl sc_reaches.nd rfl (Or.inl rfl) (jaz (by rfl)) (jeD rfl Z.range (jac (jv 1) jab)) (by decide) rfl (by first|exact Or.inl rfl|exact Or.inr rfl) (λX' hX=>jbB) (λX' hX=>by obtain⟨C,s₀,H₀,ex,rfl⟩:=hX;exact(jlc (i:=5) (js:= [5]) rfl (jaz (by rfl)) (jeD rfl Z.range (jac (jv 1) jab)) (by decide) sc_reaches.nd rfl (by first|exact Or.inl rfl|exact Or.inr rfl) (λX' hX=>jbB) (λX' hX=>by obtain⟨C,s₀,H₀,ex,rfl⟩:=hX;exact(jor (jid (jgb hr.units) (jv 4) (jv 5) (jax _)) (jie (jid oq_ne (jix (jix (jv 0) (jv 4) (λ_ _=>rfl)) (jv 5) (λ_ _=>rfl)) jam (jax _)))))))) (by exact(jaf (jjW G1h rfl (jeD rfl Z.range (jac (jv 1) jab)) (jbW (i:=3) sc_reaches.nd rfl (Or.inl rfl)) (jai (jjW G1h rfl (jeD rfl Z.range (jac (jv 1) jab)) (jbW (i:=4) sc_reaches.nd rfl (by first|exact Or.inr rfl|exact Or.inl rfl)) (jai (jjW G1h rfl (jeD rfl Z.range (jac (jv 1) jab)) (jbW (i:=5) sc_reaches.nd rfl (by first|exact Or.inr rfl|exact Or.inl rfl)) (jai (jee (jpt (ji1 (jcn (jix (jix (jv 2) (jv 4) (λ_ _=>rfl)) (jv 3) (λ_ _=>rfl))) (ji0 (jcn (jix (jix (jv 2) (jv 3) (λ_ _=>rfl)) (jv 5) (λ_ _=>rfl)))))) (jai (jpi jbl (ji3 (jix (jv 2) (jv 4) (λ_ _=>rfl)) (jv 5)))) jaU))))))) (by exact(jai (jbM (jv 2)))))))))) ?_
 intro ds h Q q
 obtain⟨T,n,b,e,hT,h6,q⟩:=q
 subst e
 refine jah (λσ' h' =>σ' = [some (jaM T),some (.int (n:Int)),none,none,none,none]/\h=h') (λC hC=>⟨_,rfl,hC _ _ ⟨by rw [G0c,hT.len];rfl,rfl⟩⟩) ?_
 rintro _ _ ⟨rfl,rfl⟩
 refine jah (λσ' h' => ∃R rs u v w,σ' = [some (jaM T),some (.int (n:Int)),some (.lst R),u,v,w]/\GB n h h' R rs (wk T 0)) (λC hC=> ?_) ?_
 ·refine jk5 (h1:=h) n (λi ys h' => ∃rs,ys=rs.map D.lst/\rs.length=i/\Sub h h' /\rs.Nodup/\ ∀m a,rs[m]? =some a->h a=none/\h' a=some ((List.range n).map λj=>D.bl (wk T 0 m j))) (by omega) (λR r=>⟨_,rfl,r⟩) ⟨[],rfl,rfl,Sub.refl h,List.nodup_nil,by simp⟩ (λi ys h' ⟨rs,e,el,_⟩=>by rw [e,G0c];exact el) ?_ ?_
  ·rintro i ys h3 hi ⟨rs,rfl,lrs,sb3,nd3,rows3⟩
   refine lcA (List.range n) (λj=> .int (j:Int)) (λj=> .bl (wk T 0 i j)) (by rw [G1M];omega) rfl (λR r=>⟨_,rfl,(n:Int),rfl,by omega,by omega,r⟩) (λj hj Q' q' =>⟨_,rfl,_,rfl,_,rfl,?_⟩) (λp5 e5=> ?_)
   ·have hj:=G1A.mp hj
    have q' :Q' (.bl (decide (i=j)|| !decide (ent T i j=0))) h3:=q'
    have ed:decide ((i:Int)=(j:Int))=decide (i=j):=by rw [G1x,G1r,G1r];omega
    rw [ed]
    by_cases c:i=j
    ·rw [G0P c] at q' ⊢
     exact jgH q'
    ·rw [G0R c] at q' ⊢
     exact jer ⟨_,rfl,_,rfl,_,jgR hT hi,_,rfl,_,ji6 (hT.row _ (Sq.getRow hT hi)) hj,q'⟩
   ·refine⟨_,Sub.refl _,by omega,rs++ [p5],by rw [G07];rfl,by rw [G0a,lrs];rfl,Sub.newAt sb3 e5,?_,λm a ha=> ?_⟩
    ·rw [List.nodup_append]
     refine⟨nd3,by simp,λa ha b hb z=> ?_⟩
     rw [G0g.mp hb] at z;subst z
     obtain⟨m,hm⟩:=List.getElem?_of_mem ha
     rw [(rows3 m _ hm).2] at e5;cases e5
    ·by_cases hm:m<rs.length
     ·rw [G0I hm] at ha
      exact⟨(rows3 m a ha).1,jad (rows3 m a ha).2 e5⟩
     ·rw [G0q (by omega)] at ha
      have em:m-rs.length=0:=by
       have:=(G0o.mp ha).1
       simp at this;omega
      rw [em] at ha
      have ea:p5=a:=by simpa using ha
      subst ea
      have:m=i:=by omega
      subst this
      exact⟨jfL sb3 e5,jaa⟩
  ·rintro ys h3 ⟨rs,rfl,lrs,sb3,nd3,rows3⟩ R eR
   refine hC _ _ ⟨R,rs,_,_,_,rfl,jaa,lrs,λhR=> ?_,nd3,Sub.newAt sb3 eR,λi a ha=>⟨(rows3 i a ha).1,jad (rows3 i a ha).2 eR⟩⟩
   obtain⟨m,hm⟩:=List.getElem?_of_mem hR
   rw [(rows3 m _ hm).2] at eR;cases eR
 rintro _ h3 ⟨R,rs,u,v,w,rfl,G⟩
 refine jah (λσ' h' => ∃u v w,σ' = [some (jaM T),some (.int (n:Int)),some (.lst R),u,v,w]/\GB n h h' R rs (wk T n)) (λC hC=> ?_) ?_
 ·refine jdN n (λk σ' h' => ∃u v w,σ' = [some (jaM T),some (.int (n:Int)),some (.lst R),u,v,w]/\GB n h h' R rs (wk T k)) (by omega) (λR r=>⟨_,rfl,r⟩) ⟨u,v,w,rfl,G⟩ (λσ' h' z=>hC _ _ z) ?_
  clear G
  rintro k _ h4 hk ⟨u,v,w,rfl,G⟩
  refine jdN n (λi σ' h' => ∃v w,σ' = [some (jaM T),some (.int (n:Int)),some (.lst R),some (.int (k:Int)),v,w]/\GB n h h' R rs (fW T k i 0)) (by omega) (λR r=>⟨_,rfl,r⟩) ⟨v,w,rfl,G.as λx y _ _=>jmJ T k x y⟩ (λσ' h' ⟨v,w,e,G⟩=>⟨_,Sub.refl _,by omega,_,v,w,e,G.as λx y hx _=>joX T k x y hx⟩) ?_
  clear G
  rintro i _ h5 hi ⟨v,w,rfl,G⟩
  refine jdN n (λj σ' h' => ∃w,σ' = [some (jaM T),some (.int (n:Int)),some (.lst R),some (.int (k:Int)),some (.int (i:Int)),w]/\GB n h h' R rs (fW T k i j)) (by omega) (λR r=>⟨_,rfl,r⟩) ⟨w,rfl,G⟩ (λσ' h' ⟨w,e,G⟩=>⟨_,Sub.refl _,by omega,_,w,e,G.as λx y _ hy=>jmI T k i x y hy⟩) ?_
  clear G
  rintro j _ h6' hj ⟨w,rfl,G⟩
  obtain⟨a,ha,a1,a2⟩:=G.pick hi
  obtain⟨c,hc,c1,c2⟩:=G.pick hk
  refine⟨_,rfl,_,rfl,_,_,G.at_,a1,_,rfl,_,_,a2,jhv hk,_,rfl,?_⟩
  rw [joU]
  refine jg9 (λz1=> ?_) λz1=> ?_
  ·refine⟨_,rfl,_,rfl,_,_,G.at_,c1,_,rfl,_,_,c2,jhv hj,_,rfl,?_⟩
   rw [joV]
   refine jg9 (λz2=> ?_) λz2=> ?_
   ·exact⟨_,rfl,_,rfl,_,_,G.at_,a1,_,rfl,a,(j:Int),_,j,rfl,rfl,a2,jmm (by rw [G0c,G1M];exact hj),_,Sub.refl _,by omega,_,rfl,(G.put ha).as λx y _ _=>joW z1 z2 x y⟩
   ·exact⟨_,Sub.refl _,by omega,_,rfl,G.as λx y _ _=>jjG (λz=>z2 z.2) x y⟩
  ·exact⟨_,Sub.refl _,by omega,_,rfl,G.as λx y _ _=>jjG (λz=>z1 z.1) x y⟩
 rintro _ h4 ⟨u,v,w,rfl,G⟩
 exact⟨_,rfl,_,Sub.refl _,q R rs h4 G⟩
def jd0:RDn:=λds h Q=> ∃R rs h0 T,∃n:Nat,ds= [.lst R]/\GB n h0 h R rs (wk T n)/\n<=6/\ ∀A h',h A=none->h' A=some ((jfX T n).map jcb)->Sub h h' ->Q (.lst A) h'
set_option maxHeartbeats 2000000 in
theorem jgu {n:Nat} {f:Addr} {fd:FuncData} (Z:Zs mg) (F:Fun K "pieces_by" "pieces_by" jda f fd):FnOk P w K mg base CX0 (n+1) f fd ["come"] (LSp K jd0):=by
 refine F.okJ sc_pieces_by (λds h Q q=>by obtain⟨R,rs,h0,T,n,e,G,h6,q⟩:=q;subst e;rfl) _ (λcdv A outer s H E hr=>(jaf (jbV (i:=1) sc_pieces_by.nd rfl (Or.inl rfl) (jaN jbk rfl Z.len G02 (jac (jv 0) jab))) (by exact(jaf (jbV (i:=2) sc_pieces_by.nd rfl (Or.inl rfl) (jb4 jab)) (by exact(jaf (jjW G1h rfl (jeD rfl Z.range (jac (jv 1) jab)) (jbW (i:=3) sc_pieces_by.nd rfl (by first|exact Or.inr rfl|exact Or.inl rfl)) (jaf (jbV (i:=4) sc_pieces_by.nd rfl (Or.inl rfl) (jb9 jey rfl Z.tuple (by decide +kernel) (jac (jlc (i:=5) (js:= [5]) rfl (jaz (by rfl)) (jeD rfl Z.range (jac (jv 1) jab)) (by decide) sc_pieces_by.nd rfl (by first|exact Or.inl rfl|exact Or.inr rfl) (λX' hX=>by obtain⟨C,s₀,H₀,ex,rfl⟩:=hX;exact jfE (jpt (ji1 (jcn (jix (jix (jv 0) (jv 3) (λ_ _=>rfl)) (jv 5) (λ_ _=>rfl))) (ji0 (jcn (jix (jix (jv 0) (jv 5) (λ_ _=>rfl)) (jv 3) (λ_ _=>rfl))))))) (λX' hX=>by obtain⟨C,s₀,H₀,ex,rfl⟩:=hX;exact(jv 5))) jab))) (by exact(jai (jee (jbq (jgb hr.units) (jix (jv 4) jam (λ_ _=>rfl)) (jv 3) (jax _)) (jai (jeC (jme (jv 2) (jv 4)))) jaU))))) (by exact(jai (jbM (jv 2)))))))))) ?_
 intro ds h Q q
 obtain⟨R,rs,h0,T,n,e,G,h6,q⟩:=q
 subst e
 refine jah (λσ' h' =>σ' = [some (.lst R),some (.int (n:Int)),none,none,none,none]/\h=h') (λC hC=> ?_) ?_
 ·exact⟨_,rfl,_,G.at_,hC _ _ ⟨by rw [G0c,G.len];rfl,rfl⟩⟩
 rintro _ _ ⟨rfl,rfl⟩
 refine jah (λσ' h' => ∃A,σ' = [some (.lst R),some (.int (n:Int)),some (.lst A),none,none,none]/\h A=none/\Sub h h' /\h' A=some []) (λC hC=>⟨(by show 0<=sizeLine;decide),λA eA=>hC _ _ ⟨A,rfl,eA,Sub.newAt (Sub.refl h) eA,jaa⟩⟩) ?_
 rintro _ h1 ⟨A,rfl,nA,sb,kA⟩
 refine jah (λσ' h' => ∃u v w,σ' = [some (.lst R),some (.int (n:Int)),some (.lst A),u,v,w]/\Sub h h' /\h' A=some ((jfX T n).map jcb)) (λC hC=> ?_) ?_
 ·refine jdN n (λk σ' h' => ∃u v w,σ' = [some (.lst R),some (.int (n:Int)),some (.lst A),u,v,w]/\Sub h h' /\h' A=some (((((List.range k).filter (λp=>decide ((pcS T n p).headD 0=p))).map (pcS T n))).map jcb)) (by omega) (λR r=>⟨_,rfl,r⟩) ⟨_,_,_,rfl,sb,kA⟩ (λσ' h' z=>hC _ _ z) ?_
  clear sb kA
  rintro k _ h2 hk ⟨u,v,w,rfl,sb,kA⟩
  have GG:=G.up sb
  obtain⟨a,ha,a1,a2⟩:=GG.pick hk
  refine jah (λσ' h' => ∃w,σ' = [some (.lst R),some (.int (n:Int)),some (.lst A),some (.int (k:Int)),some (jcb (pcS T n k)),w]/\h2=h') (λC hC=> ?_) ?_
  ·refine jkt n (λj ys h' =>h' =h2/\ys=((List.range j).filter λi=>wk T n k i&&wk T n i k).map λ(i:Nat)=>D.int (i:Int)) (by omega) (λR r=>⟨_,rfl,r⟩) ⟨rfl,rfl⟩ (λj ys h' w=> ?_) (λj ys h' hj w=> ?_) (λys h' w=> ?_)
   ·rw [w.2,G0c]
    exact G01 (G1V _ _) (by rw [G1M];exact G0k _)
   ·obtain⟨rfl,rfl⟩:=w
    obtain⟨c,hc,c1,c2⟩:=GG.pick hj
    refine⟨_,rfl,_,rfl,_,_,GG.at_,a1,_,rfl,_,_,a2,jhv hj,_,rfl,jg9 (λz1=> ?_) λz1=> ?_⟩
    ·refine⟨_,rfl,_,rfl,_,_,GG.at_,c1,_,rfl,_,_,c2,jhv hk,_,rfl,jg9 (λz2=> ?_) λz2=> ?_⟩
     ·refine⟨_,rfl,_,Sub.refl _,by omega,rfl,?_⟩
      rw [G2C,G1X,G07,G1H (by rw [z1,z2];rfl)];rfl
     ·refine⟨_,Sub.refl _,by omega,rfl,?_⟩
      rw [G2C,G1X,G07,G1I (by rw [G0T];exact λz=>z2 z.2)];simp
    ·refine⟨_,Sub.refl _,by omega,rfl,?_⟩
     rw [G2C,G1X,G07,G1I (by rw [G0T];exact λz=>z1 z.1)];simp
   ·obtain⟨rfl,rfl⟩:=w
    exact hC _ _ ⟨_,rfl,rfl⟩
  rintro _ _ ⟨w',rfl,rfl⟩
  obtain⟨r,er⟩:=jjM (T:=T) hk
  have a0:((pcS T n k).map λ(i:Nat)=>D.int (i:Int))[0]? =some (.int (((pcS T n k).headD 0:Nat):Int)):=by
   cases z:pcS T n k with
   |nil=>rw [z] at er;cases er
   |cons x r=>rfl
  refine⟨_,rfl,_,jb6 (j:=0) a0,_,rfl,?_⟩
  show ∃k_1,D.bl (decide ((((pcS T n k).headD 0:Nat):Int)=(k:Int)))= .bl k_1/\_
  refine⟨_,rfl,jg9 (λz=> ?_) λz=> ?_⟩
  ·have z:(pcS T n k).headD 0=k:=by have:=G1v z;omega
   refine⟨_,rfl,A,rfl,_,rfl,_,kA,?_,_,Sub.refl _,by omega,_,_,_,rfl,sb.over nA,?_⟩
   ·rw [G0c,G0c]
    exact jaA (G01 (G1V _ _) (by rw [G1M];omega))
   ·rw [jaa,G2C,G1X,G1H (by rw [G1r];exact z),G3I,G07,G07];rfl
  ·have z: ¬ (pcS T n k).headD 0=k:=λe=>z (G0P (by omega))
   refine⟨_,Sub.refl _,by omega,_,_,_,rfl,sb,?_⟩
   rw [kA,G2C,G1X,G1I (by rw [G1r];exact z),G3I,G1t]
 rintro _ h4 ⟨u,v,w,rfl,sb4,k4⟩
 exact⟨_,rfl,_,Sub.refl _,q A h4 nA k4 sb4⟩
def jgv:RDn:=λds h Q=> ∃T,∃n e:Nat,ds= [jaM T]/\Sq n e T/\1<=n/\n<=6/\ ∀A h',h A=none->h' A=some ((jfX T n).map jcb)->Sub h h' ->Q (.lst A) h'
set_option maxHeartbeats 2000000 in
theorem jjP {n:Nat} {f:Addr} {fd:FuncData} (Z:Zs mg) (F:Fun K "pieces" "pieces" jei f fd) (C_want_table:jan P w K mg base n "want_table" ["thing"] jbj) (C_pieces_by:jan P w K mg base n "pieces_by" ["come"] jd0) (C_reaches:jan P w K mg base n "reaches" ["table"] jfo):FnOk P w K mg base CX0 (n+1) f fd ["table"] (LSp K jgv):=by
 obtain⟨g_G_want_table,gd_G_want_table,G_want_table,bG_want_table,kG_want_table,mG_want_table⟩:=C_want_table
 obtain⟨g_G_pieces_by,gd_G_pieces_by,G_pieces_by,bG_pieces_by,kG_pieces_by,mG_pieces_by⟩:=C_pieces_by
 obtain⟨g_G_reaches,gd_G_reaches,G_reaches,bG_reaches,kG_reaches,mG_reaches⟩:=C_reaches
 refine F.okJ jgp (λds h Q q=>by obtain⟨T,n,b,e,hT,h1,h6,q⟩:=q;subst e;rfl) _ (λcdv A outer s H E hr=>(jaf (jeC (jaw G_want_table hr rfl mG_want_table kG_want_table bG_want_table (jac (jv 0) jab))) (by exact(jai (jbM (jaw G_pieces_by hr rfl mG_pieces_by kG_pieces_by bG_pieces_by (jac (jaw G_reaches hr rfl mG_reaches kG_reaches bG_reaches (jac (jv 0) jab)) jab))))))) ?_
 intro ds h Q q
 obtain⟨T,n,b,e,hT,h1,h6,q⟩:=q
 subst e
 refine jah (λσ' h' =>σ' = [some (jaM T)]/\h=h') (λC hC=>⟨_,rfl,T,n,b,rfl,hT,h1,h6,hC _ _ ⟨rfl,rfl⟩⟩) ?_
 rintro _ _ ⟨rfl,rfl⟩
 exact⟨_,rfl,T,n,b,rfl,hT,h6,λR rs h2 G=>⟨R,rs,h,T,n,rfl,G,h6,λA h3 nA kA sb=>⟨_,Sub.refl _,q A h3 (jfL G.sb nA) kA λx y z=>sb _ _ (G.sb _ _ z)⟩⟩⟩
def jfp:RDx:=λds h R=> ∃d,ds= [d]/\okD d=true/\jeT d=false/\R "NoTable" h
set_option maxHeartbeats 2000000 in
theorem jh8 {n:Nat} {f:Addr} {fd:FuncData} (Z:Zs mg) (Ex:Exc K mg) (F:Fun K "pieces" "pieces" jei f fd) (CR_want_table:jbh P w K mg base n "want_table" ["thing"] ja6):FnOk P w K mg base (CXR P w) (n+1) f fd ["table"] (jhV mg K jfp):=by
 obtain⟨g_GR_want_table,gd_GR_want_table,GR_want_table,bGR_want_table,kGR_want_table,mGR_want_table⟩:=CR_want_table
 refine F.okX jgp (λds h R q=>by obtain⟨d,e,ok,bad,q⟩:=q;subst e;rfl) _ (λcdv A outer s H E hr=>(jfH (jbm GR_want_table hr rfl mGR_want_table kGR_want_table bGR_want_table (jac (jv 0) jab)))) ?_
 intro ds h R q
 obtain⟨d,e,ok,bad,q⟩:=q
 subst e
 exact⟨_,rfl,d,rfl,ok,bad,q⟩
def jeW:RDn:=λds h Q=> ∃T,∃n e:Nat,ds= [jaM T]/\Sq n e T/\1<=n/\n<=6/\Q (.bl (decide ((jfX T n).length=1))) h
set_option maxHeartbeats 2000000 in
theorem jjQ {n:Nat} {f:Addr} {fd:FuncData} (Z:Zs mg) (F:Fun K "joined" "joined" jej f fd) (C_pieces:jan P w K mg base n "pieces" ["table"] jgv):FnOk P w K mg base CX0 (n+1) f fd ["table"] (LSp K jeW):=by
 obtain⟨g_G_pieces,gd_G_pieces,G_pieces,bG_pieces,kG_pieces,mG_pieces⟩:=C_pieces
 refine F.okJ jgq (λds h Q q=>by obtain⟨T,n,b,e,hT,h1,h6,q⟩:=q;subst e;rfl) _ (λcdv A outer s H E hr=>(jai (jbM (jid oq_eq (jaN jbk rfl Z.len G02 (jac (jaw G_pieces hr rfl mG_pieces kG_pieces bG_pieces (jac (jv 0) jab)) jab)) jam (jax _))))) ?_
 intro ds h Q q
 obtain⟨T,n,b,e,hT,h1,h6,q⟩:=q
 subst e
 refine⟨_,rfl,T,n,b,rfl,hT,h1,h6,λA h2 nA kA sb=>⟨_,kA,?_⟩⟩
 show ∃h0,Sub h0 h2/\Q (.bl (decide (((((jfX T n).map jcb).length:Nat):Int)=1))) h0
 refine⟨h,sb,?_⟩
 rw [G0c,show decide ((((jfX T n).length:Nat):Int)=1)=decide ((jfX T n).length=1) from by rw [G1x,G1r,G1r];omega]
 exact q
def jfq:RDx:=λds h R=> ∃d,ds= [d]/\okD d=true/\jeT d=false/\R "NoTable" h
set_option maxHeartbeats 2000000 in
theorem jh9 {n:Nat} {f:Addr} {fd:FuncData} (Z:Zs mg) (Ex:Exc K mg) (F:Fun K "joined" "joined" jej f fd) (CR_pieces:jbh P w K mg base n "pieces" ["table"] jfp):FnOk P w K mg base (CXR P w) (n+1) f fd ["table"] (jhV mg K jfq):=by
 obtain⟨g_GR_pieces,gd_GR_pieces,GR_pieces,bGR_pieces,kGR_pieces,mGR_pieces⟩:=CR_pieces
 refine F.okX jgq (λds h R q=>by obtain⟨d,e,ok,bad,q⟩:=q;subst e;rfl) _ (λcdv A outer s H E hr=>(joA (jo3 (jmB (id:= "len") rfl Z.len (by decide +kernel) (jbm GR_pieces hr rfl mGR_pieces kGR_pieces bGR_pieces (jac (jv 0) jab)))))) ?_
 intro ds h R q
 obtain⟨d,e,ok,bad,q⟩:=q
 subst e
 exact⟨_,rfl,d,rfl,ok,bad,q⟩
theorem jmV {n:Nat} {r:List Int} (h:r.length=n):jkp (r.map D.int)=(List.range n).map λ(j:Nat)=>D.tup [.int (j:Int),.int (r.getD j 0)]:=by
 apply G3t
 intro i
 by_cases hi:i<n
 ·have hi' :i<(jkp (r.map D.int)).length:=by rw [jc8,G0c,h];exact hi
  obtain⟨x,hx,ed⟩:=jhj (G0b hi')
  rw [G0b hi',ed]
  rw [G0H,G2s hi]
  rw [G0H,G0b (by omega)] at hx
  injection hx with hx
  rw [<-hx]
  show some (D.tup [D.int (i:Int),D.int r[i]])=some (D.tup [D.int (i:Int),D.int (r.getD i 0)])
  rw [G03,G0b (show i<r.length by omega)]
  rfl
 ·rw [G1T (by rw [jc8,G0c];omega),G1T (by simp;omega)]
def jhB:RDn:=λds h Q=> ∃T,∃n e p:Nat,ds= [jaM T,.int (p:Int)]/\Sq n e T/\n<=6/\p<n/\ ∀F,h F=none->Q (.lst F) (jbp h F ((jlf T n p).map λ(k:Nat)=>D.int (k:Int)))
set_option maxHeartbeats 2000000 in
theorem jkS {n:Nat} {f:Addr} {fd:FuncData} (Z:Zs mg) (F:Fun K "heads" "heads" jg0 f fd):FnOk P w K mg base CX0 (n+1) f fd ["table","place"] (LSp K jhB):=by
 refine F.okJ sc_heads (λds h Q q=>by obtain⟨T,n,bb,p,e,hT,n6,hp,q⟩:=q;subst e;rfl) _ (λcdv A outer s H E hr=>(jai (jbM (jrq (i:=2) (j:=3) (js:= [2,3]) rfl (jaz (by rfl)) (jmi rfl Z.enumerate (jac (jix (jv 0) (jv 1) (λ_ _=>rfl)) jab)) (by decide) (by decide) (by decide) sc_heads.nd rfl rfl (by first|exact Or.inl rfl|exact Or.inr rfl) (by first|exact Or.inl rfl|exact Or.inr rfl) (λX' hX=>by obtain⟨C,s₀,H₀,ex,rfl⟩:=hX;exact jfE (jbq oq_ne (jv 3) jam (jax _))) (λX' hX=>by obtain⟨C,s₀,H₀,ex,rfl⟩:=hX;exact(jv 2)))))) ?_
 intro ds h Q q
 obtain⟨T,n,bb,p,e,hT,n6,hp,q⟩:=q
 subst e
 refine jrw (j:=λ_=>some (jkp ((T.getD p []).map D.int))) (List.range n) (λj=> .int (j:Int)) (λj=> .int ((T.getD p []).getD j 0)) (λj=> .int (j:Int)) (λj=>decide (ent T p j>0)) (by rw [G1M];omega) (congrArg some (jmV (hT.row _ (Sq.getRow hT hp)))) (λR r=>⟨_,rfl,_,rfl,_,jgR hT hp,_,rfl,r⟩) (λx hx Q' q' =>⟨_,rfl,_,rfl,?_⟩) (λx hx _ Q' q' =>⟨_,rfl,q'⟩) (λF eF=>⟨_,Sub.refl _,q F eF⟩)
 have hnn:=(hT.ent_nn hp (G1A.mp hx)).1
 have e4:(!decide (((T.getD p []).getD x 0)=0))=decide (ent T p x>0):=by
  show (!decide (ent T p x=0))=_
  by_cases z:ent T p x=0
  ·rw [z];rfl
  ·rw [G0R z,G0P (by omega)];rfl
 rw [<-e4] at q';exact q'
theorem ifT {c:Bool} {A B:Prop} (e:c=true) (a:A):if c=true then A else B:=by rw [if_pos e];exact a
theorem ifF {c:Bool} {A B:Prop} (e:c=false) (b:B):if c=true then A else B:=by subst e;exact b
def jcj:RDn:=λds h Q=> ∃a b:Nat,ds= [.int (a:Int),.int (b:Int)]/\Q (.int ((Nat.gcd a b:Nat):Int)) h
set_option maxHeartbeats 2000000 in
theorem jd8 {n:Nat} {f:Addr} {fd:FuncData} (Z:Zs mg) (F:Fun K "greatest_into" "greatest_into" jbG f fd):FnOk P w K mg base CX0 (n+1) f fd ["one","other"] (LSp K jcj):=by
 refine F.okJ sc_greatest_into (λds h Q q=>by obtain⟨a,b,e,q⟩:=q;subst e;rfl) _ (λcdv A outer s H E hr=>(jaf (jje G1h (jbq oq_ne (jv 1) jam (jax _)) (jai (jp9 (i:=0) (j:=1) rfl sc_greatest_into.nd rfl rfl (by decide) rfl rfl (jac (jv 1) (by exact(jac (jop jdr (jv 0) (jv 1)) jab))) rfl))) (by exact(jai (jbM (jv 0)))))) ?_
 intro ds h Q q
 obtain⟨a,b,e,q⟩:=q
 subst e
 refine jah (λσ' h' => ∃d,σ' = [some (.int ((Nat.gcd a b:Nat):Int)),d]/\h=h') (λC hC=> ?_) ?_
 ·refine jfG (λm σ' h' => ∃x:Nat,σ' = [some (.int (x:Int)),some (.int (m:Int))]/\h=h' /\Nat.gcd x m=Nat.gcd a b) b ⟨a,rfl,rfl,rfl⟩ ?_
  rintro m _ _ ⟨x,rfl,rfl,hg⟩
  refine⟨_,rfl,_,rfl,?_⟩
  by_cases z:m=0
  ·subst z
   rw [Nat.gcd_zero_right] at hg
   subst hg
   exact ifF (by decide) (hC _ _ ⟨_,rfl,rfl⟩)
  ·refine ifT (congrArg not (G0R (show ¬ (m:Int)=0 by omega))) ⟨_,rfl,_,rfl,_,rfl,(by omega:(0:Int)<(m:Int)),_,_,rfl,x%m,_,Nat.mod_lt _ (by omega),Sub.refl _,m,?_,rfl,?_⟩
   ·rw [Int.natCast_emod];rfl
   ·rw [Nat.gcd_comm,<-Nat.gcd_rec,Nat.gcd_comm];exact hg
 rintro _ _ ⟨d,rfl,rfl⟩
 exact⟨_,rfl,h,Sub.refl h,q⟩
def jeX:RDn:=λds h Q=> ∃T,∃n e:Nat,ds= [jaM T,.non]/\Sq n e T/\1<=n/\n<=6/\Q (.bl false) h
set_option maxHeartbeats 2000000 in
theorem jg4 {n:Nat} {f:Addr} {fd:FuncData} (Z:Zs mg) (F:Fun K "is_round" "is_round" jcF f fd) (C_want_table:jan P w K mg base n "want_table" ["thing"] jbj) (C_are_places:jan P w K mg base n "are_places" ["thing","size"] jdC):FnOk P w K mg base CX0 (n+1) f fd ["table","thing"] (LSp K jeX):=by
 obtain⟨g_G_want_table,gd_G_want_table,G_want_table,bG_want_table,kG_want_table,mG_want_table⟩:=C_want_table
 obtain⟨g_G_are_places,gd_G_are_places,G_are_places,bG_are_places,kG_are_places,mG_are_places⟩:=C_are_places
 refine F.okJ jeR (λds h Q q=>by obtain⟨T,n,b,e,hT,h1,h6,q⟩:=q;subst e;rfl) _ (λcdv A outer s H E hr=>(jaf (jeC (jaw G_want_table hr rfl mG_want_table kG_want_table bG_want_table (jac (jv 0) jab))) (by exact(jaf (jee (jpt (jk8 (jcO (jcn (jaw G_are_places hr rfl mG_are_places kG_are_places bG_are_places (jac (jv 1) (by exact(jac (jaN jbk rfl Z.len G02 (jac (jv 0) jab)) jab)))))) (jk7 (jbq (jgb hr.units) (jv 1) (jbr jab) (jax _))))) (jai (jbM jbl)) jaU) (by exact jfJ))))) ?_
 intro ds h Q q
 obtain⟨T,n,b,e,hT,h1,h6,q⟩:=q
 subst e
 refine jah (λσ' h' =>σ' = [some (jaM T),some .non]/\h=h') (λC hC=>⟨_,rfl,T,n,b,rfl,hT,h1,h6,hC _ _ ⟨rfl,rfl⟩⟩) ?_
 rintro _ _ ⟨rfl,rfl⟩
 refine jah (λσ' h' =>False) (λC hC=>⟨_,rfl,_,rfl,.non,_,rfl,rfl,_,rfl,jgH (jgH ⟨h,Sub.refl h,q⟩)⟩) (λ_ _ z=>z.elim)
def jd1:RDx:=λds h R=> ∃d x,ds= [d,x]/\okD d=true/\jeT d=false/\R "NoTable" h
set_option maxHeartbeats 2000000 in
theorem jgw {n:Nat} {f:Addr} {fd:FuncData} (Z:Zs mg) (Ex:Exc K mg) (F:Fun K "is_round" "is_round" jcF f fd) (CR_want_table:jbh P w K mg base n "want_table" ["thing"] ja6):FnOk P w K mg base (CXR P w) (n+1) f fd ["table","thing"] (jhV mg K jd1):=by
 obtain⟨g_GR_want_table,gd_GR_want_table,GR_want_table,bGR_want_table,kGR_want_table,mGR_want_table⟩:=CR_want_table
 refine F.okX jeR (λds h R q=>by obtain⟨d,x,e,ok,bad,q⟩:=q;subst e;rfl) _ (λcdv A outer s H E hr=>(jfH (jbm GR_want_table hr rfl mGR_want_table kGR_want_table bGR_want_table (jac (jv 0) jab)))) ?_
 intro ds h R q
 obtain⟨d,x,e,ok,bad,q⟩:=q
 subst e
 exact⟨_,rfl,d,rfl,ok,bad,q⟩
theorem jjR {T:List (List Int)} {n:Nat} (w:List Nat):((jlf T n (w.getLastD 0)).filter λj=>decide (w.headD 0<j)&& !decide (j∈w)).map (λj=>jcb (w++ [j]))=(jpk (jcu T) n w).map jcb:=by
 unfold jpk jlf
 rw [List.filter_filter,G1K]
 have:(λj=>(decide (w.headD 0<j)&& !decide (j∈w))&&decide (ent T (w.getLastD 0) j>0))=joY (jcu T) w:=by
  funext j
  unfold joY jcu
  rw [Bool.and_comm]
 rw [this];rfl
theorem jhC {T:List (List Int)} {n t:Nat}:((lev (jcu T) n t).flatMap λw=>((jlf T n (w.getLastD 0)).filter λj=>decide (w.headD 0<j)&& !decide (j∈w)).map λj=>jcb (w++ [j]))=(lev (jcu T) n (t+1)).map jcb:=by
 show _=((lev (jcu T) n t).flatMap (jpk (jcu T) n)).map jcb
 rw [List.map_flatMap]
 exact congrArg (λf=>(lev (jcu T) n t).flatMap f) (funext λw=>jjR w)
def jce:RDn:=λds h Q=> ∃T,∃n e:Nat,ds= [jaM T]/\Sq n e T/\1<=n/\n<=6/\ ∀A h',h A=none->h' A=some ((jgl T n).map jcb)->Sub h h' ->Q (.lst A) h'
set_option maxHeartbeats 2000000 in
theorem jfP {n:Nat} {f:Addr} {fd:FuncData} (Z:Zs mg) (F:Fun K "all_rounds" "all_rounds" jbO f fd) (C_want_table:jan P w K mg base n "want_table" ["thing"] jbj) (C_heads:jan P w K mg base n "heads" ["table","place"] jhB):FnOk P w K mg base CX0 (n+1) f fd ["table"] (LSp K jce):=by
 obtain⟨g_G_want_table,gd_G_want_table,G_want_table,bG_want_table,kG_want_table,mG_want_table⟩:=C_want_table
 obtain⟨g_G_heads,gd_G_heads,G_heads,bG_heads,kG_heads,mG_heads⟩:=C_heads
 refine F.okJ sc_all_rounds (λds h Q q=>by obtain⟨T,n,b,e,hT,h1,h6,q⟩:=q;subst e;rfl) _ (λcdv A outer s H E hr=>(jaf (jeC (jaw G_want_table hr rfl mG_want_table kG_want_table bG_want_table (jac (jv 0) jab))) (by exact(jaf (jbV (i:=1) sc_all_rounds.nd rfl (Or.inl rfl) (jb4 jab)) (by exact(jaf (jk9 (i:=3) (k:=2) (js:= [3]) rfl sc_all_rounds.nd rfl (Or.inl rfl) (jaz (by rfl)) (jeD rfl Z.range (jac (jaN jbk rfl Z.len G02 (jac (jv 0) jab)) jab)) (by decide) rfl (by first|exact Or.inl rfl|exact Or.inr rfl) (λX' hX=>jbB) (λX' hX=>by obtain⟨C,s₀,H₀,ex,rfl⟩:=hX;exact(jbr (jac (jv 3) jab)))) (by exact(jaf (jje G1h (jqm (jv 2)) (jaf (jbV (i:=1) sc_all_rounds.nd rfl (Or.inl rfl) (jop jaB (jv 1) (jlc (i:=4) (js:= [4]) rfl (jaz (by rfl)) (jcs (jv 2)) (by decide) sc_all_rounds.nd rfl (by first|exact Or.inl rfl|exact Or.inr rfl) (λX' hX=>by obtain⟨C,s₀,H₀,ex,rfl⟩:=hX;exact jfE (jbq oq_ne (jix (jix (jv 0) (jix (jv 4) (jow jam) (λ_ _=>rfl)) (λ_ _=>rfl)) (jix (jv 4) jam (λ_ _=>rfl)) (λ_ _=>rfl)) jam (jax _))) (λX' hX=>by obtain⟨C,s₀,H₀,ex,rfl⟩:=hX;exact(jv 4))))) (by exact(jai (jmK (i:=4) (i' :=5) (k:=2) (js:= [4,5]) rfl sc_all_rounds.nd rfl (Or.inl rfl) (jaz (by rfl)) (jcs (jv 2)) (by decide) (by decide) (by decide) rfl rfl (by first|exact Or.inl rfl|exact Or.inr rfl) (by first|exact Or.inl rfl|exact Or.inr rfl) (λX' hX=>jbB) (λX' hX=>by obtain⟨C,s₀,H₀,ex,rfl⟩:=hX;exact(jcs (jaw G_heads hr rfl mG_heads kG_heads bG_heads (jac (jv 0) (by exact(jac (jix (jv 4) (jow jam) (λ_ _=>rfl)) jab)))))) (λX' hX=>by obtain⟨C,s₀,H₀,ex,rfl⟩:=hX;exact jfE (jpt (ji1 (jbq jp1 (jv 5) (jix (jv 4) jam (λ_ _=>rfl)) (jax _)) (ji0 (jbq (jkr hr.units) (jv 5) (jv 4) (by with_unfolding_all rfl)))))) (λX' hX=>by obtain⟨C,s₀,H₀,ex,rfl⟩:=hX;exact(jop jaB (jv 4) (jbr (jac (jv 5) jab))))))))) (by exact(jai (jbM (jaN (jh3 hr) rfl Z.sorted (by decide +kernel) (jac (jv 1) jab))))))))))))) ?_
 intro ds h Q q
 obtain⟨T,n,b,e,hT,h1,h6,q⟩:=q
 subst e
 refine jah (λσ' h' =>σ' = [some (jaM T),none,none,none,none,none]/\h=h') (λC hC=>⟨_,rfl,T,n,b,rfl,hT,h1,h6,hC _ _ ⟨rfl,rfl⟩⟩) ?_
 rintro _ _ ⟨rfl,rfl⟩
 refine jah (λσ' h' => ∃A,σ' = [some (jaM T),some (.lst A),none,none,none,none]/\h' A=some []/\Sub h h') (λC hC=>⟨(by show 0<=sizeLine;decide),λA eA=>hC _ _ ⟨A,rfl,jaa,Sub.newAt (Sub.refl h) eA⟩⟩) ?_
 rintro _ h2 ⟨A,rfl,kA,sA⟩
 refine jah (λσ' h' => ∃B c,σ' = [some (jaM T),some (.lst A),some (.lst B),c,none,none]/\h' A=some ((jgk (jcu T) n 0).map jcb)/\h' B=some ((lev (jcu T) n 0).map jcb)/\Sub h h') (λC hC=> ?_) ?_
 ·refine lcA (List.range n) (λj=> .int (j:Int)) (λi=>jcb [i]) (by rw [G1M];omega) rfl (λR r=>⟨_,rfl,(n:Int),by rw [G0c,hT.len],by omega,by omega,r⟩) (λj hj Q' q' =>⟨_,rfl,(by show 1<=sizeLine;decide),q'⟩) (λB eB=>hC _ _ ⟨B,_,rfl,jad kA eB,?_,Sub.newAt sA eB⟩)
  rw [jaa]
  show _=some (((List.range n).map λi=> [i]).map jcb)
  rw [G1K];rfl
 rintro _ h3 ⟨B,c,rfl,kA,kB,sb⟩
 refine jah (λσ' h' => ∃A B c,σ' = [some (jaM T),some (.lst A),some (.lst B),c,none,none]/\h' A=some ((jgk (jcu T) n n).map jcb)/\Sub h h') (λC hC=> ?_) ?_
 ·refine jfG (λm σ' h' => ∃ (t:Nat) (A B:Addr) (c:Option D),σ' = [some (jaM T),some (.lst A),some (.lst B),c,none,none]/\m=n-t/\t<=n/\h' A=some ((jgk (jcu T) n t).map jcb)/\h' B=some ((lev (jcu T) n t).map jcb)/\Sub h h') n ⟨0,A,B,c,rfl,rfl,G1l _,kA,kB,sb⟩ ?_
  clear kA kB sb
  rintro m _ h4 ⟨t,A,B,c,rfl,rfl,tn,kA,kB,sb⟩
  refine⟨_,rfl,!((lev (jcu T) n t).map jcb).isEmpty,⟨_,kB,rfl⟩,?_⟩
  by_cases z:(lev (jcu T) n t)= []
  ·rw [z]
   refine jer (hC _ _ ⟨A,B,c,rfl,?_,sb⟩)
   have:=(jgn (n-t) z).1
   rw [show t+(n-t)=n by omega] at this
   rw [this];exact kA
  ·have tl:t<n:=by
    rcases Nat.lt_or_ge t n with w|w
    ·exact w
    ·have:t=n:=by omega
     subst this
     exact absurd (jmM h6) z
   have ll:=jjH (g:=jcu T) h6 (show t<=6 by omega)
   have rl:=jhw (g:=jcu T) h6 (show t<=6 by omega)
   have l2:=jjH (g:=jcu T) h6 (show t+1<=6 by omega)
   rw [show (!((lev (jcu T) n t).map jcb).isEmpty)=true from by cases e:(lev (jcu T) n t) with|nil=>exact absurd e z|cons _ _=>rfl]
   refine jgH ?_
   refine jah (λσ' h' => ∃A,σ' = [some (jaM T),some (.lst A),some (.lst B),c,none,none]/\h' A=some ((jgk (jcu T) n (t+1)).map jcb)/\h' B=some ((lev (jcu T) n t).map jcb)/\Sub h h') (λC hC=>⟨_,rfl,?_⟩) ?_
   ·refine lcF (j:=λh=>h B) (lev (jcu T) n t) jcb jcb (λw=>jcu T (w.getLastD 0) (w.headD 0)) (by omega) kB (λR r=>⟨_,rfl,r⟩) (λw hw Q' q' => ?_) (λw hw _ Q' q' =>⟨_,rfl,q'⟩) (λF eF=>⟨_,_,jad kA eF,jaa,?_,λp e=>hC _ _ ⟨p,rfl,?_,jad (jad kB eF) e,λa ds x=>jad (jad (sb a ds x) eF) e⟩⟩)
    ·have o:=jgj hw
     have he:=o.lt _ (jjI o.len)
     have hh:=o.lt _ (jkQ o.len)
     refine⟨_,rfl,_,rfl,_,jlk o.len,_,jgR hT he,_,rfl,_,jhx o.len,_,ji6 (hT.row _ (Sq.getRow hT he)) hh,?_⟩
     have nn:=(hT.ent_nn he hh).1
     have:(!decide (ent T (w.getLastD 0) (w.headD 0)=0))=jcu T (w.getLastD 0) (w.headD 0):=by
      unfold jcu
      rw [G1x,G1r,Bool.not_eq_true',G3x];omega
     rw [<-this] at q'
     exact⟨_,rfl,q'⟩
    ·have:=G1V (λw=>jcu T (w.getLastD 0) (w.headD 0)) (lev (jcu T) n t)
     rw [G0c,G0c]
     exact G0W (jaA (by omega))
    ·rw [jaa]
     show _=some (((jgk (jcu T) n t)++(lev (jcu T) n t).filter λw=>jcu T (w.getLastD 0) (w.headD 0)).map jcb)
     rw [G07]
   clear kA kB sb
   rintro _ h5 ⟨A,rfl,kA,kB,sb⟩
   refine jo0 (j:=λh=>h B) (lev (jcu T) n t) jcb (λw=>jlf T n (w.getLastD 0)) (λ(j:Nat)=> .int (j:Int)) (λw j=>decide (w.headD 0<j)&& !decide (j∈w)) (λw j=>jcb (w++ [j])) ?_ (λh' s=>s _ _ kB) (λR r=>⟨_,rfl,r⟩) (λw hw h' s R r=> ?_) (λw hw j hj h' s Q' q' => ?_) (λw hw j hj _ h' s Q' q' => ?_) (λa h' s ea=> ?_)
   ·rw [jhC,G0c]
    exact G0W (jaA (by omega))
   ·have o:=jgj hw
    exact⟨_,rfl,_,rfl,_,jlk o.len,T,n,b,w.getLastD 0,rfl,hT,h6,o.lt _ (jjI o.len),λF eF=>r _ _ (Sub.newAt (Sub.refl _) eF) λh3 s3=>s3 _ _ jaa⟩
   ·have o:=jgj hw
    refine⟨_,rfl,_,rfl,_,jhx o.len,?_⟩
    show ∃k,D.bl (decide (((w.headD 0:Nat):Int)<(j:Int)))=D.bl k/\_
    rw [show decide (((w.headD 0:Nat):Int)<(j:Int))=decide (w.headD 0<j) from by rw [G1x,G1r,G1r];omega]
    refine⟨_,rfl,?_⟩
    by_cases c:w.headD 0<j
    ·rw [G0P c] at q' ⊢
     exact jgH ⟨_,rfl,_,rfl,jmH ⟨_,rfl,q'⟩⟩
    ·rw [G0R c] at q' ⊢
     exact jer q'
   ·have o:=jgj hw
    have e:jcb (w++ [j])= .tup ((w.map λ(k:Nat)=>D.int (k:Int))++ [.int (j:Int)]):=by unfold jcb;rw [List.map_append];rfl
    rw [e] at q'
    refine⟨_,rfl,_,rfl,(by show 1<=sizeLine;decide),?_,q'⟩
    rw [G0c,o.len]
    exact G0W (jaA (by simp only [G0h,G0m];omega))
   ·rw [jhC]
    exact⟨n-(t+1),_,by omega,Sub.refl _,t+1,A,a,_,rfl,rfl,by omega,jad (s _ _ kA) ea,jaa,λx ds e=>jad (s _ _ (sb _ _ e)) ea⟩
 clear kA kB sb
 rintro _ h4 ⟨A,B,c,rfl,kA,sb⟩
 refine⟨_,rfl,A,(jgk (jcu T) n n).map toI,rfl,?_,?_,λp mss hp pm sr=>⟨_,Sub.refl _,q p _ (jfL sb hp) (by rw [jaa,jjF pm sr];rfl) (Sub.newAt sb hp)⟩⟩
 ·rw [kA,G1K]
  exact congrArg some (G1P λS _=>(jlh S).symm)
 ·rw [G0c]
  have:=jhw (g:=jcu T) h6 h6
  exact jaA (by omega)
def jbY:RDx:=λds h R=> ∃d,ds= [d]/\okD d=true/\jeT d=false/\R "NoTable" h
set_option maxHeartbeats 2000000 in
theorem je9 {n:Nat} {f:Addr} {fd:FuncData} (Z:Zs mg) (Ex:Exc K mg) (F:Fun K "all_rounds" "all_rounds" jbO f fd) (CR_want_table:jbh P w K mg base n "want_table" ["thing"] ja6):FnOk P w K mg base (CXR P w) (n+1) f fd ["table"] (jhV mg K jbY):=by
 obtain⟨g_GR_want_table,gd_GR_want_table,GR_want_table,bGR_want_table,kGR_want_table,mGR_want_table⟩:=CR_want_table
 refine F.okX sc_all_rounds (λds h R q=>by obtain⟨d,e,ok,bad,q⟩:=q;subst e;rfl) _ (λcdv A outer s H E hr=>(jfH (jbm GR_want_table hr rfl mGR_want_table kGR_want_table bGR_want_table (jac (jv 0) jab)))) ?_
 intro ds h R q
 obtain⟨d,e,ok,bad,q⟩:=q
 subst e
 exact⟨_,rfl,d,rfl,ok,bad,q⟩
/-- the greatest number that goes into the lengths of all jgl -/
def jia (T:List (List Int)) (n:Nat):Nat:=((jgl T n).map List.length).foldl Nat.gcd 0
def jfQ:RDn:=λds h Q=> ∃T,∃n e:Nat,ds= [jaM T]/\Sq n e T/\1<=n/\n<=6/\(jfX T n).length=1/\Q (.int ((jia T n:Nat):Int)) h
set_option maxHeartbeats 2000000 in
theorem jmW {n:Nat} {f:Addr} {fd:FuncData} (Z:Zs mg) (F:Fun K "beat" "beat" jhz f fd) (C_joined:jan P w K mg base n "joined" ["table"] jeW) (C_all_rounds:jan P w K mg base n "all_rounds" ["table"] jce) (C_greatest_into:jan P w K mg base n "greatest_into" ["one","other"] jcj):FnOk P w K mg base CX0 (n+1) f fd ["table"] (LSp K jfQ):=by
 obtain⟨g_G_joined,gd_G_joined,G_joined,bG_joined,kG_joined,mG_joined⟩:=C_joined
 obtain⟨g_G_all_rounds,gd_G_all_rounds,G_all_rounds,bG_all_rounds,kG_all_rounds,mG_all_rounds⟩:=C_all_rounds
 obtain⟨g_G_greatest_into,gd_G_greatest_into,G_greatest_into,bG_greatest_into,kG_greatest_into,mG_greatest_into⟩:=C_greatest_into
 refine F.okJ sc_beat (λds h Q q=>by obtain⟨T,n,b,e,hT,h1,h6,one,q⟩:=q;subst e;rfl) _ (λcdv A outer s H E hr=>(jaf (jee (jcO (jcn (jaw G_joined hr rfl mG_joined kG_joined bG_joined (jac (jv 0) jab)))) (jai jfk) jaU) (by exact(jaf (jbV (i:=1) sc_beat.nd rfl (Or.inl rfl) jam) (by exact(jaf (jjW G1h rfl (jcs (jaw G_all_rounds hr rfl mG_all_rounds kG_all_rounds bG_all_rounds (jac (jv 0) jab))) (jbW (i:=2) sc_beat.nd rfl (Or.inl rfl)) (jai (jbV (i:=1) sc_beat.nd rfl (Or.inl rfl) (jaw G_greatest_into hr rfl mG_greatest_into kG_greatest_into bG_greatest_into (jac (jv 1) (by exact(jac (jaN jbk rfl Z.len G02 (jac (jv 2) jab)) jab))))))) (by exact(jai (jbM (jv 1)))))))))) ?_
 intro ds h Q q
 obtain⟨T,n,b,e,hT,h1,h6,one,q⟩:=q
 subst e
 refine jah (λσ' h' =>σ' = [some (jaM T),none,none]/\h=h') (λC hC=>⟨_,rfl,T,n,b,rfl,hT,h1,h6,_,rfl,?_⟩) ?_
 ·rw [G0P one]
  exact jer (hC _ _ ⟨rfl,rfl⟩)
 rintro _ _ ⟨rfl,rfl⟩
 refine jah (λσ' h' =>σ' = [some (jaM T),some (.int 0),none]/\h=h') (λC hC=>hC _ _ ⟨rfl,rfl⟩) ?_
 rintro _ _ ⟨rfl,rfl⟩
 refine jah (λσ' h' => ∃v,σ' = [some (jaM T),some (.int ((jia T n:Nat):Int)),v]/\Sub h h') (λC hC=>⟨_,rfl,T,n,b,rfl,hT,h1,h6,λA h2 nA kA sb=> ?_⟩) (λ_ h' ⟨v,e,sb⟩=>by subst e;exact⟨_,rfl,_,sb,q⟩)
 refine jeB (j:=λh=>h A) ((jgl T n).map jcb) (λi σ' h' => ∃v,σ' = [some (jaM T),some (.int (((((jgl T n).take i).map List.length).foldl Nat.gcd 0:Nat):Int)),v]/\h2=h') (λi σ' h' ⟨_,_,z⟩=>by rw [<-z];exact kA) ⟨_,rfl,rfl⟩ (λσ' h' ⟨v,e,z⟩=>hC _ _ ⟨v,by rw [e,G0c,G2T];rfl,by rw [<-z];exact sb⟩) ?_
 rintro i d _ _ hi ⟨v,rfl,rfl⟩
 rw [G0H] at hi
 obtain⟨W,hW,rfl⟩:=G2b.mp hi
 have hil:=(G0o.mp hW).1
 refine⟨_,rfl,_,rfl,_,_,rfl,_,Sub.refl _,by rw [G0c];omega,some (jcb W),?_,rfl⟩
 rw [G1d,hW,G07,List.foldl_append,G0c]
 rfl
def jfR:RDx:=λds h R=> ∃d,ds= [d]/\((okD d=true/\jeT d=false/\R "NoTable" h)\/ ∃T,∃n e:Nat,d=jaM T/\Sq n e T/\1<=n/\n<=6/\(jfX T n).length≠1/\R "Apart" h)
set_option maxHeartbeats 2000000 in
theorem jkT {n:Nat} {f:Addr} {fd:FuncData} (Z:Zs mg) (Ex:Exc K mg) (F:Fun K "beat" "beat" jhz f fd) (C_joined:jan P w K mg base n "joined" ["table"] jeW) (CR_joined:jbh P w K mg base n "joined" ["table"] jfq) (CR_all_rounds:jbh P w K mg base n "all_rounds" ["table"] jbY):FnOk P w K mg base (CXR P w) (n+1) f fd ["table"] (jhV mg K jfR):=by
 obtain⟨g_G_joined,gd_G_joined,G_joined,bG_joined,kG_joined,mG_joined⟩:=C_joined
 obtain⟨g_GR_joined,gd_GR_joined,GR_joined,bGR_joined,kGR_joined,mGR_joined⟩:=CR_joined
 obtain⟨g_GR_all_rounds,gd_GR_all_rounds,GR_all_rounds,bGR_all_rounds,kGR_all_rounds,mGR_all_rounds⟩:=CR_all_rounds
 refine F.okX sc_beat (λds h R q=>by obtain⟨d,e,q⟩:=q;subst e;rfl) _ (λcdv A outer s H E hr=>(jmy (jmy (jo4 (jbm GR_joined hr rfl mGR_joined kGR_joined bGR_joined (jac (jv 0) jab))) (jmr (jcO (jcn (jaw G_joined hr rfl mG_joined kG_joined bG_joined (jac (jv 0) jab)))) (jfI rfl (Ex.own "Apart" (by decide)) rfl))) (jgT (JS.nox (jee (jcO (jcn (jaw G_joined hr rfl mG_joined kG_joined bG_joined (jac (jv 0) jab)))) (jai jfk) jaU)) (jgT (JS.nox (jbV (i:=1) sc_beat.nd rfl (Or.inl rfl) jam)) (joJ (jbm GR_all_rounds hr rfl mGR_all_rounds kGR_all_rounds bGR_all_rounds (jac (jv 0) jab))))))) ?_
 intro ds h R q
 obtain⟨d,e,q⟩:=q
 subst e
 rcases q with ⟨ok,bad,q⟩|⟨T,n,b,rfl,hT,h1,h6,no,q⟩
 ·exact .inl (.inl ⟨_,rfl,d,rfl,ok,bad,q⟩)
 ·refine .inl (.inr ⟨_,rfl,T,n,b,rfl,hT,h1,h6,_,rfl,?_⟩)
  rw [G0R no]
  exact⟨rfl,q⟩
theorem jmX {b:D->SD->SD->Prop} {js:List Nat} {ti:TID} {tt:TTD} {te:TED} {E:EndsD} {σ:SD} {h:HD} (x:jex b js ti tt te σ h λv h1=>E.rt v h1):jcq (jex b js ti tt te) E σ h:=x
def jbK:RDn:=λds h Q=> ∃T,∃e:Nat,ds= [jaM T]/\Sq 1 e T/\ ∀A h',h A=none->h' A=some [.int 0]->Sub h h' ->Q (.lst A) h'
set_option maxHeartbeats 2000000 in
theorem jdg {n:Nat} {f:Addr} {fd:FuncData} (Z:Zs mg) (F:Fun K "steps_from_start" "steps_from_start" jbi f fd):FnOk P w K mg base CX0 (n+1) f fd ["table"] (LSp K jbK):=by
 refine F.okJ sc_steps_from_start (λds h Q q=>by obtain⟨T,b,e,hT,q⟩:=q;subst e;rfl) _ (λcdv A outer s H E hr=>(jaf (jbV (i:=1) sc_steps_from_start.nd rfl (by first|exact Or.inr rfl|exact Or.inl rfl) jpa) (by exact(jaf (jbV (i:=2) sc_steps_from_start.nd rfl (Or.inl rfl) (jbr (jac jam jab))) (by exact(jaf (jbV (i:=3) sc_steps_from_start.nd rfl (Or.inl rfl) jam) (by exact(jaf (jje G1h (jbq jkg (jaN jmR rfl Z.len G02 (jac (jv 1) jab)) (jaN jbk rfl Z.len G02 (jac (jv 0) jab)) (jax _)) jfJ) (by exact(jai (jbM (jlc (i:=4) (js:= [4]) rfl (jaz (by rfl)) (jeD rfl Z.range (jac (jaN jbk rfl Z.len G02 (jac (jv 0) jab)) jab)) (by decide) sc_steps_from_start.nd rfl (by first|exact Or.inl rfl|exact Or.inr rfl) (λX' hX=>jbB) (λX' hX=>by obtain⟨C,s₀,H₀,ex,rfl⟩:=hX;exact(jrE hr (jv 1) (jv 4))))))))))))))) ?_
 intro ds h Q q
 obtain⟨T,b,e,hT,q⟩:=q
 subst e
 refine jah (λσ' h' =>σ' = [some (jaM T),some (.dni 0 0),none,none,none]/\h=h') (λC hC=>hC _ _ ⟨rfl,rfl⟩) ?_
 rintro _ _ ⟨rfl,rfl⟩
 refine jah (λσ' h' =>σ' = [some (jaM T),some (.dni 0 0),some (.tup [.int 0]),none,none]/\h=h') (λC hC=>⟨(by show 1<=sizeLine;decide),hC _ _ ⟨rfl,rfl⟩⟩) ?_
 rintro _ _ ⟨rfl,rfl⟩
 refine jah (λσ' h' =>σ' = [some (jaM T),some (.dni 0 0),some (.tup [.int 0]),some (.int 0),none]/\h=h') (λC hC=>hC _ _ ⟨rfl,rfl⟩) ?_
 rintro _ _ ⟨rfl,rfl⟩
 refine jah (λσ' h' =>σ' = [some (jaM T),some (.dni 0 0),some (.tup [.int 0]),some (.int 0),none]/\h=h') (λC hC=> ?_) ?_
 ·refine jfG (λm σ' h' =>σ' = [some (jaM T),some (.dni 0 0),some (.tup [.int 0]),some (.int 0),none]/\h=h') 0 ⟨rfl,rfl⟩ ?_
  rintro m _ _ ⟨rfl,rfl⟩
  refine⟨_,rfl,0,0,rfl,_,rfl,?_⟩
  show ∃k,D.bl (decide ((1:Int)<(((T.map jdt).length:Nat):Int)))= .bl k/\_
  rw [G0c,hT.len]
  exact⟨_,rfl,jer (hC _ _ ⟨rfl,rfl⟩)⟩
 rintro _ _ ⟨rfl,rfl⟩
 refine jmX (jk5 1 (λi ys h' =>h' =h/\ys=(List.range i).map λ_=>D.int 0) (by decide) (λR r=>⟨_,rfl,by show R [.int (((T.map jdt).length:Nat):Int)] _;rw [G0c,hT.len];exact r⟩) ⟨rfl,rfl⟩ (λi ys h' w=>by rw [w.2,G0c,G1M]) (λi ys h' hi w=> ?_) (λys h' w p hp=> ?_))
 ·obtain⟨rfl,rfl⟩:=w
  obtain rfl:i=0:=by omega
  exact⟨_,rfl,_,rfl,0,0,rfl,rfl,_,Sub.refl _,by omega,rfl,rfl⟩
 ·obtain⟨rfl,rfl⟩:=w
  exact⟨_,Sub.refl _,q p _ hp jaa (Sub.newAt (Sub.refl _) hp)⟩
def jdD:RDn:=λds h Q=> ∃T,∃n e:Nat,ds= [jaM T,.non]/\Sq n e T/\1<=n/\n<=6/\Q (.bl false) h
set_option maxHeartbeats 2000000 in
theorem jfS {n:Nat} {f:Addr} {fd:FuncData} (Z:Zs mg) (F:Fun K "turns_hold" "turns_hold" jbP f fd) (C_want_table:jan P w K mg base n "want_table" ["thing"] jbj):FnOk P w K mg base CX0 (n+1) f fd ["table","thing"] (LSp K jdD):=by
 obtain⟨g_G_want_table,gd_G_want_table,G_want_table,bG_want_table,kG_want_table,mG_want_table⟩:=C_want_table
 refine F.okJ jdA (λds h Q q=>by obtain⟨T,n,b,e,hT,h1,h6,q⟩:=q;subst e;rfl) _ (λcdv A outer s H E hr=>(jaf (jeC (jaw G_want_table hr rfl mG_want_table kG_want_table bG_want_table (jac (jv 0) jab))) (by exact(jaf (jee (jpt (jk8 (jcO (jcn (je5 (T:= "tuple") (by decide) rfl Z.isinstance rfl Z.tuple (by decide +kernel) (jv 1)))) (jk7 (jbq oq_ne (jaN jbk rfl Z.len G02 (jac (jv 1) jab)) jam (jax _))))) (jai (jbM jbl)) jaU) (by exact jfJ))))) ?_
 intro ds h Q q
 obtain⟨T,n,b,e,hT,h1,h6,q⟩:=q
 subst e
 refine jah (λσ' h' =>σ' = [some (jaM T),some .non]/\h=h') (λC hC=>⟨_,rfl,T,n,b,rfl,hT,h1,h6,hC _ _ ⟨rfl,rfl⟩⟩) ?_
 rintro _ _ ⟨rfl,rfl⟩
 refine jah (λσ' h' =>False) (λC hC=>⟨_,rfl,"NoneType",rfl,_,rfl,jgH (jgH ⟨h,Sub.refl h,q⟩)⟩) (λ_ _ z=>z.elim)
def jc0:RDx:=λds h R=> ∃d x,ds= [d,x]/\okD d=true/\jeT d=false/\R "NoTable" h
set_option maxHeartbeats 2000000 in
theorem jfa {n:Nat} {f:Addr} {fd:FuncData} (Z:Zs mg) (Ex:Exc K mg) (F:Fun K "turns_hold" "turns_hold" jbP f fd) (CR_want_table:jbh P w K mg base n "want_table" ["thing"] ja6):FnOk P w K mg base (CXR P w) (n+1) f fd ["table","thing"] (jhV mg K jc0):=by
 obtain⟨g_GR_want_table,gd_GR_want_table,GR_want_table,bGR_want_table,kGR_want_table,mGR_want_table⟩:=CR_want_table
 refine F.okX jdA (λds h R q=>by obtain⟨d,x,e,ok,bad,q⟩:=q;subst e;rfl) _ (λcdv A outer s H E hr=>(jfH (jbm GR_want_table hr rfl mGR_want_table kGR_want_table bGR_want_table (jac (jv 0) jab)))) ?_
 intro ds h R q
 obtain⟨d,x,e,ok,bad,q⟩:=q
 subst e
 exact⟨_,rfl,d,rfl,ok,bad,q⟩
def jeY:RDn:=λds h Q=>ds= [jaM [[1]]]/\ ∀h',Sub h h' ->Q (.tup [.int 1,.tup [.int 0]]) h'
set_option maxHeartbeats 2000000 in
theorem jg5 {n:Nat} {f:Addr} {fd:FuncData} (Z:Zs mg) (F:Fun K "turns_of" "turns_of" jcG f fd) (C_beat:jan P w K mg base n "beat" ["table"] jfQ) (C_steps_from_start:jan P w K mg base n "steps_from_start" ["table"] jbK):FnOk P w K mg base CX0 (n+1) f fd ["table"] (LSp K jeY):=by
 obtain⟨g_G_beat,gd_G_beat,G_beat,bG_beat,kG_beat,mG_beat⟩:=C_beat
 obtain⟨g_G_steps_from_start,gd_G_steps_from_start,G_steps_from_start,bG_steps_from_start,kG_steps_from_start,mG_steps_from_start⟩:=C_steps_from_start
 refine F.okJ sc_turns_of (λds h Q q=>by obtain⟨e,q⟩:=q;subst e;rfl) _ (λcdv A outer s H E hr=>(jaf (jbV (i:=1) sc_turns_of.nd rfl (by first|exact Or.inr rfl|exact Or.inl rfl) (jaw G_beat hr rfl mG_beat kG_beat bG_beat (jac (jv 0) jab))) (by exact(jaf (jee (jbq oq_eq (jv 1) jam (jax _)) (jai jfk) jaU) (by exact(jai (jbM (jbr (jac (jv 1) (by exact(jac (jb9 jey rfl Z.tuple (by decide +kernel) (jac (jlc (i:=2) (js:= [2]) rfl (jaz (by rfl)) (jcs (jaw G_steps_from_start hr rfl mG_steps_from_start kG_steps_from_start bG_steps_from_start (jac (jv 0) jab))) (by decide) sc_turns_of.nd rfl (by first|exact Or.inl rfl|exact Or.inr rfl) (λX' hX=>jbB) (λX' hX=>by obtain⟨C,s₀,H₀,ex,rfl⟩:=hX;exact(jop jdr (jv 2) (jv 1)))) jab)) jab))))))))))) ?_
 intro ds h Q q
 obtain⟨e,q⟩:=q
 subst e
 have hA:Sq 1 3 [[(1:Int)]]:=⟨by decide,by decide,by decide,by decide⟩
 refine jah (λσ' h' =>σ' = [some (jaM [[1]]),some (.int 1),none]/\h=h') (λC hC=>⟨_,rfl,[[1]],1,3,rfl,hA,by decide,by decide,by decide +kernel,hC _ _ ⟨by rw [show jia [[1]] 1=1 by decide +kernel];rfl,rfl⟩⟩) ?_
 rintro _ _ ⟨rfl,rfl⟩
 refine jah (λσ' h' =>σ' = [some (jaM [[1]]),some (.int 1),none]/\h=h') (λC hC=>⟨_,rfl,_,rfl,jer (hC _ _ ⟨rfl,rfl⟩)⟩) ?_
 rintro _ _ ⟨rfl,rfl⟩
 exact⟨_,rfl,ji5 ⟨_,rfl,[[1]],3,rfl,hA,λA h2 nA kA sb=>jqO (j:=λh=>h A) [(0:Int)] D.int (λx=> .int (x%1)) (by decide) kA (λR r=>r) (λx hx Q' q' =>⟨_,rfl,_,rfl,by decide,q'⟩) ⟨(by show 2<=sizeLine;decide),_,Sub.refl _,q _ sb⟩⟩⟩
def jd2:RDx:=λds h R=> ∃d,ds= [d]/\((okD d=true/\jeT d=false/\R "NoTable" h)\/ ∃T,∃n e:Nat,d=jaM T/\Sq n e T/\1<=n/\n<=6/\(((jfX T n).length≠1/\R "Apart" h)\/((jfX T n).length=1/\jia T n=0/\R "Apart" h)))
set_option maxHeartbeats 2000000 in
theorem jgx {n:Nat} {f:Addr} {fd:FuncData} (Z:Zs mg) (Ex:Exc K mg) (F:Fun K "turns_of" "turns_of" jcG f fd) (C_beat:jan P w K mg base n "beat" ["table"] jfQ) (CR_beat:jbh P w K mg base n "beat" ["table"] jfR):FnOk P w K mg base (CXR P w) (n+1) f fd ["table"] (jhV mg K jd2):=by
 obtain⟨g_G_beat,gd_G_beat,G_beat,bG_beat,kG_beat,mG_beat⟩:=C_beat
 obtain⟨g_GR_beat,gd_GR_beat,GR_beat,bGR_beat,kGR_beat,mGR_beat⟩:=CR_beat
 refine F.okX sc_turns_of (λds h R q=>by obtain⟨d,e,q⟩:=q;subst e;rfl) _ (λcdv A outer s H E hr=>(jmy (joB (jbm GR_beat hr rfl mGR_beat kGR_beat bGR_beat (jac (jv 0) jab))) (jgT (JS.nox (jbV (i:=1) sc_turns_of.nd rfl (by first|exact Or.inr rfl|exact Or.inl rfl) (jaw G_beat hr rfl mG_beat kG_beat bG_beat (jac (jv 0) jab)))) (jmr (jbq oq_eq (jv 1) jam (jax _)) (jfI rfl (Ex.own "Apart" (by decide)) rfl))))) ?_
 intro ds h R q
 obtain⟨d,e,q⟩:=q
 subst e
 rcases q with ⟨ok,bad,q⟩|⟨T,n,b,rfl,hT,h1,h6,⟨no,q⟩|⟨one,b0,q⟩⟩
 ·exact .inl ⟨_,rfl,d,rfl,.inl ⟨ok,bad,q⟩⟩
 ·exact .inl ⟨_,rfl,_,rfl,.inr ⟨T,n,b,rfl,hT,h1,h6,no,q⟩⟩
 ·refine .inr ⟨_,rfl,T,n,b,rfl,hT,h1,h6,one,_,rfl,?_⟩
  show ∃k,D.bl (decide (((jia T n:Nat):Int)=0))= .bl k/\_
  rw [b0]
  exact⟨_,rfl,rfl,q⟩
def jd3:RDn:=λds h Q=> ∃ns k,ds= [.scr ns,.int k]/\0<=k/\ ∀n,Q (.int n) h
set_option maxHeartbeats 2000000 in
theorem jgy {n:Nat} {f:Addr} {fd:FuncData} (Z:Zs mg) (F:Fun K "_law_cell" "_law_cell" jdb f fd):FnOk P w K mg base CX0 (n+1) f fd ["_law_script","_law_k"] (LSp K jd3):=by
 refine F.okJ jgr (λds h Q q=>by obtain⟨ns,k,e,h0,q⟩:=q;subst e;rfl) _ (λcdv A outer s H E hr=>(jaf (jee (jbq jkg (jv 1) (jaN jbk rfl Z.len G02 (jac (jv 0) jab)) (jax _)) (jai (jbM (jix (jv 0) (jv 1) (λ_ _=>rfl)))) jaU) (by exact(jai (jbM jam))))) ?_
 intro ds h Q q
 obtain⟨ns,k,e,h0,q⟩:=q
 subst e
 simp only [jcg,Nxt,jcK,jcI,jaW,jaX,jaR,dOp,jay,dIs,jcB,dCB,jaK,jb8,jcq,jbd,dC,ja0,jaD,jcm,jcL,jcM,ja1,jcC,jcH,jaY,jcJ,jaZ,dIf,dUn,jcW,dSl,jaq,ja4,jcU,jaC,gN,gT2,ja3,jc3,jc4,jcV,jcQ,jdk,jc5,ja9,jc6,jcr,eqD,neD,eqE,neE,isV,isN,jdh,jat,jdi,jdj,jbe,ixD,jcR,jcS,jcT,jas,jaE,jav,ja2,jcN,slD,jch,jap,G0w,G0M,G0h,G0m,List.replicate,G0z,G0v,G0x,G0y,G0d,G0e,G0n,G0F,D.bl.injEq,D.lst.injEq]
 refine jg9 (λc=> ?_) (λ_=>⟨h,Sub.refl h,q 0⟩)
 have c' :k<(ns.length:Int):=G1v c
 have hk:k.toNat<ns.length:=by omega
 have ek:k=((k.toNat:Nat):Int):=by omega
 have z:=jb6 (G0b hk)
 rw [<-ek] at z
 exact⟨ns[k.toNat],z,h,Sub.refl h,q _⟩
def jeZ:RDn:=λds h Q=> ∃c,ds= [.int c]/\ ∀p l fl,h p=none->0<=l->(fl=0\/fl=1)->Q (.lst p) (jbp h p [.int l,.int fl])
set_option maxHeartbeats 2000000 in
theorem jg6 {n:Nat} {f:Addr} {fd:FuncData} (Z:Zs mg) (F:Fun K "_law_pen" "_law_pen" jdU f fd):FnOk P w K mg base CX0 (n+1) f fd ["_law_cell_here"] (LSp K jeZ):=by
 refine F.okJ sc__law_pen (λds h Q q=>by obtain⟨c,e,q⟩:=q;subst e;rfl) _ (λcdv A outer s H E hr=>(jaf (jbV (i:=1) sc__law_pen.nd rfl (Or.inl rfl) (jaN (jog rfl) rfl Z.max (by decide +kernel) (jac (jv 0) (by exact(jac (jop jiQ jam (jv 0)) jab))))) (by exact(jai (jbM (jb4 (jac (jv 1) (by exact(jac (jb9 jk3 rfl Z.int (by decide +kernel) (jac (jid jkh (jv 1) (jop jhf jam jam) (jax _)) jab)) jab))))))))) ?_
 intro ds h Q q
 obtain⟨c,e,q⟩:=q
 subst e
 simp only [jcg,Nxt,jcK,jcI,jaW,jaX,jaR,dOp,jay,dIs,jcB,dCB,jaK,jb8,jcq,jbd,dC,ja0,jaD,jcm,jcL,jcM,ja1,jcC,jcH,jaY,jcJ,jaZ,dIf,dUn,jcW,dSl,jaq,ja4,jcU,jaC,gN,gT2,ja3,jc3,jc4,jcV,jcQ,jdk,jc5,ja9,jc6,jcr,eqD,neD,eqE,neE,isV,isN,jdh,jat,jdi,jdj,jbe,ixD,jcR,jcS,jcT,jas,jaE,jav,ja2,jcN,slD,jch,jap,G0w,G0M,G0h,G0m,List.replicate,G0z,G0v,G0x,G0y,G0d,G0e,G0n,G0F,D.bl.injEq,D.lst.injEq]
 refine⟨⟨by decide,by decide,by decide⟩,by decide,λp hp=>⟨_,Sub.refl _,q p _ _ hp ?_ ?_⟩⟩
 ·split<;>omega
 ·split<;>simp<;>omega
def jbc:RDn:=λds h Q=> ∃p l fl m,ds= [.lst p,.int m]/\h p=some [.int l,.int fl]/\0<=l/\0<m/\m<2^200/\ ∀r l',0<=r->r<m->0<=l' ->Q (.int r) (jbp h p [.int l',.int fl])
set_option maxHeartbeats 2000000 in
theorem jgz {n:Nat} {f:Addr} {fd:FuncData} (Z:Zs mg) (F:Fun K "_law_draw" "_law_draw" jdc f fd):FnOk P w K mg base CX0 (n+1) f fd ["_law_pen_here","_law_many"] (LSp K jbc):=by
 refine F.okJ sc__law_draw (λds h Q q=>by obtain⟨p,l,fl,m,e,hp,h0,hm,hm2,q⟩:=q;subst e;rfl) _ (λcdv A outer s H E hr=>(jaf (jee (jbq oq_eq (jix (jv 0) jam (λ_ _=>rfl)) jam (jax _)) (jaf (jpi (jaN jhS rfl Z.divmod (by decide +kernel) (jac (jix (jv 0) jam (λ_ _=>rfl)) (by exact(jac (jv 1) jab)))) (jov (i:=2) (j:=3) rfl sc__law_draw.nd rfl rfl (Or.inl rfl) (Or.inl rfl))) (by exact(jaf (jpi (jv 2) (ji3 (jv 0) jam)) (by exact(jai (jbM (jv 3))))))) jaU) (by exact(jaf (jbV (i:=4) sc__law_draw.nd rfl (Or.inl rfl) (jop jdr (jop jbs (jop jaB (jop jdr (jix (jv 0) jam (λ_ _=>rfl)) jam) jam) jam) jam)) (by exact(jaf (jbV (i:=4) sc__law_draw.nd rfl (Or.inl rfl) (jop jdr (jop jaB (jop jbs (jv 4) (jv 4)) jam) jam)) (by exact(jaf (jpi (jop jdr (jop jaB (jop jbs (jv 4) jam) jam) jam) (ji3 (jv 0) jam)) (by exact(jai (jbM (jop jdr (jop jl4 (jix (jv 0) jam (λ_ _=>rfl)) jam) (jv 1))))))))))))) ?_
 intro ds h Q q
 obtain⟨p,l,fl,m,e,hp,h0,hm,hm2,q⟩:=q
 subst e
 simp only [jcg,Nxt,jcK,jcI,jaW,jaX,jaR,dOp,jay,dIs,jcB,dCB,jaK,jb8,jcq,jbd,dC,ja0,jaD,jcm,jcL,jcM,ja1,jcC,jcH,jaY,jcJ,jaZ,dIf,dUn,jcW,dSl,jaq,ja4,jcU,jaC,gN,gT2,ja3,jc3,jc4,jcV,jcQ,jdk,jc5,ja9,jc6,jcr,eqD,neD,eqE,neE,isV,isN,jdh,jat,jdi,jdj,jbe,ixD,jcR,jcS,jcT,jas,jaE,jav,ja2,jcN,slD,jch,jap,G0w,G0M,G0h,G0m,List.replicate,G0z,G0v,G0x,G0y,G0d,G0e,G0n,G0F,D.bl.injEq,D.lst.injEq,hp]
 refine⟨_,_,rfl,rfl,?_⟩
 show if decide (fl=1)=true then _ else _
 refine jg9 (λ_=> ?_) (λ_=> ?_)
 ·exact⟨_,_,rfl,rfl,_,_,rfl,⟨hm,hm2⟩,_,_,rfl,p,0,_,0,rfl,rfl,hp,rfl,_,Sub.refl _,q (l%m) (l / m) (G2D _ (by omega)) (G2f _ hm) (Int.ediv_nonneg h0 (by omega))⟩
 ·have b1:0<=l%2147483647/\l%2147483647<2147483647:=⟨G2D _ (by decide),G2f _ (by decide)⟩
  refine⟨_,_,rfl,rfl,by decide,.inr ⟨by decide,by decide⟩,by decide,?_⟩
  have b2: ∀z:Int,0<=z%2147483629/\z%2147483629<2147483629:=λz=>⟨G2D _ (by decide),G2f _ (by decide)⟩
  have b3: ∀z:Int,0<=z%2147483587/\z%2147483587<2147483587:=λz=>⟨G2D _ (by decide),G2f _ (by decide)⟩
  generalize (l%2147483647+40503)*69621=z1
  have c1:CMul (z1%2147483629) (z1%2147483629):=by
   have z:=b2 z1
   exact .inl ⟨by omega,by omega⟩
  generalize (z1%2147483629*(z1%2147483629)+7817)=z2
  generalize ((z2%2147483587)*48271+11)=z3
  have z:=b2 z3
  refine⟨c1,by decide,.inr ⟨by decide,by decide⟩,by decide,p,0,_,0,rfl,rfl,hp,rfl,_,_,jaa,rfl,⟨by decide,by decide⟩,hm,_,Sub.refl _,?_⟩
  exact q (z3%2147483629 / 32%m) (z3%2147483629) (G2D _ (by omega)) (G2f _ hm) z.1
set_option maxHeartbeats 2000000 in
theorem jfT {n:Nat} {f:Addr} {fd:FuncData} (Z:Zs mg) (F:Fun K "_law_whole" "_law_whole" jcw f fd):FnOk P w K mg base CX0 (n+1) f fd ["_law_thing"] (LSp K jbJ):=by
 refine F.okJ jfM (λds h Q q=>by obtain⟨d,nm,e,hn,q⟩:=q;subst e;rfl) _ (λcdv A outer s H E hr=>(jai (jbM (jkn (je5 (T:= "int") (by decide) rfl Z.isinstance rfl Z.int (by decide +kernel) (jv 0)) (jie (jqL (je5 (T:= "bool") (by decide) rfl Z.isinstance rfl Z.bool (by decide +kernel) (jv 0)))))))) ?_
 intro ds h Q q
 obtain⟨d,nm,e,hn,q⟩:=q
 subst e
 simp only [jcg,Nxt,jcK,jcI,jaW,jaX,jaR,dOp,jay,dIs,jcB,dCB,jaK,jb8,jcq,jbd,dC,ja0,jaD,jcm,jcL,jcM,ja1,jcC,jcH,jaY,jcJ,jaZ,dIf,dUn,jcW,dSl,jaq,ja4,jcU,jaC,gN,gT2,ja3,jc3,jc4,jcV,jcQ,jdk,jc5,ja9,jc6,jcr,eqD,neD,eqE,neE,isV,isN,jdh,jat,jdi,jdj,jbe,ixD,jcR,jcS,jcT,jas,jaE,jav,ja2,jcN,slD,jch,jap,G0w,G0M,G0h,G0m,List.replicate,G0z,G0v,G0x,G0y,G0d,G0e,G0n,G0F,D.bl.injEq,D.lst.injEq,hn]
 cases d<;>cases hn<;>exact⟨h,Sub.refl h,q⟩
set_option maxHeartbeats 8000000 in
theorem jfU {n:Nat} {f:Addr} {fd:FuncData} (Z:Zs mg) (Ex:Exc K mg) (F:Fun K "_law_kind" "_law_kind" jdd f fd):FnOkU P w K mg base CX0 (n+1) f fd ["_law_e"] (LSp K (jjp mg)):=by
 obtain⟨D_NoOrder,m_NoOrder⟩:=Ex.cls "NoOrder" (by decide)
 obtain⟨D_NoNumber,m_NoNumber⟩:=Ex.cls "NoNumber" (by decide)
 obtain⟨D_NoPlace,m_NoPlace⟩:=Ex.cls "NoPlace" (by decide)
 obtain⟨D_NoTable,m_NoTable⟩:=Ex.cls "NoTable" (by decide)
 obtain⟨D_NoLengths,m_NoLengths⟩:=Ex.cls "NoLengths" (by decide)
 obtain⟨D_NoWalk,m_NoWalk⟩:=Ex.cls "NoWalk" (by decide)
 obtain⟨D_NoSet,m_NoSet⟩:=Ex.cls "NoSet" (by decide)
 obtain⟨D_NoRow,m_NoRow⟩:=Ex.cls "NoRow" (by decide)
 obtain⟨D_Apart,m_Apart⟩:=Ex.cls "Apart" (by decide)
 obtain⟨D_NoWay,m_NoWay⟩:=Ex.cls "NoWay" (by decide)
 obtain⟨D_TooGreat,m_TooGreat⟩:=Ex.cls "TooGreat" (by decide)
 obtain⟨D_NoText,m_NoText⟩:=Ex.cls "NoText" (by decide)
 obtain⟨D_NoTables,m_NoTables⟩:=Ex.cls "NoTables" (by decide)
 refine F.okJU sc__law_kind (λds h Q q=>by obtain⟨c,C,e,hc,hm,q⟩:=q;subst e;rfl) _ (λcdv A outer s H E hr=>(jaf (jbV (i:=1) sc__law_kind.nd rfl (Or.inl rfl) (jb4 (jac (jhZ rfl Z.isinstance rfl m_NoTable (jv 0)) (by exact(jac (jhZ rfl Z.isinstance rfl m_NoPlace (jv 0)) (by exact(jac (jhZ rfl Z.isinstance rfl m_NoNumber (jv 0)) (by exact(jac (jhZ rfl Z.isinstance rfl m_NoOrder (jv 0)) jab))))))))) (by exact(jaf (jbV (i:=1) sc__law_kind.nd rfl (Or.inl rfl) (jop jaB (jv 1) (jb4 (jac (jhZ rfl Z.isinstance rfl m_NoSet (jv 0)) (by exact(jac (jhZ rfl Z.isinstance rfl m_NoWalk (jv 0)) (by exact(jac (jhZ rfl Z.isinstance rfl m_NoLengths (jv 0)) jab)))))))) (by exact(jaf (jbV (i:=1) sc__law_kind.nd rfl (Or.inl rfl) (jop jaB (jv 1) (jb4 (jac (jhZ rfl Z.isinstance rfl m_NoWay (jv 0)) (by exact(jac (jhZ rfl Z.isinstance rfl m_Apart (jv 0)) (by exact(jac (jhZ rfl Z.isinstance rfl m_NoRow (jv 0)) jab)))))))) (by exact(jaf (jbV (i:=1) sc__law_kind.nd rfl (Or.inl rfl) (jop jaB (jv 1) (jb4 (jac (jhZ rfl Z.isinstance rfl m_NoTables (jv 0)) (by exact(jac (jhZ rfl Z.isinstance rfl m_NoText (jv 0)) (by exact(jac (jhZ rfl Z.isinstance rfl m_TooGreat (jv 0)) jab)))))))) (by exact(jaf (jee (jpt (jk8 (jcO (jcn (jrB (T:= "ValueError") rfl Z.isinstance rfl Ex.ve (by decide +kernel) (jv 0)))) (jk7 (jbq oq_ne (jrA hr.units (jv 1) jbl) jam (jax _))))) (jai (jbM jdH)) jaU) (by exact(jaf (jbV (i:=2) sc__law_kind.nd rfl (Or.inl rfl) (jb4 (jac jdH (by exact(jac jdH (by exact(jac jdH (by exact(jac jdH (by exact(jac jdH (by exact(jac jdH (by exact(jac jdH (by exact(jac jdH (by exact(jac jdH (by exact(jac jdH jab))))))))))))))))))))) (by exact(jai (jbM (jix (jop jaB (jv 2) (jb4 (jac jdH (by exact(jac jdH (by exact(jac jdH jab))))))) (jru hr.units (jv 1) jbl) (λ_ _=>rfl))))))))))))))))) ?_
 intro ds h Q q
 obtain⟨c,C,e,hc,hm,q⟩:=q
 subst e
 have kit: ∀d∈CN13,∀D,mg d=some (.ref D)->PySem.W.kitOne K (.ref C) (.ref D)=some (c==d):=λd hd D hD=>Ex.kit c hc d hd C D hm hD
 have ek:=Ex.ek c hc C hm
 have kv:=Ex.val c hc C hm
 refine jah (λσ' h' => ∃p,σ' = [some (.exc C),some (.lst p),none]/\Sub h h' /\h' p=some [.bl (c== "NoTable"),.bl (c== "NoPlace"),.bl (c== "NoNumber"),.bl (c== "NoOrder")]) (λC2 hC=> ?_) ?_
 ·refine⟨_,rfl,C,_,rfl,ek,kit _ (by decide) _ m_NoTable,_,rfl,C,_,rfl,ek,kit _ (by decide) _ m_NoPlace,_,rfl,C,_,rfl,ek,kit _ (by decide) _ m_NoNumber,_,rfl,C,_,rfl,ek,kit _ (by decide) _ m_NoOrder,(by show 4<=sizeLine;decide),λp e=>hC _ _ ⟨p,rfl,Sub.newAt (Sub.refl h) e,jaa⟩⟩
 rintro _ h1 ⟨p,rfl,sb,k1⟩
 refine jah (λσ' h' => ∃p,σ' = [some (.exc C),some (.lst p),none]/\Sub h h' /\h' p=some [.bl (c== "NoTable"),.bl (c== "NoPlace"),.bl (c== "NoNumber"),.bl (c== "NoOrder"),.bl (c== "NoSet"),.bl (c== "NoWalk"),.bl (c== "NoLengths")]) (λC2 hC=> ?_) ?_
 ·refine⟨_,rfl,_,rfl,C,_,rfl,ek,kit _ (by decide) _ m_NoSet,_,rfl,C,_,rfl,ek,kit _ (by decide) _ m_NoWalk,_,rfl,C,_,rfl,ek,kit _ (by decide) _ m_NoLengths,(by show 3<=sizeLine;decide),λp2 e2=>⟨_,_,jad k1 e2,jaa,(by simp only [G0h,G0m];decide),λp3 e3=>hC _ _ ⟨p3,rfl,Sub.newAt (Sub.newAt sb e2) e3,jaa⟩⟩⟩
 rintro _ h1 ⟨p,rfl,sb,k1⟩
 refine jah (λσ' h' => ∃p,σ' = [some (.exc C),some (.lst p),none]/\Sub h h' /\h' p=some [.bl (c== "NoTable"),.bl (c== "NoPlace"),.bl (c== "NoNumber"),.bl (c== "NoOrder"),.bl (c== "NoSet"),.bl (c== "NoWalk"),.bl (c== "NoLengths"),.bl (c== "NoWay"),.bl (c== "Apart"),.bl (c== "NoRow")]) (λC2 hC=> ?_) ?_
 ·refine⟨_,rfl,_,rfl,C,_,rfl,ek,kit _ (by decide) _ m_NoWay,_,rfl,C,_,rfl,ek,kit _ (by decide) _ m_Apart,_,rfl,C,_,rfl,ek,kit _ (by decide) _ m_NoRow,(by show 3<=sizeLine;decide),λp2 e2=>⟨_,_,jad k1 e2,jaa,(by simp only [G0h,G0m];decide),λp3 e3=>hC _ _ ⟨p3,rfl,Sub.newAt (Sub.newAt sb e2) e3,jaa⟩⟩⟩
 rintro _ h1 ⟨p,rfl,sb,k1⟩
 refine jah (λσ' h' => ∃p,σ' = [some (.exc C),some (.lst p),none]/\Sub h h' /\h' p=some [.bl (c== "NoTable"),.bl (c== "NoPlace"),.bl (c== "NoNumber"),.bl (c== "NoOrder"),.bl (c== "NoSet"),.bl (c== "NoWalk"),.bl (c== "NoLengths"),.bl (c== "NoWay"),.bl (c== "Apart"),.bl (c== "NoRow"),.bl (c== "NoTables"),.bl (c== "NoText"),.bl (c== "TooGreat")]) (λC2 hC=> ?_) ?_
 ·refine⟨_,rfl,_,rfl,C,_,rfl,ek,kit _ (by decide) _ m_NoTables,_,rfl,C,_,rfl,ek,kit _ (by decide) _ m_NoText,_,rfl,C,_,rfl,ek,kit _ (by decide) _ m_TooGreat,(by show 3<=sizeLine;decide),λp2 e2=>⟨_,_,jad k1 e2,jaa,(by simp only [G0h,G0m];decide),λp3 e3=>hC _ _ ⟨p3,rfl,Sub.newAt (Sub.newAt sb e2) e3,jaa⟩⟩⟩
 rintro _ h1 ⟨p,rfl,sb,k1⟩
 have hpG: ∀h' :HD,h' p=some [.bl (c== "NoTable"),.bl (c== "NoPlace"),.bl (c== "NoNumber"),.bl (c== "NoOrder"),.bl (c== "NoSet"),.bl (c== "NoWalk"),.bl (c== "NoLengths"),.bl (c== "NoWay"),.bl (c== "Apart"),.bl (c== "NoRow"),.bl (c== "NoTables"),.bl (c== "NoText"),.bl (c== "TooGreat")]->ToP h' (.lst p) (.list [.bool (c== "NoTable"),.bool (c== "NoPlace"),.bool (c== "NoNumber"),.bool (c== "NoOrder"),.bool (c== "NoSet"),.bool (c== "NoWalk"),.bool (c== "NoLengths"),.bool (c== "NoWay"),.bool (c== "Apart"),.bool (c== "NoRow"),.bool (c== "NoTables"),.bool (c== "NoText"),.bool (c== "TooGreat")]):=λh' k=>⟨p,_,rfl,k,⟨_,_,rfl,rfl,⟨_,_,rfl,rfl,⟨_,_,rfl,rfl,⟨_,_,rfl,rfl,⟨_,_,rfl,rfl,⟨_,_,rfl,rfl,⟨_,_,rfl,rfl,⟨_,_,rfl,rfl,⟨_,_,rfl,rfl,⟨_,_,rfl,rfl,⟨_,_,rfl,rfl,⟨_,_,rfl,rfl,⟨_,_,rfl,rfl,rfl⟩⟩⟩⟩⟩⟩⟩⟩⟩⟩⟩⟩⟩⟩
 have hpd:=hpG h1 k1
 obtain⟨j,hj,hz,hno,hw⟩: ∃j:Nat,j<10/\ [PyData.bool (c== "NoTable"),PyData.bool (c== "NoPlace"),PyData.bool (c== "NoNumber"),PyData.bool (c== "NoOrder"),PyData.bool (c== "NoSet"),PyData.bool (c== "NoWalk"),PyData.bool (c== "NoLengths"),PyData.bool (c== "NoWay"),PyData.bool (c== "Apart"),PyData.bool (c== "NoRow"),PyData.bool (c== "NoTables"),PyData.bool (c== "NoText"),PyData.bool (c== "TooGreat")][j]? =some (PyData.bool true)/\(∀m y,m<j-> [PyData.bool (c== "NoTable"),PyData.bool (c== "NoPlace"),PyData.bool (c== "NoNumber"),PyData.bool (c== "NoOrder"),PyData.bool (c== "NoSet"),PyData.bool (c== "NoWalk"),PyData.bool (c== "NoLengths"),PyData.bool (c== "NoWay"),PyData.bool (c== "Apart"),PyData.bool (c== "NoRow"),PyData.bool (c== "NoTables"),PyData.bool (c== "NoText"),PyData.bool (c== "TooGreat")][m]? =some y->PyData.eqv y (.bool true)=false)/\atI ([D.str "table",D.str "place",D.str "number",D.str "order",D.str "set",D.str "walk",D.str "lengths",D.str "way",D.str "apart",D.str "row",D.str "tables",D.str "text",D.str "great"]) (j:Int)=some (D.str (jdu c)):=by
  simp only [CN,G0r,G0U,G10] at hc
  rcases hc with rfl|rfl|rfl|rfl|rfl|rfl|rfl|rfl|rfl|rfl
  ·exact⟨0,by decide,rfl,by intro m y hm e;rcases m with _|m;all_goals first|(simp only [G0d,G0e,G0n] at e;subst e;rfl)|omega,rfl⟩
  ·exact⟨1,by decide,rfl,by intro m y hm e;rcases m with _|_|m;all_goals first|(simp only [G0d,G0e,G0n] at e;subst e;rfl)|omega,rfl⟩
  ·exact⟨2,by decide,rfl,by intro m y hm e;rcases m with _|_|_|m;all_goals first|(simp only [G0d,G0e,G0n] at e;subst e;rfl)|omega,rfl⟩
  ·exact⟨3,by decide,rfl,by intro m y hm e;rcases m with _|_|_|_|m;all_goals first|(simp only [G0d,G0e,G0n] at e;subst e;rfl)|omega,rfl⟩
  ·exact⟨4,by decide,rfl,by intro m y hm e;rcases m with _|_|_|_|_|m;all_goals first|(simp only [G0d,G0e,G0n] at e;subst e;rfl)|omega,rfl⟩
  ·exact⟨5,by decide,rfl,by intro m y hm e;rcases m with _|_|_|_|_|_|m;all_goals first|(simp only [G0d,G0e,G0n] at e;subst e;rfl)|omega,rfl⟩
  ·exact⟨6,by decide,rfl,by intro m y hm e;rcases m with _|_|_|_|_|_|_|m;all_goals first|(simp only [G0d,G0e,G0n] at e;subst e;rfl)|omega,rfl⟩
  ·exact⟨7,by decide,rfl,by intro m y hm e;rcases m with _|_|_|_|_|_|_|_|m;all_goals first|(simp only [G0d,G0e,G0n] at e;subst e;rfl)|omega,rfl⟩
  ·exact⟨8,by decide,rfl,by intro m y hm e;rcases m with _|_|_|_|_|_|_|_|_|m;all_goals first|(simp only [G0d,G0e,G0n] at e;subst e;rfl)|omega,rfl⟩
  ·exact⟨9,by decide,rfl,by intro m y hm e;rcases m with _|_|_|_|_|_|_|_|_|_|m;all_goals first|(simp only [G0d,G0e,G0n] at e;subst e;rfl)|omega,rfl⟩
 have hcnt:([PyData.bool (c== "NoTable"),PyData.bool (c== "NoPlace"),PyData.bool (c== "NoNumber"),PyData.bool (c== "NoOrder"),PyData.bool (c== "NoSet"),PyData.bool (c== "NoWalk"),PyData.bool (c== "NoLengths"),PyData.bool (c== "NoWay"),PyData.bool (c== "Apart"),PyData.bool (c== "NoRow"),PyData.bool (c== "NoTables"),PyData.bool (c== "NoText"),PyData.bool (c== "TooGreat")].countP λz=>PyData.eqv z (.bool true))=1:=by
  simp only [CN,G0r,G0U,G10] at hc
  rcases hc with rfl|rfl|rfl|rfl|rfl|rfl|rfl|rfl|rfl|rfl<;>rfl
 refine jah (λσ' h' =>σ' = [some (.exc C),some (.lst p),none]/\h1=h') (λC2 hC=> ?_) ?_
 ·refine⟨_,rfl,C,_,rfl,ek,kv,_,rfl,jer ⟨_,rfl,p,rfl,.bool true,_,hpd,rfl,rfl,rfl,by simp [PyData.depth],_,rfl,?_⟩⟩
  rw [hcnt]
  exact jer (hC _ _ ⟨rfl,rfl⟩)
 rintro _ _ ⟨rfl,rfl⟩
 refine jah (λσ' h' => ∃w,σ' = [some (.exc C),some (.lst p),some (.lst w)]/\Sub h1 h' /\h' p=h1 p/\h' w=some [D.str "table",D.str "place",D.str "number",D.str "order",D.str "set",D.str "walk",D.str "lengths",D.str "way",D.str "apart",D.str "row"]) (λC2 hC=>⟨(by show 10<=sizeLine;decide),λw e=>hC _ _ ⟨w,rfl,Sub.newAt (Sub.refl h1) e,by rw [k1];exact jad k1 e,jaa⟩⟩) ?_
 rintro _ h2 ⟨w,rfl,sb2,kp2,kw⟩
 rw [k1] at kp2
 refine⟨_,rfl,(by show 3<=sizeLine;decide),λp4 e4=>⟨_,_,jad kw e4,jaa,(by simp only [G0a,G0h,G0m];decide),λp5 e5=> ?_⟩⟩
 refine⟨_,rfl,p,rfl,.bool true,_,j,_,hpG _ (jad (jad kp2 e4) e5),rfl,rfl,rfl,by simp [PyData.depth],by omega,hz,rfl,hno,_,_,jaa,hw,?_⟩
 exact⟨_,Sub.refl _,q _ (Sub.newAt (Sub.newAt (sb.trans sb2) e4) e5)⟩
set_option maxHeartbeats 2000000 in
theorem jmY {n:Nat} {f:Addr} {fd:FuncData} (Z:Zs mg) (Ex:Exc K mg) (F:Fun K "_law_said" "_law_said" jde f fd) (CU:jjk P w K mg base n "_law_kind" ["_law_e"] (jjp mg)):FnOkS P w K mg base CX0 (n+2) f fd ["_law_call"] (jhl P w K mg base n):=by
 obtain⟨gU,gdU,GU,bGU,kGU,mGU⟩:=CU
 obtain⟨pe,hpe,hex⟩:=Ex.pe
 refine jmw F sc__law_said rfl rfl rfl rfl rfl hpe hex _ (λcdv A outer s H E x hr=>jaf (jbV (i:=3) sc__law_said.nd rfl (Or.inl rfl) (joF GU hr rfl mGU kGU bGU (jac (jv 2) jab))) (jaf (jee (jbq (jqe hr.units) (jv 3) (jbr (jac jdH (jac jdH jab))) (by with_unfolding_all rfl)) (jai jfk) jaU) (jaf (jee (jbq oq_eq (jv 3) jdH (jax _)) (jai jfk) jaU) (jai (jbM (jbr (jac (jv 3) jab))))))) ?_
 intro c hc C h Qd hm q
 refine⟨_,rfl,c,C,rfl,hc,hm,λh' sb=> ?_⟩
 refine⟨_,rfl,(by show 2<=sizeLine;decide),.str (jdu c),[.str "tables",.str "text"],rfl,.inr ⟨_,rfl,⟨_,_,rfl,rfl,_,_,rfl,rfl,rfl⟩⟩,?_,by decide +kernel,by simp [PyData.depth],_,rfl,?_⟩
 ·simp only [CN,G0r,G0U,G10] at hc
  rcases hc with rfl|rfl|rfl|rfl|rfl|rfl|rfl|rfl|rfl|rfl<;>decide +kernel
 have e1:((false !=List.any [PyData.str "tables",PyData.str "text"] λz=>PyData.eqv z (.str (jdu c))))=false:=by
  simp only [CN,G0r,G0U,G10] at hc
  rcases hc with rfl|rfl|rfl|rfl|rfl|rfl|rfl|rfl|rfl|rfl<;>rfl
 rw [e1]
 refine jer ⟨_,rfl,_,rfl,?_⟩
 have e2:decide (jdu c= "great")=false:=by
  simp only [CN,G0r,G0U,G10] at hc
  rcases hc with rfl|rfl|rfl|rfl|rfl|rfl|rfl|rfl|rfl|rfl<;>rfl
 rw [e2]
 exact jer ⟨_,rfl,(by show 1<=sizeLine;decide),h,sb,q⟩
def je0:RDn:=λds h Q=> ∃p l fl,ds= [.lst p]/\h p=some [.int l,.int fl]/\0<=l/\ ∀d l' h',okD d=true->Th (jdL h' p) d->But p h h' ->h' p=some [.int l',.int fl]->0<=l' ->Q d h'
set_option maxHeartbeats 2000000 in
theorem jg7 {n:Nat} {f:Addr} {fd:FuncData} (Z:Zs mg) (F:Fun K "_law_odd" "_law_odd" jdV f fd) (C__law_draw:jan P w K mg base n "_law_draw" ["_law_pen_here","_law_many"] jbc):FnOk P w K mg base CX0 (n+1) f fd ["_law_pen_here"] (LSp K je0):=by
 obtain⟨g_G__law_draw,gd_G__law_draw,G__law_draw,bG__law_draw,kG__law_draw,mG__law_draw⟩:=C__law_draw
 refine F.okJ sc__law_odd (λds h Q q=>by obtain⟨p,l,fl,e,hp,h0,q⟩:=q;subst e;rfl) _ (λcdv A outer s H E hr=>(jaf (jbV (i:=1) sc__law_odd.nd rfl (Or.inl rfl) (jb4 (jac jjV (by exact(jac jbl (by exact(jac jbl (by exact(jac (jow jam) (by exact(jac jdH (by exact(jac jdH (by exact(jac (jbr jab) (by exact(jac (jb4 jab) (by exact(jac (jbr (jac jam jab)) (by exact(jac (jb4 (jac jam jab)) (by exact(jac jla (by exact(jac (jbr (jac jam (by exact(jac jam jab)))) (by exact(jac (jop jhf jam jam) (by exact(jac (jbr (jac jam (by exact(jac (jbr jab) jab)))) (by exact(jac (jbr (jac (jbr jab) jab)) jab))))))))))))))))))))))))))))))) (by exact(jai (jbM (jix (jop jaB (jv 1) (jb4 (jac (jbr (jac (jbr (jac jam jab)) jab)) jab))) (jaw G__law_draw hr rfl mG__law_draw kG__law_draw bG__law_draw (jac (jv 0) (by exact(jac jam jab)))) (λ_ _=>rfl))))))) ?_
 intro ds h Q q
 obtain⟨p,l,fl,e,hp,h0,q⟩:=q
 subst e
 simp only [jcg,Nxt,jcK,jcI,jaW,jaX,jaR,dOp,jay,dIs,jcB,dCB,jaK,jb8,jcq,jbd,dC,ja0,jaD,jcm,jcL,jcM,ja1,jcC,jcH,jaY,jcJ,jaZ,dIf,dUn,jcW,dSl,jaq,ja4,jcU,jaC,gN,gT2,ja3,jc3,jc4,jcV,jcQ,jdk,jc5,ja9,jc6,jcr,eqD,neD,eqE,neE,isV,isN,jdh,jat,jdi,jdj,jbe,ixD,jcR,jcS,jcT,jas,jaE,jav,ja2,jcN,slD,jch,jap,G0w,G0M,G0h,G0m,List.replicate,G0z,G0v,G0x,G0y,G0d,G0e,G0n,G0F,D.bl.injEq,D.lst.injEq,hp]
 repeat (first|intro _|refine⟨by decide,?_⟩|refine⟨⟨by decide,by decide,by decide⟩,?_⟩)
 rename_i p1 e1 p2 e2 p4 e4 p5 e5
 have k1:=jad (M:= []) hp e1
 have k2:=jad (M:= [.int 0]) k1 e2
 have n1:p1≠p:=jao hp e1
 have n2:p2≠p:=jao k1 e2
 refine⟨_,_,jag (Ne.symm (jmd e5)) jaa,jaa,by simp only [G0h,G0m];decide,λp6 e6=> ?_⟩
 refine⟨p,l,fl,16,rfl,jad (jad (jad k2 e4) e5) e6,h0,by decide,by decide,λr l' r0 r1 l0=> ?_⟩
 obtain⟨d,hd,ed⟩:=jbU (xs:= [D.non,D.bl true,D.bl false,D.int (-1),D.str (Str.ofString "1"),D.str (Str.ofString ""),D.tup [],D.lst p1,D.tup [D.int 0],D.lst p2,D.dic (Str.ofString "a") 1,D.tup [D.int 0,D.int 1],D.int (10^Int.toNat 30),D.tup [D.int 0,D.tup []],D.tup [D.tup []]]++ [D.tup [D.tup [D.int 0]]]) r0 r1
 refine⟨_,d,jag (jao (jad (jad k2 e4) e5) e6) jaa,ed,_,Sub.refl _,q d l' _ (jdB ?_ d hd) ?_ ((((((But.refl p h).new e1).new e2).new e4).new e5).new e6).put jaa l0⟩
 ·rfl
 ·simp only [G0p,G0r,G0U,G10] at hd
  rcases hd with (e|e|e|e|e|e|e|e|e|e|e|e|e|e|e)|e<;>subst e
  all_goals first
   |exact SmK.th (jjf 2 _ (by decide +kernel))
   |exact .inr (.inr rfl)
   |exact Th.lst (jgd n1 (jag n1 (jad (jad (jad (jad jaa e2) e4) e5) e6))) (by decide) (by simp)
   |exact Th.lst (jgd n2 (jag n2 (jad (jad (jad jaa e4) e5) e6))) (by decide) (λx hx=>by rw [G0g.mp hx];exact jjf 1 _ (by decide +kernel))
def jd4:RDn:=λds h Q=> ∃p l fl,ds= [.lst p]/\h p=some [.int l,.int fl]/\0<=l/\ ∀ (k:Nat) l',1<=k->k<=6->0<=l' ->Q (.int (k:Int)) (jbp h p [.int l',.int fl])
set_option maxHeartbeats 2000000 in
theorem jgA {n:Nat} {f:Addr} {fd:FuncData} (Z:Zs mg) (F:Fun K "_law_size" "_law_size" jdf f fd) (C__law_draw:jan P w K mg base n "_law_draw" ["_law_pen_here","_law_many"] jbc):FnOk P w K mg base CX0 (n+1) f fd ["_law_pen_here"] (LSp K jd4):=by
 obtain⟨g_G__law_draw,gd_G__law_draw,G__law_draw,bG__law_draw,kG__law_draw,mG__law_draw⟩:=C__law_draw
 refine F.okJ jgs (λds h Q q=>by obtain⟨p,l,fl,e,hp,h0,q⟩:=q;subst e;rfl) _ (λcdv A outer s H E hr=>(jai (jbM (jix (jb4 (jac jam (by exact(jac jam (by exact(jac jam (by exact(jac jam (by exact(jac jam (by exact(jac jam (by exact(jac jam (by exact(jac jam (by exact(jac jam (by exact(jac jam (by exact(jac jam (by exact(jac jam jab)))))))))))))))))))))))) (jaw G__law_draw hr rfl mG__law_draw kG__law_draw bG__law_draw (jac (jv 0) (by exact(jac jam jab)))) (λ_ _=>rfl))))) ?_
 intro ds h Q q
 obtain⟨p,l,fl,e,hp,h0,q⟩:=q
 subst e
 simp only [jcg,Nxt,jcK,jcI,jaW,jaX,jaR,dOp,jay,dIs,jcB,dCB,jaK,jb8,jcq,jbd,dC,ja0,jaD,jcm,jcL,jcM,ja1,jcC,jcH,jaY,jcJ,jaZ,dIf,dUn,jcW,dSl,jaq,ja4,jcU,jaC,gN,gT2,ja3,jc3,jc4,jcV,jcQ,jdk,jc5,ja9,jc6,jcr,eqD,neD,eqE,neE,isV,isN,jdh,jat,jdi,jdj,jbe,ixD,jcR,jcS,jcT,jas,jaE,jav,ja2,jcN,slD,jch,jap,G0w,G0M,G0h,G0m,List.replicate,G0z,G0v,G0x,G0y,G0d,G0e,G0n,G0F,D.bl.injEq,D.lst.injEq,hp]
 refine⟨by decide,λp1 e1=>⟨p,l,fl,12,rfl,jad hp e1,h0,by decide,by decide,λr l' r0 r1 l0=> ?_⟩⟩
 obtain⟨d,hd,ed⟩:=jbU (xs:= [D.int 1,D.int 2,D.int 3,D.int 4,D.int 5,D.int 3,D.int 4,D.int 2,D.int 6,D.int 5,D.int 4,D.int 3]) r0 r1
 refine⟨_,d,jag (jao hp e1) jaa,ed,_,Sub.both (Sub.newAt (Sub.refl h) e1),?_⟩
 have q' : ∀k:Nat,1<=k->k<=6->Q (.int (k:Int)) (jbp h p [.int l',.int fl]):=λk a b=>q k l' a b l0
 simp only [G0r,G0U,G10] at hd
 rcases hd with e|e|e|e|e|e|e|e|e|e|e|e<;>subst e
 ·exact q' 1 (by decide) (by decide)
 ·exact q' 2 (by decide) (by decide)
 ·exact q' 3 (by decide) (by decide)
 ·exact q' 4 (by decide) (by decide)
 ·exact q' 5 (by decide) (by decide)
 ·exact q' 3 (by decide) (by decide)
 ·exact q' 4 (by decide) (by decide)
 ·exact q' 2 (by decide) (by decide)
 ·exact q' 6 (by decide) (by decide)
 ·exact q' 5 (by decide) (by decide)
 ·exact q' 4 (by decide) (by decide)
 ·exact q' 3 (by decide) (by decide)
def jdE:RDn:=λds h Q=> ∃p l fl,∃k:Nat,ds= [.lst p,.int (k:Int)]/\h p=some [.int l,.int fl]/\0<=l/\1<=k/\k<=6/\ ∀T l',GoodTab k T->0<=l' ->Q (jaM T) (jbp h p [.int l',.int fl])
set_option maxHeartbeats 2000000 in
theorem jfV {n:Nat} {f:Addr} {fd:FuncData} (Z:Zs mg) (F:Fun K "_law_table" "_law_table" jcx f fd) (C__law_draw:jan P w K mg base n "_law_draw" ["_law_pen_here","_law_many"] jbc):FnOk P w K mg base CX0 (n+1) f fd ["_law_pen_here","_law_size_here"] (LSp K jdE):=by
 obtain⟨g_G__law_draw,gd_G__law_draw,G__law_draw,bG__law_draw,kG__law_draw,mG__law_draw⟩:=C__law_draw
 refine F.okJ sc__law_table (λds h Q q=>by obtain⟨p,l,fl,k,e,hp,h0,hk1,hk6,q⟩:=q;subst e;rfl) _ (λcdv A outer s H E hr=>(jaf (jp9 (i:=2) (j:=3) rfl sc__law_table.nd rfl rfl (by decide) rfl rfl (jac (jaw G__law_draw hr rfl mG__law_draw kG__law_draw bG__law_draw (jac (jv 0) (by exact(jac jam jab)))) (by exact(jac (jix (jb4 (jac jam (by exact(jac jam (by exact(jac jam jab)))))) (jaw G__law_draw hr rfl mG__law_draw kG__law_draw bG__law_draw (jac (jv 0) (by exact(jac jam jab)))) (λ_ _=>rfl)) jab))) rfl) (by exact(jaf (jbV (i:=4) sc__law_table.nd rfl (Or.inl rfl) (jix (jb4 (jac jam (by exact(jac jam (by exact(jac jam (by exact(jac (jop jhf jam jam) jab)))))))) (jaw G__law_draw hr rfl mG__law_draw kG__law_draw bG__law_draw (jac (jv 0) (by exact(jac jam jab)))) (λ_ _=>rfl))) (by exact(jaf (jbV (i:=5) sc__law_table.nd rfl (Or.inl rfl) (jb4 jab)) (by exact(jaf (jjW G1h rfl (jeD rfl Z.range (jac (jv 1) jab)) (jbW (i:=6) sc__law_table.nd rfl (Or.inl rfl)) (jaf (jbV (i:=7) sc__law_table.nd rfl (Or.inl rfl) (jb4 jab)) (by exact(jaf (jjW G1h rfl (jeD rfl Z.range (jac (jv 1) jab)) (jbW (i:=8) sc__law_table.nd rfl (Or.inl rfl)) (jaf (jbV (i:=9) sc__law_table.nd rfl (Or.inl rfl) (jid oq_eq (jaw G__law_draw hr rfl mG__law_draw kG__law_draw bG__law_draw (jac (jv 0) (by exact(jac (jv 3) jab)))) jam (jax _))) (by exact(jaf (jee (jbq jkg (jv 2) jam (jax _)) (jai (jbV (i:=9) sc__law_table.nd rfl (Or.inl rfl) (jor (jid oq_eq (jv 8) (jop jdr (jop jaB (jv 6) jam) (jv 1)) (jax _)) (jie (jkn (jv 9) (jie (jid (jgb hr.units) (jaw G__law_draw hr rfl mG__law_draw kG__law_draw bG__law_draw (jac (jv 0) (by exact(jac jam jab)))) (jv 2) (jax _)))))))) jaU) (by exact(jaf (jee (jbq oq_eq (jv 2) jam (jax _)) (jai (jbV (i:=9) sc__law_table.nd rfl (Or.inl rfl) (jor (jkn (jv 9) (jie (jid oq_eq (jop jdr (jop jiQ (jv 8) (jv 6)) jam) jam (jax _)))) (jie (jid (jgb hr.units) (jv 8) (jop jaB (jv 6) jam) (jax _)))))) jaU) (by exact(jaf (jee (jbq oq_eq (jv 2) jam (jax _)) (jai (jbV (i:=9) sc__law_table.nd rfl (Or.inl rfl) (jkn (jv 9) (jie (jid jkh (jv 8) (jv 6) (jax _)))))) jaU) (by exact(jai (jeC (jme (jv 7) (jop jbs (jb9 jk3 rfl Z.int (by decide +kernel) (jac (jv 9) jab)) (jop jaB jam (jaw G__law_draw hr rfl mG__law_draw kG__law_draw bG__law_draw (jac (jv 0) (by exact(jac (jv 4) jab)))))))))))))))))) (by exact(jai (jeC (jme (jv 5) (jb9 cq_tuple rfl Z.tuple (by decide +kernel) (jac (jv 7) jab)))))))))) (by exact(jai (jbM (jb9 cq_tuple rfl Z.tuple (by decide +kernel) (jac (jv 5) jab))))))))))))) ?_
 intro ds h Q q
 obtain⟨p,l,fl,k,e,hp,h0,hk1,hk6,q⟩:=q
 subst e
 refine jah (λσ' h' => ∃way o l2,σ' = [some (.lst p),some (.int (k:Int)),some (.int way),some (.int o),none,none,none,none,none,none]/\0<o/\o<1000/\0<=l2/\h' p=some [.int l2,.int fl]/\But p h h') (λC hC=> ?_) (λσ' h' hV=> ?_)
 ·simp only [jcg,Nxt,jcK,jcI,jaW,jaX,jaR,dOp,jay,dIs,jcB,dCB,jaK,jb8,jcq,jbd,dC,ja0,jaD,jcm,jcL,jcM,ja1,jcC,jcH,jaY,jcJ,jaZ,dIf,dUn,jcW,dSl,jaq,ja4,jcU,jaC,gN,gT2,ja3,jc3,jc4,jcV,jcQ,jdk,jc5,ja9,jc6,jcr,eqD,neD,eqE,neE,isV,isN,jdh,jat,jdi,jdj,jbe,ixD,jcR,jcS,jcT,jas,jaE,jav,ja2,jcN,slD,jch,jap,G0w,G0M,G0h,G0m,List.replicate,G0z,G0v,G0x,G0y,G0d,G0e,G0n,G0F,D.bl.injEq,D.lst.injEq,hp]
  refine⟨p,l,fl,6,rfl,hp,h0,by decide,by decide,λway l1 w0 w1 l10=> ?_⟩
  refine⟨by decide,λp1 e1=>⟨p,l1,fl,3,rfl,jad jaa e1,l10,by decide,by decide,λr l2 r0 r1 l20=> ?_⟩⟩
  obtain⟨oft,ho,eo⟩:=jbU (xs:= [D.int 2,D.int 3,D.int 5]) r0 r1
  refine⟨_,oft,jag (jao jaa e1) jaa,eo,?_⟩
  obtain⟨o,e,o1,o2⟩: ∃o:Int,oft= .int o/\0<o/\o<1000:=by
   simp only [G0r,G0U,G10] at ho
   rcases ho with e|e|e<;>exact⟨_,e,by decide,by decide⟩
  subst e
  exact⟨_,_,rfl,hC _ _ ⟨way,o,l2,rfl,o1,o2,l20,jaa,((But.upd).new e1).put⟩⟩
 obtain⟨way,o,l2,e,o1,o2,l20,kA,bA⟩:=hV
 subst e
 refine jah (λσ' h' => ∃m l3,σ' = [some (.lst p),some (.int (k:Int)),some (.int way),some (.int o),some (.int m),none,none,none,none,none]/\0<m/\m<=1000000/\0<=l3/\h' p=some [.int l3,.int fl]/\But p h h') (λC hC=> ?_) (λσ' h' hV=> ?_)
 ·simp only [jcg,Nxt,jcK,jcI,jaW,jaX,jaR,dOp,jay,dIs,jcB,dCB,jaK,jb8,jcq,jbd,dC,ja0,jaD,jcm,jcL,jcM,ja1,jcC,jcH,jaY,jcJ,jaZ,dIf,dUn,jcW,dSl,jaq,ja4,jcU,jaC,gN,gT2,ja3,jc3,jc4,jcV,jcQ,jdk,jc5,ja9,jc6,jcr,eqD,neD,eqE,neE,isV,isN,jdh,jat,jdi,jdj,jbe,ixD,jcR,jcS,jcT,jas,jaE,jav,ja2,jcN,slD,jch,jap,G0w,G0M,G0h,G0m,List.replicate,G0z,G0v,G0x,G0y,G0d,G0e,G0n,G0F,D.bl.injEq,D.lst.injEq]
  refine⟨⟨by decide,by decide,by decide⟩,by decide,λp1 e1=>⟨p,l2,fl,4,rfl,jad kA e1,l20,by decide,by decide,λr l3 r0 r1 l30=> ?_⟩⟩
  obtain⟨most,ho,eo⟩:=jbU (xs:= [D.int 1,D.int 1,D.int 3,D.int (10^Int.toNat 6)]) r0 r1
  refine⟨_,most,jag (jao kA e1) jaa,eo,?_⟩
  obtain⟨m,e,o1,o2⟩: ∃o:Int,most= .int o/\0<o/\o<=1000000:=by
   simp only [G0r,G0U,G10] at ho
   rcases ho with e|e|e|e<;>exact⟨_,e,by decide,by decide⟩
  subst e
  exact hC _ _ ⟨m,l3,rfl,o1,o2,l30,jaa,(bA.new e1).put⟩
 obtain⟨m,l3,e,m1,m2,l30,kB,bB⟩:=hV
 subst e
 refine jah (λσ' h' => ∃R,σ' = [some (.lst p),some (.int (k:Int)),some (.int way),some (.int o),some (.int m),some (.lst R),none,none,none,none]/\R≠p/\h R=none/\h' R=some []/\h' p=some [.int l3,.int fl]/\But p h h') (λC hC=> ?_) (λσ' h' hV=> ?_)
 ·simp only [jcg,Nxt,jcK,jcI,jaW,jaX,jaR,dOp,jay,dIs,jcB,dCB,jaK,jb8,jcq,jbd,dC,ja0,jaD,jcm,jcL,jcM,ja1,jcC,jcH,jaY,jcJ,jaZ,dIf,dUn,jcW,dSl,jaq,ja4,jcU,jaC,gN,gT2,ja3,jc3,jc4,jcV,jcQ,jdk,jc5,ja9,jc6,jcr,eqD,neD,eqE,neE,isV,isN,jdh,jat,jdi,jdj,jbe,ixD,jcR,jcS,jcT,jas,jaE,jav,ja2,jcN,slD,jch,jap,G0w,G0M,G0h,G0m,List.replicate,G0z,G0v,G0x,G0y,G0d,G0e,G0n,G0F,D.bl.injEq,D.lst.injEq]
  exact⟨by decide,λR eR=>hC _ _ ⟨R,rfl,jao kB eR,jiY bB eR (jao kB eR),jaa,jad kB eR,bB.new eR⟩⟩
 obtain⟨R,e,nR,fR,kR,kC,bC⟩:=hV
 subst e
 refine jah (λσ' h' => ∃a b c d l4 rows,σ' = [some (.lst p),some (.int (k:Int)),some (.int way),some (.int o),some (.int m),some (.lst R),a,b,c,d]/\0<=l4/\h' p=some [.int l4,.int fl]/\h' R=some (rows.map jdt)/\But p h h' /\GoodTab k rows) (λC hC=> ?_) (λσ' h' hV=> ?_)
 rotate_left
 ·obtain⟨a,b,c,d,l4,rows,e,l40,kD,kE,bD,g⟩:=hV
  subst e
  simp only [jcg,Nxt,jcK,jcI,jaW,jaX,jaR,dOp,jay,dIs,jcB,dCB,jaK,jb8,jcq,jbd,dC,ja0,jaD,jcm,jcL,jcM,ja1,jcC,jcH,jaY,jcJ,jaZ,dIf,dUn,jcW,dSl,jaq,ja4,jcU,jaC,gN,gT2,ja3,jc3,jc4,jcV,jcQ,jdk,jc5,ja9,jc6,jcr,eqD,neD,eqE,neE,isV,isN,jdh,jat,jdi,jdj,jbe,ixD,jcR,jcS,jcT,jas,jaE,jav,ja2,jcN,slD,jch,jap,G0w,G0M,G0h,G0m,List.replicate,G0z,G0v,G0x,G0y,G0d,G0e,G0n,G0F,D.bl.injEq,D.lst.injEq]
  exact⟨_,kE,_,bD.sub kD,q rows l4 g l40⟩
 refine jdN k (λi σ' h' => ∃a b c d l4 rows,σ' = [some (.lst p),some (.int (k:Int)),some (.int way),some (.int o),some (.int m),some (.lst R),a,b,c,d]/\0<=l4/\h' p=some [.int l4,.int fl]/\h' R=some (rows.map jdt)/\But p h h' /\rows.length=i/\ ∀r∈rows,jdO k r) (by omega) (λR' r=>⟨_,rfl,r⟩)
  ⟨none,none,none,none,l3,[],rfl,l30,kC,kR,bC,rfl,λr hr=>nomatch hr⟩ (λσ' h' ⟨a,b,c,d,l4,rows,e,l40,kD,kE,bD,g1,g2⟩=>hC _ _ ⟨a,b,c,d,l4,rows,e,l40,kD,kE,bD,g1,g2⟩) ?_
 rintro i σ' h' hi ⟨a,b,c,d,l4,rows,e,l40,kD,kE,bD,g1,g2⟩
 subst e
 show jcg _ _ _ [some (.lst p),some (.int (k:Int)),some (.int way),some (.int o),some (.int m),some (.lst R),some (.int (i:Int)),b,c,d] h'
 refine jah (λσ' h' => ∃S,σ' = [some (.lst p),some (.int (k:Int)),some (.int way),some (.int o),some (.int m),some (.lst R),some (.int (i:Int)),some (.lst S),c,d]/\S≠p/\S≠R/\h S=none/\h' S=some []/\h' p=some [.int l4,.int fl]/\h' R=some (rows.map jdt)/\But p h h') (λC hC=> ?_) (λσ' h' hV=> ?_)
 ·simp only [jcg,Nxt,jcK,jcI,jaW,jaX,jaR,dOp,jay,dIs,jcB,dCB,jaK,jb8,jcq,jbd,dC,ja0,jaD,jcm,jcL,jcM,ja1,jcC,jcH,jaY,jcJ,jaZ,dIf,dUn,jcW,dSl,jaq,ja4,jcU,jaC,gN,gT2,ja3,jc3,jc4,jcV,jcQ,jdk,jc5,ja9,jc6,jcr,eqD,neD,eqE,neE,isV,isN,jdh,jat,jdi,jdj,jbe,ixD,jcR,jcS,jcT,jas,jaE,jav,ja2,jcN,slD,jch,jap,G0w,G0M,G0h,G0m,List.replicate,G0z,G0v,G0x,G0y,G0d,G0e,G0n,G0F,D.bl.injEq,D.lst.injEq]
  exact⟨by decide,λS eS=>hC _ _ ⟨S,rfl,jao kD eS,jao kE eS,jiY bD eS (jao kD eS),jaa,jad kD eS,jad kE eS,bD.new eS⟩⟩
 obtain⟨S,e,nS,nSR,fS,kS,kD,kE,bD⟩:=hV
 subst e
 refine jah (λσ' h' => ∃c d l5 row,σ' = [some (.lst p),some (.int (k:Int)),some (.int way),some (.int o),some (.int m),some (.lst R),some (.int (i:Int)),some (.lst S),c,d]/\0<=l5/\h' p=some [.int l5,.int fl]/\h' R=some (rows.map jdt)/\h' S=some (row.map D.int)/\But p h h' /\jdO k row) (λC hC=> ?_) (λσ' h' hV=> ?_)
 rotate_left
 ·obtain⟨c,d,l5,row,e,l50,kD,kE,kF,bD,g⟩:=hV
  subst e
  simp only [jcg,Nxt,jcK,jcI,jaW,jaX,jaR,dOp,jay,dIs,jcB,dCB,jaK,jb8,jcq,jbd,dC,ja0,jaD,jcm,jcL,jcM,ja1,jcC,jcH,jaY,jcJ,jaZ,dIf,dUn,jcW,dSl,jaq,ja4,jcU,jaC,gN,gT2,ja3,jc3,jc4,jcV,jcQ,jdk,jc5,ja9,jc6,jcr,eqD,neD,eqE,neE,isV,isN,jdh,jat,jdi,jdj,jbe,ixD,jcR,jcS,jcT,jas,jaE,jav,ja2,jcN,slD,jch,jap,G0w,G0M,G0h,G0m,List.replicate,G0z,G0v,G0x,G0y,G0d,G0e,G0n,G0F,D.bl.injEq,D.lst.injEq]
  refine⟨_,kF,_,kE,?_,_,Sub.refl _,by omega,_,_,_,_,l5,rows++ [row],rfl,l50,jag (Ne.symm nR) kD,?_,bD.putNew fR,by simp [g1],?_⟩
  ·rw [G0c];exact G2d (show rows.length<=1000 by omega) (by decide)
  ·rw [jaa,G07];rfl
  ·intro r hr
   rcases G0p.mp hr with z|z
   ·exact g2 r z
   ·rw [G0g.mp z];exact g
 refine jdN k (λj σ' h' => ∃c d l5 row,σ' = [some (.lst p),some (.int (k:Int)),some (.int way),some (.int o),some (.int m),some (.lst R),some (.int (i:Int)),some (.lst S),c,d]/\0<=l5/\h' p=some [.int l5,.int fl]/\h' R=some (rows.map jdt)/\h' S=some (row.map D.int)/\But p h h' /\row.length=j/\ ∀x∈row,0<=x/\x<=1000000) (by omega) (λR' r=>⟨_,rfl,r⟩)
  ⟨_,_,l4,[],rfl,l40,kD,kE,kS,bD,rfl,λr hr=>nomatch hr⟩ (λσ' h' ⟨c,d,l5,row,e,l50,kD,kE,kF,bD,g1,g2⟩=>hC _ _ ⟨c,d,l5,row,e,l50,kD,kE,kF,bD,g1,g2⟩) ?_
 rintro j σ' h' hj ⟨c,d,l5,row,e,l50,kD,kE,kF,bD,g1',g2'⟩
 subst e
 show jcg _ _ _ [some (.lst p),some (.int (k:Int)),some (.int way),some (.int o),some (.int m),some (.lst R),some (.int (i:Int)),some (.lst S),some (.int (j:Int)),d] h'
 refine jah (λσ' h' => ∃ (g:Bool) (l6:Int),σ' = [some (.lst p),some (.int (k:Int)),some (.int way),some (.int o),some (.int m),some (.lst R),some (.int (i:Int)),some (.lst S),some (.int (j:Int)),some (.bl g)]/\0<=l6/\h' p=some [.int l6,.int fl]/\h' R=some (rows.map jdt)/\h' S=some (row.map D.int)/\But p h h') (λC hC=> ?_) (λσ' h' hV=> ?_)
 ·simp only [jcg,Nxt,jcK,jcI,jaW,jaX,jaR,dOp,jay,dIs,jcB,dCB,jaK,jb8,jcq,jbd,dC,ja0,jaD,jcm,jcL,jcM,ja1,jcC,jcH,jaY,jcJ,jaZ,dIf,dUn,jcW,dSl,jaq,ja4,jcU,jaC,gN,gT2,ja3,jc3,jc4,jcV,jcQ,jdk,jc5,ja9,jc6,jcr,eqD,neD,eqE,neE,isV,isN,jdh,jat,jdi,jdj,jbe,ixD,jcR,jcS,jcT,jas,jaE,jav,ja2,jcN,slD,jch,jap,G0w,G0M,G0h,G0m,List.replicate,G0z,G0v,G0x,G0y,G0d,G0e,G0n,G0F,D.bl.injEq,D.lst.injEq]
  exact⟨p,l5,fl,o,rfl,kD,l50,o1,by omega,λr l6 r0 r1 l60=>hC _ _ ⟨_,l6,rfl,l60,jaa,jag nR kE,jag nS kF,bD.put⟩⟩
 obtain⟨g,l6,e,l60,kD,kE,kF,bD⟩:=hV
 subst e
 refine jah (λσ' h' => ∃ (g:Bool) (l6:Int),σ' = [some (.lst p),some (.int (k:Int)),some (.int way),some (.int o),some (.int m),some (.lst R),some (.int (i:Int)),some (.lst S),some (.int (j:Int)),some (.bl g)]/\0<=l6/\h' p=some [.int l6,.int fl]/\h' R=some (rows.map jdt)/\h' S=some (row.map D.int)/\But p h h') (λC hC=> ?_) (λσ' h' hV=> ?_)
 ·simp only [jcg,Nxt,jcK,jcI,jaW,jaX,jaR,dOp,jay,dIs,jcB,dCB,jaK,jb8,jcq,jbd,dC,ja0,jaD,jcm,jcL,jcM,ja1,jcC,jcH,jaY,jcJ,jaZ,dIf,dUn,jcW,dSl,jaq,ja4,jcU,jaC,gN,gT2,ja3,jc3,jc4,jcV,jcQ,jdk,jc5,ja9,jc6,jcr,eqD,neD,eqE,neE,isV,isN,jdh,jat,jdi,jdj,jbe,ixD,jcR,jcS,jcT,jas,jaE,jav,ja2,jcN,slD,jch,jap,G0w,G0M,G0h,G0m,List.replicate,G0z,G0v,G0x,G0y,G0d,G0e,G0n,G0F,D.bl.injEq,D.lst.injEq]
  refine jg9 (λ_=> ?_) (λ_=>hC _ _ ⟨g,l6,rfl,l60,kD,kE,kF,bD⟩)
  refine⟨by omega,?_⟩
  refine jg9 (λ_=>hC _ _ ⟨_,l6,rfl,l60,kD,kE,kF,bD⟩) (λ_=> ?_)
  refine jg9 (λ_=> ?_) (λ_=>hC _ _ ⟨_,l6,rfl,l60,kD,kE,kF,bD⟩)
  exact⟨p,l6,fl,2,rfl,kD,l60,by decide,by decide,λr l7 r0 r1 l70=>hC _ _ ⟨_,l7,rfl,l70,jaa,jag nR kE,jag nS kF,bD.put⟩⟩
 obtain⟨g,l6,e,l60,kD,kE,kF,bD⟩:=hV
 subst e
 refine jah (λσ' h' => ∃ (g:Bool) (l6:Int),σ' = [some (.lst p),some (.int (k:Int)),some (.int way),some (.int o),some (.int m),some (.lst R),some (.int (i:Int)),some (.lst S),some (.int (j:Int)),some (.bl g)]/\0<=l6/\h' p=some [.int l6,.int fl]/\h' R=some (rows.map jdt)/\h' S=some (row.map D.int)/\But p h h') (λC hC=> ?_) (λσ' h' hV=> ?_)
 ·simp only [jcg,Nxt,jcK,jcI,jaW,jaX,jaR,dOp,jay,dIs,jcB,dCB,jaK,jb8,jcq,jbd,dC,ja0,jaD,jcm,jcL,jcM,ja1,jcC,jcH,jaY,jcJ,jaZ,dIf,dUn,jcW,dSl,jaq,ja4,jcU,jaC,gN,gT2,ja3,jc3,jc4,jcV,jcQ,jdk,jc5,ja9,jc6,jcr,eqD,neD,eqE,neE,isV,isN,jdh,jat,jdi,jdj,jbe,ixD,jcR,jcS,jcT,jas,jaE,jav,ja2,jcN,slD,jch,jap,G0w,G0M,G0h,G0m,List.replicate,G0z,G0v,G0x,G0y,G0d,G0e,G0n,G0F,D.bl.injEq,D.lst.injEq]
  refine jg9 (λ_=> ?_) (λ_=>hC _ _ ⟨g,l6,rfl,l60,kD,kE,kF,bD⟩)
  cases g
  ·exact hC _ _ ⟨_,l6,rfl,l60,kD,kE,kF,bD⟩
  ·refine⟨by decide,?_⟩
   refine jg9 (λ_=>hC _ _ ⟨_,l6,rfl,l60,kD,kE,kF,bD⟩) (λ_=>hC _ _ ⟨_,l6,rfl,l60,kD,kE,kF,bD⟩)
 obtain⟨g,l6,e,l60,kD,kE,kF,bD⟩:=hV
 subst e
 refine jah (λσ' h' => ∃ (g:Bool) (l6:Int),σ' = [some (.lst p),some (.int (k:Int)),some (.int way),some (.int o),some (.int m),some (.lst R),some (.int (i:Int)),some (.lst S),some (.int (j:Int)),some (.bl g)]/\0<=l6/\h' p=some [.int l6,.int fl]/\h' R=some (rows.map jdt)/\h' S=some (row.map D.int)/\But p h h') (λC hC=> ?_) (λσ' h' hV=> ?_)
 ·simp only [jcg,Nxt,jcK,jcI,jaW,jaX,jaR,dOp,jay,dIs,jcB,dCB,jaK,jb8,jcq,jbd,dC,ja0,jaD,jcm,jcL,jcM,ja1,jcC,jcH,jaY,jcJ,jaZ,dIf,dUn,jcW,dSl,jaq,ja4,jcU,jaC,gN,gT2,ja3,jc3,jc4,jcV,jcQ,jdk,jc5,ja9,jc6,jcr,eqD,neD,eqE,neE,isV,isN,jdh,jat,jdi,jdj,jbe,ixD,jcR,jcS,jcT,jas,jaE,jav,ja2,jcN,slD,jch,jap,G0w,G0M,G0h,G0m,List.replicate,G0z,G0v,G0x,G0y,G0d,G0e,G0n,G0F,D.bl.injEq,D.lst.injEq]
  refine jg9 (λ_=> ?_) (λ_=>hC _ _ ⟨g,l6,rfl,l60,kD,kE,kF,bD⟩)
  cases g
  ·exact hC _ _ ⟨_,l6,rfl,l60,kD,kE,kF,bD⟩
  ·exact hC _ _ ⟨_,l6,rfl,l60,kD,kE,kF,bD⟩
 obtain⟨g,l6,e,l60,kD,kE,kF,bD⟩:=hV
 subst e
 simp only [jcg,Nxt,jcK,jcI,jaW,jaX,jaR,dOp,jay,dIs,jcB,dCB,jaK,jb8,jcq,jbd,dC,ja0,jaD,jcm,jcL,jcM,ja1,jcC,jcH,jaY,jcJ,jaZ,dIf,dUn,jcW,dSl,jaq,ja4,jcU,jaC,gN,gT2,ja3,jc3,jc4,jcV,jcQ,jdk,jc5,ja9,jc6,jcr,eqD,neD,eqE,neE,isV,isN,jdh,jat,jdi,jdj,jbe,ixD,jcR,jcS,jcT,jas,jaE,jav,ja2,jcN,slD,jch,jap,G0w,G0M,G0h,G0m,List.replicate,G0z,G0v,G0x,G0y,G0d,G0e,G0n,G0F,D.bl.injEq,D.lst.injEq]
 refine⟨p,l6,fl,m,rfl,kD,l60,m1,by omega,λr l7 r0 r1 l70=> ?_⟩
 have gi: ∀x:Int,(0<=x/\x<=1)->CMul x (1+r)/\0<=x*(1+r)/\x*(1+r)<=1000000:=λx hx=>by
  have:x=0\/x=1:=by omega
  rcases this with e|e<;>subst e
  ·exact⟨.inl ⟨by decide,by decide⟩,by omega,by omega⟩
  ·exact⟨.inl ⟨by decide,by decide⟩,by omega,by omega⟩
 have gg:=gi (if g=true then 1 else 0) (by cases g<;>decide)
 refine⟨gg.1,_,jag nS kF,?_,_,Sub.refl _,by omega,_,_,l7,row++ [(if g=true then 1 else 0)*(1+r)],rfl,l70,jag (Ne.symm nS) jaa,jag (Ne.symm nSR) (jag nR kE),?_,(bD.put).putNew fS,by simp [g1'],?_⟩
 ·rw [G0c];exact G2d (show row.length<=1000 by omega) (by decide)
 ·rw [jaa,G07];rfl
 ·intro x hx
  rcases G0p.mp hx with z|z
  ·exact g2' x z
  ·rw [G0g.mp z];exact gg.2
set_option maxHeartbeats 2000000 in
theorem jd9 {n:Nat} {f:Addr} {fd:FuncData} (Z:Zs mg) (F:Fun K "_law_is_table" "_law_is_table" jbH f fd) (C__law_whole:jan P w K mg base n "_law_whole" ["_law_thing"] jbJ):FnOk P w K mg base CX0 (n+1) f fd ["_law_thing"] (LSp K jaL):=by
 obtain⟨g_G__law_whole,gd_G__law_whole,G__law_whole,bG__law_whole,kG__law_whole,mG__law_whole⟩:=C__law_whole
 refine F.okJ sc__law_is_table (λds h Q q=>by obtain⟨d,e,ok,q⟩:=q;subst e;rfl) _ (λcdv A outer s H E hr=>(jaf (jee (jpt (jk8 (jcO (jcn (je5 (T:= "tuple") (by decide) rfl Z.isinstance rfl Z.tuple (by decide +kernel) (jv 0)))) (jk7 (jcO (jiZ jhN jhN jam (jaN jbk rfl Z.len G02 (jac (jv 0) jab)) jam))))) (jai (jbM jbl)) jaU) (by exact(jaf (jjW G1h rfl (jcs (jv 0)) (jbW (i:=1) sc__law_is_table.nd rfl (Or.inl rfl)) (jaf (jee (jpt (jk8 (jcO (jcn (je5 (T:= "tuple") (by decide) rfl Z.isinstance rfl Z.tuple (by decide +kernel) (jv 1)))) (jk7 (jbq oq_ne (jaN jbk rfl Z.len G02 (jac (jv 1) jab)) (jaN jbk rfl Z.len G02 (jac (jv 0) jab)) (jax _))))) (jai (jbM jbl)) jaU) (by exact(jai (jee (jcO (jcn (jaN (jhg rfl) rfl Z.all G2l (jac (jlc (i:=2) (js:= [2]) rfl (jaz (by rfl)) (jcs (jv 1)) (by decide) sc__law_is_table.nd rfl (by first|exact Or.inl rfl|exact Or.inr rfl) (λX' hX=>jbB) (λX' hX=>by obtain⟨C,s₀,H₀,ex,rfl⟩:=hX;exact(jkn (jaw G__law_whole hr rfl mG__law_whole kG__law_whole bG__law_whole (jac (jv 2) jab)) (jie (jid jkh (jv 2) jam (jax _)))))) jab)))) (jai (jbM jbl)) jaU))))) (by exact(jai (jbM jbl))))))) ?_
 intro ds h Q q
 obtain⟨d,e,ok,q⟩:=q
 subst e
 obtain⟨nm,hn⟩:=jbQ ok
 refine jah (λσ' h' =>h' =h/\σ' = [some d,none,none]/\ ∃es,d= .tup es/\1<=es.length/\es.length<=6) (λC hC=> ?_) (λσ' h' hV=> ?_)
 ·simp only [jcg,Nxt,jcK,jcI,jaW,jaX,jaR,dOp,jay,dIs,jcB,dCB,jaK,jb8,jcq,jbd,dC,ja0,jaD,jcm,jcL,jcM,ja1,jcC,jcH,jaY,jcJ,jaZ,dIf,dUn,jcW,dSl,jaq,ja4,jcU,jaC,gN,gT2,ja3,jc3,jc4,jcV,jcQ,jdk,jc5,ja9,jc6,jcr,eqD,neD,eqE,neE,isV,isN,jdh,jat,jdi,jdj,jbe,ixD,jcR,jcS,jcT,jas,jaE,jav,ja2,jcN,slD,jch,jap,G0w,G0M,G0h,G0m,List.replicate,G0z,G0v,G0x,G0y,G0d,G0e,G0n,G0F,D.bl.injEq,D.lst.injEq,hn]
  cases d with
  |tup es=>
   cases hn
   simp only [jl6]
   by_cases h1:1<=es.length
   ·by_cases h6:es.length<=6
    ·have h1' :(1:Int)<=es.length:=by omega
     have h6' :(es.length:Int)<=6:=by omega
     simp [h1',h6']
     exact hC _ _ ⟨rfl,rfl,es,rfl,h1,h6⟩
    ·have h1' :(1:Int)<=es.length:=by omega
     have h6' : ¬ (es.length:Int)<=6:=by omega
     simp [h1',h6']
     exact⟨h,Sub.refl h,by simpa [jeT,h1,h6] using q⟩
   ·have h1' : ¬ (1:Int)<=es.length:=by omega
    simp [h1']
    exact⟨h,Sub.refl h,by simpa [jeT,h1] using q⟩
  |_=>cases hn<;>exact⟨h,Sub.refl h,q⟩
 obtain⟨eh,e,es,ed,h1,h6⟩:=hV
 subst eh ed e
 obtain⟨hl,ht⟩:=jeS ok
 have qf: ∀r∈es,jg1 r es.length=false->Q (.bl false) h' :=λr hr z=>by
  have:jeT (.tup es)=false:=by
   simp only [jeT,G0P h1,G0P h6,G2Z]
   rw [List.all_eq_false];exact⟨r,hr,by simp [z]⟩
  rw [<-this];exact q
 refine jah (λσ' h2=> ∃a b,σ' = [some (.tup es),a,b]/\h2=h' /\ ∀r∈es,jg1 r es.length=true) (λC hC=> ?_) (λσ' h2 hV=> ?_)
 rotate_left
 ·obtain⟨a,b,e,e2,hr⟩:=hV
  subst e e2
  simp only [jcg,Nxt,jcK,jcI,jaW,jaX,jaR,dOp,jay,dIs,jcB,dCB,jaK,jb8,jcq,jbd,dC,ja0,jaD,jcm,jcL,jcM,ja1,jcC,jcH,jaY,jcJ,jaZ,dIf,dUn,jcW,dSl,jaq,ja4,jcU,jaC,gN,gT2,ja3,jc3,jc4,jcV,jcQ,jdk,jc5,ja9,jc6,jcr,eqD,neD,eqE,neE,isV,isN,jdh,jat,jdi,jdj,jbe,ixD,jcR,jcS,jcT,jas,jaE,jav,ja2,jcN,slD,jch,jap,G0w,G0M,G0h,G0m,List.replicate,G0z,G0v,G0x,G0y,G0d,G0e,G0n,G0F,D.bl.injEq,D.lst.injEq]
  refine⟨_,Sub.refl _,?_⟩
  have:jeT (.tup es)=true:=by
   simp only [jeT,G0P h1,G0P h6,G2Z]
   exact G0Y.mpr hr
  rw [<-this];exact q
 refine jkm (j:=λ_=>some es) es (λi σ' h2=> ∃a b,σ' = [some (.tup es),a,b]/\h2=h' /\ ∀r∈es.take i,jg1 r es.length=true) (λR' r=>⟨_,rfl,r⟩) (λ_ _ _ _=>rfl) ⟨_,_,rfl,rfl,λr hr=>by simp at hr⟩
  (λσ' h2 ⟨a,b,e,e2,hr⟩=>hC _ _ ⟨a,b,e,e2,λr z=>hr r (by rw [G2T];exact z)⟩) ?_
 rintro i r σ' h2 hi ⟨a,b,e,e2,hr⟩
 subst e e2
 have rm:r∈es:=G0i hi
 have hil:i<es.length:=(G0o.mp hi).1
 obtain⟨rn,hrn⟩:=jbQ (ht r rm)
 show jcg _ _ _ [some (.tup es),some r,b] h2
 refine jah (λσ' h3=>h3=h2/\σ' = [some (.tup es),some r,b]/\ ∃ns,r= .tup ns/\ns.length=es.length) (λC hC=> ?_) (λσ' h3 hV=> ?_)
 ·simp only [jcg,Nxt,jcK,jcI,jaW,jaX,jaR,dOp,jay,dIs,jcB,dCB,jaK,jb8,jcq,jbd,dC,ja0,jaD,jcm,jcL,jcM,ja1,jcC,jcH,jaY,jcJ,jaZ,dIf,dUn,jcW,dSl,jaq,ja4,jcU,jaC,gN,gT2,ja3,jc3,jc4,jcV,jcQ,jdk,jc5,ja9,jc6,jcr,eqD,neD,eqE,neE,isV,isN,jdh,jat,jdi,jdj,jbe,ixD,jcR,jcS,jcT,jas,jaE,jav,ja2,jcN,slD,jch,jap,G0w,G0M,G0h,G0m,List.replicate,G0z,G0v,G0x,G0y,G0d,G0e,G0n,G0F,D.bl.injEq,D.lst.injEq,hrn]
  cases r with
  |tup ns=>
   cases hrn
   simp only [jl6]
   by_cases hk:(ns.length:Int)=es.length
   ·simp [hk]
    exact hC _ _ ⟨rfl,rfl,ns,rfl,by omega⟩
   ·simp [hk]
    exact⟨h2,Sub.refl h2,qf _ rm (by simp [jg1,hk])⟩
  |_=>cases hrn<;>exact⟨h2,Sub.refl h2,qf _ rm rfl⟩
 obtain⟨eh,e,ns,er,hns⟩:=hV
 subst eh e er
 obtain⟨hl2,ht2⟩:=jeS (ht _ rm)
 simp only [jcg,Nxt,jcK,jcI,jaW,jaX,jaR,dOp,jay,dIs,jcB,dCB,jaK,jb8,jcq,jbd,dC,ja0,jaD,jcm,jcL,jcM,ja1,jcC,jcH,jaY,jcJ,jaZ,dIf,dUn,jcW,dSl,jaq,ja4,jcU,jaC,gN,gT2,ja3,jc3,jc4,jcV,jcQ,jdk,jc5,ja9,jc6,jcr,eqD,neD,eqE,neE,isV,isN,jdh,jat,jdi,jdj,jbe,ixD,jcR,jcS,jcT,jas,jaE,jav,ja2,jcN,slD,jch,jap,G0w,G0M,G0h,G0m,List.replicate,G0z,G0v,G0x,G0y,G0d,G0e,G0n,G0F,D.bl.injEq,D.lst.injEq]
 refine jgM (ds:=ns) (h1:=h3) (j:=λ_=>some ns) (λx=> .bl (jkR x)) (G0W (jaA hl2)) rfl (λR r=>⟨.tup ns,rfl,r⟩) (λd hd Q' q' => ?_) (λp hp=> ?_)
 ·obtain⟨nn,hnn⟩:=jbQ (ht2 d hd)
  refine⟨d,rfl,d,nn,rfl,hnn,jhA d,rfl,?_⟩
  cases d with
  |int i=>exact jgH ⟨.int i,rfl,q'⟩
  |_=>exact jer q'
 ·refine⟨p,ns.map jkR,rfl,by rw [jaa];simp,_,rfl,?_⟩
  have hrow:jg1 (.tup ns) es.length=ns.all jkR:=by simp [jg1,hns]
  have e1:(ns.map jkR).all id=ns.all jkR:=by rw [G1U];rfl
  rw [jb1 hp,e1,<-hrow]
  cases hb:jg1 (.tup ns) es.length with
  |true=>
   refine jer ⟨h3,Sub.refl _,by omega,_,_,rfl,rfl,?_⟩
   intro r' hr'
   rw [G1d,hi] at hr'
   rcases G0p.mp hr' with z|z
   ·exact hr r' z
   ·simp at z;subst z;exact hb
  |false=>exact jgH ⟨h3,Sub.refl _,qf _ rm hb⟩
theorem jmZ {x:D} {xs:List D} {lo hi:Option Int} (h:x∈jfB xs lo hi):x∈xs:=G04 (G0O h)
theorem jm0 {xs:List D} {lo hi:Option Int}:(jfB xs lo hi).length<=xs.length:=by unfold jfB;rw [List.length_take,List.length_drop];omega
def okN (n:Nat) (ds:List D):Prop:=ds.length<=n/\ ∀d∈ds,okD d=true
theorem okN.app {m n:Nat} {a b:List D} (x:okN m a) (y:okN n b):okN (m+n) (a++b):=⟨by rw [G0a];have:=x.1;have:=y.1;omega,λd hd=>(G0p.mp hd).elim (x.2 d) (y.2 d)⟩
theorem okN.cut {n:Nat} {a:List D} (x:okN n a) (lo hi:Option Int):okN n (jfB a lo hi):=⟨G01 jm0 x.1,λd hd=>x.2 d (jmZ hd)⟩
theorem okN.one {d:D} (h:okD d=true):okN 1 [d]:=⟨G0k _,λx hx=>by rw [G0g.mp hx];exact h⟩
theorem okN.rev {n:Nat} {a:List D} (x:okN n a):okN n a.reverse:=⟨by rw [G0L];exact x.1,λd hd=>x.2 d (G1a.mp hd)⟩
theorem okN.tup {n:Nat} {a:List D} (x:okN n a) (h:n<=1000:=by decide):okD (.tup a)=true:=jjO (G01 x.1 h) x.2
theorem okN.sz {m n:Nat} {a b:List D} (x:okN m a) (y:okN n b) (h:m+n<=1000:=by decide):a.length+b.length<=sizeLine:=G0W (jaA (by have:=x.1;have:=y.1;omega))
theorem jll {n:Nat} {r:List Int} (g:jdO n r) (h:n<=6):okN 6 (r.map D.int):=⟨by rw [G0c,g.1];exact h,λd hd=>by obtain⟨x,_,rfl⟩:=G05.mp hd;rfl⟩
theorem jpc {n:Nat} {T:List (List Int)} (g:GoodTab n T) (h:n<=6):okN 6 (T.map jdt):=⟨by rw [G0c,g.1];exact h,λd hd=>by obtain⟨x,hx,rfl⟩:=G05.mp hd;exact(jll (g.2 x hx) h).tup⟩
def jbR:RDn:=λds h Q=> ∃p l fl T,∃k:Nat,ds= [.lst p,jaM T]/\h p=some [.int l,.int fl]/\0<=l/\1<=k/\k<=6/\GoodTab k T/\ ∀d l',okD d=true->0<=l' ->Q d (jbp h p [.int l',.int fl])
set_option maxHeartbeats 2000000 in
theorem jdF {n:Nat} {f:Addr} {fd:FuncData} (Z:Zs mg) (F:Fun K "_law_bent_table" "_law_bent_table" jbn f fd) (C__law_draw:jan P w K mg base n "_law_draw" ["_law_pen_here","_law_many"] jbc):FnOk P w K mg base CX0 (n+1) f fd ["_law_pen_here","_law_table_here"] (LSp K jbR):=by
 obtain⟨g_G__law_draw,gd_G__law_draw,G__law_draw,bG__law_draw,kG__law_draw,mG__law_draw⟩:=C__law_draw
 refine F.okJ sc__law_bent_table (λds h Q q=>by obtain⟨p,l,fl,T,k,e,hp,h0,hk1,hk6,gT,q⟩:=q;subst e;rfl) _ (λcdv A outer s H E hr=>(jaf (jbV (i:=2) sc__law_bent_table.nd rfl (Or.inl rfl) (jaN jbk rfl Z.len G02 (jac (jv 1) jab))) (by exact(jaf (jp9 (i:=3) (j:=4) rfl sc__law_bent_table.nd rfl rfl (by decide) rfl rfl (jac (jaw G__law_draw hr rfl mG__law_draw kG__law_draw bG__law_draw (jac (jv 0) (by exact(jac (jv 2) jab)))) (by exact(jac (jaw G__law_draw hr rfl mG__law_draw kG__law_draw bG__law_draw (jac (jv 0) (by exact(jac (jv 2) jab)))) jab))) rfl) (by exact(jaf (jbV (i:=5) sc__law_bent_table.nd rfl (Or.inl rfl) (jix (jb4 (jac (jow jam) (by exact(jac jbl (by exact(jac jjV (by exact(jac jdH (by exact(jac (jbr (jac jam jab)) (by exact(jac (jop jhf jam jam) (by exact(jac jbl (by exact(jac jam (by exact(jac (jb4 (jac jam jab)) (by exact(jac jam jab)))))))))))))))))))) (jaw G__law_draw hr rfl mG__law_draw kG__law_draw bG__law_draw (jac (jv 0) (by exact(jac jam jab)))) (λ_ _=>rfl))) (by exact(jaf (jbV (i:=6) sc__law_bent_table.nd rfl (Or.inl rfl) (jix (jv 1) (jv 3) (λ_ _=>rfl))) (by exact(jaf (jbV (i:=7) sc__law_bent_table.nd rfl (Or.inl rfl) (jb4 (jac (jop jaB (jop jaB (jcX (jv 6) jca (jbC (jv 4))) (jbr (jac (jv 5) jab))) (jcX (jv 6) (jbC (jop jaB (jv 4) jam)) jca)) (by exact(jac (jop jaB (jcX (jv 6) jca (jbC (jv 4))) (jcX (jv 6) (jbC (jop jaB (jv 4) jam)) jca)) (by exact(jac (jop jaB (jv 6) (jbr (jac jam jab))) (by exact(jac (jb9 jiS rfl Z.list (by decide +kernel) (jac (jv 6) jab)) (by exact(jac jjV (by exact(jac jam (by exact(jac (jqM (jv 6)) jab))))))))))))))) (by exact(jaf (jbV (i:=8) sc__law_bent_table.nd rfl (Or.inl rfl) (jix (jv 7) (jix (jb4 (jac jam (by exact(jac jam (by exact(jac jam (by exact(jac jam (by exact(jac jam (by exact(jac jam (by exact(jac jam (by exact(jac jam (by exact(jac jam (by exact(jac jam jab)))))))))))))))))))) (jaw G__law_draw hr rfl mG__law_draw kG__law_draw bG__law_draw (jac (jv 0) (by exact(jac jam jab)))) (λ_ _=>rfl)) (λ_ _=>rfl))) (by exact(jaf (jbV (i:=9) sc__law_bent_table.nd rfl (Or.inl rfl) (jb4 (jac (jop jaB (jop jaB (jcX (jv 1) jca (jbC (jv 3))) (jbr (jac (jv 8) jab))) (jcX (jv 1) (jbC (jop jaB (jv 3) jam)) jca)) (by exact(jac (jop jaB (jcX (jv 1) jca (jbC (jv 3))) (jcX (jv 1) (jbC (jop jaB (jv 3) jam)) jca)) (by exact(jac (jop jaB (jv 1) (jcX (jv 1) jca (jbC jam))) (by exact(jac (jb9 jiS rfl Z.list (by decide +kernel) (jac (jv 1) jab)) jab))))))))) (by exact(jai (jbM (jix (jop jaB (jv 9) (jb4 (jac (jbr (jac (jv 1) jab)) (by exact(jac jjV (by exact(jac (jqM (jv 1)) jab))))))) (jix (jb4 (jac jam (by exact(jac jam (by exact(jac jam (by exact(jac jam (by exact(jac jam (by exact(jac jam (by exact(jac jam (by exact(jac jam (by exact(jac jam (by exact(jac jam (by exact(jac jam jab)))))))))))))))))))))) (jaw G__law_draw hr rfl mG__law_draw kG__law_draw bG__law_draw (jac (jv 0) (by exact(jac jam jab)))) (λ_ _=>rfl)) (λ_ _=>rfl))))))))))))))))))) ?_
 intro ds h Q q
 obtain⟨p,l,fl,T,k,e,hp,h0,hk1,hk6,gT,q⟩:=q
 subst e
 have oT:=jpc gT hk6
 have hTl:((T.map jdt).length:Int)=k:=by rw [G0c,gT.1]
 refine jah (λσ' h' =>σ' = [some (.lst p),some (jaM T),some (.int (k:Int)),none,none,none,none,none,none,none]/\h' =h) (λC hC=> ?_) (λσ' h' hV=> ?_)
 ·simp only [jcg,Nxt,jcK,jcI,jaW,jaX,jaR,dOp,jay,dIs,jcB,dCB,jaK,jb8,jcq,jbd,dC,ja0,jaD,jcm,jcL,jcM,ja1,jcC,jcH,jaY,jcJ,jaZ,dIf,dUn,jcW,dSl,jaq,ja4,jcU,jaC,gN,gT2,ja3,jc3,jc4,jcV,jcQ,jdk,jc5,ja9,jc6,jcr,eqD,neD,eqE,neE,isV,isN,jdh,jat,jdi,jdj,jbe,ixD,jcR,jcS,jcT,jas,jaE,jav,ja2,jcN,slD,jch,jap,G0w,G0M,G0h,G0m,List.replicate,G0z,G0v,G0x,G0y,G0d,G0e,G0n,G0F,D.bl.injEq,D.lst.injEq,jaM]
  rw [hTl]
  exact hC _ _ ⟨rfl,rfl⟩
 obtain⟨e,eh⟩:=hV
 subst e eh
 refine jah (λσ' h2=> ∃ (a:Nat) (b l2:Int),σ' = [some (.lst p),some (jaM T),some (.int (k:Int)),some (.int (a:Int)),some (.int b),none,none,none,none,none]/\a<k/\0<=l2/\h2 p=some [.int l2,.int fl]/\But p h' h2) (λC hC=> ?_) (λσ' h2 hV=> ?_)
 ·simp only [jcg,Nxt,jcK,jcI,jaW,jaX,jaR,dOp,jay,dIs,jcB,dCB,jaK,jb8,jcq,jbd,dC,ja0,jaD,jcm,jcL,jcM,ja1,jcC,jcH,jaY,jcJ,jaZ,dIf,dUn,jcW,dSl,jaq,ja4,jcU,jaC,gN,gT2,ja3,jc3,jc4,jcV,jcQ,jdk,jc5,ja9,jc6,jcr,eqD,neD,eqE,neE,isV,isN,jdh,jat,jdi,jdj,jbe,ixD,jcR,jcS,jcT,jas,jaE,jav,ja2,jcN,slD,jch,jap,G0w,G0M,G0h,G0m,List.replicate,G0z,G0v,G0x,G0y,G0d,G0e,G0n,G0F,D.bl.injEq,D.lst.injEq]
  refine⟨p,l,fl,(k:Int),rfl,hp,h0,by omega,by omega,λa l1 a0 a1 l10=> ?_⟩
  refine⟨p,l1,fl,(k:Int),rfl,jaa,l10,by omega,by omega,λb l2 b0 b1 l20=> ?_⟩
  exact⟨_,_,rfl,hC _ _ ⟨a.toNat,b,l2,by rw [Int.toNat_of_nonneg a0],by omega,l20,jaa,But.upd.put⟩⟩
 obtain⟨a,b,l2,e,ha,l20,kp,bp⟩:=hV
 subst e
 refine jah (λσ' h2=> ∃ (off:D) (l3:Int),σ' = [some (.lst p),some (jaM T),some (.int (k:Int)),some (.int (a:Int)),some (.int b),some off,none,none,none,none]/\okD off=true/\0<=l3/\h2 p=some [.int l3,.int fl]/\But p h' h2) (λC hC=> ?_) (λσ' h2 hV=> ?_)
 ·simp only [jcg,Nxt,jcK,jcI,jaW,jaX,jaR,dOp,jay,dIs,jcB,dCB,jaK,jb8,jcq,jbd,dC,ja0,jaD,jcm,jcL,jcM,ja1,jcC,jcH,jaY,jcJ,jaZ,dIf,dUn,jcW,dSl,jaq,ja4,jcU,jaC,gN,gT2,ja3,jc3,jc4,jcV,jcQ,jdk,jc5,ja9,jc6,jcr,eqD,neD,eqE,neE,isV,isN,jdh,jat,jdi,jdj,jbe,ixD,jcR,jcS,jcT,jas,jaE,jav,ja2,jcN,slD,jch,jap,G0w,G0M,G0h,G0m,List.replicate,G0z,G0v,G0x,G0y,G0d,G0e,G0n,G0F,D.bl.injEq,D.lst.injEq]
  repeat (first|intro _|refine⟨by decide,?_⟩|refine⟨⟨by decide,by decide,by decide⟩,?_⟩)
  rename_i p1 e1 p2 e2
  refine⟨p,l2,fl,10,rfl,jad (jad kp e1) e2,l20,by decide,by decide,λr l3 r0 r1 l30=> ?_⟩
  obtain⟨d,hd,ed⟩:=jbU (xs:= [D.int (-1),D.bl true,D.non,D.str (Str.ofString "0"),D.tup [D.int 0],D.int (10^Int.toNat 30),D.bl false,D.int 0,D.lst p1,D.int 1]) r0 r1
  exact⟨_,d,jag (jao (jad kp e1) e2) jaa,ed,hC _ _ ⟨d,l3,rfl,jdB (by rfl) d hd,l30,jaa,((bp.new e1).new e2).put⟩⟩
 obtain⟨off,l3,e,ooff,l30,kp,bp⟩:=hV
 subst e
 refine jah (λσ' h3=> ∃r,σ' = [some (.lst p),some (jaM T),some (.int (k:Int)),some (.int (a:Int)),some (.int b),some off,some (jdt r),none,none,none]/\jdO k r/\h3=h2) (λC hC=> ?_) (λσ' h3 hV=> ?_)
 ·simp only [jcg,Nxt,jcK,jcI,jaW,jaX,jaR,dOp,jay,dIs,jcB,dCB,jaK,jb8,jcq,jbd,dC,ja0,jaD,jcm,jcL,jcM,ja1,jcC,jcH,jaY,jcJ,jaZ,dIf,dUn,jcW,dSl,jaq,ja4,jcU,jaC,gN,gT2,ja3,jc3,jc4,jcV,jcQ,jdk,jc5,ja9,jc6,jcr,eqD,neD,eqE,neE,isV,isN,jdh,jat,jdi,jdj,jbe,ixD,jcR,jcS,jcT,jas,jaE,jav,ja2,jcN,slD,jch,jap,G0w,G0M,G0h,G0m,List.replicate,G0z,G0v,G0x,G0y,G0d,G0e,G0n,G0F,D.bl.injEq,D.lst.injEq,jaM]
  have haT:a<T.length:=by rw [gT.1];exact ha
  have hr:T[a]? =some T[a]:=G0b haT
  exact⟨jdt T[a],jb6 (by rw [G0H,hr];rfl),hC _ _ ⟨T[a],rfl,gT.2 _ (G1g haT),rfl⟩⟩
 obtain⟨r,e,gr,eh⟩:=hV
 subst e eh
 have oR:=jll gr hk6
 refine jah (λσ' h4=> ∃RW ds,σ' = [some (.lst p),some (jaM T),some (.int (k:Int)),some (.int (a:Int)),some (.int b),some off,some (jdt r),some (.lst RW),none,none]/\h4 RW=some ds/\ds.length=7/\(∀d∈ds,okD d=true)/\RW≠p/\h4 p=some [.int l3,.int fl]/\But p h' h4) (λC hC=> ?_) (λσ' h4 hV=> ?_)
 ·refine⟨_,rfl,_,rfl,_,rfl,_,rfl,(by show 1<=sizeLine;decide),(oR.cut _ _).sz (okN.one ooff),_,rfl,_,rfl,_,rfl,((oR.cut _ _).app (okN.one ooff)).sz (oR.cut _ _),_,rfl,_,rfl,_,rfl,_,rfl,_,rfl,_,rfl,(oR.cut _ _).sz (oR.cut _ _),_,rfl,(by show 1<=sizeLine;decide),oR.sz (okN.one rfl),_,rfl,λp1 e1=>⟨_,rfl,_,rfl,(by show 7<=sizeLine;decide),λp2 e2=> ?_⟩⟩
  refine hC _ _ ⟨p2,_,rfl,jaa,rfl,?_,jao (jad kp e1) e2,jad (jad kp e1) e2,(bp.new e1).new e2⟩
  intro d hd
  simp only [G0r,G0U,G10] at hd
  rcases hd with e|e|e|e|e|e|e<;>subst e
  ·exact(((oR.cut _ _).app (okN.one ooff)).app (oR.cut _ _)).tup
  ·exact((oR.cut _ _).app (oR.cut _ _)).tup
  ·exact(oR.app (okN.one rfl)).tup
  ·rfl
  ·rfl
  ·rfl
  ·exact oR.rev.tup
 obtain⟨RW,rs,e,kRW,lRW,oRW,nRW,kp,bp⟩:=hV
 subst e
 refine jah (λσ' h4=> ∃ (hr:D) (l4:Int),σ' = [some (.lst p),some (jaM T),some (.int (k:Int)),some (.int (a:Int)),some (.int b),some off,some (jdt r),some (.lst RW),some hr,none]/\okD hr=true/\0<=l4/\h4 p=some [.int l4,.int fl]/\But p h' h4) (λC hC=> ?_) (λσ' h4 hV=> ?_)
 ·simp only [jcg,Nxt,jcK,jcI,jaW,jaX,jaR,dOp,jay,dIs,jcB,dCB,jaK,jb8,jcq,jbd,dC,ja0,jaD,jcm,jcL,jcM,ja1,jcC,jcH,jaY,jcJ,jaZ,dIf,dUn,jcW,dSl,jaq,ja4,jcU,jaC,gN,gT2,ja3,jc3,jc4,jcV,jcQ,jdk,jc5,ja9,jc6,jcr,eqD,neD,eqE,neE,isV,isN,jdh,jat,jdi,jdj,jbe,ixD,jcR,jcS,jcT,jas,jaE,jav,ja2,jcN,slD,jch,jap,G0w,G0M,G0h,G0m,List.replicate,G0z,G0v,G0x,G0y,G0d,G0e,G0n,G0F,D.bl.injEq,D.lst.injEq]
  refine⟨by decide,λp1 e1=>⟨p,l3,fl,10,rfl,jad kp e1,l30,by decide,by decide,λx l4 r0 r1 l40=> ?_⟩⟩
  obtain⟨ix,hix,eix⟩:=jbU (xs:= [D.int 0,D.int 0,D.int 0,D.int 0,D.int 1,D.int 2,D.int 3,D.int 4,D.int 5,D.int 6]) r0 r1
  refine⟨_,ix,jag (jao kp e1) jaa,eix,?_⟩
  obtain⟨y,e,y0,y1⟩: ∃y:Int,ix= .int y/\0<=y/\y<7:=by
   simp only [G0r,G0U,G10] at hix
   rcases hix with e|e|e|e|e|e|e|e|e|e<;>exact⟨_,e,by decide,by decide⟩
  subst e
  obtain⟨d,hd,ed⟩:=jbU (xs:=rs) y0 (by rw [lRW];exact y1)
  exact⟨rs,d,jag nRW (jad kRW e1),ed,hC _ _ ⟨d,l4,rfl,oRW d hd,l40,jaa,(bp.new e1).put⟩⟩
 obtain⟨hr,l4,e,ohr,l40,kp,bp⟩:=hV
 subst e
 refine jah (λσ' h5=> ∃TH ds,σ' = [some (.lst p),some (jaM T),some (.int (k:Int)),some (.int (a:Int)),some (.int b),some off,some (jdt r),some (.lst RW),some hr,some (.lst TH)]/\h5 TH=some ds/\ds.length=4/\(∀d∈ds,okD d=true)/\h5 p=some [.int l4,.int fl]/\But p h' h5) (λC hC=> ?_) (λσ' h5 hV=> ?_)
 ·refine⟨_,rfl,_,rfl,_,rfl,_,rfl,(by show 1<=sizeLine;decide),(oT.cut _ _).sz (okN.one ohr),_,rfl,_,rfl,_,rfl,((oT.cut _ _).app (okN.one ohr)).sz (oT.cut _ _),_,rfl,_,rfl,_,rfl,_,rfl,_,rfl,_,rfl,(oT.cut _ _).sz (oT.cut _ _),_,rfl,_,rfl,_,rfl,oT.sz (oT.cut _ _),_,rfl,λp1 e1=>⟨(by show 4<=sizeLine;decide),λp2 e2=> ?_⟩⟩
  refine hC _ _ ⟨p2,_,rfl,jaa,rfl,?_,jad (jad kp e1) e2,(bp.new e1).new e2⟩
  intro d hd
  simp only [G0r,G0U,G10] at hd
  rcases hd with e|e|e|e<;>subst e
  ·exact(((oT.cut _ _).app (okN.one ohr)).app (oT.cut _ _)).tup
  ·exact((oT.cut _ _).app (oT.cut _ _)).tup
  ·exact(oT.app (oT.cut _ _)).tup
  ·rfl
 obtain⟨TH,ts,e,kTH,lTH,oTH,kp,bp⟩:=hV
 subst e
 refine⟨_,rfl,_,rfl,(by show 1<=sizeLine;decide),_,rfl,_,rfl,(by show 3<=sizeLine;decide),λp1 e1=>⟨_,_,jad kTH e1,jaa,?_,λp2 e2=>⟨(by decide),λp3 e3=> ?_⟩⟩⟩
 ·rw [lTH];show 4+3<=sizeLine;decide
 refine⟨_,rfl,p,l4,fl,11,rfl,jad (jad (jad kp e1) e2) e3,l40,by decide,by decide,λx l5 r0 r1 l50=> ?_⟩
 obtain⟨ix,hix,eix⟩:=jbU (xs:= [D.int 0,D.int 0,D.int 0,D.int 0,D.int 0,D.int 1,D.int 2,D.int 3,D.int 4,D.int 5,D.int 6]) r0 r1
 refine⟨_,ix,jag (jao (jad (jad kp e1) e2) e3) jaa,eix,?_⟩
 obtain⟨y,e,y0,y1⟩: ∃y:Int,ix= .int y/\0<=y/\y<7:=by
  simp only [G0r,G0U,G10] at hix
  rcases hix with e|e|e|e|e|e|e|e|e|e|e<;>exact⟨_,e,by decide,by decide⟩
 subst e
 obtain⟨d,hd,ed⟩:=jbU (xs:=ts++ [D.tup [D.tup (T.map jdt)],D.non,D.tup (T.map jdt).reverse]) y0 (by rw [G0a,lTH];exact y1)
 refine⟨_,d,jag (jao (jad kp e1) e2) (jad jaa e3),ed,_,(((bp.new e1).new e2).new e3).put.sub jaa,q d l5 ?_ l50⟩
 rcases G0p.mp hd with z|z
 ·exact oTH d z
 ·simp only [G0r,G0U,G10] at z
  rcases z with e|e|e<;>subst e
  ·exact(okN.one oT.tup).tup
  ·rfl
  ·exact oT.rev.tup
def jck:RDn:=λds h Q=> ∃p l fl,ds= [.lst p]/\h p=some [.int l,.int fl]/\0<=l/\ ∀d l' h',okD d=true->jeT d=false->But p h h' ->h' p=some [.int l',.int fl]->0<=l' ->Q d h'
set_option maxHeartbeats 8000000 in
theorem jea {n:Nat} {f:Addr} {fd:FuncData} (Z:Zs mg) (F:Fun K "_law_no_table" "_law_no_table" jbI f fd) (C__law_draw:jan P w K mg base n "_law_draw" ["_law_pen_here","_law_many"] jbc):FnOk P w K mg base CX0 (n+1) f fd ["_law_pen_here"] (LSp K jck):=by
 obtain⟨g_G__law_draw,gd_G__law_draw,G__law_draw,bG__law_draw,kG__law_draw,mG__law_draw⟩:=C__law_draw
 refine F.okJ sc__law_no_table (λds h Q q=>by obtain⟨p,l,fl,e,hp,h0,q⟩:=q;subst e;rfl) _ (λcdv A outer s H E hr=>(jaf (jbV (i:=1) sc__law_no_table.nd rfl (Or.inl rfl) (jb4 (jac jjV (by exact(jac jam (by exact(jac (jbr jab) (by exact(jac (jb4 jab) (by exact(jac (jbr (jac jam jab)) (by exact(jac (jbr (jac (jbr jab) jab)) (by exact(jac (jbr (jac (jbr (jac jam jab)) (by exact(jac (jbr (jac jam jab)) jab)))) (by exact(jac (jbr (jac (jbr (jac jam (by exact(jac jam jab)))) jab)) (by exact(jac (jbr (jac (jbr (jac (jow jam) jab)) jab)) (by exact(jac (jbr (jac (jbr (jac jbl jab)) jab)) (by exact(jac (jb4 (jac (jb4 (jac jam jab)) jab)) (by exact(jac (jbr (jac (jbr (jac jjV jab)) jab)) (by exact(jac jdH jab))))))))))))))))))))))))))) (by exact(jai (jbM (jix (jop jaB (jv 1) (jb4 (jac (jbr (jac (jbr (jac jbl jab)) jab)) (by exact(jac (jop jbs (jbr (jac (jop jbs (jbr (jac jam jab)) jam) jab)) jam) (by exact(jac (jbr (jac (jb4 (jac jam jab)) jab)) (by exact(jac (jbr (jac (jbr (jac (jbr (jac jam jab)) jab)) jab)) (by exact(jac jla jab))))))))))) (jaw G__law_draw hr rfl mG__law_draw kG__law_draw bG__law_draw (jac (jv 0) (by exact(jac jam jab)))) (λ_ _=>rfl))))))) ?_
 intro ds h Q q
 obtain⟨p,l,fl,e,hp,h0,q⟩:=q
 subst e
 simp only [jcg,Nxt,jcK,jcI,jaW,jaX,jaR,dOp,jay,dIs,jcB,dCB,jaK,jb8,jcq,jbd,dC,ja0,jaD,jcm,jcL,jcM,ja1,jcC,jcH,jaY,jcJ,jaZ,dIf,dUn,jcW,dSl,jaq,ja4,jcU,jaC,gN,gT2,ja3,jc3,jc4,jcV,jcQ,jdk,jc5,ja9,jc6,jcr,eqD,neD,eqE,neE,isV,isN,jdh,jat,jdi,jdj,jbe,ixD,jcR,jcS,jcT,jas,jaE,jav,ja2,jcN,slD,jch,jap,G0w,G0M,G0h,G0m,List.replicate,G0z,G0v,G0x,G0y,G0d,G0e,G0n,G0F,D.bl.injEq,D.lst.injEq,hp]
 repeat (first|intro _|refine⟨by decide,?_⟩|refine⟨⟨by decide,by decide,by decide⟩,?_⟩)
 rename_i p1 e1 p2 e2 p3 e3 p4 e4 p5 e5 p6 e6
 have k1:=jad (M:= []) hp e1
 have k2:=jad (M:= [.int 1]) k1 e2
 have k3:=jad (M:= [.lst p2]) k2 e3
 refine⟨_,_,jad (jad jaa e5) e6,jaa,by simp only [G0h,G0m];decide,λp7 e7=> ?_⟩
 refine⟨p,l,fl,18,rfl,jad (jad (jad (jad k3 e4) e5) e6) e7,h0,by decide,by decide,λr l' r0 r1 l0=> ?_⟩
 obtain⟨d,hd,ed⟩:=jbU (xs:= [D.non,D.int 0,D.tup [],D.lst p1,D.tup [D.int 0],D.tup [D.tup []],D.tup [D.tup [D.int 1],D.tup [D.int 1]],D.tup [D.tup [D.int 0,D.int 1]],D.tup [D.tup [D.int (-1)]],D.tup [D.tup [D.bl true]],D.lst p3,D.tup [D.tup [D.non]],D.str (Str.ofString "1")]++ [D.tup [D.tup [D.bl false]],D.tup (List.replicate (Int.toNat 7) [D.tup (List.replicate (Int.toNat 7) [D.int 0]).flatten]).flatten,D.tup [D.lst p5],D.tup [D.tup [D.tup [D.int 0]]],D.dic (Str.ofString "a") 1]) r0 r1
 refine⟨_,d,jag (jao (jad (jad (jad k3 e4) e5) e6) e7) jaa,ed,_,Sub.refl _,q d l' _ (jdB ?_ d hd) ?_ (((((((But.refl p h).new e1).new e2).new e3).new e4).new e5).new e6 |>.new e7).put jaa l0⟩
 ·rfl
 ·simp only [G0p,G0r,G0U,G10] at hd
  rcases hd with (e|e|e|e|e|e|e|e|e|e|e|e|e)|e|e|e|e|e<;>subst e<;>rfl
def jdG:RDn:=λds h Q=> ∃d,∃ws:List Str,ds= [d]/\((okD d=true/\jeT d=false/\ws=(["table","table","table","table","table"]:List Str))\/(∃T,∃n e:Nat,d=jaM T/\Sq n e T/\1<=n/\n<=6/\(((jfX T n).length≠1/\ws=(["told","told","told","apart","apart"]:List Str))\/((jfX T n).length=1/\jia T n=0/\ws=(["told","told","told","told","apart"]:List Str))))\/(d=jaM [[1]]/\ws=(["told","told","told","told","told"]:List Str)))/\ ∀F h',h F=none->h' F=some (ws.map D.str)->Sub h h' ->Q (.lst F) h'
set_option maxHeartbeats 8000000 in
theorem jfW {n:Nat} {f:Addr} {fd:FuncData} (Z:Zs mg) (B:Bm mg base) (a:PySem.W.nsIn K mainGlobals "_law_words" =some (some (.ref f))) (TX: ∃c P,PySem.W.tabIn K "_law_words" =some (c,P)/\PySem.W.codeHdIn K c P=true) (F:Fun K "_law_words" "_law_words" jaO f fd) (CT_is_round:jan P w K mg base n "is_round" ["table","thing"] jeX) (CT_all_rounds:jan P w K mg base n "all_rounds" ["table"] jce) (CT_turns_hold:jan P w K mg base n "turns_hold" ["table","thing"] jdD) (CT_beat:jan P w K mg base n "beat" ["table"] jfQ) (CT_turns_of:jan P w K mg base n "turns_of" ["table"] jeY) (CR_is_round:jbh P w K mg base n "is_round" ["table","thing"] jd1) (CR_all_rounds:jbh P w K mg base n "all_rounds" ["table"] jbY) (CR_turns_hold:jbh P w K mg base n "turns_hold" ["table","thing"] jc0) (CR_beat:jbh P w K mg base n "beat" ["table"] jfR) (CR_turns_of:jbh P w K mg base n "turns_of" ["table"] jd2) (CS:joI P w K mg base n):FnOk P w K mg base CX0 ((n+2)+1) f fd ["_law_table_here"] (LSp K jdG):=by
 obtain⟨g_GL_is_round,gd_GL_is_round,GL_is_round,bGL_is_round,kGL_is_round,mGL_is_round⟩:=CT_is_round
 obtain⟨g_GL_all_rounds,gd_GL_all_rounds,GL_all_rounds,bGL_all_rounds,kGL_all_rounds,mGL_all_rounds⟩:=CT_all_rounds
 obtain⟨g_GL_turns_hold,gd_GL_turns_hold,GL_turns_hold,bGL_turns_hold,kGL_turns_hold,mGL_turns_hold⟩:=CT_turns_hold
 obtain⟨g_GL_beat,gd_GL_beat,GL_beat,bGL_beat,kGL_beat,mGL_beat⟩:=CT_beat
 obtain⟨g_GL_turns_of,gd_GL_turns_of,GL_turns_of,bGL_turns_of,kGL_turns_of,mGL_turns_of⟩:=CT_turns_of
 obtain⟨g_GR_is_round,gd_GR_is_round,GR_is_round,bGR_is_round,kGR_is_round,mGR_is_round⟩:=CR_is_round
 obtain⟨g_GR_all_rounds,gd_GR_all_rounds,GR_all_rounds,bGR_all_rounds,kGR_all_rounds,mGR_all_rounds⟩:=CR_all_rounds
 obtain⟨g_GR_turns_hold,gd_GR_turns_hold,GR_turns_hold,bGR_turns_hold,kGR_turns_hold,mGR_turns_hold⟩:=CR_turns_hold
 obtain⟨g_GR_beat,gd_GR_beat,GR_beat,bGR_beat,kGR_beat,mGR_beat⟩:=CR_beat
 obtain⟨g_GR_turns_of,gd_GR_turns_of,GR_turns_of,bGR_turns_of,kGR_turns_of,mGR_turns_of⟩:=CR_turns_of
 obtain⟨gS,gdS,GS,bGS,kGS,mGS⟩:=CS
 obtain⟨tc,tP,T,tH⟩:=TX
 have hTK:TabK K tP:=⟨"_law_words",by decide,tc,T⟩
 refine F.okJL a T sc__law_words (λds h Q q=>by obtain⟨d,ws,e,q0,q⟩:=q;subst e;rfl) _ (λA outer s H E hr=>(jaf (jbV (i:=1) sc__law_words.nd rfl (Or.inl rfl) (jb4 (jac (jix (jjo GS hr rfl mGS kGS bGS B rfl tH hTK (jgg rfl (by decide +kernel)) (jeH (by show jh0 _ (jae jaO)=true;decide +kernel)) (λ_ _ _ _ _ _ _ _ _ hr=>(jaw GL_is_round hr rfl mGL_is_round kGL_is_round bGL_is_round (jac (jv 0) (by exact(jac jjV jab))))) (λ_ _ _ _ _ _ _ _ _ hr=>(jbm GR_is_round hr rfl mGR_is_round kGR_is_round bGR_is_round (jac (jv 0) (by exact(jac jjV jab)))))) jam (λ_ _=>rfl)) jab))) (by exact(jaf (jeC (jme (jv 1) (jix (jjo GS hr rfl mGS kGS bGS B rfl tH hTK (jgg rfl (by decide +kernel)) (jeH (by show jh0 _ (jae jaO)=true;decide +kernel)) (λ_ _ _ _ _ _ _ _ _ hr=>(jaw GL_all_rounds hr rfl mGL_all_rounds kGL_all_rounds bGL_all_rounds (jac (jv 0) jab))) (λ_ _ _ _ _ _ _ _ _ hr=>(jbm GR_all_rounds hr rfl mGR_all_rounds kGR_all_rounds bGR_all_rounds (jac (jv 0) jab)))) jam (λ_ _=>rfl)))) (by exact(jaf (jeC (jme (jv 1) (jix (jjo GS hr rfl mGS kGS bGS B rfl tH hTK (jgg rfl (by decide +kernel)) (jeH (by show jh0 _ (jae jaO)=true;decide +kernel)) (λ_ _ _ _ _ _ _ _ _ hr=>(jaw GL_turns_hold hr rfl mGL_turns_hold kGL_turns_hold bGL_turns_hold (jac (jv 0) (by exact(jac jjV jab))))) (λ_ _ _ _ _ _ _ _ _ hr=>(jbm GR_turns_hold hr rfl mGR_turns_hold kGR_turns_hold bGR_turns_hold (jac (jv 0) (by exact(jac jjV jab)))))) jam (λ_ _=>rfl)))) (by exact(jaf (jeC (jme (jv 1) (jix (jjo GS hr rfl mGS kGS bGS B rfl tH hTK (jgg rfl (by decide +kernel)) (jeH (by show jh0 _ (jae jaO)=true;decide +kernel)) (λ_ _ _ _ _ _ _ _ _ hr=>(jaw GL_beat hr rfl mGL_beat kGL_beat bGL_beat (jac (jv 0) jab))) (λ_ _ _ _ _ _ _ _ _ hr=>(jbm GR_beat hr rfl mGR_beat kGR_beat bGR_beat (jac (jv 0) jab)))) jam (λ_ _=>rfl)))) (by exact(jaf (jeC (jme (jv 1) (jix (jjo GS hr rfl mGS kGS bGS B rfl tH hTK (jgg rfl (by decide +kernel)) (jeH (by show jh0 _ (jae jaO)=true;decide +kernel)) (λ_ _ _ _ _ _ _ _ _ hr=>(jaw GL_turns_of hr rfl mGL_turns_of kGL_turns_of bGL_turns_of (jac (jv 0) jab))) (λ_ _ _ _ _ _ _ _ _ hr=>(jbm GR_turns_of hr rfl mGR_turns_of kGR_turns_of bGR_turns_of (jac (jv 0) jab)))) jam (λ_ _=>rfl)))) (by exact(jai (jbM (jv 1)))))))))))))) ?_
 intro ds h Q q
 obtain⟨d,ws,e,q0,q⟩:=q
 subst e
 rcases q0 with ⟨ok,bad,rfl⟩|⟨T,n,b,rfl,hT,h1,h6,⟨no,rfl⟩|⟨one,b0,rfl⟩⟩|⟨rfl,rfl⟩
 ·refine jah (λσ' h' => ∃F,σ' = [some d,some (.lst F)]/\h F=none/\Sub h h' /\h' F=some ((["table"]:List Str).map D.str)) (λC hC=> .inr ⟨_,rfl,d,.non,rfl,ok,bad,by decide,_,rfl,(by show 1<=sizeLine;decide),λF eF=>hC _ _ ⟨F,rfl,eF,Sub.newAt (Sub.refl h) eF,jaa⟩⟩) ?_
  rintro _ h1' ⟨F,rfl,fF,sb,kF⟩
  refine jah (λσ' h' =>σ' = [some d,some (.lst F)]/\Sub h h' /\h' F=some ((["table","table"]:List Str).map D.str)) (λC hC=>⟨_,rfl,F,rfl,.inr ⟨_,rfl,d,rfl,ok,bad,by decide,_,rfl,_,kF,(by show 1<sizeLine;decide),hC _ _ ⟨rfl,λx ds e=>jag (λz=>by rw [z,fF] at e;cases e) (sb x ds e),jaa⟩⟩⟩) ?_
  clear sb kF
  rintro _ h2' ⟨rfl,sb,kF⟩
  refine jah (λσ' h' =>σ' = [some d,some (.lst F)]/\Sub h h' /\h' F=some ((["table","table","table"]:List Str).map D.str)) (λC hC=>⟨_,rfl,F,rfl,.inr ⟨_,rfl,d,.non,rfl,ok,bad,by decide,_,rfl,_,kF,(by show 2<sizeLine;decide),hC _ _ ⟨rfl,λx ds e=>jag (λz=>by rw [z,fF] at e;cases e) (sb x ds e),jaa⟩⟩⟩) ?_
  clear sb kF
  rintro _ h3' ⟨rfl,sb,kF⟩
  refine jah (λσ' h' =>σ' = [some d,some (.lst F)]/\Sub h h' /\h' F=some ((["table","table","table","table"]:List Str).map D.str)) (λC hC=>⟨_,rfl,F,rfl,.inr ⟨_,rfl,d,rfl,.inl ⟨ok,bad,by decide,_,rfl,_,kF,(by show 3<sizeLine;decide),hC _ _ ⟨rfl,λx ds e=>jag (λz=>by rw [z,fF] at e;cases e) (sb x ds e),jaa⟩⟩⟩⟩) ?_
  clear sb kF
  rintro _ h4' ⟨rfl,sb,kF⟩
  refine jah (λσ' h' =>σ' = [some d,some (.lst F)]/\Sub h h' /\h' F=some ((["table","table","table","table","table"]:List Str).map D.str)) (λC hC=>⟨_,rfl,F,rfl,.inr ⟨_,rfl,d,rfl,.inl ⟨ok,bad,by decide,_,rfl,_,kF,(by show 4<sizeLine;decide),hC _ _ ⟨rfl,λx ds e=>jag (λz=>by rw [z,fF] at e;cases e) (sb x ds e),jaa⟩⟩⟩⟩) ?_
  clear sb kF
  rintro _ h5' ⟨rfl,sb,kF⟩
  exact⟨_,rfl,h5',Sub.refl _,q F h5' fF kF sb⟩
 ·refine jah (λσ' h' => ∃F,σ' = [some (jaM T),some (.lst F)]/\h F=none/\Sub h h' /\h' F=some ((["told"]:List Str).map D.str)) (λC hC=> .inl ⟨_,rfl,T,n,b,rfl,hT,h1,h6,_,rfl,(by show 1<=sizeLine;decide),λF eF=>hC _ _ ⟨F,rfl,eF,Sub.newAt (Sub.refl h) eF,jaa⟩⟩) ?_
  rintro _ h1' ⟨F,rfl,fF,sb,kF⟩
  refine jah (λσ' h' =>σ' = [some (jaM T),some (.lst F)]/\Sub h h' /\h' F=some ((["told","told"]:List Str).map D.str)) (λC hC=>⟨_,rfl,F,rfl,.inl ⟨_,rfl,T,n,b,rfl,hT,h1,h6,λA h' fA kA sb' =>⟨_,rfl,_,sb' _ _ kF,(by show 1<sizeLine;decide),hC _ _ ⟨rfl,λx ds e=>jag (λz=>by rw [z,fF] at e;cases e) (sb' x ds (sb x ds e)),jaa⟩⟩⟩⟩) ?_
  clear sb kF
  rintro _ h2' ⟨rfl,sb,kF⟩
  refine jah (λσ' h' =>σ' = [some (jaM T),some (.lst F)]/\Sub h h' /\h' F=some ((["told","told","told"]:List Str).map D.str)) (λC hC=>⟨_,rfl,F,rfl,.inl ⟨_,rfl,T,n,b,rfl,hT,h1,h6,_,rfl,_,kF,(by show 2<sizeLine;decide),hC _ _ ⟨rfl,λx ds e=>jag (λz=>by rw [z,fF] at e;cases e) (sb x ds e),jaa⟩⟩⟩) ?_
  clear sb kF
  rintro _ h3' ⟨rfl,sb,kF⟩
  refine jah (λσ' h' =>σ' = [some (jaM T),some (.lst F)]/\Sub h h' /\h' F=some ((["told","told","told","apart"]:List Str).map D.str)) (λC hC=>⟨_,rfl,F,rfl,.inr ⟨_,rfl,_,rfl,.inr ⟨T,n,b,rfl,hT,h1,h6,no,by decide,_,rfl,_,kF,(by show 3<sizeLine;decide),hC _ _ ⟨rfl,λx ds e=>jag (λz=>by rw [z,fF] at e;cases e) (sb x ds e),jaa⟩⟩⟩⟩) ?_
  clear sb kF
  rintro _ h4' ⟨rfl,sb,kF⟩
  refine jah (λσ' h' =>σ' = [some (jaM T),some (.lst F)]/\Sub h h' /\h' F=some ((["told","told","told","apart","apart"]:List Str).map D.str)) (λC hC=>⟨_,rfl,F,rfl,.inr ⟨_,rfl,_,rfl,.inr ⟨T,n,b,rfl,hT,h1,h6,.inl ⟨no,by decide,_,rfl,_,kF,(by show 4<sizeLine;decide),hC _ _ ⟨rfl,λx ds e=>jag (λz=>by rw [z,fF] at e;cases e) (sb x ds e),jaa⟩⟩⟩⟩⟩) ?_
  clear sb kF
  rintro _ h5' ⟨rfl,sb,kF⟩
  exact⟨_,rfl,h5',Sub.refl _,q F h5' fF kF sb⟩
 ·refine jah (λσ' h' => ∃F,σ' = [some (jaM T),some (.lst F)]/\h F=none/\Sub h h' /\h' F=some ((["told"]:List Str).map D.str)) (λC hC=> .inl ⟨_,rfl,T,n,b,rfl,hT,h1,h6,_,rfl,(by show 1<=sizeLine;decide),λF eF=>hC _ _ ⟨F,rfl,eF,Sub.newAt (Sub.refl h) eF,jaa⟩⟩) ?_
  rintro _ h1' ⟨F,rfl,fF,sb,kF⟩
  refine jah (λσ' h' =>σ' = [some (jaM T),some (.lst F)]/\Sub h h' /\h' F=some ((["told","told"]:List Str).map D.str)) (λC hC=>⟨_,rfl,F,rfl,.inl ⟨_,rfl,T,n,b,rfl,hT,h1,h6,λA h' fA kA sb' =>⟨_,rfl,_,sb' _ _ kF,(by show 1<sizeLine;decide),hC _ _ ⟨rfl,λx ds e=>jag (λz=>by rw [z,fF] at e;cases e) (sb' x ds (sb x ds e)),jaa⟩⟩⟩⟩) ?_
  clear sb kF
  rintro _ h2' ⟨rfl,sb,kF⟩
  refine jah (λσ' h' =>σ' = [some (jaM T),some (.lst F)]/\Sub h h' /\h' F=some ((["told","told","told"]:List Str).map D.str)) (λC hC=>⟨_,rfl,F,rfl,.inl ⟨_,rfl,T,n,b,rfl,hT,h1,h6,_,rfl,_,kF,(by show 2<sizeLine;decide),hC _ _ ⟨rfl,λx ds e=>jag (λz=>by rw [z,fF] at e;cases e) (sb x ds e),jaa⟩⟩⟩) ?_
  clear sb kF
  rintro _ h3' ⟨rfl,sb,kF⟩
  refine jah (λσ' h' =>σ' = [some (jaM T),some (.lst F)]/\Sub h h' /\h' F=some ((["told","told","told","told"]:List Str).map D.str)) (λC hC=>⟨_,rfl,F,rfl,.inl ⟨_,rfl,T,n,b,rfl,hT,h1,h6,one,_,rfl,_,kF,(by show 3<sizeLine;decide),hC _ _ ⟨rfl,λx ds e=>jag (λz=>by rw [z,fF] at e;cases e) (sb x ds e),jaa⟩⟩⟩) ?_
  clear sb kF
  rintro _ h4' ⟨rfl,sb,kF⟩
  refine jah (λσ' h' =>σ' = [some (jaM T),some (.lst F)]/\Sub h h' /\h' F=some ((["told","told","told","told","apart"]:List Str).map D.str)) (λC hC=>⟨_,rfl,F,rfl,.inr ⟨_,rfl,_,rfl,.inr ⟨T,n,b,rfl,hT,h1,h6,.inr ⟨one,b0,by decide,_,rfl,_,kF,(by show 4<sizeLine;decide),hC _ _ ⟨rfl,λx ds e=>jag (λz=>by rw [z,fF] at e;cases e) (sb x ds e),jaa⟩⟩⟩⟩⟩) ?_
  clear sb kF
  rintro _ h5' ⟨rfl,sb,kF⟩
  exact⟨_,rfl,h5',Sub.refl _,q F h5' fF kF sb⟩
 ·have hA:Sq 1 3 [[(1:Int)]]:=⟨by decide,by decide,by decide,by decide⟩
  refine jah (λσ' h' => ∃F,σ' = [some (jaM [[1]]),some (.lst F)]/\h F=none/\Sub h h' /\h' F=some ((["told"]:List Str).map D.str)) (λC hC=> .inl ⟨_,rfl,[[1]],1,3,rfl,hA,by decide,by decide,_,rfl,(by show 1<=sizeLine;decide),λF eF=>hC _ _ ⟨F,rfl,eF,Sub.newAt (Sub.refl h) eF,jaa⟩⟩) ?_
  rintro _ h1' ⟨F,rfl,fF,sb,kF⟩
  refine jah (λσ' h' =>σ' = [some (jaM [[1]]),some (.lst F)]/\Sub h h' /\h' F=some ((["told","told"]:List Str).map D.str)) (λC hC=>⟨_,rfl,F,rfl,.inl ⟨_,rfl,[[1]],1,3,rfl,hA,by decide,by decide,λA h' fA kA sb' =>⟨_,rfl,_,sb' _ _ kF,(by show 1<sizeLine;decide),hC _ _ ⟨rfl,λx ds e=>jag (λz=>by rw [z,fF] at e;cases e) (sb' x ds (sb x ds e)),jaa⟩⟩⟩⟩) ?_
  clear sb kF
  rintro _ h2' ⟨rfl,sb,kF⟩
  refine jah (λσ' h' =>σ' = [some (jaM [[1]]),some (.lst F)]/\Sub h h' /\h' F=some ((["told","told","told"]:List Str).map D.str)) (λC hC=>⟨_,rfl,F,rfl,.inl ⟨_,rfl,[[1]],1,3,rfl,hA,by decide,by decide,_,rfl,_,kF,(by show 2<sizeLine;decide),hC _ _ ⟨rfl,λx ds e=>jag (λz=>by rw [z,fF] at e;cases e) (sb x ds e),jaa⟩⟩⟩) ?_
  clear sb kF
  rintro _ h3' ⟨rfl,sb,kF⟩
  refine jah (λσ' h' =>σ' = [some (jaM [[1]]),some (.lst F)]/\Sub h h' /\h' F=some ((["told","told","told","told"]:List Str).map D.str)) (λC hC=>⟨_,rfl,F,rfl,.inl ⟨_,rfl,[[1]],1,3,rfl,hA,by decide,by decide,by decide +kernel,_,rfl,_,kF,(by show 3<sizeLine;decide),hC _ _ ⟨rfl,λx ds e=>jag (λz=>by rw [z,fF] at e;cases e) (sb x ds e),jaa⟩⟩⟩) ?_
  clear sb kF
  rintro _ h4' ⟨rfl,sb,kF⟩
  refine jah (λσ' h' =>σ' = [some (jaM [[1]]),some (.lst F)]/\Sub h h' /\h' F=some ((["told","told","told","told","told"]:List Str).map D.str)) (λC hC=>⟨_,rfl,F,rfl,.inl ⟨_,rfl,rfl,λh' sb' =>⟨_,rfl,_,sb' _ _ kF,(by show 4<sizeLine;decide),hC _ _ ⟨rfl,λx ds e=>jag (λz=>by rw [z,fF] at e;cases e) (sb' x ds (sb x ds e)),jaa⟩⟩⟩⟩) ?_
  clear sb kF
  rintro _ h5' ⟨rfl,sb,kF⟩
  exact⟨_,rfl,h5',Sub.refl _,q F h5' fF kF sb⟩
theorem je1 (h:HD): ∀ws:List Str,ToPs h (ws.map D.str) (ws.map PyData.str)
 | []=>rfl
 |w::ws=>⟨_,_,rfl,rfl,je1 h ws⟩
theorem jhD: ∀ws:List Str,PyData.eqvAll (ws.map PyData.str) (ws.map PyData.str)=true
 | []=>by simp [PyData.eqvAll]
 |w::ws=>by simp [PyData.eqvAll,PyData.eqv,jhD ws]
theorem jkU {ws:List Str} {h:HD} {F G:Addr} {Q:KD} (kF:h F=some (ws.map D.str)) (kG:h G=some (ws.map D.str)) (q:Q (.bl false) h) (hs:SeqAt.shaped (.list (ws.map .str))=true:=by decide +kernel):neE (.lst F) (.lst G) h Q:=by
 refine⟨.list (ws.map .str),.list (ws.map .str),⟨F,_,rfl,kF,je1 _ _⟩,⟨G,_,rfl,kG,je1 _ _⟩,hs,hs,?_⟩
 have e:PyData.eqv (.list (ws.map .str)) (.list (ws.map .str))=true:=jhD ws
 rw [e];exact q
/-- a table and one place more,to which all lead and from which nothing leads back -/
def jbZ (n:Nat) (T:List (List Int)):List (List Int):=T.map (λr=>r++ [1])++ [List.replicate n 0++ [1]]
theorem jm1 {n:Nat} {T:List (List Int)} (h:Sq n 20 T):Sq (n+1) 20 (jbZ n T):=by
 have p1:(1:Int)<2^20:=by decide
 refine⟨by unfold jbZ;rw [List.length_append,List.length_map,h.len];rfl,λr hr=> ?_,λr hr x hx=> ?_,λr hr x hx=> ?_⟩
 all_goals rcases G0p.mp hr with hr|hr
 ·obtain⟨r',hr',rfl⟩:=G05.mp hr
  rw [G0a,h.row r' hr'];rfl
 ·rw [G0g.mp hr,G0a,G1S];rfl
 ·obtain⟨r',hr',rfl⟩:=G05.mp hr
  rcases G0p.mp hx with hx|hx
  ·exact h.nn r' hr' x hx
  ·rw [G0g.mp hx];decide
 ·rw [G0g.mp hr] at hx
  rcases G0p.mp hx with hx|hx
  ·rw [(List.mem_replicate.mp hx).2];decide
  ·rw [G0g.mp hx];decide
 ·obtain⟨r',hr',rfl⟩:=G05.mp hr
  rcases G0p.mp hx with hx|hx
  ·exact h.bit r' hr' x hx
  ·rw [G0g.mp hx];exact p1
 ·rw [G0g.mp hr] at hx
  rcases G0p.mp hx with hx|hx
  ·rw [(List.mem_replicate.mp hx).2];decide
  ·rw [G0g.mp hx];exact p1
theorem jm2 (n:Nat) (T:List (List Int)):D.tup ((T.map λr=>D.tup (r.map D.int++ [.int 1]))++ [.tup ((List.replicate n [D.int 0]).flatten++ [.int 1])])=jaM (jbZ n T):=by
 show _=D.tup ((jbZ n T).map jdt)
 unfold jbZ
 rw [G07,G1K]
 have e1:T.map (λr=>D.tup (r.map D.int++ [.int 1]))=T.map (jdt∘λr=>r++ [1]):=G1P λr _=>by
  show _=D.tup ((r++ [1]).map D.int)
  rw [G07];rfl
 have e2: [D.tup ((List.replicate n [D.int 0]).flatten++ [.int 1])]= [List.replicate n (0:Int)++ [1]].map jdt:=by
  show _= [D.tup ((List.replicate n (0:Int)++ [1]).map D.int)]
  rw [G07,List.map_replicate,List.flatten_replicate_singleton];rfl
 rw [e1,e2]
theorem jm3 {r:RD2} {te tu:TED} {k:Nat} {E:EndsD} {σ:SD} {h:HD} (x:te σ h λa h1=>tu σ h1 λb h2=>r a b h2 λv h3=>E.nx (σ.set k (some v)) h3):jcm k (dOp r te tu) E σ h:=x
theorem jjS {n e:Nat} {T:List (List Int)} (h:Sq n e T) {j:Nat} (z:ent (jbZ n T) n j≠0):j=n:=by
 have e1:(jbZ n T).getD n []=List.replicate n 0++ [1]:=by
  unfold jbZ
  rw [G03,G0q (by rw [G0c,h.len];exact G0k _),G0c,h.len,Nat.sub_self];rfl
 have z:((jbZ n T).getD n []).getD j 0≠0:=z
 rw [e1,G03] at z
 rcases Nat.lt_trichotomy j n with c|c|c
 ·rw [G0I (by rw [G1S];exact c),G17,if_pos c] at z
  exact absurd rfl z
 ·exact c
 ·rw [G1T (by rw [G0a,G1S];show n+1<=j;omega)] at z
  exact absurd rfl z
theorem jib {n e:Nat} {T:List (List Int)} (h:Sq n e T) (h1:1<=n):(jfX (jbZ n T) (n+1)).length≠1:=λone=>by
 have no: ¬wk (jbZ n T) (n+1) n 0=true:=λw=>by
  have:=jeg (P:=λi j=>i=n->j=n) (λi e=>e) (λi j a e=>jjS h (by rw [e] at a;exact a)) (λi k j a b e=>b (a e)) w rfl
  omega
 have a:pcS (jbZ n T) (n+1) 0∈jfX (jbZ n T) (n+1):=mem_pcs.mpr ⟨0,by omega,rfl⟩
 have b:pcS (jbZ n T) (n+1) n∈jfX (jbZ n T) (n+1):=mem_pcs.mpr ⟨n,by omega,rfl⟩
 obtain⟨x,ex⟩:=List.length_eq_one_iff.mp one
 rw [ex] at a b
 have e:pcS (jbZ n T) (n+1) 0=pcS (jbZ n T) (n+1) n:=(G0g.mp a).trans (G0g.mp b).symm
 have:=jjL (T:=jbZ n T) (p:=0) (n:=n+1) (by omega)
 rw [e] at this
 exact no (mem_pc.mp this).2.1
set_option maxHeartbeats 2000000 in
theorem jpd {n:Nat} {f:Addr} {fd:FuncData} (Z:Zs mg) (F:Fun K "law" "law" jh6 f fd) (C__law_words:jan P w K mg base n "_law_words" ["_law_table_here"] jdG) (C__law_cell:jan P w K mg base n "_law_cell" ["_law_script","_law_k"] jd3) (C__law_pen:jan P w K mg base n "_law_pen" ["_law_cell_here"] jeZ) (C__law_table:jan P w K mg base n "_law_table" ["_law_pen_here","_law_size_here"] jdE) (C__law_size:jan P w K mg base n "_law_size" ["_law_pen_here"] jd4) (C__law_odd:jan P w K mg base n "_law_odd" ["_law_pen_here"] je0) (C__law_no_table:jan P w K mg base n "_law_no_table" ["_law_pen_here"] jck) (C__law_bent_table:jan P w K mg base n "_law_bent_table" ["_law_pen_here","_law_table_here"] jbR) (C__law_is_table:jan P w K mg base n "_law_is_table" ["_law_thing"] jaL):FnOk P w K mg base CX0 (n+1) f fd ["_law_script"] (LSp K jiW):=by
 obtain⟨g_G__law_words,gd_G__law_words,G__law_words,bG__law_words,kG__law_words,mG__law_words⟩:=C__law_words
 obtain⟨g_G__law_cell,gd_G__law_cell,G__law_cell,bG__law_cell,kG__law_cell,mG__law_cell⟩:=C__law_cell
 obtain⟨g_G__law_pen,gd_G__law_pen,G__law_pen,bG__law_pen,kG__law_pen,mG__law_pen⟩:=C__law_pen
 obtain⟨g_G__law_table,gd_G__law_table,G__law_table,bG__law_table,kG__law_table,mG__law_table⟩:=C__law_table
 obtain⟨g_G__law_size,gd_G__law_size,G__law_size,bG__law_size,kG__law_size,mG__law_size⟩:=C__law_size
 obtain⟨g_G__law_odd,gd_G__law_odd,G__law_odd,bG__law_odd,kG__law_odd,mG__law_odd⟩:=C__law_odd
 obtain⟨g_G__law_no_table,gd_G__law_no_table,G__law_no_table,bG__law_no_table,kG__law_no_table,mG__law_no_table⟩:=C__law_no_table
 obtain⟨g_G__law_bent_table,gd_G__law_bent_table,G__law_bent_table,bG__law_bent_table,kG__law_bent_table,mG__law_bent_table⟩:=C__law_bent_table
 obtain⟨g_G__law_is_table,gd_G__law_is_table,G__law_is_table,bG__law_is_table,kG__law_is_table,mG__law_is_table⟩:=C__law_is_table
 refine F.okJ sc_law (λds h Q q=>by obtain⟨ns,e,hh,hns,q⟩:=q;subst e;rfl) _ (λcdv A outer s H E hr=>(jaf (jee (jpt (jk8 (jbq (jhi hr.units) (jaw G__law_words hr rfl mG__law_words kG__law_words bG__law_words (jac (jbr (jac (jbr (jac jam jab)) jab)) jab)) (jop jaB (jop jbs (jb4 (jac jdH jab)) jam) (jb4 (jac jdH jab))) (jax _)) (jk7 (jbq (jhi hr.units) (jaw G__law_words hr rfl mG__law_words kG__law_words bG__law_words (jac (jbr (jac (jbr (jac jam jab)) jab)) jab)) (jop jbs (jb4 (jac jdH jab)) jam) (jax _))))) (jai (jbM jbl)) jaU) (by exact(jaf (jjW G1h rfl (ji2 (jop jaB (jb4 (jac (jaw G__law_cell hr rfl mG__law_cell kG__law_cell bG__law_cell (jac (jv 0) (by exact(jac jam jab)))) jab)) (jcX (jv 0) (jbC jam) (jbC jam)))) (jbW (i:=1) sc_law.nd rfl (Or.inl rfl)) (jaf (jbV (i:=2) sc_law.nd rfl (Or.inl rfl) (jaw G__law_pen hr rfl mG__law_pen kG__law_pen bG__law_pen (jac (jv 1) jab))) (by exact(jaf (jbV (i:=3) sc_law.nd rfl (Or.inl rfl) (jaw G__law_table hr rfl mG__law_table kG__law_table bG__law_table (jac (jv 2) (by exact(jac (jaw G__law_size hr rfl mG__law_size kG__law_size bG__law_size (jac (jv 2) jab)) jab))))) (by exact(jaf (jjW G1h rfl (ji2 (jb4 (jac (jaw G__law_bent_table hr rfl mG__law_bent_table kG__law_bent_table bG__law_bent_table (jac (jv 2) (by exact(jac (jv 3) jab)))) (by exact(jac (jaw G__law_bent_table hr rfl mG__law_bent_table kG__law_bent_table bG__law_bent_table (jac (jv 2) (by exact(jac (jv 3) jab)))) (by exact(jac (jaw G__law_no_table hr rfl mG__law_no_table kG__law_no_table bG__law_no_table (jac (jv 2) jab)) (by exact(jac (jaw G__law_odd hr rfl mG__law_odd kG__law_odd bG__law_odd (jac (jv 2) jab)) jab))))))))) (jbW (i:=4) sc_law.nd rfl (Or.inl rfl)) (jai (jee (jpt (ji1 (jcO (jcn (jaw G__law_is_table hr rfl mG__law_is_table kG__law_is_table bG__law_is_table (jac (jv 4) jab)))) (ji0 (jbq (jhi hr.units) (jaw G__law_words hr rfl mG__law_words kG__law_words bG__law_words (jac (jv 4) jab)) (jop jbs (jb4 (jac jdH jab)) jam) (jax _))))) (jai (jbM jbl)) jaU))) (by exact(jaf (jbV (i:=5) sc_law.nd rfl (Or.inl rfl) (jaN jbk rfl Z.len G02 (jac (jv 3) jab))) (by exact(jaf (jbV (i:=6) sc_law.nd rfl (Or.inl rfl) (jop jaB (jb9 jey rfl Z.tuple (by decide +kernel) (jac (jlc (i:=7) (js:= [7]) rfl (jaz (by rfl)) (jcs (jv 3)) (by decide) sc_law.nd rfl (by first|exact Or.inl rfl|exact Or.inr rfl) (λX' hX=>jbB) (λX' hX=>by obtain⟨C,s₀,H₀,ex,rfl⟩:=hX;exact(jop jaB (jv 7) (jbr (jac jam jab))))) jab)) (jbr (jac (jop jaB (jop jbs (jbr (jac jam jab)) (jv 5)) (jbr (jac jam jab))) jab)))) (by exact(jai (jee (jpt (ji1 (jbq jkg (jv 5) jam (jax _)) (ji0 (jbq (jhi hr.units) (jaw G__law_words hr rfl mG__law_words kG__law_words bG__law_words (jac (jv 6) jab)) (jop jaB (jop jbs (jb4 (jac jdH jab)) jam) (jop jbs (jb4 (jac jdH jab)) jam)) (jax _))))) (jai (jbM jbl)) jaU))))))))))))) (by exact(jai (jbM jbl))))))) ?_
 intro ds h Q q
 obtain⟨ns,e,hh,hns,q⟩:=q
 subst e
 have hA:Sq 1 3 [[(0:Int)]]:=⟨by decide,by decide,by decide,by decide⟩
 refine jah (λσ' h' =>σ' = [some (.scr ns),none,none,none,none,none,none,none]/\True) (λC hC=>⟨(by show 1<=sizeLine;decide),(by show 1<=sizeLine;decide),jaM [[0]],_,rfl,.inr (.inl ⟨[[0]],1,3,rfl,hA,by decide,by decide,.inr ⟨by decide +kernel,by decide +kernel,rfl⟩⟩),λF g5 fF kF sb=>⟨(by show 1<=sizeLine;decide),λx1 y1=>⟨_,jaa,by decide,by decide,(by show 1*4<=sizeLine;decide),λx2 y2=>⟨(by show 1<=sizeLine;decide),λx3 y3=>⟨_,_,jad jaa y3,jaa,(by show 4+1<=sizeLine;decide),λx5 y5=>jkU (ws:= ["told","told","told","told","apart"]) (jad (jad (jad (jad kF y1) y2) y3) y5) jaa ⟨_,rfl,jer ?_⟩⟩⟩⟩⟩⟩) ?_
 ·refine⟨(by show 1<=sizeLine;decide),(by show 1<=sizeLine;decide),jaM [[1]],_,rfl,.inr (.inr ⟨rfl,rfl⟩),λG g6 fG kG sb2=>⟨(by show 1<=sizeLine;decide),λx6 y6=>⟨_,jaa,by decide,by decide,(by show 1*5<=sizeLine;decide),λx7 y7=>jkU (ws:= ["told","told","told","told","told"]) (jad (jad kG y6) y7) jaa ⟨_,rfl,jer (hC _ _ ⟨rfl,True.intro⟩)⟩⟩⟩⟩
 rintro _ h ⟨rfl,_⟩
 refine jah (λσ' h' =>True) (λC hC=> ?_) (λσ' h3 hV=>⟨h3,Sub.refl _,q h3⟩)
 refine⟨_,rfl,ns,0,rfl,(by decide),λn0=>⟨(by show 1<=sizeLine;decide),λp1 e1=>⟨_,rfl,_,rfl,_,rfl,λp2 e2=>⟨_,_,jad jaa e2,jaa,?_,λp3 e3=>⟨p3,rfl,?_⟩⟩⟩⟩⟩
 ·have:(jfB ns (some 1) (some 5)).length<=ns.length:=by unfold jfB;rw [List.length_take,List.length_drop];omega
  rw [G0c]
  exact G0W (jaA (by simp only [G0h,G0m];omega))
 generalize hcs:([D.int n0]++(jfB ns (some 1) (some 5)).map D.int)=cs
 have hint: ∀d∈cs,∃c,d= .int c:=λd hd=>by
  rw [<-hcs] at hd
  rcases G0p.mp hd with z|z
  ·exact⟨n0,G0g.mp z⟩
  ·obtain⟨x,_,e⟩:=G05.mp z;exact⟨x,e.symm⟩
 refine jeB cs (λi σ' h' => ∃a1 a2 a3 a4 a5 a6 a7,σ' = [some (.scr ns),a1,a2,a3,a4,a5,a6,a7]/\h' p3=some cs) (λi σ' h' ⟨_,_,_,_,_,_,_,_,k⟩=>k) ⟨_,_,_,_,_,_,_,rfl,jaa⟩ (λσ' h' _=>hC _ _ True.intro) ?_
 rintro i d _ h4 hi ⟨b1,b2,b3,b4,b5,b6,b7,rfl,k3⟩
 obtain⟨c,rfl⟩:=hint d (G0i hi)
 have hil:i<cs.length:=(G0o.mp hi).1
 show jcg _ _ _ [some (.scr ns),some (.int c),b2,b3,b4,b5,b6,b7] h4
 refine jah (λσ' h' => ∃p l fl,σ' = [some (.scr ns),some (.int c),some (.lst p),b3,b4,b5,b6,b7]/\h' p=some [.int l,.int fl]/\0<=l/\h' p3=some cs/\p3≠p) (λC hC=> ?_) ?_
 ·refine⟨_,rfl,c,rfl,λp l fl ep l0 _=>hC _ _ ⟨p,l,fl,rfl,jaa,l0,jad k3 ep,Ne.symm (jao k3 ep)⟩⟩
 rintro _ h5 ⟨p,l,fl,rfl,kp,l0,k3,n3⟩
 refine jah (λσ' h' => ∃ (T:List (List Int)) (n:Nat) (l2:Int),σ' = [some (.scr ns),some (.int c),some (.lst p),some (jaM T),b4,b5,b6,b7]/\GoodTab n T/\1<=n/\n<=6/\h' p=some [.int l2,.int fl]/\0<=l2/\h' p3=some cs) (λC hC=>⟨_,rfl,_,rfl,p,l,fl,rfl,kp,l0,λn l2 n1 n6 l20=>⟨p,l2,fl,n,rfl,jaa,l20,n1,n6,λT l3 gT l30=>hC _ _ ⟨T,n,l3,rfl,gT,n1,n6,jaa,l30,jag n3 (jag n3 k3)⟩⟩⟩) ?_
 clear kp l0 k3
 rintro _ h6 ⟨T,n,l2,rfl,gT,n1,n6,kp,l20,k3⟩
 have hT:=gT.sq
 refine jah (λσ' h' => ∃b4,σ' = [some (.scr ns),some (.int c),some (.lst p),some (jaM T),b4,b5,b6,b7]/\h' p3=some cs) (λC hC=> ?_) ?_
 ·refine⟨_,rfl,_,rfl,p,l2,fl,T,n,rfl,kp,l20,n1,n6,gT,λd1 l3 ok1 l30=>⟨_,rfl,_,rfl,p,l3,fl,T,n,rfl,jaa,l30,n1,n6,gT,λd2 l4 ok2 l40=>⟨_,rfl,p,l4,fl,rfl,jaa,l40,λd3 l5 g3 ok3 bad3 bt3 kp3 l50=>⟨_,rfl,p,l5,fl,rfl,kp3,l50,λd4 l6 g4 ok4 th4 bt4 kp4 l60=>⟨(by show 4<=sizeLine;decide),λq1 f1=>⟨q1,rfl,?_⟩⟩⟩⟩⟩⟩
  generalize hus: [d1,d2,d3,d4]=us
  have good: ∀d∈us,okD d=true:=λd hd=>by
   rw [<-hus] at hd
   simp only [G0r,G0U,G10] at hd
   rcases hd with e|e|e|e<;>subst e<;>assumption
  have k3' :=bt4 p3 cs n3 (bt3 p3 cs n3 (jag n3 (jag n3 k3)))
  refine jeB us (λi σ' h' => ∃b4,σ' = [some (.scr ns),some (.int c),some (.lst p),some (jaM T),b4,b5,b6,b7]/\h' q1=some us/\h' p3=some cs) (λi σ' h' ⟨_,_,k,_⟩=>k) ⟨_,rfl,by rw [<-hus];exact jaa,jad k3' f1⟩ (λσ' h' ⟨b4,e,_,k2⟩=>hC _ _ ⟨b4,e,k2⟩) ?_
  rintro j d _ h8 hj ⟨b4',rfl,kq,k3''⟩
  have okd:=good d (G0i hj)
  have hjl:j<us.length:=(G0o.mp hj).1
  refine⟨_,rfl,d,rfl,okd,_,rfl,?_⟩
  cases hb:jeT d with
  |true=>exact jer ⟨_,Sub.refl _,by omega,_,rfl,kq,k3''⟩
  |false=>
   exact jgH ⟨_,rfl,d,_,rfl,.inl ⟨okd,hb,rfl⟩,λF g5 fF kF sb=>⟨(by show 1<=sizeLine;decide),λx1 y1=>⟨_,jaa,by decide,by decide,(by show 1*5<=sizeLine;decide),λx2 y2=>jkU (ws:= ["table","table","table","table","table"]) (jad (jad kF y1) y2) jaa ⟨_,rfl,jer ⟨_,Sub.refl _,by omega,_,rfl,jad (jad (sb _ _ kq) y1) y2,jad (jad (sb _ _ k3'') y1) y2⟩⟩⟩⟩⟩
 clear kp l20 k3
 rintro _ h7 ⟨b4,rfl,k3⟩
 refine jah (λσ' h' =>σ' = [some (.scr ns),some (.int c),some (.lst p),some (jaM T),b4,some (.int (n:Int)),b6,b7]/\h7=h') (λC hC=>⟨_,rfl,hC _ _ ⟨by rw [G0c,hT.len];rfl,rfl⟩⟩) ?_
 rintro _ _ ⟨rfl,rfl⟩
 have sm: ∀m:Nat,m<=100->m<=sizeLine:=λm hm=>G0W (jaA (by omega))
 refine jah (λσ' h' =>σ' = [some (.scr ns),some (.int c),some (.lst p),some (jaM T),b4,some (.int (n:Int)),some (jaM (jbZ n T)),b7]/\h7=h') (λC hC=>jm3 (jqO T jdt (λr=> .tup (r.map D.int++ [.int 1])) (by rw [hT.len];omega) rfl (λR r=>⟨_,rfl,r⟩) (λr hr Q' q' =>⟨_,rfl,(by show 1<=sizeLine;decide),sm _ (by rw [G0c,hT.row r hr];show n+1<=100;omega),q'⟩) ⟨(by show 1<=sizeLine;decide),_,rfl,by omega,by omega,sm _ (by show 1*((n:Int)).toNat<=100;omega),(by show 1<=sizeLine;decide),?_,(by show 1<=sizeLine;decide),?_,?_⟩)) ?_
 ·exact sm _ (by rw [G2M];simp;omega)
 ·exact sm _ (by rw [G0c,hT.len];show n+1<=100;omega)
 ·rw [show ((n:Int)).toNat=n from G2M n,jm2]
  exact hC _ _ ⟨rfl,rfl⟩
 rintro _ _ ⟨rfl,rfl⟩
 refine⟨_,rfl,_,rfl,jg9 (λz=> ?_) λz=> ?_⟩
 ·have z6:n<6:=by have:=G1v z;omega
  exact⟨_,rfl,jaM (jbZ n T),_,rfl,.inr (.inl ⟨jbZ n T,n+1,20,rfl,jm1 hT,by omega,by omega,.inl ⟨jib hT n1,rfl⟩⟩),λF g5 fF kF sb=>⟨(by show 1<=sizeLine;decide),λx1 y1=>⟨_,jaa,by decide,by decide,(by show 1*3<=sizeLine;decide),λx2 y2=>⟨(by show 1<=sizeLine;decide),λx3 y3=>⟨_,jaa,by decide,by decide,(by show 1*2<=sizeLine;decide),λx4 y4=>⟨_,_,jad (jad jaa y3) y4,jaa,(by show 3+2<=sizeLine;decide),λx5 y5=>jkU (ws:= ["told","told","told","apart","apart"]) (jad (jad (jad (jad (jad kF y1) y2) y3) y4) y5) jaa ⟨_,rfl,jer ⟨_,Sub.refl _,by omega,_,_,_,_,_,_,_,rfl,(jad (jad (jad (jad (jad (sb _ _ k3) y1) y2) y3) y4) y5)⟩⟩⟩⟩⟩⟩⟩⟩
 ·exact jer ⟨_,Sub.refl _,by omega,_,_,_,_,_,_,_,rfl,k3⟩
end
set_option maxHeartbeats 8000000 in
theorem jpe {l:PySem.W.OpenLaw} {w:World} {K:PySem.W.Frag} {h:Heap} {mg:Str->Option Value} {fa:Addr} (X:K.In h) (G:h.Ns mainGlobals mg) (hfa:mg "law" =some (.ref fa))
 {f0:Addr} {e0:FuncData} (d0:DefIn K "is_whole" jdS f0 e0)
 {f1:Addr} {e1:FuncData} (d1:DefIn K "is_within" jc9 f1 e1)
 {f2:Addr} {e2:FuncData} (d2:DefIn K "is_place" jdT f2 e2)
 {f3:Addr} {e3:FuncData} (d3:DefIn K "are_places" jcv f3 e3)
 {f4:Addr} {e4:FuncData} (d4:DefIn K "is_table_row" jbX f4 e4)
 {f5:Addr} {e5:FuncData} (d5:DefIn K "has_table_form" jbt f5 e5)
 {f6:Addr} {e6:FuncData} (d6:DefIn K "want_table" jbN f6 e6)
 {f7:Addr} {e7:FuncData} (d7:DefIn K "reaches" jeQ f7 e7)
 {f8:Addr} {e8:FuncData} (d8:DefIn K "pieces_by" jda f8 e8)
 {f9:Addr} {e9:FuncData} (d9:DefIn K "pieces" jei f9 e9)
 {f10:Addr} {e10:FuncData} (d10:DefIn K "joined" jej f10 e10)
 {f11:Addr} {e11:FuncData} (d11:DefIn K "heads" jg0 f11 e11)
 {f12:Addr} {e12:FuncData} (d12:DefIn K "greatest_into" jbG f12 e12)
 {f13:Addr} {e13:FuncData} (d13:DefIn K "is_round" jcF f13 e13)
 {f14:Addr} {e14:FuncData} (d14:DefIn K "all_rounds" jbO f14 e14)
 {f15:Addr} {e15:FuncData} (d15:DefIn K "beat" jhz f15 e15)
 {f16:Addr} {e16:FuncData} (d16:DefIn K "steps_from_start" jbi f16 e16)
 {f17:Addr} {e17:FuncData} (d17:DefIn K "turns_hold" jbP f17 e17)
 {f18:Addr} {e18:FuncData} (d18:DefIn K "turns_of" jcG f18 e18)
 {f19:Addr} {e19:FuncData} (d19:DefIn K "_law_cell" jdb f19 e19)
 {f20:Addr} {e20:FuncData} (d20:DefIn K "_law_pen" jdU f20 e20)
 {f21:Addr} {e21:FuncData} (d21:DefIn K "_law_draw" jdc f21 e21)
 {f22:Addr} {e22:FuncData} (d22:DefIn K "_law_whole" jcw f22 e22)
 {f23:Addr} {e23:FuncData} (d23:DefIn K "_law_kind" jdd f23 e23)
 {f24:Addr} {e24:FuncData} (d24:DefIn K "_law_said" jde f24 e24)
 {f25:Addr} {e25:FuncData} (d25:DefIn K "_law_odd" jdV f25 e25)
 {f26:Addr} {e26:FuncData} (d26:DefIn K "_law_size" jdf f26 e26)
 {f27:Addr} {e27:FuncData} (d27:DefIn K "_law_table" jcx f27 e27)
 {f28:Addr} {e28:FuncData} (d28:DefIn K "_law_is_table" jbH f28 e28)
 {f29:Addr} {e29:FuncData} (d29:DefIn K "_law_bent_table" jbn f29 e29)
 {f30:Addr} {e30:FuncData} (d30:DefIn K "_law_no_table" jbI f30 e30)
 {f31:Addr} {e31:FuncData} (d31:DefIn K "_law_words" jaO f31 e31)
 {f32:Addr} {e32:FuncData} (d32:DefIn K "law" jh6 f32 e32)
 {tk0:Tok} (v0:PySem.W.nsIn K mainGlobals "MOST_ROWS" =some (some (.int 6 tk0)))
 (z:zsB K=true)
 (ex:jql K=true)
 (tb0:jmz K "_law_words" =true)
 : ∃fd:FuncData,(∀ (s:Shared) (v:Value),BindsTo s fd ⟨[v],[]⟩ [("_law_script",v)])/\ ∀base:Heap,K.In base->base.Ns mainGlobals mg->Bm mg base->FnOk l.prog w K mg base CX0 12 fa fd ["_law_script"] (LSp K jiW):=by
 have e:=hfa.symm.trans (d32.nm X G)
 cases e
 have M_MOST_ROWS: ∃tk,mg "MOST_ROWS" =some (.int 6 tk):=⟨_,PySem.W.mg_of X G v0⟩
 have Z:=jqo X G z
 have Ex:Exc K mg:=joH X G ex
 have TX__law_words:=jmA tb0
 obtain⟨_,_,kV,dc,pm,an,cd,ct,_,rfl,_⟩:=d32.fn.ex
 refine⟨PySem.W.fnOf "law" "law" (jcp jh6) (jaV jh6) (jae jh6) .none kV dc pm an cd ct,λs v=> .of_eq rfl,λbase _ _ B=> ?_⟩
 have c_is_whole:=λn=>d0.cal l w base X G (jg2 (n:=n+0) Z d0.fn)
 have c_is_within:=λn=>d1.cal l w base X G (jgt (n:=n+1) Z d1.fn (c_is_whole (n+0)))
 have c_is_place:=λn=>d2.cal l w base X G (jg3 (n:=n+2) Z d2.fn (c_is_within (n+0)))
 have c_are_places:=λn=>d3.cal l w base X G (jfN (n:=n+3) Z d3.fn (c_is_place (n+0)))
 have c_is_table_row:=λn=>d4.cal l w base X G (jeV (n:=n+1) Z d4.fn (c_is_whole (n+0)))
 have c_has_table_form:=λn=>d5.cal l w base X G (jdW (n:=n+2) Z d5.fn (c_is_table_row (n+0)) M_MOST_ROWS)
 have c_want_table:=λn=>d6.cal l w base X G (jfO (n:=n+3) Z d6.fn (c_has_table_form (n+0)))
 have r_want_table:=λn=>d6.rai l w base X G (je8 (n:=n+3) Z Ex d6.fn (c_has_table_form (n+0)))
 have c_reaches:=λn=>d7.cal l w base X G (jh7 (n:=n+0) Z d7.fn)
 have c_pieces_by:=λn=>d8.cal l w base X G (jgu (n:=n+0) Z d8.fn)
 have c_pieces:=λn=>d9.cal l w base X G (jjP (n:=n+4) Z d9.fn (c_want_table (n+0)) (c_pieces_by (n+3)) (c_reaches (n+3)))
 have r_pieces:=λn=>d9.rai l w base X G (jh8 (n:=n+4) Z Ex d9.fn (r_want_table (n+0)))
 have c_joined:=λn=>d10.cal l w base X G (jjQ (n:=n+5) Z d10.fn (c_pieces (n+0)))
 have r_joined:=λn=>d10.rai l w base X G (jh9 (n:=n+5) Z Ex d10.fn (r_pieces (n+0)))
 have c_heads:=λn=>d11.cal l w base X G (jkS (n:=n+0) Z d11.fn)
 have c_greatest_into:=λn=>d12.cal l w base X G (jd8 (n:=n+0) Z d12.fn)
 have c_is_round:=λn=>d13.cal l w base X G (jg4 (n:=n+4) Z d13.fn (c_want_table (n+0)) (c_are_places (n+0)))
 have r_is_round:=λn=>d13.rai l w base X G (jgw (n:=n+4) Z Ex d13.fn (r_want_table (n+0)))
 have c_all_rounds:=λn=>d14.cal l w base X G (jfP (n:=n+4) Z d14.fn (c_want_table (n+0)) (c_heads (n+3)))
 have r_all_rounds:=λn=>d14.rai l w base X G (je9 (n:=n+4) Z Ex d14.fn (r_want_table (n+0)))
 have c_beat:=λn=>d15.cal l w base X G (jmW (n:=n+6) Z d15.fn (c_joined (n+0)) (c_all_rounds (n+1)) (c_greatest_into (n+5)))
 have r_beat:=λn=>d15.rai l w base X G (jkT (n:=n+6) Z Ex d15.fn (c_joined (n+0)) (r_joined (n+0)) (r_all_rounds (n+1)))
 have c_steps_from_start:=λn=>d16.cal l w base X G (jdg (n:=n+0) Z d16.fn)
 have c_turns_hold:=λn=>d17.cal l w base X G (jfS (n:=n+4) Z d17.fn (c_want_table (n+0)))
 have r_turns_hold:=λn=>d17.rai l w base X G (jfa (n:=n+4) Z Ex d17.fn (r_want_table (n+0)))
 have c_turns_of:=λn=>d18.cal l w base X G (jg5 (n:=n+7) Z d18.fn (c_beat (n+0)) (c_steps_from_start (n+6)))
 have r_turns_of:=λn=>d18.rai l w base X G (jgx (n:=n+7) Z Ex d18.fn (c_beat (n+0)) (r_beat (n+0)))
 have c__law_cell:=λn=>d19.cal l w base X G (jgy (n:=n+0) Z d19.fn)
 have c__law_pen:=λn=>d20.cal l w base X G (jg6 (n:=n+0) Z d20.fn)
 have c__law_draw:=λn=>d21.cal l w base X G (jgz (n:=n+0) Z d21.fn)
 have c__law_whole:=λn=>d22.cal l w base X G (jfT (n:=n+0) Z d22.fn)
 have u_kind: ∀n,jjk l.prog w K mg base (n+1) "_law_kind" ["_law_e"] (jjp mg):=λn=>⟨_,_,jfU (n:=n) Z Ex d23.fn,d23.fn.binds (ps:= ["_law_e"]) λ_ _ _ _ _ _ us hl=>match us,hl with| [_],_=>rfl,d23.fn.kp,d23.nm X G⟩
 have s_said: ∀n,joI l.prog w K mg base (n+1):=λn=>⟨_,_,jmY (n:=n+1) Z Ex d24.fn (u_kind n),d24.fn.binds (ps:= ["_law_call"]) λ_ _ _ _ _ _ us hl=>match us,hl with| [_],_=>rfl,d24.fn.kp,d24.nm X G⟩
 have c__law_odd:=λn=>d25.cal l w base X G (jg7 (n:=n+1) Z d25.fn (c__law_draw (n+0)))
 have c__law_size:=λn=>d26.cal l w base X G (jgA (n:=n+1) Z d26.fn (c__law_draw (n+0)))
 have c__law_table:=λn=>d27.cal l w base X G (jfV (n:=n+1) Z d27.fn (c__law_draw (n+0)))
 have c__law_is_table:=λn=>d28.cal l w base X G (jd9 (n:=n+1) Z d28.fn (c__law_whole (n+0)))
 have c__law_bent_table:=λn=>d29.cal l w base X G (jdF (n:=n+1) Z d29.fn (c__law_draw (n+0)))
 have c__law_no_table:=λn=>d30.cal l w base X G (jea (n:=n+1) Z d30.fn (c__law_draw (n+0)))
 have c__law_words:=λn=>d31.cal l w base X G (jfW (n:=n+8) Z B d31.at_ TX__law_words d31.fn (c_is_round (n+3)) (c_all_rounds (n+3)) (c_turns_hold (n+3)) (c_beat (n+1)) (c_turns_of (n+0)) (r_is_round (n+3)) (r_all_rounds (n+3)) (r_turns_hold (n+3)) (r_beat (n+1)) (r_turns_of (n+0)) (s_said (n+7)))
 exact jpd (n:=11) Z d32.fn (c__law_words 0) (c__law_cell 10) (c__law_pen 10) (c__law_table 9) (c__law_size 9) (c__law_odd 9) (c__law_no_table 9) (c__law_bent_table 9) (c__law_is_table 9)
end My
def PySem.W.Fast.tw13470575137961582056 : Unit := ()
def PySem.W.Fast.tw7620269846483668317 : Unit := ()
def PySem.W.Fast.tw4290193276632519084 : Unit := ()
def PySem.W.Fast.tw2463083588112594806 : Unit := ()
def PySem.W.Fast.tw10886801352214455135 : Unit := ()
def PySem.W.Fast.tw15485477003051171105 : Unit := ()
def PySem.W.Fast.tw1189061495288817338 : Unit := ()
def PySem.W.Fast.tw8193045622805900162 : Unit := ()
def PySem.W.Fast.tw5199319807482164119 : Unit := ()
def PySem.W.Fast.tw11267814595106428389 : Unit := ()
def PySem.W.Fast.tw1704740885029677688 : Unit := ()
def PySem.W.Fast.tw17904912563172316488 : Unit := ()
def PySem.W.Fast.tw13944456329172852903 : Unit := ()
def PySem.W.Fast.tw5029923052390776953 : Unit := ()
def PySem.W.Fast.tw4329028861662255572 : Unit := ()
def PySem.W.Fast.tw634761968817937862 : Unit := ()
def PySem.W.Fast.tw10813312067459687832 : Unit := ()
def PySem.W.Fast.tw15644330998800697304 : Unit := ()
def PySem.W.Fast.tw10621109852807378587 : Unit := ()
def PySem.W.Fast.tw8306385350509404119 : Unit := ()
def PySem.W.Fast.tw12913167541666556395 : Unit := ()
def PySem.W.Fast.tw12168982590399436608 : Unit := ()
def PySem.W.Fast.tw4925665980592407280 : Unit := ()
def PySem.W.Fast.tw16500652351633327882 : Unit := ()
def PySem.W.Fast.tw10090258250125080070 : Unit := ()
def PySem.W.Fast.tw17942829574218473063 : Unit := ()
def PySem.W.Fast.tw722188767983220017 : Unit := ()
def PySem.W.Fast.tw11757022420897241349 : Unit := ()
def PySem.W.Fast.tw8792541181777690124 : Unit := ()
def PySem.W.Fast.tw9440768058205741659 : Unit := ()
def PySem.W.Fast.tw8531266909783042624 : Unit := ()
def PySem.W.Fast.tw6022082943592312600 : Unit := ()
def PySem.W.Fast.tw6191902076484037149 : Unit := ()
def PySem.W.Fast.tw9135621727249011662 : Unit := ()
def PySem.W.Fast.tw6016093274954366875 : Unit := ()
def PySem.W.Fast.tw6910823586996154422 : Unit := ()
def PySem.W.Fast.tw13210894681879887569 : Unit := ()
def PySem.W.Fast.tw16389073617307065006 : Unit := ()
def PySem.W.Fast.tw6309139022489188998 : Unit := ()
def PySem.W.Fast.tw17621327189988755892 : Unit := ()
def PySem.W.Fast.tw1619236141223964593 : Unit := ()
def PySem.W.Fast.tw10507487985667838169 : Unit := ()
def PySem.W.Fast.tw16252392707528433683 : Unit := ()
def PySem.W.Fast.tw7205366293852506218 : Unit := ()
def PySem.W.Fast.tw6238518474521541916 : Unit := ()
def PySem.W.Fast.tw13392383762240991923 : Unit := ()
def PySem.W.Fast.tw12565290171662813055 : Unit := ()
def PySem.W.Fast.tw754648490997686137 : Unit := ()
def PySem.W.Fast.tw7429939279835169070 : Unit := ()
def PySem.W.Fast.tw7303067287134179337 : Unit := ()
def PySem.W.Fast.tw12730298016101816754 : Unit := ()
def PySem.W.Fast.tw10559798762673124535 : Unit := ()
def PySem.W.Fast.tw12468312801243775022 : Unit := ()
def PySem.W.Fast.tw14668789667907439659 : Unit := ()
def PySem.W.Fast.tw16407390991007204663 : Unit := ()
def PySem.W.Fast.tw15785248854437259758 : Unit := ()
def PySem.W.Fast.tw8530958785870395240 : Unit := ()
def PySem.W.Fast.tw5812164144231174243 : Unit := ()
def PySem.W.Fast.tw15635858230270715611 : Unit := ()
def PySem.W.Fast.tw5836869735796895883 : Unit := ()
def PySem.W.Fast.tw5944891149008267994 : Unit := ()
def PySem.W.Fast.tw14384503252064670312 : Unit := ()
def PySem.W.Fast.tw5774500253891596879 : Unit := ()
def PySem.W.Fast.tw1584922408340014671 : Unit := ()
def PySem.W.Fast.tw1063658922369180254 : Unit := ()
def PySem.W.Fast.tw6822397260616051923 : Unit := ()
def PySem.W.Fast.tw6454086135286917666 : Unit := ()
def PySem.W.Fast.tw1198459043029403060 : Unit := ()
def PySem.W.Fast.tw8484606684283663670 : Unit := ()
def PySem.W.Fast.tw16251111362532666404 : Unit := ()
def PySem.W.Fast.tw10834479424912763277 : Unit := ()
def PySem.W.Fast.tw15778515943207702508 : Unit := ()
def PySem.W.Fast.tw15070103363447098013 : Unit := ()
def PySem.W.Fast.tw8530452286692003328 : Unit := ()
def PySem.W.Fast.tw5157730485412050584 : Unit := ()
def PySem.W.Fast.tw10968374062139172492 : Unit := ()
def PySem.W.Fast.tw1092045628306399460 : Unit := ()
def PySem.W.Fast.tw13771590240999786319 : Unit := ()
def PySem.W.Fast.tw11554167080203191345 : Unit := ()
def PySem.W.Fast.tw4855040069046267037 : Unit := ()
def PySem.W.Fast.tw1840742631476957938 : Unit := ()
def PySem.W.Fast.tw6690713960345574781 : Unit := ()
def PySem.W.Fast.tw3509191707239801403 : Unit := ()
def PySem.W.Fast.tw1020836742572289732 : Unit := ()
def PySem.W.Fast.tw17223795342161266351 : Unit := ()
def PySem.W.Fast.tw12284305063925050637 : Unit := ()
def PySem.W.Fast.tw1260697038419597998 : Unit := ()
def PySem.W.Fast.tw1288075125432222262 : Unit := ()
def PySem.W.Fast.tw6243914923146077464 : Unit := ()
def PySem.W.Fast.tw12640560092773842008 : Unit := ()
def PySem.W.Fast.tw1015093086728930993 : Unit := ()
def PySem.W.Fast.tw1101557446401413029 : Unit := ()
def PySem.W.Fast.tw3924913032819302490 : Unit := ()
def PySem.W.Fast.tw11510280362630979791 : Unit := ()
def PySem.W.Fast.tw2027089265837120742 : Unit := ()
def PySem.W.Fast.tw18111020727506590411 : Unit := ()
def PySem.W.Fast.tw17666953189509899551 : Unit := ()
def PySem.W.Fast.tw13659003018453453976 : Unit := ()
def PySem.W.Fast.tw10799254086786012612 : Unit := ()
def PySem.W.Fast.tw10259904797424978279 : Unit := ()
def PySem.W.Fast.tw2082898878954056304 : Unit := ()
def PySem.W.Fast.tw8723442218838730552 : Unit := ()
def PySem.W.Fast.tw7845015557681531975 : Unit := ()
def PySem.W.Fast.tw11127290442725081935 : Unit := ()
def PySem.W.Fast.tw11397682886088548350 : Unit := ()
def PySem.W.Fast.tw12221370290343707515 : Unit := ()
def PySem.W.Fast.tw16845361280377036513 : Unit := ()
def PySem.W.Fast.tw5844678519916178615 : Unit := ()
def PySem.W.Fast.tw3380168246419687101 : Unit := ()
def PySem.W.Fast.tw14337205621849090773 : Unit := ()
def PySem.W.Fast.tw1380088547496503872 : Unit := ()
def PySem.W.Fast.tw6923762172045019255 : Unit := ()
def PySem.W.Fast.tw16751014421236659125 : Unit := ()
def PySem.W.Fast.tw17344190873768642665 : Unit := ()
def PySem.W.Fast.tw3089915937612482334 : Unit := ()
def PySem.W.Fast.tw5517061722959479695 : Unit := ()
def PySem.W.Fast.tw2626185759827861484 : Unit := ()
def PySem.W.Fast.tw1884243449824413755 : Unit := ()
def PySem.W.Fast.tw2378728020763473129 : Unit := ()
def PySem.W.Fast.tw2493943372620641127 : Unit := ()
def PySem.W.Fast.tw14467777493570173115 : Unit := ()
def PySem.W.Fast.tw16812653981260378851 : Unit := ()
def PySem.W.Fast.tw5551394595906436555 : Unit := ()
def PySem.W.Fast.tw12372452975093317405 : Unit := ()
def PySem.W.Fast.tw3421379990189378724 : Unit := ()
def PySem.W.Fast.tw13066078074065854644 : Unit := ()
def PySem.W.Fast.tw11893732974883014872 : Unit := ()
def PySem.W.Fast.tw520672898297527862 : Unit := ()
def PySem.W.Fast.tw16581254181667367816 : Unit := ()
def PySem.W.Fast.tw1285201836068388653 : Unit := ()
def PySem.W.Fast.tw16563533872750964358 : Unit := ()
def PySem.W.Fast.tw15379549612927231272 : Unit := ()
def PySem.W.Fast.tw5103848031508358761 : Unit := ()
def PySem.W.Fast.tw7238239190597940542 : Unit := ()
def PySem.W.Fast.tw6054365088919763927 : Unit := ()
def PySem.W.Fast.tw2142290118470177586 : Unit := ()
def PySem.W.Fast.tw14155269112609121884 : Unit := ()
def PySem.W.Fast.tw6083088954266910694 : Unit := ()
def PySem.W.Fast.tw5449898199982670618 : Unit := ()
def PySem.W.Fast.tw12526007038471762384 : Unit := ()
def PySem.W.Fast.tw4679113893211518917 : Unit := ()
def PySem.W.Fast.tw17148697188325468314 : Unit := ()
def PySem.W.Fast.tw12560128422614056614 : Unit := ()
def PySem.W.Fast.tw1775976864585766148 : Unit := ()
def PySem.W.Fast.tw14778560693707563366 : Unit := ()
def PySem.W.Fast.tw10557625759147531464 : Unit := ()
def PySem.W.Fast.tw8893728796596528193 : Unit := ()
def PySem.W.Fast.tw11815037658519605014 : Unit := ()
def PySem.W.Fast.tw15420472305569733531 : Unit := ()
def PySem.W.Fast.tw6272741297392682051 : Unit := ()
def PySem.W.Fast.tw15574964000354686016 : Unit := ()
def PySem.W.Fast.tw6511281157509061537 : Unit := ()
def PySem.W.Fast.tw11033258353863773817 : Unit := ()
def PySem.W.Fast.tw3065294038703192123 : Unit := ()
def PySem.W.Fast.tw8246417115416762575 : Unit := ()
def PySem.W.Fast.tw5134422731642072658 : Unit := ()
def PySem.W.Fast.tw14044581109555892880 : Unit := ()
def PySem.W.Fast.tw14606974646553664703 : Unit := ()
def PySem.W.Fast.tw8068541366872217725 : Unit := ()
def PySem.W.Fast.tw3183783241640506756 : Unit := ()
def PySem.W.Fast.tw8399307854414149469 : Unit := ()
def PySem.W.Fast.tw1375549362665175995 : Unit := ()
def PySem.W.Fast.tw8304878404455992899 : Unit := ()
def PySem.W.Fast.tw11404931477894771992 : Unit := ()
def PySem.W.Fast.tw6060869778684862082 : Unit := ()
def PySem.W.Fast.tw13804863569314387505 : Unit := ()
def PySem.W.Fast.tw16500577994077571590 : Unit := ()
def PySem.W.Fast.tw1812359352578635971 : Unit := ()
def PySem.W.Fast.tw11807953884778998641 : Unit := ()
def PySem.W.Fast.tw2281040139597102405 : Unit := ()
def PySem.W.Fast.tw6001157553946487143 : Unit := ()
def PySem.W.Fast.tw3745732624351173830 : Unit := ()
def PySem.W.Fast.tw9214811138846235241 : Unit := ()
def PySem.W.Fast.tw2964136006970509995 : Unit := ()
def PySem.W.Fast.tw802834493664855974 : Unit := ()
def PySem.W.Fast.tw5817665681352233339 : Unit := ()
def PySem.W.Fast.tw13909188591368953992 : Unit := ()
def PySem.W.Fast.tw12675782330143117305 : Unit := ()
def PySem.W.Fast.tw13999264097619333659 : Unit := ()
def PySem.W.Fast.tw7457763239072931140 : Unit := ()
def PySem.W.Fast.tw18390675414897297555 : Unit := ()
def PySem.W.Fast.tw5877997350645879254 : Unit := ()
def PySem.W.Fast.tw13820241423893987679 : Unit := ()
def PySem.W.Fast.tw2818948094403674327 : Unit := ()
def PySem.W.Fast.tw16132053138606054424 : Unit := ()
def PySem.W.Fast.tw1497114257951128818 : Unit := ()
def PySem.W.Fast.tw4134180266826589494 : Unit := ()
def PySem.W.Fast.tw4062584242523893118 : Unit := ()
def PySem.W.Fast.tw17089690695919912523 : Unit := ()
def PySem.W.Fast.tw18232257714144706211 : Unit := ()
def PySem.W.Fast.tw9533673033667764445 : Unit := ()
def PySem.W.Fast.tw15544613324887498726 : Unit := ()
def PySem.W.Fast.tw12701659146480304421 : Unit := ()
def PySem.W.Fast.tw14043075061909424782 : Unit := ()
def PySem.W.Fast.tw7417406751086628976 : Unit := ()
def PySem.W.Fast.tw3190774409992072001 : Unit := ()
def PySem.W.Fast.tw9901165102492058007 : Unit := ()
def PySem.W.Fast.tw543768274515238787 : Unit := ()
def PySem.W.Fast.tw4338759702845394381 : Unit := ()
def PySem.W.Fast.tw2566849293247359039 : Unit := ()
def PySem.W.Fast.tw12840791244076364447 : Unit := ()
def PySem.W.Fast.tw2011571259451213291 : Unit := ()
def PySem.W.Fast.tw10656214782930167196 : Unit := ()
def PySem.W.Fast.tw15885390649661798796 : Unit := ()
def PySem.W.Fast.tw14238379159436205881 : Unit := ()
open PySem PySem.W PyProof.Rows
set_option maxRecDepth 100000 in
set_option maxHeartbeats 0 in
theorem PySem.Challenge.cw_firstpowers_k30_rounds_refused_holds : PySem.Challenge.rw_firstpowers_k30_rounds_refused.Holds := by
  w_on; o_law; k_head; (case hw => w_witness2)
  k_fill
  refine L2.jkl (l := PySem.Challenge.rw_firstpowers_k30_rounds_refused) (k := 12) (x := "_law_script") rfl rfl ⟨rfl, by decide, by decide, rfl⟩ (fun w h Y => PySem.W.km_in_of Y) ?B ?F
  case B => intro w; kernel_rfl
  case F =>
    intro w mg fa h KX G hmg
    refine' My.jpe KX G hmg ?d0 ?d1 ?d2 ?d3 ?d4 ?d5 ?d6 ?d7 ?d8 ?d9 ?d10 ?d11 ?d12 ?d13 ?d14 ?d15 ?d16 ?d17 ?d18 ?d19 ?d20 ?d21 ?d22 ?d23 ?d24 ?d25 ?d26 ?d27 ?d28 ?d29 ?d30 ?d31 ?d32 ?v0 ?z ?ex ?tb0
    case d0 | d1 | d2 | d3 | d4 | d5 | d6 | d7 | d8 | d9 | d10 | d11 | d12 | d13 | d14 | d15 | d16 | d17 | d18 | d19 | d20 | d21 | d22 | d23 | d24 | d25 | d26 | d27 | d28 | d29 | d30 | d31 | d32 => refine' L2.jo7 ?a ?l ?c ?k; (case a => k_is); (case l => k_is); (case c => k_is); (case k => k_is)
    case v0 => k_is
    case z | ex | tb0 => kernel_rfl
