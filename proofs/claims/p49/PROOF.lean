import PyProof.Rows.All
import Wide.All
import OpenK.AllK
import Wide.FinOn
import Lean
import PyProof.EqAt
import PyProof.EqKinds
import PyProof.TupleCall
import PyProof.Rows.TopTwo
import KE.KIsAll
import PyProof.ExcAttrAll.ValueError
import KE.KTryMore
import KE.KRevIter
import PyProof.SetRoads
import PySem.Challenge.RW_firstpowers_k49_whole_calendars
set_option Elab.async false
set_option linter.all false
set_option maxRecDepth 100000
abbrev G0a:= @List.length_map
abbrev G0b:= @PySem.Heap.get?_push_of_some
abbrev G0c:= @PySem.wpAny_pure
abbrev G0d:= @Nat.le_refl
abbrev G0e:= @List.length_cons
abbrev G0f:= @List.size_toArray
abbrev G0g:= @Bool.false_ne_true
abbrev G0h:= @List.length_range
abbrev G0i:= @List.getElem?_eq_getElem
abbrev G0j:= @Array.length_toList
abbrev G0k:= @PySem.Heap.lt_size
abbrev G0l:= @List.getElem?_cons_succ
abbrev G0m:= @PySem.Heap.get?_push_size
abbrev G0n:= @List.getD_eq_getElem?_getD
abbrev G0o:= @List.getElem?_map
abbrev G0p:= @List.getElem?_cons_zero
abbrev G0q:= @List.mem_range
abbrev G0r:= @decide_eq_true
abbrev G0s:= @PySem.W.mg_of
abbrev G0t:= @List.getElem?_eq_some_iff
abbrev G0u:= @List.mem_append_right
abbrev G0v:= @List.mem_cons
abbrev G0w:= @PySem.W.mg_none_of
abbrev G0x:= @List.map_cons
abbrev G0y:= @List.mem_cons_of_mem
abbrev G0z:= @List.mem_singleton
abbrev G0A:= @List.set_cons_succ
abbrev G0B:= @List.set_cons_zero
abbrev G0C:= @Nat.lt_of_lt_of_le
abbrev G0D:= @List.mem_cons_self
abbrev G0E:= @Option.some.injEq
abbrev G0F:= @List.cons_append
abbrev G0G:= @List.nil_append
abbrev G0H:= @List.length_nil
abbrev G0I:= @Nat.ne_of_lt
abbrev G0J:= @Bool.false_eq_true
abbrev G0K:= @exists_eq_left'
abbrev G0L:= @Array.getElem?_eq_some_iff
abbrev G0M:= @List.mem_map
abbrev G0N:= @List.map_map
abbrev G0O:= @PySem.boot_len
abbrev G0P:= @List.map_congr_left
abbrev G0Q:= @List.map_nil
abbrev G0R:= @Nat.lt_irrefl
abbrev G0S:= @decide_eq_false
abbrev G0T:= @Nat.le_trans
abbrev G0U:= @PySem.wpAny_mono
abbrev G0V:= @Option.some.inj
abbrev G0W:= @List.pairwise_iff_getElem
abbrev G0X:= @List.mem_of_getElem?
abbrev G0Y:= @Nat.le_of_lt
abbrev G0Z:= @PySem.wpAny_call_entry
abbrev G00:= @List.all_eq_true
abbrev G01:= @PySem.wpAny_callSpecial?_slot
abbrev G02:= @PySem.W.kia_one
abbrev G03:= @List.nodup_cons
abbrev G04:= @PySem.wpAny_holding
abbrev G05:= @List.length_take
abbrev G06:= @List.not_mem_nil
abbrev G07:= @List.getElem?_range
abbrev G08:= @PySem.wpAny_truthy_bool
abbrev G09:= @PySem.Heap.get?_update_self
abbrev G1a:= @List.pairwise_map
abbrev G1b:= @Nat.pow_succ
abbrev G1c:= @List.mem_append
abbrev G1d:= @List.length_append
abbrev G1e:= @List.getElem_range
abbrev G1f:= @Array.forIn_toList
abbrev G1g:= @List.mem_append_left
abbrev G1h:= @List.getElem?_set_ne
abbrev G1i:= @List.lookup_cons
abbrev G1j:= @List.getElem_mem
abbrev G1k:= @PyProof.Rows.slot_tuple_getitem
abbrev G1l:= @List.replicate_succ
abbrev G1m:= @Function.comp_apply
abbrev G1n:= @PySem.Heap.SameBut.update
abbrev G1o:= @Array.getElem?_eq_getElem
abbrev G1p:= @List.map_append
abbrev G1q:= @Bool.and_eq_true
abbrev G1r:= @PySem.wpAny_setState_of
abbrev G1s:= @PyProof.Rows.callWith_type1
abbrev G1t:= @Nat.add_sub_cancel'
abbrev G1u:= @List.take_of_length_le
abbrev G1v:= @PySem.F.slot_tuple_iterator_next
abbrev G1w:= @Array.getElem?_eq_none_iff
abbrev G1x:= @List.length_drop
abbrev G1y:= @beq_self_eq_true
abbrev G1z:= @Array.getElem?_toList
abbrev G1A:= @Nat.lt_or_ge
abbrev G1B:= @PyProof.Rows.boot_all
abbrev G1C:= @List.getElem?_append_left
abbrev G1D:= @Nat.zero_le
abbrev G1E:= @Classical.byContradiction
abbrev G1F:= @PySem.wpAny_newObj_type
abbrev G1G:= @PySem.wpAny_passesOwn
abbrev G1H:= @List.flatten_cons
abbrev G1I:= @List.idxOf_lt_length_iff
abbrev G1J:= @List.length_erase_of_mem
abbrev G1K:= @Nat.lt_trans
abbrev G1L:= @PySem.mem_of_lookup
abbrev G1M:= @Nat.lt_succ_self
abbrev G1N:= @List.length_pos_of_mem
abbrev G1O:= @Nat.div_div_eq_div_mul
abbrev G1P:= @List.mem_filterMap
abbrev G1Q:= @Nat.lt_of_le_of_lt
abbrev G1R:= @List.getElem_idxOf
abbrev G1S:= @Int.emod_lt_of_pos
abbrev G1T:= @Bool.eq_iff_iff
abbrev G1U:= @Nat.not_lt_zero
abbrev G1V:= @Array.getD_eq_getD_getElem?
abbrev G1W:= @PySem.PassesOwn.never
abbrev G1X:= @PySem.wpAny_pyIter_list
abbrev G1Y:= @List.getElem?_append_right
abbrev G1Z:= @List.mem_erase_of_ne
abbrev G10:= @List.getElem?_of_mem
abbrev G11:= @Decidable.byContradiction
abbrev G12:= @PySem.wpAny_seqItems
abbrev G13:= @Option.getD_some
abbrev G14:= @PySem.F.args_tuple_add_2
abbrev G15:= @List.all_map
abbrev G16:= @PySem.SetTable.toList_insertAt
abbrev G17:= @List.of_mem_zip
abbrev G18:= @PySem.F.entry_tuple_add
abbrev G19:= @List.forIn_cons
abbrev G2a:= @List.length_eq_zero_iff
abbrev G2b:= @PySem.F.plainAttrs_list
abbrev G2c:= @PySem.wpAny_pyIter_tuple
abbrev G2d:= @List.range_succ
abbrev G2e:= @PySem.wpAny_specialOf
abbrev G2f:= @Int.emod_nonneg
abbrev G2g:= @PySem.F.slot_tuple_add
abbrev G2h:= @Option.map_eq_some_iff
abbrev G2i:= @PySem.SetTable.insertAt_perm
abbrev G2j:= @List.getElem?_set
abbrev G2k:= @Nat.lt_of_succ_le
abbrev G2l:= @List.take_add_one
abbrev G2m:= @decide_eq_true_eq
abbrev G2n:= @Function.comp_def
abbrev G2o:= @Nat.lt_trichotomy
abbrev G2p:= @PySem.isSubtype_type
abbrev G2q:= @Nat.ne_of_gt
abbrev G2r:= @Nat.mul_comm
abbrev G2s:= @List.getElem?_eq_none
abbrev G2t:= @Nat.pow_zero
abbrev G2u:= @Nat.succ_pos
abbrev G2v:= @List.nodup_range
abbrev G2w:= @PySem.wpAny_isInstance
abbrev G2x:= @Nat.pow_le_pow_right
abbrev G2y:= @PySem.codeAny_call_builtin
abbrev G2z:= @Array.getElem_toList
abbrev G2A:= @PySem.F.args_tuple_iterator_next_1
abbrev G2B:= @Bool.not_true
abbrev G2C:= @beq_eq_false_iff_ne
abbrev G2D:= @PySem.wpAny_execs_nil
abbrev G2E:= @PySem.F.slot_int_rmul
abbrev G2F:= @PySem.F.entry_tuple_iterator_next
abbrev G2G:= @Int.fdiv_eq_ediv_of_nonneg
abbrev G2H:= @Int.fmod_eq_emod_of_nonneg
abbrev G2I:= @Array.isEmpty_eq_false_iff
abbrev G2J:= @PySem.wpAny_Call_Name_kw
abbrev G2K:= @PySem.wpAny_typeOf
abbrev G2L:= @Nat.zero_add
abbrev G2M:= @List.getElem?_drop
abbrev G2N:= @PySem.Heap.size_push
abbrev G2O:= @Option.isSome_iff_exists
abbrev G2P:= @List.append_assoc
abbrev G2Q:= @Nat.lt_succ_of_lt
abbrev G2R:= @PySem.F.slot_tuple_index
abbrev G2S:= @Array.toList_push
abbrev G2T:= @Nat.mod_lt
abbrev G2U:= @of_decide_eq_true
abbrev G2V:= @List.getElem?_replicate
abbrev G2W:= @or_false
abbrev G2X:= @List.map_drop
abbrev G2Y:= @PySem.noFill_tuple_add
abbrev G2Z:= @Nat.min_le_right
abbrev G20:= @List.getElem_map
abbrev G21:= @List.getElem?_set_self
abbrev G22:= @PySem.W.cellsFrom_some
abbrev G23:= @List.mem_filter
abbrev G24:= @List.append_nil
abbrev G25:= @Nat.le_of_eq
abbrev G26:= @Bool.or_eq_true
abbrev G27:= @Int.mul_comm
abbrev G28:= @PySem.codeAny_builtin
abbrev G29:= @List.getElem?_toArray
abbrev G3a:= @List.length_zip
abbrev G3b:= @Nat.add_zero
abbrev G3c:= @PySem.wpAny_rule
abbrev G3d:= @PySem.wpAny_call
abbrev G3e:= @PySem.typeIs_int
abbrev G3f:= @PySem.call_meets
abbrev G3g:= @Nat.not_lt
abbrev G3h:= @Bool.false_and
abbrev G3i:= @Bool.and_false
abbrev G3j:= @Int.le_refl
abbrev G3k:= @Nat.mul_add
abbrev G3l:= @Nat.div_one
abbrev G3m:= @List.map_take
abbrev G3n:= @Nat.add_assoc
abbrev G3o:= @Nat.mul_assoc
abbrev G3p:= @Bool.and_true
abbrev G3q:= @Bool.true_and
abbrev G3r:= @Nat.add_comm
abbrev G3s:= @if_false
namespace L2
open PySem PySem.Spec PyProof.Rows
abbrev Key:=Sum Int Str
def jmm:Key→Value→Bool
 | .inl k,v=>Value.isInt k v
 | .inr x,v=>Value.isStrOf x v
def jpm (w:World):Key→Int
 | .inl k=>hashInt k
 | .inr x=>hashStr w x
theorem jaJ: ∀ {k:Key} {v:Value},jmm k v=true→(∃i t,k=Sum.inl i∧v=Value.int i t)∨(∃x t,k=Sum.inr x∧v=Value.str x t)
 | .inl i,v,h=>by
  obtain⟨t,e⟩:=Value.isInt_shape (k:=i) (v:=v) h
  exact .inl ⟨i,t,rfl,e⟩
 | .inr x,v,h=>by
  obtain⟨t,e⟩:=Value.isStrOf_shape (x:=x) (v:=v) h
  exact .inr ⟨x,t,rfl,e⟩
theorem jmn (a b:Int):decide ((Sum.inl a:Key)=Sum.inl b)=(a==b):=by
 by_cases e:a=b
 ·subst e;simp
 ·have h: ¬ (Sum.inl a:Key)=Sum.inl b:=fun q=>e (Sum.inl.inj q)
  rw [G0S h]
  exact(G2C.mpr e).symm
theorem jmo (a b:Str):decide ((Sum.inr a:Key)=Sum.inr b)=decide (a=b):=by
 by_cases e:a=b
 ·subst e;simp
 ·have h: ¬ (Sum.inr a:Key)=Sum.inr b:=fun q=>e (Sum.inr.inj q)
  rw [G0S h,G0S e]
theorem jmp (a:Int) (b:Str):decide ((Sum.inl a:Key)=Sum.inr b)=false:=G0S (fun q=>nomatch q)
theorem jmq (a:Str) (b:Int):decide ((Sum.inr a:Key)=Sum.inl b)=false:=G0S (fun q=>nomatch q)
def jhW (prog:Program) (w:World):PySem.KeyKind prog w Key where
 is:=jmm
 hash:=jpm w
 inj:=fun v a b ha hb=>by
  rcases jaJ ha with ⟨i,t,rfl,rfl⟩|⟨x,t,rfl,rfl⟩
  ·rcases jaJ hb with ⟨j,u,rfl,e⟩|⟨y,u,rfl,e⟩
   ·injection e with e1 _;rw [e1]
   ·exact nomatch e
  ·rcases jaJ hb with ⟨j,u,rfl,e⟩|⟨y,u,rfl,e⟩
   ·exact nomatch e
   ·injection e with e1 _;rw [e1]
 byValue:=fun k v h=>by
  rcases jaJ h with ⟨i,t,rfl,rfl⟩|⟨x,t,rfl,rfl⟩<;>rfl
 pyHash:=fun hv h=>by
  rcases jaJ hv with ⟨i,t,rfl,rfl⟩|⟨x,t,rfl,rfl⟩
  ·exact wpAny_pyHash_int h
  ·exact wpAny_pyHash_str h
 eqBool:=fun hu hv h=>by
  rcases jaJ hu with ⟨i,t,rfl,rfl⟩|⟨x,t,rfl,rfl⟩
  ·rcases jaJ hv with ⟨j,u,rfl,rfl⟩|⟨y,u,rfl,rfl⟩
   ·rw [jmn] at h;exact wpAny_eqBool_int h
   ·rw [jmp] at h;exact SeqAt.EqAt.int_str i t y u _ _ _ _ h
  ·rcases jaJ hv with ⟨j,u,rfl,rfl⟩|⟨y,u,rfl,rfl⟩
   ·rw [jmq] at h;exact SeqAt.EqAt.str_int x t j u _ _ _ _ h
   ·rw [jmo] at h;exact wpAny_eqBool_str h
 «strs» :=fun k x t v h=>by
  rcases jaJ h with ⟨i,u,rfl,e⟩|⟨y,u,rfl,e⟩
  ·exact nomatch e
  ·injection e with e1 _
   subst e1
   cases v<;>rfl
inductive V where
 |non|bl (b:Bool)|int (i:Int)|str (x:Str)|byt (b:Array UInt8)|flt (b:UInt64)|ref (a:Addr)|ty (n:String)
 deriving DecidableEq
def RelV:V→Value→Prop
 | .non,u=>u=Value.none
 | .bl b,u=>u=Value.bool b
 | .int i,u=> ∃t,u=Value.int i t
 | .str x,u=> ∃t,u=Value.str x t
 | .byt b,u=> ∃t,u=Value.bytes b t
 | .flt b,u=> ∃t,u=Value.float b t
 | .ref a,u=>u=Value.ref a
 | .ty n,u=>u=Value.type n
abbrev Vals:List V→List Value→Prop:=Paired RelV
theorem Vals.length {xs:List V} {us:List Value} (r:Vals xs us):xs.length=us.length:=Paired.length r
theorem Vals.get: ∀ {xs:List V} {us:List Value} {i:Nat} {x:V},Vals xs us→xs[i]? =some x→ ∃u,us[i]? =some u∧RelV x u
 |_,_,_,_,.nil,e=>by simp at e
 |_,_,0,_,.cons r _,e=>by simp at e;subst e;exact⟨_,rfl,r⟩
 |_,_,i+1,x,.cons _ t,e=>by
  obtain⟨u,h1,h2⟩:=Vals.get (i:=i) (x:=x) t (by simpa using e)
  exact⟨u,by simpa using h1,h2⟩
theorem Vals.set {x:V} {u:Value} (r:RelV x u): ∀ {xs:List V} {us:List Value} (i:Nat),Vals xs us→Vals (xs.set i x) (us.set i u)
 |_,_,_,.nil=> .nil
 |_,_,0,.cons _ t=> .cons r t
 |_,_,i+1,.cons q t=> .cons q (Vals.set r i t)
theorem Vals.append: ∀ {xs ys:List V} {us ws:List Value},Vals xs us→Vals ys ws→Vals (xs++ys) (us++ws)
 |_,_,_,_,.nil,s=>s
 |_,_,_,_,.cons r t,s=> .cons r (Vals.append t s)
theorem Vals.take: ∀ {xs:List V} {us:List Value} (n:Nat),Vals xs us→Vals (xs.take n) (us.take n)
 |_,_,0,_=> .nil
 |_,_,_+1,.nil=> .nil
 |_,_,n+1,.cons r t=> .cons r (Vals.take n t)
theorem Vals.drop: ∀ {xs:List V} {us:List Value} (n:Nat),Vals xs us→Vals (xs.drop n) (us.drop n)
 |_,_,0,r=>r
 |_,_,_+1,.nil=> .nil
 |_,_,n+1,.cons _ t=>Vals.drop n t
def jn6:Option V→Option Value→Prop
 |some v,some u=>RelV v u
 |none,none=>True
 |_,_=>False
def KV {κ:Type}:List (κ×V)→List (κ×Value)→Prop:=Paired fun (p:κ×V) (q:κ×Value)=>p.1=q.1∧RelV p.2 q.2
def kV:Key→V
 | .inl i=> .int i
 | .inr x=> .str x
inductive HO where
 /-- a list -/
 |lst (xs:List V)
 /-- a tuple (never changes) -/
 |tup (xs:List V)
 /-- a dict whose keys are ints and texts;one whose keys are tuples of ints and texts (the empty one is both) -/
 |dK (kvs:List (Key×V))|dT (kvs:List (List Key×V))
 /-- a set of ints: its members,its size -/
 |set (S:Int→Bool) (n:Nat)
 /-- an instance of the class at C,its dict at dx,its attributes -/
 |ins (C dx:Addr) (fs:List (Str×V))
 /-- the dict of the instance at x -/
 |own (x:Addr)
 /-- the dict of an exception -/
 |xd (fs:List (Str×V))
 /-- a bound method,f of x -/
 |met (f x:Addr)
 /-- a range object lo,lo+1,.. below hi -/
 |rng (lo hi:Int)
 /-- a thing that is known to the object (the script;a dict while a loop walks it):read,never written while it is so -/
 |frz (o:Obj) (u:HO)
 /-- a code object's table -/
 |tbl (ps:Array Value)
 /-- any other thing,by what is true of its one object (a def of one's own: SetO a S n:=HO.ext fun h=> ..) -/
 |ext (φ:Heap→Prop)
abbrev Hp:=Addr→Option HO
def upd (H:Hp) (a:Addr) (o:HO):Hp:=fun b=>if b=a then some o else H b
theorem jao {H:Hp} {a:Addr} {o:HO}:upd H a o a=some o:=by unfold upd;rw [if_pos rfl]
theorem jan {H:Hp} {a b:Addr} {o:HO} (h:b≠a):upd H a o b=H b:=by unfold upd;rw [if_neg h]
theorem jhX {H:Hp} {a b:Addr} {o u:HO} (h:H a=some o) (h' :H b=some u) (d:o≠u):a≠b:=by
 intro e;subst e;rw [h] at h';exact d (G0V h')
theorem jah {H:Hp} {a b:Addr} {o:HO} (h:H a=some o) (h' :H b=none):a≠b:=by
 intro e;subst e;rw [h] at h';cases h'
def IsTupN (h:Heap) (a:Addr) (items:Array Value):Prop:= ∃o,h.get? a=some o∧o.cls= .type "tuple" ∧o.dict=none∧ ∃n,o.data= .seq items n
theorem IsTupN.tup {h:Heap} {a:Addr} {items:Array Value} (x:IsTupN h a items):IsTup h a items:=let ⟨o,e,c,_,n,d⟩:=x;⟨o,e,c,n,d⟩
theorem IsTupN.new (h:Heap) (items:Array Value):IsTupN (h.push {cls:= .type "tuple",data:= .seq items}) h.objs.size items:=⟨_,G0m _ rfl,rfl,rfl,_,rfl⟩
section
variable (P:Program) (w:World)
def ObjOk (H:Hp) (h:Heap) (a:Addr):HO→Prop
 | .lst xs=>xs.length≤sizeLine∧ ∃ (its:List Value) (n:Nat),Vals xs its∧h.get? a=some {cls:= .type "list",data:= .seq its.toArray n}
 | .tup xs=>xs.length≤sizeLine∧ ∃its:List Value,Vals xs its∧IsTupN h a its.toArray
 | .dK kvs=>kvs.length≤sizeLine∧(a==sysModules)=false∧ ∃vs,KV kvs vs∧h.DictOf (jhW P w) a vs
 | .dT kvs=>kvs.length≤sizeLine∧(a==sysModules)=false∧ ∃xs:List (List Key×Addr×Value),
  Paired (fun (p:List Key×V) (q:List Key×Addr×Value)=>p.1=q.1∧H q.2.1=some (.tup (p.1.map kV))∧RelV p.2 q.2.2) kvs xs∧
  ∃o es ep,h.get? a=some o∧o.ExactDict∧o.data= .dict es ep∧es.toList=xs.map (entryOfKey (tupleKind (jhW P w)))∧(xs.map (·.1)).Nodup
 | .set S n=>h.SetOf (intKind P w) a S n
 | .ins C dx fs=>H dx=some (.own a)∧fs.length≤1000∧dx≠a∧h.get? a=some (PySem.W.instObj C dx)∧
  ∃mA,h.Ns1 dx mA∧(∀f,jn6 (fs.lookup f) (mA f))∧PySem.Within mA (fs.map (·.1))
 | .own _=> ∃o,h.get? a=some o
 | .xd fs=> ∃mA,h.Ns1 a mA∧ ∀f,jn6 (fs.lookup f) (mA f)
 | .rng lo hi=> ∃t u v,h.get? a=some {cls:= .type "range",data:= .fields #[.int lo t,.int hi u,.int 1 v]}
 | .frz o u=>h.get? a=some o∧ObjOk H h a u
 | .tbl ps=>h.get? a=some {cls:= .none,data:= .fields ps}
 | .met f x=>h.get? a=some (PySem.W.methodObj (.ref f) (.ref x))
 | .ext φ=>φ h∧(∃o,h.get? a=some o)∧ ∀h1 h2:Heap,φ h1→(∀o,h1.get? a=some o→h2.get? a=some o)→φ h2
def HOk (H:Hp) (h:Heap):Prop:= ∀a o,H a=some o→ObjOk P w H h a o
end
section
variable {P:Program} {w:World} {H H' :Hp} {h h' :Heap} {a:Addr} {o:HO}
theorem ObjOk.lt (x:ObjOk P w H h a o):a<h.objs.size:=by
 cases o with
 |lst xs=>obtain⟨_,_,_,_,e⟩:=x;exact G0k e
 |tup xs=>obtain⟨_,_,_,p⟩:=x;exact p.tup.lt
 |dK kvs=>obtain⟨_,_,_,_,o,_,_,e,_⟩:=x;exact G0k e
 |dT kvs=>obtain⟨_,_,_,_,o,_,_,e,_⟩:=x;exact G0k e
 |set S n=>obtain⟨o,_,_,_,e,_⟩:=x;exact G0k e
 |ins C dx fs=>obtain⟨_,_,_,e,_⟩:=x;exact G0k e
 |own y=>obtain⟨_,e⟩:=x;exact G0k e
 |xd fs=>obtain⟨_,⟨_,_,_,e,_⟩,_⟩:=x;exact G0k e
 |rng lo hi=>obtain⟨_,_,_,e⟩:=x;exact G0k e
 |frz ob u=>obtain⟨e,_⟩:=x;exact G0k e
 |tbl ps=>exact G0k (show h.get? a=some _ from x)
 |met f y=>exact G0k (show h.get? a=some _ from x)
 |ext φ=>obtain⟨_,⟨_,e⟩,_⟩:=x;exact G0k e
theorem Paired.mapP {α β:Type} {F G:α→β→Prop}: ∀ {l₁:List α} {l₂:List β},Paired F l₁ l₂→(∀a b,F a b→G a b)→Paired G l₁ l₂
 |_,_,.nil,_=> .nil
 |_,_,.cons r t,f=> .cons (f _ _ r) (Paired.mapP t f)
theorem ObjOk.stay (x:ObjOk P w H h a o) (k: ∀b u,(b=a∨H b=some (.own a))→h.get? b=some u→h'.get? b=some u)
 (ho: ∀b,H b=some (.own a)→H' b=some (.own a)) (ht: ∀b xs,H b=some (.tup xs)→H' b=some (.tup xs)):ObjOk P w H' h' a o:=by
 induction o with
 |lst xs=>obtain⟨z,its,n,r,e⟩:=x;exact⟨z,its,n,r,k _ _ (.inl rfl) e⟩
 |tup xs=>obtain⟨z,its,r,ob,e,c⟩:=x;exact⟨z,its,r,ob,k _ _ (.inl rfl) e,c⟩
 |dK kvs=>obtain⟨z,y,vs,r,ob,es,ep,e,c⟩:=x;exact⟨z,y,vs,r,ob,es,ep,k _ _ (.inl rfl) e,c⟩
 |dT kvs=>
  obtain⟨z,y,xs,r,ob,es,ep,e,c⟩:=x
  exact⟨z,y,xs,Paired.mapP r fun p q z=>⟨z.1,ht _ _ z.2.1,z.2.2⟩,ob,es,ep,k _ _ (.inl rfl) e,c⟩
 |set S n=>obtain⟨ob,es,ep,t,e,c⟩:=x;exact⟨ob,es,ep,t,k _ _ (.inl rfl) e,c⟩
 |ins C dx fs=>
  obtain⟨d,z,ne,e,mA,⟨od,es,ep,e2,c⟩,r⟩:=x
  exact⟨ho _ d,z,ne,k _ _ (.inl rfl) e,mA,⟨od,es,ep,k _ _ (.inr d) e2,c⟩,r⟩
 |own y=>obtain⟨ob,e⟩:=x;exact⟨ob,k _ _ (.inl rfl) e⟩
 |xd fs=>obtain⟨mA,⟨od,es,ep,e,c⟩,r⟩:=x;exact⟨mA,⟨od,es,ep,k _ _ (.inl rfl) e,c⟩,r⟩
 |rng lo hi=>obtain⟨t,u,v,e⟩:=x;exact⟨t,u,v,k _ _ (.inl rfl) e⟩
 |frz ob u ih=>obtain⟨e,q⟩:=x;exact⟨k _ _ (.inl rfl) e,ih q⟩
 |tbl ps=>
  have e:h.get? a=some {cls:= .none,data:= .fields ps}:=x
  show h'.get? a=some {cls:= .none,data:= .fields ps}
  exact k a _ (.inl rfl) e
 |met f y=>
  have e:h.get? a=some (PySem.W.methodObj (.ref f) (.ref y)):=x
  show h'.get? a=some (PySem.W.methodObj (.ref f) (.ref y))
  exact k a _ (.inl rfl) e
 |ext φ=>obtain⟨p,⟨o,e⟩,st⟩:=x;exact⟨st _ _ p fun o q=>k _ _ (.inl rfl) q,⟨o,k _ _ (.inl rfl) e⟩,st⟩
theorem HOk.lt (x:HOk P w H h) (e:H a=some o):a<h.objs.size:=(x a o e).lt
theorem HOk.fresh (x:HOk P w H h) (e:h.objs.size≤a):H a=none:=by
 cases q:H a with
 |none=>rfl
 |some u=>exact absurd (G0C (x.lt q) e) (G0R _)
theorem HOk.kept (x:HOk P w H h) (k: ∀b u,h.get? b=some u→h'.get? b=some u):HOk P w H h' :=fun a o e=>
 (x a o e).stay (fun b u _ q=>k b u q) (fun _ q=>q) fun _ _ q=>q
theorem HOk.laid (x:HOk P w H h) (k: ∀b u,h.get? b=some u→h'.get? b=some u) (hp:h.objs.size≤a) (new:ObjOk P w (upd H a o) h' a o):HOk P w (upd H a o) h' :=fun b u e=>by
 have hn:=x.fresh hp
 by_cases hb:b=a
 ·subst hb;rw [jao] at e;cases e;exact new
 ·rw [jan hb] at e
  exact(x b u e).stay (fun c v _ q=>k c v q) (fun c q=>by rw [jan (jah q hn)];exact q) fun c xs q=>by rw [jan (jah q hn)];exact q
end
def Rd (H:Hp) (a:Addr) (u:HO):Prop:=H a=some u∨ ∃o,H a=some (.frz o u)
theorem Rd.ok {P:Program} {w:World} {H:Hp} {h:Heap} {a:Addr} {u:HO} (r:Rd H a u) (x:HOk P w H h):ObjOk P w H h a u:=by
 rcases r with r|⟨o,r⟩
 ·exact x a u r
 ·obtain⟨_,q⟩:=x a _ r
  exact q
def Mut:Option HO→Prop
 |some (.lst _)=>True
 |some (.dK _)=>True
 |some (.dT _)=>True
 |some (.set _ _)=>True
 |some (.ins _ _ _)=>True
 |some (.ext _)=>True
 |_=>False
section
variable {P:Program} {w:World} {H:Hp} {h h' :Heap} {x e:Addr} {o' :HO}
theorem HOk.write (ok:HOk P w H h) (mu:Mut (H x)) (he:e=x∨H e=some (.own x)) (k: ∀b u,b≠e→h.get? b=some u→h'.get? b=some u) (heo: ∃u,h'.get? e=some u)
 (new:ObjOk P w (upd H x o') h' x o'):HOk P w (upd H x o') h' :=fun b u q=>by
 have nown: ∀c y,H c=some (.own y)→c≠x:=fun c y r z=>by subst z;rw [r] at mu;exact mu
 have ntup: ∀c xs,H c=some (.tup xs)→c≠x:=fun c xs r z=>by subst z;rw [r] at mu;exact mu
 by_cases hb:b=x
 ·subst hb;rw [jao] at q;cases q;exact new
 ·rw [jan hb] at q
  by_cases hbe:b=e
  ·have q' :H b=some (.own x):=by
    rcases he with z|z
    ·exact absurd (hbe.trans z) hb
    ·rw [hbe];exact z
   rw [q] at q';cases q'
   obtain⟨v,hv⟩:=heo
   exact⟨v,by rw [hbe];exact hv⟩
  ·refine(ok b u q).stay (fun c v hc r=>k c v ?_ r) (fun c r=>by rw [jan (nown c b r)];exact r) fun c xs r=>by rw [jan (ntup c xs r)];exact r
   rcases hc with rfl|hc
   ·exact hbe
   ·rintro rfl
    rcases he with z|z
    ·exact nown c b hc z
    ·rw [hc] at z;cases z;exact hb rfl
end
structure Un (fs ex:List Addr) (H H' :Hp) (h h' :Heap):Prop where
 keep: ∀b o,h.get? b=some o→H b=none→b ∉ fs→b ∉ ex→h'.get? b=some o
 slot: ∀b o,h.get? b=some o→H b=none→b∈fs→b ∉ ex→ ∃sl,h'.get? b=some {o with slots:=sl}
 free: ∀b o,h.get? b=some o→H b=none→b ∉ ex→H' b=none
 there: ∀b o,h.get? b=some o→b ∉ ex→ ∃o',h'.get? b=some o'
 tups: ∀b xs,H b=some (.tup xs)→H' b=some (.tup xs)
 frzs: ∀b o u,H b=some (.frz o u)→H' b=some (.frz o u)
 tbls: ∀b ps,H b=some (.tbl ps)→ ∃more,H' b=some (.tbl (ps++more))
section
variable {fs fs' ex ex' :List Addr} {H H1 H2:Hp} {h h1 h2 h' :Heap} {a x e:Addr} {o:HO}
theorem Un.any (u:Un fs ex H H1 h h1) {b:Addr} {ob:Obj} (q:h.get? b=some ob) (n:H b=none) (hx:b ∉ ex): ∃sl,h1.get? b=some {ob with slots:=sl}:=by
 by_cases hb:b∈fs
 ·exact u.slot b ob q n hb hx
 ·exact⟨ob.slots,u.keep b ob q n hb hx⟩
theorem Un.kept (k: ∀b u,h.get? b=some u→h'.get? b=some u):Un fs ex H H h h' :=
 ⟨fun b ob q _ _ _=>k b ob q,fun b ob q _ _ _=>⟨ob.slots,k b ob q⟩,fun _ _ _ n _=>n,fun b ob q _=>⟨ob,k b ob q⟩,fun _ _ q=>q,fun _ _ _ q=>q,fun _ ps q=>⟨#[],by rw [q];simp⟩⟩
theorem Un.refl:Un fs ex H H h h:=Un.kept fun _ _ q=>q
theorem Un.laid (k: ∀b u,h.get? b=some u→h'.get? b=some u) (hp:h.objs.size≤a) (hn:H a=none):Un fs ex H (upd H a o) h h' where
 keep:=fun b u q _ _ _=>k b u q
 slot:=fun b u q _ _ _=>⟨u.slots,k b u q⟩
 free:=fun b u q n _=>by rw [jan (G0I (G0C (G0k q) hp))];exact n
 there:=fun b u q _=>⟨u,k b u q⟩
 tups:=fun b xs q=>by rw [jan (jah q hn)];exact q
 frzs:=fun b u xs q=>by rw [jan (jah q hn)];exact q
 tbls:=fun b ps q=>⟨#[],by rw [jan (jah q hn),q];simp⟩
theorem Un.write (mu:Mut (H x)) (he:e=x∨H e=some (.own x)) (k: ∀b u,b≠e→h.get? b=some u→h'.get? b=some u) (heo: ∃u,h'.get? e=some u):Un fs ex H (upd H x o) h h' :=by
 have hx: ∀b,H b=none→b≠x:=fun b n z=>by subst z;rw [n] at mu;exact mu
 have hb: ∀b,H b=none→b≠e:=fun b n z=>by
  subst z
  rcases he with r|r
  ·exact hx b n r
  ·rw [n] at r;cases r
 have hm: ∀b u,H b=some u→ ¬Mut (some u)→b≠x:=fun b u q nm z=>by subst z;rw [q] at mu;exact nm mu
 refine⟨fun b u q n _ _=>k b u (hb b n) q,fun b u q n _ _=>⟨u.slots,k b u (hb b n) q⟩,fun b u q n _=>by rw [jan (hx b n)];exact n,fun b u q _=> ?_,
  fun b xs q=>by rw [jan (hm b _ q fun z=>z)];exact q,fun b u xs q=>by rw [jan (hm b _ q fun z=>z)];exact q,fun b ps q=>⟨#[],by rw [jan (hm b _ q fun z=>z),q];simp⟩⟩
 by_cases hbe:b=e
 ·subst hbe;exact heo
 ·exact⟨u,k b u hbe q⟩
end
def trk (h:Heap) (H:Hp):List Addr:=(List.range h.objs.size).filter fun a=>(H a).isSome
def jjt (h:Heap) (H:Hp):Heap:=PySem.W.hideAll h (trk h H)
theorem jhY (h:Heap) (H:Hp):(jjt h H).objs.size=h.objs.size:=PySem.W.hideAll_size _ _
theorem jeZ {h:Heap} {H:Hp} {b:Addr} {o:Obj} (e:h.get? b=some o) (n:H b=none):(jjt h H).get? b=some o:=
 PySem.W.hideAll_get _ e fun hm=>by
  have q:(H b).isSome=true:=(G23.mp hm).2
  rw [n] at q;simp at q
theorem jkV {h:Heap} {H:Hp} {b:Addr} {o:Obj} (e:(jjt h H).get? b=some o):h.get? b=some o∧H b=none:=by
 have e' :h.get? b=some o:=PySem.W.of_hideAll (trk h H) e
 refine⟨e',?_⟩
 cases q:H b with
 |none=>rfl
 |some x=>
  have hm:b∈trk h H:=G23.mpr ⟨G0q.mpr (G0k e'),by simp [q]⟩
  have z:(jjt h H).get? b=none:=PySem.W.hideAll_none (trk h H) hm
  rw [z] at e;cases e
def jkW (g h:Heap) (L:Addr):List (Addr×Obj):=(List.range h.objs.size).filterMap fun a=>if a=L∨(g.get? a).isSome=true then none else (h.get? a).map fun o=>(a,o)
def rest (g h:Heap) (L d:Addr):List (Addr×Obj):=(jkW g h L).filter fun p=>decide (p.1≠d)
structure Mod (K:PySem.W.Frag) (mg:Str→Option Value) (base:Heap):Prop where
 kin:K.In base
 glob:base.Ns mainGlobals mg
 blt: ∃mb,base.Ns builtinsNs mb∧ ∀x:Str,x≠ "__name__" →mb x=bootBuiltins x
 nolimit:base.NoLimit
structure Cx where
 prog:Program
 w:World
 K:PySem.W.Frag
 mg:Str→Option Value
 base:Heap
 A:Around
 N:List Str
 s₀:Shared
 H₀:Hp
 env:Env
 outer:List Env
 stack:List Env
 ex:List Addr
 fn:Str→Bool
 calm:Bool
 pn:List (Addr×Obj)
 xe:Value→Shared→Prop
def frs (l:List Env):List Addr:=l.filterMap (·.frame)
abbrev Cx.fs (X:Cx):List Addr:=frs X.outer
def Vis (sc:Scope) (x:Str):Prop:=sc.names.lookup x=some .local∨sc.names.lookup x=some .cell∨sc.names.lookup x=some .free
def Loc (sc:Scope) (x:Str):Prop:=sc.names.lookup x=some .local∨sc.names.lookup x=some .cell
def jpn (env:Env) (h:Heap) (m:Str→Option Value) (x:Str) (u:Value):Prop:=
 (env.kindOf x=some .local∧m x=some u)∨((env.kindOf x=some .cell∨env.kindOf x=some .free)∧ ∃c,env.cells.lookup x=some c∧h.IsCell c (some u))
structure Cx.Ok (X:Cx):Prop where
 mod:Mod X.K X.mg X.base
 kind:X.env.scope.kind= .function
 glob:X.env.globals=mainGlobals
 blt:X.env.builtins=builtinsNs
 above:X.s₀.heap.objs.size≤X.env.locals
 inj: ∀x y c,X.env.cells.lookup x=some c→X.env.cells.lookup y=some c→x=y
 has: ∀x,(X.env.kindOf x=some .cell∨X.env.kindOf x=some .free)→ ∃c,X.env.cells.lookup x=some c
 cab: ∀x c,X.fn x=true→X.env.cells.lookup x=some c→X.s₀.heap.objs.size≤c
 hd:X.calm=true→X.A.handled=none
 frames:X.A.frames=some X.stack
 stk:X.stack=X.outer∨(X.stack=X.env::X.outer∧X.env.frame=some X.env.locals)
 exf: ∀b∈X.ex,b≠X.env.locals∧ ∀x c,X.env.cells.lookup x=some c→c≠b
 bs: ∀b o,X.base.get? b=some o→X.s₀.heap.get? b=some o∧X.H₀ b=none
 bsz:X.base.objs.size≤X.s₀.heap.objs.size
 noex: ∀b o,X.base.get? b=some o→b ∉ X.ex
 exfs: ∀b∈X.ex,b ∉ X.fs
 funs:X.s₀.heap.FunFrames X.base X.outer
 frf: ∀b∈X.fs,X.H₀ b=none
structure Inv (X:Cx) (pins:List (Addr×Obj)) (σ:List (Option V)) (H:Hp) (s:Shared):Prop where
 ok:X.Ok
 os:s.os=X.s₀.os
 bare:AllBare s.gens
 base:Un X.fs X.ex X.H₀ H X.s₀.heap s.heap
 loc: ∃m,s.heap.Ns X.env.locals m∧ ∀ (i:Nat) (x:Str) (v:V),X.N[i]? =some x→σ[i]? =some (some v)→Vis X.env.scope x→ ∃u,RelV v u∧jpn X.env s.heap m x u
 cell: ∀x c,X.env.cells.lookup x=some c→ ∃v,s.heap.IsCell c v
 free:H X.env.locals=none
 freeC: ∀x c,X.env.cells.lookup x=some c→H c=none
 pin: ∀p∈X.pn++pins,s.heap.get? p.1=some p.2∧H p.1=none∧p.1≠X.env.locals∧p.1 ∉ X.fs∧ ∀v,p.2.data≠ .cell v
 hok:HOk X.prog X.w H s.heap
 len:σ.length=X.N.length
section
variable {X:Cx} {pins:List (Addr×Obj)} {σ:List (Option V)} {H H' :Hp} {s:Shared} {h' :Heap}
theorem Cx.Ok.nofr (ok:X.Ok) {b:Addr} {o:Obj} (e:X.base.get? b=some o):b ∉ X.fs:=fun hb=>by
 have:=(ok.funs.mem hb).1
 rw [e] at this;cases this
theorem Inv.bs (I:Inv X pins σ H s): ∀b o,X.base.get? b=some o→s.heap.get? b=some o∧H b=none:=fun b o e=>
 ⟨I.base.keep b o (I.ok.bs b o e).1 (I.ok.bs b o e).2 (I.ok.nofr e) (I.ok.noex b o e),I.base.free b o (I.ok.bs b o e).1 (I.ok.bs b o e).2 (I.ok.noex b o e)⟩
theorem Inv.bk (I:Inv X pins σ H s): ∀b o,X.base.get? b=some o→s.heap.get? b=some o:=fun b o e=>(I.bs b o e).1
theorem Inv.mod (I:Inv X pins σ H s):Mod X.K X.mg X.base:=I.ok.mod
theorem Inv.kIn (I:Inv X pins σ H s):X.K.In s.heap:=I.ok.mod.kin.keeps I.bk
theorem Inv.lt (I:Inv X pins σ H s):X.env.locals<s.heap.objs.size:=let ⟨_,hn,_⟩:=I.loc;hn.lt
theorem Inv.sz (I:Inv X pins σ H s):X.s₀.heap.objs.size≤s.heap.objs.size:=G0T I.ok.above (G0Y I.lt)
theorem Inv.nofs (I:Inv X pins σ H s) {a:Addr} (h:s.heap.objs.size≤a):a ∉ X.fs:=fun hb=>by
 obtain⟨_,o,ho,_⟩:=I.ok.funs.mem hb
 exact absurd (G0C (G0k ho) (G0T I.sz h)) (G0R _)
theorem Inv.cne (I:Inv X pins σ H s): ∀x c,X.env.cells.lookup x=some c→c≠X.env.locals:=fun x c e z=>by
 obtain⟨v,o,ho,hd⟩:=I.cell x c e
 obtain⟨m,⟨o',es,ep,ho',hd',_⟩,_⟩:=I.loc
 rw [z,ho'] at ho;cases ho;rw [hd'] at hd;cases hd
theorem Inv.funs (I:Inv X pins σ H s):s.heap.FunFrames X.base X.outer:=by
 have all: ∀ (l:List Env),(∀b∈frs l,b∈X.fs)→X.s₀.heap.FunFrames X.base l→s.heap.FunFrames X.base l:=by
  intro l
  induction l with
  |nil=>intro _ _;trivial
  |cons env r ih=>
   intro hs hl
   obtain⟨hk,⟨L,o,hf,hn,ho,hd⟩,hr⟩:=hl
   have hL:L∈X.fs:=hs L (by unfold frs;rw [List.filterMap_cons,hf];exact List.mem_cons_self)
   obtain⟨sl,e⟩:=I.base.slot L o ho (I.ok.frf L hL) hL fun z=>I.ok.exfs L z hL
   exact⟨hk,⟨L,_,hf,hn,e,hd⟩,ih (fun b hb=>hs b (by unfold frs;rw [List.filterMap_cons,hf];exact List.mem_cons_of_mem _ hb)) hr⟩
 exact all X.outer (fun _ hb=>hb) I.ok.funs
theorem Inv.stack (I:Inv X pins σ H s):s.heap.FunFrames X.base X.stack:=by
 rcases I.ok.stk with e|⟨e,hf⟩
 ·rw [e];exact I.funs
 ·rw [e]
  obtain⟨m,hn,_⟩:=I.loc
  refine .cons (by rw [I.ok.kind];decide) hf hn ?_ I.funs
  exact Heap.get?_none_of_le (G0T I.ok.bsz I.ok.above)
theorem Inv.stkSub (I:Inv X pins σ H s): ∀b∈frs X.stack,b∈X.env.locals::X.fs:=fun b hb=>by
 rcases I.ok.stk with e|⟨e,hf⟩
 ·rw [e] at hb;exact G0y _ hb
 ·rw [e] at hb
  unfold frs at hb
  rw [List.filterMap_cons,hf] at hb
  exact hb
theorem Inv.stkFree (I:Inv X pins σ H s): ∀b∈frs X.stack,H b=none:=fun b hb=>by
 rcases G0v.mp (I.stkSub b hb) with e|hb
 ·rw [e];exact I.free
 ·obtain⟨_,o,ho,_⟩:=I.ok.funs.mem hb
  exact I.base.free b o ho (I.ok.frf b hb) fun z=>I.ok.exfs b z hb
theorem Inv.step {g' :Array GenState} {t' :Nat} {d' :Drawn} {ch:List Addr} (I:Inv X pins σ H s)
 (hch: ∀b∈ch,(b∈X.ex∨X.s₀.heap.objs.size≤b)∧b≠X.env.locals∧(∀x c,X.env.cells.lookup x=some c→c≠b)∧ ∀p∈X.pn++pins,p.1≠b)
 (keep: ∀b o,b≠X.env.locals→b ∉ X.fs→b ∉ ch→s.heap.get? b=some o→H b=none→h'.get? b=some o)
 (slot: ∀b o,b≠X.env.locals→b∈X.fs→b ∉ ch→s.heap.get? b=some o→H b=none→ ∃sl,h'.get? b=some {o with slots:=sl}) (free: ∀b o,b ∉ ch→s.heap.get? b=some o→H b=none→H' b=none)
 (there: ∀b o,b ∉ ch→s.heap.get? b=some o→ ∃o',h'.get? b=some o')
 (tups: ∀b xs,H b=some (.tup xs)→H' b=some (.tup xs)) (frzs: ∀b o u,H b=some (.frz o u)→H' b=some (.frz o u)) (tbls: ∀b ps,H b=some (.tbl ps)→ ∃more,H' b=some (.tbl (ps++more)))
 (ns: ∀m,s.heap.Ns X.env.locals m→h'.Ns X.env.locals m) (hok:HOk X.prog X.w H' h') (hg:AllBare g'):
 Inv X pins σ H' {s with heap:=h',gens:=g',drawn:=d',toks:=t'}:=by
 have neL: ∀b o,X.s₀.heap.get? b=some o→b≠X.env.locals:=fun b o e=>G0I (G0C (G0k e) I.ok.above)
 have neC: ∀b o,X.s₀.heap.get? b=some o→b ∉ X.ex→b ∉ ch:=fun b o e hx hb=>by
  rcases (hch b hb).1 with z|z
  ·exact hx z
  ·exact absurd (G0C (G0k e) z) (G0R _)
 have cellK: ∀x c,X.env.cells.lookup x=some c→ ∀v,s.heap.IsCell c v→h'.IsCell c v:=fun x c e v ⟨o,ho,hd⟩=>by
  have nch:c ∉ ch:=fun z=>(hch c z).2.2.1 x c e rfl
  by_cases hc:c∈X.fs
  ·obtain⟨sl,q⟩:=slot c o (I.cne x c e) hc nch ho (I.freeC x c e)
   exact⟨_,q,hd⟩
  ·exact⟨o,keep c o (I.cne x c e) hc nch ho (I.freeC x c e),hd⟩
 refine⟨I.ok,I.os,hg,⟨fun b o e n hb hx=> ?_,fun b o e n hb hx=> ?_,fun b o e n hx=> ?_,fun b o e hx=> ?_,fun b xs e=>tups b xs (I.base.tups b xs e),fun b o xs e=>frzs b o xs (I.base.frzs b o xs e),fun b ps e=> ?_⟩,?_,fun x c e=> ?_,?_,fun x c e=> ?_,fun p hp=> ?_,hok,I.len⟩
 ·exact keep b o (neL b o e) hb (neC b o e hx) (I.base.keep b o e n hb hx) (I.base.free b o e n hx)
 ·obtain⟨sl,e1⟩:=I.base.slot b o e n hb hx
  obtain⟨sl',e2⟩:=slot b _ (neL b o e) hb (neC b o e hx) e1 (I.base.free b o e n hx)
  exact⟨sl',e2⟩
 ·obtain⟨o',e1⟩:=I.base.there b o e hx
  exact free b o' (neC b o e hx) e1 (I.base.free b o e n hx)
 ·obtain⟨o',e1⟩:=I.base.there b o e hx
  exact there b o' (neC b o e hx) e1
 ·obtain⟨m1,e1⟩:=I.base.tbls b ps e
  obtain⟨m2,e2⟩:=tbls b _ e1
  exact⟨m1++m2,by rw [e2,Array.append_assoc]⟩
 ·obtain⟨m,hn,hl⟩:=I.loc
  refine⟨m,ns m hn,fun i x v e1 e2 e3=> ?_⟩
  obtain⟨u,r,l⟩:=hl i x v e1 e2 e3
  refine⟨u,r,?_⟩
  rcases l with l|⟨k,c,e,z⟩
  ·exact .inl l
  ·exact .inr ⟨k,c,e,cellK x c e _ z⟩
 ·obtain⟨v,z⟩:=I.cell x c e
  exact⟨v,cellK x c e v z⟩
 ·obtain⟨m,⟨o,_,_,ho,_⟩,_⟩:=I.loc
  exact free _ o (fun z=>(hch _ z).2.1 rfl) ho I.free
 ·obtain⟨v,o,ho,hd⟩:=I.cell x c e
  exact free c o (fun z=>(hch c z).2.2.1 x c e rfl) ho (I.freeC x c e)
 ·obtain⟨e,n,ne,nf,d⟩:=I.pin p hp
  have nch:p.1 ∉ ch:=fun z=>(hch p.1 z).2.2.2 p hp rfl
  exact⟨keep p.1 p.2 ne nf nch e n,free p.1 p.2 nch e n,ne,nf,d⟩
theorem Inv.un {t' :Nat} (I:Inv X pins σ H s) (u:Un X.fs [] H H' s.heap h') (hok:HOk X.prog X.w H' h'):Inv X pins σ H' {s with heap:=h',toks:=t'}:=by
 obtain⟨m,⟨o,es,ep,ho,r⟩,_⟩:=id I.loc
 obtain⟨sl,hL⟩:=u.any ho I.free (by simp)
 exact I.step (g' :=s.gens) (d' :=s.drawn) (ch:= []) (fun _ z=>nomatch z) (fun b o _ hb _ e n=>u.keep b o e n hb (by simp)) (fun b o _ hb _ e n=>u.slot b o e n hb (by simp)) (fun b o _ e n=>u.free b o e n (by simp)) (fun b o _ e=>u.there b o e (by simp)) u.tups u.frzs u.tbls (fun m' hm=>by
  obtain⟨o',es',ep',ho',r'⟩:=hm
  rw [ho] at ho';cases ho'
  exact⟨_,es',ep',hL,r'⟩) hok I.bare
theorem Inv.call {g' :Array GenState} {t' :Nat} {d' :Drawn} {ch:List Addr} (I:Inv X pins σ H s) (u:Un (frs X.stack) ch H H' s.heap h') (hok:HOk X.prog X.w H' h') (hg:AllBare g')
 (hch: ∀b∈ch,(b∈X.ex∨X.s₀.heap.objs.size≤b)∧b≠X.env.locals∧(∀x c,X.env.cells.lookup x=some c→c≠b)∧ ∀p∈X.pn++pins,p.1≠b):
 Inv X pins σ H' {s with heap:=h',gens:=g',drawn:=d',toks:=t'}:=by
 obtain⟨m,⟨o,es,ep,ho,r⟩,_⟩:=id I.loc
 obtain⟨sl,hL⟩:=u.any ho I.free fun z=>(hch _ z).2.1 rfl
 exact I.step (ch:=ch) hch (fun b o hL hb hc e n=>u.keep b o e n (fun z=>(G0v.mp (I.stkSub b z)).elim hL hb) hc) (fun b o _ _ hc e n=>u.any e n hc) (fun b o hc e n=>u.free b o e n hc) (fun b o hc e=>u.there b o e hc) u.tups u.frzs u.tbls (fun m' hm=>by
  obtain⟨o',es',ep',ho',r'⟩:=hm
  rw [ho] at ho';cases ho'
  exact⟨_,es',ep',hL,r'⟩) hok hg
theorem Inv.turned {t' :Nat} {it:Addr} (I:Inv X pins σ H s) (k: ∀b o,b≠it→s.heap.get? b=some o→h'.get? b=some o) (hn:H it=none) (hL:it≠X.env.locals)
 (h1:it∈X.ex∨X.s₀.heap.objs.size≤it) (h2: ∀x c,X.env.cells.lookup x=some c→c≠it) (h3: ∀p∈X.pn++pins,p.1≠it):Inv X pins σ H {s with heap:=h',toks:=t'}:=by
 have nit: ∀b u,H b=some u→b≠it:=fun b u e z=>by rw [z,hn] at e;cases e
 refine I.step (g' :=s.gens) (d' :=s.drawn) (ch:= [it]) (fun b hb=> ?_) (fun b o _ _ hc e _=>k b o (fun z=>hc (by simp [z])) e) (fun b o _ _ hc e _=>⟨o.slots,k b o (fun z=>hc (by simp [z])) e⟩) (fun _ _ _ _ n=>n)
  (fun b o hc e=>⟨o,k b o (fun z=>hc (by simp [z])) e⟩) (fun _ _ e=>e) (fun _ _ _ e=>e) (fun b ps e=>⟨#[],by rw [e];simp⟩) (fun m hm=> ?_) (fun b u e=> ?_) I.bare
 ·have e:b=it:=by simpa using hb
  subst e
  exact⟨h1,hL,h2,h3⟩
 ·obtain⟨o,es,ep,ho,r⟩:=hm
  exact⟨o,es,ep,k _ o (Ne.symm hL) ho,r⟩
 ·refine(I.hok b u e).stay (fun c v hc q=>k c v ?_ q) (fun _ q=>q) fun _ _ q=>q
  rcases hc with z|z
  ·rw [z];exact nit b u e
  ·exact nit c _ z
theorem Inv.tok (I:Inv X pins σ H s) (t:Nat):Inv X pins σ H {s with toks:=t}:=I.un (h' :=s.heap) (t' :=t) Un.refl I.hok
theorem Inv.kept {t' :Nat} (I:Inv X pins σ H s) (k: ∀b u,s.heap.get? b=some u→h'.get? b=some u):Inv X pins σ H {s with heap:=h',toks:=t'}:=I.un (Un.kept k) (I.hok.kept k)
theorem Inv.laid {a:Addr} {o:HO} {t' :Nat} (I:Inv X pins σ H s) (k: ∀b u,s.heap.get? b=some u→h'.get? b=some u) (hp:s.heap.objs.size≤a) (new:ObjOk X.prog X.w (upd H a o) h' a o):
 Inv X pins σ (upd H a o) {s with heap:=h',toks:=t'}:=I.un (Un.laid k hp (I.hok.fresh hp)) (I.hok.laid k hp new)
theorem Inv.write {x e:Addr} {o:HO} {t' :Nat} (I:Inv X pins σ H s) (mu:Mut (H x)) (he:e=x∨H e=some (.own x)) (k: ∀b u,b≠e→s.heap.get? b=some u→h'.get? b=some u) (heo: ∃u,h'.get? e=some u)
 (new:ObjOk X.prog X.w (upd H x o) h' x o):Inv X pins σ (upd H x o) {s with heap:=h',toks:=t'}:=I.un (Un.write mu he k heo) (I.hok.write mu he k heo new)
theorem Inv.weak {σ' :List (Option V)} (I:Inv X pins σ H s) (hl:σ'.length=σ.length) (w: ∀ (i:Nat) v,σ'[i]? =some (some v)→σ[i]? =some (some v)):Inv X pins σ' H s:=
 ⟨I.ok,I.os,I.bare,I.base,let ⟨m,hn,hl'⟩:=I.loc;⟨m,hn,fun i x v e1 e2 e3=>hl' i x v e1 (w i v e2) e3⟩,I.cell,I.free,I.freeC,I.pin,I.hok,hl.trans I.len⟩
theorem Inv.pins_of {pins' :List (Addr×Obj)} (I:Inv X pins σ H s) (h: ∀p∈pins',s.heap.get? p.1=some p.2∧H p.1=none∧p.1≠X.env.locals∧p.1 ∉ X.fs∧ ∀v,p.2.data≠ .cell v):Inv X pins' σ H s:=
 ⟨I.ok,I.os,I.bare,I.base,I.loc,I.cell,I.free,I.freeC,fun p hp=>(G1c.mp hp).elim (fun z=>I.pin p (G1g _ z)) (h p),I.hok,I.len⟩
theorem jhf {N:List Str} (hN:N.Nodup) {i j:Nat} {x:Str} (a:N[i]? =some x) (b:N[j]? =some x):i=j:=by
 obtain⟨h1,e1⟩:=G0t.mp a
 obtain⟨h2,e2⟩:=G0t.mp b
 exact(List.getElem_inj hN).mp (e1.trans e2.symm)
theorem jhZ {M:Model} {A:Around} {E:Value→Shared→Prop} {i:Nat} {x:Str} {v:V} {u:Value} {Q:Unit→Shared→Prop} (I:Inv X pins σ H s) (hN:X.N.Nodup) (hi:X.N[i]? =some x) (hx:Loc X.env.scope x) (r:RelV v u)
 (h: ∀s',Inv X pins (σ.set i (some v)) H s' →(∃a,Heap.SameBut a s.heap s'.heap∧(a=X.env.locals∨X.env.cells.lookup x=some a))→Q () s') (hf:X.fn x=true∨X.env.scope.names.lookup x=some .local:=by first|exact .inl rfl|exact .inr rfl|assumption):wpAny M A (storeName X.env x u) Q E s:=by
 obtain⟨m,hn,hl⟩:=id I.loc
 have hcls:(X.env.scope.kind== .class||(X.env.scope.kind== .module&&X.env.locals !=X.env.globals))=false:=by rw [I.ok.kind];rfl
 have hiσ:i<σ.length:=by rw [I.len];exact(G0t.mp hi).1
 have cne:=I.cne
 have tracked: ∀ {a:Addr} {h' :Heap},(∃o,s.heap.get? a=some o∧H a=none)→Heap.SameBut a s.heap h' →HOk X.prog X.w H h' :=fun {a h'} ha hs b ob e=>by
  obtain⟨_,_,hfree⟩:=ha
  refine(I.hok b ob e).stay (fun c w' hc q=>(hs.2 c ?_).trans q) (fun _ q=>q) fun _ _ q=>q
  rintro rfl
  rcases hc with rfl|hc
  ·rw [hfree] at e;cases e
  ·rw [hfree] at hc;cases hc
 rcases hx with hk|hk
 ·refine wpAny_storeName_local hk hn (fun h' hn' hs=> ?_) hcls
  obtain⟨oL,_,_,hoL,_⟩:=id hn
  refine h _ ⟨I.ok,I.os,I.bare,⟨fun b o e n hb hx=> ?_,fun b o e n hb hx=> ?_,I.base.free,fun b o e hx=> ?_,I.base.tups,I.base.frzs,I.base.tbls⟩,⟨_,hn',fun j y v' e1 e2 e3=> ?_⟩,fun y c e=> ?_,I.free,I.freeC,fun p hp=> ?_,tracked ⟨oL,hoL,I.free⟩ hs,by simpa using I.len⟩ ⟨_,hs,.inl rfl⟩
  ·exact(hs.2 b (G0I (G0C (G0k e) I.ok.above))).trans (I.base.keep b o e n hb hx)
  ·obtain⟨sl,e1⟩:=I.base.slot b o e n hb hx
   exact⟨sl,(hs.2 b (G0I (G0C (G0k e) I.ok.above))).trans e1⟩
  ·obtain⟨o',e1⟩:=I.base.there b o e hx
   exact⟨o',(hs.2 b (G0I (G0C (G0k e) I.ok.above))).trans e1⟩
  ·by_cases hj:j=i
   ·subst hj
    rw [hi] at e1;cases e1
    rw [G21 hiσ] at e2
    cases e2
    exact⟨u,r,.inl ⟨hk,by simp⟩⟩
   ·rw [G1h (Ne.symm hj)] at e2
    obtain⟨u',r',q⟩:=hl j y v' e1 e2 e3
    refine⟨u',r',?_⟩
    rcases q with ⟨k,e⟩|⟨k,c,e,z⟩
    ·refine .inl ⟨k,?_⟩
     have:y≠x:=fun e=>hj (jhf hN e1 (e ▸ hi))
     simp [this,e]
    ·exact .inr ⟨k,c,e,z.sameBut hs (cne y c e)⟩
  ·obtain⟨w',z⟩:=I.cell y c e
   exact⟨w',z.sameBut hs (cne y c e)⟩
  ·obtain⟨e,n,ne,nf,d⟩:=I.pin p hp
   exact⟨(hs.2 p.1 ne).trans e,n,ne,nf,d⟩
 ·have hfn:X.fn x=true:=by
   rcases hf with z|z
   ·exact z
   ·rw [z] at hk;cases hk
  obtain⟨c,hc⟩:=I.ok.has x (.inl hk)
  obtain⟨w',z⟩:=I.cell x c hc
  refine wpAny_storeName_cell I.ok.kind hk hc z (fun h' hc' hs=> ?_)
  obtain⟨oc,hoc,hocd⟩:=id z
  refine h {s with heap:=h'} ⟨I.ok,I.os,I.bare,⟨fun b o e n hb hx=> ?_,fun b o e n hb hx=> ?_,I.base.free,fun b o e hx=> ?_,I.base.tups,I.base.frzs,I.base.tbls⟩,⟨m,hn.sameBut hs (Ne.symm (cne x c hc)),fun j y v' e1 e2 e3=> ?_⟩,fun y c' e=> ?_,I.free,I.freeC,fun p hp=> ?_,tracked ⟨oc,hoc,I.freeC x c hc⟩ hs,by simpa using I.len⟩ ⟨c,hs,.inr hc⟩
  ·exact(hs.2 b (G0I (G0C (G0k e) (I.ok.cab x c hfn hc)))).trans (I.base.keep b o e n hb hx)
  ·obtain⟨sl,e1⟩:=I.base.slot b o e n hb hx
   exact⟨sl,(hs.2 b (G0I (G0C (G0k e) (I.ok.cab x c hfn hc)))).trans e1⟩
  ·obtain⟨o',e1⟩:=I.base.there b o e hx
   exact⟨o',(hs.2 b (G0I (G0C (G0k e) (I.ok.cab x c hfn hc)))).trans e1⟩
  ·by_cases hj:j=i
   ·subst hj
    rw [hi] at e1;cases e1
    rw [G21 hiσ] at e2
    cases e2
    exact⟨u,r,.inr ⟨.inl hk,c,hc,hc'⟩⟩
   ·rw [G1h (Ne.symm hj)] at e2
    obtain⟨u',r',q⟩:=hl j y v' e1 e2 e3
    refine⟨u',r',?_⟩
    rcases q with q|⟨k,c',e,z'⟩
    ·exact .inl q
    ·refine .inr ⟨k,c',e,z'.sameBut hs ?_⟩
     rintro rfl
     exact hj (jhf hN e1 (I.ok.inj _ _ _ e hc ▸ hi))
  ·by_cases hcc:c' =c
   ·subst hcc;exact⟨_,hc'⟩
   ·obtain⟨w2,z2⟩:=I.cell y c' e
    exact⟨w2,z2.sameBut hs hcc⟩
  ·obtain⟨e,n,ne,nf,d⟩:=I.pin p hp
   refine⟨(hs.2 p.1 ?_).trans e,n,ne,nf,d⟩
   intro q
   rw [q,hoc] at e
   have q' :oc=p.2:=G0V e
   exact d w' (by rw [←q'];exact hocd)
theorem jdF {M:Model} {A:Around} {E:Value→Shared→Prop} {i:Nat} {x:Str} {v:V} {u:Value} {Q:Unit→Shared→Prop} (I:Inv X pins σ H s) (hN:X.N.Nodup) (hi:X.N[i]? =some x) (hx:Loc X.env.scope x) (r:RelV v u)
 (h: ∀s',Inv X pins (σ.set i (some v)) H s' →Q () s') (hf:X.fn x=true∨X.env.scope.names.lookup x=some .local:=by first|exact .inl rfl|exact .inr rfl|assumption):wpAny M A (storeName X.env x u) Q E s:=
 jhZ I hN hi hx r (fun s' I' _=>h s' I') hf
theorem Inv.call' {s' :Shared} {ch:List Addr} (I:Inv X pins σ H s) (ho:s'.os=s.os) (u:Un (frs X.stack) ch H H' s.heap s'.heap) (hok:HOk X.prog X.w H' s'.heap) (hg:AllBare s'.gens)
 (hch: ∀b∈ch,(b∈X.ex∨X.s₀.heap.objs.size≤b)∧b≠X.env.locals∧(∀x c,X.env.cells.lookup x=some c→c≠b)∧ ∀p∈X.pn++pins,p.1≠b):Inv X pins σ H' s' :=by
 obtain⟨h',g',d',t',o'⟩:=s'
 have e:o' =s.os:=ho
 subst e
 exact I.call (g' :=g') (t' :=t') (d' :=d') u hok hg hch
end
abbrev XK:=Value→Option Addr→Hp→Prop
abbrev St:=List (Option V)
abbrev VK:=V→Hp→Prop
abbrev TE:=St→Hp→VK→Prop
abbrev TT:=St→Hp→(Bool→Hp→Prop)→Prop
abbrev TA:=St→Hp→(List V→Hp→Prop)→Prop
structure Ends where
 nx:St→Hp→Prop
 rt:VK
 bk:St→Hp→Prop:=fun _ _=>False
 ct:St→Hp→Prop:=fun _ _=>False
abbrev TS:=Ends→St→Hp→Prop
def EP (X:Cx) (pins:List (Addr×Obj)) (σ:St) (Q:VK) (u:Value) (s' :Shared):Prop:= ∃v H',Inv X pins σ H' s' ∧RelV v u∧Q v H'
def TP (X:Cx) (pins:List (Addr×Obj)) (σ:St) (Q:Bool→Hp→Prop) (b:Bool) (s' :Shared):Prop:= ∃H',Inv X pins σ H' s' ∧Q b H'
def AP (X:Cx) (pins:List (Addr×Obj)) (σ:St) (Q:List V→Hp→Prop) (us:List Value) (s' :Shared):Prop:= ∃vs H',Inv X pins σ H' s' ∧Vals vs us∧Q vs H'
def SP (X:Cx) (pins:List (Addr×Obj)) (D:Ends) (f:Flow) (s' :Shared):Prop:=
 match f with
 | .next=> ∃σ' H',Inv X pins σ' H' s' ∧D.nx σ' H'
 | .brk=> ∃σ' H',Inv X pins σ' H' s' ∧D.bk σ' H'
 | .cont=> ∃σ' H',Inv X pins σ' H' s' ∧D.ct σ' H'
 | .ret u=> ∃v σ' H',Inv X pins σ' H' s' ∧RelV v u∧D.rt v H'
def PE (X:Cx) (e:Expr) (t:TE):Prop:=
 ∀ (pins:List (Addr×Obj)) (s:Shared) (σ:St) (H:Hp) (Q:VK),Inv X pins σ H s→t σ H Q→wpAny (model X.prog X.w) X.A (eval e X.env) (EP X pins σ Q) X.xe s
def PT (X:Cx) (e:Expr) (t:TT):Prop:=
 ∀ (pins:List (Addr×Obj)) (s:Shared) (σ:St) (H:Hp) (Q:Bool→Hp→Prop),Inv X pins σ H s→t σ H Q→wpAny (model X.prog X.w) X.A (isTrue e X.env (eval e X.env)) (TP X pins σ Q) X.xe s
def PW (X:Cx) (e:Expr) (t:TT):Prop:=
 ∀ (whole:Sem Value) (pins:List (Addr×Obj)) (s:Shared) (σ:St) (H:Hp) (Q:Bool→Hp→Prop),Inv X pins σ H s→t σ H Q→wpAny (model X.prog X.w) X.A (isTrue e X.env whole) (TP X pins σ Q) X.xe s
theorem PW.pt {X:Cx} {e:Expr} {t:TT} (h:PW X e t):PT X e t:=h _
def PA (X:Cx) (es:List Expr) (t:TA):Prop:=
 ∀ (pos:Pos) (pins:List (Addr×Obj)) (s:Shared) (σ:St) (H:Hp) (Q:List V→Hp→Prop),Inv X pins σ H s→t σ H Q→wpAny (model X.prog X.w) X.A (spliced (backTo pos (starEach es X.env))) (AP X pins σ Q) X.xe s
def PS (X:Cx) (st:Stmt) (t:TS):Prop:=
 ∀ (pins:List (Addr×Obj)) (s:Shared) (σ:St) (H:Hp) (D:Ends),Inv X pins σ H s→t D σ H→wpAny (model X.prog X.w) X.A (exec st X.env) (SP X pins D) X.xe s
def PSs (X:Cx) (st:List Stmt) (t:TS):Prop:=
 ∀ (pins:List (Addr×Obj)) (s:Shared) (σ:St) (H:Hp) (D:Ends),Inv X pins σ H s→t D σ H→wpAny (model X.prog X.w) X.A (execs st X.env) (SP X pins D) X.xe s
theorem thn {α:Type} {t:Sem α} {Q Q' :α→Shared→Prop} {M:Model} {A:Around} {E:Value→Shared→Prop} {s:Shared} (h:wpAny M A t Q E s) (hQ: ∀a s,Q a s→Q' a s):wpAny M A t Q' E s:=G0U h hQ fun _ _ x=>x
section
variable {X:Cx}
def jn7 (i:Nat):TE:=fun σ H Q=> ∃v,σ[i]? =some (some v)∧Q v H
def tC (v:V):TE:=fun _ H Q=>Q v H
theorem jkt {i:Nat} {x:Str} {pos:Pos} (hN:X.N[i]? =some x) (hv:Vis X.env.scope x) (hd:(x==("__debug__" :Str))=false:=by decide) (hcd:(x==("__classdict__" :Str))=false:=by decide):PE X (.Name x pos) (jn7 i):=by
 intro pins s σ H Q I h
 obtain⟨v,e,h⟩:=h
 obtain⟨m,hn,hl⟩:=I.loc
 obtain⟨u,r,l⟩:=hl i x v hN e hv
 have fin:EP X pins σ Q u s:=⟨v,H,I,r,h⟩
 rcases l with ⟨hk,hm⟩|⟨hk,c,hc,hcell⟩
 ·exact wpAny_Name (wpAny_loadName_local I.ok.kind hk hn hm fin) hd
 ·rcases hk with hk|hk
  ·exact wpAny_Name (wpAny_loadName_cell I.ok.kind hk hc hcell fin) hd
  ·exact wpAny_Name (wpAny_loadName_free I.ok.kind hk hc hcell fin hcd) hd
theorem pe_int {i j pos}:PE X (.Constant (.int i) j pos) (tC (.int i)):=fun _ _ _ H _ I h=>wpAny_Constant_int ⟨.int i,H,I.tok _,⟨_,rfl⟩,h⟩
theorem pe_bl {b j pos}:PE X (.Constant (.bool b) j pos) (tC (.bl b)):=fun _ _ _ H _ I h=>Constant_bool ⟨.bl b,H,I,rfl,h⟩
def Gl (X:Cx) (x:Str):Prop:=X.env.kindOf x=some .globalImplicit
theorem jh0 {E:Value→Shared→Prop} {pins:List (Addr×Obj)} {s:Shared} {σ:St} {H:Hp} {x:Str} {u:Value} {pos:Pos} {Q:Value→Shared→Prop} (I:Inv X pins σ H s) (hg:Gl X x) (hm:X.mg x=some u) (h:Q u s)
 (hd:(x==("__debug__" :Str))=false:=by decide):wpAny (model X.prog X.w) X.A (eval (.Name x pos) X.env) Q E s:=
 Calls.Name_function_global I.ok.kind hg (Calls.loadGlobal_global (by rw [I.ok.glob];exact I.mod.glob.keeps I.bk) hm h) hd
theorem jez {E:Value→Shared→Prop} {pins:List (Addr×Obj)} {s:Shared} {σ:St} {H:Hp} {x:Str} {u:Value} {pos:Pos} {Q:Value→Shared→Prop} (I:Inv X pins σ H s) (hg:Gl X x) (hm:X.mg x=none) (hv:bootBuiltins x=some u) (h:Q u s)
 (hn:x≠ "__name__" :=by decide) (hd:(x==("__debug__" :Str))=false:=by decide):wpAny (model X.prog X.w) X.A (eval (.Name x pos) X.env) Q E s:=by
 obtain⟨mb,h1,h2⟩:=I.mod.blt
 exact Calls.Name_function_global I.ok.kind hg (Calls.loadGlobal_builtin (by rw [I.ok.glob];exact I.mod.glob.keeps I.bk) hm (by rw [I.ok.blt];exact h1.keeps I.bk) ((h2 x hn).trans hv) h) hd
theorem jkX {x:Str} {v:V} {u:Value} {pos:Pos} (hg:Gl X x) (hm:X.mg x=some u) (r:RelV v u) (hd:(x==("__debug__" :Str))=false:=by decide):PE X (.Name x pos) (tC v):=
 fun _ _ _ H _ I h=>jh0 I hg hm ⟨v,H,I,r,h⟩ hd
theorem jkY {x:Str} {v:V} {u:Value} {pos:Pos} (hg:Gl X x) (hm:X.mg x=none) (hv:bootBuiltins x=some u) (r:RelV v u) (hn:x≠ "__name__" :=by decide) (hd:(x==("__debug__" :Str))=false:=by decide):PE X (.Name x pos) (tC v):=
 fun _ _ _ H _ I h=>jez I hg hm hv ⟨v,H,I,r,h⟩ hn hd
variable {a b:Expr} {ta tb:TE} {pos:Pos}
def tB (t:TE):TT:=fun σ H Q=>t σ H fun x H1=> ∃c,x= .bl c∧Q c H1
theorem jmr {e:Expr} {t:TE} (h:PE X e t) (he: ∀whole,isTrue e X.env whole=(do let v ←whole;standAt e.pos;holding [v] (truthy v)):=by intro _;rfl):PT X e (tB t):=by
 intro pins s σ H Q I hw
 refine isTrue_plain (thn (h pins s σ H _ I hw) fun v s1 ⟨x,H1,I1,r1,q1⟩=> ?_) (he _)
 obtain⟨d,rfl,q⟩:=q1
 cases r1
 exact G08 ⟨H1,I1,q⟩
variable {tA tB' :TT} {rest:List Expr}
def tOr (t u:TT):TT:=fun σ H Q=>t σ H fun c H1=>if c=true then Q true H1 else u σ H1 Q
def joW (t:TT):TT:=fun σ H Q=>t σ H fun c H1=>Q (!c) H1
theorem jms (ha:PT X a tA):PW X (.BoolOp .Or [a] pos) tA:=by
 intro wh pins s σ H Q I h
 refine isTrue_or (thn (ha pins s σ H Q I h) fun c s1 e=> ?_)
 cases c with
 |false=>exact isTrue_or_nil e
 |true=>exact e
theorem jn8 (ha:PT X a tA) (hb:PW X (.BoolOp .Or (b::rest) pos) tB'):PW X (.BoolOp .Or (a::b::rest) pos) (tOr tA tB'):=by
 intro wh pins s σ H Q I h
 refine isTrue_or (thn (ha pins s σ H _ I h) fun c s1 ⟨H1,I1,q1⟩=> ?_)
 cases c with
 |true=>exact⟨H1,I1,q1⟩
 |false=>exact hb wh pins s1 σ H1 Q I1 q1
theorem jmt (ha:PT X a tA):PT X (.UnaryOp .Not a pos) (joW tA):=by
 intro pins s σ H Q I h
 exact isTrue_not (ha pins s σ H (fun c H1=>Q (!c) H1) I h)
def jmu (ta tb:TE):TE:=fun σ H Q=>ta σ H fun x H1=> ∃c,x= .bl c∧if c=true then tb σ H1 Q else Q (.bl false) H1
def joX (ta tb:TE):TE:=fun σ H Q=>ta σ H fun x H1=> ∃c,x= .bl c∧if c=true then Q (.bl true) H1 else tb σ H1 Q
def jmv (ta:TE):TE:=fun σ H Q=>ta σ H fun x H1=> ∃c,x= .bl c∧Q (.bl (!c)) H1
theorem jmw {op} {t:TE} (h:PE X a t):PE X (.BoolOp op [a] pos) t:=fun pins s σ H Q I hw=>BoolOp_one (h pins s σ H Q I hw)
theorem jmx (ha:PE X a ta) (hb:PE X (.BoolOp .And (b::rest) pos) tb):PE X (.BoolOp .And (a::b::rest) pos) (jmu ta tb):=by
 intro pins s σ H Q I h
 refine BoolOp_and (thn (ha pins s σ H _ I h) fun v s1 ⟨x,H1,I1,r1,q1⟩=> ?_)
 obtain⟨c,rfl,q1⟩:=q1
 cases r1
 refine G08 ?_
 cases c with
 |true=>exact hb pins s1 σ H1 Q I1 q1
 |false=>exact⟨.bl false,H1,I1,rfl,q1⟩
theorem jn9 (ha:PE X a ta) (hb:PE X (.BoolOp .Or (b::rest) pos) tb):PE X (.BoolOp .Or (a::b::rest) pos) (joX ta tb):=by
 intro pins s σ H Q I h
 refine BoolOp_or (thn (ha pins s σ H _ I h) fun v s1 ⟨x,H1,I1,r1,q1⟩=> ?_)
 obtain⟨c,rfl,q1⟩:=q1
 cases r1
 refine G08 ?_
 cases c with
 |false=>exact hb pins s1 σ H1 Q I1 q1
 |true=>exact⟨.bl true,H1,I1,rfl,q1⟩
theorem jmy (ha:PE X a ta):PE X (.UnaryOp .Not a pos) (jmv ta):=by
 intro pins s σ H Q I h
 refine UnaryOp_ (thn (ha pins s σ H _ I h) fun v s1 ⟨x,H1,I1,r1,q1⟩=> ?_)
 obtain⟨c,rfl,q1⟩:=q1
 cases r1
 exact not_of (G08 ⟨.bl (!c),H1,I1,rfl,q1⟩)
def tIf (t:TT) (ta tb:TE):TE:=fun σ H Q=>t σ H fun c H1=>if c=true then ta σ H1 Q else tb σ H1 Q
theorem jju {c:Expr} (hc:PT X c tA) (ha:PE X a ta) (hb:PE X b tb):PE X (.IfExp c a b pos) (tIf tA ta tb):=by
 intro pins s σ H Q I h
 refine wpAny_IfExp (thn (hc pins s σ H _ I h) fun d s1 ⟨H1,I1,q1⟩=> ?_)
 cases d with
 |true=>exact ha pins s1 σ H1 Q I1 q1
 |false=>exact hb pins s1 σ H1 Q I1 q1
end
def SqL (K:PySem.W.Frag) (H:Hp) (a:Addr) (xs:List V):Prop:=
 Rd H a (.lst xs)∨
  ∃ (o:Obj) (its:Array Value) (n:Nat),K.lookup a=some o∧o.cls= .type "list" ∧o.dict=none∧o.data= .seq its n∧its.size≤sizeLine∧Vals xs its.toList
def SqT (K:PySem.W.Frag) (H:Hp) (a:Addr) (xs:List V):Prop:=
 Rd H a (.tup xs)∨
  ∃ (o:Obj) (its:Array Value) (n:Nat),K.lookup a=some o∧o.cls= .type "tuple" ∧o.data= .seq its n∧its.size≤sizeLine∧Vals xs its.toList
def jpo:Value→Option V
 | .none=>some .non
 | .bool b=>some (.bl b)
 | .int i _=>some (.int i)
 | .str x _=>some (.str x)
 | .bytes b _=>some (.byt b)
 | .float b _=>some (.flt b)
 | .ref a=>some (.ref a)
 | .type n=>some (.ty n)
 |_=>none
theorem RelV.abs {x:V} {u:Value} (r:RelV x u):jpo u=some x:=by
 cases x with
 |non=>cases r;rfl
 |bl _=>cases r;rfl
 |int _=>obtain⟨t,rfl⟩:=r;rfl
 |str _=>obtain⟨t,rfl⟩:=r;rfl
 |byt _=>obtain⟨t,rfl⟩:=r;rfl
 |flt _=>obtain⟨t,rfl⟩:=r;rfl
 |ref _=>cases r;rfl
 |ty _=>cases r;rfl
theorem RelV.inj {x y:V} {u:Value} (r:RelV x u) (q:RelV y u):x=y:=G0V (r.abs.symm.trans q.abs)
theorem Vals.inj: ∀ {xs ys:List V} {us:List Value},Vals xs us→Vals ys us→xs=ys
 |_,_,_,.nil,.nil=>rfl
 |_,_,_,.cons r t,.cons r' t' =>by rw [r.inj r',Vals.inj t t']
section
variable {X:Cx} {pins:List (Addr×Obj)} {σ:St} {H:Hp} {s:Shared} {a:Addr} {xs ys:List V}
theorem SqL.of {K:PySem.W.Frag} (h:H a=some (.lst xs)):SqL K H a xs:= .inl (.inl h)
theorem SqT.of {K:PySem.W.Frag} (h:H a=some (.tup xs)):SqT K H a xs:= .inl (.inl h)
theorem Inv.list (I:Inv X pins σ H s) (h:SqL X.K H a xs): ∃its:List Value,Vals xs its∧PlainL s.heap a its.toArray∧xs.length≤sizeLine:=by
 rcases h with h|⟨o,its,n,hk,hc,hd,hs,hz,r⟩
 ·obtain⟨z,its,n,r,e⟩:=h.ok I.hok
  exact⟨its,r,⟨_,n,e,rfl,rfl,rfl⟩,z⟩
 ·refine⟨its.toList,r,⟨o,n,I.kIn a o hk,hc,hd,by simpa using hs⟩,?_⟩
  have e:=r.length
  simp only [G0j] at e
  omega
theorem Inv.tuple (I:Inv X pins σ H s) (h:SqT X.K H a xs): ∃its:List Value,Vals xs its∧IsTup s.heap a its.toArray∧xs.length≤sizeLine:=by
 rcases h with h|⟨o,its,n,hk,hc,hs,hz,r⟩
 ·obtain⟨z,its,r,p⟩:=h.ok I.hok
  exact⟨its,r,p.tup,z⟩
 ·refine⟨its.toList,r,⟨o,I.kIn a o hk,hc,n,by simpa using hs⟩,?_⟩
  have e:=r.length
  simp only [G0j] at e
  omega
theorem Inv.list_inj (I:Inv X pins σ H s) (h:SqL X.K H a xs) (h' :SqL X.K H a ys):xs=ys:=by
 obtain⟨its,r,⟨o,n,e,_,_,d⟩,_⟩:=I.list h
 obtain⟨its',r',⟨o',n',e',_,_,d'⟩,_⟩:=I.list h'
 rw [e] at e';cases e'
 rw [d] at d'
 injection d' with d1 _
 have:its=its' :=by simpa using congrArg Array.toList d1
 subst this
 exact r.inj r'
theorem Inv.tuple_inj (I:Inv X pins σ H s) (h:SqT X.K H a xs) (h' :SqT X.K H a ys):xs=ys:=by
 obtain⟨its,r,⟨o,e,_,n,d⟩,_⟩:=I.tuple h
 obtain⟨its',r',⟨o',e',_,n',d'⟩,_⟩:=I.tuple h'
 rw [e] at e';cases e'
 rw [d] at d'
 injection d' with d1 _
 have:its=its' :=by simpa using congrArg Array.toList d1
 subst this
 exact r.inj r'
end
abbrev Cx.wish (X:Cx) (E:Value→Shared→Prop):Cx:= {X with xe:=E}
abbrev Cx.nox (X:Cx):Cx:=X.wish fun _ _=>False
theorem Cx.Ok.wish {X:Cx} (ok:X.Ok) (E:Value→Shared→Prop):(X.wish E).Ok:=
 ⟨ok.mod,ok.kind,ok.glob,ok.blt,ok.above,ok.inj,ok.has,ok.cab,ok.hd,ok.frames,ok.stk,ok.exf,ok.bs,ok.bsz,ok.noex,ok.exfs,ok.funs,ok.frf⟩
theorem Cx.Ok.unwish {X:Cx} {E:Value→Shared→Prop} (ok:(X.wish E).Ok):X.Ok:=
 ⟨ok.mod,ok.kind,ok.glob,ok.blt,ok.above,ok.inj,ok.has,ok.cab,ok.hd,ok.frames,ok.stk,ok.exf,ok.bs,ok.bsz,ok.noex,ok.exfs,ok.funs,ok.frf⟩
section
variable {X:Cx} {pins:List (Addr×Obj)} {σ:St} {H:Hp} {s:Shared} {E:Value→Shared→Prop}
theorem Inv.wish (I:Inv X pins σ H s) (E:Value→Shared→Prop):Inv (X.wish E) pins σ H s:=⟨I.ok.wish E,I.os,I.bare,I.base,I.loc,I.cell,I.free,I.freeC,I.pin,I.hok,I.len⟩
theorem Inv.unwish (I:Inv (X.wish E) pins σ H s):Inv X pins σ H s:=⟨I.ok.unwish,I.os,I.bare,I.base,I.loc,I.cell,I.free,I.freeC,I.pin,I.hok,I.len⟩
theorem SP.unwish {D:Ends} {f:Flow} {s' :Shared} (h:SP (X.wish E) pins D f s'):SP X pins D f s' :=by
 cases f with
 |next=>obtain⟨σ',H',I,q⟩:=h;exact⟨σ',H',I.unwish,q⟩
 |brk=>obtain⟨σ',H',I,q⟩:=h;exact⟨σ',H',I.unwish,q⟩
 |cont=>obtain⟨σ',H',I,q⟩:=h;exact⟨σ',H',I.unwish,q⟩
 |ret u=>obtain⟨v,σ',H',I,r,q⟩:=h;exact⟨v,σ',H',I.unwish,r,q⟩
theorem PSs.nox {st:List Stmt} {t:TS} (h:PSs X.nox st t):PSs X st t:=fun pins s σ H D I hw=>
 G0U (h pins s σ H D (I.wish _) hw) (fun _ _ q=>q.unwish) fun _ _ z=>False.elim z
end
section
variable {X:Cx} {st:Stmt} {rest:List Stmt} {t u:TS} {e:Expr} {te:TE} {pos:Pos}
def jmz:TS:=fun D σ H=>D.nx σ H
def joY (t u:TS):TS:=fun D σ H=>t {D with nx:=u D} σ H
theorem pss_nil:PSs X [] jmz:=fun _ _ σ H _ I h=>G2D ⟨σ,H,I,h⟩
theorem jjv (h1:PS X st t) (h2:PSs X rest u):PSs X (st::rest) (joY t u):=by
 intro pins s σ H D I h
 refine wpAny_execs_cons (thn (h1 pins s σ H {D with nx:=u D} I h) fun f s1 q=> ?_)
 cases f with
 |next=>
  obtain⟨σ',H',I',q⟩:=q
  exact h2 pins s1 σ' H' D I' q
 |ret v=>exact q
 |brk=>exact q
 |cont=>exact q
theorem jkZ (h1:PS X st t):PSs X [st] t:=by
 intro pins s σ H D I h
 refine wpAny_execs_cons (thn (h1 pins s σ H D I h) fun f s1 q=> ?_)
 cases f with
 |next=>exact G2D q
 |ret v=>exact q
 |brk=>exact q
 |cont=>exact q
theorem Inv.quiet {pins:List (Addr×Obj)} {σ:St} {H:Hp} {s:Shared} (I:Inv X pins σ H s):interactive X.env=false:=by simp [interactive,I.ok.kind]
def jmA (te:TE):TS:=fun D σ H=>te σ H fun _ H1=>D.nx σ H1
theorem jk0 (he:PE X e te) (hs:swapsWith e none pos.line X.env=pure false:=by rfl):PS X (.Expr e pos) (jmA te):=by
 intro pins s σ H D I h
 exact wpAny_Expr_any (thn (he pins s σ H _ I h) fun v s1 ⟨x,H1,I1,r1,q1⟩=>⟨σ,H1,I1,q1⟩) I.quiet hs
def joZ (te:TE):TS:=fun D σ H=>te σ H D.rt
theorem jmB (he:PE X e te):PS X (.Return (some e) pos) (joZ te):=by
 intro pins s σ H D I h
 exact wpAny_Return_some (thn (he pins s σ H _ I h) fun v s1 ⟨x,H1,I1,r1,q1⟩=>⟨x,σ,H1,I1,r1,q1⟩)
def jo0 (c:TT) (t u:TS):TS:=fun D σ H=>c σ H fun b H1=>if b=true then t D σ H1 else u D σ H1
theorem joa {c:Expr} {a b:List Stmt} {tc:TT} (hc:PT X c tc) (ha:PSs X a t) (hb:PSs X b u):PS X (.If c a b pos) (jo0 tc t u):=by
 intro pins s σ H D I h
 refine wpAny_If (thn (hc pins s σ H _ I h) fun d s1 ⟨H1,I1,q1⟩=> ?_)
 cases d with
 |true=>exact ha pins s1 σ H1 D I1 q1
 |false=>exact hb pins s1 σ H1 D I1 q1
end
abbrev TG:=V→St→Hp→(St→Hp→Prop)→Prop
abbrev TGs:=List V→St→Hp→(St→Hp→Prop)→Prop
def PG (X:Cx) (target:Expr) (t:TG):Prop:=
 ∀ (pins:List (Addr×Obj)) (s:Shared) (σ:St) (H:Hp) (v:V) (u:Value) (Q:St→Hp→Prop),Inv X pins σ H s→RelV v u→t v σ H Q→
  wpAny (model X.prog X.w) X.A (assign target X.env u) (fun _ s' => ∃σ' H',Inv X pins σ' H' s' ∧Q σ' H') X.xe s
def PGs (X:Cx) (ts:List Expr) (t:TGs):Prop:=
 ∀ (pins:List (Addr×Obj)) (s:Shared) (σ:St) (H:Hp) (vs:List V) (us:List Value) (Q:St→Hp→Prop),Inv X pins σ H s→Vals vs us→t vs σ H Q→
  wpAny (model X.prog X.w) X.A (assignInOrder ((assignEach ts X.env).map (·.2)) us) (fun _ s' => ∃σ' H',Inv X pins σ' H' s' ∧Q σ' H') X.xe s
abbrev job:=V→V→V→Hp→(Hp→Prop)→Prop
def jo1 (X:Cx) (t:job):Prop:=
 ∀ (pins:List (Addr×Obj)) (s:Shared) (σ:St) (H:Hp) (o i v:V) (ov iv u:Value) (Q:Hp→Prop),Inv X pins σ H s→RelV o ov→RelV i iv→RelV v u→t o i v H Q→
  wpAny (model X.prog X.w) X.A (setItem ov iv u) (fun _ s' => ∃H',Inv X pins σ H' s' ∧Q H') X.xe s
section
variable {X:Cx} {pos:Pos}
def jdk (i:Nat):TG:=fun v σ H Q=>Q (σ.set i (some v)) H
theorem jcA {i:Nat} {x:Str} (hN:X.N.Nodup) (hi:X.N[i]? =some x) (hx:Loc X.env.scope x) (hf:X.fn x=true∨X.env.scope.names.lookup x=some .local:=by first|exact .inl rfl|exact .inr rfl|assumption):PG X (.Name x pos) (jdk i):=by
 intro pins s σ H v u Q I r h
 exact wpAny_assign_Name (jdF I hN hi hx r (fun s' I' =>⟨_,H,I',h⟩) hf)
def jn1:TGs:=fun vs σ H Q=>vs= []∧Q σ H
def jfG (t:TG) (u:TGs):TGs:=fun vs σ H Q=> ∃v r,vs=v::r∧t v σ H fun σ' H' =>u r σ' H' Q
theorem jgx:PGs X [] jn1:=by
 intro pins s σ H vs us Q I r h
 obtain⟨e,h⟩:=h
 subst e
 cases r
 exact assignInOrder_nil ⟨σ,H,I,h⟩
theorem jcj {e:Expr} {es:List Expr} {t:TG} {u:TGs} (h1:PG X e t) (h2:PGs X es u)
 (hs:(assignEach (e::es) X.env).map (·.2)=assign e X.env::(assignEach es X.env).map (·.2):=by rfl):PGs X (e::es) (jfG t u):=by
 intro pins s σ H vs us Q I r h
 obtain⟨v,vr,e1,h⟩:=h
 subst e1
 cases r with
 |cons r rr=>
  rw [hs]
  refine assignInOrder_cons (thn (h1 pins s σ H _ _ _ I r h) fun _ s1 ⟨σ1,H1,I1,q1⟩=> ?_)
  exact h2 pins s1 σ1 H1 _ _ Q I1 rr q1
def jn2 (K:PySem.W.Frag) (n:Nat) (t:TGs):TG:=fun v σ H Q=> ∃a xs,v= .ref a∧SqT K H a xs∧xs.length=n∧t xs σ H Q
theorem jh1 {es:List Expr} {k:Nat} {t:TGs} {n:Nat} (hc:X.calm=true) (h:PGs X es t)
 (hn:(assignEach es X.env).length=n:=by rfl) (hst:(assignEach es X.env).findIdx? (·.1)=none:=by rfl):PG X (.Tuple es k pos) (jn2 X.K n t):=by
 intro pins s σ H v u Q I r hw
 obtain⟨a,xs,e1,hq,hl,hw⟩:=hw
 subst e1
 cases r
 obtain⟨its,rv,ht,hz⟩:=I.tuple hq
 refine assign_Tuple_tuple (I.ok.hd hc) ht (by simp [hn,←hl,rv.length]) hst fun h' hx=> ?_
 have I1:Inv X pins σ H {s with heap:=h'}:=I.kept (t' :=s.toks) fun b o e=>hx b o (G0I (G0k e)) e
 exact h pins _ σ H xs _ Q I1 (by simpa using rv) hw
def jpp (to ti:TE) (t:job):TG:=fun v σ H Q=>to σ H fun o H1=>ti σ H1 fun i H2=>t o i v H2 fun H3=>Q σ H3
theorem jmC {o i:Expr} {to ti:TE} {t:job} (ho:PE X o to) (hi:PE X i ti) (hs:jo1 X t)
 (ha: ∀v,assign (.Subscript o i pos) X.env v=(do
  let ov ←holding [v] (eval o X.env)
  let iv ←holding [v,ov] (eval i X.env)
  standAt pos
  holding [v,ov,iv] (setItem ov iv v)
  release [v,ov,iv] []):=by intro _;rfl):PG X (.Subscript o i pos) (jpp to ti t):=by
 intro pins s σ H v u Q I r h
 rw [ha]
 refine wpAny_bind (G04 (thn (ho pins s σ H _ I h) fun ov s1 ⟨x,H1,I1,r1,q1⟩=> ?_))
 refine wpAny_bind (G04 (thn (hi pins s1 σ H1 _ I1 q1) fun iv s2 ⟨y,H2,I2,r2,q2⟩=> ?_))
 refine wpAny_bind (wpAny_standAt (wpAny_bind (G04 (thn (hs pins s2 σ H2 x y v ov iv u _ I2 r1 r2 r q2) fun _ s3 ⟨H3,I3,q3⟩=> ?_))))
 exact wpAny_release ⟨σ,H3,I3,q3⟩
def jn3 (te:TE) (g:TG):TS:=fun D σ H=>te σ H fun x H1=>g x σ H1 D.nx
theorem jmD {tg e:Expr} {te:TE} {g:TG} (he:PE X e te) (hg:PG X tg g) (hs:swapsWithSole [tg] e pos.line X.env=pure false:=by rfl) (hw:swappedStores [tg] e X.env=pure none:=by rfl)
 (h1:(assignEach [tg] X.env).map (·.2)= [assign tg X.env]:=by rfl):PS X (.Assign [tg] e pos) (jn3 te g):=by
 intro pins s σ H D I h
 refine wpAny_Assign_stores (thn (he pins s σ H _ I h) fun v s1 ⟨x,H1,I1,r1,q1⟩=> ?_) hs hw
 rw [h1]
 exact thn (hg pins s1 σ H1 x v _ I1 r1 q1) fun _ s2 q=>q
theorem jmE {i:Nat} {x:Str} {e:Expr} {te:TE} {pos' :Pos} (hN:X.N.Nodup) (hi:X.N[i]? =some x) (hx:Loc X.env.scope x) (he:PE X e te) (hs:swapsWith e (some (.Name x pos')) pos.line X.env=pure false:=by rfl) (hf:X.fn x=true∨X.env.scope.names.lookup x=some .local:=by first|exact .inl rfl|exact .inr rfl|assumption):
 PS X (.Assign [.Name x pos'] e pos) (jn3 te (jdk i)):=by
 intro pins s σ H D I h
 refine wpAny_Assign_Name (thn (he pins s σ H _ I h) fun v s1 ⟨y,H1,I1,r1,q1⟩=> ?_) hs
 exact jdF I1 hN hi hx r1 (fun s2 I2=>⟨_,H1,I2,q1⟩) hf
def jo2 (i j:Nat) (ta:TA):TS:=fun D σ H=>ta σ H fun vs H1=> ∃v w,vs= [v,w]∧D.nx ((σ.set i (some v)).set j (some w)) H1
theorem jmF {i j:Nat} {x y:Str} {a b:Expr} {ta:TA} {px py pt:Pos} {kt k2 pt2} (hc:X.calm=true) (hN:X.N.Nodup) (hi:X.N[i]? =some x) (hj:X.N[j]? =some y) (hij:i≠j)
 (hx:X.env.scope.names.lookup x=some .local) (hy:X.env.scope.names.lookup y=some .local) (ha:PA X [a,b] ta)
 (hw:swappedStores [.Tuple [.Name x px,.Name y py] kt pt] (.Tuple [a,b] k2 pt2) X.env=pure (some [x,y]))
 (hs:swapsWithSole [.Tuple [.Name x px,.Name y py] kt pt] (.Tuple [a,b] k2 pt2) pos.line X.env=pure false:=by rfl):
 PS X (.Assign [.Tuple [.Name x px,.Name y py] kt pt] (.Tuple [a,b] k2 pt2) pos) (jo2 i j ta):=by
 intro pins s σ H D I h
 rw [exec_Assign_arm]
 refine wpAny_bind (wpAny_standAt ?_)
 rw [hs]
 refine wpAny_bind (G0c ?_)
 rw [if_neg (by decide)]
 refine wpAny_bind (Tuple_ (thn (ha _ pins s σ H _ I h) fun us s1 ⟨vs,H1,I1,r1,q1⟩=> ?_))
 obtain⟨v,w,e1,q1⟩:=q1
 subst e1
 obtain⟨u1,u2,rfl,rv,rw'⟩: ∃u1 u2,us= [u1,u2]∧RelV v u1∧RelV w u2:=by
  cases r1 with
  |cons p q=>
   cases q with
   |cons p' q' =>
    cases q'
    exact⟨_,_,rfl,p,p'⟩
 refine G1F ?_ (by show 2≤sizeLine;decide)
 have I2:Inv X pins σ H1 {s1 with heap:=s1.heap.push {cls:= .type "tuple",data:= .seq [u1,u2].toArray}}:=I1.kept (t' :=s1.toks) fun b o e=>G0b _ e
 rw [hw]
 refine wpAny_bind (G0c ?_)
 show wpAny (model X.prog X.w) X.A (do rule "assign.swapped-stores";let items ←unpackItems (.ref s1.heap.objs.size) 2 none;assignInOrder [fun v=>bindName X.env y v,fun v=>bindName X.env x v] items.reverse;pure Flow.next) _ _ _
 refine wpAny_bind (G3c (wpAny_bind (unpackItems_tuple (items:= #[u1,u2]) (I.ok.hd hc) (IsTup.new s1.heap _) fun h' hx' => ?_)))
 have I3:=I2.kept (h' :=h') (t' :=s1.toks) fun b o e=>hx' b o (G0I (G0k e)) e
 show wpAny _ _ (assignInOrder [fun v=>bindName X.env y v,fun v=>bindName X.env x v] [u2,u1] >>= fun _=>pure Flow.next) _ _ _
 refine wpAny_bind (assignInOrder_cons (wpAny_bindName (jdF I3 hN hj (.inl hy) rw' (fun s2 I4=> ?_) (.inr hy))))
 refine assignInOrder_cons (wpAny_bindName (jdF I4 hN hi (.inl hx) rv (fun s3 I5=>assignInOrder_nil (G0c ?_)) (.inr hx)))
 rw [List.set_comm _ _ (Ne.symm hij)] at I5
 exact⟨_,H1,I5,q1⟩
def jku (c:TT) (tb:TS):TS:=fun D σ H=> ∃W:Nat→St→Hp→Prop,(∃m,W m σ H)∧ ∀m σ H,W m σ H→
 c σ H fun b H1=>if b=true then ∃N:St→Hp→Prop,(∀σ' H',N σ' H' → ∃m',m' <m∧W m' σ' H')∧tb {D with nx:=N,ct:=N,bk:=D.nx} σ H1 else D.nx σ H1
theorem jjw {c:Expr} {body:List Stmt} {tc:TT} {tb:TS} (hp:PassesOwn (model X.prog X.w) X.A X.env X.xe) (hc:PT X c tc) (hb:PSs X body tb):PS X (.While c body [] pos) (jku tc tb):=by
 intro pins s σ H D I h
 obtain⟨W,⟨m0,w0⟩,turn⟩:=h
 refine wpAny_While (codeAny_whileLoop (fun n s' => ∃σ' H',Inv X pins σ' H' s' ∧W n σ' H') ?_ m0 ⟨σ,H,I,w0⟩)
 rintro n s1 ⟨σ1,H1,I1,w1⟩
 refine G1G hp (thn (hc pins s1 σ1 H1 _ I1 (turn n σ1 H1 w1)) fun b s2 ⟨H2,I2,q2⟩=> ?_)
 cases b with
 |true=>
  obtain⟨N,hN,q2⟩:=q2
  rw [if_pos rfl]
  refine G1G hp (thn (hb pins s2 σ1 H2 _ I2 q2) fun f s3 q3=> ?_)
  cases f with
  |next=>
   obtain⟨σ3,H3,I3,n3⟩:=q3
   obtain⟨m',hm,w3⟩:=hN σ3 H3 n3
   exact⟨m',hm,σ3,H3,I3,w3⟩
  |cont=>
   obtain⟨σ3,H3,I3,n3⟩:=q3
   obtain⟨m',hm,w3⟩:=hN σ3 H3 n3
   exact⟨m',hm,σ3,H3,I3,w3⟩
  |brk=>exact q3
  |ret v=>exact q3
 |false=>
  rw [if_neg G0g]
  exact G2D ⟨σ1,H2,I2,q2⟩
end
structure It where
 go:Nat→Hp→Prop
 yld:Nat→Hp→V→Hp→Prop
 stop:Nat→Hp→Prop
def jh2 (X:Cx) (pins:List (Addr×Obj)) (H:Hp) (b:Addr):Prop:=
 H b=none∧b≠X.env.locals∧b ∉ X.fs∧(b∈X.ex∨X.s₀.heap.objs.size≤b)∧(∀x c,X.env.cells.lookup x=some c→c≠b)∧ ∀p∈X.pn++pins,p.1≠b
theorem Inv.fpOk {X:Cx} {pins:List (Addr×Obj)} {σ:St} {H H' :Hp} {s:Shared} {b:Addr} (I:Inv X pins σ H s) (hb:s.heap.objs.size≤b) (hn:H' b=none):jh2 X pins H' b:=by
 refine⟨hn,G2q (G0C I.lt hb),I.nofs hb,.inr (G0T I.sz hb),fun x c e z=> ?_,fun p hp z=> ?_⟩
 ·obtain⟨v,q⟩:=I.cell x c e
  exact absurd (G0C q.lt (by rw [z];exact hb)) (G0R _)
 ·exact absurd (G0C (G0k (I.pin p hp).1) (by rw [z];exact hb)) (G0R _)
structure Turn (P:Program) (w:World) (K:PySem.W.Frag) (tg:Expr) (J:It) (fp:List Addr) (it:Addr) (tn:Nat→Heap→Prop):Prop where
 mem:it∈fp
 obj: ∀i h,tn i h→ ∀b∈fp,∃o,h.get? b=some o∧ ∀v,o.data≠ .cell v
 keep: ∀i h h',tn i h→(∀b∈fp,∀o,h.get? b=some o→h'.get? b=some o)→tn i h'
 item: ∀ (X:Cx),X.prog=P→X.w=w→X.K=K→X.calm=true→ ∀ (i:Nat) (pins:List (Addr×Obj)) (s:Shared) (σ:St) (H:Hp) (E:Value→Shared→Prop),Inv X pins σ H s→(∀b∈fp,jh2 X pins H b)→tn i s.heap→J.go i H→
  wpAny (model P w) X.A (pyNext (.ref it)) (fun r s1=> ∃u,r=some u∧
   wpAny (model P w) X.A (letOwnedTupleGo tg (.ref it) u) (fun _ s2=> ∃x H',Inv X pins σ H' s2∧RelV x u∧J.yld i H x H' ∧tn (i+1) s2.heap∧ ∀b∈fp,H' b=none) E s1) E s
 done: ∀ (X:Cx),X.prog=P→X.w=w→X.K=K→X.calm=true→ ∀ (i:Nat) (pins:List (Addr×Obj)) (s:Shared) (σ:St) (H:Hp) (E:Value→Shared→Prop),Inv X pins σ H s→(∀b∈fp,jh2 X pins H b)→tn i s.heap→J.stop i H→
  wpAny (model P w) X.A (pyNext (.ref it)) (fun r s1=>r=none∧Inv X pins σ H s1) E s
 self: ∀ (A:Around) (i:Nat) (s:Shared) (Q:Value→Shared→Prop) (E:Value→Shared→Prop),tn i s.heap→Q (.ref it) s→wpAny (model P w) A (pyIter (.ref it)) Q E s
abbrev TI:=St→Hp→(It→Hp→Prop)→Prop
def PIE (X:Cx) (pins:List (Addr×Obj)) (σ:St) (tg:Expr) (R:It→Hp→Prop) (itv:Value) (s2:Shared):Prop:=
 ∃ (it:Addr) (fp:List Addr) (tn:Nat→Heap→Prop) (J:It) (H' :Hp),itv= .ref it∧Inv X pins σ H' s2∧Turn X.prog X.w X.K tg J fp it tn∧tn 0 s2.heap∧(∀b∈fp,jh2 X pins H' b)∧R J H'
def PI (X:Cx) (tg iter:Expr) (wi:TI):Prop:=
 ∀ (pins:List (Addr×Obj)) (s:Shared) (σ:St) (H:Hp) (R:It→Hp→Prop),Inv X pins σ H s→wi σ H R→
  wpAny (model X.prog X.w) X.A (eval iter X.env) (fun v s1=>wpAny (model X.prog X.w) X.A (pyIter v) (PIE X pins σ tg R) X.xe s1) X.xe s
theorem jk1 {M : Model} {A : Around} {E : Value → Shared → Prop} {s : Shared} {tg : Expr} {it : Addr} {u : Value} {o : Obj} {n : String} {vs : Array Value} {Q : Unit → Shared → Prop} (ho : s.heap.get? it = some o) (hc : o.cls = .type n) (hd : o.data = .fields vs)
    (hn : ["enumerate", "zip", "dict_itemiterator", "dict_reverseitemiterator", "odict_iterator", "itertools.zip_longest", "itertools.pairwise"].contains n = false) (hQ : Q () s) : wpAny M A (letOwnedTupleGo tg (.ref it) u) Q E s := by
  unfold letOwnedTupleGo
  cases tg <;> first
    | exact G0c hQ
    | (cases u <;> first
        | exact G0c hQ
        | (refine wpAny_bind (wpAny_load ho ?_)
           rw [hc, hd]
           show wpAny M A (if (["enumerate", "zip", "dict_itemiterator", "dict_reverseitemiterator", "odict_iterator", "itertools.zip_longest", "itertools.pairwise"].contains n && vs[0]? == some (rawInt _)) = true then _ else _) Q E s
           rw [if_neg (by intro h; rw [hn, G3h] at h; cases h)]
           exact G0c hQ))
def Itl (K:PySem.W.Frag) (a:Addr):It:=
 ⟨fun i H=> ∃xs x,SqL K H a xs∧xs[i]? =some x,fun i H x H' =>H' =H∧ ∀xs,SqL K H a xs→xs[i]? =some x,fun i H=> ∃xs,SqL K H a xs∧xs.length≤i⟩
def Itt (K:PySem.W.Frag) (a:Addr):It:=
 ⟨fun i H=> ∃xs x,SqT K H a xs∧xs[i]? =some x,fun i H x H' =>H' =H∧ ∀xs,SqT K H a xs→xs[i]? =some x,fun i H=> ∃xs,SqT K H a xs∧xs.length≤i⟩
def Itr (lo:Int) (n:Nat):It:=⟨fun i _=>i<n,fun i H x H' =>H' =H∧x= .int (lo+i),fun i _=>n≤i⟩
theorem jfH {P:Program} {w:World} {K:PySem.W.Frag} {tg:Expr} (a it:Addr):Turn P w K tg (Itl K a) [it] it (fun i h=>h.IsListIter it a i) where
 mem:=by simp
 obj:=fun i h st b hb=>by
  have e:b=it:=by simpa using hb
  subst e
  obtain⟨o,e,c,d⟩:=st
  exact⟨o,e,fun v z=>by rw [d] at z;cases z⟩
 keep:=fun i h h' st k=>st.at fun o e=>k it (by simp) o e
 item:=by
  intro X hP hw hK hc i pins s σ H E I hf st hg
  subst hP hw hK
  obtain⟨xs,x,hq,hx⟩:=hg
  obtain⟨its,rv,p,hz⟩:=I.list hq
  obtain⟨u,hu,ru⟩:=rv.get hx
  obtain⟨f0,f1,f2,f3,f4,f5⟩:=hf it (by simp)
  refine wpAny_pyNext_list_item st p.isList (x:=u) (by simpa using hu) fun h' st' sb=> ?_
  have I1:Inv X pins σ H {s with heap:=h'}:=I.turned (t' :=s.toks) (fun b o hb e=>(sb.2 b hb).trans e) f0 f1 f3 f4 f5
  obtain⟨o,e,c,d⟩:=id st'
  exact⟨u,rfl,jk1 (s:= {s with heap:=h'}) e c d (by decide) ⟨x,H,I1,ru,⟨rfl,fun ys hy=>by rw [I.list_inj hy hq];exact hx⟩,st',fun b hb=>(hf b hb).1⟩⟩
 done:=by
  intro X hP hw hK hc i pins s σ H E I hf st hg
  subst hP hw hK
  obtain⟨xs,hq,hx⟩:=hg
  obtain⟨its,rv,p,hz⟩:=I.list hq
  obtain⟨f0,f1,f2,f3,f4,f5⟩:=hf it (by simp)
  have hl:=rv.length
  exact wpAny_pyNext_list_end (I.ok.hd hc) st p.isList (by simp;omega) fun h' eb=>⟨rfl,I.turned (t' :=s.toks) (fun b o hb e=>eb b o hb e) f0 f1 f3 f4 f5⟩
 self:=fun _ _ _ _ _ st h=>wpAny_pyIter_listiter st h
theorem jhw {P:Program} {w:World} {K:PySem.W.Frag} {tg:Expr} (a it:Addr):Turn P w K tg (Itt K a) [it] it (fun i h=>h.IsTupleIter it a i) where
 mem:=by simp
 obj:=fun i h st b hb=>by
  have e:b=it:=by simpa using hb
  subst e
  obtain⟨o,e,c,d⟩:=st
  exact⟨o,e,fun v z=>by rw [d] at z;cases z⟩
 keep:=fun i h h' st k=>st.at fun o e=>k it (by simp) o e
 item:=by
  intro X hP hw hK hc i pins s σ H E I hf st hg
  subst hP hw hK
  obtain⟨xs,x,hq,hx⟩:=hg
  obtain⟨its,rv,p,hz⟩:=I.tuple hq
  obtain⟨u,hu,ru⟩:=rv.get hx
  obtain⟨f0,f1,f2,f3,f4,f5⟩:=hf it (by simp)
  refine wpAny_pyNext_tuple_item st (show s.heap.IsTuple a its.toArray from p) (x:=u) (by simpa using hu) fun h' st' sb=> ?_
  have I1:Inv X pins σ H {s with heap:=h'}:=I.turned (t' :=s.toks) (fun b o hb e=>(sb.2 b hb).trans e) f0 f1 f3 f4 f5
  obtain⟨o,e,c,d⟩:=id st'
  exact⟨u,rfl,jk1 (s:= {s with heap:=h'}) e c d (by decide) ⟨x,H,I1,ru,⟨rfl,fun ys hy=>by rw [I.tuple_inj hy hq];exact hx⟩,st',fun b hb=>(hf b hb).1⟩⟩
 done:=by
  intro X hP hw hK hc i pins s σ H E I hf st hg
  subst hP hw hK
  obtain⟨xs,hq,hx⟩:=hg
  obtain⟨its,rv,p,hz⟩:=I.tuple hq
  obtain⟨f0,f1,f2,f3,f4,f5⟩:=hf it (by simp)
  have hl:=rv.length
  exact wpAny_pyNext_tuple_end (I.ok.hd hc) st (show s.heap.IsTuple a its.toArray from p) (by simp;omega) fun h' eb=>⟨rfl,I.turned (t' :=s.toks) (fun b o hb e=>eb b o hb e) f0 f1 f3 f4 f5⟩
 self:=fun _ _ _ _ _ st h=>wpAny_pyIter_tupleiter st h
theorem jhx {P:Program} {w:World} {K:PySem.W.Frag} {tg:Expr} (it:Addr) (lo:Int) (n:Nat):Turn P w K tg (Itr lo n) [it] it (fun i h=>IsRangeIter h it (lo+(i:Nat)*1) ((n:Int)-(i:Nat)) 1) where
 mem:=by simp
 obj:=fun i h st b hb=>by
  have e:b=it:=by simpa using hb
  subst e
  exact⟨_,st,fun v z=>by
   have z' :Data.fields _=Data.cell v:=z
   cases z'⟩
 keep:=fun i h h' st k=>k it (by simp) _ st
 item:=by
  intro X hP hw hK hc i pins s σ H E I hf st hg
  subst hP hw hK
  obtain⟨f0,f1,f2,f3,f4,f5⟩:=hf it (by simp)
  have W:=Walks.range (prog:=X.prog) (w:=X.w) (I.ok.hd hc) it lo 1 n
  refine W.item i s _ _ hg st fun v h' tk hv st' kk=> ?_
  obtain⟨t,rfl⟩:=hv
  have I1:Inv X pins σ H {s with heap:=h',toks:=tk}:=I.turned (fun b o hb e=>kk b o (by simpa using hb) e) f0 f1 f3 f4 f5
  refine⟨_,rfl,jk1 (s:= {s with heap:=h',toks:=tk}) (n:= "range_iterator") st' rfl rfl (by decide) ⟨.int (lo+i),H,I1,⟨t,?_⟩,⟨rfl,rfl⟩,st',fun b hb=>(hf b hb).1⟩⟩
  rw [Int.mul_one]
 done:=by
  intro X hP hw hK hc i pins s σ H E I hf st hg
  subst hP hw hK
  obtain⟨f0,f1,f2,f3,f4,f5⟩:=hf it (by simp)
  exact wpAny_pyNext_range_end (I.ok.hd hc) st (by have:n≤i:=hg;omega) fun h' eb=>⟨rfl,I.turned (t' :=s.toks) (fun b o hb e=>eb b o hb e) f0 f1 f3 f4 f5⟩
 self:=fun _ _ _ _ _ st h=>wpAny_pyIter_rangeiter st h
section
variable {X:Cx} {tg:Expr}
def jmG (K:PySem.W.Frag) (tl:TE):TI:=fun σ H R=>tl σ H fun x H1=> ∃a,x= .ref a∧(∃xs,SqL K H1 a xs)∧R (Itl K a) H1
theorem jk2 {l:Expr} {tl:TE} (hl:PE X l tl):PI X tg l (jmG X.K tl):=by
 intro pins s σ H R I h
 refine thn (hl pins s σ H _ I h) fun v s1 ⟨x,H1,I1,r1,q1⟩=> ?_
 obtain⟨a,e,⟨xs,hq⟩,q⟩:=q1
 subst e
 cases r1
 obtain⟨its,rv,p,hz⟩:=I1.list hq
 refine G1X p.isList ?_
 refine⟨s1.heap.objs.size,[s1.heap.objs.size],_,_,H1,rfl,I1.kept (t' :=s1.toks) fun b o e=>G0b _ e,jfH a _,⟨_,G0m _ rfl,rfl,rfl⟩,fun b hb=> ?_,q⟩
 have e:b=s1.heap.objs.size:=by simpa using hb
 subst e
 exact I1.fpOk (G0d _) (I1.hok.fresh (G0d _))
theorem jjx {pins:List (Addr×Obj)} {σ:St} {H:Hp} {s:Shared} {R:It→Hp→Prop} {E:Value→Shared→Prop} {lo hi:Int} {t u v:Tok} {tk:Nat} (I:Inv X pins σ H s) (h1: -(2^62)≤lo) (h2:lo<2^62) (h3: -(2^62)≤hi) (h4:hi<2^62)
 (q:R (Itr lo (hi-lo).toNat) H):wpAny (model X.prog X.w) X.A (pyIter (.ref s.heap.objs.size)) (PIE X pins σ tg R) E {s with heap:=s.heap.push {cls:= .type "range",data:= .fields #[.int lo t,.int hi u,.int 1 v]},toks:=tk}:=by
 refine wpAny_pyIter_range (IsRange.new ..) (small_one h1 h2 h3 h4) ?_
 have I1:Inv X pins σ H {s with heap:=s.heap.push {cls:= .type "range",data:= .fields #[.int lo t,.int hi u,.int 1 v]},toks:=tk}:=I.kept fun b o e=>G0b _ e
 refine⟨(s.heap.push {cls:= .type "range",data:= .fields #[.int lo t,.int hi u,.int 1 v]}).objs.size,[(s.heap.push {cls:= .type "range",data:= .fields #[.int lo t,.int hi u,.int 1 v]}).objs.size],_,_,H,rfl,
  I1.kept (t' :=tk) fun b o e=>G0b _ e,jhx _ lo (hi-lo).toNat,?_,fun b hb=> ?_,q⟩
 ·have e1:lo+((0:Nat):Int)*1=lo:=by simp
  have e2:(((hi-lo).toNat:Nat):Int)-((0:Nat):Int)=Builtin.Range.rangeSize lo hi 1:=by rw [rangeSize_one];split<;>omega
  show IsRangeIter _ _ (lo+((0:Nat):Int)*1) ((((hi-lo).toNat:Nat):Int)-((0:Nat):Int)) 1
  rw [e1,e2]
  exact G0m _ rfl
 ·have e:b=(s.heap.push {cls:= .type "range",data:= .fields #[.int lo t,.int hi u,.int 1 v]}).objs.size:=by simpa using hb
  subst e
  exact I1.fpOk (G0d _) (I1.hok.fresh (G0d _))
def jmH (ta:TA):TI:=fun σ H R=>ta σ H fun vs H1=> ∃j:Int,vs= [.int j]∧ -(2^62)≤j∧j<2^62∧R (Itr 0 j.toNat) H1
theorem jh3 {a:Expr} {ta:TA} {p pos:Pos} (hg:Gl X "range") (hm:X.mg "range" =none) (ha:PA X [a] ta) (hs:starEach [a] X.env= [(false,eval a X.env)]:=by rfl):PI X tg (.Call (.Name "range" p) [a] [] pos) (jmH ta):=by
 intro pins s σ H R I h
 refine Call_ (jez I hg hm boot_range (G1s (thn (ha pos pins s σ H _ I h) fun us s1 ⟨vs,H1,I1,r1,q1⟩=> ?_) hs rfl))
 obtain⟨j,e,q1,q2,q⟩:=q1
 subst e
 cases r1 with
 |cons r rr=>
  cases rr
  obtain⟨t,rfl⟩:=r
  exact call_range_1 (jjx I1 (by omega) (by omega) q1 q2 (by simpa using q))
def jo3 (wi:TI) (g:TG) (tb:TS):TS:=fun D σ H=>wi σ H fun J H1=> ∃W:Nat→Nat→St→Hp→Prop,(∃m,W 0 m σ H1)∧ ∀i m σ H,W i m σ H→
 (J.stop i H∧D.nx σ H)∨(J.go i H∧ ∃N:St→Hp→Prop,(∀σ' H',N σ' H' → ∃m',m' <m∧W (i+1) m' σ' H')∧ ∀x H',J.yld i H x H' →g x σ H' fun σ2 H2=>tb {D with nx:=N,ct:=N,bk:=D.nx} σ2 H2)
def jdM (fp:List Addr) (h:Heap):List (Addr×Obj):=fp.filterMap fun b=>(h.get? b).map fun o=>(b,o)
theorem jcK {fp:List Addr} {h:Heap} {b:Addr} {o:Obj} (hb:b∈fp) (e:h.get? b=some o):(b,o)∈jdM fp h:=G1P.mpr ⟨b,hb,by rw [e];rfl⟩
theorem jfI {fp:List Addr} {h:Heap} {p:Addr×Obj} (hp:p∈jdM fp h):p.1∈fp∧h.get? p.1=some p.2:=by
 obtain⟨b,hb,e⟩:=G1P.mp hp
 cases q:h.get? b with
 |none=>rw [q] at e;cases e
 |some o=>
  rw [q] at e
  have e' :(b,o)=p:=G0V e
  subst e'
  exact⟨hb,q⟩
theorem Inv.pinned {pins:List (Addr×Obj)} {σ:St} {H:Hp} {s:Shared} {fp:List Addr} (I:Inv X pins σ H s) (hf: ∀b∈fp,jh2 X pins H b) (ho: ∀b∈fp,∃o,s.heap.get? b=some o∧ ∀v,o.data≠ .cell v):Inv X (pins++jdM fp s.heap) σ H s:=
 I.pins_of fun p hp=>(G1c.mp hp).elim (fun z=>I.pin p (G0u _ z)) fun z=>by
  obtain⟨hb,e⟩:=jfI z
  obtain⟨f0,f1,f2,_⟩:=hf p.1 hb
  obtain⟨o,e',d⟩:=ho p.1 hb
  rw [e] at e';cases e'
  exact⟨e,f0,f1,f2,d⟩
theorem Inv.unpinned {pins pl:List (Addr×Obj)} {σ:St} {H:Hp} {s:Shared} (I:Inv X (pins++pl) σ H s):Inv X pins σ H s:=I.pins_of fun p hp=>I.pin p (G0u _ (G1g _ hp))
theorem jmI {iter:Expr} {body:List Stmt} {wi:TI} {g:TG} {tb:TS} {pos:Pos} (hp:PassesOwn (model X.prog X.w) X.A X.env X.xe) (hc:X.calm=true) (hi:PI X tg iter wi) (hg:PG X tg g) (hb:PSs X body tb)
 (hs: ∀x,foldedSetIterable iter X.env x=pure x:=by intro _;rfl):PS X (.For tg iter body [] pos) (jo3 wi g tb):=by
 intro pins s σ H D I h
 refine wpAny_For (thn (hi pins s σ H _ I h) fun v s1 h1=>thn h1 fun itv s2 h2=> ?_) hs
 obtain⟨it,fp,tn,J,H2,e,I2,T,st2,f2,W,⟨m0,w0⟩,turn⟩:=h2
 subst e
 -- what stays true of the iterator's objects through the loop
 have stat: ∀ {H' :Hp},(∀b∈fp,H' b=none)→ ∀b∈fp,jh2 X pins H' b:=fun hn b hb=>⟨hn b hb,(f2 b hb).2⟩
 refine codeAny_forLoop_any (fun n s' => ∃i σ' H',Inv X pins σ' H' s' ∧tn i s'.heap∧(∀b∈fp,H' b=none)∧W i n σ' H') ?_ m0 ⟨0,σ,H2,I2,st2,fun b hb=>(f2 b hb).1,w0⟩
 rintro n s3 ⟨i,σ3,H3,I3,st3,fr3,w3⟩
 rcases turn i n σ3 H3 w3 with ⟨stop,qn⟩|⟨go,N,hN,step⟩
 ·refine G1G hp (thn (T.done X rfl rfl rfl hc i pins s3 σ3 H3 X.xe I3 (stat fr3) st3 stop) fun r s4 ⟨hr,I4⟩=> ?_)
  subst hr
  exact G2D ⟨σ3,H3,I4,qn⟩
 ·refine G1G hp (thn (T.item X rfl rfl rfl hc i pins s3 σ3 H3 X.xe I3 (stat fr3) st3 go) fun r s4 ⟨u,hr,h4⟩=> ?_)
  subst hr
  refine G1G hp (thn h4 fun _ s5 ⟨x,H5,I5,r5,y5,st5,fr5⟩=> ?_)
  have I5' :=I5.pinned (stat fr5) (T.obj _ _ st5)
  refine G1G hp (thn (hg _ s5 σ3 H5 x u _ I5' r5 (step x H5 y5)) fun _ s6 ⟨σ6,H6,I6,q6⟩=> ?_)
  refine G1G hp (thn (hb _ s6 σ6 H6 _ I6 q6) fun f s7 q7=> ?_)
  have again: ∀ {σ7:St} {H7:Hp},Inv X (pins++jdM fp s5.heap) σ7 H7 s7→N σ7 H7→ ∃m,m<n∧ ∃i σ' H',Inv X pins σ' H' s7∧tn i s7.heap∧(∀b∈fp,H' b=none)∧W i m σ' H' :=fun {σ7 H7} I7 n7=>by
   obtain⟨m',hm,w7⟩:=hN σ7 H7 n7
   refine⟨m',hm,i+1,σ7,H7,I7.unpinned,T.keep _ _ _ st5 fun b hb o e=>(I7.pin (b,o) (G0u _ (G0u _ (jcK hb e)))).1,fun b hb=> ?_,w7⟩
   obtain⟨o,e,d⟩:=T.obj _ _ st5 b hb
   exact(I7.pin (b,o) (G0u _ (G0u _ (jcK hb e)))).2.1
  cases f with
  |next=>obtain⟨σ7,H7,I7,n7⟩:=q7;exact again I7 n7
  |cont=>obtain⟨σ7,H7,I7,n7⟩:=q7;exact again I7 n7
  |brk=>obtain⟨σ7,H7,I7,q7⟩:=q7;exact⟨σ7,H7,I7.unpinned,q7⟩
  |ret v=>obtain⟨x7,σ7,H7,I7,r7,q7⟩:=q7;exact⟨x7,σ7,H7,I7.unpinned,r7,q7⟩
end
abbrev R2:=V→V→Hp→VK→Prop
def OpR (X:Cx) (f:Value→Value→Sem Value) (r:R2):Prop:=
 ∀ (pins:List (Addr×Obj)) (s:Shared) (σ:St) (H:Hp) (x y:V) (v u:Value) (Q:VK),Inv X pins σ H s→RelV x v→RelV y u→r x y H Q→
  wpAny (model X.prog X.w) X.A (f v u) (EP X pins σ Q) X.xe s
def UnR (X:Cx) (f:Value→Sem Value) (r:V→Hp→VK→Prop):Prop:=
 ∀ (pins:List (Addr×Obj)) (s:Shared) (σ:St) (H:Hp) (x:V) (v:Value) (Q:VK),Inv X pins σ H s→RelV x v→r x H Q→
  wpAny (model X.prog X.w) X.A (f v) (EP X pins σ Q) X.xe s
def CallR (X:Cx) (f:Value) (r:List V→Hp→VK→Prop):Prop:=
 ∀ (pins:List (Addr×Obj)) (s:Shared) (σ:St) (H:Hp) (xs:List V) (us:List Value) (Q:VK),Inv X pins σ H s→Vals xs us→r xs H Q→
  wpAny (model X.prog X.w) X.A (call f us) (EP X pins σ Q) X.xe s
def tOp (r:R2) (ta tb:TE):TE:=fun σ H Q=>ta σ H fun x H1=>tb σ H1 fun y H2=>r x y H2 Q
def tUn (r:V→Hp→VK→Prop) (ta:TE):TE:=fun σ H Q=>ta σ H fun x H1=>r x H1 Q
def rI (C:Int→Int→Prop) (g:Int→Int→V):R2:=fun x y H Q=> ∃i j,x= .int i∧y= .int j∧C i j∧Q (g i j) H
def rI0 (g:Int→Int→V):R2:=fun x y H Q=> ∃i j,x= .int i∧y= .int j∧Q (g i j) H
def rU (g:Int→V):V→Hp→VK→Prop:=fun x H Q=> ∃i,x= .int i∧Q (g i) H
section
variable {X:Cx} {a b c:Expr} {ta tb tc:TE} {pos:Pos}
theorem joc (ha:PE X a ta) (hb:PE X b tb) {pins:List (Addr×Obj)} {s:Shared} {σ:St} {H:Hp} {R:V→V→Hp→Prop} (I:Inv X pins σ H s)
 (h:ta σ H fun x H1=>tb σ H1 fun y H2=>R x y H2) {Q:Value→Shared→Prop} {f:Value→Value→Sem Value}
 (hf: ∀v u s2 x y H2,Inv X pins σ H2 s2→RelV x v→RelV y u→R x y H2→wpAny (model X.prog X.w) X.A (f v u) Q X.xe s2):
 wpAny (model X.prog X.w) X.A (eval a X.env) (fun v s₁=>wpAny (model X.prog X.w) X.A (eval b X.env) (fun u s₂=>wpAny (model X.prog X.w) X.A (f v u) Q X.xe s₂) X.xe s₁) X.xe s:=by
 refine thn (ha pins s σ H _ I h) fun v s1 ⟨x,H1,I1,r1,q1⟩=> ?_
 refine thn (hb pins s1 σ H1 _ I1 q1) fun u s2 ⟨y,H2,I2,r2,q2⟩=> ?_
 exact hf v u s2 x y H2 I2 r1 r2 q2
theorem jod {op:Operator} {r:R2} (ho:OpR X (binaryOp op) r) (ha:PE X a ta) (hb:PE X b tb):PE X (.BinOp a op b pos) (tOp r ta tb):=by
 intro pins s σ H Q I h
 exact wpAny_BinOp (joc ha hb I h fun v u s2 x y H2 I2 rx ry q=>ho pins s2 σ H2 x y v u Q I2 rx ry q)
theorem joe {op:UnaryOp} {r:V→Hp→VK→Prop} (ho:UnR X (unaryOp op) r) (ha:PE X a ta):PE X (.UnaryOp op a pos) (tUn r ta):=by
 intro pins s σ H Q I h
 exact UnaryOp_ (thn (ha pins s σ H _ I h) fun v s1 ⟨x,H1,I1,r1,q1⟩=>ho pins s1 σ H1 x v Q I1 r1 q1)
theorem opI {f:Value→Value→Sem Value} {C:Int→Int→Prop} {g:Int→Int→Int}
 (rule: ∀ (i j:Int) (t u:Tok) (s:Shared) (Q:Value→Shared→Prop) (E:Value→Shared→Prop),C i j→Q (.int (g i j) s.toks) {s with toks:=s.toks+1}→wpAny (model X.prog X.w) X.A (f (.int i t) (.int j u)) Q E s):
 OpR X f (rI C fun i j=> .int (g i j)):=by
 intro pins s σ H x y v u Q I rx ry h
 obtain⟨i,j,rfl,rfl,hc,q⟩:=h
 obtain⟨t,rfl⟩:=rx
 obtain⟨t',rfl⟩:=ry
 exact rule i j t t' s _ _ hc ⟨.int (g i j),H,I.tok _,⟨_,rfl⟩,q⟩
theorem jo4 {f:Value→Value→Sem Value} {g:Int→Int→Int}
 (rule: ∀ (i j:Int) (t u:Tok) (s:Shared) (Q:Value→Shared→Prop) (E:Value→Shared→Prop),Q (.int (g i j) s.toks) {s with toks:=s.toks+1}→wpAny (model X.prog X.w) X.A (f (.int i t) (.int j u)) Q E s):
 OpR X f (rI0 fun i j=> .int (g i j)):=by
 intro pins s σ H x y v u Q I rx ry h
 obtain⟨i,j,rfl,rfl,q⟩:=h
 obtain⟨t,rfl⟩:=rx
 obtain⟨t',rfl⟩:=ry
 exact rule i j t t' s _ _ ⟨.int (g i j),H,I.tok _,⟨_,rfl⟩,q⟩
theorem jof {f:Value→Value→Sem Value} {g:Int→Int→Bool}
 (rule: ∀ (i j:Int) (t u:Tok) (s:Shared) (Q:Value→Shared→Prop) (E:Value→Shared→Prop),Q (.bool (g i j)) s→wpAny (model X.prog X.w) X.A (f (.int i t) (.int j u)) Q E s):
 OpR X f (rI0 fun i j=> .bl (g i j)):=by
 intro pins s σ H x y v u Q I rx ry h
 obtain⟨i,j,rfl,rfl,q⟩:=h
 obtain⟨t,rfl⟩:=rx
 obtain⟨t',rfl⟩:=ry
 exact rule i j t t' s _ _ ⟨.bl (g i j),H,I,rfl,q⟩
def jog (i j:Int):Prop:=0<j∧j<1073741824
def jo5 (i j:Int):Prop:=0≤j∧j≤1000000∧i.natAbs<2^64
def CMul (i j:Int):Prop:=(-(2^64)<i∧i<2^64)∨(-(2^64)<j∧j<2^64)
theorem CMul.ok {i j:Int} (h:CMul i j):IntMulOk i j:=by
 rcases h with ⟨h1,h2⟩|⟨h1,h2⟩
 ·exact .of_left (intBits_le_64 h1 h2)
 ·exact .of_right (intBits_le_64 h1 h2)
theorem op_add:OpR X (binaryOp .Add) (rI0 fun i j=> .int (i+j)):=jo4 fun _ _ _ _ _ _ _ q=>add_int q
theorem jmJ:OpR X (binaryOp .Sub) (rI0 fun i j=> .int (i-j)):=jo4 fun _ _ _ _ _ _ _ q=>sub_int q
theorem op_mul:OpR X (binaryOp .Mult) (rI CMul fun i j=> .int (i*j)):=opI fun _ _ _ _ _ _ _ hc q=>mul_int q hc.ok
theorem jk3:OpR X (binaryOp .FloorDiv) (rI jog fun i j=> .int (i / j)):=opI fun i j _ _ _ _ _ hc q=>by
 have h1:(0:Int)<j:=hc.1
 have h2:j<1073741824:=hc.2
 exact floordiv_int (by omega) (by rw [G2G i (by omega)];exact q) (.inl (PyProof.noPylong_small (by omega)))
theorem jmK:OpR X (binaryOp .Mod) (rI (fun _ j=>0<j) fun i j=> .int (i%j)):=opI fun i j _ _ _ _ _ hc q=>by
 have h1:(0:Int)<j:=hc
 exact mod_int' (by omega) (by rw [G2H i (by omega)];exact q)
theorem jmL:OpR X (binaryOp .Pow) (rI jo5 fun i j=> .int (i^j.toNat)):=opI fun _ _ _ _ _ _ _ hc q=>pow_int_small hc.1 hc.2.1 hc.2.2 q
theorem unI {f:Value→Sem Value} {g:Int→Int}
 (rule: ∀ (i:Int) (t:Tok) (s:Shared) (Q:Value→Shared→Prop) (E:Value→Shared→Prop),Q (.int (g i) s.toks) {s with toks:=s.toks+1}→wpAny (model X.prog X.w) X.A (f (.int i t)) Q E s):
 UnR X f (rU fun i=> .int (g i)):=by
 intro pins s σ H x v Q I rx h
 obtain⟨i,rfl,q⟩:=h
 obtain⟨t,rfl⟩:=rx
 exact rule i t s _ _ ⟨.int (g i),H,I.tok _,⟨_,rfl⟩,q⟩
theorem jmM:UnR X (unaryOp .USub) (rU fun i=> .int (-i)):=unI fun _ _ _ _ _ q=>neg_int q
end
def jo6:V→V→Bool
 | .non,.non=>true| .non,.int _=>true| .int _,.non=>true| .non,.bl _=>true| .bl _,.non=>true| .non,.str _=>true| .str _,.non=>true
 | .int _,.int _=>true| .bl _,.bl _=>true| .str _,.str _=>true| .byt _,.byt _=>true
 | .int _,.str _=>true| .str _,.int _=>true| .bl _,.str _=>true| .str _,.bl _=>true
 |_,_=>false
def rEq:R2:=fun x y H Q=>jo6 x y=true∧Q (.bl (decide (x=y))) H
def rNe:R2:=fun x y H Q=>jo6 x y=true∧Q (.bl (!decide (x=y))) H
theorem jh4 {i j:Int}:decide (V.int i=V.int j)=(i==j):=by
 rw [G1T]
 simp
theorem jkv {i j:Bool}:decide (V.bl i=V.bl j)=(i==j):=by
 rw [G1T]
 simp
theorem jh5 {i j:Str}:decide (V.str i=V.str j)=(i==j):=by
 rw [G1T]
 simp
theorem jh6 {i j:Array UInt8}:decide (V.byt i=V.byt j)=(i.toList==j.toList):=by
 rw [G1T]
 cases i
 cases j
 simp
section
variable {X:Cx} {a b c:Expr} {ta tb tc:TE} {pos:Pos}
theorem jaB {pins:List (Addr×Obj)} {σ:St} {H:Hp} {s:Shared} {Q:VK} {k k' :Bool} (I:Inv X pins σ H s) (q:Q (.bl k) H) (e:k=k'):EP X pins σ Q (.bool k') s:=by
 subst e
 exact⟨.bl k,H,I,rfl,q⟩
theorem op_eq:OpR X (compareOp .Eq) rEq:=by
 intro pins s σ H x y v u Q I rx ry h
 obtain⟨hs,q⟩:=h
 cases x with
 |non=>
  cases rx
  cases y with
  |non=>cases ry;exact PySem.EqNone.eq_none_none (jaB I q (by simp))
  |bl j=>cases ry;exact PySem.EqNone.eq_none_bool (jaB I q (by simp))
  |int j=>obtain⟨t',rfl⟩:=ry;exact PySem.EqNone.eq_none_int (jaB I q (by simp))
  |str j=>obtain⟨t',rfl⟩:=ry;exact PySem.EqNone.eq_none_str (jaB I q (by simp))
  |_=>exact absurd (show false=true from hs) G0g
 |bl i=>
  cases rx
  cases y with
  |non=>cases ry;exact PySem.EqNone.eq_bool_none (jaB I q (by simp))
  |bl j=>cases ry;exact eq_bool (jaB I q jkv)
  |str j=>obtain⟨t',rfl⟩:=ry;exact PySem.EqMixed.eq_bool_str (jaB I q (by simp))
  |_=>exact absurd (show false=true from hs) G0g
 |int i=>
  obtain⟨t,rfl⟩:=rx
  cases y with
  |non=>cases ry;exact PySem.EqNone.eq_int_none (jaB I q (by simp))
  |int j=>obtain⟨t',rfl⟩:=ry;exact eq_int (jaB I q jh4)
  |str j=>obtain⟨t',rfl⟩:=ry;exact PySem.EqMixed.eq_int_str (jaB I q (by simp))
  |_=>exact absurd (show false=true from hs) G0g
 |str i=>
  obtain⟨t,rfl⟩:=rx
  cases y with
  |non=>cases ry;exact PySem.EqNone.eq_str_none (jaB I q (by simp))
  |bl j=>cases ry;exact PySem.EqMixed.eq_str_bool (jaB I q (by simp))
  |int j=>obtain⟨t',rfl⟩:=ry;exact PySem.EqMixed.eq_str_int (jaB I q (by simp))
  |str j=>obtain⟨t',rfl⟩:=ry;exact eq_str (jaB I q jh5)
  |_=>exact absurd (show false=true from hs) G0g
 |byt i=>
  obtain⟨t,rfl⟩:=rx
  cases y with
  |byt j=>obtain⟨t',rfl⟩:=ry;exact PySem.W.eq_bytes (jaB I q jh6)
  |_=>exact absurd (show false=true from hs) G0g
 |_=>cases y<;>exact absurd (show false=true from hs) G0g
theorem op_ne:OpR X (compareOp .NotEq) rNe:=by
 intro pins s σ H x y v u Q I rx ry h
 obtain⟨hs,q⟩:=h
 cases x with
 |non=>
  cases rx
  cases y with
  |non=>cases ry;exact PySem.EqNone.ne_none_none (jaB I q (by simp))
  |bl j=>cases ry;exact PySem.EqNone.ne_none_bool (jaB I q (by simp))
  |int j=>obtain⟨t',rfl⟩:=ry;exact PySem.EqNone.ne_none_int (jaB I q (by simp))
  |str j=>obtain⟨t',rfl⟩:=ry;exact PySem.EqNone.ne_none_str (jaB I q (by simp))
  |_=>exact absurd (show false=true from hs) G0g
 |bl i=>
  cases rx
  cases y with
  |non=>cases ry;exact PySem.EqNone.ne_bool_none (jaB I q (by simp))
  |bl j=>cases ry;exact ne_bool (jaB I q (congrArg not jkv))
  |str j=>obtain⟨t',rfl⟩:=ry;exact PySem.EqMixed.ne_bool_str (jaB I q (by simp))
  |_=>exact absurd (show false=true from hs) G0g
 |int i=>
  obtain⟨t,rfl⟩:=rx
  cases y with
  |non=>cases ry;exact PySem.EqNone.ne_int_none (jaB I q (by simp))
  |int j=>obtain⟨t',rfl⟩:=ry;exact ne_int (jaB I q (congrArg not jh4))
  |str j=>obtain⟨t',rfl⟩:=ry;exact PySem.EqMixed.ne_int_str (jaB I q (by simp))
  |_=>exact absurd (show false=true from hs) G0g
 |str i=>
  obtain⟨t,rfl⟩:=rx
  cases y with
  |non=>cases ry;exact PySem.EqNone.ne_str_none (jaB I q (by simp))
  |bl j=>cases ry;exact PySem.EqMixed.ne_str_bool (jaB I q (by simp))
  |int j=>obtain⟨t',rfl⟩:=ry;exact PySem.EqMixed.ne_str_int (jaB I q (by simp))
  |str j=>obtain⟨t',rfl⟩:=ry;exact ne_str (jaB I q (congrArg not jh5))
  |_=>exact absurd (show false=true from hs) G0g
 |byt i=>
  obtain⟨t,rfl⟩:=rx
  cases y with
  |byt j=>obtain⟨t',rfl⟩:=ry;exact PySem.W.ne_bytes (jaB I q (congrArg not jh6))
  |_=>exact absurd (show false=true from hs) G0g
 |_=>cases y<;>exact absurd (show false=true from hs) G0g
theorem joh:OpR X (compareOp .Lt) (rI0 fun i j=> .bl (decide (i<j))):=jof fun _ _ _ _ _ _ _ q=>lt_int q
theorem joi:OpR X (compareOp .LtE) (rI0 fun i j=> .bl (decide (i≤j))):=jof fun _ _ _ _ _ _ _ q=>le_int q
theorem joj:OpR X (compareOp .GtE) (rI0 fun i j=> .bl (decide (j≤i))):=jof fun _ _ _ _ _ _ _ q=>ge_int q
theorem OpR.or {f:Value→Value→Sem Value} {r r' :R2} (h:OpR X f r) (h' :OpR X f r'):OpR X f (fun x y H Q=>r x y H Q∨r' x y H Q):=by
 intro pins s σ H x y v u Q I rx ry q
 rcases q with q|q
 ·exact h pins s σ H x y v u Q I rx ry q
 ·exact h' pins s σ H x y v u Q I rx ry q
theorem jaC (b:Expr) {op:CmpOp} (h:op≠ .In:=by decide) (h2:op≠ .NotIn:=by decide):behindInMarks op b=false:=by
 have e1:(op==CmpOp.In)=false:=by cases op<;>first|rfl|exact absurd rfl h
 have e2:(op==CmpOp.NotIn)=false:=by cases op<;>first|rfl|exact absurd rfl h2
 cases b<;>simp [behindInMarks,e1,e2]
theorem jk4 {op:CmpOp} {r:R2} (ho:OpR X (compareOp op) r) (ha:PE X a ta) (hb:PE X b tb) (hm:behindInMarks op b=false):PE X (.Compare a [op] [b] pos) (tOp r ta tb):=by
 intro pins s σ H Q I h
 exact wpAny_Compare1 (joc ha hb I h fun v u s2 x y H2 I2 rx ry q=>ho pins s2 σ H2 x y v u Q I2 rx ry q) hm
def jk5 (t:TE):TT:=fun σ H Q=>t σ H fun x H' => ∃k,x= .bl k∧Q k H'
theorem jk6 {op:CmpOp} {r:R2} (ho:OpR X (compareOp op) r) (ha:PE X a ta) (hb:PE X b tb) (hm:behindInMarks op b=false):PT X (.Compare a [op] [b] pos) (jk5 (tOp r ta tb)):=by
 intro pins s σ H Q I h
 refine wpAny_isTrue_Compare1 (thn (ha pins s σ H _ I h) fun v s1 ⟨x,H1,I1,r1,q1⟩=>thn (hb pins s1 σ H1 _ I1 q1) fun u s2 ⟨y,H2,I2,r2,q2⟩=>
  thn (ho pins s2 σ H2 x y v u _ I2 r1 r2 q2) fun c s3 ⟨z,H3,I3,r3,k,e,q3⟩=> ?_) hm
 subst e
 cases r3
 exact G08 ⟨H3,I3,q3⟩
def jh7 (r r' :R2) (ta tb tc:TE):TE:=fun σ H Q=>ta σ H fun x H1=>tb σ H1 fun y H2=>r x y H2 fun z H3=> ∃k,z= .bl k∧
 (if k=true then tc σ H3 fun w' H4=>r' y w' H4 Q else Q (.bl false) H3)
theorem jjy {op op' :CmpOp} {r r' :R2} (ho:OpR X (compareOp op) r) (ho' :OpR X (compareOp op') r') (ha:PE X a ta) (hb:PE X b tb) (hc:PE X c tc)
 (hm:lastMarks [op,op'] [b,c]=false:=by with_unfolding_all rfl):PE X (.Compare a [op,op'] [b,c] pos) (jh7 r r' ta tb tc):=by
 intro pins s σ H Q I h
 refine Compare_chain (thn (ha pins s σ H _ I h) fun v s1 ⟨x,H1,I1,r1,q1⟩=>chain_link (thn (hb pins s1 σ H1 _ I1 q1) fun u s2 ⟨y,H2,I2,r2,q2⟩=>
  thn (ho pins s2 σ H2 x y v u _ I2 r1 r2 q2) fun d s3 ⟨z,H3,I3,r3,k,e,q3⟩=> ?_)) hm
 subst e
 cases r3
 refine G08 ?_
 cases k with
 |false=>exact ite_ff ⟨.bl false,H3,I3,rfl,q3⟩
 |true=>exact ite_tt (chain_last (thn (hc pins s3 σ H3 _ I3 q3) fun w' s4 ⟨z',H4,I4,r4,q4⟩=>ho' pins s4 σ H4 y z' u w' Q I4 r2 r4 q4))
theorem jjz {op op' :CmpOp} {r r' :R2} (ho:OpR X (compareOp op) r) (ho' :OpR X (compareOp op') r') (ha:PE X a ta) (hb:PE X b tb) (hc:PE X c tc)
 (hm:lastMarks [op,op'] [b,c]=false:=by with_unfolding_all rfl):PT X (.Compare a [op,op'] [b,c] pos) (jk5 (jh7 r r' ta tb tc)):=by
 intro pins s σ H Q I h
 refine isTrue_chain (thn (ha pins s σ H _ I h) fun v s1 ⟨x,H1,I1,r1,q1⟩=>test_link (thn (hb pins s1 σ H1 _ I1 q1) fun u s2 ⟨y,H2,I2,r2,q2⟩=>
  thn (ho pins s2 σ H2 x y v u _ I2 r1 r2 q2) fun d s3 ⟨z,H3,I3,r3,k,e,q3⟩=> ?_)) hm
 subst e
 cases r3
 refine G08 ?_
 cases k with
 |false=>
  obtain⟨k',e',q'⟩:=q3
  cases e'
  exact ite_ff ⟨H3,I3,q'⟩
 |true=>
  refine ite_tt (test_last (thn (hc pins s3 σ H3 _ I3 q3) fun w' s4 ⟨z',H4,I4,r4,q4⟩=>thn (ho' pins s4 σ H4 y z' u w' _ I4 r2 r4 q4) fun d' s5 ⟨z2,H5,I5,r5,k2,e2,q5⟩=> ?_))
  subst e2
  cases r5
  exact G08 ⟨H5,I5,q5⟩
theorem jfJ:(sizeLine:Nat)<2^63:=by rw [sizeLine_eq];decide
theorem jde {x:V} {us:List Value} (r:Vals [x] us): ∃u,us= [u]∧RelV x u:=by
 cases r with
 |cons r1 r2=>cases r2;exact⟨_,rfl,r1⟩
theorem jjA {x y:V} {us:List Value} (r:Vals [x,y] us): ∃u w',us= [u,w']∧RelV x u∧RelV y w' :=by
 cases r with
 |cons r1 r2=>
  cases r2 with
  |cons r3 r4=>cases r4;exact⟨_,_,rfl,r1,r3⟩
theorem jh8 (hc:X.calm=true):CallR X (.builtin "max") (fun xs H Q=> ∃i j,xs= [.int i,.int j]∧Q (.int (if j>i then j else i)) H):=by
 intro pins s σ H xs us Q I r h
 obtain⟨i,j,rfl,q⟩:=h
 obtain⟨u,w',rfl,⟨t,rfl⟩,⟨t',rfl⟩⟩:=jjA r
 refine max_two_ints (I.ok.hd hc) fun h' tk k=>⟨_,H,I.kept k,?_,q⟩
 by_cases hj:j>i
 ·rw [if_pos hj,if_pos hj];exact⟨_,rfl⟩
 ·rw [if_neg hj,if_neg hj];exact⟨_,rfl⟩
theorem call_int1:CallR X (.type "int") (fun xs H Q=>(∃i,xs= [.int i]∧Q (.int i) H)∨ ∃k,xs= [.bl k]∧Q (.int (if k then 1 else 0)) H):=by
 intro pins s σ H xs us Q I r h
 rcases h with ⟨i,rfl,q⟩|⟨k,rfl,q⟩
 ·obtain⟨u,rfl,t,rfl⟩:=jde r
  exact call_int_int ⟨.int i,H,I,⟨_,rfl⟩,q⟩
 ·obtain⟨u,rfl,r1⟩:=jde r
  cases r1
  exact call_int_bool ⟨.int (if k then 1 else 0),H,I.tok _,⟨_,rfl⟩,q⟩
end
structure ObjM (h:Heap) (x dx C:Addr) (mA:Str→Option Value):Prop where
 obj:h.get? x=some (PySem.W.instObj C dx)
 ns:h.Ns1 dx mA
 ne:dx≠x
theorem jh9 {h:Heap} {dx:Addr} {mA:Str→Option Value} (n:h.Ns1 dx mA): ∃od,h.get? dx=some od∧ ∀name,PySem.W.lookIn name od=some (mA name):=by
 obtain⟨o,es,ep,ho,hd,hk,_,hm⟩:=n
 refine⟨o,ho,fun name=> ?_⟩
 have e:=hm name
 unfold nsFind findBy at e
 rw [←Array.find?_toList] at e
 unfold PySem.W.lookIn
 rw [hd]
 dsimp only
 split
 ·rename_i y q
  rw [q] at e
  exact congrArg some e
 ·rename_i q
  rw [q] at e
  have a:es.toList.any (·.refKey)=false:=by
   rw [List.any_eq_false]
   intro y hy
   obtain⟨z,t,hkey⟩:=hk y (Array.mem_toList_iff.mp hy)
   simp [DictEntry.refKey,hkey]
  have a' : ¬es.toList.any (·.refKey)=true:=by rw [a];exact G0g
  rw [if_neg a']
  exact congrArg some e
theorem ObjM.look {h:Heap} {x dx C:Addr} {mA:Str→Option Value} (I:ObjM h x dx C mA): ∃od,PySem.W.InstAt h x (PySem.W.instObj C dx) C (some od)∧ ∀name,PySem.W.lookIn name od=some (mA name):=
 let ⟨od,ho,hl⟩:=jh9 I.ns
 ⟨od,⟨I.obj,rfl,rfl,ho⟩,hl⟩
section
variable {P:Program} {w:World} {H H' :Hp} {h h' :Heap} {a C dx:Addr} {fs fs' :List (Str×V)}
theorem jk7 (hok:HOk P w H h) (e:H a=some (.ins C dx fs)): ∃mA,ObjM h a dx C mA∧(∀f,jn6 (fs.lookup f) (mA f))∧PySem.Within mA (fs.map (·.1))∧fs.length≤1000∧H dx=some (.own a):=by
 obtain⟨d,z,ne,ob,mA,n,r,q⟩:=(show ObjOk P w H h a (.ins C dx fs) from hok a _ e)
 exact⟨mA,⟨ob,n,ne⟩,r,q,z,d⟩
end
structure Cls (K:PySem.W.Frag) (C:Addr):Prop where
 pg:PySem.W.plainGet K C Str.empty=true
 hd:PySem.W.hasDictIn K C=true
 po:PySem.W.plainOver K C=true
 sa:PySem.W.findIn K (.ref C) "__setattr__" =some (some (.builtin "object.__setattr__"))
theorem Cls.get {K:PySem.W.Frag} {C:Addr} (c:Cls K C) (f:Str):PySem.W.plainGet K C f=true:=c.pg
structure Con (K:PySem.W.Frag) (C:Addr) (f:Str) (v:V) (u:Value):Prop where
 at_:PySem.W.findIn K (.ref C) f=some (some u)
 rel:RelV v u
 get:PySem.W.specialIn K u "__get__" =some none
 cp:PySem.W.copiedNames.contains f=false
structure Meth (K:PySem.W.Frag) (C:Addr) (m:Str) (f:Addr):Prop where
 at_:PySem.W.findIn K (.ref C) m=some (some (.ref f))
 fn:PySem.W.isFn K (.ref f)=true
 kp:PySem.W.keepIn K (.ref f)=true
section
variable {X:Cx} {pins:List (Addr×Obj)} {σ:St} {H:Hp} {s:Shared} {A:Around} {E:Value→Shared→Prop} {Q:Value→Shared→Prop} {c:Value} {b:Bool}
inductive TyOf (K:PySem.W.Frag) (H:Hp):V→Value→Prop where
 |non:TyOf K H .non (.type "NoneType")
 |bl (x:Bool):TyOf K H (.bl x) (.type "bool")
 |int (i:Int):TyOf K H (.int i) (.type "int")
 |str (x:Str):TyOf K H (.str x) (.type "str")
 |flt (x:UInt64):TyOf K H (.flt x) (.type "float")
 |lst {a:Addr} {xs:List V} (e:H a=some (.lst xs)):TyOf K H (.ref a) (.type "list")
 |frz {a:Addr} {o:Obj} {xs:List V} (e:H a=some (.frz o (.lst xs))):TyOf K H (.ref a) (.type "list")
 |tup {a:Addr} {xs:List V} (e:H a=some (.tup xs)):TyOf K H (.ref a) (.type "tuple")
 |dK {a:Addr} {kvs:List (Key×V)} (e:H a=some (.dK kvs)):TyOf K H (.ref a) (.type "dict")
 |dT {a:Addr} {kvs:List (List Key×V)} (e:H a=some (.dT kvs)):TyOf K H (.ref a) (.type "dict")
 |ins {a C dx:Addr} {fs:List (Str×V)} (e:H a=some (.ins C dx fs)) (cl:Cls K C) (ha:PySem.W.findIn K (.ref C) "__class__" =some (some (.builtin "object.__class__")))
  (hn:PySem.W.specialIn K (.builtin "object.__class__") "__get__" =some (some (.builtin "getset_descriptor.__get__"))) (htk:PySem.W.takesIn K (.builtin "object.__class__")=some true)
  (hm:PySem.W.mroIn K C (.type "object")=some true):TyOf K H (.ref a) (.ref C)
theorem jia {x:V} {u t:Value} (I:Inv X pins σ H s) (rx:RelV x u) (ty:TyOf X.K H x t) (e:PySem.W.kitOne X.K t c=some b) (h: ∀tk,Q (.bool b) {s with toks:=tk}):
 wpAny (model X.prog X.w) A (call (.builtin "isinstance") [u,c]) Q E s:=by
 cases ty with
 |non=>cases (show u=Value.none from rx);exact G02 PySem.W.kitx_none I.kIn True.intro e (fun z=>nomatch z) h
 |bl y=>cases (show u=Value.bool y from rx);exact G02 PySem.W.kitx_bool I.kIn True.intro e (fun z=>nomatch z) h
 |int i=>obtain⟨t,q⟩:=(show ∃t,u=Value.int i t from rx);cases q;exact G02 PySem.W.kitx_int I.kIn True.intro e (fun z=>nomatch z) h
 |str y=>obtain⟨t,q⟩:=(show ∃t,u=Value.str y t from rx);cases q;exact G02 PySem.W.kitx_str I.kIn True.intro e (fun z=>nomatch z) h
 |flt y=>obtain⟨t,q⟩:=(show ∃t,u=Value.float y t from rx);cases q;exact G02 PySem.W.kitx_float I.kIn True.intro e (fun z=>nomatch z) h
 | @lst a xs ea=>
  cases (show u=Value.ref a from rx)
  obtain⟨_,_,n,_,h1⟩:=(show ObjOk X.prog X.w H s.heap a (.lst xs) from I.hok a _ ea)
  exact G02 PySem.W.kitx_list I.kIn ⟨_,h1,rfl⟩ e (fun z=>nomatch z) h
 | @frz a ob xs ea=>
  cases (show u=Value.ref a from rx)
  obtain⟨_,_,_,n,_,h1⟩:=(show ObjOk X.prog X.w H s.heap a (.frz ob (.lst xs)) from I.hok a _ ea)
  exact G02 PySem.W.kitx_list I.kIn ⟨_,h1,rfl⟩ e (fun z=>nomatch z) h
 | @tup a xs ea=>
  cases (show u=Value.ref a from rx)
  obtain⟨_,_,_,p⟩:=(show ObjOk X.prog X.w H s.heap a (.tup xs) from I.hok a _ ea)
  obtain⟨o,h1,h2,_⟩:=p
  exact G02 PySem.W.kitx_tuple I.kIn ⟨o,h1,h2⟩ e (fun z=>nomatch z) h
 | @dK a kvs ea=>
  cases (show u=Value.ref a from rx)
  obtain⟨_,_,vs,_,p⟩:=(show ObjOk X.prog X.w H s.heap a (.dK kvs) from I.hok a _ ea)
  obtain⟨o,es,ep,h1,h2,_⟩:=p
  exact G02 PySem.W.kitx_dict I.kIn ⟨o,h1,h2.1⟩ e (fun z=>nomatch z) h
 | @dT a kvs ea=>
  cases (show u=Value.ref a from rx)
  obtain⟨_,_,xs,_,o,es,ep,h1,h2,_⟩:=(show ObjOk X.prog X.w H s.heap a (.dT kvs) from I.hok a _ ea)
  exact G02 PySem.W.kitx_dict I.kIn ⟨o,h1,h2.1⟩ e (fun z=>nomatch z) h
 | @ins a C dx fs ea cl ha hn htk hm=>
  cases (show u=Value.ref a from rx)
  obtain⟨mA,O,_⟩:=jk7 I.hok ea
  obtain⟨od,J,_⟩:=O.look
  exact G02 (PySem.W.kitx_own (cl.get _) cl.hd ha hn htk hm) I.kIn J e (fun z=>nomatch z) h
end
structure Room (k:Nat) (A:Around):Prop where
 hd:A.handled=none
 dp:A.depth+3*k+5<recursionLimit
 un:A.units+16*k+200<cLine
 gd:A.guards=some []
theorem Room.deeper {k:Nat} {A:Around} (r:Room (k+1) A) (env:Env):Room k (A.deeper env):=
 ⟨r.hd,by have:=r.dp;show A.depth+1+3*k+5<_;omega,by have:=r.un;show A.units+3+16*k+200<_;omega,r.gd⟩
theorem Room.depth {k:Nat} {A:Around} (r:Room k A):A.depth<recursionLimit:=by have:=r.dp;omega
theorem Room.units {k:Nat} {A:Around} (r:Room k A):A.units+64<cLine:=by have:=r.un;omega
def jo7:TA:=fun _ H Q=>Q [] H
def jmN (ta:TE) (tr:TA):TA:=fun σ H Q=>ta σ H fun x H1=>tr σ H1 fun xs H2=>Q (x::xs) H2
section
variable {X:Cx} {e:Expr} {es:List Expr} {te:TE} {t:TA} {pos:Pos}
theorem pa_nil:PA X [] jo7:=fun _ _ _ _ H Q I h=>Calls.spliced_nil ⟨[],H,I,.nil,h⟩
theorem jck (ha:PE X e te) (hr:PA X es t) (hs:starEach (e::es) X.env=(false,eval e X.env)::starEach es X.env:=by rfl):PA X (e::es) (jmN te t):=by
 intro pos pins s σ H Q I h
 rw [hs]
 show wpAny _ _ (spliced ((false,eval e X.env)::backTo pos (starEach es X.env))) _ _ s
 refine Calls.spliced_cons (thn (ha pins s σ H _ I h) fun u s1 ⟨x,H1,I1,r1,q1⟩=> ?_)
 exact thn (hr pos pins s1 σ H1 _ I1 q1) fun us s2 ⟨xs,H2,I2,r2,q2⟩=>⟨x::xs,H2,I2,.cons r1 r2,q2⟩
def jo8 (t:TA):TE:=fun σ H Q=>t σ H fun xs H1=>xs.length≤sizeLine∧ ∀p,H1 p=none→Q (.ref p) (upd H1 p (.tup xs))
def jo9 (t:TA):TE:=fun σ H Q=>t σ H fun xs H1=>xs.length≤sizeLine∧ ∀p,H1 p=none→Q (.ref p) (upd H1 p (.lst xs))
theorem jmO {x1} (h:PA X es t):PE X (.Tuple es x1 pos) (jo8 t):=by
 intro pins s σ H Q I hq
 refine wpAny_Tuple_spliced (thn (h pos pins s σ H _ I hq) fun us s1 ⟨xs,H1,I1,r,z,q⟩=>⟨by rw [←r.length];exact z,?_⟩)
 have hf:H1 s1.heap.objs.size=none:=I1.hok.fresh (G0d _)
 refine⟨.ref s1.heap.objs.size,upd H1 s1.heap.objs.size (.tup xs),I1.laid (t' :=s1.toks) (fun b u e=>G0b _ e) (G0d _) ?_,rfl,q _ hf⟩
 exact⟨z,us,r,IsTupN.new _ _⟩
theorem jmP (h:PA X es t):PE X (.List es pos) (jo9 t):=by
 intro pins s σ H Q I hq
 refine wpAny_List_spliced (thn (h pos pins s σ H _ I hq) fun us s1 ⟨xs,H1,I1,r,z,q⟩=>⟨by rw [←r.length];exact z,?_⟩)
 have hf:H1 s1.heap.objs.size=none:=I1.hok.fresh (G0d _)
 refine⟨.ref s1.heap.objs.size,upd H1 s1.heap.objs.size (.lst xs),I1.laid (t' :=s1.toks) (fun b u e=>G0b _ e) (G0d _) ?_,rfl,q _ hf⟩
 exact⟨z,us,0,r,G0m _ rfl⟩
end
abbrev Sp:=List V→Hp→VK→XK→Prop
abbrev CXT:=List Env→Hp→Shared→XK→Value→Shared→Prop
structure Env0 (P:Program) (w:World) (K:PySem.W.Frag) (mg:Str→Option Value) (base:Heap) (A:Around) (outer:List Env) (s:Shared) (H:Hp):Prop where
 frames:A.frames=some outer
 mod:Mod K mg base
 bs: ∀b o,base.get? b=some o→s.heap.get? b=some o∧H b=none
 bsz:base.objs.size≤s.heap.objs.size
 funs:s.heap.FunFrames base outer
 frf: ∀b∈frs outer,H b=none
 hok:HOk P w H s.heap
 bare:AllBare s.gens
def CE (outer:List Env) (P:Program) (w:World) (H:Hp) (s:Shared) (Q:VK) (u:Value) (s' :Shared):Prop:=
 ∃v H',s'.os=s.os∧AllBare s'.gens∧Un (frs outer) [] H H' s.heap s'.heap∧HOk P w H' s'.heap∧RelV v u∧Q v H'
def CR (CX:CXT) (outer:List Env) (P:Program) (w:World) (H:Hp) (s:Shared) (Q:VK) (E:XK) (r:Result) (s' :Shared):Prop:=
 match r with
 | .ok (.ret u)=>CE outer P w H s Q u s'
 | .ok _=>False
 | .error e=>CX outer H s E e s'
structure FnOk (P:Program) (w:World) (K:PySem.W.Frag) (mg:Str→Option Value) (base:Heap) (CX:CXT) (k:Nat) (f:Addr) (fd:FuncData) (ps:List Str) (sp:Sp):Prop where
 len: ∀vs H Q E,sp vs H Q E→vs.length=ps.length
 run: ∀ (A:Around) (outer:List Env) (s:Shared) (H:Hp) (args:Args) (us:List Value) (vs:List V) (Q:VK) (E:XK),Room k A→Env0 P w K mg base A outer s H→BindsTo s fd args (ps.zip us)→Vals vs us→sp vs H Q E→
  codeAny (model P w) A (.call (.ref f) args) (CR CX outer P w H s Q E) s
section
variable {X:Cx} {pins:List (Addr×Obj)} {σ:St} {H:Hp} {s s' :Shared}
theorem Inv.env0 (I:Inv X pins σ H s):Env0 X.prog X.w X.K X.mg X.base X.A X.stack s H:=
 ⟨I.ok.frames,I.ok.mod,I.bs,G0T I.ok.bsz I.sz,I.stack,I.stkFree,I.hok,I.bare⟩
theorem Inv.after {Q:VK} {u:Value} (I:Inv X pins σ H s) (h:CE X.stack X.prog X.w H s Q u s'):EP X pins σ Q u s' :=by
 obtain⟨v,H',os,bare,un,hok,r,q⟩:=h
 obtain⟨hh,g,d,t,os'⟩:=s'
 obtain rfl:os' =s.os:=os
 exact⟨v,H',I.call (h' :=hh) (g' :=g) (d' :=d) (t' :=t) (ch:= []) un hok bare (fun b z=>absurd z (by simp)),r,q⟩
end
def jmQ (sp:Sp) (dvs:List V) (E:XK) (t:TA):TE:=fun σ H Q=>t σ H fun vs H1=>sp (vs++dvs) H1 Q E
def Binds (K:PySem.W.Frag) (fd:FuncData) (ps:List Str) (ds:List Value):Prop:=
 ∀ (s:Shared) (us:List Value),K.In s.heap→(us++ds).length=ps.length→BindsTo s fd ⟨us,[]⟩ (ps.zip (us++ds))
theorem Binds.all {K:PySem.W.Frag} {fd:FuncData} {ps:List Str} (h: ∀us:List Value,us.length=ps.length→bindArgs fd ⟨us,[]⟩=pure (ps.zip us)):Binds K fd ps []:=fun s us _ hl=>by
 rw [G24] at hl ⊢
 exact .of_eq (h us hl)
def jib (CX:CXT) (X:Cx) (E:XK):Prop:= ∀ (pins:List (Addr×Obj)) (σ:St) (H:Hp) (s:Shared) (e:Value) (s' :Shared),Inv X pins σ H s→CX X.stack H s E e s' →X.xe e s'
section
variable {X:Cx} {CX:CXT} {k:Nat} {f C:Addr} {fd:FuncData} {ps:List Str} {sp:Sp} {dvs:List V} {ds:List Value} {E:XK} {x m:Str} {p pos apos:Pos} {e o:Expr} {es:List Expr} {ta:TE} {t:TA}
theorem jmR {pins:List (Addr×Obj)} {σ:St} {H:Hp} {s:Shared} {Q:VK} {us:List Value} {vs:List V} (F:FnOk X.prog X.w X.K X.mg X.base CX k f fd ps sp) (hr:Room k X.A) (hb:Binds X.K fd ps ds) (hd:Vals dvs ds) (hx:jib CX X E)
 (I:Inv X pins σ H s) (r:Vals vs us) (h:sp (vs++dvs) H Q E):wpAny (model X.prog X.w) X.A (call (.ref f) us) (EP X pins σ Q) X.xe s:=by
 have r2:Vals (vs++dvs) (us++ds):=r.append hd
 have hl:(us++ds).length=ps.length:=by rw [←r2.length];exact F.len _ _ _ _ h
 refine G3d (codeAny_mono (F.run X.A X.stack s H ⟨us,[]⟩ (us++ds) (vs++dvs) Q E hr I.env0 (hb s us I.kIn hl) r2 h) fun r s' hq=> ?_)
 cases r with
 |error e=>exact hx pins σ H s e s' I hq
 |ok fl=>
  cases fl with
  |ret u=>exact I.after hq
  |next=>exact False.elim hq
  |brk=>exact False.elim hq
  |cont=>exact False.elim hq
theorem jk8 (F:FnOk X.prog X.w X.K X.mg X.base CX k f fd ps sp) (hr:Room k X.A) (hg:Gl X x) (hm:X.mg x=some (.ref f)) (hk:PySem.W.keepIn X.K (.ref f)=true) (hb:Binds X.K fd ps ds) (hd:Vals dvs ds) (hx:jib CX X E)
 (ha:PA X (e::es) t) (hdb:(x==("__debug__" :Str))=false:=by decide) (he:starEach (e::es) X.env=(false,eval e X.env)::starEach es X.env:=by rfl) (hpl:(backTo pos (starEach es X.env)).any (·.1)=false:=by rfl):
 PE X (.Call (.Name x p) (e::es) [] pos) (jmQ sp dvs E t):=by
 intro pins s σ H Q I h
 refine G2J (jh0 I hg hm ?_ hdb)
 refine PySem.W.callWith_K (h₀:=X.base) I.ok.mod.kin hk (thn (ha pos pins s σ H _ I h) fun us s1 ⟨vs,H1,I1,r,q⟩=>⟨I1.kIn,?_⟩) he hpl
 exact jmR F hr hb hd hx I1 r q
structure Mk (K:PySem.W.Frag) (C f:Addr):Prop where
 makes:PySem.W.makesIn K C=true
 init:PySem.W.findIn K (.ref C) "__init__" =some (some (.ref f))
 fn:PySem.W.isFn K (.ref f)=true
 kp:PySem.W.keepIn K (.ref C)=true
end
section
variable {X:Cx} {CX:CXT} {k:Nat} {f C:Addr} {fd:FuncData} {ps ks:List Str} {sp:Sp} {E:XK} {x m:Str} {p pos apos kpos:Pos} {e o:Expr} {es:List Expr} {kws:List Keyword} {te ta:TE} {t tk:TA} {nm:Option Str}
structure KBinds (K:PySem.W.Frag) (fd:FuncData) (ps ks:List Str) (g:List Value→List Value→List Value) (gV:List V→List V→List V):Prop where
 to: ∀ (s:Shared) (us ws:List Value),K.In s.heap→(g us ws).length=ps.length→BindsTo s fd ⟨us,ks.zip ws⟩ (ps.zip (g us ws))
 rel: ∀ {vs:List V} {us:List Value} {zs:List V} {ws:List Value},Vals vs us→Vals zs ws→Vals (gV vs zs) (g us ws)
variable {g:List Value→List Value→List Value} {gV:List V→List V→List V}
end
structure FnScope (N P:List Str) (sc:Scope):Prop where
 kind:sc.kind= .function
 co:sc.isCoroutine=false
 gen:sc.isGenerator=false
 nd:N.Nodup
 pre:N.take P.length=P
 par: ∀x∈P,sc.names.lookup x=some .local∨sc.names.lookup x=some .cell
 nofree: ∀y∈sc.names,y.2≠ .free
theorem jfK {kindOf:Str→Option NameKind} {x:Str}: ∀ {binds:List (Str×Value)} {m:Str→Option Value},(∀v,(x,v) ∉ binds)→bindL kindOf binds m x=m x
 | [],_,_=>rfl
 |(n,v)::r,m,h=>by
  unfold bindL
  rw [jfK fun w hw=>h w (G0y _ hw)]
  split
  ·have:x≠n:=by rintro rfl;exact h v G0D
   simp [this]
  ·rfl
theorem jfL {kindOf:Str→Option NameKind} {x:Str}: ∀ {binds:List (Str×Value)} {m:Str→Option Value},(∀v,(x,v) ∉ binds)→bindC kindOf binds m x=m x
 | [],_,_=>rfl
 |(n,v)::r,m,h=>by
  unfold bindC
  rw [jfL fun w hw=>h w (G0y _ hw)]
  split
  ·rfl
  ·have:x≠n:=by rintro rfl;exact h v G0D
   simp [this]
theorem jfM {kindOf:Str→Option NameKind} {x:Str} {v:Value}: ∀ {P:List Str} {vs:List Value} {i:Nat} {m:Str→Option Value},P.Nodup→P[i]? =some x→vs[i]? =some v→kindOf x=some .local→
 bindL kindOf (P.zip vs) m x=some v
 | [],_,_,_,_,h,_,_=>by simp at h
 |_::_,[],_,_,_,_,h,_=>by simp at h
 |p::P,w::vs,0,m,nd,h1,h2,hk=>by
  simp at h1 h2;subst h1;subst h2
  show bindL kindOf ((p,w)::P.zip vs) m p=_
  unfold bindL
  rw [jfK fun v hv=>(G03.mp nd).1 (G17 hv).1,if_pos hk]
  simp
 |p::P,w::vs,i+1,m,nd,h1,h2,hk=>by
  show bindL kindOf ((p,w)::P.zip vs) m x=_
  unfold bindL
  exact jfM (i:=i) (G03.mp nd).2 (by simpa using h1) (by simpa using h2) hk
theorem jfN {kindOf:Str→Option NameKind} {x:Str} {v:Value}: ∀ {P:List Str} {vs:List Value} {i:Nat} {m:Str→Option Value},P.Nodup→P[i]? =some x→vs[i]? =some v→kindOf x≠some .local→
 bindC kindOf (P.zip vs) m x=some v
 | [],_,_,_,_,h,_,_=>by simp at h
 |_::_,[],_,_,_,_,h,_=>by simp at h
 |p::P,w::vs,0,m,nd,h1,h2,hk=>by
  simp at h1 h2;subst h1;subst h2
  show bindC kindOf ((p,w)::P.zip vs) m p=_
  unfold bindC
  rw [jfL fun v hv=>(G03.mp nd).1 (G17 hv).1,if_neg hk]
  simp
 |p::P,w::vs,i+1,m,nd,h1,h2,hk=>by
  show bindC kindOf ((p,w)::P.zip vs) m x=_
  unfold bindC
  exact jfN (i:=i) (G03.mp nd).2 (by simpa using h1) (by simpa using h2) hk
def jdN (N:List Str) (vs:List V):St:=vs.map some++List.replicate (N.length-vs.length) none
def jkw (CX:CXT) (P:Program) (w:World) (K:PySem.W.Frag) (mg:Str→Option Value) (base:Heap) (N:List Str) (qual:Str) (scope:Scope) (f:Addr) (cd:Value) (A:Around) (outer:List Env) (s:Shared) (H:Hp) (E:XK):Cx where
 prog:=P
 w:=w
 K:=K
 mg:=mg
 base:=base
 A:=A.deeper (envOfC qual scope s.heap.objs.size f cd)
 N:=N
 s₀:=s
 H₀:=H
 env:=envOfC qual scope s.heap.objs.size f cd
 outer:=outer
 stack:=envOfC qual scope s.heap.objs.size f cd::outer
 ex:= []
 calm:=true
 fn:=fun _=>true
 pn:= []
 xe:=fun e s' =>wpAny (model P w) (A.deeper (envOfC qual scope s.heap.objs.size f cd)) (leaving (envOfC qual scope s.heap.objs.size f cd) e) (fun _ s'' =>CX outer H s E e s'') (fun e' s'' =>CX outer H s E e' s'') s'
theorem jdG {sc:Scope} {n:Nat} {x:Str} (h:sc.names.lookup x=some .cell): ∃c,(cellsFrom n sc.names []).lookup x=some c:=by
 have q:=G22 sc.names n [] (.inl h)
 exact G2O.mp q
theorem jic {CX:CXT} {P:Program} {w:World} {K:PySem.W.Frag} {mg:Str→Option Value} {base:Heap} {N ps:List Str} {qual:Str} {scope:Scope} {f:Addr} {cd:Value} {A:Around} {outer:List Env} {s s1:Shared} {H:Hp} {E:XK} {us:List Value} {vs:List V}
 (S:FnScope N ps scope) (hd:A.handled=none) (e0:Env0 P w K mg base A outer s H) (hl:vs.length=ps.length) (r:Vals vs us)
 (x:InCallC s s.heap.objs.size (bindL (envOfC qual scope s.heap.objs.size f cd).kindOf (ps.zip us) fun _=>none) (cellsFrom (s.heap.objs.size+1) scope.names []) (bindC (envOfC qual scope s.heap.objs.size f cd).kindOf (ps.zip us) fun _=>none) s1):
 Inv (jkw CX P w K mg base N qual scope f cd A outer s H E) [] (jdN N vs) H s1:=by
 have hpl:ps.length≤N.length:=by have:=congrArg List.length S.pre;rw [G05] at this;omega
 obtain⟨h1,tk,rfl,hk⟩:=x.done
 have noA: ∀b:Addr,b ∉ (jkw CX P w K mg base N qual scope f cd A outer s H E).ex:=fun b z=>absurd (show b∈([]:List Addr) from z) (by simp)
 refine⟨⟨e0.mod,S.kind,rfl,rfl,G0d _,fun y z c h1 h2=> ?_,fun y hy=> ?_,fun y c _ h=> ?_,fun _=>hd,Around.frames_deeper e0.frames,.inr ⟨rfl,rfl⟩,fun b z=>absurd z (noA b),e0.bs,e0.bsz,fun b _ _=>noA b,fun b z=>absurd z (noA b),e0.funs,e0.frf⟩,
  rfl,e0.bare,Un.kept hk,⟨_,x.toInCall.ns,fun i y v h1 h2 h3=> ?_⟩,fun y c h=>⟨_,x.cell y c h⟩,e0.hok.fresh (G0d _),fun y c h=> ?_,fun p hp=>absurd (show p∈([]:List (Addr×Obj)) from hp) (by simp),e0.hok.kept hk,?_⟩
 ·exact name_of_addr x.apart (G1L h1) (G1L h2)
 ·have hy:scope.names.lookup y=some .cell∨scope.names.lookup y=some .free:=hy
  rcases hy with hy|hy
  ·exact jdG hy
  ·exact absurd rfl (S.nofree _ (G1L hy))
 ·exact G0Y (x.above y c (G1L h))
 ·have hi:i<vs.length:=by
   unfold jdN at h2
   by_cases hi:i<vs.length
   ·exact hi
   ·rw [G1Y (by simpa using hi)] at h2
    rw [G2V] at h2
    split at h2<;>cases h2
  have ha:vs[i]? =some v:=by
   unfold jdN at h2
   rw [G1C (by simpa using hi),G0o] at h2
   cases e:vs[i]? with
   |none=>rw [e] at h2;cases h2
   |some a=>rw [e] at h2;cases h2;rfl
  obtain⟨u,hu,rv⟩:=r.get ha
  have hp:ps[i]? =some y:=by
   rw [←S.pre,List.getElem?_take_of_lt (by omega)];exact h1
  have ndP:ps.Nodup:=by rw [←S.pre];exact S.nd.sublist (List.take_sublist _ _)
  refine⟨u,rv,?_⟩
  rcases S.par y (G0X hp) with k|k
  ·exact .inl ⟨k,jfM ndP hp hu k⟩
  ·obtain⟨c,e⟩:=jdG (n:=s.heap.objs.size+1) k
   refine .inr ⟨.inl k,c,e,?_⟩
   have q:=x.cell y c e
   rw [jfN ndP hp hu (by show scope.names.lookup y≠_;rw [k];decide)] at q
   exact q
 ·exact e0.hok.fresh (G0Y (x.above y c (G1L h)))
 ·unfold jdN
  show _=N.length
  rw [G1d,G0a,List.length_replicate]
  omega
theorem jok {CX:CXT} {P:Program} {w:World} {K:PySem.W.Frag} {mg:Str→Option Value} {base:Heap} {k:Nat} {f:Addr} {name qual:Str} {params:Arguments} {body:List Stmt} {scope:Scope} {dV kV doc pm cdv ct oc:Value} {an od:Option Addr}
 {osl:Array (Option Value)} {N ps:List Str} {sp:Sp} (lk:K.lookup f=some ⟨oc,od,.func (PySem.W.fnOf name qual params body scope dV kV doc pm an cdv ct),osl⟩) (hcd:PySem.W.codeIn K cdv qual=true) (S:FnScope N ps scope)
 (len: ∀vs H Q E,sp vs H Q E→vs.length=ps.length)
 (hbody: ∀ (A:Around) (outer:List Env) (s:Shared) (H:Hp) (vs:List V) (Q:VK) (E:XK),Room k (A.deeper (envOfC qual scope s.heap.objs.size f cdv))→sp vs H Q E→
  ∃t,PSs (jkw CX P w K mg base N qual scope f cdv A outer s H E) body t∧t {nx:=fun _ H' =>Q .non H',rt:=Q} (jdN N vs) H):
 FnOk P w K mg base CX (k+1) f (PySem.W.fnOf name qual params body scope dV kV doc pm an cdv ct) ps sp:=by
 refine⟨len,fun A outer s H args us vs Q E hr e0 hb r hsp=> ?_⟩
 have hl:=len _ _ _ _ hsp
 have KX:K.In s.heap:=e0.mod.kin.keeps fun b o e=>(e0.bs b o e).1
 have lim:s.heap.NoLimit:=e0.mod.nolimit.keeps fun b o e=>(e0.bs b o e).1
 have hkind: ∀y∈ps.zip us,scope.names.lookup y.1=some .local∨(scope.names.lookup y.1=some .cell∧((cellsFrom (s.heap.objs.size+1) scope.names []).lookup y.1).isSome=true):=fun ⟨n,v⟩ hy=>by
  rcases S.par n (G17 hy).1 with q|q
  ·exact .inl q
  ·exact .inr ⟨q,G22 _ _ _ (.inl q)⟩
 refine codeAny_call_function hr.depth (KX _ _ lk) rfl S.co S.gen rfl (PySem.W.codeRec_of KX hcd) (hb _ _ _ _ ?_)
 refine wpAny_newFunctionEnv_cells S.kind hkind fun env he s1 x=> ?_
 subst he
 refine⟨lim.keeps x.toInCall.keep,codeAny_func ?_⟩
 obtain⟨t,ht,hq⟩:=hbody A outer s H vs Q E (hr.deeper _) hsp
 have I:Inv (jkw CX P w K mg base N qual scope f cdv A outer s H E) [] (jdN N vs) H s1:=jic S hr.hd e0 hl r x
 refine G0U (ht [] s1 (jdN N vs) H _ I hq) (fun fl s' hs=> ?_) fun e s' hs=>hs
 have fin: ∀ {σ' :St} {H' :Hp} {v:V} {u:Value},Inv (jkw CX P w K mg base N qual scope f cdv A outer s H E) [] σ' H' s' →RelV v u→Q v H' →CE outer P w H s Q u s' :=
  fun {σ' H' v u} J rv q=>⟨v,H',J.os,J.bare,J.base,J.hok,rv,q⟩
 cases fl with
 |ret u=>
  obtain⟨v,σ',H',J,rv,q⟩:=hs
  exact fin J rv q
 |next=>
  obtain⟨σ',H',J,q⟩:=hs
  exact fin (v:=V.non) (u:=Value.none) J rfl q
 |brk=>
  obtain⟨_,_,_,q⟩:=hs
  exact False.elim q
 |cont=>
  obtain⟨_,_,_,q⟩:=hs
  exact False.elim q
section
variable {X:Cx} {x:Str} {p pos:Pos} {e:Expr} {es:List Expr} {t:TA} {id T:String} {r:List V→Hp→VK→Prop}
def tCB (r:List V→Hp→VK→Prop) (t:TA):TE:=fun σ H Q=>t σ H fun vs H1=>r vs H1 Q
theorem je0 (hc:CallR X (.builtin id) r) (hg:Gl X x) (hm:X.mg x=none) (hv:bootBuiltins x=some (.builtin id)) (ha:PA X (e::es) t) (hn:x≠ "__name__" :=by decide) (hdb:(x==("__debug__" :Str))=false:=by decide)
 (he:starEach (e::es) X.env=(false,eval e X.env)::starEach es X.env:=by rfl) (hpl:(backTo pos (starEach es X.env)).any (·.1)=false:=by rfl):PE X (.Call (.Name x p) (e::es) [] pos) (tCB r t):=by
 intro pins s σ H Q I h
 refine G2J (jez I hg hm hv ?_ hn hdb)
 exact PyProof.Rows.callWith_builtin1 (thn (ha pos pins s σ H _ I h) fun us s1 ⟨vs,H1,I1,r1,q1⟩=>hc pins s1 σ H1 vs us Q I1 r1 q1) he hpl
theorem jdO (hc:CallR X (.type T) r) (hg:Gl X x) (hm:X.mg x=none) (hv:bootBuiltins x=some (.type T)) (ha:PA X (e::es) t) (hn:x≠ "__name__" :=by decide) (hdb:(x==("__debug__" :Str))=false:=by decide)
 (he:starEach (e::es) X.env=(false,eval e X.env)::starEach es X.env:=by rfl) (hpl:(backTo pos (starEach es X.env)).any (·.1)=false:=by rfl):PE X (.Call (.Name x p) (e::es) [] pos) (tCB r t):=by
 intro pins s σ H Q I h
 refine G2J (jez I hg hm hv ?_ hn hdb)
 exact G1s (thn (ha pos pins s σ H _ I h) fun us s1 ⟨vs,H1,I1,r1,q1⟩=>hc pins s1 σ H1 vs us Q I1 r1 q1) he hpl
end
end L2
namespace HT
open PySem PyProof.Rows
section
variable {prog:Program} {w:World} {A:Around} {E:Value→Shared→Prop} {s:Shared}
theorem jk9 {t b:Addr} {vs ws:List Value} {Q:Value→Shared→Prop} (ht:IsTup s.heap t vs.toArray) (hb:IsTup s.heap b ws.toArray) (hv:vs≠ [])
 (h1:ws= []→Q (.ref t) s) (h2:ws≠ []→Q (.ref s.heap.objs.size) {s with heap:=s.heap.push {cls:= .type "tuple",data:= .seq (vs++ws).toArray}})
 (hsz:vs.length+ws.length≤sizeLine):wpAny (model prog w) A (binaryOp .Add (.ref t) (.ref b)) Q E s:=by
 obtain⟨⟨cls,dd,data,sl⟩,ho,hc,n,hd⟩:=id ht
 obtain⟨⟨cls2,dd2,data2,sl2⟩,ho2,hc2,n2,hd2⟩:=id hb
 simp only at hc hd hc2 hd2
 subst hc hd hc2 hd2
 have e:vs.toArray++ws.toArray=(vs++ws).toArray:=by simp
 by_cases hw:ws= []
 ·exact concat_meets ⟨_,ho,rfl⟩ ⟨_,ho2,rfl⟩ G2Y seq_tuple_add G2g G18 (G14 _ _)
   (tuple_addW1 t b vs.toArray ws.toArray n n2 dd dd2 sl sl2 (by simpa using hv) (by simp [hw])) ⟨ho,ho2,h1 hw⟩
 ·refine concat_meets ⟨_,ho,rfl⟩ ⟨_,ho2,rfl⟩ G2Y seq_tuple_add G2g G18 (G14 _ _)
   (tuple_addW2 t b vs.toArray ws.toArray n n2 dd dd2 sl sl2 (by simpa using hv) (by simpa using hw) (by rw [G0f,G0f];exact hsz)) ⟨ho,ho2,?_⟩
  rw [e]
  exact h2 hw
def sIx (n d:Nat):Option Int→Nat
 |none=>d
 |some v=>if v<0 then (v+(n:Int)).toNat else min v.toNat n
theorem jmS (n d:Nat) (hd:d≤n) (o:Option Int):sIx n d o≤n:=by
 cases o with
 |none=>exact hd
 |some v=>
  show (if v<0 then (v+(n:Int)).toNat else min v.toNat n)≤n
  by_cases hv:v<0
  ·rw [if_pos hv];omega
  ·rw [if_neg hv];exact G2Z _ _
theorem jid (v:Int) (n d:Nat):(if v<0 then max (v+(n:Int)) 0 else min v (n:Int))=((sIx n d (some v):Nat):Int):=by
 show (if v<0 then max (v+(n:Int)) 0 else min v (n:Int))=(((if v<0 then (v+(n:Int)).toNat else min v.toNat n):Nat):Int)
 by_cases hv:v<0
 ·simp only [if_pos hv];omega
 ·simp only [if_neg hv];omega
theorem jhy (lo hi:Option Int) (n:Nat):Builtin.Slice.sliceAdjust lo hi 1 (n:Int)=(((sIx n 0 lo:Nat):Int),((sIx n n hi:Nat):Int)):=by
 have h1: ¬ ((1:Int)<0):=by omega
 unfold Builtin.Slice.sliceAdjust
 simp only [h1,G3s]
 refine Prod.ext ?_ ?_
 ·cases lo with
  |none=>rfl
  |some v=>exact jid v n 0
 ·cases hi with
  |none=>rfl
  |some v=>exact jid v n n
theorem jhz (i j:Nat):Builtin.Slice.slicePlaces (i:Int) (j:Int) 1=j-i:=by
 unfold Builtin.Slice.slicePlaces
 have h1:(1:Int)>0:=by omega
 simp only [h1,if_true,Int.ediv_one]
 split<;>omega
theorem jeA {v:Value} {o:Option Int} {Q:Option Int→Shared→Prop} (p:IsPart v o) (h:Q o s):wpAny (model prog w) A (Builtin.Slice.slicePartIndex v) Q E s:=by
 cases p with
 |none=>exact slicePart_none h
 |int i t=>exact slicePart_int h
theorem jcx {sl:Addr} {vl vu:Value} {lo hi:Option Int} {n:Nat} {Q:Int×Int×Nat→Shared→Prop} (hs:s.heap.IsSliceOf sl vl vu .none) (pl:IsPart vl lo) (pu:IsPart vu hi)
 (h:Q (((sIx n 0 lo:Nat):Int),1,sIx n n hi-sIx n 0 lo) s):wpAny (model prog w) A (Builtin.Slice.sliceApplied (.ref sl) (pure (n:Int))) Q E s:=by
 obtain⟨os,hos,hcs,hds⟩:=id hs
 unfold Builtin.Slice.sliceApplied Builtin.Slice.sliceFields
 refine wpAny_bind (wpAny_bind (wpAny_field hos hds (x:=vl) rfl (wpAny_bind (wpAny_field hos hds (x:=vu) rfl (wpAny_bind (wpAny_field hos hds (x:= .none) rfl (G0c ?_)))))))
 refine wpAny_bind (slicePart_none ?_)
 show wpAny _ _ (if ((1:Int)==0)=true then _ else _) _ _ s
 rw [if_neg (by decide)]
 refine wpAny_bind (jeA pl (wpAny_bind (jeA pu (wpAny_bind (G0c ?_)))))
 show wpAny _ _ (match Builtin.Slice.sliceAdjust lo hi 1 (n:Int) with|(lo,hi)=>pure (lo,(1:Int),Builtin.Slice.slicePlaces lo hi 1)) _ _ s
 rw [jhy lo hi n]
 show wpAny _ _ (pure (((sIx n 0 lo:Nat):Int),(1:Int),Builtin.Slice.slicePlaces ((sIx n 0 lo:Nat):Int) ((sIx n n hi:Nat):Int) 1)) _ _ s
 rw [jhz]
 exact G0c h
theorem jjB (xs:Array Value) (i k:Nat):((List.range k).filterMap fun (m:Nat)=>xs[((i:Int)+(m:Int)*1).toNat]?).toArray=((xs.toList.drop i).take k).toArray:=by
 have e:(fun (m:Nat)=>xs[((i:Int)+(m:Int)*1).toNat]?)=fun m=>xs[i+m]? :=by
  funext m
  have:((i:Int)+(m:Int)*1).toNat=i+m:=by omega
  rw [this]
 rw [e]
 have:=pick_run xs i k
 rw [List.filterMap_map] at this
 have e2:((fun x=>xs[x]?)∘fun x=>i+x)=fun m=>xs[i+m]? :=rfl
 rw [e2] at this
 rw [this]
theorem jdl {t sl:Addr} {items:Array Value} {vl vu:Value} {lo hi:Option Int} {Q:Value→Shared→Prop} (ht:IsTup s.heap t items) (hs:s.heap.IsSliceOf sl vl vu .none) (pl:IsPart vl lo) (pu:IsPart vu hi)
 (hw: ¬ (sIx items.size 0 lo=0∧sIx items.size items.size hi=items.size))
 (h:Q (.ref s.heap.objs.size) {s with heap:=s.heap.push {cls:= .type "tuple",data:= .seq ((items.toList.drop (sIx items.size 0 lo)).take (sIx items.size items.size hi-sIx items.size 0 lo)).toArray}})
 (hsz:items.size≤sizeLine):wpAny (model prog w) A (getItem (.ref t) (.ref sl)) Q E s:=by
 have htake:sizeOk (.seq ((items.toList.drop (sIx items.size 0 lo)).take (sIx items.size items.size hi-sIx items.size 0 lo)).toArray):=by
  show ((items.toList.drop (sIx items.size 0 lo)).take (sIx items.size items.size hi-sIx items.size 0 lo)).toArray.size≤sizeLine
  rw [G0f,G05,G1x,G0j]
  omega
 have hj:sIx items.size items.size hi≤items.size:=jmS _ _ (G0d _) hi
 obtain⟨os,hos,hcs,hds⟩:=id hs
 have hTs:s.TypeIs (.ref sl) "slice" :=⟨os,hos,hcs⟩
 unfold getItem
 try with_reducible refine G04 ?_
 first|refine wpAny_bind (G0c ?_)|skip
 refine wpAny_bind (wpAny_sequenceKey ht.typeIs (by decide) ?_)
 refine wpAny_bind (G01 (name:=Str.ofString "__getitem__") ht.typeIs G1k
  (G0Z G1k ht.typeIs entry_tuple_getitem ?_ (args_tuple_getitem _ _)))
 show wpAny _ _ (Builtin.Tuple.tupleItemsOf (.ref t) >>= _) _ _ s
 refine wpAny_bind (tupleItemsOf_ ht ?_)
 refine wpAny_bind (G2K hTs ?_)
 rw [if_pos (by decide)]
 refine wpAny_bind (jcx hs pl pu ?_)
 have hno: ¬ ((((sIx items.size 0 lo:Nat):Int)==0&&(1:Int)==1&&(sIx items.size items.size hi-sIx items.size 0 lo)==items.size)=true):=by
  intro q
  rw [G1q,G1q] at q
  have q1:((sIx items.size 0 lo:Nat):Int)=0:=eq_of_beq q.1.1
  have q2:sIx items.size items.size hi-sIx items.size 0 lo=items.size:=eq_of_beq q.2
  exact hw ⟨by omega,by omega⟩
 show wpAny _ _ (if (((sIx items.size 0 lo:Nat):Int)==0&&(1:Int)==1&&(sIx items.size items.size hi-sIx items.size 0 lo)==items.size)=true then _ else _) _ _ s
 rw [if_neg hno,jjB]
 first
  |exact wpAny_bind (m:=Builtin.Tuple.tupleExact _) (G1F (G0c ⟨_,rfl,G0c h⟩) htake)
  |exact wpAny_bind (m:=Builtin.Tuple.tupleExact _) (G1F (wpAny_bind (G0c (G0c ⟨_,rfl,G0c h⟩))) htake)
  |exact wpAny_bind (wpAny_bind (m:=Builtin.Tuple.tupleExact _) (G1F (G0c (G0c ⟨_,rfl,G0c h⟩)) htake))
  |exact wpAny_bind (wpAny_bind (m:=Builtin.Tuple.tupleExact _) (G1F (G0c ⟨_,rfl,G0c h⟩) htake))
end
end HT
namespace L2
open PySem PySem.Spec PyProof.Rows
abbrev TO:=St→Hp→(Option Int→Hp→Prop)→Prop
def PO (X:Cx) (e:Option Expr) (t:TO):Prop:=
 ∀ (pins:List (Addr×Obj)) (s:Shared) (σ:St) (H:Hp) (Q:Option Int→Hp→Prop),Inv X pins σ H s→t σ H Q→
  wpAny (model X.prog X.w) X.A (evalPart e X.env) (fun u s' => ∃o H',Inv X pins σ H' s' ∧IsPart u o∧Q o H') X.xe s
def jla:TO:=fun _ H Q=>Q none H
def jol (t:TE):TO:=fun σ H Q=>t σ H fun x H1=> ∃i,x= .int i∧Q (some i) H1
section
variable {X:Cx} {e:Expr} {te:TE} {lo hi:Option Expr} {tl th:TO} {pos p2:Pos}
theorem po_none:PO X none jla:=by
 intro pins s σ H Q I h
 rw [evalPart_none]
 exact G0c ⟨none,H,I,.none,h⟩
theorem jlb (h:PE X e te):PO X (some e) (jol te):=by
 intro pins s σ H Q I hw
 rw [evalPart_some]
 refine thn (h pins s σ H _ I hw) fun u s1 ⟨x,H1,I1,r1,q1⟩=> ?_
 obtain⟨i,rfl,q⟩:=q1
 obtain⟨t,rfl⟩:=r1
 exact⟨some i,H1,I1,.int i t,q⟩
def SlR (X:Cx) (r:V→Option Int→Option Int→Hp→VK→Prop):Prop:=
 ∀ (pins:List (Addr×Obj)) (s:Shared) (σ:St) (H:Hp) (x:V) (v vl vu:Value) (lo hi:Option Int) (sl:Addr) (Q:VK),Inv X pins σ H s→RelV x v→s.heap.IsSliceOf sl vl vu .none→IsPart vl lo→IsPart vu hi→r x lo hi H Q→
  ∃T id,typeLookup (.type T) "__getitem__" =pure (some (.builtin id))∧s.TypeIs v T∧wpAny (model X.prog X.w) X.A (getItem v (.ref sl)) (EP X pins σ Q) X.xe s
theorem SlR.or {r r' :V→Option Int→Option Int→Hp→VK→Prop} (h:SlR X r) (h' :SlR X r'):SlR X (fun x lo hi H Q=>r x lo hi H Q∨r' x lo hi H Q):=by
 intro pins s σ H x v vl vu lo hi sl Q I rx hs pl pu q
 rcases q with q|q
 ·exact h pins s σ H x v vl vu lo hi sl Q I rx hs pl pu q
 ·exact h' pins s σ H x v vl vu lo hi sl Q I rx hs pl pu q
def tSl (r:V→Option Int→Option Int→Hp→VK→Prop) (te:TE) (tl th:TO):TE:=fun σ H Q=>te σ H fun x H1=>tl σ H1 fun l H2=>th σ H2 fun u H3=>r x l u H3 Q
theorem jjC {r:V→Option Int→Option Int→Hp→VK→Prop} (hr:SlR X r) (he:PE X e te) (hl:PO X lo tl) (hu:PO X hi th):PE X (.Subscript e (.Slice lo hi none p2) pos) (tSl r te tl th):=by
 intro pins s σ H Q I h
 refine Subscript_ (thn (he pins s σ H _ I h) fun v s1 ⟨x,H1,I1,r1,q1⟩=> ?_)
 refine wpAny_Slice (thn (hl pins s1 σ H1 _ I1 q1) fun vl s2 ⟨l,H2,I2,pl,q2⟩=>thn (hu pins s2 σ H2 _ I2 q2) fun vu s3 ⟨u,H3,I3,pu,q3⟩=> ?_)
 rw [evalPart_none]
 refine G0c ?_
 have I4:Inv X pins σ H3 {s3 with heap:=s3.heap.push {cls:= .type "slice",data:= .fields #[vl,vu,.none]}}:=I3.kept (t' :=s3.toks) fun b ob q=>G0b _ q
 obtain⟨T,id,hT,ht,hg⟩:=hr pins {s3 with heap:=s3.heap.push {cls:= .type "slice",data:= .fields #[vl,vu,.none]}} σ H3 x v vl vu l u s3.heap.objs.size Q I4 r1 (Heap.IsSliceOf.new ..) pl pu q3
 show wpAny (model X.prog X.w) X.A (subscriptTail e (.Slice lo hi none p2) v (.ref s3.heap.objs.size)) (EP X pins σ Q) X.xe {s3 with heap:=s3.heap.push {cls:= .type "slice",data:= .fields #[vl,vu,.none]}}
 exact tail_any (ops:= [.ref s3.heap.objs.size,v]) ht hT hg (by with_unfolding_all rfl)
def jjo (xs:List V) (lo hi:Option Int):List V:=(xs.drop (HT.sIx xs.length 0 lo)).take (HT.sIx xs.length xs.length hi-HT.sIx xs.length 0 lo)
theorem jdP (xs:List V) (lo hi:Option Int):(jjo xs lo hi).length≤xs.length:=by
 unfold jjo
 rw [G05,G1x]
 omega
def jpq (K:PySem.W.Frag):V→Option Int→Option Int→Hp→VK→Prop:=fun x lo hi H Q=> ∃a xs,x= .ref a∧SqT K H a xs∧
 ¬ (HT.sIx xs.length 0 lo=0∧HT.sIx xs.length xs.length hi=xs.length)∧ ∀p,H p=none→Q (.ref p) (upd H p (.tup (jjo xs lo hi)))
theorem sl_tup:SlR X (jpq X.K):=by
 intro pins s σ H x v vl vu lo hi sl Q I rx hs pl pu h
 obtain⟨a,xs,rfl,hx,hw,q⟩:=h
 cases rx
 obtain⟨its,r,ht,hz⟩:=I.tuple hx
 have hlen:its.toArray.size=xs.length:=by rw [G0f];exact r.length.symm
 refine⟨"tuple",_,PyProof.Rows.slot_tuple_getitem.lookup,ht.typeIs,?_⟩
 refine HT.jdl ht hs pl pu (by rw [hlen];exact hw) ?_ (by rw [hlen];exact hz)
 rw [hlen]
 refine⟨.ref s.heap.objs.size,_,I.laid (t' :=s.toks) (o:= .tup (jjo xs lo hi)) (fun b ob q=>G0b _ q) (G0d _) ?_,rfl,q _ (I.hok.fresh (G0d _))⟩
 exact⟨G0T (jdP xs lo hi) hz,_,(r.drop (HT.sIx xs.length 0 lo)).take (HT.sIx xs.length xs.length hi-HT.sIx xs.length 0 lo),IsTupN.new _ _⟩
def jom (K:PySem.W.Frag):R2:=fun x y H Q=> ∃a b xs ys,x= .ref a∧y= .ref b∧SqT K H a xs∧SqT K H b ys∧xs≠ []∧xs.length+ys.length≤sizeLine∧
 (ys= []→Q (.ref a) H)∧(ys≠ []→ ∀p,H p=none→Q (.ref p) (upd H p (.tup (xs++ys))))
theorem Vals.nil_iff {xs:List V} {us:List Value} (r:Vals xs us):us= []↔xs= []:=by
 cases r with
 |nil=>simp
 |cons _ _=>simp
theorem op_catT:OpR X (binaryOp .Add) (jom X.K):=by
 intro pins s σ H x y v u Q I rx ry h
 obtain⟨a,b,xs,ys,rfl,rfl,ha,hb,hx,hz,q1,q2⟩:=h
 cases rx
 cases ry
 obtain⟨its,r1,p1,_⟩:=I.tuple ha
 obtain⟨its2,r2,p2,_⟩:=I.tuple hb
 refine HT.jk9 p1 p2 (fun z=>hx (r1.nil_iff.mp z)) (fun z=>⟨.ref a,H,I,rfl,q1 (r2.nil_iff.mp z)⟩) (fun z=> ?_) (by rw [←r1.length,←r2.length];exact hz)
 refine⟨.ref s.heap.objs.size,_,I.laid (t' :=s.toks) (o:= .tup (xs++ys)) (fun b ob q=>G0b _ q) (G0d _) ?_,rfl,q2 (fun w=>z (r2.nil_iff.mpr w)) _ (I.hok.fresh (G0d _))⟩
 exact⟨by rw [G1d];exact hz,_,r1.append r2,IsTupN.new _ _⟩
end
def ixN (n:Nat) (i:Int):Option Nat:=if 0≤i then (if i<n then some i.toNat else none) else if-(n:Int)≤i then some (i+n).toNat else none
def atI {α:Type} (xs:List α) (i:Int):Option α:=(ixN xs.length i).bind fun j=>xs[j]?
theorem jie {n:Nat} {i:Int} {j:Nat} (h:ixN n i=some j):seqIndex? i n=some j∧j<n∧ -(n:Int)≤i∧i<n:=by
 unfold ixN at h
 by_cases h0:0≤i
 ·rw [if_pos h0] at h
  by_cases h1:i<n
  ·rw [if_pos h1] at h
   have e:i.toNat=j:=G0V h
   exact⟨by rw [seqIndex_of h0 h1,e],by omega,by omega,h1⟩
  ·rw [if_neg h1] at h;cases h
 ·rw [if_neg h0] at h
  by_cases h1: -(n:Int)≤i
  ·rw [if_pos h1] at h
   have e:(i+n).toNat=j:=G0V h
   exact⟨by rw [seqIndex_neg (by omega) h1,e],by omega,h1,by omega⟩
  ·rw [if_neg h1] at h;cases h
theorem jgy {α:Type} {xs:List α} {i:Int} {v:α} (h:atI xs i=some v): ∃j,seqIndex? i xs.length=some j∧xs[j]? =some v∧j<xs.length∧ -(xs.length:Int)≤i∧i<xs.length:=by
 unfold atI at h
 cases e:ixN xs.length i with
 |none=>rw [e] at h;cases h
 |some j=>
  rw [e] at h
  obtain⟨h1,h2,h3,h4⟩:=jie e
  exact⟨j,h1,h,h2,h3,h4⟩
theorem jcB {α:Type} {xs:List α} {j:Nat} {v:α} (h:xs[j]? =some v):atI xs (j:Int)=some v:=by
 have hj:j<xs.length:=(G0t.mp h).1
 have e:ixN xs.length (j:Int)=some j:=by
  unfold ixN
  rw [if_pos (by omega),if_pos (by omega)];simp
 unfold atI;rw [e];exact h
def jgz (b:Expr):Prop:= ∀o i,subscripted b false o i=operate [o,i] (getItem o i)
def IxR (X:Cx) (r:R2):Prop:=
 ∀ (value slice:Expr) (pins:List (Addr×Obj)) (s:Shared) (σ:St) (H:Hp) (x y:V) (v u:Value) (Q:VK),Inv X pins σ H s→RelV x v→RelV y u→r x y H Q→
  subscripted slice false v u=operate [v,u] (getItem v u)→wpAny (model X.prog X.w) X.A (subscriptTail value slice v u) (EP X pins σ Q) X.xe s
def MtR (X:Cx) (id:String) (r:V→List V→Hp→VK→Prop):Prop:=
 ∀ (pins:List (Addr×Obj)) (s:Shared) (σ:St) (H:Hp) (x:V) (xs:List V) (v:Value) (us:List Value) (Q:VK),Inv X pins σ H s→RelV x v→Vals xs us→r x xs H Q→
  wpAny (model X.prog X.w) X.A (call (.builtin id) (v::us)) (EP X pins σ Q) X.xe s
section
variable {X:Cx} {a b:Expr} {ta tb:TE} {pos:Pos}
theorem IxR.or {r r' :R2} (h:IxR X r) (h' :IxR X r'):IxR X (fun x y H Q=>r x y H Q∨r' x y H Q):=by
 intro value slice pins s σ H x y v u Q I rx ry q hs
 rcases q with q|q
 ·exact h value slice pins s σ H x y v u Q I rx ry q hs
 ·exact h' value slice pins s σ H x y v u Q I rx ry q hs
theorem jon {r:R2} (hr:IxR X r) (ha:PE X a ta) (hb:PE X b tb) (hs:jgz b):PE X (.Subscript a b pos) (tOp r ta tb):=by
 intro pins s σ H Q I h
 exact Subscript_ (joc ha hb I h fun v u s2 x y H2 I2 rx ry q=>hr a b pins s2 σ H2 x y v u Q I2 rx ry q (hs _ _))
def jpa (K:PySem.W.Frag):R2:=fun x y H Q=> ∃p xs i v,x= .ref p∧y= .int i∧SqL K H p xs∧atI xs i=some v∧Q v H
def jpb (K:PySem.W.Frag):R2:=fun x y H Q=> ∃p xs i v,x= .ref p∧y= .int i∧SqT K H p xs∧atI xs i=some v∧Q v H
def jpc:R2:=fun x y H Q=> ∃z i c,x= .str z∧y= .int i∧z.length≤sizeLine∧atI z.cps.toList i=some c∧Q (.str ⟨#[c]⟩) H
theorem ix_list:IxR X (jpa X.K):=by
 intro value slice pins s σ H x y v u Q I rx ry h hs
 obtain⟨p,xs,i,z,rfl,rfl,hq,he,q⟩:=h
 cases rx
 obtain⟨t,rfl⟩:=ry
 obtain⟨its,r,pl,hz⟩:=I.list hq
 obtain⟨j,h1,h2,h3,h4,h5⟩:=jgy he
 obtain⟨w,ew,rw'⟩:=r.get h2
 have hl:=r.length
 have hn:=jfJ
 have fin:EP X pins σ Q w s:=⟨z,H,I,rw',q⟩
 by_cases h0:0≤i
 ·have hj:i.toNat=j:=by
   rw [seqIndex_of h0 h5] at h1
   exact G0V h1
  exact item_listR pl.isList h0 (by omega) (by rw [hj];simpa using ew) fin hs
 ·have hj:(i+(its.toArray.size:Int)).toNat=j:=by
   rw [seqIndex_neg (by omega) h4] at h1
   rw [G0f,←hl]
   exact G0V h1
  exact subscriptTail_builtinR (x:=w) pl.isList.typeIs slot_list_getitem.lookup
   (wpAny_getItem_list_neg (Q:=fun r s' =>r=w∧EP X pins σ Q r s') pl.isList (by omega) (by rw [G0f]<;>omega) (by omega) (by rw [hj];simpa using ew) ⟨rfl,fin⟩) hs
theorem ix_tup:IxR X (jpb X.K):=by
 intro value slice pins s σ H x y v u Q I rx ry h hs
 obtain⟨p,xs,i,z,rfl,rfl,hq,he,q⟩:=h
 cases rx
 obtain⟨t,rfl⟩:=ry
 obtain⟨its,r,pl,hz⟩:=I.tuple hq
 obtain⟨j,h1,h2,h3,h4,h5⟩:=jgy he
 obtain⟨w,ew,rw'⟩:=r.get h2
 have hl:=r.length
 have hn:=jfJ
 have fin:EP X pins σ Q w s:=⟨z,H,I,rw',q⟩
 exact subscriptTail_builtinR (x:=w) pl.typeIs slot_tuple_getitem.lookup
  (getItem_tuple (j:=j) (Q:=fun r s' =>r=w∧EP X pins σ Q r s') pl (by omega) (by omega) (by rw [G0f,←hl];exact h1) (by simpa using ew) ⟨rfl,fin⟩) hs
theorem jmT:IxR X jpc:=by
 intro value slice pins s σ H x y v u Q I rx ry h hs
 obtain⟨z,i,c,rfl,rfl,hz,he,q⟩:=h
 obtain⟨t,rfl⟩:=rx
 obtain⟨t',rfl⟩:=ry
 obtain⟨j,h1,h2,h3,h4,h5⟩:=jgy he
 have hl:z.cps.toList.length=z.length:=by simp [Str.length]
 rw [hl] at h1 h4 h5
 have hn:=jfJ
 exact tail_any (typeIs_str s z t) slot_str_getitem.lookup (getItem_str (c:=c) (by
  have e1:decide (i< -(2^63:Int))=false:=G0S (by omega)
  have e2:decide (i≥2^63)=false:=G0S (by omega)
  rw [e1,e2,Bool.or_false]) (by rw [h1];simpa using h2) ⟨.str ⟨#[c]⟩,H,I.tok _,⟨_,rfl⟩,q⟩) hs
def rIx (K:PySem.W.Frag):R2:=fun x y H Q=>jpa K x y H Q∨jpb K x y H Q∨jpc x y H Q
theorem jmU:IxR X (rIx X.K):=ix_list.or (ix_tup.or jmT)
theorem jhA (its:List Value) (n j:Nat) (u:Value):Obj.mapSeq (·.setIfInBounds j u) {cls:= .type "list",data:= .seq its.toArray n}= {cls:= .type "list",data:= .seq (its.set j u).toArray n}:=by
 simp [Obj.mapSeq]
theorem Inv.lst {pins:List (Addr×Obj)} {σ:St} {H:Hp} {s:Shared} {p:Addr} {xs:List V} (I:Inv X pins σ H s) (h:H p=some (.lst xs)):
 ∃ (its:List Value) (n:Nat),Vals xs its∧s.heap.get? p=some {cls:= .type "list",data:= .seq its.toArray n}∧xs.length≤sizeLine:=by
 obtain⟨z,its,n,r,e⟩:=I.hok p _ h
 exact⟨its,n,r,e,z⟩
theorem Inv.lstUpd {pins:List (Addr×Obj)} {σ:St} {H:Hp} {s:Shared} {p:Addr} {xs ys:List V} {its its' :List Value} {n n' :Nat} {f:Obj→Obj} (I:Inv X pins σ H s) (h:H p=some (.lst xs))
 (ho:s.heap.get? p=some {cls:= .type "list",data:= .seq its.toArray n}) (hf:f {cls:= .type "list",data:= .seq its.toArray n}= {cls:= .type "list",data:= .seq its'.toArray n'}) (r:Vals ys its') (hz:ys.length≤sizeLine) (t:Nat):
 Inv X pins σ (upd H p (.lst ys)) {s with heap:=s.heap.update p f,toks:=t}:=by
 have e:(s.heap.update p f).get? p=some {cls:= .type "list",data:= .seq its'.toArray n'}:=by
  rw [G09 f ho (by rw [hf]<;>rfl),hf]
 refine I.write (x:=p) (e:=p) (by rw [h];trivial) (.inl rfl) (fun b u hb q=>(Heap.get?_update_other _ _ (Ne.symm hb)).trans q) ⟨_,e⟩ ?_
 exact⟨hz,its',n',r,e⟩
def joo:V→V→V→Hp→(Hp→Prop)→Prop:=fun o i v H Q=> ∃p xs k j,o= .ref p∧i= .int k∧H p=some (.lst xs)∧ixN xs.length k=some j∧Q (upd H p (.lst (xs.set j v)))
theorem jjD:jo1 X joo:=by
 intro pins s σ H o i v ov iv u Q I ro ri rv h
 obtain⟨p,xs,k,j,rfl,rfl,hp,hj,q⟩:=h
 cases ro
 obtain⟨t,rfl⟩:=ri
 obtain⟨its,n,r,ho,hz⟩:=I.lst hp
 obtain⟨h1,h2,h3,h4⟩:=jie hj
 have hl:=r.length
 have hn:=jfJ
 have I' :Inv X pins σ (upd H p (.lst (xs.set j v))) {s with heap:=s.heap.update p (Obj.mapSeq (·.setIfInBounds j u))}:=
  I.lstUpd hp ho (jhA its n j u) (r.set rv j) (by rw [List.length_set];exact hz) s.toks
 by_cases h0:0≤k
 ·have hk:k.toNat=j:=by
   rw [seqIndex_of h0 h4] at h1
   exact G0V h1
  exact PySem.W.ki_setAt ho h0 (by omega) (by rw [G0f,←hl];exact h4) (by rw [hk];exact⟨_,I',q⟩)
 ·have hk:(k+(its.toArray.size:Int)).toNat=j:=by
   rw [seqIndex_neg (by omega) h3] at h1
   rw [G0f,←hl]
   exact G0V h1
  exact PySem.W.ki_setBack ho (by omega) (by rw [G0f,←hl];exact h3) (by omega) (by rw [hk];exact⟨_,I',q⟩)
theorem jfO (lo hi:Option Int) (n:Nat):(sliceBounds lo hi none n).1=((HT.sIx n 0 lo:Nat):Int)∧(sliceBounds lo hi none n).2.1=((HT.sIx n n hi:Nat):Int)∧(sliceBounds lo hi none n).2.2=1:=by
 refine⟨?_,?_,rfl⟩
 ·cases lo with
  |none=>simp [sliceBounds,HT.sIx]
  |some i=>
   simp only [sliceBounds,HT.sIx,Option.getD_none,show (1:Int)>0 by decide,if_true]
   by_cases h:i<0
   ·simp only [h,if_true]<;>omega
   ·simp only [h,G3s]<;>omega
 ·cases hi with
  |none=>simp [sliceBounds,HT.sIx]
  |some i=>
   simp only [sliceBounds,HT.sIx,Option.getD_none,show (1:Int)>0 by decide,if_true]
   by_cases h:i<0
   ·simp only [h,if_true]<;>omega
   ·simp only [h,G3s]<;>omega
theorem je1 (its:List Value) (lo hi:Option Int):slicePick its.toArray lo hi none=((its.drop (HT.sIx its.length 0 lo)).take (HT.sIx its.length its.length hi-HT.sIx its.length 0 lo)).toArray:=by
 obtain⟨h1,h2,h3⟩:=jfO lo hi its.toArray.size
 unfold slicePick
 rw [h1,h2,h3]
 simp only [sliceRange_one,pick_run,G0f]<;>rfl
def jpr (K:PySem.W.Frag):V→Option Int→Option Int→Hp→VK→Prop:=fun x lo hi H Q=> ∃a xs,x= .ref a∧SqL K H a xs∧ ∀p,H p=none→Q (.ref p) (upd H p (.lst (jjo xs lo hi)))
theorem jld:SlR X (jpr X.K):=by
 intro pins s σ H x v vl vu lo hi sl Q I rx hs pl pu h
 obtain⟨a,xs,rfl,hx,q⟩:=h
 cases rx
 obtain⟨its,r,ht,hz⟩:=I.list hx
 have hlen:=r.length
 refine⟨"list",_,slot_list_getitem.lookup,ht.isList.typeIs,?_⟩
 refine wpAny_getItem_list_slice ht.isList hs pl pu .none (by simp) ?_ (by rw [G0f]<;>omega)
 rw [je1,←hlen]
 refine⟨.ref s.heap.objs.size,_,I.laid (t' :=s.toks) (o:= .lst (jjo xs lo hi)) (fun b ob q=>G0b _ q) (G0d _) ?_,rfl,q _ (I.hok.fresh (G0d _))⟩
 exact⟨G0T (jdP xs lo hi) hz,_,0,(r.drop (HT.sIx xs.length 0 lo)).take (HT.sIx xs.length xs.length hi-HT.sIx xs.length 0 lo),G0m _ rfl⟩
theorem call_len_seq:CallR X (.builtin "len") (fun xs H Q=> ∃p ys,xs= [.ref p]∧(SqL X.K H p ys∨SqT X.K H p ys)∧Q (.int ys.length) H):=by
 intro pins s σ H xs us Q I r h
 obtain⟨p,ys,rfl,hq,q⟩:=h
 obtain⟨u,rfl,rx⟩:=jde r
 cases rx
 have hn:=jfJ
 rcases hq with hq|hq
 ·obtain⟨its,r',pl,hz⟩:=I.list hq
  have hlen:=r'.length
  exact Calls.call_len_list pl.isList (by simp only [G0f]<;>omega) ⟨.int ys.length,H,I.tok _,⟨s.toks+1,by rw [G0f,hlen]⟩,q⟩
 ·obtain⟨its,r',pl,hz⟩:=I.tuple hq
  have hlen:=r'.length
  exact len_tuple pl (by simp only [G0f]<;>omega) ⟨.int ys.length,H,I.tok _,⟨s.toks+1,by rw [G0f,hlen]⟩,q⟩
theorem call_list_of:CallR X (.type "list") (fun xs H Q=> ∃p ys,xs= [.ref p]∧(SqL X.K H p ys∨SqT X.K H p ys)∧ ∀l,H l=none→Q (.ref l) (upd H l (.lst ys))):=by
 intro pins s σ H xs us Q I r h
 obtain⟨p,ys,rfl,hq,q⟩:=h
 obtain⟨u,rfl,rx⟩:=jde r
 cases rx
 have fin: ∀ (its:List Value),Vals ys its→ys.length≤sizeLine→ ∀ (h' :Heap) (c' :Nat),(∀b o',s.heap.get? b=some o' →h'.get? b=some o')→
  h'.get? s.heap.objs.size=some {cls:= .type "list",dict:=none,data:= .seq its.toArray c',slots:= #[]}→EP X pins σ Q (.ref s.heap.objs.size) {s with heap:=h'}:=fun its r' hz h' c' kp e=>
  ⟨.ref s.heap.objs.size,_,I.laid (t' :=s.toks) kp (G0d _) (show ObjOk X.prog X.w _ h' _ (.lst ys) from ⟨hz,its,c',r',e⟩),rfl,q _ (I.hok.fresh (G0d _))⟩
 rcases hq with hq|hq
 ·obtain⟨its,r',pl,hz⟩:=I.list hq
  have hlen:=r'.length
  obtain⟨o,ho,hc,n,hd⟩:=pl.isList
  exact call_list_seq p (.inl rfl) ho hc hd (fun h' c' kp e=>fin its r' hz h' c' kp e) (by simp only [G0f]<;>omega)
 ·obtain⟨its,r',pl,hz⟩:=I.tuple hq
  have hlen:=r'.length
  obtain⟨o,ho,hc,n,hd⟩:=pl
  exact call_list_seq p (.inr rfl) ho hc hd (fun h' c' kp e=>fin its r' hz h' c' kp e) (by simp only [G0f]<;>omega)
theorem call_tuple_of:CallR X (.type "tuple") (fun xs H Q=> ∃p ys,xs= [.ref p]∧((SqL X.K H p ys∧ ∀l,H l=none→Q (.ref l) (upd H l (.tup ys)))∨(SqT X.K H p ys∧Q (.ref p) H))):=by
 intro pins s σ H xs us Q I r h
 obtain⟨p,ys,rfl,h⟩:=h
 obtain⟨u,rfl,rx⟩:=jde r
 cases rx
 rcases h with ⟨hq,q⟩|⟨hq,q⟩
 ·obtain⟨its,r',pl,hz⟩:=I.list hq
  have hlen:=r'.length
  refine call_tuple_list pl.isList (fun h' kp=> ?_) (by simp only [G0f]<;>omega)
  have I1:Inv X pins σ H {s with heap:=h'}:=I.kept (t' :=s.toks) kp
  have I2:Inv X pins σ (upd H h'.objs.size (.tup ys)) {s with heap:=h'.push {cls:= .type "tuple",data:= .seq its.toArray}}:=
   I1.laid (t' :=s.toks) (fun b o e=>G0b _ e) (G0d _) (show ObjOk X.prog X.w _ _ _ (.tup ys) from ⟨hz,its,r',IsTupN.new _ _⟩)
  exact⟨.ref h'.objs.size,_,I2,rfl,q _ (I1.hok.fresh (G0d _))⟩
 ·obtain⟨its,r',pl,hz⟩:=I.tuple hq
  exact call_tuple_same pl ⟨.ref p,H,I,rfl,q⟩
def tyV (K:PySem.W.Frag) (T:String) (x:V) (H:Hp):Prop:=match x with
 | .str _=>T= "str"
 | .int _=>T= "int"
 | .ref p=>(T= "list" ∧ ∃xs,SqL K H p xs)∨(T= "tuple" ∧ ∃o,K.lookup p=some o∧o.cls= .type "tuple" ∧o.dict=none)∨
  (T= "dict" ∧((∃kvs,H p=some (.dK kvs))∨ ∃kvs,H p=some (.dT kvs)))∨(T= "set" ∧ ∃S n,H p=some (.set S n))
 |_=>False
theorem jmV {pins:List (Addr×Obj)} {σ:St} {H:Hp} {s:Shared} {T:String} {x:V} {v:Value} (I:Inv X pins σ H s) (r:RelV x v) (ty:tyV X.K T x H):
 s.TypeIs v T∧ ∀a,v= .ref a→ ∃ob,s.heap.get? a=some ob∧ob.dict=none:=by
 cases x with
 |str z=>
  obtain⟨t,rfl⟩:=r
  cases (show T= "str" from ty)
  exact⟨typeIs_str s z t,fun _ e=>nomatch e⟩
 |int i=>
  obtain⟨t,rfl⟩:=r
  cases (show T= "int" from ty)
  exact⟨G3e s i t,fun _ e=>nomatch e⟩
 |ref p=>
  cases r
  rcases ty with ⟨rfl,xs,hq⟩|⟨rfl,o,hk,hc,hd⟩|⟨rfl,hk⟩|⟨rfl,S,n,hk⟩
  ·obtain⟨its,_,pl,_⟩:=I.list hq
   refine⟨pl.isList.typeIs,fun a e=> ?_⟩
   cases e
   obtain⟨o,n,e,c,hd,_⟩:=pl
   exact⟨o,e,hd⟩
  ·refine⟨⟨o,I.kIn p o hk,hc⟩,fun a e=> ?_⟩
   cases e
   exact⟨o,I.kIn _ o hk,hd⟩
  ·have z: ∃o,s.heap.get? p=some o∧o.ExactDict:=by
    rcases hk with ⟨kvs,hk⟩|⟨kvs,hk⟩
    ·obtain⟨_,_,_,_,o,_,_,e,ex,_⟩:=I.hok p _ hk
     exact⟨o,e,ex⟩
    ·obtain⟨_,_,_,_,o,_,_,e,ex,_⟩:=I.hok p _ hk
     exact⟨o,e,ex⟩
   obtain⟨o,e,ex⟩:=z
   refine⟨⟨o,e,ex.1⟩,fun a e2=> ?_⟩
   cases e2
   exact⟨o,e,ex.2.1⟩
  ·obtain⟨o,_,_,_,e,ex,_⟩:=I.hok p _ hk
   refine⟨⟨o,e,ex.1⟩,fun a e2=> ?_⟩
   cases e2
   exact⟨o,e,ex.2.1⟩
 |_=>exact False.elim ty
def tBM (K:PySem.W.Frag) (T:String) (r:V→List V→Hp→VK→Prop) (to:TE) (t:TA):TE:=fun σ H Q=>to σ H fun x H1=>tyV K T x H1∧t σ H1 fun xs H2=>r x xs H2 Q
variable {o e:Expr} {es:List Expr} {to:TE} {t:TA} {name:Str} {apos cpos:Pos} {T id:String} {r:V→List V→Hp→VK→Prop}
theorem jle (pa:PlainAttrs T) (slot:Slot T name id) (hty:typeOf (.builtin id)=pure (.type "method_descriptor")) (hm:MtR X id r) (ho:PE X o to) (ha:PA X (e::es) t)
 (hbase:attributeBase o name X.env (eval o X.env)=eval o X.env:=by rfl)
 (hfew:((backTo cpos (starEach (e::es) X.env)).all (fun x=> !x.1)&&(backToKw cpos (keywordEach [] X.env)).all (fun x=>x.1.isSome)
  &&decide ((e::es).length+([]:List Keyword).length+(if ([]:List Keyword).isEmpty then 0 else 1)<30))=true:=by rfl)
 (hline:(apos.endLine==cpos.line)=true:=by rfl) (hs:starEach (e::es) X.env=(false,eval e X.env)::starEach es X.env:=by rfl) (hplain:(backTo cpos (starEach es X.env)).any (·.1)=false:=by rfl):
 PE X (.Call (.Attribute o name apos) (e::es) [] cpos) (tBM X.K T r to t):=by
 intro pins s σ H Q I h
 refine wpAny_Call_method_late hbase hfew hline rfl (thn (ho pins s σ H _ I h) fun v s1 ⟨x,H1,I1,r1,ty,q1⟩=> ?_)
 obtain⟨h1,h2⟩:=jmV I1 r1 ty
 refine⟨T,id,pa,slot,hty,h1,h2,?_⟩
 have hA:=ha cpos pins s1 σ H1 _ I1 q1
 rw [hs] at hA ⊢
 refine Calls.callWith_builtin (by show (false||(backTo cpos (starEach es X.env)).any (·.1))=false;rw [hplain]<;>rfl) (Calls.evalArgs_plain ?_)
 exact thn hA fun us s2 ⟨vs,H2,I2,r2,q2⟩=>hm pins s2 σ H2 x vs v us Q I2 r1 r2 q2
end
def MtM (X:Cx) (id:String) (r:V→List V→Hp→VK→Prop):Prop:=
 ∀ (pins:List (Addr×Obj)) (s:Shared) (σ:St) (H:Hp) (x:V) (xs:List V) (v:Value) (us:List Value) (Q:VK),Inv X pins σ H s→RelV x v→Vals xs us→r x xs H Q→
  wpAny (model X.prog X.w) X.A (call (.builtin id) (v::us)) (EP X pins σ Q) X.xe s
theorem Vals.one: ∀ {x:V} {us:List Value},Vals [x] us→ ∃u,us= [u]∧RelV x u
 |_,_,.cons r .nil=>⟨_,rfl,r⟩
theorem Vals.rep {xs:List V} {us:List Value} (h:Vals xs us): ∀k:Nat,Vals (List.replicate k xs).flatten (List.replicate k us).flatten
 |0=> .nil
 |k+1=>by
  rw [G1l,G1l,G1H,G1H]
  exact Vals.append h (Vals.rep h k)
theorem jdQ (its:List Value): ∀ (k:Nat) (acc:List Value),
 List.foldl (fun x1 x2=>x1++x2) acc.toArray (List.replicate k its.toArray)=(acc++(List.replicate k its).flatten).toArray
 |0,acc=>by simp
 |k+1,acc=>by
  have e:acc.toArray++its.toArray=(acc++its).toArray:=by simp
  have e2:(acc++its)++(List.replicate k its).flatten=acc++(List.replicate (k+1) its).flatten:=by
   rw [G1l,G1H,G2P]
  rw [←e2,←jdQ its k (acc++its),←e,G1l,List.foldl_cons]
section
variable {X:Cx} {pins:List (Addr×Obj)} {σ:St} {H:Hp} {s:Shared} {l b:Addr} {xs ys zs:List V}
theorem Inv.lset {its its' :List Value} {n:Nat} {f:Array Value→Array Value} {t' :Nat} (I:Inv X pins σ H s) (hH:H l=some (.lst xs))
 (e:s.heap.get? l=some {cls:= .type "list",data:= .seq its.toArray n}) (hf:f its.toArray=its'.toArray) (hv:Vals ys its') (hz:ys.length≤sizeLine):
 Inv X pins σ (upd H l (.lst ys)) {s with heap:=s.heap.update l (Obj.mapSeq f),toks:=t'}:=by
 have q:=PySem.IsL.update e f
 rw [hf] at q
 refine I.write (x:=l) (e:=l) (by rw [hH];exact trivial) (.inl rfl) (fun b' u hb hu=>(Heap.get?_update_other s.heap (Obj.mapSeq f) (Ne.symm hb)).trans hu) ⟨_,q⟩ ?_
 exact⟨hz,its',_,hv,q⟩
theorem Inv.lnew {its:List Value} {t' :Nat} (I:Inv X pins σ H s) (hv:Vals ys its) (hz:ys.length≤sizeLine):
 Inv X pins σ (upd H s.heap.objs.size (.lst ys)) {s with heap:=s.heap.push {cls:= .type "list",data:= .seq its.toArray},toks:=t'}:=
 I.laid (fun _ _ q=>G0b _ q) (G0d _) ⟨hz,its,0,hv,G0m _ rfl⟩
theorem Inv.fresh (I:Inv X pins σ H s):H s.heap.objs.size=none:=I.hok.fresh (G0d _)
theorem Inv.lstM (I:Inv X pins σ H s) (hH:H l=some (.lst xs)):xs.length≤sizeLine∧ ∃ (its:List Value) (n:Nat),Vals xs its∧xs.length=its.length∧s.heap.get? l=some {cls:= .type "list",data:= .seq its.toArray n}:=by
 obtain⟨z,its,n,r,e⟩:=I.hok l _ hH
 exact⟨z,its,n,r,r.length,e⟩
theorem jjE {n:Nat} (h:n≤sizeLine):Builtin.List.listTooLong n=false:=by
 unfold Builtin.List.listTooLong
 exact G0S (by omega)
end
section
variable {X:Cx}
def jlf:V→List V→Hp→VK→Prop:=fun x vs H Q=> ∃l xs y,x= .ref l∧vs= [y]∧H l=some (.lst xs)∧xs.length<sizeLine∧Q .non (upd H l (.lst (xs++ [y])))
theorem jig:MtM X "list.append" jlf:=by
 intro pins s σ H x vs v us Q I rx rv h
 obtain⟨l,xs,y,rfl,rfl,hH,hz,q⟩:=h
 cases rx
 obtain⟨u,rfl,ru⟩:=rv.one
 obtain⟨z,its,n,r,hl,e⟩:=I.lstM hH
 refine G3f F.slot_list_append ⟨_,e,rfl⟩ F.entry_list_append (F.args_list_append_2 _ _) (PySem.list_append l its.toArray n u (by rw [G0f];omega)) ⟨e,?_⟩
 refine⟨.non,_,I.lset (its' :=its++ [u]) hH e (by simp) (r.append (.cons ru .nil)) ?_,rfl,q⟩
 rw [G1d,List.length_singleton]
 omega
def jps:R2:=fun x y H Q=> ∃l b xs zs,x= .ref l∧y= .ref b∧H l=some (.lst xs)∧H b=some (.lst zs)∧xs.length+zs.length≤sizeLine∧ ∀p,H p=none→Q (.ref p) (upd H p (.lst (xs++zs)))
theorem jmW:OpR X (binaryOp .Add) jps:=by
 intro pins s σ H x y v u Q I rx ry h
 obtain⟨l,b,xs,zs,rfl,rfl,hH,hB,hz,q⟩:=h
 cases rx
 cases ry
 obtain⟨z,its,n,r,hl,e⟩:=I.lstM hH
 obtain⟨z2,its2,n2,r2,hl2,e2⟩:=I.lstM hB
 refine PySem.P.add_list e e2 ?_ (by rw [G0f,G0f];omega)
 have ea:its.toArray++its2.toArray=(its++its2).toArray:=by simp
 rw [ea]
 exact⟨.ref _,_,I.lnew (t' :=s.toks) (r.append r2) (by rw [G1d];omega),rfl,q _ I.fresh⟩
def jpu:R2:=fun x y H Q=> ∃l k xs,x= .ref l∧y= .int k∧H l=some (.lst xs)∧ -(2^63)≤k∧k<2^63∧xs.length*k.toNat≤sizeLine∧
 ∀p,H p=none→Q (.ref p) (upd H p (.lst (List.replicate k.toNat xs).flatten))
theorem jgA {α:Type} (xs:List α) (k:Nat):(List.replicate k xs).flatten.length=k*xs.length:=by
 induction k with
 |zero=>simp
 |succ k ih=>rw [G1l,G1H,G1d,ih,Nat.succ_mul,G3r]
theorem jmX:OpR X (binaryOp .Mult) jpu:=by
 intro pins s σ H x y v u Q I rx ry h
 obtain⟨l,k,xs,rfl,rfl,hH,h1,h2,hz,q⟩:=h
 cases rx
 obtain⟨t,rfl⟩:=ry
 obtain⟨z,its,n,r,hl,e⟩:=I.lstM hH
 have hlen:its.toArray.size*k.toNat≤sizeLine:=by rw [G0f,←hl];exact hz
 have hcap: ¬its.toArray.size*k.toNat>(2^63-1) / 8:=by
  have:(sizeLine:Nat)≤(2^63-1) / 8:=by decide
  omega
 have hfit: ¬ (!Builtin.List.listFitsIndex k)=true:=by
  rw [fitsIndex_both h1 h2]
  exact G0g
 have hlong: ¬Builtin.List.listTooLong (its.toArray.size*k.toNat)=true:=by
  rw [jjE hlen]
  exact G0g
 have hnew:List.foldl (fun x1 x2=>x1++x2) #[] (List.replicate (if its.toArray.isEmpty=true then 0 else k.toNat) its.toArray)=(List.replicate k.toNat its).flatten.toArray:=by
  have f0: ∀m:Nat,List.foldl (fun x1 x2=>x1++x2) #[] (List.replicate m its.toArray)=(List.replicate m its).flatten.toArray:=fun m=>by
   have:=jdQ its m []
   rw [G0G] at this
   exact this
  rw [f0]
  cases its with
  |nil=>simp
  |cons a r' =>rw [if_neg (by simp)]
 refine wpAny_binaryOp_repeat_ref (T:= "list") (U:= "int") (by decide) ⟨_,e,rfl⟩ (fun s' =>G3e s' k t) noFill_list_mul F.fills_int_mul G2E repeat_list F.slot_int_index.lookup
  (G3f G2E (G3e s k t) F.entry_int_rmul (F.args_int_rmul_2 _ _) (int___rmul___int_list k t l its.toArray n)
   ⟨e,rfl,⟨_,e,rfl⟩,G3f F.slot_list_mul ⟨_,e,rfl⟩ F.entry_list_mul (F.args_list_mul_2 _ _) (AutoListH.list___mul___list_int_3 l its.toArray n k t hfit hcap hlong) ⟨e,?_⟩⟩)
 rw [hnew]
 exact⟨.ref _,_,I.lnew (t' :=s.toks) (r.rep k.toNat) (by rw [jgA,G2r];exact hz),rfl,q _ I.fresh⟩
end
end L2
namespace Att
open PySem PySem.W PySem.Calls PyProof.Rows
theorem jdR {P:Params} {h:Heap}: ∀ (ns:List Int) (vs:List Value),WellAll P h vs (ns.map WData.int)→IntsAre vs ns:=by
 intro ns
 induction ns with
 |nil=>
  intro vs w
  rw [G0Q] at w
  cases w
  exact .nil
 |cons n ns ih=>
  intro vs w
  rw [G0x] at w
  cases w with
  |cons a b=>
   cases a
   exact .cons _ _ (ih _ b)
theorem jih {l:OpenLaw} {n:Nat} (hn:l.most=some n) {P:Params} {h:Heap} {args:List WData} {vals:List Value}
 (hpre:l.row.toRowW.claim.pre args=true) (hwl:WellAll P h vals args):
 ∃a vs ns,vals= [Value.ref a]∧args= [WData.list (ns.map WData.int)]∧h.get? a=some {cls:= .type "list",data:= .seq vs.toArray}∧IntsAre vs ns∧ns.length≤n:=by
 have hsh:WShape.hasAll [] args [.list .int]=true:=(pre_splitW hpre).1
 have hc:l.pre.holds [] {args:=args}=true:=(pre_splitW hpre).2
 obtain⟨d,r,rfl,h1,h2⟩:=hasAllW_cons hsh
 obtain rfl:=hasAllW_nil h2
 obtain⟨xs,rfl,h3⟩:=hasW_list h1
 obtain⟨ns,rfl⟩:=items_int h3
 have hlen:ns.length≤n:=by
  unfold OpenLaw.pre at hc
  have h4:(WTm.not (.lt (.lit (.int (n:Int))) (.len (.arg 0)))).holds [] {args:= [.list (ns.map .int)]}=true:=by
   have h4:=(holds_andW hc).1
   rw [hn] at h4
   exact h4
  have h5:=condW_of h4 (w_not (w_lt w_lit (w_len_list (w_arg rfl))))
  rw [G0a] at h5
  refine Nat.le_of_not_lt fun q=> ?_
  have q' :(n:Int)<((ns.length:Nat):Int):=by omega
  first
   |(rw [G0r q'] at h5;exact absurd h5 (by decide))
   |(simp at h5;omega)
 cases hwl with
 |cons w1 w2=>
  cases w2
  cases w1 with
  |list ho hall=>exact⟨_,_,ns,rfl,rfl,ho,jdR ns _ hall,hlen⟩
theorem jii (l:OpenLaw) (args:List WData):l.row.toRowW.claim.post args (.bool true) args=true:=
 postW_of (r:=l.row.toRowW) (X:=(true==true))
  (show WShape.has [] (.bool true) .bool=true by first|rfl|decide|simp [WShape.has,WShape.arms,WShape.armsAll])
  (show (WTm.eq .res (.lit (.bool true))).value [] {args:=args,res:=some (.bool true),after:=args}=some (.bool (true==true)) from w_eq_bool (w_res rfl) w_lit) rfl
theorem attach_call {l:OpenLaw} {n:Nat} {q:Program} {loose:List Str} {XP:(Str→Option Value)→Heap→Prop} {YP:World→Heap→Prop} {d:DefRec}
 (hn:l.most=some n) (hdf:d.params.defaults= [])
 (call: ∀ (w:World) (s₀ s₁:Shared) (mg mb:Str→Option Value) (fa:Addr) (o:Obj) (pm cd doc:Value) (a:Addr) (vs:List Value) (ns:List Int),
  Ground q loose [] XP w s₀ mg mb s₁.heap→YP w s₁.heap→
  s₁.heap.get? fa=some o→o.data= .func (docDef d.name d.params d.body d.scope pm cd doc)→s₁.heap.CodeRec cd d.name→mg d.name=some (.ref fa)→
  s₁.heap.get? a=some {cls:= .type "list",data:= .seq vs.toArray}→IntsAre vs ns→ns.length≤n→s₁.gens= #[]→
  codeAny (model l.prog w) callerA (.call (.ref fa) ⟨[.ref a],[]⟩) (fun r s' =>r= .ok (.ret (.bool true))∧OldK s₁.heap s'.heap∧s'.os=s₁.os∧AllBare s'.gens) s₁):
 WalkO q loose XP YP l.row.toRowW d [] (fun f vs=>PySem.call f vs):=by
 intro w s₀ s₁ mg mb G Y fa o pm cd doc dV kV ho hd hcd hD hmg hg args vals as hpre hlay hrd hwl hlo
 obtain rfl:dV= .none:=Dflts.none hD hdf
 obtain rfl:kV= .none:=Dflts.noKw hD
 obtain⟨a,vs,ns,rfl,rfl,hobj,hints,hlen⟩:=jih hn hpre hwl
 refine enter_call (codeAny_mono (call w s₀ s₁ mg mb fa o pm cd doc a vs ns G Y ho (fd_plain hd) hcd hmg hobj hints hlen hg) fun r s' hq=> ?_)
 obtain⟨rfl,h2,h3,h4⟩:=hq
 exact⟨.inl ⟨.bool true,.bool true,[],rfl,fun _=>rfl,.bool true,jii l _,fun _=>⟨List.Pairwise.nil,fun _ hm=>(nomatch hm)⟩⟩,h2,h3,h4⟩
end Att
namespace L2
open PySem PySem.Spec PyProof.Rows
theorem jfP: ∀ {vs:List Value} {ns:List Int},IntsAre vs ns→Vals (ns.map V.int) vs
 |_,_,.nil=> .nil
 |_,_,.cons n t h=> .cons ⟨t,rfl⟩ (jfP h)
def jal (s:Stmt):Arguments:=match s with
 | .FunctionDef _ a _ _ _ _ _ _ _ _=>a
 |_=> {posonlyargs:= [],args:= [],vararg:=none,kwonlyargs:= [],kw_defaults:= [],kwarg:=none,defaults:= []}
def jaj (s:Stmt):List Stmt:=match s with
 | .FunctionDef _ _ b _ _ _ _ _ _ _=>b
 |_=> []
def jab (s:Stmt):Scope:=match s with
 | .FunctionDef _ _ _ _ _ _ sc _ _ _=>sc
 |_=> {kind:= .function,names:= [],isGenerator:=false,isCoroutine:=false}
abbrev CX0:CXT:=fun _ _ _ _ _ _=>False
abbrev E0:XK:=fun _ _ _=>False
theorem joq {X:Cx}:jib CX0 X E0:=fun _ _ _ _ _ _ _ h=>h.elim
structure Fun (K:PySem.W.Frag) (x qual:Str) (st:Stmt) (f:Addr) (fd:FuncData):Prop where
 ex: ∃ (oc:Value) (od:Option Addr) (kV doc pm:Value) (an:Option Addr) (cdv ct:Value) (osl:Array (Option Value)),
  fd=PySem.W.fnOf x qual (jal st) (jaj st) (jab st) .none kV doc pm an cdv ct∧K.lookup f=some ⟨oc,od,.func fd,osl⟩∧PySem.W.codeIn K cdv qual=true
 kp:PySem.W.keepIn K (.ref f)=true
section
variable {P:Program} {w:World} {K:PySem.W.Frag} {mg:Str→Option Value} {base:Heap}
theorem Fun.ok {x qual:Str} {st:Stmt} {f:Addr} {fd:FuncData} {N ps:List Str} {k:Nat} {sp:Sp} (F:Fun K x qual st f fd) (S:FnScope N ps (jab st)) (len: ∀vs H Q E,sp vs H Q E→vs.length=ps.length)
 (hbody: ∀ (cdv:Value) (A:Around) (outer:List Env) (s:Shared) (H:Hp) (vs:List V) (Q:VK) (E:XK),Room k (A.deeper (envOfC qual (jab st) s.heap.objs.size f cdv))→sp vs H Q E→
  ∃t,PSs (jkw CX0 P w K mg base N qual (jab st) f cdv A outer s H E).nox (jaj st) t∧t {nx:=fun _ H' =>Q .non H',rt:=Q} (jdN N vs) H):FnOk P w K mg base CX0 (k+1) f fd ps sp:=by
 obtain⟨oc,od,kV,doc,pm,an,cdv,ct,osl,rfl,lk,hcd⟩:=F.ex
 refine jok lk hcd S len fun A outer s H vs Q E hr hsp=> ?_
 obtain⟨t,h,q⟩:=hbody cdv A outer s H vs Q E hr hsp
 exact⟨t,h.nox,q⟩
theorem Fun.binds {x qual:Str} {st:Stmt} {f:Addr} {fd:FuncData} {ps:List Str} (F:Fun K x qual st f fd)
 (h: ∀ (kV doc pm:Value) (an:Option Addr) (cdv ct:Value) (us:List Value),us.length=ps.length→bindArgs (PySem.W.fnOf x qual (jal st) (jaj st) (jab st) .none kV doc pm an cdv ct) ⟨us,[]⟩=pure (ps.zip us)):Binds K fd ps []:=by
 obtain⟨oc,od,kV,doc,pm,an,cdv,ct,osl,rfl,lk,hcd⟩:=F.ex
 exact .all (h kV doc pm an cdv ct)
theorem jaz {x qual:Str} {st:Stmt} {f:Addr} {oc:Value} {od an:Option Addr} {osl:Array (Option Value)} {kV doc pm cdv ct:Value} (l:K.lookup f=some ⟨oc,od,.func (PySem.W.fnOf x qual (jal st) (jaj st) (jab st) .none kV doc pm an cdv ct),osl⟩)
 (c:PySem.W.codeIn K cdv qual=true) (k:PySem.W.keepIn K (.ref f)=true):Fun K x qual st f (PySem.W.fnOf x qual (jal st) (jaj st) (jab st) .none kV doc pm an cdv ct):=⟨⟨oc,od,kV,doc,pm,an,cdv,ct,osl,rfl,l,c⟩,k⟩
end
theorem jbK {n:Nat} (h:n≤1000):n<sizeLine:=G1Q h (by decide)
section
variable {X:Cx}
theorem pv (i:Nat) {x:Str} {pos:Pos} (hN:X.N[i]? =some x:=by rfl) (hv:Vis X.env.scope x:=by first|exact Or.inl rfl|exact Or.inr (Or.inl rfl)|exact Or.inr (Or.inr rfl)) (hd:(x==("__debug__" :Str))=false:=by decide)
 (hcd:(x==("__classdict__" :Str))=false:=by decide):PE X (.Name x pos) (jn7 i):=jkt hN hv hd hcd
end
theorem jdB {A B:Prop} (h:B):if false=true then A else B:=by
 rw [if_neg G0g]
 exact h
theorem jjp {A B:Prop} (h:A):if true=true then A else B:=by
 rw [if_pos rfl]
 exact h
theorem jjq {c A B:Prop} [Decidable c] (h1:c→A) (h2: ¬c→B):if c then A else B:=by
 by_cases h:c
 ·rw [if_pos h]
  exact h1 h
 ·rw [if_neg h]
  exact h2 h
structure M1 (X:Cx) (o:Expr) (m:Str) (apos:Pos) (e:Expr) (cpos:Pos):Prop where
 base:attributeBase o m X.env (eval o X.env)=eval o X.env
 few:((backTo cpos (starEach [e] X.env)).all (fun x=> !x.1)&&(backToKw cpos (keywordEach [] X.env)).all (fun x=>x.1.isSome)
  &&decide (([e]:List Expr).length+([]:List Keyword).length+(if ([]:List Keyword).isEmpty then 0 else 1)<30))=true
 line:(apos.endLine==cpos.line)=true
 trees:backTo cpos (starEach [e] X.env)= [(false,eval e X.env)]
structure M2 (X:Cx) (o:Expr) (m:Str) (apos:Pos) (e f:Expr) (cpos:Pos):Prop where
 base:attributeBase o m X.env (eval o X.env)=eval o X.env
 few:((backTo cpos (starEach [e,f] X.env)).all (fun x=> !x.1)&&(backToKw cpos (keywordEach [] X.env)).all (fun x=>x.1.isSome)
  &&decide (([e,f]:List Expr).length+([]:List Keyword).length+(if ([]:List Keyword).isEmpty then 0 else 1)<30))=true
 line:(apos.endLine==cpos.line)=true
 trees:backTo cpos (starEach [e,f] X.env)= [(false,eval e X.env),(false,eval f X.env)]
def jbS (names:List (Str×NameKind)) (env:Env) (cs:List (Str×Addr)):List (Str×Addr):=
 names.foldl (fun cs p=>if p.2= .free then (match env.cells.lookup p.1 with|some c=>(p.1,c)::cs|none=>cs) else cs) cs
theorem jbt (p:Str×NameKind) (l:List (Str×NameKind)) (env:Env) (cs:List (Str×Addr)):
 jbS (p::l) env cs=jbS l env (if p.2= .free then (match env.cells.lookup p.1 with|some c=>(p.1,c)::cs|none=>cs) else cs):=rfl
theorem jdS {env:Env} {f:Str×NameKind→List (Str×Addr)→Sem (ForInStep (List (Str×Addr)))}
 (h1: ∀p cs,p.2≠ .free→f p cs=pure (.yield cs)) (h2: ∀p cs c,p.2= .free→env.cells.lookup p.1=some c→f p cs=pure (.yield ((p.1,c)::cs))):
 ∀ (l:List (Str×NameKind)) (cs:List (Str×Addr)),(∀p∈l,p.2= .free→ ∃c,env.cells.lookup p.1=some c)→forIn l cs f=pure (jbS l env cs)
 | [],cs,_=>rfl
 |p::l,cs,h=>by
  have ih:=jdS h1 h2 l
  by_cases hp:p.2= .free
  ·obtain⟨c,hc⟩:=h p G0D hp
   rw [G19,h2 p cs c hp hc,pure_bind]
   show forIn l ((p.1,c)::cs) f=_
   rw [ih _ fun q hq=>h q (G0y _ hq),jbt,if_pos hp,hc]
  ·rw [G19,h1 p cs hp,pure_bind]
   show forIn l cs f=_
   rw [ih _ fun q hq=>h q (G0y _ hq),jbt,if_neg hp]
theorem je2 {scope:Scope} {env:Env} (h: ∀p∈scope.names,p.2= .free→ ∃c,env.cells.lookup p.1=some c):closureFor scope env=pure (jbS scope.names env []):=by
 simp only [closureFor]
 rw [jdS (env:=env) (fun p cs hp=> ?_) (fun p cs c hp hc=> ?_) _ _ h]
 ·rfl
 ·obtain⟨n,k⟩:=p
  have hb:(k==NameKind.free)=false:=by simpa using hp
  simp only [hb,G0J,G3s]
 ·obtain⟨n,k⟩:=p
  have hb:(k==NameKind.free)=true:=by simpa using hp
  have hc' :env.cells.lookup n=some c:=hc
  simp only [hb,if_true,cellOf,hc',pure_bind]
theorem jdT {env:Env}: ∀ (l:List (Str×NameKind)) (cs:List (Str×Addr)),(∀p∈cs,env.cells.lookup p.1=some p.2)→ ∀p∈jbS l env cs,env.cells.lookup p.1=some p.2
 | [],cs,h,p,hp=>h p hp
 |q::l,cs,h,p,hp=>by
  rw [jbt] at hp
  refine jdT l _ (fun r hr=> ?_) p hp
  by_cases hq:q.2= .free
  ·rw [if_pos hq] at hr
   cases e:env.cells.lookup q.1 with
   |none=>rw [e] at hr;exact h r hr
   |some c=>
    rw [e] at hr
    rcases G0v.mp hr with rfl|hr
    ·exact e
    ·exact h r hr
  ·rw [if_neg hq] at hr;exact h r hr
theorem jdU {env:Env}: ∀ (l:List (Str×NameKind)) (cs:List (Str×Addr)),∀p∈cs,p∈jbS l env cs
 | [],cs,p,hp=>hp
 |q::l,cs,p,hp=>by
  rw [jbt]
  refine jdU l _ p ?_
  by_cases hq:q.2= .free
  ·rw [if_pos hq]
   cases e:env.cells.lookup q.1 with
   |none=>exact hp
   |some c=>exact G0y _ hp
  ·rw [if_neg hq];exact hp
theorem jdV {env:Env} {x:Str} {c:Addr} (hc:env.cells.lookup x=some c): ∀ (l:List (Str×NameKind)) (cs:List (Str×Addr)),(x,NameKind.free)∈l→(x,c)∈jbS l env cs
 |q::l,cs,h=>by
  rw [jbt]
  rcases G0v.mp h with e|h
  ·subst e
   rw [if_pos rfl,hc]
   exact jdU l _ _ G0D
  ·exact jdV hc l _ h
theorem jbC {α:Type}: ∀ {l:List (Str×α)} {x:Str} {c:α},l.lookup x=some c→(x,c)∈l
 | [],_,_,h=>by simp at h
 |(n,k)::r,x,c,h=>by
  rw [G1i] at h
  cases hx:x==n with
  |true=>
   rw [hx] at h
   have e:x=n:=eq_of_beq hx
   cases h;subst e
   exact G0D
  |false=>rw [hx] at h;exact G0y _ (jbC h)
theorem jeB {α:Type}: ∀ {l:List (Str×α)} {x:Str} {c:α},(x,c)∈l→ ∃c',l.lookup x=some c'
 |(n,k)::r,x,c,h=>by
  rw [G1i]
  cases hx:x==n with
  |true=>exact⟨_,rfl⟩
  |false=>
   rcases G0v.mp h with e|h
   ·cases e;simp at hx
   ·exact jeB h
theorem jeC {l:List (Str×NameKind)} {env:Env} {x:Str} {c:Addr} (h:(jbS l env []).lookup x=some c):env.cells.lookup x=some c:=
 jdT l [] (fun _ z=>nomatch z) (x,c) (jbC h)
theorem jij {l:List (Str×NameKind)} {env:Env} {x:Str} {c:Addr} (hc:env.cells.lookup x=some c) (h:(x,NameKind.free)∈l):(jbS l env []).lookup x=some c:=by
 obtain⟨c',e⟩:=jeB (jdV hc l [] h)
 have:=jeC e
 rw [hc] at this;cases this
 exact e
theorem jcl {κ:Type} {f:Str×κ→Str×κ} {g:Str→κ→κ} (hf: ∀n k,f (n,k)=(n,g n k)) (x:Str): ∀l:List (Str×κ),(l.map f).lookup x=(l.lookup x).map (g x)
 | []=>rfl
 |(n,k)::r=>by
  rw [G0x,hf,G1i,G1i,jcl hf x r]
  cases same:x==n with
  |false=>rfl
  |true=>rw [eq_of_beq same];rfl
theorem jaO {env:Env} {names:List (Str×NameKind)} {x:Str} {k:NameKind} (found:
 (names.map fun (n,k)=>if (k==NameKind.free&&env.scope.kind== .function&&env.kindOf n==some .cell) then (n,NameKind.cell) else (n,k)).lookup x=some k):
  names.lookup x=some k∨names.lookup x=some .free:=by
 rw [jcl (g:=fun n k=>if (k==NameKind.free&&env.scope.kind== .function&&env.kindOf n==some .cell) then .cell else k) (fun n k=>by dsimp only;split<;>rfl)] at found
 obtain⟨k0,was,now⟩:=G2h.mp found
 split at now
 ·rename_i c
  simp only [G1q,beq_iff_eq] at c
  exact .inr (by rw [was,c.1.1])
 ·exact .inl (by rw [was,now])
theorem jbA: ∀ (names:List (Str×NameKind)) (n:Nat) (acc:List (Str×Addr)) (p:Str×Addr),p∈cellsFrom n names acc→p∈acc∨(n≤p.2∧(p.1,NameKind.cell)∈names)
 | [],_,_,_,h=> .inl h
 |(x,k)::r,n,acc,p,h=>by
  unfold cellsFrom at h
  split at h
  ·rename_i hk
   rcases jbA r (n+1) _ p h with z|⟨z1,z2⟩
   ·rcases G0v.mp z with e|z
    ·subst e
     have:k= .cell:=by simpa using hk
     subst this
     exact .inr ⟨G0d _,G0D⟩
    ·exact .inl z
   ·exact .inr ⟨by omega,G0y _ z2⟩
  ·rcases jbA r n acc p h with z|⟨z1,z2⟩
   ·exact .inl z
   ·exact .inr ⟨z1,G0y _ z2⟩
theorem jaG: ∀ (names:List (Str×NameKind)) (n:Nat) (acc:List (Str×Addr)),cellsFrom n names acc=cellsFrom n names []++acc
 | [],_,_=>rfl
 |(x,k)::r,n,acc=>by
  unfold cellsFrom
  split
  ·rw [jaG r (n+1) ((x,n)::acc),jaG r (n+1) [(x,n)],G2P];rfl
  ·exact jaG r n acc
theorem jdm {α:Type} (l l' :List (Str×α)) (x:Str):(l++l').lookup x=(match l.lookup x with|some c=>some c|none=>l'.lookup x):=by
 induction l with
 |nil=>rfl
 |cons p l ih=>
  obtain⟨n,c⟩:=p
  rw [G0F,G1i,G1i]
  cases x==n with
  |true=>rfl
  |false=>exact ih
theorem jcZ {env:Env} {names:List (Str×NameKind)} {x:Str} (here:names.lookup x=some .cell):
 (names.map fun (n,k)=>if (k==NameKind.free&&env.scope.kind== .function&&env.kindOf n==some .cell) then (n,NameKind.cell) else (n,k)).lookup x=some .cell:=by
 rw [jcl (g:=fun n k=>if (k==NameKind.free&&env.scope.kind== .function&&env.kindOf n==some .cell) then .cell else k) (fun n k=>by dsimp only;split<;>rfl),here]
 simp
section
variable {M:Model} {A:Around} {E:Value→Shared→Prop} {s:Shared}
theorem jhB (h:Heap) (names:List (Str×NameKind)):(∀n c,(n,c)∈cellsFrom h.objs.size names []→(pushCells h names).IsCell c none∧h.objs.size≤c)∧(cellsFrom h.objs.size names []).Pairwise fun x y=>x.2≠y.2:=
 have laid:=cellsFrom_ok names h h.objs.size [] ⟨by simp,.nil⟩ (G0d _)
 ⟨laid.empty,laid.apart⟩
theorem jfQ {scope:Scope} {globals:Addr} {closure:List (Str×Addr)} {qual:Str} {func:Option Addr} {code:Value} {outer:Env} {builtins:Addr} {Q:Env→Shared→Prop}
 (hQ: ∀h',h'.Ns s.heap.objs.size (fun _=>none)→(∀b o,s.heap.get? b=some o→h'.get? b=some o)→(∀n c,(n,c)∈cellsFrom (s.heap.objs.size+1) scope.names []→h'.IsCell c none∧s.heap.objs.size+1≤c)→
  ((cellsFrom (s.heap.objs.size+1) scope.names []).Pairwise fun x y=>x.2≠y.2)→
  Q (newEnv scope s.heap.objs.size globals (cellsFrom (s.heap.objs.size+1) scope.names closure) qual func code (some outer) builtins) {s with heap:=h'}):
 wpAny M A (newFunctionEnv scope globals closure [] qual func code (some outer) builtins) Q E s:=by
 have names:=jhB (s.heap.push {cls:= .type "dict",data:= .dict #[]}) scope.names
 have first:(s.heap.push {cls:= .type "dict",data:= .dict #[]}).objs.size=s.heap.objs.size+1:=G2N ..
 rw [first] at names
 unfold newFunctionEnv
 refine wpAny_bind (wpAny_alloc (wpAny_bind (wpAny_layCells _ (fun n k cs=>rfl) _ _ _ _ ?_)))
 simp only [Option.isSome_some,if_true]
 rw [first]
 exact wpAny_bind (G0c (G0c (hQ _ ((Heap.Ns.new _ _).keeps (pushCells_keeps _ _)) (fun b o here=>pushCells_keeps _ _ b o (G0b _ here)) names.1 names.2)))
end
def jaD (X:Cx) (scope:Scope) (C:Addr):List (Str×Addr):=cellsFrom (C+1) scope.names (jbS scope.names X.env [])
def je3 (X:Cx) (scope:Scope) (C:Addr) (s₀:Shared) (H₀:Hp) (ex:List Addr):Cx:=
 {X with s₀:=s₀,H₀:=H₀,env:=compEnvC scope (jaD X scope C) C X.env,outer:=X.stack,ex:=ex,fn:=fun x=>scope.names.lookup x==some .cell,pn:= [],xe:=fun _ _=>False}
def ja6 (X:Cx) (scope:Scope) (X' :Cx):Prop:= ∃C s₀ H₀ ex,X' =je3 X scope C s₀ H₀ ex
structure BlockOk (X:Cx) (scope:Scope) (js:List Nat):Prop where
 kind:scope.kind= .function
 locs: ∀p∈scope.names,p.2= .local→scope.names.lookup p.1=some .local
 cels: ∀p∈scope.names,p.2= .cell→scope.names.lookup p.1=some .cell
 free: ∀p∈scope.names,p.2= .free→X.env.scope.names.lookup p.1=some .cell∨X.env.scope.names.lookup p.1=some .free
 js: ∀ (i:Nat) (x:Str),X.N[i]? =some x→(scope.names.lookup x=some .local∨scope.names.lookup x=some .cell)→i∈js
theorem jb1 {X:Cx} {scope:Scope} {js:List Nat} (S:BlockOk X scope js) {C:Addr} {x:Str} {c:Addr} (h:(jaD X scope C).lookup x=some c):
 (scope.names.lookup x≠some .cell∧X.env.cells.lookup x=some c)∨(scope.names.lookup x=some .cell∧(x,c)∈cellsFrom (C+1) scope.names []):=by
 unfold jaD at h
 rw [jaG,jdm] at h
 cases e:(cellsFrom (C+1) scope.names []).lookup x with
 |some d=>
  rw [e] at h
  cases h
  have m:=jbC e
  rcases jbA _ _ _ _ m with z|⟨_,z⟩
  ·exact absurd z (by simp)
  ·exact .inr ⟨S.cels _ z rfl,m⟩
 |none=>
  rw [e] at h
  refine .inl ⟨fun z=> ?_,jeC h⟩
  obtain⟨d,hd⟩:=jdG (sc:=scope) (n:=C+1) z
  rw [e] at hd;cases hd
theorem jdz {X:Cx} {scope:Scope} {js:List Nat} (S:BlockOk X scope js) {C:Addr} {x:Str} {c:Addr} (hc:X.env.cells.lookup x=some c) (h:(x,NameKind.free)∈scope.names) (hn:scope.names.lookup x≠some .cell):(jaD X scope C).lookup x=some c:=by
 unfold jaD
 rw [jaG,jdm]
 cases e:(cellsFrom (C+1) scope.names []).lookup x with
 |some d=>
  rcases jbA _ _ _ _ (jbC e) with z|⟨_,z⟩
  ·exact absurd z (by simp)
  ·exact absurd (S.cels _ z rfl) hn
 |none=>exact jij hc h
def jb2:List Nat→St→St
 | [],σ=>σ
 |j::js,σ=>jb2 js (σ.set j none)
theorem jeD: ∀ (js:List Nat) (σ:St),(jb2 js σ).length=σ.length
 | [],_=>rfl
 |j::js,σ=>by rw [jb2,jeD js];simp
theorem jdW: ∀ (js:List Nat) (σ:St) (i:Nat) (v:V),(jb2 js σ)[i]? =some (some v)→σ[i]? =some (some v)
 | [],_,_,_,h=>h
 |j::js,σ,i,v,h=>by
  have h1:=jdW js _ i v h
  by_cases e:i=j
  ·subst e
   rw [G2j] at h1
   simp at h1
  ·rwa [G1h (Ne.symm e)] at h1
theorem jbL: ∀ (js:List Nat) (σ:St) (i:Nat) (v:V),i∈js→ ¬ (jb2 js σ)[i]? =some (some v)
 |j::js,σ,i,v,hm,h=>by
  rcases G0v.mp hm with rfl|hm
  ·have h1:=jdW js _ i v h
   rw [G2j] at h1
   simp at h1
  ·exact jbL js _ i v hm h
theorem HOk.track {P:Program} {w:World} {H:Hp} {h:Heap} {a:Addr} {o:HO} (x:HOk P w H h) (hn:H a=none) (new:ObjOk P w (upd H a o) h a o):HOk P w (upd H a o) h:=fun b u e=>by
 by_cases hb:b=a
 ·subst hb;rw [jao] at e;cases e;exact new
 ·rw [jan hb] at e
  exact(x b u e).stay (fun c v _ q=>q) (fun c q=>by rw [jan (jah q hn)];exact q) fun c xs q=>by rw [jan (jah q hn)];exact q
def Agree (σ σ' :St):Prop:=σ'.length=σ.length∧ ∀ (i:Nat) (v:V),σ[i]? =some (some v)→σ'[i]? =some (some v)
theorem Agree.set {σ:St} {j:Nat} (v:V) (h: ∀u,¬σ[j]? =some (some u)):Agree σ (σ.set j (some v)):=⟨by simp,fun i u q=>by
 by_cases e:j=i
 ·subst e;exact absurd q (h u)
 ·rw [G1h e];exact q⟩
theorem Agree.trans {a b c:St} (x:Agree a b) (y:Agree b c):Agree a c:=⟨y.1.trans x.1,fun i v h=>y.2 i v (x.2 i v h)⟩
def PTs (X:Cx) (ifs:List Expr) (t:TT):Prop:=
 ∀ (pins:List (Addr×Obj)) (s:Shared) (σ:St) (H:Hp) (Q:Bool→Hp→Prop),Inv X pins σ H s→t σ H Q→
  wpAny (model X.prog X.w) X.A (forIn ifs true fun c r=>if r=true then do let ok ←isTrue c X.env (eval c X.env);pure (ForInStep.yield ok) else pure (ForInStep.yield r)) (TP X pins σ Q) X.xe s
def jpd:TT:=fun _ H Q=>Q true H
theorem jlg {X:Cx}:PTs X [] jpd:=fun _ _ _ H _ I h=>wpAny_tests_nil ⟨H,I,h⟩
def jik (iter target:Expr) (ifs:List Expr) (it:Value) (env:Env) (act:Sem Unit) (nxt:Code):Sem PySem.Fin:=do
 standAt iter.pos
 match ←pyNext it with
 |none=>pure (.done .next)
 |some v=>
  letOwnedTupleGo target it v
  assign target env v
  let mut ok:=true
  for c in ifs do
   if ok then ok ←isTrue c env (eval c env)
  if ok then act
  again nxt
theorem jjF {prog:Program} {w:World} {A:Around} {R:Result→Shared→Prop} {s:Shared} {elt target iter:Expr} {gens:List Comprehension} {scope:Scope} {pos:Pos} {ifs:List Expr} {depth:Nat} {it acc:Value} {env:Env} {act:Sem Unit} (I:Nat→Shared→Prop)
 (heq:compTurn (.ListComp elt gens scope pos) depth it acc env=jik iter target ifs it env act (.compLoop (.ListComp elt gens scope pos) depth it acc env))
 (turn: ∀n s,I n s→wpAny (model prog w) A (pyNext it) (fun r s₁=>match r with
  |none=>R (.ok .next) s₁
  |some v=>wpAny (model prog w) A (letOwnedTupleGo target it v) (fun _ s₁=>wpAny (model prog w) A (assign target env v) (fun _ s₂=>
   wpAny (model prog w) A (forIn ifs true fun c r=>if r=true then do let ok ←PySem.isTrue c env (eval c env);pure (ForInStep.yield ok) else pure (ForInStep.yield r)) (fun ok s₃=>
    if ok=true then wpAny (model prog w) A act (fun _ s₅=> ∃m,m<n∧I m s₅) (fun _ _=>False) s₃
    else ∃m,m<n∧I m s₃) (fun _ _=>False) s₂) (fun _ _=>False) s₁) (fun _ _=>False) s₁) (fun _ _=>False) s)
 (n:Nat) (h:I n s):
 codeAny (model prog w) A (.compLoop (.ListComp elt gens scope pos) depth it acc env) R s:=by
 refine codeAny_loop rfl I (fun n s hI=> ?_) n h
 show wpAny _ A ((compTurn (.ListComp elt gens scope pos) depth it acc env).onRaise (fun x=>do noteFrame x env;theTreesLotGoes x)) _ _ s
 refine wpAny_noted ?_
 rw [heq]
 unfold jik
 refine wpAny_bind (wpAny_standAt (wpAny_bind (G0U (turn n s hI) (fun r s₁ h₁=> ?_) fun _ _ h' =>h'.elim)))
 cases r with
 |none=>exact G0c h₁
 |some v=>
  refine wpAny_bind (G0U h₁ (fun _ s₁ h₁=> ?_) fun _ _ h' =>h'.elim)
  refine wpAny_bind (G0U h₁ (fun _ s₂ h₂=>wpAny_bind (G0U h₂ (fun ok s₃ h₃=> ?_) fun _ _ h' =>h'.elim)) fun _ _ h' =>h'.elim)
  cases ok with
  |false=>exact G0c ⟨rfl,h₃⟩
  |true=>exact wpAny_bind (G0U h₃ (fun _ s₅ h₅=>G0c ⟨rfl,h₅⟩) fun _ _ h' =>h'.elim)
abbrev TM:=St→Hp→List V→(List V→Hp→Prop)→Prop
def jpe (X:Cx) (D:Addr) (act:Sem Unit) (t:TM):Prop:=
 ∀ (pins:List (Addr×Obj)) (s:Shared) (σ:St) (H:Hp) (ys:List V) (us:List Value) (Q:List V→Hp→Prop),Inv X ([(D,LCg.lst us)]++pins) σ H s→Vals ys us→ys.length≤sizeLine→D∈X.ex→(∀x c,X.env.cells.lookup x=some c→c≠D)→(∀p∈X.pn++pins,p.1≠D)→t σ H ys Q→
  wpAny (model X.prog X.w) X.A act (fun _ s' => ∃ys' us' H',Vals ys' us' ∧Inv X ([(D,LCg.lst us')]++pins) σ H' s' ∧Q ys' H') (fun _ _=>False) s
def jpf (te:TE):TM:=fun σ H ys Q=>te σ H fun y H1=>Q (ys++ [y]) H1
def jil (elt:Expr) (env:Env) (acc:Value):Sem Unit:=do let _ ←call (.builtin "list.append") [acc,←eval elt env]
theorem jjG {X:Cx} {D:Addr} {elt:Expr} {te:TE} (hx:X.xe=fun _ _=>False) (he:PE X elt te):jpe X D (jil elt X.env (.ref D)) (jpf te):=by
 intro pins s σ H ys us Q I hv hz DX cD pD h
 have q:=he _ s σ H _ I h
 rw [hx] at q
 unfold jil
 refine wpAny_bind (G0U q (fun y s1 ⟨yv,H1,I1,r1,q1⟩=> ?_) fun _ _ z=>z)
 have zD:=I1.pin (D,LCg.lst us) (G0u _ (G1g _ G0D))
 refine wpAny_bind (append_at (its:=us.toArray) (n:=us.length) zD.1 (fun h11 hs11 hD11=>G0c ?_) (by rw [G0f,←hv.length];exact hz))
 have I10u:Inv X pins σ H1 s1:=I1.pins_of fun p hp=>I1.pin p (G0u _ (G0u _ hp))
 have I11:Inv X pins σ H1 {s1 with heap:=h11}:=I10u.turned (t' :=s1.toks) (it:=D) (fun b o hb e=>hs11.extBut b o hb e) zD.2.1 zD.2.2.1 (.inl DX) cD pD
 have eD:h11.get? D=some (LCg.lst (us++ [y])):=by rw [hD11];exact congrArg some (LCg.lst_snoc us y)
 refine⟨ys++ [yv],us++ [y],H1,hv.append (.cons r1 .nil),I11.pins_of fun p hp=> ?_,q1⟩
 rcases G1c.mp hp with z|z
 ·rcases G0z.mp z with rfl
  exact⟨eD,zD.2.1,zD.2.2.1,zD.2.2.2.1,fun v z=>by cases z⟩
 ·exact I11.pin p (G0u _ z)
def jpg (js : List Nat) (wi : TI) (g : TG) (tt : TT) (tm : TM) : TE := fun σ H Q => wi σ H fun J H1 =>
  ∃ W : Nat → Nat → List V → Hp → Prop, (∃ m, W 0 m [] H1) ∧ ∀ i m ys H, W i m ys H → ys.length ≤ sizeLine ∧
    ((J.stop i H ∧ ∀ p, H p = none → Q (.ref p) (upd H p (.lst ys))) ∨
     (J.go i H ∧ ∀ x H', J.yld i H x H' → g x (jb2 js σ) H' fun σ2 H2 => Agree (jb2 js σ) σ2 ∧ tt σ2 H2 fun b H3 =>
        if b = true then tm σ2 H3 ys fun ys' H4 => ∃ m', m' < m ∧ W (i + 1) m' ys' H4 else ∃ m', m' < m ∧ W (i + 1) m' ys H3))
def tLC (js:List Nat) (wi:TI) (g:TG) (tt:TT) (te:TE):TE:=jpg js wi g tt (jpf te)
theorem jmY {X:Cx} {e elt iter tg:Expr} {ifs:List Expr} {rest:List Comprehension} {scope:Scope} {pos pos0:Pos} {js:List Nat} {wi:TI} {g:TG} {tt:TT} {tm:TM} {use:Option (Value→Sem Unit)} {Qv:Value→Shared→Prop} (hc:X.calm=true) (S:BlockOk X scope js) (hi:PI X tg iter wi)
 (he0:e= .ListComp elt (⟨tg,iter,ifs,0⟩::rest) scope pos)
 (hg: ∀X',ja6 X scope X' →PG X' tg g) (ht: ∀X',ja6 X scope X' →PTs X' ifs tt)
 (act:Env→Value→Sem Unit) (hturn: ∀it acc env,compTurn e 0 it acc env=jik iter tg ifs it env (act env acc) (.compLoop e 0 it acc env)) (he: ∀X',ja6 X scope X' → ∀D,jpe X' D (act X'.env (.ref D)) tm)
 (hs: ∀x,foldedSetIterable iter X.env x=pure x) {pins:List (Addr×Obj)} {s:Shared} {σ:St} {H:Hp} {Q:VK} (I:Inv X pins σ H s) (h:jpg js wi g tt tm σ H Q)
 (fin: ∀ (D C:Addr) (H' :Hp) (s' :Shared) (m:Str→Option Value),s'.heap.Ns C m→(∀h',Heap.SameBut C s'.heap h' →Inv X pins σ H' {s' with heap:=h'})→H' C=none→C≠X.env.locals→C ∉ X.fs→X.s₀.heap.objs.size≤C→(∀x c,X.env.cells.lookup x=some c→c≠C)→(∀p∈X.pn++pins,p.1≠C)→
  Q (.ref D) H' →compPost (model X.prog X.w) X.A X.xe use Qv (.ref D) C (.ok .next) s'):
 wpAny (model X.prog X.w) X.A (comprehension e scope X.env pos0 (newList []) false (eval iter X.env) use) Qv X.xe s:=by
 have hclos:=je2 (scope:=scope) (env:=X.env) (fun p hp e=>I.ok.has p.1 (S.free p hp e))
 subst he0
 refine wpAny_comprehension_free (use:=use) rfl hs hclos S.kind S.locs (thn (hi pins s σ H _ I h) fun v s1 h1=>thn h1 fun itv s2 h2=> ?_)
 obtain⟨it,fp,tn,J,H2,e,I2,T,st2,f2,W,⟨m0,w0⟩,turn⟩:=h2
 subst e
 refine G1F (jfQ (fun h₁ hns₁ hkp₁ hcl₁ hap₁=> ?_))
 dsimp only at hns₁ hkp₁ hcl₁ hap₁ ⊢
 generalize hD:s2.heap.objs.size=D
 generalize hH3:s2.heap.push {cls:= .type "list",dict:=none,data:= .seq ([]:List Value).toArray}=h3 at hns₁ hkp₁ hcl₁ hap₁ ⊢
 have sz3:h3.objs.size=D+1:=by rw [←hH3,G2N,hD]
 have up3: ∀b o,s2.heap.get? b=some o→h3.get? b=some o:=fun b o e=>hH3 ▸ G0b _ e
 have I3:Inv X pins σ H2 {s2 with heap:=h3}:=I2.kept (t' :=s2.toks) up3
 have hD3:h3.get? D=some (LCg.lst []):=by rw [←hH3,←hD];exact G0m _ rfl
 have fD:jh2 X pins H2 D:=I2.fpOk (by rw [hD];exact G0d _) (I2.hok.fresh (by rw [hD];exact G0d _))
 have obf: ∀b∈fp,∃o,s2.heap.get? b=some o∧ ∀v,o.data≠ .cell v:=T.obj _ _ st2
 have ltf: ∀b∈fp,b<D:=fun b hb=>by obtain⟨o,e,_⟩:=obf b hb;rw [←hD];exact G0k e
 generalize hC:h3.objs.size=C at hns₁ hcl₁ hap₁ ⊢
 have CD:C=D+1:=hC.symm.trans sz3
 have upC: ∀b o,h3.get? b=some o→h₁.get? b=some o:=hkp₁
 generalize hX:je3 X scope C {s2 with heap:=h3} H2 (fp++ [D])=X'
 have iX:ja6 X scope X' :=⟨C,_,_,_,hX.symm⟩
 have hf: ∀b∈fp++ [D],jh2 X pins H2 b:=fun b hb=>(G1c.mp hb).elim (f2 b) fun z=>by rw [G0z.mp z];exact fD
 have cl: ∀x c,(jaD X scope C).lookup x=some c→X.env.cells.lookup x=some c∨C<c:=fun x c e=>by
  rcases jb1 S e with ⟨_,z⟩|⟨_,z⟩
  ·exact .inl z
  ·exact .inr (G2k (hcl₁ x c z).2)
 have olt: ∀x c,X.env.cells.lookup x=some c→c<C:=fun x c e=>by obtain⟨v,q⟩:=I3.cell x c e;rw [←hC];exact q.lt
 have ltb: ∀b∈fp++ [D],b<C:=fun b hb=>(G1c.mp hb).elim (fun z=>by have:=ltf b z;rw [CD];exact G2Q this) fun z=>by rw [G0z.mp z,CD];exact G1M _
 have okX:X'.Ok:=by
  subst hX
  refine⟨I.ok.mod,S.kind,I.ok.glob,I.ok.blt,G25 hC,fun x y c e1 e2=> ?_,fun x hx=> ?_,fun x c z e=> ?_,I.ok.hd,I.ok.frames,.inl rfl,fun b hb=>⟨G0I (ltb b hb),fun x c e=>(cl x c e).elim (fun z=>(hf b hb).2.2.2.2.1 x c z) fun z=>G2q (G1K (ltb b hb) z)⟩,
   I3.bs,G0T I.ok.bsz I3.sz,fun b o e hb=> ?_,fun b hb z=> ?_,I3.stack,I3.stkFree⟩
  ·rcases jb1 S e1 with ⟨_,z1⟩|⟨_,z1⟩<;>rcases jb1 S e2 with ⟨_,z2⟩|⟨_,z2⟩
   ·exact I.ok.inj x y c z1 z2
   ·exact absurd (G1K (olt x c z1) (G2k (hcl₁ y c z2).2)) (G0R _)
   ·exact absurd (G1K (olt y c z2) (G2k (hcl₁ x c z1).2)) (G0R _)
   ·exact name_of_addr hap₁ z1 z2
  ·have own:scope.names.lookup x=some .cell→ ∃c,(jaD X scope C).lookup x=some c:=fun z=>by
    obtain⟨c,hc⟩:=jdG (sc:=scope) (n:=C+1) z
    exact⟨c,by unfold jaD;rw [jaG,jdm,hc]⟩
   have shr:scope.names.lookup x=some .free→ ∃c,(jaD X scope C).lookup x=some c:=fun z=>by
    have fm:=jbC z
    obtain⟨c,hc⟩:=I.ok.has x (S.free _ fm rfl)
    exact⟨c,jdz S hc fm (by rw [z];decide)⟩
   rcases hx with hx|hx
   ·rcases jaO (env:=X.env) hx with z|z
    ·exact own z
    ·exact shr z
   ·rcases jaO (env:=X.env) hx with z|z<;>exact shr z
  ·have z' :scope.names.lookup x=some .cell:=by
    have z2:(scope.names.lookup x==some NameKind.cell)=true:=z
    simpa using z2
   rcases jb1 S e with ⟨n,_⟩|⟨_,m⟩
   ·exact absurd z' n
   ·show h3.objs.size≤c
    rw [hC];exact G0Y (G2k (hcl₁ x c m).2)
  ·rcases (hf b hb).2.2.2.1 with z|z
   ·exact I.ok.noex b o e z
   ·exact absurd (G0C (G0k e) (G0T I.ok.bsz z)) (G0R _)
  ·rcases G0v.mp (I.stkSub b z) with q|q
   ·exact(hf b hb).2.1 q
   ·exact(hf b hb).2.2.1 q
 -- the block's first state
 have I4:Inv X' [(D,LCg.lst [])] (jb2 js σ) H2 {s2 with heap:=h₁}:=by
  subst hX
  have hDC:D≠C:=by rw [CD];exact G0I (G1M _)
  refine⟨okX,rfl,I2.bare,Un.kept (fun b u e=>upC b u e),⟨_,hns₁,fun i x v e1 e2 e3=> ?_⟩,fun x c e=> ?_,I3.hok.fresh (G25 hC),fun x c e=>(cl x c e).elim (fun z=>I2.freeC x c z) (fun z=>I3.hok.fresh (by rw [←hC] at z;exact G0Y z)),fun p hp=> ?_,I3.hok.kept upC,(jeD js σ).trans I2.len⟩
  ·have fr:scope.names.lookup x=some .free:=by
    rcases e3 with e3|e3|e3
    ·rcases jaO (env:=X.env) e3 with z|z
     ·exact absurd e2 (jbL js σ i v (S.js i x e1 (.inl z)))
     ·exact z
    ·rcases jaO (env:=X.env) e3 with z|z
     ·exact absurd e2 (jbL js σ i v (S.js i x e1 (.inr z)))
     ·exact z
    ·rcases jaO (env:=X.env) e3 with z|z<;>exact z
   have fm:=jbC fr
   obtain⟨m,hm,hl⟩:=I2.loc
   have vis:=S.free _ fm rfl
   obtain⟨u,r,lk⟩:=hl i x v e1 (jdW js σ i v e2) (.inr vis)
   have kd:(relabel scope X.env).names.lookup x=some .cell∨(relabel scope X.env).names.lookup x=some .free:=by
    rcases e3 with e3|e3|e3
    ·rcases jaO (env:=X.env) e3 with z|z
     ·rw [fr] at z;cases z
     ·exfalso
      have z2:=e3
      -- a local's kind stays
      exact absurd e2 (jbL js σ i v (S.js i x e1 (.inl (by
       have q: ∀ (l:List (Str×NameKind)),(l.map fun (n,k)=>if (k==NameKind.free&&X.env.scope.kind== .function&&X.env.kindOf n==some .cell) then (n,NameKind.cell) else (n,k)).lookup x=some .local→l.lookup x=some .local:=by
        intro l
        induction l with
        |nil=>intro h;simp at h
        |cons p l ih=>
         obtain⟨n,k'⟩:=p
         intro h
         have h' :List.lookup x ((if (k' ==NameKind.free&&X.env.scope.kind== .function&&X.env.kindOf n==some .cell)=true then (n,NameKind.cell) else (n,k'))::(l.map fun (n,k)=>if (k==NameKind.free&&X.env.scope.kind== .function&&X.env.kindOf n==some .cell) then (n,NameKind.cell) else (n,k)))=some .local:=h
         rw [G1i]
         by_cases hc:(k' ==NameKind.free&&X.env.scope.kind== .function&&X.env.kindOf n==some .cell)=true
         ·rw [if_pos hc,G1i] at h'
          cases hx:x==n with
          |true=>rw [hx] at h';cases h'
          |false=>rw [hx] at h';exact ih h'
         ·rw [if_neg hc,G1i] at h'
          cases hx:x==n with
          |true=>rw [hx] at h';exact h'
          |false=>rw [hx] at h';exact ih h'
       exact q _ z2))))
    ·exact .inl e3
    ·exact .inr e3
   rcases lk with ⟨k,_⟩|⟨_,c,hc,hcell⟩
   ·have k' :X.env.scope.names.lookup x=some .local:=k
    rcases vis with z|z<;>(rw [k'] at z;cases z)
   ·refine⟨u,r,.inr ⟨kd,c,jdz S hc fm (by rw [fr];decide),?_⟩⟩
    obtain⟨o,ho,hd⟩:=hcell
    exact⟨o,upC _ _ (up3 _ _ ho),hd⟩
  ·rcases jb1 S e with ⟨_,z⟩|⟨_,z⟩
   ·obtain⟨v,o,ho,hd⟩:=I2.cell x c z
    exact⟨v,o,upC _ _ (up3 _ _ ho),hd⟩
   ·exact⟨none,(hcl₁ x c z).1⟩
  ·have hp' :p∈ [(D,LCg.lst [])]:=hp
   rcases G0z.mp hp' with rfl
   refine⟨upC _ _ hD3,fD.1,hDC,fun z=> ?_,fun v z=>by cases z⟩
   rcases G0v.mp (I.stkSub D z) with q|q
   ·exact fD.2.1 q
   ·exact fD.2.2.1 q
 have st4:tn 0 h₁:=T.keep _ _ _ st2 fun b _ o e=>upC _ _ (up3 _ _ e)
 have eA:X'.A=X.A:=by rw [←hX];rfl
 have eP:X'.prog=X.prog:=by rw [←hX];rfl
 have eW:X'.w=X.w:=by rw [←hX];rfl
 have eK:X'.K=X.K:=by rw [←hX];rfl
 have eC:X'.calm=true:=by rw [←hX];exact hc
 have eV:X'.env=compEnvC scope (jaD X scope C) C X.env:=by rw [←hX];rfl
 have eE:X'.xe=fun _ _=>False:=by rw [←hX];rfl
 -- what stays true of the iterator's objects
 have stat: ∀ {us:List Value} {H' :Hp},(∀b∈fp,H' b=none)→ ∀b∈fp,jh2 X' [(D,LCg.lst us)] H' b:=fun {us H'} hn b hb=>by
  have q:=hf b (G1g _ hb)
  subst hX
  refine⟨hn b hb,G0I (ltb b (G1g _ hb)),fun z=> ?_,.inl (G1g _ hb),fun x c e=>(cl x c e).elim (fun z=>q.2.2.2.2.1 x c z) (fun z=>G2q (G1K (ltb b (G1g _ hb)) z)),fun p hp=> ?_⟩
  ·rcases G0v.mp (I.stkSub b z) with r|r
   ·exact q.2.1 r
   ·exact q.2.2.1 r
  ·have hp' :p∈ [(D,LCg.lst us)]:=hp
   rcases G0z.mp hp' with rfl
   exact G2q (ltf b hb)
 have loop: ∀s₃:Shared,s₃= {s2 with heap:=h₁}→
  codeAny (model X.prog X.w) X.A (.compLoop (.ListComp elt (⟨tg,iter,ifs,0⟩::rest) scope pos) 0 (.ref it) (.ref D) (compEnvC scope (jaD X scope C) C X.env))
   (compPost (model X.prog X.w) X.A X.xe use Qv (.ref D) C) s₃:=by
  rintro s₃ rfl
  refine jjF (act:=act (compEnvC scope (jaD X scope C) C X.env) (.ref D)) (fun n s' => ∃i ys us H',Vals ys us∧Inv X' [(D,LCg.lst us)] (jb2 js σ) H' s' ∧tn i s'.heap∧(∀b∈fp,H' b=none)∧W i n ys H') (hturn _ _ _) ?_ m0
   ⟨0,[],[],H2,.nil,I4,st4,fun b hb=>(f2 b hb).1,w0⟩
  rintro n s5 ⟨i,ys,us,H5,hv5,I5,st5,fr5,w5⟩
  obtain⟨hz,tr⟩:=turn i n ys H5 w5
  rcases tr with ⟨stop,qn⟩|⟨go,step⟩
  ·have q:=T.done X' eP eW eK eC i _ s5 _ H5 (fun _ _=>False) I5 (stat fr5) st5 stop
   rw [eA] at q
   refine G0U q (fun r s6 ⟨hr,I6⟩=> ?_) fun _ _ z=>z
   subst hr
   obtain⟨m6,hm6,_⟩:=I6.loc
   rw [eV] at hm6
   have zD:=I6.pin (D,LCg.lst us) (G0u _ G0D)
   have HD:H5 D=none:=zD.2.1
   have oD:s6.heap.get? D=some (LCg.lst us):=zD.1
   have hDC:D≠C:=by rw [CD];exact G0I (G1M _)
   have HC:H5 C=none:=by have z:=I6.free;rw [eV] at z;exact z
   have B:=I6.base
   have os6:s6.os=s2.os:=by have z:=I6.os;rw [←hX] at z;exact z
   have Bu:Un (frs X.stack) (fp++ [D]) H2 H5 h3 s6.heap:=by rw [←hX] at B;exact B
   have neC: ∀b o,h3.get? b=some o→b≠C:=fun b o e=>by rw [←hC];exact G0I (G0k e)
   refine fin D C (upd H5 D (.lst ys)) s6 m6 hm6 (fun h' hs' => ?_) (by rw [jan (Ne.symm hDC)];exact HC) ?_ ?_ ?_ (fun x c e=>G0I (olt x c e)) ?_ (qn D HD)
   ·have hk5:HOk X.prog X.w H5 h' :=fun b u e=>by
     have z:=I6.hok b u e
     rw [eP,eW] at z
     refine z.stay (fun c v hc q=>hs'.extBut c v ?_ q) (fun _ q=>q) fun _ _ q=>q
     rcases hc with rfl|hc
     ·exact jah e HC
     ·exact jah hc HC
    refine I3.call' (ch:=fp++ [D]) os6 ⟨fun b o e n hb hx=> ?_,fun b o e n hb hx=> ?_,fun b o e n hx=> ?_,fun b o e hx=> ?_,fun b xs e=> ?_,fun b o u e=> ?_,fun b ps e=> ?_⟩ (hk5.track HD ?_) I6.bare fun b hb=> ?_
    ·exact hs'.extBut b o (neC b o e) (Bu.keep b o e n hb hx)
    ·obtain⟨sl,q⟩:=Bu.slot b o e n hb hx
     exact⟨sl,hs'.extBut b _ (neC b o e) q⟩
    ·rw [jan fun z=>hx (by rw [z];exact G0u _ G0D)]
     exact Bu.free b o e n hx
    ·obtain⟨o',q⟩:=Bu.there b o e hx
     exact⟨o',hs'.extBut b _ (neC b o e) q⟩
    ·have z:=Bu.tups b xs e
     rw [jan (jah z HD)];exact z
    ·have z:=Bu.frzs b o u e
     rw [jan (jah z HD)];exact z
    ·obtain⟨more,z⟩:=Bu.tbls b ps e
     exact⟨more,by rw [jan (jah z HD)];exact z⟩
    ·exact⟨hz,us,us.length,hv5,hs'.extBut D _ hDC oD⟩
    ·have q:=hf b hb
     exact⟨q.2.2.2.1,q.2.1,q.2.2.2.2.1,q.2.2.2.2.2⟩
   ·rw [←hC];exact G2q I3.lt
   ·exact I3.nofs (G25 hC)
   ·rw [←hC];exact I3.sz
   ·intro p hp
    have:=(I3.pin p hp).1
    rw [←hC];exact G0I (G0k this)
  ·have q:=T.item X' eP eW eK eC i _ s5 _ H5 (fun _ _=>False) I5 (stat fr5) st5 go
   rw [eA] at q
   refine G0U q (fun r s6 ⟨u,hr,h6⟩=> ?_) fun _ _ z=>z
   subst hr
   refine G0U h6 (fun _ s7 ⟨x,H7,I7,r7,y7,st7,fr7⟩=> ?_) fun _ _ z=>z
   have I7' :=I7.pinned (stat fr7) (T.obj _ _ st7)
   have q7:=hg X' iX _ s7 _ H7 x u _ I7' r7 (step x H7 y7)
   rw [eP,eW,eA,eV,eE] at q7
   refine G0U q7 (fun _ s8 ⟨σ8,H8,I8,ag8,q8⟩=> ?_) fun _ _ z=>z
   have q9:=ht X' iX _ s8 σ8 H8 _ I8 q8
   rw [eP,eW,eA,eV,eE] at q9
   refine G0U q9 (fun ok s9 ⟨H9,I9,q9⟩=> ?_) fun _ _ z=>z
   have keepT: ∀ {σ' :St} {H' :Hp} {s' :Shared} {us:List Value},Inv X' ([(D,LCg.lst us)]++jdM fp s7.heap) σ' H' s' →tn (i+1) s'.heap∧ ∀b∈fp,H' b=none:=fun {σ' H' s' us} I' =>
    ⟨T.keep _ _ _ st7 fun b hb o e=>(I'.pin (b,o) (G0u _ (G0u _ (jcK hb e)))).1,fun b hb=>by
     obtain⟨o,e,_⟩:=T.obj _ _ st7 b hb
     exact(I'.pin (b,o) (G0u _ (G0u _ (jcK hb e)))).2.1⟩
   cases ok with
   |false=>
    have q9: ∃m',m' <n∧W (i+1) m' ys H9:=q9
    obtain⟨m',hm,w9⟩:=q9
    obtain⟨t9,f9⟩:=keepT I9
    exact⟨m',hm,i+1,ys,us,H9,hv5,(I9.unpinned).weak ag8.1.symm ag8.2,t9,f9,w9⟩
   |true=>
    have q9:tm σ8 H9 ys fun ys' H4=> ∃m',m' <n∧W (i+1) m' ys' H4:=q9
    have DX:D∈X'.ex:=by rw [←hX];exact G0u _ G0D
    have pD: ∀p∈X'.pn++jdM fp s7.heap,p.1≠D:=fun p hp=>by
     have hp' :p∈jdM fp s7.heap:=by rw [←hX] at hp;simpa [je3] using hp
     exact G0I (ltf _ (jfI hp').1)
    have cD: ∀x c,X'.env.cells.lookup x=some c→c≠D:=fun x c e=>by
     rw [eV] at e
     exact(cl x c e).elim (fun z=>fD.2.2.2.2.1 x c z) fun z=>G2q (G1K (by rw [CD];exact G1M _) z)
    have q10:=he X' iX D _ s9 σ8 H9 ys us _ I9 hv5 hz DX cD pD q9
    rw [eP,eW,eA,eV] at q10
    show wpAny _ _ (act _ _) _ _ s9
    refine G0U q10 (fun _ s10 ⟨ys',us',H10,hv10,I10,m',hm,w10⟩=> ?_) fun _ _ z=>z
    obtain⟨t10,f10⟩:=keepT I10
    exact⟨m',hm,i+1,ys',us',H10,hv10,(I10.unpinned).weak ag8.1.symm ag8.2,t10,f10,w10⟩
 exact codeAny_compStart_list (loop _ rfl) (T.self X.A 0 _ _ _ st4 (loop _ rfl))
theorem jmZ {X:Cx} {elt iter tg:Expr} {ifs:List Expr} {scope:Scope} {pos:Pos} {js:List Nat} {wi:TI} {g:TG} {tt:TT} {te:TE} (hc:X.calm=true) (S:BlockOk X scope js) (hi:PI X tg iter wi)
 (hg: ∀X',ja6 X scope X' →PG X' tg g) (ht: ∀X',ja6 X scope X' →PTs X' ifs tt) (he: ∀X',ja6 X scope X' →PE X' elt te)
 (hs: ∀x,foldedSetIterable iter X.env x=pure x:=by intro _;rfl):PE X (.ListComp elt [⟨tg,iter,ifs,0⟩] scope pos) (tLC js wi g tt te):=by
 intro pins s σ H Q I h
 rw [eval_ListComp]
 exact jmY (use:=none) hc S hi rfl hg ht (jil elt) (fun _ _ _=>rfl) (fun X' hX D=>jjG (by obtain⟨_,_,_,_,rfl⟩:=hX;rfl) (he X' hX)) hs I h
  fun D C H' s' m hn hk _ _ _ _ _ _ q=>⟨m,hn,fun h' hs' =>⟨.ref D,H',hk h' hs',rfl,q⟩⟩
inductive D where
 |non|bl (b:Bool)|int (i:Int)|str (x:Str)|tup (ds:List D)|lst (a:Addr)|dic (x:Str) (i:Int)|scr (ns:List Int)|exc (C:Addr)|fn (a:Addr)
def Scr (K:PySem.W.Frag) (H:Hp) (a:Addr) (ns:List Int):Prop:=
 (∃o,H a=some (.frz o (.lst (ns.map V.int))))∨
  ∃ (o:Obj) (its:Array Value) (n:Nat),K.lookup a=some o∧o.cls= .type "list" ∧o.dict=none∧o.data= .seq its n∧its.size≤sizeLine∧Vals (ns.map V.int) its.toList
theorem Scr.sq {K:PySem.W.Frag} {H:Hp} {a:Addr} {ns:List Int} (h:Scr K H a ns):SqL K H a (ns.map V.int):=h.elim (fun z=> .inl (.inr z)) .inr
mutual
def RelD (K:PySem.W.Frag) (H:Hp):D→V→Prop
 | .non,v=>v= .non
 | .bl b,v=>v= .bl b
 | .int i,v=>v= .int i
 | .str x,v=>v= .str x
 | .tup ds,v=> ∃a vs,v= .ref a∧H a=some (.tup vs)∧RelDs K H ds vs
 | .lst a,v=>v= .ref a∧ ∃vs,H a=some (.lst vs)
 | .dic x i,v=> ∃a,v= .ref a∧H a=some (.dK [(Sum.inr x,V.int i)])
 | .scr ns,v=> ∃a,v= .ref a∧Scr K H a ns
 | .exc C,v=> ∃x o vs,v= .ref x∧H x=some (.frz o (.own 0))∧o.cls= .ref C∧o.data= .fields vs
 | .fn a,v=>v= .ref a∧PySem.W.keepIn K (.ref a)=true
def RelDs (K:PySem.W.Frag) (H:Hp):List D→List V→Prop
 | [],vs=>vs= []
 |d::ds,vs=> ∃v r,vs=v::r∧RelD K H d v∧RelDs K H ds r
end
structure Kept (H H' :Hp):Prop where
 tup: ∀a xs,H a=some (.tup xs)→H' a=some (.tup xs)
 lst: ∀a xs,H a=some (.lst xs)→ ∃ys,H' a=some (.lst ys)
 dic: ∀a k,H a=some (.dK k)→H' a=some (.dK k)
 frz: ∀a o u,H a=some (.frz o u)→H' a=some (.frz o u)
theorem Kept.refl (H:Hp):Kept H H:=⟨fun _ _ h=>h,fun _ xs h=>⟨xs,h⟩,fun _ _ h=>h,fun _ _ _ h=>h⟩
theorem Kept.trans {A B C:Hp} (x:Kept A B) (y:Kept B C):Kept A C:=
 ⟨fun a xs h=>y.tup a xs (x.tup a xs h),fun a xs h=>let ⟨_,e⟩:=x.lst a xs h;y.lst a _ e,fun a k h=>y.dic a k (x.dic a k h),fun a o u h=>y.frz a o u (x.frz a o u h)⟩
theorem Kept.new {H:Hp} {p:Addr} {o:HO} (h:H p=none):Kept H (upd H p o):=
 ⟨fun a xs e=>by rw [jan (jah e h)];exact e,fun a xs e=>⟨xs,by rw [jan (jah e h)];exact e⟩,fun a k e=>by rw [jan (jah e h)];exact e,fun a o u e=>by rw [jan (jah e h)];exact e⟩
theorem Kept.put {H:Hp} {p:Addr} {xs ys:List V} (h:H p=some (.lst xs)):Kept H (upd H p (.lst ys)):=
 ⟨fun a zs e=>by rw [jan (jhX e h (by intro z;cases z))];exact e,fun a zs e=>by
  by_cases q:a=p
  ·subst q;exact⟨ys,jao⟩
  ·exact⟨zs,by rw [jan q];exact e⟩,
  fun a k e=>by rw [jan (jhX e h (by intro z;cases z))];exact e,fun a o u e=>by rw [jan (jhX e h (by intro z;cases z))];exact e⟩
mutual
theorem RelD.mono {K:PySem.W.Frag} {H H' :Hp} (k:Kept H H'): ∀ {d:D} {v:V},RelD K H d v→RelD K H' d v
 | .non,_,h=>h
 | .bl _,_,h=>h
 | .int _,_,h=>h
 | .str _,_,h=>h
 | .tup ds,v,h=>by
  obtain⟨a,vs,e,h1,h2⟩:=(show ∃a vs,v= .ref a∧H a=some (.tup vs)∧RelDs K H ds vs from h)
  exact⟨a,vs,e,k.tup _ _ h1,RelDs.mono k h2⟩
 | .lst a,v,h=>by
  obtain⟨e,vs,h1⟩:=(show v= .ref a∧ ∃vs,H a=some (.lst vs) from h)
  exact⟨e,k.lst _ _ h1⟩
 | .dic x i,v,h=>by
  obtain⟨a,e,h1⟩:=(show ∃a,v= .ref a∧H a=some (.dK [(Sum.inr x,V.int i)]) from h)
  exact⟨a,e,k.dic _ _ h1⟩
 | .scr ns,v,h=>by
  obtain⟨a,e,h1⟩:=(show ∃a,v= .ref a∧Scr K H a ns from h)
  exact⟨a,e,h1.elim (fun ⟨o,z⟩=> .inl ⟨o,k.frz _ _ _ z⟩) .inr⟩
 | .exc C,v,h=>by
  obtain⟨x,o,vs,e,h1,r⟩:=(show ∃x o vs,v= .ref x∧H x=some (.frz o (.own 0))∧o.cls= .ref C∧o.data= .fields vs from h)
  exact⟨x,o,vs,e,k.frz _ _ _ h1,r⟩
 | .fn a,v,h=>h
theorem RelDs.mono {K:PySem.W.Frag} {H H' :Hp} (k:Kept H H'): ∀ {ds:List D} {vs:List V},RelDs K H ds vs→RelDs K H' ds vs
 | [],_,h=>h
 |d::ds,vs,h=>by
  obtain⟨v,r,e,h1,h2⟩:=(show ∃v r,vs=v::r∧RelD K H d v∧RelDs K H ds r from h)
  exact⟨v,r,e,RelD.mono k h1,RelDs.mono k h2⟩
end
section
variable {K:PySem.W.Frag} {H:Hp}
theorem RelDs.nil:RelDs K H [] []:=rfl
theorem RelDs.cons {d:D} {v:V} {ds:List D} {vs:List V} (h:RelD K H d v) (t:RelDs K H ds vs):RelDs K H (d::ds) (v::vs):=⟨v,vs,rfl,h,t⟩
theorem RelDs.length: ∀ {ds:List D} {vs:List V},RelDs K H ds vs→ds.length=vs.length
 | [],_,h=>by cases (show _= [] from h);rfl
 |d::ds,vs,h=>by
  obtain⟨v,r,e,_,h2⟩:=(show ∃v r,vs=v::r∧RelD K H d v∧RelDs K H ds r from h)
  subst e
  simp [RelDs.length h2]
theorem RelDs.append: ∀ {ds es:List D} {vs us:List V},RelDs K H ds vs→RelDs K H es us→RelDs K H (ds++es) (vs++us)
 | [],_,_,_,h,g=>by cases (show _= [] from h);exact g
 |d::ds,es,vs,us,h,g=>by
  obtain⟨v,r,e,h1,h2⟩:=(show ∃v r,vs=v::r∧RelD K H d v∧RelDs K H ds r from h)
  subst e
  exact .cons h1 (RelDs.append h2 g)
theorem RelDs.get: ∀ {ds:List D} {vs:List V} {i:Nat} {d:D},RelDs K H ds vs→ds[i]? =some d→ ∃v,vs[i]? =some v∧RelD K H d v
 |d' ::ds,vs,i,d,h,e=>by
  obtain⟨v,r,q,h1,h2⟩:=(show ∃v r,vs=v::r∧RelD K H d' v∧RelDs K H ds r from h)
  subst q
  cases i with
  |zero=>simp at e;subst e;exact⟨v,rfl,h1⟩
  |succ i=>
   obtain⟨u,q1,q2⟩:=RelDs.get h2 (i:=i) (d:=d) (by simpa using e)
   exact⟨u,by simpa using q1,q2⟩
theorem RelDs.take (n:Nat): ∀ {ds:List D} {vs:List V},RelDs K H ds vs→RelDs K H (ds.take n) (vs.take n):=by
 induction n with
 |zero=>intro ds vs _;exact(rfl:RelDs K H [] [])
 |succ n ih=>
  intro ds vs h
  cases ds with
  |nil=>cases (show vs= [] from h);exact .nil
  |cons d ds=>
   obtain⟨v,r,e,h1,h2⟩:=(show ∃v r,vs=v::r∧RelD K H d v∧RelDs K H ds r from h)
   subst e;exact .cons h1 (ih h2)
theorem RelDs.drop (n:Nat): ∀ {ds:List D} {vs:List V},RelDs K H ds vs→RelDs K H (ds.drop n) (vs.drop n):=by
 induction n with
 |zero=>intro ds vs h;exact h
 |succ n ih=>
  intro ds vs h
  cases ds with
  |nil=>cases (show vs= [] from h);exact .nil
  |cons d ds=>
   obtain⟨v,r,e,h1,h2⟩:=(show ∃v r,vs=v::r∧RelD K H d v∧RelDs K H ds r from h)
   subst e;exact ih h2
theorem RelDs.set {d:D} {v:V} (q:RelD K H d v): ∀ {ds:List D} {vs:List V} (i:Nat),RelDs K H ds vs→RelDs K H (ds.set i d) (vs.set i v)
 | [],_,_,h=>by cases (show _= [] from h);exact .nil
 |e::ds,vs,i,h=>by
  obtain⟨u,r,z,h1,h2⟩:=(show ∃u r,vs=u::r∧RelD K H e u∧RelDs K H ds r from h)
  subst z
  cases i with
  |zero=>exact .cons q h2
  |succ i=>exact .cons h1 (RelDs.set q i h2)
theorem jcL: ∀ns:List Int,RelDs K H (ns.map D.int) (ns.map V.int)
 | []=> .nil
 |n::ns=> .cons rfl (jcL ns)
end
abbrev HD:=Addr→Option (List D)
def jbT (h:HD) (a:Addr) (ds:List D):HD:=fun b=>if b=a then some ds else h b
def je4 (h:HD) (a:Addr):HD:=fun b=>if b=a then none else h b
theorem jad {h:HD} {a:Addr} {ds:List D}:jbT h a ds a=some ds:=if_pos rfl
theorem jby {h:HD} {a b:Addr} {ds:List D} (e:b≠a):jbT h a ds b=h b:=if_neg e
theorem jb3 {h:HD} {a:Addr} {ds:List D} (e:h a=none):je4 (jbT h a ds) a=h:=by
 funext b;unfold je4 jbT;by_cases q:b=a
 ·subst q;simp [e]
 ·simp [q]
def LN:List Str:= ["law","_law_right","_law_words","_law_other_words","_law_many_right","_law_all","_law_told_row","_law_all_right","_law_desk_right","_law_signs_right","_law_lists_right","_law_text_right"]
def TabK (K:PySem.W.Frag) (P:Addr):Prop:= ∃x∈LN,∃c,PySem.W.tabIn K x=some (c,P)
def CodesOk (H:Hp) (ps:Array Value):Prop:=TriplesOk ps.toList∧ ∀pos cv,codeAmong pos ps.toList=some cv→ ∃ (c:Addr) (o:Obj) (vs:Array Value) (q:Str) (t:Tok),cv= .ref c∧H c=some (.frz o (.own 0))∧o.data= .fields vs∧vs[1]? =some (.str q t)
def CTabs (K:PySem.W.Frag) (H:Hp):Prop:= ∀P,TabK K P→ ∃ps,H P=some (.tbl ps)∧CodesOk H ps
theorem CodesOk.mono {H H' :Hp} {ps:Array Value} (k: ∀a o u,H a=some (.frz o u)→H' a=some (.frz o u)) (c:CodesOk H ps):CodesOk H' ps:=
 ⟨c.1,fun pos cv e=>let ⟨c',o,vs,q,t,e1,e2,r⟩:=c.2 pos cv e;⟨c',o,vs,q,t,e1,k _ _ _ e2,r⟩⟩
theorem CTabs.mono {K:PySem.W.Frag} {H H' :Hp} (x:CTabs K H) (k: ∀a o u,H a=some (.frz o u)→H' a=some (.frz o u)) (kt: ∀a ps,H a=some (.tbl ps)→H' a=some (.tbl ps)):CTabs K H' :=fun P hP=>
 let ⟨ps,e,c⟩:=x P hP;⟨ps,kt _ _ e,c.mono k⟩
theorem CTabs.new {K:PySem.W.Frag} {H:Hp} {p:Addr} {o:HO} (x:CTabs K H) (e:H p=none):CTabs K (upd H p o):=
 x.mono (fun a o' u h=>by rw [jan (jah h e)];exact h) fun a ps h=>by rw [jan (jah h e)];exact h
theorem CTabs.put {K:PySem.W.Frag} {H:Hp} {p:Addr} {o:HO} {xs:List V} (x:CTabs K H) (e:H p=some (.lst xs)):CTabs K (upd H p o):=
 x.mono (fun a o' u h=>by rw [jan (jhX h e (by intro z;cases z))];exact h) fun a ps h=>by rw [jan (jhX h e (by intro z;cases z))];exact h
structure RelH (K:PySem.W.Frag) (h:HD) (H:Hp):Prop where
 ls: ∀a ds,h a=some ds→ ∃vs,H a=some (.lst vs)∧RelDs K H ds vs
 tb:CTabs K H
instance {K:PySem.W.Frag} {h:HD} {H:Hp}:CoeFun (RelH K h H) fun _=> ∀a ds,h a=some ds→ ∃vs,H a=some (.lst vs)∧RelDs K H ds vs:=⟨RelH.ls⟩
def Sub (h h' :HD):Prop:= ∀a ds,h a=some ds→h' a=some ds
theorem Sub.refl (h:HD):Sub h h:=fun _ _ e=>e
theorem Sub.trans {a b c:HD} (x:Sub a b) (y:Sub b c):Sub a c:=fun d ds e=>y d ds (x d ds e)
theorem Sub.drop (h:HD) (a:Addr):Sub (je4 h a) h:=fun b ds e=>by
 unfold je4 at e;split at e
 ·cases e
 ·exact e
theorem Sub.new {h:HD} {p:Addr} {ds:List D} (e:h p=none):Sub h (jbT h p ds):=fun a es q=>by
 rw [jby];exact q
 intro z;subst z;rw [e] at q;cases q
section
variable {K:PySem.W.Frag} {h h' :HD} {H:Hp}
theorem RelH.sub (r:RelH K h H) (s:Sub h' h):RelH K h' H:=⟨fun a ds e=>r a ds (s a ds e),r.tb⟩
theorem RelH.free (r:RelH K h H) {p:Addr} (e:H p=none):h p=none:=by
 cases q:h p with
 |none=>rfl
 |some ds=>obtain⟨vs,z,_⟩:=r p ds q;rw [e] at z;cases z
theorem RelH.new (r:RelH K h H) {p:Addr} {o:HO} (e:H p=none):RelH K h (upd H p o):=⟨fun a ds q=>by
 obtain⟨vs,z,w⟩:=r a ds q
 exact⟨vs,by rw [jan (jah z e)];exact z,w.mono (.new e)⟩,r.tb.new e⟩
theorem RelH.newL (r:RelH K h H) {p:Addr} {ds:List D} {vs:List V} (e:H p=none) (q:RelDs K H ds vs):RelH K (jbT h p ds) (upd H p (.lst vs)):=⟨fun a es z=>by
 by_cases w:a=p
 ·subst w;rw [jad] at z;cases z
  exact⟨vs,jao,q.mono (.new e)⟩
 ·rw [jby w] at z
  obtain⟨us,z1,z2⟩:=r a es z
  exact⟨us,by rw [jan w];exact z1,z2.mono (.new e)⟩,r.tb.new e⟩
theorem RelH.put (r:RelH K h H) {p:Addr} {ds:List D} {vs us:List V} (e:H p=some (.lst us)) (q:RelDs K H ds vs):RelH K (jbT h p ds) (upd H p (.lst vs)):=⟨fun a es z=>by
 by_cases w:a=p
 ·subst w;rw [jad] at z;cases z
  exact⟨vs,jao,q.mono (.put e)⟩
 ·rw [jby w] at z
  obtain⟨us,z1,z2⟩:=r a es z
  exact⟨us,by rw [jan w];exact z1,z2.mono (.put e)⟩,r.tb.put e⟩
end
abbrev SD:=List (Option D)
def RelS (K:PySem.W.Frag) (H:Hp) (σd:SD) (σ:St):Prop:=σd.length=σ.length∧ ∀ (i:Nat) (d:D),σd[i]? =some (some d)→ ∃v,σ[i]? =some (some v)∧RelD K H d v
theorem RelS.mono {K:PySem.W.Frag} {H H' :Hp} {σd:SD} {σ:St} (r:RelS K H σd σ) (k:Kept H H'):RelS K H' σd σ:=⟨r.1,fun i d e=>let ⟨v,a,b⟩:=r.2 i d e;⟨v,a,b.mono k⟩⟩
theorem RelS.set {K:PySem.W.Frag} {H:Hp} {σd:SD} {σ:St} {d:D} {v:V} (r:RelS K H σd σ) (q:RelD K H d v) (i:Nat):RelS K H (σd.set i (some d)) (σ.set i (some v)):=⟨by simp [r.1],fun j e h=>by
 by_cases z:i=j
 ·subst z
  rw [G2j] at h ⊢
  by_cases hl:i<σd.length
  ·rw [if_pos rfl,if_pos hl] at h
   rw [if_pos rfl,if_pos (by rw [←r.1];exact hl)]
   cases h;exact⟨v,rfl,q⟩
  ·rw [if_pos rfl,if_neg hl] at h;cases h
 ·rw [G1h z] at h ⊢
  exact r.2 j e h⟩
theorem RelS.clear1 {K:PySem.W.Frag} {H:Hp} {σd:SD} {σ:St} (r:RelS K H σd σ) (i:Nat):RelS K H (σd.set i none) (σ.set i none):=⟨by simp [r.1],fun j e h=>by
 by_cases z:i=j
 ·subst z
  rw [G2j] at h
  split at h
  ·split at h<;>cases h
  ·contradiction
 ·rw [G1h z] at h ⊢
  exact r.2 j e h⟩
def jb4:List Nat→SD→SD
 | [],σ=>σ
 |j::js,σ=>jb4 js (σ.set j none)
theorem RelS.clear {K:PySem.W.Frag} {H:Hp}: ∀ (js:List Nat) {σd:SD} {σ:St},RelS K H σd σ→RelS K H (jb4 js σd) (jb2 js σ)
 | [],_,_,r=>r
 |j::js,_,_,r=>RelS.clear js (r.clear1 j)
abbrev KD:=D→HD→Prop
abbrev TED:=SD→HD→KD→Prop
abbrev TTD:=SD→HD→(Bool→HD→Prop)→Prop
abbrev TAD:=SD→HD→(List D→HD→Prop)→Prop
abbrev RD2:=D→D→HD→KD→Prop
abbrev RDn:=List D→HD→KD→Prop
structure EndsD where
 nx:SD→HD→Prop
 rt:KD
 bk:SD→HD→Prop:=fun _ _=>False
 ct:SD→HD→Prop:=fun _ _=>False
abbrev TSD:=EndsD→SD→HD→Prop
abbrev TGD:=D→SD→HD→(SD→HD→Prop)→Prop
def jlh (K:PySem.W.Frag) (H:Hp) (Qd:KD) (Q:VK):Prop:= ∀d v h' H',Kept H H' →RelH K h' H' →RelD K H' d v→Qd d h' →Q v H'
def LE (K:PySem.W.Frag) (t:TED):TE:=fun σ H Q=> ∃σd h Qd,RelS K H σd σ∧RelH K h H∧t σd h Qd∧jlh K H Qd Q
def LT (K:PySem.W.Frag) (t:TTD):TT:=fun σ H Q=> ∃σd h Qd,RelS K H σd σ∧RelH K h H∧t σd h Qd∧ ∀b h' H',Kept H H' →RelH K h' H' →Qd b h' →Q b H'
def LA (K:PySem.W.Frag) (t:TAD):TA:=fun σ H Q=> ∃σd h Qd,RelS K H σd σ∧RelH K h H∧t σd h Qd∧ ∀ds vs h' H',Kept H H' →RelH K h' H' →RelDs K H' ds vs→Qd ds h' →Q vs H'
def LR (K:PySem.W.Frag) (f:RD2):R2:=fun x y H Q=> ∃dx dy h Qd,RelD K H dx x∧RelD K H dy y∧RelH K h H∧f dx dy h Qd∧jlh K H Qd Q
def LC (K:PySem.W.Frag) (f:RDn):List V→Hp→VK→Prop:=fun xs H Q=> ∃ds h Qd,RelDs K H ds xs∧RelH K h H∧f ds h Qd∧jlh K H Qd Q
def LG (K:PySem.W.Frag) (g:TGD):TG:=fun v σ H Q=> ∃d σd h Qd,RelD K H d v∧RelS K H σd σ∧RelH K h H∧g d σd h Qd∧ ∀σd' h' σ' H',Kept H H' →RelS K H' σd' σ' →RelH K h' H' →Qd σd' h' →Q σ' H'
def LS (K:PySem.W.Frag) (t:TSD):TS:=fun D₀ σ H=> ∃σd h Dd,RelS K H σd σ∧RelH K h H∧t Dd σd h∧
 (∀σd' h' σ' H',Kept H H' →RelS K H' σd' σ' →RelH K h' H' →Dd.nx σd' h' →D₀.nx σ' H')∧jlh K H Dd.rt D₀.rt∧
 (∀σd' h' σ' H',Kept H H' →RelS K H' σd' σ' →RelH K h' H' →Dd.bk σd' h' →D₀.bk σ' H')∧(∀σd' h' σ' H',Kept H H' →RelS K H' σd' σ' →RelH K h' H' →Dd.ct σd' h' →D₀.ct σ' H')
theorem PE.imp {X:Cx} {e:Expr} {t t' :TE} (h:PE X e t) (i: ∀σ H Q,t' σ H Q→t σ H Q):PE X e t' :=fun pins s σ H Q I q=>h pins s σ H Q I (i σ H Q q)
theorem PT.imp {X:Cx} {e:Expr} {t t' :TT} (h:PT X e t) (i: ∀σ H Q,t' σ H Q→t σ H Q):PT X e t' :=fun pins s σ H Q I q=>h pins s σ H Q I (i σ H Q q)
theorem PW.imp {X:Cx} {e:Expr} {t t' :TT} (h:PW X e t) (i: ∀σ H Q,t' σ H Q→t σ H Q):PW X e t' :=fun wh pins s σ H Q I q=>h wh pins s σ H Q I (i σ H Q q)
theorem PA.imp {X:Cx} {e:List Expr} {t t' :TA} (h:PA X e t) (i: ∀σ H Q,t' σ H Q→t σ H Q):PA X e t' :=fun pos pins s σ H Q I q=>h pos pins s σ H Q I (i σ H Q q)
theorem PS.imp {X:Cx} {e:Stmt} {t t' :TS} (h:PS X e t) (i: ∀D σ H,t' D σ H→t D σ H):PS X e t' :=fun pins s σ H D I q=>h pins s σ H D I (i D σ H q)
theorem PSs.imp {X:Cx} {e:List Stmt} {t t' :TS} (h:PSs X e t) (i: ∀D σ H,t' D σ H→t D σ H):PSs X e t' :=fun pins s σ H D I q=>h pins s σ H D I (i D σ H q)
theorem PG.imp {X:Cx} {e:Expr} {t t' :TG} (h:PG X e t) (i: ∀v σ H Q,t' v σ H Q→t v σ H Q):PG X e t' :=fun pins s σ H v u Q I r q=>h pins s σ H v u Q I r (i v σ H Q q)
theorem OpR.imp {X:Cx} {f:Value→Value→Sem Value} {r r' :R2} (h:OpR X f r) (i: ∀x y H Q,r' x y H Q→r x y H Q):OpR X f r' :=fun pins s σ H x y v u Q I a b q=>h pins s σ H x y v u Q I a b (i x y H Q q)
theorem CallR.imp {X:Cx} {f:Value} {r r' :List V→Hp→VK→Prop} (h:CallR X f r) (i: ∀xs H Q,r' xs H Q→r xs H Q):CallR X f r' :=fun pins s σ H xs us Q I a q=>h pins s σ H xs us Q I a (i xs H Q q)
def jei (i:Nat):TED:=fun σ h Q=> ∃d,σ[i]? =some (some d)∧Q d h
def dC (d:D):TED:=fun _ h Q=>Q d h
def dOp (f:RD2) (ta tb:TED):TED:=fun σ h Q=>ta σ h fun x h1=>tb σ h1 fun y h2=>f x y h2 Q
def jdn:TAD:=fun _ h Q=>Q [] h
def jbi (ta:TED) (tr:TAD):TAD:=fun σ h Q=>ta σ h fun x h1=>tr σ h1 fun xs h2=>Q (x::xs) h2
def jej (t:TAD):TED:=fun σ h Q=>t σ h fun ds h1=>ds.length≤sizeLine∧Q (.tup ds) h1
def jek (t:TAD):TED:=fun σ h Q=>t σ h fun ds h1=>ds.length≤sizeLine∧ ∀p,h1 p=none→Q (.lst p) (jbT h1 p ds)
def dCB (r:RDn) (t:TAD):TED:=fun σ h Q=>t σ h fun ds h1=>r ds h1 Q
def jbm (t:TED):TTD:=fun σ h Q=>t σ h fun x h1=> ∃k,x= .bl k∧Q k h1
def jaS (r r' :RD2) (ta tb tc:TED):TED:=fun σ h Q=>ta σ h fun x h1=>tb σ h1 fun y h2=>r x y h2 fun z h3=> ∃k,z= .bl k∧
 (if k=true then tc σ h3 fun w h4=>r' y w h4 Q else Q (.bl false) h3)
def jcy (t u:TTD):TTD:=fun σ h Q=>t σ h fun c h1=>if c=true then u σ h1 Q else Q false h1
def jel (t u:TTD):TTD:=fun σ h Q=>t σ h fun c h1=>if c=true then Q true h1 else u σ h1 Q
def jbU (t:TTD):TTD:=fun σ h Q=>t σ h fun c h1=>Q (!c) h1
def jbV (ta tb:TED):TED:=fun σ h Q=>ta σ h fun x h1=> ∃c,x= .bl c∧if c=true then tb σ h1 Q else Q (.bl false) h1
def jem (ta tb:TED):TED:=fun σ h Q=>ta σ h fun x h1=> ∃c,x= .bl c∧if c=true then Q (.bl true) h1 else tb σ h1 Q
def jbW (ta:TED):TED:=fun σ h Q=>ta σ h fun x h1=> ∃c,x= .bl c∧Q (.bl (!c)) h1
def dIf (t:TTD) (ta tb:TED):TED:=fun σ h Q=>t σ h fun c h1=>if c=true then ta σ h1 Q else tb σ h1 Q
section
variable {K:PySem.W.Frag}
theorem jm0 (i:Nat): ∀σ H Q,LE K (jei i) σ H Q→jn7 i σ H Q:=fun σ H Q ⟨σd,h,Qd,rs,rh,⟨d,e,q⟩,p⟩=>let ⟨v,e1,e2⟩:=rs.2 i d e;⟨v,e1,p d v h H (.refl H) rh e2 q⟩
theorem jos {d:D} {v:V} (r: ∀H,RelD K H d v): ∀σ H Q,LE K (dC d) σ H Q→tC v σ H Q:=fun σ H Q ⟨σd,h,Qd,rs,rh,q,p⟩=>p d v h H (.refl H) rh (r H) q
theorem jay {H H1:Hp} {Qd:KD} {Q:VK} (p:jlh K H Qd Q) (k:Kept H H1):jlh K H1 Qd Q:=fun d v h' H' k' =>p d v h' H' (k.trans k')
theorem LE.bind {ta:TED} {σ:St} {H:Hp} {σd:SD} {h:HD} {kd:KD} {k:VK} (rs:RelS K H σd σ) (rh:RelH K h H) (t:ta σd h kd) (f: ∀d v h' H',Kept H H' →RelS K H' σd σ→RelH K h' H' →RelD K H' d v→kd d h' →k v H'):LE K ta σ H k:=
 ⟨σd,h,kd,rs,rh,t,fun d v h' H' kp r1 r2 q=>f d v h' H' kp (rs.mono kp) r1 r2 q⟩
theorem LT.bind {ta:TTD} {σ:St} {H:Hp} {σd:SD} {h:HD} {kd:Bool→HD→Prop} {k:Bool→Hp→Prop} (rs:RelS K H σd σ) (rh:RelH K h H) (t:ta σd h kd) (f: ∀b h' H',Kept H H' →RelS K H' σd σ→RelH K h' H' →kd b h' →k b H'):LT K ta σ H k:=
 ⟨σd,h,kd,rs,rh,t,fun b h' H' kp r1 q=>f b h' H' kp (rs.mono kp) r1 q⟩
theorem LA.bind {ta:TAD} {σ:St} {H:Hp} {σd:SD} {h:HD} {kd:List D→HD→Prop} {k:List V→Hp→Prop} (rs:RelS K H σd σ) (rh:RelH K h H) (t:ta σd h kd) (f: ∀ds vs h' H',Kept H H' →RelS K H' σd σ→RelH K h' H' →RelDs K H' ds vs→kd ds h' →k vs H'):LA K ta σ H k:=
 ⟨σd,h,kd,rs,rh,t,fun d v h' H' kp r1 r2 q=>f d v h' H' kp (rs.mono kp) r1 r2 q⟩
theorem jli {f:RD2} {ta tb:TED}: ∀σ H Q,LE K (dOp f ta tb) σ H Q→tOp (LR K f) (LE K ta) (LE K tb) σ H Q:=fun σ H Q ⟨σd,h,Qd,rs,rh,t,p⟩=>
 LE.bind rs rh t fun d v h1 H1 k1 rs1 rh1 r1 t1=>LE.bind rs1 rh1 t1 fun d2 v2 h2 H2 k2 rs2 rh2 r2 t2=>⟨d,d2,h2,Qd,r1.mono k2,r2,rh2,t2,jay p (k1.trans k2)⟩
theorem jm1: ∀σ H Q,LA K jdn σ H Q→jo7 σ H Q:=fun σ H Q ⟨σd,h,Qd,rs,rh,t,p⟩=>p [] [] h H (.refl H) rh rfl t
theorem jlj {ta:TED} {tr:TAD}: ∀σ H Q,LA K (jbi ta tr) σ H Q→jmN (LE K ta) (LA K tr) σ H Q:=fun σ H Q ⟨σd,h,Qd,rs,rh,t,p⟩=>
 LE.bind rs rh t fun d v h1 H1 k1 rs1 rh1 r1 t1=>LA.bind rs1 rh1 t1 fun ds vs h2 H2 k2 rs2 rh2 r2 t2=>p _ _ h2 H2 (k1.trans k2) rh2 (.cons (r1.mono k2) r2) t2
theorem jm2 {t:TAD}: ∀σ H Q,LE K (jej t) σ H Q→jo8 (LA K t) σ H Q:=fun σ H Q ⟨σd,h,Qd,rs,rh,t,p⟩=>
 LA.bind rs rh t fun ds vs h1 H1 k1 rs1 rh1 r1 ⟨z,q⟩=>⟨by rw [←r1.length];exact z,fun a ha=>p (.tup ds) (.ref a) h1 _ (k1.trans (.new ha)) (rh1.new ha) ⟨a,vs,rfl,jao,r1.mono (.new ha)⟩ q⟩
theorem jm3 {t:TAD}: ∀σ H Q,LE K (jek t) σ H Q→jo9 (LA K t) σ H Q:=fun σ H Q ⟨σd,h,Qd,rs,rh,t,p⟩=>
 LA.bind rs rh t fun ds vs h1 H1 k1 rs1 rh1 r1 ⟨z,q⟩=>⟨by rw [←r1.length];exact z,fun a ha=>p (.lst a) (.ref a) _ _ (k1.trans (.new ha)) (rh1.newL ha r1) ⟨rfl,vs,jao⟩ (q a (rh1.free ha))⟩
theorem jm4 {r:RDn} {t:TAD}: ∀σ H Q,LE K (dCB r t) σ H Q→tCB (LC K r) (LA K t) σ H Q:=fun σ H Q ⟨σd,h,Qd,rs,rh,t,p⟩=>
 LA.bind rs rh t fun ds vs h1 H1 k1 rs1 rh1 r1 q=>⟨ds,h1,Qd,r1,rh1,q,jay p k1⟩
theorem jim {t:TED}: ∀σ H Q,LT K (jbm t) σ H Q→jk5 (LE K t) σ H Q:=fun σ H Q ⟨σd,h,Qd,rs,rh,t,p⟩=>
 LE.bind rs rh t fun d v h1 H1 k1 rs1 rh1 r1 ⟨k,e,q⟩=>by subst e;exact⟨k,r1,p k h1 H1 k1 rh1 q⟩
theorem jjH {t:TED}: ∀σ H Q,LT K (jbm t) σ H Q→tB (LE K t) σ H Q:=fun σ H Q ⟨σd,h,Qd,rs,rh,t,p⟩=>
 LE.bind rs rh t fun d v h1 H1 k1 rs1 rh1 r1 ⟨k,e,q⟩=>by subst e;exact⟨k,r1,p k h1 H1 k1 rh1 q⟩
theorem jhg {r r' :RD2} {ta tb tc:TED}: ∀σ H Q,LE K (jaS r r' ta tb tc) σ H Q→jh7 (LR K r) (LR K r') (LE K ta) (LE K tb) (LE K tc) σ H Q:=fun σ H Q ⟨σd,h,Qd,rs,rh,t,p⟩=>
 LE.bind rs rh t fun d v h1 H1 k1 rs1 rh1 r1 t1=>LE.bind rs1 rh1 t1 fun d2 v2 h2 H2 k2 rs2 rh2 r2 t2=>⟨d,d2,h2,_,r1.mono k2,r2,rh2,t2,fun d3 v3 h3 H3 k3 rh3 r3 ⟨k,e,q⟩=>by
  subst e
  refine⟨k,r3,?_⟩
  cases k with
  |true=>
   rw [if_pos rfl] at q ⊢
   exact LE.bind (rs2.mono k3) rh3 q fun d4 v4 h4 H4 k4 rs4 rh4 r4 t4=>⟨d2,d4,h4,Qd,(r2.mono k3).mono k4,r4,rh4,t4,jay p (k1.trans (k2.trans (k3.trans k4)))⟩
  |false=>
   rw [if_neg G0g] at q ⊢
   exact p (.bl false) _ h3 H3 (k1.trans (k2.trans k3)) rh3 rfl q⟩
theorem jot {t u:TTD}: ∀σ H Q,LT K (jel t u) σ H Q→tOr (LT K t) (LT K u) σ H Q:=fun σ H Q ⟨σd,h,Qd,rs,rh,t,p⟩=>
 LT.bind rs rh t fun b h1 H1 k1 rs1 rh1 q=>by
  cases b with
  |true=>rw [if_pos rfl] at q ⊢;exact p _ _ _ k1 rh1 q
  |false=>rw [if_neg G0g] at q ⊢;exact⟨σd,h1,Qd,rs1,rh1,q,fun b h' H' k=>p b h' H' (k1.trans k)⟩
theorem jm5 {t:TTD}: ∀σ H Q,LT K (jbU t) σ H Q→joW (LT K t) σ H Q:=fun σ H Q ⟨σd,h,Qd,rs,rh,t,p⟩=>
 LT.bind rs rh t fun b h1 H1 k1 rs1 rh1 q=>p _ _ _ k1 rh1 q
theorem jm6 {ta tb:TED}: ∀σ H Q,LE K (jbV ta tb) σ H Q→jmu (LE K ta) (LE K tb) σ H Q:=fun σ H Q ⟨σd,h,Qd,rs,rh,t,p⟩=>
 LE.bind rs rh t fun d v h1 H1 k1 rs1 rh1 r1 ⟨c,e,q⟩=>by
  subst e
  refine⟨c,r1,?_⟩
  cases c with
  |true=>rw [if_pos rfl] at q ⊢;exact⟨σd,h1,Qd,rs1,rh1,q,jay p k1⟩
  |false=>rw [if_neg G0g] at q ⊢;exact p (.bl false) _ _ _ k1 rh1 rfl q
theorem jou {ta tb:TED}: ∀σ H Q,LE K (jem ta tb) σ H Q→joX (LE K ta) (LE K tb) σ H Q:=fun σ H Q ⟨σd,h,Qd,rs,rh,t,p⟩=>
 LE.bind rs rh t fun d v h1 H1 k1 rs1 rh1 r1 ⟨c,e,q⟩=>by
  subst e
  refine⟨c,r1,?_⟩
  cases c with
  |true=>rw [if_pos rfl] at q ⊢;exact p (.bl true) _ _ _ k1 rh1 rfl q
  |false=>rw [if_neg G0g] at q ⊢;exact⟨σd,h1,Qd,rs1,rh1,q,jay p k1⟩
theorem jm7 {ta:TED}: ∀σ H Q,LE K (jbW ta) σ H Q→jmv (LE K ta) σ H Q:=fun σ H Q ⟨σd,h,Qd,rs,rh,t,p⟩=>
 LE.bind rs rh t fun d v h1 H1 k1 rs1 rh1 r1 ⟨c,e,q⟩=>by subst e;exact⟨c,r1,p (.bl (!c)) _ _ _ k1 rh1 rfl q⟩
theorem jov {t:TTD} {ta tb:TED}: ∀σ H Q,LE K (dIf t ta tb) σ H Q→tIf (LT K t) (LE K ta) (LE K tb) σ H Q:=fun σ H Q ⟨σd,h,Qd,rs,rh,t,p⟩=>
 LT.bind rs rh t fun b h1 H1 k1 rs1 rh1 q=>by
  cases b with
  |true=>rw [if_pos rfl] at q ⊢;exact⟨σd,h1,Qd,rs1,rh1,q,jay p k1⟩
  |false=>rw [if_neg G0g] at q ⊢;exact⟨σd,h1,Qd,rs1,rh1,q,jay p k1⟩
end
abbrev QE (X:Cx) (e:Expr) (t:TED):Prop:=PE X e (LE X.K t)
abbrev QT (X:Cx) (e:Expr) (t:TTD):Prop:=PT X e (LT X.K t)
abbrev QW (X:Cx) (e:Expr) (t:TTD):Prop:=PW X e (LT X.K t)
abbrev QA (X:Cx) (es:List Expr) (t:TAD):Prop:=PA X es (LA X.K t)
abbrev QS (X:Cx) (s:Stmt) (t:TSD):Prop:=PS X s (LS X.K t)
abbrev QSs (X:Cx) (s:List Stmt) (t:TSD):Prop:=PSs X s (LS X.K t)
abbrev QG (X:Cx) (e:Expr) (t:TGD):Prop:=PG X e (LG X.K t)
abbrev OpQ (X:Cx) (f:Value→Value→Sem Value) (r:RD2):Prop:=OpR X f (LR X.K r)
abbrev jdf (X:Cx) (f:Value) (r:RDn):Prop:=CallR X f (LC X.K r)
section
variable {X:Cx} {a b c e:Expr} {es rest:List Expr} {ta tb tc te:TED} {t u:TAD} {tt tu:TTD} {pos:Pos} {f r r' :RD2}
theorem qv (i:Nat) {x:Str} (hN:X.N[i]? =some x:=by rfl) (hv:Vis X.env.scope x:=by first|exact Or.inl rfl|exact Or.inr (Or.inl rfl)|exact Or.inr (Or.inr rfl)) (hd:(x==("__debug__" :Str))=false:=by decide)
 (hcd:(x==("__classdict__" :Str))=false:=by decide):QE X (.Name x pos) (jei i):=(jkt hN hv hd hcd).imp (jm0 i)
theorem jpv {i:Int} {j:Nat}:QE X (.Constant (.int i) j pos) (dC (.int i)):=pe_int.imp (jos fun _=>rfl)
theorem qbl {i:Bool} {j:Nat}:QE X (.Constant (.bool i) j pos) (dC (.bl i)):=pe_bl.imp (jos fun _=>rfl)
theorem jow {x:Str} {i:Int} {tk:Tok} (hg:Gl X x) (hm:X.mg x=some (.int i tk)) (hd:(x==("__debug__" :Str))=false:=by decide):QE X (.Name x pos) (dC (.int i)):=
 (jkX (v:= .int i) hg hm ⟨tk,rfl⟩ hd).imp (jos fun _=>rfl)
theorem qop {op:Operator} (ho:OpQ X (binaryOp op) f) (ha:QE X a ta) (hb:QE X b tb):QE X (.BinOp a op b pos) (dOp f ta tb):=(jod ho ha hb).imp jli
theorem jpw {op:CmpOp} (ho:OpQ X (compareOp op) f) (ha:QE X a ta) (hb:QE X b tb) (hm:behindInMarks op b=false):QE X (.Compare a [op] [b] pos) (dOp f ta tb):=(jk4 ho ha hb hm).imp jli
theorem jox {op:CmpOp} (ho:OpQ X (compareOp op) f) (ha:QE X a ta) (hb:QE X b tb) (hm:behindInMarks op b=false):QT X (.Compare a [op] [b] pos) (jbm (dOp f ta tb)):=
 (jk6 ho ha hb hm).imp fun σ H Q h=>by
  obtain⟨σd,h,Qd,rs,rh,t,p⟩:=jim (t:=dOp f ta tb) σ H Q h
  exact jli σ H _ ⟨σd,h,Qd,rs,rh,t,p⟩
theorem jm8 {op op' :CmpOp} (ho:OpQ X (compareOp op) r) (ho' :OpQ X (compareOp op') r') (ha:QE X a ta) (hb:QE X b tb) (hc:QE X c tc) (hm:lastMarks [op,op'] [b,c]=false:=by with_unfolding_all rfl):
 QE X (.Compare a [op,op'] [b,c] pos) (jaS r r' ta tb tc):=(jjy ho ho' ha hb hc hm).imp jhg
theorem jlk {op op' :CmpOp} (ho:OpQ X (compareOp op) r) (ho' :OpQ X (compareOp op') r') (ha:QE X a ta) (hb:QE X b tb) (hc:QE X c tc) (hm:lastMarks [op,op'] [b,c]=false:=by with_unfolding_all rfl):
 QT X (.Compare a [op,op'] [b,c] pos) (jbm (jaS r r' ta tb tc)):=(jjz ho ho' ha hb hc hm).imp fun σ H Q h=>by
 obtain⟨σd,h,Qd,rs,rh,t,p⟩:=jim (t:=jaS r r' ta tb tc) σ H Q h
 exact jhg σ H _ ⟨σd,h,Qd,rs,rh,t,p⟩
theorem joy (ha:QE X a ta) (he: ∀whole,isTrue a X.env whole=(do let v ←whole;standAt a.pos;holding [v] (truthy v)):=by intro _;rfl):QT X a (jbm ta):=(jmr ha he).imp jjH
theorem jpx (ha:QT X a tt):QW X (.BoolOp .Or [a] pos) tt:=jms ha
theorem jpy (ha:QT X a tt) (hb:QW X (.BoolOp .Or (b::rest) pos) tu):QW X (.BoolOp .Or (a::b::rest) pos) (jel tt tu):=(jn8 ha hb).imp jot
theorem joz (ha:QT X a tt):QT X (.UnaryOp .Not a pos) (jbU tt):=(jmt ha).imp jm5
theorem jpz {op:BoolOp} (ha:QE X a ta):QE X (.BoolOp op [a] pos) ta:=jmw ha
theorem jpA (ha:QE X a ta) (hb:QE X (.BoolOp .And (b::rest) pos) tb):QE X (.BoolOp .And (a::b::rest) pos) (jbV ta tb):=(jmx ha hb).imp jm6
theorem qor (ha:QE X a ta) (hb:QE X (.BoolOp .Or (b::rest) pos) tb):QE X (.BoolOp .Or (a::b::rest) pos) (jem ta tb):=(jn9 ha hb).imp jou
theorem jpB (ha:QE X a ta):QE X (.UnaryOp .Not a pos) (jbW ta):=(jmy ha).imp jm7
theorem qif {c:Expr} (hc:QT X c tt) (ha:QE X a ta) (hb:QE X b tb):QE X (.IfExp c a b pos) (dIf tt ta tb):=(jju hc ha hb).imp jov
theorem jkx:QA X [] jdn:=pa_nil.imp jm1
theorem jin (ha:QE X e te) (hr:QA X es t) (hs:starEach (e::es) X.env=(false,eval e X.env)::starEach es X.env:=by rfl):QA X (e::es) (jbi te t):=(jck ha hr hs).imp jlj
theorem jpC {k:Nat} (h:QA X es t):QE X (.Tuple es k pos) (jej t):=(jmO h).imp jm2
theorem jpD (h:QA X es t):QE X (.List es pos) (jek t):=(jmP h).imp jm3
end
def jbX:TSD:=fun D σ h=>D.nx σ h
def jdC (t u:TSD):TSD:=fun D σ h=>t {D with nx:=u D} σ h
def jbY (te:TED):TSD:=fun D σ h=>te σ h fun _ h1=>D.nx σ h1
def jen (te:TED):TSD:=fun D σ h=>te σ h D.rt
def jcz:TSD:=fun D _ h=>D.rt .non h
def jef (c:TTD) (t u:TSD):TSD:=fun D σ h=>c σ h fun b h1=>if b=true then t D σ h1 else u D σ h1
def jeo (i:Nat) (te:TED):TSD:=fun D σ h=>te σ h fun d h1=>D.nx (σ.set i (some d)) h1
def jep (te:TED) (g:TGD):TSD:=fun D σ h=>te σ h fun x h1=>g x σ h1 D.nx
def jeq (i j:Nat) (ta:TAD):TSD:=fun D σ h=>ta σ h fun ds h1=> ∃v w,ds= [v,w]∧D.nx ((σ.set i (some v)).set j (some w)) h1
def gN (i:Nat):TGD:=fun d σ h Q=>Q (σ.set i (some d)) h
def gT2 (i j:Nat):TGD:=fun d σ h Q=> ∃x y,d= .tup [x,y]∧Q ((σ.set i (some x)).set j (some y)) h
section
variable {K:PySem.W.Frag}
theorem LS.of {t:TSD} {D₀:Ends} {σ:St} {H:Hp} {σd:SD} {h:HD} {Dd:EndsD} (rs:RelS K H σd σ) (rh:RelH K h H) (q:t Dd σd h)
 (nx: ∀σd' h' σ' H',Kept H H' →RelS K H' σd' σ' →RelH K h' H' →Dd.nx σd' h' →D₀.nx σ' H') (rt:jlh K H Dd.rt D₀.rt)
 (bk: ∀σd' h' σ' H',Kept H H' →RelS K H' σd' σ' →RelH K h' H' →Dd.bk σd' h' →D₀.bk σ' H') (ct: ∀σd' h' σ' H',Kept H H' →RelS K H' σd' σ' →RelH K h' H' →Dd.ct σd' h' →D₀.ct σ' H'):LS K t D₀ σ H:=⟨σd,h,Dd,rs,rh,q,nx,rt,bk,ct⟩
theorem jll: ∀D σ H,LS K jbX D σ H→jmz D σ H:=fun D σ H ⟨σd,h,Dd,rs,rh,q,nx,_⟩=>nx σd h σ H (.refl H) rs rh q
theorem jm9 {t u:TSD}: ∀D σ H,LS K (jdC t u) D σ H→joY (LS K t) (LS K u) D σ H:=fun D σ H ⟨σd,h,Dd,rs,rh,q,nx,rt,bk,ct⟩=>
 LS.of rs rh q (fun σd' h' σ' H' k rs' rh' q' =>⟨σd',h',Dd,rs',rh',q',fun a b c d k' =>nx a b c d (k.trans k'),jay rt k,fun a b c d k' =>bk a b c d (k.trans k'),fun a b c d k' =>ct a b c d (k.trans k')⟩) rt bk ct
theorem jlm {te:TED}: ∀D σ H,LS K (jbY te) D σ H→jmA (LE K te) D σ H:=fun D σ H ⟨σd,h,Dd,rs,rh,q,nx,rt,bk,ct⟩=>
 LE.bind rs rh q fun d v h1 H1 k1 rs1 rh1 r1 q1=>nx _ _ _ _ k1 rs1 rh1 q1
theorem jna {te:TED}: ∀D σ H,LS K (jen te) D σ H→joZ (LE K te) D σ H:=fun D σ H ⟨σd,h,Dd,rs,rh,q,nx,rt,bk,ct⟩=>⟨σd,h,Dd.rt,rs,rh,q,rt⟩
theorem joA {c:TTD} {t u:TSD}: ∀D σ H,LS K (jef c t u) D σ H→jo0 (LT K c) (LS K t) (LS K u) D σ H:=fun D σ H ⟨σd,h,Dd,rs,rh,q,nx,rt,bk,ct⟩=>
 LT.bind rs rh q fun b h1 H1 k rs1 rh1 q1=>by
  cases b with
  |true=>rw [if_pos rfl] at q1 ⊢;exact⟨σd,h1,Dd,rs1,rh1,q1,fun a b c d k' =>nx a b c d (k.trans k'),jay rt k,fun a b c d k' =>bk a b c d (k.trans k'),fun a b c d k' =>ct a b c d (k.trans k')⟩
  |false=>rw [if_neg G0g] at q1 ⊢;exact⟨σd,h1,Dd,rs1,rh1,q1,fun a b c d k' =>nx a b c d (k.trans k'),jay rt k,fun a b c d k' =>bk a b c d (k.trans k'),fun a b c d k' =>ct a b c d (k.trans k')⟩
theorem jnb {i:Nat} {te:TED}: ∀D σ H,LS K (jeo i te) D σ H→jn3 (LE K te) (jdk i) D σ H:=fun D σ H ⟨σd,h,Dd,rs,rh,q,nx,rt,bk,ct⟩=>
 LE.bind rs rh q fun d v h1 H1 k1 rs1 rh1 r1 q1=>nx _ _ _ _ k1 (rs1.set r1 i) rh1 q1
theorem jnc {te:TED} {g:TGD}: ∀D σ H,LS K (jep te g) D σ H→jn3 (LE K te) (LG K g) D σ H:=fun D σ H ⟨σd,h,Dd,rs,rh,q,nx,rt,bk,ct⟩=>
 LE.bind rs rh q fun d v h1 H1 k1 rs1 rh1 r1 q1=>⟨d,σd,h1,_,r1,rs1,rh1,q1,fun a b c e k' =>nx a b c e (k1.trans k')⟩
theorem jnd {i j:Nat} {ta:TAD}: ∀D σ H,LS K (jeq i j ta) D σ H→jo2 i j (LA K ta) D σ H:=fun D σ H ⟨σd,h,Dd,rs,rh,q,nx,rt,bk,ct⟩=>
 LA.bind rs rh q fun ds vs h1 H1 k1 rs1 rh1 r1 ⟨x,y,e,q1⟩=>by
  subst e
  obtain⟨v,r,e,r2,r3⟩:=(show ∃v r,vs=v::r∧RelD K H1 x v∧RelDs K H1 [y] r from r1)
  obtain⟨w,r',e',r4,r5⟩:=(show ∃v r',r=v::r' ∧RelD K H1 y v∧RelDs K H1 [] r' from r3)
  cases (show r' = [] from r5)
  subst e' e
  exact⟨v,w,rfl,nx _ _ _ _ k1 ((rs1.set r2 i).set r4 j) rh1 q1⟩
theorem jln (i:Nat): ∀v σ H Q,LG K (gN i) v σ H Q→jdk i v σ H Q:=fun v σ H Q ⟨d,σd,h,Qd,r,rs,rh,q,p⟩=>p _ _ _ _ (.refl H) (rs.set r i) rh q
theorem jb5 {H:Hp} {x y:D} {vs:List V} (r:RelDs K H [x,y] vs): ∃v w,vs= [v,w]∧RelD K H x v∧RelD K H y w:=by
 obtain⟨v,r1,e,r2,r3⟩:=(show ∃v r,vs=v::r∧RelD K H x v∧RelDs K H [y] r from r)
 obtain⟨w,z,e',r4,r5⟩:=(show ∃v z,r1=v::z∧RelD K H y v∧RelDs K H [] z from r3)
 cases (show z= [] from r5)
 subst e' e
 exact⟨v,w,rfl,r2,r4⟩
theorem jav {H:Hp} {x:D} {vs:List V} (r:RelDs K H [x] vs): ∃v,vs= [v]∧RelD K H x v:=by
 obtain⟨v,r1,e,r2,r3⟩:=(show ∃v r,vs=v::r∧RelD K H x v∧RelDs K H [] r from r)
 cases (show r1= [] from r3)
 exact⟨v,e,r2⟩
theorem jne (i j:Nat): ∀v σ H Q,LG K (gT2 i j) v σ H Q→jn2 K 2 (jfG (jdk i) (jfG (jdk j) jn1)) v σ H Q:=fun v σ H Q ⟨d,σd,h,Qd,r,rs,rh,⟨x,y,e,q⟩,p⟩=>by
 subst e
 obtain⟨a,vs,e,hH,r1⟩:=(show ∃a vs,v= .ref a∧H a=some (.tup vs)∧RelDs K H [x,y] vs from r)
 obtain⟨v1,v2,e1,r2,r3⟩:=jb5 r1
 subst e e1
 exact⟨a,[v1,v2],rfl,SqT.of hH,rfl,v1,[v2],rfl,v2,[],rfl,rfl,p _ _ _ _ (.refl H) ((rs.set r2 i).set r3 j) rh q⟩
end
section
variable {X:Cx} {st:Stmt} {sts:List Stmt} {t u:TSD} {e:Expr} {te:TED} {pos:Pos}
theorem jnf:QSs X [] jbX:=pss_nil.imp jll
theorem jlo (h1:QS X st t) (h2:QSs X sts u):QSs X (st::sts) (jdC t u):=(jjv h1 h2).imp jm9
theorem jng (h1:QS X st t):QSs X [st] t:=jkZ h1
theorem joB (he:QE X e te) (hs:swapsWith e none pos.line X.env=pure false:=by rfl):QS X (.Expr e pos) (jbY te):=(jk0 he hs).imp jlm
theorem jpE (he:QE X e te):QS X (.Return (some e) pos) (jen te):=(jmB he).imp jna
theorem jpF {c:Expr} {a b:List Stmt} {tc:TTD} (hc:QT X c tc) (ha:QSs X a t) (hb:QSs X b u):QS X (.If c a b pos) (jef tc t u):=(joa hc ha hb).imp joA
theorem jpG {i:Nat} {x:Str} {pos' :Pos} (hN:X.N.Nodup) (hi:X.N[i]? =some x) (hx:Loc X.env.scope x) (he:QE X e te) (hs:swapsWith e (some (.Name x pos')) pos.line X.env=pure false:=by rfl)
 (hf:X.fn x=true∨X.env.scope.names.lookup x=some .local:=by first|exact .inl rfl|exact .inr rfl|assumption):QS X (.Assign [.Name x pos'] e pos) (jeo i te):=(jmE hN hi hx he hs hf).imp jnb
theorem jlp {i:Nat} {x:Str} (hN:X.N.Nodup) (hi:X.N[i]? =some x) (hx:Loc X.env.scope x) (hf:X.fn x=true∨X.env.scope.names.lookup x=some .local:=by first|exact .inl rfl|exact .inr rfl|assumption):QG X (.Name x pos) (gN i):=
 (jcA hN hi hx hf).imp (jln i)
theorem jnh {i j:Nat} {x y:Str} {p1 p2:Pos} {k:Nat} (hc:X.calm=true) (hN:X.N.Nodup) (hi:X.N[i]? =some x) (hj:X.N[j]? =some y) (hx:Loc X.env.scope x) (hy:Loc X.env.scope y)
 (hf:X.fn x=true∨X.env.scope.names.lookup x=some .local:=by first|exact .inl rfl|exact .inr rfl|assumption) (hf2:X.fn y=true∨X.env.scope.names.lookup y=some .local:=by first|exact .inl rfl|exact .inr rfl|assumption):
 QG X (.Tuple [.Name x p1,.Name y p2] k pos) (gT2 i j):=(jh1 hc (jcj (jcA hN hi hx hf) (jcj (jcA hN hj hy hf2) jgx))).imp (jne i j)
theorem jpH {tg:Expr} {g:TGD} (he:QE X e te) (hg:QG X tg g) (hs:swapsWithSole [tg] e pos.line X.env=pure false:=by rfl) (hsw:swappedStores [tg] e X.env=pure none:=by rfl)
 (h1:(assignEach [tg] X.env).map (·.2)= [assign tg X.env]:=by rfl):QS X (.Assign [tg] e pos) (jep te g):=(jmD he hg hs hsw h1).imp jnc
theorem jpI {i j:Nat} {x y:Str} {a b:Expr} {ta:TAD} {px py pt:Pos} {kt k2 pt2} (hc:X.calm=true) (hN:X.N.Nodup) (hi:X.N[i]? =some x) (hj:X.N[j]? =some y) (hij:i≠j)
 (hx:X.env.scope.names.lookup x=some .local) (hy:X.env.scope.names.lookup y=some .local) (ha:QA X [a,b] ta)
 (hw:swappedStores [.Tuple [.Name x px,.Name y py] kt pt] (.Tuple [a,b] k2 pt2) X.env=pure (some [x,y]))
 (hs:swapsWithSole [.Tuple [.Name x px,.Name y py] kt pt] (.Tuple [a,b] k2 pt2) pos.line X.env=pure false:=by rfl):
 QS X (.Assign [.Tuple [.Name x px,.Name y py] kt pt] (.Tuple [a,b] k2 pt2) pos) (jeq i j ta):=(jmF hc hN hi hj hij hx hy ha hw hs).imp jnd
end
abbrev ItD:=HD→Option (List D)
def jmi (K:PySem.W.Frag) (H:Hp) (j:ItD) (J:It):Prop:= ∀H' h',Kept H H' →RelH K h' H' → ∀ds,j h' =some ds→ ∀i:Nat,
 (∀d,ds[i]? =some d→J.go i H' ∧ ∀x H'',J.yld i H' x H'' →Kept H' H'' ∧RelH K h' H'' ∧RelD K H'' d x)∧(ds.length≤i→J.stop i H')
abbrev TID:=SD→HD→(ItD→HD→Prop)→Prop
def LI (K:PySem.W.Frag) (t:TID):TI:=fun σ H R=> ∃σd h Rd,RelS K H σd σ∧RelH K h H∧t σd h Rd∧ ∀j J h' H',Kept H H' →RelH K h' H' →jmi K H' j J→Rd j h' →R J H'
abbrev QI (X:Cx) (tg iter:Expr) (t:TID):Prop:=PI X tg iter (LI X.K t)
theorem PI.imp {X:Cx} {tg e:Expr} {t t' :TI} (h:PI X tg e t) (i: ∀σ H R,t' σ H R→t σ H R):PI X tg e t' :=fun pins s σ H R I q=>h pins s σ H R I (i σ H R q)
def iL (te:TED):TID:=fun σ h R=>te σ h fun x h1=> ∃a,x= .lst a∧R (fun h=>h a) h1
def iR1 (ta:TAD):TID:=fun σ h R=>ta σ h fun ds h1=> ∃n:Int,ds= [.int n]∧ -(2^62)≤n∧n<2^62∧R (fun _=>some ((List.range n.toNat).map fun (k:Nat)=>D.int (k:Int))) h1
section
variable {K:PySem.W.Frag}
theorem jfR (H:Hp) (a:Addr):jmi K H (fun h=>h a) (Itl K a):=fun H' h' k rh ds e i=>by
 obtain⟨vs,hv,r⟩:=rh a ds e
 refine⟨fun d hd=> ?_,fun hl=>⟨vs,SqL.of hv,by rw [←r.length];exact hl⟩⟩
 obtain⟨v,e1,e2⟩:=r.get hd
 refine⟨⟨vs,v,SqL.of hv,e1⟩,fun x H'' ⟨eH,hx⟩=> ?_⟩
 subst eH
 have:=hx vs (SqL.of hv)
 rw [e1] at this;cases this
 exact⟨.refl _,rh,e2⟩
theorem jjI {H:Hp} {a:Addr} {vs:List V} {ds:List D} (hv:H a=some (.tup vs)) (r:RelDs K H ds vs):jmi K H (fun _=>some ds) (Itt K a):=fun H' h' k rh ds' e i=>by
 cases e
 have hv' :=k.tup _ _ hv
 have r' :=r.mono k
 refine⟨fun d hd=> ?_,fun hl=>⟨vs,SqT.of hv',by rw [←r.length];exact hl⟩⟩
 obtain⟨v,e1,e2⟩:=r'.get hd
 refine⟨⟨vs,v,SqT.of hv',e1⟩,fun x H'' ⟨eH,hx⟩=> ?_⟩
 subst eH
 have:=hx vs (SqT.of hv')
 rw [e1] at this;cases this
 exact⟨.refl _,rh,e2⟩
theorem jhC (H:Hp) (lo:Int) (n:Nat) (ds:List D) (hd:ds=(List.range n).map fun (k:Nat)=>D.int (lo+(k:Int))):jmi K H (fun _=>some ds) (Itr lo n):=fun H' h' k rh ds' e i=>by
 cases e
 subst hd
 refine⟨fun d hd=> ?_,fun hl=>(show n≤i by simpa using hl)⟩
 rw [G0o] at hd
 have hi:i<n:=by
  by_cases z:i<n
  ·exact z
  ·rw [G2s (by simpa using z)] at hd;cases hd
 rw [G07 hi] at hd
 cases hd
 refine⟨hi,fun x H'' ⟨eH,hx⟩=> ?_⟩
 subst eH hx
 exact⟨.refl _,rh,rfl⟩
theorem jlq {te:TED}: ∀σ H R,LI K (iL te) σ H R→jmG K (LE K te) σ H R:=fun σ H R ⟨σd,h,Rd,rs,rh,q,p⟩=>
 LE.bind rs rh q fun d v h1 H1 k1 rs1 rh1 r1 ⟨a,e,q1⟩=>by
  subst e
  obtain⟨e,vs,hv⟩:=(show v= .ref a∧ ∃vs,H1 a=some (.lst vs) from r1)
  exact⟨a,e,⟨vs,SqL.of hv⟩,p _ _ _ _ k1 rh1 (jfR H1 a) q1⟩
theorem joC {ta:TAD}: ∀σ H R,LI K (iR1 ta) σ H R→jmH (LA K ta) σ H R:=fun σ H R ⟨σd,h,Rd,rs,rh,q,p⟩=>
 LA.bind rs rh q fun ds vs h1 H1 k1 rs1 rh1 r1 ⟨n,e,b1,b2,q1⟩=>by
  subst e
  obtain⟨v,e,r2⟩:=jav r1
  cases (show v= .int n from r2)
  exact⟨n,e,b1,b2,p _ _ _ _ k1 rh1 (jhC H1 0 n.toNat _ (by simp)) q1⟩
end
def jn4 (ti:TID) (g:TGD) (tb:TSD):TSD:=fun D σ h=>ti σ h fun j h1=> ∃ (n:Nat) (W:Nat→SD→HD→Prop),W 0 σ h1∧ ∀i σ' h',W i σ' h' → ∃ds,j h' =some ds∧ds.length≤n∧(ds.length≤i→D.nx σ' h')∧
 ∀d,ds[i]? =some d→g d σ' h' fun σ2 h2=>tb {D with nx:=fun σ3 h3=> ∃h4,Sub h4 h3∧W (i+1) σ3 h4,ct:=fun σ3 h3=> ∃h4,Sub h4 h3∧W (i+1) σ3 h4,bk:=D.nx} σ2 h2
theorem jni {K:PySem.W.Frag} {ti:TID} {g:TGD} {tb:TSD}: ∀D σ H,LS K (jn4 ti g tb) D σ H→jo3 (LI K ti) (LG K g) (LS K tb) D σ H:=fun D σ H ⟨σd,h,Dd,rs,rh,q,nx,rt,bk,ct⟩=>by
 refine⟨σd,h,_,rs,rh,q,fun j J h1 H1 k1 rh1 jo ⟨n,W,w0,turn⟩=> ?_⟩
 refine⟨fun i m σ' H' =>m=n-i∧Kept H1 H' ∧ ∃σd' h',RelS K H' σd' σ' ∧RelH K h' H' ∧W i σd' h',⟨n-0,rfl,.refl _,σd,h1,rs.mono k1,rh1,w0⟩,?_⟩
 rintro i m σ' H' ⟨rfl,kp,σd',h',rs',rh',w⟩
 obtain⟨ds,ej,hn,stop,go⟩:=turn i σd' h' w
 have jo' :=jo H' h' kp rh' ds ej i
 by_cases hi:i<ds.length
 ·obtain⟨g1,y1⟩:=jo'.1 ds[i] (G0i hi)
  refine .inr ⟨g1,fun σ2 H2=>Kept H1 H2∧ ∃σd2 h2,RelS K H2 σd2 σ2∧RelH K h2 H2∧W (i+1) σd2 h2,fun σ2 H2 ⟨k2,a,b,c,d,e⟩=>⟨n-(i+1),by omega,rfl,k2,a,b,c,d,e⟩,fun x H'' y=> ?_⟩
  obtain⟨k2,rh2,r2⟩:=y1 x H'' y
  refine⟨ds[i],σd',h',_,r2,rs'.mono k2,rh2,go ds[i] (G0i hi),fun σd3 h3 σ3 H3 k3 rs3 rh3 q3=> ?_⟩
  have kk:Kept H H3:=k1.trans (kp.trans (k2.trans k3))
  have kk1:Kept H1 H3:=kp.trans (k2.trans k3)
  exact⟨σd3,h3,_,rs3,rh3,q3,fun a b c d k4 rs4 rh4 ⟨h4,sb,w4⟩=>⟨kk1.trans k4,a,h4,rs4,rh4.sub sb,w4⟩,jay rt kk,fun a b c d k4 rs4 rh4 q4=>nx a b c d (kk.trans k4) rs4 rh4 q4,fun a b c d k4 rs4 rh4 ⟨h4,sb,w4⟩=>⟨kk1.trans k4,a,h4,rs4,rh4.sub sb,w4⟩⟩
 ·exact .inl ⟨jo'.2 (G3g.mp hi),nx _ _ _ _ (k1.trans kp) rs' rh' (stop (G3g.mp hi))⟩
def je5:TTD:=fun _ h Q=>Q true h
def jfS (bind:D→SD→SD→Prop) (js:List Nat) (ti:TID) (tt:TTD) (te:TED):TED:=fun σ h Q=>ti σ h fun j h1=> ∃ (n:Nat) (W:Nat→List D→HD→Prop),W 0 [] h1∧ ∀i ys h',W i ys h' →ys.length≤sizeLine∧
 ∃ds,j h' =some ds∧ds.length≤n∧(ds.length≤i→ ∀p,h' p=none→Q (.lst p) (jbT h' p ys))∧
  ∀d,ds[i]? =some d→ ∃σ2,bind d (jb4 js σ) σ2∧tt σ2 h' fun b h3=>if b=true then te σ2 h3 fun y h4=> ∃h5,Sub h5 h4∧W (i+1) (ys++ [y]) h5 else ∃h5,Sub h5 h3∧W (i+1) ys h5
def bN (i:Nat):D→SD→SD→Prop:=fun d σ σ2=>σ2=σ.set i (some d)
def b2 (i j:Nat):D→SD→SD→Prop:=fun d σ σ2=> ∃x y,d= .tup [x,y]∧σ2=(σ.set i (some x)).set j (some y)
theorem jnj {K:PySem.W.Frag}: ∀σ H Q,LT K je5 σ H Q→jpd σ H Q:=fun σ H Q ⟨σd,h,Qd,rs,rh,q,p⟩=>p true h H (.refl H) rh q
def jio (K:PySem.W.Frag) (js:List Nat) (bind:D→SD→SD→Prop) (g:TG):Prop:= ∀ (σ:St) (σd σd2:SD) (H:Hp) (d:D) (v:V) (Q:St→Hp→Prop),RelS K H (jb4 js σd) (jb2 js σ)→RelD K H d v→bind d (jb4 js σd) σd2→
 (∀σ2,Agree (jb2 js σ) σ2→RelS K H σd2 σ2→Q σ2 H)→g v (jb2 js σ) H Q
theorem joD {K:PySem.W.Frag} {js:List Nat} {i:Nat} (hi:i∈js):jio K js (bN i) (jdk i):=fun σ σd σd2 H d v Q rs r b q=>by
 cases (show σd2=_ from b)
 exact q _ (.set v fun u=>jbL js σ i u hi) (rs.set r i)
theorem joE {K:PySem.W.Frag} {js:List Nat} {i j:Nat} (hi:i∈js) (hj:j∈js) (hij:i≠j):jio K js (b2 i j) (jn2 K 2 (jfG (jdk i) (jfG (jdk j) jn1))):=fun σ σd σd2 H d v Q rs r b q=>by
 obtain⟨x,y,e,e2⟩:=b
 subst e e2
 obtain⟨a,vs,e,hH,r1⟩:=(show ∃a vs,v= .ref a∧H a=some (.tup vs)∧RelDs K H [x,y] vs from r)
 obtain⟨v1,v2,e1,r2,r3⟩:=jb5 r1
 subst e e1
 refine⟨a,[v1,v2],rfl,SqT.of hH,rfl,v1,[v2],rfl,v2,[],rfl,rfl,q _ (.trans (.set v1 fun u=>jbL js σ i u hi) (.set v2 fun u z=> ?_)) ((rs.set r2 i).set r3 j)⟩
 rw [G1h hij] at z
 exact jbL js σ j u hj z
theorem jnk {K:PySem.W.Frag} {bind:D→SD→SD→Prop} {js:List Nat} {ti:TID} {tt:TTD} {te:TED} {g:TG} (hb:jio K js bind g): ∀σ H Q,LE K (jfS bind js ti tt te) σ H Q→tLC js (LI K ti) g (LT K tt) (LE K te) σ H Q:=
 fun σ H Q ⟨σd,h,Qd,rs,rh,q,p⟩=>by
  refine⟨σd,h,_,rs,rh,q,fun j J h1 H1 k1 rh1 jo ⟨n,W,w0,turn⟩=> ?_⟩
  refine⟨fun i m ys H' =>m=n-i∧Kept H1 H' ∧ ∃ds h',RelDs K H' ds ys∧RelH K h' H' ∧W i ds h',⟨n-0,rfl,.refl _,[],h1,rfl,rh1,w0⟩,?_⟩
  rintro i m ys H' ⟨rfl,kp,yd,h',ry,rh',w⟩
  obtain⟨hz,ds,ej,hn,stop,go⟩:=turn i yd h' w
  refine⟨by rw [←ry.length];exact hz,?_⟩
  have jo' :=jo H' h' kp rh' ds ej i
  have kk:Kept H H' :=k1.trans kp
  by_cases hi:i<ds.length
  ·obtain⟨g1,y1⟩:=jo'.1 ds[i] (G0i hi)
   refine .inr ⟨g1,fun x H'' y=> ?_⟩
   obtain⟨k2,rh2,r2⟩:=y1 x H'' y
   obtain⟨σd2,bd,q2⟩:=go ds[i] (G0i hi)
   refine hb σ σd σd2 H'' ds[i] x _ (((rs.mono (kk.trans k2))).clear js) r2 bd fun σ2 ag rs2=>⟨ag,?_⟩
   refine LT.bind rs2 rh2 q2 fun b h3 H3 k3 rs3 rh3 q3=> ?_
   cases b with
   |true=>
    rw [if_pos rfl] at q3 ⊢
    refine LE.bind rs3 rh3 q3 fun d4 v4 h4 H4 k4 rs4 rh4 r4 ⟨h5,sb,w5⟩=>⟨n-(i+1),by omega,rfl,kp.trans (k2.trans (k3.trans k4)),yd++ [d4],h5,(ry.mono (k2.trans (k3.trans k4))).append (.cons r4 .nil),rh4.sub sb,w5⟩
   |false=>
    rw [if_neg G0g] at q3 ⊢
    obtain⟨h5,sb,w5⟩:=q3
    exact⟨n-(i+1),by omega,rfl,kp.trans (k2.trans k3),yd,h5,ry.mono (k2.trans k3),rh3.sub sb,w5⟩
  ·refine .inl ⟨jo'.2 (G3g.mp hi),fun a ha=>p (.lst a) (.ref a) _ _ (kk.trans (.new ha)) (rh'.newL ha ry) ⟨rfl,ys,jao⟩ (stop (G3g.mp hi) a (rh'.free ha))⟩
theorem je6 {X:Cx} {scope:Scope} {C:Addr} {s₀:Shared} {H₀:Hp} {ex:List Addr} {i:Nat} {x:Str} {p:Pos} (hN:X.N.Nodup) (hx:X.N[i]? =some x) (hl:scope.names.lookup x=some .local∨scope.names.lookup x=some .cell):
 PG (je3 X scope C s₀ H₀ ex) (.Name x p) (jdk i):=by
 rcases hl with z|z
 ·exact jcA hN hx (.inl (lookup_relabel_local z)) (.inr (lookup_relabel_local z))
 ·exact jcA hN hx (.inr (jcZ z)) (.inl (by show (scope.names.lookup x==some NameKind.cell)=true;rw [z];rfl))
section
variable {X:Cx} {tg e iter elt:Expr} {te:TED} {ti:TID} {g:TGD} {tb:TSD} {tt:TTD} {pos:Pos} {ta:TAD} {scope:Scope} {js:List Nat} {ifs:List Expr}
theorem jlr (he:QE X e te):QI X tg e (iL te):=(jk2 he).imp jlq
theorem joF {p:Pos} {a:Expr} (hg:Gl X "range") (hm:X.mg "range" =none) (ha:QA X [a] ta) (hs:starEach [a] X.env= [(false,eval a X.env)]:=by rfl):QI X tg (.Call (.Name "range" p) [a] [] pos) (iR1 ta):=(jh3 hg hm ha hs).imp joC
theorem jpJ {body:List Stmt} (hp:PassesOwn (model X.prog X.w) X.A X.env X.xe) (hc:X.calm=true) (hi:QI X tg iter ti) (hg:QG X tg g) (hb:QSs X body tb) (hs: ∀x,foldedSetIterable iter X.env x=pure x:=by intro _;rfl):
 QS X (.For tg iter body [] pos) (jn4 ti g tb):=(jmI hp hc hi hg hb hs).imp jni
theorem jls:PTs X [] (LT X.K je5):=fun pins s σ H Q I h=>jlg pins s σ H Q I (jnj σ H Q h)
theorem qlc {i:Nat} {x:Str} {p:Pos} (hc:X.calm=true) (S:BlockOk X scope js) (hi:QI X (.Name x p) iter ti) (hj:i∈js) (hN:X.N.Nodup) (hx:X.N[i]? =some x) (hl:scope.names.lookup x=some .local∨scope.names.lookup x=some .cell)
 (ht: ∀X',ja6 X scope X' →PTs X' ifs (LT X'.K tt)) (he: ∀X',ja6 X scope X' →QE X' elt te) (hs: ∀x,foldedSetIterable iter X.env x=pure x:=by intro _;rfl):
 QE X (.ListComp elt [⟨.Name x p,iter,ifs,0⟩] scope pos) (jfS (bN i) js ti tt te):=
 (jmZ hc S hi (fun X' hX=>by obtain⟨C,s₀,H₀,ex,rfl⟩:=hX;exact je6 hN hx hl) (fun X' hX=>by have:=ht X' hX;obtain⟨C,s₀,H₀,ex,rfl⟩:=hX;exact this)
  (fun X' hX=>by have:=he X' hX;obtain⟨C,s₀,H₀,ex,rfl⟩:=hX;exact this) hs).imp (jnk (joD hj))
theorem jpK {i j:Nat} {x y:Str} {p1 p2 p3:Pos} {k:Nat} (hc:X.calm=true) (S:BlockOk X scope js) (hi:QI X (.Tuple [.Name x p1,.Name y p2] k p3) iter ti) (hj:i∈js) (hj2:j∈js) (hij:i≠j) (hN:X.N.Nodup) (hx:X.N[i]? =some x) (hy:X.N[j]? =some y)
 (hl:scope.names.lookup x=some .local∨scope.names.lookup x=some .cell) (hl2:scope.names.lookup y=some .local∨scope.names.lookup y=some .cell)
 (ht: ∀X',ja6 X scope X' →PTs X' ifs (LT X'.K tt)) (he: ∀X',ja6 X scope X' →QE X' elt te) (hs: ∀x,foldedSetIterable iter X.env x=pure x:=by intro _;rfl):
 QE X (.ListComp elt [⟨.Tuple [.Name x p1,.Name y p2] k p3,iter,ifs,0⟩] scope pos) (jfS (b2 i j) js ti tt te):=
 (jmZ hc S hi (fun X' hX=>by
  obtain⟨C,s₀,H₀,ex,rfl⟩:=hX
  exact jh1 hc (jcj (je6 hN hx hl) (jcj (je6 hN hy hl2) jgx))) (fun X' hX=>by have:=ht X' hX;obtain⟨C,s₀,H₀,ex,rfl⟩:=hX;exact this)
  (fun X' hX=>by have:=he X' hX;obtain⟨C,s₀,H₀,ex,rfl⟩:=hX;exact this) hs).imp (jnk (joE hj hj2 hij))
end
def LSp (K:PySem.W.Frag) (spd:RDn):Sp:=fun vs H Q _=>LC K spd vs H Q
theorem jlu {K:PySem.W.Frag} {spd:RDn} {t:TAD} {E:XK}: ∀σ H Q,LE K (dCB spd t) σ H Q→jmQ (LSp K spd) [] E (LA K t) σ H Q:=fun σ H Q ⟨σd,h,Qd,rs,rh,t,p⟩=>
 LA.bind rs rh t fun ds vs h1 H1 k1 rs1 rh1 r1 q=>by rw [G24];exact⟨ds,h1,Qd,r1,rh1,q,jay p k1⟩
section
variable {X:Cx} {k:Nat} {f:Addr} {fd:FuncData} {ps:List Str} {spd:RDn} {x:Str} {p pos:Pos} {e:Expr} {es:List Expr} {t:TAD}
theorem joG (F:FnOk X.prog X.w X.K X.mg X.base CX0 k f fd ps (LSp X.K spd)) (hr:Room k X.A) (hg:Gl X x) (hm:X.mg x=some (.ref f)) (hk:PySem.W.keepIn X.K (.ref f)=true) (hb:Binds X.K fd ps [])
 (ha:QA X (e::es) t) (hdb:(x==("__debug__" :Str))=false:=by decide) (he:starEach (e::es) X.env=(false,eval e X.env)::starEach es X.env:=by rfl) (hpl:(backTo pos (starEach es X.env)).any (·.1)=false:=by rfl):
 QE X (.Call (.Name x p) (e::es) [] pos) (dCB spd t):=(jk8 F hr hg hm hk hb .nil joq ha hdb he hpl).imp jlu
theorem jnl {id:String} {r:RDn} (hc:jdf X (.builtin id) r) (hg:Gl X x) (hm:X.mg x=none) (hv:bootBuiltins x=some (.builtin id)) (ha:QA X (e::es) t) (hn:x≠ "__name__" :=by decide) (hdb:(x==("__debug__" :Str))=false:=by decide)
 (he:starEach (e::es) X.env=(false,eval e X.env)::starEach es X.env:=by rfl) (hpl:(backTo pos (starEach es X.env)).any (·.1)=false:=by rfl):QE X (.Call (.Name x p) (e::es) [] pos) (dCB r t):=(je0 hc hg hm hv ha hn hdb he hpl).imp jm4
theorem jlv {T:String} {r:RDn} (hc:jdf X (.type T) r) (hg:Gl X x) (hm:X.mg x=none) (hv:bootBuiltins x=some (.type T)) (ha:QA X (e::es) t) (hn:x≠ "__name__" :=by decide) (hdb:(x==("__debug__" :Str))=false:=by decide)
 (he:starEach (e::es) X.env=(false,eval e X.env)::starEach es X.env:=by rfl) (hpl:(backTo pos (starEach es X.env)).any (·.1)=false:=by rfl):QE X (.Call (.Name x p) (e::es) [] pos) (dCB r t):=(jdO hc hg hm hv ha hn hdb he hpl).imp jm4
end
def jaT (N:List Str) (ds:List D):SD:=ds.map some++List.replicate (N.length-ds.length) none
theorem jhD {K:PySem.W.Frag} {H:Hp} {N:List Str} {ds:List D} {vs:List V} (r:RelDs K H ds vs):RelS K H (jaT N ds) (jdN N vs):=by
 have hl:=r.length
 refine⟨by unfold jaT jdN;simp [hl],fun i d e=> ?_⟩
 unfold jaT at e
 unfold jdN
 by_cases hi:i<ds.length
 ·rw [G1C (by simpa using hi),G0o] at e
  cases q:ds[i]? with
  |none=>rw [q] at e;cases e
  |some d' =>
   rw [q] at e;cases e
   obtain⟨v,e1,e2⟩:=r.get q
   exact⟨v,by rw [G1C (by simpa [←hl] using hi),G0o,e1];rfl,e2⟩
 ·rw [G1Y (by simpa using hi),G2V] at e
  split at e<;>cases e
def jer (Q:KD):EndsD:= {nx:=fun _ h=> ∃h',Sub h' h∧Q .non h',rt:=fun d h=> ∃h',Sub h' h∧Q d h'}
section
variable {P:Program} {w:World} {K:PySem.W.Frag} {mg:Str→Option Value} {base:Heap}
theorem Fun.okD {x qual:Str} {st:Stmt} {f:Addr} {fd:FuncData} {N ps:List Str} {k:Nat} {spd:RDn} (F:Fun K x qual st f fd) (S:FnScope N ps (jab st)) (len: ∀ds h Q,spd ds h Q→ds.length=ps.length)
 (tb:TSD) (hbody: ∀ (cdv:Value) (A:Around) (outer:List Env) (s:Shared) (H:Hp) (E:XK),Room k (A.deeper (envOfC qual (jab st) s.heap.objs.size f cdv))→QSs (jkw CX0 P w K mg base N qual (jab st) f cdv A outer s H E).nox (jaj st) tb)
 (read: ∀ds h Q,spd ds h Q→tb (jer Q) (jaT N ds) h):FnOk P w K mg base CX0 (k+1) f fd ps (LSp K spd):=by
 refine F.ok S (fun vs H Q E h=> ?_) (fun cdv A outer s H vs Q E hr h=> ?_)
 ·obtain⟨ds,h,Qd,r,rh,q,p⟩:=h
  rw [←r.length];exact len _ _ _ q
 ·obtain⟨ds,h,Qd,r,rh,q,p⟩:=h
  refine⟨_,hbody cdv A outer s H E hr,jaT N ds,h,jer Qd,jhD r,rh,read ds h Qd q,fun σd' h' σ' H' k rs' rh' ⟨h2,sb,q'⟩=>p .non .non h2 H' k (rh'.sub sb) rfl q',fun d v h' H' k rh' r' ⟨h2,sb,q'⟩=>p d v h2 H' k (rh'.sub sb) r' q',fun _ _ _ _ _ _ _ z=>z.elim,fun _ _ _ _ _ _ _ z=>z.elim⟩
end
def je7:RD2:=fun x y h Q=>match x,y with
 | .int i,.int j=>Q (.int (i+j)) h
 | .tup a,.tup b=>a.length+b.length≤sizeLine∧Q (.tup (a++b)) h
 | .lst a,.lst b=> ∃xs ys,h a=some xs∧h b=some ys∧xs.length+ys.length≤sizeLine∧ ∀p,h p=none→Q (.lst p) (jbT h p (xs++ys))
 |_,_=>False
def je8:RD2:=fun x y h Q=>match x,y with
 | .int i,.int j=>Q (.int (i-j)) h
 |_,_=>False
def jeE:RD2:=fun x y h Q=>match x,y with
 | .int i,.int j=>CMul i j∧Q (.int (i*j)) h
 | .lst a,.int k=> ∃xs,h a=some xs∧ -(2^63)≤k∧k<2^63∧xs.length*k.toNat≤sizeLine∧ ∀p,h p=none→Q (.lst p) (jbT h p (List.replicate k.toNat xs).flatten)
 |_,_=>False
def je9:RD2:=fun x y h Q=>match x,y with
 | .int i,.int j=>0<j∧Q (.int (i%j)) h
 |_,_=>False
def jcm:RD2:=fun x y h Q=>match x,y with
 | .int i,.int j=>jog i j∧Q (.int (i / j)) h
 |_,_=>False
def jfa:RD2:=fun x y h Q=>match x,y with
 | .int i,.int j=>jo5 i j∧Q (.int (i^j.toNat)) h
 |_,_=>False
def jeg (p:Int→Int→Bool):RD2:=fun x y h Q=>match x,y with
 | .int i,.int j=>Q (.bl (p i j)) h
 |_,_=>False
def eqD:RD2:=fun x y h Q=>match x,y with
 | .int i,.int j=>Q (.bl (decide (i=j))) h
 | .bl i,.bl j=>Q (.bl (decide (i=j))) h
 | .str i,.str j=>Q (.bl (decide (i=j))) h
 |_,_=>False
def neD:RD2:=fun x y h Q=>match x,y with
 | .int i,.int j=>Q (.bl (!decide (i=j))) h
 | .bl i,.bl j=>Q (.bl (!decide (i=j))) h
 | .str i,.str j=>Q (.bl (!decide (i=j))) h
 |_,_=>False
section
variable {X:Cx}
theorem jfb {f:Value→Value→Sem Value} {C:Int→Int→Prop} {g:Int→Int→V} {gd:Int→Int→D} {r:RD2} (ho:OpR X f (rI C g)) (hg: ∀i j H,RelD X.K H (gd i j) (g i j))
 (hr: ∀x y h Q,r x y h Q→ ∃i j,x= .int i∧y= .int j∧C i j∧Q (gd i j) h):OpQ X f r:=ho.imp fun x y H Q ⟨dx,dy,h,Qd,rx,ry,rh,q,p⟩=>by
 obtain⟨i,j,e1,e2,c,q'⟩:=hr dx dy h Qd q
 subst e1 e2
 exact⟨i,j,rx,ry,c,p _ _ _ _ (.refl H) rh (hg i j H) q'⟩
theorem jdH {f:Value→Value→Sem Value} {g:Int→Int→V} {gd:Int→Int→D} {r:RD2} (ho:OpR X f (rI0 g)) (hg: ∀i j H,RelD X.K H (gd i j) (g i j))
 (hr: ∀x y h Q,r x y h Q→ ∃i j,x= .int i∧y= .int j∧Q (gd i j) h):OpQ X f r:=ho.imp fun x y H Q ⟨dx,dy,h,Qd,rx,ry,rh,q,p⟩=>by
 obtain⟨i,j,e1,e2,q'⟩:=hr dx dy h Qd q
 subst e1 e2
 exact⟨i,j,rx,ry,p _ _ _ _ (.refl H) rh (hg i j H) q'⟩
theorem jcW:OpQ X (binaryOp .Sub) je8:=jdH (gd:=fun i j=> .int (i-j)) jmJ (fun _ _ _=>rfl) fun x y h Q q=>by
 cases x<;>cases y<;>first|exact False.elim q|exact⟨_,_,rfl,rfl,q⟩
theorem jdA:OpQ X (binaryOp .Mod) je9:=jfb (gd:=fun i j=> .int (i%j)) jmK (fun _ _ _=>rfl) fun x y h Q q=>by
 cases x<;>cases y<;>first|exact False.elim q|exact⟨_,_,rfl,rfl,q.1,q.2⟩
theorem jlw:OpQ X (binaryOp .FloorDiv) jcm:=jfb (gd:=fun i j=> .int (i / j)) jk3 (fun _ _ _=>rfl) fun x y h Q q=>by
 cases x<;>cases y<;>first|exact False.elim q|exact⟨_,_,rfl,rfl,q.1,q.2⟩
theorem jky:OpQ X (binaryOp .Pow) jfa:=jfb (gd:=fun i j=> .int (i^j.toNat)) jmL (fun _ _ _=>rfl) fun x y h Q q=>by
 cases x<;>cases y<;>first|exact False.elim q|exact⟨_,_,rfl,rfl,q.1,q.2⟩
theorem jgB {p:Int→Int→Bool}: ∀x y h Q,jeg p x y h Q→ ∃i j,x= .int i∧y= .int j∧Q (.bl (p i j)) h:=fun x y h Q q=>by
 cases x<;>cases y<;>first|exact False.elim q|exact⟨_,_,rfl,rfl,q⟩
theorem jlx:OpQ X (compareOp .Lt) (jeg fun i j=>decide (i<j)):=jdH (gd:=fun i j=> .bl (decide (i<j))) joh (fun _ _ _=>rfl) jgB
theorem jjJ:OpQ X (compareOp .LtE) (jeg fun i j=>decide (i≤j)):=jdH (gd:=fun i j=> .bl (decide (i≤j))) joi (fun _ _ _=>rfl) jgB
theorem jjK:OpQ X (compareOp .GtE) (jeg fun i j=>decide (j≤i)):=jdH (gd:=fun i j=> .bl (decide (j≤i))) joj (fun _ _ _=>rfl) jgB
theorem jmj {α:Type} [DecidableEq α] {f:α→V} (hf: ∀a b,f a=f b→a=b) (a b:α):decide (f a=f b)=decide (a=b):=by
 by_cases h:a=b
 ·subst h;simp
 ·rw [G0S h,G0S (fun e=>h (hf a b e))]
theorem oq_eq:OpQ X (compareOp .Eq) eqD:=op_eq.imp fun x y H Q ⟨dx,dy,h,Qd,rx,ry,rh,q,p⟩=>by
 cases dx<;>cases dy<;>first
  |exact False.elim q
  |(cases (show x= .int _ from rx);cases (show y= .int _ from ry);refine⟨rfl,p _ _ _ _ (.refl H) rh ?_ q⟩;rw [jmj (f:=V.int) (fun a b e=>by cases e;rfl)];rfl)
  |(cases (show x= .bl _ from rx);cases (show y= .bl _ from ry);refine⟨rfl,p _ _ _ _ (.refl H) rh ?_ q⟩;rw [jmj (f:=V.bl) (fun a b e=>by cases e;rfl)];rfl)
  |(cases (show x= .str _ from rx);cases (show y= .str _ from ry);refine⟨rfl,p _ _ _ _ (.refl H) rh ?_ q⟩;rw [jmj (f:=V.str) (fun a b e=>by cases e;rfl)];rfl)
theorem oq_ne:OpQ X (compareOp .NotEq) neD:=op_ne.imp fun x y H Q ⟨dx,dy,h,Qd,rx,ry,rh,q,p⟩=>by
 cases dx<;>cases dy<;>first
  |exact False.elim q
  |(cases (show x= .int _ from rx);cases (show y= .int _ from ry);refine⟨rfl,p _ _ _ _ (.refl H) rh ?_ q⟩;rw [jmj (f:=V.int) (fun a b e=>by cases e;rfl)];rfl)
  |(cases (show x= .bl _ from rx);cases (show y= .bl _ from ry);refine⟨rfl,p _ _ _ _ (.refl H) rh ?_ q⟩;rw [jmj (f:=V.bl) (fun a b e=>by cases e;rfl)];rfl)
  |(cases (show x= .str _ from rx);cases (show y= .str _ from ry);refine⟨rfl,p _ _ _ _ (.refl H) rh ?_ q⟩;rw [jmj (f:=V.str) (fun a b e=>by cases e;rfl)];rfl)
def jnm (K:PySem.W.Frag):R2:=fun x y H Q=> ∃a b xs ys,x= .ref a∧y= .ref b∧SqT K H a xs∧SqT K H b ys∧xs= []∧Q (.ref b) H
theorem op_catT0:OpR X (binaryOp .Add) (jnm X.K):=by
 intro pins s σ H x y v u Q I rx ry h
 obtain⟨a,b,xs,ys,rfl,rfl,ha,hb,hx,q⟩:=h
 cases rx
 cases ry
 obtain⟨its,r1,p1,_⟩:=I.tuple ha
 obtain⟨its2,r2,p2,_⟩:=I.tuple hb
 have hv:its= []:=r1.nil_iff.mpr hx
 obtain⟨⟨cls,dd,data,sl⟩,ho,hc,n,hd⟩:=id p1
 obtain⟨⟨cls2,dd2,data2,sl2⟩,ho2,hc2,n2,hd2⟩:=id p2
 simp only at hc hd hc2 hd2
 subst hc hd hc2 hd2
 exact concat_meets ⟨_,ho,rfl⟩ ⟨_,ho2,rfl⟩ G2Y seq_tuple_add G2g G18 (G14 _ _)
  (tuple_addW0 a b its.toArray its2.toArray n n2 dd dd2 sl sl2 (by simp [hv])) ⟨ho,ho2,.ref b,H,I,rfl,q⟩
theorem jb6:OpQ X (binaryOp .Add) je7:=(op_add.or (op_catT.or (op_catT0.or jmW))).imp fun x y H Q ⟨dx,dy,h,Qd,rx,ry,rh,q,p⟩=>by
 cases dx<;>cases dy<;>first
  |exact False.elim q
  |skip
 ·exact .inl ⟨_,_,rx,ry,p (.int _) _ _ _ (.refl H) rh rfl q⟩
 ·rename_i ds es
  obtain⟨a,vs,e1,h1,r1⟩:=(show ∃a vs,x= .ref a∧H a=some (.tup vs)∧RelDs X.K H ds vs from rx)
  obtain⟨b,us,e2,h2,r2⟩:=(show ∃a vs,y= .ref a∧H a=some (.tup vs)∧RelDs X.K H es vs from ry)
  subst e1 e2
  obtain⟨hz,q⟩:=q
  by_cases hv:vs= []
  ·subst hv
   have e:ds= []:=G2a.mp r1.length
   subst e
   exact .inr (.inr (.inl ⟨a,b,[],us,rfl,rfl,SqT.of h1,SqT.of h2,rfl,p (.tup es) _ _ _ (.refl H) rh ⟨b,us,rfl,h2,r2⟩ q⟩))
  ·refine .inr (.inl ⟨a,b,vs,us,rfl,rfl,SqT.of h1,SqT.of h2,hv,by rw [←r1.length,←r2.length];exact hz,fun e=> ?_,fun _ c hc=> ?_⟩)
   ·subst e
    have e:es= []:=G2a.mp r2.length
    subst e
    rw [G24] at q
    exact p (.tup ds) _ _ _ (.refl H) rh ⟨a,vs,rfl,h1,r1⟩ q
   ·exact p (.tup (ds++es)) _ _ _ (.new hc) (rh.new hc) ⟨c,vs++us,rfl,jao,(r1.append r2).mono (.new hc)⟩ q
 ·rename_i a b
  obtain⟨xs,ys,h1,h2,hz,q⟩:=q
  obtain⟨vs,e1,r1⟩:=rh a xs h1
  obtain⟨us,e2,r2⟩:=rh b ys h2
  refine .inr (.inr (.inr ⟨a,b,vs,us,rx.1,ry.1,e1,e2,by rw [←r1.length,←r2.length];exact hz,fun c hc=> ?_⟩))
  exact p (.lst c) _ _ _ (.new hc) (rh.newL hc (r1.append r2)) ⟨rfl,_,jao⟩ (q c (rh.free hc))
theorem RelDs.flat {K:PySem.W.Frag} {H:Hp} {ds:List D} {vs:List V} (r:RelDs K H ds vs): ∀k:Nat,RelDs K H (List.replicate k ds).flatten (List.replicate k vs).flatten
 |0=>by simp;exact .nil
 |k+1=>by rw [G1l,G1l,G1H,G1H];exact r.append (RelDs.flat r k)
theorem oq_mul:OpQ X (binaryOp .Mult) jeE:=(op_mul.or jmX).imp fun x y H Q ⟨dx,dy,h,Qd,rx,ry,rh,q,p⟩=>by
 cases dx<;>cases dy<;>first
  |exact False.elim q
  |skip
 ·exact .inl ⟨_,_,rx,ry,q.1,p (.int _) _ _ _ (.refl H) rh rfl q.2⟩
 ·obtain⟨xs,h1,b1,b2,hz,q⟩:=q
  obtain⟨vs,e1,r1⟩:=rh _ xs h1
  refine .inr ⟨_,_,vs,rx.1,ry,e1,b1,b2,by rw [←r1.length];exact hz,fun c hc=> ?_⟩
  exact p (.lst c) _ _ _ (.new hc) (rh.newL hc (r1.flat _)) ⟨rfl,_,jao⟩ (q c (rh.free hc))
end
def ixD:RD2:=fun x y h Q=>match x,y with
 | .tup ds,.int i=> ∃d,atI ds i=some d∧Q d h
 | .lst a,.int i=> ∃ds d,h a=some ds∧atI ds i=some d∧Q d h
 | .scr ns,.int i=> ∃n,atI ns i=some n∧Q (.int n) h
 |_,_=>False
theorem jip {K:PySem.W.Frag} {H:Hp} {ds:List D} {vs:List V} (r:RelDs K H ds vs) {i:Int} {d:D} (e:atI ds i=some d): ∃v,atI vs i=some v∧RelD K H d v:=by
 unfold atI at e ⊢
 rw [←r.length]
 cases q:ixN ds.length i with
 |none=>rw [q] at e;cases e
 |some j=>rw [q] at e;exact r.get e
theorem jly {α β:Type} (f:α→β) {xs:List α} {i:Int} {x:α} (e:atI xs i=some x):atI (xs.map f) i=some (f x):=by
 unfold atI at e ⊢
 rw [G0a]
 cases q:ixN xs.length i with
 |none=>rw [q] at e;cases e
 |some j=>
  rw [q] at e
  show (xs.map f)[j]? =_
  rw [G0o,(show xs[j]? =some x from e)];rfl
section
variable {X:Cx} {a b e:Expr} {ta tb te:TED} {pos p2:Pos}
theorem joH: ∀σ H Q,LE X.K (dOp ixD ta tb) σ H Q→tOp (rIx X.K) (LE X.K ta) (LE X.K tb) σ H Q:=fun σ H Q ⟨σd,h,Qd,rs,rh,t,p⟩=>
 LE.bind rs rh t fun dx x h1 H1 k1 rs1 rh1 r1 t1=>LE.bind rs1 rh1 t1 fun dy y h2 H2 k2 rs2 rh2 ry q=>by
  have rx:=r1.mono k2
  have kk:=k1.trans k2
  cases dx<;>cases dy<;>first
   |exact False.elim q
   |skip
  ·rename_i ds i
   obtain⟨d,e,q⟩:=q
   obtain⟨a,vs,e1,hH,r⟩:=(show ∃a vs,x= .ref a∧H2 a=some (.tup vs)∧RelDs X.K H2 ds vs from rx)
   obtain⟨v,e2,rv⟩:=jip r e
   exact .inr (.inl ⟨a,vs,i,v,e1,ry,SqT.of hH,e2,p _ _ _ _ kk rh2 rv q⟩)
  ·rename_i a i
   obtain⟨ds,d,hd,e,q⟩:=q
   obtain⟨vs,hH,r⟩:=rh2 a ds hd
   obtain⟨v,e2,rv⟩:=jip r e
   exact .inl ⟨a,vs,i,v,rx.1,ry,SqL.of hH,e2,p _ _ _ _ kk rh2 rv q⟩
  ·rename_i ns i
   obtain⟨n,e,q⟩:=q
   obtain⟨a,e1,hS⟩:=(show ∃a,x= .ref a∧Scr X.K H2 a ns from rx)
   exact .inl ⟨a,_,i,.int n,e1,ry,hS.sq,jly V.int e,p (.int n) _ _ _ kk rh2 rfl q⟩
theorem qix (ha:QE X a ta) (hb:QE X b tb) (hs:jgz b):QE X (.Subscript a b pos) (dOp ixD ta tb):=(jon jmU ha hb hs).imp joH
end
def jeF:RDn:=fun ds h Q=>match ds with
 | [.tup xs]=>Q (.int xs.length) h
 | [.lst a]=> ∃xs,h a=some xs∧Q (.int xs.length) h
 | [.scr ns]=>Q (.int ns.length) h
 |_=>False
def jeG:RDn:=fun ds h Q=>match ds with
 | [.int i]=>Q (.int i) h
 | [.bl k]=>Q (.int (if k then 1 else 0)) h
 |_=>False
def jeH:RDn:=fun ds h Q=>match ds with
 | [.int i,.int j]=>Q (.int (if j>i then j else i)) h
 |_=>False
def jaR:RDn:=fun ds h Q=>match ds with
 | [.int i,.int j]=>jog i j∧Q (.tup [.int (i / j),.int (i%j)]) h
 |_=>False
def ja8:RDn:=fun ds h Q=>match ds with
 | [.tup xs]=>Q (.tup xs) h
 | [.lst a]=> ∃xs,h a=some xs∧Q (.tup xs) h
 |_=>False
def ja1:RDn:=fun ds h Q=>match ds with
 | [.lst a]=> ∃xs,h a=some xs∧Q (.tup xs) (je4 h a)
 |_=>False
def jb7:RDn:=fun ds h Q=>match ds with
 | [.tup xs]=> ∀p,h p=none→Q (.lst p) (jbT h p xs)
 | [.lst a]=> ∃xs,h a=some xs∧ ∀p,h p=none→Q (.lst p) (jbT h p xs)
 |_=>False
section
variable {X:Cx}
theorem jbz:jdf X (.builtin "len") jeF:=call_len_seq.imp fun xs H Q ⟨ds,h,Qd,r,rh,q,p⟩=>by
 unfold jeF at q
 split at q
 ·rename_i es
  obtain⟨v,e,r1⟩:=jav r
  obtain⟨a,vs,e1,hH,r2⟩:=(show ∃a vs,v= .ref a∧H a=some (.tup vs)∧RelDs X.K H es vs from r1)
  subst e e1
  exact⟨a,vs,rfl,.inr (SqT.of hH),by rw [←r2.length];exact p (.int _) _ _ _ (.refl H) rh rfl q⟩
 ·rename_i a
  obtain⟨es,hd,q⟩:=q
  obtain⟨v,e,r1⟩:=jav r
  obtain⟨vs,hH,r2⟩:=rh a es hd
  have e1:v= .ref a:=r1.1
  subst e e1
  exact⟨a,vs,rfl,.inl (SqL.of hH),by rw [←r2.length];exact p (.int _) _ _ _ (.refl H) rh rfl q⟩
 ·rename_i ns
  obtain⟨v,e,r1⟩:=jav r
  obtain⟨a,e1,hS⟩:=(show ∃a,v= .ref a∧Scr X.K H a ns from r1)
  subst e e1
  exact⟨a,_,rfl,.inl hS.sq,by rw [G0a];exact p (.int _) _ _ _ (.refl H) rh rfl q⟩
 ·exact q.elim
theorem jkz:jdf X (.type "int") jeG:=call_int1.imp fun xs H Q ⟨ds,h,Qd,r,rh,q,p⟩=>by
 unfold jeG at q
 split at q
 ·rename_i i
  obtain⟨v,e,r1⟩:=jav r
  cases (show v= .int i from r1)
  exact .inl ⟨i,e,p (.int i) _ _ _ (.refl H) rh rfl q⟩
 ·rename_i k
  obtain⟨v,e,r1⟩:=jav r
  cases (show v= .bl k from r1)
  exact .inr ⟨k,e,p (.int _) _ _ _ (.refl H) rh rfl q⟩
 ·exact q.elim
theorem jnn (hc:X.calm=true):jdf X (.builtin "max") jeH:=(jh8 hc).imp fun xs H Q ⟨ds,h,Qd,r,rh,q,p⟩=>by
 unfold jeH at q
 split at q
 ·rename_i i j
  obtain⟨v,w,e,r1,r2⟩:=jb5 r
  cases (show v= .int i from r1)
  cases (show w= .int j from r2)
  exact⟨i,j,e,p (.int _) _ _ _ (.refl H) rh rfl q⟩
 ·exact q.elim
theorem cq_tuple:jdf X (.type "tuple") ja8:=call_tuple_of.imp fun xs H Q ⟨ds,h,Qd,r,rh,q,p⟩=>by
 unfold ja8 at q
 split at q
 ·rename_i es
  obtain⟨v,e,r1⟩:=jav r
  obtain⟨a,vs,e1,hH,r2⟩:=(show ∃a vs,v= .ref a∧H a=some (.tup vs)∧RelDs X.K H es vs from r1)
  subst e e1
  exact⟨a,vs,rfl,.inr ⟨SqT.of hH,p (.tup es) _ _ _ (.refl H) rh ⟨a,vs,rfl,hH,r2⟩ q⟩⟩
 ·rename_i a
  obtain⟨es,hd,q⟩:=q
  obtain⟨v,e,r1⟩:=jav r
  obtain⟨vs,hH,r2⟩:=rh a es hd
  have e1:v= .ref a:=r1.1
  subst e e1
  exact⟨a,vs,rfl,.inl ⟨SqL.of hH,fun c hc=>p (.tup es) _ _ _ (.new hc) (rh.new hc) ⟨c,vs,rfl,jao,r2.mono (.new hc)⟩ q⟩⟩
 ·exact q.elim
theorem jbu:jdf X (.type "tuple") ja1:=cq_tuple.imp fun xs H Q ⟨ds,h,Qd,r,rh,q,p⟩=>by
 unfold ja1 at q
 split at q
 ·rename_i a
  obtain⟨es,hd,q⟩:=q
  exact⟨[.lst a],h,fun d h' =>Qd d (je4 h' a),r,rh,⟨es,hd,q⟩,fun d v h' H' k rh' rd q' =>p d v _ H' k (rh'.sub (Sub.drop h' a)) rd q'⟩
 ·exact q.elim
theorem jlz:jdf X (.type "list") jb7:=call_list_of.imp fun xs H Q ⟨ds,h,Qd,r,rh,q,p⟩=>by
 unfold jb7 at q
 split at q
 ·rename_i es
  obtain⟨v,e,r1⟩:=jav r
  obtain⟨a,vs,e1,hH,r2⟩:=(show ∃a vs,v= .ref a∧H a=some (.tup vs)∧RelDs X.K H es vs from r1)
  subst e e1
  exact⟨a,vs,rfl,.inr (SqT.of hH),fun c hc=>p (.lst c) _ _ _ (.new hc) (rh.newL hc r2) ⟨rfl,_,jao⟩ (q c (rh.free hc))⟩
 ·rename_i a
  obtain⟨es,hd,q⟩:=q
  obtain⟨v,e,r1⟩:=jav r
  obtain⟨vs,hH,r2⟩:=rh a es hd
  have e1:v= .ref a:=r1.1
  subst e e1
  exact⟨a,vs,rfl,.inl (SqL.of hH),fun c hc=>p (.lst c) _ _ _ (.new hc) (rh.newL hc r2) ⟨rfl,_,jao⟩ (q c (rh.free hc))⟩
 ·exact q.elim
end
def jfT:D→Option String
 | .non=>some "NoneType" | .bl _=>some "bool" | .int _=>some "int" | .str _=>some "str" | .tup _=>some "tuple" | .lst _=>some "list" | .dic _ _=>some "dict" | .scr _=>none| .exc _=>none| .fn _=>none
def jno (T:String) (n:String):Bool:=n==T||(T== "int" &&n== "bool")
theorem jjL {K:PySem.W.Frag} {H:Hp} {d:D} {v:V} {n:String} (r:RelD K H d v) (e:jfT d=some n):TyOf K H v (.type n):=by
 cases d with
 |non=>cases (show v= .non from r);cases e;exact .non
 |bl b=>cases (show v= .bl b from r);cases e;exact .bl b
 |int i=>cases (show v= .int i from r);cases e;exact .int i
 |str x=>cases (show v= .str x from r);cases e;exact .str x
 |tup ds=>
  obtain⟨a,vs,e1,hH,_⟩:=(show ∃a vs,v= .ref a∧H a=some (.tup vs)∧RelDs K H ds vs from r)
  subst e1;cases e;exact .tup hH
 |lst a=>
  obtain⟨e1,vs,hH⟩:=(show v= .ref a∧ ∃vs,H a=some (.lst vs) from r)
  subst e1;cases e;exact .lst hH
 |dic x i=>
  obtain⟨a,e1,hH⟩:=(show ∃a,v= .ref a∧H a=some (.dK [(Sum.inr x,V.int i)]) from r)
  subst e1;cases e;exact .dK hH
 |scr ns=>cases e
 |exc C=>cases e
 |fn a=>cases e
def jlA:List String:= ["NoneType","bool","int","str","tuple","list","dict"]
theorem jhE {d:D} {n:String} (e:jfT d=some n):n∈jlA:=by
 cases d<;>cases e<;>decide
def joI (K:PySem.W.Frag):Prop:= ∀n∈jlA,∀T∈ ["tuple","int","bool","list","str"],PySem.W.kitOne K (.type n) (.type T)=some (jno T n)
theorem jlB (K:PySem.W.Frag):joI K:=by
 intro n hn T hT
 simp only [jlA,G0v,G06,G2W] at hn hT
 rcases hn with rfl|rfl|rfl|rfl|rfl|rfl|rfl<;>rcases hT with rfl|rfl|rfl|rfl|rfl<;>with_unfolding_all rfl
theorem jiq {X:Cx} (T:String):CallR X (.builtin "isinstance") (fun xs H Q=> ∃x t b,xs= [x,.ty T]∧TyOf X.K H x t∧PySem.W.kitOne X.K t (.type T)=some b∧Q (.bl b) H):=by
 intro pins s σ H xs us Q I r h
 obtain⟨x,t,b,rfl,ty,e,q⟩:=h
 obtain⟨u,w',rfl,rx,rt⟩:=jjA r
 cases (show w' =Value.type T from rt)
 exact jia I rx ty e fun tk=>⟨.bl b,H,I.tok tk,rfl,q⟩
def dIs (T:String) (ta:TED):TED:=fun σ h Q=>ta σ h fun x h1=> ∃n,jfT x=some n∧Q (.bl (jno T n)) h1
theorem joJ {X:Cx} {a:Expr} {ta:TED} {T:String} {t:Str} {p p2 pos:Pos} (hT:T∈ ["tuple","int","bool","list","str"]) (hg:Gl X "isinstance") (hm:X.mg "isinstance" =none) (hg2:Gl X t) (hm2:X.mg t=none) (hv:bootBuiltins t=some (.type T)) (ha:QE X a ta)
 (hn:t≠ "__name__" :=by decide) (hd:(t==("__debug__" :Str))=false:=by decide)
 (h1:starEach [a,.Name t p2] X.env=(false,eval a X.env)::starEach [.Name t p2] X.env:=by rfl) (h2:(backTo pos (starEach [.Name t p2] X.env)).any (·.1)=false:=by rfl):
 QE X (.Call (.Name "isinstance" p) [a,.Name t p2] [] pos) (dIs T ta):=
 (je0 (jiq T) hg hm PyProof.Rows.boot_isinstance (jck ha (jck (jkY (v:= .ty T) hg2 hm2 hv rfl hn hd) pa_nil (by rfl)) h1) (by decide) (by decide) h1 h2).imp
  fun σ H Q ⟨σd,h,Qd,rs,rh,t,p⟩=>LE.bind rs rh t fun d v h1 H1 k1 rs1 rh1 r1 ⟨n,e,q⟩=>⟨v,.type n,jno T n,rfl,jjL r1 e,jlB _ n (jhE e) T hT,p (.bl _) _ _ _ k1 rh1 rfl q⟩
theorem jir (bs:List Bool):(List.range bs.length).all (fun i=>bs.getD i false)=bs.all id:=by
 induction bs with
 |nil=>rfl
 |cons b bs ih=>
  rw [G0e,List.range_succ_eq_map,List.all_cons,G15,List.all_cons]
  show (b&&_)=(b&&bs.all id)
  rw [←ih]
  rfl
theorem jis {bs:List Bool} {its:List Value} (r:Vals (bs.map V.bl) its) {i:Nat} {v:Value} (e:its[i]? =some v):v= .bool (bs.getD i false):=by
 have hl:=r.length
 rw [G0a] at hl
 have hi:i<its.length:=(G0t.mp e).1
 have hb:(bs.map V.bl)[i]? =some (.bl bs[i]):=by rw [G0o,G0i (by omega)];rfl
 obtain⟨u,e1,r1⟩:=r.get hb
 rw [e] at e1;cases e1
 rw [G0n,G0i (by omega)]
 exact r1
section
variable {X:Cx}
theorem jfc (hc:X.calm=true):CallR X (.builtin "all") (fun xs H Q=> ∃ (a:Addr) (bs:List Bool),xs= [.ref a]∧SqL X.K H a (bs.map V.bl)∧Q (.bl (bs.all id)) H):=by
 intro pins s σ H xs us Q I r h
 obtain⟨a,bs,rfl,hS,q⟩:=h
 obtain⟨u,rfl,ru⟩:=jde r
 cases ru
 obtain⟨its,rv,pl,hz⟩:=I.list hS
 have hl:=pl.isList
 have hlt:a<s.heap.objs.size:=by obtain⟨_,e,_⟩:=hl;exact G0k e
 refine call_all_walk (G1X hl ?_)
 refine⟨s.heap.objs.size,_,_,_,_,_,fun i=>bs.getD i false,rfl,Walks.list (A:=X.A.in1) (show X.A.in1.handled=none from I.ok.hd hc) s.heap.objs.size a (G0I hlt) its.toArray,⟨⟨_,G0m _ rfl,rfl,rfl⟩,hl.push _⟩,?_,fun h' tk hk=> ?_⟩
 ·intro i v s' Q' E' hP hQ
  have e:its[i]? =some v:=by simpa using hP
  rw [jis rv e]
  exact G08 hQ
 ·have hn:its.toArray.size=bs.length:=by rw [G0f,←rv.length,G0a]
  rw [hn,jir]
  exact⟨.bl _,H,I.kept (t' :=tk) (fun b o e=>hk b o (fun z=>by rw [G0z.mp z] at e;exact absurd (G0k e) (G0R _)) (G0b _ e)),rfl,q⟩
theorem jdX {K:PySem.W.Frag} {H:Hp}: ∀ {bs:List Bool} {vs:List V},RelDs K H (bs.map D.bl) vs→vs=bs.map V.bl
 | [],_,h=>h
 |b::bs,vs,h=>by
  obtain⟨v,r,e,h1,h2⟩:=(show ∃v r,vs=v::r∧RelD K H (.bl b) v∧RelDs K H (bs.map D.bl) r from h)
  rw [e,jdX h2,(show v= .bl b from h1)];rfl
def jnp:RDn:=fun ds h Q=> ∃ (a:Addr) (bs:List Bool),ds= [.lst a]∧h a=some (bs.map D.bl)∧Q (.bl (bs.all id)) (je4 h a)
theorem jfU (hc:X.calm=true):jdf X (.builtin "all") jnp:=(jfc hc).imp fun xs H Q ⟨ds,h,Qd,r,rh,⟨a,bs,e,hd,q⟩,p⟩=>by
 subst e
 obtain⟨v,e,r1⟩:=jav r
 obtain⟨vs,hH,r2⟩:=rh a _ hd
 have e1:v= .ref a:=r1.1
 rw [jdX r2] at hH
 subst e e1
 exact⟨a,bs,rfl,SqL.of hH,p (.bl _) _ _ _ (.refl H) (rh.sub (Sub.drop h a)) rfl q⟩
end
def jeI (to:TED) (te:TED):TED:=fun σ h Q=>to σ h fun x h1=> ∃a,x= .lst a∧te σ h1 fun y h2=> ∃xs,h2 a=some xs∧xs.length<sizeLine∧Q .non (jbT h2 a (xs++ [y]))
section
variable {X:Cx} {o e i:Expr} {to te ti:TED} {apos cpos pos:Pos}
theorem jpL (ho:QE X o to) (he:QE X e te) (hbase:attributeBase o "append" X.env (eval o X.env)=eval o X.env:=by rfl)
 (hfew:((backTo cpos (starEach [e] X.env)).all (fun x=> !x.1)&&(backToKw cpos (keywordEach [] X.env)).all (fun x=>x.1.isSome)&&decide ([e].length+([]:List Keyword).length+(if ([]:List Keyword).isEmpty then 0 else 1)<30))=true:=by rfl)
 (hline:(apos.endLine==cpos.line)=true:=by rfl) (hs:starEach [e] X.env=(false,eval e X.env)::starEach [] X.env:=by rfl) (hplain:(backTo cpos (starEach [] X.env)).any (·.1)=false:=by rfl):
 QE X (.Call (.Attribute o "append" apos) [e] [] cpos) (jeI to te):=
 (jle G2b PySem.F.slot_list_append PySem.F.type_list_append jig ho (jck he pa_nil hs) hbase hfew hline hs hplain).imp
  fun σ H Q ⟨σd,h,Qd,rs,rh,t,p⟩=>LE.bind rs rh t fun d v h1 H1 k1 rs1 rh1 r1 ⟨a,e,q⟩=>by
   subst e
   obtain⟨e1,vs,hH⟩:=(show v= .ref a∧ ∃vs,H1 a=some (.lst vs) from r1)
   subst e1
   refine⟨.inl ⟨rfl,vs,SqL.of hH⟩,?_⟩
   refine LE.bind rs1 rh1 q fun y u h2 H2 k2 rs2 rh2 r2 ⟨xs,hx,hz,q2⟩=> ?_
   obtain⟨ws,hW,r3⟩:=rh2 a xs hx
   refine⟨a,ws,u,rfl,rfl,hW,by rw [←r3.length];exact hz,p .non _ _ _ (k1.trans (k2.trans (.put hW))) (rh2.put hW (r3.append (.cons r2 .nil))) rfl q2⟩
def jb8 (to ti:TED):TGD:=fun d σ h Q=>to σ h fun o h1=>ti σ h1 fun i h2=> ∃a k xs j,o= .lst a∧i= .int k∧h2 a=some xs∧ixN xs.length k=some j∧Q σ (jbT h2 a (xs.set j d))
theorem jnq (ho:QE X o to) (hi:QE X i ti)
 (ha: ∀v,assign (.Subscript o i pos) X.env v=(do
  let ov ←holding [v] (eval o X.env)
  let iv ←holding [v,ov] (eval i X.env)
  standAt pos
  holding [v,ov,iv] (setItem ov iv v)
  release [v,ov,iv] []):=by intro _;rfl):QG X (.Subscript o i pos) (jb8 to ti):=
 (jmC ho hi jjD ha).imp fun v σ H Q ⟨d,σd,h,Qd,r,rs,rh,q,p⟩=>
  LE.bind rs rh q fun d1 v1 h1 H1 k1 rs1 rh1 r1 q1=>LE.bind rs1 rh1 q1 fun d2 v2 h2 H2 k2 rs2 rh2 r2 ⟨a,k,xs,j,e1,e2,hx,hj,q2⟩=>by
   subst e1 e2
   have e3:v1= .ref a:=(r1.mono k2).1
   obtain⟨ws,hW,r3⟩:=rh2 a xs hx
   refine⟨a,ws,k,j,e3,r2,hW,by rw [←r3.length];exact hj,p _ _ _ _ (k1.trans (k2.trans (.put hW))) (rs2.mono (.put hW)) (rh2.put hW (RelDs.set ((r.mono k1).mono k2) j r3)) q2⟩
end
def jkA (N:List Str) (sc:List (Str×NameKind)) (scope:Scope) (js:List Nat):Bool:=
 scope.kind== .function&&scope.names.all (fun p=>p.2 != .cell||scope.names.lookup p.1==some .cell)&&scope.names.all (fun p=>p.2 != .local||scope.names.lookup p.1==some .local)&&
 scope.names.all (fun p=>p.2 != .free||sc.lookup p.1==some .cell||sc.lookup p.1==some .free)&&
 (List.range N.length).all fun i=>(scope.names.lookup (N.getD i Str.empty) !=some .local&&scope.names.lookup (N.getD i Str.empty) !=some .cell)||js.contains i
theorem jaq {X:Cx} {scope:Scope} {js:List Nat} (h:jkA X.N X.env.scope.names scope js=true):BlockOk X scope js:=by
 unfold jkA at h
 simp only [G1q] at h
 obtain⟨⟨⟨⟨h1,h2⟩,h3⟩,h4⟩,h5⟩:=h
 refine⟨eq_of_beq h1,fun p hp e=> ?_,fun p hp e=> ?_,fun p hp e=> ?_,fun i x e1 e2=> ?_⟩
 ·have:=G00.mp h3 p hp;rw [e] at this;simpa using this
 ·have:=G00.mp h2 p hp;rw [e] at this;simpa using this
 ·have:=G00.mp h4 p hp;rw [e] at this;simpa using this
 ·have hi:i<X.N.length:=(G0t.mp e1).1
  have:=G00.mp h5 i (G0q.mpr hi)
  rw [G0n,e1,G13] at this
  rcases e2 with e2|e2<;>(rw [e2] at this;simpa using this)
theorem qpt {X:Cx} {e:Expr} {t:TTD} (h:QW X e t):QT X e t:=h.pt
theorem jit {i:Nat} {js:List Nat} {ti:TID} {te:TED} {σ:SD} {h h1:HD} {Q:KD} {ds:List D} {j:ItD} (f:D→D) (hz:ds.length≤sizeLine) (hj:j h1=some ds)
 (ht: ∀R:ItD→HD→Prop,R j h1→ti σ h R) (he: ∀d∈ds,∀Q' :KD,Q' (f d) h1→te ((jb4 js σ).set i (some d)) h1 Q') (hq: ∀p,h1 p=none→Q (.lst p) (jbT h1 p (ds.map f))):jfS (bN i) js ti je5 te σ h Q:=by
 refine ht _ ⟨ds.length,fun k ys h' =>h' =h1∧ys=(ds.take k).map f,⟨rfl,by simp⟩,?_⟩
 rintro k ys h' ⟨rfl,rfl⟩
 refine⟨by simp only [G0a,G05];omega,ds,hj,G0d _,fun hl p hp=> ?_,fun d hd=>⟨_,rfl,?_⟩⟩
 ·rw [G1u hl];exact hq p hp
 ·unfold je5
  dsimp only
  rw [if_pos rfl]
  refine he d (G0X hd) _ ⟨h',Sub.refl _,rfl,?_⟩
  rw [G2l,hd]
  simp
end L2
namespace HT
open PySem PySem.Spec PyProof.Rows
section
variable {prog:Program} {w:World} {A:Around} {E:Value→Shared→Prop} {s:Shared}
theorem jc0 {t sl:Addr} {items:Array Value} {vl vu:Value} {lo hi:Option Int} {Q:Value→Shared→Prop} (ht:IsTup s.heap t items) (hs:s.heap.IsSliceOf sl vl vu .none) (pl:IsPart vl lo) (pu:IsPart vu hi)
 (hw:sIx items.size 0 lo=0∧sIx items.size items.size hi=items.size) (h:Q (.ref t) s):wpAny (model prog w) A (getItem (.ref t) (.ref sl)) Q E s:=by
 obtain⟨os,hos,hcs,hds⟩:=id hs
 have hTs:s.TypeIs (.ref sl) "slice" :=⟨os,hos,hcs⟩
 unfold getItem
 try with_reducible refine G04 ?_
 first|refine wpAny_bind (G0c ?_)|skip
 refine wpAny_bind (wpAny_sequenceKey ht.typeIs (by decide) ?_)
 refine wpAny_bind (G01 (name:=Str.ofString "__getitem__") ht.typeIs G1k
  (G0Z G1k ht.typeIs entry_tuple_getitem ?_ (args_tuple_getitem _ _)))
 show wpAny _ _ (Builtin.Tuple.tupleItemsOf (.ref t) >>= _) _ _ s
 refine wpAny_bind (tupleItemsOf_ ht ?_)
 refine wpAny_bind (G2K hTs ?_)
 rw [if_pos (by decide)]
 refine wpAny_bind (jcx hs pl pu ?_)
 have hyes:((((sIx items.size 0 lo:Nat):Int)==0&&(1:Int)==1&&(sIx items.size items.size hi-sIx items.size 0 lo)==items.size)=true):=by
  rw [hw.1,hw.2];simp
 show wpAny _ _ (if (((sIx items.size 0 lo:Nat):Int)==0&&(1:Int)==1&&(sIx items.size items.size hi-sIx items.size 0 lo)==items.size)=true then _ else _) _ _ s
 rw [if_pos hyes]
 refine wpAny_bind (m:=Builtin.Tuple.tupleIsExact (.ref t)) ?_
 unfold Builtin.Tuple.tupleIsExact
 refine wpAny_bind (G2K ht.typeIs (G0c ?_))
 rw [if_pos (by decide)]
 exact wpAny_bind (G3c (G0c ⟨_,rfl,G0c h⟩))
end
end HT
namespace L2
open PySem PySem.Spec PyProof.Rows
def jpM (K:PySem.W.Frag):V→Option Int→Option Int→Hp→VK→Prop:=fun x lo hi H Q=> ∃a xs,x= .ref a∧SqT K H a xs∧(HT.sIx xs.length 0 lo=0∧HT.sIx xs.length xs.length hi=xs.length)∧Q (.ref a) H
theorem sl_whole {X:Cx}:SlR X (jpM X.K):=by
 intro pins s σ H x v vl vu lo hi sl Q I rx hs pl pu h
 obtain⟨a,xs,rfl,hx,hw,q⟩:=h
 cases rx
 obtain⟨its,r,ht,hz⟩:=I.tuple hx
 have hlen:its.toArray.size=xs.length:=by rw [G0f];exact r.length.symm
 refine⟨"tuple",_,PyProof.Rows.slot_tuple_getitem.lookup,ht.typeIs,?_⟩
 exact HT.jc0 ht hs pl pu (by rw [hlen];exact hw) ⟨.ref a,H,I,rfl,q⟩
def jfV {α:Type} (xs:List α) (lo hi:Option Int):List α:=(xs.drop (HT.sIx xs.length 0 lo)).take (HT.sIx xs.length xs.length hi-HT.sIx xs.length 0 lo)
abbrev TOD:=SD→HD→(Option Int→HD→Prop)→Prop
def jaH:TOD:=fun _ h Q=>Q none h
def jb9 (t:TED):TOD:=fun σ h Q=>t σ h fun x h1=> ∃i,x= .int i∧Q (some i) h1
def LO (K:PySem.W.Frag) (t:TOD):TO:=fun σ H Q=> ∃σd h Qd,RelS K H σd σ∧RelH K h H∧t σd h Qd∧ ∀o h' H',Kept H H' →RelH K h' H' →Qd o h' →Q o H'
theorem LO.bind {K:PySem.W.Frag} {ta:TOD} {σ:St} {H:Hp} {σd:SD} {h:HD} {kd:Option Int→HD→Prop} {k:Option Int→Hp→Prop} (rs:RelS K H σd σ) (rh:RelH K h H) (t:ta σd h kd) (f: ∀o h' H',Kept H H' →RelS K H' σd σ→RelH K h' H' →kd o h' →k o H'):LO K ta σ H k:=
 ⟨σd,h,kd,rs,rh,t,fun o h' H' kp r1 q=>f o h' H' kp (rs.mono kp) r1 q⟩
theorem PO.imp {X:Cx} {e:Option Expr} {t t' :TO} (h:PO X e t) (i: ∀σ H Q,t' σ H Q→t σ H Q):PO X e t' :=fun pins s σ H Q I q=>h pins s σ H Q I (i σ H Q q)
abbrev QO (X:Cx) (e:Option Expr) (t:TOD):Prop:=PO X e (LO X.K t)
theorem jlC {X:Cx}:QO X none jaH:=po_none.imp fun σ H Q ⟨σd,h,Qd,rs,rh,q,p⟩=>p none h H (.refl H) rh q
theorem jlD {X:Cx} {e:Expr} {te:TED} (he:QE X e te):QO X (some e) (jb9 te):=(jlb he).imp fun σ H Q ⟨σd,h,Qd,rs,rh,q,p⟩=>
 LE.bind rs rh q fun d v h1 H1 k1 rs1 rh1 r1 ⟨i,e,q1⟩=>by subst e;exact⟨i,r1,p _ _ _ k1 rh1 q1⟩
def slD:D→Option Int→Option Int→HD→KD→Prop:=fun x lo hi h Q=>match x with
 | .tup ds=>Q (.tup (jfV ds lo hi)) h
 | .scr ns=> ∀p,h p=none→Q (.lst p) (jbT h p ((jfV ns lo hi).map D.int))
 | .lst a=> ∃ds,h a=some ds∧ ∀p,h p=none→Q (.lst p) (jbT h p (jfV ds lo hi))
 |_=>False
def dSl (te:TED) (tl th:TOD):TED:=fun σ h Q=>te σ h fun x h1=>tl σ h1 fun l h2=>th σ h2 fun u h3=>slD x l u h3 Q
theorem jfd {K:PySem.W.Frag} {H:Hp} {ds:List D} {vs:List V} (r:RelDs K H ds vs) (lo hi:Option Int):RelDs K H (jfV ds lo hi) (jjo vs lo hi):=by
 unfold jfV jjo
 rw [r.length]
 exact(r.drop _).take _
theorem jlE {α β:Type} (f:α→β) (xs:List α) (lo hi:Option Int):jfV (xs.map f) lo hi=(jfV xs lo hi).map f:=by
 unfold jfV
 rw [G0a,G3m,G2X]
theorem jnr {X:Cx} {e:Expr} {te:TED} {lo hi:Option Expr} {tl th:TOD} {pos p2:Pos} (he:QE X e te) (hl:QO X lo tl) (hu:QO X hi th):QE X (.Subscript e (.Slice lo hi none p2) pos) (dSl te tl th):=
 (jjC (sl_tup.or (sl_whole.or jld)) he hl hu).imp fun σ H Q ⟨σd,h,Qd,rs,rh,q,p⟩=>
  LE.bind rs rh q fun d v h1 H1 k1 rs1 rh1 r1 q1=>LO.bind rs1 rh1 q1 fun l h2 H2 k2 rs2 rh2 q2=>LO.bind rs2 rh2 q2 fun u h3 H3 k3 rs3 rh3 q3=>by
   have rv:=(r1.mono k2).mono k3
   have kk:=k1.trans (k2.trans k3)
   cases d<;>first
    |exact False.elim q3
    |skip
   ·rename_i ds
    obtain⟨a,vs,e1,hH,r⟩:=(show ∃a vs,v= .ref a∧H3 a=some (.tup vs)∧RelDs X.K H3 ds vs from rv)
    by_cases hw:HT.sIx vs.length 0 l=0∧HT.sIx vs.length vs.length u=vs.length
    ·refine .inr (.inl ⟨a,vs,e1,SqT.of hH,hw,p (.tup (jfV ds l u)) _ _ _ kk rh3 ⟨a,vs,rfl,hH,?_⟩ q3⟩)
     have z:=jfd r l u
     have e:jjo vs l u=vs:=by unfold jjo;rw [hw.1,hw.2];simp
     rwa [e] at z
    ·exact .inl ⟨a,vs,e1,SqT.of hH,hw,fun c hc=>p (.tup (jfV ds l u)) _ _ _ (kk.trans (.new hc)) (rh3.new hc) ⟨c,_,rfl,jao,(jfd r l u).mono (.new hc)⟩ q3⟩
   ·rename_i a
    obtain⟨ds,hd,q3⟩:=q3
    obtain⟨vs,hH,r⟩:=rh3 a ds hd
    exact .inr (.inr ⟨a,vs,rv.1,SqL.of hH,fun c hc=>p (.lst c) _ _ _ (kk.trans (.new hc)) (rh3.newL hc (jfd r l u)) ⟨rfl,_,jao⟩ (q3 c (rh3.free hc))⟩)
   ·rename_i ns
    obtain⟨a,e1,hS⟩:=(show ∃a,v= .ref a∧Scr X.K H3 a ns from rv)
    refine .inr (.inr ⟨a,_,e1,hS.sq,fun c hc=>p (.lst c) _ _ _ (kk.trans (.new hc)) (rh3.newL hc ?_) ⟨rfl,_,jao⟩ (q3 c (rh3.free hc))⟩)
    have z:=jfd (jcL (K:=X.K) (H:=H3) ns) l u
    rwa [jlE] at z
end L2
namespace HT
open PySem PySem.Spec PyProof.Rows
open Sem (wp)
open Builtin
theorem jdD:fillsNumberSlot (.type "tuple") "mul" =pure false:=
 PySem.fillsNumberSlot_seq (id:= "tuple.__mul__") (r:=some (.builtin "tuple.__rmul__")) F.slot_tuple_mul.lookup (by decide +kernel) F.slot_tuple_rmul.lookup (by decide +kernel)
theorem jfW:seqRepeat? (.type "tuple")=pure (some (.builtin "tuple.__mul__")):=by
 unfold seqRepeat?
 rw [PySem.seqSlot_of (T:= "tuple") (name:= "__mul__") (id:= "tuple.__mul__") F.slot_tuple_mul.lookup (by decide +kernel),PySem.seqSlot_of (T:= "tuple") (name:= "__rmul__") (id:= "tuple.__rmul__") F.slot_tuple_rmul.lookup (by decide +kernel)]
 rfl
section
variable {prog:Program} {w:World} {A:Around} {E:Value→Shared→Prop} {s:Shared}
theorem jfe {k:Int} {t:Tok} {l:Addr} {o:Obj} {its:Array Value} {n:Nat} {P:PySem.Fin→Shared→Prop} (at_:s.heap.get? l=some o) (tup:o.cls= .type "tuple") (dat:o.data= .seq its n) (h:P (.done (.ret .notImplemented)) s):wpAny (model prog w) A (Builtin.«int.__rmul__» ⟨[.int k t,.ref l],[]⟩) P E s:=by
 obtain⟨c,dd,dt,sl⟩:=o
 cases tup;cases dat
 obtain⟨hp,g,d,tk,os⟩:=s
 wp_walk
 exact h
theorem jgC {l:Addr} {its:Array Value} {n:Nat} {x:Int} {u:Tok} {dd:Option Addr} {sl:Array (Option Value)} {P:PySem.Fin→Shared→Prop} (at_:s.heap.get? l=some {cls:= .type "tuple",dict:=dd,data:= .seq its n,slots:=sl}) (fits: -(2^63)≤x∧x<2^63)
 (same:(its.isEmpty||x==1)=true→P (.done (.ret (.ref l))) s)
 (gone:(its.isEmpty||x==1)=false→(decide (x≤0)||its.isEmpty)=true→P (.done (.ret (.ref s.heap.objs.size))) {s with heap:=s.heap.push {cls:= .type "tuple",data:= .seq #[]}})
 (more:(its.isEmpty||x==1)=false→(decide (x≤0)||its.isEmpty)=false→ ¬ (its.size:Int)*x>(2^63-1) / 8∧Builtin.Tuple.tupleTooMany ((its.size:Int)*x)=false∧((List.replicate x.toNat its).foldl (· ++ ·) #[]).size≤sizeLine∧
  P (.done (.ret (.ref s.heap.objs.size))) {s with heap:=s.heap.push {cls:= .type "tuple",data:= .seq ((List.replicate x.toNat its).foldl (· ++ ·) #[])}}):
 wpAny (model prog w) A (Builtin.«tuple.__mul__» ⟨[.ref l,.int x u],[]⟩) P E s:=by
 obtain⟨hp,g,d,tk,os⟩:=s
 wp_walk
 rw [if_neg (by simp only [G26,G2m];omega)]
 wp_walk
 cases c1:(its.isEmpty||x==1) with
 |true=>
  rw [if_pos rfl]
  wp_walk
  exact same c1
 |false=>
  rw [if_neg G0g]
  cases c2:(decide (x≤0)||its.isEmpty) with
  |true=>
   rw [if_pos rfl]
   wp_walk
   exact gone c1 c2
  |false=>
   obtain⟨m1,m2,m3,m4⟩:=more c1 c2
   rw [if_neg G0g]
   dsimp only
   rw [if_neg m1,m2,if_neg G0g]
   wp_walk
   exact m4
end
end HT
namespace L2
open PySem PySem.Spec PyProof.Rows
def joK (K:PySem.W.Frag):R2:=fun x y H Q=> ∃ (a:Addr) (k:Int) (xs:List V),x= .ref a∧y= .int k∧SqT K H a xs∧ -(2^63)≤k∧k<2^63∧xs.length*k.toNat≤sizeLine∧
 ((xs= []∨k=1)→Q (.ref a) H)∧(¬ (xs= []∨k=1)→ ∀p,H p=none→Q (.ref p) (upd H p (.tup (List.replicate k.toNat xs).flatten)))
theorem jdI {l:List Value}:l.toArray= #[]↔l= []:=by cases l<;>simp
theorem jlF {X:Cx}:OpR X (binaryOp .Mult) (joK X.K):=by
 intro pins s σ H x y v u Q I rx ry h
 obtain⟨a,k,xs,rfl,rfl,hH,h1,h2,hz,q1,q2⟩:=h
 cases rx
 obtain⟨t,rfl⟩:=ry
 obtain⟨its,r,ht,_⟩:=I.tuple hH
 obtain⟨⟨cls,dd,data,sl⟩,ho,hc,n,hd⟩:=id ht
 simp only at hc hd
 subst hc hd
 have hl:=r.length
 have hnew:(List.replicate k.toNat its.toArray).foldl (· ++ ·) #[]=(List.replicate k.toNat its).flatten.toArray:=by
  have:=jdQ its k.toNat []
  rw [G0G] at this
  exact this
 have few:its.length*k.toNat≤sizeLine:=by rw [←hl];exact hz
 have free:=I.hok.fresh (G0d _)
 refine wpAny_binaryOp_repeat_ref (T:= "tuple") (U:= "int") (by decide) ⟨_,ho,rfl⟩ (fun s' =>G3e s' k t) HT.jdD F.fills_int_mul G2E HT.jfW F.slot_int_index.lookup
  (G0Z G2E (G3e s k t) F.entry_int_rmul (HT.jfe ho rfl rfl ⟨_,rfl,rfl,⟨_,ho,rfl⟩,G0Z F.slot_tuple_mul ⟨_,ho,rfl⟩ F.entry_tuple_mul (HT.jgC ho ⟨h1,h2⟩ (fun c=> ?_) (fun c c0=> ?_) (fun c c0=> ?_)) (F.args_tuple_mul_2 _ _)⟩) (F.args_int_rmul_2 _ _))
 ·refine⟨_,rfl,.ref a,H,I,rfl,q1 ?_⟩
  simp only [G26,beq_iff_eq,Array.isEmpty_iff,jdI] at c
  exact c.imp (fun e=>r.nil_iff.mp e) id
 ·simp only [Bool.or_eq_false_iff,G2C,G2I,ne_eq,jdI] at c
  have k0:k.toNat=0:=by
   simp only [G26,G2m,Array.isEmpty_iff,jdI] at c0
   have:=c0.resolve_right c.1;omega
  have last:=q2 (fun z=>z.elim (fun e=>c.1 (r.nil_iff.mpr e)) c.2) _ free
  rw [k0] at last
  exact⟨_,rfl,.ref s.heap.objs.size,_,I.laid (t' :=s.toks) (o:= .tup []) (fun b ob q=>G0b _ q) (G0d _) ⟨by decide,[],.nil,IsTupN.new _ _⟩,rfl,last⟩
 ·simp only [Bool.or_eq_false_iff,G2C,G2I,ne_eq,jdI,decide_eq_false_iff_not] at c c0
  have em:((its.toArray.size:Nat):Int)*k=((its.length*k.toNat:Nat):Int):=by rw [Int.natCast_mul,G0f,show ((k.toNat:Nat):Int)=k by omega]
  have cap:(sizeLine:Nat)≤(2^63-1) / 8:=by decide
  rw [em,hnew]
  refine⟨by omega,by unfold Builtin.Tuple.tupleTooMany;exact decide_eq_false (by omega),by rw [List.size_toArray,jgA,Nat.mul_comm];exact few,_,rfl,.ref s.heap.objs.size,_,I.laid (t' :=s.toks) (o:= .tup (List.replicate k.toNat xs).flatten) (fun b ob q=>Heap.get?_push_of_some _ q) (Nat.le_refl _) ⟨by rw [jgA,Nat.mul_comm];exact hz,_,r.rep k.toNat,IsTupN.new _ _⟩,rfl,q2 (fun z=>z.elim (fun e=>c.1 (r.nil_iff.mpr e)) c.2) _ free⟩
def jeJ:RD2:=fun x y h Q=>match x,y with
 | .tup ds,.int k=> -(2^63)≤k∧k<2^63∧ds.length*k.toNat≤sizeLine∧Q (.tup (List.replicate k.toNat ds).flatten) h
 |x,y=>jeE x y h Q
theorem jff {X:Cx}:OpQ X (binaryOp .Mult) jeJ:=(oq_mul.or jlF).imp fun x y H Q ⟨dx,dy,h,Qd,rx,ry,rh,q,p⟩=>by
 by_cases ht: ∃ds k,dx= .tup ds∧dy= .int k
 ·obtain⟨ds,k,e1,e2⟩:=ht
  subst e1 e2
  obtain⟨b1,b2,hz,q⟩:=q
  obtain⟨a,vs,e,hH,r⟩:=(show ∃a vs,x= .ref a∧H a=some (.tup vs)∧RelDs X.K H ds vs from rx)
  refine .inr ⟨a,k,vs,e,ry,SqT.of hH,b1,b2,by rw [←r.length];exact hz,fun hs=> ?_,fun _ c hc=>p (.tup _) _ _ _ (.new hc) (rh.new hc) ⟨c,_,rfl,jao,(r.flat _).mono (.new hc)⟩ q⟩
  refine p (.tup _) _ _ _ (.refl H) rh ⟨a,vs,rfl,hH,?_⟩ q
  rcases hs with e0|e1
  ·subst e0
   have:ds= []:=G2a.mp r.length
   subst this;simpa using r
  ·subst e1;simpa using r
 ·refine .inl ⟨dx,dy,h,Qd,rx,ry,rh,?_,p⟩
  unfold jeJ at q
  split at q
  ·exact absurd ⟨_,_,rfl,rfl⟩ ht
  ·exact q
def jeK:D→HD→KD→Prop:=fun x h Q=>match x with
 | .int i=>Q (.int (-i)) h
 |_=>False
def dUn (f:D→HD→KD→Prop) (ta:TED):TED:=fun σ h Q=>ta σ h fun x h1=>f x h1 Q
theorem jpN {X:Cx} {a:Expr} {ta:TED} {pos:Pos} (ha:QE X a ta):QE X (.UnaryOp .USub a pos) (dUn jeK ta):=
 (joe jmM ha).imp fun σ H Q ⟨σd,h,Qd,rs,rh,t,p⟩=>LE.bind rs rh t fun d v h1 H1 k1 rs1 rh1 r1 q=>by
  cases d<;>first
   |exact False.elim q
   |exact⟨_,r1,p (.int _) _ _ _ k1 rh1 rfl q⟩
def jfD (te:TED):TED:=fun σ h Q=>te σ h fun x h1=> ∃ds,x= .tup ds∧Q (.tup ds.reverse) h1
def jbj (x:Str) (i:Int):TED:=fun _ h Q=>Q (.dic x i) h
def jns (K:PySem.W.Frag) (tl:TE):TI:=fun σ H R=>tl σ H fun x H1=> ∃a,x= .ref a∧((∃xs,SqL K H1 a xs∧R (Itl K a) H1)∨ ∃xs,SqT K H1 a xs∧R (Itt K a) H1)
theorem jnt {X:Cx} {tg l:Expr} {tl:TE} (hl:PE X l tl):PI X tg l (jns X.K tl):=by
 intro pins s σ H R I h
 refine thn (hl pins s σ H _ I h) fun v s1 ⟨x,H1,I1,r1,q1⟩=> ?_
 obtain⟨a,e,q⟩:=q1
 subst e
 cases r1
 rcases q with ⟨xs,hq,q⟩|⟨xs,hq,q⟩
 ·obtain⟨its,rv,p,hz⟩:=I1.list hq
  refine G1X p.isList ?_
  refine⟨s1.heap.objs.size,[s1.heap.objs.size],_,_,H1,rfl,I1.kept (t' :=s1.toks) fun b o e=>G0b _ e,jfH a _,⟨_,G0m _ rfl,rfl,rfl⟩,fun b hb=> ?_,q⟩
  have e:b=s1.heap.objs.size:=by simpa using hb
  subst e
  exact I1.fpOk (G0d _) (I1.hok.fresh (G0d _))
 ·obtain⟨its,rv,p,hz⟩:=I1.tuple hq
  refine G2c (show s1.heap.IsTuple a its.toArray from p) ?_
  refine⟨s1.heap.objs.size,[s1.heap.objs.size],_,_,H1,rfl,I1.kept (t' :=s1.toks) fun b o e=>G0b _ e,jhw a _,⟨_,G0m _ rfl,rfl,rfl⟩,fun b hb=> ?_,q⟩
  have e:b=s1.heap.objs.size:=by simpa using hb
  subst e
  exact I1.fpOk (G0d _) (I1.hok.fresh (G0d _))
def iS (te:TED):TID:=fun σ h R=>te σ h fun x h1=>match x with
 | .lst a=>R (fun h=>h a) h1
 | .tup ds=>R (fun _=>some ds) h1
 | .scr ns=>R (fun _=>some (ns.map D.int)) h1
 |_=>False
theorem jjM {K:PySem.W.Frag} {H:Hp} {a:Addr} {ns:List Int} (hs:Scr K H a ns):jmi K H (fun _=>some (ns.map D.int)) (Itl K a):=fun H' h' k rh ds' e i=>by
 cases e
 have hs' :Scr K H' a ns:=hs.elim (fun ⟨o,z⟩=> .inl ⟨o,k.frz _ _ _ z⟩) .inr
 refine⟨fun d hd=> ?_,fun hl=>⟨_,hs'.sq,by simpa using hl⟩⟩
 obtain⟨v,e1,e2⟩:=(jcL (K:=K) (H:=H') ns).get hd
 refine⟨⟨_,v,hs'.sq,e1⟩,fun x H'' ⟨eH,hx⟩=> ?_⟩
 subst eH
 have:=hx _ hs'.sq
 rw [e1] at this;cases this
 exact⟨.refl _,rh,e2⟩
theorem jnu {K:PySem.W.Frag} {te:TED}: ∀σ H R,LI K (iS te) σ H R→jns K (LE K te) σ H R:=fun σ H R ⟨σd,h,Rd,rs,rh,q,p⟩=>
 LE.bind rs rh q fun d v h1 H1 k1 rs1 rh1 r1 q1=>by
  cases d<;>first
   |exact False.elim q1
   |skip
  ·rename_i ds
   obtain⟨a,vs,e,hv,r⟩:=(show ∃a vs,v= .ref a∧H1 a=some (.tup vs)∧RelDs K H1 ds vs from r1)
   exact⟨a,e,.inr ⟨vs,SqT.of hv,p _ _ _ _ k1 rh1 (jjI hv r) q1⟩⟩
  ·rename_i a
   obtain⟨e,vs,hv⟩:=(show v= .ref a∧ ∃vs,H1 a=some (.lst vs) from r1)
   exact⟨a,e,.inl ⟨vs,SqL.of hv,p _ _ _ _ k1 rh1 (jfR H1 a) q1⟩⟩
  ·rename_i ns
   obtain⟨a,e,hS⟩:=(show ∃a,v= .ref a∧Scr K H1 a ns from r1)
   exact⟨a,e,.inl ⟨_,hS.sq,p _ _ _ _ k1 rh1 (jjM hS) q1⟩⟩
theorem jnv {X:Cx} {tg e:Expr} {te:TED} (he:QE X e te):QI X tg e (iS te):=(jnt he).imp jnu
def ja9:TSD:=fun _ _ _=>False
theorem jnw {X:Cx} {st:Stmt}:QS X st ja9:=fun _ _ _ _ _ _ ⟨_,_,_,_,_,z,_⟩=>z.elim
structure Zs (mg:Str→Option Value):Prop where
 len:mg "len" =none
 max:mg "max" =none
 min:mg "min" =none
 divmod:mg "divmod" =none
 all:mg "all" =none
 any:mg "any" =none
 repr:mg "repr" =none
 sum:mg "sum" =none
 sorted:mg "sorted" =none
 int:mg "int" =none
 tuple:mg "tuple" =none
 list:mg "list" =none
 set:mg "set" =none
 bool:mg "bool" =none
 isinstance:mg "isinstance" =none
 range:mg "range" =none
 zip:mg "zip" =none
 enumerate:mg "enumerate" =none
 reversed:mg "reversed" =none
def jae (P:Program) (w:World) (K:PySem.W.Frag) (mg:Str→Option Value) (base:Heap) (n:Nat) (x:Str) (ps:List Str) (sp:RDn):Prop:=
 ∃ (g:Addr) (gd:FuncData),FnOk P w K mg base CX0 n g gd ps (LSp K sp)∧Binds K gd ps []∧PySem.W.keepIn K (.ref g)=true∧mg x=some (.ref g)
def jiu:RDn:=fun ds h Q=> ∃ns,ds= [.scr ns]∧(∀a,h a=none)∧ns.length≤63∧ ∀h',Q (.bl true) h'
def Bm (mg:Str→Option Value) (base:Heap):Prop:= ∃bm ob,mg "__builtins__" =some (.ref bm)∧bm≠builtinsNs∧base.get? bm=some ob∧ob.cls= .type "module" ∧ob.dict=some builtinsNs∧ob.data= .plain
def jbP (K:PySem.W.Frag):List (Addr×Addr):=LN.filterMap (PySem.W.tabIn K)
theorem TabK.mem {K:PySem.W.Frag} {P:Addr} (h:TabK K P): ∃c,(c,P)∈jbP K:=let ⟨x,hx,c,e⟩:=h;⟨c,G1P.mpr ⟨x,hx,e⟩⟩
theorem jiv {P:Program} {w:World} {K:PySem.W.Frag} {mg mb:Str→Option Value} {k:Nat} {fa a:Addr} {fd:FuncData} {x:Str} {s₁:Shared} {vs:List Value} {ns:List Int}
 (KX:K.In s₁.heap) (hns:s₁.heap.Ns mainGlobals mg) (hb:s₁.heap.Ns builtinsNs mb) (hbb: ∀x:Str,x≠ "__name__" →mb x=bootBuiltins x) (hlim:s₁.heap.NoLimit) (hg:s₁.gens= #[])
 (ha:s₁.heap.get? a=some {cls:= .type "list",data:= .seq vs.toArray}) (hi:IntsAre vs ns) (hl:ns.length≤63) (hr:Room k callerA)
 (hbm:Bm mg s₁.heap) (F: ∀base:Heap,K.In base→base.Ns mainGlobals mg→Bm mg base→FnOk P w K mg base CX0 k fa fd [x] (LSp K jiu)) (hbind: ∀ (s:Shared) (u:Value),BindsTo s fd ⟨[u],[]⟩ [(x,u)])
 (hT: ∀p∈jbP K,PySem.W.CodeHd s₁.heap p.1 p.2∧s₁.heap.get? p.2=some (PySem.W.tabObj #[])∧K.lookup p.2=none):
 codeAny (model P w) callerA (.call (.ref fa) ⟨[.ref a],[]⟩) (fun r s' =>r= .ok (.ret (.bool true))∧OldK s₁.heap s'.heap∧s'.os=s₁.os∧AllBare s'.gens) s₁:=by
 have rv:=jfP hi
 have lenV:=hi.length
 have hz:ns.length≤sizeLine:=G0T hl (by decide)
 have hT' : ∀b,b∈(jbP K).map (·.2)→ ∃c,PySem.W.CodeHd s₁.heap c b∧s₁.heap.get? b=some (PySem.W.tabObj #[])∧K.lookup b=none:=fun b hb=>by
  obtain⟨p,hp,rfl⟩:=G0M.mp hb
  exact⟨p.1,hT p hp⟩
 have core: ∀H:Hp,Scr K H a ns→HOk P w H s₁.heap→(∀b u,H b=some u→(b=a∧K.lookup a=none∧ ∃o xs,u= .frz o (.lst xs))∨(b∈(jbP K).map (·.2)∧u= .tbl #[]))→(∀b,b∈(jbP K).map (·.2)→H b=some (.tbl #[]))→
  codeAny (model P w) callerA (.call (.ref fa) ⟨[.ref a],[]⟩) (fun r s' =>r= .ok (.ret (.bool true))∧OldK s₁.heap s'.heap∧s'.os=s₁.os∧AllBare s'.gens) s₁:=by
  intro H hS hok hA hTt
  have noA: ∀ {b:Addr} {o:Obj} {es:Array DictEntry} {ep:Nat},s₁.heap.get? b=some o→o.data= .dict es ep→H b=none:=fun {b o es ep} e d=>by
   cases q:H b with
   |none=>rfl
   |some u=>
    rcases hA b u q with ⟨rfl,_,_⟩|⟨z,_⟩
    ·rw [ha] at e;cases e
     have d' :Data.seq vs.toArray _=Data.dict es ep:=d
     cases d'
    ·obtain⟨c,_,e2,_⟩:=hT' b z
     rw [e2] at e;cases e
     have d' :Data.fields _=Data.dict es ep:=d
     cases d'
  have nsK: ∀ {b:Addr} {m:Str→Option Value},s₁.heap.Ns b m→(jjt s₁.heap H).Ns b m:=fun {b m} ⟨o,es,ep,e,d,r⟩=>⟨o,es,ep,jeZ e (noA e d),d,r⟩
  have hKb:K.In (jjt s₁.heap H):=fun b o e=>jeZ (KX b o e) (by
   cases q:H b with
   |none=>rfl
   |some u=>
    rcases hA b u q with ⟨rfl,z,_⟩|⟨z,_⟩
    ·rw [z] at e;cases e
    ·obtain⟨c,_,_,z2⟩:=hT' b z
     rw [z2] at e;cases e)
  have hM:Mod K mg (jjt s₁.heap H):=⟨hKb,nsK hns,⟨mb,nsK hb,hbb⟩,let ⟨mc,h1,h2⟩:=hlim;⟨mc,nsK h1,h2⟩⟩
  have e0:Env0 P w K mg (jjt s₁.heap H) callerA [] s₁ H:=⟨rfl,hM,fun b o e=>jkV e,G25 (jhY _ _),trivial,fun b hb=>absurd (show b∈([]:List Addr) from hb) (by simp),hok,.of_eq hg⟩
  have hsp:LSp K jiu [.ref a] H (fun v _=>v= .bl true) (fun _ _ _=>False):=by
   refine⟨[.scr ns],fun _=>none,fun d _=>d= .bl true,⟨.ref a,[],rfl,⟨a,rfl,hS⟩,rfl⟩,⟨fun b ds e=>(by cases e),fun p hp=> ?_⟩,⟨ns,rfl,fun _=>rfl,hl,fun _=>rfl⟩,?_⟩
   ·obtain⟨c,hc⟩:=hp.mem
    exact⟨#[],hTt p (List.mem_map_of_mem (f:=(·.2)) hc),trivial,fun pos cv e=>(by cases e)⟩
   ·intro d v h' H' _ _ r e
    subst e;exact r
  have hBm:Bm mg (jjt s₁.heap H):=by
   obtain⟨bm,ob,b1,b2,b3,b4,r⟩:=hbm
   refine⟨bm,ob,b1,b2,jeZ b3 ?_,b4,r⟩
   cases q:H bm with
   |none=>rfl
   |some u=>
    rcases hA bm u q with ⟨rfl,_,_⟩|⟨z,_⟩
    ·rw [ha] at b3;cases b3;exact absurd (Value.type.inj b4) (by decide)
    ·obtain⟨c,_,e2,_⟩:=hT' bm z
     rw [e2] at b3;cases b3;cases b4
  refine codeAny_mono ((F _ hKb (nsK hns) hBm).run callerA [] s₁ H ⟨[.ref a],[]⟩ [.ref a] [.ref a] _ _ hr e0 (hbind s₁ (.ref a)) (.cons rfl .nil) hsp) fun r s' h=> ?_
  cases r with
  |error e=>exact False.elim h
  |ok fl=>
   cases fl with
   |next=>exact False.elim h
   |brk=>exact False.elim h
   |cont=>exact False.elim h
   |ret u=>
    obtain⟨v,H',os,bare,un,hok',r',q⟩:=h
    have q' :v= .bl true:=q
    subst q'
    obtain rfl:u=Value.bool true:=r'
    have one: ∀b o,s₁.heap.get? b=some o→s'.heap.get? b=some o∨(b∈(jbP K).map (·.2)∧ ∃more,s'.heap.get? b=some (PySem.W.tabObj more)):=fun b o e=>by
     cases q:H b with
     |none=>exact .inl (un.keep b o e q (by intro z;exact absurd (show b∈([]:List Addr) from z) (by simp)) (by simp))
     |some u=>
      rcases hA b u q with ⟨rfl,_,ob,xs,rfl⟩|⟨z,rfl⟩
      ·have z2:=un.frzs _ ob _ q
       obtain⟨e1,_⟩:=hok _ _ q
       obtain⟨e2,_⟩:=hok' _ _ z2
       rw [e] at e1;cases e1
       exact .inl e2
      ·obtain⟨more,z2⟩:=un.tbls b _ q
       exact .inr ⟨z,_,(show s'.heap.get? b=some _ from hok' b _ z2)⟩
    refine⟨rfl,⟨fun b o e=> ?_,fun b o e=> ?_⟩,os,bare⟩
    ·rcases one b o e with z|⟨z,more,z2⟩
     ·exact .inl z
     ·obtain⟨c,hc,e2,_⟩:=hT' b z
      rw [e] at e2;cases e2
      refine .inr (.inl ⟨(hc.tab e).isCodeTable,rfl,#[],more,rfl,?_⟩)
      rw [z2]
      simp
    ·rcases one b o e with z|⟨z,more,z2⟩
     ·exact⟨_,z⟩
     ·exact⟨_,z2⟩
 have nT:a ∉ (jbP K).map (·.2):=fun z=>by
  obtain⟨c,_,e2,_⟩:=hT' a z
  rw [ha] at e2;cases e2
 have okT: ∀ {H:Hp} (b:Addr),b∈(jbP K).map (·.2)→ObjOk P w H s₁.heap b (.tbl #[]):=fun b hb=>let ⟨_,_,e,_⟩:=hT' b hb;e
 cases hk:K.lookup a with
 |some o=>
  have e:=KX a o hk
  rw [ha] at e
  cases e
  refine core (fun b=>if b∈(jbP K).map (·.2) then some (.tbl #[]) else none) (.inr ⟨_,vs.toArray,_,hk,rfl,rfl,rfl,by rw [G0f,lenV];exact hz,by simpa using rv⟩) (fun b u z=> ?_) (fun b u z=> ?_) fun b hb=>if_pos hb
  ·by_cases hb:b∈(jbP K).map (·.2)
   ·have z' :=(if_pos hb).symm.trans z
    cases z'
    exact okT b hb
   ·have z' :=(if_neg hb).symm.trans z
    cases z'
  ·by_cases hb:b∈(jbP K).map (·.2)
   ·have z' :=(if_pos hb).symm.trans z
    cases z'
    exact .inr ⟨hb,rfl⟩
   ·have z' :=(if_neg hb).symm.trans z
    cases z'
 |none=>
  refine core (fun b=>if b=a then some (.frz {cls:= .type "list",data:= .seq vs.toArray} (.lst (ns.map V.int))) else if b∈(jbP K).map (·.2) then some (.tbl #[]) else none) (.inl ⟨{cls:= .type "list",data:= .seq vs.toArray},if_pos rfl⟩) (fun b u z=> ?_) (fun b u z=> ?_) fun b hb=> ?_
  ·by_cases hb:b=a
   ·have z' :=(if_pos hb).symm.trans z
    cases z'
    subst hb
    exact⟨ha,by rw [G0a];exact hz,vs,_,rv,ha⟩
   ·have z' :=(if_neg hb).symm.trans z
    by_cases hb2:b∈(jbP K).map (·.2)
    ·have z2:=(if_pos hb2).symm.trans z'
     cases z2
     exact okT b hb2
    ·have z2:=(if_neg hb2).symm.trans z'
     cases z2
  ·by_cases hb:b=a
   ·have z' :=(if_pos hb).symm.trans z
    cases z'
    exact .inl ⟨hb,hk,_,_,rfl⟩
   ·have z' :=(if_neg hb).symm.trans z
    by_cases hb2:b∈(jbP K).map (·.2)
    ·have z2:=(if_pos hb2).symm.trans z'
     cases z2
     exact .inr ⟨hb2,rfl⟩
    ·have z2:=(if_neg hb2).symm.trans z'
     cases z2
  ·have:b≠a:=fun z=>nT (z ▸ hb)
   show (if b=a then _ else _)=_
   rw [if_neg this,if_pos hb]
def joL (q:Program) (K:PySem.W.Frag):Bool:=LN.all fun x=>match PySem.W.tabIn K x with
 |some p=>(K.lookup p.2).isNone&&((PyProof.Rows.recsOf q).find? (fun e=>e.name==x)).isSome
 |none=>true
theorem jjN {l:PySem.W.OpenLaw} {k:Nat} {q:Program} {loose:List Str} {XP:(Str→Option Value)→Heap→Prop} {YP:World→Heap→Prop} {d:DefRec} {K:Params→PySem.W.Frag} {x:Str} (hn:l.most=some 63) (hdf:d.params.defaults= []) (hr:Room k callerA)
 (hY: ∀ (w:World) (h:Heap),YP w h→(K w.params).In h) (hB: ∀w:World,joL q (K w.params)=true)
 (F: ∀ (w:World) (mg:Str→Option Value) (fa:Addr) (h:Heap),(K w.params).In h→h.Ns mainGlobals mg→mg d.name=some (.ref fa)→
  ∃fd:FuncData,(∀ (s:Shared) (u:Value),BindsTo s fd ⟨[u],[]⟩ [(x,u)])∧ ∀base:Heap,(K w.params).In base→base.Ns mainGlobals mg→Bm mg base→FnOk l.prog w (K w.params) mg base CX0 k fa fd [x] (LSp (K w.params) jiu)):
 PySem.W.WalkO q loose XP YP l.row.toRowW d [] (fun f vs=>PySem.call f vs):=by
 refine Att.attach_call hn hdf fun w s₀ s₁ mg mb fa o pm cd doc a vs ns G Y ho hd hcd hmg hobj hints hlen hg=> ?_
 have KX:=hY w _ Y
 obtain⟨fd,hb,hF⟩:=F w mg fa _ KX G.T.g hmg
 refine jiv KX G.T.g G.T.b G.T.builtins G.T.nolimit hg hobj hints hlen hr G.T.bmain hF hb fun p hp=> ?_
 obtain⟨x,hx,e⟩:=G1P.mp hp
 have z:=G00.mp (hB w) x hx
 rw [e] at z
 simp only [G1q,Option.isNone_iff_eq_none] at z
 obtain⟨dd,hdd⟩:=G2O.mp z.2
 have t:=PySem.W.tab_of (c:=p.1) (P:=p.2) G.T KX hdd e
 exact⟨t.1,t.2,z.1⟩
def jgD:Expr→Bool
 | .Starred .. =>false
 |_=>true
theorem jgE {e:Expr} {es:List Expr} {env:Env} (h:jgD e=true):starEach (e::es) env=(false,eval e env)::starEach es env:=by
 cases e<;>first|rfl|cases h
theorem qac {X:Cx} {e:Expr} {es:List Expr} {te:TED} {t:TAD} (ha:QE X e te) (hr:QA X es t) (h:jgD e=true:=by rfl):QA X (e::es) (jbi te t):=jin ha hr (jgE h)
theorem jgF {α:Type} {xs:List α} {i:Int} (h0:0≤i) (h1:i<xs.length): ∃x∈xs,atI xs i=some x:=by
 have hk:i.toNat<xs.length:=by omega
 have ek:i=((i.toNat:Nat):Int):=by omega
 have z:=jcB (G0i hk)
 rw [←ek] at z
 exact⟨xs[i.toNat],G1j hk,z⟩
theorem Sub.both {h h' :HD} {p:Addr} {L:List D} (s:Sub h h'):Sub (jbT h p L) (jbT h' p L):=fun a ds e=>by
 by_cases q:a=p
 ·subst q;rw [jad] at e ⊢;exact e
 ·rw [jby q] at e ⊢;exact s a ds e
theorem Sub.newAt {h h' :HD} {p:Addr} {L:List D} (s:Sub h h') (e:h' p=none):Sub h (jbT h' p L):=s.trans (.new e)
def But (p:Addr) (h h' :HD):Prop:= ∀a ds,a≠p→h a=some ds→h' a=some ds
theorem But.refl (p:Addr) (h:HD):But p h h:=fun _ _ _ e=>e
theorem But.new {p q:Addr} {h h' :HD} {L:List D} (s:But p h h') (e:h' q=none):But p h (jbT h' q L):=fun a ds n z=>by
 have:=s a ds n z
 rw [jby (fun w=>by subst w;rw [e] at this;cases this)];exact this
theorem But.put {p:Addr} {h h' :HD} {L:List D} (s:But p h h'):But p h (jbT h' p L):=fun a ds n z=>by rw [jby n];exact s a ds n z
theorem But.putNew {p q:Addr} {h h' :HD} {L:List D} (s:But p h h') (e:h q=none):But p h (jbT h' q L):=fun a ds n z=>by
 rw [jby (fun w=>by subst w;rw [e] at z;cases z)];exact s a ds n z
theorem But.sub {p:Addr} {h h' :HD} {L:List D} (s:But p h h') (e:h' p=some L):Sub (jbT h p L) h' :=fun a ds z=>by
 by_cases q:a=p
 ·subst q;rw [jad] at z;cases z;exact e
 ·rw [jby q] at z;exact s a ds q z
theorem But.upd {p:Addr} {h:HD} {L:List D}:But p h (jbT h p L):=fun a ds n z=>by rw [jby n];exact z
theorem jaP {h:HD} {p q:Addr} {L:List D} (e:h p=some L) (f:h q=none):q≠p:=fun z=>by subst z;rw [e] at f;cases f
theorem jaV {h:HD} {p q:Addr} {L M:List D} (e:h p=some L) (f:h q=none):jbT h q M p=some L:=by rw [jby (fun z=>by subst z;rw [e] at f;cases f)];exact e
theorem jas {h:HD} {a b:Addr} {L M:List D} (n:b≠a) (e:h b=some M):jbT h a L b=some M:=by rw [jby n];exact e
theorem jfX {n:Nat} {i:Nat} {d:D} (h:((List.range n).map fun (k:Nat)=>D.int (k:Int))[i]? =some d):i<n∧d= .int i:=by
 rw [G0o] at h
 by_cases hi:i<n
 ·rw [G07 hi] at h;cases h;exact⟨hi,rfl⟩
 ·rw [G2s (by simpa using hi)] at h;cases h
theorem jam {t u:TSD} {E:EndsD} {σ:SD} {h:HD} (V:SD→HD→Prop) (first: ∀K:SD→HD→Prop,(∀σ' h',V σ' h' →K σ' h')→t {E with nx:=K} σ h) (rest: ∀σ' h',V σ' h' →u E σ' h'):jdC t u E σ h:=first (u E) rest
theorem jiw {p q:Addr} {h h' :HD} (b:But p h h') (e:h' q=none) (n:q≠p):h q=none:=by
 cases z:h q with
 |none=>rfl
 |some ds=>rw [b q ds n z] at e;cases e
def Nxt (E:EndsD) (V:SD→HD→Prop):EndsD:= {E with nx:=fun σ3 h3=> ∃h4,Sub h4 h3∧V σ3 h4,ct:=fun σ3 h3=> ∃h4,Sub h4 h3∧V σ3 h4,bk:=E.nx}
theorem jgG {ta:TAD} {g:TGD} {tb:TSD} {E:EndsD} {σ:SD} {h h1:HD} (n:Nat) (W:Nat→SD→HD→Prop) (hn:n<1000000)
 (ht: ∀R:List D→HD→Prop,R [.int (n:Int)] h1→ta σ h R) (w0:W 0 σ h1) (done: ∀σ' h',W n σ' h' →E.nx σ' h')
 (turn: ∀i σ' h',i<n→W i σ' h' →g (.int (i:Int)) σ' h' fun σ2 h2=>tb (Nxt E fun σ3 h4=>i+1≤n∧W (i+1) σ3 h4) σ2 h2):jn4 (iR1 ta) g tb E σ h:=by
 refine ht _ ⟨(n:Int),rfl,by omega,by omega,n,fun i σ' h' =>i≤n∧W i σ' h',⟨G1D _,w0⟩,?_⟩
 rintro i σ' h' ⟨hi,w⟩
 refine⟨_,rfl,by simp,fun hl=> ?_,fun d hd=> ?_⟩
 ·have:i=n:=by simp at hl;omega
  subst this;exact done _ _ w
 ·obtain⟨hi',e⟩:=jfX hd
  have hi2:i<n:=by omega
  subst e
  exact turn i σ' h' hi2 w
theorem jfY {g:TGD} {tb:TSD} {E:EndsD} {σ:SD} {h1:HD} {j:ItD} (ds:List D) (W:Nat→SD→HD→Prop)
 (hj: ∀i σ' h',W i σ' h' →j h' =some ds) (w0:W 0 σ h1) (done: ∀σ' h',W ds.length σ' h' →E.nx σ' h')
 (turn: ∀i d σ' h',ds[i]? =some d→W i σ' h' →g d σ' h' fun σ2 h2=>tb (Nxt E fun σ3 h4=>i+1≤ds.length∧W (i+1) σ3 h4) σ2 h2):
 ∃ (n:Nat) (W:Nat→SD→HD→Prop),W 0 σ h1∧ ∀i σ' h',W i σ' h' → ∃ds,j h' =some ds∧ds.length≤n∧(ds.length≤i→E.nx σ' h')∧
  ∀d,ds[i]? =some d→g d σ' h' fun σ2 h2=>tb {E with nx:=fun σ3 h3=> ∃h4,Sub h4 h3∧W (i+1) σ3 h4,ct:=fun σ3 h3=> ∃h4,Sub h4 h3∧W (i+1) σ3 h4,bk:=E.nx} σ2 h2:=by
 refine⟨ds.length,fun i σ' h' =>i≤ds.length∧W i σ' h',⟨G1D _,w0⟩,?_⟩
 rintro i σ' h' ⟨hi,w⟩
 refine⟨ds,hj i σ' h' w,G0d _,fun hl=> ?_,fun d hd=>turn i d σ' h' hd w⟩
 have:i=ds.length:=by omega
 subst this;exact done _ _ w
theorem jnx {i:Nat} {js:List Nat} {ta:TAD} {te:TED} {σ:SD} {h h1:HD} {Q:KD} (n:Nat) (W:Nat→List D→HD→Prop) (hn:n≤1000) (ht: ∀R:List D→HD→Prop,R [.int (n:Int)] h1→ta σ h R)
 (w0:W 0 [] h1) (wl: ∀k ys h',W k ys h' →ys.length=k) (turn: ∀k ys h',k<n→W k ys h' →te ((jb4 js σ).set i (some (.int (k:Int)))) h' fun y h4=> ∃h5,Sub h5 h4∧(k+1≤n∧W (k+1) (ys++ [y]) h5))
 (done: ∀ys h',W n ys h' → ∀p,h' p=none→Q (.lst p) (jbT h' p ys)):jfS (bN i) js (iR1 ta) je5 te σ h Q:=by
 refine ht _ ⟨(n:Int),rfl,by omega,by omega,n,fun k ys h' =>k≤n∧W k ys h',⟨G1D _,w0⟩,?_⟩
 rintro k ys h' ⟨hk,w⟩
 refine⟨by rw [wl k ys h' w];exact G0Y (jbK (by omega)),_,rfl,by simp,fun hl p hp=> ?_,fun d hd=>⟨_,rfl,?_⟩⟩
 ·have:k=n:=by simp at hl;omega
  subst this;exact done ys h' w p hp
 ·obtain⟨hi',e⟩:=jfX hd
  subst e
  unfold je5
  dsimp only
  rw [if_pos rfl]
  exact turn k ys h' (by omega) w
end L2
namespace L2
open PySem PySem.Spec PyProof.Rows PySem.SeqAt
mutual
def ToP (h:HD):D→PyData→Prop
 |d,.none=>d= .non
 |d,.bool b=>d= .bl b
 |d,.int i=>d= .int i
 |d,.str x=>d= .str x
 |d,.tuple ps=> ∃ds,d= .tup ds∧ToPs h ds ps
 |d,.list ps=> ∃a ds,d= .lst a∧h a=some ds∧ToPs h ds ps
 |_,.dict _=>False
def ToPs (h:HD):List D→List PyData→Prop
 |ds,[]=>ds= []
 |ds,p::ps=> ∃d r,ds=d::r∧ToP h d p∧ToPs h r ps
end
section
variable {X:Cx} {pins:List (Addr×Obj)} {σ:St} {H:Hp} {s:Shared} {h:HD}
mutual
theorem jbZ (I:Inv X pins σ H s) (rh:RelH X.K h H): ∀ {p:PyData} {d:D} {v:V} {u:Value},ToP h d p→RelD X.K H d v→RelV v u→ ∃as,Reads s.heap u p as
 | .none,d,v,u,t,r,ru=>by cases (show d= .non from t);cases (show v= .non from r);cases (show u= .none from ru);exact⟨[],.none⟩
 | .bool b,d,v,u,t,r,ru=>by cases (show d= .bl b from t);cases (show v= .bl b from r);cases (show u= .bool b from ru);exact⟨[],.bool b⟩
 | .int i,d,v,u,t,r,ru=>by cases (show d= .int i from t);cases (show v= .int i from r);obtain⟨k,rfl⟩:=(show ∃t,u=Value.int i t from ru);exact⟨[],.int i k⟩
 | .str x,d,v,u,t,r,ru=>by cases (show d= .str x from t);cases (show v= .str x from r);obtain⟨k,rfl⟩:=(show ∃t,u=Value.str x t from ru);exact⟨[],.str x k⟩
 | .tuple ps,d,v,u,t,r,ru=>by
  obtain⟨ds,e,ts⟩:=(show ∃ds,d= .tup ds∧ToPs h ds ps from t)
  subst e
  obtain⟨a,vs,e,hH,rs⟩:=(show ∃a vs,v= .ref a∧H a=some (.tup vs)∧RelDs X.K H ds vs from r)
  subst e
  cases (show u= .ref a from ru)
  obtain⟨its,rv,ht,_⟩:=I.tuple (SqT.of hH)
  obtain⟨o,ho,hc,n,hd⟩:=ht
  obtain⟨as,q⟩:=reads_Ds I rh ts rs rv
  exact⟨as,.tuple ho hc hd q⟩
 | .list ps,d,v,u,t,r,ru=>by
  obtain⟨a,ds,e,ha,ts⟩:=(show ∃a ds,d= .lst a∧h a=some ds∧ToPs h ds ps from t)
  subst e
  obtain⟨vs,hH,rs⟩:=rh a ds ha
  have e:v= .ref a:=r.1
  subst e
  cases (show u= .ref a from ru)
  obtain⟨its,rv,pl,_⟩:=I.list (SqL.of hH)
  obtain⟨o,ho,hc,n,hd⟩:=pl.isList
  obtain⟨as,q⟩:=reads_Ds I rh ts rs rv
  exact⟨a::as,.list ho hc hd q⟩
 | .dict _,_,_,_,t,_,_=>(show False from t).elim
theorem reads_Ds (I:Inv X pins σ H s) (rh:RelH X.K h H): ∀ {ps:List PyData} {ds:List D} {vs:List V} {us:List Value},ToPs h ds ps→RelDs X.K H ds vs→Vals vs us→ ∃as,ReadsAll s.heap us ps as
 | [],ds,vs,us,t,r,rv=>by
  cases (show ds= [] from t);cases (show vs= [] from r);cases rv;exact⟨[],.nil⟩
 |p::ps,ds,vs,us,t,r,rv=>by
  obtain⟨d,dr,e,t1,t2⟩:=(show ∃d r,ds=d::r∧ToP h d p∧ToPs h r ps from t)
  subst e
  obtain⟨v,vr,e,r1,r2⟩:=(show ∃v r,vs=v::r∧RelD X.K H d v∧RelDs X.K H dr r from r)
  subst e
  cases rv with
  |cons ru rt=>
   obtain⟨as,q1⟩:=jbZ I rh t1 r1 ru
   obtain⟨bs,q2⟩:=reads_Ds I rh t2 r2 rt
   exact⟨as++bs,.cons q1 q2⟩
end
end
def eqE:RD2:=fun x y h Q=>match x,y with
 | .int i,.int j=>Q (.bl (decide (i=j))) h
 | .bl i,.bl j=>Q (.bl (decide (i=j))) h
 | .str i,.str j=>Q (.bl (decide (i=j))) h
 |x,y=> ∃p q,ToP h x p∧ToP h y q∧shaped p=true∧shaped q=true∧Q (.bl (PyData.eqv p q)) h
def neE:RD2:=fun x y h Q=>match x,y with
 | .int i,.int j=>Q (.bl (!decide (i=j))) h
 | .bl i,.bl j=>Q (.bl (!decide (i=j))) h
 | .str i,.str j=>Q (.bl (!decide (i=j))) h
 |x,y=> ∃p q,ToP h x p∧ToP h y q∧shaped p=true∧shaped q=true∧Q (.bl (!PyData.eqv p q)) h
section
variable {X:Cx}
def eqG:RD2:=fun x y h Q=> ∃p q,ToP h x p∧ToP h y q∧shaped p=true∧shaped q=true∧Q (.bl (PyData.eqv p q)) h
def neG:RD2:=fun x y h Q=> ∃p q,ToP h x p∧ToP h y q∧shaped p=true∧shaped q=true∧Q (.bl (!PyData.eqv p q)) h
theorem jny (hu:X.A.units+64<cLine):OpQ X (compareOp .Eq) eqG:=by
 intro pins s σ H x y v u Q I rx ry h
 obtain⟨dx,dy,h,Qd,r1,r2,rh,⟨p,q,t1,t2,s1,s2,qq⟩,post⟩:=h
 obtain⟨as,a1⟩:=jbZ I rh t1 r1 rx
 obtain⟨bs,b1⟩:=jbZ I rh t2 r2 ry
 exact compareEq_shaped a1 b1 s1 s2 hu ⟨.bl _,H,I,rfl,post (.bl _) _ _ _ (.refl H) rh rfl qq⟩
theorem jnz (hu:X.A.units+64<cLine):OpQ X (compareOp .NotEq) neG:=by
 intro pins s σ H x y v u Q I rx ry h
 obtain⟨dx,dy,h,Qd,r1,r2,rh,⟨p,q,t1,t2,s1,s2,qq⟩,post⟩:=h
 obtain⟨as,a1⟩:=jbZ I rh t1 r1 rx
 obtain⟨bs,b1⟩:=jbZ I rh t2 r2 ry
 exact compareNe_shaped a1 b1 s1 s2 hu ⟨.bl _,H,I,rfl,post (.bl _) _ _ _ (.refl H) rh rfl qq⟩
theorem OpQ.or' {f:Value→Value→Sem Value} {r r' r2:RD2} (h:OpQ X f r) (h' :OpQ X f r') (i: ∀x y hh Q,r2 x y hh Q→r x y hh Q∨r' x y hh Q):OpQ X f r2:=fun pins s σ H x y v u Q I rx ry ⟨dx,dy,hd,Qd,r1,r2',rh,q,p⟩=>
 (i dx dy hd Qd q).elim (fun z=>h pins s σ H x y v u Q I rx ry ⟨dx,dy,hd,Qd,r1,r2',rh,z,p⟩) fun z=>h' pins s σ H x y v u Q I rx ry ⟨dx,dy,hd,Qd,r1,r2',rh,z,p⟩
theorem jeL (hu:X.A.units+64<cLine):OpQ X (compareOp .Eq) eqE:=oq_eq.or' (jny hu) fun x y h Q q=>by
 unfold eqE at q
 split at q
 ·exact .inl q
 ·exact .inl q
 ·exact .inl q
 ·exact .inr q
theorem jfZ (hu:X.A.units+64<cLine):OpQ X (compareOp .NotEq) neE:=oq_ne.or' (jnz hu) fun x y h Q q=>by
 unfold neE at q
 split at q
 ·exact .inl q
 ·exact .inl q
 ·exact .inl q
 ·exact .inr q
def isN:D→Bool
 | .non=>true
 |_=>false
def isV (neg:Bool):RD2:=fun x y h Q=>match y with
 | .non=>Q (.bl (neg !=isN x)) h
 | .bl c=>match x with
  | .bl b=>Q (.bl (neg !=(b==c))) h
  | .non=>Q (.bl neg) h
  |_=>False
 |_=>False
end
end L2
namespace HT
open PySem PySem.Spec PyProof.Rows
section
variable {prog:Program} {w:World} {A:Around} {E:Value→Shared→Prop} {s:Shared}
theorem jf0 (k:Int) {vs:List Value} {ns:List Int} (hi:IntsAre vs ns) (j:Nat) (h:j<ns.length): ∃t,vs[j]? =some (.int ns[j] t):=by
 induction hi generalizing j with
 |nil=>simp at h
 |cons n t r ih=>
  cases j with
  |zero=>exact⟨t,rfl⟩
  |succ j=>obtain⟨u,e⟩:=ih j (by simpa using h);exact⟨u,by simpa using e⟩
theorem jgH {a:Addr} {vs:List Value} {ns:List Int} {k:Int} {t:Tok} {Q:Value→Shared→Prop} (ht:IsTup s.heap a vs.toArray) (hi:IntsAre vs ns) (hk:k∈ns) (h:Q (.int (ns.idxOf k:Nat) s.toks) {s with toks:=s.toks+1}):
 wpAny (model prog w) A (call (.builtin "tuple.index") [.ref a,.int k t]) Q E s:=by
 refine G0Z G2R ht.typeIs PySem.F.entry_tuple_index ?_ (PySem.F.args_tuple_index_2 _ _)
 unfold Builtin.«tuple.index»
 have hj:ns.idxOf k<ns.length:=G1I.mpr hk
 have hlen:=hi.length
 show wpAny _ _ (Builtin.Tuple.tupleItemsOf (.ref a) >>= _) _ _ s
 refine wpAny_bind (tupleItemsOf_ ht ?_)
 have go:wpAny (model prog w) A.in1 (forIn [0:min vs.toArray.size vs.toArray.size] ((none,()):Option PySem.Fin×Unit) fun i __s=>
  match vs.toArray[i]? with
  |some y=>do
   let b ←eqBool y (.int k t)
   if b=true then do
    let r ←retInt ((i:Nat):Int)
    pure (ForInStep.done (some r,()))
    else pure (ForInStep.yield (none,()))
  |x=>pure (ForInStep.yield (none,())))
  (fun r s' =>r=(some (.done (.ret (.int (ns.idxOf k:Nat) s.toks))),())∧s' = {s with toks:=s.toks+1}) E s:=by
  rw [Std.Legacy.Range.forIn_eq_forIn_range']
  refine wpAny_forIn_list _ (fun rest b s' =>b=(none,())∧s' =s∧ ∃i,i≤ns.idxOf k∧rest=List.range' i (ns.length-i)) _ ?_ ?_ _ _ ⟨rfl,rfl,0,G1D _,?_⟩
  ·rintro x rest b s' ⟨rfl,rfl,i,hil,e⟩
   have hin:i<ns.length:=by omega
   obtain⟨n,hn⟩: ∃n,ns.length-i=n+1:=⟨ns.length-i-1,by omega⟩
   rw [hn,List.range'_succ] at e
   injection e with e1 e2
   subst e1 e2
   obtain⟨u,hu⟩:=jf0 k hi x hin
   have hu' :vs.toArray[x]? =some (.int ns[x] u):=by simpa using hu
   rw [hu']
   refine wpAny_bind (wpAny_eqBool_int ?_)
   by_cases hx:x=ns.idxOf k
   ·have he:(ns[x]==k)=true:=by subst hx;simpa using G1R hj
    rw [if_pos he]
    subst hx
    refine wpAny_bind ?_
    exact wpAny_bind (wpAny_mkInt (G0c (G0c ⟨rfl,rfl⟩)))
   ·have hlt:x<ns.idxOf k:=by omega
    have he: ¬ (ns[x]==k)=true:=by rw [ne_of_lt_idxOf hlt hin];exact G0g
    rw [if_neg he]
    refine G0c ⟨rfl,rfl,x+1,hlt,?_⟩
    have:n=ns.length-(x+1):=by omega
    rw [this]
  ·rintro b s' ⟨rfl,rfl,i,hil,e⟩
   have hin:i<ns.length:=by omega
   obtain⟨n,hn⟩: ∃n,ns.length-i=n+1:=⟨ns.length-i-1,by omega⟩
   rw [hn,List.range'_succ] at e
   cases e
  ·simp [hlen]
 refine wpAny_bind (G0c (wpAny_bind (G0c (wpAny_bind (G0U go (fun r s' e=> ?_) fun _ _ e=>e)))))
 obtain⟨rfl,rfl⟩:=e
 exact G0c ⟨_,rfl,h⟩
end
section
variable {prog:Program} {w:World} {A:Around} {E:Value→Shared→Prop} {s:Shared}
theorem jhF {l:Addr} {vs:List Value} {ns:List Int} {Q:Value→Shared→Prop} (hl:IsTup s.heap l vs.toArray) (hI:IntsAre vs ns) (h64:vs.length<64)
 (h: ∀ (h1 h' :Heap) (out:Array Value) (ns' :List Int) (c:Nat),(∀b o,s.heap.get? b=some o→h1.get? b=some o)→(∀b o,h1.get? b=some o→h'.get? b=some o)→h'.get? h1.objs.size=some (seqObj "list" out c)→
  IntsAre out.toList ns' →ns'.Perm ns→ns'.Pairwise (· ≤ ·)→Q (.ref h1.objs.size) {s with heap:=h'}):wpAny (model prog w) A (call (.builtin "sorted") [.ref l]) Q E s:=by
 have few:vs.length≤sizeLine:=G0Y (G1K h64 (by decide))
 obtain⟨o,at_,cl,n,dat⟩:=hl
 refine Calls.call_function_entry kind_sorted plain_sorted entry_sorted (args_sorted1 _) (wpAny_bind (G0c (wpAny_bind (wpAny_collect_seq l (.inr rfl) at_ cl dat (fun h1 grown=> ?_) (by simpa using few)))))
 have fresh:(h1.push (seqObj "list" vs.toArray 0)).get? h1.objs.size=some (seqObj "list" vs.toArray 0):=G0m _ rfl
 refine wpAny_bind (wpAny_newList (wpAny_bind (G04 (G0Z slot_list_sort ⟨_,fresh,rfl⟩ entry_list_sort (list_sort_tree fresh hI h64 fun out ns' i1 i2 i3=>⟨_,rfl,?_⟩) (args_list_sort _)))) few)
 obtain⟨c,lies⟩:=sortedHeap_at (vs:=vs) (out:=out) fresh
 refine G0c ⟨_,rfl,h h1 _ out ns' c grown (fun b ob e=> ?_) lies i1 i2 i3⟩
 have lt:=G0k e
 rw [sortedHeap_old (G0I lt) (by rw [size_push'];exact G2Q lt)]
 exact G0b _ e
end
end HT
namespace L2
open PySem PySem.Spec PyProof.Rows
theorem jeM: ∀ {ns:List Int} {us:List Value},Vals (ns.map V.int) us→IntsAre us ns
 | [],_,r=>by cases r;exact .nil
 |n::ns,_,r=>by
  cases r with
  |cons r t=>obtain⟨k,rfl⟩:=r;exact .cons n k (jeM t)
theorem jdY: ∀ {ns:List Int} {us:List Value},IntsAre us ns→Vals (ns.map V.int) us
 |_,_,.nil=> .nil
 |_,_,.cons n t r=> .cons ⟨t,rfl⟩ (jdY r)
theorem jaW {K:PySem.W.Frag} {H:Hp}: ∀ {ns:List Int} {vs:List V},RelDs K H (ns.map D.int) vs→vs=ns.map V.int
 | [],_,h=>h
 |n::ns,vs,h=>by
  obtain⟨v,r,e,h1,h2⟩:=(show ∃v r,vs=v::r∧RelD K H (.int n) v∧RelDs K H (ns.map D.int) r from h)
  rw [e,jaW h2,(show v= .int n from h1)];rfl
theorem jdZ: ∀ {xs:List V} {us:List Value},xs.length=us.length→(∀ (i:Nat) (x:V) (u:Value),xs[i]? =some x→us[i]? =some u→RelV x u)→Vals xs us
 | [],[],_,_=> .nil
 |x::xs,u::us,hl,h=> .cons (h 0 x u rfl rfl) (jdZ (by simpa using hl) fun i y w e1 e2=>h (i+1) y w (by simpa using e1) (by simpa using e2))
 | [],_::_,hl,_=>by simp at hl
 |_::_,[],hl,_=>by simp at hl
theorem jeN (ns:List Int): ∀k,k≤ns.length→preSum (fun i=>ns.getD i 0) k=(ns.take k).sum
 |0,_=>by simp [preSum]
 |k+1,h=>by
  have hk:k<ns.length:=by omega
  rw [preSum,jeN ns k (by omega),G2l,G0i hk,List.sum_append,G0n,G0i hk]
  simp
theorem jfg {X:Cx} (hc:X.calm=true):CallR X (.builtin "sum") (fun xs H Q=> ∃ (a:Addr) (ns:List Int),xs= [.ref a]∧SqL X.K H a (ns.map V.int)∧Q (.int ns.sum) H):=by
 intro pins s σ H xs us Q I r h
 obtain⟨a,ns,rfl,hS,q⟩:=h
 obtain⟨u,rfl,ru⟩:=jde r
 cases ru
 obtain⟨its,rv,pl,hz⟩:=I.list hS
 have hl:=pl.isList
 have hlt:a<s.heap.objs.size:=by obtain⟨_,e,_⟩:=hl;exact G0k e
 have hi:=jeM rv
 have hn:its.length=ns.length:=hi.length
 refine call_sum_walkAnyS (G1X hl ?_)
 refine⟨s.heap.objs.size,_,_,_,_,_,_,fun i=>ns.getD i 0,rfl,(Walks.list (A:=X.A.in1) (show X.A.in1.handled=none from I.ok.hd hc) s.heap.objs.size a (G0I hlt) its.toArray).toS,⟨⟨_,G0m _ rfl,rfl,rfl⟩,hl.push _⟩,?_,?_,fun s' t' hm=> ?_⟩
 ·intro b hb
  simp only [G0v,G06,G2W] at hb
  show b<(s.heap.push _).objs.size
  rw [G2N]
  rcases hb with e|e
  ·rw [e];exact G1M _
  ·rw [e];exact G2Q hlt
 ·intro i v hP
  have e:its[i]? =some v:=by simpa using hP
  have hil:i<ns.length:=by rw [←hn];exact(G0t.mp e).1
  obtain⟨t,e2⟩:=HT.jf0 0 hi i hil
  rw [e] at e2;cases e2
  refine⟨t,?_⟩
  show Value.int ns[i] t=Value.int (ns.getD i 0) t
  rw [G0n,G0i hil];rfl
 ·have e:preSum (fun i=>ns.getD i 0) its.toArray.size=ns.sum:=by
   rw [G0f,hn,jeN ns _ (G0d _),List.take_length]
  rw [e]
  obtain⟨h',g',d',tk',o'⟩:=s'
  obtain⟨m1,m2,m3,m4,_⟩:=hm
  simp only at m1 m2 m3 m4
  subst m2 m3 m4
  refine⟨.int ns.sum,H,I.kept (t' :=tk') (fun b o e=>m1 b o (fun z=> ?_) (G0b _ e)),⟨_,rfl⟩,q⟩
  rw [G0z.mp z] at e;exact absurd (G0k e) (G0R _)
def jes:RDn:=fun ds h Q=> ∃ (a:Addr) (ns:List Int),ds= [.lst a]∧h a=some (ns.map D.int)∧Q (.int ns.sum) (je4 h a)
theorem jlG {X:Cx} (hc:X.calm=true):jdf X (.builtin "sum") jes:=(jfg hc).imp fun xs H Q ⟨ds,h,Qd,r,rh,⟨a,ns,e,hd,q⟩,p⟩=>by
 subst e
 obtain⟨v,e,r1⟩:=jav r
 obtain⟨vs,hH,r2⟩:=rh a _ hd
 have e1:v= .ref a:=r1.1
 rw [jaW r2] at hH
 subst e e1
 exact⟨a,ns,rfl,SqL.of hH,p (.int _) _ _ _ (.refl H) (rh.sub (Sub.drop h a)) rfl q⟩
def jaK:RDn:=fun ds h Q=> ∃ns:List Int,(ds= [.tup (ns.map D.int)]∨ ∃a,ds= [.lst a]∧h a=some (ns.map D.int))∧ns.length<64∧ ∀ (p:Addr) (ns' :List Int),h p=none→ns'.Perm ns→ns'.Pairwise (· ≤ ·)→Q (.lst p) (jbT h p (ns'.map D.int))
theorem call_sorted_ints {X:Cx}:CallR X (.builtin "sorted") (fun xs H Q=> ∃ (a:Addr) (ns:List Int),xs= [.ref a]∧(SqL X.K H a (ns.map V.int)∨SqT X.K H a (ns.map V.int))∧ns.length<64∧ ∀ (p:Addr) (ns' :List Int),H p=none→ns'.Perm ns→ns'.Pairwise (· ≤ ·)→Q (.ref p) (upd H p (.lst (ns'.map V.int)))):=by
 intro pins s σ H xs us Q I r h
 obtain⟨a,ns,rfl,hS,h64,q⟩:=h
 obtain⟨u,rfl,ru⟩:=jde r
 cases ru
 have fin: ∀ (vs:List Value) (out:Array Value) (ns' :List Int),IntsAre out.toList ns' →ns'.Perm ns→ns'.Pairwise (· ≤ ·)→EP X pins σ Q (.ref (s.heap.objs.size+1)) {s with heap:=sortedAll s.heap vs out}:=fun vs out ns' a1 a2 a3=>by
  obtain⟨e,he⟩:=sortedAll_at s.heap vs out
  have hf:H (s.heap.objs.size+1)=none:=I.hok.fresh (Nat.le_succ _)
  refine⟨.ref _,_,I.laid (t' :=s.toks) (o:= .lst (ns'.map V.int)) (fun b ob q=>sortedAll_old q) (Nat.le_succ _) ?_,rfl,q _ ns' hf a2 a3⟩
  refine⟨?_,out.toList,e,jdY a1,he⟩
  rw [G0a,a2.length_eq]
  exact G0Y (G1K h64 (by decide))
 rcases hS with hS|hS
 ·obtain⟨its,rv,pl,hz⟩:=I.list hS
  have hi:=jeM rv
  exact sorted_ints pl.isList hi (by rw [hi.length];exact h64) (fin its)
 ·obtain⟨its,rv,pl,hz⟩:=I.tuple hS
  have hi:=jeM rv
  refine HT.jhF pl hi (by rw [hi.length];exact h64) fun h1 h' out ns' c k1 k2 lies a1 a2 a3=> ?_
  have I1:=I.kept (t' :=s.toks) k1
  refine⟨.ref _,_,I1.laid (t' :=s.toks) (o:= .lst (ns'.map V.int)) k2 (G0d _) ⟨?_,out.toList,c,jdY a1,lies⟩,rfl,q _ ns' (I1.hok.fresh (G0d _)) a2 a3⟩
  rw [G0a,a2.length_eq]
  exact G0Y (G1K h64 (by decide))
theorem jiy {X:Cx}:jdf X (.builtin "sorted") jaK:=call_sorted_ints.imp fun xs H Q ⟨ds,h,Qd,r,rh,⟨ns,hd,h64,q⟩,p⟩=>by
 have fin: ∀ (c:Addr) (ns' :List Int),H c=none→ns'.Perm ns→ns'.Pairwise (· ≤ ·)→Q (.ref c) (upd H c (.lst (ns'.map V.int))):=fun c ns' hc a b=>
  p (.lst c) _ _ _ (.new hc) (rh.newL hc (jcL ns')) ⟨rfl,_,jao⟩ (q c ns' (rh.free hc) a b)
 rcases hd with e|⟨a,e,ha⟩
 ·subst e
  obtain⟨v,e,r1⟩:=jav r
  obtain⟨a,vs,e1,hH,r2⟩:=(show ∃a vs,v= .ref a∧H a=some (.tup vs)∧RelDs X.K H (ns.map D.int) vs from r1)
  rw [jaW r2] at hH
  subst e e1
  exact⟨a,ns,rfl,.inr (SqT.of hH),h64,fin⟩
 ·subst e
  obtain⟨v,e,r1⟩:=jav r
  obtain⟨vs,hH,r2⟩:=rh a _ ha
  have e1:v= .ref a:=r1.1
  rw [jaW r2] at hH
  subst e e1
  exact⟨a,ns,rfl,.inl (SqL.of hH),h64,fin⟩
def jeO (to te:TED):TED:=fun σ h Q=>to σ h fun x h1=> ∃ns:List Int,x= .tup (ns.map D.int)∧te σ h1 fun y h2=> ∃k:Int,y= .int k∧k∈ns∧Q (.int (ns.idxOf k:Nat)) h2
def jeP (to ti te:TED):TED:=fun σ h Q=>to σ h fun x h1=> ∃a,x= .lst a∧ti σ h1 fun i h2=>te σ h2 fun y h3=> ∃ (k:Nat) (xs:List D),i= .int (k:Int)∧k≤1000∧h3 a=some xs∧xs.length<sizeLine∧Q .non (jbT h3 a (xs.take k++y::xs.drop k))
section
variable {X:Cx} {o e i:Expr} {to te ti:TED} {apos cpos:Pos}
theorem jpO (ho:QE X o to) (he:QE X e te) (hbase:attributeBase o "index" X.env (eval o X.env)=eval o X.env:=by rfl)
 (hfew:((backTo cpos (starEach [e] X.env)).all (fun x=> !x.1)&&(backToKw cpos (keywordEach [] X.env)).all (fun x=>x.1.isSome)&&decide ([e].length+([]:List Keyword).length+(if ([]:List Keyword).isEmpty then 0 else 1)<30))=true:=by rfl)
 (hline:(apos.endLine==cpos.line)=true:=by rfl) (hs:starEach [e] X.env=(false,eval e X.env)::starEach [] X.env:=by rfl) (hplain:(backTo cpos (starEach [] X.env)).any (·.1)=false:=by rfl):
 QE X (.Call (.Attribute o "index" apos) [e] [] cpos) (jeO to te):=by
 intro pins s σ H Q I h
 obtain⟨σd,h,Qd,rs,rh,t,p⟩:=h
 have h1:LE X.K to σ H (fun v H1=> ∃ (ns:List Int) (a:Addr) (h1:HD),v= .ref a∧H1 a=some (.tup (ns.map V.int))∧RelH X.K h1 H1∧Kept H H1∧te σd h1 fun y h2=> ∃k:Int,y= .int k∧k∈ns∧Qd (.int (ns.idxOf k:Nat)) h2):=
  ⟨σd,h,_,rs,rh,t,fun d v h' H' k rh' rd ⟨ns,e,q⟩=>by
   subst e
   obtain⟨a,vs,e1,hH,r2⟩:=(show ∃a vs,v= .ref a∧H' a=some (.tup vs)∧RelDs X.K H' (ns.map D.int) vs from rd)
   rw [jaW r2] at hH
   exact⟨ns,a,h',e1,hH,rh',k,q⟩⟩
 refine wpAny_Call_method_late hbase hfew hline rfl (thn (ho pins s σ H _ I h1) fun v s1 ⟨x,H1,I1,r1,ns,a,h1,ex,hH,rh1,k1,q1⟩=> ?_)
 subst ex
 cases (show v= .ref a from r1)
 obtain⟨z,its,rv,ob,g1,g2,g3,g4⟩:=(show ObjOk X.prog X.w H1 s1.heap a (.tup (ns.map V.int)) from I1.hok a _ hH)
 refine⟨"tuple","tuple.index",PySem.F.plainAttrs_tuple,G2R,PySem.F.type_tuple_index,⟨ob,g1,g2⟩,fun b e=>by cases e;exact⟨ob,g1,g3⟩,?_⟩
 have h2:LA X.K (jbi te jdn) σ H1 (fun us H2=> ∃ (k:Int) (h2:HD),us= [.int k]∧k∈ns∧RelH X.K h2 H2∧Kept H1 H2∧Qd (.int (ns.idxOf k:Nat)) h2):=
  ⟨σd,h1,fun ds h2=> ∃k:Int,ds= [.int k]∧k∈ns∧Qd (.int (ns.idxOf k:Nat)) h2,rs.mono k1,rh1,by
   show te σd h1 fun y h2=> ∃k:Int,[y]= [.int k]∧k∈ns∧Qd (.int (ns.idxOf k:Nat)) h2
   have:(fun y h2=> ∃k:Int,y=D.int k∧k∈ns∧Qd (.int (ns.idxOf k:Nat)) h2)=fun y h2=> ∃k:Int,[y]= [D.int k]∧k∈ns∧Qd (.int (ns.idxOf k:Nat)) h2:=by
    funext y h2;simp
   rw [←this];exact q1,fun ds vs h' H' k rh' rd ⟨kk,e,hm,q⟩=>by
   subst e
   obtain⟨v,e,r2⟩:=jav rd
   cases (show v= .int kk from r2)
   exact⟨kk,h',e,hm,rh',k,q⟩⟩
 have hA:=(jin he jkx hs:QA X [e] (jbi te jdn)) cpos pins s1 σ H1 _ I1 h2
 rw [hs] at hA ⊢
 refine Calls.callWith_builtin (by show (false||(backTo cpos (starEach [] X.env)).any (·.1))=false;rw [hplain]<;>rfl) (Calls.evalArgs_plain ?_)
 refine thn hA fun us s2 ⟨vs,H2,I2,r2,k,h2,ev,hm,rh2,k2,q2⟩=> ?_
 subst ev
 obtain⟨u,rfl,ru⟩:=jde r2
 obtain⟨tk,rfl⟩:=ru
 obtain⟨its2,rv2,ht2,_⟩:=I2.tuple (SqT.of (k2.tup _ _ hH))
 exact HT.jgH ht2 (jeM rv2) hm ⟨.int _,H2,I2.tok _,⟨_,rfl⟩,p (.int _) _ _ _ (k1.trans k2) rh2 rfl q2⟩
end
theorem jiz {X:Cx}:MtM X "list.insert" (fun x vs H Q=> ∃ (l:Addr) (xs:List V) (k:Nat) (y:V),x= .ref l∧vs= [.int (k:Int),y]∧H l=some (.lst xs)∧k≤1000∧xs.length<sizeLine∧Q .non (upd H l (.lst (xs.take k++y::xs.drop k)))):=by
 intro pins s σ H x vs v us Q I rx rv h
 obtain⟨l,xs,k,y,rfl,rfl,hH,hk,hz,q⟩:=h
 cases rx
 obtain⟨u,w',rfl,⟨t,rfl⟩,ry⟩:=jjA rv
 obtain⟨z,its,n,r,hl,e⟩:=I.lstM hH
 have hfit: ¬ (!Builtin.List.listFitsIndex (k:Int))=true:=by rw [fitsIndex_both (by omega) (by omega)];exact G0g
 have hsz:its.toArray.size≤sizeLine:=by rw [G0f];omega
 generalize har:its.toArray=ar at e hsz
 obtain⟨kk,hkk⟩: ∃kk:Int,kk=(k:Int):=⟨_,rfl⟩
 rw [←hkk] at hfit ⊢
 refine G3f F.slot_list_insert ⟨_,e,rfl⟩ F.entry_list_insert (F.args_list_insert_3 _ _ _) (AutoListH.list_insert_list_int_val_1 l ar n kk t w' hfit hsz) ⟨e,?_⟩
 subst har hkk
 refine⟨.non,_,I.lset (its' :=its.take k++w' ::its.drop k) hH e ?_ ((r.take k).append (.cons ry (r.drop k))) ?_,rfl,q⟩
 ·have hk0: ¬ ((k:Int)<0):=by omega
  simp only [hk0,G3s,Int.toNat_natCast,G0f]
  have e1:its.take (min k its.length)=its.take k:=by
   by_cases hh:k≤its.length
   ·rw [Nat.min_eq_left hh]
   ·rw [Nat.min_eq_right (by omega),List.take_length,G1u (by omega)]
  have e2:its.drop (min k its.length)=its.drop k:=by
   by_cases hh:k≤its.length
   ·rw [Nat.min_eq_left hh]
   ·rw [Nat.min_eq_right (by omega),List.drop_length,List.drop_of_length_le (by omega)]
  have e3:(its.drop k).take (its.length-min k its.length)=its.drop k:=G1u (by rw [G1x];omega)
  apply Array.ext'
  simp only [Array.toList_append,G2S,List.extract_toArray,List.extract_eq_drop_take,List.drop_zero,Nat.sub_zero]
  rw [e1,e2,e3,G2P];rfl
 ·rw [G1d,G0e,G05,G1x];omega
section
variable {X:Cx} {o e i:Expr} {to te ti:TED} {apos cpos:Pos}
theorem jpP (ho:QE X o to) (hi:QE X i ti) (he:QE X e te) (hbase:attributeBase o "insert" X.env (eval o X.env)=eval o X.env:=by rfl)
 (hfew:((backTo cpos (starEach [i,e] X.env)).all (fun x=> !x.1)&&(backToKw cpos (keywordEach [] X.env)).all (fun x=>x.1.isSome)&&decide ([i,e].length+([]:List Keyword).length+(if ([]:List Keyword).isEmpty then 0 else 1)<30))=true:=by rfl)
 (hline:(apos.endLine==cpos.line)=true:=by rfl) (hs:starEach [i,e] X.env=(false,eval i X.env)::starEach [e] X.env:=by rfl) (hs2:starEach [e] X.env=(false,eval e X.env)::starEach [] X.env:=by rfl) (hplain:(backTo cpos (starEach [e] X.env)).any (·.1)=false:=by rfl):
 QE X (.Call (.Attribute o "insert" apos) [i,e] [] cpos) (jeP to ti te):=
 (jle G2b PySem.F.slot_list_insert PySem.F.type_list_insert jiz ho (jck hi (jck he pa_nil hs2) hs) hbase hfew hline hs hplain).imp
  fun σ H Q ⟨σd,h,Qd,rs,rh,t,p⟩=>LE.bind rs rh t fun d v h1 H1 k1 rs1 rh1 r1 ⟨a,e,q⟩=>by
   subst e
   obtain⟨e1,vs,hH⟩:=(show v= .ref a∧ ∃vs,H1 a=some (.lst vs) from r1)
   subst e1
   refine⟨.inl ⟨rfl,vs,SqL.of hH⟩,?_⟩
   refine LE.bind rs1 rh1 q fun di vi h2 H2 k2 rs2 rh2 r2 q2=>LE.bind rs2 rh2 q2 fun y u h3 H3 k3 rs3 rh3 r3 ⟨k,xs,ei,hk,hx,hz,q3⟩=> ?_
   subst ei
   have ev:vi= .int (k:Int):=r2
   obtain⟨ws,hW,r4⟩:=rh3 a xs hx
   refine⟨a,ws,k,u,rfl,by rw [ev],hW,hk,by rw [←r4.length];exact hz,p .non _ _ _ (k1.trans (k2.trans (k3.trans (.put hW)))) (rh3.put hW ((r4.take k).append (.cons r3 (r4.drop k)))) rfl q3⟩
end
def jnA (ta:TA):TE:=fun σ H Q=>ta σ H fun vs H1=> ∃j:Int,vs= [.int j]∧ ∀p,H1 p=none→Q (.ref p) (upd H1 p (.rng 0 j))
theorem jjO {X:Cx} {a:Expr} {ta:TA} {p pos:Pos} (hg:Gl X "range") (hm:X.mg "range" =none) (ha:PA X [a] ta) (hs:starEach [a] X.env= [(false,eval a X.env)]:=by rfl):PE X (.Call (.Name "range" p) [a] [] pos) (jnA ta):=by
 intro pins s σ H Q I h
 refine Call_ (jez I hg hm boot_range (G1s (thn (ha pos pins s σ H _ I h) fun us s1 ⟨vs,H1,I1,r1,q1⟩=> ?_) hs rfl))
 obtain⟨j,e,q⟩:=q1
 subst e
 obtain⟨u,rfl,ru⟩:=jde r1
 obtain⟨t,rfl⟩:=ru
 refine call_range_1 ⟨.ref s1.heap.objs.size,_,I1.laid (o:= .rng 0 j) (fun b ob q=>G0b _ q) (G0d _) ?_,rfl,q _ (I1.hok.fresh (G0d _))⟩
 exact⟨_,_,_,G0m _ rfl⟩
theorem jfh {X:Cx} (hc:X.calm=true):CallR X (.type "list") (fun xs H Q=> ∃ (p:Addr) (n:Nat),xs= [.ref p]∧H p=some (.rng 0 (n:Int))∧n≤1000∧ ∀l,H l=none→Q (.ref l) (upd H l (.lst ((List.range n).map fun (k:Nat)=>V.int (k:Int))))):=by
 intro pins s σ H xs us Q I r h
 obtain⟨p,n,rfl,hH,hn,q⟩:=h
 obtain⟨u,rfl,ru⟩:=jde r
 cases ru
 obtain⟨t,u,v,e⟩:=(show ObjOk X.prog X.w H s.heap p (.rng 0 (n:Int)) from I.hok p _ hH)
 refine call_list_range (n:=n) (I.ok.hd hc) e (small_one (by decide) (by decide) (by omega) (by omega)) ?_ (G0T hn (by decide)) fun h' tk acc c' kp e' hacc=> ?_
 ·rw [rangeSize_one];try (split<;>omega)
 ·refine⟨.ref s.heap.objs.size,_,I.laid (t' :=tk) (o:= .lst ((List.range n).map fun (k:Nat)=>V.int (k:Int))) (fun b ob q=>kp b ob q) (G0d _) ?_,rfl,q _ (I.hok.fresh (G0d _))⟩
  obtain⟨hs,hit⟩:=hacc
  refine⟨by rw [G0a,G0h];exact G0Y (jbK hn),acc.toList,c',?_,by simpa using e'⟩
  refine jdZ (by simp [hs]) fun i x u hx hu=> ?_
  rw [G0o] at hx
  have hi:i<n:=by
   by_cases z:i<n
   ·exact z
   ·rw [G2s (by simpa using z)] at hx;cases hx
  rw [G07 hi] at hx
  cases hx
  obtain⟨t,e⟩:=hit i u (by simpa using hu)
  exact⟨t,by rw [e];simp⟩
def jca (ta:TAD):TED:=fun σ h Q=>ta σ h fun ds h1=> ∃n:Nat,ds= [.int (n:Int)]∧n≤1000∧ ∀p,h1 p=none→Q (.lst p) (jbT h1 p ((List.range n).map fun (k:Nat)=>D.int (k:Int)))
theorem jf1 {K:PySem.W.Frag} {H:Hp} (f:Nat→Int): ∀l:List Nat,RelDs K H (l.map fun k=>D.int (f k)) (l.map fun k=>V.int (f k))
 | []=> .nil
 |k::l=> .cons rfl (jf1 f l)
theorem Kept.drop2 {H:Hp} {p q:Addr} {o o' :HO} (hp:H p=none) (hq:upd H p o q=none):Kept H (upd (upd H p o) q o'):=(Kept.new hp).trans (.new hq)
theorem joM {X:Cx} {a:Expr} {ta:TAD} {p p2 pos pos2:Pos} (hc:X.calm=true) (hg:Gl X "list") (hm:X.mg "list" =none) (hg2:Gl X "range") (hm2:X.mg "range" =none) (ha:QA X [a] ta) (hs:starEach [a] X.env= [(false,eval a X.env)]:=by rfl)
 (h1:starEach [.Call (.Name "range" p2) [a] [] pos2] X.env=(false,eval (.Call (.Name "range" p2) [a] [] pos2) X.env)::starEach [] X.env:=by rfl) (h2:(backTo pos (starEach [] X.env)).any (·.1)=false:=by rfl):
 QE X (.Call (.Name "list" p) [.Call (.Name "range" p2) [a] [] pos2] [] pos) (jca ta):=
 (jdO (jfh hc) hg hm (by decide +kernel) (jck (jjO hg2 hm2 ha hs) pa_nil h1) (by decide) (by decide) h1 h2).imp
  fun σ H Q ⟨σd,h,Qd,rs,rh,t,post⟩=>LA.bind rs rh t fun ds vs h1 H1 k1 rs1 rh1 r1 ⟨n,e,hn,q⟩=>by
   subst e
   obtain⟨v,e,r2⟩:=jav r1
   cases (show v= .int (n:Int) from r2)
   refine⟨n,e,fun c hcn=>⟨c,n,rfl,jao,hn,fun l hl=> ?_⟩⟩
   have rh2:=(rh1.new (o:= .rng 0 (n:Int)) hcn)
   exact post (.lst l) (.ref l) _ _ (k1.trans (.drop2 hcn hl)) (rh2.newL hl (jf1 (fun k=>(k:Int)) (List.range n))) ⟨rfl,_,jao⟩ (q l (rh2.free hl))
structure JE (X:Cx) (e:Expr) (t:TED):Prop where
 to:QE X e t
structure JT (X:Cx) (e:Expr) (t:TTD):Prop where
 to:QT X e t
structure JW (X:Cx) (e:Expr) (t:TTD):Prop where
 to:QW X e t
structure JA (X:Cx) (e:List Expr) (t:TAD):Prop where
 to:QA X e t
structure JS (X:Cx) (e:Stmt) (t:TSD):Prop where
 to:QS X e t
structure JSs (X:Cx) (e:List Stmt) (t:TSD):Prop where
 to:QSs X e t
structure JG (X:Cx) (e:Expr) (t:TGD):Prop where
 to:QG X e t
structure JI (X:Cx) (tg e:Expr) (t:TID):Prop where
 to:QI X tg e t
structure JO (X:Cx) (e:Option Expr) (t:TOD):Prop where
 to:QO X e t
section
variable {X:Cx} {a b c e:Expr} {es rest:List Expr} {ta tb tc te:TED} {t u:TAD} {tt tu:TTD} {pos:Pos} {f r r' :RD2}
theorem jv (i:Nat) {x:Str} (hN:X.N[i]? =some x:=by rfl) (hv:Vis X.env.scope x:=by first|exact Or.inl rfl|exact Or.inr (Or.inl rfl)|exact Or.inr (Or.inr rfl)) (hd:(x==("__debug__" :Str))=false:=by decide) (hcd:(x==("__classdict__" :Str))=false:=by decide):JE X (.Name x pos) (jei i):=⟨qv (i:=i) (hN:=hN) (hv:=hv) (hd:=hd) (hcd:=hcd)⟩
theorem jaI {i:Int} {j:Nat}:JE X (.Constant (.int i) j pos) (dC (.int i)):=⟨jpv⟩
theorem jbl {i:Bool} {j:Nat}:JE X (.Constant (.bool i) j pos) (dC (.bl i)):=⟨qbl⟩
theorem jnB {x:Str} {i:Int} {tk:Tok} (hg:Gl X x) (hm:X.mg x=some (.int i tk)) (hd:(x==("__debug__" :Str))=false:=by decide):JE X (.Name x pos) (dC (.int i)):=⟨jow (hg:=hg) (hm:=hm) (hd:=hd)⟩
theorem jop {op:Operator} (ho:OpQ X (binaryOp op) f) (ha:JE X a ta) (hb:JE X b tb):JE X (.BinOp a op b pos) (dOp f ta tb):=⟨qop (ho:=ho) (ha:=ha.to) (hb:=hb.to)⟩
theorem jgI {op:CmpOp} (ho:OpQ X (compareOp op) f) (ha:JE X a ta) (hb:JE X b tb) (hm:behindInMarks op b=false):JE X (.Compare a [op] [b] pos) (dOp f ta tb):=⟨jpw (ho:=ho) (ha:=ha.to) (hb:=hb.to) (hm:=hm)⟩
theorem jcT {op:CmpOp} (ho:OpQ X (compareOp op) f) (ha:JE X a ta) (hb:JE X b tb) (hm:behindInMarks op b=false):JT X (.Compare a [op] [b] pos) (jbm (dOp f ta tb)):=⟨jox (ho:=ho) (ha:=ha.to) (hb:=hb.to) (hm:=hm)⟩
theorem jnC {op op' :CmpOp} (ho:OpQ X (compareOp op) r) (ho' :OpQ X (compareOp op') r') (ha:JE X a ta) (hb:JE X b tb) (hc:JE X c tc) (hm:lastMarks [op,op'] [b,c]=false:=by with_unfolding_all rfl):JE X (.Compare a [op,op'] [b,c] pos) (jaS r r' ta tb tc):=⟨jm8 (ho:=ho) (ho' :=ho') (ha:=ha.to) (hb:=hb.to) (hc:=hc.to) (hm:=hm)⟩
theorem jlH {op op' :CmpOp} (ho:OpQ X (compareOp op) r) (ho' :OpQ X (compareOp op') r') (ha:JE X a ta) (hb:JE X b tb) (hc:JE X c tc) (hm:lastMarks [op,op'] [b,c]=false:=by with_unfolding_all rfl):JT X (.Compare a [op,op'] [b,c] pos) (jbm (jaS r r' ta tb tc)):=⟨jlk (ho:=ho) (ho' :=ho') (ha:=ha.to) (hb:=hb.to) (hc:=hc.to) (hm:=hm)⟩
theorem jdg (ha:JE X a ta) (he: ∀whole,isTrue a X.env whole=(do let v ←whole;standAt a.pos;holding [v] (truthy v)):=by intro _;rfl):JT X a (jbm ta):=⟨joy (ha:=ha.to) (he:=he)⟩
theorem jlI (ha:JT X a tt):JW X (.BoolOp .Or [a] pos) tt:=⟨jpx (ha:=ha.to)⟩
theorem jlJ (ha:JT X a tt) (hb:JW X (.BoolOp .Or (b::rest) pos) tu):JW X (.BoolOp .Or (a::b::rest) pos) (jel tt tu):=⟨jpy (ha:=ha.to) (hb:=hb.to)⟩
theorem jc1 (ha:JT X a tt):JT X (.UnaryOp .Not a pos) (jbU tt):=⟨joz (ha:=ha.to)⟩
theorem jhV {op:BoolOp} (ha:JE X a ta):JE X (.BoolOp op [a] pos) ta:=⟨jpz (ha:=ha.to)⟩
theorem jjr (ha:JE X a ta) (hb:JE X (.BoolOp .And (b::rest) pos) tb):JE X (.BoolOp .And (a::b::rest) pos) (jbV ta tb):=⟨jpA (ha:=ha.to) (hb:=hb.to)⟩
theorem jor (ha:JE X a ta) (hb:JE X (.BoolOp .Or (b::rest) pos) tb):JE X (.BoolOp .Or (a::b::rest) pos) (jem ta tb):=⟨qor (ha:=ha.to) (hb:=hb.to)⟩
theorem jpQ (ha:JE X a ta):JE X (.UnaryOp .Not a pos) (jbW ta):=⟨jpB (ha:=ha.to)⟩
theorem jif {c:Expr} (hc:JT X c tt) (ha:JE X a ta) (hb:JE X b tb):JE X (.IfExp c a b pos) (dIf tt ta tb):=⟨qif (hc:=hc.to) (ha:=ha.to) (hb:=hb.to)⟩
theorem jaa:JA X [] jdn:=⟨jkx⟩
theorem jnD {k:Nat} (h:JA X es t):JE X (.Tuple es k pos) (jej t):=⟨jpC (h:=h.to)⟩
theorem jjs (h:JA X es t):JE X (.List es pos) (jek t):=⟨jpD (h:=h.to)⟩
end
section
variable {X:Cx} {st:Stmt} {sts:List Stmt} {t u:TSD} {e:Expr} {te:TED} {pos:Pos}
theorem ja2:JSs X [] jbX:=⟨jnf⟩
theorem jaf (h1:JS X st t) (h2:JSs X sts u):JSs X (st::sts) (jdC t u):=⟨jlo (h1:=h1.to) (h2:=h2.to)⟩
theorem jag (h1:JS X st t):JSs X [st] t:=⟨jng (h1:=h1.to)⟩
theorem jd0 (he:JE X e te) (hs:swapsWith e none pos.line X.env=pure false:=by rfl):JS X (.Expr e pos) (jbY te):=⟨joB (he:=he.to) (hs:=hs)⟩
theorem jbQ (he:JE X e te):JS X (.Return (some e) pos) (jen te):=⟨jpE (he:=he.to)⟩
theorem jeh {c:Expr} {a b:List Stmt} {tc:TTD} (hc:JT X c tc) (ha:JSs X a t) (hb:JSs X b u):JS X (.If c a b pos) (jef tc t u):=⟨jpF (hc:=hc.to) (ha:=ha.to) (hb:=hb.to)⟩
theorem jet {i:Nat} {x:Str} {pos' :Pos} (hN:X.N.Nodup) (hi:X.N[i]? =some x) (hx:Loc X.env.scope x) (he:JE X e te) (hs:swapsWith e (some (.Name x pos')) pos.line X.env=pure false:=by rfl) (hf:X.fn x=true∨X.env.scope.names.lookup x=some .local:=by first|exact .inl rfl|exact .inr rfl|assumption):JS X (.Assign [.Name x pos'] e pos) (jeo i te):=⟨jpG (hN:=hN) (hi:=hi) (hx:=hx) (he:=he.to) (hs:=hs) (hf:=hf)⟩
theorem jd1 {i:Nat} {x:Str} (hN:X.N.Nodup) (hi:X.N[i]? =some x) (hx:Loc X.env.scope x) (hf:X.fn x=true∨X.env.scope.names.lookup x=some .local:=by first|exact .inl rfl|exact .inr rfl|assumption):JG X (.Name x pos) (gN i):=⟨jlp (hN:=hN) (hi:=hi) (hx:=hx) (hf:=hf)⟩
theorem jf2 {i j:Nat} {x y:Str} {p1 p2:Pos} {k:Nat} (hc:X.calm=true) (hN:X.N.Nodup) (hi:X.N[i]? =some x) (hj:X.N[j]? =some y) (hx:Loc X.env.scope x) (hy:Loc X.env.scope y) (hf:X.fn x=true∨X.env.scope.names.lookup x=some .local:=by first|exact .inl rfl|exact .inr rfl|assumption) (hf2:X.fn y=true∨X.env.scope.names.lookup y=some .local:=by first|exact .inl rfl|exact .inr rfl|assumption):JG X (.Tuple [.Name x p1,.Name y p2] k pos) (gT2 i j):=⟨jnh (hc:=hc) (hN:=hN) (hi:=hi) (hj:=hj) (hx:=hx) (hy:=hy) (hf:=hf) (hf2:=hf2)⟩
theorem jkB {tg:Expr} {g:TGD} (he:JE X e te) (hg:JG X tg g) (hs:swapsWithSole [tg] e pos.line X.env=pure false:=by rfl) (hsw:swappedStores [tg] e X.env=pure none:=by rfl) (h1:(assignEach [tg] X.env).map (·.2)= [assign tg X.env]:=by rfl):JS X (.Assign [tg] e pos) (jep te g):=⟨jpH (he:=he.to) (hg:=hg.to) (hs:=hs) (hsw:=hsw) (h1:=h1)⟩
theorem jpR {i j:Nat} {x y:Str} {a b:Expr} {ta:TAD} {px py pt:Pos} {kt k2 pt2} (hc:X.calm=true) (hN:X.N.Nodup) (hi:X.N[i]? =some x) (hj:X.N[j]? =some y) (hij:i≠j) (hx:X.env.scope.names.lookup x=some .local) (hy:X.env.scope.names.lookup y=some .local) (ha:JA X [a,b] ta) (hw:swappedStores [.Tuple [.Name x px,.Name y py] kt pt] (.Tuple [a,b] k2 pt2) X.env=pure (some [x,y])) (hs:swapsWithSole [.Tuple [.Name x px,.Name y py] kt pt] (.Tuple [a,b] k2 pt2) pos.line X.env=pure false:=by rfl):JS X (.Assign [.Tuple [.Name x px,.Name y py] kt pt] (.Tuple [a,b] k2 pt2) pos) (jeq i j ta):=⟨jpI (hc:=hc) (hN:=hN) (hi:=hi) (hj:=hj) (hij:=hij) (hx:=hx) (hy:=hy) (ha:=ha.to) (hw:=hw) (hs:=hs)⟩
end
section
variable {X:Cx} {tg e iter elt:Expr} {te:TED} {ti:TID} {g:TGD} {tb:TSD} {tt:TTD} {pos:Pos} {ta:TAD} {scope:Scope} {js:List Nat} {ifs:List Expr}
theorem jiA (he:JE X e te):JI X tg e (iL te):=⟨jlr (he:=he.to)⟩
theorem jf3 {p:Pos} {a:Expr} (hg:Gl X "range") (hm:X.mg "range" =none) (ha:JA X [a] ta) (hs:starEach [a] X.env= [(false,eval a X.env)]:=by rfl):JI X tg (.Call (.Name "range" p) [a] [] pos) (iR1 ta):=⟨joF (hg:=hg) (hm:=hm) (ha:=ha.to) (hs:=hs)⟩
theorem jnE {body:List Stmt} (hp:PassesOwn (model X.prog X.w) X.A X.env X.xe) (hc:X.calm=true) (hi:JI X tg iter ti) (hg:JG X tg g) (hb:JSs X body tb) (hs: ∀x,foldedSetIterable iter X.env x=pure x:=by intro _;rfl):JS X (.For tg iter body [] pos) (jn4 ti g tb):=⟨jpJ (hp:=hp) (hc:=hc) (hi:=hi.to) (hg:=hg.to) (hb:=hb.to) (hs:=hs)⟩
theorem ja3:PTs X [] (LT X.K je5):=jls
theorem jlc {i:Nat} {x:Str} {p:Pos} (hc:X.calm=true) (S:BlockOk X scope js) (hi:JI X (.Name x p) iter ti) (hj:i∈js) (hN:X.N.Nodup) (hx:X.N[i]? =some x) (hl:scope.names.lookup x=some .local∨scope.names.lookup x=some .cell) (ht: ∀X',ja6 X scope X' →PTs X' ifs (LT X'.K tt)) (he: ∀X',ja6 X scope X' →JE X' elt te) (hs: ∀x,foldedSetIterable iter X.env x=pure x:=by intro _;rfl):JE X (.ListComp elt [⟨.Name x p,iter,ifs,0⟩] scope pos) (jfS (bN i) js ti tt te):=⟨qlc (hc:=hc) (S:=S) (hi:=hi.to) (hj:=hj) (hN:=hN) (hx:=hx) (hl:=hl) (ht:=ht) (he:=fun X' hX=>(he X' hX).to) (hs:=hs)⟩
theorem jpS {i j:Nat} {x y:Str} {p1 p2 p3:Pos} {k:Nat} (hc:X.calm=true) (S:BlockOk X scope js) (hi:JI X (.Tuple [.Name x p1,.Name y p2] k p3) iter ti) (hj:i∈js) (hj2:j∈js) (hij:i≠j) (hN:X.N.Nodup) (hx:X.N[i]? =some x) (hy:X.N[j]? =some y) (hl:scope.names.lookup x=some .local∨scope.names.lookup x=some .cell) (hl2:scope.names.lookup y=some .local∨scope.names.lookup y=some .cell) (ht: ∀X',ja6 X scope X' →PTs X' ifs (LT X'.K tt)) (he: ∀X',ja6 X scope X' →JE X' elt te) (hs: ∀x,foldedSetIterable iter X.env x=pure x:=by intro _;rfl):JE X (.ListComp elt [⟨.Tuple [.Name x p1,.Name y p2] k p3,iter,ifs,0⟩] scope pos) (jfS (b2 i j) js ti tt te):=⟨jpK (hc:=hc) (S:=S) (hi:=hi.to) (hj:=hj) (hj2:=hj2) (hij:=hij) (hN:=hN) (hx:=hx) (hy:=hy) (hl:=hl) (hl2:=hl2) (ht:=ht) (he:=fun X' hX=>(he X' hX).to) (hs:=hs)⟩
end
section
variable {X:Cx} {k:Nat} {f:Addr} {fd:FuncData} {ps:List Str} {spd:RDn} {x:Str} {p pos:Pos} {e:Expr} {es:List Expr} {t:TAD}
theorem jap (F:FnOk X.prog X.w X.K X.mg X.base CX0 k f fd ps (LSp X.K spd)) (hr:Room k X.A) (hg:Gl X x) (hm:X.mg x=some (.ref f)) (hk:PySem.W.keepIn X.K (.ref f)=true) (hb:Binds X.K fd ps []) (ha:JA X (e::es) t) (hdb:(x==("__debug__" :Str))=false:=by decide) (he:starEach (e::es) X.env=(false,eval e X.env)::starEach es X.env:=by rfl) (hpl:(backTo pos (starEach es X.env)).any (·.1)=false:=by rfl):JE X (.Call (.Name x p) (e::es) [] pos) (dCB spd t):=⟨joG (F:=F) (hr:=hr) (hg:=hg) (hm:=hm) (hk:=hk) (hb:=hb) (ha:=ha.to) (hdb:=hdb) (he:=he) (hpl:=hpl)⟩
theorem jaN {id:String} {r:RDn} (hc:jdf X (.builtin id) r) (hg:Gl X x) (hm:X.mg x=none) (hv:bootBuiltins x=some (.builtin id)) (ha:JA X (e::es) t) (hn:x≠ "__name__" :=by decide) (hdb:(x==("__debug__" :Str))=false:=by decide) (he:starEach (e::es) X.env=(false,eval e X.env)::starEach es X.env:=by rfl) (hpl:(backTo pos (starEach es X.env)).any (·.1)=false:=by rfl):JE X (.Call (.Name x p) (e::es) [] pos) (dCB r t):=⟨jnl (hc:=hc) (hg:=hg) (hm:=hm) (hv:=hv) (ha:=ha.to) (hn:=hn) (hdb:=hdb) (he:=he) (hpl:=hpl)⟩
theorem ja7 {T:String} {r:RDn} (hc:jdf X (.type T) r) (hg:Gl X x) (hm:X.mg x=none) (hv:bootBuiltins x=some (.type T)) (ha:JA X (e::es) t) (hn:x≠ "__name__" :=by decide) (hdb:(x==("__debug__" :Str))=false:=by decide) (he:starEach (e::es) X.env=(false,eval e X.env)::starEach es X.env:=by rfl) (hpl:(backTo pos (starEach es X.env)).any (·.1)=false:=by rfl):JE X (.Call (.Name x p) (e::es) [] pos) (dCB r t):=⟨jlv (hc:=hc) (hg:=hg) (hm:=hm) (hv:=hv) (ha:=ha.to) (hn:=hn) (hdb:=hdb) (he:=he) (hpl:=hpl)⟩
end
section
variable {X:Cx} {a b e:Expr} {ta tb te:TED} {pos p2:Pos}
theorem jix (ha:JE X a ta) (hb:JE X b tb) (hs:jgz b):JE X (.Subscript a b pos) (dOp ixD ta tb):=⟨qix (ha:=ha.to) (hb:=hb.to) (hs:=hs)⟩
end
theorem jgJ {X:Cx} {a:Expr} {ta:TED} {T:String} {t:Str} {p p2 pos:Pos} (hT:T∈ ["tuple","int","bool","list","str"]) (hg:Gl X "isinstance") (hm:X.mg "isinstance" =none) (hg2:Gl X t) (hm2:X.mg t=none) (hv:bootBuiltins t=some (.type T)) (ha:JE X a ta) (hn:t≠ "__name__" :=by decide) (hd:(t==("__debug__" :Str))=false:=by decide) (h1:starEach [a,.Name t p2] X.env=(false,eval a X.env)::starEach [.Name t p2] X.env:=by rfl) (h2:(backTo pos (starEach [.Name t p2] X.env)).any (·.1)=false:=by rfl):JE X (.Call (.Name "isinstance" p) [a,.Name t p2] [] pos) (dIs T ta):=⟨joJ (hT:=hT) (hg:=hg) (hm:=hm) (hg2:=hg2) (hm2:=hm2) (hv:=hv) (ha:=ha.to) (hn:=hn) (hd:=hd) (h1:=h1) (h2:=h2)⟩
section
variable {X:Cx} {o e i:Expr} {to te ti:TED} {apos cpos pos:Pos}
theorem joN (ho:JE X o to) (he:JE X e te) (hbase:attributeBase o "append" X.env (eval o X.env)=eval o X.env:=by rfl) (hfew:((backTo cpos (starEach [e] X.env)).all (fun x=> !x.1)&&(backToKw cpos (keywordEach [] X.env)).all (fun x=>x.1.isSome)&&decide ([e].length+([]:List Keyword).length+(if ([]:List Keyword).isEmpty then 0 else 1)<30))=true:=by rfl) (hline:(apos.endLine==cpos.line)=true:=by rfl) (hs:starEach [e] X.env=(false,eval e X.env)::starEach [] X.env:=by rfl) (hplain:(backTo cpos (starEach [] X.env)).any (·.1)=false:=by rfl):JE X (.Call (.Attribute o "append" apos) [e] [] cpos) (jeI to te):=⟨jpL (ho:=ho.to) (he:=he.to) (hbase:=hbase) (hfew:=hfew) (hline:=hline) (hs:=hs) (hplain:=hplain)⟩
theorem jkC (ho:JE X o to) (hi:JE X i ti) (ha: ∀v,assign (.Subscript o i pos) X.env v=(do
 let ov ←holding [v] (eval o X.env)
 let iv ←holding [v,ov] (eval i X.env)
 standAt pos
 holding [v,ov,iv] (setItem ov iv v)
 release [v,ov,iv] []):=by intro _;rfl):JG X (.Subscript o i pos) (jb8 to ti):=⟨jnq (ho:=ho.to) (hi:=hi.to) (ha:=ha)⟩
end
theorem jpt {X:Cx} {e:Expr} {t:TTD} (h:JW X e t):JT X e t:=⟨qpt (h:=h.to)⟩
theorem jlK {X:Cx}:JO X none jaH:=⟨jlC⟩
theorem jgK {X:Cx} {e:Expr} {te:TED} (he:JE X e te):JO X (some e) (jb9 te):=⟨jlD (he:=he.to)⟩
theorem jkD {X:Cx} {e:Expr} {te:TED} {lo hi:Option Expr} {tl th:TOD} {pos p2:Pos} (he:JE X e te) (hl:JO X lo tl) (hu:JO X hi th):JE X (.Subscript e (.Slice lo hi none p2) pos) (dSl te tl th):=⟨jnr (he:=he.to) (hl:=hl.to) (hu:=hu.to)⟩
theorem jph {X:Cx} {a:Expr} {ta:TED} {pos:Pos} (ha:JE X a ta):JE X (.UnaryOp .USub a pos) (dUn jeK ta):=⟨jpN (ha:=ha.to)⟩
theorem jcX {X:Cx} {tg e:Expr} {te:TED} (he:JE X e te):JI X tg e (iS te):=⟨jnv (he:=he.to)⟩
theorem jiB {X:Cx} {st:Stmt}:JS X st ja9:=⟨jnw⟩
theorem jac {X:Cx} {e:Expr} {es:List Expr} {te:TED} {t:TAD} (ha:JE X e te) (hr:JA X es t) (h:jgD e=true:=by rfl):JA X (e::es) (jbi te t):=⟨qac (ha:=ha.to) (hr:=hr.to) (h:=h)⟩
section
variable {X:Cx} {o e i:Expr} {to te ti:TED} {apos cpos:Pos}
theorem jpT (ho:JE X o to) (he:JE X e te) (hbase:attributeBase o "index" X.env (eval o X.env)=eval o X.env:=by rfl) (hfew:((backTo cpos (starEach [e] X.env)).all (fun x=> !x.1)&&(backToKw cpos (keywordEach [] X.env)).all (fun x=>x.1.isSome)&&decide ([e].length+([]:List Keyword).length+(if ([]:List Keyword).isEmpty then 0 else 1)<30))=true:=by rfl) (hline:(apos.endLine==cpos.line)=true:=by rfl) (hs:starEach [e] X.env=(false,eval e X.env)::starEach [] X.env:=by rfl) (hplain:(backTo cpos (starEach [] X.env)).any (·.1)=false:=by rfl):JE X (.Call (.Attribute o "index" apos) [e] [] cpos) (jeO to te):=⟨jpO (ho:=ho.to) (he:=he.to) (hbase:=hbase) (hfew:=hfew) (hline:=hline) (hs:=hs) (hplain:=hplain)⟩
theorem jpU (ho:JE X o to) (hi:JE X i ti) (he:JE X e te) (hbase:attributeBase o "insert" X.env (eval o X.env)=eval o X.env:=by rfl) (hfew:((backTo cpos (starEach [i,e] X.env)).all (fun x=> !x.1)&&(backToKw cpos (keywordEach [] X.env)).all (fun x=>x.1.isSome)&&decide ([i,e].length+([]:List Keyword).length+(if ([]:List Keyword).isEmpty then 0 else 1)<30))=true:=by rfl) (hline:(apos.endLine==cpos.line)=true:=by rfl) (hs:starEach [i,e] X.env=(false,eval i X.env)::starEach [e] X.env:=by rfl) (hs2:starEach [e] X.env=(false,eval e X.env)::starEach [] X.env:=by rfl) (hplain:(backTo cpos (starEach [e] X.env)).any (·.1)=false:=by rfl):JE X (.Call (.Attribute o "insert" apos) [i,e] [] cpos) (jeP to ti te):=⟨jpP (ho:=ho.to) (hi:=hi.to) (he:=he.to) (hbase:=hbase) (hfew:=hfew) (hline:=hline) (hs:=hs) (hs2:=hs2) (hplain:=hplain)⟩
end
theorem joO {X:Cx} {a:Expr} {ta:TAD} {p p2 pos pos2:Pos} (hc:X.calm=true) (hg:Gl X "list") (hm:X.mg "list" =none) (hg2:Gl X "range") (hm2:X.mg "range" =none) (ha:JA X [a] ta) (hs:starEach [a] X.env= [(false,eval a X.env)]:=by rfl) (h1:starEach [.Call (.Name "range" p2) [a] [] pos2] X.env=(false,eval (.Call (.Name "range" p2) [a] [] pos2) X.env)::starEach [] X.env:=by rfl) (h2:(backTo pos (starEach [] X.env)).any (·.1)=false:=by rfl):JE X (.Call (.Name "list" p) [.Call (.Name "range" p2) [a] [] pos2] [] pos) (jca ta):=⟨joM (hc:=hc) (hg:=hg) (hm:=hm) (hg2:=hg2) (hm2:=hm2) (ha:=ha.to) (hs:=hs) (h1:=h1) (h2:=h2)⟩
section
variable {P:Program} {w:World} {K:PySem.W.Frag} {mg:Str→Option Value} {base:Heap}
theorem Fun.okJ {x qual:Str} {st:Stmt} {f:Addr} {fd:FuncData} {N ps:List Str} {k:Nat} {spd:RDn} (F:Fun K x qual st f fd) (S:FnScope N ps (jab st)) (len: ∀ds h Q,spd ds h Q→ds.length=ps.length)
 (tb:TSD) (hbody: ∀ (cdv:Value) (A:Around) (outer:List Env) (s:Shared) (H:Hp) (E:XK),Room k (A.deeper (envOfC qual (jab st) s.heap.objs.size f cdv))→JSs (jkw CX0 P w K mg base N qual (jab st) f cdv A outer s H E).nox (jaj st) tb)
 (read: ∀ds h Q,spd ds h Q→tb (jer Q) (jaT N ds) h):FnOk P w K mg base CX0 (k+1) f fd ps (LSp K spd):=F.okD S len tb (fun cdv A outer s H E hr=>(hbody cdv A outer s H E hr).to) read
end
def jdo (r:List Int):D:= .tup (r.map D.int)
def jai (T:List (List Int)):D:= .tup (T.map jdo)
def jfi (n:Nat) (r:List Int):Prop:=r.length=n∧ ∀x∈r,0≤x∧x≤1000000
def GoodTab (n:Nat) (T:List (List Int)):Prop:=T.length=n∧ ∀r∈T,jfi n r
structure Sq (n e:Nat) (T:List (List Int)):Prop where
 len:T.length=n
 row: ∀r∈T,r.length=n
 nn: ∀r∈T,∀x∈r,0≤x
 bit: ∀r∈T,∀x∈r,x<2^e
theorem GoodTab.sq {n:Nat} {T:List (List Int)} (g:GoodTab n T):Sq n 20 T:=⟨g.1,fun r hr=>(g.2 r hr).1,fun r hr x hx=>((g.2 r hr).2 x hx).1,fun r hr x hx=>Int.lt_of_le_of_lt ((g.2 r hr).2 x hx).2 (by decide)⟩
theorem Sq.mono {n e f:Nat} {T:List (List Int)} (h:Sq n e T) (l:e≤f):Sq n f T:=⟨h.len,h.row,h.nn,fun r hr x hx=>Int.lt_of_lt_of_le (h.bit r hr x hx) (by
 have:(2:Nat)^e≤2^f:=G2x (by decide) l
 have h2:((2^e:Nat):Int)≤((2^f:Nat):Int):=by exact_mod_cast this
 simpa using h2)⟩
def ent (T:List (List Int)) (i j:Nat):Int:=(T.getD i []).getD j 0
def mkT (n:Nat) (f:Nat→Nat→Int):List (List Int):=(List.range n).map fun i=>(List.range n).map fun j=>f i j
theorem jbk {n i j:Nat} {f:Nat→Nat→Int} (hi:i<n) (hj:j<n):ent (mkT n f) i j=f i j:=by
 unfold ent mkT
 simp [G0n,hi,hj]
theorem jaX {α:Type} (xs:List α) (d:α):xs=(List.range xs.length).map fun i=>xs.getD i d:=by
 apply List.ext_getElem (by simp)
 intro i h1 h2
 simp [G0n,h1]
theorem Sq.eq_mk {n e:Nat} {T:List (List Int)} (h:Sq n e T):T=mkT n (ent T):=by
 have h1:=jaX T []
 rw [h.len] at h1
 unfold mkT
 conv=>lhs;rw [h1]
 apply G0P
 intro i hi
 have hi' :i<T.length:=by rw [h.len];exact G0q.mp hi
 have hr:(T.getD i []).length=n:=by
  rw [G0n,G0i hi'];exact h.row _ (G1j hi')
 have h2:=jaX (T.getD i []) 0
 rw [hr] at h2
 exact h2
theorem jdJ {n:Nat} {f g:Nat→Nat→Int} (h: ∀i j,i<n→j<n→f i j=g i j):mkT n f=mkT n g:=by
 unfold mkT
 apply G0P
 intro i hi
 apply G0P
 intro j hj
 exact h i j (G0q.mp hi) (G0q.mp hj)
theorem Sq.of_mk {n e:Nat} {f:Nat→Nat→Int} (h0: ∀i j,i<n→j<n→0≤f i j) (h1: ∀i j,i<n→j<n→f i j<2^e):Sq n e (mkT n f):=by
 have key: ∀r∈mkT n f,∃i,i<n∧r=(List.range n).map fun j=>f i j:=fun r hr=>by
  obtain⟨i,hi,e⟩:=G0M.mp hr;exact⟨i,G0q.mp hi,e.symm⟩
 refine⟨by simp [mkT],fun r hr=> ?_,fun r hr x hx=> ?_,fun r hr x hx=> ?_⟩
 ·obtain⟨i,_,e⟩:=key r hr;rw [e];simp
 ·obtain⟨i,hi,e⟩:=key r hr
  rw [e] at hx
  obtain⟨j,hj,e2⟩:=G0M.mp hx
  rw [←e2];exact h0 i j hi (G0q.mp hj)
 ·obtain⟨i,hi,e⟩:=key r hr
  rw [e] at hx
  obtain⟨j,hj,e2⟩:=G0M.mp hx
  rw [←e2];exact h1 i j hi (G0q.mp hj)
theorem Sq.ent_nn {n e:Nat} {T:List (List Int)} (h:Sq n e T) {i j:Nat} (hi:i<n) (hj:j<n):0≤ent T i j∧ent T i j<2^e:=by
 have hi' :i<T.length:=by rw [h.len];exact hi
 have hr:T.getD i []=T[i]:=by rw [G0n,G0i hi'];rfl
 have hm:T[i]∈T:=G1j hi'
 have hj' :j<T[i].length:=by rw [h.row _ hm];exact hj
 have he:ent T i j=T[i][j]:=by unfold ent;rw [hr,List.getD_eq_getElem?_getD,List.getElem?_eq_getElem hj'];rfl
 rw [he]
 exact⟨h.nn _ hm _ (G1j hj'),h.bit _ hm _ (G1j hj')⟩
theorem Sq.ext {n e f:Nat} {T U:List (List Int)} (h:Sq n e T) (g:Sq n f U) (k: ∀i j,i<n→j<n→ent T i j=ent U i j):T=U:=by
 rw [h.eq_mk,g.eq_mk];exact jdJ k
def jat (n:Nat) (f:Nat→Int):Int:=((List.range n).map f).sum
theorem jcb (f:Nat→Int):jat 0 f=0:=rfl
theorem jar (n:Nat) (f:Nat→Int):jat (n+1) f=jat n f+f n:=by
 unfold jat;rw [List.range_succ,List.map_append,List.sum_append];simp
theorem jaL {n:Nat} {f g:Nat→Int} (h: ∀k,k<n→f k=g k):jat n f=jat n g:=by
 unfold jat;congr 1;apply List.map_congr_left;intro k hk;exact h k (List.mem_range.mp hk)
theorem jcM {n:Nat} {f:Nat→Int} (h: ∀k,k<n→0≤f k):0≤jat n f:=by
 induction n with
 |zero=>exact G3j _
 |succ n ih=>rw [jar];have:=ih fun k hk=>h k (by omega);have:=h n (by omega);omega
theorem jdK {n:Nat} {f:Nat→Int} {b:Int} (h: ∀k,k<n→f k≤b):jat n f≤n*b:=by
 induction n with
 |zero=>simp [jcb]
 |succ n ih=>
  rw [jar];have h1:=ih fun k hk=>h k (by omega);have h2:=h n (by omega)
  have:((n+1:Nat):Int)*b=(n:Int)*b+b:=by rw [Int.natCast_add,Int.add_mul];simp
  omega
theorem jiC (n:Nat) (f g:Nat→Int):jat n (fun k=>f k+g k)=jat n f+jat n g:=by
 induction n with
 |zero=>rfl
 |succ n ih=>rw [jar,jar,jar,ih];omega
theorem jd2 (n:Nat) (c:Int) (f:Nat→Int):jat n (fun k=>c*f k)=c*jat n f:=by
 induction n with
 |zero=>simp [jcb]
 |succ n ih=>rw [jar,jar,ih,Int.mul_add]
theorem jhG (n:Nat) (c:Int) (f:Nat→Int):jat n (fun k=>f k*c)=jat n f*c:=by
 rw [G27,←jd2];exact jaL fun k _=>G27 _ _
theorem jhH (m n:Nat) (f:Nat→Nat→Int):jat m (fun i=>jat n (f i))=jat n (fun j=>jat m fun i=>f i j):=by
 induction m with
 |zero=>
  rw [jcb]
  induction n with
  |zero=>rfl
  |succ n ih=>rw [jar,←ih,jcb];rfl
 |succ m ih=>
  rw [jar,ih,←jiC]
  exact jaL fun j _=>(jar m fun i=>f i j).symm
theorem jf4 {n:Nat} {f:Nat→Int} {i:Nat} (hi:i<n) (h: ∀k,k<n→k≠i→f k=0):jat n f=f i:=by
 induction n with
 |zero=>omega
 |succ n ih=>
  rw [jar]
  by_cases e:i=n
  ·subst e
   have:jat i f=0:=by
    have:jat i f=jat i (fun _=>0*1):=jaL fun k hk=>by rw [h k (by omega) (by omega)];rfl
    rw [this,jd2];simp
   omega
  ·rw [ih (by omega) fun k hk hne=>h k (by omega) hne,h n (by omega) (by omega)];omega
theorem jiD {n:Nat} {f:Nat→Int} (h: ∀k,k<n→0≤f k):0<jat n f↔ ∃k,k<n∧0<f k:=by
 induction n with
 |zero=>simp [jcb]
 |succ n ih=>
  rw [jar]
  have h1:=jcM fun k (hk:k<n)=>h k (by omega)
  have h2:=h n (by omega)
  have ih' :=ih fun k hk=>h k (by omega)
  constructor
  ·intro z
   by_cases q:0<f n
   ·exact⟨n,by omega,q⟩
   ·obtain⟨k,a,b⟩:=ih'.mp (by omega);exact⟨k,by omega,b⟩
  ·rintro ⟨k,a,b⟩
   by_cases q:k=n
   ·subst q;omega
   ·have:=ih'.mpr ⟨k,by omega,b⟩;omega
def jcU (n:Nat) (T U:List (List Int)):List (List Int):=mkT n fun i j=>jat n fun k=>ent T i k*ent U k j
theorem Sq.mul {n e f:Nat} {T U:List (List Int)} (h:Sq n e T) (g:Sq n f U) (hn:n≤8):Sq n (e+f+3) (jcU n T U):=by
 have nn: ∀i j,i<n→j<n→ ∀k,k<n→0≤ent T i k*ent U k j:=fun i j hi hj k hk=>Int.mul_nonneg (h.ent_nn hi hk).1 (g.ent_nn hk hj).1
 refine Sq.of_mk (fun i j hi hj=>jcM (nn i j hi hj)) fun i j hi hj=> ?_
 have hle: ∀k,k<n→ent T i k*ent U k j≤2^e*2^f-1:=fun k hk=>by
  have a:=h.ent_nn hi hk
  have b:=g.ent_nn hk hj
  have:ent T i k*ent U k j<2^e*2^f:=by
   have p:(0:Int)<2^f:=Int.pow_pos (by decide)
   calc ent T i k*ent U k j≤ent T i k*2^f:=Int.mul_le_mul_of_nonneg_left (Int.le_of_lt b.2) a.1
    _<2^e*2^f:=Int.mul_lt_mul_of_pos_right a.2 p
  omega
 have s:=jdK hle
 have p:(0:Int)<2^e*2^f:=Int.mul_pos (Int.pow_pos (by decide)) (Int.pow_pos (by decide))
 have e1:(2:Int)^(e+f+3)=8*(2^e*2^f):=by rw [Int.pow_add,Int.pow_add];rw [G27];rfl
 rw [e1]
 have hn' :(n:Int)≤8:=by omega
 have:(n:Int)*(2^e*2^f-1)≤8*(2^e*2^f-1):=Int.mul_le_mul_of_nonneg_right hn' (by omega)
 omega
theorem jbM {n i j:Nat} {T U:List (List Int)} (hi:i<n) (hj:j<n):ent (jcU n T U) i j=jat n fun k=>ent T i k*ent U k j:=jbk hi hj
def jfE (n:Nat):List (List Int):=mkT n fun i j=>if i=j then 1 else 0
theorem Sq.one (n:Nat):Sq n 1 (jfE n):=Sq.of_mk (f:=fun i j=>if i=j then 1 else 0) (fun i j _ _=>by split<;>decide) fun i j _ _=>by split<;>decide
theorem mul_assoc {n e f g:Nat} {T U V:List (List Int)} (hT:Sq n e T) (hU:Sq n f U) (hV:Sq n g V) (hn:n≤8):jcU n (jcU n T U) V=jcU n T (jcU n U V):=by
 refine((hT.mul hU hn).mul hV hn).ext (hT.mul (hU.mul hV hn) hn) fun i j hi hj=> ?_
 rw [jbM hi hj,jbM hi hj]
 have e1:(jat n fun k=>ent (jcU n T U) i k*ent V k j)=jat n fun k=>jat n fun l=>ent T i l*ent U l k*ent V k j:=
  jaL fun k hk=>by rw [jbM hi hk,←jhG]
 have e2:(jat n fun l=>ent T i l*ent (jcU n U V) l j)=jat n fun l=>jat n fun k=>ent T i l*(ent U l k*ent V k j):=
  jaL fun l hl=>by rw [jbM hl hj,←jd2]
 rw [e1,e2,jhH]
 exact jaL fun l _=>jaL fun k _=>Int.mul_assoc _ _ _
theorem jhh {n e:Nat} {T:List (List Int)} (hT:Sq n e T) (hn:n≤8):jcU n (jfE n) T=T:=by
 refine((Sq.one n).mul hT hn).ext hT fun i j hi hj=> ?_
 rw [jbM hi hj,jf4 hi fun k hk hne=>by rw [jfE,jbk hi hk,if_neg (Ne.symm hne)];simp]
 rw [jfE,jbk hi hi,if_pos rfl];simp
theorem jjP {n e:Nat} {T:List (List Int)} (hT:Sq n e T) (hn:n≤8):jcU n T (jfE n)=T:=by
 refine(hT.mul (Sq.one n) hn).ext hT fun i j hi hj=> ?_
 rw [jbM hi hj,jf4 hj fun k hk hne=>by rw [jfE,jbk hk hj,if_neg hne];simp]
 rw [jfE,jbk hj hj,if_pos rfl];simp
def jbx (n:Nat) (T:List (List Int)):Nat→List (List Int)
 |0=>jfE n
 |k+1=>jcU n (jbx n T k) T
theorem Sq.pow {n e:Nat} {T:List (List Int)} (hT:Sq n e T) (hn:n≤8): ∀k,Sq n (k*(e+3)+1) (jbx n T k)
 |0=>(Sq.one n).mono (by omega)
 |k+1=>((Sq.pow hT hn k).mul hT hn).mono (by rw [Nat.succ_mul];omega)
def jcc (n:Nat) (T:List (List Int)):List (List Int):=mkT n fun i j=>ent T j i
def jak (n:Nat) (T:List (List Int)):List (List Int):=mkT n fun i j=>if ent T i j=0 then 0 else 1
def jdp (n:Nat) (o:List Nat) (T:List (List Int)):List (List Int):=mkT n fun i j=>ent T (o.idxOf i) (o.idxOf j)
theorem Sq.turn {n e:Nat} {T:List (List Int)} (h:Sq n e T):Sq n e (jcc n T):=Sq.of_mk (fun i j hi hj=>(h.ent_nn hj hi).1) fun i j hi hj=>(h.ent_nn hj hi).2
theorem Sq.mark {n:Nat} (T:List (List Int)):Sq n 1 (jak n T):=Sq.of_mk (f:=fun i j=>if ent T i j=0 then 0 else 1) (fun i j _ _=>by split<;>decide) fun i j _ _=>by split<;>decide
structure Ord (n:Nat) (o:List Nat):Prop where
 len:o.length=n
 all: ∀i,i<n→i∈o
theorem Ord.lt {n:Nat} {o:List Nat} (h:Ord n o) {i:Nat} (hi:i<n):o.idxOf i<n:=by rw [←h.len];exact G1I.mpr (h.all i hi)
theorem Sq.ren {n e:Nat} {T:List (List Int)} {o:List Nat} (h:Sq n e T) (ho:Ord n o):Sq n e (jdp n o T):=Sq.of_mk (fun i j hi hj=>(h.ent_nn (ho.lt hi) (ho.lt hj)).1) fun i j hi hj=>(h.ent_nn (ho.lt hi) (ho.lt hj)).2
def MulOk (i j:Int):Prop:= ∃m n:Nat,i.natAbs<2^m∧j.natAbs<2^n∧m+n≤134217728
theorem MulOk.ok {i j:Int} (h:MulOk i j):IntMulOk i j:=by
 obtain⟨m,n,a,b,c⟩:=h
 exact .of_le (PySem.intBits_le_iff.mpr a) (PySem.intBits_le_iff.mpr b) c
theorem jlL {X:Cx}:OpR X (binaryOp .Mult) (rI MulOk fun i j=> .int (i*j)):=opI fun _ _ _ _ _ _ _ hc q=>mul_int q hc.ok
def jfj:RD2:=fun x y h Q=>match x,y with
 | .int i,.int j=>MulOk i j∧Q (.int (i*j)) h
 |_,_=>False
theorem jlM {X:Cx}:OpQ X (binaryOp .Mult) jfj:=jfb (gd:=fun i j=> .int (i*j)) jlL (fun _ _ _=>rfl) fun x y h Q q=>by
 cases x<;>cases y<;>first|exact False.elim q|exact⟨_,_,rfl,rfl,q.1,q.2⟩
theorem jd3 {x:Int} {e:Nat} (h0:0≤x) (h1:x<2^e):x.natAbs<2^e:=by
 have:((2^e:Nat):Int)=2^e:=by simp
 omega
theorem jjQ {x y:Int} {e f:Nat} (hx:0≤x∧x<2^e) (hy:0≤y∧y<2^f) (h:e+f≤134217728):MulOk x y:=⟨e,f,jd3 hx.1 hx.2,jd3 hy.1 hy.2,h⟩
section
variable {α β:Type} {i i' :Nat} {js:List Nat} {ti ti' :TID} {te:TED} {σ:SD} {h:HD} {Q:KD} {j:ItD}
theorem lcA (xs:List α) (c g:α→D) (hz:xs.length≤1000) (hj:j h=some (xs.map c)) (ht: ∀R:ItD→HD→Prop,R j h→ti σ h R)
 (he: ∀x∈xs,∀Q' :KD,Q' (g x) h→te ((jb4 js σ).set i (some (c x))) h Q') (hq: ∀p,h p=none→Q (.lst p) (jbT h p (xs.map g))):jfS (bN i) js ti je5 te σ h Q:=by
 refine ht _ ⟨xs.length,fun k ys h' =>h' =h∧ys=(xs.take k).map g,⟨rfl,by simp⟩,?_⟩
 rintro k ys h' ⟨rfl,rfl⟩
 refine⟨by simp only [G0a,G05];exact G0Y (jbK (by omega)),xs.map c,hj,by simp,fun hl p hp=> ?_,fun d hd=>⟨_,rfl,?_⟩⟩
 ·rw [G1u (by simpa using hl)];exact hq p hp
 ·unfold je5
  dsimp only
  rw [if_pos rfl]
  rw [G0o] at hd
  cases hx:xs[k]? with
  |none=>rw [hx] at hd;cases hd
  |some x=>
   rw [hx] at hd;cases hd
   refine he x (G0X hx) _ ⟨h',Sub.refl _,rfl,?_⟩
   rw [G2l,hx]
   simp
theorem jkE (xs:List α) (c g:α→D) (hz:xs.length≤1000) (hj:j h=some (xs.map c)) (ht: ∀R:ItD→HD→Prop,R j h→ti σ h R)
 (he: ∀x∈xs,∀Q' :KD,Q' (g x) h→te ((jb4 js σ).set i (some (c x))) h Q') (hq:Q (.tup (xs.map g)) h):dCB ja1 (jbi (jfS (bN i) js ti je5 te) jdn) σ h Q:=by
 show jfS (bN i) js ti je5 te σ h (fun x h1=>ja1 [x] h1 Q)
 exact lcA xs c g hz hj ht he fun p hp=>(show ∃ys,jbT h p (xs.map g) p=some ys∧Q (.tup ys) (je4 (jbT h p (xs.map g)) p) from ⟨_,jad,by rw [jb3 hp];exact hq⟩)
theorem jpV (xs:List α) (c:α→D) (g:α→Int) (hz:xs.length≤1000) (hj:j h=some (xs.map c)) (ht: ∀R:ItD→HD→Prop,R j h→ti σ h R)
 (he: ∀x∈xs,∀Q' :KD,Q' (.int (g x)) h→te ((jb4 js σ).set i (some (c x))) h Q') (hq:Q (.int (xs.map g).sum) h):dCB jes (jbi (jfS (bN i) js ti je5 te) jdn) σ h Q:=by
 show jfS (bN i) js ti je5 te σ h (fun x h1=>jes [x] h1 Q)
 exact lcA xs c (fun x=> .int (g x)) hz hj ht he fun p hp=>⟨p,xs.map g,rfl,by rw [jad,G0N];rfl,by rw [jb3 hp];exact hq⟩
theorem jpi (xs:List α) (c:α→D) (g:α→Bool) (hz:xs.length≤1000) (hj:j h=some (xs.map c)) (ht: ∀R:ItD→HD→Prop,R j h→ti σ h R)
 (he: ∀x∈xs,∀Q' :KD,Q' (.bl (g x)) h→te ((jb4 js σ).set i (some (c x))) h Q') (hq:Q (.bl (xs.all g)) h):dCB jnp (jbi (jfS (bN i) js ti je5 te) jdn) σ h Q:=by
 show jfS (bN i) js ti je5 te σ h (fun x h1=>jnp [x] h1 Q)
 exact lcA xs c (fun x=> .bl (g x)) hz hj ht he fun p hp=>⟨p,xs.map g,rfl,by rw [jad,G0N];rfl,by rw [jb3 hp,G15];exact hq⟩
end
end L2
namespace L2
open PySem PySem.Spec PyProof.Rows PySem.SeqAt
def jgw (o:List Nat):D:= .tup (o.map fun (k:Nat)=>D.int (k:Int))
def Ordr (n:Nat) (o:List Nat):Prop:=o.Perm (List.range n)
theorem Ordr.ord {n:Nat} {o:List Nat} (h:Ordr n o):Ord n o:=⟨by rw [h.length_eq,G0h],fun i hi=>h.mem_iff.mpr (G0q.mpr hi)⟩
def jbv (o:List Nat):List Int:=o.map fun (k:Nat)=>(k:Int)
theorem jgL (o:List Nat):jgw o= .tup ((jbv o).map D.int):=by unfold jgw jbv;rw [List.map_map];rfl
theorem jjR (o:List Nat) (i:Nat):(jbv o).idxOf (i:Int)=o.idxOf i:=by
 induction o with
 |nil=>rfl
 |cons a o ih=>
  show ((a:Int)::jbv o).idxOf (i:Int)=_
  rw [List.idxOf_cons,List.idxOf_cons,ih]
  by_cases e:a=i
  ·subst e;simp
  ·have e1:(a==i)=false:=by simpa using e
   have e2:((a:Int)==(i:Int))=false:=by simp;omega
   rw [e1,e2]
theorem jjS {o:List Nat} {i:Nat} (h:i∈o):(i:Int)∈jbv o:=G0M.mpr ⟨i,h,rfl⟩
theorem jf5: ∀n:Nat,(jbv (List.range n)).Pairwise (· ≤ ·):=fun n=>by
 unfold jbv
 rw [G1a]
 exact List.pairwise_le_range.imp fun h=>by omega
theorem Ordr.insert {n:Nat} {o:List Nat} (h:Ordr n o) (k:Nat):Ordr (n+1) (o.take k++n::o.drop k):=by
 unfold Ordr
 rw [G2d]
 refine List.perm_middle.trans ?_
 rw [List.take_append_drop]
 exact(List.Perm.cons n h).trans (List.perm_append_singleton n _).symm
theorem jcd (h:HD): ∀ns:List Int,ToPs h (ns.map D.int) (ns.map PyData.int)
 | []=>rfl
 |n::ns=>⟨_,_,rfl,rfl,jcd h ns⟩
theorem jcn: ∀ns:List Int,PyData.canLayAll0 (ns.map PyData.int)=true
 | []=>rfl
 |n::ns=>by show (PyData.canLay0 (.int n)&&_)=true;rw [jcn ns];rfl
theorem jc2: ∀ns:List Int,PyData.eqvAll (ns.map PyData.int) (ns.map PyData.int)=true
 | []=>rfl
 |n::ns=>by show ((n==n)&&PyData.eqvAll _ _)=true;rw [jc2 ns];simp
theorem jcN: ∀ns:List Int,PyData.depthAll (ns.map PyData.int)≤1
 | []=>by simp [PyData.depthAll]
 |n::ns=>by
  have:=jcN ns
  simp only [G0x,PyData.depthAll,PyData.depth];omega
theorem jco (ns:List Int):shaped (.list (ns.map .int))=true:=by
 unfold shaped
 have h1:PyData.canLay0 (.list (ns.map .int))=true:=by simp only [PyData.canLay0];exact jcn ns
 have h2:=jcN ns
 have h3:PyData.depth (.list (ns.map .int))≤64:=by simp only [PyData.depth];omega
 rw [h1,G0r h3];rfl
def jdd (r:List Int):PyData:= .tuple (r.map .int)
def jdE (T:List (List Int)):PyData:= .tuple (T.map jdd)
theorem jf6 (h:HD): ∀T:List (List Int),ToPs h (T.map jdo) (T.map jdd)
 | []=>rfl
 |r::T=>⟨_,_,rfl,⟨_,rfl,jcd h r⟩,jf6 h T⟩
theorem jcp (h:HD) (T:List (List Int)):ToP h (jai T) (jdE T):=⟨_,rfl,jf6 h T⟩
theorem jcq: ∀T:List (List Int),PyData.canLayAll0 (T.map jdd)=true
 | []=>rfl
 |r::T=>by
  show (PyData.canLay0 (jdd r)&&_)=true
  rw [jcq T]
  have:PyData.canLay0 (jdd r)=true:=by unfold jdd;simp only [PyData.canLay0];exact jcn r
  rw [this];rfl
theorem jce: ∀T:List (List Int),PyData.depthAll (T.map jdd)≤3
 | []=>by simp [PyData.depthAll]
 |r::T=>by
  have:=jce T
  have h2:=jcN r
  simp only [G0x,PyData.depthAll,PyData.depth,jdd];omega
theorem jba (T:List (List Int)):shaped (jdE T)=true:=by
 unfold shaped
 have h1:PyData.canLay0 (jdE T)=true:=by unfold jdE;simp only [PyData.canLay0];exact jcq T
 have h2:=jce T
 have h3:PyData.depth (jdE T)≤64:=by unfold jdE;simp only [PyData.depth];omega
 rw [h1,G0r h3];rfl
theorem jd4: ∀T:List (List Int),PyData.eqvAll (T.map jdd) (T.map jdd)=true
 | []=>rfl
 |r::T=>by show (PyData.eqvAll (r.map .int) (r.map .int)&&PyData.eqvAll _ _)=true;rw [jd4 T,jc2 r];rfl
theorem jgM (T:List (List Int)):PyData.eqv (jdE T) (jdE T)=true:=jd4 T
theorem jiE {n e:Nat} {T:List (List Int)} (h:Sq n e T) {i:Nat} (hi:i<n):atI (T.map jdo) (i:Int)=some (jdo (T.getD i [])):=by
 have hi' :i<T.length:=by rw [h.len];exact hi
 exact jcB (by rw [G0o,G0n,G0i hi'];rfl)
theorem Sq.getRow {n e:Nat} {T:List (List Int)} (h:Sq n e T) {i:Nat} (hi:i<n):T.getD i []∈T:=by
 have hi' :i<T.length:=by rw [h.len];exact hi
 rw [G0n,G0i hi'];exact G1j hi'
theorem jfk {n:Nat} {r:List Int} (h:r.length=n) {j:Nat} (hj:j<n):atI (r.map D.int) (j:Int)=some (.int (r.getD j 0)):=by
 have hj' :j<r.length:=by rw [h];exact hj
 exact jcB (by rw [G0o,G0n,G0i hj'];rfl)
theorem jkF (n:Nat) (f:Nat→Nat→Int):D.tup ((List.range n).map fun i=>D.tup ((List.range n).map fun j=>D.int (f i j)))=jai (mkT n f):=by
 unfold jai jdo mkT
 rw [G0N]
 congr 1
 apply G0P
 intro i _
 simp [G0N,G2n]
theorem jlN (T:List (List Int)) (f:Int→Int):D.tup (T.map fun r=>D.tup (r.map fun x=>D.int (f x)))=jai (T.map fun r=>r.map f):=by
 unfold jai jdo
 rw [G0N]
 congr 1
 apply G0P
 intro r _
 simp [G0N,G2n]
theorem jlO {n e:Nat} {T:List (List Int)} (h:Sq n e T):jak n T=T.map fun r=>r.map fun x=>if x≠0 then 1 else 0:=by
 conv=>rhs;rw [h.eq_mk]
 unfold jak mkT
 rw [G0N]
 apply G0P
 intro i _
 simp only [G1m,G0N]
 apply G0P
 intro j _
 simp only [G1m]
 by_cases z:ent T i j=0
 ·rw [if_pos z,if_neg (by simpa using z)]
 ·rw [if_neg z,if_pos z]
theorem jjT {n e:Nat} {T U:List (List Int)} (h:Sq n e T):(T.map fun r=>D.tup ((List.range n).map fun j=>D.int (jat n fun m=>r.getD m 0*ent U m j)))=(jcU n T U).map jdo:=by
 conv=>lhs;rw [jaX T [],h.len]
 unfold jcU mkT
 rw [G0N,G0N]
 apply G0P
 intro i _
 simp only [G1m,jdo,G0N]
 rfl
theorem pow_add {n e:Nat} {T:List (List Int)} (h:Sq n e T) (hn:n≤8) (a:Nat): ∀b,jbx n T (a+b)=jcU n (jbx n T a) (jbx n T b)
 |0=>by rw [show jbx n T 0=jfE n from rfl,jjP (h.pow hn a) hn];rfl
 |b+1=>by
  show jcU n (jbx n T (a+b)) T=jcU n (jbx n T a) (jcU n (jbx n T b) T)
  rw [pow_add h hn a b,mul_assoc (h.pow hn a) (h.pow hn b) h hn]
theorem jlP {n e:Nat} {T:List (List Int)} (h:Sq n e T) (hn:n≤8):jbx n T 1=T:=jhh h hn
theorem jiF {n e:Nat} {T:List (List Int)} (h:Sq n e T) (hn:n≤8) (b:Nat):jbx n T (b+1)=jcU n T (jbx n T b):=by
 rw [G3r,pow_add h hn,jlP h hn]
theorem jcO {n i j:Nat} {T:List (List Int)} (hi:i<n) (hj:j<n):ent (jcc n T) i j=ent T j i:=jbk hi hj
theorem jf7 {n e:Nat} {T:List (List Int)} (h:Sq n e T):jcc n (jcc n T)=T:=
 h.turn.turn.ext h fun i j hi hj=>by rw [jcO hi hj,jcO hj hi]
theorem jjU {n e f:Nat} {T U:List (List Int)} (h:Sq n e T) (g:Sq n f U) (hn:n≤8):jcc n (jcU n T U)=jcU n (jcc n U) (jcc n T):=
 (h.mul g hn).turn.ext (g.turn.mul h.turn hn) fun i j hi hj=>by
  rw [jcO hi hj,jbM hj hi,jbM hi hj]
  exact jaL fun k hk=>by rw [jcO hi hk,jcO hk hj,G27]
theorem jjV (n:Nat):jcc n (jfE n)=jfE n:=
 (Sq.one n).turn.ext (Sq.one n) fun i j hi hj=>by
  rw [jcO hi hj,jfE,jbk hj hi,jbk hi hj]
  by_cases e:i=j
  ·rw [if_pos e,if_pos e.symm]
  ·rw [if_neg e,if_neg (fun z=>e z.symm)]
theorem jhi {n e:Nat} {T:List (List Int)} (h:Sq n e T) (hn:n≤8): ∀k,jcc n (jbx n T k)=jbx n (jcc n T) k
 |0=>jjV n
 |k+1=>by
  rw [jiF h hn,jjU h (h.pow hn k) hn,jhi h hn k];rfl
theorem jjW {a b:List Int} (h:a.Perm b):a.sum=b.sum:=by
 induction h with
 |nil=>rfl
 |cons x _ ih=>simp [ih]
 |swap x y l=>simp;omega
 |trans _ _ i1 i2=>rw [i1,i2]
theorem Ordr.nodup {n:Nat} {o:List Nat} (h:Ordr n o):o.Nodup:=h.symm.nodup G2v
theorem jiG {n:Nat} {o:List Nat} (h:Ordr n o) (f:Nat→Int):jat n (fun m=>f (o.idxOf m))=jat n f:=by
 unfold jat
 have h1:((List.range n).map fun m=>f (o.idxOf m)).sum=(o.map fun m=>f (o.idxOf m)).sum:=jjW (h.symm.map _)
 have hl:=h.ord.len
 have h2:(o.map fun m=>f (o.idxOf m))=(List.range n).map f:=by
  apply List.ext_getElem (by simp [hl])
  intro i a b
  simp only [G20,G1e]
  rw [h.nodup.idxOf_getElem]
 rw [h1,h2]
theorem jdq {n i j:Nat} {o:List Nat} {T:List (List Int)} (hi:i<n) (hj:j<n):ent (jdp n o T) i j=ent T (o.idxOf i) (o.idxOf j):=jbk hi hj
theorem jlQ {n e f : Nat} {o : List Nat} {T U : List (List Int)} (h : Sq n e T) (g : Sq n f U) (ho : Ordr n o) (hn : n ≤ 8) : jdp n o (jcU n T U) = jcU n (jdp n o T) (jdp n o U) :=
  ((h.mul g hn).ren ho.ord).ext ((h.ren ho.ord).mul (g.ren ho.ord) hn) fun i j hi hj => by
    rw [jdq hi hj, jbM (ho.ord.lt hi) (ho.ord.lt hj), jbM hi hj, ← jiG ho]
    exact jaL fun k hk => by rw [jdq hi hk, jdq hk hj]
theorem jlR {n:Nat} {o:List Nat} (ho:Ordr n o) {i j:Nat} (hi:i<n) (hj:j<n) (e:o.idxOf i=o.idxOf j):i=j:=by
 have a:o.idxOf i<o.length:=by rw [ho.ord.len];exact ho.ord.lt hi
 have b:o.idxOf j<o.length:=by rw [ho.ord.len];exact ho.ord.lt hj
 have c:=G1R a
 have d:=G1R b
 rw [←c,←d]
 simp only [e]
theorem jlS {n : Nat} {o : List Nat} (ho : Ordr n o) : jdp n o (jfE n) = jfE n :=
  ((Sq.one n).ren ho.ord).ext (Sq.one n) fun i j hi hj => by
    rw [jdq hi hj, jfE, jbk (ho.ord.lt hi) (ho.ord.lt hj), jbk hi hj]
    by_cases e : i = j
    · rw [if_pos e, if_pos (by rw [e])]
    · rw [if_neg e, if_neg (fun z => e (jlR ho hi hj z))]
theorem jiH {n e:Nat} {o:List Nat} {T:List (List Int)} (h:Sq n e T) (ho:Ordr n o) (hn:n≤8): ∀k,jdp n o (jbx n T k)=jbx n (jdp n o T) k
 |0=>jlS ho
 |k+1=>by
  show jdp n o (jcU n (jbx n T k) T)=jcU n (jbx n (jdp n o T) k) (jdp n o T)
  rw [jlQ (h.pow hn k) h ho hn,jiH h ho hn k]
theorem jfl {n i j:Nat} {T:List (List Int)} (hi:i<n) (hj:j<n):ent (jak n T) i j=if ent T i j=0 then 0 else 1:=jbk hi hj
theorem jhj {n:Nat} {T U:List (List Int)} (h: ∀i j,i<n→j<n→(ent T i j=0↔ent U i j=0)):jak n T=jak n U:=jdJ fun i j hi hj=>by
 by_cases z:ent T i j=0
 ·rw [if_pos z,if_pos ((h i j hi hj).mp z)]
 ·rw [if_neg z,if_neg (fun w=>z ((h i j hi hj).mpr w))]
theorem jcC {n i j:Nat} {T:List (List Int)} (hi:i<n) (hj:j<n):ent (jak n T) i j=0↔ent T i j=0:=by
 rw [jfl hi hj]
 by_cases z:ent T i j=0
 ·rw [if_pos z];simp [z]
 ·rw [if_neg z];simp [z]
theorem jf8 {n:Nat} (T:List (List Int)):jak n (jak n T)=jak n T:=jhj fun i j hi hj=>jcC hi hj
theorem jcD {n e f i j:Nat} {T U:List (List Int)} (h:Sq n e T) (g:Sq n f U) (hi:i<n) (hj:j<n):ent (jcU n T U) i j≠0↔ ∃k,k<n∧ent T i k≠0∧ent U k j≠0:=by
 rw [jbM hi hj]
 have nn: ∀k,k<n→0≤ent T i k*ent U k j:=fun k hk=>Int.mul_nonneg (h.ent_nn hi hk).1 (g.ent_nn hk hj).1
 have s:=jcM nn
 have p:=jiD nn
 constructor
 ·intro z
  obtain⟨k,hk,w⟩:=p.mp (by omega)
  refine⟨k,hk,fun q=> ?_,fun q=> ?_⟩
  ·rw [q] at w;simp at w
  ·rw [q] at w;simp at w
 ·rintro ⟨k,hk,a,b⟩ z
  have c:=(h.ent_nn hi hk).1
  have d:=(g.ent_nn hk hj).1
  have:0<ent T i k*ent U k j:=Int.mul_pos (by omega) (by omega)
  have:=p.mpr ⟨k,hk,this⟩
  omega
theorem jdL {n e f:Nat} {T U:List (List Int)} (h:Sq n e T) (g:Sq n f U):jak n (jcU n T U)=jak n (jcU n (jak n T) (jak n U)):=
 jhj fun i j hi hj=>by
  have a:=jcD h g hi hj
  have b:=jcD (Sq.mark (n:=n) T) (Sq.mark (n:=n) U) hi hj
  have c:(∃k,k<n∧ent T i k≠0∧ent U k j≠0)↔ ∃k,k<n∧ent (jak n T) i k≠0∧ent (jak n U) k j≠0:=
   ⟨fun ⟨k,hk,x,y⟩=>⟨k,hk,fun z=>x ((jcC hi hk).mp z),fun z=>y ((jcC hk hj).mp z)⟩,fun ⟨k,hk,x,y⟩=>⟨k,hk,fun z=>x ((jcC hi hk).mpr z),fun z=>y ((jcC hk hj).mpr z)⟩⟩
  exact⟨fun z=>G11 fun w=>(a.mpr (c.mpr (b.mp w))) z,fun z=>G11 fun w=>(b.mpr (c.mp (a.mp w))) z⟩
def jf9 (n:Nat) (o:List Nat):List Nat:=(List.range n).map fun i=>o.idxOf i
theorem jhk {n:Nat} {o:List Nat} (h:Ordr n o) {i:Nat} (hi:i<n):o.idxOf ((jf9 n o).idxOf i)=i:=by
 have a:(jf9 n o).idxOf i<(jf9 n o).length:=by rw [h.back.ord.len];exact h.back.ord.lt hi
 have b:=G1R a
 have c:(jf9 n o)[(jf9 n o).idxOf i]=o.idxOf ((jf9 n o).idxOf i):=by simp only [jf9,G20,G1e]
 rw [←c];exact b
theorem ren_back {n e : Nat} {o : List Nat} {T : List (List Int)} (h : Sq n e T) (ho : Ordr n o) : jdp n (jf9 n o) (jdp n o T) = T :=
  ((h.ren ho.ord).ren ho.back.ord).ext h fun i j hi hj => by
    rw [jdq hi hj, jdq (ho.back.ord.lt hi) (ho.back.ord.lt hj), jhk ho hi, jhk ho hj]
theorem jnF {A B:List (List Int)} {h:HD} {Q:KD} (e:A=B) (q:Q (.bl false) h):neE (jai A) (jai B) h Q:=by
 subst e
 exact⟨_,_,jcp _ _,jcp _ _,jba _,jba _,by rw [jgM];exact q⟩
theorem jnG {A B:List (List Int)} {h:HD} {Q:KD} (e:A=B) (q:Q (.bl true) h):eqE (jai A) (jai B) h Q:=by
 subst e
 exact⟨_,_,jcp _ _,jcp _ _,jba _,jba _,by rw [jgM];exact q⟩
section
variable {prog:Program} {w:World} {A:Around} {E:Value→Shared→Prop} {s:Shared}
theorem jiI {it t:Addr} {i n:Nat} {items:Array Value} {d1 d2:Option Addr} {s1 s2:Array (Option Value)} {P:PySem.Fin→Shared→Prop} (a1:s.heap.get? it=some {cls:= .type "tuple_iterator",dict:=d1,data:= .fields #[.ref t,.int i 0],slots:=s1}) (a2:s.heap.get? t=some {cls:= .type "tuple",dict:=d2,data:= .seq items n,slots:=s2})
 (more: ∀x h',items[i]? =some x→h'.IsTupleIter it t (i+1)→Heap.SameBut it s.heap h' →P (.done (.ret x)) {s with heap:=h'})
 (none_:items[i]? =none→wpAny (model prog w) A (do setField (.ref it) 0 .none;Builtin.SmallTypes.stopIteration) P E s):wpAny (model prog w) A (Builtin.«tuple_iterator.__next__» ⟨[.ref it],[]⟩) P E s:=by
 obtain⟨hp,g,d,tk,os⟩:=s
 wp_walk
 rw [Int.toNat_natCast]
 cases hx:items[i]? with
 |none=>exact wpAny_bind (G3c (none_ hx))
 |some x=>
  refine wpAny_bind (wpAny_setField a1 rfl (by simp) (G0c (more x _ hx ⟨_,G09 _ a1 ?_,rfl,?_⟩ (G1n ..))))
  ·rfl
  ·simp [Obj.mapFields,rawInt]
theorem jgN {Q:PySem.Fin→Shared→Prop} (hh:A.handled=none) (hE: ∀h' e,(∀b o,s.heap.get? b=some o→h'.get? b=some o)→(∃o,h'.get? e=some o∧o.cls= .type "StopIteration")→E (.ref e) {s with heap:=h'}):wpAny (model prog w) A Builtin.SmallTypes.stopIteration Q E s:=by
 obtain⟨hp,g,d,tk,os⟩:=s
 unfold Builtin.SmallTypes.stopIteration
 wp_walk
 unfold raiseNew
 refine wpAny_bind (wpAny_handled ?_)
 rw [hh]
 exact wpAny_bind (G0c (wpAny_throw (hE _ _ (fun b o q=>G0b _ (G0b _ q)) ⟨_,G0m _ rfl,rfl⟩)))
theorem jeQ {it t:Addr} {i:Nat} {items:Array Value} {x:Value} {Q:Value→Shared→Prop} (hit:s.heap.IsTupleIter it t i) (ht:s.heap.IsTuple t items) (hx:items[i]? =some x)
 (hQ: ∀h',h'.IsTupleIter it t (i+1)→Heap.SameBut it s.heap h' →Q x {s with heap:=h'}):wpAny (model prog w) A (Builtin.SmallTypes.nextOf (.ref it)) Q E s:=by
 obtain⟨⟨c,d1,dt,s1⟩,ho,rfl,rfl⟩:=id hit
 obtain⟨⟨c2,d2,dt2,s2⟩,hol,rfl,nl,rfl⟩:=ht
 exact wpAny_bind (G01 hit.typeIs G1v (G0Z G1v hit.typeIs G2F (jiI ho hol (fun y h' e b1 b2=>⟨y,rfl,G0c (by rw [hx] at e;cases e;exact hQ h' b1 b2)⟩) fun e=>by rw [hx] at e;cases e) (G2A _)))
theorem jcY {it t:Addr} {i:Nat} {items:Array Value} {Q:Value→Shared→Prop} (hh:A.handled=none) (hit:s.heap.IsTupleIter it t i) (ht:s.heap.IsTuple t items) (hx:items[i]? =none)
 (hE: ∀h' e,Heap.ExtBut it s.heap h' →(∃o,h'.get? e=some o∧o.cls= .type "StopIteration")→E (.ref e) {s with heap:=h'}):wpAny (model prog w) A (Builtin.SmallTypes.nextOf (.ref it)) Q E s:=by
 obtain⟨⟨c,d1,dt,s1⟩,ho,rfl,rfl⟩:=id hit
 obtain⟨⟨c2,d2,dt2,s2⟩,hol,rfl,nl,rfl⟩:=ht
 refine wpAny_bind (G01 hit.typeIs G1v (G0Z G1v hit.typeIs G2F (jiI ho hol (fun y h' e b1 b2=>by rw [hx] at e;cases e) fun _=>wpAny_bind (wpAny_setField ho rfl (by simp) ?_)) (G2A _)))
 exact jgN (s:= {s with heap:=_}) hh fun h' e grown stop=>hE h' e (fun b o ne q=>grown b o ((G1n ..).extBut b o ne q)) stop
end
set_option maxHeartbeats 1000000 in
section
variable {X:Cx} {pins:List (Addr×Obj)} {σ:List (Option V)} {H:Hp} {s:Shared} {h' :Heap}
theorem Inv.turnL {t' :Nat} {ch:List Addr} (I:Inv X pins σ H s) (k: ∀b o,b ∉ ch→s.heap.get? b=some o→h'.get? b=some o) (hc: ∀b∈ch,jh2 X pins H b):Inv X pins σ H {s with heap:=h',toks:=t'}:=by
 refine I.step (g' :=s.gens) (d' :=s.drawn) (ch:=ch) (fun b hb=>let ⟨_,f1,_,f3,f4,f5⟩:=hc b hb;⟨f3,f1,f4,f5⟩) (fun b o _ _ nb e _=>k b o nb e) (fun b o _ _ nb e _=>⟨o.slots,k b o nb e⟩) (fun _ _ _ _ n=>n)
  (fun b o nb e=>⟨o,k b o nb e⟩) (fun _ _ e=>e) (fun _ _ _ e=>e) (fun b ps e=>⟨#[],by rw [e];simp⟩) (fun m hm=> ?_) (fun b u e=> ?_) I.bare
 ·obtain⟨o,es,ep,ho,r⟩:=hm
  exact⟨o,es,ep,k _ o (fun z=>(hc _ z).2.1 rfl) ho,r⟩
 ·refine(I.hok b u e).stay (fun c v hb q=>k c v (fun z=> ?_) q) (fun _ q=>q) fun _ _ q=>q
  have f:=(hc c z).1
  rcases hb with w|w
  ·rw [w,e] at f;cases f
  ·rw [w] at f;cases f
theorem Inv.turnLaid {t' :Nat} {ch:List Addr} {a:Addr} {o:HO} (I:Inv X pins σ H s) (k: ∀b u,b ∉ ch→s.heap.get? b=some u→h'.get? b=some u) (hc: ∀b∈ch,jh2 X pins H b) (hp:s.heap.objs.size≤a)
 (new:ObjOk X.prog X.w (upd H a o) h' a o):Inv X pins σ (upd H a o) {s with heap:=h',toks:=t'}:=by
 have hn:=I.hok.fresh hp
 refine I.step (g' :=s.gens) (d' :=s.drawn) (ch:=ch) (fun b hb=>let ⟨_,f1,_,f3,f4,f5⟩:=hc b hb;⟨f3,f1,f4,f5⟩) (fun b u _ _ nb e _=>k b u nb e) (fun b u _ _ nb e _=>⟨u.slots,k b u nb e⟩)
  (fun b u _ e n=>by rw [jan (G0I (G0C (G0k e) hp))];exact n) (fun b u nb e=>⟨u,k b u nb e⟩) (fun b xs q=>by rw [jan (jah q hn)];exact q) (fun b u xs q=>by rw [jan (jah q hn)];exact q)
  (fun b ps q=>⟨#[],by rw [jan (jah q hn),q];simp⟩) (fun m hm=> ?_) (fun b u e=> ?_) I.bare
 ·obtain⟨u,es,ep,ho,r⟩:=hm
  exact⟨u,es,ep,k _ u (fun z=>(hc _ z).2.1 rfl) ho,r⟩
 ·by_cases hb:b=a
  ·subst hb;rw [jao] at e;cases e;exact new
  ·rw [jan hb] at e
   refine(I.hok b u e).stay (fun c v hb q=>k c v (fun z=> ?_) q) (fun c q=>by rw [jan (jah q hn)];exact q) fun c xs q=>by rw [jan (jah q hn)];exact q
   have f:=(hc c z).1
   rcases hb with w|w
   ·rw [w,e] at f;cases f
   ·rw [w] at f;cases f
end
def jiJ (c:TTD) (tb:TSD):TSD:=fun D σ h=> ∃W:Nat→SD→HD→Prop,(∃m,W m σ h)∧ ∀m σ' h',W m σ' h' →c σ' h' fun b h1=>
 if b=true then tb {D with nx:=fun σ2 h2=> ∃m' h3,m' <m∧Sub h3 h2∧W m' σ2 h3,ct:=fun σ2 h2=> ∃m' h3,m' <m∧Sub h3 h2∧W m' σ2 h3,bk:=D.nx} σ' h1 else D.nx σ' h1
theorem jjX {K:PySem.W.Frag} {c:TTD} {tb:TSD}: ∀D σ H,LS K (jiJ c tb) D σ H→jku (LT K c) (LS K tb) D σ H:=fun D σ H ⟨σd,h,Dd,rs,rh,⟨W,⟨m0,w0⟩,turn⟩,nx,rt,bk,ct⟩=>by
 refine⟨fun m σ' H' =>Kept H H' ∧ ∃σd' h',RelS K H' σd' σ' ∧RelH K h' H' ∧W m σd' h',⟨m0,.refl _,σd,h,rs,rh,w0⟩,?_⟩
 rintro m σ' H' ⟨kp,σd',h',rs',rh',w⟩
 refine LT.bind rs' rh' (turn m σd' h' w) fun b h1 H1 k1 rs1 rh1 q1=> ?_
 cases b with
 |false=>
  rw [if_neg G0g] at q1 ⊢
  exact nx _ _ _ _ (kp.trans k1) rs1 rh1 q1
 |true=>
  rw [if_pos rfl] at q1 ⊢
  have kk:Kept H H1:=kp.trans k1
  refine⟨fun σ2 H2=>Kept H H2∧ ∃m',m' <m∧ ∃σd2 h2,RelS K H2 σd2 σ2∧RelH K h2 H2∧W m' σd2 h2,fun σ2 H2 ⟨k2,m',hm,a,b,c,d,e⟩=>⟨m',hm,k2,a,b,c,d,e⟩,?_⟩
  exact⟨σd',h1,_,rs1,rh1,q1,fun a b c d k4 rs4 rh4 ⟨m',h4,hm,sb,w4⟩=>⟨kk.trans k4,m',hm,a,h4,rs4,rh4.sub sb,w4⟩,jay rt kk,fun a b c d k4 rs4 rh4 q4=>nx a b c d (kk.trans k4) rs4 rh4 q4,fun a b c d k4 rs4 rh4 ⟨m',h4,hm,sb,w4⟩=>⟨kk.trans k4,m',hm,a,h4,rs4,rh4.sub sb,w4⟩⟩
section
variable {X:Cx} {pos:Pos}
theorem jnH {c:Expr} {body:List Stmt} {tc:TTD} {tb:TSD} (hp:PassesOwn (model X.prog X.w) X.A X.env X.xe) (hc:JT X c tc) (hb:JSs X body tb):JS X (.While c body [] pos) (jiJ tc tb):=⟨(jjw hp hc.to hb.to).imp jjX⟩
end
theorem jjY {c:TTD} {tb:TSD} {E:EndsD} {σ:SD} {h:HD} (W:Nat→SD→HD→Prop) (m:Nat) (w0:W m σ h)
 (turn: ∀m σ' h',W m σ' h' →c σ' h' fun b h1=>if b=true then tb {E with nx:=fun σ2 h2=> ∃m' h3,m' <m∧Sub h3 h2∧W m' σ2 h3,ct:=fun σ2 h2=> ∃m' h3,m' <m∧Sub h3 h2∧W m' σ2 h3,bk:=E.nx} σ' h1 else E.nx σ' h1):jiJ c tb E σ h:=⟨W,⟨m,w0⟩,turn⟩
def Off (W:List Addr) (h h' :Heap):Prop:=h'.objs.size=h.objs.size∧ ∀b o,b ∉ W→h.get? b=some o→h'.get? b=some o
theorem Off.refl (W:List Addr) (h:Heap):Off W h h:=⟨rfl,fun _ _ _ e=>e⟩
theorem Off.of {c:Addr} {W:List Addr} {h h' :Heap} (x:Heap.SameBut c h h') (m:c∈W):Off W h h' :=⟨x.1,fun b o n e=>x.extBut b o (fun q=>n (q ▸ m)) e⟩
theorem Off.trans {W:List Addr} {h h' h'' :Heap} (x:Off W h h') (y:Off W h' h''):Off W h h'' :=⟨y.1.trans x.1,fun b o n e=>y.2 b o n (x.2 b o n e)⟩
abbrev jiK (f0:Value) (b1:Bool) (TI TO:Addr):Obj:= {cls:= .type "zip",dict:=none,data:= .fields #[f0,.bool b1,.bool false,.ref TI,.ref TO],slots:= #[]}
def ZipAt (h:Heap) (z TI TO:Addr):Prop:= ∃f0 b1,h.get? z=some (jiK f0 b1 TI TO)∧(f0= .none∨ ∃a t,f0= .int a t)
theorem ZipAt.off {h h' :Heap} {z TI TO:Addr} {W:List Addr} (Z:ZipAt h z TI TO) (o:Off W h h') (n:z ∉ W):ZipAt h' z TI TO:=let ⟨f,b,e,q⟩:=Z;⟨f,b,o.2 _ _ n e,q⟩
section
variable {prog:Program} {w:World} {A:Around} {E:Value→Shared→Prop} {s:Shared} {z TI TO i1 i2:Addr}
theorem jjZ {Q:Bool→Shared→Prop} (Z:ZipAt s.heap z TI TO) (k: ∀b h',ZipAt h' z TI TO→Off [z] s.heap h' →Q b {s with heap:=h'}):wpAny (model prog w) A (Builtin.SmallTypes.ownedTupleIsFree (.ref z)) Q E s:=by
 obtain⟨f0,b1,hz,hf⟩:=id Z
 have stay:=fun b=>k b s.heap Z (Off.refl _ _)
 rcases hf with rfl|⟨a,t,rfl⟩
 ·wp_walk
  exact stay true
 ·have read: ∀ {P:Option Obj→Shared→Prop} {E' :Value→Shared→Prop},P (s.heap.get? a.toNat) s→wpAny (model prog w) A (loadIfAlive a.toNat) P E' s:=fun p _ _ _=>p
  wp_walk using read
  cases s.heap.get? a.toNat with
  |none=>exact G0c (stay true)
  |some o=>
   wp_walk
   cases b1 with
   |true=>exact G0c (stay false)
   |false=>exact wpAny_bind <| wpAny_setField_rec hz (by simp) fun h' z' same=>G0c (k false h' ⟨_,_,z',.inr ⟨a,t,rfl⟩⟩ (.of same (by simp)))
structure ZApart (z TI TO i1 i2:Addr):Prop where
 z1:z≠i1
 z2:z≠i2
 zO:z≠TO
 zI:z≠TI
 O1:TO≠i1
 O2:TO≠i2
 OI:TO≠TI
 I1:TI≠i1
 I2:TI≠i2
abbrev jnI (z:Addr) (h:Heap) (E:Value→Shared→Prop):Value→Shared→Prop:=fun e s' =>(∀o,h.get? z=some o→s'.heap.get? z=some o)∧ ∀h',Heap.ExtBut z s'.heap h' →E e {s' with heap:=h'}
set_option maxHeartbeats 2000000 in
theorem jiL {Q:Value→Shared→Prop} (ap:ZApart z TI TO i1 i2) (Z:ZipAt s.heap z TI TO) (hTI:IsPair s.heap TI (.ref i1) (.ref i2)) (hTO: ∃a b,IsPair s.heap TO a b)
 (go: ∀h₁,Off [z] s.heap h₁→(∃o,h₁.get? z=some o∧o.cls= .type "zip")→wpAny (model prog w) A (Builtin.SmallTypes.nextOf (.ref i1)) (fun x s₁=>Off [i1] h₁ s₁.heap∧ ∀h₂,Off [TO] s₁.heap h₂→
  wpAny (model prog w) A (Builtin.SmallTypes.nextOf (.ref i2)) (fun y s₂=>Off [i2] h₂ s₂.heap∧ ∀h₃,(∀b o,b ∉ [z,TO]→s₂.heap.get? b=some o→h₃.get? b=some o)→IsPair h₃ s₂.heap.objs.size x y→
   ZipAt h₃ z TI TO→IsPair h₃ TI (.ref i1) (.ref i2)→(∃a b,IsPair h₃ TO a b)→Q (.ref s₂.heap.objs.size) {s₂ with heap:=h₃}) (jnI z h₂ E) {s₁ with heap:=h₂}) (jnI z h₁ E) {s with heap:=h₁}):
 wpAny (model prog w) A (Builtin.«zip.__next__» ⟨[.ref z],[]⟩) (fun fin s' => ∃v,fin= .done (.ret v)∧Q v s') E s:=by
 obtain⟨f0,b1,hz,hf⟩:=id Z
 have ask:=fun {P:Bool→Shared→Prop} {E' :Value→Shared→Prop} (k: ∀b h',ZipAt h' z TI TO→Off [z] s.heap h' →P b {s with heap:=h'})=>jjZ (prog:=prog) (w:=w) (A:=A) (E:=E') Z k
 wp_walk using ask
 intro b h₀ Z₀ off₀
 have I₀:=off₀.2 _ _ (by simp [ap.zI.symm]) hTI
 obtain⟨a',b',O₀⟩: ∃a b,IsPair h₀ TO a b:=let ⟨a,b,e⟩:=hTO;⟨a,b,off₀.2 _ _ (by simp [ap.zO.symm]) e⟩
 cases b with
 |false=>
  have d1:=go h₀ off₀ (let ⟨_,_,e,_⟩:=Z₀;⟨_,e,rfl⟩)
  rw [if_neg (by decide)]
  refine wpAny_bind ?_
  rw [←G1f]
  simp only [G19,List.forIn_nil]
  refine wpAny_bind (wpAny_bind (G04 ?_))
  refine wpAny_bind (m:=Builtin.SmallTypes.nextOf (.ref i1)) (G0U d1 (fun x s₁ d=>G0c (G0c ?_)) fun e s' f=>f.2 s'.heap fun _ _ _ e=>e)
  obtain⟨o1,d2⟩:=d
  refine wpAny_bind (wpAny_bind (G04 ?_))
  refine wpAny_bind (m:=Builtin.SmallTypes.nextOf (.ref i2)) (G0U (d2 s₁.heap (.refl _ _)) (fun y s₂ d=>G0c (G0c (G0c ?_))) fun e s' f=>f.2 s'.heap fun _ _ _ e=>e)
  obtain⟨o2,fin⟩:=d
  show wpAny _ _ (newTuple [x,y] >>= _) _ _ _
  have n1: ∀ {b},b≠i1→b ∉ [i1]:=fun h=>by simpa using h
  have n2: ∀ {b},b≠i2→b ∉ [i2]:=fun h=>by simpa using h
  have Z₂:=(Z₀.off o1 (n1 ap.z1)).off o2 (n2 ap.z2)
  have keep: ∀ {b o},b≠i1→b≠i2→h₀.get? b=some o→(s₂.heap.push {cls:= .type "tuple",data:= .seq #[x,y]}).get? b=some o:=fun q1 q2 e=>G0b _ (o2.2 _ _ (n2 q2) (o1.2 _ _ (n1 q1) e))
  refine wpAny_bind (wpAny_newTuple (G0c ⟨_,rfl,fin _ (fun b o _ e=>G0b _ e) (G0m _ rfl) ?_ (keep ap.I1 ap.I2 I₀) ⟨_,_,keep ap.O1 ap.O2 O₀⟩⟩))
  exact let ⟨f,b,e,q⟩:=Z₂;⟨f,b,G0b _ e,q⟩
 |true=>
  obtain⟨f0',b1',hz₀,_⟩:=Z₀
  have note:=fun {P:Unit→Shared→Prop} {E' :Value→Shared→Prop} (k: ∀h',h'.get? z=some (jiK .ellipsis b1' TI TO)→Heap.SameBut z h₀ h' →P () {s with heap:=h'})=>
   wpAny_setField_rec (prog:=prog) (w:=w) (A:=A) (E:=E') (s:= {s with heap:=h₀}) (k:=0) (x:= .ellipsis) hz₀ (by simp) k
  wp_walk using note
  intro h₁ z₁ same₁
  have off₁:Off [z] s.heap h₁:=off₀.trans (.of same₁ (by simp))
  have O₁:=same₁.extBut _ _ ap.zO.symm O₀
  have I₁:=same₁.extBut _ _ ap.zI.symm I₀
  have fell: ∀ {h:Heap} {e:Value} {s' :Shared},h.get? z=some (jiK .ellipsis b1' TI TO)→jnI z h E e s' →wpAny (model prog w) A (setField (.ref z) 0 .none) (fun _ s'' =>E e s'') E s' :=fun hz' f=>
   wpAny_setField_rec (f.1 _ hz') (by simp) fun h' _ same=>f.2 h' same.extBut
  have draw:=fun {P:Value→Shared→Prop} {E' :Value→Shared→Prop} (k: ∀x s₁,_→P x s₁) (f: ∀e s',jnI z h₁ E e s' →E' e s')=>G0U (go h₁ off₁ ⟨_,z₁,rfl⟩) k f
  wp_walk using wpAny_onRaise,draw
  case f=>exact fun e s' f=>fell z₁ f
  intro x s₁ ⟨o1,go2⟩
  have z₂:=o1.2 _ _ (by simp [ap.z1]) z₁
  have O₂:IsPair s₁.heap TO a' b' :=o1.2 _ _ (by simp [ap.O1]) O₁
  have I₂:=o1.2 _ _ (by simp [ap.I1]) I₁
  have lay:=fun {P:Unit→Shared→Prop} {E' :Value→Shared→Prop}=>wpAny_updateSeq_pair (prog:=prog) (w:=w) (A:=A) (E:=E') (s:=s₁) (k:=0) (x:=x) (Q:=P) O₂
  wp_walk using lay
  intro h₂ O₃ same₂
  replace O₃:IsPair h₂ TO x b' :=O₃
  have z₃:=same₂.extBut _ _ ap.zO z₂
  have I₃:=same₂.extBut _ _ ap.OI.symm I₂
  have draw2:=fun {P:Value→Shared→Prop} {E' :Value→Shared→Prop} (k: ∀y s₂,_→P y s₂) (f: ∀e s',jnI z h₂ E e s' →E' e s')=>G0U (go2 h₂ (.of same₂ (by simp))) k f
  wp_walk using wpAny_onRaise,draw2
  case f=>exact fun e s' f=>fell z₃ f
  intro y s₂ ⟨o2,fin⟩
  have z₄:=o2.2 _ _ (by simp [ap.z2]) z₃
  have O₄:IsPair s₂.heap TO x b' :=o2.2 _ _ (by simp [ap.O2]) O₃
  have I₄:=o2.2 _ _ (by simp [ap.I2]) I₃
  have lay2:=fun {P:Unit→Shared→Prop} {E' :Value→Shared→Prop}=>wpAny_updateSeq_pair (prog:=prog) (w:=w) (A:=A) (E:=E') (s:=s₂) (k:=1) (x:=y) (Q:=P) O₄
  wp_walk using lay2
  intro h₄ O₅ same₃
  replace O₅:IsPair h₄ TO x y:=O₅
  have z₅:=same₃.extBut _ _ ap.zO z₄
  have I₅:=same₃.extBut _ _ ap.OI.symm I₄
  wp_walk
  have size:h₄.objs.size=s₂.heap.objs.size:=same₃.1
  have zp:=G0b {cls:= .type "tuple",data:= .seq #[x,y]} z₅
  have zu:=G09 (Obj.mapFields fun v=>v.setIfInBounds 0 (rawInt h₄.objs.size)) zp rfl
  have zu' :=G09 (Obj.mapFields fun v=>v.setIfInBounds 1 (Value.bool false)) zu rfl
  have away: ∀ {b o},b≠z→(h₄.push {cls:= .type "tuple",data:= .seq #[x,y]}).get? b=some o→
   (((h₄.push {cls:= .type "tuple",data:= .seq #[x,y]}).update z (Obj.mapFields fun v=>v.setIfInBounds 0 (rawInt h₄.objs.size))).update z (Obj.mapFields fun v=>v.setIfInBounds 1 (Value.bool false))).get? b=some o:=fun n e=>
   (G1n ..).extBut _ _ n ((G1n ..).extBut _ _ n e)
  have new:=away (b:=h₄.objs.size) (fun q=>G0R _ (q ▸ G0k z₅)) (G0m _ rfl)
  refine⟨_,rfl,?_⟩
  have done:=fin _ (fun b o n e=>away (fun q=>n (by simp [q])) (G0b _ (same₃.extBut _ _ (fun q=>n (by simp [q])) e))) (size ▸ new) ⟨_,_,zu',.inr ⟨_,_,rfl⟩⟩ (away ap.zI.symm (G0b _ I₅)) ⟨_,_,away ap.zO.symm (G0b _ O₅)⟩
  rw [←size] at done
  exact done
theorem jlT {tg : Expr} {v : Value} {Q : Unit → Shared → Prop} (Z : ZipAt s.heap z TI TO) (k : ∀ h', ZipAt h' z TI TO → Off [z] s.heap h' → Q () { s with heap := h' }) : wpAny (model prog w) A (letOwnedTupleGo tg (.ref z) v) Q E s := by
  obtain ⟨f0, b1, hz, hf⟩ := id Z
  have stay := k s.heap Z (.refl _ _)
  have gone : wpAny (model prog w) A (updateField z 0 .none) Q E s := wpAny_setField_rec (k := 0) (x := .none) hz (by simp) fun h' z' same => k h' ⟨_, _, z', .inl rfl⟩ (.of same (by simp))
  unfold letOwnedTupleGo
  cases tg <;> first
    | exact G0c stay
    | (cases v <;> wp_walk <;> first
        | exact stay
        | (split
           · exact wpAny_bind (G3c gone)
           · exact G0c stay))
theorem jj0 {Q:Option Value→Shared→Prop} (Z:ZipAt s.heap z TI TO)
 (h:wpAny (model prog w) A.in1 (Builtin.«zip.__next__» ⟨[.ref z],[]⟩) (fun fin s' => ∃v,fin= .done (.ret v)∧Q (some v) s') (fun e s' =>s'.TypeIs e "StopIteration" ∧Q none s') s):wpAny (model prog w) A (pyNext (.ref z)) Q E s:=by
 obtain⟨_,_,hz,_⟩:=Z
 have ty:s.TypeIs (.ref z) "zip" :=⟨_,hz,rfl⟩
 have asked:=G0Z F.slot_zip_next ty F.entry_zip_next h (F.args_zip_next_1 _)
 exact wpAny_bind (wpAny_attempt (G01 (name:= "__next__") ty F.slot_zip_next (G0U asked (fun _ _ q=>G0c q) fun e s' q=>wpAny_bind (G2w (b:=true) q.1 isSubtype_stop (G0c q.2)))))
theorem jj1 {l1 l2:Addr} {xs ys:Array Value} {P:PySem.Fin→Shared→Prop} (t1:s.heap.IsTuple l1 xs) (t2:s.heap.IsTuple l2 ys)
 (h: ∀h' n,n=s.heap.objs.size→ZipAt h' (n+4) (n+2) (n+3)→IsPair h' (n+2) (.ref n) (.ref (n+1))→(∃a b,IsPair h' (n+3) a b)→h'.IsTupleIter n l1 0→h'.IsTupleIter (n+1) l2 0→
  (∀b o,s.heap.get? b=some o→h'.get? b=some o)→P (.done (.ret (.ref (n+4)))) {s with heap:=h'}):
 wpAny (model prog w) A (Builtin.«zip.__new__» ⟨[.type "zip",.ref l1,.ref l2],[]⟩) P E s:=by
 have fine:=sub_zip
 obtain⟨hp,g,d,tk,os⟩:=s
 have first:Heap.IsTuple (Shared.heap ⟨hp,g,d,tk,os⟩) l1 xs:=t1
 have second: ∀o,Heap.IsTuple (Shared.heap ⟨hp.push o,g,d,tk,os⟩) l2 ys:=fun o=>Heap.IsTuple.push t2 o
 wp_walk using G2c first,G2c (second _)
 have size: ∀ (q:Heap) o,(q.push o).objs.size=q.objs.size+1:=fun q o=>G2N ..
 have n2: ∀o1 o2,((hp.push o1).push o2).objs.size=hp.objs.size+2:=fun _ _=>by rw [size,size]
 have n3: ∀o1 o2 o3,(((hp.push o1).push o2).push o3).objs.size=hp.objs.size+3:=fun _ _ _=>by rw [size,n2]
 have n4: ∀o1 o2 o3 o4,((((hp.push o1).push o2).push o3).push o4).objs.size=hp.objs.size+4:=fun _ _ _ _=>by rw [size,n3]
 have up: ∀ {q:Heap} {b o} o',q.get? b=some o→(q.push o').get? b=some o:=fun o' e=>G0b o' e
 show P (.done (.ret (.ref (Heap.objs (((((hp.push _).push _).push _).push _))).size))) _
 rw [n4]
 have at1:=G0m (hp.push {cls:= .type "tuple_iterator",data:= .fields #[.ref l1,.int 0 0]}) (o:= {cls:= .type "tuple_iterator",data:= .fields #[.ref l2,.int 0 0]}) rfl
 rw [size] at at1
 have top: ∀ (q:Heap) (o:Obj) (m:Nat),q.objs.size=m→o.isFreed=false→(q.push o).get? m=some o:=fun q o m e f=>e ▸ G0m q f
 refine h _ hp.objs.size rfl ⟨.none,false,(top _ _ _ (n4 ..) rfl).trans ?_,.inl rfl⟩ ((up _ (up _ (top _ _ _ (n2 ..) rfl))).trans ?_) ⟨.none,.none,up _ (top _ _ _ (n3 ..) rfl)⟩ ⟨_,up _ (up _ (up _ (up _ (G0m _ rfl)))),rfl,rfl⟩ ⟨_,up _ (up _ (up _ at1)),rfl,rfl⟩ fun b o e=>up _ (up _ (up _ (up _ (up _ e))))
 ·simp only [size,G3n];rfl
 ·simp only [size];rfl
theorem jd5 {T newId initId:String} {pos:List Value} {kw:List (Str×Value)} {Made:Value→Shared→Prop} {Q:Value→Shared→Prop} (ft:TypeCalled T newId initId) (fits:checkTypeCall T ⟨pos,kw⟩=pure ())
 (made:wpAny (model prog w) A.in1 (call (.builtin newId) (.type T::pos) kw) Made E s)
 (begun: ∀o s₁,Made o s₁→s₁.TypeIs o T∧wpAny (model prog w) A.in1 (callSpecial? o "__init__" pos kw) (fun r s₂=>r=some .none∧Q o s₂) E s₁):
 wpAny (model prog w) A (call (.type T) pos kw) Q E s:=by
 have f1:=ft.notType
 have f2:=ft.canCreate
 have f3:=ft.made
 have f4:=ft.sub
 obtain⟨_,_,f5⟩:=ft.mro
 have first:=fun {Q' :Value→Shared→Prop} (k: ∀o s₁,Made o s₁→Q' o s₁)=>G0U (E' :=E) made k fun _ _ z=>z
 refine G3d (codeAny_of_tree (G0c ⟨Code.quiet_builtin _ (by decide +kernel),G28 F.entry_type_call ?_⟩))
 rw [Around.under_plain (weight_type_call_type T pos kw) (units_type_call_type T pos kw)]
 wp_walk using first
 intro o s₁ m
 obtain⟨ty,then_⟩:=begun o s₁ m
 refine wpAny_bind (G2w (b:=true) ty f4 (wpAny_bind (G04 (G0U then_ (fun r s₂ q=> ?_) fun _ _ z=>z))))
 obtain⟨rfl,q⟩:=q
 exact G0c q
theorem jga {T newId:String} {o:Value} {pos:List Value} {kw:List (Str×Value)} {Q:Option Value→Shared→Prop} (ft:TypeCalled T newId "object.__init__") (other:(some newId !=some "object.__new__")=true) (ty:s.TypeIs o T)
 (fits:argsOk "object.__init__" ⟨o::pos,kw⟩) (q:Q (some .none) s):wpAny (model prog w) A (callSpecial? o "__init__" pos kw) Q E s:=by
 have f1:=ft.init.lookup
 have f2:=ft.made
 refine G01 ty ft.init (wpAny_call_entry_kw ft.init ty F.entry_object_init ?_ fits)
 cases e:(!pos.isEmpty|| !kw.isEmpty)<;>(wp_walk;exact⟨_,rfl,q⟩)
theorem jgb {l1 l2:Addr} {xs ys:Array Value} {Q:Value→Shared→Prop} (t1:s.heap.IsTuple l1 xs) (t2:s.heap.IsTuple l2 ys)
 (h: ∀h' n,n=s.heap.objs.size→ZipAt h' (n+4) (n+2) (n+3)→IsPair h' (n+2) (.ref n) (.ref (n+1))→(∃a b,IsPair h' (n+3) a b)→h'.IsTupleIter n l1 0→h'.IsTupleIter (n+1) l2 0→
  (∀b o,s.heap.get? b=some o→h'.get? b=some o)→Q (.ref (n+4)) {s with heap:=h'}):wpAny (model prog w) A (call (.type "zip") [.ref l1,.ref l2]) Q E s:=
 jd5 (Made:=fun o s₁=>s₁.TypeIs o "zip" ∧Q o s₁) F.called_zip (F.typeCall_zip_2 _ _)
  (G3d (G2y F.called_zip.plain F.entry_zip_new (wpAny_of_eq (F.newCall_zip_2 _ _) (jj1 t1 t2 fun h' n en zp i o a b k=>⟨let ⟨_,_,e,_⟩:=zp;⟨_,e,rfl⟩,h h' n en zp i o a b k⟩))))
  fun _ _ ⟨ty,q⟩=>⟨ty,jga F.called_zip (by decide) ty (F.args_object_init_3 _ _ _) ⟨rfl,q⟩⟩
end
def Itz (K : PySem.W.Frag) (a b : Addr) : It :=
  ⟨fun i H => ∃ xs ys x y, SqT K H a xs ∧ SqT K H b ys ∧ xs[i]? = some x ∧ ys[i]? = some y,
   fun i H x H' => ∃ p v u, H p = none ∧ (∀ xs, SqT K H a xs → xs[i]? = some v) ∧ (∀ ys, SqT K H b ys → ys[i]? = some u) ∧ x = .ref p ∧ H' = upd H p (.tup [v, u]),
   fun i H => ∃ xs ys, SqT K H a xs ∧ SqT K H b ys ∧ (xs.length ≤ i ∨ ys.length ≤ i)⟩
theorem jgc {prog:Program} {w:World} {A:Around} {Q:Option Value→Shared→Prop} {E:Value→Shared→Prop} {s:Shared} {z TI TO i1 i2 l1 l2:Addr} {i:Nat} {xs ys:Array Value} (calm:A.handled=none) (ap:ZApart z TI TO i1 i2) (n1:l1 ∉ [z,TO,i1,i2]) (n2:l2 ∉ [z,TO,i1,i2]) (i12:i1≠i2)
 (Z:ZipAt s.heap z TI TO) (hTI:IsPair s.heap TI (.ref i1) (.ref i2)) (hTO: ∃a b,IsPair s.heap TO a b) (t1:s.heap.IsTuple l1 xs) (t2:s.heap.IsTuple l2 ys) (at1:s.heap.IsTupleIter i1 l1 i) (at2:s.heap.IsTupleIter i2 l2 i)
 (pair: ∀x y h' tk,xs[i]? =some x→ys[i]? =some y→(∀b o,b ∉ [z,TO,i1,i2]→s.heap.get? b=some o→h'.get? b=some o)→IsPair h' s.heap.objs.size x y→ZipAt h' z TI TO→IsPair h' TI (.ref i1) (.ref i2)→(∃a b,IsPair h' TO a b)→
  h'.IsTupleIter i1 l1 (i+1)→h'.IsTupleIter i2 l2 (i+1)→Q (some (.ref s.heap.objs.size)) {s with heap:=h',toks:=tk})
 (ended:(xs.size≤i∨ys.size≤i)→ ∀h' tk,(∀b o,b ∉ [z,TO,i1,i2]→s.heap.get? b=some o→h'.get? b=some o)→Q none {s with heap:=h',toks:=tk}):wpAny (model prog w) A (pyNext (.ref z)) Q E s:=by
 have sub: ∀ {b:Addr} {W:List Addr},b ∉ [z,TO,i1,i2]→(∀c∈W,c∈ [z,TO,i1,i2])→b ∉ W:=fun n m q=>n (m _ q)
 have z' : ∀c∈ [z],c∈ [z,TO,i1,i2]:=by simp
 have o' : ∀c∈ [TO],c∈ [z,TO,i1,i2]:=by simp
 have a' : ∀c∈ [i1],c∈ [z,TO,i1,i2]:=by simp
 have b' : ∀c∈ [i2],c∈ [z,TO,i1,i2]:=by simp
 have zo: ∀c∈ [z,TO],c∈ [z,TO,i1,i2]:=by simp
 refine jj0 Z (jiL ap Z hTI hTO fun h₁ off₁ isz=> ?_)
 have u1:h₁.IsTuple l1 xs:=t1.at fun o e=>off₁.2 _ _ (sub n1 z') e
 have v1:h₁.IsTupleIter i1 l1 i:=at1.at fun o e=>off₁.2 _ _ (by simp [ap.z1.symm]) e
 have stop: ∀ {h h' :Heap} {it e:Addr},z≠it→Heap.ExtBut it h h' →(∃o,h.get? z=some o∧o.cls= .type "zip")→(∃o,h'.get? e=some o∧o.cls= .type "StopIteration")→e≠z:=fun nz x ⟨o,e1,c1⟩ ⟨o2,e2,c2⟩ q=>by
  subst q
  rw [x _ _ nz e1] at e2
  cases e2
  rw [c1] at c2
  simp at c2
 cases hx:xs[i]? with
 |none=>
  refine jcY (s:= {s with heap:=h₁}) calm v1 u1 hx fun h' e grown st=>⟨fun o q=>grown _ _ ap.z1 q,fun h2 k=>⟨?_,ended (.inl (G1w.mp hx)) _ _ fun b o n q=>k _ _ (fun y=>sub n z' (by simp [y])) (grown _ _ (fun y=>sub n a' (by simp [y])) (off₁.2 _ _ (sub n z') q))⟩⟩
  have ne:=stop ap.z1 grown isz st
  obtain⟨o,q,c⟩:=st
  exact⟨o,k _ _ ne q,c⟩
 |some x=>
  refine jeQ (s:= {s with heap:=h₁}) v1 u1 hx fun h1' w1 same₁=>⟨.of same₁ (by simp),fun h₂ off₂=> ?_⟩
  have all: ∀ {b o},b ∉ [z,TO,i1,i2]→s.heap.get? b=some o→h₂.get? b=some o:=fun n e=>off₂.2 _ _ (sub n o') (same₁.extBut _ _ (fun y=>sub n a' (by simp [y])) (off₁.2 _ _ (sub n z') e))
  have u2:h₂.IsTuple l2 ys:=t2.at fun o e=>all n2 e
  have v2:h₂.IsTupleIter i2 l2 i:=at2.at fun o e=>off₂.2 _ _ (by simp [ap.O2.symm]) (same₁.extBut _ _ i12.symm (off₁.2 _ _ (by simp [ap.z2.symm]) e))
  have w2:h₂.IsTupleIter i1 l1 (i+1):=w1.at fun o e=>off₂.2 _ _ (by simp [ap.O1.symm]) e
  have isz2: ∃o,h₂.get? z=some o∧o.cls= .type "zip" :=let ⟨o,e,c⟩:=isz;⟨o,off₂.2 _ _ (by simp [ap.zO]) (same₁.extBut _ _ ap.z1 e),c⟩
  cases hy:ys[i]? with
  |none=>
   refine jcY (s:= {s with heap:=h₂}) calm v2 u2 hy fun h' e grown st=>⟨fun o q=>grown _ _ ap.z2 q,fun h3 k=>⟨?_,ended (.inr (G1w.mp hy)) _ _ fun b o n q=>k _ _ (fun y=>sub n z' (by simp [y])) (grown _ _ (fun y=>sub n b' (by simp [y])) (all n q))⟩⟩
   have ne:=stop ap.z2 grown isz2 st
   obtain⟨o,q,c⟩:=st
   exact⟨o,k _ _ ne q,c⟩
  |some y=>
   refine jeQ (s:= {s with heap:=h₂}) v2 u2 hy fun h2' w3 same₂=>⟨.of same₂ (by simp),fun h₃ kept new zip its out=> ?_⟩
   have size:h2'.objs.size=s.heap.objs.size:=by rw [same₂.1,off₂.1,same₁.1,off₁.1]
   have done:=pair x y h₃ s.toks hx hy (fun b o n e=>kept _ _ (sub n zo) (same₂.extBut _ _ (fun y=>sub n b' (by simp [y])) (all n e))) (size ▸ new) zip its out
    (w2.at fun o e=>kept _ _ (by simp [ap.z1.symm,ap.O1.symm]) (same₂.extBut _ _ i12 e)) (w3.at fun o e=>kept _ _ (by simp [ap.z2.symm,ap.O2.symm]) e)
   rw [←size] at done
   exact done
theorem jhI (n:Nat):ZApart (n+4) (n+2) (n+3) n (n+1):=by
 have d: ∀ {i j:Nat},i≠j→n+i≠n+j:=fun h q=>h (Nat.add_left_cancel q)
 exact⟨d (j:=0) (by decide),d (by decide),d (by decide),d (by decide),d (j:=0) (by decide),d (by decide),d (by decide),d (j:=0) (by decide),d (by decide)⟩
theorem jgd {n c:Nat} (h:c<n):c ∉ [n+4,n+3,n,n+1]:=by
 simp only [G0v,G06,G2W,not_or]
 omega
theorem jj2 {n c:Nat} (h:c∈ [n+4,n+2,n+3,n,n+1]):n≤c:=by
 simp only [G0v,G06,G2W] at h
 omega
theorem jhl {prog:Program} {w:World} {A:Around} {E:Value→Shared→Prop} {s:Shared} {z TI TO:Addr} {Q:Value→Shared→Prop} (Z:ZipAt s.heap z TI TO) (h:Q (.ref z) s):wpAny (model prog w) A (pyIter (.ref z)) Q E s:=by
 obtain⟨_,_,hz,_⟩:=Z
 have ty:s.TypeIs (.ref z) "zip" :=⟨_,hz,rfl⟩
 exact wpAny_pyIter_slot ty F.slot_zip_iter (G0Z F.slot_zip_iter ty F.entry_zip_iter (G0c ⟨_,rfl,_,_,ty,F.slot_zip_next.lookup,h⟩) (F.args_zip_iter_1 _))
theorem jj3 {P:Program} {w:World} {K:PySem.W.Frag} (tg:Expr) (l1 l2 z TI TO i1 i2:Addr) (ap:ZApart z TI TO i1 i2) (n1:l1 ∉ [z,TO,i1,i2]) (n2:l2 ∉ [z,TO,i1,i2]) (i12:i1≠i2):
 Turn P w K tg (Itz K l1 l2) [z,TI,TO,i1,i2] z (fun i h=>ZipAt h z TI TO∧IsPair h TI (.ref i1) (.ref i2)∧(∃a b,IsPair h TO a b)∧h.IsTupleIter i1 l1 i∧h.IsTupleIter i2 l2 i):=by
 have inW: ∀ {b:Addr},b ∉ [z,TI,TO,i1,i2]→b ∉ [z,TO,i1,i2]:=fun n q=>n (by simp only [G0v] at q ⊢;rcases q with q|q|q|q|q<;>simp [q] at*)
 have there: ∀ {i:Nat} {h:Heap},(ZipAt h z TI TO∧IsPair h TI (.ref i1) (.ref i2)∧(∃a b,IsPair h TO a b)∧h.IsTupleIter i1 l1 i∧h.IsTupleIter i2 l2 i)→ ∀b∈ [z,TI,TO,i1,i2],∃o,h.get? b=some o∧ ∀v,o.data≠ .cell v:=fun ⟨⟨_,_,a1,_⟩,a2,⟨_,_,a3⟩,⟨o4,a4,_,d4⟩,⟨o5,a5,_,d5⟩⟩ b hb=>by
  simp only [G0v,G06,G2W] at hb
  rcases hb with e|e|e|e|e<;>subst e
  ·exact⟨_,a1,fun v z=>by cases z⟩
  ·exact⟨_,a2,fun v z=>by cases z⟩
  ·exact⟨_,a3,fun v z=>by cases z⟩
  ·exact⟨o4,a4,fun v z=>by rw [d4] at z;cases z⟩
  ·exact⟨o5,a5,fun v z=>by rw [d5] at z;cases z⟩
 refine⟨by simp,fun i h st=>there st,fun i h h' ⟨⟨f,b,a1,qf⟩,a2,⟨x,y,a3⟩,a4,a5⟩ q=>⟨⟨f,b,q z (by simp) _ a1,qf⟩,q TI (by simp) _ a2,⟨x,y,q TO (by simp) _ a3⟩,a4.at fun o e=>q i1 (by simp) o e,a5.at fun o e=>q i2 (by simp) o e⟩,?_,?_,fun _ _ _ _ _ st h=>jhl st.1 h⟩
 ·intro X hP hw hK hc i pins s σ H E I hf st hg
  subst hP hw hK
  obtain⟨xs,ys,x,y,hq,hq2,hx,hy⟩:=hg
  obtain⟨its,rv,p,_⟩:=I.tuple hq
  obtain⟨jts,rw',p2,_⟩:=I.tuple hq2
  obtain⟨u,hu,ru⟩:=rv.get hx
  obtain⟨v,hv,rv'⟩:=rw'.get hy
  obtain⟨a1,a2,a3,a4,a5⟩:=id st
  have lt: ∀b∈ [z,TI,TO,i1,i2],b≠s.heap.objs.size:=fun b hb=>let ⟨_,e,_⟩:=there st b hb;G0I (G0k e)
  have l1' :i<its.toArray.size:=by have:=(G0t.mp hu).1;simpa using this
  have l2' :i<jts.toArray.size:=by have:=(G0t.mp hv).1;simpa using this
  refine jgc (I.ok.hd hc) ap n1 n2 i12 a1 a2 a3 p p2 a4 a5 (fun x' y' h' tk hx' hy' kept new zip it out w1 w2=>⟨_,rfl,?_⟩) fun ends=>absurd ends (by omega)
  have ex:x' =u:=by simp only [G29] at hx';rw [hu] at hx';cases hx';rfl
  have ey:y' =v:=by simp only [G29] at hy';rw [hv] at hy';cases hy';rfl
  subst ex ey
  refine jlT (s:= {s with heap:=h',toks:=tk}) zip fun h2 zip2 off=> ?_
  have hn:H s.heap.objs.size=none:=I.hok.fresh (G0d _)
  have nz: ∀ {b},b≠z→b ∉ [z]:=fun h=>by simpa using h
  have T2:IsPair h2 s.heap.objs.size x' y' :=off.2 _ _ (nz (lt z (by simp)).symm) new
  refine⟨.ref s.heap.objs.size,upd H s.heap.objs.size (.tup [x,y]),?_,rfl,⟨_,x,y,hn,fun ws hw=>by rw [I.tuple_inj hw hq];exact hx,fun ws hw=>by rw [I.tuple_inj hw hq2];exact hy,rfl,rfl⟩,
   ⟨zip2,off.2 _ _ (nz ap.zI.symm) it,let ⟨a,b,e⟩:=out;⟨a,b,off.2 _ _ (nz ap.zO.symm) e⟩,w1.at fun o e=>off.2 _ _ (nz ap.z1.symm) e,w2.at fun o e=>off.2 _ _ (nz ap.z2.symm) e⟩,fun b hb=> ?_⟩
  ·refine I.turnLaid (h' :=h2) (t' :=tk) (ch:= [z,TI,TO,i1,i2]) (fun b u hb q=>off.2 _ _ (fun y=>inW hb (by simp only [G0z] at y;simp [y])) (kept b u (inW hb) q)) hf (G0d _) ⟨by show 2≤sizeLine;decide,[x',y'],.cons ru (.cons rv' .nil),⟨_,T2,rfl,rfl,_,rfl⟩⟩
  ·rw [jan (lt b hb)];exact(hf b hb).1
 ·intro X hP hw hK hc i pins s σ H E I hf st hg
  subst hP hw hK
  obtain⟨xs,ys,hq,hq2,hl⟩:=hg
  obtain⟨its,rv,p,_⟩:=I.tuple hq
  obtain⟨jts,rw',p2,_⟩:=I.tuple hq2
  have e1:=rv.length
  have e2:=rw'.length
  obtain⟨a1,a2,a3,a4,a5⟩:=id st
  refine jgc (I.ok.hd hc) ap n1 n2 i12 a1 a2 a3 p p2 a4 a5 (fun x' y' h' tk hx' hy' _ _ _ _ _ _ _=> ?_) fun _ h' tk kept=>⟨rfl,I.turnL (ch:= [z,TI,TO,i1,i2]) (fun b o hb q=>kept b o (inW hb) q) hf⟩
  have b1:=(G0L.mp hx').1
  have b2:=(G0L.mp hy').1
  simp only [G0f] at b1 b2
  omega
section
variable {X:Cx}
def jpj (K:PySem.W.Frag) (ta:TA):TI:=fun σ H R=>ta σ H fun vs H1=> ∃a b,vs= [.ref a,.ref b]∧(∃xs,SqT K H1 a xs)∧(∃ys,SqT K H1 b ys)∧R (Itz K a b) H1
theorem jnJ {tg:Expr} {a b:Expr} {ta:TA} {p pos:Pos} (hg:Gl X "zip") (hm:X.mg "zip" =none) (ha:PA X [a,b] ta) (hs:starEach [a,b] X.env= [(false,eval a X.env),(false,eval b X.env)]:=by rfl) (hs2:starEach [b] X.env= [(false,eval b X.env)]:=by rfl):
 PI X tg (.Call (.Name "zip" p) [a,b] [] pos) (jpj X.K ta):=by
 intro pins s σ H R I h
 refine Call_ (jez I hg hm boot_zip (G1s (thn (ha pos pins s σ H _ I h) fun us s1 ⟨vs,H1,I1,r1,q1⟩=> ?_) (by rw [hs,hs2]) (by rw [hs2];rfl)))
 obtain⟨a,b,e,⟨xs,hq⟩,⟨ys,hq2⟩,q⟩:=q1
 subst e
 cases r1 with
 |cons r rr=>
  cases rr with
  |cons r' rr=>
   cases rr
   cases r
   cases r'
   obtain⟨its,rv,p,_⟩:=I1.tuple hq
   obtain⟨jts,rw',p2,_⟩:=I1.tuple hq2
   have la:a<s1.heap.objs.size:=by obtain⟨o,ho,_⟩:=p;exact G0k ho
   have lb:b<s1.heap.objs.size:=by obtain⟨o,ho,_⟩:=p2;exact G0k ho
   refine jgb (show s1.heap.IsTuple a its.toArray from p) (show s1.heap.IsTuple b jts.toArray from p2) fun h' n en z1 z2 z3 z4 z5 hk=> ?_
   subst en
   refine jhl z1 ⟨s1.heap.objs.size+4,[s1.heap.objs.size+4,s1.heap.objs.size+2,s1.heap.objs.size+3,s1.heap.objs.size,s1.heap.objs.size+1],_,_,H1,rfl,I1.kept (t' :=s1.toks) hk,
    jj3 _ a b _ _ _ _ _ (jhI _) (jgd la) (jgd lb) (G0I (G1M _)),⟨z1,z2,z3,z4,z5⟩,fun c hc=> ?_,q⟩
   have hb' :s1.heap.objs.size≤c:=jj2 hc
   exact I1.fpOk hb' (I1.hok.fresh hb')
end
def jkG (ds es:List D):List D:=(ds.zip es).map fun p=> .tup [p.1,p.2]
def iZ (ta:TAD):TID:=fun σ h R=>ta σ h fun xs h1=> ∃ds es,xs= [.tup ds,.tup es]∧R (fun _=>some (jkG ds es)) h1
theorem jj4 {ds es:List D} {i:Nat} {d:D} (h:(jkG ds es)[i]? =some d): ∃x y,ds[i]? =some x∧es[i]? =some y∧d= .tup [x,y]:=by
 unfold jkG at h
 rw [G0o] at h
 cases q:(ds.zip es)[i]? with
 |none=>rw [q] at h;cases h
 |some p=>
  rw [q] at h
  obtain⟨x,y⟩:=p
  rw [List.getElem?_zip_eq_some] at q
  exact⟨x,y,q.1,q.2,(G0V h).symm⟩
section
variable {K:PySem.W.Frag}
theorem jj5 {H:Hp} {a b:Addr} {vs us:List V} {ds es:List D} (hv:H a=some (.tup vs)) (r:RelDs K H ds vs) (hu:H b=some (.tup us)) (ru:RelDs K H es us):jmi K H (fun _=>some (jkG ds es)) (Itz K a b):=fun H' h' k rh ds' e i=>by
 cases e
 have hv' :=k.tup _ _ hv
 have hu' :=k.tup _ _ hu
 have r' :=r.mono k
 have ru' :=ru.mono k
 refine⟨fun d hd=> ?_,fun hl=>⟨vs,us,SqT.of hv',SqT.of hu',?_⟩⟩
 ·obtain⟨x,y,hx,hy,ed⟩:=jj4 hd
  subst ed
  obtain⟨v,e1,e2⟩:=r'.get hx
  obtain⟨u,e3,e4⟩:=ru'.get hy
  refine⟨⟨vs,us,v,u,SqT.of hv',SqT.of hu',e1,e3⟩,fun x' H'' ⟨p,v',u',hp,hx',hy',ex,eH⟩=> ?_⟩
  subst ex eH
  have ev:v' =v:=by have:=hx' vs (SqT.of hv');rw [e1] at this;exact(G0V this).symm
  have eu:u' =u:=by have:=hy' us (SqT.of hu');rw [e3] at this;exact(G0V this).symm
  subst ev eu
  have k2:Kept H' (upd H' p (.tup [v',u'])):= .new hp
  exact⟨k2,RelH.new rh hp,p,[v',u'],rfl,jao,_,_,rfl,e2.mono k2,_,_,rfl,e4.mono k2,rfl⟩
 ·have l1:=r.length
  have l2:=ru.length
  unfold jkG at hl
  rw [G0a,G3a] at hl
  omega
theorem jnK {ta:TAD}: ∀σ H R,LI K (iZ ta) σ H R→jpj K (LA K ta) σ H R:=fun σ H R ⟨σd,h,Rd,rs,rh,q,p⟩=>
 LA.bind rs rh q fun ds vs h1 H1 k1 rs1 rh1 r1 ⟨es,fs,e,q1⟩=>by
  subst e
  obtain⟨v,w,e,r2,r3⟩:=jb5 r1
  obtain⟨a,ws,e',hv,r⟩:=(show ∃a vs,v= .ref a∧H1 a=some (.tup vs)∧RelDs K H1 es vs from r2)
  obtain⟨b,us,e'',hu,r'⟩:=(show ∃a vs,w= .ref a∧H1 a=some (.tup vs)∧RelDs K H1 fs vs from r3)
  subst e' e''
  exact⟨a,b,e,⟨ws,SqT.of hv⟩,⟨us,SqT.of hu⟩,p _ _ _ _ k1 rh1 (jj5 hv r hu r') q1⟩
end
section
variable {X:Cx}
theorem jnL {tg:Expr} {a b:Expr} {ta:TAD} {p pos:Pos} (hg:Gl X "zip") (hm:X.mg "zip" =none) (ha:JA X [a,b] ta) (hs:starEach [a,b] X.env= [(false,eval a X.env),(false,eval b X.env)]:=by rfl) (hs2:starEach [b] X.env= [(false,eval b X.env)]:=by rfl):
 JI X tg (.Call (.Name "zip" p) [a,b] [] pos) (iZ ta):=⟨(jnJ hg hm ha.to hs hs2).imp jnK⟩
end
def inE (neg:Bool):RD2:=fun x y h Q=> ∃ (p:PyData) (ps:List PyData),ToP h x p∧(ToP h y (.list ps)∨ToP h y (.tuple ps))∧p.canLay0=true∧PyData.canLayAll0 ps=true∧p.depth≤60∧Q (.bl (neg !=ps.any fun z=>PyData.eqv z p)) h
section
variable {X:Cx}
theorem jj6 (hu:X.A.units+64<cLine):OpQ X (compareOp .NotIn) (inE true):=by
 intro pins s σ H x y v u Q I rx ry h
 obtain⟨dx,dy,h,Qd,r1,r2,rh,⟨p,ps,t1,t2,c1,c2,c3,qq⟩,post⟩:=h
 obtain⟨as,a1⟩:=jbZ I rh t1 r1 rx
 have hu' :X.A.units+1+min (PyData.depthAll ps) p.depth<cLine:=by have:=G2Z (PyData.depthAll ps) p.depth;omega
 have q' :Qd (.bl (!ps.any fun z=>PyData.eqv z p)) h:=by simpa using qq
 rcases t2 with t2|t2
 ·obtain⟨bs,b1⟩:=jbZ I rh t2 r2 ry
  exact notIn_list_reads b1 a1 c2 c1 hu' ⟨.bl _,H,I,rfl,post (.bl _) _ _ _ (.refl H) rh rfl q'⟩
 ·obtain⟨bs,b1⟩:=jbZ I rh t2 r2 ry
  exact notIn_tuple_reads b1 a1 c2 c1 hu' ⟨.bl _,H,I,rfl,post (.bl _) _ _ _ (.refl H) rh rfl q'⟩
end
end L2
namespace L2
open PySem PySem.Spec PyProof.Rows
structure ShowOk (p:PyData):Prop where
 sh:p.showable=true
 dp:p.depth≤60
 ln:p.shown.length≤sizeLine
structure ShowB (p:PyData) (k b:Nat):Prop where
 sh:p.showable=true
 dp:p.depth≤k
 ln:p.shown.length≤b
end L2
namespace HT
open PySem PySem.Spec PyProof.Rows
open AutoSeq1 (wpAny_loadPart')
section
variable {prog:Program} {w:World} {A:Around} {E:Value→Shared→Prop} {s:Shared}
structure RangeOf (h:Heap) (r:Addr) (a b c:Int) (n:Nat):Prop where
 at_: ∃t u v,IsRange h r a b c t u v
 small:Builtin.Range.small a b c=true
 many:Builtin.Range.rangeSize a b c=n
 fits:n≤2^24
end
end HT
namespace L2
open PySem PySem.Spec PyProof.Rows PySem.SeqAt
theorem jj7 {X:Cx} (hu:X.A.units+64<cLine):MtM X "list.index" (fun x vs H Q=> ∃ (a:Addr) (y:V) (dy:D) (h:HD) (p:PyData) (ps:List PyData) (j:Nat) (z:PyData),x= .ref a∧vs= [y]∧RelD X.K H dy y∧RelH X.K h H∧ToP h (.lst a) (.list ps)∧ToP h dy p∧p.canLay0=true∧PyData.canLayAll0 ps=true∧p.depth≤60∧j<1000000∧ps[j]? =some z∧PyData.eqv z p=true∧(∀m y,m<j→ps[m]? =some y→PyData.eqv y p=false)∧Q (.int (j:Int)) H):=by
 intro pins s σ H x vs v us Q I rx rv h
 obtain⟨a,y,dy,h,p,ps,j,z,rfl,rfl,rd,rh,t1,t2,c1,c2,c3,hj,hz,hit,hno,q⟩:=h
 cases rx
 obtain⟨u,rfl,ru⟩:=jde rv
 obtain⟨a',ds,ea,ha,ts⟩:=(show ∃a' ds,D.lst a= .lst a' ∧h a' =some ds∧ToPs h ds ps from t1)
 cases ea
 obtain⟨ws,hH,_⟩:=rh a ds ha
 obtain⟨as,r1⟩:=jbZ I rh t1 (show RelD X.K H (.lst a) (.ref a) from ⟨rfl,ws,hH⟩) (show RelV (.ref a) (.ref a) from rfl)
 obtain⟨bs,r2⟩:=jbZ I rh t2 rd ru
 cases r1 with
 |list h1 h2 h3 h4=>
  rename_i o its n cs
  have em:=readsAll_map ps _ _ c2 h4
  have gm: ∀m (hm:m<its.size),ps[m]? =some (readOf s.heap its[m]):=fun m hm=>by
   rw [←em,G0o,G1z,G1o hm];rfl
  have hlen:its.size=ps.length:=by rw [←em,G0a,G0j]
  have hjs:j<its.size:=by rw [hlen];exact(G0t.mp hz).1
  have hu' :X.A.units+1+min (PyData.depthAll ps) p.depth<cLine:=by have:=G2Z (PyData.depthAll ps) p.depth;omega
  obtain⟨oc,od,odt,osl⟩:=o
  simp only at h2 h3
  subst h2 h3
  refine G3f F.slot_list_index ⟨_,h1,rfl⟩ F.entry_list_index (F.args_list_index_2 _ _) (list_indexAt a its n od osl u (fun y=>PyData.eqv (readOf s.heap y) p) j hjs (by omega) ?_ ?_) ⟨h1,items_eqAt h4 r2 c2 c1 hu',?_⟩
  ·have:=gm j hjs
   rw [hz] at this;injection this with this
   rw [←this];exact hit
  ·intro m hm hmj;exact hno m _ hmj (gm m hm)
  ·exact⟨.int (j:Int),H,I.tok _,⟨_,rfl⟩,q⟩
def jpW (to te:TED):TED:=fun σ h Q=>to σ h fun x h1=> ∃a,x= .lst a∧te σ h1 fun y h2=> ∃ (p:PyData) (ps:List PyData) (j:Nat) (z:PyData),ToP h2 (.lst a) (.list ps)∧ToP h2 y p∧p.canLay0=true∧PyData.canLayAll0 ps=true∧p.depth≤60∧j<1000000∧ps[j]? =some z∧PyData.eqv z p=true∧(∀m y,m<j→ps[m]? =some y→PyData.eqv y p=false)∧Q (.int (j:Int)) h2
section
variable {X:Cx} {o e i:Expr} {to te ti:TED} {apos cpos:Pos}
theorem jpX (hu : X.A.units + 64 < cLine) (ho : JE X o to) (he : JE X e te) (hbase : attributeBase o "index" X.env (eval o X.env) = eval o X.env := by rfl)
    (hfew : ((backTo cpos (starEach [e] X.env)).all (fun x => !x.1) && (backToKw cpos (keywordEach [] X.env)).all (fun x => x.1.isSome) && decide ([e].length + ([] : List Keyword).length + (if ([] : List Keyword).isEmpty then 0 else 1) < 30)) = true := by rfl)
    (hline : (apos.endLine == cpos.line) = true := by rfl) (hs : starEach [e] X.env = (false, eval e X.env) :: starEach [] X.env := by rfl) (hplain : (backTo cpos (starEach [] X.env)).any (·.1) = false := by rfl) :
    JE X (.Call (.Attribute o "index" apos) [e] [] cpos) (jpW to te) :=
  ⟨(jle G2b PySem.F.slot_list_index PySem.F.type_list_index (jj7 hu) ho.to (jck he.to pa_nil hs) hbase hfew hline hs hplain).imp
    fun σ H Q ⟨σd, h, Qd, rs, rh, t, p⟩ => LE.bind rs rh t fun d v h1 H1 k1 rs1 rh1 r1 ⟨a, e, q⟩ => by
      subst e
      obtain ⟨e1, vs, hH⟩ := (show v = .ref a ∧ ∃ vs, H1 a = some (.lst vs) from r1)
      subst e1
      refine ⟨.inl ⟨rfl, vs, SqL.of hH⟩, ?_⟩
      refine LE.bind rs1 rh1 q fun y u h2 H2 k2 rs2 rh2 r2 ⟨pd, ps, j, z, t1, t2, c1, c2, c3, hj, hz, hit, hno, q2⟩ => ?_
      exact ⟨a, u, y, h2, pd, ps, j, z, rfl, rfl, r2, rh2, t1, t2, c1, c2, c3, hj, hz, hit, hno, p (.int _) _ _ _ (k1.trans k2) rh2 rfl q2⟩⟩
end
section
variable {α:Type} {i i' :Nat} {js:List Nat} {ti:TID} {te:TED} {σ:SD} {h:HD} {Q:KD} {j:ItD}
theorem jpY (xs:List α) (c c' g:α→D) (hz:xs.length≤1000) (hj:j h=some (xs.map fun x=> .tup [c x,c' x])) (ht: ∀R:ItD→HD→Prop,R j h→ti σ h R)
 (he: ∀x∈xs,∀Q' :KD,Q' (g x) h→te (((jb4 js σ).set i (some (c x))).set i' (some (c' x))) h Q') (hq: ∀p,h p=none→Q (.lst p) (jbT h p (xs.map g))):jfS (b2 i i') js ti je5 te σ h Q:=by
 refine ht _ ⟨xs.length,fun k ys h' =>h' =h∧ys=(xs.take k).map g,⟨rfl,by simp⟩,?_⟩
 rintro k ys h' ⟨rfl,rfl⟩
 refine⟨by simp only [G0a,G05];exact G0Y (jbK (by omega)),_,hj,by simp,fun hl p hp=> ?_,fun d hd=> ?_⟩
 ·rw [G1u (by simpa using hl)];exact hq p hp
 ·rw [G0o] at hd
  cases hx:xs[k]? with
  |none=>rw [hx] at hd;cases hd
  |some x=>
   rw [hx] at hd;cases hd
   refine⟨_,⟨_,_,rfl,rfl⟩,?_⟩
   unfold je5
   dsimp only
   rw [if_pos rfl]
   refine he x (G0X hx) _ ⟨h',Sub.refl _,rfl,?_⟩
   rw [G2l,hx]
   simp
theorem joP (xs:List α) (c c' :α→D) (g:α→Bool) (hz:xs.length≤1000) (hj:j h=some (xs.map fun x=> .tup [c x,c' x])) (ht: ∀R:ItD→HD→Prop,R j h→ti σ h R)
 (he: ∀x∈xs,∀Q' :KD,Q' (.bl (g x)) h→te (((jb4 js σ).set i (some (c x))).set i' (some (c' x))) h Q') (hq:Q (.bl (xs.all g)) h):dCB jnp (jbi (jfS (b2 i i') js ti je5 te) jdn) σ h Q:=by
 show jfS (b2 i i') js ti je5 te σ h (fun x h1=>jnp [x] h1 Q)
 exact jpY xs c c' (fun x=> .bl (g x)) hz hj ht he fun p hp=>⟨p,xs.map g,rfl,by rw [jad,G0N];rfl,by rw [jb3 hp,G15];exact hq⟩
end
def itF {α:Type} (f:α→α) (x:α):Nat→α
 |0=>x
 |k+1=>f (itF f x k)
theorem jgO {α:Type} (f:α→α) (x:α) (a:Nat): ∀b,itF f x (a+b)=itF f (itF f x a) b
 |0=>rfl
 |b+1=>by show f (itF f x (a+b))=f (itF f (itF f x a) b);rw [jgO f x a b]
theorem jge {α:Type} {f:α→α} {x:α} {a p:Nat} (e:itF f x (a+p)=itF f x a) (r:Nat): ∀q,itF f x (a+p*q+r)=itF f x (a+r)
 |0=>by simp
 |q+1=>by
  have h1:a+p*(q+1)+r=(a+p)+(p*q+r):=by rw [Nat.mul_succ];omega
  rw [h1,jgO,e,←jgO,←G3n,jge e r q]
theorem jlU {α:Type} {f:α→α} {x:α} {a m k:Nat} (e:itF f x m=itF f x a) (ha:a<m) (hk:a≤k):itF f x (a+(k-a)%(m-a))=itF f x k:=by
 have e' :itF f x (a+(m-a))=itF f x a:=by rw [show a+(m-a)=m by omega];exact e
 have h:=jge e' ((k-a)%(m-a)) ((k-a) / (m-a))
 have h2:=Nat.div_add_mod (k-a) (m-a)
 rw [show a+(m-a)*((k-a) / (m-a))+(k-a)%(m-a)=k by omega] at h
 exact h.symm
theorem jd6 {α:Type} [DecidableEq α]: ∀ {l m:List α},l.Nodup→(∀x∈l,x∈m)→l.length≤m.length
 | [],_,_,_=>G1D _
 |a::l,m,nd,h=>by
  have hm:=h a G0D
  have h2:l.length≤(m.erase a).length:=jd6 (G03.mp nd).2 fun x hx=>by
   have hxa:x≠a:=fun e=>(G03.mp nd).1 (e ▸ hx)
   exact(G1Z hxa).mpr (h x (G0y _ hx))
  rw [G1J hm] at h2
  have:=G1N hm
  simp only [G0e];omega
theorem jhJ (r:List Int):(jdd r).canLay0=true:=by unfold jdd;simp only [PyData.canLay0];exact jcn r
theorem jiM (r:List Int):(jdd r).depth≤2:=by unfold jdd;simp only [PyData.depth];have:=jcN r;omega
theorem jeR: ∀a b:List Int,PyData.eqvAll (a.map PyData.int) (b.map PyData.int)=decide (a=b)
 | [],[]=>by simp [PyData.eqvAll]
 | [],_::_=>by simp [PyData.eqvAll]
 |_::_,[]=>by simp [PyData.eqvAll]
 |x::a,y::b=>by
  show ((x==y)&&PyData.eqvAll (a.map .int) (b.map .int))=_
  rw [jeR a b,G1T]
  simp
theorem jiN (a b:List Int):PyData.eqv (jdd a) (jdd b)=decide (a=b):=jeR a b
theorem jeS (r:List Int):shaped (jdd r)=true:=by
 unfold shaped
 rw [jhJ,G0r (by have:=jiM r;omega)];rfl
theorem jiO {α:Type} {f:Nat→α} {L:Nat} (h:1≤L):atI ((List.range L).map f) (-1)=some (f (L-1)):=by
 unfold atI ixN
 rw [G0a,G0h,if_neg (by decide),if_pos (by omega)]
 show ((List.range L).map f)[(-1+(L:Int)).toNat]? =_
 rw [show (-1+(L:Int)).toNat=L-1 by omega,G0o,G07 (by omega)];rfl
theorem jiP {α:Type} {f:Nat→α} {L i:Nat} (h:i<L):atI ((List.range L).map f) (i:Int)=some (f i):=
 jcB (by rw [G0o,G07 h];rfl)
theorem jlV {α:Type} (xs:List α):jfV xs (some 1) none=xs.drop 1:=by
 unfold jfV
 cases xs with
 |nil=>simp
 |cons x xs=>simp [HT.sIx]
structure Enc {α:Type} [DecidableEq α] (e:α→D) (p:α→PyData):Prop where
 to: ∀ (h:HD) a,ToP h (e a) (p a)
 lay: ∀a,(p a).canLay0=true
 dp: ∀a,(p a).depth≤60
 eq: ∀a b,PyData.eqv (p a) (p b)=decide (a=b)
section
variable {α:Type} [DecidableEq α] {e:α→D} {p:α→PyData}
theorem Enc.tos (E:Enc e p) (h:HD): ∀as:List α,ToPs h (as.map e) (as.map p)
 | []=>rfl
 |a::as=>⟨_,_,rfl,E.to h a,E.tos h as⟩
theorem Enc.lays (E:Enc e p): ∀as:List α,PyData.canLayAll0 (as.map p)=true
 | []=>rfl
 |a::as=>by show (PyData.canLay0 (p a)&&_)=true;rw [E.lays as,E.lay a];rfl
theorem jnM (E:Enc e p) {neg:Bool} {x:α} {as:List α} {a:Addr} {h:HD} {Q:KD} (ha:h a=some (as.map e)) (q: ∀b:Bool,(b=true↔x∈as)→Q (.bl (neg !=b)) h):inE neg (e x) (.lst a) h Q:=by
 refine⟨p x,as.map p,E.to h x,.inl ⟨a,_,rfl,ha,E.tos h as⟩,E.lay x,E.lays as,E.dp x,q _ ?_⟩
 rw [List.any_map,List.any_eq_true]
 constructor
 ·rintro ⟨y,hy,z⟩
  have:y=x:=by simpa [G1m,E.eq] using z
  rw [←this];exact hy
 ·intro hi;exact⟨x,hi,by simp [G1m,E.eq]⟩
theorem jnN (E:Enc e p) {x:α} {as:List α} {a:Addr} {h:HD} (ha:h a=some (as.map e)) (hx:x∈as) (hl:as.length≤100000):
 ∃ (j:Nat) (q:PyData) (qs:List PyData) (z:PyData),as[j]? =some x∧ToP h (.lst a) (.list qs)∧ToP h (e x) q∧q.canLay0=true∧PyData.canLayAll0 qs=true∧q.depth≤60∧j<1000000∧qs[j]? =some z∧PyData.eqv z q=true∧(∀m y,m<j→qs[m]? =some y→PyData.eqv y q=false):=by
 have hj:=G1I.mpr hx
 have ex:as[as.idxOf x]? =some x:=by rw [G0i hj,G1R hj]
 refine⟨as.idxOf x,p x,as.map p,p x,ex,⟨a,_,rfl,ha,E.tos h as⟩,E.to h x,E.lay x,E.lays as,E.dp x,by omega,?_,by rw [E.eq,G0r rfl],fun m y hm hy=> ?_⟩
 ·rw [G0o,ex];rfl
 ·rw [G0o] at hy
  have hml:m<as.length:=by omega
  rw [G0i hml] at hy
  cases hy
  rw [E.eq]
  have:=List.not_of_lt_findIdx (p:=(· ==x)) (xs:=as) hm
  simpa using this
end
theorem jaU: ∀a b:List (List Int),PyData.eqvAll (a.map jdd) (b.map jdd)=decide (a=b)
 | [],[]=>by simp [PyData.eqvAll]
 | [],_::_=>by simp [PyData.eqvAll]
 |_::_,[]=>by simp [PyData.eqvAll]
 |x::a,y::b=>by
  show (PyData.eqv (jdd x) (jdd y)&&PyData.eqvAll (a.map jdd) (b.map jdd))=_
  rw [jaU a b,jiN,G1T]
  simp
theorem encT:Enc jai jdE:=⟨jcp,fun T=>by unfold jdE;simp only [PyData.canLay0];exact jcq T,fun T=>by unfold jdE;simp only [PyData.depth];have:=jce T;omega,jaU⟩
def mk1 (n:Nat) (T:List (List Int)) (M:List (List Int)):List (List Int):=jak n (jcU n M T)
def jaw (n:Nat) (T:List (List Int)) (i:Nat):List (List Int):=itF (mk1 n T) (jak n T) i
theorem jlW {n:Nat} (M:List (List Int)):jak n (jak n M)=jak n M:=jf8 M
theorem jiQ (n:Nat) (T:List (List Int)): ∀i,∃M,jaw n T i=jak n M
 |0=>⟨T,rfl⟩
 |_+1=>⟨_,rfl⟩
theorem jcr (n:Nat) (T:List (List Int)) (i:Nat):Sq n 1 (jaw n T i):=by
 obtain⟨M,e⟩:=jiQ n T i
 rw [e];exact Sq.mark M
theorem jbB {n e:Nat} {T:List (List Int)} (h:Sq n e T) (hn:n≤8): ∀i,jaw n T i=jak n (jbx n T (i+1))
 |0=>by
  show jak n T=jak n (jcU n (jfE n) T)
  rw [jhh h hn]
 |i+1=>by
  show jak n (jcU n (jaw n T i) T)=jak n (jcU n (jbx n T (i+1)) T)
  rw [jbB h hn i,jdL (Sq.mark (n:=n) _) h,jdL (h.pow hn (i+1)) h,jf8]
def RP (n:Nat) (T:List (List Int)) (k i j:Nat):Prop:=ent (jbx n T k) i j≠0
section
variable {n e:Nat} {T:List (List Int)}
theorem jd7 (h:Sq n e T) (hn:n≤8) (a b:Nat) {i j:Nat} (hi:i<n) (hj:j<n):RP n T (a+b) i j↔ ∃k,k<n∧RP n T a i k∧RP n T b k j:=by
 unfold RP
 rw [pow_add h hn a b]
 exact jcD (h.pow hn a) (h.pow hn b) hi hj
theorem jc3 (h:Sq n e T) (hn:n≤8) {c x:Nat} (hx:x<n) (l:RP n T c x x): ∀q,RP n T (c*(q+1)) x x
 |0=>by rw [G2L,Nat.mul_one];exact l
 |q+1=>by
  rw [Nat.mul_succ]
  exact(jd7 h hn _ _ hx hx).mpr ⟨x,hx,jc3 h hn hx l q,l⟩
theorem jiR {i j:Nat} (hi:i<n) (hj:j<n):RP n T 0 i j↔i=j:=by
 unfold RP
 show ent (jfE n) i j≠0↔_
 unfold jfE
 rw [jbk hi hj]
 by_cases z:i=j
 ·simp [z]
 ·simp [z]
theorem jkH (h:Sq n e T) (hn:n≤8): ∀ (m:Nat) {i j:Nat},i<n→j<n→RP n T m i j→ ∃v:Nat→Nat,v 0=i∧v m=j∧(∀t,t≤m→v t<n)∧ ∀t,t<m→RP n T 1 (v t) (v (t+1))
 |0,i,j,hi,hj,r=>by
  have:=(jiR hi hj).mp r
  exact⟨fun _=>i,rfl,this,fun _ _=>hi,fun t ht=>by omega⟩
 |m+1,i,j,hi,hj,r=>by
  obtain⟨k,hk,r1,r2⟩:=(jd7 h hn m 1 hi hj).mp r
  obtain⟨v,v0,vm,vl,vr⟩:=jkH h hn m hi hk r1
  refine⟨fun t=>if t≤m then v t else j,?_,?_,fun t _=> ?_,fun t ht=> ?_⟩
  ·simp [v0]
  ·show (if m+1≤m then v (m+1) else j)=j
   rw [if_neg (by omega)]
  ·show (if t≤m then v t else j)<n
   split
   ·exact vl t (by assumption)
   ·exact hj
  ·show RP n T 1 (if t≤m then v t else j) (if t+1≤m then v (t+1) else j)
   rw [if_pos (by omega)]
   by_cases z:t+1≤m
   ·rw [if_pos z];exact vr t (by omega)
   ·rw [if_neg z,show t=m by omega,vm];exact r2
theorem jfm (h:Sq n e T) (hn:n≤8) {m:Nat} {v:Nat→Nat} (vl: ∀t,t≤m→v t<n) (vr: ∀t,t<m→RP n T 1 (v t) (v (t+1))) (a:Nat): ∀b,a+b≤m→RP n T b (v a) (v (a+b))
 |0,hb=>(jiR (vl a (by omega)) (vl a (by omega))).mpr rfl
 |b+1,hb=>(jd7 h hn b 1 (vl a (by omega)) (vl _ hb)).mpr ⟨v (a+b),vl _ (by omega),jfm h hn vl vr a b (by omega),vr (a+b) (by omega)⟩
theorem jnO {n:Nat} {v:Nat→Nat} (hv: ∀t,t≤n→v t<n): ∃a b,a<b∧b≤n∧v a=v b:=by
 by_cases z: ∃a b,a<b∧b≤n∧v a=v b
 ·exact z
 ·exfalso
  have nd:((List.range (n+1)).map v).Nodup:=by
   unfold List.Nodup
   rw [G1a]
   refine List.Pairwise.imp_of_mem (fun {a b} _ hb hab=> ?_) (List.pairwise_lt_range (n:=n+1))
   intro e
   exact z ⟨a,b,hab,by have:=G0q.mp hb;omega,e⟩
  have:=jd6 nd (m:=List.range n) fun x hx=>by
   obtain⟨t,ht,e⟩:=G0M.mp hx
   rw [←e]
   exact G0q.mpr (hv t (by have:=G0q.mp ht;omega))
  simp at this
  omega
theorem jlX (h:Sq n e T) (h6:n≤6) {m i j:Nat} (hm:n≤m) (hi:i<n) (hj:j<n) (r:RP n T m i j):RP n T (m+60) i j:=by
 have hn:n≤8:=by omega
 obtain⟨v,v0,vm,vl,vr⟩:=jkH h hn m hi hj r
 obtain⟨a,b,hab,hbn,eq⟩:=jnO (n:=n) (v:=v) fun t ht=>vl t (by omega)
 have ha:=vl a (by omega)
 have p1:RP n T a i (v a):=by have:=jfm h hn vl vr 0 a (by omega);rw [v0,G2L] at this;exact this
 have p2:RP n T (b-a) (v a) (v a):=by
  have:=jfm h hn vl vr a (b-a) (by omega)
  rw [show a+(b-a)=b by omega,←eq] at this;exact this
 have p3:RP n T (m-a) (v a) j:=by
  have:=jfm h hn vl vr a (m-a) (by omega)
  rw [show a+(m-a)=m by omega,vm] at this;exact this
 have p4:RP n T 60 (v a) (v a):=by
  have hc:b-a=1∨b-a=2∨b-a=3∨b-a=4∨b-a=5∨b-a=6:=by omega
  rcases hc with c|c|c|c|c|c<;>rw [c] at p2
  ·exact jc3 h hn ha p2 59
  ·exact jc3 h hn ha p2 29
  ·exact jc3 h hn ha p2 19
  ·exact jc3 h hn ha p2 14
  ·exact jc3 h hn ha p2 11
  ·exact jc3 h hn ha p2 9
 have p5:RP n T (60+(m-a)) (v a) j:=(jd7 h hn _ _ ha hj).mpr ⟨v a,ha,p4,p3⟩
 have p6:RP n T (a+(60+(m-a))) i j:=(jd7 h hn _ _ hi hj).mpr ⟨v a,ha,p1,p5⟩
 rw [show a+(60+(m-a))=m+60 by omega] at p6;exact p6
end
theorem jcf {n:Nat} {f g:Nat→Int} (h: ∀k,k<n→f k≤g k):jat n f≤jat n g:=by
 induction n with
 |zero=>exact G3j _
 |succ n ih=>rw [jar,jar];have:=ih fun k hk=>h k (by omega);have:=h n (by omega);omega
theorem jdr {n:Nat} {f g:Nat→Int} (h: ∀k,k<n→f k≤g k) (e:jat n g≤jat n f): ∀k,k<n→f k=g k:=by
 induction n with
 |zero=>intro k hk;omega
 |succ n ih=>
  rw [jar,jar] at e
  have a:=jcf fun k (hk:k<n)=>h k (by omega)
  have b:=h n (by omega)
  intro k hk
  by_cases z:k=n
  ·subst z;omega
  ·exact ih (fun k hk=>h k (by omega)) (by omega) k (by omega)
section
variable {n e:Nat} {T:List (List Int)}
def tot (n:Nat) (T:List (List Int)) (k:Nat):Int:=jat n fun i=>jat n fun j=>ent (jak n (jbx n T k)) i j
theorem jcg {M:List (List Int)} {i j:Nat} (hi:i<n) (hj:j<n):ent (jak n M) i j=if ent M i j=0 then 0 else 1:=jbk hi hj
theorem jiS (h:Sq n e T) (h6:n≤6) {m:Nat} (hm:n≤m): ∀i j,i<n→j<n→ent (jak n (jbx n T m)) i j≤ent (jak n (jbx n T (m+60))) i j:=fun i j hi hj=>by
 rw [jcg hi hj,jcg hi hj]
 by_cases z:ent (jbx n T m) i j=0
 ·rw [if_pos z];split<;>omega
 ·rw [if_neg z,if_neg (jlX h h6 hm hi hj z)];exact G3j _
theorem jj8 (h:Sq n e T) (h6:n≤6) {m:Nat} (hm:n≤m):jak n (jbx n T m)=jak n (jbx n T (m+60))∨tot n T m+1≤tot n T (m+60):=by
 have le:=jiS h h6 hm
 have a:tot n T m≤tot n T (m+60):=jcf fun i hi=>jcf fun j hj=>le i j hi hj
 by_cases z:tot n T (m+60)≤tot n T m
 ·left
  refine(Sq.mark (n:=n) _).ext (Sq.mark (n:=n) _) fun i j hi hj=> ?_
  have b:=jdr (fun i hi=>jcf fun j hj=>le i j hi hj) z i hi
  exact jdr (fun j hj=>le i j hi hj) (by rw [b];exact G3j _) j hj
 ·right;omega
theorem jgf (k:Nat) (h6:n≤6):0≤tot n T k∧tot n T k≤36:=by
 have r: ∀i,i<n→0≤(jat n fun j=>ent (jak n (jbx n T k)) i j)∧(jat n fun j=>ent (jak n (jbx n T k)) i j)≤6:=fun i hi=>by
  have a: ∀j,j<n→0≤ent (jak n (jbx n T k)) i j∧ent (jak n (jbx n T k)) i j≤1:=fun j hj=>by
   rw [jcg hi hj];split<;>omega
  refine⟨jcM fun j hj=>(a j hj).1,?_⟩
  have:=jdK (f:=fun j=>ent (jak n (jbx n T k)) i j) fun j hj=>(a j hj).2
  omega
 refine⟨jcM fun i hi=>(r i hi).1,?_⟩
 have b:=jdK (f:=fun i=>jat n fun j=>ent (jak n (jbx n T k)) i j) fun i hi=>(r i hi).2
 unfold tot
 omega
theorem jhK (h:Sq n e T) (h6:n≤6): ∃t,t≤36∧jak n (jbx n T (n+60*t))=jak n (jbx n T (n+60*(t+1))):=by
 by_cases z: ∃t,t≤36∧jak n (jbx n T (n+60*t))=jak n (jbx n T (n+60*(t+1)))
 ·exact z
 ·exfalso
  have g: ∀t:Nat,t≤37→(t:Int)≤tot n T (n+60*t):=by
   intro t
   induction t with
   |zero=>intro _;exact(jgf _ h6).1
   |succ t ih=>
    intro ht
    have a:=ih (by omega)
    rcases jj8 h h6 (m:=n+60*t) (by omega) with b|b
    ·exact(z ⟨t,by omega,by rw [b];rfl⟩).elim
    ·have e1:n+60*t+60=n+60*(t+1):=by omega
     rw [e1] at b
     omega
  have a:=g 37 (G0d _)
  have b:=(jgf (T:=T) (n+60*37) h6).2
  omega
theorem jiT (h:Sq n e T) (h1:1≤n) (h6:n≤6) {L:Nat} (nd:((List.range L).map (jaw n T)).Nodup):L≤2225:=by
 by_cases z:L≤2225
 ·exact z
 ·exfalso
  obtain⟨t,ht,eq⟩:=jhK h h6
  have e1:jaw n T (n+60*t-1)=jaw n T (n+60*t+59):=by
   rw [jbB h (by omega),jbB h (by omega),show n+60*t-1+1=n+60*t by omega,show n+60*t+59+1=n+60*(t+1) by omega]
   exact eq
  have inj:=nd
  unfold List.Nodup at inj
  rw [G1a] at inj
  have h2:=G0W.mp inj (n+60*t-1) (n+60*t+59) (by simp;omega) (by simp;omega) (by omega)
  simp only [G1e] at h2
  exact h2 e1
structure Course (n:Nat) (T:List (List Int)) (L J:Nat):Prop where
 nd:((List.range L).map (jaw n T)).Nodup
 lt:J<L
 eq:jaw n T L=jaw n T J
theorem jiU {L a b:Nat} {f:Nat→List (List Int)} (nd:((List.range L).map f).Nodup) (hab:a<b) (hb:b<L):f a≠f b:=by
 unfold List.Nodup at nd
 rw [G1a] at nd
 have h2:=G0W.mp nd a b (by simp;omega) (by simp;omega) hab
 simpa using h2
theorem Course.one {L J L' J' :Nat} (c:Course n T L J) (d:Course n T L' J'):L=L' ∧J=J' :=by
 have hl:L=L' :=by
  rcases G2o L L' with a|a|a
  ·exact(jiU d.nd c.lt a c.eq.symm).elim
  ·exact a
  ·exact(jiU c.nd d.lt a d.eq.symm).elim
 subst hl
 refine⟨rfl,?_⟩
 have e:=c.eq.symm.trans d.eq
 rcases G2o J J' with a|a|a
 ·exact(jiU c.nd a d.lt e).elim
 ·exact a
 ·exact(jiU c.nd a c.lt e.symm).elim
end
structure Grid (n:Nat) (h0 h:HD) (p R:Addr) (rs:List Addr):Prop where
 at_:h R=some (rs.map D.lst)
 len:rs.length=n
 nR:R ∉ rs
 fR:h0 R=none
 np:p ∉ rs
 nRp:R≠p
 row: ∀a∈rs,h0 a=none∧ ∃r,h a=some (r.map D.int)∧jfi n r
def jj9 (n:Nat) (T:List (List Int)) (L:Nat):PyData:= .list ((List.range L).map fun i=>jdE (jaw n T i))
theorem jgg {h:HD} {n L:Nat} {T:List (List Int)} {A:Addr} (k:h A=some ((List.range L).map fun i=>jai (jaw n T i))):ToP h (.lst A) (jj9 n T L):=by
 refine⟨A,_,rfl,k,?_⟩
 have:=encT.tos h ((List.range L).map (jaw n T))
 rw [G0N,G0N] at this
 exact this
theorem call_divmodB {X:Cx}:CallR X (.builtin "divmod") (fun xs H Q=> ∃i j,xs= [.int i,.int j]∧(0<j∧j<2^200)∧ ∀p,H p=none→Q (.ref p) (upd H p (.tup [.int (i / j),.int (i%j)]))):=by
 intro pins s σ H xs us Q I r h
 obtain⟨i,j,rfl,⟨h1,h2⟩,q⟩:=h
 obtain⟨u,w',rfl,⟨t,rfl⟩,⟨t',rfl⟩⟩:=jjA r
 refine divmod_int (by omega) ?_ (.inl (PyProof.noPylong_of_log2 ?_))
 ·rw [G2G i (by omega),G2H i (by omega)]
  have hn:H s.heap.objs.size=none:=I.hok.fresh (G0d _)
  refine⟨.ref s.heap.objs.size,_,?_,rfl,q _ hn⟩
  refine I.laid (fun b o e=>G0b _ e) (G0d _) ⟨by simp only [G0e,G0H];rw [sizeLine_eq];decide,[.int (i / j) s.toks,.int (i%j) (s.toks+1)],.cons ⟨_,rfl⟩ (.cons ⟨_,rfl⟩ .nil),?_⟩
  exact⟨_,G0m s.heap rfl,rfl,rfl,0,rfl⟩
 ·have h3:j.natAbs<2^200:=jd3 (by omega) h2
  have h4:=(Nat.log2_lt (by omega:j.natAbs≠0)).mpr h3
  omega
def jlY:RDn:=fun ds h Q=> ∃i j:Int,ds= [.int i,.int j]∧(0<j∧j<2^200)∧Q (.tup [.int (i / j),.int (i%j)]) h
theorem jhL {X:Cx}:jdf X (.builtin "divmod") jlY:=call_divmodB.imp fun xs H Q ⟨ds,h,Qd,r,rh,⟨i,j,e,c,q⟩,p⟩=>by
 subst e
 obtain⟨v,w,e,r1,r2⟩:=jb5 r
 cases (show v= .int i from r1)
 cases (show w= .int j from r2)
 exact⟨i,j,e,c,fun a ha=>p (.tup [.int (i / j),.int (i%j)]) _ _ _ (.new ha) (rh.new ha) ⟨a,_,rfl,jao,.cons rfl (.cons rfl .nil)⟩ q⟩
theorem jnP {n:Nat} {T:List (List Int)} {L J:Nat} (c:Course n T L J) {i:Nat} (hi:J≤i):jaw n T (J+(i-J)%(L-J))=jaw n T i:=jlU c.eq c.lt hi
theorem jiV {A B:List (List Int)} {h:HD} {Q:KD} (q:Q (.bl (decide (A=B))) h):eqE (jai A) (jai B) h Q:=
 ⟨_,_,jcp _ _,jcp _ _,jba _,jba _,by rw [show PyData.eqv (jdE A) (jdE B)=decide (A=B) from jaU A B];exact q⟩
structure TabsOk (n:Nat) (Ts:List (List (List Int))):Prop where
 n1:1≤n
 n3:n≤3
 l1:1≤Ts.length
 l3:Ts.length≤3
 sq: ∀T∈Ts,Sq n 20 T
def jc4 (d:D) (a b:Int):Bool:=match d with
 | .int x=>decide (a≤x)&&decide (x≤b)
 |_=>false
def jfn (d:D) (m:Int):Bool:=match d with
 | .tup es=>es.all fun x=>jc4 x 0 (m-1)
 |_=>false
theorem jeT: ∀Ts:List (List (List Int)),PyData.depthAll (Ts.map jdE)≤5
 | []=>by simp [PyData.depthAll]
 |T::Ts=>by
  have:=jeT Ts
  have h2:=jce T
  simp only [G0x,PyData.depthAll,PyData.depth,jdE];omega
theorem jgP (Ts:List (List (List Int))):shaped (.list (Ts.map jdE))=true:=by
 unfold shaped
 have h1:PyData.canLay0 (.list (Ts.map jdE))=true:=by simp only [PyData.canLay0];exact encT.lays Ts
 have h2:=jeT Ts
 have h3:PyData.depth (.list (Ts.map jdE))≤64:=by simp only [PyData.depth];omega
 rw [h1,G0r h3];rfl
end L2
set_option maxRecDepth 35000
namespace L2
open PySem PySem.Spec PyProof.Rows PySem.SeqAt
def Sm (k b:Nat) (d:D):Prop:= ∃p:PyData,(∀h,ToP h d p)∧ShowB p k b∧p.canLay0=true
def bnd:Nat→Nat
 |0=>200
 |k+1=>(bnd k+2)*155+3
def SmK (k:Nat) (d:D):Prop:=Sm k (bnd k) d
structure SmN (n:Nat) (ds:List D):Prop where
 len:ds.length≤n
 sm: ∀d∈ds,SmK 1 d
def joQ (T:List (List Int)) (n p:Nat):List Nat:=(List.range n).filter fun j=>decide (ent T p j>0)
def cnt (T:List (List Int)) (n o:Nat):Nat→Nat→Int
 |0,p=>if p=o then 1 else 0
 |t+1,p=>((joQ T n p).map (cnt T n o t)).sum
section
variable {T:List (List Int)} {n o:Nat}
def jpZ (T:List (List Int)) (n o t p:Nat):Nat:=(joQ T n p).findIdx fun j=>decide (cnt T n o t j>0)
def nxt (T:List (List Int)) (n o t p:Nat):Nat:=(joQ T n p).getD (jpZ T n o t p) 0
end
theorem jka {α:Type} {xs:List α} {x:α} (h1:1≤xs.length) (h:xs[xs.length-1]? =some x):atI xs (-1)=some x:=by
 unfold atI ixN
 rw [if_neg (by decide),if_pos (by omega)]
 show xs[(-1+(xs.length:Int)).toNat]? =_
 rw [show (-1+(xs.length:Int)).toNat=xs.length-1 by omega];exact h
end L2
namespace L2
open PySem PySem.Spec PyProof.Rows
structure Fly (h0:Heap) (H:Hp) (h:Heap) (x C:Addr):Prop where
 ex: ∃ (oe:Obj) (vs:Array Value) (a0:Value) (T:Addr) (oT:Obj) (ts:Array Value),h.get? x=some oe∧oe.cls= .ref C∧oe.data= .fields vs∧vs[0]? =some a0∧vs[1]? =some (.ref T)∧T≠x∧
  h.get? T=some oT∧oT.data= .fields ts∧ts[3]? =some .none∧H T=none∧h0.get? T=none
 nx:H x=none
 n0:h0.get? x=none
def CXR (P:Program) (w:World):CXT:=fun outer H s E e s' => ∃x C H',e= .ref x∧s'.os=s.os∧AllBare s'.gens∧Un (frs outer) [] H H' s.heap s'.heap∧HOk P w H' s'.heap∧Fly s.heap H' s'.heap x C∧E (.ref C) none H'
structure Rz0 (X:Cx):Prop where
 stk:X.stack=X.env::X.outer
 fr:X.env.frame=some X.env.locals
 ex:X.ex= []
structure Rz (X:Cx) (E:XK):Prop extends Rz0 X where
 xe: ∀e s',wpAny (model X.prog X.w) X.A (leaving X.env e) (fun _ s'' =>CXR X.prog X.w X.outer X.H₀ X.s₀ E e s'') (fun e' s'' =>CXR X.prog X.w X.outer X.H₀ X.s₀ E e' s'') s' →X.xe e s'
end L2
namespace L2
open PySem PySem.Spec PyProof.Rows PySem.W
structure LamOk (sc:Scope):Prop where
 kind:sc.kind= .function
 co:sc.isCoroutine=false
 gen:sc.isGenerator=false
 nocell: ∀y∈sc.names,y.2≠ .cell∧y.2≠ .local
structure Cap (N:List Str) (σ:St) (sc:Scope) (cl:List (Str×Addr)) (h:Heap) (H:Hp):Prop where
 len:σ.length=N.length
 inj: ∀x y c,cl.lookup x=some c→cl.lookup y=some c→x=y
 has: ∀x,sc.names.lookup x=some .free→ ∃c,cl.lookup x=some c
 cell: ∀x c,cl.lookup x=some c→(∃v,h.IsCell c v)∧H c=none
 loc: ∀ (i:Nat) (x:Str) (v:V),N[i]? =some x→σ[i]? =some (some v)→sc.names.lookup x=some .free→ ∃u c,RelV v u∧cl.lookup x=some c∧h.IsCell c (some u)
abbrev TXD:=SD→HD→(Str→HD→Prop)→Prop
def WX (X:Cx) (E:XK) (H:Hp) (R:Str→HD→Prop):Prop:= ∀c C h' H',Kept H H' →RelH X.K h' H' →X.mg c=some (.ref C)→R c h' →E (.ref C) none H'
structure JX (X:Cx) (sts:List Stmt) (t:TXD):Prop where
 to: ∀ (E:XK),Rz X E→ ∀ (pins:List (Addr×Obj)) (s:Shared) (σ:St) (H:Hp) (σd:SD) (h:HD) (R:Str→HD→Prop),Inv X pins σ H s→RelS X.K H σd σ→RelH X.K h H→t σd h R→WX X E H R→
  wpAny (model X.prog X.w) X.A (execs sts X.env) (fun _ _=>False) X.xe s
structure JXE (X:Cx) (e:Expr) (t:TXD):Prop where
 to: ∀ (E:XK),Rz X E→ ∀ (pins:List (Addr×Obj)) (s:Shared) (σ:St) (H:Hp) (σd:SD) (h:HD) (R:Str→HD→Prop),Inv X pins σ H s→RelS X.K H σd σ→RelH X.K h H→t σd h R→WX X E H R→
  wpAny (model X.prog X.w) X.A (eval e X.env) (fun _ _=>False) X.xe s
abbrev RDx:=List D→HD→(Str→HD→Prop)→Prop
def bmV:List Value:= [.type "ValueError",.type "Exception",.type "BaseException",.type "object"]
def jp0 (K:PySem.W.Frag) (mg:Str→Option Value) (c:Str):Prop:= ∃C,mg c=some (.ref C)∧nsIn K mainGlobals c=some (some (.ref C))∧excIn K C bmV "ValueError.__new__" =true
end L2
namespace L2
open PySem PySem.Spec PyProof.Rows
structure RoomU (k:Nat) (A:Around):Prop where
 dp:A.depth+3*k+5<recursionLimit
 un:A.units+16*k+200<cLine
 gd:A.guards=some []
structure FnOkU (P:Program) (w:World) (K:PySem.W.Frag) (mg:Str→Option Value) (base:Heap) (CX:CXT) (k:Nat) (f:Addr) (fd:FuncData) (ps:List Str) (sp:Sp):Prop where
 len: ∀vs H Q E,sp vs H Q E→vs.length=ps.length
 run: ∀ (A:Around) (outer:List Env) (s:Shared) (H:Hp) (args:Args) (us:List Value) (vs:List V) (Q:VK) (E:XK),RoomU k A→Env0 P w K mg base A outer s H→BindsTo s fd args (ps.zip us)→Vals vs us→sp vs H Q E→
  codeAny (model P w) A (.call (.ref f) args) (CR CX outer P w H s Q E) s
structure FnOkS (P:Program) (w:World) (K:PySem.W.Frag) (mg:Str→Option Value) (base:Heap) (CX:CXT) (k:Nat) (f:Addr) (fd:FuncData) (ps:List Str) (sp:Shared→Sp):Prop where
 len: ∀s vs H Q E,sp s vs H Q E→vs.length=ps.length
 run: ∀ (A:Around) (outer:List Env) (s:Shared) (H:Hp) (args:Args) (us:List Value) (vs:List V) (Q:VK) (E:XK),Room k A→Env0 P w K mg base A outer s H→BindsTo s fd args (ps.zip us)→Vals vs us→sp s vs H Q E→
  codeAny (model P w) A (.call (.ref f) args) (CR CX outer P w H s Q E) s
end L2
namespace L2
open PySem PySem.Spec PyProof.Rows PySem.W PySem.Calls PySem.Builtin PySem.Builtin.ObjectAttr PySem.Builtin.Getset_descriptor
section
variable {prog:Program} {w:World} {A:Around} {E:Value→Shared→Prop} {s:Shared} {K:Frag} {x D:Addr}
structure ExcK (K:Frag) (D:Addr):Prop where
 cls:(clsIn K D).isSome=true
 ga:findIn K (.ref D) "__getattribute__" =some (some (.builtin "BaseException.__getattribute__"))
 hk:findIn K (.ref D) "__getattr__" =some none
 ca:findIn K (.ref D) "__class__" =some (some (.builtin "object.__class__"))
 gt:specialIn K (.builtin "object.__class__") "__get__" =some (some (.builtin "getset_descriptor.__get__"))
 tk:takesIn K (.builtin "object.__class__")=some true
 ob:mroIn K D (.type "object")=some true
 be:mroIn K D (.type "BaseException")=some true
end
end L2
namespace L2
open PySem PySem.Spec PyProof.Rows PySem.W
def CN:List Str:= ["NoTable","NoPlace","NoNumber","NoOrder","NoSet","NoWalk","NoLengths","NoWay","Apart","NoRow"]
def jpk:List Str:= ["NoTable","NoPlace","NoNumber","NoOrder","NoSet","NoWalk","NoLengths","NoWay","Apart","NoRow","NoTables","NoText","TooGreat"]
structure Exc (K:Frag) (mg:Str→Option Value):Prop where
 own: ∀c∈CN,jp0 K mg c
 ek: ∀c∈CN,∀C,mg c=some (.ref C)→ExcK K C
 kit: ∀c∈CN,∀d∈jpk,∀C D,mg c=some (.ref C)→mg d=some (.ref D)→kitOne K (.ref C) (.ref D)=some (c==d)
 val: ∀c∈CN,∀C,mg c=some (.ref C)→kitOne K (.ref C) (.type "ValueError")=some true
 pe: ∃pe,mg "PowerError" =some (.ref pe)∧ ∀c∈CN,∀C,mg c=some (.ref C)→exmOne K (.ref C) (.ref pe)=some true
 cls: ∀d∈jpk,∃D,mg d=some (.ref D)
 ve:mg "ValueError" =none
end L2
namespace L2
open PySem PySem.Spec PyProof.Rows PySem.SeqAt
section
variable {n e:Nat} {T:List (List Int)}
instance (k i j:Nat):Decidable (RP n T k i j):=inferInstanceAs (Decidable (ent (jbx n T k) i j≠0))
end
structure GQ (n:Nat) (h0 h:HD) (p R:Addr) (rs:List Addr) (f:Nat→Nat→Int):Prop where
 at_:h R=some (rs.map D.lst)
 len:rs.length=n
 nR:R ∉ rs
 nd:rs.Nodup
 fR:h0 R=none
 np:p ∉ rs
 Rp:R≠p
 row: ∀i a,rs[i]? =some a→h0 a=none∧h a=some ((List.range n).map fun j=>D.int (f i j))
 nn: ∀i j,0≤f i j∧f i j≤1000000
def gT3 (i j k:Nat):TGD:=fun d σ h Q=> ∃x y z,d= .tup [x,y,z]∧Q (((σ.set i (some x)).set j (some y)).set k (some z)) h
theorem joR {K:PySem.W.Frag} (i j k:Nat): ∀v σ H Q,LG K (gT3 i j k) v σ H Q→jn2 K 3 (jfG (jdk i) (jfG (jdk j) (jfG (jdk k) jn1))) v σ H Q:=fun v σ H Q ⟨d,σd,h,Qd,r,rs,rh,⟨x,y,z,e,q⟩,p⟩=>by
 subst e
 obtain⟨a,vs,e,hH,rr⟩:=(show ∃a vs,v= .ref a∧H a=some (.tup vs)∧RelDs K H [x,y,z] vs from r)
 subst e
 obtain⟨v1,vr,e1,r1,rr⟩:=(show ∃v r,vs=v::r∧RelD K H x v∧RelDs K H [y,z] r from rr)
 obtain⟨v2,v3,e2,r2,r3⟩:=jb5 rr
 subst e1 e2
 exact⟨a,[v1,v2,v3],rfl,SqT.of hH,rfl,v1,[v2,v3],rfl,v2,[v3],rfl,v3,[],rfl,rfl,p _ _ _ _ (.refl H) (((rs.set r1 i).set r2 j).set r3 k) rh q⟩
section
variable {X:Cx} {pos:Pos}
theorem joS {i j l:Nat} {x y z:Str} {p1 p2 p3:Pos} {k:Nat} (hc:X.calm=true) (hN:X.N.Nodup) (hi:X.N[i]? =some x) (hj:X.N[j]? =some y) (hl:X.N[l]? =some z) (hx:Loc X.env.scope x) (hy:Loc X.env.scope y) (hz:Loc X.env.scope z)
 (hf:X.fn x=true∨X.env.scope.names.lookup x=some .local:=by first|exact .inl rfl|exact .inr rfl|assumption) (hf2:X.fn y=true∨X.env.scope.names.lookup y=some .local:=by first|exact .inl rfl|exact .inr rfl|assumption) (hf3:X.fn z=true∨X.env.scope.names.lookup z=some .local:=by first|exact .inl rfl|exact .inr rfl|assumption):
 JG X (.Tuple [.Name x p1,.Name y p2,.Name z p3] k pos) (gT3 i j l):=⟨(jh1 hc (jcj (jcA hN hi hx hf) (jcj (jcA hN hj hy hf2) (jcj (jcA hN hl hz hf3) jgx)))).imp (joR i j l)⟩
end
end L2
namespace HT
open PySem PySem.Spec PyProof.Rows
theorem jfo {xs:Array Nat} {j:Nat} (r:xs.toList.Pairwise (· < ·)): ∀ (fuel lo hi:Nat),hi-lo≤fuel→hi≤xs.size→lo≤hi→(∀i,i<lo→ ∀v,xs[i]? =some v→v<j)→(∀i,hi≤i→ ∀v,xs[i]? =some v→j≤v)→
 (∀i,i<SetTable.below.go xs j fuel lo hi→ ∀v,xs[i]? =some v→v<j)∧(∀i,SetTable.below.go xs j fuel lo hi≤i→ ∀v,xs[i]? =some v→j≤v)∧SetTable.below.go xs j fuel lo hi≤xs.size
 |0,lo,hi,f,hs,lh,a,b=>by
  have:lo=hi:=by omega
  subst this
  exact⟨a,b,hs⟩
 |fuel+1,lo,hi,f,hs,lh,a,b=>by
  unfold SetTable.below.go
  by_cases c:lo<hi
  ·rw [if_pos c]
   have hm:(lo+hi) / 2<xs.size:=by omega
   have mono: ∀ (i k u v:Nat),i≤k→xs[i]? =some u→xs[k]? =some v→u≤v:=fun i k u v ik e1 e2=>by
    rcases G1A i k with z|z
    ·have i1:=(G0L.mp e1)
     have i2:=(G0L.mp e2)
     obtain⟨h1,e1'⟩:=i1
     obtain⟨h2,e2'⟩:=i2
     have:=G0W.mp r i k (by simpa using h1) (by simpa using h2) z
     simp only [G2z] at this
     omega
    ·have:i=k:=by omega
     subst this;rw [e1] at e2;cases e2;exact G0d _
   have em:xs.getD ((lo+hi) / 2) j=xs[(lo+hi) / 2]:=by simp [Array.getD,hm]
   dsimp only
   by_cases d:xs.getD ((lo+hi) / 2) j<j
   ·rw [if_pos d]
    refine jfo r fuel _ hi (by omega) hs (by omega) (fun i hi' v hv=> ?_) b
    have:=mono i ((lo+hi) / 2) v xs[(lo+hi) / 2] (by omega) hv (by simp [hm])
    omega
   ·rw [if_neg d]
    refine jfo r fuel lo _ (by omega) (by omega) (by omega) a (fun i hi' v hv=> ?_)
    have:=mono ((lo+hi) / 2) i xs[(lo+hi) / 2] v hi' (by simp [hm]) hv
    omega
  ·rw [if_neg c]
   have:lo=hi:=by omega
   subst this
   exact⟨a,b,hs⟩
theorem jfp {xs:Array Nat} (r:xs.toList.Pairwise (· < ·)) (j:Nat):(∀i,i<SetTable.below xs j→ ∀v,xs[i]? =some v→v<j)∧(∀i,SetTable.below xs j≤i→ ∀v,xs[i]? =some v→j≤v)∧SetTable.below xs j≤xs.size:=
 jfo r xs.size 0 xs.size (by omega) (G0d _) (G1D _) (fun i h=>absurd h (G1U _)) (fun i h v e=>by rw [Array.getElem?_eq_none h] at e;cases e)
theorem jgQ {xs:Array Nat} {j:Nat} (r:xs.toList.Pairwise (· < ·)) (no:xs[SetTable.below xs j]? ≠some j):(SetTable.insertAt xs (SetTable.below xs j) j).toList.Pairwise (· < ·):=by
 obtain⟨a,b,hs⟩:=jfp r j
 rw [G16,List.pairwise_append,List.pairwise_cons]
 have low: ∀v∈xs.toList.take (SetTable.below xs j),v<j:=fun v hv=>by
  obtain⟨i,hi⟩:=G10 hv
  rw [List.getElem?_take] at hi
  split at hi
  ·rename_i c;exact a i c v (by simpa using hi)
  ·cases hi
 have high: ∀v∈xs.toList.drop (SetTable.below xs j),j<v:=fun v hv=>by
  obtain⟨i,hi⟩:=G10 hv
  rw [G2M] at hi
  have hi' :xs[SetTable.below xs j+i]? =some v:=by simpa using hi
  have le:=b _ (Nat.le_add_right _ _) v hi'
  rcases G1A j v with z|z
  ·exact z
  ·have ev:v=j:=by omega
   subst ev
   cases i with
   |zero=>exact(no hi').elim
   |succ i=>
    obtain⟨h1,e1⟩:=G0L.mp hi'
    have h0:SetTable.below xs v<xs.size:=by omega
    have le0:=b _ (G0d _) xs[SetTable.below xs v] (by simp [h0])
    have lt:=G0W.mp r (SetTable.below xs v) (SetTable.below xs v+(i+1)) (by simpa using h0) (by simpa using h1) (by omega)
    simp only [G2z] at lt
    omega
 exact⟨r.sublist (List.take_sublist _ _),⟨high,r.sublist (List.drop_sublist _ _)⟩,fun u hu v hv=>by
  rcases G0v.mp hv with e|e
  ·rw [e];exact low u hu
  ·exact G1K (low u hu) (high v e)⟩
structure Tab (L:Bool) (n:Nat) (t:SetTable):Prop where
 fits:t.fits n=true
 led:t.led=L
 dum:t.dummies= #[]
 rise:t.plain=true∨n≤1→t.place.toList.Pairwise (· < ·)
theorem jhM {t:SetTable} {j:Nat} (h:t.slot j= .empty):t.place[SetTable.below t.place j]? ≠some j:=fun e=>by
 unfold SetTable.slot at h
 dsimp only at h
 rw [if_pos (by rw [e];exact G1y _)] at h
 cases h
theorem jeU {t:SetTable} {j:Nat} (d:t.dummies= #[]):t.slot j≠ .dummy:=fun h=>by
 unfold SetTable.slot at h
 dsimp only at h
 split at h
 ·cases h
 ·rw [d] at h
  have:SetTable.has #[] j=false:=by unfold SetTable.has;simp
  rw [this] at h
  cases h
theorem jfq (f:Nat→Option Nat): ∀l:List Nat,((l.filterMap fun j=>(f j).map (j,·)).map (·.1)).Sublist l
 | []=> .slnil
 |j::l=>by
  rw [List.filterMap_cons]
  cases e:(f j).map (j,·) with
  |none=>exact(jfq f l).cons _
  |some q=>
   obtain⟨v,_,rfl⟩:=G2h.mp e
   exact(jfq f l).cons₂ _
abbrev jd8 (es:Array (Int×Value)) (ep:Nat) (t:SetTable):Obj:= {cls:= .type "set",dict:=none,data:= .set es ep t,slots:= #[]}
def jpl (e:Int×Value):Int:=match e.2 with
 | .int n _=>n
 |_=>0
structure SetI (L:Bool) (es:Array (Int×Value)) (t:SetTable) (ns:List Int):Prop where
 tab:Tab L es.size t
 nums: ∀e∈es.toList,∃n tk,e=(hashInt n,.int n tk)
 nd:(es.toList.map jpl).Nodup
 mem: ∀n,n∈es.toList.map jpl↔n∈ns
theorem jd9:plainId "set.update.loop" =true:=by decide +kernel
theorem jgh:entryFor table "set.update.loop" =some Builtin.«set.update.loop» :=entryFor_of_fast (by kernel_rfl)
theorem jeu:entryFor table "set.__init__" =some Builtin.«set.__init__» :=entryFor_of_fast (by kernel_rfl)
abbrev jea (w:World):Bool:= !(w.params.followText "set-order")
theorem jkb (L:Bool):SetI L #[] (.fresh 0 0 L) []:=⟨⟨rfl,rfl,rfl,fun _=> .nil⟩,fun e he=>by simp at he,by simp,fun n=>by simp⟩
theorem jeb:isSubtype (.type "set") (.type "set")=pure true:=by rw [G2p];kernel_rfl
theorem jgi:isSubtype (.type "list") (.type "set")=pure false:=by rw [G2p];kernel_rfl
theorem jgj:isSubtype (.type "list") (.type "frozenset")=pure false:=by rw [G2p];kernel_rfl
theorem jgR:isSubtype (.type "tuple") (.type "set")=pure false:=by rw [G2p];kernel_rfl
theorem jgS:isSubtype (.type "tuple") (.type "frozenset")=pure false:=by rw [G2p];kernel_rfl
section
variable {prog:Program} {w:World} {A:Around} {E:Value→Shared→Prop} {s:Shared}
theorem jkc {x:Value} {P:PySem.Fin→Shared→Prop} (h:P (.done (.ret (.ref s.heap.objs.size))) {s with heap:=s.heap.push (jd8 #[] 0 (.fresh 0 0 (jea w)))}):
 wpAny (model prog w) A (Builtin.«set.__new__» ⟨[.type "set",x],[]⟩) P E s:=by
 have fine:=jeb
 obtain⟨hp,g,d,tk,os⟩:=s
 have told: ∀ {Q:Setting→Shared→Prop} {E' :Value→Shared→Prop} {A' :Around} {s' :Shared},Q ⟨prog,w.params⟩ s' →wpAny (model prog w) A' ask Q E' s' :=fun q=>wpAny_askSetting q
 wp_walk using told
 exact h
theorem jfr {M:Model} {o x:Value} {Q:Unit→Shared→Prop} (ty:s.TypeIs o "set") (q:Q () s):wpAny M A (checkBuiltinCall "set.__init__" ⟨[o,x],[]⟩) Q E s:=by
 have fine:=jeb
 unfold checkBuiltinCall
 rw [kind_set_init,split_set_init,sig_set_init]
 wp_walk using PyProof.Rows.printed_name (n:= "set") (by decide),PyProof.Rows.printed_star (self:=o) rfl ty
 exact q
end
inductive Mode (w:World) (a:Addr) (es:Array (Int×Value)) (ep:Nat) (t:SetTable):List Value→(Value→Nat→Heap→Prop)→Addr→Prop
 |text (b:w.params.followText "set-order" =true):Mode w a es ep t ((pickOrder (w.params.setOrder a ep) es).toList.map (·.2)) (fun f _ _=>f=rawInt 0) a
 |drawn (b:w.params.followText "set-order" =false) (d:t.plain=false) (two:1<es.size) (ord:List Nat) (p:ord.Perm (List.range es.size)) (tp:Addr):
  Mode w a es ep t (ord.map fun j=>(es.getD j (0,.none)).2) (fun f _ h=>f= .ref tp∧h.IsTuple tp (ord.map fun j=>rawInt (j:Nat)).toArray) tp
 |table (b:w.params.followText "set-order" =false) (d:t.plain=true∨es.size≤1):Mode w a es ep t (es.toList.map (·.2)) (fun f i _=> ∃slot:Nat,f=rawInt slot∧SetTable.below t.place slot=i) a
end HT
namespace L2
section
variable {n e:Nat} {T:List (List Int)}
theorem jiW:jak n (jcc n T)=jcc n (jak n T):=by
 unfold jcc
 refine jdJ fun i j hi hj=> ?_
 show (if ent (mkT n fun i j=>ent T j i) i j=0 then (0:Int) else 1)=ent (jak n T) j i
 rw [jbk hi hj,jfl hj hi]
theorem jkd {o:List Nat} (lt: ∀i,i<n→o.idxOf i<n):jak n (jdp n o T)=jdp n o (jak n T):=by
 unfold jdp
 refine jdJ fun i j hi hj=> ?_
 show (if ent (mkT n fun i j=>ent T (o.idxOf i) (o.idxOf j)) i j=0 then (0:Int) else 1)=ent (jak n T) (o.idxOf i) (o.idxOf j)
 rw [jbk hi hj,jfl (lt i hi) (lt j hj)]
theorem jnQ {o:List Nat} (ho:Ordr n o) {i:Nat} (hi:i<n):o.idxOf i<n:=by
 have hl:o.length=n:=by have:=ho.length_eq;rwa [G0h] at this
 have:=G1I.mpr (ho.mem_iff.mpr (G0q.mpr hi))
 omega
theorem jiX {o:List Nat} (ho:Ordr n o) {i:Nat} (hi:i<n):o.idxOf (o.getD i 0)=i∧o.getD i 0<n:=by
 have hl:o.length=n:=by have:=ho.length_eq;rwa [G0h] at this
 have hi' :i<o.length:=by omega
 have nd:o.Nodup:=ho.nodup_iff.mpr G2v
 have e:o.getD i 0=o[i]:=by simp [hi']
 rw [e]
 refine⟨?_,G0q.mp (ho.mem_iff.mp (G1j hi'))⟩
 exact nd.idxOf_getElem i hi'
end
inductive Made (L:List Nat):Nat→Prop
 |z:Made L 0
 |s {n l:Nat}:Made L n→l∈L→Made L (n+l)
structure Lens (L:List Nat):Prop where
 rise:L.Pairwise (· < ·)
 lo: ∀l∈L,1≤l
 hi: ∀l∈L,l≤12
 some:1≤L.length
 few:L.length≤6
end L2
namespace HT
open PySem PyProof.Rows
section
variable {κ:Type} {U:κ→Prop} {R:κ→κ→Bool} {al bl:List κ}
structure Ordd (U:κ→Prop) (R:κ→κ→Bool):Prop where
 asym: ∀x y,U x→U y→R x y=true→R y x=false
 neg: ∀x y z,U x→U y→U z→R x z=true→R x y=true∨R y z=true
abbrev Srt (R:κ→κ→Bool) (l:List κ):Prop:=l.Pairwise fun x y=>R y x=false
structure MI (R:κ→κ→Bool) (al bl:List κ) (ia ib:Nat) (out:List κ):Prop where
 perm:out.Perm (al.take ia++bl.take ib)
 srt:Srt R out
 ra: ∀x∈out,∀y∈al.drop ia,R y x=false
 rb: ∀x∈out,∀y∈bl.drop ib,R y x=false
end
section
variable {prog:Program} {w:World} {A:Around} {E:Value→Shared→Prop} {J:Shared→Prop} {κ:SortKind} {U:Keyed→Prop} {R:Keyed→Keyed→Bool}
structure Two (U:Keyed→Prop) (R:Keyed→Keyed→Bool) (a b:Array Keyed):Prop where
 o:Ordd U R
 ua: ∀x∈a.toList,U x
 ub: ∀x∈b.toList,U x
 sa:Srt R a.toList
 sb:Srt R b.toList
 last: ∀y∈b.toList,∀z,a.toList[a.toList.length-1]? =some z→R y z=true
end
section
variable {prog:Program} {w:World} {A:Around} {E:Value→Shared→Prop} {J:Shared→Prop} {κ:SortKind} {U:Keyed→Prop} {R:Keyed→Keyed→Bool}
structure TwoH (U:Keyed→Prop) (R:Keyed→Keyed→Bool) (a b:Array Keyed):Prop where
 o:Ordd U R
 ua: ∀x∈a.toList,U x
 ub: ∀x∈b.toList,U x
 sa:Srt R a.toList
 sb:Srt R b.toList
 first: ∀z∈a.toList,∀y,b.toList[0]? =some y→R y z=true
end
section
variable {prog:Program} {w:World} {A:Around} {E:Value→Shared→Prop} {J:Shared→Prop} {κ:SortKind} {U:Keyed→Prop} {R:Keyed→Keyed→Bool}
def seg (l:List Keyed) (p n:Nat):List Keyed:=(l.drop p).take n
end
section
variable {prog:Program} {w:World} {A:Around} {E:Value→Shared→Prop} {J:Shared→Prop} {κ:SortKind} {U:Keyed→Prop} {R:Keyed→Keyed→Bool}
abbrev Dsc (R:Keyed→Keyed→Bool) (l:List Keyed):Prop:=l.Pairwise fun x y=>R x y=false
end
section
variable {prog:Program} {w:World} {A:Around} {E:Value→Shared→Prop} {J:Shared→Prop} {κ:SortKind} {U:Keyed→Prop} {R:Keyed→Keyed→Bool}
structure Fall (R:Keyed→Keyed→Bool) (T Z1 Z2:List Keyed) (n:Nat):Prop where
 len:(Z1++Z2).length=n
 perm:(Z1++Z2).Perm (T.take n)
 dsc:Dsc R (Z1++Z2)
 alike: ∀x∈Z2,∀y∈Z2,R x y=false
 ne:1≤Z2.length
end
section
variable {prog:Program} {w:World} {A:Around} {E:Value→Shared→Prop} {J:Shared→Prop} {κ:SortKind} {U:Keyed→Prop} {R:Keyed→Keyed→Bool}
def Stk (R:Keyed→Keyed→Bool) (l:List Keyed):List (Nat×Nat×Nat)→Nat→Nat→Prop
 | [],s,e=>s=e
 |(p,n,_)::rest,s,e=>p=s∧1≤n∧Srt R (seg l p n)∧Stk R l rest (s+n) e
structure Bt (R:Keyed→Keyed→Bool) (κ:SortKind) (l0:List Keyed) (lo:Nat) (st:SortSt):Prop where
 kind:kindOf st=κ
 failed:failedOf st=none
 perm:(arrOf st).toList.Perm l0
 stk:Stk R (arrOf st).toList (pendingOf st).toList 0 lo
end
section
variable {prog:Program} {w:World} {A:Around} {E:Value→Shared→Prop} {s:Shared} {κ:SortKind} {U:Keyed→Prop} {R:Keyed→Keyed→Bool}
abbrev joT (h h' :Heap):Prop:= ∀b o,h.get? b=some o→h'.get? b=some o
end
end HT
namespace L2
open PySem PySem.Spec PyProof.Rows PySem.SeqAt
structure GB (n:Nat) (h0 h:HD) (R:Addr) (rs:List Addr) (f:Nat→Nat→Bool):Prop where
 at_:h R=some (rs.map D.lst)
 len:rs.length=n
 nR:R ∉ rs
 nd:rs.Nodup
 sb:Sub h0 h
 row: ∀i a,rs[i]? =some a→h0 a=none∧h a=some ((List.range n).map fun j=>D.bl (f i j))
structure LevOk (n t:Nat) (w:List Nat):Prop where
 len:w.length=t+1
 lt: ∀i∈w,i<n
 nd:w.Nodup
 low: ∀i∈w,w.headD 0≤i
end L2
namespace HT
open PySem PySem.Spec PyProof.Rows
section
variable {prog:Program} {w:World} {A:Around} {E:Value→Shared→Prop} {s:Shared} {h0:Heap} {l I S:Addr} {vs:List Value} {lt:Value→Value→Bool}
structure At (h0:Heap) (l I S:Addr) (vs:List Value) (i:Nat) (st:Array Value) (h:Heap):Prop where
 kept:joT h0 h
 it:h.IsListIter I l i
 lst:h.IsList l vs.toArray
 store: ∃c,h.get? S=some (seqObj "list" st c)
end
end HT
namespace HT
open PySem PySem.Spec PyProof.Rows PySem.SeqAt
open PySem.AutoSeq1 (wpAny_loadPart')
open PySem.MeetsSeq PySem.MeetsSeq2 PySem.MeetsSeq3
inductive Lx (prog:Program) (w:World) (A:Around) (s:Shared):List Value→List Value→Bool→Prop
 |nn:Lx prog w A s [] [] false
 |nc (u:Value) (us:List Value):Lx prog w A s [] (u::us) true
 |cn (v:Value) (vs:List Value):Lx prog w A s (v::vs) [] false
 |same {v u:Value} {vs us:List Value} {b:Bool} (e:EqAt A s v u true) (t:Lx prog w A s vs us b):Lx prog w A s (v::vs) (u::us) b
 |unlike {v u:Value} {vs us:List Value} {b:Bool} (e:EqAt A s v u false) (t: ∀ (Q E:Value→Shared→Prop),Q (.bool b) s→wpAny (model prog w) A (richCompare .Lt v u) Q E s):Lx prog w A s (v::vs) (u::us) b
end HT
namespace L2
open PySem PySem.Spec PyProof.Rows PySem.SeqAt HT
open Classical in
noncomputable def readOf (h:Heap) (v:Value):PyData:=if e: ∃p as,p.canLay0=true∧Reads h v p as then e.choose else .none
end L2
namespace L2
open PySem PySem.Spec PyProof.Rows PySem.SeqAt
structure LensE (L:List Nat):Prop where
 rise:L.Pairwise (· < ·)
 lo: ∀l∈L,1≤l
 hi: ∀l∈L,l≤12
 few:L.length≤6
end L2
namespace L2
open PySem PySem.Spec PyProof.Rows
def s5:Nat→Nat
 |0=>0
 |d+1=>5*s5 d+1
theorem jiY: ∀d,4*s5 d+1=5^d
 |0=>rfl
 |d+1=>by have:=jiY d;rw [G1b];show 4*(5*s5 d+1)+1=_;omega
theorem jkI (a:Nat): ∀b,s5 (a+b)=5^b*s5 a+s5 b
 |0=>by show s5 a=1*s5 a+0;omega
 |b+1=>by
  show 5*s5 (a+b)+1=5^(b+1)*s5 a+(5*s5 b+1)
  rw [jkI a b,G1b,G3k,G2r (5^b) 5,G3o];omega
theorem jkJ: ∀d,s5 d%2=d%2
 |0=>rfl
 |d+1=>by have:=jkJ d;show (5*s5 d+1)%2=_;omega
theorem jnR (m:Nat):s5 (2*m)=2*(s5 m*(2*s5 m+1)):=by
 rw [Nat.two_mul,jkI,←jiY m]
 have:(4*s5 m+1)*s5 m+s5 m=2*(s5 m*(2*s5 m+1)):=by
  rw [Nat.add_mul,G3k,G3k]
  have e1:4*s5 m*s5 m=4*(s5 m*s5 m):=G3o ..
  have e2:s5 m*(2*s5 m)=2*(s5 m*s5 m):=by rw [Nat.mul_left_comm]
  rw [e1,e2];omega
 exact this
theorem jkK (k x:Nat):Nat.Coprime (2^k) (2*x+1):=by
 refine Nat.Coprime.pow_left k ?_
 show Nat.gcd 2 (2*x+1)=1
 rw [Nat.gcd_rec,show (2*x+1)%2=1 by omega];rfl
theorem jkL: ∀ (k d:Nat),2^k∣s5 d→2^k∣d
 |0,d,_=>by rw [G2t];exact Nat.one_dvd _
 |k+1,d,h=>by
  have ev:d%2=0:=by
   rw [←jkJ d]
   exact Nat.mod_eq_zero_of_dvd (Nat.dvd_trans ⟨2^k,by rw [G1b,G2r]⟩ h)
  obtain⟨m,rfl⟩: ∃m,d=2*m:=⟨d / 2,by omega⟩
  rw [jnR,G1b,G2r] at h
  have h1:2^k∣s5 m*(2*s5 m+1):=Nat.dvd_of_mul_dvd_mul_left (by decide) h
  have h2:=jkL k m ((jkK k (s5 m)).dvd_of_dvd_mul_right h1)
  rw [G1b,G2r]
  exact Nat.mul_dvd_mul_left 2 h2
def f5 (N:Nat):Nat→Nat→Nat
 |0,a=>a
 |d+1,a=>(f5 N d a*5+1)%N
theorem jnS {N:Nat} (a:Nat): ∀d,f5 N d a%N=(5^d*a+s5 d)%N
 |0=>by show a%N=(1*a+0)%N;rw [Nat.one_mul,G3b]
 |d+1=>by
  show (f5 N d a*5+1)%N%N=(5^(d+1)*a+(5*s5 d+1))%N
  rw [Nat.mod_mod,Nat.add_mod,Nat.mul_mod,jnS a d,←Nat.mul_mod,←Nat.add_mod,Nat.add_mul,G1b]
  congr 1
  have:5^d*a*5=5^d*5*a:=by rw [Nat.mul_right_comm]
  omega
theorem jnT {N:Nat} (hN:0<N) {a:Nat} (ha:a<N): ∀d,f5 N d a<N
 |0=>ha
 |d+1=>G2T _ hN
theorem jkM {N:Nat} (a:Nat) (b:Nat): ∀d,f5 N (b+d) a=f5 N d (f5 N b a)
 |0=>rfl
 |d+1=>by show (f5 N (b+d) a*5+1)%N=_;rw [jkM a b d];rfl
theorem jke {k a d:Nat} (ha:a<2^k) (d0:0<d) (hd:d<2^k):f5 (2^k) d a≠a:=fun e=>by
 have e1:=jnS (N:=2^k) a d
 rw [e] at e1
 have le:a≤5^d*a+s5 d:=G0T (Nat.le_mul_of_pos_left a (Nat.pow_pos (by decide))) (Nat.le_add_right _ _)
 have dv:2^k∣5^d*a+s5 d-a:=Nat.dvd_of_mod_eq_zero (Nat.sub_mod_eq_zero_of_mod_eq e1.symm)
 have e2:5^d*a+s5 d-a=s5 d*(2*(2*a)+1):=by
  rw [←jiY d,Nat.add_mul,G3k]
  have:4*s5 d*a=s5 d*(2*(2*a)):=by
   rw [G2r 4,G3o];congr 1;omega
  omega
 rw [e2] at dv
 have:=Nat.le_of_dvd d0 (jkL k d ((jkK k (2*a)).dvd_of_dvd_mul_right dv))
 omega
theorem jlZ {N:Nat} {a:Nat} {k:Nat} (hN:N=2^k) (ha:a<N): ∀ {i j:Nat},i<j→j<N→f5 N i a≠f5 N j a:=fun {i j} ij jN e=>by
 subst hN
 have:=jkM (N:=2^k) a i (j-i)
 rw [G1t (G0Y ij)] at this
 exact jke (jnT (Nat.pow_pos (by decide)) ha i) (by omega) (by omega) ((this.symm.trans e.symm))
theorem jl0 {N:Nat}: ∀ {xs:List Nat},xs.Nodup→(∀x∈xs,x<N)→N≤xs.length→ ∀e,e<N→e∈xs:=fun {xs} nd lt le e he=>by
 have p:(List.range N).length≤(xs.filter fun x=>decide (x<N)).length:=by
  rw [G0h,List.filter_eq_self.mpr fun x hx=>G0r (lt x hx)];exact le
 refine G1E fun no=> ?_
 have key: ∀ (ys zs:List Nat),ys.Nodup→(∀y∈ys,y∈zs)→ys.length≤zs.length:=by
  intro ys
  induction ys with
  |nil=>intro zs _ _;exact G1D _
  |cons y ys ih=>
   intro zs d s
   obtain⟨d1,d2⟩:=G03.mp d
   have hy:=s y G0D
   have:=ih (zs.erase y) d2 fun x hx=>(G1Z (show x≠y from fun q=>d1 (by rw [←q];exact hx))).mpr (s x (G0y _ hx))
   rw [G1J hy] at this
   have:0<zs.length:=G1N hy
   rw [G0e];omega
 have:=key (e::xs) (List.range N) (G03.mpr ⟨no,nd⟩) fun y hy=>by
  rcases G0v.mp hy with q|q
  ·rw [q];exact G0q.mpr he
  ·exact G0q.mpr (lt y q)
 rw [G0e,G0h] at this
 omega
theorem jkN {N k a e:Nat} (hN:N=2^k) (ha:a<N) (he:e<N): ∃m,m<N∧f5 N m a=e:=by
 have nd:((List.range N).map fun m=>f5 N m a).Nodup:=by
  rw [List.Nodup,G1a]
  refine G0W.mpr fun i j hi hj ij=> ?_
  rw [G1e,G1e]
  rw [G0h] at hj
  exact jlZ hN ha ij hj
 have:=jl0 nd (fun x hx=>by
  obtain⟨m,_,rfl⟩:=G0M.mp hx
  exact jnT (by rw [hN];exact Nat.pow_pos (by decide)) ha m) (by rw [G0a,G0h];exact G0d _) e he
 obtain⟨m,hm,e⟩:=G0M.mp this
 exact⟨m,G0q.mp hm,e⟩
def jbh (t:SetTable):Nat→SetTable.Probe→SetTable.Probe
 |0,p=>p
 |n+1,p=>jbh t n (t.advance p)
theorem jdh (t:SetTable): ∀ (a b:Nat) (p:SetTable.Probe),jbh t (a+b) p=jbh t b (jbh t a p)
 |0,b,p=>by rw [G2L];rfl
 |a+1,b,p=>by rw [Nat.add_right_comm];exact jdh t a b _
def jgT (t:SetTable) (i q:Nat) (d:Option Nat):SetTable.Probe:= {j:=i,more:=SetTable.runEnd t.mask i-i,i:=i,perturb:=q,dummy:=d}
theorem jc5 (t:SetTable): ∀ (m:Nat) (p:SetTable.Probe),p.more=m→jbh t (m+1) p=jgT t ((p.i*5+1+p.perturb / 32)%(t.mask+1)) (p.perturb / 32) p.dummy
 |0,p,e=>by
  show t.advance p=_
  unfold SetTable.advance
  rw [if_neg (by omega)]
  rfl
 |m+1,p,e=>by
  have a:t.advance p= {p with j:=p.j+1,more:=p.more-1}:=by unfold SetTable.advance;rw [if_pos (by omega)]
  show jbh t (m+1) (t.advance p)=_
  rw [a,jc5 t m _ (by show p.more-1=m;omega)]
theorem jiZ (mask i:Nat):SetTable.runEnd mask i-i≤9:=by unfold SetTable.runEnd;split<;>omega
def jfF (N:Nat) (b:Nat):Nat→Nat
 |0=>b%N
 |L+1=>(jfF N b L*5+1+b / 32^(L+1))%N
theorem ji0 (t:SetTable) (h:Int): ∀L,∃n,n≤10*L∧jbh t n (t.probeStart h)=jgT t (jfF (t.mask+1) (SetTable.bits h) L) (SetTable.bits h / 32^L) none
 |0=>⟨0,G0d _,by rw [G2t,G3l];rfl⟩
 |L+1=>by
  obtain⟨n,hn,e⟩:=ji0 t h L
  have s:=jiZ t.mask (jfF (t.mask+1) (SetTable.bits h) L)
  refine⟨n+(SetTable.runEnd t.mask (jfF (t.mask+1) (SetTable.bits h) L)-jfF (t.mask+1) (SetTable.bits h) L+1),by omega,?_⟩
  rw [jdh,e]
  refine(jc5 t _ (jgT t _ _ none) rfl).trans ?_
  show jgT t ((jfF (t.mask+1) (SetTable.bits h) L*5+1+SetTable.bits h / 32^L / 32)%(t.mask+1)) (SetTable.bits h / 32^L / 32) none=_
  rw [G1O,←G1b];rfl
theorem jl1 (h:Int):SetTable.bits h<2^64:=by unfold SetTable.bits;omega
theorem jfs {N:Nat} (h:Int): ∀m,jfF N (SetTable.bits h) (13+m)=f5 N m (jfF N (SetTable.bits h) 13)
 |0=>rfl
 |m+1=>by
  show (jfF N (SetTable.bits h) (13+m)*5+1+SetTable.bits h / 32^(13+m+1))%N=(f5 N m (jfF N (SetTable.bits h) 13)*5+1)%N
  rw [jfs h m,Nat.div_eq_of_lt (G0C (jl1 h) ?_),G3b]
  exact G0T (show 2^64≤32^13 by decide) (G2x (by decide) (by omega))
theorem jkf {t:SetTable} {k:Nat} (hN:t.mask+1=2^k) (h:Int) {e:Nat} (he:e≤t.mask): ∃n,n<10*SetTable.turns t.mask∧(jbh t n (t.probeStart h)).j=e:=by
 obtain⟨m,hm,em⟩:=jkN hN (a:=jfF (t.mask+1) (SetTable.bits h) 13) (G2T _ (G2u _)) (show e<t.mask+1 by omega)
 obtain⟨n,hn,en⟩:=ji0 t h (13+m)
 refine⟨n,by unfold SetTable.turns;omega,?_⟩
 rw [en,←em,←jfs h m];rfl
theorem ji1 {P:Nat→Prop}: ∀n,P n→ ∃m,m≤n∧P m∧ ∀k,k<m→ ¬P k:=fun n=>by
 induction n using Nat.strongRecOn with
 |ind n ih=>
  intro h
  rcases Classical.em (∃k,k<n∧P k) with ⟨k,lt,pk⟩|no
  ·obtain⟨m,a,b,c⟩:=ih k lt pk
   exact⟨m,by omega,b,c⟩
  ·exact⟨n,G0d _,h,fun k lt pk=>no ⟨k,lt,pk⟩⟩
theorem jkO {t:SetTable} {f:Nat→Int} {h:Int} (d:t.dummies= #[]): ∀ (n fuel:Nat) (p:SetTable.Probe),n<fuel→t.slot (jbh t n p).j= .empty→(∀k,k<n→t.slot (jbh t k p).j≠ .empty)→p.dummy=none→
 (SetTable.probe.go t f h fuel p=some (.empty (jbh t n p).j none)∧ ∀k,k<n→ ∀i,t.slot (jbh t k p).j= .live i→f i≠h)∨
 (∃k i,k<n∧t.slot (jbh t k p).j= .live i∧f i=h∧(∀k',k' <k→ ∀i',t.slot (jbh t k' p).j= .live i' →f i' ≠h)∧SetTable.probe.go t f h fuel p=some (.candidate (jbh t k p).j i (jbh t (k+1) p)))
 |_,0,_,lt,_,_,_=>absurd lt (G1U _)
 |0,fuel+1,p,_,he,_,hd=>by
  refine .inl ⟨?_,fun k hk=>absurd hk (G1U _)⟩
  have he:t.slot p.j= .empty:=he
  unfold SetTable.probe.go
  rw [he,hd];rfl
 |n+1,fuel+1,p,lt,he,ne,hd=>by
  have h0:t.slot p.j≠ .empty:=ne 0 (G2u _)
  cases hs:t.slot p.j with
  |empty=>exact absurd hs h0
  |dummy=>exact absurd hs (HT.jeU d)
  |live i=>
   by_cases e:f i=h
   ·refine .inr ⟨0,i,G2u _,hs,e,fun k' hk=>absurd hk (G1U _),?_⟩
    unfold SetTable.probe.go
    rw [hs]
    show (if (f i==h)=true then _ else _)=_
    rw [if_pos (by rw [e];exact G1y h)];rfl
   ·have ad:(t.advance p).dummy=none:=by unfold SetTable.advance;split<;>exact hd
    have step:SetTable.probe.go t f h (fuel+1) p=SetTable.probe.go t f h fuel (t.advance p):=by
     conv=>lhs;unfold SetTable.probe.go
     rw [hs]
     show (if (f i==h)=true then _ else _)=_
     rw [if_neg (by simpa using e)]
    rcases jkO d n fuel (t.advance p) (by omega) he (fun k hk=>ne (k+1) (by omega)) ad with ⟨a,b⟩|⟨k,i',hk,a,b,c,g⟩
    ·refine .inl ⟨by rw [step];exact a,fun k hk i2 hi=> ?_⟩
     cases k with
     |zero=>rw [show t.slot (jbh t 0 p).j= .live i from hs] at hi;cases hi;exact e
     |succ k=>exact b k (by omega) i2 hi
    ·refine .inr ⟨k+1,i',by omega,a,b,fun k' hk' i2 hi=> ?_,by rw [step];exact g⟩
     cases k' with
     |zero=>rw [show t.slot (jbh t 0 p).j= .live i from hs] at hi;cases hi;exact e
     |succ k' =>exact c k' (by omega) i2 hi
theorem jgU {t:SetTable} {k:Nat} (hN:t.mask+1=2^k) (h:Int) {e:Nat} (he:e≤t.mask) (em:t.slot e= .empty): ∃n,n<10*SetTable.turns t.mask∧t.slot (jbh t n (t.probeStart h)).j= .empty∧ ∀m,m<n→t.slot (jbh t m (t.probeStart h)).j≠ .empty:=by
 obtain⟨n,hn,ej⟩:=jkf hN h he
 obtain⟨m,a,b,c⟩:=ji1 (P:=fun n=>t.slot (jbh t n (t.probeStart h)).j= .empty) n (by rw [ej];exact em)
 exact⟨m,by omega,b,c⟩
theorem ji2 {t:SetTable} (r:t.place.toList.Pairwise (· < ·)) {i j:Nat} (h:t.place[i]? =some j):t.slot j= .live i:=by
 obtain⟨lo,hi,_⟩:=HT.jfp r j
 have e:SetTable.below t.place j=i:=by
  rcases G2o (SetTable.below t.place j) i with z|z|z
  ·obtain⟨hlt,ev⟩:=G0L.mp h
   have hb:SetTable.below t.place j<t.place.size:=by omega
   have a:=hi (SetTable.below t.place j) (G0d _) t.place[SetTable.below t.place j] (G1o hb)
   have b:=G0W.mp r (SetTable.below t.place j) i (by simpa using hb) (by simpa using hlt) z
   simp only [G2z] at b
   omega
  ·exact z
  ·exact absurd (lo i z j h) (G0R _)
 unfold SetTable.slot
 dsimp only
 rw [e,h,if_pos (G1y _)]
theorem ji3 {t:SetTable} {i j:Nat} (h:t.slot j= .live i):t.place[i]? =some j:=by
 unfold SetTable.slot at h
 dsimp only at h
 split at h
 ·rename_i c
  injection h with h
  subst h
  exact eq_of_beq c
 ·split at h<;>cases h
theorem jdi {t:SetTable} (d:t.dummies= #[]) (r:t.place.toList.Pairwise (· < ·)) {j:Nat}:t.slot j= .empty↔ ∀i:Nat,t.place[i]? ≠some j:=by
 constructor
 ·intro h i e
  rw [ji2 r e] at h;cases h
 ·intro h
  cases e:t.slot j with
  |empty=>rfl
  |dummy=>exact absurd e (HT.jeU d)
  |live i=>exact absurd (ji3 e) (h i)
theorem jkg {t u:SetTable} (e:t.mask=u.mask) (p:SetTable.Probe):t.advance p=u.advance p:=by
 unfold SetTable.advance
 rw [e]
theorem jcE {t u:SetTable} (e:t.mask=u.mask): ∀ (n:Nat) (p:SetTable.Probe),jbh t n p=jbh u n p
 |0,_=>rfl
 |n+1,p=>by show jbh t n (t.advance p)=jbh u n (u.advance p);rw [jkg e,jcE e n]
theorem jcP {t u:SetTable} (e:t.mask=u.mask) (h:Int):t.probeStart h=u.probeStart h:=by
 unfold SetTable.probeStart
 rw [e]
def Way (t:SetTable) (h:Int) (j:Nat):Prop:= ∃n,(jbh t n (t.probeStart h)).j=j∧ ∀m,m<n→t.slot (jbh t m (t.probeStart h)).j≠ .empty
theorem Way.more {t u:SetTable} (e:t.mask=u.mask) (f: ∀j,u.slot j= .empty→t.slot j= .empty) {h:Int} {j:Nat} (w:Way t h j):Way u h j:=by
 obtain⟨n,a,b⟩:=w
 refine⟨n,by rw [←jcP e,←jcE e];exact a,fun m hm z=>b m hm ?_⟩
 rw [←jcP e,←jcE e] at z
 exact f _ z
theorem jkP {α:Type} (xs:List α) (x:α) {p:Nat} (hp:p≤xs.length) (i:Nat):(xs.take p++x::xs.drop p)[i]? =if i<p then xs[i]? else if i=p then some x else xs[i-1]? :=by
 have tl:(xs.take p).length=p:=by rw [G05];omega
 by_cases a:i<p
 ·rw [if_pos a,G1C (by omega),List.getElem?_take,if_pos a]
 ·rw [if_neg a,G1Y (by omega),tl]
  by_cases b:i=p
  ·rw [if_pos b,b,Nat.sub_self];rfl
  ·rw [if_neg b,show i-p=(i-p-1)+1 by omega,G0l,G2M]
   congr 1;omega
structure Laid (t:SetTable) (hs:List Int):Prop where
 pow: ∃k,t.mask+1=2^k
 big:7≤t.mask
 dum:t.dummies= #[]
 rise:t.place.toList.Pairwise (· < ·)
 size:t.place.size=hs.length
 room:hs.length≤t.mask
 low: ∀ (i j:Nat),t.place[i]? =some j→j≤t.mask
 way: ∀ (i:Nat) (h:Int) (j:Nat),hs[i]? =some h→t.place[i]? =some j→Way t h j
theorem Laid.free {t:SetTable} {hs:List Int} (l:Laid t hs): ∃e,e≤t.mask∧t.slot e= .empty:=by
 refine G1E fun no=> ?_
 have nd:t.place.toList.Nodup:=l.rise.imp fun {a b} z=>G0I z
 have all: ∀e,e<t.mask+1→e∈t.place.toList:=fun e he=>by
  refine G1E fun z=>no ⟨e,by omega,(jdi l.dum l.rise).mpr fun i q=>z ?_⟩
  exact Array.mem_toList_iff.mpr (Array.mem_of_getElem? q)
 have key: ∀ (ys zs:List Nat),ys.Nodup→(∀y∈ys,y∈zs)→ys.length≤zs.length:=by
  intro ys
  induction ys with
  |nil=>intro zs _ _;exact G1D _
  |cons y ys ih=>
   intro zs d s
   obtain⟨d1,d2⟩:=G03.mp d
   have hy:=s y G0D
   have:=ih (zs.erase y) d2 fun x hx=>(G1Z (show x≠y from fun q=>d1 (by rw [←q];exact hx))).mpr (s x (G0y _ hx))
   rw [G1J hy] at this
   have:0<zs.length:=G1N hy
   rw [G0e];omega
 have:=key (List.range (t.mask+1)) t.place.toList G2v fun y hy=>all y (G0q.mp hy)
 rw [G0h,G0j,l.size] at this
 have:=l.room
 omega
theorem Laid.search {t:SetTable} {hs:List Int} (l:Laid t hs) (h:Int): ∃n,n<10*SetTable.turns t.mask∧t.slot (jbh t n (t.probeStart h)).j= .empty∧(∀m,m<n→t.slot (jbh t m (t.probeStart h)).j≠ .empty)∧ ∀i:Nat,hs[i]? =some h→ ∃m,m<n∧t.slot (jbh t m (t.probeStart h)).j= .live i:=by
 obtain⟨k,hk⟩:=l.pow
 obtain⟨e,he,em⟩:=l.free
 obtain⟨n,a,b,c⟩:=jgU hk h he em
 refine⟨n,a,b,c,fun i hi=> ?_⟩
 obtain⟨j,hj⟩: ∃j,t.place[i]? =some j:=⟨t.place[i]'(by rw [l.size];exact(G0t.mp hi).1),G1o _⟩
 obtain⟨m,x,y⟩:=l.way i h j hi hj
 have lv:t.slot (jbh t m (t.probeStart h)).j= .live i:=by rw [x];exact ji2 l.rise hj
 refine⟨m,?_,lv⟩
 rcases G2o m n with z|z|z
 ·exact z
 ·rw [z,b] at lv;cases lv
 ·exact absurd b (y n z)
theorem ji4 (t:SetTable) (j:Nat):(t.put j).1.place.toList=t.place.toList.take (SetTable.below t.place j)++j::t.place.toList.drop (SetTable.below t.place j):=G16 ..
theorem ji5 {t:SetTable} (d:t.dummies= #[]) (j:Nat):(t.put j).1.dummies= #[]:=by
 show (if SetTable.has t.dummies j then _ else t.dummies)= #[]
 rw [d,if_neg (by simp [SetTable.has])]
theorem Laid.put {t:SetTable} {hs:List Int} (l:Laid t hs) {h:Int} {j:Nat} (em:t.slot j= .empty) (jm:j≤t.mask) (w:Way t h j) (room:hs.length+1≤t.mask):Laid (t.put j).1 (hs.take (t.put j).2++h::hs.drop (t.put j).2):=by
 have pe:(t.put j).2=SetTable.below t.place j:=rfl
 have me:t.mask=(t.put j).1.mask:=rfl
 have pl:=ji4 t j
 have hp:SetTable.below t.place j≤t.place.size:=(HT.jfp l.rise j).2.2
 have hp1:SetTable.below t.place j≤t.place.toList.length:=by rw [G0j];exact hp
 have hp2:SetTable.below t.place j≤hs.length:=by rw [←l.size];exact hp
 have rise:(t.put j).1.place.toList.Pairwise (· < ·):=HT.jgQ l.rise (HT.jhM em)
 have at1: ∀i:Nat,(t.put j).1.place[i]? =if i<SetTable.below t.place j then t.place[i]? else if i=SetTable.below t.place j then some j else t.place[i-1]? :=fun i=>by
  have:=jkP t.place.toList j hp1 i
  rw [←pl] at this
  simpa using this
 have sl: ∀x,(t.put j).1.slot x= .empty→t.slot x= .empty:=fun x hx=>by
  rw [jdi (ji5 l.dum j) rise] at hx
  rw [jdi l.dum l.rise]
  intro i e
  by_cases c:i<SetTable.below t.place j
  ·exact hx i (by rw [at1,if_pos c];exact e)
  ·exact hx (i+1) (by rw [at1,if_neg (by omega),if_neg (by omega)];exact e)
 rw [pe]
 refine⟨l.pow,l.big,ji5 l.dum j,rise,?_,?_,fun i x hx=> ?_,fun i g x hg hx=> ?_⟩
 ·rw [←G0j,pl]
  simp only [G1d,G0e,G05,G1x,G0j]
  have:=l.size
  omega
 ·show _≤t.mask
  simp only [G1d,G0e,G05,G1x]
  omega
 ·rw [at1] at hx
  split at hx
  ·exact l.low _ _ hx
  ·split at hx
   ·injection hx with hx;subst hx;exact jm
   ·exact l.low _ _ hx
 ·rw [at1] at hx
  rw [jkP hs h hp2] at hg
  by_cases c:i<SetTable.below t.place j
  ·rw [if_pos c] at hg hx
   exact(l.way i g x hg hx).more me sl
  ·rw [if_neg c] at hg hx
   by_cases b:i=SetTable.below t.place j
   ·rw [if_pos b] at hg hx
    injection hg with hg;injection hx with hx
    subst hg hx
    exact w.more me sl
   ·rw [if_neg b] at hg hx
    exact(l.way (i-1) g x hg hx).more me sl
theorem jhN (a b:Nat) (led:Bool):Laid (.fresh a b led) []:=⟨⟨3,rfl⟩,G0d 7,rfl,List.Pairwise.nil,rfl,G1D _,fun i j h=>by simp [SetTable.fresh] at h,fun i h j e=>by simp at e⟩
theorem jkQ (t:SetTable): ∀ (k i q m j:Nat) (d:Option Nat),k≤m→jbh t k ⟨j,m,i,q,d⟩=⟨j+k,m-k,i,q,d⟩
 |0,i,q,m,j,d,_=>rfl
 |k+1,i,q,m,j,d,h=>by
  have a:t.advance ⟨j,m,i,q,d⟩=⟨j+1,m-1,i,q,d⟩:=by unfold SetTable.advance;rw [if_pos (show m>0 by omega)]
  show jbh t k (t.advance ⟨j,m,i,q,d⟩)=_
  rw [a,jkQ t k i q (m-1) (j+1) d (by omega)]
  congr 1<;>omega
def joU (t:SetTable) (E:Nat→Bool) (h:Int) (j:Nat):Prop:= ∃n,(jbh t n (t.probeStart h)).j=j∧ ∀m,m<n→E (jbh t m (t.probeStart h)).j=false
theorem jhm {t:SetTable} {owner:Array (Option Nat)} {h:Int}: ∀ (fuel L n:Nat) {j:Nat},jbh t n (t.probeStart h)=jgT t (jfF (t.mask+1) (SetTable.bits h) L) (SetTable.bits h / 32^L) none→(∀m,m<n→(owner.getD (jbh t m (t.probeStart h)).j (some 0)).isNone=false)→
 SetTable.layClean.free t.mask owner fuel (jfF (t.mask+1) (SetTable.bits h) L) (SetTable.bits h / 32^L)=some j→(owner.getD j (some 0)).isNone=true∧joU t (fun x=>(owner.getD x (some 0)).isNone) h j
 |0,_,_,_,_,_,e=>by cases e
 |fuel+1,L,n,j,hn,ne,e=>by
  unfold SetTable.layClean.free at e
  generalize hI:jfF (t.mask+1) (SetTable.bits h) L=I at hn e
  have run: ∀k,k≤SetTable.runEnd t.mask I-I→(jbh t (n+k) (t.probeStart h)).j=I+k:=fun k hk=>by
   rw [jdh,hn]
   exact congrArg SetTable.Probe.j (jkQ t k I _ _ I none hk)
  have re:I≤SetTable.runEnd t.mask I:=by unfold SetTable.runEnd;split<;>omega
  split at e
  ·rename_i k hk
   injection e with e
   subst e
   obtain⟨a,b,c⟩:=List.find?_range_eq_some.mp hk
   have kl:=G0q.mp b
   refine⟨a,n+k,run k (by omega),fun m hm=> ?_⟩
   rcases G1A m n with z|z
   ·exact ne m z
   ·have:=c (m-n) (by omega)
    have r:=run (m-n) (by omega)
    rw [G1t z] at r
    show (owner.getD (jbh t m (t.probeStart h)).j (some 0)).isNone=false
    rw [r];simpa using this
  ·rename_i hk
   have none:=List.find?_eq_none.mp hk
   have nx:=jc5 t _ (jgT t I (SetTable.bits h / 32^L) .none) rfl
   refine jhm fuel (L+1) (n+(SetTable.runEnd t.mask I-I+1)) (j:=j) ?_ (fun m hm=> ?_) ?_
   ·rw [jdh,hn]
    refine nx.trans ?_
    show jgT t ((I*5+1+SetTable.bits h / 32^L / 32)%(t.mask+1)) (SetTable.bits h / 32^L / 32) .none=_
    rw [G1O,←G1b,←hI];rfl
   ·rcases G1A m n with z|z
    ·exact ne m z
    ·have:=none (m-n) (G0q.mpr (by omega))
     have r:=run (m-n) (by omega)
     rw [G1t z] at r
     rw [r];exact Bool.eq_false_iff.mpr this
   ·rw [show SetTable.leap t.mask I (SetTable.bits h / 32^L)=((I*5+1+SetTable.bits h / 32^L / 32)%(t.mask+1),SetTable.bits h / 32^L / 32) from rfl] at e
    dsimp only at e
    rw [G1O,←G1b,←hI] at e
    exact e
theorem ji6 {t:SetTable} {owner:Array (Option Nat)} {h:Int} {k:Nat} (hN:t.mask+1=2^k) {e:Nat} (he:e≤t.mask) (em:(owner.getD e (some 0)).isNone=true): ∃j,SetTable.layClean.free t.mask owner (SetTable.turns t.mask) (SetTable.bits h%(t.mask+1)) (SetTable.bits h)=some j:=by
 obtain⟨m,hm,e1⟩:=jkN hN (a:=jfF (t.mask+1) (SetTable.bits h) 13) (G2T _ (G2u _)) (show e<t.mask+1 by omega)
 rw [←jfs h m] at e1
 have go: ∀ (fuel L:Nat),(∃L',L≤L' ∧L' <L+fuel∧jfF (t.mask+1) (SetTable.bits h) L' =e)→ ∃j,SetTable.layClean.free t.mask owner fuel (jfF (t.mask+1) (SetTable.bits h) L) (SetTable.bits h / 32^L)=some j:=by
  intro fuel
  induction fuel with
  |zero=>rintro L ⟨L',a,b,_⟩;omega
  |succ fuel ih=>
   rintro L ⟨L',a,b,c⟩
   unfold SetTable.layClean.free
   generalize hI:jfF (t.mask+1) (SetTable.bits h) L=I
   split
   ·rename_i k hk;exact⟨_,rfl⟩
   ·rename_i hk
    have none:=List.find?_eq_none.mp hk
    have ne:I≠e:=fun z=>by
     have re:I≤SetTable.runEnd t.mask I:=by unfold SetTable.runEnd;split<;>omega
     have:=none 0 (G0q.mpr (by omega))
     rw [G3b,z] at this
     exact this em
    have lt:L+1≤L' :=by
     rcases G1A L L' with z|z
     ·exact z
     ·have:L=L' :=by omega
      subst this
      exact absurd (hI.symm.trans c) ne
    obtain⟨j,hj⟩:=ih (L+1) ⟨L',lt,by omega,c⟩
    refine⟨j,?_⟩
    rw [show SetTable.leap t.mask I (SetTable.bits h / 32^L)=((I*5+1+SetTable.bits h / 32^L / 32)%(t.mask+1),SetTable.bits h / 32^L / 32) from rfl]
    dsimp only
    rw [G1O,←G1b,←hI]
    exact hj
 have:=go (SetTable.turns t.mask) 0 ⟨13+m,Nat.zero_le _,by unfold SetTable.turns;omega,e1⟩
 rw [G2t,G3l] at this
 exact this
def emO (owner:Array (Option Nat)) (x:Nat):Bool:=(owner.getD x (some 0)).isNone
theorem emO_iff {owner:Array (Option Nat)} {x:Nat}:emO owner x=true↔owner[x]? =some none:=by
 unfold emO
 rw [G1V]
 cases owner[x]? with
 |none=>simp
 |some o=>cases o<;>simp
structure Own (t:SetTable) (hs:List Int) (owner:Array (Option Nat)) (k:Nat):Prop where
 size:owner.size=t.mask+1
 lt: ∀x i:Nat,owner[x]? =some (some i)→i<k
 inj: ∀x y i:Nat,owner[x]? =some (some i)→owner[y]? =some (some i)→x=y
 all: ∀i,i<k→ ∃x:Nat,owner[x]? =some (some i)
 way: ∀ (x i:Nat) (h:Int),owner[x]? =some (some i)→hs[i]? =some h→joU t (emO owner) h x
theorem Own.free {t:SetTable} {hs:List Int} {owner:Array (Option Nat)} {k:Nat} (o:Own t hs owner k) (room:k≤t.mask): ∃e,e≤t.mask∧emO owner e=true:=by
 refine G1E fun no=> ?_
 have got: ∀x,x<t.mask+1→ ∃i,owner[x]? =some (some i):=fun x hx=>by
  have hs' :x<owner.size:=by rw [o.size];exact hx
  cases e:owner[x]? with
  |none=>rw [G1w] at e;omega
  |some v=>
   cases v with
   |none=>exact absurd ⟨x,by omega,emO_iff.mpr e⟩ no
   |some i=>exact⟨i,rfl⟩
 have gi: ∀x,x<t.mask+1→owner[x]? =some (some (((owner[x]?).getD none).getD 0)):=fun x hx=>by
  obtain⟨i,e⟩:=got x hx
  rw [e];rfl
 have nd:((List.range (t.mask+1)).map fun x=>((owner[x]?).getD none).getD 0).Nodup:=by
  rw [List.Nodup,G1a]
  refine G0W.mpr fun a b ha hb ab e=> ?_
  rw [G1e,G1e] at e
  rw [G0h] at ha hb
  have x1:=gi a ha
  have x2:=gi b hb
  rw [e] at x1
  have:=o.inj a b _ x1 x2
  omega
 have:=jd6 (m:=List.range k) nd fun y hy=>by
  obtain⟨x,hx,rfl⟩:=G0M.mp hy
  exact G0q.mpr (o.lt x _ (gi x (G0q.mp hx)))
 rw [G0a,G0h,G0h] at this
 omega
theorem Own.step {t:SetTable} {hs:List Int} {owner:Array (Option Nat)} {k n:Nat} {h:Int} (hN:t.mask+1=2^n) (o:Own t hs owner k) (room:k≤t.mask) (hk:hs[k]? =some h): ∃j,SetTable.layClean.free t.mask owner (SetTable.turns t.mask) (SetTable.bits h%(t.mask+1)) (SetTable.bits h)=some j∧Own t hs (owner.setIfInBounds j (some k)) (k+1):=by
 obtain⟨e,he,em⟩:=o.free room
 obtain⟨j,hj⟩:=ji6 (h:=h) hN he em
 have w:=jhm (t:=t) (owner:=owner) (h:=h) (SetTable.turns t.mask) 0 0 (j:=j) (by rw [G2t,G3l];rfl) (fun m hm=>absurd hm (G1U _)) (by rw [G2t,G3l];exact hj)
 have jn:owner[j]? =some none:=emO_iff.mp w.1
 have js:j<owner.size:=(G0L.mp jn).1
 have at1: ∀x:Nat,(owner.setIfInBounds j (some k))[x]? =if j=x then some (some k) else owner[x]? :=fun x=>by
  rw [Array.getElem?_setIfInBounds]
  by_cases c:j=x
  ·rw [if_pos c,if_pos c,if_pos js]
  ·rw [if_neg c,if_neg c]
 have old: ∀x i:Nat,(owner.setIfInBounds j (some k))[x]? =some (some i)→(x=j∧i=k)∨(x≠j∧owner[x]? =some (some i)):=fun x i hx=>by
  rw [at1] at hx
  split at hx
  ·rename_i c;injection hx with hx;injection hx with hx;exact .inl ⟨c.symm,hx.symm⟩
  ·rename_i c;exact .inr ⟨Ne.symm c,hx⟩
 have emm: ∀x,emO owner x=false→emO (owner.setIfInBounds j (some k)) x=false:=fun x hx=>by
  refine Bool.eq_false_iff.mpr fun z=> ?_
  rw [emO_iff,at1] at z
  split at z
  ·cases z
  ·rw [emO_iff.mpr z] at hx;cases hx
 refine⟨j,hj,by rw [Array.size_setIfInBounds];exact o.size,fun x i hx=> ?_,fun x y i hx hy=> ?_,fun i hi=> ?_,fun x i g hx hg=> ?_⟩
 ·rcases old x i hx with ⟨_,e⟩|⟨_,e⟩
  ·omega
  ·have:=o.lt x i e;omega
 ·rcases old x i hx with ⟨a,b⟩|⟨a,b⟩<;>rcases old y i hy with ⟨c,d⟩|⟨c,d⟩
  ·rw [a,c]
  ·have:=o.lt y i d;omega
  ·have:=o.lt x i b;omega
  ·exact o.inj x y i b d
 ·by_cases c:i=k
  ·exact⟨j,by rw [at1,if_pos rfl,c]⟩
  ·obtain⟨x,hx⟩:=o.all i (by omega)
   have ne: ¬j=x:=fun z=>by rw [←z,jn] at hx;cases hx
   exact⟨x,by rw [at1,if_neg ne];exact hx⟩
 ·rcases old x i hx with ⟨a,b⟩|⟨a,b⟩
  ·rw [b,hk] at hg
   injection hg with hg
   rw [a,←hg]
   obtain⟨m,p,q⟩:=w.2
   exact⟨m,p,fun m' hm=>emm _ (q m' hm)⟩
  ·obtain⟨m,p,q⟩:=o.way x i g b hg
   exact⟨m,p,fun m' hm=>emm _ (q m' hm)⟩
theorem jkh (t:SetTable) (hs:List Int):Own t hs (Array.replicate (t.mask+1) none) 0:=by
 have no: ∀x i:Nat,(Array.replicate (t.mask+1) (none:Option Nat))[x]? ≠some (some i):=fun x i e=>by
  rw [Array.getElem?_replicate] at e
  split at e<;>cases e
 exact⟨Array.size_replicate,fun x i e=>absurd e (no x i),fun x y i e=>absurd e (no x i),fun i hi=>absurd hi (G1U _),fun x i h e=>absurd e (no x i)⟩
theorem jhn {t:SetTable} {hs:List Int} {n:Nat} (hN:t.mask+1=2^n) (room:hs.length≤t.mask) {F:Option (Array (Option Nat)×Nat)→Int→Option (Array (Option Nat)×Nat)}
 (hF: ∀owner k h j,SetTable.layClean.free t.mask owner (SetTable.turns t.mask) (SetTable.bits h%(t.mask+1)) (SetTable.bits h)=some j→F (some (owner,k)) h=some (owner.setIfInBounds j (some k),k+1)): ∀ (rest:List Int) (k:Nat) (owner:Array (Option Nat)),Own t hs owner k→k≤hs.length→hs.drop k=rest→ ∃owner',rest.foldl F (some (owner,k))=some (owner',hs.length)∧Own t hs owner' hs.length
 | [],k,owner,o,kl,e=>by
  have:k=hs.length:=by have:=List.drop_eq_nil_iff.mp e;omega
  subst this
  exact⟨owner,rfl,o⟩
 |h::rest,k,owner,o,kl,e=>by
  have hk:hs[k]? =some h:=by
   have:(hs.drop k)[0]? =some h:=by rw [e];rfl
   rwa [G2M,G3b] at this
  have lt:k<hs.length:=(G0t.mp hk).1
  obtain⟨j,hj,o'⟩:=o.step hN (by omega) hk
  have e2:hs.drop (k+1)=rest:=by rw [←List.tail_drop,e];rfl
  obtain⟨owner',a,b⟩:=jhn hN room hF rest (k+1) _ o' lt e2
  exact⟨owner',by rw [List.foldl_cons,hF _ _ _ _ hj];exact a,b⟩
theorem jki {t:SetTable} {hs:List Int} {n:Nat} (hN:t.mask+1=2^n) (room:hs.length≤t.mask) {F:Option (Array (Option Nat)×Nat)→Int→Option (Array (Option Nat)×Nat)}
 (hF: ∀owner k h j,SetTable.layClean.free t.mask owner (SetTable.turns t.mask) (SetTable.bits h%(t.mask+1)) (SetTable.bits h)=some j→F (some (owner,k)) h=some (owner.setIfInBounds j (some k),k+1)): ∃owner,(hs.foldl F (some (Array.replicate (t.mask+1) none,0))).map (·.1)=some owner∧Own t hs owner hs.length:=by
 obtain⟨owner,a,b⟩:=jhn hN room hF hs 0 _ (jkh t hs) (G1D _) rfl
 exact⟨owner,by rw [a];rfl,b⟩
theorem jl2 {t:SetTable} {hashes:Array Int} {n:Nat} (hN:t.mask+1=2^n) (room:hashes.size≤t.mask): ∃owner,SetTable.layClean t.mask hashes=some owner∧Own t hashes.toList owner hashes.toList.length:=by
 unfold SetTable.layClean
 rw [←Array.foldl_toList]
 refine jki hN (by rw [G0j];exact room) fun owner k h j hj=> ?_
 show (SetTable.layClean.free t.mask owner _ _ _).bind _=_
 rw [hj];rfl
theorem jgV {t:SetTable}: ∀ (n:Nat) (p:SetTable.Probe),p.j+p.more≤t.mask→(jbh t n p).j≤t.mask
 |0,p,h=>by show p.j≤t.mask;omega
 |n+1,p,h=>by
  refine jgV n (t.advance p) ?_
  unfold SetTable.advance
  split
  ·show p.j+1+(p.more-1)≤t.mask;omega
  ·have:(p.i*5+1+p.perturb / 32)%(t.mask+1)<t.mask+1:=G2T _ (G2u _)
   show (p.i*5+1+p.perturb / 32)%(t.mask+1)+(SetTable.runEnd t.mask ((p.i*5+1+p.perturb / 32)%(t.mask+1))-(p.i*5+1+p.perturb / 32)%(t.mask+1))≤t.mask
   unfold SetTable.runEnd
   split<;>omega
theorem jgk (t:SetTable) (h:Int):(t.probeStart h).j+(t.probeStart h).more≤t.mask:=by
 have:SetTable.bits h%(t.mask+1)<t.mask+1:=G2T _ (G2u _)
 show SetTable.bits h%(t.mask+1)+(SetTable.runEnd t.mask (SetTable.bits h%(t.mask+1))-SetTable.bits h%(t.mask+1))≤t.mask
 unfold SetTable.runEnd
 split<;>omega
theorem jnU {T0 T' :SetTable} {E:Nat→Bool} {h:Int} {j:Nat} (em:T0.mask=T'.mask) (f: ∀y,y≤T0.mask→E y=false→T'.slot y≠ .empty) (w:joU T0 E h j):Way T' h j:=by
 obtain⟨n,a,b⟩:=w
 refine⟨n,by rw [←jcP em,←jcE em];exact a,fun m hm=> ?_⟩
 rw [←jcP em,←jcE em]
 exact f _ (jgV m _ (jgk T0 h)) (b m hm)
theorem jl3 {mask finger moves n:Nat} {led plain:Bool} {hashes:Array Int} (hN:mask+1=2^n) (h7:7≤mask) (room:hashes.size≤mask): ∃t' order,SetTable.laid mask finger moves led plain hashes=some (t',order)∧t'.mask=mask∧t'.led=led∧t'.plain=plain∧order.toList.Perm (List.range hashes.size)∧Laid t' (order.toList.map fun i=>hashes.toList.getD i 0):=by
 obtain⟨T0,hm⟩: ∃T0:SetTable,T0.mask=mask:=⟨{SetTable.fresh 0 0 true with mask:=mask},rfl⟩
 subst hm
 obtain⟨owner,ho,own⟩:=jl2 (t:=T0) (hashes:=hashes) hN room
 unfold SetTable.laid
 rw [ho]
 refine⟨_,_,rfl,rfl,rfl,rfl,?_⟩
 generalize hl:((List.range (T0.mask+1)).filterMap fun j=>(owner.getD j none).map (j,·))=live
 have osz:owner.size=T0.mask+1:=own.size
 have mem: ∀x i:Nat,(x,i)∈live↔owner[x]? =some (some i):=fun x i=>by
  rw [←hl,G1P]
  constructor
  ·rintro ⟨j,hj,e⟩
   rw [G1V] at e
   cases z:owner[j]? with
   |none=>rw [z] at e;cases e
   |some v=>
    rw [z] at e
    cases v with
    |none=>cases e
    |some w=>cases e;exact z
  ·intro e
   have lt:x<owner.size:=(G0L.mp e).1
   refine⟨x,G0q.mpr (by omega),?_⟩
   rw [G1V,e];rfl
 have sub:(live.map (·.1)).Sublist (List.range (T0.mask+1)):=by rw [←hl];exact HT.jfq _ _
 have rise:(live.map (·.1)).Pairwise (· < ·):=List.pairwise_lt_range.sublist sub
 have nd:(live.map (·.2)).Nodup:=by
  rw [List.Nodup,G1a]
  rw [G1a] at rise
  refine rise.imp_of_mem fun {a b} ha hb lt e=> ?_
  have:=own.inj a.1 b.1 a.2 ((mem _ _).mp ha) (by rw [e];exact(mem _ _).mp hb)
  omega
 have len0:hashes.toList.length=hashes.size:=G0j
 have pm:(live.map (·.2)).Perm (List.range hashes.size):=by
  refine(List.perm_ext_iff_of_nodup nd G2v).mpr fun i=> ?_
  rw [G0q]
  constructor
  ·intro h
   obtain⟨⟨x,i'⟩,a,rfl⟩:=G0M.mp h
   have:=own.lt x i' ((mem _ _).mp a)
   omega
  ·intro h
   obtain⟨x,hx⟩:=own.all i (by omega)
   exact G0M.mpr ⟨(x,i),(mem _ _).mpr hx,rfl⟩
 have ll:live.length=hashes.size:=by have:=pm.length_eq;rwa [G0a,G0h] at this
 refine⟨pm,⟨n,hN⟩,h7,rfl,rise,?_,?_,fun i j hj=> ?_,fun i h x hh hx=> ?_⟩
 ·simp
 ·show _≤T0.mask
  simp only [G0a]
  omega
 ·have hj:(live.map (·.1))[i]? =some j:=by simpa using hj
  have:=G0q.mp (sub.subset (G0X hj))
  show j≤T0.mask
  omega
 ·have hx:(live.map (·.1))[i]? =some x:=by simpa using hx
  have hh:((live.map (·.2)).map fun i=>hashes.toList.getD i 0)[i]? =some h:=hh
  rw [G0o] at hx
  obtain⟨⟨x',i'⟩,e1,e2⟩:=G2h.mp hx
  have e2:x' =x:=e2
  subst e2
  rw [G0o,G0o,e1] at hh
  have hh:hashes.toList.getD i' 0=h:=by injection hh
  have ow:=(mem _ _).mp (G0X e1)
  have lt:=own.lt _ _ ow
  have hg:hashes.toList[i']? =some h:=by
   rw [←hh,G0n,G0i lt];rfl
  refine jnU (T0:=T0) rfl (fun y hy hb z=> ?_) (own.way _ _ _ ow hg)
  rw [jdi rfl rise] at z
  cases e:owner[y]? with
  |none=>rw [G1w] at e;omega
  |some v=>
   cases v with
   |none=>rw [emO_iff.mpr e] at hb;cases hb
   |some w=>
    obtain⟨i2,h2⟩:=G10 (G0M.mpr ⟨(y,w),(mem _ _).mpr e,rfl⟩:y∈live.map (·.1))
    exact z i2 (by simpa using h2)
theorem Laid.stands {t:SetTable} {hs:List Int} (l:Laid t hs):t.gaveWay=false:=by
 obtain⟨k,hk⟩:=l.pow
 have b:=l.big
 cases k with
 |zero=>rw [G2t] at hk;omega
 |succ k=>
  rw [G1b] at hk
  unfold SetTable.gaveWay
  refine beq_false_of_ne ?_
  omega
theorem jho: ∀ (fuel k n:Nat),3≤k→ ∃m,3≤m∧SetTable.sizeAbove.go n fuel (2^k)=2^m∧(n<2^(k+fuel)→n<2^m)
 |0,k,n,h=>⟨k,h,rfl,fun z=>z⟩
 |fuel+1,k,n,h=>by
  unfold SetTable.sizeAbove.go
  by_cases c:2^k≤n
  ·rw [if_pos c,←G1b]
   obtain⟨m,a,b,d⟩:=jho fuel (k+1) n (by omega)
   exact⟨m,a,b,fun z=>d (by rw [Nat.add_right_comm,G3n];exact z)⟩
  ·rw [if_neg c]
   exact⟨k,h,rfl,fun _=>by omega⟩
theorem above {n:Nat} (h:n<2^67): ∃m,SetTable.sizeAbove n=2^m∧n<SetTable.sizeAbove n∧8≤SetTable.sizeAbove n:=by
 obtain⟨m,a,b,c⟩:=jho 64 3 n (by decide)
 have b:SetTable.sizeAbove n=2^m:=b
 refine⟨m,b,by rw [b];exact c h,?_⟩
 rw [b]
 exact G2x (show 0<2 by decide) a
end L2
namespace L2
open PySem PySem.Spec PyProof.Rows HT
variable {prog:Program} {w:World} {A:Around} {E:Value→Shared→Prop} {s:Shared} {a:Addr} {es:Array (Int×Value)} {ep:Nat} {t:SetTable}
theorem Laid.fits {hs:List Int} (l:Laid t hs) {n:Nat} (e:hs.length=n):t.fits n=true:=by
 have a:=l.size
 have b:=l.room
 have c:=l.dum
 simp only [SetTable.fits,SetTable.fill,G1q,beq_iff_eq,G2m,c]
 simp
 omega
theorem jhp (t:SetTable):t.sameMemory t.moves t.mask=some true:=by
 unfold SetTable.sameMemory
 rw [if_pos (G1y _)]
theorem jhq {b:Addr} {Q:Bool→Shared→Prop} (q:Q true s):wpAny (model prog w) A (isSame (.ref b) (.ref b)) Q E s:=by
 unfold isSame
 dsimp only
 rw [if_pos (G1y _)]
 exact G0c q
set_option maxHeartbeats 4000000 in
theorem jgW {Q:SetFound→Shared→Prop} {x:Value} {h:Int} {n:Nat} {eqk:Nat→Bool} (l:Laid t (es.toList.map (·.1))) (ho:s.heap.get? a=some (jd8 es ep t))
 (refs: ∀ (i:Nat) (y:Value),es[i]? =some (h,y)→ ∃b,y= .ref b)
 (seen: ∀Q' :Bool→Shared→Prop,Q' false s→wpAny (model prog w) A (searchCouldBeSeen x ((es.filter (·.1==h)).toList.map (·.2))) Q' E s)
 (cmp: ∀ (i:Nat) (y:Value),es[i]? =some (h,y)→ ∀Q' :Bool→Shared→Prop,Q' (eqk i) s→wpAny (model prog w) A (holding [y] (eqBool y x)) Q' E s)
 (em:t.slot (jbh t n (t.probeStart h)).j= .empty) (nb:n<10*SetTable.turns t.mask) (ne: ∀m,m<n→t.slot (jbh t m (t.probeStart h)).j≠ .empty)
 (free:(∀m i,m<n→t.slot (jbh t m (t.probeStart h)).j= .live i→(es[i]?.map (·.1)).getD 0=h→eqk i=false)→Q (.free (jbh t n (t.probeStart h)).j false) s)
 (there: ∀ (i:Nat) (y:Value),es[i]? =some (h,y)→eqk i=true→Q (.there none) s):
 ∀ (r k fuel:Nat) (stand:Option SetTable.Probe),k+r=n→r<fuel→stand.getD (t.probeStart h)=jbh t k (t.probeStart h)→(∀m i,m<k→t.slot (jbh t m (t.probeStart h)).j= .live i→(es[i]?.map (·.1)).getD 0=h→eqk i=false)→
  wpAny (model prog w) A (setSearchFrom a x h true fuel stand) Q E s:=by
 intro r
 induction r using Nat.strongRecOn with
 |ind r ih=>
 intro k fuel stand kr rf st old
 obtain⟨fuel,rfl⟩: ∃f,fuel=f+1:=⟨fuel-1,by omega⟩
 have fit:t.fits es.size=true:=l.fits (by rw [G0a,G0j])
 unfold setSearchFrom
 refine wpAny_bind (G1r ho rfl fit ?_)
 dsimp only
 rw [l.stands]
 simp only [G0J,↓reduceIte]
 have ad: ∀m,jbh t m (jbh t k (t.probeStart h))=jbh t (k+m) (t.probeStart h):=fun m=>(jdh t k m _).symm
 have dn: ∀ (m:Nat) (p:SetTable.Probe),p.dummy=none→(jbh t m p).dummy=none:=fun m=>by
  induction m with
  |zero=>exact fun p hp=>hp
  |succ m ihm=>exact fun p hp=>ihm _ (by unfold SetTable.advance;split<;>exact hp)
 have out:=jkO (f:=fun i=>(es[i]?.map (·.1)).getD 0) (h:=h) l.dum r (10*SetTable.turns t.mask) (jbh t k (t.probeStart h)) (by omega) (by rw [ad,kr];exact em) (fun m hm=>by rw [ad];exact ne _ (by omega)) (dn _ _ rfl)
 have e0:t.probe (fun i=>(es[i]?.map (·.1)).getD 0) h (stand.getD (t.probeStart h))=SetTable.probe.go t (fun i=>(es[i]?.map (·.1)).getD 0) h (10*SetTable.turns t.mask) (jbh t k (t.probeStart h)):=by rw [st];rfl
 rw [←e0] at out
 split
 ·rename_i met hmet
  have hmet:t.probe (fun i=>(es[i]?.map (·.1)).getD 0) h (stand.getD (t.probeStart h))=some met:=hmet
  rw [hmet] at out
  rcases out with ⟨e,no⟩|⟨m,i,mr,sl,hi,no,e⟩
  ·injection e with e
   subst e
   dsimp only
   refine G0c ?_
   rw [ad,kr]
   refine free fun m i hm sl hi=> ?_
   rcases G1A m k with z|z
   ·exact old m i z sl hi
   ·refine absurd hi (no (m-k) (by omega) i ?_)
    rw [ad,G1t z];exact sl
  ·injection e with e
   subst e
   dsimp only
   obtain⟨y,ei⟩: ∃y,es[i]? =some (h,y):=by
    obtain⟨lt,_⟩:=G0L.mp (ji3 sl)
    have sz:i<es.size:=by have:=l.size;rw [G0a,G0j] at this;omega
    rw [G1o sz] at hi ⊢
    have hi:es[i].1=h:=hi
    exact⟨es[i].2,by rw [←hi]⟩
   cases hl:t.led
   ·simp only [Bool.not_false,↓reduceIte]
    refine wpAny_bind (seen _ ?_)
    simp only [G0J,↓reduceIte]
    rw [ei]
    dsimp only
    refine wpAny_bind (cmp i y ei _ ?_)
    refine wpAny_bind (G1r ho rfl fit ?_)
    dsimp only
    cases ek:eqk i with
    |true=>simp only [G3p,↓reduceIte];exact G0c (there i y ei ek)
    |false=>
     simp only [G3i,G0J,↓reduceIte,jhp,sl,ei]
     obtain⟨b,rfl⟩:=refs i y ei
     refine wpAny_bind (jhq ?_)
     refine wpAny_bind (G0c ?_)
     simp only [↓reduceIte]
     refine ih (r-(m+1)) (by omega) (k+(m+1)) fuel (some _) (by omega) (by omega) (by show jbh t (m+1) _=_;rw [ad]) (fun m' i' hm' sl' hi' => ?_)
     rcases G1A m' k with z|z
     ·exact old m' i' z sl' hi'
     ·have e1:jbh t m' (t.probeStart h)=jbh t (m' -k) (jbh t k (t.probeStart h)):=by rw [ad,G1t z]
      rw [e1] at sl'
      rcases G1A (m' -k) m with y|y
      ·exact absurd hi' (no (m' -k) y i' sl')
      ·have e2:m' -k=m:=by omega
       rw [e2,sl] at sl'
       injection sl' with sl'
       rw [←sl'];exact ek
   ·simp only [G2B,G0J,↓reduceIte]
    rw [ei]
    dsimp only
    refine wpAny_bind (cmp i y ei _ ?_)
    refine wpAny_bind (G1r ho rfl fit ?_)
    dsimp only
    cases ek:eqk i with
    |true=>simp only [G3p,↓reduceIte];exact G0c (there i y ei ek)
    |false=>
     simp only [G3i,G0J,↓reduceIte,jhp,sl,ei]
     obtain⟨b,rfl⟩:=refs i y ei
     refine wpAny_bind (jhq ?_)
     refine wpAny_bind (G0c ?_)
     simp only [↓reduceIte]
     refine ih (r-(m+1)) (by omega) (k+(m+1)) fuel (some _) (by omega) (by omega) (by show jbh t (m+1) _=_;rw [ad]) (fun m' i' hm' sl' hi' => ?_)
     rcases G1A m' k with z|z
     ·exact old m' i' z sl' hi'
     ·have e1:jbh t m' (t.probeStart h)=jbh t (m' -k) (jbh t k (t.probeStart h)):=by rw [ad,G1t z]
      rw [e1] at sl'
      rcases G1A (m' -k) m with y|y
      ·exact absurd hi' (no (m' -k) y i' sl')
      ·have e2:m' -k=m:=by omega
       rw [e2,sl] at sl'
       injection sl' with sl'
       rw [←sl'];exact ek
 ·rename_i hmet
  rcases out with ⟨e,_⟩|⟨_,_,_,_,_,_,e⟩<;>exact(hmet _ e).elim
theorem jhO {Q:SetFound→Shared→Prop} {x:Value} {h:Int} {eqk:Nat→Bool} (l:Laid t (es.toList.map (·.1))) (few:t.mask≤9000) (ho:s.heap.get? a=some (jd8 es ep t))
 (refs: ∀ (i:Nat) (y:Value),es[i]? =some (h,y)→ ∃b,y= .ref b)
 (seen: ∀Q' :Bool→Shared→Prop,Q' false s→wpAny (model prog w) A (searchCouldBeSeen x ((es.filter (·.1==h)).toList.map (·.2))) Q' E s)
 (cmp: ∀ (i:Nat) (y:Value),es[i]? =some (h,y)→ ∀Q' :Bool→Shared→Prop,Q' (eqk i) s→wpAny (model prog w) A (holding [y] (eqBool y x)) Q' E s)
 (free: ∀j,(∀ (i:Nat) (y:Value),es[i]? =some (h,y)→eqk i=false)→t.slot j= .empty→j≤t.mask→Way t h j→Q (.free j false) s)
 (there: ∀ (i:Nat) (y:Value),es[i]? =some (h,y)→eqk i=true→Q (.there none) s):wpAny (model prog w) A (setSearch a x h true) Q E s:=by
 obtain⟨n,nb,em,ne,met⟩:=l.search h
 refine jgW l ho refs seen cmp em nb ne (fun al=>free _ (fun i y e=> ?_) em (jgV n _ (jgk t h)) ⟨n,rfl,ne⟩) there n 0 100000 none (Nat.zero_add n) (by unfold SetTable.turns at nb;omega) rfl (fun m i hm=>absurd hm (Nat.not_lt_zero _))
 have e1:(es.toList.map (·.1))[i]? =some h:=by
  rw [G0o,G1z,e];rfl
 obtain⟨m,hm,sl⟩:=met i e1
 exact al m i hm sl (by rw [e];rfl)
theorem Laid.plain {hs:List Int} (l:Laid t hs) (b:Bool):Laid {t with plain:=b} hs:=
 ⟨l.pow,l.big,l.dum,l.rise,l.size,l.room,l.low,fun i h j x y=>Way.more (t:=t) (u:= {t with plain:=b}) rfl (fun _ z=>z) (l.way i h j x y)⟩
theorem jhP (es:Array (Int×Value)) (h:Int) (x:Value) (p:Nat):(SetTable.insertAt es p (h,x)).toList.map (·.1)=(es.toList.map (·.1)).take p++h::(es.toList.map (·.1)).drop p:=by
 rw [G16,G1p,G0x,G3m,G2X]
theorem jhr: ∀ (fuel k n:Nat),SetTable.sizeAbove.go n fuel (2^k)≤2^k∨SetTable.sizeAbove.go n fuel (2^k)≤2*n
 |0,k,n=> .inl (G0d _)
 |fuel+1,k,n=>by
  unfold SetTable.sizeAbove.go
  by_cases c:2^k≤n
  ·rw [if_pos c,←G1b]
   rcases jhr fuel (k+1) n with z|z
   ·refine .inr (G0T z ?_)
    rw [G1b];omega
   ·exact .inr z
  ·rw [if_neg c];exact .inl (G0d _)
theorem jgX {hashes:Array Int} {w:Nat} (hw:hashes.size≤w) (few:w≤40000):SetTable.sizeAbove w≤80008∧ ∃t' order,t.relaid hashes w=some (t',order)∧t'.led=t.led∧w≤t'.mask∧t'.mask≤2*w+8∧order.toList.Perm (List.range hashes.size)∧Laid t' (order.toList.map fun i=>hashes.toList.getD i 0):=by
 obtain⟨m,a,b,c⟩:=above (n:=w) (by omega)
 have u:SetTable.sizeAbove w≤8∨SetTable.sizeAbove w≤2*w:=jhr 64 3 w
 refine⟨by omega,?_⟩
 obtain⟨t',order,x,mk,y,z,p,q⟩:=jl3 (mask:=SetTable.sizeAbove w-1) (finger:=t.finger) (moves:=t.movedTo (SetTable.sizeAbove w-1)) (led:=t.led) (plain:=t.plain) (hashes:=hashes) (n:=m) (by rw [←a];omega) (by omega) (by omega)
 exact⟨t',order,x,y,by rw [mk];omega,by rw [mk];omega,p,q⟩
set_option maxHeartbeats 4000000 in
theorem ji7 {Q:Unit→Shared→Prop} {wd:Nat} (l:Laid t (es.toList.map (·.1))) (ho:s.heap.get? a=some (jd8 es ep t)) (hw:es.size≤wd) (few:wd≤40000)
 (k: ∀es' t' h',es'.toList.Perm es.toList→Laid t' (es'.toList.map (·.1))→t'.led=t.led→wd≤t'.mask→t'.mask≤2*wd+8→h'.get? a=some (jd8 es' (ep+1) t')→Heap.SameBut a s.heap h' →Q () {s with heap:=h'}):wpAny (model prog w) A (setRelay a wd) Q E s:=by
 have fit:t.fits es.size=true:=l.fits (by rw [G0a,G0j])
 obtain⟨up,t',order,er,ld,m1,m2,pm,l'⟩:=jgX (t:=t) (hashes:=es.map (·.1)) (w:=wd) (by rw [Array.size_map];exact hw) few
 unfold setRelay
 refine wpAny_bind (G1r ho rfl fit ?_)
 dsimp only
 rw [er]
 have sl: ¬SetTable.sizeAbove wd>sizeLine:=G3g.mpr (G0T up (by decide))
 simp only [sl,↓reduceIte]
 have fe: ∀l:List Nat,(∀i∈l,i<es.size)→l.filterMap (fun i=>es[i]?)=l.map (fun i=>es.toList.getD i (0,.none)):=fun l=>by
  induction l with
  |nil=>exact fun _=>rfl
  |cons i l ih=>
   intro h
   have hi:=h i G0D
   have e:es[i]? =some (es.toList.getD i (0,.none)):=by
    rw [G0n,G1z,G1o hi];rfl
   rw [List.filterMap_cons_some e,G0x,ih fun x hx=>h x (G0y _ hx)]
 rw [Array.size_map] at pm
 have lt: ∀i∈order.toList,i<es.size:=fun i hi=>G0q.mp (pm.mem_iff.mp hi)
 have e1:(order.filterMap (es[·]?)).toList=order.toList.map (fun i=>es.toList.getD i (0,.none)):=by
  rw [Array.toList_filterMap];exact fe _ lt
 have e2:es.toList=(List.range es.size).map (fun i=>es.toList.getD i (0,.none)):=by
  have:=jaX es.toList (0,(.none:Value))
  rwa [G0j] at this
 have pe:(order.filterMap (es[·]?)).toList.Perm es.toList:=by
  have:=pm.map (fun i=>es.toList.getD i (0,.none))
  rw [←e2] at this
  rw [e1];exact this
 have sz:(order.filterMap (es[·]?)).size=es.size:=by have:=pe.length_eq;rwa [G0j,G0j] at this
 have hh:(order.filterMap (es[·]?)).toList.map (·.1)=order.toList.map fun i=>(es.map (·.1)).toList.getD i 0:=by
  rw [e1,G0N]
  refine G0P fun i hi=> ?_
  show (es.toList.getD i (0,.none)).1=(es.map (·.1)).toList.getD i 0
  have z:i<es.toList.length:=by rw [G0j];exact lt i hi
  rw [Array.toList_map,G0n,G0n,G0o,G0i z];rfl
 rw [←hh] at l'
 refine wpAny_bind ?_
 show wpAny _ _ (ite _ _ _) _ _ _
 rw [if_neg (by rw [sz];simp)]
 refine G0c ?_
 dsimp only
 exact wpAny_storeSet_of (s:=s) ho rfl (k _ t' _ pe l' ld m1 m2 (G09 _ ho rfl) (G1n ..)) (by rw [sz];exact G0T (show es.size≤40000 by omega) (by decide))
set_option maxHeartbeats 4000000 in
theorem jl4 {Q:Bool→Shared→Prop} {b:Addr} {h:Int} {eqk:Nat→Bool} {bv:Bool} {fuel:Nat} (l:Laid t (es.toList.map (·.1))) (few:t.mask≤9000) (lean:es.size*5<t.mask*3) (ho:s.heap.get? a=some (jd8 es ep t))
 (refs: ∀ (i:Nat) (y:Value),es[i]? =some (h,y)→ ∃b,y= .ref b)
 (seen: ∀Q' :Bool→Shared→Prop,Q' false s→wpAny (model prog w) A (searchCouldBeSeen (.ref b) ((es.filter (·.1==h)).toList.map (·.2))) Q' E s)
 (cmp: ∀ (i:Nat) (y:Value),es[i]? =some (h,y)→ ∀Q' :Bool→Shared→Prop,Q' (eqk i) s→wpAny (model prog w) A (holding [y] (eqBool y (.ref b))) Q' E s)
 (byv: ∀Q' :Bool→Shared→Prop,Q' bv s→wpAny (model prog w) A (hashByValue 8 (.ref b)) Q' E s)
 (new:(∀ (i:Nat) (y:Value),es[i]? =some (h,y)→eqk i=false)→ ∀es' ep' t' h',es'.toList.Perm (es.push (h,.ref b)).toList→Laid t' (es'.toList.map (·.1))→t'.mask≤max t.mask (8*es.size+16)→es'.size*5<t'.mask*3→t'.led=t.led→h'.get? a=some (jd8 es' ep' t')→Heap.SameBut a s.heap h' →Q true {s with heap:=h'})
 (there: ∀ (i:Nat) (y:Value),es[i]? =some (h,y)→eqk i=true→Q false s):wpAny (model prog w) A (setAddHashedIn a (.ref b) h (fuel+1)) Q E s:=by
 have fit:t.fits es.size=true:=l.fits (by rw [G0a,G0j])
 have sz:(es.toList.map (·.1)).length=es.size:=by rw [G0a,G0j]
 unfold setAddHashedIn
 refine wpAny_bind (G1r ho rfl fit ?_)
 dsimp only
 rw [show byScan (.ref b) es=false from rfl]
 simp only [G0J,↓reduceIte]
 refine wpAny_bind (jhO (eqk:=eqk) l few ho refs seen cmp (fun j no em jm wy=> ?_) (fun i y e ek=> ?_))
 ·dsimp only
  refine wpAny_bind (G1r ho rfl fit ?_)
  dsimp only
  have l1:=l.put em jm wy (by rw [sz];have:=l.big;omega)
  have l1:=(congrArg (Laid (t.put j).1) (jhP es h (.ref b) (t.put j).2)).mpr l1
  have z0:(SetTable.insertAt es (t.put j).2 (h,.ref b)).size=es.size+1:=by
   have:=(G2i es (t.put j).2 (h,(.ref b:Value))).length_eq
   rw [G0j,G0j,Array.size_push] at this
   exact this
  have z1:(SetTable.insertAt es (t.put j).2 (h,.ref b)).size≤sizeLine:=by
   rw [z0];exact G0T (show es.size+1≤10000 by omega) (by decide)
  have rest: ∀t2:SetTable,Laid t2 ((SetTable.insertAt es (t.put j).2 (h,.ref b)).toList.map (·.1))→t2.led=t.led→t2.mask=t.mask→wpAny (model prog w) A (do storeSet a (SetTable.insertAt es (t.put j).2 (h,.ref b)) t2;if (!false&&t2.tooFull)=true then (do setRelay a (SetTable.grown (es.size+1));pure true) else pure true) Q E s:=fun t2 l2 ld mk=>by
   refine wpAny_bind (wpAny_storeSet_of (s:=s) ho rfl ?_ z1)
   have o1:(s.heap.update a (Obj.putSet (SetTable.insertAt es (t.put j).2 (h,.ref b)) t2)).get? a=some (jd8 (SetTable.insertAt es (t.put j).2 (h,.ref b)) (ep+1) t2):=G09 _ ho rfl
   cases tf:t2.tooFull with
   |true=>
    simp only [Bool.not_false,G3p,↓reduceIte]
    refine wpAny_bind (ji7 (wd:=SetTable.grown (es.size+1)) (ep:=ep+1) l2 o1 (by rw [z0];unfold SetTable.grown;split<;>omega) (by unfold SetTable.grown;split<;>omega) fun es' t' h' pe l' ld' m1 m2 o2 sb=> ?_)
    refine G0c (new no es' (ep+1+1) t' h' (pe.trans (G2i ..)) l' ?_ ?_ (ld'.trans ld) o2 (Heap.SameBut.trans (G1n ..) sb))
    ·unfold SetTable.grown at m2;split at m2<;>omega
    ·have:=pe.length_eq
     rw [G0j,G0j,z0] at this
     unfold SetTable.grown at m1;split at m1<;>omega
   |false=>
   simp only [G3i,G0J,↓reduceIte]
   refine G0c (new no _ (ep+1) t2 _ (G2i ..) l2 (by omega) ?_ ld (G09 _ ho rfl) (G1n ..))
   rw [z0]
   have s2:=l2.size
   rw [G0a,G0j,z0] at s2
   have: ¬ (t2.fill*5≥t2.mask*3):=by simpa [SetTable.tooFull] using tf
   have f2:t2.fill=es.size+1:=by unfold SetTable.fill;rw [l2.dum,s2];rfl
   omega
  cases hp:(t.put j).1.plain
  ·simp only [G0J,↓reduceIte]
   refine wpAny_bind (G0c ?_)
   simp only [↓reduceIte]
   exact rest (t.put j).1 l1 rfl rfl
  ·simp only [↓reduceIte]
   refine wpAny_bind (byv _ ?_)
   cases bv
   ·simp only [G0J,↓reduceIte]
    exact rest _ (l1.plain false) rfl rfl
   ·simp only [↓reduceIte]
    exact rest (t.put j).1 l1 rfl rfl
 ·exact G0c (there i y e ek)
end L2
namespace L2
open PySem PySem.Spec PyProof.Rows HT
def ji8 (h h' :Heap):Prop:= ∀ (b:Addr) (o:Obj),o.cls= .type "tuple" →h.get? b=some o→h'.get? b=some o
theorem jcF {α β:Type} {M:Model} {A:Around} {E:Value→Shared→Prop} {s:Shared} {f:α→β→Sem (ForInStep β)} {r:β} {Q:β→Shared→Prop}: ∀ (l:List α),(∀x∈l,∀Q' :ForInStep β→Shared→Prop,Q' (.yield r) s→wpAny M A (f x r) Q' E s)→Q r s→wpAny M A (forIn l r f) Q E s
 | [],_,q=>G0c q
 |x::l,h,q=>by
  rw [G19]
  exact wpAny_bind (h x (.head _) _ (jcF l (fun y hy=>h y (.tail _ hy)) q))
structure MemK (prog:Program) (w:World) (K:Type) [DecidableEq K] where
 is:Heap→K→Addr→Prop
 hash:K→Int
 inj: ∀ {h:Heap} {x y:K} {a:Addr},is h x a→is h y a→x=y
 keep: ∀ {h h' :Heap} {x:K} {a:Addr},ji8 h h' →is h x a→is h' x a
 hashed: ∀ {A:Around} {E:Value→Shared→Prop} {s:Shared} {x:K} {a:Addr} {Q:Int→Shared→Prop},A.units+8<cLine→is s.heap x a→(∀tk,Q (hash x) {s with toks:=tk})→wpAny (model prog w) A (pyHash (.ref a)) Q E s
 same: ∀ {A:Around} {E:Value→Shared→Prop} {s:Shared} {x y:K} {a b:Addr} {Q:Bool→Shared→Prop},A.units+8<cLine→is s.heap x a→is s.heap y b→Q (decide (x=y)) s→wpAny (model prog w) A (eqBool (.ref a) (.ref b)) Q E s
 quiet: ∀ {A:Around} {E:Value→Shared→Prop} {s:Shared} {x:K} {a:Addr} {Q:Bool→Shared→Prop},is s.heap x a→Q true s→wpAny (model prog w) A (eqIsQuiet 8 (.ref a)) Q E s
 cls: ∀ {A:Around} {E:Value→Shared→Prop} {s:Shared} {x:K} {a:Addr} {Q:Bool→Shared→Prop},is s.heap x a→Q false s→wpAny (model prog w) A (ofAClassStatement 8 (.ref a)) Q E s
 byv: ∀ {A:Around} {E:Value→Shared→Prop} {s:Shared} {x:K} {a:Addr} {Q:Bool→Shared→Prop},is s.heap x a→Q true s→wpAny (model prog w) A (hashByValue 8 (.ref a)) Q E s
section
variable {prog:Program} {w:World} {A:Around} {E:Value→Shared→Prop} {s:Shared} {K:Type} [DecidableEq K]
theorem jl5 (M:MemK prog w K) {x:K} {a:Addr} {stored:List Value} {Q:Bool→Shared→Prop} (hx:M.is s.heap x a) (hs: ∀y∈stored,∃k b,y= .ref b∧M.is s.heap k b) (q:Q false s):wpAny (model prog w) A (searchCouldBeSeen (.ref a) stored) Q E s:=by
 unfold searchCouldBeSeen
 refine wpAny_bind (jcF stored (fun y hy Q' q' => ?_) (G0c q))
 obtain⟨k,b,rfl,hk⟩:=hs y hy
 by_cases c:(a==b)=true
 ·simp only [c,Bool.true_or,↓reduceIte]
  exact G0c q'
 ·simp only [c,show carriedByValue (.ref a)=false from rfl,G3h,Bool.or_false,G0J,↓reduceIte]
  refine wpAny_bind (M.quiet hx (wpAny_bind (M.quiet hk (wpAny_bind (M.cls hx (wpAny_bind (M.cls hk ?_)))))))
  exact G0c q'
structure SetT (M:MemK prog w K) (L:Bool) (is:K→Addr→Prop) (f:Int×Value→K) (es:Array (Int×Value)) (t:SetTable) (ks:List K):Prop where
 laid:Laid t (es.toList.map (·.1))
 led:t.led=L
 lean:es.size*5<t.mask*3
 mask:t.mask≤8*ks.length+16
 each: ∀e∈es.toList,e.1=M.hash (f e)∧ ∃b,e.2= .ref b∧is (f e) b
 nd:(es.toList.map f).Nodup
 mem: ∀k,k∈es.toList.map f↔k∈ks
theorem jcG: ∀ {xs ys:List K},xs.Nodup→(∀x∈xs,x∈ys)→xs.length≤ys.length
 | [],_,_,_=>G1D _
 |x::xs,ys,nd,h=>by
  obtain⟨n1,n2⟩:=G03.mp nd
  have le:=jcG (ys:=ys.erase x) n2 fun y hy=>(G1Z (fun (e:y=x)=>n1 (by rw [←e];exact hy))).mpr (h y (.tail _ hy))
  rw [G1J (h x (.head _))] at le
  have pos:=G1N (h x (.head _))
  rw [G0e]
  omega
theorem SetT.size {M:MemK prog w K} {L:Bool} {is:K→Addr→Prop} {f:Int×Value→K} {es:Array (Int×Value)} {t:SetTable} {ks:List K} (S:SetT M L is f es t ks):es.size≤ks.length:=by
 have:=jcG S.nd fun k hk=>(S.mem k).mp hk
 rwa [G0a,G0j] at this
theorem SetT.tab {M:MemK prog w K} {L:Bool} {is:K→Addr→Prop} {f:Int×Value→K} {es:Array (Int×Value)} {t:SetTable} {ks:List K} (S:SetT M L is f es t ks):Tab L es.size t:=
 ⟨S.laid.fits (by rw [G0a,G0j]),S.led,S.laid.dum,fun _=>S.laid.rise⟩
set_option maxHeartbeats 1000000 in
theorem ji9 {M:MemK prog w K} {L:Bool} {is:K→Addr→Prop} {f:Int×Value→K} {es:Array (Int×Value)} {ep:Nat} {t:SetTable} {ks:List K} {a b:Addr} {k:K} {Q:Bool→Shared→Prop} (hu:A.units+8<cLine) (S:SetT M L is f es t ks) (ho:s.heap.get? a=some (jd8 es ep t)) (few:ks.length<1000) (to: ∀k b,is k b→M.is s.heap k b) (hk:is k b)
 (q: ∀r f' es' ep' t' h' tk,SetT M L is f' es' t' (k::ks)→h'.get? a=some (jd8 es' ep' t')→Heap.SameBut a s.heap h' →Q r {s with heap:=h',toks:=tk}):wpAny (model prog w) A (setAdd a (.ref b)) Q E s:=by
 refine G04 (wpAny_bind (M.hashed hu (to _ _ hk) fun tk=>G04 ?_))
 show wpAny _ _ (setAddHashedIn a (.ref b) (M.hash k) (99999+1)) _ _ _
 have at_: ∀ (i:Nat) (y:Value),es[i]? =some (M.hash k,y)→(M.hash k,y)∈es.toList:=fun i y e=>by
  rw [←G1z] at e;exact G0X e
 refine jl4 (s:= {s with toks:=tk}) (eqk:=fun i=>match es[i]? with
  |some e=>decide (f e=k)
  |none=>false) (bv:=true) S.laid (G0T S.mask (by omega)) S.lean ho (fun i y e=> ?_) (fun Q' q' => ?_) (fun i y e Q' q' => ?_) (fun Q' q' =>M.byv (to _ _ hk) q') (fun no es' ep' t' h' pe l' mk ln ld o' sb=> ?_) (fun i y e ek=> ?_)
 ·obtain⟨_,c,d,_⟩:=S.each _ (at_ i y e);exact⟨c,d⟩
 ·refine jl5 M (to _ _ hk) (fun y hy=> ?_) q'
  obtain⟨e,he,rfl⟩:=G0M.mp hy
  obtain⟨_,c,d,i⟩:=S.each e (by rw [Array.toList_filter] at he;exact(G23.mp he).1)
  exact⟨_,c,d,to _ _ i⟩
 ·obtain⟨_,c,d,i'⟩:=S.each _ (at_ i y e)
  have d:y= .ref c:=d
  subst d
  simp only [e] at q'
  exact G04 (M.same hu (to _ _ i') (to _ _ hk) q')
 ·have kn:k ∉ ks:=fun z=>by
   obtain⟨e,he,fe⟩:=G0M.mp ((S.mem k).mpr z)
   obtain⟨i,hi⟩:=G10 he
   obtain⟨e1,e2⟩:=e
   have h1:=(S.each _ he).1
   rw [fe] at h1
   have h1:e1=M.hash k:=h1
   subst h1
   have hi:es[i]? =some (M.hash k,e2):=by rw [←G1z];exact hi
   have:=no i e2 hi
   simp only [hi,fe,decide_true] at this
   cases this
  have same: ∀e∈es.toList,(if e=(M.hash k,.ref b) then k else f e)=f e:=fun e he=>by
   by_cases c:e=(M.hash k,.ref b)
   ·rw [if_pos c]
    obtain⟨_,c',d,i⟩:=S.each e he
    rw [c] at d
    cases d
    exact M.inj (to _ _ hk) (to _ _ i)
   ·rw [if_neg c]
  have me:(es.toList.map fun e=>if e=(M.hash k,.ref b) then k else f e)=es.toList.map f:=G0P same
  have pk:=pe.map fun e=>if e=(M.hash k,.ref b) then k else f e
  rw [G2S,G1p,me] at pk
  have one:(List.map (fun e=>if e=(M.hash k,.ref b) then k else f e) [(M.hash k,.ref b)])= [k]:=by simp
  rw [one] at pk
  have sz:=S.size
  refine q true (fun e=>if e=(M.hash k,.ref b) then k else f e) es' ep' t' h' tk ⟨l',ld.trans S.led,ln,?_,fun e he=> ?_,pk.nodup_iff.mpr ?_,fun m=>pk.mem_iff.trans ?_⟩ o' sb
  ·have:=S.mask
   rw [G0e]
   omega
  ·have z:=pe.mem_iff.mp he
   rw [G2S] at z
   rcases G1c.mp z with z|z
   ·rw [same e z];exact S.each e z
   ·have z:=G0z.mp z
    subst z
    rw [if_pos rfl]
    exact⟨rfl,b,rfl,hk⟩
  ·rw [List.nodup_append]
   refine⟨S.nd,by simp,fun x hx y hy e=> ?_⟩
   have:y=k:=by simpa using hy
   subst this;subst e
   exact kn ((S.mem _).mp hx)
  ·rw [G1c,S.mem m,G0z,G0v,or_comm]
 ·have hin:k∈ks:=by
   simp only [e,G2m] at ek
   rw [←ek]
   exact(S.mem _).mp (List.mem_map_of_mem (at_ i y e))
  refine q false f es ep t s.heap tk ⟨S.laid,S.led,S.lean,?_,S.each,S.nd,fun m=>(S.mem m).trans ?_⟩ ho (Heap.SameBut.refl _ _)
  ·have:=S.mask
   rw [G0e]
   omega
  ·rw [G0v]
   exact⟨.inr,fun z=>z.elim (fun e=>e ▸ hin) id⟩
end
section
variable {prog:Program} {w:World} {A:Around} {E:Value→Shared→Prop} {s:Shared}
theorem jl6 (n:Nat) {v:Value} (h:carriedByValue v=true):ofAClassStatement n v=pure false:=by
 cases v<;>first|(cases h;done)|simp [ofAClassStatement]
theorem jkR {n:Int} {v:Value} (h:(intKind prog w).is n v=true): ∃tk,v= .int n tk:=by
 cases v<;>simp [intKind,Value.isInt] at h
 exact⟨_,by rw [h]⟩
theorem jhQ {ks:List Int} {vs:List Value} (h:ItemsAre (intKind prog w) ks vs): ∀v∈vs,∃n tk,v= .int n tk:=by
 induction h with
 |nil=>exact fun v hv=>absurd hv G06
 |cons h1 _ ih=>
  intro v hv
  rcases G0v.mp hv with rfl|hv
  ·obtain⟨tk,e⟩:=jkR h1;exact⟨_,tk,e⟩
  ·exact ih v hv
theorem jja (d:Nat) {x:List Int} {a:Addr} {Q:Bool→Shared→Prop}:IsTupleKey (intKind prog w) s.heap x a→Q false s→wpAny (model prog w) A (ofAClassStatement (d+1) (.ref a)) Q E s
 |⟨_,_,_,ho,hc,hd,hi⟩,q=>by
  unfold ofAClassStatement
  refine wpAny_bind (G2K (T:= "tuple") ⟨_,ho,hc⟩ ?_)
  simp only [G1y,↓reduceIte,pure_bind,G2B,G0J]
  refine wpAny_bind (G12 ho hd (wpAny_bind ?_))
  simp only [←G1f]
  refine jcF _ (fun v hv Q' q' => ?_) (G0c q)
  rw [jl6 d (hi.byValue v hv)]
  exact G0c q'
theorem jl7 (d:Nat) (m:Int) (tk:Tok):hashByValue d (.int m tk)=pure true:=by cases d<;>rfl
theorem jjb (d:Nat) {x:List Int} {a:Addr} {Q:Bool→Shared→Prop}:IsTupleKey (intKind prog w) s.heap x a→Q true s→wpAny (model prog w) A (hashByValue (d+1) (.ref a)) Q E s
 |⟨_,_,_,ho,hc,hd,hi⟩,q=>by
  unfold hashByValue
  refine wpAny_bind (G2e (T:= "tuple") ⟨_,ho,hc⟩ F.slot_tuple_hash.lookup ?_)
  refine wpAny_bind (G12 ho hd (wpAny_bind ?_))
  simp only [G13,←G1f]
  refine jcF _ (fun v hv Q' q' => ?_) (G0c q)
  obtain⟨m,tk,rfl⟩:=jhQ hi v hv
  rw [jl7]
  exact G0c q'
def jp1 (prog:Program) (w:World):MemK prog w (List Int) where
 is:=fun h x a=>IsTupleKey (intKind prog w) h x a
 hash:=tupleKeyHash (intKind prog w)
 inj:=fun hx hy=>hx.inj hy
 keep:=fun k ⟨o,items,n,ho,hc,hd,hi⟩=>⟨o,items,n,k _ o hc ho,hc,hd,hi⟩
 hashed:=fun hu hk q=>wpAny_pyHash_tuple (by omega) hk (q _)
 same:=fun hu hx hy q=>wpAny_eqBool_tuple (by omega) hx hy q
 quiet:=fun hk q=>wpAny_eqIsQuiet_tuple hk q
 cls:=fun hk q=>jja 7 hk q
 byv:=fun hk q=>jjb 7 hk q
end
end L2
namespace L2
open PySem PySem.Spec PyProof.Rows HT PySem.SeqAt
section
variable {prog:Program} {w:World} {A:Around} {E:Value→Shared→Prop} {a I:Addr} {fp wr:List Addr} {n:Nat} {P:Nat→Value→Prop} {St:Nat→Heap→Prop} {K:Type} [DecidableEq K] {M:MemK prog w K} {L:Bool} {is:K→Addr→Prop} {key:Nat→K}
theorem jds {R:Result→Shared→Prop} (hu:A.units+16<cLine) (W:Walks prog w A.in1 I fp wr n P St) (num: ∀i v,P i v→ ∃b,v= .ref b∧is (key i) b) (na:a ∉ fp) (few:n<1000) (nt: ∀i h,St i h→ ∀b∈wr,∀o,h.get? b=some o→o.cls≠ .type "tuple"):
 ∀ (k i:Nat) (s:Shared) (f:Int×Value→K) (es:Array (Int×Value)) (ep:Nat) (t:SetTable),i+k=n→St i s.heap→s.heap.get? a=some (jd8 es ep t)→(∀k b,is k b→M.is s.heap k b)→SetT M L is f es t ((List.range i).map key).reverse→
  (∀h' tk f' es' ep' t',h'.get? a=some (jd8 es' ep' t')→SetT M L is f' es' t' ((List.range n).map key).reverse→(∀b o,b≠a→b ∉ wr→s.heap.get? b=some o→h'.get? b=some o)→R (.ok (.ret .none)) {s with heap:=h',toks:=tk})→
  codeAny (model prog w) A (.builtin "set.update.loop" ⟨[.ref a,.ref I],[]⟩) R s
 |0,i,s,f,es,ep,t,hk,st,ha,to,S,q=>by
  obtain rfl:i=n:=by omega
  refine G28 jgh ?_
  rw [Around.under_plainId jd9]
  exact wpAny_bind (W.done s _ _ st fun h' tk kept=>G0c (q h' tk f es ep t (kept _ _ (fun z=>na (W.sub _ z)) ha) S fun b o _ nb e=>kept b o nb e))
 |k+1,i,s,f,es,ep,t,hk,st,ha,to,S,q=>by
  refine G28 jgh ?_
  rw [Around.under_plainId jd9]
  refine wpAny_bind (W.item i s _ _ (by omega) st fun v h1 tk1 pv st1 kept1=> ?_)
  obtain⟨b,rfl,hb⟩:=num i v pv
  have ha1:=kept1 _ _ (fun z=>na (W.sub _ z)) ha
  have to1: ∀k b,is k b→M.is h1 k b:=fun k b z=>M.keep (fun c o hc e=>kept1 c o (fun m=>nt i _ st c m o e hc) e) (to k b z)
  refine wpAny_bind (G04 (ji9 (s:= {s with heap:=h1,toks:=tk1}) (show A.units+1+8<cLine by omega) S ha1 (by simp;omega) to1 hb fun r f2 es2 ep2 t2 h2 tk2 S2 ha2 same2=>G0c ⟨plainId_quiet jd9 _,?_⟩))
  have S3:SetT M L is f2 es2 t2 ((List.range (i+1)).map key).reverse:=by
   rw [G2d,G1p,List.reverse_append];exact S2
  have kep: ∀c o,o.cls= .type "tuple" →h1.get? c=some o→h2.get? c=some o:=fun c o hc e=>same2.extBut _ _ (fun z=>by
   subst z
   rw [show h1.get? c=some (jd8 es ep t) from ha1] at e
   cases e
   exact absurd (show Value.type "set" =Value.type "tuple" from hc) (by decide)) e
  refine jds hu W num na few nt k (i+1) {s with heap:=h2,toks:=tk2} f2 es2 ep2 t2 (by omega) (W.frame _ _ _ st1 fun b hb o e=>same2.extBut _ _ (fun z=>na (z ▸ hb)) e) ha2 (fun k b z=>M.keep kep (to1 k b z)) S3 fun h' tk' f' es' ep' t' ha' S' kept' => ?_
  exact q h' tk' f' es' ep' t' ha' S' fun b o ba bw e=>kept' b o ba bw (same2.extBut _ _ ba (kept1 b o bw e))
theorem jhs (L:Bool) (f:Int×Value→K):SetT M L is f #[] (.fresh 0 0 L) []:=⟨jhN 0 0 L,rfl,(by show 0*5<7*3;decide),(by show 7≤8*0+16;decide),fun e he=>absurd he (by simp),by simp,fun k=>by simp⟩
variable {s:Shared}
theorem jjc {l:Addr} {vs:List Value} {ep:Nat} {T:String} {Q:Option Value→Shared→Prop} (hu:A.units+32<cLine) (calm:A.handled=none) (hT:T= "list" ∨T= "tuple")
 (hl: ∃o,s.heap.get? l=some o∧o.cls= .type T∧ ∃c,o.data= .seq vs.toArray c) (hM: ∀i v,vs[i]? =some v→ ∃b,v= .ref b∧is (key i) b) (to: ∀k b,is k b→M.is s.heap k b) (few:vs.length<1000) (ha:s.heap.get? a=some (jd8 #[] ep (.fresh 0 0 (jea w)))) (la:l≠a)
 (k: ∀h' tk f' es' ep' t',h'.get? a=some (jd8 es' ep' t')→SetT M (jea w) is f' es' t' ((List.range vs.length).map key).reverse→(∀b o,b≠a→s.heap.get? b=some o→h'.get? b=some o)→Q (some .none) {s with heap:=h',toks:=tk}):
 wpAny (model prog w) A (callSpecial? (.ref a) "__init__" [.ref l]) Q E s:=by
 have ty:s.TypeIs (.ref a) "set" :=⟨_,ha,rfl⟩
 refine G01 ty F.called_set.init (G3d (G2y F.called_set.init.plain jeu (jfr ty ?_)))
 have f1:=jgi
 have f2:=jgj
 have f3:=jgR
 have f4:=jgS
 obtain⟨⟨oc,od,odt,osl⟩,hol,hc,c,hd⟩:=hl
 simp only at hc hd
 subst hc hd
 have state:=fun {P:Array (Int×Value)×Nat×SetTable→Shared→Prop} {E' :Value→Shared→Prop} {A' :Around}=>G1r (prog:=prog) (w:=w) (A:=A') (E:=E') (Q:=P) (s:=s) ha rfl (jkb (jea w)).tab.fits
 have far:a≠s.heap.objs.size:=fun z=>G0R _ (z ▸ G0k ha)
 have lfar:l≠s.heap.objs.size:=fun z=>G0R _ (z ▸ G0k hol)
 have na:a ∉ [s.heap.objs.size,l]:=by simp [far,la.symm]
 have sv:vs.toArray.size=vs.length:=G0f ..
 have fin: ∀ {o:Obj} h' tk f' es' ep' t',h'.get? a=some (jd8 es' ep' t')→SetT M (jea w) is f' es' t' ((List.range vs.toArray.size).map key).reverse→(∀b ob,b≠a→b ∉ [s.heap.objs.size]→(s.heap.push o).get? b=some ob→h'.get? b=some ob)→Q (some .none) {s with heap:=h',toks:=tk}:=fun h' tk f' es' ep' t' e S kept=>by
  rw [sv] at S
  exact k h' tk f' es' ep' t' e S fun b ob nb q=>kept b ob nb (fun z=>G0R _ (G0z.mp z ▸ G0k q)) (G0b _ q)
 have to1: ∀ (o:Obj) (k:K) (b:Addr),is k b→M.is (s.heap.push o) k b:=fun o k b z=>M.keep (fun c ob hc e=>G0b _ e) (to k b z)
 rcases hT with rfl|rfl
 ·have tl:s.TypeIs (.ref l) "list" :=⟨_,hol,rfl⟩
  have isl:s.heap.IsList l vs.toArray:=⟨_,hol,rfl,c,rfl⟩
  wp_walk using state,G1X isl
  refine jds (f:=fun _=>key 0) (M:=M) (is:=is) (key:=key) (show A.units+1+16<cLine by omega) (Walks.list (prog:=prog) (w:=w) (A:=A.in1.in1) calm s.heap.objs.size l lfar vs.toArray) (fun i v hv=>hM i v (by simpa using hv)) na (by rw [sv];exact few) (fun i h st b hb o e=> ?_) vs.toArray.size 0 _ #[] ep _ (G2L _) ⟨⟨_,G0m _ rfl,rfl,rfl⟩,⟨_,G0b _ hol,rfl,c,rfl⟩⟩ (G0b _ ha) (to1 _) (jhs _ _) fun h' tk f' es' ep' t' e S kept=>G0c (G0c (fin h' tk f' es' ep' t' e S kept))
  obtain⟨⟨o',e',c',_⟩,_⟩:=st
  rw [G0z.mp hb,e'] at e
  cases e
  rw [c'];decide
 ·have tl:s.TypeIs (.ref l) "tuple" :=⟨_,hol,rfl⟩
  have isl:s.heap.IsTuple l vs.toArray:=⟨_,hol,rfl,c,rfl⟩
  wp_walk using state,G2c isl
  refine jds (f:=fun _=>key 0) (M:=M) (is:=is) (key:=key) (show A.units+1+16<cLine by omega) (Walks.tuple (prog:=prog) (w:=w) (A:=A.in1.in1) calm s.heap.objs.size l lfar vs.toArray) (fun i v hv=>hM i v (by simpa using hv)) na (by rw [sv];exact few) (fun i h st b hb o e=> ?_) vs.toArray.size 0 _ #[] ep _ (G2L _) ⟨⟨_,G0m _ rfl,rfl,rfl⟩,⟨_,G0b _ hol,rfl,c,rfl⟩⟩ (G0b _ ha) (to1 _) (jhs _ _) fun h' tk f' es' ep' t' e S kept=>G0c (G0c (fin h' tk f' es' ep' t' e S kept))
  obtain⟨⟨o',e',c',_⟩,_⟩:=st
  rw [G0z.mp hb,e'] at e
  cases e
  rw [c'];decide
theorem jkj {l:Addr} {vs:List Value} {T:String} {Q:Value→Shared→Prop} (hu:A.units+40<cLine) (calm:A.handled=none) (hT:T= "list" ∨T= "tuple")
 (hl: ∃o,s.heap.get? l=some o∧o.cls= .type T∧ ∃c,o.data= .seq vs.toArray c) (hM: ∀i v,vs[i]? =some v→ ∃b,v= .ref b∧is (key i) b) (to: ∀k b,is k b→M.is s.heap k b) (few:vs.length<1000)
 (k: ∀h' tk f' es' ep' t',h'.get? s.heap.objs.size=some (jd8 es' ep' t')→SetT M (jea w) is f' es' t' ((List.range vs.length).map key).reverse→(∀b o,s.heap.get? b=some o→h'.get? b=some o)→Q (.ref s.heap.objs.size) {s with heap:=h',toks:=tk}):
 wpAny (model prog w) A (call (.type "set") [.ref l]) Q E s:=by
 have fits:checkTypeCall "set" ⟨[.ref l],[]⟩=pure ():=by kernel_rfl
 have newFits:checkBuiltinCall "set.__new__" ⟨[.type "set",.ref l],[]⟩=pure ():=by kernel_rfl
 obtain⟨o,hol,r⟩:=hl
 refine L2.jd5 (Made:=fun v s₁=>v= .ref s.heap.objs.size∧s₁= {s with heap:=s.heap.push (jd8 #[] 0 (.fresh 0 0 (jea w)))}) F.called_set fits
  (G3d (G2y F.called_set.plain F.entry_set_new (wpAny_of_eq newFits (jkc ⟨rfl,rfl⟩)))) fun v s₁ ⟨ev,es⟩=> ?_
 subst ev es
 have at_:(s.heap.push (jd8 #[] 0 (.fresh 0 0 (jea w)))).get? s.heap.objs.size=some (jd8 #[] 0 (.fresh 0 0 (jea w))):=G0m _ rfl
 refine⟨⟨_,at_,rfl⟩,jjc (s:= {s with heap:=s.heap.push (jd8 #[] 0 (.fresh 0 0 (jea w)))}) (M:=M) (is:=is) (key:=key) (show A.units+1+32<cLine by omega) calm hT ⟨o,G0b _ hol,r⟩ hM (fun k b z=>M.keep (fun c o hc e=>G0b _ e) (to k b z)) few at_ (fun z=>G0R _ (z ▸ G0k hol)) fun h' tk f' es' ep' t' e S kept=>⟨rfl,k h' tk f' es' ep' t' e S fun b ob q=>kept b ob (fun z=>G0R _ (z ▸ G0k q)) (G0b _ q)⟩⟩
end
theorem jeV {prog:Program} {w:World}: ∀ {vs:List Value} {ns:List Int},IntsAre vs ns→ItemsAre (intKind prog w) ns vs
 |_,_,.nil=> .nil
 |_,_,.cons n t a=> .cons (by simp [intKind,Value.isInt]) (jeV a)
theorem jnV {X:Cx} {pins:List (Addr×Obj)} {σ:St} {H:Hp} {s:Shared} (I:Inv X pins σ H s) (k:List Int) (b:Addr) (h:H b=some (.tup (k.map V.int))):(jp1 X.prog X.w).is s.heap k b:=by
 obtain⟨_,us,r2,o,e,c,_,n,d⟩:=I.hok b _ h
 exact⟨o,us.toArray,n,e,c,d,jeV (jeM r2)⟩
section
variable {prog:Program} {w:World} {A:Around} {E:Value→Shared→Prop} {s:Shared}
inductive RowsIn (prog:Program) (w:World) (h:Heap):List (List Int)→List Value→Prop
 |nil:RowsIn prog w h [] []
 |cons {r:List Int} {b:Addr} {T:List (List Int)} {vs:List Value}:IsTupleKey (intKind prog w) h r b→RowsIn prog w h T vs→RowsIn prog w h (r::T) (.ref b::vs)
theorem RowsIn.one {h:Heap}: ∀ {T U:List (List Int)} {vs:List Value},RowsIn prog w h T vs→RowsIn prog w h U vs→T=U
 |_,_,_,.nil,.nil=>rfl
 |_,_,_,.cons a x,.cons b y=>by rw [a.inj b,x.one y]
theorem RowsIn.keep {h h' :Heap} (k:ji8 h h'): ∀ {T:List (List Int)} {vs:List Value},RowsIn prog w h T vs→RowsIn prog w h' T vs
 |_,_,.nil=> .nil
 |_,_,.cons ⟨o,items,n,ho,hc,hd,hi⟩ x=> .cons ⟨o,items,n,k _ o hc ho,hc,hd,hi⟩ (x.keep k)
theorem RowsIn.each {h:Heap}: ∀ {T:List (List Int)} {vs:List Value},RowsIn prog w h T vs→ ∀v∈vs,∃r b,v= .ref b∧IsTupleKey (intKind prog w) h r b
 |_,_,.nil,v,hv=>absurd hv G06
 |_,_,.cons a x,v,hv=>by
  rcases G0v.mp hv with e|hv
  ·exact⟨_,_,e,a⟩
  ·exact x.each v hv
def jgY (prog:Program) (w:World) (h:Heap) (T:List (List Int)) (a:Addr):Prop:= ∃o items n,h.get? a=some o∧o.cls= .type "tuple" ∧o.data= .seq items n∧RowsIn prog w h T items.toList
def jl8 (prog:Program) (w:World) (T:List (List Int)):Int:=reduceHash (Builtin.Tuple.tupleHashOf (T.map (tupleKeyHash (intKind prog w))))
theorem jgl {Q:Array Int→Shared→Prop} (hu:A.units+4<cLine): ∀ {vs:List Value} {U:List (List Int)} (b:Array Int) (s1:Shared),s1.heap=s.heap→RowsIn prog w s.heap U vs→(∀tk,Q (b++(U.map (tupleKeyHash (intKind prog w))).toArray) {s1 with toks:=tk})→
 wpAny (model prog w) A (forIn vs b fun x r=>do let h ←pyHash x;pure (ForInStep.yield (r.push h))) Q E s1
 |_,_,b,s1,_,.nil,q=>G0c (by have:=q s1.toks;simpa using this)
 |_,_,b,s1,e1,.cons (r:=r) (T:=U) a x,q=>by
  rw [G19]
  refine wpAny_bind (wpAny_bind (wpAny_pyHash_tuple (by omega) (by rw [e1];exact a) (G0c ?_)))
  exact jgl hu (b.push (tupleKeyHash (intKind prog w) r)) _ e1 x fun tk=>by
   have:=q tk
   rw [G0x] at this
   simpa using this
theorem jkk {T:List (List Int)} {a:Addr} {Q:Int→Shared→Prop} (hu:A.units+8<cLine) (hT:jgY prog w s.heap T a) (q: ∀tk,Q (jl8 prog w T) {s with toks:=tk}):wpAny (model prog w) A (pyHash (.ref a)) Q E s:=by
 obtain⟨o,items,n,ho,hc,hd,hi⟩:=hT
 have ty:s.TypeIs (.ref a) "tuple" :=⟨o,ho,hc⟩
 have room:A.units<cLine:=by omega
 have slot:=fun {M:Model} {A' :Around} {E' :Value→Shared→Prop} {P:Option Value→Shared→Prop}=>G2e (M:=M) (A:=A') (E:=E') (Q:=P) ty F.slot_tuple_hash.lookup
 unfold pyHash pyHashByItsType
 refine wpAny_bind (wpAny_cRoomFor_or (.inr room) (wpAny_bind (slot ?_)))
 rw [if_neg (by simp)]
 refine wpAny_bind (slot (wpAny_bind (wpAny_callSpecialIfBoundUnlessNone?_slot ty F.slot_tuple_hash (G0Z F.slot_tuple_hash ty F.entry_tuple_hash ?_ (F.args_tuple_hash_1 _)))))
 show wpAny _ _ (Builtin.Tuple.tupleItemsOf (.ref a) >>= _) _ _ s
 refine wpAny_bind (wpAny_tupleItemsOf ho hd (wpAny_bind ?_))
 rw [←G1f]
 refine jgl (A:=A.in1) (show A.units+1+4<cLine by omega) #[] s rfl hi fun tk=> ?_
 have told:=q (tk+1)
 unfold jl8 reduceHash at told
 show wpAny _ _ (retInt (Builtin.Tuple.tupleHashOf ((#[]:Array Int)++(T.map (tupleKeyHash (intKind prog w))).toArray).toList)) _ _ _
 rw [show ((#[]:Array Int)++(T.map (tupleKeyHash (intKind prog w))).toArray).toList=T.map (tupleKeyHash (intKind prog w)) by simp]
 refine wpAny_ret_mkInt ?_
 show wpAny _ _ (pyHashByItsType.reduced _) _ _ _
 unfold pyHashByItsType.reduced
 split
 ·rename_i c
  rw [if_pos c] at told
  exact G0c told
 ·rename_i c
  rw [if_neg c] at told
  exact wpAny_bind (G3c (G0c told))
theorem jjd (d:Nat) {x:List Int} {a:Addr} {Q:Bool→Shared→Prop}:IsTupleKey (intKind prog w) s.heap x a→Q true s→wpAny (model prog w) A (eqIsQuiet (d+1) (.ref a)) Q E s
 |⟨_,_,_,ho,hc,hd,hi⟩,q=>by
  unfold eqIsQuiet
  refine wpAny_bind (G2e (T:= "tuple") ⟨_,ho,hc⟩ F.slot_tuple_eq.lookup (wpAny_bind (G2w (T:= "tuple") ⟨_,ho,hc⟩ isSubtype_tuple_tuple ?_)))
  simp only [G2B,G0J,↓reduceIte]
  refine wpAny_bind (G12 ho hd (wpAny_bind ?_))
  simp only [G13,←G1f]
  refine jcF _ (fun v hv Q' q' => ?_) (G0c q)
  rw [eqIsQuiet_byValue d (hi.byValue v hv)]
  exact G0c q'
theorem jje {T:List (List Int)} {a:Addr} {Q:Bool→Shared→Prop}:jgY prog w s.heap T a→Q true s→wpAny (model prog w) A (eqIsQuiet 8 (.ref a)) Q E s
 |⟨_,_,_,ho,hc,hd,hi⟩,q=>by
  unfold eqIsQuiet
  refine wpAny_bind (G2e (T:= "tuple") ⟨_,ho,hc⟩ F.slot_tuple_eq.lookup (wpAny_bind (G2w (T:= "tuple") ⟨_,ho,hc⟩ isSubtype_tuple_tuple ?_)))
  simp only [G2B,G0J,↓reduceIte]
  refine wpAny_bind (G12 ho hd (wpAny_bind ?_))
  simp only [G13,←G1f]
  refine jcF _ (fun v hv Q' q' => ?_) (G0c q)
  obtain⟨r,b,rfl,hr⟩:=hi.each v hv
  exact wpAny_bind (jjd 6 hr (G0c q'))
theorem jl9 {T:List (List Int)} {a:Addr} {Q:Bool→Shared→Prop}:jgY prog w s.heap T a→Q false s→wpAny (model prog w) A (ofAClassStatement 8 (.ref a)) Q E s
 |⟨_,_,_,ho,hc,hd,hi⟩,q=>by
  unfold ofAClassStatement
  refine wpAny_bind (G2K (T:= "tuple") ⟨_,ho,hc⟩ ?_)
  simp only [G1y,↓reduceIte,pure_bind,G2B,G0J]
  refine wpAny_bind (G12 ho hd (wpAny_bind ?_))
  simp only [←G1f]
  refine jcF _ (fun v hv Q' q' => ?_) (G0c q)
  obtain⟨r,b,rfl,hr⟩:=hi.each v hv
  exact wpAny_bind (jja 6 hr (G0c q'))
theorem jma {T:List (List Int)} {a:Addr} {Q:Bool→Shared→Prop}:jgY prog w s.heap T a→Q true s→wpAny (model prog w) A (hashByValue 8 (.ref a)) Q E s
 |⟨_,_,_,ho,hc,hd,hi⟩,q=>by
  unfold hashByValue
  refine wpAny_bind (G2e (T:= "tuple") ⟨_,ho,hc⟩ F.slot_tuple_hash.lookup (wpAny_bind (G12 ho hd (wpAny_bind ?_))))
  simp only [G13,←G1f]
  refine jcF _ (fun v hv Q' q' => ?_) (G0c q)
  obtain⟨r,b,rfl,hr⟩:=hi.each v hv
  exact wpAny_bind (jjb 6 hr (G0c q'))
theorem jeW {h:Heap}: ∀ {ks:List Int} {vs:List Value},ItemsAre (intKind prog w) ks vs→ReadsAll h vs (ks.map PyData.int) []
 |_,_,.nil=> .nil
 |_,_,.cons a x=>by
  obtain⟨tk,rfl⟩:=jkR a
  exact .cons (as:= []) (bs:= []) (.int _ _) (jeW x)
theorem jdt {h:Heap}: ∀ {T:List (List Int)} {vs:List Value},RowsIn prog w h T vs→ReadsAll h vs (T.map jdd) []
 |_,_,.nil=> .nil
 |_,_,.cons ⟨_,_,_,ho,hc,hd,hi⟩ x=> .cons (as:= []) (bs:= []) (.tuple ho hc hd (jeW hi)) (jdt x)
theorem jmb {T U:List (List Int)} {a b:Addr} {Q:Bool→Shared→Prop} (hu:A.units+8<cLine) (hT:jgY prog w s.heap T a) (hU:jgY prog w s.heap U b) (q:Q (decide (T=U)) s):wpAny (model prog w) A (eqBool (.ref a) (.ref b)) Q E s:=by
 obtain⟨_,_,_,ho,hc,hd,hi⟩:=hT
 obtain⟨_,_,_,ho',hc',hd',hi'⟩:=hU
 have lay: ∀V:List (List Int),PyData.canLay0 (.tuple (V.map jdd))=true:=fun V=>by simp only [PyData.canLay0];exact jcq V
 have dep:PyData.depth (.tuple (T.map jdd))≤4:=by simp only [PyData.depth];have:=jce T;omega
 refine eqBoolOverData prog w A E s _ _ _ _ _ _ Q (.tuple ho hc hd (jdt hi)) (.tuple ho' hc' hd' (jdt hi')) (lay T) (lay U) (by have:=Nat.min_le_left (PyData.depth (.tuple (T.map jdd))) (PyData.depth (.tuple (U.map jdd)));omega) ?_
 show Q (PyData.eqvAll (T.map jdd) (U.map jdd)) s
 rw [jaU]
 exact q
def joV (prog:Program) (w:World):MemK prog w (List (List Int)) where
 is:=fun h T a=>jgY prog w h T a
 hash:=jl8 prog w
 inj:=fun ⟨_,_,_,ho,_,hd,hi⟩ ⟨_,_,_,ho',_,hd',hi'⟩=>by
  rw [ho] at ho'
  cases ho'
  rw [hd] at hd'
  cases hd'
  exact hi.one hi'
 keep:=fun k ⟨o,items,n,ho,hc,hd,hi⟩=>⟨o,items,n,k _ o hc ho,hc,hd,hi.keep k⟩
 hashed:=fun hu hk q=>jkk hu hk q
 same:=fun hu hx hy q=>jmb hu hx hy q
 quiet:=fun hk q=>jje hk q
 cls:=fun hk q=>jl9 hk q
 byv:=fun hk q=>jma hk q
end
theorem jgZ {K:Type} [DecidableEq K] {xs ys:List K} (nd:xs.Nodup) (m: ∀x,x∈xs↔x∈ys):xs.length=ys.length↔ys.Nodup:=by
 refine⟨fun e=> ?_,fun h=>Nat.le_antisymm (jcG nd fun x hx=>(m x).mp hx) (jcG h fun x hx=>(m x).mpr hx)⟩
 have key: ∀l:List K,l.Nodup∨ ∃l' :List K,l'.length<l.length∧ ∀x∈l,x∈l' :=by
  intro l
  induction l with
  |nil=>exact .inl List.nodup_nil
  |cons a l ih=>
   by_cases c:a∈l
   ·exact .inr ⟨l,by rw [G0e];omega,fun x hx=>by rcases G0v.mp hx with rfl|hx<;>assumption⟩
   ·rcases ih with z|⟨l',z1,z2⟩
    ·exact .inl (G03.mpr ⟨c,z⟩)
    ·exact .inr ⟨a::l',by rw [G0e,G0e];omega,fun x hx=>by
      rcases G0v.mp hx with rfl|hx
      ·exact G0D
      ·exact G0y _ (z2 x hx)⟩
 rcases key ys with z|⟨l',z1,z2⟩
 ·exact z
 ·have:=jcG nd fun x hx=>z2 x ((m x).mp hx)
  omega
def jkl (H:Hp):List V→List (List Int)→Prop
 | [],[]=>True
 |v::vs,r::T=>(∃c,v= .ref c∧H c=some (.tup (r.map V.int)))∧jkl H vs T
 |_,_=>False
def jmk (H:Hp) (T:List (List Int)) (b:Addr):Prop:= ∃us,H b=some (.tup us)∧jkl H us T
def jht (prog:Program) (w:World) (H:Hp) (o:Obj) (Ts:List (List (List Int))):Prop:= ∃es ep t f,o=jd8 es ep t∧SetT (joV prog w) (jea w) (jmk H) f es t Ts
theorem jjf {X:Cx} {pins:List (Addr×Obj)} {σ:St} {H:Hp} {s:Shared} (I:Inv X pins σ H s): ∀ {vs:List V} {T:List (List Int)} {us:List Value},jkl H vs T→Vals vs us→RowsIn X.prog X.w s.heap T us
 | [],[],_,_,.nil=> .nil
 |_::_,r::_,_,⟨⟨c,e,hc⟩,x⟩,.cons rv y=>by
  subst e
  cases rv
  exact .cons (jnV I r c hc) (jjf I x y)
theorem jnW {X:Cx} {pins:List (Addr×Obj)} {σ:St} {H:Hp} {s:Shared} (I:Inv X pins σ H s) (T:List (List Int)) (b:Addr) (h:jmk H T b):(joV X.prog X.w).is s.heap T b:=by
 obtain⟨us,hb,x⟩:=h
 obtain⟨_,its,rv,o,e,c,_,n,d⟩:=I.hok b _ hb
 exact⟨o,its.toArray,n,e,c,d,by rw [List.toList_toArray];exact jjf I x rv⟩
theorem jg0 {X:Cx} {k:Nat} (hc:X.calm=true) (hr:Room k X.A):CallR X (.type "set") (fun xs H Q=> ∃ (a:Addr) (ps:List (Addr×List (List Int))),xs= [.ref a]∧SqT X.K H a (ps.map fun p=>V.ref p.1)∧ps.length<1000∧(∀p∈ps,jmk H p.2 p.1)∧ ∀ (p:Addr) (o:Obj),H p=none→jht X.prog X.w H o (ps.map (·.2)).reverse→Q (.ref p) (upd H p (.frz o (.own 0)))):=by
 intro pins s σ H xs us Q I r h
 obtain⟨a,ps,rfl,hS,few,ht,q⟩:=h
 obtain⟨u,rfl,ru⟩:=jde r
 cases ru
 obtain⟨its,rv,pl,hz⟩:=I.tuple hS
 have len:its.length=ps.length:=by have:=rv.length;rw [G0a] at this;exact this.symm
 have hu:X.A.units+40<cLine:=by have:=hr.un;omega
 have at_: ∀i v,its[i]? =some v→ ∃b,v= .ref b∧jmk H ((ps.map (·.2)).getD i []) b:=by
  clear hS q few hz pl len
  induction ps generalizing its with
  |nil=>cases rv;exact fun i v e=>by cases e
  |cons p ps ih=>
   rw [G0x] at rv
   cases rv with
   |cons r1 r2=>
    intro i v e
    cases i with
    |zero=>
     cases e
     exact⟨p.1,r1,ht p G0D⟩
    |succ i=>exact ih (fun p hp=>ht p (G0y _ hp)) _ r2 i v e
 have rng:(List.range its.length).map (fun i=>(ps.map (·.2)).getD i [])=ps.map (·.2):=by
  have:=jaX (ps.map (·.2)) ([]:List (List Int))
  rw [G0a] at this
  rw [len];exact this.symm
 obtain⟨o,e1,e2,c,e3⟩:=pl
 refine jkj (M:=joV X.prog X.w) (is:=jmk H) hu (I.ok.hd hc) (.inr rfl) ⟨o,e1,e2,c,e3⟩ at_ (jnW I) (by omega) fun h' tk f es ep t e S kept=> ?_
 rw [rng] at S
 exact⟨.ref _,_,I.laid (t' :=tk) (o:= .frz (jd8 es ep t) (.own 0)) kept (G0d _) ⟨e,⟨_,e⟩⟩,rfl,q _ _ (I.hok.fresh (G0d _)) ⟨es,ep,t,f,rfl,S⟩⟩
theorem jg1 {X:Cx}:CallR X (.builtin "len") (fun xs H Q=> ∃ (p:Addr) (o:Obj) (Ts:List (List (List Int))) (H' :Hp),xs= [.ref p]∧H p=some (.frz o (.own 0))∧jht X.prog X.w H' o Ts∧Ts.length<1000∧ ∀k:Nat,k≤Ts.length→(k=Ts.length↔Ts.Nodup)→Q (.int (k:Int)) H):=by
 intro pins s σ H xs us Q I r h
 obtain⟨p,o,Ts,H',rfl,hp,⟨es,ep,t,f,rfl,S⟩,few,q⟩:=h
 obtain⟨u,rfl,ru⟩:=jde r
 cases ru
 have sz:es.size=(es.toList.map f).length:=by rw [G0a,G0j]
 have le:=S.size
 refine call_len_set (I.hok p _ hp).1 ⟨rfl,rfl,rfl⟩ rfl S.tab.fits (by omega) ?_
 exact⟨.int _,H,I.tok _,⟨_,rfl⟩,q es.size le (by rw [sz];exact jgZ S.nd S.mem)⟩
theorem jjg {K:PySem.W.Frag} {H:Hp}: ∀ {T:List (List Int)} {vs:List V},RelDs K H (T.map jdo) vs→jkl H vs T
 | [],vs,r=>by
  have:vs= []:=r
  subst this;exact True.intro
 |row::T,vs,r=>by
  obtain⟨v,us,e,r1,r2⟩:=(show ∃v r,vs=v::r∧RelD K H (jdo row) v∧RelDs K H (T.map jdo) r from r)
  obtain⟨a,ws,e4,hH,r4⟩:=(show ∃a vs,v= .ref a∧H a=some (.tup vs)∧RelDs K H (row.map D.int) vs from r1)
  rw [jaW r4] at hH
  subst e
  exact⟨⟨a,e4,hH⟩,jjg r2⟩
theorem jjh {K:PySem.W.Frag} {H:Hp}: ∀ {Ts:List (List (List Int))} {vs:List V},RelDs K H (Ts.map jai) vs→ ∃ps:List (Addr×List (List Int)),vs=ps.map (fun p=>V.ref p.1)∧Ts=ps.map (·.2)∧ ∀p∈ps,jmk H p.2 p.1
 | [],vs,r=>⟨[],r,rfl,fun p hp=>by cases hp⟩
 |T::Ts,vs,r=>by
  obtain⟨v,us,e,r1,r2⟩:=(show ∃v r,vs=v::r∧RelD K H (jai T) v∧RelDs K H (Ts.map jai) r from r)
  obtain⟨ps,e1,e2,e3⟩:=jjh r2
  obtain⟨a,ws,e4,hH,r4⟩:=(show ∃a vs,v= .ref a∧H a=some (.tup vs)∧RelDs K H (T.map jdo) vs from r1)
  exact⟨(a,T)::ps,by rw [e,e1,e4];rfl,by rw [e2];rfl,fun p hp=>by
   rcases G0v.mp hp with rfl|hp
   ·exact⟨ws,hH,jjg r4⟩
   ·exact e3 p hp⟩
theorem jhR {α:Type} {l:List α}:l.reverse.Nodup↔l.Nodup:=by
 unfold List.Nodup
 rw [List.pairwise_reverse]
 exact⟨fun h=>h.imp fun z=>z.symm,fun h=>h.imp fun z=>z.symm⟩
def dLT (ta:TAD):TED:=fun σ h Q=>ta σ h fun ds h1=> ∃Ts:List (List (List Int)),ds= [.tup (Ts.map jai)]∧Ts.length<1000∧ ∀k:Nat,k≤Ts.length→(k=Ts.length↔Ts.Nodup)→Q (.int (k:Int)) h1
theorem jlt {X : Cx} {k : Nat} {a : Expr} {ta : TAD} {p p2 pos pos2 : Pos} (hr : Room k X.A) (hc : X.calm = true) (hg : Gl X "len") (hm : X.mg "len" = none) (hg2 : Gl X "set") (hm2 : X.mg "set" = none) (ha : JA X [a] ta) (hs : starEach [a] X.env = [(false, eval a X.env)] := by rfl)
    (h1 : starEach [.Call (.Name "set" p2) [a] [] pos2] X.env = (false, eval (.Call (.Name "set" p2) [a] [] pos2) X.env) :: starEach [] X.env := by rfl) (h2 : (backTo pos (starEach [] X.env)).any (·.1) = false := by rfl) (h3 : (backTo pos2 (starEach [] X.env)).any (·.1) = false := by rfl) :
    JE X (.Call (.Name "len" p) [.Call (.Name "set" p2) [a] [] pos2] [] pos) (dLT ta) :=
  ⟨(je0 jg1 hg hm G0O (jck (jdO (jg0 hc hr) hg2 hm2 (by decide +kernel) ha.to (by decide) (by decide) hs h3) pa_nil h1) (by decide) (by decide) h1 h2).imp
    fun σ H Q ⟨σd, h, Qd, rs, rh, t, post⟩ => LA.bind rs rh t fun ds vs h1 H1 k1 rs1 rh1 r1 ⟨Ts, e, few, q⟩ => by
      subst e
      obtain ⟨v, e, r2⟩ := jav r1
      obtain ⟨a, ws, e1, hH, r3⟩ := (show ∃ a vs, v = .ref a ∧ H1 a = some (.tup vs) ∧ RelDs X.K H1 (Ts.map jai) vs from r2)
      subst e e1
      obtain ⟨ps, rfl, rfl, ht⟩ := jjh r3
      rw [G0a] at few q
      refine ⟨a, ps, rfl, SqT.of hH, few, ht, fun c o hcn S => ⟨c, o, _, H1, rfl, jao, S, by simpa using few, fun k le iff => ?_⟩⟩
      rw [List.length_reverse, G0a] at le iff
      exact post (.int _) _ _ _ (k1.trans (.new hcn)) (rh1.new (o := .frz o (.own 0)) hcn) rfl (q k le (iff.trans jhR))⟩
end L2
namespace L2
open PySem PySem.Spec PyProof.Rows PySem.SeqAt HT
section
variable {n e:Nat} {T:List (List Int)}
def jg2 (n:Nat) (T:List (List Int)) (i k:Nat):Prop:= ∀j,j<n→(RP n T k i j↔RP n T (k+60) i j)
theorem jft {k i j:Nat} (hi:i<n) (hj:j<n):ent (jak n (jbx n T k)) i j=if RP n T k i j then 1 else 0:=by
 rw [jcg hi hj]
 by_cases z:ent (jbx n T k) i j=0
 ·rw [if_pos z,if_neg (show ¬RP n T k i j from fun w=>w z)]
 ·rw [if_neg z,if_pos (show RP n T k i j from z)]
theorem jkm (h:Sq n e T) (h6:n≤6) {m i:Nat} (hm:n≤m) (hi:i<n):jg2 n T i m∨(jat n fun j=>ent (jak n (jbx n T m)) i j)+1≤jat n fun j=>ent (jak n (jbx n T (m+60))) i j:=by
 have le:=fun j hj=>jiS h h6 hm i j hi hj
 by_cases z:(jat n fun j=>ent (jak n (jbx n T (m+60))) i j)≤jat n fun j=>ent (jak n (jbx n T m)) i j
 ·refine .inl fun j hj=> ?_
  have s:=jdr le z j hj
  rw [jft hi hj,jft hi hj] at s
  by_cases a:RP n T m i j
  ·by_cases b:RP n T (m+60) i j
   ·exact⟨fun _=>b,fun _=>a⟩
   ·rw [if_pos a,if_neg b] at s;omega
  ·by_cases b:RP n T (m+60) i j
   ·rw [if_neg a,if_pos b] at s;omega
   ·exact⟨fun w=>absurd w a,fun w=>absurd w b⟩
 ·exact .inr (by have:=jcf le;omega)
theorem jkn (h:Sq n e T) (h6:n≤6) {i k:Nat} (hi:i<n) (r:jg2 n T i k):jg2 n T i (k+1):=fun j hj=>by
 rw [show k+1+60=(k+60)+1 by omega,jd7 h (by omega) k 1 hi hj,jd7 h (by omega) (k+60) 1 hi hj]
 exact⟨fun ⟨l,hl,a,b⟩=>⟨l,hl,(r l hl).mp a,b⟩,fun ⟨l,hl,a,b⟩=>⟨l,hl,(r l hl).mpr a,b⟩⟩
theorem jkS (h:Sq n e T) (h6:n≤6) {i k:Nat} (hi:i<n) (r:jg2 n T i k): ∀d,jg2 n T i (k+d)
 |0=>r
 |d+1=>jkn h h6 hi (jkS h h6 hi r d)
theorem jji (h6:n≤6) {i k:Nat} (hi:i<n):0≤(jat n fun j=>ent (jak n (jbx n T k)) i j)∧(jat n fun j=>ent (jak n (jbx n T k)) i j)≤6:=by
 have a: ∀j,j<n→0≤ent (jak n (jbx n T k)) i j∧ent (jak n (jbx n T k)) i j≤1:=fun j hj=>by
  rw [jcg hi hj];split<;>omega
 refine⟨jcM fun j hj=>(a j hj).1,?_⟩
 have:=jdK (f:=fun j=>ent (jak n (jbx n T k)) i j) fun j hj=>(a j hj).2
 omega
theorem jko (h:Sq n e T) (h6:n≤6) {i:Nat} (hi:i<n):jg2 n T i (n+360):=by
 by_cases z: ∃t:Nat,t≤6∧jg2 n T i (n+60*t)
 ·obtain⟨t,ht,r⟩:=z
  have:=jkS h h6 hi r (60*(6-t))
  rw [show n+60*t+60*(6-t)=n+360 by omega] at this
  exact this
 ·exfalso
  have g: ∀t:Nat,t≤7→(t:Int)≤jat n fun j=>ent (jak n (jbx n T (n+60*t))) i j:=by
   intro t
   induction t with
   |zero=>exact fun _=>(jji h6 hi).1
   |succ t ih=>
    intro ht
    rcases jkm h h6 (m:=n+60*t) (by omega) hi with b|b
    ·exact(z ⟨t,by omega,b⟩).elim
    ·have:=ih (by omega)
     rw [show n+60*(t+1)=n+60*t+60 by omega]
     omega
  have a:=g 7 (G0d _)
  have b:=(jji (T:=T) (k:=n+60*7) h6 hi).2
  omega
theorem jg3 (h:Sq n e T) (h1:1≤n) (h6:n≤6) {L:Nat} (nd:((List.range L).map (jaw n T)).Nodup):L≤426:=by
 refine G11 fun z=> ?_
 have eq:jak n (jbx n T (n+360))=jak n (jbx n T (n+420)):=by
  refine(Sq.mark (n:=n) _).ext (Sq.mark (n:=n) _) fun i j hi hj=> ?_
  rw [jft hi hj,jft hi hj]
  have r:=jko h h6 hi j hj
  rw [show n+360+60=n+420 by omega] at r
  by_cases a:RP n T (n+360) i j
  ·rw [if_pos a,if_pos (r.mp a)]
  ·rw [if_neg a,if_neg fun w=>a (r.mpr w)]
 refine jiU (a:=n+359) (b:=n+419) nd (by omega) (by omega) ?_
 rw [jbB h (by omega),jbB h (by omega)]
 exact eq
end
end L2
namespace My
open PySem L2
def top (i:Nat):Stmt:=PySem.Challenge.pw_firstpowers_k49_whole_calendars.main.body.getD i (.Pass ⟨0,0,0,0⟩)
abbrev jbD:Stmt:=top 7
theorem jg4:FnScope ["thing"] ["thing"] (jab jbD):=⟨rfl,rfl,rfl,by decide +kernel,rfl,by decide +kernel,by decide +kernel⟩
abbrev jbn:Stmt:=top 8
theorem jgm:FnScope ["thing","least","most"] ["thing","least","most"] (jab jbn):=⟨rfl,rfl,rfl,by decide +kernel,rfl,by decide +kernel,by decide +kernel⟩
abbrev jch:Stmt:=top 9
theorem jhS:FnScope ["thing","least"] ["thing","least"] (jab jch):=⟨rfl,rfl,rfl,by decide +kernel,rfl,by decide +kernel,by decide +kernel⟩
abbrev jbE:Stmt:=top 10
theorem jg5:FnScope ["thing","size"] ["thing","size"] (jab jbE):=⟨rfl,rfl,rfl,by decide +kernel,rfl,by decide +kernel,by decide +kernel⟩
abbrev jbb:Stmt:=top 11
theorem sc_are_places:FnScope ["thing","size","each"] ["thing","size"] (jab jbb):=⟨rfl,rfl,rfl,by decide +kernel,rfl,by decide +kernel,by decide +kernel⟩
abbrev jbF:Stmt:=top 12
theorem jg6:FnScope ["thing","size"] ["thing","size"] (jab jbF):=⟨rfl,rfl,rfl,by decide +kernel,rfl,by decide +kernel,by decide +kernel⟩
abbrev jaQ:Stmt:=top 13
theorem sc_is_table_row:FnScope ["thing","size","number"] ["thing","size"] (jab jaQ):=⟨rfl,rfl,rfl,by decide +kernel,rfl,by decide +kernel,by decide +kernel⟩
abbrev jaE:Stmt:=top 14
theorem sc_has_table_form:FnScope ["thing","row"] ["thing"] (jab jaE):=⟨rfl,rfl,rfl,by decide +kernel,rfl,by decide +kernel,by decide +kernel⟩
abbrev jbc:Stmt:=top 15
theorem jfu:FnScope ["thing"] ["thing"] (jab jbc):=⟨rfl,rfl,rfl,by decide +kernel,rfl,by decide +kernel,by decide +kernel⟩
abbrev jbd:Stmt:=top 16
theorem jfv:FnScope ["table","thing"] ["table","thing"] (jab jbd):=⟨rfl,rfl,rfl,by decide +kernel,rfl,by decide +kernel,by decide +kernel⟩
abbrev jaY:Stmt:=top 17
theorem jev:FnScope ["thing","least","most"] ["thing","least","most"] (jab jaY):=⟨rfl,rfl,rfl,by decide +kernel,rfl,by decide +kernel,by decide +kernel⟩
abbrev jbe:Stmt:=top 19
theorem sc_multiplied:FnScope ["one","other","size","row","place","by"] ["one","other"] (jab jbe):=⟨rfl,rfl,rfl,by decide +kernel,rfl,by decide +kernel,by decide +kernel⟩
abbrev jdu:Stmt:=top 21
theorem sc_marks:FnScope ["table","row","number"] ["table"] (jab jdu):=⟨rfl,rfl,rfl,by decide +kernel,rfl,by decide +kernel,by decide +kernel⟩
abbrev jcQ:Stmt:=top 22
theorem sc_turned:FnScope ["table","place","row"] ["table"] (jab jcQ):=⟨rfl,rfl,rfl,by decide +kernel,rfl,by decide +kernel,by decide +kernel⟩
abbrev jci:Stmt:=top 23
theorem sc_renamed:FnScope ["table","order","olds","name","one","other"] ["table","order"] (jab jci):=⟨rfl,rfl,rfl,by decide +kernel,rfl,by decide +kernel,by decide +kernel⟩
abbrev jaZ:Stmt:=top 26
theorem jew:FnScope ["ahead","table"] ["ahead","table"] (jab jaZ):=⟨rfl,rfl,rfl,by decide +kernel,rfl,by decide +kernel,by decide +kernel⟩
abbrev jax:Stmt:=top 27
theorem sc_marks_and_return:FnScope ["table","told","later"] ["table"] (jab jax):=⟨rfl,rfl,rfl,by decide +kernel,rfl,by decide +kernel,by decide +kernel⟩
abbrev jbG:Stmt:=top 28
theorem sc_marks_at:FnScope ["told","back","k","at"] ["told","back","k"] (jab jbG):=⟨rfl,rfl,rfl,by decide +kernel,rfl,by decide +kernel,by decide +kernel⟩
abbrev jbH:Stmt:=top 29
theorem sc_round_of:FnScope ["table","told","back"] ["table"] (jab jbH):=⟨rfl,rfl,rfl,by decide +kernel,rfl,by decide +kernel,by decide +kernel⟩
abbrev jbo:Stmt:=top 30
theorem jgn:FnScope ["table"] ["table"] (jab jbo):=⟨rfl,rfl,rfl,by decide +kernel,rfl,by decide +kernel,by decide +kernel⟩
abbrev jbI:Stmt:=top 31
theorem sc_marks_of:FnScope ["table","k","told","back"] ["table","k"] (jab jbI):=⟨rfl,rfl,rfl,by decide +kernel,rfl,by decide +kernel,by decide +kernel⟩
abbrev jau:Stmt:=top 33
theorem sc_are_unlike_tables:FnScope ["thing","many","size","each"] ["thing","many","size"] (jab jau):=⟨rfl,rfl,rfl,by decide +kernel,rfl,by decide +kernel,by decide +kernel⟩
abbrev jcR:Stmt:=top 34
theorem sc_follow:FnScope ["table","rows","ahead","later"] ["table","rows"] (jab jcR):=⟨rfl,rfl,rfl,by decide +kernel,rfl,by decide +kernel,by decide +kernel⟩
abbrev jaF:Stmt:=top 35
theorem sc_calendar_holds:FnScope ["table","thing","ahead","long","rows"] ["table","thing"] (jab jaF):=⟨rfl,rfl,rfl,by decide +kernel,rfl,by decide +kernel,by decide +kernel⟩
abbrev jbp:Stmt:=top 37
theorem jgo:FnScope ["_law_script","_law_k"] ["_law_script","_law_k"] (jab jbp):=⟨rfl,rfl,rfl,by decide +kernel,rfl,by decide +kernel,by decide +kernel⟩
abbrev jbJ:Stmt:=top 38
theorem sc__law_pen:FnScope ["_law_cell_here","_law_left"] ["_law_cell_here"] (jab jbJ):=⟨rfl,rfl,rfl,by decide +kernel,rfl,by decide +kernel,by decide +kernel⟩
abbrev jbq:Stmt:=top 39
theorem sc__law_draw:FnScope ["_law_pen_here","_law_many","_law_left","_law_found","_law_stir"] ["_law_pen_here","_law_many"] (jab jbq):=⟨rfl,rfl,rfl,by decide +kernel,rfl,by decide +kernel,by decide +kernel⟩
abbrev jbr:Stmt:=top 40
theorem jgp:FnScope ["_law_pen_here"] ["_law_pen_here"] (jab jbr):=⟨rfl,rfl,rfl,by decide +kernel,rfl,by decide +kernel,by decide +kernel⟩
abbrev jbf:Stmt:=top 41
theorem sc__law_table:FnScope ["_law_pen_here","_law_size_here","_law_way","_law_often","_law_most","_law_rows","_law_one","_law_row","_law_other","_law_goes"] ["_law_pen_here","_law_size_here"] (jab jbf):=⟨rfl,rfl,rfl,by decide +kernel,rfl,by decide +kernel,by decide +kernel⟩
abbrev jbg:Stmt:=top 42
theorem sc__law_order:FnScope ["_law_pen_here","_law_many","_law_found","_law_what"] ["_law_pen_here","_law_many"] (jab jbg):=⟨rfl,rfl,rfl,by decide +kernel,rfl,by decide +kernel,by decide +kernel⟩
abbrev jfw:Stmt:=top 43
theorem sc_law:FnScope ["_law_script","_law_cell_here","_law_pen_here","_law_size_here","_law_table_here","_law_other","_law_ahead","_law_long","_law_rows","_law_paper","_law_some","_law_k"] ["_law_script"] (jab jfw):=⟨rfl,rfl,rfl,by decide +kernel,rfl,by decide +kernel,by decide +kernel⟩
section
variable {P:Program} {w:World} {K:PySem.W.Frag} {mg:Str→Option Value} {base:Heap}
/-- no def is asked of the script's list: a thing -/
def jjj:D→Bool
 | .int _=>true
 |_=>false
/-- a row of so many numbers from 0 on -/
def jn5:D→Bool
 | .int i=>decide (0≤i)
 |_=>false
def jkT (d:D) (k:Int):Bool:=match d with
 | .tup ds=>decide ((ds.length:Int)=k)&&ds.all jn5
 |_=>false
/-! every part has a kind that is told,and no tuple is long -/
mutual
def okD:D→Bool
 | .scr _=>false| .exc _=>false| .fn _=>false
 | .tup ds=>decide (ds.length≤1000)&&okDs ds
 |_=>true
def okDs:List D→Bool
 | []=>true
 |d::ds=>okD d&&okDs ds
end
theorem jhu: ∀ {ds:List D},okDs ds=true→ ∀d∈ds,okD d=true
 |d::ds,h,x,hx=>by
  have h' :(okD d&&okDs ds)=true:=h
  rw [G1q] at h'
  rcases G0v.mp hx with e|e
  ·subst e;exact h'.1
  ·exact jhu h'.2 x e
theorem jjk: ∀ {ds:List D},(∀d∈ds,okD d=true)→okDs ds=true
 | [],_=>rfl
 |d::ds,h=>by
  show (okD d&&okDs ds)=true
  rw [h d G0D,jjk fun x hx=>h x (G0y _ hx)];rfl
theorem jg7 {ds:List D} (h:okD (.tup ds)=true):ds.length≤1000∧ ∀d∈ds,okD d=true:=by
 have h' :(decide (ds.length≤1000)&&okDs ds)=true:=h
 rw [G1q] at h'
 exact⟨G2U h'.1,jhu h'.2⟩
theorem jhv {ds:List D} (h:ds.length≤1000) (h2: ∀d∈ds,okD d=true):okD (.tup ds)=true:=by
 show (decide (ds.length≤1000)&&okDs ds)=true
 rw [G0r h,jjk h2];rfl
theorem jdj {d:D} (h:okD d=true): ∃n,jfT d=some n:=by
 cases d<;>first|exact⟨_,rfl⟩|cases h
/-- a table -/
def jml:D→Bool
 | .tup rs=>decide (1≤rs.length)&&decide (rs.length≤6)&&rs.all fun r=>jkT r rs.length
 |_=>false
def jbN:RDn:=fun ds h Q=> ∃d n,ds= [d]∧jfT d=some n∧Q (.bl (jjj d)) h
set_option maxHeartbeats 2000000 in
theorem jg8 {n:Nat} {f:Addr} {fd:FuncData} (Z:Zs mg) (F:Fun K "is_whole" "is_whole" jbD f fd):FnOk P w K mg base CX0 (n+1) f fd ["thing"] (LSp K jbN):=by
 refine F.okJ jg4 (fun ds h Q q=>by obtain⟨d,nm,e,hn,q⟩:=q;subst e;rfl) _ (fun cdv A outer s H E hr=>(jag (jbQ (jjr (jgJ (T:= "int") (by decide) rfl Z.isinstance rfl Z.int (by decide +kernel) (jv 0)) (jhV (jpQ (jgJ (T:= "bool") (by decide) rfl Z.isinstance rfl Z.bool (by decide +kernel) (jv 0)))))))) ?_
 intro ds h Q q
 obtain⟨d,nm,e,hn,q⟩:=q
 subst e
 simp only [jdC,Nxt,jef,jel,jcy,jbU,jbm,dOp,jaS,dIs,jei,dCB,jbi,jdn,jen,jcz,dC,jbX,ja9,jeo,jep,jeq,jbY,jej,jek,jbV,jem,jbW,dIf,dUn,jfD,dSl,jaH,jb9,jeI,jbj,gN,gT2,jb8,je7,je8,jeJ,jeE,jfj,je9,jcm,jfa,jeg,eqD,neD,eqE,neE,isV,isN,jes,jaK,jeO,jeP,jca,ixD,jeF,jeG,jeH,jaR,ja8,ja1,jb7,jeK,slD,jer,jaT,G0x,G0Q,G0e,G0H,List.replicate,G0F,G0G,G0A,G0B,G0p,G0l,G0E,G0K,D.bl.injEq,D.lst.injEq,hn]
 cases d<;>cases hn<;>exact⟨h,Sub.refl h,q⟩
def jbR:RDn:=fun ds h Q=> ∃d,∃a b:Int,ds= [d,.int a,.int b]∧okD d=true∧Q (.bl (jc4 d a b)) h
set_option maxHeartbeats 2000000 in
theorem jgq {n:Nat} {f:Addr} {fd:FuncData} (Z:Zs mg) (F:Fun K "is_within" "is_within" jbn f fd) (C_is_whole:jae P w K mg base n "is_whole" ["thing"] jbN):FnOk P w K mg base CX0 (n+1) f fd ["thing","least","most"] (LSp K jbR):=by
 obtain⟨g_G_is_whole,gd_G_is_whole,G_is_whole,bG_is_whole,kG_is_whole,mG_is_whole⟩:=C_is_whole
 refine F.okJ jgm (fun ds h Q q=>by obtain⟨d,a,b,e,ok,q⟩:=q;subst e;rfl) _ (fun cdv A outer s H E hr=>(jag (jbQ (jjr (jap G_is_whole hr rfl mG_is_whole kG_is_whole bG_is_whole (jac (jv 0) jaa)) (jhV (jnC jjJ jjJ (jv 1) (jv 0) (jv 2))))))) ?_
 intro ds h Q q
 obtain⟨d,a,b,e,ok,q⟩:=q
 subst e
 obtain⟨nm,hn⟩:=jdj ok
 refine⟨_,rfl,d,nm,rfl,hn,jjj d,rfl,?_⟩
 cases d with
 |int x=>
  refine jjp ⟨_,rfl,_,rfl,_,rfl,?_⟩
  show if decide (a≤x)=true then _ else _
  by_cases h1:a≤x
  ·rw [G0r h1]
   simp only [jc4,G0r h1,G3q] at q
   exact jjp ⟨_,rfl,h,Sub.refl h,q⟩
  ·rw [G0S h1]
   simp only [jc4,G0S h1,G3h] at q
   exact jdB ⟨h,Sub.refl h,q⟩
 |_=>exact jdB ⟨h,Sub.refl h,q⟩
def jdv:RDn:=fun ds h Q=> ∃k a:Int,ds= [.int k,.int a]∧Q (.bl (decide (a≤k))) h
set_option maxHeartbeats 2000000 in
theorem jhT {n:Nat} {f:Addr} {fd:FuncData} (Z:Zs mg) (F:Fun K "is_from" "is_from" jch f fd) (C_is_whole:jae P w K mg base n "is_whole" ["thing"] jbN):FnOk P w K mg base CX0 (n+1) f fd ["thing","least"] (LSp K jdv):=by
 obtain⟨g_G_is_whole,gd_G_is_whole,G_is_whole,bG_is_whole,kG_is_whole,mG_is_whole⟩:=C_is_whole
 refine F.okJ jhS (fun ds h Q q=>by obtain⟨k,a,e,q⟩:=q;subst e;rfl) _ (fun cdv A outer s H E hr=>(jag (jbQ (jjr (jap G_is_whole hr rfl mG_is_whole kG_is_whole bG_is_whole (jac (jv 0) jaa)) (jhV (jgI jjK (jv 0) (jv 1) (jaC _))))))) ?_
 intro ds h Q q
 obtain⟨k,a,e,q⟩:=q
 subst e
 refine⟨_,rfl,.int k,"int",rfl,rfl,_,rfl,jjp ⟨_,rfl,_,rfl,h,Sub.refl h,q⟩⟩
def jc6:RDn:=fun ds h Q=> ∃d,∃n:Int,ds= [d,.int n]∧okD d=true∧Q (.bl (jc4 d 0 (n-1))) h
set_option maxHeartbeats 2000000 in
theorem jg9 {n:Nat} {f:Addr} {fd:FuncData} (Z:Zs mg) (F:Fun K "is_place" "is_place" jbE f fd) (C_is_within:jae P w K mg base n "is_within" ["thing","least","most"] jbR):FnOk P w K mg base CX0 (n+1) f fd ["thing","size"] (LSp K jc6):=by
 obtain⟨g_G_is_within,gd_G_is_within,G_is_within,bG_is_within,kG_is_within,mG_is_within⟩:=C_is_within
 refine F.okJ jg5 (fun ds h Q q=>by obtain⟨d,k,e,ok,q⟩:=q;subst e;rfl) _ (fun cdv A outer s H E hr=>(jag (jbQ (jap G_is_within hr rfl mG_is_within kG_is_within bG_is_within (jac (jv 0) (by exact(jac jaI (by exact(jac (jop jcW (jv 1) jaI) jaa))))))))) ?_
 intro ds h Q q
 obtain⟨d,k,e,ok,q⟩:=q
 subst e
 exact⟨_,rfl,_,rfl,d,0,k-1,rfl,ok,h,Sub.refl h,q⟩
def jcs:RDn:=fun ds h Q=> ∃d,∃n:Int,ds= [d,.int n]∧okD d=true∧Q (.bl (jfn d n)) h
set_option maxHeartbeats 2000000 in
theorem jfx {n:Nat} {f:Addr} {fd:FuncData} (Z:Zs mg) (F:Fun K "are_places" "are_places" jbb f fd) (C_is_place:jae P w K mg base n "is_place" ["thing","size"] jc6):FnOk P w K mg base CX0 (n+1) f fd ["thing","size"] (LSp K jcs):=by
 obtain⟨g_G_is_place,gd_G_is_place,G_is_place,bG_is_place,kG_is_place,mG_is_place⟩:=C_is_place
 refine F.okJ sc_are_places (fun ds h Q q=>by obtain⟨d,k,e,ok,q⟩:=q;subst e;rfl) _ (fun cdv A outer s H E hr=>(jag (jbQ (jjr (jgJ (T:= "tuple") (by decide) rfl Z.isinstance rfl Z.tuple (by decide +kernel) (jv 0)) (jhV (jaN (jfU rfl) rfl Z.all G1B (jac (jlc (i:=2) (js:= [2]) rfl (jaq (by rfl)) (jcX (jv 0)) (by decide) sc_are_places.nd rfl (by first|exact Or.inl rfl|exact Or.inr rfl) (fun X' hX=>ja3) (fun X' hX=>by obtain⟨C,s₀,H₀,ex,rfl⟩:=hX;exact(jap G_is_place hr rfl mG_is_place kG_is_place bG_is_place (jac (jv 2) (by exact(jac (jv 1) jaa)))))) jaa))))))) ?_
 intro ds h Q q
 obtain⟨d,k,e,ok,q⟩:=q
 subst e
 obtain⟨nm,hn⟩:=jdj ok
 refine⟨_,rfl,nm,hn,?_⟩
 cases d with
 |tup es=>
  cases hn
  obtain⟨hl,ht⟩:=jg7 ok
  refine⟨_,rfl,jjp ?_⟩
  exact jpi es (fun x=>x) (fun x=>jc4 x 0 (k-1)) hl (by rw [List.map_id']) (fun R r=>⟨_,rfl,r⟩) (fun x hx Q' q' =>⟨_,rfl,_,rfl,x,k,rfl,ht x hx,q'⟩) ⟨h,Sub.refl h,q⟩
 |_=>cases hn<;>exact⟨_,rfl,jdB ⟨h,Sub.refl h,q⟩⟩
theorem jeX: ∀ {a b:List PyData},PyData.eqvAll a b=true→a.length=b.length
 | [],[],_=>rfl
 | [],_::_,h=>by simp [PyData.eqvAll] at h
 |_::_,[],h=>by simp [PyData.eqvAll] at h
 |x::a,y::b,h=>by
  have h2:(PyData.eqv x y&&PyData.eqvAll a b)=true:=h
  rw [G0e,G0e,jeX (Bool.and_eq_true_iff.mp h2).2]
def jp2 (n:Nat) (d:D):Prop:=(okD d=true∧jfn d (n:Int)=false)∨ ∃o:List Nat,d=jgw o∧(∀x∈o,x<n)∧o.length≤60∧o.length≠n
def jc7:RDn:=fun ds h Q=> ∃d,∃n:Nat,ds= [d,.int (n:Int)]∧n≤6∧((∃o,d=jgw o∧Ordr n o∧Q (.bl true) h)∨(jp2 n d∧Q (.bl false) h))
set_option maxHeartbeats 2000000 in
theorem jha {n:Nat} {f:Addr} {fd:FuncData} (Z:Zs mg) (F:Fun K "is_order" "is_order" jbF f fd) (C_are_places:jae P w K mg base n "are_places" ["thing","size"] jcs):FnOk P w K mg base CX0 (n+1) f fd ["thing","size"] (LSp K jc7):=by
 obtain⟨g_G_are_places,gd_G_are_places,G_are_places,bG_are_places,kG_are_places,mG_are_places⟩:=C_are_places
 refine F.okJ jg6 (fun ds h Q q=>by obtain⟨d,k,e,hk,q⟩:=q;subst e;rfl) _ (fun cdv A outer s H E hr=>(jag (jbQ (jjr (jap G_are_places hr rfl mG_are_places kG_are_places bG_are_places (jac (jv 0) (by exact(jac (jv 1) jaa)))) (jhV (jgI (jeL hr.units) (jaN jiy rfl Z.sorted (by decide +kernel) (jac (jv 0) jaa)) (joO rfl rfl Z.list rfl Z.range (jac (jv 1) jaa)) (jaC _))))))) ?_
 intro ds h Q q
 obtain⟨d,k,e,hk,q⟩:=q
 subst e
 rcases q with ⟨o,rfl,ho,q⟩|⟨⟨ok,bad⟩|⟨o,rfl,hlt,hle,hne⟩,q⟩
 ·have hlen:o.length=k:=ho.ord.len
  have hle:o.length≤60:=by omega
  have hlt: ∀x∈o,x<k:=fun x hx=>G0q.mp (ho.mem_iff.mp hx)
  have okO:okD (jgw o)=true:=jhv (by rw [G0a];omega) fun d hd=>by obtain⟨x,_,rfl⟩:=G0M.mp hd;rfl
  have plO:jfn (jgw o) (k:Int)=true:=by
   show (o.map _).all _=true
   rw [G00];intro x hx;obtain⟨i,hi,rfl⟩:=G0M.mp hx;have:=hlt i hi
   show (decide ((0:Int)≤(i:Int))&&decide ((i:Int)≤(k:Int)-1))=true
   rw [G0r (show (0:Int)≤(i:Int) by omega),G0r (show (i:Int)≤(k:Int)-1 by omega)];rfl
  have hlc:(jbv o).length≤60:=by unfold jbv;rw [List.length_map];exact hle
  refine⟨_,rfl,_,rfl,jgw o,(k:Int),rfl,okO,?_⟩
  rw [plO]
  refine⟨_,rfl,jjp ⟨_,rfl,jbv o,Or.inl (by rw [jgL]),by omega,fun p1 ns' e1 hp hpw=>⟨_,rfl,k,rfl,by omega,fun p2 e2=> ?_⟩⟩⟩
  have er:((List.range k).map fun (i:Nat)=>D.int (i:Int))=(jbv (List.range k)).map D.int:=by unfold jbv;rw [List.map_map];rfl
  refine⟨.list (ns'.map .int),.list ((jbv (List.range k)).map .int),⟨p1,_,rfl,jaV jad e2,jcd _ _⟩,⟨p2,_,rfl,by rw [jad,er],jcd _ _⟩,jco _,jco _,h,Sub.newAt (Sub.newAt (Sub.refl h) e1) e2,?_⟩
  have ee:PyData.eqv (.list (ns'.map .int)) (.list ((jbv (List.range k)).map .int))=true:=by
   have es:ns' =jbv (List.range k):=List.Perm.eq_of_pairwise (le:=fun (x y:Int)=>x≤y) (fun _ _ _ _ a b=>Int.le_antisymm a b) hpw (jf5 k) (hp.trans (ho.map _))
   rw [es];exact jc2 _
  rw [ee];exact q
 ·refine⟨_,rfl,_,rfl,d,(k:Int),rfl,ok,?_⟩
  rw [bad]
  exact⟨_,rfl,jdB ⟨h,Sub.refl h,q⟩⟩
 ·skip
  have okO:okD (jgw o)=true:=jhv (by rw [G0a];omega) fun d hd=>by obtain⟨x,_,rfl⟩:=G0M.mp hd;rfl
  have plO:jfn (jgw o) (k:Int)=true:=by
   show (o.map _).all _=true
   rw [G00];intro x hx;obtain⟨i,hi,rfl⟩:=G0M.mp hx;have:=hlt i hi
   show (decide ((0:Int)≤(i:Int))&&decide ((i:Int)≤(k:Int)-1))=true
   rw [G0r (show (0:Int)≤(i:Int) by omega),G0r (show (i:Int)≤(k:Int)-1 by omega)];rfl
  have hlc:(jbv o).length≤60:=by unfold jbv;rw [List.length_map];exact hle
  refine⟨_,rfl,_,rfl,jgw o,(k:Int),rfl,okO,?_⟩
  rw [plO]
  refine⟨_,rfl,jjp ⟨_,rfl,jbv o,Or.inl (by rw [jgL]),by omega,fun p1 ns' e1 hp hpw=>⟨_,rfl,k,rfl,by omega,fun p2 e2=> ?_⟩⟩⟩
  have er:((List.range k).map fun (i:Nat)=>D.int (i:Int))=(jbv (List.range k)).map D.int:=by unfold jbv;rw [List.map_map];rfl
  refine⟨.list (ns'.map .int),.list ((jbv (List.range k)).map .int),⟨p1,_,rfl,jaV jad e2,jcd _ _⟩,⟨p2,_,rfl,by rw [jad,er],jcd _ _⟩,jco _,jco _,h,Sub.newAt (Sub.newAt (Sub.refl h) e1) e2,?_⟩
  have ee:PyData.eqv (.list (ns'.map .int)) (.list ((jbv (List.range k)).map .int))=false:=by
   cases hb:PyData.eqv (.list (ns'.map .int)) (.list ((jbv (List.range k)).map .int)) with
   |false=>rfl
   |true=>
    have:=jeX (show PyData.eqvAll (ns'.map .int) ((jbv (List.range k)).map .int)=true from hb)
    rw [G0a,G0a,hp.length_eq] at this
    unfold jbv at this
    rw [G0a,G0a,G0h] at this
    exact absurd this hne
  rw [ee];exact q
def jbO:RDn:=fun ds h Q=> ∃d k,ds= [d,.int k]∧okD d=true∧Q (.bl (jkT d k)) h
set_option maxHeartbeats 2000000 in
theorem jec {n:Nat} {f:Addr} {fd:FuncData} (Z:Zs mg) (F:Fun K "is_table_row" "is_table_row" jaQ f fd) (C_is_whole:jae P w K mg base n "is_whole" ["thing"] jbN):FnOk P w K mg base CX0 (n+1) f fd ["thing","size"] (LSp K jbO):=by
 obtain⟨g_G_is_whole,gd_G_is_whole,G_is_whole,bG_is_whole,kG_is_whole,mG_is_whole⟩:=C_is_whole
 refine F.okJ sc_is_table_row (fun ds h Q q=>by obtain⟨d,k,e,ok,q⟩:=q;subst e;rfl) _ (fun cdv A outer s H E hr=>(jaf (jeh (jpt (jlJ (jc1 (jdg (jgJ (T:= "tuple") (by decide) rfl Z.isinstance rfl Z.tuple (by decide +kernel) (jv 0)))) (jlI (jcT oq_ne (jaN jbz rfl Z.len G0O (jac (jv 0) jaa)) (jv 1) (jaC _))))) (jag (jbQ jbl)) ja2) (by exact(jag (jbQ (jaN (jfU rfl) rfl Z.all G1B (jac (jlc (i:=2) (js:= [2]) rfl (jaq (by rfl)) (jcX (jv 0)) (by decide) sc_is_table_row.nd rfl (by first|exact Or.inl rfl|exact Or.inr rfl) (fun X' hX=>ja3) (fun X' hX=>by obtain⟨C,s₀,H₀,ex,rfl⟩:=hX;exact(jjr (jap G_is_whole hr rfl mG_is_whole kG_is_whole bG_is_whole (jac (jv 2) jaa)) (jhV (jgI jjK (jv 2) jaI (jaC _)))))) jaa))))))) ?_
 intro ds h Q q
 obtain⟨d,k,e,ok,q⟩:=q
 subst e
 obtain⟨nm,hn⟩:=jdj ok
 simp only [jdC,Nxt,jef,jel,jcy,jbU,jbm,dOp,jaS,dIs,jei,dCB,jbi,jdn,jen,jcz,dC,jbX,ja9,jeo,jep,jeq,jbY,jej,jek,jbV,jem,jbW,dIf,dUn,jfD,dSl,jaH,jb9,jeI,jbj,gN,gT2,jb8,je7,je8,jeJ,jeE,jfj,je9,jcm,jfa,jeg,eqD,neD,eqE,neE,isV,isN,jes,jaK,jeO,jeP,jca,ixD,jeF,jeG,jeH,jaR,ja8,ja1,jb7,jeK,slD,jer,jaT,G0x,G0Q,G0e,G0H,List.replicate,G0F,G0G,G0A,G0B,G0p,G0l,G0E,G0K,D.bl.injEq,D.lst.injEq,hn]
 cases d with
 |tup es=>
  cases hn
  obtain⟨hl,ht⟩:=jg7 ok
  simp only [jno]
  by_cases hk:(es.length:Int)=k
  ·simp only [hk]
   simp
   refine jit (ds:=es) (h1:=h) (j:=fun _=>some es) (fun x=> .bl (jn5 x)) (G0Y (jbK hl)) rfl (fun R r=>⟨.tup es,rfl,r⟩) (fun d hd Q' q' => ?_) (fun p hp=> ?_)
   ·obtain⟨nn,hnn⟩:=jdj (ht d hd)
    refine⟨d,rfl,d,nn,rfl,hnn,jjj d,rfl,?_⟩
    cases d with
    |int i=>exact jjp ⟨.int i,rfl,q'⟩
    |_=>exact jdB q'
   ·refine⟨p,es.map jn5,rfl,by rw [jad];simp,h,?_,?_⟩
    ·rw [jb3 hp];exact Sub.refl h
    ·simpa [jkT,hk,G15,G2n] using q
  ·simp [hk]
   exact⟨h,Sub.refl h,by simpa [jkT,hk] using q⟩
 |_=>cases hn<;>exact⟨h,Sub.refl h,q⟩
def ja0:RDn:=fun ds h Q=> ∃d,ds= [d]∧okD d=true∧Q (.bl (jml d)) h
set_option maxHeartbeats 2000000 in
theorem jdw {n:Nat} {f:Addr} {fd:FuncData} (Z:Zs mg) (F:Fun K "has_table_form" "has_table_form" jaE f fd) (C_is_table_row:jae P w K mg base n "is_table_row" ["thing","size"] jbO) (M_MOST_ROWS: ∃tk,mg "MOST_ROWS" =some (.int 6 tk)):FnOk P w K mg base CX0 (n+1) f fd ["thing"] (LSp K ja0):=by
 obtain⟨g_G_is_table_row,gd_G_is_table_row,G_is_table_row,bG_is_table_row,kG_is_table_row,mG_is_table_row⟩:=C_is_table_row
 obtain⟨tk_MOST_ROWS,m_MOST_ROWS⟩:=M_MOST_ROWS
 refine F.okJ sc_has_table_form (fun ds h Q q=>by obtain⟨d,e,ok,q⟩:=q;subst e;rfl) _ (fun cdv A outer s H E hr=>(jaf (jeh (jpt (jlJ (jc1 (jdg (jgJ (T:= "tuple") (by decide) rfl Z.isinstance rfl Z.tuple (by decide +kernel) (jv 0)))) (jlI (jc1 (jlH jjJ jjJ jaI (jaN jbz rfl Z.len G0O (jac (jv 0) jaa)) (jnB rfl m_MOST_ROWS)))))) (jag (jbQ jbl)) ja2) (by exact(jag (jbQ (jaN (jfU rfl) rfl Z.all G1B (jac (jlc (i:=1) (js:= [1]) rfl (jaq (by rfl)) (jcX (jv 0)) (by decide) sc_has_table_form.nd rfl (by first|exact Or.inl rfl|exact Or.inr rfl) (fun X' hX=>ja3) (fun X' hX=>by obtain⟨C,s₀,H₀,ex,rfl⟩:=hX;exact(jap G_is_table_row hr rfl mG_is_table_row kG_is_table_row bG_is_table_row (jac (jv 1) (by exact(jac (jaN jbz rfl Z.len G0O (jac (jv 0) jaa)) jaa)))))) jaa))))))) ?_
 intro ds h Q q
 obtain⟨d,e,ok,q⟩:=q
 subst e
 obtain⟨nm,hn⟩:=jdj ok
 simp only [jdC,Nxt,jef,jel,jcy,jbU,jbm,dOp,jaS,dIs,jei,dCB,jbi,jdn,jen,jcz,dC,jbX,ja9,jeo,jep,jeq,jbY,jej,jek,jbV,jem,jbW,dIf,dUn,jfD,dSl,jaH,jb9,jeI,jbj,gN,gT2,jb8,je7,je8,jeJ,jeE,jfj,je9,jcm,jfa,jeg,eqD,neD,eqE,neE,isV,isN,jes,jaK,jeO,jeP,jca,ixD,jeF,jeG,jeH,jaR,ja8,ja1,jb7,jeK,slD,jer,jaT,G0x,G0Q,G0e,G0H,List.replicate,G0F,G0G,G0A,G0B,G0p,G0l,G0E,G0K,D.bl.injEq,D.lst.injEq,hn]
 cases d with
 |tup es=>
  cases hn
  obtain⟨hl,ht⟩:=jg7 ok
  simp only [jno]
  by_cases h1:1≤es.length
  ·by_cases h6:es.length≤6
   ·have h1' :(1:Int)≤es.length:=by omega
    have h6' :(es.length:Int)≤6:=by omega
    simp [h1',h6']
    refine jit (ds:=es) (h1:=h) (j:=fun _=>some es) (fun x=> .bl (jkT x es.length)) (G0Y (jbK hl)) rfl (fun R r=>⟨.tup es,rfl,r⟩) (fun d hd Q' q' => ?_) (fun p hp=> ?_)
    ·exact⟨d,rfl,.tup es,rfl,d,es.length,rfl,ht d hd,q'⟩
    ·refine⟨p,es.map fun x=>jkT x es.length,rfl,by rw [jad];simp,h,?_,?_⟩
     ·rw [jb3 hp];exact Sub.refl h
     ·simpa [jml,h1,h6,G15,G2n] using q
   ·have h1' :(1:Int)≤es.length:=by omega
    have h6' : ¬ (es.length:Int)≤6:=by omega
    simp [h1',h6']
    exact⟨h,Sub.refl h,by simpa [jml,h1,h6] using q⟩
  ·have h1' : ¬ (1:Int)≤es.length:=by omega
   simp [h1']
   exact⟨h,Sub.refl h,by simpa [jml,h1] using q⟩
 |_=>cases hn<;>exact⟨h,Sub.refl h,q⟩
theorem jmc {x:Int} (h:0≤x):jn5 (.int x)=true:=G0r h
theorem jmd {n e:Nat} {T:List (List Int)} (h:Sq n e T) {r:List Int} (hr:r∈T):jkT (jdo r) n=true:=by
 simp only [jkT,jdo,G0a,h.row r hr,decide_true,G3q,G15,G00,G1m]
 intro x hx;exact jmc (h.nn r hr x hx)
theorem jjl {n e:Nat} {T:List (List Int)} (h:Sq n e T) (h1:1≤n) (h6:n≤6):jml (jai T)=true:=by
 simp only [jml,jai,G0a,h.len,G0r h1,G0r h6,G3q,G15,G00,G1m]
 intro r hr;exact jmd h hr
theorem jkU {n e:Nat} {T:List (List Int)} (h:Sq n e T) (h6:n≤6):okD (jai T)=true:=
 jhv (by rw [G0a,h.len];omega) fun d hd=>by
  obtain⟨r,hr,rfl⟩:=G0M.mp hd
  exact jhv (by rw [G0a,h.row r hr];omega) fun d hd=>by obtain⟨x,_,rfl⟩:=G0M.mp hd;rfl
def jaM:RDn:=fun ds h Q=> ∃T,∃n e:Nat,ds= [jai T]∧Sq n e T∧1≤n∧n≤6∧Q .non h
set_option maxHeartbeats 2000000 in
theorem jfy {n:Nat} {f:Addr} {fd:FuncData} (Z:Zs mg) (F:Fun K "want_table" "want_table" jbc f fd) (C_has_table_form:jae P w K mg base n "has_table_form" ["thing"] ja0):FnOk P w K mg base CX0 (n+1) f fd ["thing"] (LSp K jaM):=by
 obtain⟨g_G_has_table_form,gd_G_has_table_form,G_has_table_form,bG_has_table_form,kG_has_table_form,mG_has_table_form⟩:=C_has_table_form
 refine F.okJ jfu (fun ds h Q q=>by obtain⟨T,k,b,e,hT,h1,h6,q⟩:=q;subst e;rfl) _ (fun cdv A outer s H E hr=>(jag (jeh (jc1 (jdg (jap G_has_table_form hr rfl mG_has_table_form kG_has_table_form bG_has_table_form (jac (jv 0) jaa)))) (jag jiB) ja2))) ?_
 intro ds h Q q
 obtain⟨T,k,b,e,hT,h1,h6,q⟩:=q
 subst e
 refine⟨_,rfl,jai T,rfl,jkU hT h6,_,rfl,?_⟩
 rw [jjl hT h1 h6]
 exact jdB ⟨h,Sub.refl h,q⟩
def jct:RDn:=fun ds h Q=> ∃ (T:List (List Int)) (o:List Nat) (n:Nat),ds= [jai T,jgw o]∧T.length=n∧Ordr n o∧n≤6∧Q .non h
set_option maxHeartbeats 2000000 in
theorem jfz {n:Nat} {f:Addr} {fd:FuncData} (Z:Zs mg) (F:Fun K "want_order" "want_order" jbd f fd) (C_is_order:jae P w K mg base n "is_order" ["thing","size"] jc7):FnOk P w K mg base CX0 (n+1) f fd ["table","thing"] (LSp K jct):=by
 obtain⟨g_G_is_order,gd_G_is_order,G_is_order,bG_is_order,kG_is_order,mG_is_order⟩:=C_is_order
 refine F.okJ jfv (fun ds h Q q=>by obtain⟨T,o,k,e,hT,ho,h6,q⟩:=q;subst e;rfl) _ (fun cdv A outer s H E hr=>(jag (jeh (jc1 (jdg (jap G_is_order hr rfl mG_is_order kG_is_order bG_is_order (jac (jv 1) (by exact(jac (jaN jbz rfl Z.len G0O (jac (jv 0) jaa)) jaa)))))) (jag jiB) ja2))) ?_
 intro ds h Q q
 obtain⟨T,o,k,e,hT,ho,h6,q⟩:=q
 subst e
 refine⟨_,rfl,_,rfl,_,k,by rw [G0a,hT],h6,.inl ⟨o,rfl,ho,_,rfl,?_⟩⟩
 exact jdB ⟨h,Sub.refl h,q⟩
def jb0:RDn:=fun ds h Q=> ∃k lo hi:Int,ds= [.int k,.int lo,.int hi]∧lo≤k∧k≤hi∧Q .non h
set_option maxHeartbeats 2000000 in
theorem jex {n:Nat} {f:Addr} {fd:FuncData} (Z:Zs mg) (F:Fun K "want_number" "want_number" jaY f fd) (C_is_within:jae P w K mg base n "is_within" ["thing","least","most"] jbR):FnOk P w K mg base CX0 (n+1) f fd ["thing","least","most"] (LSp K jb0):=by
 obtain⟨g_G_is_within,gd_G_is_within,G_is_within,bG_is_within,kG_is_within,mG_is_within⟩:=C_is_within
 refine F.okJ jev (fun ds h Q q=>by obtain⟨k,lo,hi,e,h1,h2,q⟩:=q;subst e;rfl) _ (fun cdv A outer s H E hr=>(jag (jeh (jc1 (jdg (jap G_is_within hr rfl mG_is_within kG_is_within bG_is_within (jac (jv 0) (by exact(jac (jv 1) (by exact(jac (jv 2) jaa)))))))) (jag jiB) ja2))) ?_
 intro ds h Q q
 obtain⟨k,lo,hi,e,h1,h2,q⟩:=q
 subst e
 refine⟨_,rfl,_,rfl,_,rfl,.int k,lo,hi,rfl,rfl,_,rfl,?_⟩
 have e0:jc4 (.int k) lo hi=true:=by
  show (decide (lo≤k)&&decide (k≤hi))=true
  rw [G0r h1,G0r h2];rfl
 rw [e0]
 exact jdB ⟨h,Sub.refl h,q⟩
def jcu:RDn:=fun ds h Q=> ∃T U,∃n e f:Nat,ds= [jai T,jai U]∧Sq n e T∧Sq n f U∧e+f≤1000000∧n≤6∧Q (jai (jcU n T U)) h
set_option maxHeartbeats 2000000 in
theorem jfA {n:Nat} {f:Addr} {fd:FuncData} (Z:Zs mg) (F:Fun K "multiplied" "multiplied" jbe f fd):FnOk P w K mg base CX0 (n+1) f fd ["one","other"] (LSp K jcu):=by
 refine F.okJ sc_multiplied (fun ds h Q q=>by obtain⟨T,U,k,b,f,e,hT,hU,hb,h6,q⟩:=q;subst e;rfl) _ (fun cdv A outer s H E hr=>(jaf (jet (i:=2) sc_multiplied.nd rfl (by first|exact Or.inr rfl|exact Or.inl rfl) (jaN jbz rfl Z.len G0O (jac (jv 0) jaa))) (by exact(jag (jbQ (ja7 jbu rfl Z.tuple (by decide +kernel) (jac (jlc (i:=3) (js:= [3]) rfl (jaq (by rfl)) (jcX (jv 0)) (by decide) sc_multiplied.nd rfl (by first|exact Or.inl rfl|exact Or.inr rfl) (fun X' hX=>ja3) (fun X' hX=>by obtain⟨C,s₀,H₀,ex,rfl⟩:=hX;exact(ja7 jbu rfl Z.tuple (by decide +kernel) (jac (jlc (i:=4) (js:= [4]) rfl (jaq (by rfl)) (jf3 rfl Z.range (jac (jv 2) jaa)) (by decide) sc_multiplied.nd rfl (by first|exact Or.inl rfl|exact Or.inr rfl) (fun X' hX=>ja3) (fun X' hX=>by obtain⟨C,s₀,H₀,ex,rfl⟩:=hX;exact(jaN (jlG rfl) rfl Z.sum (by decide +kernel) (jac (jlc (i:=5) (js:= [5]) rfl (jaq (by rfl)) (jf3 rfl Z.range (jac (jv 2) jaa)) (by decide) sc_multiplied.nd rfl (by first|exact Or.inl rfl|exact Or.inr rfl) (fun X' hX=>ja3) (fun X' hX=>by obtain⟨C,s₀,H₀,ex,rfl⟩:=hX;exact(jop jlM (jix (jv 3) (jv 5) (fun _ _=>rfl)) (jix (jix (jv 1) (jv 5) (fun _ _=>rfl)) (jv 4) (fun _ _=>rfl))))) jaa)))) jaa)))) jaa))))))) ?_
 intro ds h Q q
 obtain⟨T,U,k,b,f,e,hT,hU,hb,h6,q⟩:=q
 subst e
 refine jam (fun σ' h' =>σ' = [some (jai T),some (jai U),some (.int (k:Int)),none,none,none]∧h=h') (fun C hC=>⟨_,rfl,hC _ _ ⟨by rw [G0a,hT.len];rfl,rfl⟩⟩) ?_
 rintro _ _ ⟨rfl,rfl⟩
 refine jkE T jdo (fun r=> .tup ((List.range k).map fun j=> .int (jat k fun m=>r.getD m 0*ent U m j))) (by rw [hT.len];omega) rfl (fun R r=>⟨_,rfl,r⟩) (fun r hr Q' q' => ?_) ⟨h,Sub.refl h,?_⟩
 ·refine jkE (List.range k) (fun j=> .int (j:Int)) (fun j=> .int (jat k fun m=>r.getD m 0*ent U m j)) (by rw [G0h];omega) rfl (fun R rr=>⟨_,rfl,(k:Int),rfl,by omega,by omega,rr⟩) (fun j hj Q'' q'' => ?_) q'
  refine jpV (List.range k) (fun m=> .int (m:Int)) (fun m=>r.getD m 0*ent U m j) (by rw [G0h];omega) rfl (fun R rr=>⟨_,rfl,(k:Int),rfl,by omega,by omega,rr⟩) (fun m hm Q3 q3=> ?_) q''
  have hm' :=G0q.mp hm
  have hj' :=G0q.mp hj
  refine⟨_,rfl,_,rfl,_,jfk (hT.row r hr) hm',_,rfl,_,rfl,_,jiE hU hm',_,rfl,_,jfk (hU.row _ (Sq.getRow hU hm')) hj',?_,q3⟩
  refine jjQ (e:=b) (f:=f) ?_ (hU.ent_nn hm' hj') (by omega)
  have hm2:m<r.length:=by rw [hT.row r hr];exact hm'
  have e1:r.getD m 0=r[m]:=by rw [G0n,G0i hm2];rfl
  rw [e1];exact⟨hT.nn r hr _ (G1j hm2),hT.bit r hr _ (G1j hm2)⟩
 ·rw [jjT hT];exact q
def jcS:RDn:=fun ds h Q=> ∃T,∃n e:Nat,ds= [jai T]∧Sq n e T∧1≤n∧n≤6∧Q (jai (jak n T)) h
set_option maxHeartbeats 2000000 in
theorem jkp {n:Nat} {f:Addr} {fd:FuncData} (Z:Zs mg) (F:Fun K "marks" "marks" jdu f fd) (C_want_table:jae P w K mg base n "want_table" ["thing"] jaM):FnOk P w K mg base CX0 (n+1) f fd ["table"] (LSp K jcS):=by
 obtain⟨g_G_want_table,gd_G_want_table,G_want_table,bG_want_table,kG_want_table,mG_want_table⟩:=C_want_table
 refine F.okJ sc_marks (fun ds h Q q=>by obtain⟨T,k,b,e,hT,h1,h6,q⟩:=q;subst e;rfl) _ (fun cdv A outer s H E hr=>(jaf (jd0 (jap G_want_table hr rfl mG_want_table kG_want_table bG_want_table (jac (jv 0) jaa))) (by exact(jag (jbQ (ja7 jbu rfl Z.tuple (by decide +kernel) (jac (jlc (i:=1) (js:= [1]) rfl (jaq (by rfl)) (jcX (jv 0)) (by decide) sc_marks.nd rfl (by first|exact Or.inl rfl|exact Or.inr rfl) (fun X' hX=>ja3) (fun X' hX=>by obtain⟨C,s₀,H₀,ex,rfl⟩:=hX;exact(ja7 jbu rfl Z.tuple (by decide +kernel) (jac (jlc (i:=2) (js:= [2]) rfl (jaq (by rfl)) (jcX (jv 1)) (by decide) sc_marks.nd rfl (by first|exact Or.inl rfl|exact Or.inr rfl) (fun X' hX=>ja3) (fun X' hX=>by obtain⟨C,s₀,H₀,ex,rfl⟩:=hX;exact(jif (jcT oq_ne (jv 2) jaI (jaC _)) jaI jaI))) jaa)))) jaa))))))) ?_
 intro ds h Q q
 obtain⟨T,k,b,e,hT,h1,h6,q⟩:=q
 subst e
 refine jam (fun σ' h' =>σ' = [some (jai T),none,none]∧h=h') (fun C hC=>⟨_,rfl,T,k,b,rfl,hT,h1,h6,hC _ _ ⟨rfl,rfl⟩⟩) ?_
 rintro _ _ ⟨rfl,rfl⟩
 refine jkE T jdo (fun r=> .tup (r.map fun x=> .int (if x≠0 then 1 else 0))) (by rw [hT.len];omega) rfl (fun R r=>⟨_,rfl,r⟩) (fun r hr Q' q' => ?_) ⟨h,Sub.refl h,?_⟩
 ·refine jkE r D.int (fun x=> .int (if x≠0 then 1 else 0)) (by rw [hT.row r hr];omega) rfl (fun R r=>⟨_,rfl,r⟩) (fun x hx Q'' q'' =>⟨_,rfl,_,rfl,?_⟩) q'
  by_cases z:x=0
  ·subst z;exact jdB q''
  ·have e:(!decide (x=0))=true:=by simp [z]
   rw [e]
   rw [if_pos z] at q''
   exact jjp q''
 ·rw [jlN,←jlO hT];exact q
def jed:RDn:=fun ds h Q=> ∃T,∃n e:Nat,ds= [jai T]∧Sq n e T∧1≤n∧n≤6∧Q (jai (jcc n T)) h
set_option maxHeartbeats 2000000 in
theorem jjm {n:Nat} {f:Addr} {fd:FuncData} (Z:Zs mg) (F:Fun K "turned" "turned" jcQ f fd) (C_want_table:jae P w K mg base n "want_table" ["thing"] jaM):FnOk P w K mg base CX0 (n+1) f fd ["table"] (LSp K jed):=by
 obtain⟨g_G_want_table,gd_G_want_table,G_want_table,bG_want_table,kG_want_table,mG_want_table⟩:=C_want_table
 refine F.okJ sc_turned (fun ds h Q q=>by obtain⟨T,k,b,e,hT,h1,h6,q⟩:=q;subst e;rfl) _ (fun cdv A outer s H E hr=>(jaf (jd0 (jap G_want_table hr rfl mG_want_table kG_want_table bG_want_table (jac (jv 0) jaa))) (by exact(jag (jbQ (ja7 jbu rfl Z.tuple (by decide +kernel) (jac (jlc (i:=1) (js:= [1]) rfl (jaq (by rfl)) (jf3 rfl Z.range (jac (jaN jbz rfl Z.len G0O (jac (jv 0) jaa)) jaa)) (by decide) sc_turned.nd rfl (by first|exact Or.inl rfl|exact Or.inr rfl) (fun X' hX=>ja3) (fun X' hX=>by obtain⟨C,s₀,H₀,ex,rfl⟩:=hX;exact(ja7 jbu rfl Z.tuple (by decide +kernel) (jac (jlc (i:=2) (js:= [2]) rfl (jaq (by rfl)) (jcX (jv 0)) (by decide) sc_turned.nd rfl (by first|exact Or.inl rfl|exact Or.inr rfl) (fun X' hX=>ja3) (fun X' hX=>by obtain⟨C,s₀,H₀,ex,rfl⟩:=hX;exact(jix (jv 2) (jv 1) (fun _ _=>rfl)))) jaa)))) jaa))))))) ?_
 intro ds h Q q
 obtain⟨T,k,b,e,hT,h1,h6,q⟩:=q
 subst e
 refine jam (fun σ' h' =>σ' = [some (jai T),none,none]∧h=h') (fun C hC=>⟨_,rfl,T,k,b,rfl,hT,h1,h6,hC _ _ ⟨rfl,rfl⟩⟩) ?_
 rintro _ _ ⟨rfl,rfl⟩
 refine jkE (List.range k) (fun j=> .int (j:Int)) (fun j=> .tup (T.map fun r=> .int (r.getD j 0))) (by rw [G0h];omega) rfl (fun R r=>⟨_,rfl,(k:Int),by rw [G0a,hT.len],by omega,by omega,r⟩) (fun j hj Q' q' => ?_) ⟨h,Sub.refl h,?_⟩
 ·refine jkE T jdo (fun r=> .int (r.getD j 0)) (by rw [hT.len];omega) rfl (fun R r=>⟨_,rfl,r⟩) (fun r hr Q'' q'' =>⟨_,rfl,_,rfl,_,jfk (hT.row r hr) (G0q.mp hj),q''⟩) q'
 ·have e1: ∀j,T.map (fun r=>D.int (r.getD j 0))=(List.range k).map fun i=>D.int (ent T i j):=fun j=>by
   conv=>lhs;rw [jaX T [],hT.len]
   rw [G0N];rfl
  have e2:((List.range k).map fun j=>D.tup (T.map fun r=> .int (r.getD j 0)))=(List.range k).map fun j=>D.tup ((List.range k).map fun i=>D.int (ent T i j)):=G0P fun j _=>by rw [e1]
  rw [e2,jkF]
  exact q
def jdx:RDn:=fun ds h Q=> ∃T,∃n e:Nat,∃o,ds= [jai T,jgw o]∧Sq n e T∧Ordr n o∧1≤n∧n≤6∧Q (jai (jdp n o T)) h
set_option maxHeartbeats 2000000 in
theorem jhU {n:Nat} {f:Addr} {fd:FuncData} (Z:Zs mg) (F:Fun K "renamed" "renamed" jci f fd) (C_want_table:jae P w K mg base n "want_table" ["thing"] jaM) (C_want_order:jae P w K mg base n "want_order" ["table","thing"] jct):FnOk P w K mg base CX0 (n+1) f fd ["table","order"] (LSp K jdx):=by
 obtain⟨g_G_want_table,gd_G_want_table,G_want_table,bG_want_table,kG_want_table,mG_want_table⟩:=C_want_table
 obtain⟨g_G_want_order,gd_G_want_order,G_want_order,bG_want_order,kG_want_order,mG_want_order⟩:=C_want_order
 refine F.okJ sc_renamed (fun ds h Q q=>by obtain⟨T,k,b,o,e,hT,ho,h1,h6,q⟩:=q;subst e;rfl) _ (fun cdv A outer s H E hr=>(jaf (jd0 (jap G_want_table hr rfl mG_want_table kG_want_table bG_want_table (jac (jv 0) jaa))) (by exact(jaf (jd0 (jap G_want_order hr rfl mG_want_order kG_want_order bG_want_order (jac (jv 0) (by exact(jac (jv 1) jaa))))) (by exact(jaf (jet (i:=2) sc_renamed.nd rfl (by first|exact Or.inr rfl|exact Or.inl rfl) (jlc (i:=3) (js:= [3]) rfl (jaq (by rfl)) (jf3 rfl Z.range (jac (jaN jbz rfl Z.len G0O (jac (jv 0) jaa)) jaa)) (by decide) sc_renamed.nd rfl (by first|exact Or.inl rfl|exact Or.inr rfl) (fun X' hX=>ja3) (fun X' hX=>by obtain⟨C,s₀,H₀,ex,rfl⟩:=hX;exact(jpT (jv 1) (jv 3))))) (by exact(jag (jbQ (ja7 jbu rfl Z.tuple (by decide +kernel) (jac (jlc (i:=4) (js:= [4]) rfl (jaq (by rfl)) (jcX (jv 2)) (by decide) sc_renamed.nd rfl (by first|exact Or.inl rfl|exact Or.inr rfl) (fun X' hX=>ja3) (fun X' hX=>by obtain⟨C,s₀,H₀,ex,rfl⟩:=hX;exact(ja7 jbu rfl Z.tuple (by decide +kernel) (jac (jlc (i:=5) (js:= [5]) rfl (jaq (by rfl)) (jcX (jv 2)) (by decide) sc_renamed.nd rfl (by first|exact Or.inl rfl|exact Or.inr rfl) (fun X' hX=>ja3) (fun X' hX=>by obtain⟨C,s₀,H₀,ex,rfl⟩:=hX;exact(jix (jix (jv 0) (jv 4) (fun _ _=>rfl)) (jv 5) (fun _ _=>rfl)))) jaa)))) jaa))))))))))) ?_
 intro ds h Q q
 obtain⟨T,k,b,o,e,hT,ho,h1,h6,q⟩:=q
 subst e
 refine jam (fun σ' h' =>σ' = [some (jai T),some (jgw o),none,none,none,none]∧h=h') (fun C hC=>⟨_,rfl,T,k,b,rfl,hT,h1,h6,hC _ _ ⟨rfl,rfl⟩⟩) ?_
 rintro _ _ ⟨rfl,rfl⟩
 refine jam (fun σ' h' =>σ' = [some (jai T),some (jgw o),none,none,none,none]∧h=h') (fun C hC=>⟨_,rfl,_,rfl,T,o,k,rfl,hT.len,ho,h6,hC _ _ ⟨rfl,rfl⟩⟩) ?_
 rintro _ _ ⟨rfl,rfl⟩
 have lt: ∀i,i∈List.range k→o.idxOf i<k:=fun i hi=>ho.ord.lt (G0q.mp hi)
 refine jam (fun σ' h' => ∃p,σ' = [some (jai T),some (jgw o),some (.lst p),none,none,none]∧h p=none∧h' =jbT h p ((List.range k).map fun i=> .int ((o.idxOf i:Nat):Int))) (fun C hC=> ?_) ?_
 ·refine lcA (List.range k) (fun j=> .int (j:Int)) (fun i=> .int ((o.idxOf i:Nat):Int)) (by rw [G0h];omega) rfl (fun R r=>⟨_,rfl,(k:Int),by rw [G0a,hT.len],by omega,by omega,r⟩) (fun i hi Q' q' => ?_) (fun p hp=>hC _ _ ⟨p,rfl,hp,rfl⟩)
  refine⟨_,rfl,jbv o,jgL o,_,rfl,(i:Int),rfl,jjS (ho.mem_iff.mpr hi),?_⟩
  rw [jjR];exact q'
 rintro _ _ ⟨p,rfl,hp,rfl⟩
 refine jkE (j:=fun h=>h p) (List.range k) (fun i=> .int ((o.idxOf i:Nat):Int)) (fun i=> .tup ((List.range k).map fun j=> .int (ent T (o.idxOf i) (o.idxOf j)))) (by rw [G0h];omega) jad (fun R r=>⟨_,rfl,r⟩) (fun i hi Q' q' => ?_) ⟨h,Sub.newAt (Sub.refl h) hp,?_⟩
 ·refine jkE (j:=fun h=>h p) (List.range k) (fun i=> .int ((o.idxOf i:Nat):Int)) (fun j=> .int (ent T (o.idxOf i) (o.idxOf j))) (by rw [G0h];omega) jad (fun R r=>⟨_,rfl,r⟩) (fun j hj Q'' q'' => ?_) q'
  exact⟨_,rfl,_,rfl,_,jiE hT (lt i hi),_,rfl,_,jfk (hT.row _ (Sq.getRow hT (lt i hi))) (lt j hj),q''⟩
 ·rw [jkF];exact q
def ja5:RDn:=fun ds h Q=> ∃M T,∃n e:Nat,ds= [jai M,jai T]∧Sq n 1 M∧Sq n e T∧1≤n∧n≤6∧e≤1000∧Q (jai (mk1 n T M)) h
set_option maxHeartbeats 2000000 in
theorem jey {n:Nat} {f:Addr} {fd:FuncData} (Z:Zs mg) (F:Fun K "marks_after" "marks_after" jaZ f fd) (C_marks:jae P w K mg base n "marks" ["table"] jcS) (C_multiplied:jae P w K mg base n "multiplied" ["one","other"] jcu):FnOk P w K mg base CX0 (n+1) f fd ["ahead","table"] (LSp K ja5):=by
 obtain⟨g_G_marks,gd_G_marks,G_marks,bG_marks,kG_marks,mG_marks⟩:=C_marks
 obtain⟨g_G_multiplied,gd_G_multiplied,G_multiplied,bG_multiplied,kG_multiplied,mG_multiplied⟩:=C_multiplied
 refine F.okJ jew (fun ds h Q q=>by obtain⟨M,T,n,b,e,hM,hT,h1,h6,hb,q⟩:=q;subst e;rfl) _ (fun cdv A outer s H E hr=>(jag (jbQ (jap G_marks hr rfl mG_marks kG_marks bG_marks (jac (jap G_multiplied hr rfl mG_multiplied kG_multiplied bG_multiplied (jac (jv 0) (by exact(jac (jv 1) jaa)))) jaa))))) ?_
 intro ds h Q q
 obtain⟨M,T,n,b,e,hM,hT,h1,h6,hb,q⟩:=q
 subst e
 exact⟨_,rfl,_,rfl,M,T,n,1,b,rfl,hM,hT,by omega,h6,jcU n M T,n,_,rfl,hM.mul hT (by omega),h1,h6,h,Sub.refl h,q⟩
def jaA:RDn:=fun ds h Q=> ∃T,∃n e:Nat,ds= [jai T]∧Sq n e T∧1≤n∧n≤6∧e≤1000∧ ∀A L J h',h A=none→h' A=some ((List.range L).map fun i=>jai (jaw n T i))→Sub h h' →Course n T L J→L≤2225→Q (.tup [.lst A,.int ((J:Nat):Int)]) h'
set_option maxHeartbeats 2000000 in
theorem jc8 {n:Nat} {f:Addr} {fd:FuncData} (Z:Zs mg) (F:Fun K "marks_and_return" "marks_and_return" jax f fd) (C_marks:jae P w K mg base n "marks" ["table"] jcS) (C_marks_after:jae P w K mg base n "marks_after" ["ahead","table"] ja5):FnOk P w K mg base CX0 (n+1) f fd ["table"] (LSp K jaA):=by
 obtain⟨g_G_marks,gd_G_marks,G_marks,bG_marks,kG_marks,mG_marks⟩:=C_marks
 obtain⟨g_G_marks_after,gd_G_marks_after,G_marks_after,bG_marks_after,kG_marks_after,mG_marks_after⟩:=C_marks_after
 refine F.okJ sc_marks_and_return (fun ds h Q q=>by obtain⟨T,n,bb,e,hT,h1,h6,hb,q⟩:=q;subst e;rfl) _ (fun cdv A outer s H E hr=>(jaf (jet (i:=1) sc_marks_and_return.nd rfl (Or.inl rfl) (jjs (jac (jap G_marks hr rfl mG_marks kG_marks bG_marks (jac (jv 0) jaa)) jaa))) (by exact(jaf (jet (i:=2) sc_marks_and_return.nd rfl (Or.inl rfl) (jap G_marks_after hr rfl mG_marks_after kG_marks_after bG_marks_after (jac (jix (jv 1) (jph jaI) (fun _ _=>rfl)) (by exact(jac (jv 0) jaa))))) (by exact(jaf (jnH G1W (jcT (jj6 hr.units) (jv 2) (jv 1) (by with_unfolding_all rfl)) (jaf (jd0 (joN (jv 1) (jv 2))) (by exact(jag (jet (i:=2) sc_marks_and_return.nd rfl (Or.inl rfl) (jap G_marks_after hr rfl mG_marks_after kG_marks_after bG_marks_after (jac (jv 2) (by exact(jac (jv 0) jaa))))))))) (by exact(jag (jbQ (jnD (jac (jv 1) (by exact(jac (jpX hr.units (jv 1) (jv 2)) jaa))))))))))))) ?_
 intro ds h Q q
 obtain⟨T,n,bb,e,hT,h1,h6,hb,q⟩:=q
 subst e
 refine jam (fun σ' h' => ∃A,σ' = [some (jai T),some (.lst A),none]∧h A=none∧h' A=some ((List.range 1).map fun i=>jai (jaw n T i))∧Sub h h') (fun C hC=>⟨_,rfl,T,n,bb,rfl,hT,h1,h6,(by show 1≤sizeLine;decide),fun A eA=>hC _ _ ⟨A,rfl,eA,jad,Sub.newAt (Sub.refl h) eA⟩⟩) ?_
 rintro _ h1' ⟨A,rfl,fA,kA,sbA⟩
 refine jam (fun σ' h' =>σ' = [some (jai T),some (.lst A),some (jai (jaw n T 1))]∧h1' =h') (fun C hC=>⟨_,rfl,_,_,kA,jiO (by decide),_,rfl,jaw n T 0,T,n,bb,rfl,jcr n T 0,hT,h1,h6,hb,hC _ _ ⟨rfl,rfl⟩⟩) ?_
 rintro _ _ ⟨rfl,rfl⟩
 refine jam (fun σ' h' => ∃L,σ' = [some (jai T),some (.lst A),some (jai (jaw n T L))]∧h' A=some ((List.range L).map fun i=>jai (jaw n T i))∧Sub h h' ∧L≤2225∧((List.range L).map (jaw n T)).Nodup∧jaw n T L∈(List.range L).map (jaw n T)) (fun C hC=> ?_) ?_
 ·refine jjY (fun m σ' h' => ∃L,σ' = [some (jai T),some (.lst A),some (jai (jaw n T L))]∧h' A=some ((List.range L).map fun i=>jai (jaw n T i))∧Sub h h' ∧m=2226-L∧((List.range L).map (jaw n T)).Nodup) _ ⟨_,rfl,kA,sbA,rfl,by simp⟩ ?_
  rintro m _ h2 ⟨L,rfl,kA2,sb2,hm,nd⟩
  have hL:=jiT hT h1 h6 nd
  have kA3:h2 A=some (((List.range L).map (jaw n T)).map jai):=by rw [kA2,G0N];rfl
  refine⟨_,rfl,_,rfl,jnM encT kA3 fun bo hbo=>⟨_,rfl,jjq (fun c=> ?_) (fun c=> ?_)⟩⟩
  rotate_left
  ·refine hC _ _ ⟨L,rfl,kA2,sb2,hL,nd,hbo.mp ?_⟩
   cases bo with
   |true=>rfl
   |false=>exact absurd rfl c
  have hni:jaw n T L ∉ (List.range L).map (jaw n T):=fun z=>by rw [hbo.mpr z] at c;exact absurd c (by decide)
  refine jam (fun σ' h' =>σ' = [some (jai T),some (.lst A),some (jai (jaw n T L))]∧h' A=some ((List.range (L+1)).map fun i=>jai (jaw n T i))∧Sub h h') (fun C2 hC2=> ?_) ?_
  ·refine⟨_,rfl,A,rfl,_,rfl,_,kA2,?_,hC2 _ _ ⟨rfl,?_,?_⟩⟩
   ·rw [G0a,G0h];exact G1Q hL (by decide)
   ·rw [jad,G2d,G1p];rfl
   ·intro x ds e
    rw [jby (fun w=>by subst w;rw [fA] at e;cases e)];exact sb2 x ds e
  rintro _ h3 ⟨rfl,kA4,sb4⟩
  refine⟨_,rfl,_,rfl,jaw n T L,T,n,bb,rfl,jcr n T L,hT,h1,h6,hb,2226-(L+1),_,by omega,Sub.refl _,L+1,rfl,kA4,sb4,rfl,?_⟩
  rw [G2d,G1p,List.nodup_append]
  exact⟨nd,by simp,fun x hx y hy=>by rw [G0z.mp (show y∈ [jaw n T L] from hy)];intro e;exact hni (e ▸ hx)⟩
 rintro _ h3 ⟨L,rfl,kA3,sb3,hL,nd,hin⟩
 have kA4:h3 A=some (((List.range L).map (jaw n T)).map jai):=by rw [kA3,G0N];rfl
 obtain⟨J,pd,ps,zz,hat,t1,t2,c1,c2,c3,c4,c5,c6,c7⟩:=jnN encT kA4 hin (by simp;omega)
 have hJL:J<L:=by have:=(G0t.mp hat).1;simpa using this
 have hJe:jaw n T L=jaw n T J:=by
  rw [G0o,G07 hJL] at hat
  injection hat with hat
  exact hat.symm
 exact⟨_,rfl,_,rfl,A,rfl,_,rfl,pd,ps,J,zz,t1,t2,c1,c2,c3,c4,c5,c6,c7,(by show 2≤sizeLine;decide),h3,Sub.refl _,q A L J h3 fA kA3 sb3 ⟨nd,hJL,hJe⟩ hL⟩
def jc9:RDn:=fun ds h Q=> ∃T,∃n L J k:Nat,∃A,ds= [.lst A,.int (J:Int),.int (k:Int)]∧h A=some ((List.range L).map fun i=>jai (jaw n T i))∧Course n T L J∧1≤k∧Q (jai (jaw n T (k-1))) h
set_option maxHeartbeats 2000000 in
theorem jhb {n:Nat} {f:Addr} {fd:FuncData} (Z:Zs mg) (F:Fun K "marks_at" "marks_at" jbG f fd):FnOk P w K mg base CX0 (n+1) f fd ["told","back","k"] (LSp K jc9):=by
 refine F.okJ sc_marks_at (fun ds h Q q=>by obtain⟨T,n,L,J,k,A,e,kA,c,hk,q⟩:=q;subst e;rfl) _ (fun cdv A outer s H E hr=>(jaf (jet (i:=3) sc_marks_at.nd rfl (Or.inl rfl) (jop jcW (jv 2) jaI)) (by exact(jaf (jeh (jcT jlx (jv 3) (jaN jbz rfl Z.len G0O (jac (jv 0) jaa)) (jaC _)) (jag (jbQ (jix (jv 0) (jv 3) (fun _ _=>rfl)))) ja2) (by exact(jag (jbQ (jix (jv 0) (jop jb6 (jv 1) (jop jdA (jop jcW (jv 3) (jv 1)) (jop jcW (jaN jbz rfl Z.len G0O (jac (jv 0) jaa)) (jv 1)))) (fun _ _=>rfl))))))))) ?_
 intro ds h Q q
 obtain⟨T,n,L,J,k,A,e,kA,c,hk,q⟩:=q
 subst e
 have hJ:=c.lt
 have hl:((((List.range L).map fun i=>jai (jaw n T i)).length:Nat):Int)=(L:Int):=by rw [G0a,G0h]
 have ek:(k:Int)-1=((k-1:Nat):Int):=by omega
 refine jam (fun σ' h' =>σ' = [some (.lst A),some (.int (J:Int)),some (.int (k:Int)),some (.int ((k-1:Nat):Int))]∧h=h') (fun C hC=>⟨_,rfl,hC _ _ ⟨by rw [←ek];rfl,rfl⟩⟩) ?_
 rintro _ _ ⟨rfl,rfl⟩
 refine jam (fun σ' h' =>σ' = [some (.lst A),some (.int (J:Int)),some (.int (k:Int)),some (.int ((k-1:Nat):Int))]∧h=h' ∧L≤k-1) (fun C hC=>⟨_,rfl,_,rfl,_,kA,_,rfl,jjq (fun z=> ?_) (fun z=>hC _ _ ⟨rfl,rfl,?_⟩)⟩) ?_
 ·have z' :((k-1:Nat):Int)<((((List.range L).map fun i=>jai (jaw n T i)).length:Nat):Int):=G2U z
  rw [hl] at z'
  exact⟨_,rfl,_,rfl,_,_,kA,jiP (by omega),h,Sub.refl h,q⟩
 ·have z' : ¬ ((k-1:Nat):Int)<((((List.range L).map fun i=>jai (jaw n T i)).length:Nat):Int):=fun w=>z (G0r w)
  rw [hl] at z'
  omega
 rintro _ _ ⟨rfl,rfl,hLk⟩
 have hpos:(0:Int)<((((List.range L).map fun i=>jai (jaw n T i)).length:Nat):Int)-(J:Int):=by rw [hl];omega
 have hix:(J:Int)+(((k-1:Nat):Int)-(J:Int))%(((((List.range L).map fun i=>jai (jaw n T i)).length:Nat):Int)-(J:Int))=((J+(k-1-J)%(L-J):Nat):Int):=by
  rw [hl,Int.natCast_add,Int.natCast_emod,Int.natCast_sub (by omega:J≤k-1),Int.natCast_sub (by omega:J≤L)]
 have hlt:J+(k-1-J)%(L-J)<L:=by
  have:=G2T (k-1-J) (show 0<L-J by omega)
  omega
 refine⟨_,rfl,_,rfl,_,rfl,_,rfl,_,rfl,_,kA,_,rfl,hpos,_,jai (jaw n T (J+(k-1-J)%(L-J))),kA,?_,h,Sub.refl h,?_⟩
 ·rw [hix];exact jiP hlt
 ·rw [jnP c (by omega)];exact q
def jda:RDn:=fun ds h Q=> ∃T,∃n e:Nat,ds= [jai T]∧Sq n e T∧1≤n∧n≤6∧e≤1000∧ ∀L J,Course n T L J→L≤2225→Q (.tup [.int (((J:Nat):Int)+1),.int (((L:Nat):Int)-((J:Nat):Int))]) h
set_option maxHeartbeats 2000000 in
theorem jhc {n:Nat} {f:Addr} {fd:FuncData} (Z:Zs mg) (F:Fun K "round_of" "round_of" jbH f fd) (C_marks_and_return:jae P w K mg base n "marks_and_return" ["table"] jaA):FnOk P w K mg base CX0 (n+1) f fd ["table"] (LSp K jda):=by
 obtain⟨g_G_marks_and_return,gd_G_marks_and_return,G_marks_and_return,bG_marks_and_return,kG_marks_and_return,mG_marks_and_return⟩:=C_marks_and_return
 refine F.okJ sc_round_of (fun ds h Q q=>by obtain⟨T,n,bb,e,hT,h1,h6,hb,q⟩:=q;subst e;rfl) _ (fun cdv A outer s H E hr=>(jaf (jkB (jap G_marks_and_return hr rfl mG_marks_and_return kG_marks_and_return bG_marks_and_return (jac (jv 0) jaa)) (jf2 (i:=1) (j:=2) rfl sc_round_of.nd rfl rfl (Or.inl rfl) (Or.inl rfl))) (by exact(jag (jbQ (jnD (jac (jop jb6 (jv 2) jaI) (by exact(jac (jop jcW (jaN jbz rfl Z.len G0O (jac (jv 1) jaa)) (jv 2)) jaa))))))))) ?_
 intro ds h Q q
 obtain⟨T,n,bb,e,hT,h1,h6,hb,q⟩:=q
 subst e
 refine jam (fun σ' h' => ∃A L J,σ' = [some (jai T),some (.lst A),some (.int ((J:Nat):Int))]∧h' A=some ((List.range L).map fun i=>jai (jaw n T i))∧Sub h h' ∧Course n T L J∧L≤2225) (fun C hC=>⟨_,rfl,T,n,bb,rfl,hT,h1,h6,hb,fun A L J h' fA kA sb c hL=>⟨_,_,rfl,hC _ _ ⟨A,L,J,rfl,kA,sb,c,hL⟩⟩⟩) ?_
 rintro _ h2 ⟨A,L,J,rfl,kA,sb,c,hL⟩
 refine⟨_,rfl,_,rfl,_,kA,_,rfl,(by show 2≤sizeLine;decide),h,sb,?_⟩
 rw [G0a,G0h]
 exact q L J c hL
def jcH:RDn:=fun ds h Q=> ∃T,∃n e:Nat,ds= [jai T]∧Sq n e T∧1≤n∧n≤6∧e≤1000∧ ∀A L J h',h A=none→h' A=some ((List.range L).map fun i=>jai (jaw n T i))→Sub h h' →Course n T L J→L≤2225→Q (.lst A) h'
set_option maxHeartbeats 2000000 in
theorem jgr {n:Nat} {f:Addr} {fd:FuncData} (Z:Zs mg) (F:Fun K "all_marks" "all_marks" jbo f fd) (C_marks_and_return:jae P w K mg base n "marks_and_return" ["table"] jaA):FnOk P w K mg base CX0 (n+1) f fd ["table"] (LSp K jcH):=by
 obtain⟨g_G_marks_and_return,gd_G_marks_and_return,G_marks_and_return,bG_marks_and_return,kG_marks_and_return,mG_marks_and_return⟩:=C_marks_and_return
 refine F.okJ jgn (fun ds h Q q=>by obtain⟨T,n,bb,e,hT,h1,h6,hb,q⟩:=q;subst e;rfl) _ (fun cdv A outer s H E hr=>(jag (jbQ (jix (jap G_marks_and_return hr rfl mG_marks_and_return kG_marks_and_return bG_marks_and_return (jac (jv 0) jaa)) jaI (fun _ _=>rfl))))) ?_
 intro ds h Q q
 obtain⟨T,n,bb,e,hT,h1,h6,hb,q⟩:=q
 subst e
 exact⟨_,rfl,T,n,bb,rfl,hT,h1,h6,hb,fun A L J h' fA kA sb c hL=>⟨_,rfl,h',Sub.refl _,q A L J h' fA kA sb c hL⟩⟩
def jdb:RDn:=fun ds h Q=> ∃T,∃n e k:Nat,ds= [jai T,.int (k:Int)]∧Sq n e T∧1≤n∧n≤6∧e≤1000∧1≤k∧k≤1000000000000000000000000000000∧Q (jai (jaw n T (k-1))) h
set_option maxHeartbeats 2000000 in
theorem jhd {n:Nat} {f:Addr} {fd:FuncData} (Z:Zs mg) (F:Fun K "marks_of" "marks_of" jbI f fd) (C_want_table:jae P w K mg base n "want_table" ["thing"] jaM) (C_want_number:jae P w K mg base n "want_number" ["thing","least","most"] jb0) (C_marks_and_return:jae P w K mg base n "marks_and_return" ["table"] jaA) (C_marks_at:jae P w K mg base n "marks_at" ["told","back","k"] jc9) (M_MOST_POWER: ∃tk,mg "MOST_POWER" =some (.int 1000000000000000000000000000000 tk)):FnOk P w K mg base CX0 (n+1) f fd ["table","k"] (LSp K jdb):=by
 obtain⟨g_G_want_table,gd_G_want_table,G_want_table,bG_want_table,kG_want_table,mG_want_table⟩:=C_want_table
 obtain⟨g_G_want_number,gd_G_want_number,G_want_number,bG_want_number,kG_want_number,mG_want_number⟩:=C_want_number
 obtain⟨g_G_marks_and_return,gd_G_marks_and_return,G_marks_and_return,bG_marks_and_return,kG_marks_and_return,mG_marks_and_return⟩:=C_marks_and_return
 obtain⟨g_G_marks_at,gd_G_marks_at,G_marks_at,bG_marks_at,kG_marks_at,mG_marks_at⟩:=C_marks_at
 obtain⟨tk_MOST_POWER,m_MOST_POWER⟩:=M_MOST_POWER
 refine F.okJ sc_marks_of (fun ds h Q q=>by obtain⟨T,n,bb,k,e,hT,h1,h6,hb,hk,hk2,q⟩:=q;subst e;rfl) _ (fun cdv A outer s H E hr=>(jaf (jd0 (jap G_want_table hr rfl mG_want_table kG_want_table bG_want_table (jac (jv 0) jaa))) (by exact(jaf (jd0 (jap G_want_number hr rfl mG_want_number kG_want_number bG_want_number (jac (jv 1) (by exact(jac jaI (by exact(jac (jnB rfl m_MOST_POWER) jaa))))))) (by exact(jaf (jkB (jap G_marks_and_return hr rfl mG_marks_and_return kG_marks_and_return bG_marks_and_return (jac (jv 0) jaa)) (jf2 (i:=2) (j:=3) rfl sc_marks_of.nd rfl rfl (Or.inl rfl) (Or.inl rfl))) (by exact(jag (jbQ (jap G_marks_at hr rfl mG_marks_at kG_marks_at bG_marks_at (jac (jv 2) (by exact(jac (jv 3) (by exact(jac (jv 1) jaa))))))))))))))) ?_
 intro ds h Q q
 obtain⟨T,n,bb,k,e,hT,h1,h6,hb,hk,hk2,q⟩:=q
 subst e
 refine jam (fun σ' h' =>σ' = [some (jai T),some (.int (k:Int)),none,none]∧h=h') (fun C hC=>⟨_,rfl,T,n,bb,rfl,hT,h1,h6,hC _ _ ⟨rfl,rfl⟩⟩) ?_
 rintro _ _ ⟨rfl,rfl⟩
 refine jam (fun σ' h' =>σ' = [some (jai T),some (.int (k:Int)),none,none]∧h=h') (fun C hC=>⟨_,rfl,(k:Int),1,1000000000000000000000000000000,rfl,by omega,by omega,hC _ _ ⟨rfl,rfl⟩⟩) ?_
 rintro _ _ ⟨rfl,rfl⟩
 refine jam (fun σ' h' => ∃A L J,σ' = [some (jai T),some (.int (k:Int)),some (.lst A),some (.int ((J:Nat):Int))]∧h' A=some ((List.range L).map fun i=>jai (jaw n T i))∧Sub h h' ∧Course n T L J) (fun C hC=>⟨_,rfl,T,n,bb,rfl,hT,h1,h6,hb,fun A L J h' fA kA sb c hL=>⟨_,_,rfl,hC _ _ ⟨A,L,J,rfl,kA,sb,c⟩⟩⟩) ?_
 rintro _ h2 ⟨A,L,J,rfl,kA,sb,c⟩
 exact⟨_,rfl,_,rfl,_,rfl,T,n,L,J,k,A,rfl,kA,c,hk,h,sb,q⟩
def ja4:RDn:=fun ds h Q=> ∃Ts:List (List (List Int)),∃n:Nat,ds= [.tup (Ts.map jai),.int ((Ts.length:Nat):Int),.int (n:Int)]∧(∀T∈Ts,Sq n 1 T)∧1≤n∧n≤6∧Ts.length<1000∧Ts.Nodup∧Q (.bl true) h
set_option maxHeartbeats 2000000 in
theorem jcV {n:Nat} {f:Addr} {fd:FuncData} (Z:Zs mg) (F:Fun K "are_unlike_tables" "are_unlike_tables" jau f fd) (C_has_table_form:jae P w K mg base n "has_table_form" ["thing"] ja0):FnOk P w K mg base CX0 (n+1) f fd ["thing","many","size"] (LSp K ja4):=by
 obtain⟨g_G_has_table_form,gd_G_has_table_form,G_has_table_form,bG_has_table_form,kG_has_table_form,mG_has_table_form⟩:=C_has_table_form
 refine F.okJ sc_are_unlike_tables (fun ds h Q q=>by obtain⟨Ts,n,e,hT,h1,h6,few,nd,q⟩:=q;subst e;rfl) _ (fun cdv A outer s H E hr=>(jaf (jeh (jpt (jlJ (jc1 (jdg (jgJ (T:= "tuple") (by decide) rfl Z.isinstance rfl Z.tuple (by decide +kernel) (jv 0)))) (jlI (jcT oq_ne (jaN jbz rfl Z.len G0O (jac (jv 0) jaa)) (jv 1) (jaC _))))) (jag (jbQ jbl)) ja2) (by exact(jaf (jeh (jc1 (jdg (jaN (jfU rfl) rfl Z.all G1B (jac (jlc (i:=3) (js:= [3]) rfl (jaq (by rfl)) (jcX (jv 0)) (by decide) sc_are_unlike_tables.nd rfl (by first|exact Or.inl rfl|exact Or.inr rfl) (fun X' hX=>ja3) (fun X' hX=>by obtain⟨C,s₀,H₀,ex,rfl⟩:=hX;exact(jjr (jap G_has_table_form hr rfl mG_has_table_form kG_has_table_form bG_has_table_form (jac (jv 3) jaa)) (jhV (jgI oq_eq (jaN jbz rfl Z.len G0O (jac (jv 3) jaa)) (jv 2) (jaC _)))))) jaa)))) (jag (jbQ jbl)) ja2) (by exact(jag (jbQ (jgI oq_eq (jlt hr rfl rfl Z.len rfl Z.set (jac (jv 0) jaa)) (jv 1) (jaC _))))))))) ?_
 intro ds h Q q
 obtain⟨Ts,n,e,hT,h1,h6,few,nd,q⟩:=q
 subst e
 refine jam (fun σ' h' =>σ' = [some (.tup (Ts.map jai)),some (.int ((Ts.length:Nat):Int)),some (.int (n:Int)),none]∧h=h') (fun C hC=> ?_) ?_
 ·refine⟨_,rfl,_,rfl,_,rfl,jdB ⟨_,rfl,_,rfl,?_⟩⟩
  show ∃k_1,D.bl (!decide ((((Ts.map jai).length:Nat):Int)=((Ts.length:Nat):Int)))= .bl k_1∧_
  rw [G0a,G0r rfl]
  exact⟨_,rfl,jdB (hC _ _ ⟨rfl,rfl⟩)⟩
 rintro _ _ ⟨rfl,rfl⟩
 refine jam (fun σ' h' =>σ' = [some (.tup (Ts.map jai)),some (.int ((Ts.length:Nat):Int)),some (.int (n:Int)),none]∧h=h') (fun C hC=> ?_) ?_
 ·refine jpi (j:=fun _=>some (Ts.map jai)) Ts jai (fun _=>true) (by omega) rfl (fun R r=>⟨_,rfl,r⟩) (fun T hm Q' q' =>⟨_,rfl,jai T,rfl,jkU (hT T hm) h6,?_⟩) ⟨_,rfl,?_⟩
  ·rw [jjl (hT T hm) h1 h6]
   refine⟨_,rfl,jjp ⟨_,rfl,_,rfl,?_⟩⟩
   show Q' (.bl (decide ((((T.map jdo).length:Nat):Int)=(n:Int)))) h
   rw [G0a,(hT T hm).len,G0r rfl]
   exact q'
  ·rw [show Ts.all (fun _=>true)=true from G00.mpr fun _ _=>rfl]
   exact jdB (hC _ _ ⟨rfl,rfl⟩)
 rintro _ _ ⟨rfl,rfl⟩
 refine⟨_,rfl,Ts,rfl,few,fun k le iff=>⟨_,rfl,?_⟩⟩
 show ∃h0,Sub h0 h∧Q (.bl (decide ((k:Int)=((Ts.length:Nat):Int)))) h0
 rw [iff.mpr nd,G0r rfl]
 exact⟨_,Sub.refl _,q⟩
theorem jkq (Ts:List (List (List Int))):jkG (Ts.map jai) (jfV (Ts.map jai) (some 1) none)=(Ts.zip (Ts.drop 1)).map fun p=>D.tup [jai p.1,jai p.2]:=by
 rw [jlV]
 unfold jkG
 rw [←G2X,List.zip_map,G0N];rfl
theorem jkr (A B:List (List Int)):PyData.eqv (jdE A) (jdE B)=decide (A=B):=jaU A B
theorem jgs {n e f:Nat} {T U M:List (List Int)} (hT:Sq n e T) (hU:Sq n f U) (hn:n≤8) (hM:Sq n 1 M) (z:jak n T=jak n U):mk1 n T M=mk1 n U M:=by
 unfold mk1
 rw [jdL hM hT,jdL hM hU,z]
theorem jme {A B:List (List Int)} {h:HD} {Q:KD} (q:Q (.bl (!decide (A=B))) h):neE (jai A) (jai B) h Q:=⟨_,_,jcp h A,jcp h B,jba A,jba B,by rw [jkr];exact q⟩
def jee:RDn:=fun ds h Q=> ∃T,∃Ts:List (List (List Int)),∃n e:Nat,ds= [jai T,.tup (Ts.map jai)]∧Sq n e T∧e≤1000∧(∀M∈Ts,Sq n 1 M)∧1≤n∧n≤6∧Ts.length≤1000∧(∀p∈Ts.zip (Ts.drop 1),p.2=mk1 n T p.1)∧Q (.bl true) h
set_option maxHeartbeats 2000000 in
theorem jjn {n:Nat} {f:Addr} {fd:FuncData} (Z:Zs mg) (F:Fun K "follow" "follow" jcR f fd) (C_marks_after:jae P w K mg base n "marks_after" ["ahead","table"] ja5):FnOk P w K mg base CX0 (n+1) f fd ["table","rows"] (LSp K jee):=by
 obtain⟨g_G_marks_after,gd_G_marks_after,G_marks_after,bG_marks_after,kG_marks_after,mG_marks_after⟩:=C_marks_after
 refine F.okJ sc_follow (fun ds h Q q=>by obtain⟨T,Ts,n,b,e,hT,hb,hM,h1,h6,few,fol,q⟩:=q;subst e;rfl) _ (fun cdv A outer s H E hr=>(jag (jbQ (jaN (jfU rfl) rfl Z.all G1B (jac (jpS (i:=2) (j:=3) (js:= [2,3]) rfl (jaq (by rfl)) (jnL rfl Z.zip (jac (jv 1) (by exact(jac (jkD (jv 1) (jgK jaI) jlK) jaa)))) (by decide) (by decide) (by decide) sc_follow.nd rfl rfl (by first|exact Or.inl rfl|exact Or.inr rfl) (by first|exact Or.inl rfl|exact Or.inr rfl) (fun X' hX=>ja3) (fun X' hX=>by obtain⟨C,s₀,H₀,ex,rfl⟩:=hX;exact(jgI (jeL hr.units) (jv 3) (jap G_marks_after hr rfl mG_marks_after kG_marks_after bG_marks_after (jac (jv 2) (by exact(jac (jv 0) jaa)))) (jaC _)))) jaa))))) ?_
 intro ds h Q q
 obtain⟨T,Ts,n,b,e,hT,hb,hM,h1,h6,few,fol,q⟩:=q
 subst e
 refine joP (j:=fun _=>some (jkG (Ts.map jai) (jfV (Ts.map jai) (some 1) none))) (Ts.zip (Ts.drop 1)) (fun p=>jai p.1) (fun p=>jai p.2) (fun _=>true) (by rw [G3a];omega) (congrArg some (jkq Ts)) (fun R r=>⟨_,rfl,_,rfl,_,rfl,_,_,rfl,r⟩) (fun p hp Q' q' =>⟨_,rfl,_,rfl,_,rfl,p.1,T,n,b,rfl,hM _ (G17 hp).1,hT,h1,h6,hb,jiV ?_⟩) ⟨h,Sub.refl h,?_⟩
 ·rw [G0r (fol p hp)];exact q'
 ·rw [show (Ts.zip (Ts.drop 1)).all (fun _=>true)=true from G00.mpr fun _ _=>rfl];exact q
def jbs:RDn:=fun ds h Q=> ∃U T,∃n e L J:Nat,ds= [jai U,(.tup [.int (((J:Nat):Int)+1),.int (((L:Nat):Int)-((J:Nat):Int)),.tup ((List.range L).map fun i=>jai (jaw n T i))])]∧Sq n e U∧e≤1000∧1≤n∧n≤6∧Sq n e T∧Course n T L J∧L≤426∧Q (.bl (decide (jak n U=jak n T))) h
set_option maxHeartbeats 2000000 in
theorem jdy {n:Nat} {f:Addr} {fd:FuncData} (Z:Zs mg) (F:Fun K "calendar_holds" "calendar_holds" jaF f fd) (C_want_table:jae P w K mg base n "want_table" ["thing"] jaM) (C_is_from:jae P w K mg base n "is_from" ["thing","least"] jdv) (C_are_unlike_tables:jae P w K mg base n "are_unlike_tables" ["thing","many","size"] ja4) (C_follow:jae P w K mg base n "follow" ["table","rows"] jee) (C_marks:jae P w K mg base n "marks" ["table"] jcS) (C_marks_after:jae P w K mg base n "marks_after" ["ahead","table"] ja5):FnOk P w K mg base CX0 (n+1) f fd ["table","thing"] (LSp K jbs):=by
 obtain⟨g_G_want_table,gd_G_want_table,G_want_table,bG_want_table,kG_want_table,mG_want_table⟩:=C_want_table
 obtain⟨g_G_is_from,gd_G_is_from,G_is_from,bG_is_from,kG_is_from,mG_is_from⟩:=C_is_from
 obtain⟨g_G_are_unlike_tables,gd_G_are_unlike_tables,G_are_unlike_tables,bG_are_unlike_tables,kG_are_unlike_tables,mG_are_unlike_tables⟩:=C_are_unlike_tables
 obtain⟨g_G_follow,gd_G_follow,G_follow,bG_follow,kG_follow,mG_follow⟩:=C_follow
 obtain⟨g_G_marks,gd_G_marks,G_marks,bG_marks,kG_marks,mG_marks⟩:=C_marks
 obtain⟨g_G_marks_after,gd_G_marks_after,G_marks_after,bG_marks_after,kG_marks_after,mG_marks_after⟩:=C_marks_after
 refine F.okJ sc_calendar_holds (fun ds h Q q=>by obtain⟨U,T,n,b,L,J,e,hU,hb,h1,h6,hT,co,hL,q⟩:=q;subst e;rfl) _ (fun cdv A outer s H E hr=>(jaf (jd0 (jap G_want_table hr rfl mG_want_table kG_want_table bG_want_table (jac (jv 0) jaa))) (by exact(jaf (jeh (jpt (jlJ (jc1 (jdg (jgJ (T:= "tuple") (by decide) rfl Z.isinstance rfl Z.tuple (by decide +kernel) (jv 1)))) (jlI (jcT oq_ne (jaN jbz rfl Z.len G0O (jac (jv 1) jaa)) jaI (jaC _))))) (jag (jbQ jbl)) ja2) (by exact(jaf (jkB (jv 1) (joS (i:=2) (j:=3) (l:=4) rfl sc_calendar_holds.nd rfl rfl rfl (Or.inl rfl) (Or.inl rfl) (Or.inl rfl))) (by exact(jaf (jeh (jpt (jlJ (jc1 (jdg (jap G_is_from hr rfl mG_is_from kG_is_from bG_is_from (jac (jv 2) (by exact(jac jaI jaa)))))) (jlI (jc1 (jdg (jap G_is_from hr rfl mG_is_from kG_is_from bG_is_from (jac (jv 3) (by exact(jac jaI jaa))))))))) (jag (jbQ jbl)) ja2) (by exact(jaf (jeh (jc1 (jdg (jap G_are_unlike_tables hr rfl mG_are_unlike_tables kG_are_unlike_tables bG_are_unlike_tables (jac (jv 4) (by exact(jac (jop jcW (jop jb6 (jv 2) (jv 3)) jaI) (by exact(jac (jaN jbz rfl Z.len G0O (jac (jv 0) jaa)) jaa)))))))) (jag (jbQ jbl)) ja2) (by exact(jaf (jeh (jpt (jlJ (jcT (jfZ hr.units) (jix (jv 4) jaI (fun _ _=>rfl)) (jap G_marks hr rfl mG_marks kG_marks bG_marks (jac (jv 0) jaa)) (jaC _)) (jlI (jc1 (jdg (jap G_follow hr rfl mG_follow kG_follow bG_follow (jac (jv 0) (by exact(jac (jv 4) jaa))))))))) (jag (jbQ jbl)) ja2) (by exact(jag (jbQ (jgI (jeL hr.units) (jap G_marks_after hr rfl mG_marks_after kG_marks_after bG_marks_after (jac (jix (jv 4) (jph jaI) (fun _ _=>rfl)) (by exact(jac (jv 0) jaa)))) (jix (jv 4) (jop jcW (jv 2) jaI) (fun _ _=>rfl)) (jaC _))))))))))))))))) ?_
 intro ds h Q q
 obtain⟨U,T,n,b,L,J,e,hU,hb,h1,h6,hT,co,hL,q⟩:=q
 subst e
 have lt:=co.lt
 refine jam (fun σ' h' =>σ' = [some (jai U),some (.tup [.int (((J:Nat):Int)+1),.int (((L:Nat):Int)-((J:Nat):Int)),.tup ((List.range L).map fun i=>jai (jaw n T i))]),none,none,none]∧h=h') (fun C hC=>⟨_,rfl,U,n,b,rfl,hU,h1,h6,hC _ _ ⟨rfl,rfl⟩⟩) ?_
 rintro _ _ ⟨rfl,rfl⟩
 refine jam (fun σ' h' =>σ' = [some (jai U),some (.tup [.int (((J:Nat):Int)+1),.int (((L:Nat):Int)-((J:Nat):Int)),.tup ((List.range L).map fun i=>jai (jaw n T i))]),none,none,none]∧h=h') (fun C hC=>⟨_,rfl,_,rfl,_,rfl,jdB ⟨_,rfl,_,rfl,jdB (hC _ _ ⟨rfl,rfl⟩)⟩⟩) ?_
 rintro _ _ ⟨rfl,rfl⟩
 refine jam (fun σ' h' =>σ' = [some (jai U),some (.tup [.int (((J:Nat):Int)+1),.int (((L:Nat):Int)-((J:Nat):Int)),.tup ((List.range L).map fun i=>jai (jaw n T i))]),some (.int (((J:Nat):Int)+1)),some (.int (((L:Nat):Int)-((J:Nat):Int))),some (.tup ((List.range L).map fun i=>jai (jaw n T i)))]∧h=h') (fun C hC=> ?_) ?_
 ·exact⟨_,rfl,_,_,_,rfl,hC _ _ ⟨rfl,rfl⟩⟩
 rintro _ _ ⟨rfl,rfl⟩
 refine jam (fun σ' h' =>σ' = [some (jai U),some (.tup [.int (((J:Nat):Int)+1),.int (((L:Nat):Int)-((J:Nat):Int)),.tup ((List.range L).map fun i=>jai (jaw n T i))]),some (.int (((J:Nat):Int)+1)),some (.int (((L:Nat):Int)-((J:Nat):Int))),some (.tup ((List.range L).map fun i=>jai (jaw n T i)))]∧h=h') (fun C hC=>⟨_,rfl,_,_,rfl,_,rfl,?_⟩) ?_
 ·rw [G0r (show (1:Int)≤((J:Nat):Int)+1 by omega)]
  refine jdB ⟨_,rfl,_,_,rfl,_,rfl,?_⟩
  rw [G0r (show (1:Int)≤((L:Nat):Int)-((J:Nat):Int) by omega)]
  exact jdB (hC _ _ ⟨rfl,rfl⟩)
 rintro _ _ ⟨rfl,rfl⟩
 have sqs: ∀M∈(List.range L).map (jaw n T),Sq n 1 M:=fun M hM=>by
  obtain⟨i,_,rfl⟩:=G0M.mp hM
  exact jcr n T i
 have em:((List.range L).map fun i=>jai (jaw n T i))=((List.range L).map (jaw n T)).map jai:=by rw [G0N];rfl
 have atR: ∀i,i<L→((List.range L).map fun i=>jai (jaw n T i))[i]? =some (jai (jaw n T i)):=fun i hi=>by rw [G0o,G07 hi];rfl
 refine jam (fun σ' h' =>σ' = [some (jai U),some (.tup [.int (((J:Nat):Int)+1),.int (((L:Nat):Int)-((J:Nat):Int)),.tup ((List.range L).map fun i=>jai (jaw n T i))]),some (.int (((J:Nat):Int)+1)),some (.int (((L:Nat):Int)-((J:Nat):Int))),some (.tup ((List.range L).map fun i=>jai (jaw n T i)))]∧h=h') (fun C hC=>⟨_,rfl,_,rfl,_,rfl,_,rfl,(List.range L).map (jaw n T),n,?_,sqs,h1,h6,by rw [G0a,G0h];omega,co.nd,_,rfl,jdB (hC _ _ ⟨rfl,rfl⟩)⟩) ?_
 ·rw [G0a,hU.len,G0a,G0h,em,show ((J:Nat):Int)+1+(((L:Nat):Int)-((J:Nat):Int))-1=((L:Nat):Int) by omega]
 rintro _ _ ⟨rfl,rfl⟩
 refine jam (fun σ' h' =>σ' = [some (jai U),some (.tup [.int (((J:Nat):Int)+1),.int (((L:Nat):Int)-((J:Nat):Int)),.tup ((List.range L).map fun i=>jai (jaw n T i))]),some (.int (((J:Nat):Int)+1)),some (.int (((L:Nat):Int)-((J:Nat):Int))),some (.tup ((List.range L).map fun i=>jai (jaw n T i)))]∧h=h' ∧jak n U=jak n T) (fun C hC=>⟨_,rfl,_,jcB (j:=0) (atR 0 (by omega)),_,rfl,U,n,b,rfl,hU,h1,h6,jme ⟨_,rfl,?_⟩⟩) ?_
 ·show if (!decide (jak n T=jak n U))=true then _ else _
  by_cases z:jak n U=jak n T
  ·rw [G0r z.symm]
   refine jdB ⟨_,rfl,_,rfl,U,(List.range L).map (jaw n T),n,b,by rw [em],hU,hb,sqs,h1,h6,by rw [G0a,G0h];omega,fun p hp=> ?_,_,rfl,jdB (hC _ _ ⟨rfl,rfl,z⟩)⟩
   rw [jgs (T:=U) (U:=T) hU hT (by omega) (sqs _ (G17 hp).1) z]
   obtain⟨i,hi,e⟩:=List.getElem_of_mem hp
   rw [G3a,G1x,G0a,G0h] at hi
   rw [List.getElem_zip] at e
   rw [←e]
   simp only [List.getElem_drop,G20,G1e]
   rw [G3r 1 i]
   rfl
  ·rw [G0S fun w=>z w.symm]
   rw [G0S z] at q
   exact jjp ⟨_,Sub.refl _,q⟩
 rintro _ _ ⟨rfl,rfl,z⟩
 rw [G0r z] at q
 refine⟨_,rfl,_,jka (by rw [G0a,G0h];omega) (by rw [G0a,G0h];exact atR (L-1) (by omega)),_,rfl,jaw n T (L-1),U,n,b,rfl,jcr n T _,hU,h1,h6,hb,_,rfl,_,rfl,_,?_,jnG (B:=jaw n T J) ?_ ⟨_,Sub.refl _,q⟩⟩
 ·show atI ((List.range L).map fun i=>jai (jaw n T i)) (((J:Nat):Int)+1-1)=_
  rw [show ((J:Nat):Int)+1-1=((J:Nat):Int) by omega]
  exact jcB (atR J lt)
 ·rw [jgs (T:=U) (U:=T) hU hT (by omega) (jcr n T _) z,←co.eq]
  show jaw n T (L-1+1)=_
  rw [show L-1+1=L by omega]
def jcI:RDn:=fun ds h Q=> ∃ns k,ds= [.scr ns,.int k]∧0≤k∧ ∀n,Q (.int n) h
set_option maxHeartbeats 2000000 in
theorem jgt {n:Nat} {f:Addr} {fd:FuncData} (Z:Zs mg) (F:Fun K "_law_cell" "_law_cell" jbp f fd):FnOk P w K mg base CX0 (n+1) f fd ["_law_script","_law_k"] (LSp K jcI):=by
 refine F.okJ jgo (fun ds h Q q=>by obtain⟨ns,k,e,h0,q⟩:=q;subst e;rfl) _ (fun cdv A outer s H E hr=>(jaf (jeh (jcT jlx (jv 1) (jaN jbz rfl Z.len G0O (jac (jv 0) jaa)) (jaC _)) (jag (jbQ (jix (jv 0) (jv 1) (fun _ _=>rfl)))) ja2) (by exact(jag (jbQ jaI))))) ?_
 intro ds h Q q
 obtain⟨ns,k,e,h0,q⟩:=q
 subst e
 simp only [jdC,Nxt,jef,jel,jcy,jbU,jbm,dOp,jaS,dIs,jei,dCB,jbi,jdn,jen,jcz,dC,jbX,ja9,jeo,jep,jeq,jbY,jej,jek,jbV,jem,jbW,dIf,dUn,jfD,dSl,jaH,jb9,jeI,jbj,gN,gT2,jb8,je7,je8,jeJ,jeE,jfj,je9,jcm,jfa,jeg,eqD,neD,eqE,neE,isV,isN,jes,jaK,jeO,jeP,jca,ixD,jeF,jeG,jeH,jaR,ja8,ja1,jb7,jeK,slD,jer,jaT,G0x,G0Q,G0e,G0H,List.replicate,G0F,G0G,G0A,G0B,G0p,G0l,G0E,G0K,D.bl.injEq,D.lst.injEq]
 refine jjq (fun c=> ?_) (fun _=>⟨h,Sub.refl h,q 0⟩)
 have c' :k<(ns.length:Int):=G2U c
 have hk:k.toNat<ns.length:=by omega
 have ek:k=((k.toNat:Nat):Int):=by omega
 have z:=jcB (G0i hk)
 rw [←ek] at z
 exact⟨ns[k.toNat],z,h,Sub.refl h,q _⟩
def jdc:RDn:=fun ds h Q=> ∃c,ds= [.int c]∧ ∀p l fl,h p=none→0≤l→(fl=0∨fl=1)→Q (.lst p) (jbT h p [.int l,.int fl])
set_option maxHeartbeats 2000000 in
theorem jhe {n:Nat} {f:Addr} {fd:FuncData} (Z:Zs mg) (F:Fun K "_law_pen" "_law_pen" jbJ f fd):FnOk P w K mg base CX0 (n+1) f fd ["_law_cell_here"] (LSp K jdc):=by
 refine F.okJ sc__law_pen (fun ds h Q q=>by obtain⟨c,e,q⟩:=q;subst e;rfl) _ (fun cdv A outer s H E hr=>(jaf (jet (i:=1) sc__law_pen.nd rfl (Or.inl rfl) (jaN (jnn rfl) rfl Z.max (by decide +kernel) (jac (jv 0) (by exact(jac (jop jcW jaI (jv 0)) jaa))))) (by exact(jag (jbQ (jjs (jac (jv 1) (by exact(jac (ja7 jkz rfl Z.int (by decide +kernel) (jac (jgI jjK (jv 1) (jop jky jaI jaI) (jaC _)) jaa)) jaa))))))))) ?_
 intro ds h Q q
 obtain⟨c,e,q⟩:=q
 subst e
 simp only [jdC,Nxt,jef,jel,jcy,jbU,jbm,dOp,jaS,dIs,jei,dCB,jbi,jdn,jen,jcz,dC,jbX,ja9,jeo,jep,jeq,jbY,jej,jek,jbV,jem,jbW,dIf,dUn,jfD,dSl,jaH,jb9,jeI,jbj,gN,gT2,jb8,je7,je8,jeJ,jeE,jfj,je9,jcm,jfa,jeg,eqD,neD,eqE,neE,isV,isN,jes,jaK,jeO,jeP,jca,ixD,jeF,jeG,jeH,jaR,ja8,ja1,jb7,jeK,slD,jer,jaT,G0x,G0Q,G0e,G0H,List.replicate,G0F,G0G,G0A,G0B,G0p,G0l,G0E,G0K,D.bl.injEq,D.lst.injEq]
 refine⟨⟨by decide,by decide,by decide⟩,by decide,fun p hp=>⟨_,Sub.refl _,q p _ _ hp ?_ ?_⟩⟩
 ·split<;>omega
 ·split<;>simp<;>omega
def jbw:RDn:=fun ds h Q=> ∃p l fl m,ds= [.lst p,.int m]∧h p=some [.int l,.int fl]∧0≤l∧0<m∧m<2^200∧ ∀r l',0≤r→r<m→0≤l' →Q (.int r) (jbT h p [.int l',.int fl])
set_option maxHeartbeats 2000000 in
theorem jgu {n:Nat} {f:Addr} {fd:FuncData} (Z:Zs mg) (F:Fun K "_law_draw" "_law_draw" jbq f fd):FnOk P w K mg base CX0 (n+1) f fd ["_law_pen_here","_law_many"] (LSp K jbw):=by
 refine F.okJ sc__law_draw (fun ds h Q q=>by obtain⟨p,l,fl,m,e,hp,h0,hm,hm2,q⟩:=q;subst e;rfl) _ (fun cdv A outer s H E hr=>(jaf (jeh (jcT oq_eq (jix (jv 0) jaI (fun _ _=>rfl)) jaI (jaC _)) (jaf (jkB (jaN jhL rfl Z.divmod (by decide +kernel) (jac (jix (jv 0) jaI (fun _ _=>rfl)) (by exact(jac (jv 1) jaa)))) (jf2 (i:=2) (j:=3) rfl sc__law_draw.nd rfl rfl (Or.inl rfl) (Or.inl rfl))) (by exact(jaf (jkB (jv 2) (jkC (jv 0) jaI)) (by exact(jag (jbQ (jv 3))))))) ja2) (by exact(jaf (jet (i:=4) sc__law_draw.nd rfl (Or.inl rfl) (jop jdA (jop jff (jop jb6 (jop jdA (jix (jv 0) jaI (fun _ _=>rfl)) jaI) jaI) jaI) jaI)) (by exact(jaf (jet (i:=4) sc__law_draw.nd rfl (Or.inl rfl) (jop jdA (jop jb6 (jop jff (jv 4) (jv 4)) jaI) jaI)) (by exact(jaf (jkB (jop jdA (jop jb6 (jop jff (jv 4) jaI) jaI) jaI) (jkC (jv 0) jaI)) (by exact(jag (jbQ (jop jdA (jop jlw (jix (jv 0) jaI (fun _ _=>rfl)) jaI) (jv 1))))))))))))) ?_
 intro ds h Q q
 obtain⟨p,l,fl,m,e,hp,h0,hm,hm2,q⟩:=q
 subst e
 simp only [jdC,Nxt,jef,jel,jcy,jbU,jbm,dOp,jaS,dIs,jei,dCB,jbi,jdn,jen,jcz,dC,jbX,ja9,jeo,jep,jeq,jbY,jej,jek,jbV,jem,jbW,dIf,dUn,jfD,dSl,jaH,jb9,jeI,jbj,gN,gT2,jb8,je7,je8,jeJ,jeE,jfj,je9,jcm,jfa,jeg,eqD,neD,eqE,neE,isV,isN,jes,jaK,jeO,jeP,jca,ixD,jeF,jeG,jeH,jaR,ja8,ja1,jb7,jeK,slD,jer,jaT,G0x,G0Q,G0e,G0H,List.replicate,G0F,G0G,G0A,G0B,G0p,G0l,G0E,G0K,D.bl.injEq,D.lst.injEq,hp]
 refine⟨_,_,rfl,rfl,?_⟩
 show if decide (fl=1)=true then _ else _
 refine jjq (fun _=> ?_) (fun _=> ?_)
 ·exact⟨_,_,rfl,rfl,_,_,rfl,⟨hm,hm2⟩,_,_,rfl,p,0,_,0,rfl,rfl,hp,rfl,_,Sub.refl _,q (l%m) (l / m) (G2f _ (by omega)) (G1S _ hm) (Int.ediv_nonneg h0 (by omega))⟩
 ·have b1:0≤l%2147483647∧l%2147483647<2147483647:=⟨G2f _ (by decide),G1S _ (by decide)⟩
  refine⟨_,_,rfl,rfl,by decide,.inr ⟨by decide,by decide⟩,by decide,?_⟩
  have b2: ∀z:Int,0≤z%2147483629∧z%2147483629<2147483629:=fun z=>⟨G2f _ (by decide),G1S _ (by decide)⟩
  have b3: ∀z:Int,0≤z%2147483587∧z%2147483587<2147483587:=fun z=>⟨G2f _ (by decide),G1S _ (by decide)⟩
  generalize (l%2147483647+40503)*69621=z1
  have c1:CMul (z1%2147483629) (z1%2147483629):=by
   have z:=b2 z1
   exact .inl ⟨by omega,by omega⟩
  generalize (z1%2147483629*(z1%2147483629)+7817)=z2
  generalize ((z2%2147483587)*48271+11)=z3
  have z:=b2 z3
  refine⟨c1,by decide,.inr ⟨by decide,by decide⟩,by decide,p,0,_,0,rfl,rfl,hp,rfl,_,_,jad,rfl,⟨by decide,by decide⟩,hm,_,Sub.refl _,?_⟩
  exact q (z3%2147483629 / 32%m) (z3%2147483629) (G2f _ (by omega)) (G1S _ hm) z.1
def jcJ:RDn:=fun ds h Q=> ∃p l fl,ds= [.lst p]∧h p=some [.int l,.int fl]∧0≤l∧ ∀ (k:Nat) l',1≤k→k≤6→0≤l' →Q (.int (k:Int)) (jbT h p [.int l',.int fl])
set_option maxHeartbeats 2000000 in
theorem jgv {n:Nat} {f:Addr} {fd:FuncData} (Z:Zs mg) (F:Fun K "_law_size" "_law_size" jbr f fd) (C__law_draw:jae P w K mg base n "_law_draw" ["_law_pen_here","_law_many"] jbw):FnOk P w K mg base CX0 (n+1) f fd ["_law_pen_here"] (LSp K jcJ):=by
 obtain⟨g_G__law_draw,gd_G__law_draw,G__law_draw,bG__law_draw,kG__law_draw,mG__law_draw⟩:=C__law_draw
 refine F.okJ jgp (fun ds h Q q=>by obtain⟨p,l,fl,e,hp,h0,q⟩:=q;subst e;rfl) _ (fun cdv A outer s H E hr=>(jag (jbQ (jix (jjs (jac jaI (by exact(jac jaI (by exact(jac jaI (by exact(jac jaI (by exact(jac jaI (by exact(jac jaI (by exact(jac jaI (by exact(jac jaI (by exact(jac jaI (by exact(jac jaI (by exact(jac jaI (by exact(jac jaI jaa)))))))))))))))))))))))) (jap G__law_draw hr rfl mG__law_draw kG__law_draw bG__law_draw (jac (jv 0) (by exact(jac jaI jaa)))) (fun _ _=>rfl))))) ?_
 intro ds h Q q
 obtain⟨p,l,fl,e,hp,h0,q⟩:=q
 subst e
 simp only [jdC,Nxt,jef,jel,jcy,jbU,jbm,dOp,jaS,dIs,jei,dCB,jbi,jdn,jen,jcz,dC,jbX,ja9,jeo,jep,jeq,jbY,jej,jek,jbV,jem,jbW,dIf,dUn,jfD,dSl,jaH,jb9,jeI,jbj,gN,gT2,jb8,je7,je8,jeJ,jeE,jfj,je9,jcm,jfa,jeg,eqD,neD,eqE,neE,isV,isN,jes,jaK,jeO,jeP,jca,ixD,jeF,jeG,jeH,jaR,ja8,ja1,jb7,jeK,slD,jer,jaT,G0x,G0Q,G0e,G0H,List.replicate,G0F,G0G,G0A,G0B,G0p,G0l,G0E,G0K,D.bl.injEq,D.lst.injEq,hp]
 refine⟨by decide,fun p1 e1=>⟨p,l,fl,12,rfl,jaV hp e1,h0,by decide,by decide,fun r l' r0 r1 l0=> ?_⟩⟩
 obtain⟨d,hd,ed⟩:=jgF (xs:= [D.int 1,D.int 2,D.int 3,D.int 4,D.int 5,D.int 3,D.int 4,D.int 2,D.int 6,D.int 5,D.int 4,D.int 3]) r0 r1
 refine⟨_,d,jas (jaP hp e1) jad,ed,_,Sub.both (Sub.newAt (Sub.refl h) e1),?_⟩
 have q' : ∀k:Nat,1≤k→k≤6→Q (.int (k:Int)) (jbT h p [.int l',.int fl]):=fun k a b=>q k l' a b l0
 simp only [G0v,G06,G2W] at hd
 rcases hd with e|e|e|e|e|e|e|e|e|e|e|e<;>subst e
 ·exact q' 1 (by decide) (by decide)
 ·exact q' 2 (by decide) (by decide)
 ·exact q' 3 (by decide) (by decide)
 ·exact q' 4 (by decide) (by decide)
 ·exact q' 5 (by decide) (by decide)
 ·exact q' 3 (by decide) (by decide)
 ·exact q' 4 (by decide) (by decide)
 ·exact q' 2 (by decide) (by decide)
 ·exact q' 6 (by decide) (by decide)
 ·exact q' 5 (by decide) (by decide)
 ·exact q' 4 (by decide) (by decide)
 ·exact q' 3 (by decide) (by decide)
def jcv:RDn:=fun ds h Q=> ∃p l fl,∃k:Nat,ds= [.lst p,.int (k:Int)]∧h p=some [.int l,.int fl]∧0≤l∧1≤k∧k≤6∧ ∀T l',GoodTab k T→0≤l' →Q (jai T) (jbT h p [.int l',.int fl])
set_option maxHeartbeats 2000000 in
theorem jfB {n:Nat} {f:Addr} {fd:FuncData} (Z:Zs mg) (F:Fun K "_law_table" "_law_table" jbf f fd) (C__law_draw:jae P w K mg base n "_law_draw" ["_law_pen_here","_law_many"] jbw):FnOk P w K mg base CX0 (n+1) f fd ["_law_pen_here","_law_size_here"] (LSp K jcv):=by
 obtain⟨g_G__law_draw,gd_G__law_draw,G__law_draw,bG__law_draw,kG__law_draw,mG__law_draw⟩:=C__law_draw
 refine F.okJ sc__law_table (fun ds h Q q=>by obtain⟨p,l,fl,k,e,hp,h0,hk1,hk6,q⟩:=q;subst e;rfl) _ (fun cdv A outer s H E hr=>(jaf (jpR (i:=2) (j:=3) rfl sc__law_table.nd rfl rfl (by decide) rfl rfl (jac (jap G__law_draw hr rfl mG__law_draw kG__law_draw bG__law_draw (jac (jv 0) (by exact(jac jaI jaa)))) (by exact(jac (jix (jjs (jac jaI (by exact(jac jaI (by exact(jac jaI jaa)))))) (jap G__law_draw hr rfl mG__law_draw kG__law_draw bG__law_draw (jac (jv 0) (by exact(jac jaI jaa)))) (fun _ _=>rfl)) jaa))) rfl) (by exact(jaf (jet (i:=4) sc__law_table.nd rfl (Or.inl rfl) (jix (jjs (jac jaI (by exact(jac jaI (by exact(jac jaI (by exact(jac (jop jky jaI jaI) jaa)))))))) (jap G__law_draw hr rfl mG__law_draw kG__law_draw bG__law_draw (jac (jv 0) (by exact(jac jaI jaa)))) (fun _ _=>rfl))) (by exact(jaf (jet (i:=5) sc__law_table.nd rfl (Or.inl rfl) (jjs jaa)) (by exact(jaf (jnE G1W rfl (jf3 rfl Z.range (jac (jv 1) jaa)) (jd1 (i:=6) sc__law_table.nd rfl (Or.inl rfl)) (jaf (jet (i:=7) sc__law_table.nd rfl (Or.inl rfl) (jjs jaa)) (by exact(jaf (jnE G1W rfl (jf3 rfl Z.range (jac (jv 1) jaa)) (jd1 (i:=8) sc__law_table.nd rfl (Or.inl rfl)) (jaf (jet (i:=9) sc__law_table.nd rfl (Or.inl rfl) (jgI oq_eq (jap G__law_draw hr rfl mG__law_draw kG__law_draw bG__law_draw (jac (jv 0) (by exact(jac (jv 3) jaa)))) jaI (jaC _))) (by exact(jaf (jeh (jcT jlx (jv 2) jaI (jaC _)) (jag (jet (i:=9) sc__law_table.nd rfl (Or.inl rfl) (jor (jgI oq_eq (jv 8) (jop jdA (jop jb6 (jv 6) jaI) (jv 1)) (jaC _)) (jhV (jjr (jv 9) (jhV (jgI (jeL hr.units) (jap G__law_draw hr rfl mG__law_draw kG__law_draw bG__law_draw (jac (jv 0) (by exact(jac jaI jaa)))) (jv 2) (jaC _)))))))) ja2) (by exact(jaf (jeh (jcT oq_eq (jv 2) jaI (jaC _)) (jag (jet (i:=9) sc__law_table.nd rfl (Or.inl rfl) (jor (jjr (jv 9) (jhV (jgI oq_eq (jop jdA (jop jcW (jv 8) (jv 6)) jaI) jaI (jaC _)))) (jhV (jgI (jeL hr.units) (jv 8) (jop jb6 (jv 6) jaI) (jaC _)))))) ja2) (by exact(jaf (jeh (jcT oq_eq (jv 2) jaI (jaC _)) (jag (jet (i:=9) sc__law_table.nd rfl (Or.inl rfl) (jjr (jv 9) (jhV (jgI jjK (jv 8) (jv 6) (jaC _)))))) ja2) (by exact(jag (jd0 (joN (jv 7) (jop jff (ja7 jkz rfl Z.int (by decide +kernel) (jac (jv 9) jaa)) (jop jb6 jaI (jap G__law_draw hr rfl mG__law_draw kG__law_draw bG__law_draw (jac (jv 0) (by exact(jac (jv 4) jaa)))))))))))))))))) (by exact(jag (jd0 (joN (jv 5) (ja7 cq_tuple rfl Z.tuple (by decide +kernel) (jac (jv 7) jaa)))))))))) (by exact(jag (jbQ (ja7 cq_tuple rfl Z.tuple (by decide +kernel) (jac (jv 5) jaa))))))))))))) ?_
 intro ds h Q q
 obtain⟨p,l,fl,k,e,hp,h0,hk1,hk6,q⟩:=q
 subst e
 refine jam (fun σ' h' => ∃way o l2,σ' = [some (.lst p),some (.int (k:Int)),some (.int way),some (.int o),none,none,none,none,none,none]∧0<o∧o<1000∧0≤l2∧h' p=some [.int l2,.int fl]∧But p h h') (fun C hC=> ?_) (fun σ' h' hV=> ?_)
 ·simp only [jdC,Nxt,jef,jel,jcy,jbU,jbm,dOp,jaS,dIs,jei,dCB,jbi,jdn,jen,jcz,dC,jbX,ja9,jeo,jep,jeq,jbY,jej,jek,jbV,jem,jbW,dIf,dUn,jfD,dSl,jaH,jb9,jeI,jbj,gN,gT2,jb8,je7,je8,jeJ,jeE,jfj,je9,jcm,jfa,jeg,eqD,neD,eqE,neE,isV,isN,jes,jaK,jeO,jeP,jca,ixD,jeF,jeG,jeH,jaR,ja8,ja1,jb7,jeK,slD,jer,jaT,G0x,G0Q,G0e,G0H,List.replicate,G0F,G0G,G0A,G0B,G0p,G0l,G0E,G0K,D.bl.injEq,D.lst.injEq,hp]
  refine⟨p,l,fl,6,rfl,hp,h0,by decide,by decide,fun way l1 w0 w1 l10=> ?_⟩
  refine⟨by decide,fun p1 e1=>⟨p,l1,fl,3,rfl,jaV jad e1,l10,by decide,by decide,fun r l2 r0 r1 l20=> ?_⟩⟩
  obtain⟨oft,ho,eo⟩:=jgF (xs:= [D.int 2,D.int 3,D.int 5]) r0 r1
  refine⟨_,oft,jas (jaP jad e1) jad,eo,?_⟩
  obtain⟨o,e,o1,o2⟩: ∃o:Int,oft= .int o∧0<o∧o<1000:=by
   simp only [G0v,G06,G2W] at ho
   rcases ho with e|e|e<;>exact⟨_,e,by decide,by decide⟩
  subst e
  exact⟨_,_,rfl,hC _ _ ⟨way,o,l2,rfl,o1,o2,l20,jad,((But.upd).new e1).put⟩⟩
 obtain⟨way,o,l2,e,o1,o2,l20,kA,bA⟩:=hV
 subst e
 refine jam (fun σ' h' => ∃m l3,σ' = [some (.lst p),some (.int (k:Int)),some (.int way),some (.int o),some (.int m),none,none,none,none,none]∧0<m∧m≤1000000∧0≤l3∧h' p=some [.int l3,.int fl]∧But p h h') (fun C hC=> ?_) (fun σ' h' hV=> ?_)
 ·simp only [jdC,Nxt,jef,jel,jcy,jbU,jbm,dOp,jaS,dIs,jei,dCB,jbi,jdn,jen,jcz,dC,jbX,ja9,jeo,jep,jeq,jbY,jej,jek,jbV,jem,jbW,dIf,dUn,jfD,dSl,jaH,jb9,jeI,jbj,gN,gT2,jb8,je7,je8,jeJ,jeE,jfj,je9,jcm,jfa,jeg,eqD,neD,eqE,neE,isV,isN,jes,jaK,jeO,jeP,jca,ixD,jeF,jeG,jeH,jaR,ja8,ja1,jb7,jeK,slD,jer,jaT,G0x,G0Q,G0e,G0H,List.replicate,G0F,G0G,G0A,G0B,G0p,G0l,G0E,G0K,D.bl.injEq,D.lst.injEq]
  refine⟨⟨by decide,by decide,by decide⟩,by decide,fun p1 e1=>⟨p,l2,fl,4,rfl,jaV kA e1,l20,by decide,by decide,fun r l3 r0 r1 l30=> ?_⟩⟩
  obtain⟨most,ho,eo⟩:=jgF (xs:= [D.int 1,D.int 1,D.int 3,D.int (10^Int.toNat 6)]) r0 r1
  refine⟨_,most,jas (jaP kA e1) jad,eo,?_⟩
  obtain⟨m,e,o1,o2⟩: ∃o:Int,most= .int o∧0<o∧o≤1000000:=by
   simp only [G0v,G06,G2W] at ho
   rcases ho with e|e|e|e<;>exact⟨_,e,by decide,by decide⟩
  subst e
  exact hC _ _ ⟨m,l3,rfl,o1,o2,l30,jad,(bA.new e1).put⟩
 obtain⟨m,l3,e,m1,m2,l30,kB,bB⟩:=hV
 subst e
 refine jam (fun σ' h' => ∃R,σ' = [some (.lst p),some (.int (k:Int)),some (.int way),some (.int o),some (.int m),some (.lst R),none,none,none,none]∧R≠p∧h R=none∧h' R=some []∧h' p=some [.int l3,.int fl]∧But p h h') (fun C hC=> ?_) (fun σ' h' hV=> ?_)
 ·simp only [jdC,Nxt,jef,jel,jcy,jbU,jbm,dOp,jaS,dIs,jei,dCB,jbi,jdn,jen,jcz,dC,jbX,ja9,jeo,jep,jeq,jbY,jej,jek,jbV,jem,jbW,dIf,dUn,jfD,dSl,jaH,jb9,jeI,jbj,gN,gT2,jb8,je7,je8,jeJ,jeE,jfj,je9,jcm,jfa,jeg,eqD,neD,eqE,neE,isV,isN,jes,jaK,jeO,jeP,jca,ixD,jeF,jeG,jeH,jaR,ja8,ja1,jb7,jeK,slD,jer,jaT,G0x,G0Q,G0e,G0H,List.replicate,G0F,G0G,G0A,G0B,G0p,G0l,G0E,G0K,D.bl.injEq,D.lst.injEq]
  exact⟨by decide,fun R eR=>hC _ _ ⟨R,rfl,jaP kB eR,jiw bB eR (jaP kB eR),jad,jaV kB eR,bB.new eR⟩⟩
 obtain⟨R,e,nR,fR,kR,kC,bC⟩:=hV
 subst e
 refine jam (fun σ' h' => ∃a b c d l4 rows,σ' = [some (.lst p),some (.int (k:Int)),some (.int way),some (.int o),some (.int m),some (.lst R),a,b,c,d]∧0≤l4∧h' p=some [.int l4,.int fl]∧h' R=some (rows.map jdo)∧But p h h' ∧GoodTab k rows) (fun C hC=> ?_) (fun σ' h' hV=> ?_)
 rotate_left
 ·obtain⟨a,b,c,d,l4,rows,e,l40,kD,kE,bD,g⟩:=hV
  subst e
  simp only [jdC,Nxt,jef,jel,jcy,jbU,jbm,dOp,jaS,dIs,jei,dCB,jbi,jdn,jen,jcz,dC,jbX,ja9,jeo,jep,jeq,jbY,jej,jek,jbV,jem,jbW,dIf,dUn,jfD,dSl,jaH,jb9,jeI,jbj,gN,gT2,jb8,je7,je8,jeJ,jeE,jfj,je9,jcm,jfa,jeg,eqD,neD,eqE,neE,isV,isN,jes,jaK,jeO,jeP,jca,ixD,jeF,jeG,jeH,jaR,ja8,ja1,jb7,jeK,slD,jer,jaT,G0x,G0Q,G0e,G0H,List.replicate,G0F,G0G,G0A,G0B,G0p,G0l,G0E,G0K,D.bl.injEq,D.lst.injEq]
  exact⟨_,kE,_,bD.sub kD,q rows l4 g l40⟩
 refine jgG k (fun i σ' h' => ∃a b c d l4 rows,σ' = [some (.lst p),some (.int (k:Int)),some (.int way),some (.int o),some (.int m),some (.lst R),a,b,c,d]∧0≤l4∧h' p=some [.int l4,.int fl]∧h' R=some (rows.map jdo)∧But p h h' ∧rows.length=i∧ ∀r∈rows,jfi k r) (by omega) (fun R' r=>⟨_,rfl,r⟩)
  ⟨none,none,none,none,l3,[],rfl,l30,kC,kR,bC,rfl,fun r hr=>nomatch hr⟩ (fun σ' h' ⟨a,b,c,d,l4,rows,e,l40,kD,kE,bD,g1,g2⟩=>hC _ _ ⟨a,b,c,d,l4,rows,e,l40,kD,kE,bD,g1,g2⟩) ?_
 rintro i σ' h' hi ⟨a,b,c,d,l4,rows,e,l40,kD,kE,bD,g1,g2⟩
 subst e
 show jdC _ _ _ [some (.lst p),some (.int (k:Int)),some (.int way),some (.int o),some (.int m),some (.lst R),some (.int (i:Int)),b,c,d] h'
 refine jam (fun σ' h' => ∃S,σ' = [some (.lst p),some (.int (k:Int)),some (.int way),some (.int o),some (.int m),some (.lst R),some (.int (i:Int)),some (.lst S),c,d]∧S≠p∧S≠R∧h S=none∧h' S=some []∧h' p=some [.int l4,.int fl]∧h' R=some (rows.map jdo)∧But p h h') (fun C hC=> ?_) (fun σ' h' hV=> ?_)
 ·simp only [jdC,Nxt,jef,jel,jcy,jbU,jbm,dOp,jaS,dIs,jei,dCB,jbi,jdn,jen,jcz,dC,jbX,ja9,jeo,jep,jeq,jbY,jej,jek,jbV,jem,jbW,dIf,dUn,jfD,dSl,jaH,jb9,jeI,jbj,gN,gT2,jb8,je7,je8,jeJ,jeE,jfj,je9,jcm,jfa,jeg,eqD,neD,eqE,neE,isV,isN,jes,jaK,jeO,jeP,jca,ixD,jeF,jeG,jeH,jaR,ja8,ja1,jb7,jeK,slD,jer,jaT,G0x,G0Q,G0e,G0H,List.replicate,G0F,G0G,G0A,G0B,G0p,G0l,G0E,G0K,D.bl.injEq,D.lst.injEq]
  exact⟨by decide,fun S eS=>hC _ _ ⟨S,rfl,jaP kD eS,jaP kE eS,jiw bD eS (jaP kD eS),jad,jaV kD eS,jaV kE eS,bD.new eS⟩⟩
 obtain⟨S,e,nS,nSR,fS,kS,kD,kE,bD⟩:=hV
 subst e
 refine jam (fun σ' h' => ∃c d l5 row,σ' = [some (.lst p),some (.int (k:Int)),some (.int way),some (.int o),some (.int m),some (.lst R),some (.int (i:Int)),some (.lst S),c,d]∧0≤l5∧h' p=some [.int l5,.int fl]∧h' R=some (rows.map jdo)∧h' S=some (row.map D.int)∧But p h h' ∧jfi k row) (fun C hC=> ?_) (fun σ' h' hV=> ?_)
 rotate_left
 ·obtain⟨c,d,l5,row,e,l50,kD,kE,kF,bD,g⟩:=hV
  subst e
  simp only [jdC,Nxt,jef,jel,jcy,jbU,jbm,dOp,jaS,dIs,jei,dCB,jbi,jdn,jen,jcz,dC,jbX,ja9,jeo,jep,jeq,jbY,jej,jek,jbV,jem,jbW,dIf,dUn,jfD,dSl,jaH,jb9,jeI,jbj,gN,gT2,jb8,je7,je8,jeJ,jeE,jfj,je9,jcm,jfa,jeg,eqD,neD,eqE,neE,isV,isN,jes,jaK,jeO,jeP,jca,ixD,jeF,jeG,jeH,jaR,ja8,ja1,jb7,jeK,slD,jer,jaT,G0x,G0Q,G0e,G0H,List.replicate,G0F,G0G,G0A,G0B,G0p,G0l,G0E,G0K,D.bl.injEq,D.lst.injEq]
  refine⟨_,kF,_,kE,?_,_,Sub.refl _,by omega,_,_,_,_,l5,rows++ [row],rfl,l50,jas (Ne.symm nR) kD,?_,bD.putNew fR,by simp [g1],?_⟩
  ·rw [G0a];exact G1Q (show rows.length≤1000 by omega) (by decide)
  ·rw [jad,G1p];rfl
  ·intro r hr
   rcases G1c.mp hr with z|z
   ·exact g2 r z
   ·rw [G0z.mp z];exact g
 refine jgG k (fun j σ' h' => ∃c d l5 row,σ' = [some (.lst p),some (.int (k:Int)),some (.int way),some (.int o),some (.int m),some (.lst R),some (.int (i:Int)),some (.lst S),c,d]∧0≤l5∧h' p=some [.int l5,.int fl]∧h' R=some (rows.map jdo)∧h' S=some (row.map D.int)∧But p h h' ∧row.length=j∧ ∀x∈row,0≤x∧x≤1000000) (by omega) (fun R' r=>⟨_,rfl,r⟩)
  ⟨_,_,l4,[],rfl,l40,kD,kE,kS,bD,rfl,fun r hr=>nomatch hr⟩ (fun σ' h' ⟨c,d,l5,row,e,l50,kD,kE,kF,bD,g1,g2⟩=>hC _ _ ⟨c,d,l5,row,e,l50,kD,kE,kF,bD,g1,g2⟩) ?_
 rintro j σ' h' hj ⟨c,d,l5,row,e,l50,kD,kE,kF,bD,g1',g2'⟩
 subst e
 show jdC _ _ _ [some (.lst p),some (.int (k:Int)),some (.int way),some (.int o),some (.int m),some (.lst R),some (.int (i:Int)),some (.lst S),some (.int (j:Int)),d] h'
 refine jam (fun σ' h' => ∃ (g:Bool) (l6:Int),σ' = [some (.lst p),some (.int (k:Int)),some (.int way),some (.int o),some (.int m),some (.lst R),some (.int (i:Int)),some (.lst S),some (.int (j:Int)),some (.bl g)]∧0≤l6∧h' p=some [.int l6,.int fl]∧h' R=some (rows.map jdo)∧h' S=some (row.map D.int)∧But p h h') (fun C hC=> ?_) (fun σ' h' hV=> ?_)
 ·simp only [jdC,Nxt,jef,jel,jcy,jbU,jbm,dOp,jaS,dIs,jei,dCB,jbi,jdn,jen,jcz,dC,jbX,ja9,jeo,jep,jeq,jbY,jej,jek,jbV,jem,jbW,dIf,dUn,jfD,dSl,jaH,jb9,jeI,jbj,gN,gT2,jb8,je7,je8,jeJ,jeE,jfj,je9,jcm,jfa,jeg,eqD,neD,eqE,neE,isV,isN,jes,jaK,jeO,jeP,jca,ixD,jeF,jeG,jeH,jaR,ja8,ja1,jb7,jeK,slD,jer,jaT,G0x,G0Q,G0e,G0H,List.replicate,G0F,G0G,G0A,G0B,G0p,G0l,G0E,G0K,D.bl.injEq,D.lst.injEq]
  exact⟨p,l5,fl,o,rfl,kD,l50,o1,by omega,fun r l6 r0 r1 l60=>hC _ _ ⟨_,l6,rfl,l60,jad,jas nR kE,jas nS kF,bD.put⟩⟩
 obtain⟨g,l6,e,l60,kD,kE,kF,bD⟩:=hV
 subst e
 refine jam (fun σ' h' => ∃ (g:Bool) (l6:Int),σ' = [some (.lst p),some (.int (k:Int)),some (.int way),some (.int o),some (.int m),some (.lst R),some (.int (i:Int)),some (.lst S),some (.int (j:Int)),some (.bl g)]∧0≤l6∧h' p=some [.int l6,.int fl]∧h' R=some (rows.map jdo)∧h' S=some (row.map D.int)∧But p h h') (fun C hC=> ?_) (fun σ' h' hV=> ?_)
 ·simp only [jdC,Nxt,jef,jel,jcy,jbU,jbm,dOp,jaS,dIs,jei,dCB,jbi,jdn,jen,jcz,dC,jbX,ja9,jeo,jep,jeq,jbY,jej,jek,jbV,jem,jbW,dIf,dUn,jfD,dSl,jaH,jb9,jeI,jbj,gN,gT2,jb8,je7,je8,jeJ,jeE,jfj,je9,jcm,jfa,jeg,eqD,neD,eqE,neE,isV,isN,jes,jaK,jeO,jeP,jca,ixD,jeF,jeG,jeH,jaR,ja8,ja1,jb7,jeK,slD,jer,jaT,G0x,G0Q,G0e,G0H,List.replicate,G0F,G0G,G0A,G0B,G0p,G0l,G0E,G0K,D.bl.injEq,D.lst.injEq]
  refine jjq (fun _=> ?_) (fun _=>hC _ _ ⟨g,l6,rfl,l60,kD,kE,kF,bD⟩)
  refine⟨by omega,?_⟩
  refine jjq (fun _=>hC _ _ ⟨_,l6,rfl,l60,kD,kE,kF,bD⟩) (fun _=> ?_)
  refine jjq (fun _=> ?_) (fun _=>hC _ _ ⟨_,l6,rfl,l60,kD,kE,kF,bD⟩)
  exact⟨p,l6,fl,2,rfl,kD,l60,by decide,by decide,fun r l7 r0 r1 l70=>hC _ _ ⟨_,l7,rfl,l70,jad,jas nR kE,jas nS kF,bD.put⟩⟩
 obtain⟨g,l6,e,l60,kD,kE,kF,bD⟩:=hV
 subst e
 refine jam (fun σ' h' => ∃ (g:Bool) (l6:Int),σ' = [some (.lst p),some (.int (k:Int)),some (.int way),some (.int o),some (.int m),some (.lst R),some (.int (i:Int)),some (.lst S),some (.int (j:Int)),some (.bl g)]∧0≤l6∧h' p=some [.int l6,.int fl]∧h' R=some (rows.map jdo)∧h' S=some (row.map D.int)∧But p h h') (fun C hC=> ?_) (fun σ' h' hV=> ?_)
 ·simp only [jdC,Nxt,jef,jel,jcy,jbU,jbm,dOp,jaS,dIs,jei,dCB,jbi,jdn,jen,jcz,dC,jbX,ja9,jeo,jep,jeq,jbY,jej,jek,jbV,jem,jbW,dIf,dUn,jfD,dSl,jaH,jb9,jeI,jbj,gN,gT2,jb8,je7,je8,jeJ,jeE,jfj,je9,jcm,jfa,jeg,eqD,neD,eqE,neE,isV,isN,jes,jaK,jeO,jeP,jca,ixD,jeF,jeG,jeH,jaR,ja8,ja1,jb7,jeK,slD,jer,jaT,G0x,G0Q,G0e,G0H,List.replicate,G0F,G0G,G0A,G0B,G0p,G0l,G0E,G0K,D.bl.injEq,D.lst.injEq]
  refine jjq (fun _=> ?_) (fun _=>hC _ _ ⟨g,l6,rfl,l60,kD,kE,kF,bD⟩)
  cases g
  ·exact hC _ _ ⟨_,l6,rfl,l60,kD,kE,kF,bD⟩
  ·refine⟨by decide,?_⟩
   refine jjq (fun _=>hC _ _ ⟨_,l6,rfl,l60,kD,kE,kF,bD⟩) (fun _=>hC _ _ ⟨_,l6,rfl,l60,kD,kE,kF,bD⟩)
 obtain⟨g,l6,e,l60,kD,kE,kF,bD⟩:=hV
 subst e
 refine jam (fun σ' h' => ∃ (g:Bool) (l6:Int),σ' = [some (.lst p),some (.int (k:Int)),some (.int way),some (.int o),some (.int m),some (.lst R),some (.int (i:Int)),some (.lst S),some (.int (j:Int)),some (.bl g)]∧0≤l6∧h' p=some [.int l6,.int fl]∧h' R=some (rows.map jdo)∧h' S=some (row.map D.int)∧But p h h') (fun C hC=> ?_) (fun σ' h' hV=> ?_)
 ·simp only [jdC,Nxt,jef,jel,jcy,jbU,jbm,dOp,jaS,dIs,jei,dCB,jbi,jdn,jen,jcz,dC,jbX,ja9,jeo,jep,jeq,jbY,jej,jek,jbV,jem,jbW,dIf,dUn,jfD,dSl,jaH,jb9,jeI,jbj,gN,gT2,jb8,je7,je8,jeJ,jeE,jfj,je9,jcm,jfa,jeg,eqD,neD,eqE,neE,isV,isN,jes,jaK,jeO,jeP,jca,ixD,jeF,jeG,jeH,jaR,ja8,ja1,jb7,jeK,slD,jer,jaT,G0x,G0Q,G0e,G0H,List.replicate,G0F,G0G,G0A,G0B,G0p,G0l,G0E,G0K,D.bl.injEq,D.lst.injEq]
  refine jjq (fun _=> ?_) (fun _=>hC _ _ ⟨g,l6,rfl,l60,kD,kE,kF,bD⟩)
  cases g
  ·exact hC _ _ ⟨_,l6,rfl,l60,kD,kE,kF,bD⟩
  ·exact hC _ _ ⟨_,l6,rfl,l60,kD,kE,kF,bD⟩
 obtain⟨g,l6,e,l60,kD,kE,kF,bD⟩:=hV
 subst e
 simp only [jdC,Nxt,jef,jel,jcy,jbU,jbm,dOp,jaS,dIs,jei,dCB,jbi,jdn,jen,jcz,dC,jbX,ja9,jeo,jep,jeq,jbY,jej,jek,jbV,jem,jbW,dIf,dUn,jfD,dSl,jaH,jb9,jeI,jbj,gN,gT2,jb8,je7,je8,jeJ,jeE,jfj,je9,jcm,jfa,jeg,eqD,neD,eqE,neE,isV,isN,jes,jaK,jeO,jeP,jca,ixD,jeF,jeG,jeH,jaR,ja8,ja1,jb7,jeK,slD,jer,jaT,G0x,G0Q,G0e,G0H,List.replicate,G0F,G0G,G0A,G0B,G0p,G0l,G0E,G0K,D.bl.injEq,D.lst.injEq]
 refine⟨p,l6,fl,m,rfl,kD,l60,m1,by omega,fun r l7 r0 r1 l70=> ?_⟩
 have gi: ∀x:Int,(0≤x∧x≤1)→CMul x (1+r)∧0≤x*(1+r)∧x*(1+r)≤1000000:=fun x hx=>by
  have:x=0∨x=1:=by omega
  rcases this with e|e<;>subst e
  ·exact⟨.inl ⟨by decide,by decide⟩,by omega,by omega⟩
  ·exact⟨.inl ⟨by decide,by decide⟩,by omega,by omega⟩
 have gg:=gi (if g=true then 1 else 0) (by cases g<;>decide)
 refine⟨gg.1,_,jas nS kF,?_,_,Sub.refl _,by omega,_,_,l7,row++ [(if g=true then 1 else 0)*(1+r)],rfl,l70,jas (Ne.symm nS) jad,jas (Ne.symm nSR) (jas nR kE),?_,(bD.put).putNew fS,by simp [g1'],?_⟩
 ·rw [G0a];exact G1Q (show row.length≤1000 by omega) (by decide)
 ·rw [jad,G1p];rfl
 ·intro x hx
  rcases G1c.mp hx with z|z
  ·exact g2' x z
  ·rw [G0z.mp z];exact gg.2
def jcw:RDn:=fun ds h Q=> ∃p l fl,∃k:Nat,ds= [.lst p,.int (k:Int)]∧h p=some [.int l,.int fl]∧0≤l∧k≤6∧ ∀o l',Ordr k o→0≤l' →Q (jgw o) (jbT h p [.int l',.int fl])
set_option maxHeartbeats 2000000 in
theorem jfC {n:Nat} {f:Addr} {fd:FuncData} (Z:Zs mg) (F:Fun K "_law_order" "_law_order" jbg f fd) (C__law_draw:jae P w K mg base n "_law_draw" ["_law_pen_here","_law_many"] jbw):FnOk P w K mg base CX0 (n+1) f fd ["_law_pen_here","_law_many"] (LSp K jcw):=by
 obtain⟨g_G__law_draw,gd_G__law_draw,G__law_draw,bG__law_draw,kG__law_draw,mG__law_draw⟩:=C__law_draw
 refine F.okJ sc__law_order (fun ds h Q q=>by obtain⟨p,l,fl,k,e,hp,h0,hk,q⟩:=q;subst e;rfl) _ (fun cdv A outer s H E hr=>(jaf (jet (i:=2) sc__law_order.nd rfl (Or.inl rfl) (jjs jaa)) (by exact(jaf (jnE G1W rfl (jf3 rfl Z.range (jac (jv 1) jaa)) (jd1 (i:=3) sc__law_order.nd rfl (Or.inl rfl)) (jag (jd0 (jpU (jv 2) (jap G__law_draw hr rfl mG__law_draw kG__law_draw bG__law_draw (jac (jv 0) (by exact(jac (jop jb6 (jv 3) jaI) jaa)))) (jv 3))))) (by exact(jag (jbQ (ja7 cq_tuple rfl Z.tuple (by decide +kernel) (jac (jv 2) jaa))))))))) ?_
 intro ds h Q q
 obtain⟨p,l,fl,k,e,hp,h0,hk,q⟩:=q
 subst e
 refine jam (fun σ' h' => ∃R,σ' = [some (.lst p),some (.int (k:Int)),some (.lst R),none]∧R≠p∧h R=none∧h' R=some []∧h' p=some [.int l,.int fl]∧But p h h') (fun C hC=> ?_) ?_
 ·exact⟨(by show 0≤sizeLine;decide),fun R eR=>hC _ _ ⟨R,rfl,jaP hp eR,eR,jad,jaV hp eR,(But.refl p h).new eR⟩⟩
 rintro σ' h1 ⟨R,rfl,nR,fR,kR,kp,bt⟩
 refine jam (fun σ' h' => ∃a l2 o,σ' = [some (.lst p),some (.int (k:Int)),some (.lst R),a]∧0≤l2∧Ordr k o∧h' R=some (o.map fun (i:Nat)=>D.int (i:Int))∧h' p=some [.int l2,.int fl]∧But p h h') (fun C hC=> ?_) ?_
 ·refine jgG k (fun i σ' h' => ∃a l2 o,σ' = [some (.lst p),some (.int (k:Int)),some (.lst R),a]∧0≤l2∧Ordr i o∧h' R=some (o.map fun (i:Nat)=>D.int (i:Int))∧h' p=some [.int l2,.int fl]∧But p h h') (by omega) (fun R' r=>⟨_,rfl,r⟩) ⟨none,l,[],rfl,h0,List.Perm.nil,kR,kp,bt⟩ (fun σ' h' z=>hC _ _ z) ?_
  rintro i _ h2 hi ⟨a,l2,o,rfl,l20,ho,kR2,kp2,bt2⟩
  refine⟨_,rfl,R,rfl,_,rfl,_,rfl,p,l2,fl,(i:Int)+1,rfl,kp2,l20,by omega,by omega,fun r l3 r0 r1 l30=> ?_⟩
  have lo:o.length=i:=ho.ord.len
  refine⟨_,rfl,r.toNat,_,by rw [Int.toNat_of_nonneg r0],by omega,jas nR kR2,?_,_,Sub.refl _,by omega,_,l3,o.take r.toNat++i::o.drop r.toNat,rfl,l30,ho.insert r.toNat,?_,jas (Ne.symm nR) jad,(bt2.put).putNew fR⟩
  ·rw [G0a];exact G1Q (show o.length≤1000 by omega) (by decide)
  ·rw [jad,G1p,G0x,G3m,G2X]
 rintro _ h3 ⟨a,l2,o,rfl,l20,ho,kR3,kp3,bt3⟩
 exact⟨_,rfl,_,kR3,_,bt3.sub kp3,q o l2 ho l20⟩
theorem jmf {n L:Nat} {T:List (List Int)} {h:HD} {A B:Addr} {Q:KD} (k:h A=some ((List.range L).map fun i=>jai (jaw n T i))) (k' :h B=some ((List.range L).map fun i=>jai (jaw n T i))) (q:Q (.bl false) h):neE (.lst A) (.lst B) h Q:=by
 have e: ∀Ts:List (List (List Int)),PyData.eqvAll (Ts.map jdE) (Ts.map jdE)=true:=fun Ts=>by
  induction Ts with
  |nil=>rfl
  |cons M Ts ih=>show (PyData.eqv (jdE M) (jdE M)&&_)=true;rw [jgM,ih];rfl
 have sh:SeqAt.shaped (jj9 n T L)=true:=by
  have:=jgP ((List.range L).map (jaw n T))
  rwa [G0N] at this
 refine⟨_,_,jgg k,jgg k',sh,sh,?_⟩
 have:=e ((List.range L).map (jaw n T))
 rw [G0N] at this
 rw [show PyData.eqv (jj9 n T L) (jj9 n T L)=true from this]
 exact q
theorem jmg {a b:Int} {h:HD} {Q:KD} (q:Q (.bl false) h):neE (.tup [.int a,.int b]) (.tup [.int a,.int b]) h Q:=by
 refine⟨.tuple [.int a,.int b],.tuple [.int a,.int b],⟨_,rfl,_,_,rfl,rfl,_,_,rfl,rfl,rfl⟩,⟨_,rfl,_,_,rfl,rfl,_,_,rfl,rfl,rfl⟩,jeS [a,b],jeS [a,b],?_⟩
 have e:=jiN [a,b] [a,b]
 rw [G0r rfl] at e
 rw [show PyData.eqv (.tuple [.int a,.int b]) (.tuple [.int a,.int b])=true from e]
 exact q
theorem jnX {a:Bool} {h:HD} {Q:KD} (q:Q (.bl false) h):neE (.bl a) (.bl a) h Q:=by
 show Q _ h
 cases a<;>exact q
theorem jnY {r:RD2} {te tu:TED} {s1 s2:TSD} {E:EndsD} {σ:SD} {h:HD} (x:te σ h fun a h1=>tu σ h1 fun b h2=>r a b h2 fun v h3=> ∃k,v= .bl k∧if k=true then s1 E σ h3 else s2 E σ h3):jef (jbm (dOp r te tu)) s1 s2 E σ h:=x
theorem jks {n e:Nat} {T:List (List Int)} (h:Sq n e T) (hn:n≤8) (i:Nat):jaw n (jcc n T) i=jcc n (jaw n T i):=by
 rw [jbB h.turn hn,jbB h hn,←jhi h hn,jiW]
theorem jmh {n e:Nat} {o:List Nat} {T:List (List Int)} (h:Sq n e T) (ho:Ordr n o) (hn:n≤8) (i:Nat):jaw n (jdp n o T) i=jdp n o (jaw n T i):=by
 rw [jbB (h.ren ho.ord) hn,jbB h hn,←jiH h ho hn,jkd fun i hi=>jnQ ho hi]
theorem jeY {n:Nat} {T U:List (List Int)} {L J:Nat} {f:List (List Int)→List (List Int)} (c:Course n T L J) (e: ∀i,jaw n U i=f (jaw n T i)) (inj: ∀i j,f (jaw n T i)=f (jaw n T j)→jaw n T i=jaw n T j):Course n U L J:=by
 refine⟨?_,c.lt,by rw [e,e,c.eq]⟩
 have nd:=c.nd
 unfold List.Nodup at nd ⊢
 rw [G1a] at nd ⊢
 exact nd.imp fun {a b} ne w=>ne (inj a b (by rw [←e,←e];exact w))
theorem ren_back {n e f:Nat} {o:List Nat} {A B:List (List Int)} (hA:Sq n e A) (hB:Sq n f B) (ho:Ordr n o) (w:jdp n o A=jdp n o B):A=B:=by
 refine hA.ext hB fun i j hi hj=> ?_
 obtain⟨a1,a2⟩:=jiX ho hi
 obtain⟨b1,b2⟩:=jiX ho hj
 have:ent (jdp n o A) (o.getD i 0) (o.getD j 0)=ent (jdp n o B) (o.getD i 0) (o.getD j 0):=by rw [w]
 unfold jdp at this
 rw [jbk a2 b2,jbk a2 b2,a1,b1] at this
 exact this
set_option maxHeartbeats 2000000 in
theorem jnZ {n:Nat} {f:Addr} {fd:FuncData} (Z:Zs mg) (F:Fun K "law" "law" jfw f fd) (C__law_cell:jae P w K mg base n "_law_cell" ["_law_script","_law_k"] jcI) (C__law_pen:jae P w K mg base n "_law_pen" ["_law_cell_here"] jdc) (C__law_size:jae P w K mg base n "_law_size" ["_law_pen_here"] jcJ) (C__law_table:jae P w K mg base n "_law_table" ["_law_pen_here","_law_size_here"] jcv) (C_round_of:jae P w K mg base n "round_of" ["table"] jda) (C_all_marks:jae P w K mg base n "all_marks" ["table"] jcH) (C_calendar_holds:jae P w K mg base n "calendar_holds" ["table","thing"] jbs) (C_marks:jae P w K mg base n "marks" ["table"] jcS) (C_marks_of:jae P w K mg base n "marks_of" ["table","k"] jdb) (C_turned:jae P w K mg base n "turned" ["table"] jed) (C_renamed:jae P w K mg base n "renamed" ["table","order"] jdx) (C__law_order:jae P w K mg base n "_law_order" ["_law_pen_here","_law_many"] jcw):FnOk P w K mg base CX0 (n+1) f fd ["_law_script"] (LSp K jiu):=by
 obtain⟨g_G__law_cell,gd_G__law_cell,G__law_cell,bG__law_cell,kG__law_cell,mG__law_cell⟩:=C__law_cell
 obtain⟨g_G__law_pen,gd_G__law_pen,G__law_pen,bG__law_pen,kG__law_pen,mG__law_pen⟩:=C__law_pen
 obtain⟨g_G__law_size,gd_G__law_size,G__law_size,bG__law_size,kG__law_size,mG__law_size⟩:=C__law_size
 obtain⟨g_G__law_table,gd_G__law_table,G__law_table,bG__law_table,kG__law_table,mG__law_table⟩:=C__law_table
 obtain⟨g_G_round_of,gd_G_round_of,G_round_of,bG_round_of,kG_round_of,mG_round_of⟩:=C_round_of
 obtain⟨g_G_all_marks,gd_G_all_marks,G_all_marks,bG_all_marks,kG_all_marks,mG_all_marks⟩:=C_all_marks
 obtain⟨g_G_calendar_holds,gd_G_calendar_holds,G_calendar_holds,bG_calendar_holds,kG_calendar_holds,mG_calendar_holds⟩:=C_calendar_holds
 obtain⟨g_G_marks,gd_G_marks,G_marks,bG_marks,kG_marks,mG_marks⟩:=C_marks
 obtain⟨g_G_marks_of,gd_G_marks_of,G_marks_of,bG_marks_of,kG_marks_of,mG_marks_of⟩:=C_marks_of
 obtain⟨g_G_turned,gd_G_turned,G_turned,bG_turned,kG_turned,mG_turned⟩:=C_turned
 obtain⟨g_G_renamed,gd_G_renamed,G_renamed,bG_renamed,kG_renamed,mG_renamed⟩:=C_renamed
 obtain⟨g_G__law_order,gd_G__law_order,G__law_order,bG__law_order,kG__law_order,mG__law_order⟩:=C__law_order
 refine F.okJ sc_law (fun ds h Q q=>by obtain⟨ns,e,hh,hns,q⟩:=q;subst e;rfl) _ (fun cdv A outer s H E hr=>(jaf (jnE G1W rfl (jiA (jop jb6 (jjs (jac (jap G__law_cell hr rfl mG__law_cell kG__law_cell bG__law_cell (jac (jv 0) (by exact(jac jaI jaa)))) jaa)) (jkD (jv 0) (jgK jaI) (jgK jaI)))) (jd1 (i:=1) sc_law.nd rfl (Or.inl rfl)) (jaf (jet (i:=2) sc_law.nd rfl (Or.inl rfl) (jap G__law_pen hr rfl mG__law_pen kG__law_pen bG__law_pen (jac (jv 1) jaa))) (by exact(jaf (jet (i:=3) sc_law.nd rfl (Or.inl rfl) (jap G__law_size hr rfl mG__law_size kG__law_size bG__law_size (jac (jv 2) jaa))) (by exact(jaf (jkB (jnD (jac (jap G__law_table hr rfl mG__law_table kG__law_table bG__law_table (jac (jv 2) (by exact(jac (jv 3) jaa)))) (by exact(jac (jap G__law_table hr rfl mG__law_table kG__law_table bG__law_table (jac (jv 2) (by exact(jac (jv 3) jaa)))) jaa)))) (jf2 (i:=4) (j:=5) rfl sc_law.nd rfl rfl (by first|exact Or.inr rfl|exact Or.inl rfl) (Or.inl rfl))) (by exact(jaf (jkB (jap G_round_of hr rfl mG_round_of kG_round_of bG_round_of (jac (jv 4) jaa)) (jf2 (i:=6) (j:=7) rfl sc_law.nd rfl rfl (Or.inl rfl) (Or.inl rfl))) (by exact(jaf (jet (i:=8) sc_law.nd rfl (Or.inl rfl) (ja7 cq_tuple rfl Z.tuple (by decide +kernel) (jac (jap G_all_marks hr rfl mG_all_marks kG_all_marks bG_all_marks (jac (jv 4) jaa)) jaa))) (by exact(jaf (jet (i:=9) sc_law.nd rfl (Or.inl rfl) (jnD (jac (jv 6) (by exact(jac (jv 7) (by exact(jac (jv 8) jaa))))))) (by exact(jaf (jeh (jpt (jlJ (jc1 (jdg (jap G_calendar_holds hr rfl mG_calendar_holds kG_calendar_holds bG_calendar_holds (jac (jv 4) (by exact(jac (jv 9) jaa)))))) (jlI (jc1 (jdg (jap G_calendar_holds hr rfl mG_calendar_holds kG_calendar_holds bG_calendar_holds (jac (jap G_marks hr rfl mG_marks kG_marks bG_marks (jac (jv 4) jaa)) (by exact(jac (jv 9) jaa))))))))) (jag (jbQ jbl)) ja2) (by exact(jaf (jeh (jcT (jfZ hr.units) (jap G_calendar_holds hr rfl mG_calendar_holds kG_calendar_holds bG_calendar_holds (jac (jv 5) (by exact(jac (jv 9) jaa)))) (jgI (jeL hr.units) (jap G_marks hr rfl mG_marks kG_marks bG_marks (jac (jv 5) jaa)) (jap G_marks hr rfl mG_marks kG_marks bG_marks (jac (jv 4) jaa)) (jaC _)) (jaC _)) (jag (jbQ jbl)) ja2) (by exact(jaf (jeh (jcT (jfZ hr.units) (jlc (i:=11) (js:= [11]) rfl (jaq (by rfl)) (jf3 rfl Z.range (jac (jaN jbz rfl Z.len G0O (jac (jv 8) jaa)) jaa)) (by decide) sc_law.nd rfl (by first|exact Or.inl rfl|exact Or.inr rfl) (fun X' hX=>ja3) (fun X' hX=>by obtain⟨C,s₀,H₀,ex,rfl⟩:=hX;exact(jap G_marks_of hr rfl mG_marks_of kG_marks_of bG_marks_of (jac (jv 4) (by exact(jac (jop jb6 (jv 11) jaI) jaa)))))) (ja7 jlz rfl Z.list (by decide +kernel) (jac (jv 8) jaa)) (jaC _)) (jag (jbQ jbl)) ja2) (by exact(jaf (jeh (jcT (jfZ hr.units) (jap G_marks_of hr rfl mG_marks_of kG_marks_of bG_marks_of (jac (jv 4) (by exact(jac (jop jb6 (jv 6) (jv 7)) jaa)))) (jix (jv 8) (jop jcW (jv 6) jaI) (fun _ _=>rfl)) (jaC _)) (jag (jbQ jbl)) ja2) (by exact(jag (jnE G1W rfl (jiA (jjs (jac (jap G_renamed hr rfl mG_renamed kG_renamed bG_renamed (jac (jv 4) (by exact(jac (jap G__law_order hr rfl mG__law_order kG__law_order bG__law_order (jac (jv 2) (by exact(jac (jv 3) jaa)))) jaa)))) (by exact(jac (jap G_turned hr rfl mG_turned kG_turned bG_turned (jac (jv 4) jaa)) jaa))))) (jd1 (i:=10) sc_law.nd rfl (Or.inl rfl)) (jag (jeh (jcT (jfZ hr.units) (jap G_round_of hr rfl mG_round_of kG_round_of bG_round_of (jac (jv 10) jaa)) (jnD (jac (jv 6) (by exact(jac (jv 7) jaa)))) (jaC _)) (jag (jbQ jbl)) ja2))))))))))))))))))))))))) (by exact(jag (jbQ jbl))))) ?_
 intro ds h Q q
 obtain⟨ns,e,hh,hns,q⟩:=q
 subst e
 refine jam (fun σ' h' =>True) (fun C hC=> ?_) (fun σ' h3 hV=>⟨h3,Sub.refl _,q h3⟩)
 refine⟨_,rfl,ns,0,rfl,(by decide),fun n0=>⟨(by show 1≤sizeLine;decide),fun p1 e1=>⟨_,rfl,_,rfl,_,rfl,fun p2 e2=>⟨_,_,jaV jad e2,jad,?_,fun p3 e3=>⟨p3,rfl,?_⟩⟩⟩⟩⟩
 ·have:(jfV ns (some 1) (some 4)).length≤ns.length:=by unfold jfV;rw [List.length_take,List.length_drop];omega
  rw [G0a]
  exact G0Y (jbK (by simp only [G0e,G0H];omega))
 generalize hcs:([D.int n0]++(jfV ns (some 1) (some 4)).map D.int)=cs
 have hint: ∀d∈cs,∃c,d= .int c:=fun d hd=>by
  rw [←hcs] at hd
  rcases G1c.mp hd with z|z
  ·exact⟨n0,G0z.mp z⟩
  ·obtain⟨x,_,e⟩:=G0M.mp z;exact⟨x,e.symm⟩
 refine jfY cs (fun i σ' h' => ∃a1 a2 a3 a4 a5 a6 a7 a8 a9 a10 a11,σ' = [some (.scr ns),a1,a2,a3,a4,a5,a6,a7,a8,a9,a10,a11]∧h' p3=some cs) (fun i σ' h' ⟨_,_,_,_,_,_,_,_,_,_,_,_,k⟩=>k) ⟨_,_,_,_,_,_,_,_,_,_,_,rfl,jad⟩ (fun σ' h' _=>hC _ _ True.intro) ?_
 rintro i d _ h4 hi ⟨b1,b2,b3,b4,b5,b6,b7,b8,b9,b10,b11,rfl,k3⟩
 obtain⟨c,rfl⟩:=hint d (G0X hi)
 have hil:i<cs.length:=(G0t.mp hi).1
 show jdC _ _ _ [some (.scr ns),some (.int c),b2,b3,b4,b5,b6,b7,b8,b9,b10,b11] h4
 refine jam (fun σ' h' => ∃p l fl,σ' = [some (.scr ns),some (.int c),some (.lst p),b3,b4,b5,b6,b7,b8,b9,b10,b11]∧h' p=some [.int l,.int fl]∧0≤l∧h' p3=some cs∧p3≠p) (fun C hC=> ?_) ?_
 ·refine⟨_,rfl,c,rfl,fun p l fl ep l0 _=>hC _ _ ⟨p,l,fl,rfl,jad,l0,jaV k3 ep,Ne.symm (jaP k3 ep)⟩⟩
 rintro _ h5 ⟨p,l,fl,rfl,kp,l0,k3,n3⟩
 refine jam (fun σ' h' => ∃ (n:Nat) (l2:Int),σ' = [some (.scr ns),some (.int c),some (.lst p),some (.int (n:Int)),b4,b5,b6,b7,b8,b9,b10,b11]∧1≤n∧n≤6∧h' p=some [.int l2,.int fl]∧0≤l2∧h' p3=some cs) (fun C hC=>⟨_,rfl,p,l,fl,rfl,kp,l0,fun n l2 n1 n6 l20=>hC _ _ ⟨n,l2,rfl,n1,n6,jad,l20,jas n3 k3⟩⟩) ?_
 clear kp l0 k3
 rintro _ h6 ⟨n,l2,rfl,n1,n6,kp,l20,k3⟩
 refine jam (fun σ' h' => ∃ (T U:List (List Int)) (l2:Int),σ' = [some (.scr ns),some (.int c),some (.lst p),some (.int (n:Int)),some (jai T),some (jai U),b6,b7,b8,b9,b10,b11]∧GoodTab n T∧GoodTab n U∧h' p=some [.int l2,.int fl]∧0≤l2∧h' p3=some cs) (fun C hC=>⟨_,rfl,_,rfl,p,l2,fl,n,rfl,kp,l20,n1,n6,fun T l3 gT l30=>⟨_,rfl,_,rfl,p,l3,fl,n,rfl,jad,l30,n1,n6,fun U l4 gU l40=>⟨(by show 2≤sizeLine;decide),_,_,rfl,hC _ _ ⟨T,U,l4,rfl,gT,gU,jad,l40,jas n3 (jas n3 k3)⟩⟩⟩⟩) ?_
 clear kp l20 k3
 rintro _ h7 ⟨T,U,l2,rfl,gT,gU,kp,l20,k3⟩
 have hT:=gT.sq
 have hU:=gU.sq
 refine jam (fun σ' h' => ∃L J:Nat,σ' = [some (.scr ns),some (.int c),some (.lst p),some (.int (n:Int)),some (jai T),some (jai U),some (.int (((J:Nat):Int)+1)),some (.int (((L:Nat):Int)-((J:Nat):Int))),b8,b9,b10,b11]∧Course n T L J∧h7=h') (fun C hC=>⟨_,rfl,T,n,20,rfl,hT,n1,n6,by decide,fun L J co hL=>⟨_,_,rfl,hC _ _ ⟨L,J,rfl,co,rfl⟩⟩⟩) ?_
 rintro _ _ ⟨L,J,rfl,co,rfl⟩
 have hL:=jg3 hT n1 n6 co.nd
 have lt:=co.lt
 refine jam (fun σ' h' =>σ' = [some (.scr ns),some (.int c),some (.lst p),some (.int (n:Int)),some (jai T),some (jai U),some (.int (((J:Nat):Int)+1)),some (.int (((L:Nat):Int)-((J:Nat):Int))),some (.tup ((List.range L).map fun i=>jai (jaw n T i))),b9,b10,b11]∧Sub h7 h') (fun C hC=>⟨_,rfl,T,n,20,rfl,hT,n1,n6,by decide,fun A L2 J2 h' nA kA sb co2 hL2=> ?_⟩) ?_
 ·obtain⟨rfl,rfl⟩:=co.one co2
  exact⟨_,kA,hC _ _ ⟨rfl,sb⟩⟩
 rintro _ h8 ⟨rfl,sb8⟩
 have kp8:=sb8 _ _ kp
 have k38:=sb8 _ _ k3
 clear kp k3
 refine jam (fun σ' h' =>σ' = [some (.scr ns),some (.int c),some (.lst p),some (.int (n:Int)),some (jai T),some (jai U),some (.int (((J:Nat):Int)+1)),some (.int (((L:Nat):Int)-((J:Nat):Int))),some (.tup ((List.range L).map fun i=>jai (jaw n T i))),some (.tup [.int (((J:Nat):Int)+1),.int (((L:Nat):Int)-((J:Nat):Int)),.tup ((List.range L).map fun i=>jai (jaw n T i))]),b10,b11]∧h8=h') (fun C hC=>⟨_,rfl,_,rfl,_,rfl,(by show 3≤sizeLine;decide),hC _ _ ⟨rfl,rfl⟩⟩) ?_
 rintro _ _ ⟨rfl,rfl⟩
 have mm:jak n (jak n T)=jak n T:=jlW T
 refine jam (fun σ' h' =>σ' = [some (.scr ns),some (.int c),some (.lst p),some (.int (n:Int)),some (jai T),some (jai U),some (.int (((J:Nat):Int)+1)),some (.int (((L:Nat):Int)-((J:Nat):Int))),some (.tup ((List.range L).map fun i=>jai (jaw n T i))),some (.tup [.int (((J:Nat):Int)+1),.int (((L:Nat):Int)-((J:Nat):Int)),.tup ((List.range L).map fun i=>jai (jaw n T i))]),b10,b11]∧h8=h') (fun C hC=>⟨_,rfl,_,rfl,T,T,n,20,L,J,rfl,hT,by decide,n1,n6,hT,co,hL,_,rfl,?_⟩) ?_
 ·rw [G0r rfl]
  refine jdB ⟨_,rfl,T,n,20,rfl,hT,n1,n6,_,rfl,jak n T,T,n,20,L,J,rfl,(Sq.mark T).mono (by decide),by decide,n1,n6,hT,co,hL,_,rfl,?_⟩
  rw [G0r mm]
  exact jdB (hC _ _ ⟨rfl,rfl⟩)
 rintro _ _ ⟨rfl,rfl⟩
 refine jam (fun σ' h' =>σ' = [some (.scr ns),some (.int c),some (.lst p),some (.int (n:Int)),some (jai T),some (jai U),some (.int (((J:Nat):Int)+1)),some (.int (((L:Nat):Int)-((J:Nat):Int))),some (.tup ((List.range L).map fun i=>jai (jaw n T i))),some (.tup [.int (((J:Nat):Int)+1),.int (((L:Nat):Int)-((J:Nat):Int)),.tup ((List.range L).map fun i=>jai (jaw n T i))]),b10,b11]∧h8=h') (fun C hC=>⟨_,rfl,_,rfl,U,T,n,20,L,J,rfl,hU,by decide,n1,n6,hT,co,hL,_,rfl,U,n,20,rfl,hU,n1,n6,_,rfl,T,n,20,rfl,hT,n1,n6,jiV (jnX ⟨_,rfl,jdB (hC _ _ ⟨rfl,rfl⟩)⟩)⟩) ?_
 rintro _ _ ⟨rfl,rfl⟩
 have atR: ∀i,i<L→((List.range L).map fun i=>jai (jaw n T i))[i]? =some (jai (jaw n T i)):=fun i hi=>by rw [G0o,G07 hi];rfl
 refine jam (fun σ' h' => ∃b11,σ' = [some (.scr ns),some (.int c),some (.lst p),some (.int (n:Int)),some (jai T),some (jai U),some (.int (((J:Nat):Int)+1)),some (.int (((L:Nat):Int)-((J:Nat):Int))),some (.tup ((List.range L).map fun i=>jai (jaw n T i))),some (.tup [.int (((J:Nat):Int)+1),.int (((L:Nat):Int)-((J:Nat):Int)),.tup ((List.range L).map fun i=>jai (jaw n T i))]),b10,b11]∧Sub h8 h') (fun C hC=>jnY (jnx L (fun i ys h' =>h' =h8∧ys=(List.range i).map fun i=>jai (jaw n T i)) (by omega) (fun R r=>⟨_,rfl,?_⟩) ⟨rfl,rfl⟩ (fun i ys h' w=>by rw [w.2,G0a,G0h]) (fun i ys h' hi w=> ?_) (fun ys h' w p hp=> ?_))) ?_
 ·show R [.int (((((List.range L).map fun i=>jai (jaw n T i)).length:Nat)):Int)] _
  rw [G0a,G0h];exact r
 ·obtain⟨rfl,rfl⟩:=w
  refine⟨_,rfl,_,rfl,T,n,20,i+1,?_,hT,n1,n6,by decide,by omega,by omega,_,Sub.refl _,by omega,rfl,?_⟩
  ·show [D.tup _,D.int ((i:Int)+1)]=_
   rfl
  ·rw [G2d,G1p];rfl
 ·obtain⟨rfl,rfl⟩:=w
  exact⟨_,rfl,fun p2 e2=>jmf (jaV jad e2) jad ⟨_,rfl,jdB (hC _ _ ⟨_,rfl,(Sub.newAt (Sub.refl _) hp).newAt e2⟩)⟩⟩
 rintro _ h9 ⟨c11,rfl,sb9⟩
 have kp9:=sb9 _ _ kp8
 have k39:=sb9 _ _ k38
 clear kp8 k38
 refine jam (fun σ' h' =>σ' = [some (.scr ns),some (.int c),some (.lst p),some (.int (n:Int)),some (jai T),some (jai U),some (.int (((J:Nat):Int)+1)),some (.int (((L:Nat):Int)-((J:Nat):Int))),some (.tup ((List.range L).map fun i=>jai (jaw n T i))),some (.tup [.int (((J:Nat):Int)+1),.int (((L:Nat):Int)-((J:Nat):Int)),.tup ((List.range L).map fun i=>jai (jaw n T i))]),b10,c11]∧h9=h') (fun C hC=>⟨_,rfl,_,rfl,_,rfl,T,n,20,L+1,?_,hT,n1,n6,by decide,by omega,by omega,_,rfl,_,rfl,_,?_,jnF (B:=jaw n T J) ?_ ⟨_,rfl,jdB (hC _ _ ⟨rfl,rfl⟩)⟩⟩) ?_
 ·show [D.tup _,D.int (((J:Nat):Int)+1+(((L:Nat):Int)-((J:Nat):Int)))]=_
  rw [show ((J:Nat):Int)+1+(((L:Nat):Int)-((J:Nat):Int))=((L+1:Nat):Int) by omega];rfl
 ·show atI ((List.range L).map fun i=>jai (jaw n T i)) (((J:Nat):Int)+1-1)=_
  rw [show ((J:Nat):Int)+1-1=((J:Nat):Int) by omega]
  exact jcB (atR J lt)
 ·exact co.eq
 rintro _ _ ⟨rfl,rfl⟩
 refine⟨_,rfl,_,rfl,_,rfl,p,l2,fl,n,rfl,kp9,l20,n6,fun o l3 ho l30=>⟨T,n,20,o,rfl,hT,ho,n1,n6,_,rfl,T,n,20,rfl,hT,n1,n6,(by show 2≤sizeLine;decide),fun q1 f1=>⟨q1,rfl,?_⟩⟩⟩
 have cR:Course n (jdp n o T) L J:=jeY co (jmh hT ho (by omega)) fun i j w=>ren_back (jcr n T i) (jcr n T j) ho w
 have cT:Course n (jcc n T) L J:=jeY co (jks hT (by omega)) fun i j w=>by
  have:=congrArg (jcc n) w
  rwa [jf7 (jcr n T i),jf7 (jcr n T j)] at this
 refine jfY [jai (jdp n o T),jai (jcc n T)] (fun i σ' h' => ∃b10,σ' = [some (.scr ns),some (.int c),some (.lst p),some (.int (n:Int)),some (jai T),some (jai U),some (.int (((J:Nat):Int)+1)),some (.int (((L:Nat):Int)-((J:Nat):Int))),some (.tup ((List.range L).map fun i=>jai (jaw n T i))),some (.tup [.int (((J:Nat):Int)+1),.int (((L:Nat):Int)-((J:Nat):Int)),.tup ((List.range L).map fun i=>jai (jaw n T i))]),b10,c11]∧h' q1=some [jai (jdp n o T),jai (jcc n T)]∧h' p3=some cs) (fun i σ' h' ⟨_,_,k,_⟩=>k) ⟨_,rfl,jad,jaV (jas n3 k39) f1⟩ (fun σ' h' ⟨b10,e,_,k2⟩=>⟨_,Sub.refl _,by omega,_,_,_,_,_,_,_,_,_,_,_,e,k2⟩) ?_
 rintro j d _ h12 hj ⟨b10',rfl,kq,k3⟩
 have hjl:=(G0t.mp hj).1
 obtain⟨V,rfl,sV,cV⟩: ∃V,d=jai V∧Sq n 20 V∧Course n V L J:=by
  rcases G0v.mp (G0X hj) with e|e
  ·exact⟨_,e,hT.ren ho.ord,cR⟩
  ·exact⟨_,G0z.mp e,hT.turn,cT⟩
 refine⟨_,rfl,V,n,20,rfl,sV,n1,n6,by decide,fun L2 J2 c2 _=>⟨_,rfl,_,rfl,(by show 2≤sizeLine;decide),?_⟩⟩
 obtain⟨rfl,rfl⟩:=cV.one c2
 exact jmg ⟨_,rfl,jdB ⟨_,Sub.refl _,hjl,_,rfl,kq,k3⟩⟩
end
set_option maxHeartbeats 8000000 in
theorem jn0 {l:PySem.W.OpenLaw} {w:World} {K:PySem.W.Frag} {h:Heap} {mg:Str→Option Value} {fa:Addr} (X:K.In h) (G:h.Ns mainGlobals mg) (hfa:mg "law" =some (.ref fa))
 {f0:Addr} {od0 an0:Option Addr} {sl0:Array (Option Value)} {oc0 kV0 dc0 pm0 cd0 ct0:Value}
 (a0:PySem.W.nsIn K mainGlobals "is_whole" =some (some (.ref f0))) (l0:K.lookup f0=some ⟨oc0,od0,.func (PySem.W.fnOf "is_whole" "is_whole" (jal jbD) (jaj jbD) (jab jbD) .none kV0 dc0 pm0 an0 cd0 ct0),sl0⟩) (c0:PySem.W.codeIn K cd0 "is_whole" =true) (k0:PySem.W.keepIn K (.ref f0)=true)
 {f1:Addr} {od1 an1:Option Addr} {sl1:Array (Option Value)} {oc1 kV1 dc1 pm1 cd1 ct1:Value}
 (a1:PySem.W.nsIn K mainGlobals "is_within" =some (some (.ref f1))) (l1:K.lookup f1=some ⟨oc1,od1,.func (PySem.W.fnOf "is_within" "is_within" (jal jbn) (jaj jbn) (jab jbn) .none kV1 dc1 pm1 an1 cd1 ct1),sl1⟩) (c1:PySem.W.codeIn K cd1 "is_within" =true) (k1:PySem.W.keepIn K (.ref f1)=true)
 {f2:Addr} {od2 an2:Option Addr} {sl2:Array (Option Value)} {oc2 kV2 dc2 pm2 cd2 ct2:Value}
 (a2:PySem.W.nsIn K mainGlobals "is_from" =some (some (.ref f2))) (l2:K.lookup f2=some ⟨oc2,od2,.func (PySem.W.fnOf "is_from" "is_from" (jal jch) (jaj jch) (jab jch) .none kV2 dc2 pm2 an2 cd2 ct2),sl2⟩) (c2:PySem.W.codeIn K cd2 "is_from" =true) (k2:PySem.W.keepIn K (.ref f2)=true)
 {f3:Addr} {od3 an3:Option Addr} {sl3:Array (Option Value)} {oc3 kV3 dc3 pm3 cd3 ct3:Value}
 (a3:PySem.W.nsIn K mainGlobals "is_place" =some (some (.ref f3))) (l3:K.lookup f3=some ⟨oc3,od3,.func (PySem.W.fnOf "is_place" "is_place" (jal jbE) (jaj jbE) (jab jbE) .none kV3 dc3 pm3 an3 cd3 ct3),sl3⟩) (c3:PySem.W.codeIn K cd3 "is_place" =true) (k3:PySem.W.keepIn K (.ref f3)=true)
 {f4:Addr} {od4 an4:Option Addr} {sl4:Array (Option Value)} {oc4 kV4 dc4 pm4 cd4 ct4:Value}
 (a4:PySem.W.nsIn K mainGlobals "are_places" =some (some (.ref f4))) (l4:K.lookup f4=some ⟨oc4,od4,.func (PySem.W.fnOf "are_places" "are_places" (jal jbb) (jaj jbb) (jab jbb) .none kV4 dc4 pm4 an4 cd4 ct4),sl4⟩) (c4:PySem.W.codeIn K cd4 "are_places" =true) (k4:PySem.W.keepIn K (.ref f4)=true)
 {f5:Addr} {od5 an5:Option Addr} {sl5:Array (Option Value)} {oc5 kV5 dc5 pm5 cd5 ct5:Value}
 (a5:PySem.W.nsIn K mainGlobals "is_order" =some (some (.ref f5))) (l5:K.lookup f5=some ⟨oc5,od5,.func (PySem.W.fnOf "is_order" "is_order" (jal jbF) (jaj jbF) (jab jbF) .none kV5 dc5 pm5 an5 cd5 ct5),sl5⟩) (c5:PySem.W.codeIn K cd5 "is_order" =true) (k5:PySem.W.keepIn K (.ref f5)=true)
 {f6:Addr} {od6 an6:Option Addr} {sl6:Array (Option Value)} {oc6 kV6 dc6 pm6 cd6 ct6:Value}
 (a6:PySem.W.nsIn K mainGlobals "is_table_row" =some (some (.ref f6))) (l6:K.lookup f6=some ⟨oc6,od6,.func (PySem.W.fnOf "is_table_row" "is_table_row" (jal jaQ) (jaj jaQ) (jab jaQ) .none kV6 dc6 pm6 an6 cd6 ct6),sl6⟩) (c6:PySem.W.codeIn K cd6 "is_table_row" =true) (k6:PySem.W.keepIn K (.ref f6)=true)
 {f7:Addr} {od7 an7:Option Addr} {sl7:Array (Option Value)} {oc7 kV7 dc7 pm7 cd7 ct7:Value}
 (a7:PySem.W.nsIn K mainGlobals "has_table_form" =some (some (.ref f7))) (l7:K.lookup f7=some ⟨oc7,od7,.func (PySem.W.fnOf "has_table_form" "has_table_form" (jal jaE) (jaj jaE) (jab jaE) .none kV7 dc7 pm7 an7 cd7 ct7),sl7⟩) (c7:PySem.W.codeIn K cd7 "has_table_form" =true) (k7:PySem.W.keepIn K (.ref f7)=true)
 {f8:Addr} {od8 an8:Option Addr} {sl8:Array (Option Value)} {oc8 kV8 dc8 pm8 cd8 ct8:Value}
 (a8:PySem.W.nsIn K mainGlobals "want_table" =some (some (.ref f8))) (l8:K.lookup f8=some ⟨oc8,od8,.func (PySem.W.fnOf "want_table" "want_table" (jal jbc) (jaj jbc) (jab jbc) .none kV8 dc8 pm8 an8 cd8 ct8),sl8⟩) (c8:PySem.W.codeIn K cd8 "want_table" =true) (k8:PySem.W.keepIn K (.ref f8)=true)
 {f9:Addr} {od9 an9:Option Addr} {sl9:Array (Option Value)} {oc9 kV9 dc9 pm9 cd9 ct9:Value}
 (a9:PySem.W.nsIn K mainGlobals "want_order" =some (some (.ref f9))) (l9:K.lookup f9=some ⟨oc9,od9,.func (PySem.W.fnOf "want_order" "want_order" (jal jbd) (jaj jbd) (jab jbd) .none kV9 dc9 pm9 an9 cd9 ct9),sl9⟩) (c9:PySem.W.codeIn K cd9 "want_order" =true) (k9:PySem.W.keepIn K (.ref f9)=true)
 {f10:Addr} {od10 an10:Option Addr} {sl10:Array (Option Value)} {oc10 kV10 dc10 pm10 cd10 ct10:Value}
 (a10:PySem.W.nsIn K mainGlobals "want_number" =some (some (.ref f10))) (l10:K.lookup f10=some ⟨oc10,od10,.func (PySem.W.fnOf "want_number" "want_number" (jal jaY) (jaj jaY) (jab jaY) .none kV10 dc10 pm10 an10 cd10 ct10),sl10⟩) (c10:PySem.W.codeIn K cd10 "want_number" =true) (k10:PySem.W.keepIn K (.ref f10)=true)
 {f11:Addr} {od11 an11:Option Addr} {sl11:Array (Option Value)} {oc11 kV11 dc11 pm11 cd11 ct11:Value}
 (a11:PySem.W.nsIn K mainGlobals "multiplied" =some (some (.ref f11))) (l11:K.lookup f11=some ⟨oc11,od11,.func (PySem.W.fnOf "multiplied" "multiplied" (jal jbe) (jaj jbe) (jab jbe) .none kV11 dc11 pm11 an11 cd11 ct11),sl11⟩) (c11:PySem.W.codeIn K cd11 "multiplied" =true) (k11:PySem.W.keepIn K (.ref f11)=true)
 {f12:Addr} {od12 an12:Option Addr} {sl12:Array (Option Value)} {oc12 kV12 dc12 pm12 cd12 ct12:Value}
 (a12:PySem.W.nsIn K mainGlobals "marks" =some (some (.ref f12))) (l12:K.lookup f12=some ⟨oc12,od12,.func (PySem.W.fnOf "marks" "marks" (jal jdu) (jaj jdu) (jab jdu) .none kV12 dc12 pm12 an12 cd12 ct12),sl12⟩) (c12:PySem.W.codeIn K cd12 "marks" =true) (k12:PySem.W.keepIn K (.ref f12)=true)
 {f13:Addr} {od13 an13:Option Addr} {sl13:Array (Option Value)} {oc13 kV13 dc13 pm13 cd13 ct13:Value}
 (a13:PySem.W.nsIn K mainGlobals "turned" =some (some (.ref f13))) (l13:K.lookup f13=some ⟨oc13,od13,.func (PySem.W.fnOf "turned" "turned" (jal jcQ) (jaj jcQ) (jab jcQ) .none kV13 dc13 pm13 an13 cd13 ct13),sl13⟩) (c13:PySem.W.codeIn K cd13 "turned" =true) (k13:PySem.W.keepIn K (.ref f13)=true)
 {f14:Addr} {od14 an14:Option Addr} {sl14:Array (Option Value)} {oc14 kV14 dc14 pm14 cd14 ct14:Value}
 (a14:PySem.W.nsIn K mainGlobals "renamed" =some (some (.ref f14))) (l14:K.lookup f14=some ⟨oc14,od14,.func (PySem.W.fnOf "renamed" "renamed" (jal jci) (jaj jci) (jab jci) .none kV14 dc14 pm14 an14 cd14 ct14),sl14⟩) (c14:PySem.W.codeIn K cd14 "renamed" =true) (k14:PySem.W.keepIn K (.ref f14)=true)
 {f15:Addr} {od15 an15:Option Addr} {sl15:Array (Option Value)} {oc15 kV15 dc15 pm15 cd15 ct15:Value}
 (a15:PySem.W.nsIn K mainGlobals "marks_after" =some (some (.ref f15))) (l15:K.lookup f15=some ⟨oc15,od15,.func (PySem.W.fnOf "marks_after" "marks_after" (jal jaZ) (jaj jaZ) (jab jaZ) .none kV15 dc15 pm15 an15 cd15 ct15),sl15⟩) (c15:PySem.W.codeIn K cd15 "marks_after" =true) (k15:PySem.W.keepIn K (.ref f15)=true)
 {f16:Addr} {od16 an16:Option Addr} {sl16:Array (Option Value)} {oc16 kV16 dc16 pm16 cd16 ct16:Value}
 (a16:PySem.W.nsIn K mainGlobals "marks_and_return" =some (some (.ref f16))) (l16:K.lookup f16=some ⟨oc16,od16,.func (PySem.W.fnOf "marks_and_return" "marks_and_return" (jal jax) (jaj jax) (jab jax) .none kV16 dc16 pm16 an16 cd16 ct16),sl16⟩) (c16:PySem.W.codeIn K cd16 "marks_and_return" =true) (k16:PySem.W.keepIn K (.ref f16)=true)
 {f17:Addr} {od17 an17:Option Addr} {sl17:Array (Option Value)} {oc17 kV17 dc17 pm17 cd17 ct17:Value}
 (a17:PySem.W.nsIn K mainGlobals "marks_at" =some (some (.ref f17))) (l17:K.lookup f17=some ⟨oc17,od17,.func (PySem.W.fnOf "marks_at" "marks_at" (jal jbG) (jaj jbG) (jab jbG) .none kV17 dc17 pm17 an17 cd17 ct17),sl17⟩) (c17:PySem.W.codeIn K cd17 "marks_at" =true) (k17:PySem.W.keepIn K (.ref f17)=true)
 {f18:Addr} {od18 an18:Option Addr} {sl18:Array (Option Value)} {oc18 kV18 dc18 pm18 cd18 ct18:Value}
 (a18:PySem.W.nsIn K mainGlobals "round_of" =some (some (.ref f18))) (l18:K.lookup f18=some ⟨oc18,od18,.func (PySem.W.fnOf "round_of" "round_of" (jal jbH) (jaj jbH) (jab jbH) .none kV18 dc18 pm18 an18 cd18 ct18),sl18⟩) (c18:PySem.W.codeIn K cd18 "round_of" =true) (k18:PySem.W.keepIn K (.ref f18)=true)
 {f19:Addr} {od19 an19:Option Addr} {sl19:Array (Option Value)} {oc19 kV19 dc19 pm19 cd19 ct19:Value}
 (a19:PySem.W.nsIn K mainGlobals "all_marks" =some (some (.ref f19))) (l19:K.lookup f19=some ⟨oc19,od19,.func (PySem.W.fnOf "all_marks" "all_marks" (jal jbo) (jaj jbo) (jab jbo) .none kV19 dc19 pm19 an19 cd19 ct19),sl19⟩) (c19:PySem.W.codeIn K cd19 "all_marks" =true) (k19:PySem.W.keepIn K (.ref f19)=true)
 {f20:Addr} {od20 an20:Option Addr} {sl20:Array (Option Value)} {oc20 kV20 dc20 pm20 cd20 ct20:Value}
 (a20:PySem.W.nsIn K mainGlobals "marks_of" =some (some (.ref f20))) (l20:K.lookup f20=some ⟨oc20,od20,.func (PySem.W.fnOf "marks_of" "marks_of" (jal jbI) (jaj jbI) (jab jbI) .none kV20 dc20 pm20 an20 cd20 ct20),sl20⟩) (c20:PySem.W.codeIn K cd20 "marks_of" =true) (k20:PySem.W.keepIn K (.ref f20)=true)
 {f21:Addr} {od21 an21:Option Addr} {sl21:Array (Option Value)} {oc21 kV21 dc21 pm21 cd21 ct21:Value}
 (a21:PySem.W.nsIn K mainGlobals "are_unlike_tables" =some (some (.ref f21))) (l21:K.lookup f21=some ⟨oc21,od21,.func (PySem.W.fnOf "are_unlike_tables" "are_unlike_tables" (jal jau) (jaj jau) (jab jau) .none kV21 dc21 pm21 an21 cd21 ct21),sl21⟩) (c21:PySem.W.codeIn K cd21 "are_unlike_tables" =true) (k21:PySem.W.keepIn K (.ref f21)=true)
 {f22:Addr} {od22 an22:Option Addr} {sl22:Array (Option Value)} {oc22 kV22 dc22 pm22 cd22 ct22:Value}
 (a22:PySem.W.nsIn K mainGlobals "follow" =some (some (.ref f22))) (l22:K.lookup f22=some ⟨oc22,od22,.func (PySem.W.fnOf "follow" "follow" (jal jcR) (jaj jcR) (jab jcR) .none kV22 dc22 pm22 an22 cd22 ct22),sl22⟩) (c22:PySem.W.codeIn K cd22 "follow" =true) (k22:PySem.W.keepIn K (.ref f22)=true)
 {f23:Addr} {od23 an23:Option Addr} {sl23:Array (Option Value)} {oc23 kV23 dc23 pm23 cd23 ct23:Value}
 (a23:PySem.W.nsIn K mainGlobals "calendar_holds" =some (some (.ref f23))) (l23:K.lookup f23=some ⟨oc23,od23,.func (PySem.W.fnOf "calendar_holds" "calendar_holds" (jal jaF) (jaj jaF) (jab jaF) .none kV23 dc23 pm23 an23 cd23 ct23),sl23⟩) (c23:PySem.W.codeIn K cd23 "calendar_holds" =true) (k23:PySem.W.keepIn K (.ref f23)=true)
 {f24:Addr} {od24 an24:Option Addr} {sl24:Array (Option Value)} {oc24 kV24 dc24 pm24 cd24 ct24:Value}
 (a24:PySem.W.nsIn K mainGlobals "_law_cell" =some (some (.ref f24))) (l24:K.lookup f24=some ⟨oc24,od24,.func (PySem.W.fnOf "_law_cell" "_law_cell" (jal jbp) (jaj jbp) (jab jbp) .none kV24 dc24 pm24 an24 cd24 ct24),sl24⟩) (c24:PySem.W.codeIn K cd24 "_law_cell" =true) (k24:PySem.W.keepIn K (.ref f24)=true)
 {f25:Addr} {od25 an25:Option Addr} {sl25:Array (Option Value)} {oc25 kV25 dc25 pm25 cd25 ct25:Value}
 (a25:PySem.W.nsIn K mainGlobals "_law_pen" =some (some (.ref f25))) (l25:K.lookup f25=some ⟨oc25,od25,.func (PySem.W.fnOf "_law_pen" "_law_pen" (jal jbJ) (jaj jbJ) (jab jbJ) .none kV25 dc25 pm25 an25 cd25 ct25),sl25⟩) (c25:PySem.W.codeIn K cd25 "_law_pen" =true) (k25:PySem.W.keepIn K (.ref f25)=true)
 {f26:Addr} {od26 an26:Option Addr} {sl26:Array (Option Value)} {oc26 kV26 dc26 pm26 cd26 ct26:Value}
 (a26:PySem.W.nsIn K mainGlobals "_law_draw" =some (some (.ref f26))) (l26:K.lookup f26=some ⟨oc26,od26,.func (PySem.W.fnOf "_law_draw" "_law_draw" (jal jbq) (jaj jbq) (jab jbq) .none kV26 dc26 pm26 an26 cd26 ct26),sl26⟩) (c26:PySem.W.codeIn K cd26 "_law_draw" =true) (k26:PySem.W.keepIn K (.ref f26)=true)
 {f27:Addr} {od27 an27:Option Addr} {sl27:Array (Option Value)} {oc27 kV27 dc27 pm27 cd27 ct27:Value}
 (a27:PySem.W.nsIn K mainGlobals "_law_size" =some (some (.ref f27))) (l27:K.lookup f27=some ⟨oc27,od27,.func (PySem.W.fnOf "_law_size" "_law_size" (jal jbr) (jaj jbr) (jab jbr) .none kV27 dc27 pm27 an27 cd27 ct27),sl27⟩) (c27:PySem.W.codeIn K cd27 "_law_size" =true) (k27:PySem.W.keepIn K (.ref f27)=true)
 {f28:Addr} {od28 an28:Option Addr} {sl28:Array (Option Value)} {oc28 kV28 dc28 pm28 cd28 ct28:Value}
 (a28:PySem.W.nsIn K mainGlobals "_law_table" =some (some (.ref f28))) (l28:K.lookup f28=some ⟨oc28,od28,.func (PySem.W.fnOf "_law_table" "_law_table" (jal jbf) (jaj jbf) (jab jbf) .none kV28 dc28 pm28 an28 cd28 ct28),sl28⟩) (c28:PySem.W.codeIn K cd28 "_law_table" =true) (k28:PySem.W.keepIn K (.ref f28)=true)
 {f29:Addr} {od29 an29:Option Addr} {sl29:Array (Option Value)} {oc29 kV29 dc29 pm29 cd29 ct29:Value}
 (a29:PySem.W.nsIn K mainGlobals "_law_order" =some (some (.ref f29))) (l29:K.lookup f29=some ⟨oc29,od29,.func (PySem.W.fnOf "_law_order" "_law_order" (jal jbg) (jaj jbg) (jab jbg) .none kV29 dc29 pm29 an29 cd29 ct29),sl29⟩) (c29:PySem.W.codeIn K cd29 "_law_order" =true) (k29:PySem.W.keepIn K (.ref f29)=true)
 {f30:Addr} {od30 an30:Option Addr} {sl30:Array (Option Value)} {oc30 kV30 dc30 pm30 cd30 ct30:Value}
 (a30:PySem.W.nsIn K mainGlobals "law" =some (some (.ref f30))) (l30:K.lookup f30=some ⟨oc30,od30,.func (PySem.W.fnOf "law" "law" (jal jfw) (jaj jfw) (jab jfw) .none kV30 dc30 pm30 an30 cd30 ct30),sl30⟩) (c30:PySem.W.codeIn K cd30 "law" =true) (k30:PySem.W.keepIn K (.ref f30)=true)
 {tk0:Tok} (v0:PySem.W.nsIn K mainGlobals "MOST_ROWS" =some (some (.int 6 tk0)))
 {tk1:Tok} (v1:PySem.W.nsIn K mainGlobals "MOST_POWER" =some (some (.int 1000000000000000000000000000000 tk1)))
 (z0:PySem.W.nsIn K mainGlobals "len" =some none)
 (z1:PySem.W.nsIn K mainGlobals "max" =some none)
 (z2:PySem.W.nsIn K mainGlobals "min" =some none)
 (z3:PySem.W.nsIn K mainGlobals "divmod" =some none)
 (z4:PySem.W.nsIn K mainGlobals "all" =some none)
 (z5:PySem.W.nsIn K mainGlobals "any" =some none)
 (z6:PySem.W.nsIn K mainGlobals "repr" =some none)
 (z7:PySem.W.nsIn K mainGlobals "sum" =some none)
 (z8:PySem.W.nsIn K mainGlobals "sorted" =some none)
 (z9:PySem.W.nsIn K mainGlobals "int" =some none)
 (z10:PySem.W.nsIn K mainGlobals "tuple" =some none)
 (z11:PySem.W.nsIn K mainGlobals "list" =some none)
 (z12:PySem.W.nsIn K mainGlobals "set" =some none)
 (z13:PySem.W.nsIn K mainGlobals "bool" =some none)
 (z14:PySem.W.nsIn K mainGlobals "isinstance" =some none)
 (z15:PySem.W.nsIn K mainGlobals "range" =some none)
 (z16:PySem.W.nsIn K mainGlobals "zip" =some none)
 (z17:PySem.W.nsIn K mainGlobals "enumerate" =some none)
 (z18:PySem.W.nsIn K mainGlobals "reversed" =some none)
 : ∃fd:FuncData,(∀ (s:Shared) (v:Value),BindsTo s fd ⟨[v],[]⟩ [("_law_script",v)])∧ ∀base:Heap,K.In base→base.Ns mainGlobals mg→Bm mg base→FnOk l.prog w K mg base CX0 9 fa fd ["_law_script"] (LSp K jiu):=by
 have e:=hfa.symm.trans (G0s X G a30)
 cases e
 have F0:=jaz (st:=jbD) l0 c0 k0
 have b0:=F0.binds (ps:= ["thing"]) fun _ _ _ _ _ _ us hl=>match us,hl with| [_],_=>rfl
 have m0:=G0s X G a0
 have F1:=jaz (st:=jbn) l1 c1 k1
 have b1:=F1.binds (ps:= ["thing","least","most"]) fun _ _ _ _ _ _ us hl=>match us,hl with| [_,_,_],_=>rfl
 have m1:=G0s X G a1
 have F2:=jaz (st:=jch) l2 c2 k2
 have b2:=F2.binds (ps:= ["thing","least"]) fun _ _ _ _ _ _ us hl=>match us,hl with| [_,_],_=>rfl
 have m2:=G0s X G a2
 have F3:=jaz (st:=jbE) l3 c3 k3
 have b3:=F3.binds (ps:= ["thing","size"]) fun _ _ _ _ _ _ us hl=>match us,hl with| [_,_],_=>rfl
 have m3:=G0s X G a3
 have F4:=jaz (st:=jbb) l4 c4 k4
 have b4:=F4.binds (ps:= ["thing","size"]) fun _ _ _ _ _ _ us hl=>match us,hl with| [_,_],_=>rfl
 have m4:=G0s X G a4
 have F5:=jaz (st:=jbF) l5 c5 k5
 have b5:=F5.binds (ps:= ["thing","size"]) fun _ _ _ _ _ _ us hl=>match us,hl with| [_,_],_=>rfl
 have m5:=G0s X G a5
 have F6:=jaz (st:=jaQ) l6 c6 k6
 have b6:=F6.binds (ps:= ["thing","size"]) fun _ _ _ _ _ _ us hl=>match us,hl with| [_,_],_=>rfl
 have m6:=G0s X G a6
 have F7:=jaz (st:=jaE) l7 c7 k7
 have b7:=F7.binds (ps:= ["thing"]) fun _ _ _ _ _ _ us hl=>match us,hl with| [_],_=>rfl
 have m7:=G0s X G a7
 have F8:=jaz (st:=jbc) l8 c8 k8
 have b8:=F8.binds (ps:= ["thing"]) fun _ _ _ _ _ _ us hl=>match us,hl with| [_],_=>rfl
 have m8:=G0s X G a8
 have F9:=jaz (st:=jbd) l9 c9 k9
 have b9:=F9.binds (ps:= ["table","thing"]) fun _ _ _ _ _ _ us hl=>match us,hl with| [_,_],_=>rfl
 have m9:=G0s X G a9
 have F10:=jaz (st:=jaY) l10 c10 k10
 have b10:=F10.binds (ps:= ["thing","least","most"]) fun _ _ _ _ _ _ us hl=>match us,hl with| [_,_,_],_=>rfl
 have m10:=G0s X G a10
 have F11:=jaz (st:=jbe) l11 c11 k11
 have b11:=F11.binds (ps:= ["one","other"]) fun _ _ _ _ _ _ us hl=>match us,hl with| [_,_],_=>rfl
 have m11:=G0s X G a11
 have F12:=jaz (st:=jdu) l12 c12 k12
 have b12:=F12.binds (ps:= ["table"]) fun _ _ _ _ _ _ us hl=>match us,hl with| [_],_=>rfl
 have m12:=G0s X G a12
 have F13:=jaz (st:=jcQ) l13 c13 k13
 have b13:=F13.binds (ps:= ["table"]) fun _ _ _ _ _ _ us hl=>match us,hl with| [_],_=>rfl
 have m13:=G0s X G a13
 have F14:=jaz (st:=jci) l14 c14 k14
 have b14:=F14.binds (ps:= ["table","order"]) fun _ _ _ _ _ _ us hl=>match us,hl with| [_,_],_=>rfl
 have m14:=G0s X G a14
 have F15:=jaz (st:=jaZ) l15 c15 k15
 have b15:=F15.binds (ps:= ["ahead","table"]) fun _ _ _ _ _ _ us hl=>match us,hl with| [_,_],_=>rfl
 have m15:=G0s X G a15
 have F16:=jaz (st:=jax) l16 c16 k16
 have b16:=F16.binds (ps:= ["table"]) fun _ _ _ _ _ _ us hl=>match us,hl with| [_],_=>rfl
 have m16:=G0s X G a16
 have F17:=jaz (st:=jbG) l17 c17 k17
 have b17:=F17.binds (ps:= ["told","back","k"]) fun _ _ _ _ _ _ us hl=>match us,hl with| [_,_,_],_=>rfl
 have m17:=G0s X G a17
 have F18:=jaz (st:=jbH) l18 c18 k18
 have b18:=F18.binds (ps:= ["table"]) fun _ _ _ _ _ _ us hl=>match us,hl with| [_],_=>rfl
 have m18:=G0s X G a18
 have F19:=jaz (st:=jbo) l19 c19 k19
 have b19:=F19.binds (ps:= ["table"]) fun _ _ _ _ _ _ us hl=>match us,hl with| [_],_=>rfl
 have m19:=G0s X G a19
 have F20:=jaz (st:=jbI) l20 c20 k20
 have b20:=F20.binds (ps:= ["table","k"]) fun _ _ _ _ _ _ us hl=>match us,hl with| [_,_],_=>rfl
 have m20:=G0s X G a20
 have F21:=jaz (st:=jau) l21 c21 k21
 have b21:=F21.binds (ps:= ["thing","many","size"]) fun _ _ _ _ _ _ us hl=>match us,hl with| [_,_,_],_=>rfl
 have m21:=G0s X G a21
 have F22:=jaz (st:=jcR) l22 c22 k22
 have b22:=F22.binds (ps:= ["table","rows"]) fun _ _ _ _ _ _ us hl=>match us,hl with| [_,_],_=>rfl
 have m22:=G0s X G a22
 have F23:=jaz (st:=jaF) l23 c23 k23
 have b23:=F23.binds (ps:= ["table","thing"]) fun _ _ _ _ _ _ us hl=>match us,hl with| [_,_],_=>rfl
 have m23:=G0s X G a23
 have F24:=jaz (st:=jbp) l24 c24 k24
 have b24:=F24.binds (ps:= ["_law_script","_law_k"]) fun _ _ _ _ _ _ us hl=>match us,hl with| [_,_],_=>rfl
 have m24:=G0s X G a24
 have F25:=jaz (st:=jbJ) l25 c25 k25
 have b25:=F25.binds (ps:= ["_law_cell_here"]) fun _ _ _ _ _ _ us hl=>match us,hl with| [_],_=>rfl
 have m25:=G0s X G a25
 have F26:=jaz (st:=jbq) l26 c26 k26
 have b26:=F26.binds (ps:= ["_law_pen_here","_law_many"]) fun _ _ _ _ _ _ us hl=>match us,hl with| [_,_],_=>rfl
 have m26:=G0s X G a26
 have F27:=jaz (st:=jbr) l27 c27 k27
 have b27:=F27.binds (ps:= ["_law_pen_here"]) fun _ _ _ _ _ _ us hl=>match us,hl with| [_],_=>rfl
 have m27:=G0s X G a27
 have F28:=jaz (st:=jbf) l28 c28 k28
 have b28:=F28.binds (ps:= ["_law_pen_here","_law_size_here"]) fun _ _ _ _ _ _ us hl=>match us,hl with| [_,_],_=>rfl
 have m28:=G0s X G a28
 have F29:=jaz (st:=jbg) l29 c29 k29
 have b29:=F29.binds (ps:= ["_law_pen_here","_law_many"]) fun _ _ _ _ _ _ us hl=>match us,hl with| [_,_],_=>rfl
 have m29:=G0s X G a29
 have F30:=jaz (st:=jfw) l30 c30 k30
 have b30:=F30.binds (ps:= ["_law_script"]) fun _ _ _ _ _ _ us hl=>match us,hl with| [_],_=>rfl
 have m30:=G0s X G a30
 have M_MOST_ROWS: ∃tk,mg "MOST_ROWS" =some (.int 6 tk):=⟨_,G0s X G v0⟩
 have M_MOST_POWER: ∃tk,mg "MOST_POWER" =some (.int 1000000000000000000000000000000 tk):=⟨_,G0s X G v1⟩
 have Z:Zs mg:=⟨G0w X G z0,G0w X G z1,G0w X G z2,G0w X G z3,G0w X G z4,G0w X G z5,G0w X G z6,G0w X G z7,G0w X G z8,G0w X G z9,G0w X G z10,G0w X G z11,G0w X G z12,G0w X G z13,G0w X G z14,G0w X G z15,G0w X G z16,G0w X G z17,G0w X G z18⟩
 refine⟨PySem.W.fnOf "law" "law" (jal jfw) (jaj jfw) (jab jfw) .none kV30 dc30 pm30 an30 cd30 ct30,fun s v=> .of_eq rfl,fun base _ _ B=> ?_⟩
 have c_is_whole: ∀n,jae l.prog w K mg base (n+1) "is_whole" ["thing"] jbN:=fun n=>⟨_,_,jg8 (n:=n+0) Z F0,b0,k0,m0⟩
 have c_is_within: ∀n,jae l.prog w K mg base (n+2) "is_within" ["thing","least","most"] jbR:=fun n=>⟨_,_,jgq (n:=n+1) Z F1 (c_is_whole (n+0)),b1,k1,m1⟩
 have c_is_from: ∀n,jae l.prog w K mg base (n+2) "is_from" ["thing","least"] jdv:=fun n=>⟨_,_,jhT (n:=n+1) Z F2 (c_is_whole (n+0)),b2,k2,m2⟩
 have c_is_place: ∀n,jae l.prog w K mg base (n+3) "is_place" ["thing","size"] jc6:=fun n=>⟨_,_,jg9 (n:=n+2) Z F3 (c_is_within (n+0)),b3,k3,m3⟩
 have c_are_places: ∀n,jae l.prog w K mg base (n+4) "are_places" ["thing","size"] jcs:=fun n=>⟨_,_,jfx (n:=n+3) Z F4 (c_is_place (n+0)),b4,k4,m4⟩
 have c_is_order: ∀n,jae l.prog w K mg base (n+5) "is_order" ["thing","size"] jc7:=fun n=>⟨_,_,jha (n:=n+4) Z F5 (c_are_places (n+0)),b5,k5,m5⟩
 have c_is_table_row: ∀n,jae l.prog w K mg base (n+2) "is_table_row" ["thing","size"] jbO:=fun n=>⟨_,_,jec (n:=n+1) Z F6 (c_is_whole (n+0)),b6,k6,m6⟩
 have c_has_table_form: ∀n,jae l.prog w K mg base (n+3) "has_table_form" ["thing"] ja0:=fun n=>⟨_,_,jdw (n:=n+2) Z F7 (c_is_table_row (n+0)) M_MOST_ROWS,b7,k7,m7⟩
 have c_want_table: ∀n,jae l.prog w K mg base (n+4) "want_table" ["thing"] jaM:=fun n=>⟨_,_,jfy (n:=n+3) Z F8 (c_has_table_form (n+0)),b8,k8,m8⟩
 have c_want_order: ∀n,jae l.prog w K mg base (n+6) "want_order" ["table","thing"] jct:=fun n=>⟨_,_,jfz (n:=n+5) Z F9 (c_is_order (n+0)),b9,k9,m9⟩
 have c_want_number: ∀n,jae l.prog w K mg base (n+3) "want_number" ["thing","least","most"] jb0:=fun n=>⟨_,_,jex (n:=n+2) Z F10 (c_is_within (n+0)),b10,k10,m10⟩
 have c_multiplied: ∀n,jae l.prog w K mg base (n+1) "multiplied" ["one","other"] jcu:=fun n=>⟨_,_,jfA (n:=n+0) Z F11,b11,k11,m11⟩
 have c_marks: ∀n,jae l.prog w K mg base (n+5) "marks" ["table"] jcS:=fun n=>⟨_,_,jkp (n:=n+4) Z F12 (c_want_table (n+0)),b12,k12,m12⟩
 have c_turned: ∀n,jae l.prog w K mg base (n+5) "turned" ["table"] jed:=fun n=>⟨_,_,jjm (n:=n+4) Z F13 (c_want_table (n+0)),b13,k13,m13⟩
 have c_renamed: ∀n,jae l.prog w K mg base (n+7) "renamed" ["table","order"] jdx:=fun n=>⟨_,_,jhU (n:=n+6) Z F14 (c_want_table (n+2)) (c_want_order (n+0)),b14,k14,m14⟩
 have c_marks_after: ∀n,jae l.prog w K mg base (n+6) "marks_after" ["ahead","table"] ja5:=fun n=>⟨_,_,jey (n:=n+5) Z F15 (c_marks (n+0)) (c_multiplied (n+4)),b15,k15,m15⟩
 have c_marks_and_return: ∀n,jae l.prog w K mg base (n+7) "marks_and_return" ["table"] jaA:=fun n=>⟨_,_,jc8 (n:=n+6) Z F16 (c_marks (n+1)) (c_marks_after (n+0)),b16,k16,m16⟩
 have c_marks_at: ∀n,jae l.prog w K mg base (n+1) "marks_at" ["told","back","k"] jc9:=fun n=>⟨_,_,jhb (n:=n+0) Z F17,b17,k17,m17⟩
 have c_round_of: ∀n,jae l.prog w K mg base (n+8) "round_of" ["table"] jda:=fun n=>⟨_,_,jhc (n:=n+7) Z F18 (c_marks_and_return (n+0)),b18,k18,m18⟩
 have c_all_marks: ∀n,jae l.prog w K mg base (n+8) "all_marks" ["table"] jcH:=fun n=>⟨_,_,jgr (n:=n+7) Z F19 (c_marks_and_return (n+0)),b19,k19,m19⟩
 have c_marks_of: ∀n,jae l.prog w K mg base (n+8) "marks_of" ["table","k"] jdb:=fun n=>⟨_,_,jhd (n:=n+7) Z F20 (c_want_table (n+3)) (c_want_number (n+4)) (c_marks_and_return (n+0)) (c_marks_at (n+6)) M_MOST_POWER,b20,k20,m20⟩
 have c_are_unlike_tables: ∀n,jae l.prog w K mg base (n+4) "are_unlike_tables" ["thing","many","size"] ja4:=fun n=>⟨_,_,jcV (n:=n+3) Z F21 (c_has_table_form (n+0)),b21,k21,m21⟩
 have c_follow: ∀n,jae l.prog w K mg base (n+7) "follow" ["table","rows"] jee:=fun n=>⟨_,_,jjn (n:=n+6) Z F22 (c_marks_after (n+0)),b22,k22,m22⟩
 have c_calendar_holds: ∀n,jae l.prog w K mg base (n+8) "calendar_holds" ["table","thing"] jbs:=fun n=>⟨_,_,jdy (n:=n+7) Z F23 (c_want_table (n+3)) (c_is_from (n+5)) (c_are_unlike_tables (n+3)) (c_follow (n+0)) (c_marks (n+2)) (c_marks_after (n+1)),b23,k23,m23⟩
 have c__law_cell: ∀n,jae l.prog w K mg base (n+1) "_law_cell" ["_law_script","_law_k"] jcI:=fun n=>⟨_,_,jgt (n:=n+0) Z F24,b24,k24,m24⟩
 have c__law_pen: ∀n,jae l.prog w K mg base (n+1) "_law_pen" ["_law_cell_here"] jdc:=fun n=>⟨_,_,jhe (n:=n+0) Z F25,b25,k25,m25⟩
 have c__law_draw: ∀n,jae l.prog w K mg base (n+1) "_law_draw" ["_law_pen_here","_law_many"] jbw:=fun n=>⟨_,_,jgu (n:=n+0) Z F26,b26,k26,m26⟩
 have c__law_size: ∀n,jae l.prog w K mg base (n+2) "_law_size" ["_law_pen_here"] jcJ:=fun n=>⟨_,_,jgv (n:=n+1) Z F27 (c__law_draw (n+0)),b27,k27,m27⟩
 have c__law_table: ∀n,jae l.prog w K mg base (n+2) "_law_table" ["_law_pen_here","_law_size_here"] jcv:=fun n=>⟨_,_,jfB (n:=n+1) Z F28 (c__law_draw (n+0)),b28,k28,m28⟩
 have c__law_order: ∀n,jae l.prog w K mg base (n+2) "_law_order" ["_law_pen_here","_law_many"] jcw:=fun n=>⟨_,_,jfC (n:=n+1) Z F29 (c__law_draw (n+0)),b29,k29,m29⟩
 exact jnZ (n:=8) Z F30 (c__law_cell 7) (c__law_pen 7) (c__law_size 6) (c__law_table 6) (c_round_of 0) (c_all_marks 0) (c_calendar_holds 0) (c_marks 3) (c_marks_of 0) (c_turned 3) (c_renamed 1) (c__law_order 6)
end My
def PySem.W.Fast.tw14271245227433488376 : Unit := ()
def PySem.W.Fast.tw9662716466854170525 : Unit := ()
def PySem.W.Fast.tw15677286006910745637 : Unit := ()
def PySem.W.Fast.tw9137786764918185797 : Unit := ()
def PySem.W.Fast.tw18347420664351071880 : Unit := ()
def PySem.W.Fast.tw12976267737246714050 : Unit := ()
def PySem.W.Fast.tw1379245543642332818 : Unit := ()
def PySem.W.Fast.tw8492408554162145147 : Unit := ()
def PySem.W.Fast.tw11846652431628511923 : Unit := ()
def PySem.W.Fast.tw816410915513246370 : Unit := ()
def PySem.W.Fast.tw18116968888341709079 : Unit := ()
def PySem.W.Fast.tw13720801795335048529 : Unit := ()
def PySem.W.Fast.tw16208315193570827570 : Unit := ()
def PySem.W.Fast.tw8430577773652419865 : Unit := ()
def PySem.W.Fast.tw12337823528418405727 : Unit := ()
def PySem.W.Fast.tw4210601432544291519 : Unit := ()
def PySem.W.Fast.tw13650659327309726222 : Unit := ()
def PySem.W.Fast.tw5705110914746859120 : Unit := ()
def PySem.W.Fast.tw12621794493165433793 : Unit := ()
def PySem.W.Fast.tw16305775705418069533 : Unit := ()
def PySem.W.Fast.tw6872195439904833412 : Unit := ()
def PySem.W.Fast.tw5412948648867812312 : Unit := ()
def PySem.W.Fast.tw2859919717951787806 : Unit := ()
def PySem.W.Fast.tw5469743810413283737 : Unit := ()
def PySem.W.Fast.tw9346733894575441435 : Unit := ()
def PySem.W.Fast.tw15600455712616507050 : Unit := ()
def PySem.W.Fast.tw15890992442417460399 : Unit := ()
def PySem.W.Fast.tw6416576526787139683 : Unit := ()
def PySem.W.Fast.tw18020109905346267500 : Unit := ()
def PySem.W.Fast.tw13904515949582184884 : Unit := ()
def PySem.W.Fast.tw13727189924379053445 : Unit := ()
def PySem.W.Fast.tw18319025820230312134 : Unit := ()
def PySem.W.Fast.tw6254383749791911421 : Unit := ()
def PySem.W.Fast.tw6138252626935031499 : Unit := ()
def PySem.W.Fast.tw2738213215142219167 : Unit := ()
def PySem.W.Fast.tw14487590173428894248 : Unit := ()
def PySem.W.Fast.tw1723263706743424222 : Unit := ()
def PySem.W.Fast.tw13206315159315677203 : Unit := ()
def PySem.W.Fast.tw8851307323867313941 : Unit := ()
def PySem.W.Fast.tw427577175249404565 : Unit := ()
def PySem.W.Fast.tw1236008094050234879 : Unit := ()
def PySem.W.Fast.tw17846405490309971317 : Unit := ()
def PySem.W.Fast.tw12228221512782788686 : Unit := ()
def PySem.W.Fast.tw3476488338033866916 : Unit := ()
def PySem.W.Fast.tw10234944815590856656 : Unit := ()
def PySem.W.Fast.tw5322434136106776958 : Unit := ()
def PySem.W.Fast.tw11383095906553900418 : Unit := ()
def PySem.W.Fast.tw4597170177141072417 : Unit := ()
def PySem.W.Fast.tw16740588277556099186 : Unit := ()
def PySem.W.Fast.tw4553703425314410693 : Unit := ()
def PySem.W.Fast.tw7772280265367557181 : Unit := ()
def PySem.W.Fast.tw15977748113108705126 : Unit := ()
def PySem.W.Fast.tw3061258647339622486 : Unit := ()
def PySem.W.Fast.tw9712090472653447066 : Unit := ()
def PySem.W.Fast.tw16039152286665959402 : Unit := ()
def PySem.W.Fast.tw12437376052398143630 : Unit := ()
def PySem.W.Fast.tw17390655939734279988 : Unit := ()
def PySem.W.Fast.tw8743514046439987008 : Unit := ()
def PySem.W.Fast.tw13039377584113755913 : Unit := ()
def PySem.W.Fast.tw9480227054335370755 : Unit := ()
def PySem.W.Fast.tw8268706944435738953 : Unit := ()
def PySem.W.Fast.tw16413954720826897302 : Unit := ()
def PySem.W.Fast.tw1238881851236753067 : Unit := ()
def PySem.W.Fast.tw2237869854818309614 : Unit := ()
def PySem.W.Fast.tw16135341568077937332 : Unit := ()
def PySem.W.Fast.tw18086318930243019415 : Unit := ()
def PySem.W.Fast.tw10575114105958297952 : Unit := ()
def PySem.W.Fast.tw13611117720595995506 : Unit := ()
def PySem.W.Fast.tw12548611838176061393 : Unit := ()
def PySem.W.Fast.tw16285740469387134176 : Unit := ()
def PySem.W.Fast.tw16539339472111774446 : Unit := ()
def PySem.W.Fast.tw1938622628103769819 : Unit := ()
def PySem.W.Fast.tw9865104349320645384 : Unit := ()
def PySem.W.Fast.tw9949112142083077659 : Unit := ()
def PySem.W.Fast.tw8328293523661988659 : Unit := ()
def PySem.W.Fast.tw10543479348009737951 : Unit := ()
def PySem.W.Fast.tw17402211912490554442 : Unit := ()
def PySem.W.Fast.tw15293148080745286577 : Unit := ()
def PySem.W.Fast.tw3255168572503658698 : Unit := ()
def PySem.W.Fast.tw5225181820627337361 : Unit := ()
def PySem.W.Fast.tw17209981682080752645 : Unit := ()
def PySem.W.Fast.tw15621660053270033030 : Unit := ()
def PySem.W.Fast.tw3700687209216751630 : Unit := ()
def PySem.W.Fast.tw14853570701848961888 : Unit := ()
def PySem.W.Fast.tw16957603331094523594 : Unit := ()
def PySem.W.Fast.tw3968695350304270240 : Unit := ()
def PySem.W.Fast.tw18445767603172857632 : Unit := ()
def PySem.W.Fast.tw11184327543888318899 : Unit := ()
def PySem.W.Fast.tw10859816998396104178 : Unit := ()
def PySem.W.Fast.tw13032428138634210011 : Unit := ()
def PySem.W.Fast.tw16099996089294368709 : Unit := ()
def PySem.W.Fast.tw11920903387577097281 : Unit := ()
def PySem.W.Fast.tw1088550497890089351 : Unit := ()
def PySem.W.Fast.tw10511979856724590396 : Unit := ()
def PySem.W.Fast.tw6433475367331918246 : Unit := ()
def PySem.W.Fast.tw2647241569477981595 : Unit := ()
def PySem.W.Fast.tw5263428142968414466 : Unit := ()
def PySem.W.Fast.tw3723141563556535624 : Unit := ()
def PySem.W.Fast.tw15576361492891091891 : Unit := ()
def PySem.W.Fast.tw13597454671279452428 : Unit := ()
def PySem.W.Fast.tw11408815010972543474 : Unit := ()
def PySem.W.Fast.tw7637955631839775059 : Unit := ()
def PySem.W.Fast.tw13568103958438428773 : Unit := ()
def PySem.W.Fast.tw12787390315149723104 : Unit := ()
def PySem.W.Fast.tw7961093749712279635 : Unit := ()
def PySem.W.Fast.tw14134408156704647129 : Unit := ()
def PySem.W.Fast.tw16888331404715635630 : Unit := ()
def PySem.W.Fast.tw16525353995085436722 : Unit := ()
def PySem.W.Fast.tw8981903574455447352 : Unit := ()
open PySem PySem.W PyProof.Rows
set_option maxRecDepth 100000 in
set_option maxHeartbeats 0 in
theorem PySem.Challenge.cw_firstpowers_k49_whole_calendars_holds : PySem.Challenge.rw_firstpowers_k49_whole_calendars.Holds := by
  w_on; o_law; k_head; (case hw => w_witness2)
  k_fill
  refine L2.jjN (l := PySem.Challenge.rw_firstpowers_k49_whole_calendars) (k := 9) (x := "_law_script") rfl rfl ⟨rfl, by decide, by decide, rfl⟩ (fun w h Y => PySem.W.kIn_of Y) ?B ?F
  case B => intro w; kernel_rfl
  case F =>
    intro w mg fa h KX G hmg
    refine' My.jn0 KX G hmg ?a0 ?l0 ?c0 ?k0 ?a1 ?l1 ?c1 ?k1 ?a2 ?l2 ?c2 ?k2 ?a3 ?l3 ?c3 ?k3 ?a4 ?l4 ?c4 ?k4 ?a5 ?l5 ?c5 ?k5 ?a6 ?l6 ?c6 ?k6 ?a7 ?l7 ?c7 ?k7 ?a8 ?l8 ?c8 ?k8 ?a9 ?l9 ?c9 ?k9 ?a10 ?l10 ?c10 ?k10 ?a11 ?l11 ?c11 ?k11 ?a12 ?l12 ?c12 ?k12 ?a13 ?l13 ?c13 ?k13 ?a14 ?l14 ?c14 ?k14 ?a15 ?l15 ?c15 ?k15 ?a16 ?l16 ?c16 ?k16 ?a17 ?l17 ?c17 ?k17 ?a18 ?l18 ?c18 ?k18 ?a19 ?l19 ?c19 ?k19 ?a20 ?l20 ?c20 ?k20 ?a21 ?l21 ?c21 ?k21 ?a22 ?l22 ?c22 ?k22 ?a23 ?l23 ?c23 ?k23 ?a24 ?l24 ?c24 ?k24 ?a25 ?l25 ?c25 ?k25 ?a26 ?l26 ?c26 ?k26 ?a27 ?l27 ?c27 ?k27 ?a28 ?l28 ?c28 ?k28 ?a29 ?l29 ?c29 ?k29 ?a30 ?l30 ?c30 ?k30 ?v0 ?v1 ?z0 ?z1 ?z2 ?z3 ?z4 ?z5 ?z6 ?z7 ?z8 ?z9 ?z10 ?z11 ?z12 ?z13 ?z14 ?z15 ?z16 ?z17 ?z18
    (case a0 => k_is)
    (case l0 => k_is)
    (case c0 => k_is)
    (case k0 => k_is)
    (case a1 => k_is)
    (case l1 => k_is)
    (case c1 => k_is)
    (case k1 => k_is)
    (case a2 => k_is)
    (case l2 => k_is)
    (case c2 => k_is)
    (case k2 => k_is)
    (case a3 => k_is)
    (case l3 => k_is)
    (case c3 => k_is)
    (case k3 => k_is)
    (case a4 => k_is)
    (case l4 => k_is)
    (case c4 => k_is)
    (case k4 => k_is)
    (case a5 => k_is)
    (case l5 => k_is)
    (case c5 => k_is)
    (case k5 => k_is)
    (case a6 => k_is)
    (case l6 => k_is)
    (case c6 => k_is)
    (case k6 => k_is)
    (case a7 => k_is)
    (case l7 => k_is)
    (case c7 => k_is)
    (case k7 => k_is)
    (case a8 => k_is)
    (case l8 => k_is)
    (case c8 => k_is)
    (case k8 => k_is)
    (case a9 => k_is)
    (case l9 => k_is)
    (case c9 => k_is)
    (case k9 => k_is)
    (case a10 => k_is)
    (case l10 => k_is)
    (case c10 => k_is)
    (case k10 => k_is)
    (case a11 => k_is)
    (case l11 => k_is)
    (case c11 => k_is)
    (case k11 => k_is)
    (case a12 => k_is)
    (case l12 => k_is)
    (case c12 => k_is)
    (case k12 => k_is)
    (case a13 => k_is)
    (case l13 => k_is)
    (case c13 => k_is)
    (case k13 => k_is)
    (case a14 => k_is)
    (case l14 => k_is)
    (case c14 => k_is)
    (case k14 => k_is)
    (case a15 => k_is)
    (case l15 => k_is)
    (case c15 => k_is)
    (case k15 => k_is)
    (case a16 => k_is)
    (case l16 => k_is)
    (case c16 => k_is)
    (case k16 => k_is)
    (case a17 => k_is)
    (case l17 => k_is)
    (case c17 => k_is)
    (case k17 => k_is)
    (case a18 => k_is)
    (case l18 => k_is)
    (case c18 => k_is)
    (case k18 => k_is)
    (case a19 => k_is)
    (case l19 => k_is)
    (case c19 => k_is)
    (case k19 => k_is)
    (case a20 => k_is)
    (case l20 => k_is)
    (case c20 => k_is)
    (case k20 => k_is)
    (case a21 => k_is)
    (case l21 => k_is)
    (case c21 => k_is)
    (case k21 => k_is)
    (case a22 => k_is)
    (case l22 => k_is)
    (case c22 => k_is)
    (case k22 => k_is)
    (case a23 => k_is)
    (case l23 => k_is)
    (case c23 => k_is)
    (case k23 => k_is)
    (case a24 => k_is)
    (case l24 => k_is)
    (case c24 => k_is)
    (case k24 => k_is)
    (case a25 => k_is)
    (case l25 => k_is)
    (case c25 => k_is)
    (case k25 => k_is)
    (case a26 => k_is)
    (case l26 => k_is)
    (case c26 => k_is)
    (case k26 => k_is)
    (case a27 => k_is)
    (case l27 => k_is)
    (case c27 => k_is)
    (case k27 => k_is)
    (case a28 => k_is)
    (case l28 => k_is)
    (case c28 => k_is)
    (case k28 => k_is)
    (case a29 => k_is)
    (case l29 => k_is)
    (case c29 => k_is)
    (case k29 => k_is)
    (case a30 => k_is)
    (case l30 => k_is)
    (case c30 => k_is)
    (case k30 => k_is)
    (case v0 => k_is)
    (case v1 => k_is)
    (case z0 => k_is)
    (case z1 => k_is)
    (case z2 => k_is)
    (case z3 => k_is)
    (case z4 => k_is)
    (case z5 => k_is)
    (case z6 => k_is)
    (case z7 => k_is)
    (case z8 => k_is)
    (case z9 => k_is)
    (case z10 => k_is)
    (case z11 => k_is)
    (case z12 => k_is)
    (case z13 => k_is)
    (case z14 => k_is)
    (case z15 => k_is)
    (case z16 => k_is)
    (case z17 => k_is)
    (case z18 => k_is)
