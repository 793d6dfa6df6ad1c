import PyProof.Rows.All
import Wide.All
import OpenK.AllK
import Wide.FinOn
import Lean
import PyProof.EqAt
import PyProof.EqKinds
import PyProof.TupleCall
import PyProof.Rows.TopTwo
import KE.KIsAll
import PyProof.ExcAttrAll.ValueError
import KE.KTryMore
import KE.KRevIter
import PyProof.SetRoads
import PySem.Challenge.RW_firstpowers_k15_whole_walks_and_powers
set_option Elab.async false
set_option linter.all false
set_option maxRecDepth 100000
abbrev G0a:= @PySem.Heap.get?_push_of_some
abbrev G0b:= @List.getElem?_eq_getElem
abbrev G0c:= @List.length_map
abbrev G0d:= @PySem.wpAny_pure
abbrev G0e:= @List.length_append
abbrev G0f:= @Nat.le_refl
abbrev G0g:= @List.mem_singleton
abbrev G0h:= @List.mem_of_getElem?
abbrev G0i:= @List.getElem?_map
abbrev G0j:= @Array.length_toList
abbrev G0k:= @List.length_cons
abbrev G0l:= @List.append_assoc
abbrev G0m:= @List.getElem?_eq_some_iff
abbrev G0n:= @PySem.Heap.lt_size
abbrev G0o:= @List.getElem?_append_right
abbrev G0p:= @List.mem_cons_self
abbrev G0q:= @PySem.Heap.get?_push_size
abbrev G0r:= @decide_eq_true
abbrev G0s:= @List.mem_cons_of_mem
abbrev G0t:= @Bool.false_ne_true
abbrev G0u:= @List.size_toArray
abbrev G0v:= @List.length_take
abbrev G0w:= @PySem.W.mg_of
abbrev G0x:= @List.mem_range
abbrev G0y:= @List.map_cons
abbrev G0z:= @List.mem_append
abbrev G0A:= @List.length_range
abbrev G0B:= @List.getD_eq_getElem?_getD
abbrev G0C:= @List.mem_cons
abbrev G0D:= @List.mem_map
abbrev G0E:= @List.mem_append_right
abbrev G0F:= @Array.getElem?_toList
abbrev G0G:= @List.getElem?_cons_succ
abbrev G0H:= @List.getElem?_append_left
abbrev G0I:= @List.length_nil
abbrev G0J:= @List.pairwise_append
abbrev G0K:= @List.getElem?_cons_zero
abbrev G0L:= @decide_eq_false
abbrev G0M:= @List.length_reverse
abbrev G0N:= @List.take_append_drop
abbrev G0O:= @List.map_congr_left
abbrev G0P:= @List.nil_append
abbrev G0Q:= @List.length_drop
abbrev G0R:= @Nat.ne_of_lt
abbrev G0S:= @List.map_map
abbrev G0T:= @List.take_of_length_le
abbrev G0U:= @PySem.W.mg_none_of
abbrev G0V:= @List.mem_of_mem_take
abbrev G0W:= @Nat.lt_of_lt_of_le
abbrev G0X:= @List.set_cons_succ
abbrev G0Y:= @List.set_cons_zero
abbrev G0Z:= @PySem.Heap.get?_update_self
abbrev G00:= @List.cons_append
abbrev G01:= @Nat.le_trans
abbrev G02:= @Nat.lt_irrefl
abbrev G03:= @Option.some.injEq
abbrev G04:= @PySem.Heap.SameBut.update
abbrev G05:= @List.all_eq_true
abbrev G06:= @List.getElem_mem
abbrev G07:= @List.mem_of_mem_drop
abbrev G08:= @PySem.wpAny_mono
abbrev G09:= @Array.getElem?_eq_some_iff
abbrev G1a:= @Option.some.inj
abbrev G1b:= @exists_eq_left'
abbrev G1c:= @Nat.zero_le
abbrev G1d:= @List.pairwise_singleton
abbrev G1e:= @List.pairwise_iff_getElem
abbrev G1f:= @Bool.false_eq_true
abbrev G1g:= @List.getElem?_drop
abbrev G1h:= @Array.toList_append
abbrev G1i:= @List.not_mem_nil
abbrev G1j:= @Nat.le_of_lt
abbrev G1k:= @List.getElem?_eq_none
abbrev G1l:= @List.drop_eq_nil_of_le
abbrev G1m:= @PySem.wpAny_setState_of
abbrev G1n:= @List.map_nil
abbrev G1o:= @PySem.wpAny_callSpecial?_slot
abbrev G1p:= @PySem.wpAny_call_entry
abbrev G1q:= @Bool.and_eq_true
abbrev G1r:= @List.mem_reverse
abbrev G1s:= @List.map_append
abbrev G1t:= @PySem.wpAny_truthy_bool
abbrev G1u:= @List.take_add_one
abbrev G1v:= @List.reverse_perm
abbrev G1w:= @PySem.boot_len
abbrev G1x:= @PySem.wpAny_holding
abbrev G1y:= @List.pairwise_cons
abbrev G1z:= @PyProof.Rows.callWith_type1
abbrev G1A:= @decide_eq_true_eq
abbrev G1B:= @Nat.pow_succ
abbrev G1C:= @PySem.W.kia_one
abbrev G1D:= @PySem.PassesOwn.never
abbrev G1E:= @List.sum_cons
abbrev G1F:= @List.getElem?_range
abbrev G1G:= @List.getElem?_take_of_lt
abbrev G1H:= @of_decide_eq_true
abbrev G1I:= @List.drop_sublist
abbrev G1J:= @List.append_nil
abbrev G1K:= @List.nodup_cons
abbrev G1L:= @List.mem_append_left
abbrev G1M:= @List.getElem?_set_ne
abbrev G1N:= @List.lookup_cons
abbrev G1O:= @Nat.add_zero
abbrev G1P:= @Array.getElem?_eq_none_iff
abbrev G1Q:= @Option.map_eq_some_iff
abbrev G1R:= @PyProof.Rows.slot_tuple_getitem
abbrev G1S:= @List.replicate_succ
abbrev G1T:= @Function.comp_apply
abbrev G1U:= @Array.toList_push
abbrev G1V:= @List.pairwise_map
abbrev G1W:= @Array.getElem?_eq_getElem
abbrev G1X:= @List.drop_eq_getElem_cons
abbrev G1Y:= @List.mem_filter
abbrev G1Z:= @Bool.eq_iff_iff
abbrev G10:= @List.length_singleton
abbrev G11:= @Nat.zero_add
abbrev G12:= @List.getElem?_reverse
abbrev G13:= @PyProof.Rows.boot_all
abbrev G14:= @Nat.lt_succ_self
abbrev G15:= @List.drop_append_of_le_length
abbrev G16:= @List.take_append_of_le_length
abbrev G17:= @List.length_eq_zero_iff
abbrev G18:= @Int.toNat_natCast
abbrev G19:= @List.getElem_of_mem
abbrev G2a:= @Nat.add_sub_cancel'
abbrev G2b:= @PySem.F.slot_tuple_iterator_next
abbrev G2c:= @List.all_map
abbrev G2d:= @Nat.lt_or_ge
abbrev G2e:= @List.drop_drop
abbrev G2f:= @Classical.byContradiction
abbrev G2g:= @Array.toList_extract
abbrev G2h:= @PySem.wpAny_newObj_type
abbrev G2i:= @PySem.wpAny_passesOwn
abbrev G2j:= @PySem.wpAny_pyIter_list
abbrev G2k:= @List.of_mem_zip
abbrev G2l:= @List.take_sublist
abbrev G2m:= @List.flatten_cons
abbrev G2n:= @List.length_erase_of_mem
abbrev G2o:= @List.range_succ
abbrev G2p:= @Nat.not_lt_zero
abbrev G2q:= @List.ext_getElem?
abbrev G2r:= @PySem.mem_of_lookup
abbrev G2s:= @Int.toNat_of_nonneg
abbrev G2t:= @beq_self_eq_true
abbrev G2u:= @List.eq_nil_of_length_eq_zero
abbrev G2v:= @List.length_pos_of_mem
abbrev G2w:= @Nat.div_div_eq_div_mul
abbrev G2x:= @List.mem_filterMap
abbrev G2y:= @List.zip_cons_cons
abbrev G2z:= @PySem.wpAny_pyIter_tuple
abbrev G2A:= @Int.emod_lt_of_pos
abbrev G2B:= @Nat.ne_of_gt
abbrev G2C:= @List.length_filter_le
abbrev G2D:= @List.perm_append_comm
abbrev G2E:= @Array.getD_eq_getD_getElem?
abbrev G2F:= @PySem.Heap.SameBut.refl
abbrev G2G:= @Function.comp_def
abbrev G2H:= @Nat.pow_le_pow_right
abbrev G2I:= @List.mem_erase_of_ne
abbrev G2J:= @Array.getElem_toList
abbrev G2K:= @List.getElem?_of_mem
abbrev G2L:= @PySem.Heap.size_push
abbrev G2M:= @PySem.wpAny_askSetting
abbrev G2N:= @PySem.F.args_tuple_add_2
abbrev G2O:= @PySem.AutoSeq1.wpAny_loadPart'
abbrev G2P:= @PySem.SetTable.toList_insertAt
abbrev G2Q:= @Array.size_setIfInBounds
abbrev G2R:= @PySem.F.entry_tuple_add
abbrev G2S:= @Nat.lt_of_le_of_lt
abbrev G2T:= @List.forIn_cons
abbrev G2U:= @Nat.add_assoc
abbrev G2V:= @PySem.codeAny_builtin
abbrev G2W:= @List.getElem_range
abbrev G2X:= @Int.emod_nonneg
abbrev G2Y:= @List.getElem?_set_self
abbrev G2Z:= @PySem.F.slot_tuple_add
abbrev G20:= @List.range_succ_eq_map
abbrev G21:= @Option.map_eq_none_iff
abbrev G22:= @PySem.SetTable.insertAt_perm
abbrev G23:= @List.getElem?_set
abbrev G24:= @Nat.lt_of_succ_le
abbrev G25:= @List.flatMap_cons
abbrev G26:= @Nat.mod_lt
abbrev G27:= @List.drop_zero
abbrev G28:= @PySem.isSubtype_type
abbrev G29:= @Bool.and_false
abbrev G3a:= @PySem.F.slot_tuple_lt
abbrev G3b:= @Nat.mul_comm
abbrev G3c:= @Nat.lt_trans
abbrev G3d:= @List.pairwise_reverse
abbrev G3e:= @Nat.pow_zero
abbrev G3f:= @Nat.succ_pos
abbrev G3g:= @List.take_length
abbrev G3h:= @Int.mul_le_mul_of_nonneg_left
abbrev G3i:= @PySem.codeAny_call_builtin
abbrev G3j:= @PySem.Around.under_plainId
abbrev G3k:= @Array.toList_reverse
abbrev G3l:= @PySem.F.args_tuple_iterator_next_1
abbrev G3m:= @Nat.not_lt
abbrev G3n:= @beq_eq_false_iff_ne
abbrev G3o:= @PySem.wpAny_execs_nil
abbrev G3p:= @PySem.F.slot_int_rmul
abbrev G3q:= @Int.natCast_add
abbrev G3r:= @PySem.F.entry_tuple_iterator_next
abbrev G3s:= @List.length_zip
abbrev G3t:= @Int.fdiv_eq_ediv_of_nonneg
abbrev G3u:= @Int.fmod_eq_emod_of_nonneg
abbrev G3v:= @Array.isEmpty_eq_false_iff
abbrev G3w:= @List.length_eraseIdx_of_lt
abbrev G3x:= @Array.toList_setIfInBounds
abbrev G3y:= @PySem.wpAny_Call_Name_kw
abbrev G3z:= @Array.forIn_toList
abbrev G3A:= @List.filter_append
abbrev G3B:= @List.getElem?_take
abbrev G3C:= @of_decide_eq_false
abbrev G3D:= @List.getElem?_eq_none_iff
abbrev G3E:= @Decidable.byContradiction
abbrev G3F:= @PySem.wpAny_rule
abbrev G3G:= @Option.isSome_iff_exists
abbrev G3H:= @List.zip_nil_left
abbrev G3I:= @Nat.lt_succ_of_lt
abbrev G3J:= @PySem.wpAny_pyIter_slot
abbrev G3K:= @List.idxOf_lt_length_iff
abbrev G3L:= @Nat.lt_trichotomy
abbrev G3M:= @List.getElem_drop
abbrev G3N:= @List.mapM_toArray
abbrev G3O:= @PySem.wpAny_standAt
abbrev G3P:= @List.getElem?_replicate
abbrev G3Q:= @PySem.F.args_tuple_lt_2
abbrev G3R:= @or_false
abbrev G3S:= @PySem.F.plainAttrs_list
abbrev G3T:= @Bool.true_and
abbrev G3U:= @Nat.add_sub_cancel_left
abbrev G3V:= @PySem.noFill_tuple_add
abbrev G3W:= @Nat.min_le_right
abbrev G3X:= @PySem.wpAny_isInstance
abbrev G3Y:= @List.any_eq_true
abbrev G3Z:= @List.all_toArray
abbrev G30:= @PySem.W.cellsFrom_some
abbrev G31:= @PySem.F.entry_tuple_lt
abbrev G32:= @Array.getElem?_eq_none
abbrev G33:= @List.filter_eq_nil_iff
abbrev G34:= @PySem.codeAny_mono
abbrev G35:= @PySem.wpAny_typeOf
abbrev G36:= @List.foldl_cons
abbrev G37:= @Nat.le_of_eq
abbrev G38:= @Bool.or_eq_true
abbrev G39:= @List.getElem?_toArray
abbrev G4a:= @Nat.min_eq_left
abbrev G4b:= @PySem.W.kat_nil
abbrev G4c:= @PySem.wpAny_call
abbrev G4d:= @PySem.typeIs_int
abbrev G4e:= @PySem.call_meets
abbrev G4f:= @Bool.false_and
abbrev G4g:= @Bool.not_false
abbrev G4h:= @List.take_zero
abbrev G4i:= @List.drop_take
abbrev G4j:= @List.take_take
abbrev G4k:= @Int.pow_pos
abbrev G4l:= @List.map_id
abbrev G4m:= @Nat.mul_add
abbrev G4n:= @Nat.div_one
abbrev G4o:= @List.all_cons
abbrev G4p:= @List.map_take
abbrev G4q:= @List.map_drop
abbrev G4r:= @Nat.mul_assoc
abbrev G4s:= @Bool.and_true
abbrev G4t:= @beq_iff_eq
abbrev G4u:= @List.any_map
abbrev G4v:= @Int.mul_comm
abbrev G4w:= @if_false
namespace L2
open PySem PySem.Spec PyProof.Rows
abbrev Key:=Sum Int Str
def jod:Key→Value→Bool
 | .inl k,v=>Value.isInt k v
 | .inr x,v=>Value.isStrOf x v
def jrK (w:World):Key→Int
 | .inl k=>hashInt k
 | .inr x=>hashStr w x
theorem jaS: ∀ {k:Key} {v:Value},jod k v=true→(∃i t,k=Sum.inl i∧v=Value.int i t)∨(∃x t,k=Sum.inr x∧v=Value.str x t)
 | .inl i,v,h=>by
  obtain⟨t,e⟩:=Value.isInt_shape (k:=i) (v:=v) h
  exact .inl ⟨i,t,rfl,e⟩
 | .inr x,v,h=>by
  obtain⟨t,e⟩:=Value.isStrOf_shape (x:=x) (v:=v) h
  exact .inr ⟨x,t,rfl,e⟩
theorem joe (a b:Int):decide ((Sum.inl a:Key)=Sum.inl b)=(a==b):=by
 by_cases e:a=b
 ·subst e;simp
 ·have h: ¬ (Sum.inl a:Key)=Sum.inl b:=fun q=>e (Sum.inl.inj q)
  rw [G0L h]
  exact(G3n.mpr e).symm
theorem jof (a b:Str):decide ((Sum.inr a:Key)=Sum.inr b)=decide (a=b):=by
 by_cases e:a=b
 ·subst e;simp
 ·have h: ¬ (Sum.inr a:Key)=Sum.inr b:=fun q=>e (Sum.inr.inj q)
  rw [G0L h,G0L e]
theorem jog (a:Int) (b:Str):decide ((Sum.inl a:Key)=Sum.inr b)=false:=G0L (fun q=>nomatch q)
theorem joh (a:Str) (b:Int):decide ((Sum.inr a:Key)=Sum.inl b)=false:=G0L (fun q=>nomatch q)
def jjh (prog:Program) (w:World):PySem.KeyKind prog w Key where
 is:=jod
 hash:=jrK w
 inj:=fun v a b ha hb=>by
  rcases jaS ha with ⟨i,t,rfl,rfl⟩|⟨x,t,rfl,rfl⟩
  ·rcases jaS hb with ⟨j,u,rfl,e⟩|⟨y,u,rfl,e⟩
   ·injection e with e1 _;rw [e1]
   ·exact nomatch e
  ·rcases jaS hb with ⟨j,u,rfl,e⟩|⟨y,u,rfl,e⟩
   ·exact nomatch e
   ·injection e with e1 _;rw [e1]
 byValue:=fun k v h=>by
  rcases jaS h with ⟨i,t,rfl,rfl⟩|⟨x,t,rfl,rfl⟩<;>rfl
 pyHash:=fun hv h=>by
  rcases jaS hv with ⟨i,t,rfl,rfl⟩|⟨x,t,rfl,rfl⟩
  ·exact wpAny_pyHash_int h
  ·exact wpAny_pyHash_str h
 eqBool:=fun hu hv h=>by
  rcases jaS hu with ⟨i,t,rfl,rfl⟩|⟨x,t,rfl,rfl⟩
  ·rcases jaS hv with ⟨j,u,rfl,rfl⟩|⟨y,u,rfl,rfl⟩
   ·rw [joe] at h;exact wpAny_eqBool_int h
   ·rw [jog] at h;exact SeqAt.EqAt.int_str i t y u _ _ _ _ h
  ·rcases jaS hv with ⟨j,u,rfl,rfl⟩|⟨y,u,rfl,rfl⟩
   ·rw [joh] at h;exact SeqAt.EqAt.str_int x t j u _ _ _ _ h
   ·rw [jof] at h;exact wpAny_eqBool_str h
 «strs» :=fun k x t v h=>by
  rcases jaS h with ⟨i,u,rfl,e⟩|⟨y,u,rfl,e⟩
  ·exact nomatch e
  ·injection e with e1 _
   subst e1
   cases v<;>rfl
inductive V where
 |non|bl (b:Bool)|int (i:Int)|str (x:Str)|byt (b:Array UInt8)|flt (b:UInt64)|ref (a:Addr)|ty (n:String)
 deriving DecidableEq
def RelV:V→Value→Prop
 | .non,u=>u=Value.none
 | .bl b,u=>u=Value.bool b
 | .int i,u=> ∃t,u=Value.int i t
 | .str x,u=> ∃t,u=Value.str x t
 | .byt b,u=> ∃t,u=Value.bytes b t
 | .flt b,u=> ∃t,u=Value.float b t
 | .ref a,u=>u=Value.ref a
 | .ty n,u=>u=Value.type n
abbrev Vals:List V→List Value→Prop:=Paired RelV
theorem Vals.length {xs:List V} {us:List Value} (r:Vals xs us):xs.length=us.length:=Paired.length r
theorem Vals.get: ∀ {xs:List V} {us:List Value} {i:Nat} {x:V},Vals xs us→xs[i]? =some x→ ∃u,us[i]? =some u∧RelV x u
 |_,_,_,_,.nil,e=>by simp at e
 |_,_,0,_,.cons r _,e=>by simp at e;subst e;exact⟨_,rfl,r⟩
 |_,_,i+1,x,.cons _ t,e=>by
  obtain⟨u,h1,h2⟩:=Vals.get (i:=i) (x:=x) t (by simpa using e)
  exact⟨u,by simpa using h1,h2⟩
theorem Vals.set {x:V} {u:Value} (r:RelV x u): ∀ {xs:List V} {us:List Value} (i:Nat),Vals xs us→Vals (xs.set i x) (us.set i u)
 |_,_,_,.nil=> .nil
 |_,_,0,.cons _ t=> .cons r t
 |_,_,i+1,.cons q t=> .cons q (Vals.set r i t)
theorem Vals.append: ∀ {xs ys:List V} {us ws:List Value},Vals xs us→Vals ys ws→Vals (xs++ys) (us++ws)
 |_,_,_,_,.nil,s=>s
 |_,_,_,_,.cons r t,s=> .cons r (Vals.append t s)
theorem Vals.take: ∀ {xs:List V} {us:List Value} (n:Nat),Vals xs us→Vals (xs.take n) (us.take n)
 |_,_,0,_=> .nil
 |_,_,_+1,.nil=> .nil
 |_,_,n+1,.cons r t=> .cons r (Vals.take n t)
theorem Vals.drop: ∀ {xs:List V} {us:List Value} (n:Nat),Vals xs us→Vals (xs.drop n) (us.drop n)
 |_,_,0,r=>r
 |_,_,_+1,.nil=> .nil
 |_,_,n+1,.cons _ t=>Vals.drop n t
def jql:Option V→Option Value→Prop
 |some v,some u=>RelV v u
 |none,none=>True
 |_,_=>False
def KV {κ:Type}:List (κ×V)→List (κ×Value)→Prop:=Paired fun (p:κ×V) (q:κ×Value)=>p.1=q.1∧RelV p.2 q.2
def kV:Key→V
 | .inl i=> .int i
 | .inr x=> .str x
inductive HO where
 /-- a list -/
 |lst (xs:List V)
 /-- a tuple (never changes) -/
 |tup (xs:List V)
 /-- a dict whose keys are ints and texts;one whose keys are tuples of ints and texts (the empty one is both) -/
 |dK (kvs:List (Key×V))|dT (kvs:List (List Key×V))
 /-- a set of ints: its members,its size -/
 |set (S:Int→Bool) (n:Nat)
 /-- an instance of the class at C,its dict at dx,its attributes -/
 |ins (C dx:Addr) (fs:List (Str×V))
 /-- the dict of the instance at x -/
 |own (x:Addr)
 /-- the dict of an exception -/
 |xd (fs:List (Str×V))
 /-- a bound method,f of x -/
 |met (f x:Addr)
 /-- a range object lo,lo+1,.. below hi -/
 |rng (lo hi:Int)
 /-- a thing that is known to the object (the script;a dict while a loop walks it):read,never written while it is so -/
 |frz (o:Obj) (u:HO)
 /-- a code object's table -/
 |tbl (ps:Array Value)
 /-- any other thing,by what is true of its one object (a def of one's own: SetO a S n:=HO.ext fun h=> ..) -/
 |ext (φ:Heap→Prop)
abbrev Hp:=Addr→Option HO
def upd (H:Hp) (a:Addr) (o:HO):Hp:=fun b=>if b=a then some o else H b
theorem jap {H:Hp} {a:Addr} {o:HO}:upd H a o a=some o:=by unfold upd;rw [if_pos rfl]
theorem jan {H:Hp} {a b:Addr} {o:HO} (h:b≠a):upd H a o b=H b:=by unfold upd;rw [if_neg h]
theorem jji {H:Hp} {a b:Addr} {o u:HO} (h:H a=some o) (h' :H b=some u) (d:o≠u):a≠b:=by
 intro e;subst e;rw [h] at h';exact d (G1a h')
theorem jaj {H:Hp} {a b:Addr} {o:HO} (h:H a=some o) (h' :H b=none):a≠b:=by
 intro e;subst e;rw [h] at h';cases h'
def IsTupN (h:Heap) (a:Addr) (items:Array Value):Prop:= ∃o,h.get? a=some o∧o.cls= .type "tuple" ∧o.dict=none∧ ∃n,o.data= .seq items n
theorem IsTupN.tup {h:Heap} {a:Addr} {items:Array Value} (x:IsTupN h a items):IsTup h a items:=let ⟨o,e,c,_,n,d⟩:=x;⟨o,e,c,n,d⟩
theorem IsTupN.new (h:Heap) (items:Array Value):IsTupN (h.push {cls:= .type "tuple",data:= .seq items}) h.objs.size items:=⟨_,G0q _ rfl,rfl,rfl,_,rfl⟩
section
variable (P:Program) (w:World)
def ObjOk (H:Hp) (h:Heap) (a:Addr):HO→Prop
 | .lst xs=>xs.length≤sizeLine∧ ∃ (its:List Value) (n:Nat),Vals xs its∧h.get? a=some {cls:= .type "list",data:= .seq its.toArray n}
 | .tup xs=>xs.length≤sizeLine∧ ∃its:List Value,Vals xs its∧IsTupN h a its.toArray
 | .dK kvs=>kvs.length≤sizeLine∧(a==sysModules)=false∧ ∃vs,KV kvs vs∧h.DictOf (jjh P w) a vs
 | .dT kvs=>kvs.length≤sizeLine∧(a==sysModules)=false∧ ∃xs:List (List Key×Addr×Value),
  Paired (fun (p:List Key×V) (q:List Key×Addr×Value)=>p.1=q.1∧H q.2.1=some (.tup (p.1.map kV))∧RelV p.2 q.2.2) kvs xs∧
  ∃o es ep,h.get? a=some o∧o.ExactDict∧o.data= .dict es ep∧es.toList=xs.map (entryOfKey (tupleKind (jjh P w)))∧(xs.map (·.1)).Nodup
 | .set S n=>h.SetOf (intKind P w) a S n
 | .ins C dx fs=>H dx=some (.own a)∧fs.length≤1000∧dx≠a∧h.get? a=some (PySem.W.instObj C dx)∧
  ∃mA,h.Ns1 dx mA∧(∀f,jql (fs.lookup f) (mA f))∧PySem.Within mA (fs.map (·.1))
 | .own _=> ∃o,h.get? a=some o
 | .xd fs=> ∃mA,h.Ns1 a mA∧ ∀f,jql (fs.lookup f) (mA f)
 | .rng lo hi=> ∃t u v,h.get? a=some {cls:= .type "range",data:= .fields #[.int lo t,.int hi u,.int 1 v]}
 | .frz o u=>h.get? a=some o∧ObjOk H h a u
 | .tbl ps=>h.get? a=some {cls:= .none,data:= .fields ps}
 | .met f x=>h.get? a=some (PySem.W.methodObj (.ref f) (.ref x))
 | .ext φ=>φ h∧(∃o,h.get? a=some o)∧ ∀h1 h2:Heap,φ h1→(∀o,h1.get? a=some o→h2.get? a=some o)→φ h2
def HOk (H:Hp) (h:Heap):Prop:= ∀a o,H a=some o→ObjOk P w H h a o
end
section
variable {P:Program} {w:World} {H H' :Hp} {h h' :Heap} {a:Addr} {o:HO}
theorem ObjOk.lt (x:ObjOk P w H h a o):a<h.objs.size:=by
 cases o with
 |lst xs=>obtain⟨_,_,_,_,e⟩:=x;exact G0n e
 |tup xs=>obtain⟨_,_,_,p⟩:=x;exact p.tup.lt
 |dK kvs=>obtain⟨_,_,_,_,o,_,_,e,_⟩:=x;exact G0n e
 |dT kvs=>obtain⟨_,_,_,_,o,_,_,e,_⟩:=x;exact G0n e
 |set S n=>obtain⟨o,_,_,_,e,_⟩:=x;exact G0n e
 |ins C dx fs=>obtain⟨_,_,_,e,_⟩:=x;exact G0n e
 |own y=>obtain⟨_,e⟩:=x;exact G0n e
 |xd fs=>obtain⟨_,⟨_,_,_,e,_⟩,_⟩:=x;exact G0n e
 |rng lo hi=>obtain⟨_,_,_,e⟩:=x;exact G0n e
 |frz ob u=>obtain⟨e,_⟩:=x;exact G0n e
 |tbl ps=>exact G0n (show h.get? a=some _ from x)
 |met f y=>exact G0n (show h.get? a=some _ from x)
 |ext φ=>obtain⟨_,⟨_,e⟩,_⟩:=x;exact G0n e
theorem Paired.mapP {α β:Type} {F G:α→β→Prop}: ∀ {l₁:List α} {l₂:List β},Paired F l₁ l₂→(∀a b,F a b→G a b)→Paired G l₁ l₂
 |_,_,.nil,_=> .nil
 |_,_,.cons r t,f=> .cons (f _ _ r) (Paired.mapP t f)
theorem ObjOk.stay (x:ObjOk P w H h a o) (k: ∀b u,(b=a∨H b=some (.own a))→h.get? b=some u→h'.get? b=some u)
 (ho: ∀b,H b=some (.own a)→H' b=some (.own a)) (ht: ∀b xs,H b=some (.tup xs)→H' b=some (.tup xs)):ObjOk P w H' h' a o:=by
 induction o with
 |lst xs=>obtain⟨z,its,n,r,e⟩:=x;exact⟨z,its,n,r,k _ _ (.inl rfl) e⟩
 |tup xs=>obtain⟨z,its,r,ob,e,c⟩:=x;exact⟨z,its,r,ob,k _ _ (.inl rfl) e,c⟩
 |dK kvs=>obtain⟨z,y,vs,r,ob,es,ep,e,c⟩:=x;exact⟨z,y,vs,r,ob,es,ep,k _ _ (.inl rfl) e,c⟩
 |dT kvs=>
  obtain⟨z,y,xs,r,ob,es,ep,e,c⟩:=x
  exact⟨z,y,xs,Paired.mapP r fun p q z=>⟨z.1,ht _ _ z.2.1,z.2.2⟩,ob,es,ep,k _ _ (.inl rfl) e,c⟩
 |set S n=>obtain⟨ob,es,ep,t,e,c⟩:=x;exact⟨ob,es,ep,t,k _ _ (.inl rfl) e,c⟩
 |ins C dx fs=>
  obtain⟨d,z,ne,e,mA,⟨od,es,ep,e2,c⟩,r⟩:=x
  exact⟨ho _ d,z,ne,k _ _ (.inl rfl) e,mA,⟨od,es,ep,k _ _ (.inr d) e2,c⟩,r⟩
 |own y=>obtain⟨ob,e⟩:=x;exact⟨ob,k _ _ (.inl rfl) e⟩
 |xd fs=>obtain⟨mA,⟨od,es,ep,e,c⟩,r⟩:=x;exact⟨mA,⟨od,es,ep,k _ _ (.inl rfl) e,c⟩,r⟩
 |rng lo hi=>obtain⟨t,u,v,e⟩:=x;exact⟨t,u,v,k _ _ (.inl rfl) e⟩
 |frz ob u ih=>obtain⟨e,q⟩:=x;exact⟨k _ _ (.inl rfl) e,ih q⟩
 |tbl ps=>
  have e:h.get? a=some {cls:= .none,data:= .fields ps}:=x
  show h'.get? a=some {cls:= .none,data:= .fields ps}
  exact k a _ (.inl rfl) e
 |met f y=>
  have e:h.get? a=some (PySem.W.methodObj (.ref f) (.ref y)):=x
  show h'.get? a=some (PySem.W.methodObj (.ref f) (.ref y))
  exact k a _ (.inl rfl) e
 |ext φ=>obtain⟨p,⟨o,e⟩,st⟩:=x;exact⟨st _ _ p fun o q=>k _ _ (.inl rfl) q,⟨o,k _ _ (.inl rfl) e⟩,st⟩
theorem HOk.lt (x:HOk P w H h) (e:H a=some o):a<h.objs.size:=(x a o e).lt
theorem HOk.fresh (x:HOk P w H h) (e:h.objs.size≤a):H a=none:=by
 cases q:H a with
 |none=>rfl
 |some u=>exact absurd (G0W (x.lt q) e) (G02 _)
theorem HOk.kept (x:HOk P w H h) (k: ∀b u,h.get? b=some u→h'.get? b=some u):HOk P w H h' :=fun a o e=>
 (x a o e).stay (fun b u _ q=>k b u q) (fun _ q=>q) fun _ _ q=>q
theorem HOk.laid (x:HOk P w H h) (k: ∀b u,h.get? b=some u→h'.get? b=some u) (hp:h.objs.size≤a) (new:ObjOk P w (upd H a o) h' a o):HOk P w (upd H a o) h' :=fun b u e=>by
 have hn:=x.fresh hp
 by_cases hb:b=a
 ·subst hb;rw [jap] at e;cases e;exact new
 ·rw [jan hb] at e
  exact(x b u e).stay (fun c v _ q=>k c v q) (fun c q=>by rw [jan (jaj q hn)];exact q) fun c xs q=>by rw [jan (jaj q hn)];exact q
end
def Rd (H:Hp) (a:Addr) (u:HO):Prop:=H a=some u∨ ∃o,H a=some (.frz o u)
theorem Rd.ok {P:Program} {w:World} {H:Hp} {h:Heap} {a:Addr} {u:HO} (r:Rd H a u) (x:HOk P w H h):ObjOk P w H h a u:=by
 rcases r with r|⟨o,r⟩
 ·exact x a u r
 ·obtain⟨_,q⟩:=x a _ r
  exact q
def Mut:Option HO→Prop
 |some (.lst _)=>True
 |some (.dK _)=>True
 |some (.dT _)=>True
 |some (.set _ _)=>True
 |some (.ins _ _ _)=>True
 |some (.ext _)=>True
 |_=>False
section
variable {P:Program} {w:World} {H:Hp} {h h' :Heap} {x e:Addr} {o' :HO}
theorem HOk.write (ok:HOk P w H h) (mu:Mut (H x)) (he:e=x∨H e=some (.own x)) (k: ∀b u,b≠e→h.get? b=some u→h'.get? b=some u) (heo: ∃u,h'.get? e=some u)
 (new:ObjOk P w (upd H x o') h' x o'):HOk P w (upd H x o') h' :=fun b u q=>by
 have nown: ∀c y,H c=some (.own y)→c≠x:=fun c y r z=>by subst z;rw [r] at mu;exact mu
 have ntup: ∀c xs,H c=some (.tup xs)→c≠x:=fun c xs r z=>by subst z;rw [r] at mu;exact mu
 by_cases hb:b=x
 ·subst hb;rw [jap] at q;cases q;exact new
 ·rw [jan hb] at q
  by_cases hbe:b=e
  ·have q' :H b=some (.own x):=by
    rcases he with z|z
    ·exact absurd (hbe.trans z) hb
    ·rw [hbe];exact z
   rw [q] at q';cases q'
   obtain⟨v,hv⟩:=heo
   exact⟨v,by rw [hbe];exact hv⟩
  ·refine(ok b u q).stay (fun c v hc r=>k c v ?_ r) (fun c r=>by rw [jan (nown c b r)];exact r) fun c xs r=>by rw [jan (ntup c xs r)];exact r
   rcases hc with rfl|hc
   ·exact hbe
   ·rintro rfl
    rcases he with z|z
    ·exact nown c b hc z
    ·rw [hc] at z;cases z;exact hb rfl
end
structure Un (fs ex:List Addr) (H H' :Hp) (h h' :Heap):Prop where
 keep: ∀b o,h.get? b=some o→H b=none→b ∉ fs→b ∉ ex→h'.get? b=some o
 slot: ∀b o,h.get? b=some o→H b=none→b∈fs→b ∉ ex→ ∃sl,h'.get? b=some {o with slots:=sl}
 free: ∀b o,h.get? b=some o→H b=none→b ∉ ex→H' b=none
 there: ∀b o,h.get? b=some o→b ∉ ex→ ∃o',h'.get? b=some o'
 tups: ∀b xs,H b=some (.tup xs)→H' b=some (.tup xs)
 frzs: ∀b o u,H b=some (.frz o u)→H' b=some (.frz o u)
 tbls: ∀b ps,H b=some (.tbl ps)→ ∃more,H' b=some (.tbl (ps++more))
section
variable {fs fs' ex ex' :List Addr} {H H1 H2:Hp} {h h1 h2 h' :Heap} {a x e:Addr} {o:HO}
theorem Un.any (u:Un fs ex H H1 h h1) {b:Addr} {ob:Obj} (q:h.get? b=some ob) (n:H b=none) (hx:b ∉ ex): ∃sl,h1.get? b=some {ob with slots:=sl}:=by
 by_cases hb:b∈fs
 ·exact u.slot b ob q n hb hx
 ·exact⟨ob.slots,u.keep b ob q n hb hx⟩
theorem Un.kept (k: ∀b u,h.get? b=some u→h'.get? b=some u):Un fs ex H H h h' :=
 ⟨fun b ob q _ _ _=>k b ob q,fun b ob q _ _ _=>⟨ob.slots,k b ob q⟩,fun _ _ _ n _=>n,fun b ob q _=>⟨ob,k b ob q⟩,fun _ _ q=>q,fun _ _ _ q=>q,fun _ ps q=>⟨#[],by rw [q];simp⟩⟩
theorem Un.refl:Un fs ex H H h h:=Un.kept fun _ _ q=>q
theorem Un.laid (k: ∀b u,h.get? b=some u→h'.get? b=some u) (hp:h.objs.size≤a) (hn:H a=none):Un fs ex H (upd H a o) h h' where
 keep:=fun b u q _ _ _=>k b u q
 slot:=fun b u q _ _ _=>⟨u.slots,k b u q⟩
 free:=fun b u q n _=>by rw [jan (G0R (G0W (G0n q) hp))];exact n
 there:=fun b u q _=>⟨u,k b u q⟩
 tups:=fun b xs q=>by rw [jan (jaj q hn)];exact q
 frzs:=fun b u xs q=>by rw [jan (jaj q hn)];exact q
 tbls:=fun b ps q=>⟨#[],by rw [jan (jaj q hn),q];simp⟩
theorem Un.write (mu:Mut (H x)) (he:e=x∨H e=some (.own x)) (k: ∀b u,b≠e→h.get? b=some u→h'.get? b=some u) (heo: ∃u,h'.get? e=some u):Un fs ex H (upd H x o) h h' :=by
 have hx: ∀b,H b=none→b≠x:=fun b n z=>by subst z;rw [n] at mu;exact mu
 have hb: ∀b,H b=none→b≠e:=fun b n z=>by
  subst z
  rcases he with r|r
  ·exact hx b n r
  ·rw [n] at r;cases r
 have hm: ∀b u,H b=some u→ ¬Mut (some u)→b≠x:=fun b u q nm z=>by subst z;rw [q] at mu;exact nm mu
 refine⟨fun b u q n _ _=>k b u (hb b n) q,fun b u q n _ _=>⟨u.slots,k b u (hb b n) q⟩,fun b u q n _=>by rw [jan (hx b n)];exact n,fun b u q _=> ?_,
  fun b xs q=>by rw [jan (hm b _ q fun z=>z)];exact q,fun b u xs q=>by rw [jan (hm b _ q fun z=>z)];exact q,fun b ps q=>⟨#[],by rw [jan (hm b _ q fun z=>z),q];simp⟩⟩
 by_cases hbe:b=e
 ·subst hbe;exact heo
 ·exact⟨u,k b u hbe q⟩
end
def trk (h:Heap) (H:Hp):List Addr:=(List.range h.objs.size).filter fun a=>(H a).isSome
def jkV (h:Heap) (H:Hp):Heap:=PySem.W.hideAll h (trk h H)
theorem jjj (h:Heap) (H:Hp):(jkV h H).objs.size=h.objs.size:=PySem.W.hideAll_size _ _
theorem jfC {h:Heap} {H:Hp} {b:Addr} {o:Obj} (e:h.get? b=some o) (n:H b=none):(jkV h H).get? b=some o:=
 PySem.W.hideAll_get _ e fun hm=>by
  have q:(H b).isSome=true:=(G1Y.mp hm).2
  rw [n] at q;simp at q
theorem jmF {h:Heap} {H:Hp} {b:Addr} {o:Obj} (e:(jkV h H).get? b=some o):h.get? b=some o∧H b=none:=by
 have e' :h.get? b=some o:=PySem.W.of_hideAll (trk h H) e
 refine⟨e',?_⟩
 cases q:H b with
 |none=>rfl
 |some x=>
  have hm:b∈trk h H:=G1Y.mpr ⟨G0x.mpr (G0n e'),by simp [q]⟩
  have z:(jkV h H).get? b=none:=PySem.W.hideAll_none (trk h H) hm
  rw [z] at e;cases e
def jmG (g h:Heap) (L:Addr):List (Addr×Obj):=(List.range h.objs.size).filterMap fun a=>if a=L∨(g.get? a).isSome=true then none else (h.get? a).map fun o=>(a,o)
def rest (g h:Heap) (L d:Addr):List (Addr×Obj):=(jmG g h L).filter fun p=>decide (p.1≠d)
structure Mod (K:PySem.W.Frag) (mg:Str→Option Value) (base:Heap):Prop where
 kin:K.In base
 glob:base.Ns mainGlobals mg
 blt: ∃mb,base.Ns builtinsNs mb∧ ∀x:Str,x≠ "__name__" →mb x=bootBuiltins x
 nolimit:base.NoLimit
structure Cx where
 prog:Program
 w:World
 K:PySem.W.Frag
 mg:Str→Option Value
 base:Heap
 A:Around
 N:List Str
 s₀:Shared
 H₀:Hp
 env:Env
 outer:List Env
 stack:List Env
 ex:List Addr
 fn:Str→Bool
 calm:Bool
 pn:List (Addr×Obj)
 xe:Value→Shared→Prop
def frs (l:List Env):List Addr:=l.filterMap (·.frame)
abbrev Cx.fs (X:Cx):List Addr:=frs X.outer
def Vis (sc:Scope) (x:Str):Prop:=sc.names.lookup x=some .local∨sc.names.lookup x=some .cell∨sc.names.lookup x=some .free
def Loc (sc:Scope) (x:Str):Prop:=sc.names.lookup x=some .local∨sc.names.lookup x=some .cell
def jrL (env:Env) (h:Heap) (m:Str→Option Value) (x:Str) (u:Value):Prop:=
 (env.kindOf x=some .local∧m x=some u)∨((env.kindOf x=some .cell∨env.kindOf x=some .free)∧ ∃c,env.cells.lookup x=some c∧h.IsCell c (some u))
structure Cx.Ok (X:Cx):Prop where
 mod:Mod X.K X.mg X.base
 kind:X.env.scope.kind= .function
 glob:X.env.globals=mainGlobals
 blt:X.env.builtins=builtinsNs
 above:X.s₀.heap.objs.size≤X.env.locals
 inj: ∀x y c,X.env.cells.lookup x=some c→X.env.cells.lookup y=some c→x=y
 has: ∀x,(X.env.kindOf x=some .cell∨X.env.kindOf x=some .free)→ ∃c,X.env.cells.lookup x=some c
 cab: ∀x c,X.fn x=true→X.env.cells.lookup x=some c→X.s₀.heap.objs.size≤c
 hd:X.calm=true→X.A.handled=none
 frames:X.A.frames=some X.stack
 stk:X.stack=X.outer∨(X.stack=X.env::X.outer∧X.env.frame=some X.env.locals)
 exf: ∀b∈X.ex,b≠X.env.locals∧ ∀x c,X.env.cells.lookup x=some c→c≠b
 bs: ∀b o,X.base.get? b=some o→X.s₀.heap.get? b=some o∧X.H₀ b=none
 bsz:X.base.objs.size≤X.s₀.heap.objs.size
 noex: ∀b o,X.base.get? b=some o→b ∉ X.ex
 exfs: ∀b∈X.ex,b ∉ X.fs
 funs:X.s₀.heap.FunFrames X.base X.outer
 frf: ∀b∈X.fs,X.H₀ b=none
structure Inv (X:Cx) (pins:List (Addr×Obj)) (σ:List (Option V)) (H:Hp) (s:Shared):Prop where
 ok:X.Ok
 os:s.os=X.s₀.os
 bare:AllBare s.gens
 base:Un X.fs X.ex X.H₀ H X.s₀.heap s.heap
 loc: ∃m,s.heap.Ns X.env.locals m∧ ∀ (i:Nat) (x:Str) (v:V),X.N[i]? =some x→σ[i]? =some (some v)→Vis X.env.scope x→ ∃u,RelV v u∧jrL X.env s.heap m x u
 cell: ∀x c,X.env.cells.lookup x=some c→ ∃v,s.heap.IsCell c v
 free:H X.env.locals=none
 freeC: ∀x c,X.env.cells.lookup x=some c→H c=none
 pin: ∀p∈X.pn++pins,s.heap.get? p.1=some p.2∧H p.1=none∧p.1≠X.env.locals∧p.1 ∉ X.fs∧ ∀v,p.2.data≠ .cell v
 hok:HOk X.prog X.w H s.heap
 len:σ.length=X.N.length
section
variable {X:Cx} {pins:List (Addr×Obj)} {σ:List (Option V)} {H H' :Hp} {s:Shared} {h' :Heap}
theorem Cx.Ok.nofr (ok:X.Ok) {b:Addr} {o:Obj} (e:X.base.get? b=some o):b ∉ X.fs:=fun hb=>by
 have:=(ok.funs.mem hb).1
 rw [e] at this;cases this
theorem Inv.bs (I:Inv X pins σ H s): ∀b o,X.base.get? b=some o→s.heap.get? b=some o∧H b=none:=fun b o e=>
 ⟨I.base.keep b o (I.ok.bs b o e).1 (I.ok.bs b o e).2 (I.ok.nofr e) (I.ok.noex b o e),I.base.free b o (I.ok.bs b o e).1 (I.ok.bs b o e).2 (I.ok.noex b o e)⟩
theorem Inv.bk (I:Inv X pins σ H s): ∀b o,X.base.get? b=some o→s.heap.get? b=some o:=fun b o e=>(I.bs b o e).1
theorem Inv.mod (I:Inv X pins σ H s):Mod X.K X.mg X.base:=I.ok.mod
theorem Inv.kIn (I:Inv X pins σ H s):X.K.In s.heap:=I.ok.mod.kin.keeps I.bk
theorem Inv.lt (I:Inv X pins σ H s):X.env.locals<s.heap.objs.size:=let ⟨_,hn,_⟩:=I.loc;hn.lt
theorem Inv.sz (I:Inv X pins σ H s):X.s₀.heap.objs.size≤s.heap.objs.size:=G01 I.ok.above (G1j I.lt)
theorem Inv.nofs (I:Inv X pins σ H s) {a:Addr} (h:s.heap.objs.size≤a):a ∉ X.fs:=fun hb=>by
 obtain⟨_,o,ho,_⟩:=I.ok.funs.mem hb
 exact absurd (G0W (G0n ho) (G01 I.sz h)) (G02 _)
theorem Inv.cne (I:Inv X pins σ H s): ∀x c,X.env.cells.lookup x=some c→c≠X.env.locals:=fun x c e z=>by
 obtain⟨v,o,ho,hd⟩:=I.cell x c e
 obtain⟨m,⟨o',es,ep,ho',hd',_⟩,_⟩:=I.loc
 rw [z,ho'] at ho;cases ho;rw [hd'] at hd;cases hd
theorem Inv.funs (I:Inv X pins σ H s):s.heap.FunFrames X.base X.outer:=by
 have all: ∀ (l:List Env),(∀b∈frs l,b∈X.fs)→X.s₀.heap.FunFrames X.base l→s.heap.FunFrames X.base l:=by
  intro l
  induction l with
  |nil=>intro _ _;trivial
  |cons env r ih=>
   intro hs hl
   obtain⟨hk,⟨L,o,hf,hn,ho,hd⟩,hr⟩:=hl
   have hL:L∈X.fs:=hs L (by unfold frs;rw [List.filterMap_cons,hf];exact List.mem_cons_self)
   obtain⟨sl,e⟩:=I.base.slot L o ho (I.ok.frf L hL) hL fun z=>I.ok.exfs L z hL
   exact⟨hk,⟨L,_,hf,hn,e,hd⟩,ih (fun b hb=>hs b (by unfold frs;rw [List.filterMap_cons,hf];exact List.mem_cons_of_mem _ hb)) hr⟩
 exact all X.outer (fun _ hb=>hb) I.ok.funs
theorem Inv.stack (I:Inv X pins σ H s):s.heap.FunFrames X.base X.stack:=by
 rcases I.ok.stk with e|⟨e,hf⟩
 ·rw [e];exact I.funs
 ·rw [e]
  obtain⟨m,hn,_⟩:=I.loc
  refine .cons (by rw [I.ok.kind];decide) hf hn ?_ I.funs
  exact Heap.get?_none_of_le (G01 I.ok.bsz I.ok.above)
theorem Inv.stkSub (I:Inv X pins σ H s): ∀b∈frs X.stack,b∈X.env.locals::X.fs:=fun b hb=>by
 rcases I.ok.stk with e|⟨e,hf⟩
 ·rw [e] at hb;exact G0s _ hb
 ·rw [e] at hb
  unfold frs at hb
  rw [List.filterMap_cons,hf] at hb
  exact hb
theorem Inv.stkFree (I:Inv X pins σ H s): ∀b∈frs X.stack,H b=none:=fun b hb=>by
 rcases G0C.mp (I.stkSub b hb) with e|hb
 ·rw [e];exact I.free
 ·obtain⟨_,o,ho,_⟩:=I.ok.funs.mem hb
  exact I.base.free b o ho (I.ok.frf b hb) fun z=>I.ok.exfs b z hb
theorem Inv.step {g' :Array GenState} {t' :Nat} {d' :Drawn} {ch:List Addr} (I:Inv X pins σ H s)
 (hch: ∀b∈ch,(b∈X.ex∨X.s₀.heap.objs.size≤b)∧b≠X.env.locals∧(∀x c,X.env.cells.lookup x=some c→c≠b)∧ ∀p∈X.pn++pins,p.1≠b)
 (keep: ∀b o,b≠X.env.locals→b ∉ X.fs→b ∉ ch→s.heap.get? b=some o→H b=none→h'.get? b=some o)
 (slot: ∀b o,b≠X.env.locals→b∈X.fs→b ∉ ch→s.heap.get? b=some o→H b=none→ ∃sl,h'.get? b=some {o with slots:=sl}) (free: ∀b o,b ∉ ch→s.heap.get? b=some o→H b=none→H' b=none)
 (there: ∀b o,b ∉ ch→s.heap.get? b=some o→ ∃o',h'.get? b=some o')
 (tups: ∀b xs,H b=some (.tup xs)→H' b=some (.tup xs)) (frzs: ∀b o u,H b=some (.frz o u)→H' b=some (.frz o u)) (tbls: ∀b ps,H b=some (.tbl ps)→ ∃more,H' b=some (.tbl (ps++more)))
 (ns: ∀m,s.heap.Ns X.env.locals m→h'.Ns X.env.locals m) (hok:HOk X.prog X.w H' h') (hg:AllBare g'):
 Inv X pins σ H' {s with heap:=h',gens:=g',drawn:=d',toks:=t'}:=by
 have neL: ∀b o,X.s₀.heap.get? b=some o→b≠X.env.locals:=fun b o e=>G0R (G0W (G0n e) I.ok.above)
 have neC: ∀b o,X.s₀.heap.get? b=some o→b ∉ X.ex→b ∉ ch:=fun b o e hx hb=>by
  rcases (hch b hb).1 with z|z
  ·exact hx z
  ·exact absurd (G0W (G0n e) z) (G02 _)
 have cellK: ∀x c,X.env.cells.lookup x=some c→ ∀v,s.heap.IsCell c v→h'.IsCell c v:=fun x c e v ⟨o,ho,hd⟩=>by
  have nch:c ∉ ch:=fun z=>(hch c z).2.2.1 x c e rfl
  by_cases hc:c∈X.fs
  ·obtain⟨sl,q⟩:=slot c o (I.cne x c e) hc nch ho (I.freeC x c e)
   exact⟨_,q,hd⟩
  ·exact⟨o,keep c o (I.cne x c e) hc nch ho (I.freeC x c e),hd⟩
 refine⟨I.ok,I.os,hg,⟨fun b o e n hb hx=> ?_,fun b o e n hb hx=> ?_,fun b o e n hx=> ?_,fun b o e hx=> ?_,fun b xs e=>tups b xs (I.base.tups b xs e),fun b o xs e=>frzs b o xs (I.base.frzs b o xs e),fun b ps e=> ?_⟩,?_,fun x c e=> ?_,?_,fun x c e=> ?_,fun p hp=> ?_,hok,I.len⟩
 ·exact keep b o (neL b o e) hb (neC b o e hx) (I.base.keep b o e n hb hx) (I.base.free b o e n hx)
 ·obtain⟨sl,e1⟩:=I.base.slot b o e n hb hx
  obtain⟨sl',e2⟩:=slot b _ (neL b o e) hb (neC b o e hx) e1 (I.base.free b o e n hx)
  exact⟨sl',e2⟩
 ·obtain⟨o',e1⟩:=I.base.there b o e hx
  exact free b o' (neC b o e hx) e1 (I.base.free b o e n hx)
 ·obtain⟨o',e1⟩:=I.base.there b o e hx
  exact there b o' (neC b o e hx) e1
 ·obtain⟨m1,e1⟩:=I.base.tbls b ps e
  obtain⟨m2,e2⟩:=tbls b _ e1
  exact⟨m1++m2,by rw [e2,Array.append_assoc]⟩
 ·obtain⟨m,hn,hl⟩:=I.loc
  refine⟨m,ns m hn,fun i x v e1 e2 e3=> ?_⟩
  obtain⟨u,r,l⟩:=hl i x v e1 e2 e3
  refine⟨u,r,?_⟩
  rcases l with l|⟨k,c,e,z⟩
  ·exact .inl l
  ·exact .inr ⟨k,c,e,cellK x c e _ z⟩
 ·obtain⟨v,z⟩:=I.cell x c e
  exact⟨v,cellK x c e v z⟩
 ·obtain⟨m,⟨o,_,_,ho,_⟩,_⟩:=I.loc
  exact free _ o (fun z=>(hch _ z).2.1 rfl) ho I.free
 ·obtain⟨v,o,ho,hd⟩:=I.cell x c e
  exact free c o (fun z=>(hch c z).2.2.1 x c e rfl) ho (I.freeC x c e)
 ·obtain⟨e,n,ne,nf,d⟩:=I.pin p hp
  have nch:p.1 ∉ ch:=fun z=>(hch p.1 z).2.2.2 p hp rfl
  exact⟨keep p.1 p.2 ne nf nch e n,free p.1 p.2 nch e n,ne,nf,d⟩
theorem Inv.un {t' :Nat} (I:Inv X pins σ H s) (u:Un X.fs [] H H' s.heap h') (hok:HOk X.prog X.w H' h'):Inv X pins σ H' {s with heap:=h',toks:=t'}:=by
 obtain⟨m,⟨o,es,ep,ho,r⟩,_⟩:=id I.loc
 obtain⟨sl,hL⟩:=u.any ho I.free (by simp)
 exact I.step (g' :=s.gens) (d' :=s.drawn) (ch:= []) (fun _ z=>nomatch z) (fun b o _ hb _ e n=>u.keep b o e n hb (by simp)) (fun b o _ hb _ e n=>u.slot b o e n hb (by simp)) (fun b o _ e n=>u.free b o e n (by simp)) (fun b o _ e=>u.there b o e (by simp)) u.tups u.frzs u.tbls (fun m' hm=>by
  obtain⟨o',es',ep',ho',r'⟩:=hm
  rw [ho] at ho';cases ho'
  exact⟨_,es',ep',hL,r'⟩) hok I.bare
theorem Inv.call {g' :Array GenState} {t' :Nat} {d' :Drawn} {ch:List Addr} (I:Inv X pins σ H s) (u:Un (frs X.stack) ch H H' s.heap h') (hok:HOk X.prog X.w H' h') (hg:AllBare g')
 (hch: ∀b∈ch,(b∈X.ex∨X.s₀.heap.objs.size≤b)∧b≠X.env.locals∧(∀x c,X.env.cells.lookup x=some c→c≠b)∧ ∀p∈X.pn++pins,p.1≠b):
 Inv X pins σ H' {s with heap:=h',gens:=g',drawn:=d',toks:=t'}:=by
 obtain⟨m,⟨o,es,ep,ho,r⟩,_⟩:=id I.loc
 obtain⟨sl,hL⟩:=u.any ho I.free fun z=>(hch _ z).2.1 rfl
 exact I.step (ch:=ch) hch (fun b o hL hb hc e n=>u.keep b o e n (fun z=>(G0C.mp (I.stkSub b z)).elim hL hb) hc) (fun b o _ _ hc e n=>u.any e n hc) (fun b o hc e n=>u.free b o e n hc) (fun b o hc e=>u.there b o e hc) u.tups u.frzs u.tbls (fun m' hm=>by
  obtain⟨o',es',ep',ho',r'⟩:=hm
  rw [ho] at ho';cases ho'
  exact⟨_,es',ep',hL,r'⟩) hok hg
theorem Inv.turned {t' :Nat} {it:Addr} (I:Inv X pins σ H s) (k: ∀b o,b≠it→s.heap.get? b=some o→h'.get? b=some o) (hn:H it=none) (hL:it≠X.env.locals)
 (h1:it∈X.ex∨X.s₀.heap.objs.size≤it) (h2: ∀x c,X.env.cells.lookup x=some c→c≠it) (h3: ∀p∈X.pn++pins,p.1≠it):Inv X pins σ H {s with heap:=h',toks:=t'}:=by
 have nit: ∀b u,H b=some u→b≠it:=fun b u e z=>by rw [z,hn] at e;cases e
 refine I.step (g' :=s.gens) (d' :=s.drawn) (ch:= [it]) (fun b hb=> ?_) (fun b o _ _ hc e _=>k b o (fun z=>hc (by simp [z])) e) (fun b o _ _ hc e _=>⟨o.slots,k b o (fun z=>hc (by simp [z])) e⟩) (fun _ _ _ _ n=>n)
  (fun b o hc e=>⟨o,k b o (fun z=>hc (by simp [z])) e⟩) (fun _ _ e=>e) (fun _ _ _ e=>e) (fun b ps e=>⟨#[],by rw [e];simp⟩) (fun m hm=> ?_) (fun b u e=> ?_) I.bare
 ·have e:b=it:=by simpa using hb
  subst e
  exact⟨h1,hL,h2,h3⟩
 ·obtain⟨o,es,ep,ho,r⟩:=hm
  exact⟨o,es,ep,k _ o (Ne.symm hL) ho,r⟩
 ·refine(I.hok b u e).stay (fun c v hc q=>k c v ?_ q) (fun _ q=>q) fun _ _ q=>q
  rcases hc with z|z
  ·rw [z];exact nit b u e
  ·exact nit c _ z
theorem Inv.tok (I:Inv X pins σ H s) (t:Nat):Inv X pins σ H {s with toks:=t}:=I.un (h' :=s.heap) (t' :=t) Un.refl I.hok
theorem Inv.kept {t' :Nat} (I:Inv X pins σ H s) (k: ∀b u,s.heap.get? b=some u→h'.get? b=some u):Inv X pins σ H {s with heap:=h',toks:=t'}:=I.un (Un.kept k) (I.hok.kept k)
theorem Inv.laid {a:Addr} {o:HO} {t' :Nat} (I:Inv X pins σ H s) (k: ∀b u,s.heap.get? b=some u→h'.get? b=some u) (hp:s.heap.objs.size≤a) (new:ObjOk X.prog X.w (upd H a o) h' a o):
 Inv X pins σ (upd H a o) {s with heap:=h',toks:=t'}:=I.un (Un.laid k hp (I.hok.fresh hp)) (I.hok.laid k hp new)
theorem Inv.write {x e:Addr} {o:HO} {t' :Nat} (I:Inv X pins σ H s) (mu:Mut (H x)) (he:e=x∨H e=some (.own x)) (k: ∀b u,b≠e→s.heap.get? b=some u→h'.get? b=some u) (heo: ∃u,h'.get? e=some u)
 (new:ObjOk X.prog X.w (upd H x o) h' x o):Inv X pins σ (upd H x o) {s with heap:=h',toks:=t'}:=I.un (Un.write mu he k heo) (I.hok.write mu he k heo new)
theorem Inv.weak {σ' :List (Option V)} (I:Inv X pins σ H s) (hl:σ'.length=σ.length) (w: ∀ (i:Nat) v,σ'[i]? =some (some v)→σ[i]? =some (some v)):Inv X pins σ' H s:=
 ⟨I.ok,I.os,I.bare,I.base,let ⟨m,hn,hl'⟩:=I.loc;⟨m,hn,fun i x v e1 e2 e3=>hl' i x v e1 (w i v e2) e3⟩,I.cell,I.free,I.freeC,I.pin,I.hok,hl.trans I.len⟩
theorem Inv.pins_of {pins' :List (Addr×Obj)} (I:Inv X pins σ H s) (h: ∀p∈pins',s.heap.get? p.1=some p.2∧H p.1=none∧p.1≠X.env.locals∧p.1 ∉ X.fs∧ ∀v,p.2.data≠ .cell v):Inv X pins' σ H s:=
 ⟨I.ok,I.os,I.bare,I.base,I.loc,I.cell,I.free,I.freeC,fun p hp=>(G0z.mp hp).elim (fun z=>I.pin p (G1L _ z)) (h p),I.hok,I.len⟩
theorem jh5 {N:List Str} (hN:N.Nodup) {i j:Nat} {x:Str} (a:N[i]? =some x) (b:N[j]? =some x):i=j:=by
 obtain⟨h1,e1⟩:=G0m.mp a
 obtain⟨h2,e2⟩:=G0m.mp b
 exact(List.getElem_inj hN).mp (e1.trans e2.symm)
theorem jjk {M:Model} {A:Around} {E:Value→Shared→Prop} {i:Nat} {x:Str} {v:V} {u:Value} {Q:Unit→Shared→Prop} (I:Inv X pins σ H s) (hN:X.N.Nodup) (hi:X.N[i]? =some x) (hx:Loc X.env.scope x) (r:RelV v u)
 (h: ∀s',Inv X pins (σ.set i (some v)) H s' →(∃a,Heap.SameBut a s.heap s'.heap∧(a=X.env.locals∨X.env.cells.lookup x=some a))→Q () s') (hf:X.fn x=true∨X.env.scope.names.lookup x=some .local:=by first|exact .inl rfl|exact .inr rfl|assumption):wpAny M A (storeName X.env x u) Q E s:=by
 obtain⟨m,hn,hl⟩:=id I.loc
 have hcls:(X.env.scope.kind== .class||(X.env.scope.kind== .module&&X.env.locals !=X.env.globals))=false:=by rw [I.ok.kind];rfl
 have hiσ:i<σ.length:=by rw [I.len];exact(G0m.mp hi).1
 have cne:=I.cne
 have tracked: ∀ {a:Addr} {h' :Heap},(∃o,s.heap.get? a=some o∧H a=none)→Heap.SameBut a s.heap h' →HOk X.prog X.w H h' :=fun {a h'} ha hs b ob e=>by
  obtain⟨_,_,hfree⟩:=ha
  refine(I.hok b ob e).stay (fun c w' hc q=>(hs.2 c ?_).trans q) (fun _ q=>q) fun _ _ q=>q
  rintro rfl
  rcases hc with rfl|hc
  ·rw [hfree] at e;cases e
  ·rw [hfree] at hc;cases hc
 rcases hx with hk|hk
 ·refine wpAny_storeName_local hk hn (fun h' hn' hs=> ?_) hcls
  obtain⟨oL,_,_,hoL,_⟩:=id hn
  refine h _ ⟨I.ok,I.os,I.bare,⟨fun b o e n hb hx=> ?_,fun b o e n hb hx=> ?_,I.base.free,fun b o e hx=> ?_,I.base.tups,I.base.frzs,I.base.tbls⟩,⟨_,hn',fun j y v' e1 e2 e3=> ?_⟩,fun y c e=> ?_,I.free,I.freeC,fun p hp=> ?_,tracked ⟨oL,hoL,I.free⟩ hs,by simpa using I.len⟩ ⟨_,hs,.inl rfl⟩
  ·exact(hs.2 b (G0R (G0W (G0n e) I.ok.above))).trans (I.base.keep b o e n hb hx)
  ·obtain⟨sl,e1⟩:=I.base.slot b o e n hb hx
   exact⟨sl,(hs.2 b (G0R (G0W (G0n e) I.ok.above))).trans e1⟩
  ·obtain⟨o',e1⟩:=I.base.there b o e hx
   exact⟨o',(hs.2 b (G0R (G0W (G0n e) I.ok.above))).trans e1⟩
  ·by_cases hj:j=i
   ·subst hj
    rw [hi] at e1;cases e1
    rw [G2Y hiσ] at e2
    cases e2
    exact⟨u,r,.inl ⟨hk,by simp⟩⟩
   ·rw [G1M (Ne.symm hj)] at e2
    obtain⟨u',r',q⟩:=hl j y v' e1 e2 e3
    refine⟨u',r',?_⟩
    rcases q with ⟨k,e⟩|⟨k,c,e,z⟩
    ·refine .inl ⟨k,?_⟩
     have:y≠x:=fun e=>hj (jh5 hN e1 (e ▸ hi))
     simp [this,e]
    ·exact .inr ⟨k,c,e,z.sameBut hs (cne y c e)⟩
  ·obtain⟨w',z⟩:=I.cell y c e
   exact⟨w',z.sameBut hs (cne y c e)⟩
  ·obtain⟨e,n,ne,nf,d⟩:=I.pin p hp
   exact⟨(hs.2 p.1 ne).trans e,n,ne,nf,d⟩
 ·have hfn:X.fn x=true:=by
   rcases hf with z|z
   ·exact z
   ·rw [z] at hk;cases hk
  obtain⟨c,hc⟩:=I.ok.has x (.inl hk)
  obtain⟨w',z⟩:=I.cell x c hc
  refine wpAny_storeName_cell I.ok.kind hk hc z (fun h' hc' hs=> ?_)
  obtain⟨oc,hoc,hocd⟩:=id z
  refine h {s with heap:=h'} ⟨I.ok,I.os,I.bare,⟨fun b o e n hb hx=> ?_,fun b o e n hb hx=> ?_,I.base.free,fun b o e hx=> ?_,I.base.tups,I.base.frzs,I.base.tbls⟩,⟨m,hn.sameBut hs (Ne.symm (cne x c hc)),fun j y v' e1 e2 e3=> ?_⟩,fun y c' e=> ?_,I.free,I.freeC,fun p hp=> ?_,tracked ⟨oc,hoc,I.freeC x c hc⟩ hs,by simpa using I.len⟩ ⟨c,hs,.inr hc⟩
  ·exact(hs.2 b (G0R (G0W (G0n e) (I.ok.cab x c hfn hc)))).trans (I.base.keep b o e n hb hx)
  ·obtain⟨sl,e1⟩:=I.base.slot b o e n hb hx
   exact⟨sl,(hs.2 b (G0R (G0W (G0n e) (I.ok.cab x c hfn hc)))).trans e1⟩
  ·obtain⟨o',e1⟩:=I.base.there b o e hx
   exact⟨o',(hs.2 b (G0R (G0W (G0n e) (I.ok.cab x c hfn hc)))).trans e1⟩
  ·by_cases hj:j=i
   ·subst hj
    rw [hi] at e1;cases e1
    rw [G2Y hiσ] at e2
    cases e2
    exact⟨u,r,.inr ⟨.inl hk,c,hc,hc'⟩⟩
   ·rw [G1M (Ne.symm hj)] at e2
    obtain⟨u',r',q⟩:=hl j y v' e1 e2 e3
    refine⟨u',r',?_⟩
    rcases q with q|⟨k,c',e,z'⟩
    ·exact .inl q
    ·refine .inr ⟨k,c',e,z'.sameBut hs ?_⟩
     rintro rfl
     exact hj (jh5 hN e1 (I.ok.inj _ _ _ e hc ▸ hi))
  ·by_cases hcc:c' =c
   ·subst hcc;exact⟨_,hc'⟩
   ·obtain⟨w2,z2⟩:=I.cell y c' e
    exact⟨w2,z2.sameBut hs hcc⟩
  ·obtain⟨e,n,ne,nf,d⟩:=I.pin p hp
   refine⟨(hs.2 p.1 ?_).trans e,n,ne,nf,d⟩
   intro q
   rw [q,hoc] at e
   have q' :oc=p.2:=G1a e
   exact d w' (by rw [←q'];exact hocd)
theorem jdw {M:Model} {A:Around} {E:Value→Shared→Prop} {i:Nat} {x:Str} {v:V} {u:Value} {Q:Unit→Shared→Prop} (I:Inv X pins σ H s) (hN:X.N.Nodup) (hi:X.N[i]? =some x) (hx:Loc X.env.scope x) (r:RelV v u)
 (h: ∀s',Inv X pins (σ.set i (some v)) H s' →Q () s') (hf:X.fn x=true∨X.env.scope.names.lookup x=some .local:=by first|exact .inl rfl|exact .inr rfl|assumption):wpAny M A (storeName X.env x u) Q E s:=
 jjk I hN hi hx r (fun s' I' _=>h s' I') hf
theorem Inv.call' {s' :Shared} {ch:List Addr} (I:Inv X pins σ H s) (ho:s'.os=s.os) (u:Un (frs X.stack) ch H H' s.heap s'.heap) (hok:HOk X.prog X.w H' s'.heap) (hg:AllBare s'.gens)
 (hch: ∀b∈ch,(b∈X.ex∨X.s₀.heap.objs.size≤b)∧b≠X.env.locals∧(∀x c,X.env.cells.lookup x=some c→c≠b)∧ ∀p∈X.pn++pins,p.1≠b):Inv X pins σ H' s' :=by
 obtain⟨h',g',d',t',o'⟩:=s'
 have e:o' =s.os:=ho
 subst e
 exact I.call (g' :=g') (t' :=t') (d' :=d') u hok hg hch
end
abbrev XK:=Value→Option Addr→Hp→Prop
abbrev St:=List (Option V)
abbrev VK:=V→Hp→Prop
abbrev TE:=St→Hp→VK→Prop
abbrev TT:=St→Hp→(Bool→Hp→Prop)→Prop
abbrev TA:=St→Hp→(List V→Hp→Prop)→Prop
structure Ends where
 nx:St→Hp→Prop
 rt:VK
 bk:St→Hp→Prop:=fun _ _=>False
 ct:St→Hp→Prop:=fun _ _=>False
abbrev TS:=Ends→St→Hp→Prop
def EP (X:Cx) (pins:List (Addr×Obj)) (σ:St) (Q:VK) (u:Value) (s' :Shared):Prop:= ∃v H',Inv X pins σ H' s' ∧RelV v u∧Q v H'
def TP (X:Cx) (pins:List (Addr×Obj)) (σ:St) (Q:Bool→Hp→Prop) (b:Bool) (s' :Shared):Prop:= ∃H',Inv X pins σ H' s' ∧Q b H'
def AP (X:Cx) (pins:List (Addr×Obj)) (σ:St) (Q:List V→Hp→Prop) (us:List Value) (s' :Shared):Prop:= ∃vs H',Inv X pins σ H' s' ∧Vals vs us∧Q vs H'
def SP (X:Cx) (pins:List (Addr×Obj)) (D:Ends) (f:Flow) (s' :Shared):Prop:=
 match f with
 | .next=> ∃σ' H',Inv X pins σ' H' s' ∧D.nx σ' H'
 | .brk=> ∃σ' H',Inv X pins σ' H' s' ∧D.bk σ' H'
 | .cont=> ∃σ' H',Inv X pins σ' H' s' ∧D.ct σ' H'
 | .ret u=> ∃v σ' H',Inv X pins σ' H' s' ∧RelV v u∧D.rt v H'
def PE (X:Cx) (e:Expr) (t:TE):Prop:=
 ∀ (pins:List (Addr×Obj)) (s:Shared) (σ:St) (H:Hp) (Q:VK),Inv X pins σ H s→t σ H Q→wpAny (model X.prog X.w) X.A (eval e X.env) (EP X pins σ Q) X.xe s
def PT (X:Cx) (e:Expr) (t:TT):Prop:=
 ∀ (pins:List (Addr×Obj)) (s:Shared) (σ:St) (H:Hp) (Q:Bool→Hp→Prop),Inv X pins σ H s→t σ H Q→wpAny (model X.prog X.w) X.A (isTrue e X.env (eval e X.env)) (TP X pins σ Q) X.xe s
def PW (X:Cx) (e:Expr) (t:TT):Prop:=
 ∀ (whole:Sem Value) (pins:List (Addr×Obj)) (s:Shared) (σ:St) (H:Hp) (Q:Bool→Hp→Prop),Inv X pins σ H s→t σ H Q→wpAny (model X.prog X.w) X.A (isTrue e X.env whole) (TP X pins σ Q) X.xe s
theorem PW.pt {X:Cx} {e:Expr} {t:TT} (h:PW X e t):PT X e t:=h _
def PA (X:Cx) (es:List Expr) (t:TA):Prop:=
 ∀ (pos:Pos) (pins:List (Addr×Obj)) (s:Shared) (σ:St) (H:Hp) (Q:List V→Hp→Prop),Inv X pins σ H s→t σ H Q→wpAny (model X.prog X.w) X.A (spliced (backTo pos (starEach es X.env))) (AP X pins σ Q) X.xe s
def PS (X:Cx) (st:Stmt) (t:TS):Prop:=
 ∀ (pins:List (Addr×Obj)) (s:Shared) (σ:St) (H:Hp) (D:Ends),Inv X pins σ H s→t D σ H→wpAny (model X.prog X.w) X.A (exec st X.env) (SP X pins D) X.xe s
def PSs (X:Cx) (st:List Stmt) (t:TS):Prop:=
 ∀ (pins:List (Addr×Obj)) (s:Shared) (σ:St) (H:Hp) (D:Ends),Inv X pins σ H s→t D σ H→wpAny (model X.prog X.w) X.A (execs st X.env) (SP X pins D) X.xe s
theorem thn {α:Type} {t:Sem α} {Q Q' :α→Shared→Prop} {M:Model} {A:Around} {E:Value→Shared→Prop} {s:Shared} (h:wpAny M A t Q E s) (hQ: ∀a s,Q a s→Q' a s):wpAny M A t Q' E s:=G08 h hQ fun _ _ x=>x
section
variable {X:Cx}
def jqm (i:Nat):TE:=fun σ H Q=> ∃v,σ[i]? =some (some v)∧Q v H
def tC (v:V):TE:=fun _ H Q=>Q v H
theorem jma {i:Nat} {x:Str} {pos:Pos} (hN:X.N[i]? =some x) (hv:Vis X.env.scope x) (hd:(x==("__debug__" :Str))=false:=by decide) (hcd:(x==("__classdict__" :Str))=false:=by decide):PE X (.Name x pos) (jqm i):=by
 intro pins s σ H Q I h
 obtain⟨v,e,h⟩:=h
 obtain⟨m,hn,hl⟩:=I.loc
 obtain⟨u,r,l⟩:=hl i x v hN e hv
 have fin:EP X pins σ Q u s:=⟨v,H,I,r,h⟩
 rcases l with ⟨hk,hm⟩|⟨hk,c,hc,hcell⟩
 ·exact wpAny_Name (wpAny_loadName_local I.ok.kind hk hn hm fin) hd
 ·rcases hk with hk|hk
  ·exact wpAny_Name (wpAny_loadName_cell I.ok.kind hk hc hcell fin) hd
  ·exact wpAny_Name (wpAny_loadName_free I.ok.kind hk hc hcell fin hcd) hd
theorem pe_int {i j pos}:PE X (.Constant (.int i) j pos) (tC (.int i)):=fun _ _ _ H _ I h=>wpAny_Constant_int ⟨.int i,H,I.tok _,⟨_,rfl⟩,h⟩
theorem pe_bl {b j pos}:PE X (.Constant (.bool b) j pos) (tC (.bl b)):=fun _ _ _ H _ I h=>Constant_bool ⟨.bl b,H,I,rfl,h⟩
theorem pe_non {j pos}:PE X (.Constant .none j pos) (tC .non):=fun _ _ _ H _ I h=>Constant_none ⟨.non,H,I,rfl,h⟩
def Gl (X:Cx) (x:Str):Prop:=X.env.kindOf x=some .globalImplicit
theorem jjl {E:Value→Shared→Prop} {pins:List (Addr×Obj)} {s:Shared} {σ:St} {H:Hp} {x:Str} {u:Value} {pos:Pos} {Q:Value→Shared→Prop} (I:Inv X pins σ H s) (hg:Gl X x) (hm:X.mg x=some u) (h:Q u s)
 (hd:(x==("__debug__" :Str))=false:=by decide):wpAny (model X.prog X.w) X.A (eval (.Name x pos) X.env) Q E s:=
 Calls.Name_function_global I.ok.kind hg (Calls.loadGlobal_global (by rw [I.ok.glob];exact I.mod.glob.keeps I.bk) hm h) hd
theorem jd4 {E:Value→Shared→Prop} {pins:List (Addr×Obj)} {s:Shared} {σ:St} {H:Hp} {x:Str} {u:Value} {pos:Pos} {Q:Value→Shared→Prop} (I:Inv X pins σ H s) (hg:Gl X x) (hm:X.mg x=none) (hv:bootBuiltins x=some u) (h:Q u s)
 (hn:x≠ "__name__" :=by decide) (hd:(x==("__debug__" :Str))=false:=by decide):wpAny (model X.prog X.w) X.A (eval (.Name x pos) X.env) Q E s:=by
 obtain⟨mb,h1,h2⟩:=I.mod.blt
 exact Calls.Name_function_global I.ok.kind hg (Calls.loadGlobal_builtin (by rw [I.ok.glob];exact I.mod.glob.keeps I.bk) hm (by rw [I.ok.blt];exact h1.keeps I.bk) ((h2 x hn).trans hv) h) hd
theorem jmH {x:Str} {v:V} {u:Value} {pos:Pos} (hg:Gl X x) (hm:X.mg x=some u) (r:RelV v u) (hd:(x==("__debug__" :Str))=false:=by decide):PE X (.Name x pos) (tC v):=
 fun _ _ _ H _ I h=>jjl I hg hm ⟨v,H,I,r,h⟩ hd
theorem jmI {x:Str} {v:V} {u:Value} {pos:Pos} (hg:Gl X x) (hm:X.mg x=none) (hv:bootBuiltins x=some u) (r:RelV v u) (hn:x≠ "__name__" :=by decide) (hd:(x==("__debug__" :Str))=false:=by decide):PE X (.Name x pos) (tC v):=
 fun _ _ _ H _ I h=>jd4 I hg hm hv ⟨v,H,I,r,h⟩ hn hd
variable {a b:Expr} {ta tb:TE} {pos:Pos}
def tB (t:TE):TT:=fun σ H Q=>t σ H fun x H1=> ∃c,x= .bl c∧Q c H1
theorem joi {e:Expr} {t:TE} (h:PE X e t) (he: ∀whole,isTrue e X.env whole=(do let v ←whole;standAt e.pos;holding [v] (truthy v)):=by intro _;rfl):PT X e (tB t):=by
 intro pins s σ H Q I hw
 refine isTrue_plain (thn (h pins s σ H _ I hw) fun v s1 ⟨x,H1,I1,r1,q1⟩=> ?_) (he _)
 obtain⟨d,rfl,q⟩:=q1
 cases r1
 exact G1t ⟨H1,I1,q⟩
variable {tA tB' :TT} {rest:List Expr}
def tOr (t u:TT):TT:=fun σ H Q=>t σ H fun c H1=>if c=true then Q true H1 else u σ H1 Q
def jrf (t:TT):TT:=fun σ H Q=>t σ H fun c H1=>Q (!c) H1
theorem joj (ha:PT X a tA):PW X (.BoolOp .Or [a] pos) tA:=by
 intro wh pins s σ H Q I h
 refine isTrue_or (thn (ha pins s σ H Q I h) fun c s1 e=> ?_)
 cases c with
 |false=>exact isTrue_or_nil e
 |true=>exact e
theorem jqn (ha:PT X a tA) (hb:PW X (.BoolOp .Or (b::rest) pos) tB'):PW X (.BoolOp .Or (a::b::rest) pos) (tOr tA tB'):=by
 intro wh pins s σ H Q I h
 refine isTrue_or (thn (ha pins s σ H _ I h) fun c s1 ⟨H1,I1,q1⟩=> ?_)
 cases c with
 |true=>exact⟨H1,I1,q1⟩
 |false=>exact hb wh pins s1 σ H1 Q I1 q1
theorem jok (ha:PT X a tA):PT X (.UnaryOp .Not a pos) (jrf tA):=by
 intro pins s σ H Q I h
 exact isTrue_not (ha pins s σ H (fun c H1=>Q (!c) H1) I h)
def jol (ta tb:TE):TE:=fun σ H Q=>ta σ H fun x H1=> ∃c,x= .bl c∧if c=true then tb σ H1 Q else Q (.bl false) H1
def jrg (ta tb:TE):TE:=fun σ H Q=>ta σ H fun x H1=> ∃c,x= .bl c∧if c=true then Q (.bl true) H1 else tb σ H1 Q
def jom (ta:TE):TE:=fun σ H Q=>ta σ H fun x H1=> ∃c,x= .bl c∧Q (.bl (!c)) H1
theorem jon {op} {t:TE} (h:PE X a t):PE X (.BoolOp op [a] pos) t:=fun pins s σ H Q I hw=>BoolOp_one (h pins s σ H Q I hw)
theorem joo (ha:PE X a ta) (hb:PE X (.BoolOp .And (b::rest) pos) tb):PE X (.BoolOp .And (a::b::rest) pos) (jol ta tb):=by
 intro pins s σ H Q I h
 refine BoolOp_and (thn (ha pins s σ H _ I h) fun v s1 ⟨x,H1,I1,r1,q1⟩=> ?_)
 obtain⟨c,rfl,q1⟩:=q1
 cases r1
 refine G1t ?_
 cases c with
 |true=>exact hb pins s1 σ H1 Q I1 q1
 |false=>exact⟨.bl false,H1,I1,rfl,q1⟩
theorem jqo (ha:PE X a ta) (hb:PE X (.BoolOp .Or (b::rest) pos) tb):PE X (.BoolOp .Or (a::b::rest) pos) (jrg ta tb):=by
 intro pins s σ H Q I h
 refine BoolOp_or (thn (ha pins s σ H _ I h) fun v s1 ⟨x,H1,I1,r1,q1⟩=> ?_)
 obtain⟨c,rfl,q1⟩:=q1
 cases r1
 refine G1t ?_
 cases c with
 |false=>exact hb pins s1 σ H1 Q I1 q1
 |true=>exact⟨.bl true,H1,I1,rfl,q1⟩
theorem joq (ha:PE X a ta):PE X (.UnaryOp .Not a pos) (jom ta):=by
 intro pins s σ H Q I h
 refine UnaryOp_ (thn (ha pins s σ H _ I h) fun v s1 ⟨x,H1,I1,r1,q1⟩=> ?_)
 obtain⟨c,rfl,q1⟩:=q1
 cases r1
 exact not_of (G1t ⟨.bl (!c),H1,I1,rfl,q1⟩)
def tIf (t:TT) (ta tb:TE):TE:=fun σ H Q=>t σ H fun c H1=>if c=true then ta σ H1 Q else tb σ H1 Q
theorem jkW {c:Expr} (hc:PT X c tA) (ha:PE X a ta) (hb:PE X b tb):PE X (.IfExp c a b pos) (tIf tA ta tb):=by
 intro pins s σ H Q I h
 refine wpAny_IfExp (thn (hc pins s σ H _ I h) fun d s1 ⟨H1,I1,q1⟩=> ?_)
 cases d with
 |true=>exact ha pins s1 σ H1 Q I1 q1
 |false=>exact hb pins s1 σ H1 Q I1 q1
end
def SqL (K:PySem.W.Frag) (H:Hp) (a:Addr) (xs:List V):Prop:=
 Rd H a (.lst xs)∨
  ∃ (o:Obj) (its:Array Value) (n:Nat),K.lookup a=some o∧o.cls= .type "list" ∧o.dict=none∧o.data= .seq its n∧its.size≤sizeLine∧Vals xs its.toList
def SqT (K:PySem.W.Frag) (H:Hp) (a:Addr) (xs:List V):Prop:=
 Rd H a (.tup xs)∨
  ∃ (o:Obj) (its:Array Value) (n:Nat),K.lookup a=some o∧o.cls= .type "tuple" ∧o.data= .seq its n∧its.size≤sizeLine∧Vals xs its.toList
def jrM:Value→Option V
 | .none=>some .non
 | .bool b=>some (.bl b)
 | .int i _=>some (.int i)
 | .str x _=>some (.str x)
 | .bytes b _=>some (.byt b)
 | .float b _=>some (.flt b)
 | .ref a=>some (.ref a)
 | .type n=>some (.ty n)
 |_=>none
theorem RelV.abs {x:V} {u:Value} (r:RelV x u):jrM u=some x:=by
 cases x with
 |non=>cases r;rfl
 |bl _=>cases r;rfl
 |int _=>obtain⟨t,rfl⟩:=r;rfl
 |str _=>obtain⟨t,rfl⟩:=r;rfl
 |byt _=>obtain⟨t,rfl⟩:=r;rfl
 |flt _=>obtain⟨t,rfl⟩:=r;rfl
 |ref _=>cases r;rfl
 |ty _=>cases r;rfl
theorem RelV.inj {x y:V} {u:Value} (r:RelV x u) (q:RelV y u):x=y:=G1a (r.abs.symm.trans q.abs)
theorem Vals.inj: ∀ {xs ys:List V} {us:List Value},Vals xs us→Vals ys us→xs=ys
 |_,_,_,.nil,.nil=>rfl
 |_,_,_,.cons r t,.cons r' t' =>by rw [r.inj r',Vals.inj t t']
section
variable {X:Cx} {pins:List (Addr×Obj)} {σ:St} {H:Hp} {s:Shared} {a:Addr} {xs ys:List V}
theorem SqL.of {K:PySem.W.Frag} (h:H a=some (.lst xs)):SqL K H a xs:= .inl (.inl h)
theorem SqT.of {K:PySem.W.Frag} (h:H a=some (.tup xs)):SqT K H a xs:= .inl (.inl h)
theorem Inv.list (I:Inv X pins σ H s) (h:SqL X.K H a xs): ∃its:List Value,Vals xs its∧PlainL s.heap a its.toArray∧xs.length≤sizeLine:=by
 rcases h with h|⟨o,its,n,hk,hc,hd,hs,hz,r⟩
 ·obtain⟨z,its,n,r,e⟩:=h.ok I.hok
  exact⟨its,r,⟨_,n,e,rfl,rfl,rfl⟩,z⟩
 ·refine⟨its.toList,r,⟨o,n,I.kIn a o hk,hc,hd,by simpa using hs⟩,?_⟩
  have e:=r.length
  simp only [G0j] at e
  omega
theorem Inv.tuple (I:Inv X pins σ H s) (h:SqT X.K H a xs): ∃its:List Value,Vals xs its∧IsTup s.heap a its.toArray∧xs.length≤sizeLine:=by
 rcases h with h|⟨o,its,n,hk,hc,hs,hz,r⟩
 ·obtain⟨z,its,r,p⟩:=h.ok I.hok
  exact⟨its,r,p.tup,z⟩
 ·refine⟨its.toList,r,⟨o,I.kIn a o hk,hc,n,by simpa using hs⟩,?_⟩
  have e:=r.length
  simp only [G0j] at e
  omega
theorem Inv.list_inj (I:Inv X pins σ H s) (h:SqL X.K H a xs) (h' :SqL X.K H a ys):xs=ys:=by
 obtain⟨its,r,⟨o,n,e,_,_,d⟩,_⟩:=I.list h
 obtain⟨its',r',⟨o',n',e',_,_,d'⟩,_⟩:=I.list h'
 rw [e] at e';cases e'
 rw [d] at d'
 injection d' with d1 _
 have:its=its' :=by simpa using congrArg Array.toList d1
 subst this
 exact r.inj r'
theorem Inv.tuple_inj (I:Inv X pins σ H s) (h:SqT X.K H a xs) (h' :SqT X.K H a ys):xs=ys:=by
 obtain⟨its,r,⟨o,e,_,n,d⟩,_⟩:=I.tuple h
 obtain⟨its',r',⟨o',e',_,n',d'⟩,_⟩:=I.tuple h'
 rw [e] at e';cases e'
 rw [d] at d'
 injection d' with d1 _
 have:its=its' :=by simpa using congrArg Array.toList d1
 subst this
 exact r.inj r'
end
abbrev Cx.wish (X:Cx) (E:Value→Shared→Prop):Cx:= {X with xe:=E}
abbrev Cx.nox (X:Cx):Cx:=X.wish fun _ _=>False
theorem Cx.Ok.wish {X:Cx} (ok:X.Ok) (E:Value→Shared→Prop):(X.wish E).Ok:=
 ⟨ok.mod,ok.kind,ok.glob,ok.blt,ok.above,ok.inj,ok.has,ok.cab,ok.hd,ok.frames,ok.stk,ok.exf,ok.bs,ok.bsz,ok.noex,ok.exfs,ok.funs,ok.frf⟩
theorem Cx.Ok.unwish {X:Cx} {E:Value→Shared→Prop} (ok:(X.wish E).Ok):X.Ok:=
 ⟨ok.mod,ok.kind,ok.glob,ok.blt,ok.above,ok.inj,ok.has,ok.cab,ok.hd,ok.frames,ok.stk,ok.exf,ok.bs,ok.bsz,ok.noex,ok.exfs,ok.funs,ok.frf⟩
section
variable {X:Cx} {pins:List (Addr×Obj)} {σ:St} {H:Hp} {s:Shared} {E:Value→Shared→Prop}
theorem Inv.wish (I:Inv X pins σ H s) (E:Value→Shared→Prop):Inv (X.wish E) pins σ H s:=⟨I.ok.wish E,I.os,I.bare,I.base,I.loc,I.cell,I.free,I.freeC,I.pin,I.hok,I.len⟩
theorem Inv.unwish (I:Inv (X.wish E) pins σ H s):Inv X pins σ H s:=⟨I.ok.unwish,I.os,I.bare,I.base,I.loc,I.cell,I.free,I.freeC,I.pin,I.hok,I.len⟩
theorem SP.unwish {D:Ends} {f:Flow} {s' :Shared} (h:SP (X.wish E) pins D f s'):SP X pins D f s' :=by
 cases f with
 |next=>obtain⟨σ',H',I,q⟩:=h;exact⟨σ',H',I.unwish,q⟩
 |brk=>obtain⟨σ',H',I,q⟩:=h;exact⟨σ',H',I.unwish,q⟩
 |cont=>obtain⟨σ',H',I,q⟩:=h;exact⟨σ',H',I.unwish,q⟩
 |ret u=>obtain⟨v,σ',H',I,r,q⟩:=h;exact⟨v,σ',H',I.unwish,r,q⟩
theorem PSs.nox {st:List Stmt} {t:TS} (h:PSs X.nox st t):PSs X st t:=fun pins s σ H D I hw=>
 G08 (h pins s σ H D (I.wish _) hw) (fun _ _ q=>q.unwish) fun _ _ z=>False.elim z
end
section
variable {X:Cx} {st:Stmt} {rest:List Stmt} {t u:TS} {e:Expr} {te:TE} {pos:Pos}
def jos:TS:=fun D σ H=>D.nx σ H
def jrh (t u:TS):TS:=fun D σ H=>t {D with nx:=u D} σ H
theorem pss_nil:PSs X [] jos:=fun _ _ σ H _ I h=>G3o ⟨σ,H,I,h⟩
theorem jkX (h1:PS X st t) (h2:PSs X rest u):PSs X (st::rest) (jrh t u):=by
 intro pins s σ H D I h
 refine wpAny_execs_cons (thn (h1 pins s σ H {D with nx:=u D} I h) fun f s1 q=> ?_)
 cases f with
 |next=>
  obtain⟨σ',H',I',q⟩:=q
  exact h2 pins s1 σ' H' D I' q
 |ret v=>exact q
 |brk=>exact q
 |cont=>exact q
theorem jmJ (h1:PS X st t):PSs X [st] t:=by
 intro pins s σ H D I h
 refine wpAny_execs_cons (thn (h1 pins s σ H D I h) fun f s1 q=> ?_)
 cases f with
 |next=>exact G3o q
 |ret v=>exact q
 |brk=>exact q
 |cont=>exact q
theorem Inv.quiet {pins:List (Addr×Obj)} {σ:St} {H:Hp} {s:Shared} (I:Inv X pins σ H s):interactive X.env=false:=by simp [interactive,I.ok.kind]
def jot (te:TE):TS:=fun D σ H=>te σ H fun _ H1=>D.nx σ H1
theorem jmK (he:PE X e te) (hs:swapsWith e none pos.line X.env=pure false:=by rfl):PS X (.Expr e pos) (jot te):=by
 intro pins s σ H D I h
 exact wpAny_Expr_any (thn (he pins s σ H _ I h) fun v s1 ⟨x,H1,I1,r1,q1⟩=>⟨σ,H1,I1,q1⟩) I.quiet hs
def jri (te:TE):TS:=fun D σ H=>te σ H D.rt
theorem jou (he:PE X e te):PS X (.Return (some e) pos) (jri te):=by
 intro pins s σ H D I h
 exact wpAny_Return_some (thn (he pins s σ H _ I h) fun v s1 ⟨x,H1,I1,r1,q1⟩=>⟨x,σ,H1,I1,r1,q1⟩)
def jrj (c:TT) (t u:TS):TS:=fun D σ H=>c σ H fun b H1=>if b=true then t D σ H1 else u D σ H1
theorem jqp {c:Expr} {a b:List Stmt} {tc:TT} (hc:PT X c tc) (ha:PSs X a t) (hb:PSs X b u):PS X (.If c a b pos) (jrj tc t u):=by
 intro pins s σ H D I h
 refine wpAny_If (thn (hc pins s σ H _ I h) fun d s1 ⟨H1,I1,q1⟩=> ?_)
 cases d with
 |true=>exact ha pins s1 σ H1 D I1 q1
 |false=>exact hb pins s1 σ H1 D I1 q1
end
abbrev TG:=V→St→Hp→(St→Hp→Prop)→Prop
abbrev TGs:=List V→St→Hp→(St→Hp→Prop)→Prop
def PG (X:Cx) (target:Expr) (t:TG):Prop:=
 ∀ (pins:List (Addr×Obj)) (s:Shared) (σ:St) (H:Hp) (v:V) (u:Value) (Q:St→Hp→Prop),Inv X pins σ H s→RelV v u→t v σ H Q→
  wpAny (model X.prog X.w) X.A (assign target X.env u) (fun _ s' => ∃σ' H',Inv X pins σ' H' s' ∧Q σ' H') X.xe s
def PGs (X:Cx) (ts:List Expr) (t:TGs):Prop:=
 ∀ (pins:List (Addr×Obj)) (s:Shared) (σ:St) (H:Hp) (vs:List V) (us:List Value) (Q:St→Hp→Prop),Inv X pins σ H s→Vals vs us→t vs σ H Q→
  wpAny (model X.prog X.w) X.A (assignInOrder ((assignEach ts X.env).map (·.2)) us) (fun _ s' => ∃σ' H',Inv X pins σ' H' s' ∧Q σ' H') X.xe s
abbrev jqq:=V→V→V→Hp→(Hp→Prop)→Prop
def jrk (X:Cx) (t:jqq):Prop:=
 ∀ (pins:List (Addr×Obj)) (s:Shared) (σ:St) (H:Hp) (o i v:V) (ov iv u:Value) (Q:Hp→Prop),Inv X pins σ H s→RelV o ov→RelV i iv→RelV v u→t o i v H Q→
  wpAny (model X.prog X.w) X.A (setItem ov iv u) (fun _ s' => ∃H',Inv X pins σ H' s' ∧Q H') X.xe s
abbrev TIp:=V→V→Hp→VK→Prop
def PIp (X:Cx) (op:Operator) (t:TIp):Prop:=
 ∀ (pins:List (Addr×Obj)) (s:Shared) (σ:St) (H:Hp) (x y:V) (v u:Value) (Q:VK),Inv X pins σ H s→RelV x v→RelV y u→t x y H Q→
  wpAny (model X.prog X.w) X.A (inplaceOp op v u) (EP X pins σ Q) X.xe s
section
variable {X:Cx} {pos:Pos}
def jea (i:Nat):TG:=fun v σ H Q=>Q (σ.set i (some v)) H
theorem jdN {i:Nat} {x:Str} (hN:X.N.Nodup) (hi:X.N[i]? =some x) (hx:Loc X.env.scope x) (hf:X.fn x=true∨X.env.scope.names.lookup x=some .local:=by first|exact .inl rfl|exact .inr rfl|assumption):PG X (.Name x pos) (jea i):=by
 intro pins s σ H v u Q I r h
 exact wpAny_assign_Name (jdw I hN hi hx r (fun s' I' =>⟨_,H,I',h⟩) hf)
def jqr:TGs:=fun vs σ H Q=>vs= []∧Q σ H
def jjm (t:TG) (u:TGs):TGs:=fun vs σ H Q=> ∃v r,vs=v::r∧t v σ H fun σ' H' =>u r σ' H' Q
theorem jjn:PGs X [] jqr:=by
 intro pins s σ H vs us Q I r h
 obtain⟨e,h⟩:=h
 subst e
 cases r
 exact assignInOrder_nil ⟨σ,H,I,h⟩
theorem jeh {e:Expr} {es:List Expr} {t:TG} {u:TGs} (h1:PG X e t) (h2:PGs X es u)
 (hs:(assignEach (e::es) X.env).map (·.2)=assign e X.env::(assignEach es X.env).map (·.2):=by rfl):PGs X (e::es) (jjm t u):=by
 intro pins s σ H vs us Q I r h
 obtain⟨v,vr,e1,h⟩:=h
 subst e1
 cases r with
 |cons r rr=>
  rw [hs]
  refine assignInOrder_cons (thn (h1 pins s σ H _ _ _ I r h) fun _ s1 ⟨σ1,H1,I1,q1⟩=> ?_)
  exact h2 pins s1 σ1 H1 _ _ Q I1 rr q1
def jqs (K:PySem.W.Frag) (n:Nat) (t:TGs):TG:=fun v σ H Q=> ∃a xs,v= .ref a∧SqT K H a xs∧xs.length=n∧t xs σ H Q
theorem jmb {es:List Expr} {k:Nat} {t:TGs} {n:Nat} (hc:X.calm=true) (h:PGs X es t)
 (hn:(assignEach es X.env).length=n:=by rfl) (hst:(assignEach es X.env).findIdx? (·.1)=none:=by rfl):PG X (.Tuple es k pos) (jqs X.K n t):=by
 intro pins s σ H v u Q I r hw
 obtain⟨a,xs,e1,hq,hl,hw⟩:=hw
 subst e1
 cases r
 obtain⟨its,rv,ht,hz⟩:=I.tuple hq
 refine assign_Tuple_tuple (I.ok.hd hc) ht (by simp [hn,←hl,rv.length]) hst fun h' hx=> ?_
 have I1:Inv X pins σ H {s with heap:=h'}:=I.kept (t' :=s.toks) fun b o e=>hx b o (G0R (G0n e)) e
 exact h pins _ σ H xs _ Q I1 (by simpa using rv) hw
def jrN (to ti:TE) (t:jqq):TG:=fun v σ H Q=>to σ H fun o H1=>ti σ H1 fun i H2=>t o i v H2 fun H3=>Q σ H3
theorem jov {o i:Expr} {to ti:TE} {t:jqq} (ho:PE X o to) (hi:PE X i ti) (hs:jrk X t)
 (ha: ∀v,assign (.Subscript o i pos) X.env v=(do
  let ov ←holding [v] (eval o X.env)
  let iv ←holding [v,ov] (eval i X.env)
  standAt pos
  holding [v,ov,iv] (setItem ov iv v)
  release [v,ov,iv] []):=by intro _;rfl):PG X (.Subscript o i pos) (jrN to ti t):=by
 intro pins s σ H v u Q I r h
 rw [ha]
 refine wpAny_bind (G1x (thn (ho pins s σ H _ I h) fun ov s1 ⟨x,H1,I1,r1,q1⟩=> ?_))
 refine wpAny_bind (G1x (thn (hi pins s1 σ H1 _ I1 q1) fun iv s2 ⟨y,H2,I2,r2,q2⟩=> ?_))
 refine wpAny_bind (G3O (wpAny_bind (G1x (thn (hs pins s2 σ H2 x y v ov iv u _ I2 r1 r2 r q2) fun _ s3 ⟨H3,I3,q3⟩=> ?_))))
 exact wpAny_release ⟨σ,H3,I3,q3⟩
def jmL (te:TE) (g:TG):TS:=fun D σ H=>te σ H fun x H1=>g x σ H1 D.nx
theorem jow {tg e:Expr} {te:TE} {g:TG} (he:PE X e te) (hg:PG X tg g) (hs:swapsWithSole [tg] e pos.line X.env=pure false:=by rfl) (hw:swappedStores [tg] e X.env=pure none:=by rfl)
 (h1:(assignEach [tg] X.env).map (·.2)= [assign tg X.env]:=by rfl):PS X (.Assign [tg] e pos) (jmL te g):=by
 intro pins s σ H D I h
 refine wpAny_Assign_stores (thn (he pins s σ H _ I h) fun v s1 ⟨x,H1,I1,r1,q1⟩=> ?_) hs hw
 rw [h1]
 exact thn (hg pins s1 σ H1 x v _ I1 r1 q1) fun _ s2 q=>q
theorem jox {i:Nat} {x:Str} {e:Expr} {te:TE} {pos' :Pos} (hN:X.N.Nodup) (hi:X.N[i]? =some x) (hx:Loc X.env.scope x) (he:PE X e te) (hs:swapsWith e (some (.Name x pos')) pos.line X.env=pure false:=by rfl) (hf:X.fn x=true∨X.env.scope.names.lookup x=some .local:=by first|exact .inl rfl|exact .inr rfl|assumption):
 PS X (.Assign [.Name x pos'] e pos) (jmL te (jea i)):=by
 intro pins s σ H D I h
 refine wpAny_Assign_Name (thn (he pins s σ H _ I h) fun v s1 ⟨y,H1,I1,r1,q1⟩=> ?_) hs
 exact jdw I1 hN hi hx r1 (fun s2 I2=>⟨_,H1,I2,q1⟩) hf
def jrl (i j:Nat) (ta:TA):TS:=fun D σ H=>ta σ H fun vs H1=> ∃v w,vs= [v,w]∧D.nx ((σ.set i (some v)).set j (some w)) H1
theorem joy {i j:Nat} {x y:Str} {a b:Expr} {ta:TA} {px py pt:Pos} {kt k2 pt2} (hc:X.calm=true) (hN:X.N.Nodup) (hi:X.N[i]? =some x) (hj:X.N[j]? =some y) (hij:i≠j)
 (hx:X.env.scope.names.lookup x=some .local) (hy:X.env.scope.names.lookup y=some .local) (ha:PA X [a,b] ta)
 (hw:swappedStores [.Tuple [.Name x px,.Name y py] kt pt] (.Tuple [a,b] k2 pt2) X.env=pure (some [x,y]))
 (hs:swapsWithSole [.Tuple [.Name x px,.Name y py] kt pt] (.Tuple [a,b] k2 pt2) pos.line X.env=pure false:=by rfl):
 PS X (.Assign [.Tuple [.Name x px,.Name y py] kt pt] (.Tuple [a,b] k2 pt2) pos) (jrl i j ta):=by
 intro pins s σ H D I h
 rw [exec_Assign_arm]
 refine wpAny_bind (G3O ?_)
 rw [hs]
 refine wpAny_bind (G0d ?_)
 rw [if_neg (by decide)]
 refine wpAny_bind (Tuple_ (thn (ha _ pins s σ H _ I h) fun us s1 ⟨vs,H1,I1,r1,q1⟩=> ?_))
 obtain⟨v,w,e1,q1⟩:=q1
 subst e1
 obtain⟨u1,u2,rfl,rv,rw'⟩: ∃u1 u2,us= [u1,u2]∧RelV v u1∧RelV w u2:=by
  cases r1 with
  |cons p q=>
   cases q with
   |cons p' q' =>
    cases q'
    exact⟨_,_,rfl,p,p'⟩
 refine G2h ?_ (by show 2≤sizeLine;decide)
 have I2:Inv X pins σ H1 {s1 with heap:=s1.heap.push {cls:= .type "tuple",data:= .seq [u1,u2].toArray}}:=I1.kept (t' :=s1.toks) fun b o e=>G0a _ e
 rw [hw]
 refine wpAny_bind (G0d ?_)
 show wpAny (model X.prog X.w) X.A (do rule "assign.swapped-stores";let items ←unpackItems (.ref s1.heap.objs.size) 2 none;assignInOrder [fun v=>bindName X.env y v,fun v=>bindName X.env x v] items.reverse;pure Flow.next) _ _ _
 refine wpAny_bind (G3F (wpAny_bind (unpackItems_tuple (items:= #[u1,u2]) (I.ok.hd hc) (IsTup.new s1.heap _) fun h' hx' => ?_)))
 have I3:=I2.kept (h' :=h') (t' :=s1.toks) fun b o e=>hx' b o (G0R (G0n e)) e
 show wpAny _ _ (assignInOrder [fun v=>bindName X.env y v,fun v=>bindName X.env x v] [u2,u1] >>= fun _=>pure Flow.next) _ _ _
 refine wpAny_bind (assignInOrder_cons (wpAny_bindName (jdw I3 hN hj (.inl hy) rw' (fun s2 I4=> ?_) (.inr hy))))
 refine assignInOrder_cons (wpAny_bindName (jdw I4 hN hi (.inl hx) rv (fun s3 I5=>assignInOrder_nil (G0d ?_)) (.inr hx)))
 rw [List.set_comm _ _ (Ne.symm hij)] at I5
 exact⟨_,H1,I5,q1⟩
def jqt (i:Nat) (te:TE) (ti:TIp):TS:=fun D σ H=> ∃x,σ[i]? =some (some x)∧te σ H fun y H1=>ti x y H1 fun z H2=>D.nx (σ.set i (some z)) H2
theorem jjo {i:Nat} {x:Str} {e:Expr} {te:TE} {op:Operator} {ti:TIp} {pos' :Pos} (hN:X.N.Nodup) (hi:X.N[i]? =some x) (hx:Loc X.env.scope x) (he:PE X e te) (ho:PIp X op ti) (hf:X.fn x=true∨X.env.scope.names.lookup x=some .local:=by first|exact .inl rfl|exact .inr rfl|assumption):
 PS X (.AugAssign (.Name x pos') op e pos) (jqt i te ti):=by
 intro pins s σ H D I h
 obtain⟨v,e1,h⟩:=h
 obtain⟨m,hn,hl⟩:=I.loc
 have vis:Vis X.env.scope x:=by rcases hx with k|k;exact .inl k;exact .inr (.inl k)
 obtain⟨u,r,l⟩:=hl i x v hi e1 vis
 refine wpAny_AugAssign_Name ?_
 have go:wpAny (model X.prog X.w) X.A (eval e X.env) (fun w s₂=>wpAny (model X.prog X.w) X.A (inplaceOp op u w) (fun r s₃=>wpAny (model X.prog X.w) X.A (storeName X.env x r) (fun _=>SP X pins D .next) X.xe s₃) X.xe s₂) X.xe s:=by
  refine thn (he pins s σ H _ I h) fun w s1 ⟨y,H1,I1,r1,q1⟩=> ?_
  refine thn (ho pins s1 σ H1 v y u w _ I1 r r1 q1) fun z s2 ⟨zv,H2,I2,r2,q2⟩=> ?_
  exact jdw I2 hN hi hx r2 (fun s3 I3=>⟨_,H2,I3,q2⟩) hf
 rcases l with ⟨hk,hm⟩|⟨hk,c,hc,hcell⟩
 ·exact wpAny_loadName_local I.ok.kind hk hn hm go
 ·rcases hk with hk|hk
  ·exact wpAny_loadName_cell I.ok.kind hk hc hcell go
  ·rcases hx with k|k
   ·have:X.env.scope.names.lookup x=some .free:=hk
    rw [k] at this;cases this
   ·have:X.env.scope.names.lookup x=some .free:=hk
    rw [k] at this;cases this
def ipI (f:Int→Int→Int):TIp:=fun x y H Q=> ∃i j,x= .int i∧y= .int j∧Q (.int (f i j)) H
theorem joz:PIp X .Add (ipI fun i j=>i+j):=by
 intro pins s σ H x y v u Q I r1 r2 h
 obtain⟨i,j,e1,e2,q⟩:=h
 subst e1;subst e2
 obtain⟨t,rfl⟩:=r1
 obtain⟨t',rfl⟩:=r2
 exact iadd_int ⟨.int _,H,I.tok _,⟨_,rfl⟩,q⟩
theorem joA:PIp X .Sub (ipI fun i j=>i-j):=by
 intro pins s σ H x y v u Q I r1 r2 h
 obtain⟨i,j,e1,e2,q⟩:=h
 subst e1;subst e2
 obtain⟨t,rfl⟩:=r1
 obtain⟨t',rfl⟩:=r2
 exact isub_int ⟨.int _,H,I.tok _,⟨_,rfl⟩,q⟩
def jmc (c:TT) (tb:TS):TS:=fun D σ H=> ∃W:Nat→St→Hp→Prop,(∃m,W m σ H)∧ ∀m σ H,W m σ H→
 c σ H fun b H1=>if b=true then ∃N:St→Hp→Prop,(∀σ' H',N σ' H' → ∃m',m' <m∧W m' σ' H')∧tb {D with nx:=N,ct:=N,bk:=D.nx} σ H1 else D.nx σ H1
theorem jkY {c:Expr} {body:List Stmt} {tc:TT} {tb:TS} (hp:PassesOwn (model X.prog X.w) X.A X.env X.xe) (hc:PT X c tc) (hb:PSs X body tb):PS X (.While c body [] pos) (jmc tc tb):=by
 intro pins s σ H D I h
 obtain⟨W,⟨m0,w0⟩,turn⟩:=h
 refine wpAny_While (codeAny_whileLoop (fun n s' => ∃σ' H',Inv X pins σ' H' s' ∧W n σ' H') ?_ m0 ⟨σ,H,I,w0⟩)
 rintro n s1 ⟨σ1,H1,I1,w1⟩
 refine G2i hp (thn (hc pins s1 σ1 H1 _ I1 (turn n σ1 H1 w1)) fun b s2 ⟨H2,I2,q2⟩=> ?_)
 cases b with
 |true=>
  obtain⟨N,hN,q2⟩:=q2
  rw [if_pos rfl]
  refine G2i hp (thn (hb pins s2 σ1 H2 _ I2 q2) fun f s3 q3=> ?_)
  cases f with
  |next=>
   obtain⟨σ3,H3,I3,n3⟩:=q3
   obtain⟨m',hm,w3⟩:=hN σ3 H3 n3
   exact⟨m',hm,σ3,H3,I3,w3⟩
  |cont=>
   obtain⟨σ3,H3,I3,n3⟩:=q3
   obtain⟨m',hm,w3⟩:=hN σ3 H3 n3
   exact⟨m',hm,σ3,H3,I3,w3⟩
  |brk=>exact q3
  |ret v=>exact q3
 |false=>
  rw [if_neg G0t]
  exact G3o ⟨σ1,H2,I2,q2⟩
end
structure It where
 go:Nat→Hp→Prop
 yld:Nat→Hp→V→Hp→Prop
 stop:Nat→Hp→Prop
def jjp (X:Cx) (pins:List (Addr×Obj)) (H:Hp) (b:Addr):Prop:=
 H b=none∧b≠X.env.locals∧b ∉ X.fs∧(b∈X.ex∨X.s₀.heap.objs.size≤b)∧(∀x c,X.env.cells.lookup x=some c→c≠b)∧ ∀p∈X.pn++pins,p.1≠b
theorem Inv.fpOk {X:Cx} {pins:List (Addr×Obj)} {σ:St} {H H' :Hp} {s:Shared} {b:Addr} (I:Inv X pins σ H s) (hb:s.heap.objs.size≤b) (hn:H' b=none):jjp X pins H' b:=by
 refine⟨hn,G2B (G0W I.lt hb),I.nofs hb,.inr (G01 I.sz hb),fun x c e z=> ?_,fun p hp z=> ?_⟩
 ·obtain⟨v,q⟩:=I.cell x c e
  exact absurd (G0W q.lt (by rw [z];exact hb)) (G02 _)
 ·exact absurd (G0W (G0n (I.pin p hp).1) (by rw [z];exact hb)) (G02 _)
structure Turn (P:Program) (w:World) (K:PySem.W.Frag) (tg:Expr) (J:It) (fp:List Addr) (it:Addr) (tn:Nat→Heap→Prop):Prop where
 mem:it∈fp
 obj: ∀i h,tn i h→ ∀b∈fp,∃o,h.get? b=some o∧ ∀v,o.data≠ .cell v
 keep: ∀i h h',tn i h→(∀b∈fp,∀o,h.get? b=some o→h'.get? b=some o)→tn i h'
 item: ∀ (X:Cx),X.prog=P→X.w=w→X.K=K→X.calm=true→ ∀ (i:Nat) (pins:List (Addr×Obj)) (s:Shared) (σ:St) (H:Hp) (E:Value→Shared→Prop),Inv X pins σ H s→(∀b∈fp,jjp X pins H b)→tn i s.heap→J.go i H→
  wpAny (model P w) X.A (pyNext (.ref it)) (fun r s1=> ∃u,r=some u∧
   wpAny (model P w) X.A (letOwnedTupleGo tg (.ref it) u) (fun _ s2=> ∃x H',Inv X pins σ H' s2∧RelV x u∧J.yld i H x H' ∧tn (i+1) s2.heap∧ ∀b∈fp,H' b=none) E s1) E s
 done: ∀ (X:Cx),X.prog=P→X.w=w→X.K=K→X.calm=true→ ∀ (i:Nat) (pins:List (Addr×Obj)) (s:Shared) (σ:St) (H:Hp) (E:Value→Shared→Prop),Inv X pins σ H s→(∀b∈fp,jjp X pins H b)→tn i s.heap→J.stop i H→
  wpAny (model P w) X.A (pyNext (.ref it)) (fun r s1=>r=none∧Inv X pins σ H s1) E s
 self: ∀ (A:Around) (i:Nat) (s:Shared) (Q:Value→Shared→Prop) (E:Value→Shared→Prop),tn i s.heap→Q (.ref it) s→wpAny (model P w) A (pyIter (.ref it)) Q E s
abbrev TI:=St→Hp→(It→Hp→Prop)→Prop
def PIE (X:Cx) (pins:List (Addr×Obj)) (σ:St) (tg:Expr) (R:It→Hp→Prop) (itv:Value) (s2:Shared):Prop:=
 ∃ (it:Addr) (fp:List Addr) (tn:Nat→Heap→Prop) (J:It) (H' :Hp),itv= .ref it∧Inv X pins σ H' s2∧Turn X.prog X.w X.K tg J fp it tn∧tn 0 s2.heap∧(∀b∈fp,jjp X pins H' b)∧R J H'
def PI (X:Cx) (tg iter:Expr) (wi:TI):Prop:=
 ∀ (pins:List (Addr×Obj)) (s:Shared) (σ:St) (H:Hp) (R:It→Hp→Prop),Inv X pins σ H s→wi σ H R→
  wpAny (model X.prog X.w) X.A (eval iter X.env) (fun v s1=>wpAny (model X.prog X.w) X.A (pyIter v) (PIE X pins σ tg R) X.xe s1) X.xe s
theorem jkZ {M : Model} {A : Around} {E : Value → Shared → Prop} {s : Shared} {tg : Expr} {it : Addr} {u : Value} {o : Obj} {n : String} {vs : Array Value} {Q : Unit → Shared → Prop} (ho : s.heap.get? it = some o) (hc : o.cls = .type n) (hd : o.data = .fields vs)
    (hn : ["enumerate", "zip", "dict_itemiterator", "dict_reverseitemiterator", "odict_iterator", "itertools.zip_longest", "itertools.pairwise"].contains n = false) (hQ : Q () s) : wpAny M A (letOwnedTupleGo tg (.ref it) u) Q E s := by
  unfold letOwnedTupleGo
  cases tg <;> first
    | exact G0d hQ
    | (cases u <;> first
        | exact G0d hQ
        | (refine wpAny_bind (wpAny_load ho ?_)
           rw [hc, hd]
           show wpAny M A (if (["enumerate", "zip", "dict_itemiterator", "dict_reverseitemiterator", "odict_iterator", "itertools.zip_longest", "itertools.pairwise"].contains n && vs[0]? == some (rawInt _)) = true then _ else _) Q E s
           rw [if_neg (by intro h; rw [hn, G4f] at h; cases h)]
           exact G0d hQ))
def Itl (K:PySem.W.Frag) (a:Addr):It:=
 ⟨fun i H=> ∃xs x,SqL K H a xs∧xs[i]? =some x,fun i H x H' =>H' =H∧ ∀xs,SqL K H a xs→xs[i]? =some x,fun i H=> ∃xs,SqL K H a xs∧xs.length≤i⟩
def Itt (K:PySem.W.Frag) (a:Addr):It:=
 ⟨fun i H=> ∃xs x,SqT K H a xs∧xs[i]? =some x,fun i H x H' =>H' =H∧ ∀xs,SqT K H a xs→xs[i]? =some x,fun i H=> ∃xs,SqT K H a xs∧xs.length≤i⟩
def Itr (lo:Int) (n:Nat):It:=⟨fun i _=>i<n,fun i H x H' =>H' =H∧x= .int (lo+i),fun i _=>n≤i⟩
theorem jgD {P:Program} {w:World} {K:PySem.W.Frag} {tg:Expr} (a it:Addr):Turn P w K tg (Itl K a) [it] it (fun i h=>h.IsListIter it a i) where
 mem:=by simp
 obj:=fun i h st b hb=>by
  have e:b=it:=by simpa using hb
  subst e
  obtain⟨o,e,c,d⟩:=st
  exact⟨o,e,fun v z=>by rw [d] at z;cases z⟩
 keep:=fun i h h' st k=>st.at fun o e=>k it (by simp) o e
 item:=by
  intro X hP hw hK hc i pins s σ H E I hf st hg
  subst hP hw hK
  obtain⟨xs,x,hq,hx⟩:=hg
  obtain⟨its,rv,p,hz⟩:=I.list hq
  obtain⟨u,hu,ru⟩:=rv.get hx
  obtain⟨f0,f1,f2,f3,f4,f5⟩:=hf it (by simp)
  refine wpAny_pyNext_list_item st p.isList (x:=u) (by simpa using hu) fun h' st' sb=> ?_
  have I1:Inv X pins σ H {s with heap:=h'}:=I.turned (t' :=s.toks) (fun b o hb e=>(sb.2 b hb).trans e) f0 f1 f3 f4 f5
  obtain⟨o,e,c,d⟩:=id st'
  exact⟨u,rfl,jkZ (s:= {s with heap:=h'}) e c d (by decide) ⟨x,H,I1,ru,⟨rfl,fun ys hy=>by rw [I.list_inj hy hq];exact hx⟩,st',fun b hb=>(hf b hb).1⟩⟩
 done:=by
  intro X hP hw hK hc i pins s σ H E I hf st hg
  subst hP hw hK
  obtain⟨xs,hq,hx⟩:=hg
  obtain⟨its,rv,p,hz⟩:=I.list hq
  obtain⟨f0,f1,f2,f3,f4,f5⟩:=hf it (by simp)
  have hl:=rv.length
  exact wpAny_pyNext_list_end (I.ok.hd hc) st p.isList (by simp;omega) fun h' eb=>⟨rfl,I.turned (t' :=s.toks) (fun b o hb e=>eb b o hb e) f0 f1 f3 f4 f5⟩
 self:=fun _ _ _ _ _ st h=>wpAny_pyIter_listiter st h
theorem jiL {P:Program} {w:World} {K:PySem.W.Frag} {tg:Expr} (a it:Addr):Turn P w K tg (Itt K a) [it] it (fun i h=>h.IsTupleIter it a i) where
 mem:=by simp
 obj:=fun i h st b hb=>by
  have e:b=it:=by simpa using hb
  subst e
  obtain⟨o,e,c,d⟩:=st
  exact⟨o,e,fun v z=>by rw [d] at z;cases z⟩
 keep:=fun i h h' st k=>st.at fun o e=>k it (by simp) o e
 item:=by
  intro X hP hw hK hc i pins s σ H E I hf st hg
  subst hP hw hK
  obtain⟨xs,x,hq,hx⟩:=hg
  obtain⟨its,rv,p,hz⟩:=I.tuple hq
  obtain⟨u,hu,ru⟩:=rv.get hx
  obtain⟨f0,f1,f2,f3,f4,f5⟩:=hf it (by simp)
  refine wpAny_pyNext_tuple_item st (show s.heap.IsTuple a its.toArray from p) (x:=u) (by simpa using hu) fun h' st' sb=> ?_
  have I1:Inv X pins σ H {s with heap:=h'}:=I.turned (t' :=s.toks) (fun b o hb e=>(sb.2 b hb).trans e) f0 f1 f3 f4 f5
  obtain⟨o,e,c,d⟩:=id st'
  exact⟨u,rfl,jkZ (s:= {s with heap:=h'}) e c d (by decide) ⟨x,H,I1,ru,⟨rfl,fun ys hy=>by rw [I.tuple_inj hy hq];exact hx⟩,st',fun b hb=>(hf b hb).1⟩⟩
 done:=by
  intro X hP hw hK hc i pins s σ H E I hf st hg
  subst hP hw hK
  obtain⟨xs,hq,hx⟩:=hg
  obtain⟨its,rv,p,hz⟩:=I.tuple hq
  obtain⟨f0,f1,f2,f3,f4,f5⟩:=hf it (by simp)
  have hl:=rv.length
  exact wpAny_pyNext_tuple_end (I.ok.hd hc) st (show s.heap.IsTuple a its.toArray from p) (by simp;omega) fun h' eb=>⟨rfl,I.turned (t' :=s.toks) (fun b o hb e=>eb b o hb e) f0 f1 f3 f4 f5⟩
 self:=fun _ _ _ _ _ st h=>wpAny_pyIter_tupleiter st h
theorem jiM {P:Program} {w:World} {K:PySem.W.Frag} {tg:Expr} (it:Addr) (lo:Int) (n:Nat):Turn P w K tg (Itr lo n) [it] it (fun i h=>IsRangeIter h it (lo+(i:Nat)*1) ((n:Int)-(i:Nat)) 1) where
 mem:=by simp
 obj:=fun i h st b hb=>by
  have e:b=it:=by simpa using hb
  subst e
  exact⟨_,st,fun v z=>by
   have z' :Data.fields _=Data.cell v:=z
   cases z'⟩
 keep:=fun i h h' st k=>k it (by simp) _ st
 item:=by
  intro X hP hw hK hc i pins s σ H E I hf st hg
  subst hP hw hK
  obtain⟨f0,f1,f2,f3,f4,f5⟩:=hf it (by simp)
  have W:=Walks.range (prog:=X.prog) (w:=X.w) (I.ok.hd hc) it lo 1 n
  refine W.item i s _ _ hg st fun v h' tk hv st' kk=> ?_
  obtain⟨t,rfl⟩:=hv
  have I1:Inv X pins σ H {s with heap:=h',toks:=tk}:=I.turned (fun b o hb e=>kk b o (by simpa using hb) e) f0 f1 f3 f4 f5
  refine⟨_,rfl,jkZ (s:= {s with heap:=h',toks:=tk}) (n:= "range_iterator") st' rfl rfl (by decide) ⟨.int (lo+i),H,I1,⟨t,?_⟩,⟨rfl,rfl⟩,st',fun b hb=>(hf b hb).1⟩⟩
  rw [Int.mul_one]
 done:=by
  intro X hP hw hK hc i pins s σ H E I hf st hg
  subst hP hw hK
  obtain⟨f0,f1,f2,f3,f4,f5⟩:=hf it (by simp)
  exact wpAny_pyNext_range_end (I.ok.hd hc) st (by have:n≤i:=hg;omega) fun h' eb=>⟨rfl,I.turned (t' :=s.toks) (fun b o hb e=>eb b o hb e) f0 f1 f3 f4 f5⟩
 self:=fun _ _ _ _ _ st h=>wpAny_pyIter_rangeiter st h
section
variable {X:Cx} {tg:Expr}
def joB (K:PySem.W.Frag) (tl:TE):TI:=fun σ H R=>tl σ H fun x H1=> ∃a,x= .ref a∧(∃xs,SqL K H1 a xs)∧R (Itl K a) H1
theorem jmM {l:Expr} {tl:TE} (hl:PE X l tl):PI X tg l (joB X.K tl):=by
 intro pins s σ H R I h
 refine thn (hl pins s σ H _ I h) fun v s1 ⟨x,H1,I1,r1,q1⟩=> ?_
 obtain⟨a,e,⟨xs,hq⟩,q⟩:=q1
 subst e
 cases r1
 obtain⟨its,rv,p,hz⟩:=I1.list hq
 refine G2j p.isList ?_
 refine⟨s1.heap.objs.size,[s1.heap.objs.size],_,_,H1,rfl,I1.kept (t' :=s1.toks) fun b o e=>G0a _ e,jgD a _,⟨_,G0q _ rfl,rfl,rfl⟩,fun b hb=> ?_,q⟩
 have e:b=s1.heap.objs.size:=by simpa using hb
 subst e
 exact I1.fpOk (G0f _) (I1.hok.fresh (G0f _))
theorem jk0 {pins:List (Addr×Obj)} {σ:St} {H:Hp} {s:Shared} {R:It→Hp→Prop} {E:Value→Shared→Prop} {lo hi:Int} {t u v:Tok} {tk:Nat} (I:Inv X pins σ H s) (h1: -(2^62)≤lo) (h2:lo<2^62) (h3: -(2^62)≤hi) (h4:hi<2^62)
 (q:R (Itr lo (hi-lo).toNat) H):wpAny (model X.prog X.w) X.A (pyIter (.ref s.heap.objs.size)) (PIE X pins σ tg R) E {s with heap:=s.heap.push {cls:= .type "range",data:= .fields #[.int lo t,.int hi u,.int 1 v]},toks:=tk}:=by
 refine wpAny_pyIter_range (IsRange.new ..) (small_one h1 h2 h3 h4) ?_
 have I1:Inv X pins σ H {s with heap:=s.heap.push {cls:= .type "range",data:= .fields #[.int lo t,.int hi u,.int 1 v]},toks:=tk}:=I.kept fun b o e=>G0a _ e
 refine⟨(s.heap.push {cls:= .type "range",data:= .fields #[.int lo t,.int hi u,.int 1 v]}).objs.size,[(s.heap.push {cls:= .type "range",data:= .fields #[.int lo t,.int hi u,.int 1 v]}).objs.size],_,_,H,rfl,
  I1.kept (t' :=tk) fun b o e=>G0a _ e,jiM _ lo (hi-lo).toNat,?_,fun b hb=> ?_,q⟩
 ·have e1:lo+((0:Nat):Int)*1=lo:=by simp
  have e2:(((hi-lo).toNat:Nat):Int)-((0:Nat):Int)=Builtin.Range.rangeSize lo hi 1:=by rw [rangeSize_one];split<;>omega
  show IsRangeIter _ _ (lo+((0:Nat):Int)*1) ((((hi-lo).toNat:Nat):Int)-((0:Nat):Int)) 1
  rw [e1,e2]
  exact G0q _ rfl
 ·have e:b=(s.heap.push {cls:= .type "range",data:= .fields #[.int lo t,.int hi u,.int 1 v]}).objs.size:=by simpa using hb
  subst e
  exact I1.fpOk (G0f _) (I1.hok.fresh (G0f _))
def joC (ta:TA):TI:=fun σ H R=>ta σ H fun vs H1=> ∃j:Int,vs= [.int j]∧ -(2^62)≤j∧j<2^62∧R (Itr 0 j.toNat) H1
theorem jjq {a:Expr} {ta:TA} {p pos:Pos} (hg:Gl X "range") (hm:X.mg "range" =none) (ha:PA X [a] ta) (hs:starEach [a] X.env= [(false,eval a X.env)]:=by rfl):PI X tg (.Call (.Name "range" p) [a] [] pos) (joC ta):=by
 intro pins s σ H R I h
 refine Call_ (jd4 I hg hm boot_range (G1z (thn (ha pos pins s σ H _ I h) fun us s1 ⟨vs,H1,I1,r1,q1⟩=> ?_) hs rfl))
 obtain⟨j,e,q1,q2,q⟩:=q1
 subst e
 cases r1 with
 |cons r rr=>
  cases rr
  obtain⟨t,rfl⟩:=r
  exact call_range_1 (jk0 I1 (by omega) (by omega) q1 q2 (by simpa using q))
def jrm (wi:TI) (g:TG) (tb:TS):TS:=fun D σ H=>wi σ H fun J H1=> ∃W:Nat→Nat→St→Hp→Prop,(∃m,W 0 m σ H1)∧ ∀i m σ H,W i m σ H→
 (J.stop i H∧D.nx σ H)∨(J.go i H∧ ∃N:St→Hp→Prop,(∀σ' H',N σ' H' → ∃m',m' <m∧W (i+1) m' σ' H')∧ ∀x H',J.yld i H x H' →g x σ H' fun σ2 H2=>tb {D with nx:=N,ct:=N,bk:=D.nx} σ2 H2)
def jem (fp:List Addr) (h:Heap):List (Addr×Obj):=fp.filterMap fun b=>(h.get? b).map fun o=>(b,o)
theorem jcY {fp:List Addr} {h:Heap} {b:Addr} {o:Obj} (hb:b∈fp) (e:h.get? b=some o):(b,o)∈jem fp h:=G2x.mpr ⟨b,hb,by rw [e];rfl⟩
theorem jgE {fp:List Addr} {h:Heap} {p:Addr×Obj} (hp:p∈jem fp h):p.1∈fp∧h.get? p.1=some p.2:=by
 obtain⟨b,hb,e⟩:=G2x.mp hp
 cases q:h.get? b with
 |none=>rw [q] at e;cases e
 |some o=>
  rw [q] at e
  have e' :(b,o)=p:=G1a e
  subst e'
  exact⟨hb,q⟩
theorem Inv.pinned {pins:List (Addr×Obj)} {σ:St} {H:Hp} {s:Shared} {fp:List Addr} (I:Inv X pins σ H s) (hf: ∀b∈fp,jjp X pins H b) (ho: ∀b∈fp,∃o,s.heap.get? b=some o∧ ∀v,o.data≠ .cell v):Inv X (pins++jem fp s.heap) σ H s:=
 I.pins_of fun p hp=>(G0z.mp hp).elim (fun z=>I.pin p (G0E _ z)) fun z=>by
  obtain⟨hb,e⟩:=jgE z
  obtain⟨f0,f1,f2,_⟩:=hf p.1 hb
  obtain⟨o,e',d⟩:=ho p.1 hb
  rw [e] at e';cases e'
  exact⟨e,f0,f1,f2,d⟩
theorem Inv.unpinned {pins pl:List (Addr×Obj)} {σ:St} {H:Hp} {s:Shared} (I:Inv X (pins++pl) σ H s):Inv X pins σ H s:=I.pins_of fun p hp=>I.pin p (G0E _ (G1L _ hp))
theorem joD {iter:Expr} {body:List Stmt} {wi:TI} {g:TG} {tb:TS} {pos:Pos} (hp:PassesOwn (model X.prog X.w) X.A X.env X.xe) (hc:X.calm=true) (hi:PI X tg iter wi) (hg:PG X tg g) (hb:PSs X body tb)
 (hs: ∀x,foldedSetIterable iter X.env x=pure x:=by intro _;rfl):PS X (.For tg iter body [] pos) (jrm wi g tb):=by
 intro pins s σ H D I h
 refine wpAny_For (thn (hi pins s σ H _ I h) fun v s1 h1=>thn h1 fun itv s2 h2=> ?_) hs
 obtain⟨it,fp,tn,J,H2,e,I2,T,st2,f2,W,⟨m0,w0⟩,turn⟩:=h2
 subst e
 -- what stays true of the iterator's objects through the loop
 have stat: ∀ {H' :Hp},(∀b∈fp,H' b=none)→ ∀b∈fp,jjp X pins H' b:=fun hn b hb=>⟨hn b hb,(f2 b hb).2⟩
 refine codeAny_forLoop_any (fun n s' => ∃i σ' H',Inv X pins σ' H' s' ∧tn i s'.heap∧(∀b∈fp,H' b=none)∧W i n σ' H') ?_ m0 ⟨0,σ,H2,I2,st2,fun b hb=>(f2 b hb).1,w0⟩
 rintro n s3 ⟨i,σ3,H3,I3,st3,fr3,w3⟩
 rcases turn i n σ3 H3 w3 with ⟨stop,qn⟩|⟨go,N,hN,step⟩
 ·refine G2i hp (thn (T.done X rfl rfl rfl hc i pins s3 σ3 H3 X.xe I3 (stat fr3) st3 stop) fun r s4 ⟨hr,I4⟩=> ?_)
  subst hr
  exact G3o ⟨σ3,H3,I4,qn⟩
 ·refine G2i hp (thn (T.item X rfl rfl rfl hc i pins s3 σ3 H3 X.xe I3 (stat fr3) st3 go) fun r s4 ⟨u,hr,h4⟩=> ?_)
  subst hr
  refine G2i hp (thn h4 fun _ s5 ⟨x,H5,I5,r5,y5,st5,fr5⟩=> ?_)
  have I5' :=I5.pinned (stat fr5) (T.obj _ _ st5)
  refine G2i hp (thn (hg _ s5 σ3 H5 x u _ I5' r5 (step x H5 y5)) fun _ s6 ⟨σ6,H6,I6,q6⟩=> ?_)
  refine G2i hp (thn (hb _ s6 σ6 H6 _ I6 q6) fun f s7 q7=> ?_)
  have again: ∀ {σ7:St} {H7:Hp},Inv X (pins++jem fp s5.heap) σ7 H7 s7→N σ7 H7→ ∃m,m<n∧ ∃i σ' H',Inv X pins σ' H' s7∧tn i s7.heap∧(∀b∈fp,H' b=none)∧W i m σ' H' :=fun {σ7 H7} I7 n7=>by
   obtain⟨m',hm,w7⟩:=hN σ7 H7 n7
   refine⟨m',hm,i+1,σ7,H7,I7.unpinned,T.keep _ _ _ st5 fun b hb o e=>(I7.pin (b,o) (G0E _ (G0E _ (jcY hb e)))).1,fun b hb=> ?_,w7⟩
   obtain⟨o,e,d⟩:=T.obj _ _ st5 b hb
   exact(I7.pin (b,o) (G0E _ (G0E _ (jcY hb e)))).2.1
  cases f with
  |next=>obtain⟨σ7,H7,I7,n7⟩:=q7;exact again I7 n7
  |cont=>obtain⟨σ7,H7,I7,n7⟩:=q7;exact again I7 n7
  |brk=>obtain⟨σ7,H7,I7,q7⟩:=q7;exact⟨σ7,H7,I7.unpinned,q7⟩
  |ret v=>obtain⟨x7,σ7,H7,I7,r7,q7⟩:=q7;exact⟨x7,σ7,H7,I7.unpinned,r7,q7⟩
end
abbrev R2:=V→V→Hp→VK→Prop
def OpR (X:Cx) (f:Value→Value→Sem Value) (r:R2):Prop:=
 ∀ (pins:List (Addr×Obj)) (s:Shared) (σ:St) (H:Hp) (x y:V) (v u:Value) (Q:VK),Inv X pins σ H s→RelV x v→RelV y u→r x y H Q→
  wpAny (model X.prog X.w) X.A (f v u) (EP X pins σ Q) X.xe s
def UnR (X:Cx) (f:Value→Sem Value) (r:V→Hp→VK→Prop):Prop:=
 ∀ (pins:List (Addr×Obj)) (s:Shared) (σ:St) (H:Hp) (x:V) (v:Value) (Q:VK),Inv X pins σ H s→RelV x v→r x H Q→
  wpAny (model X.prog X.w) X.A (f v) (EP X pins σ Q) X.xe s
def CallR (X:Cx) (f:Value) (r:List V→Hp→VK→Prop):Prop:=
 ∀ (pins:List (Addr×Obj)) (s:Shared) (σ:St) (H:Hp) (xs:List V) (us:List Value) (Q:VK),Inv X pins σ H s→Vals xs us→r xs H Q→
  wpAny (model X.prog X.w) X.A (call f us) (EP X pins σ Q) X.xe s
def tOp (r:R2) (ta tb:TE):TE:=fun σ H Q=>ta σ H fun x H1=>tb σ H1 fun y H2=>r x y H2 Q
def tUn (r:V→Hp→VK→Prop) (ta:TE):TE:=fun σ H Q=>ta σ H fun x H1=>r x H1 Q
def rI (C:Int→Int→Prop) (g:Int→Int→V):R2:=fun x y H Q=> ∃i j,x= .int i∧y= .int j∧C i j∧Q (g i j) H
def rI0 (g:Int→Int→V):R2:=fun x y H Q=> ∃i j,x= .int i∧y= .int j∧Q (g i j) H
def rU (g:Int→V):V→Hp→VK→Prop:=fun x H Q=> ∃i,x= .int i∧Q (g i) H
section
variable {X:Cx} {a b c:Expr} {ta tb tc:TE} {pos:Pos}
theorem jqu (ha:PE X a ta) (hb:PE X b tb) {pins:List (Addr×Obj)} {s:Shared} {σ:St} {H:Hp} {R:V→V→Hp→Prop} (I:Inv X pins σ H s)
 (h:ta σ H fun x H1=>tb σ H1 fun y H2=>R x y H2) {Q:Value→Shared→Prop} {f:Value→Value→Sem Value}
 (hf: ∀v u s2 x y H2,Inv X pins σ H2 s2→RelV x v→RelV y u→R x y H2→wpAny (model X.prog X.w) X.A (f v u) Q X.xe s2):
 wpAny (model X.prog X.w) X.A (eval a X.env) (fun v s₁=>wpAny (model X.prog X.w) X.A (eval b X.env) (fun u s₂=>wpAny (model X.prog X.w) X.A (f v u) Q X.xe s₂) X.xe s₁) X.xe s:=by
 refine thn (ha pins s σ H _ I h) fun v s1 ⟨x,H1,I1,r1,q1⟩=> ?_
 refine thn (hb pins s1 σ H1 _ I1 q1) fun u s2 ⟨y,H2,I2,r2,q2⟩=> ?_
 exact hf v u s2 x y H2 I2 r1 r2 q2
theorem jqv {op:Operator} {r:R2} (ho:OpR X (binaryOp op) r) (ha:PE X a ta) (hb:PE X b tb):PE X (.BinOp a op b pos) (tOp r ta tb):=by
 intro pins s σ H Q I h
 exact wpAny_BinOp (jqu ha hb I h fun v u s2 x y H2 I2 rx ry q=>ho pins s2 σ H2 x y v u Q I2 rx ry q)
theorem jqw {op:UnaryOp} {r:V→Hp→VK→Prop} (ho:UnR X (unaryOp op) r) (ha:PE X a ta):PE X (.UnaryOp op a pos) (tUn r ta):=by
 intro pins s σ H Q I h
 exact UnaryOp_ (thn (ha pins s σ H _ I h) fun v s1 ⟨x,H1,I1,r1,q1⟩=>ho pins s1 σ H1 x v Q I1 r1 q1)
theorem opI {f:Value→Value→Sem Value} {C:Int→Int→Prop} {g:Int→Int→Int}
 (rule: ∀ (i j:Int) (t u:Tok) (s:Shared) (Q:Value→Shared→Prop) (E:Value→Shared→Prop),C i j→Q (.int (g i j) s.toks) {s with toks:=s.toks+1}→wpAny (model X.prog X.w) X.A (f (.int i t) (.int j u)) Q E s):
 OpR X f (rI C fun i j=> .int (g i j)):=by
 intro pins s σ H x y v u Q I rx ry h
 obtain⟨i,j,rfl,rfl,hc,q⟩:=h
 obtain⟨t,rfl⟩:=rx
 obtain⟨t',rfl⟩:=ry
 exact rule i j t t' s _ _ hc ⟨.int (g i j),H,I.tok _,⟨_,rfl⟩,q⟩
theorem jrn {f:Value→Value→Sem Value} {g:Int→Int→Int}
 (rule: ∀ (i j:Int) (t u:Tok) (s:Shared) (Q:Value→Shared→Prop) (E:Value→Shared→Prop),Q (.int (g i j) s.toks) {s with toks:=s.toks+1}→wpAny (model X.prog X.w) X.A (f (.int i t) (.int j u)) Q E s):
 OpR X f (rI0 fun i j=> .int (g i j)):=by
 intro pins s σ H x y v u Q I rx ry h
 obtain⟨i,j,rfl,rfl,q⟩:=h
 obtain⟨t,rfl⟩:=rx
 obtain⟨t',rfl⟩:=ry
 exact rule i j t t' s _ _ ⟨.int (g i j),H,I.tok _,⟨_,rfl⟩,q⟩
theorem jqf {f:Value→Value→Sem Value} {g:Int→Int→Bool}
 (rule: ∀ (i j:Int) (t u:Tok) (s:Shared) (Q:Value→Shared→Prop) (E:Value→Shared→Prop),Q (.bool (g i j)) s→wpAny (model X.prog X.w) X.A (f (.int i t) (.int j u)) Q E s):
 OpR X f (rI0 fun i j=> .bl (g i j)):=by
 intro pins s σ H x y v u Q I rx ry h
 obtain⟨i,j,rfl,rfl,q⟩:=h
 obtain⟨t,rfl⟩:=rx
 obtain⟨t',rfl⟩:=ry
 exact rule i j t t' s _ _ ⟨.bl (g i j),H,I,rfl,q⟩
def jqx (i j:Int):Prop:=0<j∧j<1073741824
def jro (i j:Int):Prop:=0≤j∧j≤1000000∧i.natAbs<2^64
def CMul (i j:Int):Prop:=(-(2^64)<i∧i<2^64)∨(-(2^64)<j∧j<2^64)
theorem CMul.ok {i j:Int} (h:CMul i j):IntMulOk i j:=by
 rcases h with ⟨h1,h2⟩|⟨h1,h2⟩
 ·exact .of_left (intBits_le_64 h1 h2)
 ·exact .of_right (intBits_le_64 h1 h2)
theorem op_add:OpR X (binaryOp .Add) (rI0 fun i j=> .int (i+j)):=jrn fun _ _ _ _ _ _ _ q=>add_int q
theorem joE:OpR X (binaryOp .Sub) (rI0 fun i j=> .int (i-j)):=jrn fun _ _ _ _ _ _ _ q=>sub_int q
theorem op_mul:OpR X (binaryOp .Mult) (rI CMul fun i j=> .int (i*j)):=opI fun _ _ _ _ _ _ _ hc q=>mul_int q hc.ok
theorem jmN:OpR X (binaryOp .FloorDiv) (rI jqx fun i j=> .int (i / j)):=opI fun i j _ _ _ _ _ hc q=>by
 have h1:(0:Int)<j:=hc.1
 have h2:j<1073741824:=hc.2
 exact floordiv_int (by omega) (by rw [G3t i (by omega)];exact q) (.inl (PyProof.noPylong_small (by omega)))
theorem joF:OpR X (binaryOp .Mod) (rI (fun _ j=>0<j) fun i j=> .int (i%j)):=opI fun i j _ _ _ _ _ hc q=>by
 have h1:(0:Int)<j:=hc
 exact mod_int' (by omega) (by rw [G3u i (by omega)];exact q)
theorem joG:OpR X (binaryOp .Pow) (rI jro fun i j=> .int (i^j.toNat)):=opI fun _ _ _ _ _ _ _ hc q=>pow_int_small hc.1 hc.2.1 hc.2.2 q
theorem unI {f:Value→Sem Value} {g:Int→Int}
 (rule: ∀ (i:Int) (t:Tok) (s:Shared) (Q:Value→Shared→Prop) (E:Value→Shared→Prop),Q (.int (g i) s.toks) {s with toks:=s.toks+1}→wpAny (model X.prog X.w) X.A (f (.int i t)) Q E s):
 UnR X f (rU fun i=> .int (g i)):=by
 intro pins s σ H x v Q I rx h
 obtain⟨i,rfl,q⟩:=h
 obtain⟨t,rfl⟩:=rx
 exact rule i t s _ _ ⟨.int (g i),H,I.tok _,⟨_,rfl⟩,q⟩
theorem joH:UnR X (unaryOp .USub) (rU fun i=> .int (-i)):=unI fun _ _ _ _ _ q=>neg_int q
end
def jrp:V→V→Bool
 | .non,.non=>true| .non,.int _=>true| .int _,.non=>true| .non,.bl _=>true| .bl _,.non=>true| .non,.str _=>true| .str _,.non=>true
 | .int _,.int _=>true| .bl _,.bl _=>true| .str _,.str _=>true| .byt _,.byt _=>true
 | .int _,.str _=>true| .str _,.int _=>true| .bl _,.str _=>true| .str _,.bl _=>true
 |_,_=>false
def rEq:R2:=fun x y H Q=>jrp x y=true∧Q (.bl (decide (x=y))) H
def rNe:R2:=fun x y H Q=>jrp x y=true∧Q (.bl (!decide (x=y))) H
theorem jjr {i j:Int}:decide (V.int i=V.int j)=(i==j):=by
 rw [G1Z]
 simp
theorem jmd {i j:Bool}:decide (V.bl i=V.bl j)=(i==j):=by
 rw [G1Z]
 simp
theorem jjs {i j:Str}:decide (V.str i=V.str j)=(i==j):=by
 rw [G1Z]
 simp
theorem jjt {i j:Array UInt8}:decide (V.byt i=V.byt j)=(i.toList==j.toList):=by
 rw [G1Z]
 cases i
 cases j
 simp
section
variable {X:Cx} {a b c:Expr} {ta tb tc:TE} {pos:Pos}
theorem jaD {pins:List (Addr×Obj)} {σ:St} {H:Hp} {s:Shared} {Q:VK} {k k' :Bool} (I:Inv X pins σ H s) (q:Q (.bl k) H) (e:k=k'):EP X pins σ Q (.bool k') s:=by
 subst e
 exact⟨.bl k,H,I,rfl,q⟩
theorem op_eq:OpR X (compareOp .Eq) rEq:=by
 intro pins s σ H x y v u Q I rx ry h
 obtain⟨hs,q⟩:=h
 cases x with
 |non=>
  cases rx
  cases y with
  |non=>cases ry;exact PySem.EqNone.eq_none_none (jaD I q (by simp))
  |bl j=>cases ry;exact PySem.EqNone.eq_none_bool (jaD I q (by simp))
  |int j=>obtain⟨t',rfl⟩:=ry;exact PySem.EqNone.eq_none_int (jaD I q (by simp))
  |str j=>obtain⟨t',rfl⟩:=ry;exact PySem.EqNone.eq_none_str (jaD I q (by simp))
  |_=>exact absurd (show false=true from hs) G0t
 |bl i=>
  cases rx
  cases y with
  |non=>cases ry;exact PySem.EqNone.eq_bool_none (jaD I q (by simp))
  |bl j=>cases ry;exact eq_bool (jaD I q jmd)
  |str j=>obtain⟨t',rfl⟩:=ry;exact PySem.EqMixed.eq_bool_str (jaD I q (by simp))
  |_=>exact absurd (show false=true from hs) G0t
 |int i=>
  obtain⟨t,rfl⟩:=rx
  cases y with
  |non=>cases ry;exact PySem.EqNone.eq_int_none (jaD I q (by simp))
  |int j=>obtain⟨t',rfl⟩:=ry;exact eq_int (jaD I q jjr)
  |str j=>obtain⟨t',rfl⟩:=ry;exact PySem.EqMixed.eq_int_str (jaD I q (by simp))
  |_=>exact absurd (show false=true from hs) G0t
 |str i=>
  obtain⟨t,rfl⟩:=rx
  cases y with
  |non=>cases ry;exact PySem.EqNone.eq_str_none (jaD I q (by simp))
  |bl j=>cases ry;exact PySem.EqMixed.eq_str_bool (jaD I q (by simp))
  |int j=>obtain⟨t',rfl⟩:=ry;exact PySem.EqMixed.eq_str_int (jaD I q (by simp))
  |str j=>obtain⟨t',rfl⟩:=ry;exact eq_str (jaD I q jjs)
  |_=>exact absurd (show false=true from hs) G0t
 |byt i=>
  obtain⟨t,rfl⟩:=rx
  cases y with
  |byt j=>obtain⟨t',rfl⟩:=ry;exact PySem.W.eq_bytes (jaD I q jjt)
  |_=>exact absurd (show false=true from hs) G0t
 |_=>cases y<;>exact absurd (show false=true from hs) G0t
theorem op_ne:OpR X (compareOp .NotEq) rNe:=by
 intro pins s σ H x y v u Q I rx ry h
 obtain⟨hs,q⟩:=h
 cases x with
 |non=>
  cases rx
  cases y with
  |non=>cases ry;exact PySem.EqNone.ne_none_none (jaD I q (by simp))
  |bl j=>cases ry;exact PySem.EqNone.ne_none_bool (jaD I q (by simp))
  |int j=>obtain⟨t',rfl⟩:=ry;exact PySem.EqNone.ne_none_int (jaD I q (by simp))
  |str j=>obtain⟨t',rfl⟩:=ry;exact PySem.EqNone.ne_none_str (jaD I q (by simp))
  |_=>exact absurd (show false=true from hs) G0t
 |bl i=>
  cases rx
  cases y with
  |non=>cases ry;exact PySem.EqNone.ne_bool_none (jaD I q (by simp))
  |bl j=>cases ry;exact ne_bool (jaD I q (congrArg not jmd))
  |str j=>obtain⟨t',rfl⟩:=ry;exact PySem.EqMixed.ne_bool_str (jaD I q (by simp))
  |_=>exact absurd (show false=true from hs) G0t
 |int i=>
  obtain⟨t,rfl⟩:=rx
  cases y with
  |non=>cases ry;exact PySem.EqNone.ne_int_none (jaD I q (by simp))
  |int j=>obtain⟨t',rfl⟩:=ry;exact ne_int (jaD I q (congrArg not jjr))
  |str j=>obtain⟨t',rfl⟩:=ry;exact PySem.EqMixed.ne_int_str (jaD I q (by simp))
  |_=>exact absurd (show false=true from hs) G0t
 |str i=>
  obtain⟨t,rfl⟩:=rx
  cases y with
  |non=>cases ry;exact PySem.EqNone.ne_str_none (jaD I q (by simp))
  |bl j=>cases ry;exact PySem.EqMixed.ne_str_bool (jaD I q (by simp))
  |int j=>obtain⟨t',rfl⟩:=ry;exact PySem.EqMixed.ne_str_int (jaD I q (by simp))
  |str j=>obtain⟨t',rfl⟩:=ry;exact ne_str (jaD I q (congrArg not jjs))
  |_=>exact absurd (show false=true from hs) G0t
 |byt i=>
  obtain⟨t,rfl⟩:=rx
  cases y with
  |byt j=>obtain⟨t',rfl⟩:=ry;exact PySem.W.ne_bytes (jaD I q (congrArg not jjt))
  |_=>exact absurd (show false=true from hs) G0t
 |_=>cases y<;>exact absurd (show false=true from hs) G0t
theorem jqy:OpR X (compareOp .Lt) (rI0 fun i j=> .bl (decide (i<j))):=jqf fun _ _ _ _ _ _ _ q=>lt_int q
theorem jqz:OpR X (compareOp .LtE) (rI0 fun i j=> .bl (decide (i≤j))):=jqf fun _ _ _ _ _ _ _ q=>le_int q
theorem jqA:OpR X (compareOp .Gt) (rI0 fun i j=> .bl (decide (j<i))):=jqf fun _ _ _ _ _ _ _ q=>gt_int q
theorem jqB:OpR X (compareOp .GtE) (rI0 fun i j=> .bl (decide (j≤i))):=jqf fun _ _ _ _ _ _ _ q=>ge_int q
theorem OpR.or {f:Value→Value→Sem Value} {r r' :R2} (h:OpR X f r) (h' :OpR X f r'):OpR X f (fun x y H Q=>r x y H Q∨r' x y H Q):=by
 intro pins s σ H x y v u Q I rx ry q
 rcases q with q|q
 ·exact h pins s σ H x y v u Q I rx ry q
 ·exact h' pins s σ H x y v u Q I rx ry q
theorem jaw (b:Expr) {op:CmpOp} (h:op≠ .In:=by decide) (h2:op≠ .NotIn:=by decide):behindInMarks op b=false:=by
 have e1:(op==CmpOp.In)=false:=by cases op<;>first|rfl|exact absurd rfl h
 have e2:(op==CmpOp.NotIn)=false:=by cases op<;>first|rfl|exact absurd rfl h2
 cases b<;>simp [behindInMarks,e1,e2]
theorem jmO {op:CmpOp} {r:R2} (ho:OpR X (compareOp op) r) (ha:PE X a ta) (hb:PE X b tb) (hm:behindInMarks op b=false):PE X (.Compare a [op] [b] pos) (tOp r ta tb):=by
 intro pins s σ H Q I h
 exact wpAny_Compare1 (jqu ha hb I h fun v u s2 x y H2 I2 rx ry q=>ho pins s2 σ H2 x y v u Q I2 rx ry q) hm
def jmP (t:TE):TT:=fun σ H Q=>t σ H fun x H' => ∃k,x= .bl k∧Q k H'
theorem jmQ {op:CmpOp} {r:R2} (ho:OpR X (compareOp op) r) (ha:PE X a ta) (hb:PE X b tb) (hm:behindInMarks op b=false):PT X (.Compare a [op] [b] pos) (jmP (tOp r ta tb)):=by
 intro pins s σ H Q I h
 refine wpAny_isTrue_Compare1 (thn (ha pins s σ H _ I h) fun v s1 ⟨x,H1,I1,r1,q1⟩=>thn (hb pins s1 σ H1 _ I1 q1) fun u s2 ⟨y,H2,I2,r2,q2⟩=>
  thn (ho pins s2 σ H2 x y v u _ I2 r1 r2 q2) fun c s3 ⟨z,H3,I3,r3,k,e,q3⟩=> ?_) hm
 subst e
 cases r3
 exact G1t ⟨H3,I3,q3⟩
def jju (r r' :R2) (ta tb tc:TE):TE:=fun σ H Q=>ta σ H fun x H1=>tb σ H1 fun y H2=>r x y H2 fun z H3=> ∃k,z= .bl k∧
 (if k=true then tc σ H3 fun w' H4=>r' y w' H4 Q else Q (.bl false) H3)
theorem jk1 {op op' :CmpOp} {r r' :R2} (ho:OpR X (compareOp op) r) (ho' :OpR X (compareOp op') r') (ha:PE X a ta) (hb:PE X b tb) (hc:PE X c tc)
 (hm:lastMarks [op,op'] [b,c]=false:=by with_unfolding_all rfl):PE X (.Compare a [op,op'] [b,c] pos) (jju r r' ta tb tc):=by
 intro pins s σ H Q I h
 refine Compare_chain (thn (ha pins s σ H _ I h) fun v s1 ⟨x,H1,I1,r1,q1⟩=>chain_link (thn (hb pins s1 σ H1 _ I1 q1) fun u s2 ⟨y,H2,I2,r2,q2⟩=>
  thn (ho pins s2 σ H2 x y v u _ I2 r1 r2 q2) fun d s3 ⟨z,H3,I3,r3,k,e,q3⟩=> ?_)) hm
 subst e
 cases r3
 refine G1t ?_
 cases k with
 |false=>exact ite_ff ⟨.bl false,H3,I3,rfl,q3⟩
 |true=>exact ite_tt (chain_last (thn (hc pins s3 σ H3 _ I3 q3) fun w' s4 ⟨z',H4,I4,r4,q4⟩=>ho' pins s4 σ H4 y z' u w' Q I4 r2 r4 q4))
theorem jk2 {op op' :CmpOp} {r r' :R2} (ho:OpR X (compareOp op) r) (ho' :OpR X (compareOp op') r') (ha:PE X a ta) (hb:PE X b tb) (hc:PE X c tc)
 (hm:lastMarks [op,op'] [b,c]=false:=by with_unfolding_all rfl):PT X (.Compare a [op,op'] [b,c] pos) (jmP (jju r r' ta tb tc)):=by
 intro pins s σ H Q I h
 refine isTrue_chain (thn (ha pins s σ H _ I h) fun v s1 ⟨x,H1,I1,r1,q1⟩=>test_link (thn (hb pins s1 σ H1 _ I1 q1) fun u s2 ⟨y,H2,I2,r2,q2⟩=>
  thn (ho pins s2 σ H2 x y v u _ I2 r1 r2 q2) fun d s3 ⟨z,H3,I3,r3,k,e,q3⟩=> ?_)) hm
 subst e
 cases r3
 refine G1t ?_
 cases k with
 |false=>
  obtain⟨k',e',q'⟩:=q3
  cases e'
  exact ite_ff ⟨H3,I3,q'⟩
 |true=>
  refine ite_tt (test_last (thn (hc pins s3 σ H3 _ I3 q3) fun w' s4 ⟨z',H4,I4,r4,q4⟩=>thn (ho' pins s4 σ H4 y z' u w' _ I4 r2 r4 q4) fun d' s5 ⟨z2,H5,I5,r5,k2,e2,q5⟩=> ?_))
  subst e2
  cases r5
  exact G1t ⟨H5,I5,q5⟩
theorem jgF:(sizeLine:Nat)<2^63:=by rw [sizeLine_eq];decide
theorem jeb {x:V} {us:List Value} (r:Vals [x] us): ∃u,us= [u]∧RelV x u:=by
 cases r with
 |cons r1 r2=>cases r2;exact⟨_,rfl,r1⟩
theorem jmR {x y:V} {us:List Value} (r:Vals [x,y] us): ∃u w',us= [u,w']∧RelV x u∧RelV y w' :=by
 cases r with
 |cons r1 r2=>
  cases r2 with
  |cons r3 r4=>cases r4;exact⟨_,_,rfl,r1,r3⟩
theorem jjv (hc:X.calm=true):CallR X (.builtin "max") (fun xs H Q=> ∃i j,xs= [.int i,.int j]∧Q (.int (if j>i then j else i)) H):=by
 intro pins s σ H xs us Q I r h
 obtain⟨i,j,rfl,q⟩:=h
 obtain⟨u,w',rfl,⟨t,rfl⟩,⟨t',rfl⟩⟩:=jmR r
 refine max_two_ints (I.ok.hd hc) fun h' tk k=>⟨_,H,I.kept k,?_,q⟩
 by_cases hj:j>i
 ·rw [if_pos hj,if_pos hj];exact⟨_,rfl⟩
 ·rw [if_neg hj,if_neg hj];exact⟨_,rfl⟩
theorem call_int1:CallR X (.type "int") (fun xs H Q=>(∃i,xs= [.int i]∧Q (.int i) H)∨ ∃k,xs= [.bl k]∧Q (.int (if k then 1 else 0)) H):=by
 intro pins s σ H xs us Q I r h
 rcases h with ⟨i,rfl,q⟩|⟨k,rfl,q⟩
 ·obtain⟨u,rfl,t,rfl⟩:=jeb r
  exact call_int_int ⟨.int i,H,I,⟨_,rfl⟩,q⟩
 ·obtain⟨u,rfl,r1⟩:=jeb r
  cases r1
  exact call_int_bool ⟨.int (if k then 1 else 0),H,I.tok _,⟨_,rfl⟩,q⟩
end
structure ObjM (h:Heap) (x dx C:Addr) (mA:Str→Option Value):Prop where
 obj:h.get? x=some (PySem.W.instObj C dx)
 ns:h.Ns1 dx mA
 ne:dx≠x
theorem jjw {h:Heap} {dx:Addr} {mA:Str→Option Value} (n:h.Ns1 dx mA): ∃od,h.get? dx=some od∧ ∀name,PySem.W.lookIn name od=some (mA name):=by
 obtain⟨o,es,ep,ho,hd,hk,_,hm⟩:=n
 refine⟨o,ho,fun name=> ?_⟩
 have e:=hm name
 unfold nsFind findBy at e
 rw [←Array.find?_toList] at e
 unfold PySem.W.lookIn
 rw [hd]
 dsimp only
 split
 ·rename_i y q
  rw [q] at e
  exact congrArg some e
 ·rename_i q
  rw [q] at e
  have a:es.toList.any (·.refKey)=false:=by
   rw [List.any_eq_false]
   intro y hy
   obtain⟨z,t,hkey⟩:=hk y (Array.mem_toList_iff.mp hy)
   simp [DictEntry.refKey,hkey]
  have a' : ¬es.toList.any (·.refKey)=true:=by rw [a];exact G0t
  rw [if_neg a']
  exact congrArg some e
theorem ObjM.look {h:Heap} {x dx C:Addr} {mA:Str→Option Value} (I:ObjM h x dx C mA): ∃od,PySem.W.InstAt h x (PySem.W.instObj C dx) C (some od)∧ ∀name,PySem.W.lookIn name od=some (mA name):=
 let ⟨od,ho,hl⟩:=jjw I.ns
 ⟨od,⟨I.obj,rfl,rfl,ho⟩,hl⟩
section
variable {P:Program} {w:World} {H H' :Hp} {h h' :Heap} {a C dx:Addr} {fs fs' :List (Str×V)}
theorem jmS (hok:HOk P w H h) (e:H a=some (.ins C dx fs)): ∃mA,ObjM h a dx C mA∧(∀f,jql (fs.lookup f) (mA f))∧PySem.Within mA (fs.map (·.1))∧fs.length≤1000∧H dx=some (.own a):=by
 obtain⟨d,z,ne,ob,mA,n,r,q⟩:=(show ObjOk P w H h a (.ins C dx fs) from hok a _ e)
 exact⟨mA,⟨ob,n,ne⟩,r,q,z,d⟩
end
structure Cls (K:PySem.W.Frag) (C:Addr):Prop where
 pg:PySem.W.plainGet K C Str.empty=true
 hd:PySem.W.hasDictIn K C=true
 po:PySem.W.plainOver K C=true
 sa:PySem.W.findIn K (.ref C) "__setattr__" =some (some (.builtin "object.__setattr__"))
theorem Cls.get {K:PySem.W.Frag} {C:Addr} (c:Cls K C) (f:Str):PySem.W.plainGet K C f=true:=c.pg
structure Con (K:PySem.W.Frag) (C:Addr) (f:Str) (v:V) (u:Value):Prop where
 at_:PySem.W.findIn K (.ref C) f=some (some u)
 rel:RelV v u
 get:PySem.W.specialIn K u "__get__" =some none
 cp:PySem.W.copiedNames.contains f=false
structure Meth (K:PySem.W.Frag) (C:Addr) (m:Str) (f:Addr):Prop where
 at_:PySem.W.findIn K (.ref C) m=some (some (.ref f))
 fn:PySem.W.isFn K (.ref f)=true
 kp:PySem.W.keepIn K (.ref f)=true
section
variable {X:Cx} {pins:List (Addr×Obj)} {σ:St} {H:Hp} {s:Shared} {A:Around} {E:Value→Shared→Prop} {Q:Value→Shared→Prop} {c:Value} {b:Bool}
inductive TyOf (K:PySem.W.Frag) (H:Hp):V→Value→Prop where
 |non:TyOf K H .non (.type "NoneType")
 |bl (x:Bool):TyOf K H (.bl x) (.type "bool")
 |int (i:Int):TyOf K H (.int i) (.type "int")
 |str (x:Str):TyOf K H (.str x) (.type "str")
 |flt (x:UInt64):TyOf K H (.flt x) (.type "float")
 |lst {a:Addr} {xs:List V} (e:H a=some (.lst xs)):TyOf K H (.ref a) (.type "list")
 |frz {a:Addr} {o:Obj} {xs:List V} (e:H a=some (.frz o (.lst xs))):TyOf K H (.ref a) (.type "list")
 |tup {a:Addr} {xs:List V} (e:H a=some (.tup xs)):TyOf K H (.ref a) (.type "tuple")
 |dK {a:Addr} {kvs:List (Key×V)} (e:H a=some (.dK kvs)):TyOf K H (.ref a) (.type "dict")
 |dT {a:Addr} {kvs:List (List Key×V)} (e:H a=some (.dT kvs)):TyOf K H (.ref a) (.type "dict")
 |ins {a C dx:Addr} {fs:List (Str×V)} (e:H a=some (.ins C dx fs)) (cl:Cls K C) (ha:PySem.W.findIn K (.ref C) "__class__" =some (some (.builtin "object.__class__")))
  (hn:PySem.W.specialIn K (.builtin "object.__class__") "__get__" =some (some (.builtin "getset_descriptor.__get__"))) (htk:PySem.W.takesIn K (.builtin "object.__class__")=some true)
  (hm:PySem.W.mroIn K C (.type "object")=some true):TyOf K H (.ref a) (.ref C)
theorem jjx {x:V} {u t:Value} (I:Inv X pins σ H s) (rx:RelV x u) (ty:TyOf X.K H x t) (e:PySem.W.kitOne X.K t c=some b) (h: ∀tk,Q (.bool b) {s with toks:=tk}):
 wpAny (model X.prog X.w) A (call (.builtin "isinstance") [u,c]) Q E s:=by
 cases ty with
 |non=>cases (show u=Value.none from rx);exact G1C PySem.W.kitx_none I.kIn True.intro e (fun z=>nomatch z) h
 |bl y=>cases (show u=Value.bool y from rx);exact G1C PySem.W.kitx_bool I.kIn True.intro e (fun z=>nomatch z) h
 |int i=>obtain⟨t,q⟩:=(show ∃t,u=Value.int i t from rx);cases q;exact G1C PySem.W.kitx_int I.kIn True.intro e (fun z=>nomatch z) h
 |str y=>obtain⟨t,q⟩:=(show ∃t,u=Value.str y t from rx);cases q;exact G1C PySem.W.kitx_str I.kIn True.intro e (fun z=>nomatch z) h
 |flt y=>obtain⟨t,q⟩:=(show ∃t,u=Value.float y t from rx);cases q;exact G1C PySem.W.kitx_float I.kIn True.intro e (fun z=>nomatch z) h
 | @lst a xs ea=>
  cases (show u=Value.ref a from rx)
  obtain⟨_,_,n,_,h1⟩:=(show ObjOk X.prog X.w H s.heap a (.lst xs) from I.hok a _ ea)
  exact G1C PySem.W.kitx_list I.kIn ⟨_,h1,rfl⟩ e (fun z=>nomatch z) h
 | @frz a ob xs ea=>
  cases (show u=Value.ref a from rx)
  obtain⟨_,_,_,n,_,h1⟩:=(show ObjOk X.prog X.w H s.heap a (.frz ob (.lst xs)) from I.hok a _ ea)
  exact G1C PySem.W.kitx_list I.kIn ⟨_,h1,rfl⟩ e (fun z=>nomatch z) h
 | @tup a xs ea=>
  cases (show u=Value.ref a from rx)
  obtain⟨_,_,_,p⟩:=(show ObjOk X.prog X.w H s.heap a (.tup xs) from I.hok a _ ea)
  obtain⟨o,h1,h2,_⟩:=p
  exact G1C PySem.W.kitx_tuple I.kIn ⟨o,h1,h2⟩ e (fun z=>nomatch z) h
 | @dK a kvs ea=>
  cases (show u=Value.ref a from rx)
  obtain⟨_,_,vs,_,p⟩:=(show ObjOk X.prog X.w H s.heap a (.dK kvs) from I.hok a _ ea)
  obtain⟨o,es,ep,h1,h2,_⟩:=p
  exact G1C PySem.W.kitx_dict I.kIn ⟨o,h1,h2.1⟩ e (fun z=>nomatch z) h
 | @dT a kvs ea=>
  cases (show u=Value.ref a from rx)
  obtain⟨_,_,xs,_,o,es,ep,h1,h2,_⟩:=(show ObjOk X.prog X.w H s.heap a (.dT kvs) from I.hok a _ ea)
  exact G1C PySem.W.kitx_dict I.kIn ⟨o,h1,h2.1⟩ e (fun z=>nomatch z) h
 | @ins a C dx fs ea cl ha hn htk hm=>
  cases (show u=Value.ref a from rx)
  obtain⟨mA,O,_⟩:=jmS I.hok ea
  obtain⟨od,J,_⟩:=O.look
  exact G1C (PySem.W.kitx_own (cl.get _) cl.hd ha hn htk hm) I.kIn J e (fun z=>nomatch z) h
end
structure Room (k:Nat) (A:Around):Prop where
 hd:A.handled=none
 dp:A.depth+3*k+5<recursionLimit
 un:A.units+16*k+200<cLine
 gd:A.guards=some []
theorem Room.deeper {k:Nat} {A:Around} (r:Room (k+1) A) (env:Env):Room k (A.deeper env):=
 ⟨r.hd,by have:=r.dp;show A.depth+1+3*k+5<_;omega,by have:=r.un;show A.units+3+16*k+200<_;omega,r.gd⟩
theorem Room.depth {k:Nat} {A:Around} (r:Room k A):A.depth<recursionLimit:=by have:=r.dp;omega
theorem Room.units {k:Nat} {A:Around} (r:Room k A):A.units+64<cLine:=by have:=r.un;omega
def jrq:TA:=fun _ H Q=>Q [] H
def joI (ta:TE) (tr:TA):TA:=fun σ H Q=>ta σ H fun x H1=>tr σ H1 fun xs H2=>Q (x::xs) H2
section
variable {X:Cx} {e:Expr} {es:List Expr} {te:TE} {t:TA} {pos:Pos}
theorem pa_nil:PA X [] jrq:=fun _ _ _ _ H Q I h=>Calls.spliced_nil ⟨[],H,I,.nil,h⟩
theorem jc8 (ha:PE X e te) (hr:PA X es t) (hs:starEach (e::es) X.env=(false,eval e X.env)::starEach es X.env:=by rfl):PA X (e::es) (joI te t):=by
 intro pos pins s σ H Q I h
 rw [hs]
 show wpAny _ _ (spliced ((false,eval e X.env)::backTo pos (starEach es X.env))) _ _ s
 refine Calls.spliced_cons (thn (ha pins s σ H _ I h) fun u s1 ⟨x,H1,I1,r1,q1⟩=> ?_)
 exact thn (hr pos pins s1 σ H1 _ I1 q1) fun us s2 ⟨xs,H2,I2,r2,q2⟩=>⟨x::xs,H2,I2,.cons r1 r2,q2⟩
def jrr (t:TA):TE:=fun σ H Q=>t σ H fun xs H1=>xs.length≤sizeLine∧ ∀p,H1 p=none→Q (.ref p) (upd H1 p (.tup xs))
def jrs (t:TA):TE:=fun σ H Q=>t σ H fun xs H1=>xs.length≤sizeLine∧ ∀p,H1 p=none→Q (.ref p) (upd H1 p (.lst xs))
theorem joJ {x1} (h:PA X es t):PE X (.Tuple es x1 pos) (jrr t):=by
 intro pins s σ H Q I hq
 refine wpAny_Tuple_spliced (thn (h pos pins s σ H _ I hq) fun us s1 ⟨xs,H1,I1,r,z,q⟩=>⟨by rw [←r.length];exact z,?_⟩)
 have hf:H1 s1.heap.objs.size=none:=I1.hok.fresh (G0f _)
 refine⟨.ref s1.heap.objs.size,upd H1 s1.heap.objs.size (.tup xs),I1.laid (t' :=s1.toks) (fun b u e=>G0a _ e) (G0f _) ?_,rfl,q _ hf⟩
 exact⟨z,us,r,IsTupN.new _ _⟩
theorem joK (h:PA X es t):PE X (.List es pos) (jrs t):=by
 intro pins s σ H Q I hq
 refine wpAny_List_spliced (thn (h pos pins s σ H _ I hq) fun us s1 ⟨xs,H1,I1,r,z,q⟩=>⟨by rw [←r.length];exact z,?_⟩)
 have hf:H1 s1.heap.objs.size=none:=I1.hok.fresh (G0f _)
 refine⟨.ref s1.heap.objs.size,upd H1 s1.heap.objs.size (.lst xs),I1.laid (t' :=s1.toks) (fun b u e=>G0a _ e) (G0f _) ?_,rfl,q _ hf⟩
 exact⟨z,us,0,r,G0q _ rfl⟩
end
abbrev Sp:=List V→Hp→VK→XK→Prop
abbrev CXT:=List Env→Hp→Shared→XK→Value→Shared→Prop
structure Env0 (P:Program) (w:World) (K:PySem.W.Frag) (mg:Str→Option Value) (base:Heap) (A:Around) (outer:List Env) (s:Shared) (H:Hp):Prop where
 frames:A.frames=some outer
 mod:Mod K mg base
 bs: ∀b o,base.get? b=some o→s.heap.get? b=some o∧H b=none
 bsz:base.objs.size≤s.heap.objs.size
 funs:s.heap.FunFrames base outer
 frf: ∀b∈frs outer,H b=none
 hok:HOk P w H s.heap
 bare:AllBare s.gens
def CE (outer:List Env) (P:Program) (w:World) (H:Hp) (s:Shared) (Q:VK) (u:Value) (s' :Shared):Prop:=
 ∃v H',s'.os=s.os∧AllBare s'.gens∧Un (frs outer) [] H H' s.heap s'.heap∧HOk P w H' s'.heap∧RelV v u∧Q v H'
def CR (CX:CXT) (outer:List Env) (P:Program) (w:World) (H:Hp) (s:Shared) (Q:VK) (E:XK) (r:Result) (s' :Shared):Prop:=
 match r with
 | .ok (.ret u)=>CE outer P w H s Q u s'
 | .ok _=>False
 | .error e=>CX outer H s E e s'
structure FnOk (P:Program) (w:World) (K:PySem.W.Frag) (mg:Str→Option Value) (base:Heap) (CX:CXT) (k:Nat) (f:Addr) (fd:FuncData) (ps:List Str) (sp:Sp):Prop where
 len: ∀vs H Q E,sp vs H Q E→vs.length=ps.length
 run: ∀ (A:Around) (outer:List Env) (s:Shared) (H:Hp) (args:Args) (us:List Value) (vs:List V) (Q:VK) (E:XK),Room k A→Env0 P w K mg base A outer s H→BindsTo s fd args (ps.zip us)→Vals vs us→sp vs H Q E→
  codeAny (model P w) A (.call (.ref f) args) (CR CX outer P w H s Q E) s
section
variable {X:Cx} {pins:List (Addr×Obj)} {σ:St} {H:Hp} {s s' :Shared}
theorem Inv.env0 (I:Inv X pins σ H s):Env0 X.prog X.w X.K X.mg X.base X.A X.stack s H:=
 ⟨I.ok.frames,I.ok.mod,I.bs,G01 I.ok.bsz I.sz,I.stack,I.stkFree,I.hok,I.bare⟩
theorem Inv.after {Q:VK} {u:Value} (I:Inv X pins σ H s) (h:CE X.stack X.prog X.w H s Q u s'):EP X pins σ Q u s' :=by
 obtain⟨v,H',os,bare,un,hok,r,q⟩:=h
 obtain⟨hh,g,d,t,os'⟩:=s'
 obtain rfl:os' =s.os:=os
 exact⟨v,H',I.call (h' :=hh) (g' :=g) (d' :=d) (t' :=t) (ch:= []) un hok bare (fun b z=>absurd z (by simp)),r,q⟩
end
def joL (sp:Sp) (dvs:List V) (E:XK) (t:TA):TE:=fun σ H Q=>t σ H fun vs H1=>sp (vs++dvs) H1 Q E
def Binds (K:PySem.W.Frag) (fd:FuncData) (ps:List Str) (ds:List Value):Prop:=
 ∀ (s:Shared) (us:List Value),K.In s.heap→(us++ds).length=ps.length→BindsTo s fd ⟨us,[]⟩ (ps.zip (us++ds))
theorem Binds.all {K:PySem.W.Frag} {fd:FuncData} {ps:List Str} (h: ∀us:List Value,us.length=ps.length→bindArgs fd ⟨us,[]⟩=pure (ps.zip us)):Binds K fd ps []:=fun s us _ hl=>by
 rw [G1J] at hl ⊢
 exact .of_eq (h us hl)
def jjy (CX:CXT) (X:Cx) (E:XK):Prop:= ∀ (pins:List (Addr×Obj)) (σ:St) (H:Hp) (s:Shared) (e:Value) (s' :Shared),Inv X pins σ H s→CX X.stack H s E e s' →X.xe e s'
section
variable {X:Cx} {CX:CXT} {k:Nat} {f C:Addr} {fd:FuncData} {ps:List Str} {sp:Sp} {dvs:List V} {ds:List Value} {E:XK} {x m:Str} {p pos apos:Pos} {e o:Expr} {es:List Expr} {ta:TE} {t:TA}
theorem joM {pins:List (Addr×Obj)} {σ:St} {H:Hp} {s:Shared} {Q:VK} {us:List Value} {vs:List V} (F:FnOk X.prog X.w X.K X.mg X.base CX k f fd ps sp) (hr:Room k X.A) (hb:Binds X.K fd ps ds) (hd:Vals dvs ds) (hx:jjy CX X E)
 (I:Inv X pins σ H s) (r:Vals vs us) (h:sp (vs++dvs) H Q E):wpAny (model X.prog X.w) X.A (call (.ref f) us) (EP X pins σ Q) X.xe s:=by
 have r2:Vals (vs++dvs) (us++ds):=r.append hd
 have hl:(us++ds).length=ps.length:=by rw [←r2.length];exact F.len _ _ _ _ h
 refine G4c (G34 (F.run X.A X.stack s H ⟨us,[]⟩ (us++ds) (vs++dvs) Q E hr I.env0 (hb s us I.kIn hl) r2 h) fun r s' hq=> ?_)
 cases r with
 |error e=>exact hx pins σ H s e s' I hq
 |ok fl=>
  cases fl with
  |ret u=>exact I.after hq
  |next=>exact False.elim hq
  |brk=>exact False.elim hq
  |cont=>exact False.elim hq
theorem jmT (F:FnOk X.prog X.w X.K X.mg X.base CX k f fd ps sp) (hr:Room k X.A) (hg:Gl X x) (hm:X.mg x=some (.ref f)) (hk:PySem.W.keepIn X.K (.ref f)=true) (hb:Binds X.K fd ps ds) (hd:Vals dvs ds) (hx:jjy CX X E)
 (ha:PA X (e::es) t) (hdb:(x==("__debug__" :Str))=false:=by decide) (he:starEach (e::es) X.env=(false,eval e X.env)::starEach es X.env:=by rfl) (hpl:(backTo pos (starEach es X.env)).any (·.1)=false:=by rfl):
 PE X (.Call (.Name x p) (e::es) [] pos) (joL sp dvs E t):=by
 intro pins s σ H Q I h
 refine G3y (jjl I hg hm ?_ hdb)
 refine PySem.W.callWith_K (h₀:=X.base) I.ok.mod.kin hk (thn (ha pos pins s σ H _ I h) fun us s1 ⟨vs,H1,I1,r,q⟩=>⟨I1.kIn,?_⟩) he hpl
 exact joM F hr hb hd hx I1 r q
structure Mk (K:PySem.W.Frag) (C f:Addr):Prop where
 makes:PySem.W.makesIn K C=true
 init:PySem.W.findIn K (.ref C) "__init__" =some (some (.ref f))
 fn:PySem.W.isFn K (.ref f)=true
 kp:PySem.W.keepIn K (.ref C)=true
end
section
variable {X:Cx} {CX:CXT} {k:Nat} {f C:Addr} {fd:FuncData} {ps ks:List Str} {sp:Sp} {E:XK} {x m:Str} {p pos apos kpos:Pos} {e o:Expr} {es:List Expr} {kws:List Keyword} {te ta:TE} {t tk:TA} {nm:Option Str}
structure KBinds (K:PySem.W.Frag) (fd:FuncData) (ps ks:List Str) (g:List Value→List Value→List Value) (gV:List V→List V→List V):Prop where
 to: ∀ (s:Shared) (us ws:List Value),K.In s.heap→(g us ws).length=ps.length→BindsTo s fd ⟨us,ks.zip ws⟩ (ps.zip (g us ws))
 rel: ∀ {vs:List V} {us:List Value} {zs:List V} {ws:List Value},Vals vs us→Vals zs ws→Vals (gV vs zs) (g us ws)
variable {g:List Value→List Value→List Value} {gV:List V→List V→List V}
end
structure FnScope (N P:List Str) (sc:Scope):Prop where
 kind:sc.kind= .function
 co:sc.isCoroutine=false
 gen:sc.isGenerator=false
 nd:N.Nodup
 pre:N.take P.length=P
 par: ∀x∈P,sc.names.lookup x=some .local∨sc.names.lookup x=some .cell
 nofree: ∀y∈sc.names,y.2≠ .free
theorem jgG {kindOf:Str→Option NameKind} {x:Str}: ∀ {binds:List (Str×Value)} {m:Str→Option Value},(∀v,(x,v) ∉ binds)→bindL kindOf binds m x=m x
 | [],_,_=>rfl
 |(n,v)::r,m,h=>by
  unfold bindL
  rw [jgG fun w hw=>h w (G0s _ hw)]
  split
  ·have:x≠n:=by rintro rfl;exact h v G0p
   simp [this]
  ·rfl
theorem jgH {kindOf:Str→Option NameKind} {x:Str}: ∀ {binds:List (Str×Value)} {m:Str→Option Value},(∀v,(x,v) ∉ binds)→bindC kindOf binds m x=m x
 | [],_,_=>rfl
 |(n,v)::r,m,h=>by
  unfold bindC
  rw [jgH fun w hw=>h w (G0s _ hw)]
  split
  ·rfl
  ·have:x≠n:=by rintro rfl;exact h v G0p
   simp [this]
theorem jgI {kindOf:Str→Option NameKind} {x:Str} {v:Value}: ∀ {P:List Str} {vs:List Value} {i:Nat} {m:Str→Option Value},P.Nodup→P[i]? =some x→vs[i]? =some v→kindOf x=some .local→
 bindL kindOf (P.zip vs) m x=some v
 | [],_,_,_,_,h,_,_=>by simp at h
 |_::_,[],_,_,_,_,h,_=>by simp at h
 |p::P,w::vs,0,m,nd,h1,h2,hk=>by
  simp at h1 h2;subst h1;subst h2
  show bindL kindOf ((p,w)::P.zip vs) m p=_
  unfold bindL
  rw [jgG fun v hv=>(G1K.mp nd).1 (G2k hv).1,if_pos hk]
  simp
 |p::P,w::vs,i+1,m,nd,h1,h2,hk=>by
  show bindL kindOf ((p,w)::P.zip vs) m x=_
  unfold bindL
  exact jgI (i:=i) (G1K.mp nd).2 (by simpa using h1) (by simpa using h2) hk
theorem jgJ {kindOf:Str→Option NameKind} {x:Str} {v:Value}: ∀ {P:List Str} {vs:List Value} {i:Nat} {m:Str→Option Value},P.Nodup→P[i]? =some x→vs[i]? =some v→kindOf x≠some .local→
 bindC kindOf (P.zip vs) m x=some v
 | [],_,_,_,_,h,_,_=>by simp at h
 |_::_,[],_,_,_,_,h,_=>by simp at h
 |p::P,w::vs,0,m,nd,h1,h2,hk=>by
  simp at h1 h2;subst h1;subst h2
  show bindC kindOf ((p,w)::P.zip vs) m p=_
  unfold bindC
  rw [jgH fun v hv=>(G1K.mp nd).1 (G2k hv).1,if_neg hk]
  simp
 |p::P,w::vs,i+1,m,nd,h1,h2,hk=>by
  show bindC kindOf ((p,w)::P.zip vs) m x=_
  unfold bindC
  exact jgJ (i:=i) (G1K.mp nd).2 (by simpa using h1) (by simpa using h2) hk
def start (N:List Str) (vs:List V):St:=vs.map some++List.replicate (N.length-vs.length) none
def jme (CX:CXT) (P:Program) (w:World) (K:PySem.W.Frag) (mg:Str→Option Value) (base:Heap) (N:List Str) (qual:Str) (scope:Scope) (f:Addr) (cd:Value) (A:Around) (outer:List Env) (s:Shared) (H:Hp) (E:XK):Cx where
 prog:=P
 w:=w
 K:=K
 mg:=mg
 base:=base
 A:=A.deeper (envOfC qual scope s.heap.objs.size f cd)
 N:=N
 s₀:=s
 H₀:=H
 env:=envOfC qual scope s.heap.objs.size f cd
 outer:=outer
 stack:=envOfC qual scope s.heap.objs.size f cd::outer
 ex:= []
 calm:=true
 fn:=fun _=>true
 pn:= []
 xe:=fun e s' =>wpAny (model P w) (A.deeper (envOfC qual scope s.heap.objs.size f cd)) (leaving (envOfC qual scope s.heap.objs.size f cd) e) (fun _ s'' =>CX outer H s E e s'') (fun e' s'' =>CX outer H s E e' s'') s'
theorem jei {sc:Scope} {n:Nat} {x:Str} (h:sc.names.lookup x=some .cell): ∃c,(cellsFrom n sc.names []).lookup x=some c:=by
 have q:=G30 sc.names n [] (.inl h)
 exact G3G.mp q
theorem jjz {CX:CXT} {P:Program} {w:World} {K:PySem.W.Frag} {mg:Str→Option Value} {base:Heap} {N ps:List Str} {qual:Str} {scope:Scope} {f:Addr} {cd:Value} {A:Around} {outer:List Env} {s s1:Shared} {H:Hp} {E:XK} {us:List Value} {vs:List V}
 (S:FnScope N ps scope) (hd:A.handled=none) (e0:Env0 P w K mg base A outer s H) (hl:vs.length=ps.length) (r:Vals vs us)
 (x:InCallC s s.heap.objs.size (bindL (envOfC qual scope s.heap.objs.size f cd).kindOf (ps.zip us) fun _=>none) (cellsFrom (s.heap.objs.size+1) scope.names []) (bindC (envOfC qual scope s.heap.objs.size f cd).kindOf (ps.zip us) fun _=>none) s1):
 Inv (jme CX P w K mg base N qual scope f cd A outer s H E) [] (start N vs) H s1:=by
 have hpl:ps.length≤N.length:=by have:=congrArg List.length S.pre;rw [G0v] at this;omega
 obtain⟨h1,tk,rfl,hk⟩:=x.done
 have noA: ∀b:Addr,b ∉ (jme CX P w K mg base N qual scope f cd A outer s H E).ex:=fun b z=>absurd (show b∈([]:List Addr) from z) (by simp)
 refine⟨⟨e0.mod,S.kind,rfl,rfl,G0f _,fun y z c h1 h2=> ?_,fun y hy=> ?_,fun y c _ h=> ?_,fun _=>hd,Around.frames_deeper e0.frames,.inr ⟨rfl,rfl⟩,fun b z=>absurd z (noA b),e0.bs,e0.bsz,fun b _ _=>noA b,fun b z=>absurd z (noA b),e0.funs,e0.frf⟩,
  rfl,e0.bare,Un.kept hk,⟨_,x.toInCall.ns,fun i y v h1 h2 h3=> ?_⟩,fun y c h=>⟨_,x.cell y c h⟩,e0.hok.fresh (G0f _),fun y c h=> ?_,fun p hp=>absurd (show p∈([]:List (Addr×Obj)) from hp) (by simp),e0.hok.kept hk,?_⟩
 ·exact name_of_addr x.apart (G2r h1) (G2r h2)
 ·have hy:scope.names.lookup y=some .cell∨scope.names.lookup y=some .free:=hy
  rcases hy with hy|hy
  ·exact jei hy
  ·exact absurd rfl (S.nofree _ (G2r hy))
 ·exact G1j (x.above y c (G2r h))
 ·have hi:i<vs.length:=by
   unfold start at h2
   by_cases hi:i<vs.length
   ·exact hi
   ·rw [G0o (by simpa using hi)] at h2
    rw [G3P] at h2
    split at h2<;>cases h2
  have ha:vs[i]? =some v:=by
   unfold start at h2
   rw [G0H (by simpa using hi),G0i] at h2
   cases e:vs[i]? with
   |none=>rw [e] at h2;cases h2
   |some a=>rw [e] at h2;cases h2;rfl
  obtain⟨u,hu,rv⟩:=r.get ha
  have hp:ps[i]? =some y:=by
   rw [←S.pre,G1G (by omega)];exact h1
  have ndP:ps.Nodup:=by rw [←S.pre];exact S.nd.sublist (G2l _ _)
  refine⟨u,rv,?_⟩
  rcases S.par y (G0h hp) with k|k
  ·exact .inl ⟨k,jgI ndP hp hu k⟩
  ·obtain⟨c,e⟩:=jei (n:=s.heap.objs.size+1) k
   refine .inr ⟨.inl k,c,e,?_⟩
   have q:=x.cell y c e
   rw [jgJ ndP hp hu (by show scope.names.lookup y≠_;rw [k];decide)] at q
   exact q
 ·exact e0.hok.fresh (G1j (x.above y c (G2r h)))
 ·unfold start
  show _=N.length
  rw [G0e,G0c,List.length_replicate]
  omega
theorem jqC {CX:CXT} {P:Program} {w:World} {K:PySem.W.Frag} {mg:Str→Option Value} {base:Heap} {k:Nat} {f:Addr} {name qual:Str} {params:Arguments} {body:List Stmt} {scope:Scope} {dV kV doc pm cdv ct oc:Value} {an od:Option Addr}
 {osl:Array (Option Value)} {N ps:List Str} {sp:Sp} (lk:K.lookup f=some ⟨oc,od,.func (PySem.W.fnOf name qual params body scope dV kV doc pm an cdv ct),osl⟩) (hcd:PySem.W.codeIn K cdv qual=true) (S:FnScope N ps scope)
 (len: ∀vs H Q E,sp vs H Q E→vs.length=ps.length)
 (hbody: ∀ (A:Around) (outer:List Env) (s:Shared) (H:Hp) (vs:List V) (Q:VK) (E:XK),Room k (A.deeper (envOfC qual scope s.heap.objs.size f cdv))→sp vs H Q E→
  ∃t,PSs (jme CX P w K mg base N qual scope f cdv A outer s H E) body t∧t {nx:=fun _ H' =>Q .non H',rt:=Q} (start N vs) H):
 FnOk P w K mg base CX (k+1) f (PySem.W.fnOf name qual params body scope dV kV doc pm an cdv ct) ps sp:=by
 refine⟨len,fun A outer s H args us vs Q E hr e0 hb r hsp=> ?_⟩
 have hl:=len _ _ _ _ hsp
 have KX:K.In s.heap:=e0.mod.kin.keeps fun b o e=>(e0.bs b o e).1
 have lim:s.heap.NoLimit:=e0.mod.nolimit.keeps fun b o e=>(e0.bs b o e).1
 have hkind: ∀y∈ps.zip us,scope.names.lookup y.1=some .local∨(scope.names.lookup y.1=some .cell∧((cellsFrom (s.heap.objs.size+1) scope.names []).lookup y.1).isSome=true):=fun ⟨n,v⟩ hy=>by
  rcases S.par n (G2k hy).1 with q|q
  ·exact .inl q
  ·exact .inr ⟨q,G30 _ _ _ (.inl q)⟩
 refine codeAny_call_function hr.depth (KX _ _ lk) rfl S.co S.gen rfl (PySem.W.codeRec_of KX hcd) (hb _ _ _ _ ?_)
 refine wpAny_newFunctionEnv_cells S.kind hkind fun env he s1 x=> ?_
 subst he
 refine⟨lim.keeps x.toInCall.keep,codeAny_func ?_⟩
 obtain⟨t,ht,hq⟩:=hbody A outer s H vs Q E (hr.deeper _) hsp
 have I:Inv (jme CX P w K mg base N qual scope f cdv A outer s H E) [] (start N vs) H s1:=jjz S hr.hd e0 hl r x
 refine G08 (ht [] s1 (start N vs) H _ I hq) (fun fl s' hs=> ?_) fun e s' hs=>hs
 have fin: ∀ {σ' :St} {H' :Hp} {v:V} {u:Value},Inv (jme CX P w K mg base N qual scope f cdv A outer s H E) [] σ' H' s' →RelV v u→Q v H' →CE outer P w H s Q u s' :=
  fun {σ' H' v u} J rv q=>⟨v,H',J.os,J.bare,J.base,J.hok,rv,q⟩
 cases fl with
 |ret u=>
  obtain⟨v,σ',H',J,rv,q⟩:=hs
  exact fin J rv q
 |next=>
  obtain⟨σ',H',J,q⟩:=hs
  exact fin (v:=V.non) (u:=Value.none) J rfl q
 |brk=>
  obtain⟨_,_,_,q⟩:=hs
  exact False.elim q
 |cont=>
  obtain⟨_,_,_,q⟩:=hs
  exact False.elim q
section
variable {X:Cx} {x:Str} {p pos:Pos} {e:Expr} {es:List Expr} {t:TA} {id T:String} {r:List V→Hp→VK→Prop}
def tCB (r:List V→Hp→VK→Prop) (t:TA):TE:=fun σ H Q=>t σ H fun vs H1=>r vs H1 Q
theorem jfD (hc:CallR X (.builtin id) r) (hg:Gl X x) (hm:X.mg x=none) (hv:bootBuiltins x=some (.builtin id)) (ha:PA X (e::es) t) (hn:x≠ "__name__" :=by decide) (hdb:(x==("__debug__" :Str))=false:=by decide)
 (he:starEach (e::es) X.env=(false,eval e X.env)::starEach es X.env:=by rfl) (hpl:(backTo pos (starEach es X.env)).any (·.1)=false:=by rfl):PE X (.Call (.Name x p) (e::es) [] pos) (tCB r t):=by
 intro pins s σ H Q I h
 refine G3y (jd4 I hg hm hv ?_ hn hdb)
 exact PyProof.Rows.callWith_builtin1 (thn (ha pos pins s σ H _ I h) fun us s1 ⟨vs,H1,I1,r1,q1⟩=>hc pins s1 σ H1 vs us Q I1 r1 q1) he hpl
theorem jen (hc:CallR X (.type T) r) (hg:Gl X x) (hm:X.mg x=none) (hv:bootBuiltins x=some (.type T)) (ha:PA X (e::es) t) (hn:x≠ "__name__" :=by decide) (hdb:(x==("__debug__" :Str))=false:=by decide)
 (he:starEach (e::es) X.env=(false,eval e X.env)::starEach es X.env:=by rfl) (hpl:(backTo pos (starEach es X.env)).any (·.1)=false:=by rfl):PE X (.Call (.Name x p) (e::es) [] pos) (tCB r t):=by
 intro pins s σ H Q I h
 refine G3y (jd4 I hg hm hv ?_ hn hdb)
 exact G1z (thn (ha pos pins s σ H _ I h) fun us s1 ⟨vs,H1,I1,r1,q1⟩=>hc pins s1 σ H1 vs us Q I1 r1 q1) he hpl
end
end L2
namespace HT
open PySem PyProof.Rows
def jaJ:List Int→List Int→Bool
 | [],[]=>false
 | [],_::_=>true
 |_::_,[]=>false
 |x::xs,y::ys=>if x=y then jaJ xs ys else decide (x<y)
theorem jcZ (x y:Int) (xs ys:List Int):jaJ (x::xs) (y::ys)=if x=y then jaJ xs ys else decide (x<y):=rfl
theorem jfE:jaJ [] []=false:=rfl
theorem jeZ (y:Int) (ys:List Int):jaJ [] (y::ys)=true:=rfl
theorem je0 (x:Int) (xs:List Int):jaJ (x::xs) []=false:=rfl
theorem jh6 (A:Around) (s:Shared) (a:Int) (t:Tok) (c:Int) (u:Tok): ∃e,SeqAt.EqAt A s (.int a t) (.int c u) e∧(e=true↔a=c):=
 ⟨(a==c),SeqAt.EqAt.int_int a t c u,by simp⟩
theorem jk3 (A:Around) (s:Shared) (a:Int) (t:Tok) (c:Int) (u:Tok) (prog:Program) (w:World) (E:Value→Shared→Prop) (Q:Value→Shared→Prop) (h:Q (.bool (decide (a<c))) s):
 wpAny (model prog w) A (richCompare .Lt (.int a t) (.int c u)) Q E s:=
 (PyProof.Rows.lt_int h:wpAny (model prog w) A (compareOp .Lt (.int a t) (.int c u)) Q E s)
section
open PySem.SeqAt
open PySem.AutoSeq1 (wpAny_loadPart')
open PySem.MeetsSeq PySem.MeetsSeq2 PySem.MeetsSeq3
theorem jdx (l b:Addr) (items items2:Array Value) (n n2:Nat) (dd dd2:Option Addr) (sl sl2:Array (Option Value)) (ns ms:List Int) (hi:IntsAre items.toList ns) (hj:IntsAre items2.toList ms):
 Meets (Builtin.«tuple.__lt__» ⟨[.ref l,.ref b],[]⟩)
  (fun _ R s=>s.heap.get? l=some {cls:= .type "tuple",dict:=dd,data:= .seq items n,slots:=sl}∧s.heap.get? b=some {cls:= .type "tuple",dict:=dd2,data:= .seq items2 n2,slots:=sl2}∧
   R (.ok (.ret (.bool (jaJ ns ms)))) s):=
 .of_wp fun prog w A R s h=>by
  obtain⟨hp,g,d,tk,os⟩:=s;obtain⟨hl,hb,h⟩:=h
  have f2:=AutoSeq1.sub_tuple_tuple
  have z1:items.size=ns.length:=by rw [←hi.length];simp
  have z2:items2.size=ms.length:=by rw [←hj.length];simp
  wp_walk using wpAny_loadPart' hl,wpAny_loadPart' hb,wpAny_forIn_list _ (fun rest b s' =>b.1=none∧s' =⟨hp,g,d,tk,os⟩∧ ∃ (vs ws:List Value) (ns' ms' :List Int),rest=vs.zip ws∧
   IntsAre vs ns' ∧IntsAre ws ms' ∧ns'.length+items2.size=ms'.length+items.size∧R (.ok (.ret (.bool (jaJ ns' ms')))) ⟨hp,g,d,tk,os⟩) _
  case turn=>
   rintro ⟨y,x⟩ rest b s' ⟨hb',rfl,vs,ws,ns',ms',hz,hvi,hwi,hlen,hR⟩
   cases hvi with
   |nil=>rw [G3H] at hz;cases hz
   |cons a t hvi' =>
    cases hwi with
    |nil=>rw [List.zip_nil_right] at hz;cases hz
    |cons c u hwi' =>
     rw [G2y] at hz
     injection hz with hyx hrest
     injection hyx with hy hx
     subst hy hx
     rw [jcZ] at hR
     simp only [G0k] at hlen
     obtain⟨e,he,hiff⟩:=jh6 A.in1 ⟨hp,g,d,tk,os⟩ a t c u
     refine wpAny_bind (he prog w _ _ ?_)
     cases e with
     |true=>
      rw [if_pos (hiff.mp rfl)] at hR
      wp_walk
      exact⟨rfl,rfl,_,_,_,_,hrest,hvi',hwi',by omega,hR⟩
     |false=>
      rw [if_neg (fun q=>absurd (hiff.mpr q) G0t)] at hR
      have hri:=jk3 A.in1 ⟨hp,g,d,tk,os⟩ a t c u prog w
      wp_walk using hri
      exact⟨_,rfl,by simpa using hR⟩
  case fin=>
   rintro ⟨b1,b2⟩ s' ⟨hb',rfl,vs,ws,ns',ms',hz,hvi,hwi,hlen,hR⟩
   simp only at hb'
   subst hb'
   have hv:jaJ ns' ms' =decide (items.size<items2.size):=by
    cases hvi with
    |nil=>
     cases hwi with
     |nil=>
      simp only [G0I] at hlen
      rw [jfE]
      exact(G0L (by omega)).symm
     |cons c u hw=>
      simp only [G0I,G0k] at hlen
      rw [jeZ]
      exact(G0r (by omega)).symm
    |cons a t hv=>
     cases hwi with
     |nil=>
      simp only [G0I,G0k] at hlen
      rw [je0]
      exact(G0L (by omega)).symm
     |cons c u hw=>
      rw [G2y] at hz
      cases hz
   rw [hv] at hR
   wp_walk
   exact⟨_,rfl,by simpa [Builtin.Tuple.tupleCompareSizes] using hR⟩
  case h=>
   exact⟨rfl,rfl,items.toList,items2.toList,ns,ms,rfl,hi,hj,by omega,h⟩
end
section
variable {prog:Program} {w:World} {A:Around} {E:Value→Shared→Prop} {s:Shared}
theorem jiN {l b:Addr} {items items2:Array Value} {ns ms:List Int} {Q:Value→Shared→Prop} (hl:IsTup s.heap l items) (hb:IsTup s.heap b items2) (hi:IntsAre items.toList ns) (hj:IntsAre items2.toList ms)
 (hu:A.units<cLine) (h:Q (.bool (jaJ ns ms)) s):wpAny (model prog w) A (compareOp .Lt (.ref l) (.ref b)) Q E s:=by
 obtain⟨⟨cls,dd,data,sl⟩,ho,hc,n,hd⟩:=id hl
 obtain⟨⟨cls2,dd2,data2,sl2⟩,ho2,hc2,n2,hd2⟩:=id hb
 simp only at hc hd hc2 hd2
 subst hc hd hc2 hd2
 exact richCompare_meets_room (op:= .Lt) ⟨_,ho,rfl⟩ ⟨_,ho2,rfl⟩ G3a G31 (G3Q _ _) (jdx l b items items2 n n2 dd dd2 sl sl2 ns ms hi hj)
  ⟨ho,ho2,show Value.bool (jaJ ns ms)≠Value.notImplemented∧Q (.bool (jaJ ns ms)) s from ⟨(fun x=>nomatch x),h⟩⟩ hu
theorem jmU {t b:Addr} {vs ws:List Value} {Q:Value→Shared→Prop} (ht:IsTup s.heap t vs.toArray) (hb:IsTup s.heap b ws.toArray) (hv:vs≠ [])
 (h1:ws= []→Q (.ref t) s) (h2:ws≠ []→Q (.ref s.heap.objs.size) {s with heap:=s.heap.push {cls:= .type "tuple",data:= .seq (vs++ws).toArray}})
 (hsz:vs.length+ws.length≤sizeLine):wpAny (model prog w) A (binaryOp .Add (.ref t) (.ref b)) Q E s:=by
 obtain⟨⟨cls,dd,data,sl⟩,ho,hc,n,hd⟩:=id ht
 obtain⟨⟨cls2,dd2,data2,sl2⟩,ho2,hc2,n2,hd2⟩:=id hb
 simp only at hc hd hc2 hd2
 subst hc hd hc2 hd2
 have e:vs.toArray++ws.toArray=(vs++ws).toArray:=by simp
 by_cases hw:ws= []
 ·exact concat_meets ⟨_,ho,rfl⟩ ⟨_,ho2,rfl⟩ G3V seq_tuple_add G2Z G2R (G2N _ _)
   (tuple_addW1 t b vs.toArray ws.toArray n n2 dd dd2 sl sl2 (by simpa using hv) (by simp [hw])) ⟨ho,ho2,h1 hw⟩
 ·refine concat_meets ⟨_,ho,rfl⟩ ⟨_,ho2,rfl⟩ G3V seq_tuple_add G2Z G2R (G2N _ _)
   (tuple_addW2 t b vs.toArray ws.toArray n n2 dd dd2 sl sl2 (by simpa using hv) (by simpa using hw) (by rw [G0u,G0u];exact hsz)) ⟨ho,ho2,?_⟩
  rw [e]
  exact h2 hw
def sIx (n d:Nat):Option Int→Nat
 |none=>d
 |some v=>if v<0 then (v+(n:Int)).toNat else min v.toNat n
theorem joN (n d:Nat) (hd:d≤n) (o:Option Int):sIx n d o≤n:=by
 cases o with
 |none=>exact hd
 |some v=>
  show (if v<0 then (v+(n:Int)).toNat else min v.toNat n)≤n
  by_cases hv:v<0
  ·rw [if_pos hv];omega
  ·rw [if_neg hv];exact G3W _ _
theorem jjA (v:Int) (n d:Nat):(if v<0 then max (v+(n:Int)) 0 else min v (n:Int))=((sIx n d (some v):Nat):Int):=by
 show (if v<0 then max (v+(n:Int)) 0 else min v (n:Int))=(((if v<0 then (v+(n:Int)).toNat else min v.toNat n):Nat):Int)
 by_cases hv:v<0
 ·simp only [if_pos hv];omega
 ·simp only [if_neg hv];omega
theorem jiO (lo hi:Option Int) (n:Nat):Builtin.Slice.sliceAdjust lo hi 1 (n:Int)=(((sIx n 0 lo:Nat):Int),((sIx n n hi:Nat):Int)):=by
 have h1: ¬ ((1:Int)<0):=by omega
 unfold Builtin.Slice.sliceAdjust
 simp only [h1,G4w]
 refine Prod.ext ?_ ?_
 ·cases lo with
  |none=>rfl
  |some v=>exact jjA v n 0
 ·cases hi with
  |none=>rfl
  |some v=>exact jjA v n n
theorem jiP (i j:Nat):Builtin.Slice.slicePlaces (i:Int) (j:Int) 1=j-i:=by
 unfold Builtin.Slice.slicePlaces
 have h1:(1:Int)>0:=by omega
 simp only [h1,if_true,Int.ediv_one]
 split<;>omega
theorem je9 {v:Value} {o:Option Int} {Q:Option Int→Shared→Prop} (p:IsPart v o) (h:Q o s):wpAny (model prog w) A (Builtin.Slice.slicePartIndex v) Q E s:=by
 cases p with
 |none=>exact slicePart_none h
 |int i t=>exact slicePart_int h
theorem jcE {sl:Addr} {vl vu:Value} {lo hi:Option Int} {n:Nat} {Q:Int×Int×Nat→Shared→Prop} (hs:s.heap.IsSliceOf sl vl vu .none) (pl:IsPart vl lo) (pu:IsPart vu hi)
 (h:Q (((sIx n 0 lo:Nat):Int),1,sIx n n hi-sIx n 0 lo) s):wpAny (model prog w) A (Builtin.Slice.sliceApplied (.ref sl) (pure (n:Int))) Q E s:=by
 obtain⟨os,hos,hcs,hds⟩:=id hs
 unfold Builtin.Slice.sliceApplied Builtin.Slice.sliceFields
 refine wpAny_bind (wpAny_bind (wpAny_field hos hds (x:=vl) rfl (wpAny_bind (wpAny_field hos hds (x:=vu) rfl (wpAny_bind (wpAny_field hos hds (x:= .none) rfl (G0d ?_)))))))
 refine wpAny_bind (slicePart_none ?_)
 show wpAny _ _ (if ((1:Int)==0)=true then _ else _) _ _ s
 rw [if_neg (by decide)]
 refine wpAny_bind (je9 pl (wpAny_bind (je9 pu (wpAny_bind (G0d ?_)))))
 show wpAny _ _ (match Builtin.Slice.sliceAdjust lo hi 1 (n:Int) with|(lo,hi)=>pure (lo,(1:Int),Builtin.Slice.slicePlaces lo hi 1)) _ _ s
 rw [jiO lo hi n]
 show wpAny _ _ (pure (((sIx n 0 lo:Nat):Int),(1:Int),Builtin.Slice.slicePlaces ((sIx n 0 lo:Nat):Int) ((sIx n n hi:Nat):Int) 1)) _ _ s
 rw [jiP]
 exact G0d h
theorem jk4 (xs:Array Value) (i k:Nat):((List.range k).filterMap fun (m:Nat)=>xs[((i:Int)+(m:Int)*1).toNat]?).toArray=((xs.toList.drop i).take k).toArray:=by
 have e:(fun (m:Nat)=>xs[((i:Int)+(m:Int)*1).toNat]?)=fun m=>xs[i+m]? :=by
  funext m
  have:((i:Int)+(m:Int)*1).toNat=i+m:=by omega
  rw [this]
 rw [e]
 have:=pick_run xs i k
 rw [List.filterMap_map] at this
 have e2:((fun x=>xs[x]?)∘fun x=>i+x)=fun m=>xs[i+m]? :=rfl
 rw [e2] at this
 rw [this]
theorem jdO {t sl:Addr} {items:Array Value} {vl vu:Value} {lo hi:Option Int} {Q:Value→Shared→Prop} (ht:IsTup s.heap t items) (hs:s.heap.IsSliceOf sl vl vu .none) (pl:IsPart vl lo) (pu:IsPart vu hi)
 (hw: ¬ (sIx items.size 0 lo=0∧sIx items.size items.size hi=items.size))
 (h:Q (.ref s.heap.objs.size) {s with heap:=s.heap.push {cls:= .type "tuple",data:= .seq ((items.toList.drop (sIx items.size 0 lo)).take (sIx items.size items.size hi-sIx items.size 0 lo)).toArray}})
 (hsz:items.size≤sizeLine):wpAny (model prog w) A (getItem (.ref t) (.ref sl)) Q E s:=by
 have htake:sizeOk (.seq ((items.toList.drop (sIx items.size 0 lo)).take (sIx items.size items.size hi-sIx items.size 0 lo)).toArray):=by
  show ((items.toList.drop (sIx items.size 0 lo)).take (sIx items.size items.size hi-sIx items.size 0 lo)).toArray.size≤sizeLine
  rw [G0u,G0v,G0Q,G0j]
  omega
 have hj:sIx items.size items.size hi≤items.size:=joN _ _ (G0f _) hi
 obtain⟨os,hos,hcs,hds⟩:=id hs
 have hTs:s.TypeIs (.ref sl) "slice" :=⟨os,hos,hcs⟩
 unfold getItem
 try with_reducible refine G1x ?_
 first|refine wpAny_bind (G0d ?_)|skip
 refine wpAny_bind (wpAny_sequenceKey ht.typeIs (by decide) ?_)
 refine wpAny_bind (G1o (name:=Str.ofString "__getitem__") ht.typeIs G1R
  (G1p G1R ht.typeIs entry_tuple_getitem ?_ (args_tuple_getitem _ _)))
 show wpAny _ _ (Builtin.Tuple.tupleItemsOf (.ref t) >>= _) _ _ s
 refine wpAny_bind (tupleItemsOf_ ht ?_)
 refine wpAny_bind (G35 hTs ?_)
 rw [if_pos (by decide)]
 refine wpAny_bind (jcE hs pl pu ?_)
 have hno: ¬ ((((sIx items.size 0 lo:Nat):Int)==0&&(1:Int)==1&&(sIx items.size items.size hi-sIx items.size 0 lo)==items.size)=true):=by
  intro q
  rw [G1q,G1q] at q
  have q1:((sIx items.size 0 lo:Nat):Int)=0:=eq_of_beq q.1.1
  have q2:sIx items.size items.size hi-sIx items.size 0 lo=items.size:=eq_of_beq q.2
  exact hw ⟨by omega,by omega⟩
 show wpAny _ _ (if (((sIx items.size 0 lo:Nat):Int)==0&&(1:Int)==1&&(sIx items.size items.size hi-sIx items.size 0 lo)==items.size)=true then _ else _) _ _ s
 rw [if_neg hno,jk4]
 first
  |exact wpAny_bind (m:=Builtin.Tuple.tupleExact _) (G2h (G0d ⟨_,rfl,G0d h⟩) htake)
  |exact wpAny_bind (m:=Builtin.Tuple.tupleExact _) (G2h (wpAny_bind (G0d (G0d ⟨_,rfl,G0d h⟩))) htake)
  |exact wpAny_bind (wpAny_bind (m:=Builtin.Tuple.tupleExact _) (G2h (G0d (G0d ⟨_,rfl,G0d h⟩)) htake))
  |exact wpAny_bind (wpAny_bind (m:=Builtin.Tuple.tupleExact _) (G2h (G0d ⟨_,rfl,G0d h⟩) htake))
end
end HT
namespace L2
open PySem PySem.Spec PyProof.Rows
abbrev TO:=St→Hp→(Option Int→Hp→Prop)→Prop
def PO (X:Cx) (e:Option Expr) (t:TO):Prop:=
 ∀ (pins:List (Addr×Obj)) (s:Shared) (σ:St) (H:Hp) (Q:Option Int→Hp→Prop),Inv X pins σ H s→t σ H Q→
  wpAny (model X.prog X.w) X.A (evalPart e X.env) (fun u s' => ∃o H',Inv X pins σ H' s' ∧IsPart u o∧Q o H') X.xe s
def jmV:TO:=fun _ H Q=>Q none H
def jqD (t:TE):TO:=fun σ H Q=>t σ H fun x H1=> ∃i,x= .int i∧Q (some i) H1
section
variable {X:Cx} {e:Expr} {te:TE} {lo hi:Option Expr} {tl th:TO} {pos p2:Pos}
theorem po_none:PO X none jmV:=by
 intro pins s σ H Q I h
 rw [evalPart_none]
 exact G0d ⟨none,H,I,.none,h⟩
theorem jmW (h:PE X e te):PO X (some e) (jqD te):=by
 intro pins s σ H Q I hw
 rw [evalPart_some]
 refine thn (h pins s σ H _ I hw) fun u s1 ⟨x,H1,I1,r1,q1⟩=> ?_
 obtain⟨i,rfl,q⟩:=q1
 obtain⟨t,rfl⟩:=r1
 exact⟨some i,H1,I1,.int i t,q⟩
def SlR (X:Cx) (r:V→Option Int→Option Int→Hp→VK→Prop):Prop:=
 ∀ (pins:List (Addr×Obj)) (s:Shared) (σ:St) (H:Hp) (x:V) (v vl vu:Value) (lo hi:Option Int) (sl:Addr) (Q:VK),Inv X pins σ H s→RelV x v→s.heap.IsSliceOf sl vl vu .none→IsPart vl lo→IsPart vu hi→r x lo hi H Q→
  ∃T id,typeLookup (.type T) "__getitem__" =pure (some (.builtin id))∧s.TypeIs v T∧wpAny (model X.prog X.w) X.A (getItem v (.ref sl)) (EP X pins σ Q) X.xe s
theorem SlR.or {r r' :V→Option Int→Option Int→Hp→VK→Prop} (h:SlR X r) (h' :SlR X r'):SlR X (fun x lo hi H Q=>r x lo hi H Q∨r' x lo hi H Q):=by
 intro pins s σ H x v vl vu lo hi sl Q I rx hs pl pu q
 rcases q with q|q
 ·exact h pins s σ H x v vl vu lo hi sl Q I rx hs pl pu q
 ·exact h' pins s σ H x v vl vu lo hi sl Q I rx hs pl pu q
def tSl (r:V→Option Int→Option Int→Hp→VK→Prop) (te:TE) (tl th:TO):TE:=fun σ H Q=>te σ H fun x H1=>tl σ H1 fun l H2=>th σ H2 fun u H3=>r x l u H3 Q
theorem jk5 {r:V→Option Int→Option Int→Hp→VK→Prop} (hr:SlR X r) (he:PE X e te) (hl:PO X lo tl) (hu:PO X hi th):PE X (.Subscript e (.Slice lo hi none p2) pos) (tSl r te tl th):=by
 intro pins s σ H Q I h
 refine Subscript_ (thn (he pins s σ H _ I h) fun v s1 ⟨x,H1,I1,r1,q1⟩=> ?_)
 refine wpAny_Slice (thn (hl pins s1 σ H1 _ I1 q1) fun vl s2 ⟨l,H2,I2,pl,q2⟩=>thn (hu pins s2 σ H2 _ I2 q2) fun vu s3 ⟨u,H3,I3,pu,q3⟩=> ?_)
 rw [evalPart_none]
 refine G0d ?_
 have I4:Inv X pins σ H3 {s3 with heap:=s3.heap.push {cls:= .type "slice",data:= .fields #[vl,vu,.none]}}:=I3.kept (t' :=s3.toks) fun b ob q=>G0a _ q
 obtain⟨T,id,hT,ht,hg⟩:=hr pins {s3 with heap:=s3.heap.push {cls:= .type "slice",data:= .fields #[vl,vu,.none]}} σ H3 x v vl vu l u s3.heap.objs.size Q I4 r1 (Heap.IsSliceOf.new ..) pl pu q3
 show wpAny (model X.prog X.w) X.A (subscriptTail e (.Slice lo hi none p2) v (.ref s3.heap.objs.size)) (EP X pins σ Q) X.xe {s3 with heap:=s3.heap.push {cls:= .type "slice",data:= .fields #[vl,vu,.none]}}
 exact tail_any (ops:= [.ref s3.heap.objs.size,v]) ht hT hg (by with_unfolding_all rfl)
def jkS (xs:List V) (lo hi:Option Int):List V:=(xs.drop (HT.sIx xs.length 0 lo)).take (HT.sIx xs.length xs.length hi-HT.sIx xs.length 0 lo)
theorem jeo (xs:List V) (lo hi:Option Int):(jkS xs lo hi).length≤xs.length:=by
 unfold jkS
 rw [G0v,G0Q]
 omega
def jrO (K:PySem.W.Frag):V→Option Int→Option Int→Hp→VK→Prop:=fun x lo hi H Q=> ∃a xs,x= .ref a∧SqT K H a xs∧
 ¬ (HT.sIx xs.length 0 lo=0∧HT.sIx xs.length xs.length hi=xs.length)∧ ∀p,H p=none→Q (.ref p) (upd H p (.tup (jkS xs lo hi)))
theorem sl_tup:SlR X (jrO X.K):=by
 intro pins s σ H x v vl vu lo hi sl Q I rx hs pl pu h
 obtain⟨a,xs,rfl,hx,hw,q⟩:=h
 cases rx
 obtain⟨its,r,ht,hz⟩:=I.tuple hx
 have hlen:its.toArray.size=xs.length:=by rw [G0u];exact r.length.symm
 refine⟨"tuple",_,PyProof.Rows.slot_tuple_getitem.lookup,ht.typeIs,?_⟩
 refine HT.jdO ht hs pl pu (by rw [hlen];exact hw) ?_ (by rw [hlen];exact hz)
 rw [hlen]
 refine⟨.ref s.heap.objs.size,_,I.laid (t' :=s.toks) (o:= .tup (jkS xs lo hi)) (fun b ob q=>G0a _ q) (G0f _) ?_,rfl,q _ (I.hok.fresh (G0f _))⟩
 exact⟨G01 (jeo xs lo hi) hz,_,(r.drop (HT.sIx xs.length 0 lo)).take (HT.sIx xs.length xs.length hi-HT.sIx xs.length 0 lo),IsTupN.new _ _⟩
def jqE (K:PySem.W.Frag):R2:=fun x y H Q=> ∃a b xs ys,x= .ref a∧y= .ref b∧SqT K H a xs∧SqT K H b ys∧xs≠ []∧xs.length+ys.length≤sizeLine∧
 (ys= []→Q (.ref a) H)∧(ys≠ []→ ∀p,H p=none→Q (.ref p) (upd H p (.tup (xs++ys))))
theorem Vals.nil_iff {xs:List V} {us:List Value} (r:Vals xs us):us= []↔xs= []:=by
 cases r with
 |nil=>simp
 |cons _ _=>simp
theorem op_catT:OpR X (binaryOp .Add) (jqE X.K):=by
 intro pins s σ H x y v u Q I rx ry h
 obtain⟨a,b,xs,ys,rfl,rfl,ha,hb,hx,hz,q1,q2⟩:=h
 cases rx
 cases ry
 obtain⟨its,r1,p1,_⟩:=I.tuple ha
 obtain⟨its2,r2,p2,_⟩:=I.tuple hb
 refine HT.jmU p1 p2 (fun z=>hx (r1.nil_iff.mp z)) (fun z=>⟨.ref a,H,I,rfl,q1 (r2.nil_iff.mp z)⟩) (fun z=> ?_) (by rw [←r1.length,←r2.length];exact hz)
 refine⟨.ref s.heap.objs.size,_,I.laid (t' :=s.toks) (o:= .tup (xs++ys)) (fun b ob q=>G0a _ q) (G0f _) ?_,rfl,q2 (fun w=>z (r2.nil_iff.mpr w)) _ (I.hok.fresh (G0f _))⟩
 exact⟨by rw [G0e];exact hz,_,r1.append r2,IsTupN.new _ _⟩
end
def ixN (n:Nat) (i:Int):Option Nat:=if 0≤i then (if i<n then some i.toNat else none) else if-(n:Int)≤i then some (i+n).toNat else none
def atI {α:Type} (xs:List α) (i:Int):Option α:=(ixN xs.length i).bind fun j=>xs[j]?
theorem jjB {n:Nat} {i:Int} {j:Nat} (h:ixN n i=some j):seqIndex? i n=some j∧j<n∧ -(n:Int)≤i∧i<n:=by
 unfold ixN at h
 by_cases h0:0≤i
 ·rw [if_pos h0] at h
  by_cases h1:i<n
  ·rw [if_pos h1] at h
   have e:i.toNat=j:=G1a h
   exact⟨by rw [seqIndex_of h0 h1,e],by omega,by omega,h1⟩
  ·rw [if_neg h1] at h;cases h
 ·rw [if_neg h0] at h
  by_cases h1: -(n:Int)≤i
  ·rw [if_pos h1] at h
   have e:(i+n).toNat=j:=G1a h
   exact⟨by rw [seqIndex_neg (by omega) h1,e],by omega,h1,by omega⟩
  ·rw [if_neg h1] at h;cases h
theorem jhx {α:Type} {xs:List α} {i:Int} {v:α} (h:atI xs i=some v): ∃j,seqIndex? i xs.length=some j∧xs[j]? =some v∧j<xs.length∧ -(xs.length:Int)≤i∧i<xs.length:=by
 unfold atI at h
 cases e:ixN xs.length i with
 |none=>rw [e] at h;cases h
 |some j=>
  rw [e] at h
  obtain⟨h1,h2,h3,h4⟩:=jjB e
  exact⟨j,h1,h,h2,h3,h4⟩
theorem jcc {α:Type} {xs:List α} {j:Nat} {v:α} (h:xs[j]? =some v):atI xs (j:Int)=some v:=by
 have hj:j<xs.length:=(G0m.mp h).1
 have e:ixN xs.length (j:Int)=some j:=by
  unfold ixN
  rw [if_pos (by omega),if_pos (by omega)];simp
 unfold atI;rw [e];exact h
def jhy (b:Expr):Prop:= ∀o i,subscripted b false o i=operate [o,i] (getItem o i)
def IxR (X:Cx) (r:R2):Prop:=
 ∀ (value slice:Expr) (pins:List (Addr×Obj)) (s:Shared) (σ:St) (H:Hp) (x y:V) (v u:Value) (Q:VK),Inv X pins σ H s→RelV x v→RelV y u→r x y H Q→
  subscripted slice false v u=operate [v,u] (getItem v u)→wpAny (model X.prog X.w) X.A (subscriptTail value slice v u) (EP X pins σ Q) X.xe s
def MtR (X:Cx) (id:String) (r:V→List V→Hp→VK→Prop):Prop:=
 ∀ (pins:List (Addr×Obj)) (s:Shared) (σ:St) (H:Hp) (x:V) (xs:List V) (v:Value) (us:List Value) (Q:VK),Inv X pins σ H s→RelV x v→Vals xs us→r x xs H Q→
  wpAny (model X.prog X.w) X.A (call (.builtin id) (v::us)) (EP X pins σ Q) X.xe s
section
variable {X:Cx} {a b:Expr} {ta tb:TE} {pos:Pos}
theorem IxR.or {r r' :R2} (h:IxR X r) (h' :IxR X r'):IxR X (fun x y H Q=>r x y H Q∨r' x y H Q):=by
 intro value slice pins s σ H x y v u Q I rx ry q hs
 rcases q with q|q
 ·exact h value slice pins s σ H x y v u Q I rx ry q hs
 ·exact h' value slice pins s σ H x y v u Q I rx ry q hs
theorem jqF {r:R2} (hr:IxR X r) (ha:PE X a ta) (hb:PE X b tb) (hs:jhy b):PE X (.Subscript a b pos) (tOp r ta tb):=by
 intro pins s σ H Q I h
 exact Subscript_ (jqu ha hb I h fun v u s2 x y H2 I2 rx ry q=>hr a b pins s2 σ H2 x y v u Q I2 rx ry q (hs _ _))
def jrt (K:PySem.W.Frag):R2:=fun x y H Q=> ∃p xs i v,x= .ref p∧y= .int i∧SqL K H p xs∧atI xs i=some v∧Q v H
def jru (K:PySem.W.Frag):R2:=fun x y H Q=> ∃p xs i v,x= .ref p∧y= .int i∧SqT K H p xs∧atI xs i=some v∧Q v H
def jrv:R2:=fun x y H Q=> ∃z i c,x= .str z∧y= .int i∧z.length≤sizeLine∧atI z.cps.toList i=some c∧Q (.str ⟨#[c]⟩) H
theorem ix_list:IxR X (jrt X.K):=by
 intro value slice pins s σ H x y v u Q I rx ry h hs
 obtain⟨p,xs,i,z,rfl,rfl,hq,he,q⟩:=h
 cases rx
 obtain⟨t,rfl⟩:=ry
 obtain⟨its,r,pl,hz⟩:=I.list hq
 obtain⟨j,h1,h2,h3,h4,h5⟩:=jhx he
 obtain⟨w,ew,rw'⟩:=r.get h2
 have hl:=r.length
 have hn:=jgF
 have fin:EP X pins σ Q w s:=⟨z,H,I,rw',q⟩
 by_cases h0:0≤i
 ·have hj:i.toNat=j:=by
   rw [seqIndex_of h0 h5] at h1
   exact G1a h1
  exact item_listR pl.isList h0 (by omega) (by rw [hj];simpa using ew) fin hs
 ·have hj:(i+(its.toArray.size:Int)).toNat=j:=by
   rw [seqIndex_neg (by omega) h4] at h1
   rw [G0u,←hl]
   exact G1a h1
  exact subscriptTail_builtinR (x:=w) pl.isList.typeIs slot_list_getitem.lookup
   (wpAny_getItem_list_neg (Q:=fun r s' =>r=w∧EP X pins σ Q r s') pl.isList (by omega) (by rw [G0u]<;>omega) (by omega) (by rw [hj];simpa using ew) ⟨rfl,fin⟩) hs
theorem ix_tup:IxR X (jru X.K):=by
 intro value slice pins s σ H x y v u Q I rx ry h hs
 obtain⟨p,xs,i,z,rfl,rfl,hq,he,q⟩:=h
 cases rx
 obtain⟨t,rfl⟩:=ry
 obtain⟨its,r,pl,hz⟩:=I.tuple hq
 obtain⟨j,h1,h2,h3,h4,h5⟩:=jhx he
 obtain⟨w,ew,rw'⟩:=r.get h2
 have hl:=r.length
 have hn:=jgF
 have fin:EP X pins σ Q w s:=⟨z,H,I,rw',q⟩
 exact subscriptTail_builtinR (x:=w) pl.typeIs slot_tuple_getitem.lookup
  (getItem_tuple (j:=j) (Q:=fun r s' =>r=w∧EP X pins σ Q r s') pl (by omega) (by omega) (by rw [G0u,←hl];exact h1) (by simpa using ew) ⟨rfl,fin⟩) hs
theorem joO:IxR X jrv:=by
 intro value slice pins s σ H x y v u Q I rx ry h hs
 obtain⟨z,i,c,rfl,rfl,hz,he,q⟩:=h
 obtain⟨t,rfl⟩:=rx
 obtain⟨t',rfl⟩:=ry
 obtain⟨j,h1,h2,h3,h4,h5⟩:=jhx he
 have hl:z.cps.toList.length=z.length:=by simp [Str.length]
 rw [hl] at h1 h4 h5
 have hn:=jgF
 exact tail_any (typeIs_str s z t) slot_str_getitem.lookup (getItem_str (c:=c) (by
  have e1:decide (i< -(2^63:Int))=false:=G0L (by omega)
  have e2:decide (i≥2^63)=false:=G0L (by omega)
  rw [e1,e2,Bool.or_false]) (by rw [h1];simpa using h2) ⟨.str ⟨#[c]⟩,H,I.tok _,⟨_,rfl⟩,q⟩) hs
def rIx (K:PySem.W.Frag):R2:=fun x y H Q=>jrt K x y H Q∨jru K x y H Q∨jrv x y H Q
theorem joP:IxR X (rIx X.K):=ix_list.or (ix_tup.or joO)
theorem jiQ (its:List Value) (n j:Nat) (u:Value):Obj.mapSeq (·.setIfInBounds j u) {cls:= .type "list",data:= .seq its.toArray n}= {cls:= .type "list",data:= .seq (its.set j u).toArray n}:=by
 simp [Obj.mapSeq]
theorem Inv.lst {pins:List (Addr×Obj)} {σ:St} {H:Hp} {s:Shared} {p:Addr} {xs:List V} (I:Inv X pins σ H s) (h:H p=some (.lst xs)):
 ∃ (its:List Value) (n:Nat),Vals xs its∧s.heap.get? p=some {cls:= .type "list",data:= .seq its.toArray n}∧xs.length≤sizeLine:=by
 obtain⟨z,its,n,r,e⟩:=I.hok p _ h
 exact⟨its,n,r,e,z⟩
theorem Inv.lstUpd {pins:List (Addr×Obj)} {σ:St} {H:Hp} {s:Shared} {p:Addr} {xs ys:List V} {its its' :List Value} {n n' :Nat} {f:Obj→Obj} (I:Inv X pins σ H s) (h:H p=some (.lst xs))
 (ho:s.heap.get? p=some {cls:= .type "list",data:= .seq its.toArray n}) (hf:f {cls:= .type "list",data:= .seq its.toArray n}= {cls:= .type "list",data:= .seq its'.toArray n'}) (r:Vals ys its') (hz:ys.length≤sizeLine) (t:Nat):
 Inv X pins σ (upd H p (.lst ys)) {s with heap:=s.heap.update p f,toks:=t}:=by
 have e:(s.heap.update p f).get? p=some {cls:= .type "list",data:= .seq its'.toArray n'}:=by
  rw [G0Z f ho (by rw [hf]<;>rfl),hf]
 refine I.write (x:=p) (e:=p) (by rw [h];trivial) (.inl rfl) (fun b u hb q=>(Heap.get?_update_other _ _ (Ne.symm hb)).trans q) ⟨_,e⟩ ?_
 exact⟨hz,its',n',r,e⟩
def jqG:V→V→V→Hp→(Hp→Prop)→Prop:=fun o i v H Q=> ∃p xs k j,o= .ref p∧i= .int k∧H p=some (.lst xs)∧ixN xs.length k=some j∧Q (upd H p (.lst (xs.set j v)))
theorem jk6:jrk X jqG:=by
 intro pins s σ H o i v ov iv u Q I ro ri rv h
 obtain⟨p,xs,k,j,rfl,rfl,hp,hj,q⟩:=h
 cases ro
 obtain⟨t,rfl⟩:=ri
 obtain⟨its,n,r,ho,hz⟩:=I.lst hp
 obtain⟨h1,h2,h3,h4⟩:=jjB hj
 have hl:=r.length
 have hn:=jgF
 have I' :Inv X pins σ (upd H p (.lst (xs.set j v))) {s with heap:=s.heap.update p (Obj.mapSeq (·.setIfInBounds j u))}:=
  I.lstUpd hp ho (jiQ its n j u) (r.set rv j) (by rw [List.length_set];exact hz) s.toks
 by_cases h0:0≤k
 ·have hk:k.toNat=j:=by
   rw [seqIndex_of h0 h4] at h1
   exact G1a h1
  exact PySem.W.ki_setAt ho h0 (by omega) (by rw [G0u,←hl];exact h4) (by rw [hk];exact⟨_,I',q⟩)
 ·have hk:(k+(its.toArray.size:Int)).toNat=j:=by
   rw [seqIndex_neg (by omega) h3] at h1
   rw [G0u,←hl]
   exact G1a h1
  exact PySem.W.ki_setBack ho (by omega) (by rw [G0u,←hl];exact h3) (by omega) (by rw [hk];exact⟨_,I',q⟩)
theorem jgK (lo hi:Option Int) (n:Nat):(sliceBounds lo hi none n).1=((HT.sIx n 0 lo:Nat):Int)∧(sliceBounds lo hi none n).2.1=((HT.sIx n n hi:Nat):Int)∧(sliceBounds lo hi none n).2.2=1:=by
 refine⟨?_,?_,rfl⟩
 ·cases lo with
  |none=>simp [sliceBounds,HT.sIx]
  |some i=>
   simp only [sliceBounds,HT.sIx,Option.getD_none,show (1:Int)>0 by decide,if_true]
   by_cases h:i<0
   ·simp only [h,if_true]<;>omega
   ·simp only [h,G4w]<;>omega
 ·cases hi with
  |none=>simp [sliceBounds,HT.sIx]
  |some i=>
   simp only [sliceBounds,HT.sIx,Option.getD_none,show (1:Int)>0 by decide,if_true]
   by_cases h:i<0
   ·simp only [h,if_true]<;>omega
   ·simp only [h,G4w]<;>omega
theorem jfF (its:List Value) (lo hi:Option Int):slicePick its.toArray lo hi none=((its.drop (HT.sIx its.length 0 lo)).take (HT.sIx its.length its.length hi-HT.sIx its.length 0 lo)).toArray:=by
 obtain⟨h1,h2,h3⟩:=jgK lo hi its.toArray.size
 unfold slicePick
 rw [h1,h2,h3]
 simp only [sliceRange_one,pick_run,G0u]<;>rfl
def jrP (K:PySem.W.Frag):V→Option Int→Option Int→Hp→VK→Prop:=fun x lo hi H Q=> ∃a xs,x= .ref a∧SqL K H a xs∧ ∀p,H p=none→Q (.ref p) (upd H p (.lst (jkS xs lo hi)))
theorem jmX:SlR X (jrP X.K):=by
 intro pins s σ H x v vl vu lo hi sl Q I rx hs pl pu h
 obtain⟨a,xs,rfl,hx,q⟩:=h
 cases rx
 obtain⟨its,r,ht,hz⟩:=I.list hx
 have hlen:=r.length
 refine⟨"list",_,slot_list_getitem.lookup,ht.isList.typeIs,?_⟩
 refine wpAny_getItem_list_slice ht.isList hs pl pu .none (by simp) ?_ (by rw [G0u]<;>omega)
 rw [jfF,←hlen]
 refine⟨.ref s.heap.objs.size,_,I.laid (t' :=s.toks) (o:= .lst (jkS xs lo hi)) (fun b ob q=>G0a _ q) (G0f _) ?_,rfl,q _ (I.hok.fresh (G0f _))⟩
 exact⟨G01 (jeo xs lo hi) hz,_,0,(r.drop (HT.sIx xs.length 0 lo)).take (HT.sIx xs.length xs.length hi-HT.sIx xs.length 0 lo),G0q _ rfl⟩
theorem call_len_seq:CallR X (.builtin "len") (fun xs H Q=> ∃p ys,xs= [.ref p]∧(SqL X.K H p ys∨SqT X.K H p ys)∧Q (.int ys.length) H):=by
 intro pins s σ H xs us Q I r h
 obtain⟨p,ys,rfl,hq,q⟩:=h
 obtain⟨u,rfl,rx⟩:=jeb r
 cases rx
 have hn:=jgF
 rcases hq with hq|hq
 ·obtain⟨its,r',pl,hz⟩:=I.list hq
  have hlen:=r'.length
  exact Calls.call_len_list pl.isList (by simp only [G0u]<;>omega) ⟨.int ys.length,H,I.tok _,⟨s.toks+1,by rw [G0u,hlen]⟩,q⟩
 ·obtain⟨its,r',pl,hz⟩:=I.tuple hq
  have hlen:=r'.length
  exact len_tuple pl (by simp only [G0u]<;>omega) ⟨.int ys.length,H,I.tok _,⟨s.toks+1,by rw [G0u,hlen]⟩,q⟩
theorem call_tuple_of:CallR X (.type "tuple") (fun xs H Q=> ∃p ys,xs= [.ref p]∧((SqL X.K H p ys∧ ∀l,H l=none→Q (.ref l) (upd H l (.tup ys)))∨(SqT X.K H p ys∧Q (.ref p) H))):=by
 intro pins s σ H xs us Q I r h
 obtain⟨p,ys,rfl,h⟩:=h
 obtain⟨u,rfl,rx⟩:=jeb r
 cases rx
 rcases h with ⟨hq,q⟩|⟨hq,q⟩
 ·obtain⟨its,r',pl,hz⟩:=I.list hq
  have hlen:=r'.length
  refine call_tuple_list pl.isList (fun h' kp=> ?_) (by simp only [G0u]<;>omega)
  have I1:Inv X pins σ H {s with heap:=h'}:=I.kept (t' :=s.toks) kp
  have I2:Inv X pins σ (upd H h'.objs.size (.tup ys)) {s with heap:=h'.push {cls:= .type "tuple",data:= .seq its.toArray}}:=
   I1.laid (t' :=s.toks) (fun b o e=>G0a _ e) (G0f _) (show ObjOk X.prog X.w _ _ _ (.tup ys) from ⟨hz,its,r',IsTupN.new _ _⟩)
  exact⟨.ref h'.objs.size,_,I2,rfl,q _ (I1.hok.fresh (G0f _))⟩
 ·obtain⟨its,r',pl,hz⟩:=I.tuple hq
  exact call_tuple_same pl ⟨.ref p,H,I,rfl,q⟩
def tyV (K:PySem.W.Frag) (T:String) (x:V) (H:Hp):Prop:=match x with
 | .str _=>T= "str"
 | .int _=>T= "int"
 | .ref p=>(T= "list" ∧ ∃xs,SqL K H p xs)∨(T= "tuple" ∧ ∃o,K.lookup p=some o∧o.cls= .type "tuple" ∧o.dict=none)∨
  (T= "dict" ∧((∃kvs,H p=some (.dK kvs))∨ ∃kvs,H p=some (.dT kvs)))∨(T= "set" ∧ ∃S n,H p=some (.set S n))
 |_=>False
theorem joQ {pins:List (Addr×Obj)} {σ:St} {H:Hp} {s:Shared} {T:String} {x:V} {v:Value} (I:Inv X pins σ H s) (r:RelV x v) (ty:tyV X.K T x H):
 s.TypeIs v T∧ ∀a,v= .ref a→ ∃ob,s.heap.get? a=some ob∧ob.dict=none:=by
 cases x with
 |str z=>
  obtain⟨t,rfl⟩:=r
  cases (show T= "str" from ty)
  exact⟨typeIs_str s z t,fun _ e=>nomatch e⟩
 |int i=>
  obtain⟨t,rfl⟩:=r
  cases (show T= "int" from ty)
  exact⟨G4d s i t,fun _ e=>nomatch e⟩
 |ref p=>
  cases r
  rcases ty with ⟨rfl,xs,hq⟩|⟨rfl,o,hk,hc,hd⟩|⟨rfl,hk⟩|⟨rfl,S,n,hk⟩
  ·obtain⟨its,_,pl,_⟩:=I.list hq
   refine⟨pl.isList.typeIs,fun a e=> ?_⟩
   cases e
   obtain⟨o,n,e,c,hd,_⟩:=pl
   exact⟨o,e,hd⟩
  ·refine⟨⟨o,I.kIn p o hk,hc⟩,fun a e=> ?_⟩
   cases e
   exact⟨o,I.kIn _ o hk,hd⟩
  ·have z: ∃o,s.heap.get? p=some o∧o.ExactDict:=by
    rcases hk with ⟨kvs,hk⟩|⟨kvs,hk⟩
    ·obtain⟨_,_,_,_,o,_,_,e,ex,_⟩:=I.hok p _ hk
     exact⟨o,e,ex⟩
    ·obtain⟨_,_,_,_,o,_,_,e,ex,_⟩:=I.hok p _ hk
     exact⟨o,e,ex⟩
   obtain⟨o,e,ex⟩:=z
   refine⟨⟨o,e,ex.1⟩,fun a e2=> ?_⟩
   cases e2
   exact⟨o,e,ex.2.1⟩
  ·obtain⟨o,_,_,_,e,ex,_⟩:=I.hok p _ hk
   refine⟨⟨o,e,ex.1⟩,fun a e2=> ?_⟩
   cases e2
   exact⟨o,e,ex.2.1⟩
 |_=>exact False.elim ty
def tBM (K:PySem.W.Frag) (T:String) (r:V→List V→Hp→VK→Prop) (to:TE) (t:TA):TE:=fun σ H Q=>to σ H fun x H1=>tyV K T x H1∧t σ H1 fun xs H2=>r x xs H2 Q
variable {o e:Expr} {es:List Expr} {to:TE} {t:TA} {name:Str} {apos cpos:Pos} {T id:String} {r:V→List V→Hp→VK→Prop}
theorem joR (pa:PlainAttrs T) (slot:Slot T name id) (hty:typeOf (.builtin id)=pure (.type "method_descriptor")) (hm:MtR X id r) (ho:PE X o to) (ha:PA X (e::es) t)
 (hbase:attributeBase o name X.env (eval o X.env)=eval o X.env:=by rfl)
 (hfew:((backTo cpos (starEach (e::es) X.env)).all (fun x=> !x.1)&&(backToKw cpos (keywordEach [] X.env)).all (fun x=>x.1.isSome)
  &&decide ((e::es).length+([]:List Keyword).length+(if ([]:List Keyword).isEmpty then 0 else 1)<30))=true:=by rfl)
 (hline:(apos.endLine==cpos.line)=true:=by rfl) (hs:starEach (e::es) X.env=(false,eval e X.env)::starEach es X.env:=by rfl) (hplain:(backTo cpos (starEach es X.env)).any (·.1)=false:=by rfl):
 PE X (.Call (.Attribute o name apos) (e::es) [] cpos) (tBM X.K T r to t):=by
 intro pins s σ H Q I h
 refine wpAny_Call_method_late hbase hfew hline rfl (thn (ho pins s σ H _ I h) fun v s1 ⟨x,H1,I1,r1,ty,q1⟩=> ?_)
 obtain⟨h1,h2⟩:=joQ I1 r1 ty
 refine⟨T,id,pa,slot,hty,h1,h2,?_⟩
 have hA:=ha cpos pins s1 σ H1 _ I1 q1
 rw [hs] at hA ⊢
 refine Calls.callWith_builtin (by show (false||(backTo cpos (starEach es X.env)).any (·.1))=false;rw [hplain]<;>rfl) (Calls.evalArgs_plain ?_)
 exact thn hA fun us s2 ⟨vs,H2,I2,r2,q2⟩=>hm pins s2 σ H2 x vs v us Q I2 r1 r2 q2
end
def MtM (X:Cx) (id:String) (r:V→List V→Hp→VK→Prop):Prop:=
 ∀ (pins:List (Addr×Obj)) (s:Shared) (σ:St) (H:Hp) (x:V) (xs:List V) (v:Value) (us:List Value) (Q:VK),Inv X pins σ H s→RelV x v→Vals xs us→r x xs H Q→
  wpAny (model X.prog X.w) X.A (call (.builtin id) (v::us)) (EP X pins σ Q) X.xe s
theorem Vals.one: ∀ {x:V} {us:List Value},Vals [x] us→ ∃u,us= [u]∧RelV x u
 |_,_,.cons r .nil=>⟨_,rfl,r⟩
theorem Vals.rep {xs:List V} {us:List Value} (h:Vals xs us): ∀k:Nat,Vals (List.replicate k xs).flatten (List.replicate k us).flatten
 |0=> .nil
 |k+1=>by
  rw [G1S,G1S,G2m,G2m]
  exact Vals.append h (Vals.rep h k)
theorem jep (its:List Value): ∀ (k:Nat) (acc:List Value),
 List.foldl (fun x1 x2=>x1++x2) acc.toArray (List.replicate k its.toArray)=(acc++(List.replicate k its).flatten).toArray
 |0,acc=>by simp
 |k+1,acc=>by
  have e:acc.toArray++its.toArray=(acc++its).toArray:=by simp
  have e2:(acc++its)++(List.replicate k its).flatten=acc++(List.replicate (k+1) its).flatten:=by
   rw [G1S,G2m,G0l]
  rw [←e2,←jep its k (acc++its),←e,G1S,G36]
section
variable {X:Cx} {pins:List (Addr×Obj)} {σ:St} {H:Hp} {s:Shared} {l b:Addr} {xs ys zs:List V}
theorem Inv.lset {its its' :List Value} {n:Nat} {f:Array Value→Array Value} {t' :Nat} (I:Inv X pins σ H s) (hH:H l=some (.lst xs))
 (e:s.heap.get? l=some {cls:= .type "list",data:= .seq its.toArray n}) (hf:f its.toArray=its'.toArray) (hv:Vals ys its') (hz:ys.length≤sizeLine):
 Inv X pins σ (upd H l (.lst ys)) {s with heap:=s.heap.update l (Obj.mapSeq f),toks:=t'}:=by
 have q:=PySem.IsL.update e f
 rw [hf] at q
 refine I.write (x:=l) (e:=l) (by rw [hH];exact trivial) (.inl rfl) (fun b' u hb hu=>(Heap.get?_update_other s.heap (Obj.mapSeq f) (Ne.symm hb)).trans hu) ⟨_,q⟩ ?_
 exact⟨hz,its',_,hv,q⟩
theorem Inv.lnew {its:List Value} {t' :Nat} (I:Inv X pins σ H s) (hv:Vals ys its) (hz:ys.length≤sizeLine):
 Inv X pins σ (upd H s.heap.objs.size (.lst ys)) {s with heap:=s.heap.push {cls:= .type "list",data:= .seq its.toArray},toks:=t'}:=
 I.laid (fun _ _ q=>G0a _ q) (G0f _) ⟨hz,its,0,hv,G0q _ rfl⟩
theorem Inv.fresh (I:Inv X pins σ H s):H s.heap.objs.size=none:=I.hok.fresh (G0f _)
theorem Inv.lstM (I:Inv X pins σ H s) (hH:H l=some (.lst xs)):xs.length≤sizeLine∧ ∃ (its:List Value) (n:Nat),Vals xs its∧xs.length=its.length∧s.heap.get? l=some {cls:= .type "list",data:= .seq its.toArray n}:=by
 obtain⟨z,its,n,r,e⟩:=I.hok l _ hH
 exact⟨z,its,n,r,r.length,e⟩
theorem jk7 {n:Nat} (h:n≤sizeLine):Builtin.List.listTooLong n=false:=by
 unfold Builtin.List.listTooLong
 exact G0L (by omega)
end
section
variable {X:Cx}
def jmY:V→List V→Hp→VK→Prop:=fun x vs H Q=> ∃l xs y,x= .ref l∧vs= [y]∧H l=some (.lst xs)∧xs.length<sizeLine∧Q .non (upd H l (.lst (xs++ [y])))
theorem jjC:MtM X "list.append" jmY:=by
 intro pins s σ H x vs v us Q I rx rv h
 obtain⟨l,xs,y,rfl,rfl,hH,hz,q⟩:=h
 cases rx
 obtain⟨u,rfl,ru⟩:=rv.one
 obtain⟨z,its,n,r,hl,e⟩:=I.lstM hH
 refine G4e F.slot_list_append ⟨_,e,rfl⟩ F.entry_list_append (F.args_list_append_2 _ _) (PySem.list_append l its.toArray n u (by rw [G0u];omega)) ⟨e,?_⟩
 refine⟨.non,_,I.lset (its' :=its++ [u]) hH e (by simp) (r.append (.cons ru .nil)) ?_,rfl,q⟩
 rw [G0e,G10]
 omega
def jrQ:R2:=fun x y H Q=> ∃l b xs zs,x= .ref l∧y= .ref b∧H l=some (.lst xs)∧H b=some (.lst zs)∧xs.length+zs.length≤sizeLine∧ ∀p,H p=none→Q (.ref p) (upd H p (.lst (xs++zs)))
theorem joS:OpR X (binaryOp .Add) jrQ:=by
 intro pins s σ H x y v u Q I rx ry h
 obtain⟨l,b,xs,zs,rfl,rfl,hH,hB,hz,q⟩:=h
 cases rx
 cases ry
 obtain⟨z,its,n,r,hl,e⟩:=I.lstM hH
 obtain⟨z2,its2,n2,r2,hl2,e2⟩:=I.lstM hB
 refine PySem.P.add_list e e2 ?_ (by rw [G0u,G0u];omega)
 have ea:its.toArray++its2.toArray=(its++its2).toArray:=by simp
 rw [ea]
 exact⟨.ref _,_,I.lnew (t' :=s.toks) (r.append r2) (by rw [G0e];omega),rfl,q _ I.fresh⟩
def jrR:R2:=fun x y H Q=> ∃l k xs,x= .ref l∧y= .int k∧H l=some (.lst xs)∧ -(2^63)≤k∧k<2^63∧xs.length*k.toNat≤sizeLine∧
 ∀p,H p=none→Q (.ref p) (upd H p (.lst (List.replicate k.toNat xs).flatten))
theorem jhz {α:Type} (xs:List α) (k:Nat):(List.replicate k xs).flatten.length=k*xs.length:=by
 induction k with
 |zero=>simp
 |succ k ih=>rw [G1S,G2m,G0e,ih,Nat.succ_mul,Nat.add_comm]
theorem joT:OpR X (binaryOp .Mult) jrR:=by
 intro pins s σ H x y v u Q I rx ry h
 obtain⟨l,k,xs,rfl,rfl,hH,h1,h2,hz,q⟩:=h
 cases rx
 obtain⟨t,rfl⟩:=ry
 obtain⟨z,its,n,r,hl,e⟩:=I.lstM hH
 have hlen:its.toArray.size*k.toNat≤sizeLine:=by rw [G0u,←hl];exact hz
 have hcap: ¬its.toArray.size*k.toNat>(2^63-1) / 8:=by
  have:(sizeLine:Nat)≤(2^63-1) / 8:=by decide
  omega
 have hfit: ¬ (!Builtin.List.listFitsIndex k)=true:=by
  rw [fitsIndex_both h1 h2]
  exact G0t
 have hlong: ¬Builtin.List.listTooLong (its.toArray.size*k.toNat)=true:=by
  rw [jk7 hlen]
  exact G0t
 have hnew:List.foldl (fun x1 x2=>x1++x2) #[] (List.replicate (if its.toArray.isEmpty=true then 0 else k.toNat) its.toArray)=(List.replicate k.toNat its).flatten.toArray:=by
  have f0: ∀m:Nat,List.foldl (fun x1 x2=>x1++x2) #[] (List.replicate m its.toArray)=(List.replicate m its).flatten.toArray:=fun m=>by
   have:=jep its m []
   rw [G0P] at this
   exact this
  rw [f0]
  cases its with
  |nil=>simp
  |cons a r' =>rw [if_neg (by simp)]
 refine wpAny_binaryOp_repeat_ref (T:= "list") (U:= "int") (by decide) ⟨_,e,rfl⟩ (fun s' =>G4d s' k t) noFill_list_mul F.fills_int_mul G3p repeat_list F.slot_int_index.lookup
  (G4e G3p (G4d s k t) F.entry_int_rmul (F.args_int_rmul_2 _ _) (int___rmul___int_list k t l its.toArray n)
   ⟨e,rfl,⟨_,e,rfl⟩,G4e F.slot_list_mul ⟨_,e,rfl⟩ F.entry_list_mul (F.args_list_mul_2 _ _) (AutoListH.list___mul___list_int_3 l its.toArray n k t hfit hcap hlong) ⟨e,?_⟩⟩)
 rw [hnew]
 exact⟨.ref _,_,I.lnew (t' :=s.toks) (r.rep k.toNat) (by rw [jhz,G3b];exact hz),rfl,q _ I.fresh⟩
end
end L2
namespace Att
open PySem PySem.W PySem.Calls PyProof.Rows
theorem jeq {P:Params} {h:Heap}: ∀ (ns:List Int) (vs:List Value),WellAll P h vs (ns.map WData.int)→IntsAre vs ns:=by
 intro ns
 induction ns with
 |nil=>
  intro vs w
  rw [G1n] at w
  cases w
  exact .nil
 |cons n ns ih=>
  intro vs w
  rw [G0y] at w
  cases w with
  |cons a b=>
   cases a
   exact .cons _ _ (ih _ b)
theorem jjD {l:OpenLaw} {n:Nat} (hn:l.most=some n) {P:Params} {h:Heap} {args:List WData} {vals:List Value}
 (hpre:l.row.toRowW.claim.pre args=true) (hwl:WellAll P h vals args):
 ∃a vs ns,vals= [Value.ref a]∧args= [WData.list (ns.map WData.int)]∧h.get? a=some {cls:= .type "list",data:= .seq vs.toArray}∧IntsAre vs ns∧ns.length≤n:=by
 have hsh:WShape.hasAll [] args [.list .int]=true:=(pre_splitW hpre).1
 have hc:l.pre.holds [] {args:=args}=true:=(pre_splitW hpre).2
 obtain⟨d,r,rfl,h1,h2⟩:=hasAllW_cons hsh
 obtain rfl:=hasAllW_nil h2
 obtain⟨xs,rfl,h3⟩:=hasW_list h1
 obtain⟨ns,rfl⟩:=items_int h3
 have hlen:ns.length≤n:=by
  unfold OpenLaw.pre at hc
  have h4:(WTm.not (.lt (.lit (.int (n:Int))) (.len (.arg 0)))).holds [] {args:= [.list (ns.map .int)]}=true:=by
   have h4:=(holds_andW hc).1
   rw [hn] at h4
   exact h4
  have h5:=condW_of h4 (w_not (w_lt w_lit (w_len_list (w_arg rfl))))
  rw [G0c] at h5
  refine Nat.le_of_not_lt fun q=> ?_
  have q' :(n:Int)<((ns.length:Nat):Int):=by omega
  first
   |(rw [G0r q'] at h5;exact absurd h5 (by decide))
   |(simp at h5;omega)
 cases hwl with
 |cons w1 w2=>
  cases w2
  cases w1 with
  |list ho hall=>exact⟨_,_,ns,rfl,rfl,ho,jeq ns _ hall,hlen⟩
theorem jjE (l:OpenLaw) (args:List WData):l.row.toRowW.claim.post args (.bool true) args=true:=
 postW_of (r:=l.row.toRowW) (X:=(true==true))
  (show WShape.has [] (.bool true) .bool=true by first|rfl|decide|simp [WShape.has,WShape.arms,WShape.armsAll])
  (show (WTm.eq .res (.lit (.bool true))).value [] {args:=args,res:=some (.bool true),after:=args}=some (.bool (true==true)) from w_eq_bool (w_res rfl) w_lit) rfl
theorem attach_call {l:OpenLaw} {n:Nat} {q:Program} {loose:List Str} {XP:(Str→Option Value)→Heap→Prop} {YP:World→Heap→Prop} {d:DefRec}
 (hn:l.most=some n) (hdf:d.params.defaults= [])
 (call: ∀ (w:World) (s₀ s₁:Shared) (mg mb:Str→Option Value) (fa:Addr) (o:Obj) (pm cd doc:Value) (a:Addr) (vs:List Value) (ns:List Int),
  Ground q loose [] XP w s₀ mg mb s₁.heap→YP w s₁.heap→
  s₁.heap.get? fa=some o→o.data= .func (docDef d.name d.params d.body d.scope pm cd doc)→s₁.heap.CodeRec cd d.name→mg d.name=some (.ref fa)→
  s₁.heap.get? a=some {cls:= .type "list",data:= .seq vs.toArray}→IntsAre vs ns→ns.length≤n→s₁.gens= #[]→
  codeAny (model l.prog w) callerA (.call (.ref fa) ⟨[.ref a],[]⟩) (fun r s' =>r= .ok (.ret (.bool true))∧OldK s₁.heap s'.heap∧s'.os=s₁.os∧AllBare s'.gens) s₁):
 WalkO q loose XP YP l.row.toRowW d [] (fun f vs=>PySem.call f vs):=by
 intro w s₀ s₁ mg mb G Y fa o pm cd doc dV kV ho hd hcd hD hmg hg args vals as hpre hlay hrd hwl hlo
 obtain rfl:dV= .none:=Dflts.none hD hdf
 obtain rfl:kV= .none:=Dflts.noKw hD
 obtain⟨a,vs,ns,rfl,rfl,hobj,hints,hlen⟩:=jjD hn hpre hwl
 refine enter_call (G34 (call w s₀ s₁ mg mb fa o pm cd doc a vs ns G Y ho (fd_plain hd) hcd hmg hobj hints hlen hg) fun r s' hq=> ?_)
 obtain⟨rfl,h2,h3,h4⟩:=hq
 exact⟨.inl ⟨.bool true,.bool true,[],rfl,fun _=>rfl,.bool true,jjE l _,fun _=>⟨List.Pairwise.nil,fun _ hm=>(nomatch hm)⟩⟩,h2,h3,h4⟩
end Att
namespace L2
open PySem PySem.Spec PyProof.Rows
theorem jgL: ∀ {vs:List Value} {ns:List Int},IntsAre vs ns→Vals (ns.map V.int) vs
 |_,_,.nil=> .nil
 |_,_,.cons n t h=> .cons ⟨t,rfl⟩ (jgL h)
def Only (H:Hp):Prop:= ∀b,H b=none∨ ∃o xs,H b=some (.frz o (.lst xs))
def jak (s:Stmt):Arguments:=match s with
 | .FunctionDef _ a _ _ _ _ _ _ _ _=>a
 |_=> {posonlyargs:= [],args:= [],vararg:=none,kwonlyargs:= [],kw_defaults:= [],kwarg:=none,defaults:= []}
def jai (s:Stmt):List Stmt:=match s with
 | .FunctionDef _ _ b _ _ _ _ _ _ _=>b
 |_=> []
def jaa (s:Stmt):Scope:=match s with
 | .FunctionDef _ _ _ _ _ _ sc _ _ _=>sc
 |_=> {kind:= .function,names:= [],isGenerator:=false,isCoroutine:=false}
abbrev CX0:CXT:=fun _ _ _ _ _ _=>False
abbrev E0:XK:=fun _ _ _=>False
theorem jqH {X:Cx}:jjy CX0 X E0:=fun _ _ _ _ _ _ _ h=>h.elim
structure Fun (K:PySem.W.Frag) (x qual:Str) (st:Stmt) (f:Addr) (fd:FuncData):Prop where
 ex: ∃ (oc:Value) (od:Option Addr) (kV doc pm:Value) (an:Option Addr) (cdv ct:Value) (osl:Array (Option Value)),
  fd=PySem.W.fnOf x qual (jak st) (jai st) (jaa st) .none kV doc pm an cdv ct∧K.lookup f=some ⟨oc,od,.func fd,osl⟩∧PySem.W.codeIn K cdv qual=true
 kp:PySem.W.keepIn K (.ref f)=true
section
variable {P:Program} {w:World} {K:PySem.W.Frag} {mg:Str→Option Value} {base:Heap}
theorem Fun.ok {x qual:Str} {st:Stmt} {f:Addr} {fd:FuncData} {N ps:List Str} {k:Nat} {sp:Sp} (F:Fun K x qual st f fd) (S:FnScope N ps (jaa st)) (len: ∀vs H Q E,sp vs H Q E→vs.length=ps.length)
 (hbody: ∀ (cdv:Value) (A:Around) (outer:List Env) (s:Shared) (H:Hp) (vs:List V) (Q:VK) (E:XK),Room k (A.deeper (envOfC qual (jaa st) s.heap.objs.size f cdv))→sp vs H Q E→
  ∃t,PSs (jme CX0 P w K mg base N qual (jaa st) f cdv A outer s H E).nox (jai st) t∧t {nx:=fun _ H' =>Q .non H',rt:=Q} (start N vs) H):FnOk P w K mg base CX0 (k+1) f fd ps sp:=by
 obtain⟨oc,od,kV,doc,pm,an,cdv,ct,osl,rfl,lk,hcd⟩:=F.ex
 refine jqC lk hcd S len fun A outer s H vs Q E hr hsp=> ?_
 obtain⟨t,h,q⟩:=hbody cdv A outer s H vs Q E hr hsp
 exact⟨t,h.nox,q⟩
theorem Fun.binds {x qual:Str} {st:Stmt} {f:Addr} {fd:FuncData} {ps:List Str} (F:Fun K x qual st f fd)
 (h: ∀ (kV doc pm:Value) (an:Option Addr) (cdv ct:Value) (us:List Value),us.length=ps.length→bindArgs (PySem.W.fnOf x qual (jak st) (jai st) (jaa st) .none kV doc pm an cdv ct) ⟨us,[]⟩=pure (ps.zip us)):Binds K fd ps []:=by
 obtain⟨oc,od,kV,doc,pm,an,cdv,ct,osl,rfl,lk,hcd⟩:=F.ex
 exact .all (h kV doc pm an cdv ct)
theorem jat {x qual:Str} {st:Stmt} {f:Addr} {oc:Value} {od an:Option Addr} {osl:Array (Option Value)} {kV doc pm cdv ct:Value} (l:K.lookup f=some ⟨oc,od,.func (PySem.W.fnOf x qual (jak st) (jai st) (jaa st) .none kV doc pm an cdv ct),osl⟩)
 (c:PySem.W.codeIn K cdv qual=true) (k:PySem.W.keepIn K (.ref f)=true):Fun K x qual st f (PySem.W.fnOf x qual (jak st) (jai st) (jaa st) .none kV doc pm an cdv ct):=⟨⟨oc,od,kV,doc,pm,an,cdv,ct,osl,rfl,l,c⟩,k⟩
end
theorem jaK {n:Nat} (h:n≤1000):n<sizeLine:=G2S h (by decide)
section
variable {X:Cx}
theorem pv (i:Nat) {x:Str} {pos:Pos} (hN:X.N[i]? =some x:=by rfl) (hv:Vis X.env.scope x:=by first|exact Or.inl rfl|exact Or.inr (Or.inl rfl)|exact Or.inr (Or.inr rfl)) (hd:(x==("__debug__" :Str))=false:=by decide)
 (hcd:(x==("__classdict__" :Str))=false:=by decide):PE X (.Name x pos) (jqm i):=jma hN hv hd hcd
end
theorem jd5 {A B:Prop} (h:B):if false=true then A else B:=by
 rw [if_neg G0t]
 exact h
theorem jh7 {A B:Prop} (h:A):if true=true then A else B:=by
 rw [if_pos rfl]
 exact h
theorem jkT {c A B:Prop} [Decidable c] (h1:c→A) (h2: ¬c→B):if c then A else B:=by
 by_cases h:c
 ·rw [if_pos h]
  exact h1 h
 ·rw [if_neg h]
  exact h2 h
structure M1 (X:Cx) (o:Expr) (m:Str) (apos:Pos) (e:Expr) (cpos:Pos):Prop where
 base:attributeBase o m X.env (eval o X.env)=eval o X.env
 few:((backTo cpos (starEach [e] X.env)).all (fun x=> !x.1)&&(backToKw cpos (keywordEach [] X.env)).all (fun x=>x.1.isSome)
  &&decide (([e]:List Expr).length+([]:List Keyword).length+(if ([]:List Keyword).isEmpty then 0 else 1)<30))=true
 line:(apos.endLine==cpos.line)=true
 trees:backTo cpos (starEach [e] X.env)= [(false,eval e X.env)]
structure M2 (X:Cx) (o:Expr) (m:Str) (apos:Pos) (e f:Expr) (cpos:Pos):Prop where
 base:attributeBase o m X.env (eval o X.env)=eval o X.env
 few:((backTo cpos (starEach [e,f] X.env)).all (fun x=> !x.1)&&(backToKw cpos (keywordEach [] X.env)).all (fun x=>x.1.isSome)
  &&decide (([e,f]:List Expr).length+([]:List Keyword).length+(if ([]:List Keyword).isEmpty then 0 else 1)<30))=true
 line:(apos.endLine==cpos.line)=true
 trees:backTo cpos (starEach [e,f] X.env)= [(false,eval e X.env),(false,eval f X.env)]
def jcd (names:List (Str×NameKind)) (env:Env) (cs:List (Str×Addr)):List (Str×Addr):=
 names.foldl (fun cs p=>if p.2= .free then (match env.cells.lookup p.1 with|some c=>(p.1,c)::cs|none=>cs) else cs) cs
theorem jbG (p:Str×NameKind) (l:List (Str×NameKind)) (env:Env) (cs:List (Str×Addr)):
 jcd (p::l) env cs=jcd l env (if p.2= .free then (match env.cells.lookup p.1 with|some c=>(p.1,c)::cs|none=>cs) else cs):=rfl
theorem jer {env:Env} {f:Str×NameKind→List (Str×Addr)→Sem (ForInStep (List (Str×Addr)))}
 (h1: ∀p cs,p.2≠ .free→f p cs=pure (.yield cs)) (h2: ∀p cs c,p.2= .free→env.cells.lookup p.1=some c→f p cs=pure (.yield ((p.1,c)::cs))):
 ∀ (l:List (Str×NameKind)) (cs:List (Str×Addr)),(∀p∈l,p.2= .free→ ∃c,env.cells.lookup p.1=some c)→forIn l cs f=pure (jcd l env cs)
 | [],cs,_=>rfl
 |p::l,cs,h=>by
  have ih:=jer h1 h2 l
  by_cases hp:p.2= .free
  ·obtain⟨c,hc⟩:=h p G0p hp
   rw [G2T,h2 p cs c hp hc,pure_bind]
   show forIn l ((p.1,c)::cs) f=_
   rw [ih _ fun q hq=>h q (G0s _ hq),jbG,if_pos hp,hc]
  ·rw [G2T,h1 p cs hp,pure_bind]
   show forIn l cs f=_
   rw [ih _ fun q hq=>h q (G0s _ hq),jbG,if_neg hp]
theorem jfG {scope:Scope} {env:Env} (h: ∀p∈scope.names,p.2= .free→ ∃c,env.cells.lookup p.1=some c):closureFor scope env=pure (jcd scope.names env []):=by
 simp only [closureFor]
 rw [jer (env:=env) (fun p cs hp=> ?_) (fun p cs c hp hc=> ?_) _ _ h]
 ·rfl
 ·obtain⟨n,k⟩:=p
  have hb:(k==NameKind.free)=false:=by simpa using hp
  simp only [hb,G1f,G4w]
 ·obtain⟨n,k⟩:=p
  have hb:(k==NameKind.free)=true:=by simpa using hp
  have hc' :env.cells.lookup n=some c:=hc
  simp only [hb,if_true,cellOf,hc',pure_bind]
theorem jes {env:Env}: ∀ (l:List (Str×NameKind)) (cs:List (Str×Addr)),(∀p∈cs,env.cells.lookup p.1=some p.2)→ ∀p∈jcd l env cs,env.cells.lookup p.1=some p.2
 | [],cs,h,p,hp=>h p hp
 |q::l,cs,h,p,hp=>by
  rw [jbG] at hp
  refine jes l _ (fun r hr=> ?_) p hp
  by_cases hq:q.2= .free
  ·rw [if_pos hq] at hr
   cases e:env.cells.lookup q.1 with
   |none=>rw [e] at hr;exact h r hr
   |some c=>
    rw [e] at hr
    rcases G0C.mp hr with rfl|hr
    ·exact e
    ·exact h r hr
  ·rw [if_neg hq] at hr;exact h r hr
theorem jet {env:Env}: ∀ (l:List (Str×NameKind)) (cs:List (Str×Addr)),∀p∈cs,p∈jcd l env cs
 | [],cs,p,hp=>hp
 |q::l,cs,p,hp=>by
  rw [jbG]
  refine jet l _ p ?_
  by_cases hq:q.2= .free
  ·rw [if_pos hq]
   cases e:env.cells.lookup q.1 with
   |none=>exact hp
   |some c=>exact G0s _ hp
  ·rw [if_neg hq];exact hp
theorem jeu {env:Env} {x:Str} {c:Addr} (hc:env.cells.lookup x=some c): ∀ (l:List (Str×NameKind)) (cs:List (Str×Addr)),(x,NameKind.free)∈l→(x,c)∈jcd l env cs
 |q::l,cs,h=>by
  rw [jbG]
  rcases G0C.mp h with e|h
  ·subst e
   rw [if_pos rfl,hc]
   exact jet l _ _ G0p
  ·exact jeu hc l _ h
theorem jbS {α:Type}: ∀ {l:List (Str×α)} {x:Str} {c:α},l.lookup x=some c→(x,c)∈l
 | [],_,_,h=>by simp at h
 |(n,k)::r,x,c,h=>by
  rw [G1N] at h
  cases hx:x==n with
  |true=>
   rw [hx] at h
   have e:x=n:=eq_of_beq hx
   cases h;subst e
   exact G0p
  |false=>rw [hx] at h;exact G0s _ (jbS h)
theorem jfa {α:Type}: ∀ {l:List (Str×α)} {x:Str} {c:α},(x,c)∈l→ ∃c',l.lookup x=some c'
 |(n,k)::r,x,c,h=>by
  rw [G1N]
  cases hx:x==n with
  |true=>exact⟨_,rfl⟩
  |false=>
   rcases G0C.mp h with e|h
   ·cases e;simp at hx
   ·exact jfa h
theorem jfb {l:List (Str×NameKind)} {env:Env} {x:Str} {c:Addr} (h:(jcd l env []).lookup x=some c):env.cells.lookup x=some c:=
 jes l [] (fun _ z=>nomatch z) (x,c) (jbS h)
theorem jjF {l:List (Str×NameKind)} {env:Env} {x:Str} {c:Addr} (hc:env.cells.lookup x=some c) (h:(x,NameKind.free)∈l):(jcd l env []).lookup x=some c:=by
 obtain⟨c',e⟩:=jfa (jeu hc l [] h)
 have:=jfb e
 rw [hc] at this;cases this
 exact e
theorem jcq {κ:Type} {f:Str×κ→Str×κ} {g:Str→κ→κ} (hf: ∀n k,f (n,k)=(n,g n k)) (x:Str): ∀l:List (Str×κ),(l.map f).lookup x=(l.lookup x).map (g x)
 | []=>rfl
 |(n,k)::r=>by
  rw [G0y,hf,G1N,G1N,jcq hf x r]
  cases same:x==n with
  |false=>rfl
  |true=>rw [eq_of_beq same];rfl
theorem jaU {env:Env} {names:List (Str×NameKind)} {x:Str} {k:NameKind} (found:
 (names.map fun (n,k)=>if (k==NameKind.free&&env.scope.kind== .function&&env.kindOf n==some .cell) then (n,NameKind.cell) else (n,k)).lookup x=some k):
  names.lookup x=some k∨names.lookup x=some .free:=by
 rw [jcq (g:=fun n k=>if (k==NameKind.free&&env.scope.kind== .function&&env.kindOf n==some .cell) then .cell else k) (fun n k=>by dsimp only;split<;>rfl)] at found
 obtain⟨k0,was,now⟩:=G1Q.mp found
 split at now
 ·rename_i c
  simp only [G1q,G4t] at c
  exact .inr (by rw [was,c.1.1])
 ·exact .inl (by rw [was,now])
theorem jbO: ∀ (names:List (Str×NameKind)) (n:Nat) (acc:List (Str×Addr)) (p:Str×Addr),p∈cellsFrom n names acc→p∈acc∨(n≤p.2∧(p.1,NameKind.cell)∈names)
 | [],_,_,_,h=> .inl h
 |(x,k)::r,n,acc,p,h=>by
  unfold cellsFrom at h
  split at h
  ·rename_i hk
   rcases jbO r (n+1) _ p h with z|⟨z1,z2⟩
   ·rcases G0C.mp z with e|z
    ·subst e
     have:k= .cell:=by simpa using hk
     subst this
     exact .inr ⟨G0f _,G0p⟩
    ·exact .inl z
   ·exact .inr ⟨by omega,G0s _ z2⟩
  ·rcases jbO r n acc p h with z|⟨z1,z2⟩
   ·exact .inl z
   ·exact .inr ⟨z1,G0s _ z2⟩
theorem jaL: ∀ (names:List (Str×NameKind)) (n:Nat) (acc:List (Str×Addr)),cellsFrom n names acc=cellsFrom n names []++acc
 | [],_,_=>rfl
 |(x,k)::r,n,acc=>by
  unfold cellsFrom
  split
  ·rw [jaL r (n+1) ((x,n)::acc),jaL r (n+1) [(x,n)],G0l];rfl
  ·exact jaL r n acc
theorem jdP {α:Type} (l l' :List (Str×α)) (x:Str):(l++l').lookup x=(match l.lookup x with|some c=>some c|none=>l'.lookup x):=by
 induction l with
 |nil=>rfl
 |cons p l ih=>
  obtain⟨n,c⟩:=p
  rw [G00,G1N,G1N]
  cases x==n with
  |true=>rfl
  |false=>exact ih
theorem jc9 {env:Env} {names:List (Str×NameKind)} {x:Str} (here:names.lookup x=some .cell):
 (names.map fun (n,k)=>if (k==NameKind.free&&env.scope.kind== .function&&env.kindOf n==some .cell) then (n,NameKind.cell) else (n,k)).lookup x=some .cell:=by
 rw [jcq (g:=fun n k=>if (k==NameKind.free&&env.scope.kind== .function&&env.kindOf n==some .cell) then .cell else k) (fun n k=>by dsimp only;split<;>rfl),here]
 simp
section
variable {M:Model} {A:Around} {E:Value→Shared→Prop} {s:Shared}
theorem jiR (h:Heap) (names:List (Str×NameKind)):(∀n c,(n,c)∈cellsFrom h.objs.size names []→(pushCells h names).IsCell c none∧h.objs.size≤c)∧(cellsFrom h.objs.size names []).Pairwise fun x y=>x.2≠y.2:=
 have laid:=cellsFrom_ok names h h.objs.size [] ⟨by simp,.nil⟩ (G0f _)
 ⟨laid.empty,laid.apart⟩
theorem jgM {scope:Scope} {globals:Addr} {closure:List (Str×Addr)} {qual:Str} {func:Option Addr} {code:Value} {outer:Env} {builtins:Addr} {Q:Env→Shared→Prop}
 (hQ: ∀h',h'.Ns s.heap.objs.size (fun _=>none)→(∀b o,s.heap.get? b=some o→h'.get? b=some o)→(∀n c,(n,c)∈cellsFrom (s.heap.objs.size+1) scope.names []→h'.IsCell c none∧s.heap.objs.size+1≤c)→
  ((cellsFrom (s.heap.objs.size+1) scope.names []).Pairwise fun x y=>x.2≠y.2)→
  Q (newEnv scope s.heap.objs.size globals (cellsFrom (s.heap.objs.size+1) scope.names closure) qual func code (some outer) builtins) {s with heap:=h'}):
 wpAny M A (newFunctionEnv scope globals closure [] qual func code (some outer) builtins) Q E s:=by
 have names:=jiR (s.heap.push {cls:= .type "dict",data:= .dict #[]}) scope.names
 have first:(s.heap.push {cls:= .type "dict",data:= .dict #[]}).objs.size=s.heap.objs.size+1:=G2L ..
 rw [first] at names
 unfold newFunctionEnv
 refine wpAny_bind (wpAny_alloc (wpAny_bind (wpAny_layCells _ (fun n k cs=>rfl) _ _ _ _ ?_)))
 simp only [Option.isSome_some,if_true]
 rw [first]
 exact wpAny_bind (G0d (G0d (hQ _ ((Heap.Ns.new _ _).keeps (pushCells_keeps _ _)) (fun b o here=>pushCells_keeps _ _ b o (G0a _ here)) names.1 names.2)))
end
def jaG (X:Cx) (scope:Scope) (C:Addr):List (Str×Addr):=cellsFrom (C+1) scope.names (jcd scope.names X.env [])
def jfH (X:Cx) (scope:Scope) (C:Addr) (s₀:Shared) (H₀:Hp) (ex:List Addr):Cx:=
 {X with s₀:=s₀,H₀:=H₀,env:=compEnvC scope (jaG X scope C) C X.env,outer:=X.stack,ex:=ex,fn:=fun x=>scope.names.lookup x==some .cell,pn:= [],xe:=fun _ _=>False}
def jax (X:Cx) (scope:Scope) (X' :Cx):Prop:= ∃C s₀ H₀ ex,X' =jfH X scope C s₀ H₀ ex
structure BlockOk (X:Cx) (scope:Scope) (js:List Nat):Prop where
 kind:scope.kind= .function
 locs: ∀p∈scope.names,p.2= .local→scope.names.lookup p.1=some .local
 cels: ∀p∈scope.names,p.2= .cell→scope.names.lookup p.1=some .cell
 free: ∀p∈scope.names,p.2= .free→X.env.scope.names.lookup p.1=some .cell∨X.env.scope.names.lookup p.1=some .free
 js: ∀ (i:Nat) (x:Str),X.N[i]? =some x→(scope.names.lookup x=some .local∨scope.names.lookup x=some .cell)→i∈js
theorem jcg {X:Cx} {scope:Scope} {js:List Nat} (S:BlockOk X scope js) {C:Addr} {x:Str} {c:Addr} (h:(jaG X scope C).lookup x=some c):
 (scope.names.lookup x≠some .cell∧X.env.cells.lookup x=some c)∨(scope.names.lookup x=some .cell∧(x,c)∈cellsFrom (C+1) scope.names []):=by
 unfold jaG at h
 rw [jaL,jdP] at h
 cases e:(cellsFrom (C+1) scope.names []).lookup x with
 |some d=>
  rw [e] at h
  cases h
  have m:=jbS e
  rcases jbO _ _ _ _ m with z|⟨_,z⟩
  ·exact absurd z (by simp)
  ·exact .inr ⟨S.cels _ z rfl,m⟩
 |none=>
  rw [e] at h
  refine .inl ⟨fun z=> ?_,jfb h⟩
  obtain⟨d,hd⟩:=jei (sc:=scope) (n:=C+1) z
  rw [e] at hd;cases hd
theorem jd6 {X:Cx} {scope:Scope} {js:List Nat} (S:BlockOk X scope js) {C:Addr} {x:Str} {c:Addr} (hc:X.env.cells.lookup x=some c) (h:(x,NameKind.free)∈scope.names) (hn:scope.names.lookup x≠some .cell):(jaG X scope C).lookup x=some c:=by
 unfold jaG
 rw [jaL,jdP]
 cases e:(cellsFrom (C+1) scope.names []).lookup x with
 |some d=>
  rcases jbO _ _ _ _ (jbS e) with z|⟨_,z⟩
  ·exact absurd z (by simp)
  ·exact absurd (S.cels _ z rfl) hn
 |none=>exact jjF hc h
def jch:List Nat→St→St
 | [],σ=>σ
 |j::js,σ=>jch js (σ.set j none)
theorem jfc: ∀ (js:List Nat) (σ:St),(jch js σ).length=σ.length
 | [],_=>rfl
 |j::js,σ=>by rw [jch,jfc js];simp
theorem jev: ∀ (js:List Nat) (σ:St) (i:Nat) (v:V),(jch js σ)[i]? =some (some v)→σ[i]? =some (some v)
 | [],_,_,_,h=>h
 |j::js,σ,i,v,h=>by
  have h1:=jev js _ i v h
  by_cases e:i=j
  ·subst e
   rw [G23] at h1
   simp at h1
  ·rwa [G1M (Ne.symm e)] at h1
theorem jb1: ∀ (js:List Nat) (σ:St) (i:Nat) (v:V),i∈js→ ¬ (jch js σ)[i]? =some (some v)
 |j::js,σ,i,v,hm,h=>by
  rcases G0C.mp hm with rfl|hm
  ·have h1:=jev js _ i v h
   rw [G23] at h1
   simp at h1
  ·exact jb1 js _ i v hm h
theorem HOk.track {P:Program} {w:World} {H:Hp} {h:Heap} {a:Addr} {o:HO} (x:HOk P w H h) (hn:H a=none) (new:ObjOk P w (upd H a o) h a o):HOk P w (upd H a o) h:=fun b u e=>by
 by_cases hb:b=a
 ·subst hb;rw [jap] at e;cases e;exact new
 ·rw [jan hb] at e
  exact(x b u e).stay (fun c v _ q=>q) (fun c q=>by rw [jan (jaj q hn)];exact q) fun c xs q=>by rw [jan (jaj q hn)];exact q
def Agree (σ σ' :St):Prop:=σ'.length=σ.length∧ ∀ (i:Nat) (v:V),σ[i]? =some (some v)→σ'[i]? =some (some v)
theorem Agree.set {σ:St} {j:Nat} (v:V) (h: ∀u,¬σ[j]? =some (some u)):Agree σ (σ.set j (some v)):=⟨by simp,fun i u q=>by
 by_cases e:j=i
 ·subst e;exact absurd q (h u)
 ·rw [G1M e];exact q⟩
theorem Agree.trans {a b c:St} (x:Agree a b) (y:Agree b c):Agree a c:=⟨y.1.trans x.1,fun i v h=>y.2 i v (x.2 i v h)⟩
def PTs (X:Cx) (ifs:List Expr) (t:TT):Prop:=
 ∀ (pins:List (Addr×Obj)) (s:Shared) (σ:St) (H:Hp) (Q:Bool→Hp→Prop),Inv X pins σ H s→t σ H Q→
  wpAny (model X.prog X.w) X.A (forIn ifs true fun c r=>if r=true then do let ok ←isTrue c X.env (eval c X.env);pure (ForInStep.yield ok) else pure (ForInStep.yield r)) (TP X pins σ Q) X.xe s
def jrw:TT:=fun _ H Q=>Q true H
theorem jmZ {X:Cx}:PTs X [] jrw:=fun _ _ _ H _ I h=>wpAny_tests_nil ⟨H,I,h⟩
theorem jm0 {X:Cx} {c:Expr} {t:TT} (hc:PT X c t):PTs X [c] t:=fun pins s σ H Q I h=>wpAny_tests_one (hc pins s σ H Q I h)
def jh8 (iter target:Expr) (ifs:List Expr) (it:Value) (env:Env) (act:Sem Unit) (nxt:Code):Sem PySem.Fin:=do
 standAt iter.pos
 match ←pyNext it with
 |none=>pure (.done .next)
 |some v=>
  letOwnedTupleGo target it v
  assign target env v
  let mut ok:=true
  for c in ifs do
   if ok then ok ←isTrue c env (eval c env)
  if ok then act
  again nxt
theorem jk8 {prog:Program} {w:World} {A:Around} {R:Result→Shared→Prop} {s:Shared} {elt target iter:Expr} {gens:List Comprehension} {scope:Scope} {pos:Pos} {ifs:List Expr} {depth:Nat} {it acc:Value} {env:Env} {act:Sem Unit} (I:Nat→Shared→Prop)
 (heq:compTurn (.ListComp elt gens scope pos) depth it acc env=jh8 iter target ifs it env act (.compLoop (.ListComp elt gens scope pos) depth it acc env))
 (turn: ∀n s,I n s→wpAny (model prog w) A (pyNext it) (fun r s₁=>match r with
  |none=>R (.ok .next) s₁
  |some v=>wpAny (model prog w) A (letOwnedTupleGo target it v) (fun _ s₁=>wpAny (model prog w) A (assign target env v) (fun _ s₂=>
   wpAny (model prog w) A (forIn ifs true fun c r=>if r=true then do let ok ←PySem.isTrue c env (eval c env);pure (ForInStep.yield ok) else pure (ForInStep.yield r)) (fun ok s₃=>
    if ok=true then wpAny (model prog w) A act (fun _ s₅=> ∃m,m<n∧I m s₅) (fun _ _=>False) s₃
    else ∃m,m<n∧I m s₃) (fun _ _=>False) s₂) (fun _ _=>False) s₁) (fun _ _=>False) s₁) (fun _ _=>False) s)
 (n:Nat) (h:I n s):
 codeAny (model prog w) A (.compLoop (.ListComp elt gens scope pos) depth it acc env) R s:=by
 refine codeAny_loop rfl I (fun n s hI=> ?_) n h
 show wpAny _ A ((compTurn (.ListComp elt gens scope pos) depth it acc env).onRaise (fun x=>do noteFrame x env;theTreesLotGoes x)) _ _ s
 refine wpAny_noted ?_
 rw [heq]
 unfold jh8
 refine wpAny_bind (G3O (wpAny_bind (G08 (turn n s hI) (fun r s₁ h₁=> ?_) fun _ _ h' =>h'.elim)))
 cases r with
 |none=>exact G0d h₁
 |some v=>
  refine wpAny_bind (G08 h₁ (fun _ s₁ h₁=> ?_) fun _ _ h' =>h'.elim)
  refine wpAny_bind (G08 h₁ (fun _ s₂ h₂=>wpAny_bind (G08 h₂ (fun ok s₃ h₃=> ?_) fun _ _ h' =>h'.elim)) fun _ _ h' =>h'.elim)
  cases ok with
  |false=>exact G0d ⟨rfl,h₃⟩
  |true=>exact wpAny_bind (G08 h₃ (fun _ s₅ h₅=>G0d ⟨rfl,h₅⟩) fun _ _ h' =>h'.elim)
abbrev TM:=St→Hp→List V→(List V→Hp→Prop)→Prop
def jqI (X:Cx) (D:Addr) (act:Sem Unit) (t:TM):Prop:=
 ∀ (pins:List (Addr×Obj)) (s:Shared) (σ:St) (H:Hp) (ys:List V) (us:List Value) (Q:List V→Hp→Prop),Inv X ([(D,LCg.lst us)]++pins) σ H s→Vals ys us→ys.length≤sizeLine→D∈X.ex→(∀x c,X.env.cells.lookup x=some c→c≠D)→(∀p∈X.pn++pins,p.1≠D)→t σ H ys Q→
  wpAny (model X.prog X.w) X.A act (fun _ s' => ∃ys' us' H',Vals ys' us' ∧Inv X ([(D,LCg.lst us')]++pins) σ H' s' ∧Q ys' H') (fun _ _=>False) s
def jrx (te:TE):TM:=fun σ H ys Q=>te σ H fun y H1=>Q (ys++ [y]) H1
def jh9 (elt:Expr) (env:Env) (acc:Value):Sem Unit:=do let _ ←call (.builtin "list.append") [acc,←eval elt env]
theorem jia {X:Cx} {D:Addr} {elt:Expr} {te:TE} (hx:X.xe=fun _ _=>False) (he:PE X elt te):jqI X D (jh9 elt X.env (.ref D)) (jrx te):=by
 intro pins s σ H ys us Q I hv hz DX cD pD h
 have q:=he _ s σ H _ I h
 rw [hx] at q
 unfold jh9
 refine wpAny_bind (G08 q (fun y s1 ⟨yv,H1,I1,r1,q1⟩=> ?_) fun _ _ z=>z)
 have zD:=I1.pin (D,LCg.lst us) (G0E _ (G1L _ G0p))
 refine wpAny_bind (append_at (its:=us.toArray) (n:=us.length) zD.1 (fun h11 hs11 hD11=>G0d ?_) (by rw [G0u,←hv.length];exact hz))
 have I10u:Inv X pins σ H1 s1:=I1.pins_of fun p hp=>I1.pin p (G0E _ (G0E _ hp))
 have I11:Inv X pins σ H1 {s1 with heap:=h11}:=I10u.turned (t' :=s1.toks) (it:=D) (fun b o hb e=>hs11.extBut b o hb e) zD.2.1 zD.2.2.1 (.inl DX) cD pD
 have eD:h11.get? D=some (LCg.lst (us++ [y])):=by rw [hD11];exact congrArg some (LCg.lst_snoc us y)
 refine⟨ys++ [yv],us++ [y],H1,hv.append (.cons r1 .nil),I11.pins_of fun p hp=> ?_,q1⟩
 rcases G0z.mp hp with z|z
 ·rcases G0g.mp z with rfl
  exact⟨eD,zD.2.1,zD.2.2.1,zD.2.2.2.1,fun v z=>by cases z⟩
 ·exact I11.pin p (G0E _ z)
def jqJ (js : List Nat) (wi : TI) (g : TG) (tt : TT) (tm : TM) : TE := fun σ H Q => wi σ H fun J H1 =>
  ∃ W : Nat → Nat → List V → Hp → Prop, (∃ m, W 0 m [] H1) ∧ ∀ i m ys H, W i m ys H → ys.length ≤ sizeLine ∧
    ((J.stop i H ∧ ∀ p, H p = none → Q (.ref p) (upd H p (.lst ys))) ∨
     (J.go i H ∧ ∀ x H', J.yld i H x H' → g x (jch js σ) H' fun σ2 H2 => Agree (jch js σ) σ2 ∧ tt σ2 H2 fun b H3 =>
        if b = true then tm σ2 H3 ys fun ys' H4 => ∃ m', m' < m ∧ W (i + 1) m' ys' H4 else ∃ m', m' < m ∧ W (i + 1) m' ys H3))
def tLC (js:List Nat) (wi:TI) (g:TG) (tt:TT) (te:TE):TE:=jqJ js wi g tt (jrx te)
theorem jmf {X:Cx} {e elt iter tg:Expr} {ifs:List Expr} {rest:List Comprehension} {scope:Scope} {pos pos0:Pos} {js:List Nat} {wi:TI} {g:TG} {tt:TT} {tm:TM} {use:Option (Value→Sem Unit)} {Qv:Value→Shared→Prop} (hc:X.calm=true) (S:BlockOk X scope js) (hi:PI X tg iter wi)
 (he0:e= .ListComp elt (⟨tg,iter,ifs,0⟩::rest) scope pos)
 (hg: ∀X',jax X scope X' →PG X' tg g) (ht: ∀X',jax X scope X' →PTs X' ifs tt)
 (act:Env→Value→Sem Unit) (hturn: ∀it acc env,compTurn e 0 it acc env=jh8 iter tg ifs it env (act env acc) (.compLoop e 0 it acc env)) (he: ∀X',jax X scope X' → ∀D,jqI X' D (act X'.env (.ref D)) tm)
 (hs: ∀x,foldedSetIterable iter X.env x=pure x) {pins:List (Addr×Obj)} {s:Shared} {σ:St} {H:Hp} {Q:VK} (I:Inv X pins σ H s) (h:jqJ js wi g tt tm σ H Q)
 (fin: ∀ (D C:Addr) (H' :Hp) (s' :Shared) (m:Str→Option Value),s'.heap.Ns C m→(∀h',Heap.SameBut C s'.heap h' →Inv X pins σ H' {s' with heap:=h'})→H' C=none→C≠X.env.locals→C ∉ X.fs→X.s₀.heap.objs.size≤C→(∀x c,X.env.cells.lookup x=some c→c≠C)→(∀p∈X.pn++pins,p.1≠C)→
  Q (.ref D) H' →compPost (model X.prog X.w) X.A X.xe use Qv (.ref D) C (.ok .next) s'):
 wpAny (model X.prog X.w) X.A (comprehension e scope X.env pos0 (newList []) false (eval iter X.env) use) Qv X.xe s:=by
 have hclos:=jfG (scope:=scope) (env:=X.env) (fun p hp e=>I.ok.has p.1 (S.free p hp e))
 subst he0
 refine wpAny_comprehension_free (use:=use) rfl hs hclos S.kind S.locs (thn (hi pins s σ H _ I h) fun v s1 h1=>thn h1 fun itv s2 h2=> ?_)
 obtain⟨it,fp,tn,J,H2,e,I2,T,st2,f2,W,⟨m0,w0⟩,turn⟩:=h2
 subst e
 refine G2h (jgM (fun h₁ hns₁ hkp₁ hcl₁ hap₁=> ?_))
 dsimp only at hns₁ hkp₁ hcl₁ hap₁ ⊢
 generalize hD:s2.heap.objs.size=D
 generalize hH3:s2.heap.push {cls:= .type "list",dict:=none,data:= .seq ([]:List Value).toArray}=h3 at hns₁ hkp₁ hcl₁ hap₁ ⊢
 have sz3:h3.objs.size=D+1:=by rw [←hH3,G2L,hD]
 have up3: ∀b o,s2.heap.get? b=some o→h3.get? b=some o:=fun b o e=>hH3 ▸ G0a _ e
 have I3:Inv X pins σ H2 {s2 with heap:=h3}:=I2.kept (t' :=s2.toks) up3
 have hD3:h3.get? D=some (LCg.lst []):=by rw [←hH3,←hD];exact G0q _ rfl
 have fD:jjp X pins H2 D:=I2.fpOk (by rw [hD];exact G0f _) (I2.hok.fresh (by rw [hD];exact G0f _))
 have obf: ∀b∈fp,∃o,s2.heap.get? b=some o∧ ∀v,o.data≠ .cell v:=T.obj _ _ st2
 have ltf: ∀b∈fp,b<D:=fun b hb=>by obtain⟨o,e,_⟩:=obf b hb;rw [←hD];exact G0n e
 generalize hC:h3.objs.size=C at hns₁ hcl₁ hap₁ ⊢
 have CD:C=D+1:=hC.symm.trans sz3
 have upC: ∀b o,h3.get? b=some o→h₁.get? b=some o:=hkp₁
 generalize hX:jfH X scope C {s2 with heap:=h3} H2 (fp++ [D])=X'
 have iX:jax X scope X' :=⟨C,_,_,_,hX.symm⟩
 have hf: ∀b∈fp++ [D],jjp X pins H2 b:=fun b hb=>(G0z.mp hb).elim (f2 b) fun z=>by rw [G0g.mp z];exact fD
 have cl: ∀x c,(jaG X scope C).lookup x=some c→X.env.cells.lookup x=some c∨C<c:=fun x c e=>by
  rcases jcg S e with ⟨_,z⟩|⟨_,z⟩
  ·exact .inl z
  ·exact .inr (G24 (hcl₁ x c z).2)
 have olt: ∀x c,X.env.cells.lookup x=some c→c<C:=fun x c e=>by obtain⟨v,q⟩:=I3.cell x c e;rw [←hC];exact q.lt
 have ltb: ∀b∈fp++ [D],b<C:=fun b hb=>(G0z.mp hb).elim (fun z=>by have:=ltf b z;rw [CD];exact G3I this) fun z=>by rw [G0g.mp z,CD];exact G14 _
 have okX:X'.Ok:=by
  subst hX
  refine⟨I.ok.mod,S.kind,I.ok.glob,I.ok.blt,G37 hC,fun x y c e1 e2=> ?_,fun x hx=> ?_,fun x c z e=> ?_,I.ok.hd,I.ok.frames,.inl rfl,fun b hb=>⟨G0R (ltb b hb),fun x c e=>(cl x c e).elim (fun z=>(hf b hb).2.2.2.2.1 x c z) fun z=>G2B (G3c (ltb b hb) z)⟩,
   I3.bs,G01 I.ok.bsz I3.sz,fun b o e hb=> ?_,fun b hb z=> ?_,I3.stack,I3.stkFree⟩
  ·rcases jcg S e1 with ⟨_,z1⟩|⟨_,z1⟩<;>rcases jcg S e2 with ⟨_,z2⟩|⟨_,z2⟩
   ·exact I.ok.inj x y c z1 z2
   ·exact absurd (G3c (olt x c z1) (G24 (hcl₁ y c z2).2)) (G02 _)
   ·exact absurd (G3c (olt y c z2) (G24 (hcl₁ x c z1).2)) (G02 _)
   ·exact name_of_addr hap₁ z1 z2
  ·have own:scope.names.lookup x=some .cell→ ∃c,(jaG X scope C).lookup x=some c:=fun z=>by
    obtain⟨c,hc⟩:=jei (sc:=scope) (n:=C+1) z
    exact⟨c,by unfold jaG;rw [jaL,jdP,hc]⟩
   have shr:scope.names.lookup x=some .free→ ∃c,(jaG X scope C).lookup x=some c:=fun z=>by
    have fm:=jbS z
    obtain⟨c,hc⟩:=I.ok.has x (S.free _ fm rfl)
    exact⟨c,jd6 S hc fm (by rw [z];decide)⟩
   rcases hx with hx|hx
   ·rcases jaU (env:=X.env) hx with z|z
    ·exact own z
    ·exact shr z
   ·rcases jaU (env:=X.env) hx with z|z<;>exact shr z
  ·have z' :scope.names.lookup x=some .cell:=by
    have z2:(scope.names.lookup x==some NameKind.cell)=true:=z
    simpa using z2
   rcases jcg S e with ⟨n,_⟩|⟨_,m⟩
   ·exact absurd z' n
   ·show h3.objs.size≤c
    rw [hC];exact G1j (G24 (hcl₁ x c m).2)
  ·rcases (hf b hb).2.2.2.1 with z|z
   ·exact I.ok.noex b o e z
   ·exact absurd (G0W (G0n e) (G01 I.ok.bsz z)) (G02 _)
  ·rcases G0C.mp (I.stkSub b z) with q|q
   ·exact(hf b hb).2.1 q
   ·exact(hf b hb).2.2.1 q
 -- the block's first state
 have I4:Inv X' [(D,LCg.lst [])] (jch js σ) H2 {s2 with heap:=h₁}:=by
  subst hX
  have hDC:D≠C:=by rw [CD];exact G0R (G14 _)
  refine⟨okX,rfl,I2.bare,Un.kept (fun b u e=>upC b u e),⟨_,hns₁,fun i x v e1 e2 e3=> ?_⟩,fun x c e=> ?_,I3.hok.fresh (G37 hC),fun x c e=>(cl x c e).elim (fun z=>I2.freeC x c z) (fun z=>I3.hok.fresh (by rw [←hC] at z;exact G1j z)),fun p hp=> ?_,I3.hok.kept upC,(jfc js σ).trans I2.len⟩
  ·have fr:scope.names.lookup x=some .free:=by
    rcases e3 with e3|e3|e3
    ·rcases jaU (env:=X.env) e3 with z|z
     ·exact absurd e2 (jb1 js σ i v (S.js i x e1 (.inl z)))
     ·exact z
    ·rcases jaU (env:=X.env) e3 with z|z
     ·exact absurd e2 (jb1 js σ i v (S.js i x e1 (.inr z)))
     ·exact z
    ·rcases jaU (env:=X.env) e3 with z|z<;>exact z
   have fm:=jbS fr
   obtain⟨m,hm,hl⟩:=I2.loc
   have vis:=S.free _ fm rfl
   obtain⟨u,r,lk⟩:=hl i x v e1 (jev js σ i v e2) (.inr vis)
   have kd:(relabel scope X.env).names.lookup x=some .cell∨(relabel scope X.env).names.lookup x=some .free:=by
    rcases e3 with e3|e3|e3
    ·rcases jaU (env:=X.env) e3 with z|z
     ·rw [fr] at z;cases z
     ·exfalso
      have z2:=e3
      -- a local's kind stays
      exact absurd e2 (jb1 js σ i v (S.js i x e1 (.inl (by
       have q: ∀ (l:List (Str×NameKind)),(l.map fun (n,k)=>if (k==NameKind.free&&X.env.scope.kind== .function&&X.env.kindOf n==some .cell) then (n,NameKind.cell) else (n,k)).lookup x=some .local→l.lookup x=some .local:=by
        intro l
        induction l with
        |nil=>intro h;simp at h
        |cons p l ih=>
         obtain⟨n,k'⟩:=p
         intro h
         have h' :List.lookup x ((if (k' ==NameKind.free&&X.env.scope.kind== .function&&X.env.kindOf n==some .cell)=true then (n,NameKind.cell) else (n,k'))::(l.map fun (n,k)=>if (k==NameKind.free&&X.env.scope.kind== .function&&X.env.kindOf n==some .cell) then (n,NameKind.cell) else (n,k)))=some .local:=h
         rw [G1N]
         by_cases hc:(k' ==NameKind.free&&X.env.scope.kind== .function&&X.env.kindOf n==some .cell)=true
         ·rw [if_pos hc,G1N] at h'
          cases hx:x==n with
          |true=>rw [hx] at h';cases h'
          |false=>rw [hx] at h';exact ih h'
         ·rw [if_neg hc,G1N] at h'
          cases hx:x==n with
          |true=>rw [hx] at h';exact h'
          |false=>rw [hx] at h';exact ih h'
       exact q _ z2))))
    ·exact .inl e3
    ·exact .inr e3
   rcases lk with ⟨k,_⟩|⟨_,c,hc,hcell⟩
   ·have k' :X.env.scope.names.lookup x=some .local:=k
    rcases vis with z|z<;>(rw [k'] at z;cases z)
   ·refine⟨u,r,.inr ⟨kd,c,jd6 S hc fm (by rw [fr];decide),?_⟩⟩
    obtain⟨o,ho,hd⟩:=hcell
    exact⟨o,upC _ _ (up3 _ _ ho),hd⟩
  ·rcases jcg S e with ⟨_,z⟩|⟨_,z⟩
   ·obtain⟨v,o,ho,hd⟩:=I2.cell x c z
    exact⟨v,o,upC _ _ (up3 _ _ ho),hd⟩
   ·exact⟨none,(hcl₁ x c z).1⟩
  ·have hp' :p∈ [(D,LCg.lst [])]:=hp
   rcases G0g.mp hp' with rfl
   refine⟨upC _ _ hD3,fD.1,hDC,fun z=> ?_,fun v z=>by cases z⟩
   rcases G0C.mp (I.stkSub D z) with q|q
   ·exact fD.2.1 q
   ·exact fD.2.2.1 q
 have st4:tn 0 h₁:=T.keep _ _ _ st2 fun b _ o e=>upC _ _ (up3 _ _ e)
 have eA:X'.A=X.A:=by rw [←hX];rfl
 have eP:X'.prog=X.prog:=by rw [←hX];rfl
 have eW:X'.w=X.w:=by rw [←hX];rfl
 have eK:X'.K=X.K:=by rw [←hX];rfl
 have eC:X'.calm=true:=by rw [←hX];exact hc
 have eV:X'.env=compEnvC scope (jaG X scope C) C X.env:=by rw [←hX];rfl
 have eE:X'.xe=fun _ _=>False:=by rw [←hX];rfl
 -- what stays true of the iterator's objects
 have stat: ∀ {us:List Value} {H' :Hp},(∀b∈fp,H' b=none)→ ∀b∈fp,jjp X' [(D,LCg.lst us)] H' b:=fun {us H'} hn b hb=>by
  have q:=hf b (G1L _ hb)
  subst hX
  refine⟨hn b hb,G0R (ltb b (G1L _ hb)),fun z=> ?_,.inl (G1L _ hb),fun x c e=>(cl x c e).elim (fun z=>q.2.2.2.2.1 x c z) (fun z=>G2B (G3c (ltb b (G1L _ hb)) z)),fun p hp=> ?_⟩
  ·rcases G0C.mp (I.stkSub b z) with r|r
   ·exact q.2.1 r
   ·exact q.2.2.1 r
  ·have hp' :p∈ [(D,LCg.lst us)]:=hp
   rcases G0g.mp hp' with rfl
   exact G2B (ltf b hb)
 have loop: ∀s₃:Shared,s₃= {s2 with heap:=h₁}→
  codeAny (model X.prog X.w) X.A (.compLoop (.ListComp elt (⟨tg,iter,ifs,0⟩::rest) scope pos) 0 (.ref it) (.ref D) (compEnvC scope (jaG X scope C) C X.env))
   (compPost (model X.prog X.w) X.A X.xe use Qv (.ref D) C) s₃:=by
  rintro s₃ rfl
  refine jk8 (act:=act (compEnvC scope (jaG X scope C) C X.env) (.ref D)) (fun n s' => ∃i ys us H',Vals ys us∧Inv X' [(D,LCg.lst us)] (jch js σ) H' s' ∧tn i s'.heap∧(∀b∈fp,H' b=none)∧W i n ys H') (hturn _ _ _) ?_ m0
   ⟨0,[],[],H2,.nil,I4,st4,fun b hb=>(f2 b hb).1,w0⟩
  rintro n s5 ⟨i,ys,us,H5,hv5,I5,st5,fr5,w5⟩
  obtain⟨hz,tr⟩:=turn i n ys H5 w5
  rcases tr with ⟨stop,qn⟩|⟨go,step⟩
  ·have q:=T.done X' eP eW eK eC i _ s5 _ H5 (fun _ _=>False) I5 (stat fr5) st5 stop
   rw [eA] at q
   refine G08 q (fun r s6 ⟨hr,I6⟩=> ?_) fun _ _ z=>z
   subst hr
   obtain⟨m6,hm6,_⟩:=I6.loc
   rw [eV] at hm6
   have zD:=I6.pin (D,LCg.lst us) (G0E _ G0p)
   have HD:H5 D=none:=zD.2.1
   have oD:s6.heap.get? D=some (LCg.lst us):=zD.1
   have hDC:D≠C:=by rw [CD];exact G0R (G14 _)
   have HC:H5 C=none:=by have z:=I6.free;rw [eV] at z;exact z
   have B:=I6.base
   have os6:s6.os=s2.os:=by have z:=I6.os;rw [←hX] at z;exact z
   have Bu:Un (frs X.stack) (fp++ [D]) H2 H5 h3 s6.heap:=by rw [←hX] at B;exact B
   have neC: ∀b o,h3.get? b=some o→b≠C:=fun b o e=>by rw [←hC];exact G0R (G0n e)
   refine fin D C (upd H5 D (.lst ys)) s6 m6 hm6 (fun h' hs' => ?_) (by rw [jan (Ne.symm hDC)];exact HC) ?_ ?_ ?_ (fun x c e=>G0R (olt x c e)) ?_ (qn D HD)
   ·have hk5:HOk X.prog X.w H5 h' :=fun b u e=>by
     have z:=I6.hok b u e
     rw [eP,eW] at z
     refine z.stay (fun c v hc q=>hs'.extBut c v ?_ q) (fun _ q=>q) fun _ _ q=>q
     rcases hc with rfl|hc
     ·exact jaj e HC
     ·exact jaj hc HC
    refine I3.call' (ch:=fp++ [D]) os6 ⟨fun b o e n hb hx=> ?_,fun b o e n hb hx=> ?_,fun b o e n hx=> ?_,fun b o e hx=> ?_,fun b xs e=> ?_,fun b o u e=> ?_,fun b ps e=> ?_⟩ (hk5.track HD ?_) I6.bare fun b hb=> ?_
    ·exact hs'.extBut b o (neC b o e) (Bu.keep b o e n hb hx)
    ·obtain⟨sl,q⟩:=Bu.slot b o e n hb hx
     exact⟨sl,hs'.extBut b _ (neC b o e) q⟩
    ·rw [jan fun z=>hx (by rw [z];exact G0E _ G0p)]
     exact Bu.free b o e n hx
    ·obtain⟨o',q⟩:=Bu.there b o e hx
     exact⟨o',hs'.extBut b _ (neC b o e) q⟩
    ·have z:=Bu.tups b xs e
     rw [jan (jaj z HD)];exact z
    ·have z:=Bu.frzs b o u e
     rw [jan (jaj z HD)];exact z
    ·obtain⟨more,z⟩:=Bu.tbls b ps e
     exact⟨more,by rw [jan (jaj z HD)];exact z⟩
    ·exact⟨hz,us,us.length,hv5,hs'.extBut D _ hDC oD⟩
    ·have q:=hf b hb
     exact⟨q.2.2.2.1,q.2.1,q.2.2.2.2.1,q.2.2.2.2.2⟩
   ·rw [←hC];exact G2B I3.lt
   ·exact I3.nofs (G37 hC)
   ·rw [←hC];exact I3.sz
   ·intro p hp
    have:=(I3.pin p hp).1
    rw [←hC];exact G0R (G0n this)
  ·have q:=T.item X' eP eW eK eC i _ s5 _ H5 (fun _ _=>False) I5 (stat fr5) st5 go
   rw [eA] at q
   refine G08 q (fun r s6 ⟨u,hr,h6⟩=> ?_) fun _ _ z=>z
   subst hr
   refine G08 h6 (fun _ s7 ⟨x,H7,I7,r7,y7,st7,fr7⟩=> ?_) fun _ _ z=>z
   have I7' :=I7.pinned (stat fr7) (T.obj _ _ st7)
   have q7:=hg X' iX _ s7 _ H7 x u _ I7' r7 (step x H7 y7)
   rw [eP,eW,eA,eV,eE] at q7
   refine G08 q7 (fun _ s8 ⟨σ8,H8,I8,ag8,q8⟩=> ?_) fun _ _ z=>z
   have q9:=ht X' iX _ s8 σ8 H8 _ I8 q8
   rw [eP,eW,eA,eV,eE] at q9
   refine G08 q9 (fun ok s9 ⟨H9,I9,q9⟩=> ?_) fun _ _ z=>z
   have keepT: ∀ {σ' :St} {H' :Hp} {s' :Shared} {us:List Value},Inv X' ([(D,LCg.lst us)]++jem fp s7.heap) σ' H' s' →tn (i+1) s'.heap∧ ∀b∈fp,H' b=none:=fun {σ' H' s' us} I' =>
    ⟨T.keep _ _ _ st7 fun b hb o e=>(I'.pin (b,o) (G0E _ (G0E _ (jcY hb e)))).1,fun b hb=>by
     obtain⟨o,e,_⟩:=T.obj _ _ st7 b hb
     exact(I'.pin (b,o) (G0E _ (G0E _ (jcY hb e)))).2.1⟩
   cases ok with
   |false=>
    have q9: ∃m',m' <n∧W (i+1) m' ys H9:=q9
    obtain⟨m',hm,w9⟩:=q9
    obtain⟨t9,f9⟩:=keepT I9
    exact⟨m',hm,i+1,ys,us,H9,hv5,(I9.unpinned).weak ag8.1.symm ag8.2,t9,f9,w9⟩
   |true=>
    have q9:tm σ8 H9 ys fun ys' H4=> ∃m',m' <n∧W (i+1) m' ys' H4:=q9
    have DX:D∈X'.ex:=by rw [←hX];exact G0E _ G0p
    have pD: ∀p∈X'.pn++jem fp s7.heap,p.1≠D:=fun p hp=>by
     have hp' :p∈jem fp s7.heap:=by rw [←hX] at hp;simpa [jfH] using hp
     exact G0R (ltf _ (jgE hp').1)
    have cD: ∀x c,X'.env.cells.lookup x=some c→c≠D:=fun x c e=>by
     rw [eV] at e
     exact(cl x c e).elim (fun z=>fD.2.2.2.2.1 x c z) fun z=>G2B (G3c (by rw [CD];exact G14 _) z)
    have q10:=he X' iX D _ s9 σ8 H9 ys us _ I9 hv5 hz DX cD pD q9
    rw [eP,eW,eA,eV] at q10
    show wpAny _ _ (act _ _) _ _ s9
    refine G08 q10 (fun _ s10 ⟨ys',us',H10,hv10,I10,m',hm,w10⟩=> ?_) fun _ _ z=>z
    obtain⟨t10,f10⟩:=keepT I10
    exact⟨m',hm,i+1,ys',us',H10,hv10,(I10.unpinned).weak ag8.1.symm ag8.2,t10,f10,w10⟩
 exact codeAny_compStart_list (loop _ rfl) (T.self X.A 0 _ _ _ st4 (loop _ rfl))
theorem joU {X:Cx} {elt iter tg:Expr} {ifs:List Expr} {scope:Scope} {pos:Pos} {js:List Nat} {wi:TI} {g:TG} {tt:TT} {te:TE} (hc:X.calm=true) (S:BlockOk X scope js) (hi:PI X tg iter wi)
 (hg: ∀X',jax X scope X' →PG X' tg g) (ht: ∀X',jax X scope X' →PTs X' ifs tt) (he: ∀X',jax X scope X' →PE X' elt te)
 (hs: ∀x,foldedSetIterable iter X.env x=pure x:=by intro _;rfl):PE X (.ListComp elt [⟨tg,iter,ifs,0⟩] scope pos) (tLC js wi g tt te):=by
 intro pins s σ H Q I h
 rw [eval_ListComp]
 exact jmf (use:=none) hc S hi rfl hg ht (jh9 elt) (fun _ _ _=>rfl) (fun X' hX D=>jia (by obtain⟨_,_,_,_,rfl⟩:=hX;rfl) (he X' hX)) hs I h
  fun D C H' s' m hn hk _ _ _ _ _ _ q=>⟨m,hn,fun h' hs' =>⟨.ref D,H',hk h' hs',rfl,q⟩⟩
theorem jm1 {X:Cx} {e elt iter tg:Expr} {ifs:List Expr} {rest:List Comprehension} {scope:Scope} {pos pos' spos:Pos} {x:Str} {js:List Nat} {wi:TI} {g g' :TG} {tt:TT} {tm:TM} (hc:X.calm=true) (S:BlockOk X scope js) (hi:PI X tg iter wi)
 (he0:e= .ListComp elt (⟨tg,iter,ifs,0⟩::rest) scope pos) (hg: ∀X',jax X scope X' →PG X' tg g) (ht: ∀X',jax X scope X' →PTs X' ifs tt)
 (act:Env→Value→Sem Unit) (hturn: ∀it acc env,compTurn e 0 it acc env=jh8 iter tg ifs it env (act env acc) (.compLoop e 0 it acc env)) (he: ∀X',jax X scope X' → ∀D,jqI X' D (act X'.env (.ref D)) tm)
 (hg' :PG X (.Name x pos') g') (hsw:swapsWith e (some (.Name x pos')) spos.line X.env=pure true)
 (hs: ∀x,foldedSetIterable iter X.env x=pure x):PS X (.Assign [.Name x pos'] e spos) (jmL (jqJ js wi g tt tm) g'):=by
 intro pins s σ H Dn I h
 rw [exec_Assign_Name_used _ _ _ _ hsw]
 refine wpAny_bind (G3O (wpAny_bind ?_))
 subst he0
 rw [arm_evalThenUse_ListComp]
 show wpAny _ X.A (do let _ ←comprehension (.ListComp elt (⟨tg,iter,ifs,0⟩::rest) scope pos) scope X.env _ (newList []) false (eval iter X.env) (some (assign (.Name x pos') X.env))) _ _ s
 refine wpAny_bind (G08 (jmf (use:=some (assign (.Name x pos') X.env)) (Qv:=fun _ s' =>SP X pins Dn .next s') hc S hi rfl hg ht act hturn he hs I h ?_) (fun _ s' hq=>G0d (G0d hq)) fun _ _ e=>e)
 intro D C H' s' m hn hk HC nL nf sz ncell npin q
 show wpAny _ X.A (assign (.Name x pos') X.env (.ref D)) _ _ s'
 obtain⟨o,es,ep,ho,hd,hr⟩:=id hn
 have I1:Inv X pins σ H' s' :=hk s'.heap (G2F ..)
 have I2:Inv X (pins++ [(C,o)]) σ H' s' :=I1.pins_of fun p hp=>by
  rcases G0z.mp hp with z|z
  ·exact I1.pin p (G0E _ z)
  ·rcases G0g.mp z with rfl
   exact⟨ho,HC,nL,nf,fun v z=>by rw [hd] at z;cases z⟩
 refine G08 (hg' _ s' σ H' (.ref D) (.ref D) _ I2 rfl q) (fun _ s3 ⟨σ3,H3,I3,q3⟩=> ?_) fun _ _ z=>z
 have pC:=I3.pin (C,o) (G0E _ (G0E _ G0p))
 refine⟨m,hn.at' fun o' e' => ?_,fun h' hs' => ?_⟩
 ·rw [ho] at e';cases e';exact pC.1
 ·exact⟨σ3,H3,(I3.unpinned).turned (t' :=s3.toks) (it:=C) (fun b o hb e=>hs'.extBut b o hb e) pC.2.1 nL (.inr sz) ncell npin,q3⟩
theorem jk9 {X:Cx} {elt iter tg:Expr} {ifs:List Expr} {scope:Scope} {pos pos' spos:Pos} {x:Str} {js:List Nat} {wi:TI} {g g' :TG} {tt:TT} {te:TE} (hc:X.calm=true) (S:BlockOk X scope js) (hi:PI X tg iter wi)
 (hg: ∀X',jax X scope X' →PG X' tg g) (ht: ∀X',jax X scope X' →PTs X' ifs tt) (he: ∀X',jax X scope X' →PE X' elt te)
 (hg' :PG X (.Name x pos') g') (hsw:swapsWith (.ListComp elt [⟨tg,iter,ifs,0⟩] scope pos) (some (.Name x pos')) spos.line X.env=pure true)
 (hs: ∀x,foldedSetIterable iter X.env x=pure x:=by intro _;rfl):PS X (.Assign [.Name x pos'] (.ListComp elt [⟨tg,iter,ifs,0⟩] scope pos) spos) (jmL (tLC js wi g tt te) g'):=
 jm1 hc S hi rfl hg ht (jh9 elt) (fun _ _ _=>rfl) (fun X' hX D=>jia (by obtain⟨_,_,_,_,rfl⟩:=hX;rfl) (he X' hX)) hg' hsw hs
inductive D where
 |non|bl (b:Bool)|int (i:Int)|str (x:Str)|tup (ds:List D)|lst (a:Addr)|dic (x:Str) (i:Int)|scr (ns:List Int)|exc (C:Addr)|fn (a:Addr)
def Scr (K:PySem.W.Frag) (H:Hp) (a:Addr) (ns:List Int):Prop:=
 (∃o,H a=some (.frz o (.lst (ns.map V.int))))∨
  ∃ (o:Obj) (its:Array Value) (n:Nat),K.lookup a=some o∧o.cls= .type "list" ∧o.dict=none∧o.data= .seq its n∧its.size≤sizeLine∧Vals (ns.map V.int) its.toList
theorem Scr.sq {K:PySem.W.Frag} {H:Hp} {a:Addr} {ns:List Int} (h:Scr K H a ns):SqL K H a (ns.map V.int):=h.elim (fun z=> .inl (.inr z)) .inr
mutual
def RelD (K:PySem.W.Frag) (H:Hp):D→V→Prop
 | .non,v=>v= .non
 | .bl b,v=>v= .bl b
 | .int i,v=>v= .int i
 | .str x,v=>v= .str x
 | .tup ds,v=> ∃a vs,v= .ref a∧H a=some (.tup vs)∧RelDs K H ds vs
 | .lst a,v=>v= .ref a∧ ∃vs,H a=some (.lst vs)
 | .dic x i,v=> ∃a,v= .ref a∧H a=some (.dK [(Sum.inr x,V.int i)])
 | .scr ns,v=> ∃a,v= .ref a∧Scr K H a ns
 | .exc C,v=> ∃x o vs,v= .ref x∧H x=some (.frz o (.own 0))∧o.cls= .ref C∧o.data= .fields vs
 | .fn a,v=>v= .ref a∧PySem.W.keepIn K (.ref a)=true
def RelDs (K:PySem.W.Frag) (H:Hp):List D→List V→Prop
 | [],vs=>vs= []
 |d::ds,vs=> ∃v r,vs=v::r∧RelD K H d v∧RelDs K H ds r
end
structure Kept (H H' :Hp):Prop where
 tup: ∀a xs,H a=some (.tup xs)→H' a=some (.tup xs)
 lst: ∀a xs,H a=some (.lst xs)→ ∃ys,H' a=some (.lst ys)
 dic: ∀a k,H a=some (.dK k)→H' a=some (.dK k)
 frz: ∀a o u,H a=some (.frz o u)→H' a=some (.frz o u)
theorem Kept.refl (H:Hp):Kept H H:=⟨fun _ _ h=>h,fun _ xs h=>⟨xs,h⟩,fun _ _ h=>h,fun _ _ _ h=>h⟩
theorem Kept.trans {A B C:Hp} (x:Kept A B) (y:Kept B C):Kept A C:=
 ⟨fun a xs h=>y.tup a xs (x.tup a xs h),fun a xs h=>let ⟨_,e⟩:=x.lst a xs h;y.lst a _ e,fun a k h=>y.dic a k (x.dic a k h),fun a o u h=>y.frz a o u (x.frz a o u h)⟩
theorem Kept.new {H:Hp} {p:Addr} {o:HO} (h:H p=none):Kept H (upd H p o):=
 ⟨fun a xs e=>by rw [jan (jaj e h)];exact e,fun a xs e=>⟨xs,by rw [jan (jaj e h)];exact e⟩,fun a k e=>by rw [jan (jaj e h)];exact e,fun a o u e=>by rw [jan (jaj e h)];exact e⟩
theorem Kept.put {H:Hp} {p:Addr} {xs ys:List V} (h:H p=some (.lst xs)):Kept H (upd H p (.lst ys)):=
 ⟨fun a zs e=>by rw [jan (jji e h (by intro z;cases z))];exact e,fun a zs e=>by
  by_cases q:a=p
  ·subst q;exact⟨ys,jap⟩
  ·exact⟨zs,by rw [jan q];exact e⟩,
  fun a k e=>by rw [jan (jji e h (by intro z;cases z))];exact e,fun a o u e=>by rw [jan (jji e h (by intro z;cases z))];exact e⟩
mutual
theorem RelD.mono {K:PySem.W.Frag} {H H' :Hp} (k:Kept H H'): ∀ {d:D} {v:V},RelD K H d v→RelD K H' d v
 | .non,_,h=>h
 | .bl _,_,h=>h
 | .int _,_,h=>h
 | .str _,_,h=>h
 | .tup ds,v,h=>by
  obtain⟨a,vs,e,h1,h2⟩:=(show ∃a vs,v= .ref a∧H a=some (.tup vs)∧RelDs K H ds vs from h)
  exact⟨a,vs,e,k.tup _ _ h1,RelDs.mono k h2⟩
 | .lst a,v,h=>by
  obtain⟨e,vs,h1⟩:=(show v= .ref a∧ ∃vs,H a=some (.lst vs) from h)
  exact⟨e,k.lst _ _ h1⟩
 | .dic x i,v,h=>by
  obtain⟨a,e,h1⟩:=(show ∃a,v= .ref a∧H a=some (.dK [(Sum.inr x,V.int i)]) from h)
  exact⟨a,e,k.dic _ _ h1⟩
 | .scr ns,v,h=>by
  obtain⟨a,e,h1⟩:=(show ∃a,v= .ref a∧Scr K H a ns from h)
  exact⟨a,e,h1.elim (fun ⟨o,z⟩=> .inl ⟨o,k.frz _ _ _ z⟩) .inr⟩
 | .exc C,v,h=>by
  obtain⟨x,o,vs,e,h1,r⟩:=(show ∃x o vs,v= .ref x∧H x=some (.frz o (.own 0))∧o.cls= .ref C∧o.data= .fields vs from h)
  exact⟨x,o,vs,e,k.frz _ _ _ h1,r⟩
 | .fn a,v,h=>h
theorem RelDs.mono {K:PySem.W.Frag} {H H' :Hp} (k:Kept H H'): ∀ {ds:List D} {vs:List V},RelDs K H ds vs→RelDs K H' ds vs
 | [],_,h=>h
 |d::ds,vs,h=>by
  obtain⟨v,r,e,h1,h2⟩:=(show ∃v r,vs=v::r∧RelD K H d v∧RelDs K H ds r from h)
  exact⟨v,r,e,RelD.mono k h1,RelDs.mono k h2⟩
end
section
variable {K:PySem.W.Frag} {H:Hp}
theorem RelDs.nil:RelDs K H [] []:=rfl
theorem RelDs.cons {d:D} {v:V} {ds:List D} {vs:List V} (h:RelD K H d v) (t:RelDs K H ds vs):RelDs K H (d::ds) (v::vs):=⟨v,vs,rfl,h,t⟩
theorem RelDs.length: ∀ {ds:List D} {vs:List V},RelDs K H ds vs→ds.length=vs.length
 | [],_,h=>by cases (show _= [] from h);rfl
 |d::ds,vs,h=>by
  obtain⟨v,r,e,_,h2⟩:=(show ∃v r,vs=v::r∧RelD K H d v∧RelDs K H ds r from h)
  subst e
  simp [RelDs.length h2]
theorem RelDs.append: ∀ {ds es:List D} {vs us:List V},RelDs K H ds vs→RelDs K H es us→RelDs K H (ds++es) (vs++us)
 | [],_,_,_,h,g=>by cases (show _= [] from h);exact g
 |d::ds,es,vs,us,h,g=>by
  obtain⟨v,r,e,h1,h2⟩:=(show ∃v r,vs=v::r∧RelD K H d v∧RelDs K H ds r from h)
  subst e
  exact .cons h1 (RelDs.append h2 g)
theorem RelDs.get: ∀ {ds:List D} {vs:List V} {i:Nat} {d:D},RelDs K H ds vs→ds[i]? =some d→ ∃v,vs[i]? =some v∧RelD K H d v
 |d' ::ds,vs,i,d,h,e=>by
  obtain⟨v,r,q,h1,h2⟩:=(show ∃v r,vs=v::r∧RelD K H d' v∧RelDs K H ds r from h)
  subst q
  cases i with
  |zero=>simp at e;subst e;exact⟨v,rfl,h1⟩
  |succ i=>
   obtain⟨u,q1,q2⟩:=RelDs.get h2 (i:=i) (d:=d) (by simpa using e)
   exact⟨u,by simpa using q1,q2⟩
theorem RelDs.take (n:Nat): ∀ {ds:List D} {vs:List V},RelDs K H ds vs→RelDs K H (ds.take n) (vs.take n):=by
 induction n with
 |zero=>intro ds vs _;exact(rfl:RelDs K H [] [])
 |succ n ih=>
  intro ds vs h
  cases ds with
  |nil=>cases (show vs= [] from h);exact .nil
  |cons d ds=>
   obtain⟨v,r,e,h1,h2⟩:=(show ∃v r,vs=v::r∧RelD K H d v∧RelDs K H ds r from h)
   subst e;exact .cons h1 (ih h2)
theorem RelDs.drop (n:Nat): ∀ {ds:List D} {vs:List V},RelDs K H ds vs→RelDs K H (ds.drop n) (vs.drop n):=by
 induction n with
 |zero=>intro ds vs h;exact h
 |succ n ih=>
  intro ds vs h
  cases ds with
  |nil=>cases (show vs= [] from h);exact .nil
  |cons d ds=>
   obtain⟨v,r,e,h1,h2⟩:=(show ∃v r,vs=v::r∧RelD K H d v∧RelDs K H ds r from h)
   subst e;exact ih h2
theorem RelDs.set {d:D} {v:V} (q:RelD K H d v): ∀ {ds:List D} {vs:List V} (i:Nat),RelDs K H ds vs→RelDs K H (ds.set i d) (vs.set i v)
 | [],_,_,h=>by cases (show _= [] from h);exact .nil
 |e::ds,vs,i,h=>by
  obtain⟨u,r,z,h1,h2⟩:=(show ∃u r,vs=u::r∧RelD K H e u∧RelDs K H ds r from h)
  subst z
  cases i with
  |zero=>exact .cons q h2
  |succ i=>exact .cons h1 (RelDs.set q i h2)
theorem jc0: ∀ns:List Int,RelDs K H (ns.map D.int) (ns.map V.int)
 | []=> .nil
 |n::ns=> .cons rfl (jc0 ns)
end
abbrev HD:=Addr→Option (List D)
def jb2 (h:HD) (a:Addr) (ds:List D):HD:=fun b=>if b=a then some ds else h b
def jew (h:HD) (a:Addr):HD:=fun b=>if b=a then none else h b
theorem jad {h:HD} {a:Addr} {ds:List D}:jb2 h a ds a=some ds:=if_pos rfl
theorem jbx {h:HD} {a b:Addr} {ds:List D} (e:b≠a):jb2 h a ds b=h b:=if_neg e
theorem jbs {h:HD} {a:Addr} {ds:List D} (e:h a=none):jew (jb2 h a ds) a=h:=by
 funext b;unfold jew jb2;by_cases q:b=a
 ·subst q;simp [e]
 ·simp [q]
def LN:List Str:= ["law","_law_right","_law_words","_law_other_words","_law_many_right","_law_all","_law_told_row","_law_all_right","_law_desk_right","_law_signs_right","_law_lists_right","_law_text_right"]
def TabK (K:PySem.W.Frag) (P:Addr):Prop:= ∃x∈LN,∃c,PySem.W.tabIn K x=some (c,P)
def CodesOk (H:Hp) (ps:Array Value):Prop:=TriplesOk ps.toList∧ ∀pos cv,codeAmong pos ps.toList=some cv→ ∃ (c:Addr) (o:Obj) (vs:Array Value) (q:Str) (t:Tok),cv= .ref c∧H c=some (.frz o (.own 0))∧o.data= .fields vs∧vs[1]? =some (.str q t)
def CTabs (K:PySem.W.Frag) (H:Hp):Prop:= ∀P,TabK K P→ ∃ps,H P=some (.tbl ps)∧CodesOk H ps
theorem CodesOk.mono {H H' :Hp} {ps:Array Value} (k: ∀a o u,H a=some (.frz o u)→H' a=some (.frz o u)) (c:CodesOk H ps):CodesOk H' ps:=
 ⟨c.1,fun pos cv e=>let ⟨c',o,vs,q,t,e1,e2,r⟩:=c.2 pos cv e;⟨c',o,vs,q,t,e1,k _ _ _ e2,r⟩⟩
theorem CTabs.mono {K:PySem.W.Frag} {H H' :Hp} (x:CTabs K H) (k: ∀a o u,H a=some (.frz o u)→H' a=some (.frz o u)) (kt: ∀a ps,H a=some (.tbl ps)→H' a=some (.tbl ps)):CTabs K H' :=fun P hP=>
 let ⟨ps,e,c⟩:=x P hP;⟨ps,kt _ _ e,c.mono k⟩
theorem CTabs.new {K:PySem.W.Frag} {H:Hp} {p:Addr} {o:HO} (x:CTabs K H) (e:H p=none):CTabs K (upd H p o):=
 x.mono (fun a o' u h=>by rw [jan (jaj h e)];exact h) fun a ps h=>by rw [jan (jaj h e)];exact h
theorem CTabs.put {K:PySem.W.Frag} {H:Hp} {p:Addr} {o:HO} {xs:List V} (x:CTabs K H) (e:H p=some (.lst xs)):CTabs K (upd H p o):=
 x.mono (fun a o' u h=>by rw [jan (jji h e (by intro z;cases z))];exact h) fun a ps h=>by rw [jan (jji h e (by intro z;cases z))];exact h
structure RelH (K:PySem.W.Frag) (h:HD) (H:Hp):Prop where
 ls: ∀a ds,h a=some ds→ ∃vs,H a=some (.lst vs)∧RelDs K H ds vs
 tb:CTabs K H
instance {K:PySem.W.Frag} {h:HD} {H:Hp}:CoeFun (RelH K h H) fun _=> ∀a ds,h a=some ds→ ∃vs,H a=some (.lst vs)∧RelDs K H ds vs:=⟨RelH.ls⟩
def Sub (h h' :HD):Prop:= ∀a ds,h a=some ds→h' a=some ds
theorem Sub.refl (h:HD):Sub h h:=fun _ _ e=>e
theorem Sub.trans {a b c:HD} (x:Sub a b) (y:Sub b c):Sub a c:=fun d ds e=>y d ds (x d ds e)
theorem Sub.drop (h:HD) (a:Addr):Sub (jew h a) h:=fun b ds e=>by
 unfold jew at e;split at e
 ·cases e
 ·exact e
theorem Sub.new {h:HD} {p:Addr} {ds:List D} (e:h p=none):Sub h (jb2 h p ds):=fun a es q=>by
 rw [jbx];exact q
 intro z;subst z;rw [e] at q;cases q
section
variable {K:PySem.W.Frag} {h h' :HD} {H:Hp}
theorem RelH.sub (r:RelH K h H) (s:Sub h' h):RelH K h' H:=⟨fun a ds e=>r a ds (s a ds e),r.tb⟩
theorem RelH.free (r:RelH K h H) {p:Addr} (e:H p=none):h p=none:=by
 cases q:h p with
 |none=>rfl
 |some ds=>obtain⟨vs,z,_⟩:=r p ds q;rw [e] at z;cases z
theorem RelH.new (r:RelH K h H) {p:Addr} {o:HO} (e:H p=none):RelH K h (upd H p o):=⟨fun a ds q=>by
 obtain⟨vs,z,w⟩:=r a ds q
 exact⟨vs,by rw [jan (jaj z e)];exact z,w.mono (.new e)⟩,r.tb.new e⟩
theorem RelH.newL (r:RelH K h H) {p:Addr} {ds:List D} {vs:List V} (e:H p=none) (q:RelDs K H ds vs):RelH K (jb2 h p ds) (upd H p (.lst vs)):=⟨fun a es z=>by
 by_cases w:a=p
 ·subst w;rw [jad] at z;cases z
  exact⟨vs,jap,q.mono (.new e)⟩
 ·rw [jbx w] at z
  obtain⟨us,z1,z2⟩:=r a es z
  exact⟨us,by rw [jan w];exact z1,z2.mono (.new e)⟩,r.tb.new e⟩
theorem RelH.put (r:RelH K h H) {p:Addr} {ds:List D} {vs us:List V} (e:H p=some (.lst us)) (q:RelDs K H ds vs):RelH K (jb2 h p ds) (upd H p (.lst vs)):=⟨fun a es z=>by
 by_cases w:a=p
 ·subst w;rw [jad] at z;cases z
  exact⟨vs,jap,q.mono (.put e)⟩
 ·rw [jbx w] at z
  obtain⟨us,z1,z2⟩:=r a es z
  exact⟨us,by rw [jan w];exact z1,z2.mono (.put e)⟩,r.tb.put e⟩
end
abbrev SD:=List (Option D)
def RelS (K:PySem.W.Frag) (H:Hp) (σd:SD) (σ:St):Prop:=σd.length=σ.length∧ ∀ (i:Nat) (d:D),σd[i]? =some (some d)→ ∃v,σ[i]? =some (some v)∧RelD K H d v
theorem RelS.mono {K:PySem.W.Frag} {H H' :Hp} {σd:SD} {σ:St} (r:RelS K H σd σ) (k:Kept H H'):RelS K H' σd σ:=⟨r.1,fun i d e=>let ⟨v,a,b⟩:=r.2 i d e;⟨v,a,b.mono k⟩⟩
theorem RelS.set {K:PySem.W.Frag} {H:Hp} {σd:SD} {σ:St} {d:D} {v:V} (r:RelS K H σd σ) (q:RelD K H d v) (i:Nat):RelS K H (σd.set i (some d)) (σ.set i (some v)):=⟨by simp [r.1],fun j e h=>by
 by_cases z:i=j
 ·subst z
  rw [G23] at h ⊢
  by_cases hl:i<σd.length
  ·rw [if_pos rfl,if_pos hl] at h
   rw [if_pos rfl,if_pos (by rw [←r.1];exact hl)]
   cases h;exact⟨v,rfl,q⟩
  ·rw [if_pos rfl,if_neg hl] at h;cases h
 ·rw [G1M z] at h ⊢
  exact r.2 j e h⟩
theorem RelS.clear1 {K:PySem.W.Frag} {H:Hp} {σd:SD} {σ:St} (r:RelS K H σd σ) (i:Nat):RelS K H (σd.set i none) (σ.set i none):=⟨by simp [r.1],fun j e h=>by
 by_cases z:i=j
 ·subst z
  rw [G23] at h
  split at h
  ·split at h<;>cases h
  ·contradiction
 ·rw [G1M z] at h ⊢
  exact r.2 j e h⟩
def ja8:List Nat→SD→SD
 | [],σ=>σ
 |j::js,σ=>ja8 js (σ.set j none)
theorem RelS.clear {K:PySem.W.Frag} {H:Hp}: ∀ (js:List Nat) {σd:SD} {σ:St},RelS K H σd σ→RelS K H (ja8 js σd) (jch js σ)
 | [],_,_,r=>r
 |j::js,_,_,r=>RelS.clear js (r.clear1 j)
abbrev KD:=D→HD→Prop
abbrev TED:=SD→HD→KD→Prop
abbrev TTD:=SD→HD→(Bool→HD→Prop)→Prop
abbrev TAD:=SD→HD→(List D→HD→Prop)→Prop
abbrev RD2:=D→D→HD→KD→Prop
abbrev RDn:=List D→HD→KD→Prop
structure EndsD where
 nx:SD→HD→Prop
 rt:KD
 bk:SD→HD→Prop:=fun _ _=>False
 ct:SD→HD→Prop:=fun _ _=>False
abbrev TSD:=EndsD→SD→HD→Prop
abbrev TGD:=D→SD→HD→(SD→HD→Prop)→Prop
def jm2 (K:PySem.W.Frag) (H:Hp) (Qd:KD) (Q:VK):Prop:= ∀d v h' H',Kept H H' →RelH K h' H' →RelD K H' d v→Qd d h' →Q v H'
def LE (K:PySem.W.Frag) (t:TED):TE:=fun σ H Q=> ∃σd h Qd,RelS K H σd σ∧RelH K h H∧t σd h Qd∧jm2 K H Qd Q
def LT (K:PySem.W.Frag) (t:TTD):TT:=fun σ H Q=> ∃σd h Qd,RelS K H σd σ∧RelH K h H∧t σd h Qd∧ ∀b h' H',Kept H H' →RelH K h' H' →Qd b h' →Q b H'
def LA (K:PySem.W.Frag) (t:TAD):TA:=fun σ H Q=> ∃σd h Qd,RelS K H σd σ∧RelH K h H∧t σd h Qd∧ ∀ds vs h' H',Kept H H' →RelH K h' H' →RelDs K H' ds vs→Qd ds h' →Q vs H'
def LR (K:PySem.W.Frag) (f:RD2):R2:=fun x y H Q=> ∃dx dy h Qd,RelD K H dx x∧RelD K H dy y∧RelH K h H∧f dx dy h Qd∧jm2 K H Qd Q
def LC (K:PySem.W.Frag) (f:RDn):List V→Hp→VK→Prop:=fun xs H Q=> ∃ds h Qd,RelDs K H ds xs∧RelH K h H∧f ds h Qd∧jm2 K H Qd Q
def LG (K:PySem.W.Frag) (g:TGD):TG:=fun v σ H Q=> ∃d σd h Qd,RelD K H d v∧RelS K H σd σ∧RelH K h H∧g d σd h Qd∧ ∀σd' h' σ' H',Kept H H' →RelS K H' σd' σ' →RelH K h' H' →Qd σd' h' →Q σ' H'
def LS (K:PySem.W.Frag) (t:TSD):TS:=fun D₀ σ H=> ∃σd h Dd,RelS K H σd σ∧RelH K h H∧t Dd σd h∧
 (∀σd' h' σ' H',Kept H H' →RelS K H' σd' σ' →RelH K h' H' →Dd.nx σd' h' →D₀.nx σ' H')∧jm2 K H Dd.rt D₀.rt∧
 (∀σd' h' σ' H',Kept H H' →RelS K H' σd' σ' →RelH K h' H' →Dd.bk σd' h' →D₀.bk σ' H')∧(∀σd' h' σ' H',Kept H H' →RelS K H' σd' σ' →RelH K h' H' →Dd.ct σd' h' →D₀.ct σ' H')
theorem PE.imp {X:Cx} {e:Expr} {t t' :TE} (h:PE X e t) (i: ∀σ H Q,t' σ H Q→t σ H Q):PE X e t' :=fun pins s σ H Q I q=>h pins s σ H Q I (i σ H Q q)
theorem PT.imp {X:Cx} {e:Expr} {t t' :TT} (h:PT X e t) (i: ∀σ H Q,t' σ H Q→t σ H Q):PT X e t' :=fun pins s σ H Q I q=>h pins s σ H Q I (i σ H Q q)
theorem PW.imp {X:Cx} {e:Expr} {t t' :TT} (h:PW X e t) (i: ∀σ H Q,t' σ H Q→t σ H Q):PW X e t' :=fun wh pins s σ H Q I q=>h wh pins s σ H Q I (i σ H Q q)
theorem PA.imp {X:Cx} {e:List Expr} {t t' :TA} (h:PA X e t) (i: ∀σ H Q,t' σ H Q→t σ H Q):PA X e t' :=fun pos pins s σ H Q I q=>h pos pins s σ H Q I (i σ H Q q)
theorem PS.imp {X:Cx} {e:Stmt} {t t' :TS} (h:PS X e t) (i: ∀D σ H,t' D σ H→t D σ H):PS X e t' :=fun pins s σ H D I q=>h pins s σ H D I (i D σ H q)
theorem PSs.imp {X:Cx} {e:List Stmt} {t t' :TS} (h:PSs X e t) (i: ∀D σ H,t' D σ H→t D σ H):PSs X e t' :=fun pins s σ H D I q=>h pins s σ H D I (i D σ H q)
theorem PG.imp {X:Cx} {e:Expr} {t t' :TG} (h:PG X e t) (i: ∀v σ H Q,t' v σ H Q→t v σ H Q):PG X e t' :=fun pins s σ H v u Q I r q=>h pins s σ H v u Q I r (i v σ H Q q)
theorem OpR.imp {X:Cx} {f:Value→Value→Sem Value} {r r' :R2} (h:OpR X f r) (i: ∀x y H Q,r' x y H Q→r x y H Q):OpR X f r' :=fun pins s σ H x y v u Q I a b q=>h pins s σ H x y v u Q I a b (i x y H Q q)
theorem CallR.imp {X:Cx} {f:Value} {r r' :List V→Hp→VK→Prop} (h:CallR X f r) (i: ∀xs H Q,r' xs H Q→r xs H Q):CallR X f r' :=fun pins s σ H xs us Q I a q=>h pins s σ H xs us Q I a (i xs H Q q)
def jfd (i:Nat):TED:=fun σ h Q=> ∃d,σ[i]? =some (some d)∧Q d h
def dC (d:D):TED:=fun _ h Q=>Q d h
def dOp (f:RD2) (ta tb:TED):TED:=fun σ h Q=>ta σ h fun x h1=>tb σ h1 fun y h2=>f x y h2 Q
def jc6:TAD:=fun _ h Q=>Q [] h
def ja9 (ta:TED) (tr:TAD):TAD:=fun σ h Q=>ta σ h fun x h1=>tr σ h1 fun xs h2=>Q (x::xs) h2
def jfe (t:TAD):TED:=fun σ h Q=>t σ h fun ds h1=>ds.length≤sizeLine∧Q (.tup ds) h1
def je1 (t:TAD):TED:=fun σ h Q=>t σ h fun ds h1=>ds.length≤sizeLine∧ ∀p,h1 p=none→Q (.lst p) (jb2 h1 p ds)
def dCB (r:RDn) (t:TAD):TED:=fun σ h Q=>t σ h fun ds h1=>r ds h1 Q
def jbH (t:TED):TTD:=fun σ h Q=>t σ h fun x h1=> ∃k,x= .bl k∧Q k h1
def ja1 (r r' :RD2) (ta tb tc:TED):TED:=fun σ h Q=>ta σ h fun x h1=>tb σ h1 fun y h2=>r x y h2 fun z h3=> ∃k,z= .bl k∧
 (if k=true then tc σ h3 fun w h4=>r' y w h4 Q else Q (.bl false) h3)
def jcM (t u:TTD):TTD:=fun σ h Q=>t σ h fun c h1=>if c=true then u σ h1 Q else Q false h1
def jff (t u:TTD):TTD:=fun σ h Q=>t σ h fun c h1=>if c=true then Q true h1 else u σ h1 Q
def jci (t:TTD):TTD:=fun σ h Q=>t σ h fun c h1=>Q (!c) h1
def jcj (ta tb:TED):TED:=fun σ h Q=>ta σ h fun x h1=> ∃c,x= .bl c∧if c=true then tb σ h1 Q else Q (.bl false) h1
def jfg (ta tb:TED):TED:=fun σ h Q=>ta σ h fun x h1=> ∃c,x= .bl c∧if c=true then Q (.bl true) h1 else tb σ h1 Q
def jck (ta:TED):TED:=fun σ h Q=>ta σ h fun x h1=> ∃c,x= .bl c∧Q (.bl (!c)) h1
def dIf (t:TTD) (ta tb:TED):TED:=fun σ h Q=>t σ h fun c h1=>if c=true then ta σ h1 Q else tb σ h1 Q
section
variable {K:PySem.W.Frag}
theorem joV (i:Nat): ∀σ H Q,LE K (jfd i) σ H Q→jqm i σ H Q:=fun σ H Q ⟨σd,h,Qd,rs,rh,⟨d,e,q⟩,p⟩=>let ⟨v,e1,e2⟩:=rs.2 i d e;⟨v,e1,p d v h H (.refl H) rh e2 q⟩
theorem jqg {d:D} {v:V} (r: ∀H,RelD K H d v): ∀σ H Q,LE K (dC d) σ H Q→tC v σ H Q:=fun σ H Q ⟨σd,h,Qd,rs,rh,q,p⟩=>p d v h H (.refl H) rh (r H) q
theorem jaA {H H1:Hp} {Qd:KD} {Q:VK} (p:jm2 K H Qd Q) (k:Kept H H1):jm2 K H1 Qd Q:=fun d v h' H' k' =>p d v h' H' (k.trans k')
theorem LE.bind {ta:TED} {σ:St} {H:Hp} {σd:SD} {h:HD} {kd:KD} {k:VK} (rs:RelS K H σd σ) (rh:RelH K h H) (t:ta σd h kd) (f: ∀d v h' H',Kept H H' →RelS K H' σd σ→RelH K h' H' →RelD K H' d v→kd d h' →k v H'):LE K ta σ H k:=
 ⟨σd,h,kd,rs,rh,t,fun d v h' H' kp r1 r2 q=>f d v h' H' kp (rs.mono kp) r1 r2 q⟩
theorem LT.bind {ta:TTD} {σ:St} {H:Hp} {σd:SD} {h:HD} {kd:Bool→HD→Prop} {k:Bool→Hp→Prop} (rs:RelS K H σd σ) (rh:RelH K h H) (t:ta σd h kd) (f: ∀b h' H',Kept H H' →RelS K H' σd σ→RelH K h' H' →kd b h' →k b H'):LT K ta σ H k:=
 ⟨σd,h,kd,rs,rh,t,fun b h' H' kp r1 q=>f b h' H' kp (rs.mono kp) r1 q⟩
theorem LA.bind {ta:TAD} {σ:St} {H:Hp} {σd:SD} {h:HD} {kd:List D→HD→Prop} {k:List V→Hp→Prop} (rs:RelS K H σd σ) (rh:RelH K h H) (t:ta σd h kd) (f: ∀ds vs h' H',Kept H H' →RelS K H' σd σ→RelH K h' H' →RelDs K H' ds vs→kd ds h' →k vs H'):LA K ta σ H k:=
 ⟨σd,h,kd,rs,rh,t,fun d v h' H' kp r1 r2 q=>f d v h' H' kp (rs.mono kp) r1 r2 q⟩
theorem jm3 {f:RD2} {ta tb:TED}: ∀σ H Q,LE K (dOp f ta tb) σ H Q→tOp (LR K f) (LE K ta) (LE K tb) σ H Q:=fun σ H Q ⟨σd,h,Qd,rs,rh,t,p⟩=>
 LE.bind rs rh t fun d v h1 H1 k1 rs1 rh1 r1 t1=>LE.bind rs1 rh1 t1 fun d2 v2 h2 H2 k2 rs2 rh2 r2 t2=>⟨d,d2,h2,Qd,r1.mono k2,r2,rh2,t2,jaA p (k1.trans k2)⟩
theorem joW: ∀σ H Q,LA K jc6 σ H Q→jrq σ H Q:=fun σ H Q ⟨σd,h,Qd,rs,rh,t,p⟩=>p [] [] h H (.refl H) rh rfl t
theorem jm4 {ta:TED} {tr:TAD}: ∀σ H Q,LA K (ja9 ta tr) σ H Q→joI (LE K ta) (LA K tr) σ H Q:=fun σ H Q ⟨σd,h,Qd,rs,rh,t,p⟩=>
 LE.bind rs rh t fun d v h1 H1 k1 rs1 rh1 r1 t1=>LA.bind rs1 rh1 t1 fun ds vs h2 H2 k2 rs2 rh2 r2 t2=>p _ _ h2 H2 (k1.trans k2) rh2 (.cons (r1.mono k2) r2) t2
theorem joX {t:TAD}: ∀σ H Q,LE K (jfe t) σ H Q→jrr (LA K t) σ H Q:=fun σ H Q ⟨σd,h,Qd,rs,rh,t,p⟩=>
 LA.bind rs rh t fun ds vs h1 H1 k1 rs1 rh1 r1 ⟨z,q⟩=>⟨by rw [←r1.length];exact z,fun a ha=>p (.tup ds) (.ref a) h1 _ (k1.trans (.new ha)) (rh1.new ha) ⟨a,vs,rfl,jap,r1.mono (.new ha)⟩ q⟩
theorem joY {t:TAD}: ∀σ H Q,LE K (je1 t) σ H Q→jrs (LA K t) σ H Q:=fun σ H Q ⟨σd,h,Qd,rs,rh,t,p⟩=>
 LA.bind rs rh t fun ds vs h1 H1 k1 rs1 rh1 r1 ⟨z,q⟩=>⟨by rw [←r1.length];exact z,fun a ha=>p (.lst a) (.ref a) _ _ (k1.trans (.new ha)) (rh1.newL ha r1) ⟨rfl,vs,jap⟩ (q a (rh1.free ha))⟩
theorem joZ {r:RDn} {t:TAD}: ∀σ H Q,LE K (dCB r t) σ H Q→tCB (LC K r) (LA K t) σ H Q:=fun σ H Q ⟨σd,h,Qd,rs,rh,t,p⟩=>
 LA.bind rs rh t fun ds vs h1 H1 k1 rs1 rh1 r1 q=>⟨ds,h1,Qd,r1,rh1,q,jaA p k1⟩
theorem jjG {t:TED}: ∀σ H Q,LT K (jbH t) σ H Q→jmP (LE K t) σ H Q:=fun σ H Q ⟨σd,h,Qd,rs,rh,t,p⟩=>
 LE.bind rs rh t fun d v h1 H1 k1 rs1 rh1 r1 ⟨k,e,q⟩=>by subst e;exact⟨k,r1,p k h1 H1 k1 rh1 q⟩
theorem jla {t:TED}: ∀σ H Q,LT K (jbH t) σ H Q→tB (LE K t) σ H Q:=fun σ H Q ⟨σd,h,Qd,rs,rh,t,p⟩=>
 LE.bind rs rh t fun d v h1 H1 k1 rs1 rh1 r1 ⟨k,e,q⟩=>by subst e;exact⟨k,r1,p k h1 H1 k1 rh1 q⟩
theorem jib {r r' :RD2} {ta tb tc:TED}: ∀σ H Q,LE K (ja1 r r' ta tb tc) σ H Q→jju (LR K r) (LR K r') (LE K ta) (LE K tb) (LE K tc) σ H Q:=fun σ H Q ⟨σd,h,Qd,rs,rh,t,p⟩=>
 LE.bind rs rh t fun d v h1 H1 k1 rs1 rh1 r1 t1=>LE.bind rs1 rh1 t1 fun d2 v2 h2 H2 k2 rs2 rh2 r2 t2=>⟨d,d2,h2,_,r1.mono k2,r2,rh2,t2,fun d3 v3 h3 H3 k3 rh3 r3 ⟨k,e,q⟩=>by
  subst e
  refine⟨k,r3,?_⟩
  cases k with
  |true=>
   rw [if_pos rfl] at q ⊢
   exact LE.bind (rs2.mono k3) rh3 q fun d4 v4 h4 H4 k4 rs4 rh4 r4 t4=>⟨d2,d4,h4,Qd,(r2.mono k3).mono k4,r4,rh4,t4,jaA p (k1.trans (k2.trans (k3.trans k4)))⟩
  |false=>
   rw [if_neg G0t] at q ⊢
   exact p (.bl false) _ h3 H3 (k1.trans (k2.trans k3)) rh3 rfl q⟩
theorem jqK {t u:TTD}: ∀σ H Q,LT K (jff t u) σ H Q→tOr (LT K t) (LT K u) σ H Q:=fun σ H Q ⟨σd,h,Qd,rs,rh,t,p⟩=>
 LT.bind rs rh t fun b h1 H1 k1 rs1 rh1 q=>by
  cases b with
  |true=>rw [if_pos rfl] at q ⊢;exact p _ _ _ k1 rh1 q
  |false=>rw [if_neg G0t] at q ⊢;exact⟨σd,h1,Qd,rs1,rh1,q,fun b h' H' k=>p b h' H' (k1.trans k)⟩
theorem jo0 {t:TTD}: ∀σ H Q,LT K (jci t) σ H Q→jrf (LT K t) σ H Q:=fun σ H Q ⟨σd,h,Qd,rs,rh,t,p⟩=>
 LT.bind rs rh t fun b h1 H1 k1 rs1 rh1 q=>p _ _ _ k1 rh1 q
theorem jo1 {ta tb:TED}: ∀σ H Q,LE K (jcj ta tb) σ H Q→jol (LE K ta) (LE K tb) σ H Q:=fun σ H Q ⟨σd,h,Qd,rs,rh,t,p⟩=>
 LE.bind rs rh t fun d v h1 H1 k1 rs1 rh1 r1 ⟨c,e,q⟩=>by
  subst e
  refine⟨c,r1,?_⟩
  cases c with
  |true=>rw [if_pos rfl] at q ⊢;exact⟨σd,h1,Qd,rs1,rh1,q,jaA p k1⟩
  |false=>rw [if_neg G0t] at q ⊢;exact p (.bl false) _ _ _ k1 rh1 rfl q
theorem jqL {ta tb:TED}: ∀σ H Q,LE K (jfg ta tb) σ H Q→jrg (LE K ta) (LE K tb) σ H Q:=fun σ H Q ⟨σd,h,Qd,rs,rh,t,p⟩=>
 LE.bind rs rh t fun d v h1 H1 k1 rs1 rh1 r1 ⟨c,e,q⟩=>by
  subst e
  refine⟨c,r1,?_⟩
  cases c with
  |true=>rw [if_pos rfl] at q ⊢;exact p (.bl true) _ _ _ k1 rh1 rfl q
  |false=>rw [if_neg G0t] at q ⊢;exact⟨σd,h1,Qd,rs1,rh1,q,jaA p k1⟩
theorem jo2 {ta:TED}: ∀σ H Q,LE K (jck ta) σ H Q→jom (LE K ta) σ H Q:=fun σ H Q ⟨σd,h,Qd,rs,rh,t,p⟩=>
 LE.bind rs rh t fun d v h1 H1 k1 rs1 rh1 r1 ⟨c,e,q⟩=>by subst e;exact⟨c,r1,p (.bl (!c)) _ _ _ k1 rh1 rfl q⟩
theorem jqM {t:TTD} {ta tb:TED}: ∀σ H Q,LE K (dIf t ta tb) σ H Q→tIf (LT K t) (LE K ta) (LE K tb) σ H Q:=fun σ H Q ⟨σd,h,Qd,rs,rh,t,p⟩=>
 LT.bind rs rh t fun b h1 H1 k1 rs1 rh1 q=>by
  cases b with
  |true=>rw [if_pos rfl] at q ⊢;exact⟨σd,h1,Qd,rs1,rh1,q,jaA p k1⟩
  |false=>rw [if_neg G0t] at q ⊢;exact⟨σd,h1,Qd,rs1,rh1,q,jaA p k1⟩
end
abbrev QE (X:Cx) (e:Expr) (t:TED):Prop:=PE X e (LE X.K t)
abbrev QT (X:Cx) (e:Expr) (t:TTD):Prop:=PT X e (LT X.K t)
abbrev QW (X:Cx) (e:Expr) (t:TTD):Prop:=PW X e (LT X.K t)
abbrev QA (X:Cx) (es:List Expr) (t:TAD):Prop:=PA X es (LA X.K t)
abbrev QS (X:Cx) (s:Stmt) (t:TSD):Prop:=PS X s (LS X.K t)
abbrev QSs (X:Cx) (s:List Stmt) (t:TSD):Prop:=PSs X s (LS X.K t)
abbrev QG (X:Cx) (e:Expr) (t:TGD):Prop:=PG X e (LG X.K t)
abbrev OpQ (X:Cx) (f:Value→Value→Sem Value) (r:RD2):Prop:=OpR X f (LR X.K r)
abbrev jdQ (X:Cx) (f:Value) (r:RDn):Prop:=CallR X f (LC X.K r)
section
variable {X:Cx} {a b c e:Expr} {es rest:List Expr} {ta tb tc te:TED} {t u:TAD} {tt tu:TTD} {pos:Pos} {f r r' :RD2}
theorem qv (i:Nat) {x:Str} (hN:X.N[i]? =some x:=by rfl) (hv:Vis X.env.scope x:=by first|exact Or.inl rfl|exact Or.inr (Or.inl rfl)|exact Or.inr (Or.inr rfl)) (hd:(x==("__debug__" :Str))=false:=by decide)
 (hcd:(x==("__classdict__" :Str))=false:=by decide):QE X (.Name x pos) (jfd i):=(jma hN hv hd hcd).imp (joV i)
theorem jrS {i:Int} {j:Nat}:QE X (.Constant (.int i) j pos) (dC (.int i)):=pe_int.imp (jqg fun _=>rfl)
theorem qbl {i:Bool} {j:Nat}:QE X (.Constant (.bool i) j pos) (dC (.bl i)):=pe_bl.imp (jqg fun _=>rfl)
theorem jrT {j:Nat}:QE X (.Constant .none j pos) (dC .non):=pe_non.imp (jqg fun _=>rfl)
theorem jqN {x:Str} {i:Int} {tk:Tok} (hg:Gl X x) (hm:X.mg x=some (.int i tk)) (hd:(x==("__debug__" :Str))=false:=by decide):QE X (.Name x pos) (dC (.int i)):=
 (jmH (v:= .int i) hg hm ⟨tk,rfl⟩ hd).imp (jqg fun _=>rfl)
theorem qop {op:Operator} (ho:OpQ X (binaryOp op) f) (ha:QE X a ta) (hb:QE X b tb):QE X (.BinOp a op b pos) (dOp f ta tb):=(jqv ho ha hb).imp jm3
theorem jrU {op:CmpOp} (ho:OpQ X (compareOp op) f) (ha:QE X a ta) (hb:QE X b tb) (hm:behindInMarks op b=false):QE X (.Compare a [op] [b] pos) (dOp f ta tb):=(jmO ho ha hb hm).imp jm3
theorem jqO {op:CmpOp} (ho:OpQ X (compareOp op) f) (ha:QE X a ta) (hb:QE X b tb) (hm:behindInMarks op b=false):QT X (.Compare a [op] [b] pos) (jbH (dOp f ta tb)):=
 (jmQ ho ha hb hm).imp fun σ H Q h=>by
  obtain⟨σd,h,Qd,rs,rh,t,p⟩:=jjG (t:=dOp f ta tb) σ H Q h
  exact jm3 σ H _ ⟨σd,h,Qd,rs,rh,t,p⟩
theorem jo3 {op op' :CmpOp} (ho:OpQ X (compareOp op) r) (ho' :OpQ X (compareOp op') r') (ha:QE X a ta) (hb:QE X b tb) (hc:QE X c tc) (hm:lastMarks [op,op'] [b,c]=false:=by with_unfolding_all rfl):
 QE X (.Compare a [op,op'] [b,c] pos) (ja1 r r' ta tb tc):=(jk1 ho ho' ha hb hc hm).imp jib
theorem jm5 {op op' :CmpOp} (ho:OpQ X (compareOp op) r) (ho' :OpQ X (compareOp op') r') (ha:QE X a ta) (hb:QE X b tb) (hc:QE X c tc) (hm:lastMarks [op,op'] [b,c]=false:=by with_unfolding_all rfl):
 QT X (.Compare a [op,op'] [b,c] pos) (jbH (ja1 r r' ta tb tc)):=(jk2 ho ho' ha hb hc hm).imp fun σ H Q h=>by
 obtain⟨σd,h,Qd,rs,rh,t,p⟩:=jjG (t:=ja1 r r' ta tb tc) σ H Q h
 exact jib σ H _ ⟨σd,h,Qd,rs,rh,t,p⟩
theorem jqP (ha:QE X a ta) (he: ∀whole,isTrue a X.env whole=(do let v ←whole;standAt a.pos;holding [v] (truthy v)):=by intro _;rfl):QT X a (jbH ta):=(joi ha he).imp jla
theorem jrV (ha:QT X a tt):QW X (.BoolOp .Or [a] pos) tt:=joj ha
theorem jrW (ha:QT X a tt) (hb:QW X (.BoolOp .Or (b::rest) pos) tu):QW X (.BoolOp .Or (a::b::rest) pos) (jff tt tu):=(jqn ha hb).imp jqK
theorem jqQ (ha:QT X a tt):QT X (.UnaryOp .Not a pos) (jci tt):=(jok ha).imp jo0
theorem jrX {op:BoolOp} (ha:QE X a ta):QE X (.BoolOp op [a] pos) ta:=jon ha
theorem jrY (ha:QE X a ta) (hb:QE X (.BoolOp .And (b::rest) pos) tb):QE X (.BoolOp .And (a::b::rest) pos) (jcj ta tb):=(joo ha hb).imp jo1
theorem qor (ha:QE X a ta) (hb:QE X (.BoolOp .Or (b::rest) pos) tb):QE X (.BoolOp .Or (a::b::rest) pos) (jfg ta tb):=(jqo ha hb).imp jqL
theorem jrZ (ha:QE X a ta):QE X (.UnaryOp .Not a pos) (jck ta):=(joq ha).imp jo2
theorem qif {c:Expr} (hc:QT X c tt) (ha:QE X a ta) (hb:QE X b tb):QE X (.IfExp c a b pos) (dIf tt ta tb):=(jkW hc ha hb).imp jqM
theorem jo4:QA X [] jc6:=pa_nil.imp joW
theorem jm6 (ha:QE X e te) (hr:QA X es t) (hs:starEach (e::es) X.env=(false,eval e X.env)::starEach es X.env:=by rfl):QA X (e::es) (ja9 te t):=(jc8 ha hr hs).imp jm4
theorem jr0 {k:Nat} (h:QA X es t):QE X (.Tuple es k pos) (jfe t):=(joJ h).imp joX
theorem jr1 (h:QA X es t):QE X (.List es pos) (je1 t):=(joK h).imp joY
end
def jcl:TSD:=fun D σ h=>D.nx σ h
def jec (t u:TSD):TSD:=fun D σ h=>t {D with nx:=u D} σ h
def jcm (te:TED):TSD:=fun D σ h=>te σ h fun _ h1=>D.nx σ h1
def jfh (te:TED):TSD:=fun D σ h=>te σ h D.rt
def jcN:TSD:=fun D _ h=>D.rt .non h
def je2 (c:TTD) (t u:TSD):TSD:=fun D σ h=>c σ h fun b h1=>if b=true then t D σ h1 else u D σ h1
def jex (i:Nat) (te:TED):TSD:=fun D σ h=>te σ h fun d h1=>D.nx (σ.set i (some d)) h1
def jfi (te:TED) (g:TGD):TSD:=fun D σ h=>te σ h fun x h1=>g x σ h1 D.nx
def jfj (i j:Nat) (ta:TAD):TSD:=fun D σ h=>ta σ h fun ds h1=> ∃v w,ds= [v,w]∧D.nx ((σ.set i (some v)).set j (some w)) h1
def gN (i:Nat):TGD:=fun d σ h Q=>Q (σ.set i (some d)) h
def gT2 (i j:Nat):TGD:=fun d σ h Q=> ∃x y,d= .tup [x,y]∧Q ((σ.set i (some x)).set j (some y)) h
section
variable {K:PySem.W.Frag}
theorem LS.of {t:TSD} {D₀:Ends} {σ:St} {H:Hp} {σd:SD} {h:HD} {Dd:EndsD} (rs:RelS K H σd σ) (rh:RelH K h H) (q:t Dd σd h)
 (nx: ∀σd' h' σ' H',Kept H H' →RelS K H' σd' σ' →RelH K h' H' →Dd.nx σd' h' →D₀.nx σ' H') (rt:jm2 K H Dd.rt D₀.rt)
 (bk: ∀σd' h' σ' H',Kept H H' →RelS K H' σd' σ' →RelH K h' H' →Dd.bk σd' h' →D₀.bk σ' H') (ct: ∀σd' h' σ' H',Kept H H' →RelS K H' σd' σ' →RelH K h' H' →Dd.ct σd' h' →D₀.ct σ' H'):LS K t D₀ σ H:=⟨σd,h,Dd,rs,rh,q,nx,rt,bk,ct⟩
theorem jm7: ∀D σ H,LS K jcl D σ H→jos D σ H:=fun D σ H ⟨σd,h,Dd,rs,rh,q,nx,_⟩=>nx σd h σ H (.refl H) rs rh q
theorem jo5 {t u:TSD}: ∀D σ H,LS K (jec t u) D σ H→jrh (LS K t) (LS K u) D σ H:=fun D σ H ⟨σd,h,Dd,rs,rh,q,nx,rt,bk,ct⟩=>
 LS.of rs rh q (fun σd' h' σ' H' k rs' rh' q' =>⟨σd',h',Dd,rs',rh',q',fun a b c d k' =>nx a b c d (k.trans k'),jaA rt k,fun a b c d k' =>bk a b c d (k.trans k'),fun a b c d k' =>ct a b c d (k.trans k')⟩) rt bk ct
theorem jm8 {te:TED}: ∀D σ H,LS K (jcm te) D σ H→jot (LE K te) D σ H:=fun D σ H ⟨σd,h,Dd,rs,rh,q,nx,rt,bk,ct⟩=>
 LE.bind rs rh q fun d v h1 H1 k1 rs1 rh1 r1 q1=>nx _ _ _ _ k1 rs1 rh1 q1
theorem jo6 {te:TED}: ∀D σ H,LS K (jfh te) D σ H→jri (LE K te) D σ H:=fun D σ H ⟨σd,h,Dd,rs,rh,q,nx,rt,bk,ct⟩=>⟨σd,h,Dd.rt,rs,rh,q,rt⟩
theorem jqR {c:TTD} {t u:TSD}: ∀D σ H,LS K (je2 c t u) D σ H→jrj (LT K c) (LS K t) (LS K u) D σ H:=fun D σ H ⟨σd,h,Dd,rs,rh,q,nx,rt,bk,ct⟩=>
 LT.bind rs rh q fun b h1 H1 k rs1 rh1 q1=>by
  cases b with
  |true=>rw [if_pos rfl] at q1 ⊢;exact⟨σd,h1,Dd,rs1,rh1,q1,fun a b c d k' =>nx a b c d (k.trans k'),jaA rt k,fun a b c d k' =>bk a b c d (k.trans k'),fun a b c d k' =>ct a b c d (k.trans k')⟩
  |false=>rw [if_neg G0t] at q1 ⊢;exact⟨σd,h1,Dd,rs1,rh1,q1,fun a b c d k' =>nx a b c d (k.trans k'),jaA rt k,fun a b c d k' =>bk a b c d (k.trans k'),fun a b c d k' =>ct a b c d (k.trans k')⟩
theorem jmg {i:Nat} {te:TED}: ∀D σ H,LS K (jex i te) D σ H→jmL (LE K te) (jea i) D σ H:=fun D σ H ⟨σd,h,Dd,rs,rh,q,nx,rt,bk,ct⟩=>
 LE.bind rs rh q fun d v h1 H1 k1 rs1 rh1 r1 q1=>nx _ _ _ _ k1 (rs1.set r1 i) rh1 q1
theorem jo7 {te:TED} {g:TGD}: ∀D σ H,LS K (jfi te g) D σ H→jmL (LE K te) (LG K g) D σ H:=fun D σ H ⟨σd,h,Dd,rs,rh,q,nx,rt,bk,ct⟩=>
 LE.bind rs rh q fun d v h1 H1 k1 rs1 rh1 r1 q1=>⟨d,σd,h1,_,r1,rs1,rh1,q1,fun a b c e k' =>nx a b c e (k1.trans k')⟩
theorem jo8 {i j:Nat} {ta:TAD}: ∀D σ H,LS K (jfj i j ta) D σ H→jrl i j (LA K ta) D σ H:=fun D σ H ⟨σd,h,Dd,rs,rh,q,nx,rt,bk,ct⟩=>
 LA.bind rs rh q fun ds vs h1 H1 k1 rs1 rh1 r1 ⟨x,y,e,q1⟩=>by
  subst e
  obtain⟨v,r,e,r2,r3⟩:=(show ∃v r,vs=v::r∧RelD K H1 x v∧RelDs K H1 [y] r from r1)
  obtain⟨w,r',e',r4,r5⟩:=(show ∃v r',r=v::r' ∧RelD K H1 y v∧RelDs K H1 [] r' from r3)
  cases (show r' = [] from r5)
  subst e' e
  exact⟨v,w,rfl,nx _ _ _ _ k1 ((rs1.set r2 i).set r4 j) rh1 q1⟩
theorem jm9 (i:Nat): ∀v σ H Q,LG K (gN i) v σ H Q→jea i v σ H Q:=fun v σ H Q ⟨d,σd,h,Qd,r,rs,rh,q,p⟩=>p _ _ _ _ (.refl H) (rs.set r i) rh q
theorem jcO {H:Hp} {x y:D} {vs:List V} (r:RelDs K H [x,y] vs): ∃v w,vs= [v,w]∧RelD K H x v∧RelD K H y w:=by
 obtain⟨v,r1,e,r2,r3⟩:=(show ∃v r,vs=v::r∧RelD K H x v∧RelDs K H [y] r from r)
 obtain⟨w,z,e',r4,r5⟩:=(show ∃v z,r1=v::z∧RelD K H y v∧RelDs K H [] z from r3)
 cases (show z= [] from r5)
 subst e' e
 exact⟨v,w,rfl,r2,r4⟩
theorem jaC {H:Hp} {x:D} {vs:List V} (r:RelDs K H [x] vs): ∃v,vs= [v]∧RelD K H x v:=by
 obtain⟨v,r1,e,r2,r3⟩:=(show ∃v r,vs=v::r∧RelD K H x v∧RelDs K H [] r from r)
 cases (show r1= [] from r3)
 exact⟨v,e,r2⟩
theorem jo9 (i j:Nat): ∀v σ H Q,LG K (gT2 i j) v σ H Q→jqs K 2 (jjm (jea i) (jjm (jea j) jqr)) v σ H Q:=fun v σ H Q ⟨d,σd,h,Qd,r,rs,rh,⟨x,y,e,q⟩,p⟩=>by
 subst e
 obtain⟨a,vs,e,hH,r1⟩:=(show ∃a vs,v= .ref a∧H a=some (.tup vs)∧RelDs K H [x,y] vs from r)
 obtain⟨v1,v2,e1,r2,r3⟩:=jcO r1
 subst e e1
 exact⟨a,[v1,v2],rfl,SqT.of hH,rfl,v1,[v2],rfl,v2,[],rfl,rfl,p _ _ _ _ (.refl H) ((rs.set r2 i).set r3 j) rh q⟩
end
section
variable {X:Cx} {st:Stmt} {sts:List Stmt} {t u:TSD} {e:Expr} {te:TED} {pos:Pos}
theorem jpa:QSs X [] jcl:=pss_nil.imp jm7
theorem jna (h1:QS X st t) (h2:QSs X sts u):QSs X (st::sts) (jec t u):=(jkX h1 h2).imp jo5
theorem jpb (h1:QS X st t):QSs X [st] t:=jmJ h1
theorem jqS (he:QE X e te) (hs:swapsWith e none pos.line X.env=pure false:=by rfl):QS X (.Expr e pos) (jcm te):=(jmK he hs).imp jm8
theorem jr2 (he:QE X e te):QS X (.Return (some e) pos) (jfh te):=(jou he).imp jo6
theorem jr3 {c:Expr} {a b:List Stmt} {tc:TTD} (hc:QT X c tc) (ha:QSs X a t) (hb:QSs X b u):QS X (.If c a b pos) (je2 tc t u):=(jqp hc ha hb).imp jqR
theorem jr4 {i:Nat} {x:Str} {pos' :Pos} (hN:X.N.Nodup) (hi:X.N[i]? =some x) (hx:Loc X.env.scope x) (he:QE X e te) (hs:swapsWith e (some (.Name x pos')) pos.line X.env=pure false:=by rfl)
 (hf:X.fn x=true∨X.env.scope.names.lookup x=some .local:=by first|exact .inl rfl|exact .inr rfl|assumption):QS X (.Assign [.Name x pos'] e pos) (jex i te):=(jox hN hi hx he hs hf).imp jmg
theorem jnb {i:Nat} {x:Str} (hN:X.N.Nodup) (hi:X.N[i]? =some x) (hx:Loc X.env.scope x) (hf:X.fn x=true∨X.env.scope.names.lookup x=some .local:=by first|exact .inl rfl|exact .inr rfl|assumption):QG X (.Name x pos) (gN i):=
 (jdN hN hi hx hf).imp (jm9 i)
theorem jpc {i j:Nat} {x y:Str} {p1 p2:Pos} {k:Nat} (hc:X.calm=true) (hN:X.N.Nodup) (hi:X.N[i]? =some x) (hj:X.N[j]? =some y) (hx:Loc X.env.scope x) (hy:Loc X.env.scope y)
 (hf:X.fn x=true∨X.env.scope.names.lookup x=some .local:=by first|exact .inl rfl|exact .inr rfl|assumption) (hf2:X.fn y=true∨X.env.scope.names.lookup y=some .local:=by first|exact .inl rfl|exact .inr rfl|assumption):
 QG X (.Tuple [.Name x p1,.Name y p2] k pos) (gT2 i j):=(jmb hc (jeh (jdN hN hi hx hf) (jeh (jdN hN hj hy hf2) jjn))).imp (jo9 i j)
theorem jr5 {tg:Expr} {g:TGD} (he:QE X e te) (hg:QG X tg g) (hs:swapsWithSole [tg] e pos.line X.env=pure false:=by rfl) (hsw:swappedStores [tg] e X.env=pure none:=by rfl)
 (h1:(assignEach [tg] X.env).map (·.2)= [assign tg X.env]:=by rfl):QS X (.Assign [tg] e pos) (jfi te g):=(jow he hg hs hsw h1).imp jo7
theorem jr6 {i j:Nat} {x y:Str} {a b:Expr} {ta:TAD} {px py pt:Pos} {kt k2 pt2} (hc:X.calm=true) (hN:X.N.Nodup) (hi:X.N[i]? =some x) (hj:X.N[j]? =some y) (hij:i≠j)
 (hx:X.env.scope.names.lookup x=some .local) (hy:X.env.scope.names.lookup y=some .local) (ha:QA X [a,b] ta)
 (hw:swappedStores [.Tuple [.Name x px,.Name y py] kt pt] (.Tuple [a,b] k2 pt2) X.env=pure (some [x,y]))
 (hs:swapsWithSole [.Tuple [.Name x px,.Name y py] kt pt] (.Tuple [a,b] k2 pt2) pos.line X.env=pure false:=by rfl):
 QS X (.Assign [.Tuple [.Name x px,.Name y py] kt pt] (.Tuple [a,b] k2 pt2) pos) (jfj i j ta):=(joy hc hN hi hj hij hx hy ha hw hs).imp jo8
end
abbrev ItD:=HD→Option (List D)
def jmh (K:PySem.W.Frag) (H:Hp) (j:ItD) (J:It):Prop:= ∀H' h',Kept H H' →RelH K h' H' → ∀ds,j h' =some ds→ ∀i:Nat,
 (∀d,ds[i]? =some d→J.go i H' ∧ ∀x H'',J.yld i H' x H'' →Kept H' H'' ∧RelH K h' H'' ∧RelD K H'' d x)∧(ds.length≤i→J.stop i H')
abbrev TID:=SD→HD→(ItD→HD→Prop)→Prop
def LI (K:PySem.W.Frag) (t:TID):TI:=fun σ H R=> ∃σd h Rd,RelS K H σd σ∧RelH K h H∧t σd h Rd∧ ∀j J h' H',Kept H H' →RelH K h' H' →jmh K H' j J→Rd j h' →R J H'
abbrev QI (X:Cx) (tg iter:Expr) (t:TID):Prop:=PI X tg iter (LI X.K t)
theorem PI.imp {X:Cx} {tg e:Expr} {t t' :TI} (h:PI X tg e t) (i: ∀σ H R,t' σ H R→t σ H R):PI X tg e t' :=fun pins s σ H R I q=>h pins s σ H R I (i σ H R q)
def iL (te:TED):TID:=fun σ h R=>te σ h fun x h1=> ∃a,x= .lst a∧R (fun h=>h a) h1
def iR1 (ta:TAD):TID:=fun σ h R=>ta σ h fun ds h1=> ∃n:Int,ds= [.int n]∧ -(2^62)≤n∧n<2^62∧R (fun _=>some ((List.range n.toNat).map fun (k:Nat)=>D.int (k:Int))) h1
section
variable {K:PySem.W.Frag}
theorem jgN (H:Hp) (a:Addr):jmh K H (fun h=>h a) (Itl K a):=fun H' h' k rh ds e i=>by
 obtain⟨vs,hv,r⟩:=rh a ds e
 refine⟨fun d hd=> ?_,fun hl=>⟨vs,SqL.of hv,by rw [←r.length];exact hl⟩⟩
 obtain⟨v,e1,e2⟩:=r.get hd
 refine⟨⟨vs,v,SqL.of hv,e1⟩,fun x H'' ⟨eH,hx⟩=> ?_⟩
 subst eH
 have:=hx vs (SqL.of hv)
 rw [e1] at this;cases this
 exact⟨.refl _,rh,e2⟩
theorem jlb {H:Hp} {a:Addr} {vs:List V} {ds:List D} (hv:H a=some (.tup vs)) (r:RelDs K H ds vs):jmh K H (fun _=>some ds) (Itt K a):=fun H' h' k rh ds' e i=>by
 cases e
 have hv' :=k.tup _ _ hv
 have r' :=r.mono k
 refine⟨fun d hd=> ?_,fun hl=>⟨vs,SqT.of hv',by rw [←r.length];exact hl⟩⟩
 obtain⟨v,e1,e2⟩:=r'.get hd
 refine⟨⟨vs,v,SqT.of hv',e1⟩,fun x H'' ⟨eH,hx⟩=> ?_⟩
 subst eH
 have:=hx vs (SqT.of hv')
 rw [e1] at this;cases this
 exact⟨.refl _,rh,e2⟩
theorem jiS (H:Hp) (lo:Int) (n:Nat) (ds:List D) (hd:ds=(List.range n).map fun (k:Nat)=>D.int (lo+(k:Int))):jmh K H (fun _=>some ds) (Itr lo n):=fun H' h' k rh ds' e i=>by
 cases e
 subst hd
 refine⟨fun d hd=> ?_,fun hl=>(show n≤i by simpa using hl)⟩
 rw [G0i] at hd
 have hi:i<n:=by
  by_cases z:i<n
  ·exact z
  ·rw [G1k (by simpa using z)] at hd;cases hd
 rw [G1F hi] at hd
 cases hd
 refine⟨hi,fun x H'' ⟨eH,hx⟩=> ?_⟩
 subst eH hx
 exact⟨.refl _,rh,rfl⟩
theorem jnc {te:TED}: ∀σ H R,LI K (iL te) σ H R→joB K (LE K te) σ H R:=fun σ H R ⟨σd,h,Rd,rs,rh,q,p⟩=>
 LE.bind rs rh q fun d v h1 H1 k1 rs1 rh1 r1 ⟨a,e,q1⟩=>by
  subst e
  obtain⟨e,vs,hv⟩:=(show v= .ref a∧ ∃vs,H1 a=some (.lst vs) from r1)
  exact⟨a,e,⟨vs,SqL.of hv⟩,p _ _ _ _ k1 rh1 (jgN H1 a) q1⟩
theorem jqT {ta:TAD}: ∀σ H R,LI K (iR1 ta) σ H R→joC (LA K ta) σ H R:=fun σ H R ⟨σd,h,Rd,rs,rh,q,p⟩=>
 LA.bind rs rh q fun ds vs h1 H1 k1 rs1 rh1 r1 ⟨n,e,b1,b2,q1⟩=>by
  subst e
  obtain⟨v,e,r2⟩:=jaC r1
  cases (show v= .int n from r2)
  exact⟨n,e,b1,b2,p _ _ _ _ k1 rh1 (jiS H1 0 n.toNat _ (by simp)) q1⟩
end
def jpd (ti:TID) (g:TGD) (tb:TSD):TSD:=fun D σ h=>ti σ h fun j h1=> ∃ (n:Nat) (W:Nat→SD→HD→Prop),W 0 σ h1∧ ∀i σ' h',W i σ' h' → ∃ds,j h' =some ds∧ds.length≤n∧(ds.length≤i→D.nx σ' h')∧
 ∀d,ds[i]? =some d→g d σ' h' fun σ2 h2=>tb {D with nx:=fun σ3 h3=> ∃h4,Sub h4 h3∧W (i+1) σ3 h4,ct:=fun σ3 h3=> ∃h4,Sub h4 h3∧W (i+1) σ3 h4,bk:=D.nx} σ2 h2
theorem jpe {K:PySem.W.Frag} {ti:TID} {g:TGD} {tb:TSD}: ∀D σ H,LS K (jpd ti g tb) D σ H→jrm (LI K ti) (LG K g) (LS K tb) D σ H:=fun D σ H ⟨σd,h,Dd,rs,rh,q,nx,rt,bk,ct⟩=>by
 refine⟨σd,h,_,rs,rh,q,fun j J h1 H1 k1 rh1 jo ⟨n,W,w0,turn⟩=> ?_⟩
 refine⟨fun i m σ' H' =>m=n-i∧Kept H1 H' ∧ ∃σd' h',RelS K H' σd' σ' ∧RelH K h' H' ∧W i σd' h',⟨n-0,rfl,.refl _,σd,h1,rs.mono k1,rh1,w0⟩,?_⟩
 rintro i m σ' H' ⟨rfl,kp,σd',h',rs',rh',w⟩
 obtain⟨ds,ej,hn,stop,go⟩:=turn i σd' h' w
 have jo' :=jo H' h' kp rh' ds ej i
 by_cases hi:i<ds.length
 ·obtain⟨g1,y1⟩:=jo'.1 ds[i] (G0b hi)
  refine .inr ⟨g1,fun σ2 H2=>Kept H1 H2∧ ∃σd2 h2,RelS K H2 σd2 σ2∧RelH K h2 H2∧W (i+1) σd2 h2,fun σ2 H2 ⟨k2,a,b,c,d,e⟩=>⟨n-(i+1),by omega,rfl,k2,a,b,c,d,e⟩,fun x H'' y=> ?_⟩
  obtain⟨k2,rh2,r2⟩:=y1 x H'' y
  refine⟨ds[i],σd',h',_,r2,rs'.mono k2,rh2,go ds[i] (G0b hi),fun σd3 h3 σ3 H3 k3 rs3 rh3 q3=> ?_⟩
  have kk:Kept H H3:=k1.trans (kp.trans (k2.trans k3))
  have kk1:Kept H1 H3:=kp.trans (k2.trans k3)
  exact⟨σd3,h3,_,rs3,rh3,q3,fun a b c d k4 rs4 rh4 ⟨h4,sb,w4⟩=>⟨kk1.trans k4,a,h4,rs4,rh4.sub sb,w4⟩,jaA rt kk,fun a b c d k4 rs4 rh4 q4=>nx a b c d (kk.trans k4) rs4 rh4 q4,fun a b c d k4 rs4 rh4 ⟨h4,sb,w4⟩=>⟨kk1.trans k4,a,h4,rs4,rh4.sub sb,w4⟩⟩
 ·exact .inl ⟨jo'.2 (G3m.mp hi),nx _ _ _ _ (k1.trans kp) rs' rh' (stop (G3m.mp hi))⟩
def je3:TTD:=fun _ h Q=>Q true h
def jda (bind:D→SD→SD→Prop) (js:List Nat) (ti:TID) (tt:TTD) (te:TED):TED:=fun σ h Q=>ti σ h fun j h1=> ∃ (n:Nat) (W:Nat→List D→HD→Prop),W 0 [] h1∧ ∀i ys h',W i ys h' →ys.length≤sizeLine∧
 ∃ds,j h' =some ds∧ds.length≤n∧(ds.length≤i→ ∀p,h' p=none→Q (.lst p) (jb2 h' p ys))∧
  ∀d,ds[i]? =some d→ ∃σ2,bind d (ja8 js σ) σ2∧tt σ2 h' fun b h3=>if b=true then te σ2 h3 fun y h4=> ∃h5,Sub h5 h4∧W (i+1) (ys++ [y]) h5 else ∃h5,Sub h5 h3∧W (i+1) ys h5
def bN (i:Nat):D→SD→SD→Prop:=fun d σ σ2=>σ2=σ.set i (some d)
def b2 (i j:Nat):D→SD→SD→Prop:=fun d σ σ2=> ∃x y,d= .tup [x,y]∧σ2=(σ.set i (some x)).set j (some y)
theorem jpf {K:PySem.W.Frag}: ∀σ H Q,LT K je3 σ H Q→jrw σ H Q:=fun σ H Q ⟨σd,h,Qd,rs,rh,q,p⟩=>p true h H (.refl H) rh q
def jjH (K:PySem.W.Frag) (js:List Nat) (bind:D→SD→SD→Prop) (g:TG):Prop:= ∀ (σ:St) (σd σd2:SD) (H:Hp) (d:D) (v:V) (Q:St→Hp→Prop),RelS K H (ja8 js σd) (jch js σ)→RelD K H d v→bind d (ja8 js σd) σd2→
 (∀σ2,Agree (jch js σ) σ2→RelS K H σd2 σ2→Q σ2 H)→g v (jch js σ) H Q
theorem jpg {K:PySem.W.Frag} {js:List Nat} {i:Nat} (hi:i∈js):jjH K js (bN i) (jea i):=fun σ σd σd2 H d v Q rs r b q=>by
 cases (show σd2=_ from b)
 exact q _ (.set v fun u=>jb1 js σ i u hi) (rs.set r i)
theorem jqU {K:PySem.W.Frag} {js:List Nat} {i j:Nat} (hi:i∈js) (hj:j∈js) (hij:i≠j):jjH K js (b2 i j) (jqs K 2 (jjm (jea i) (jjm (jea j) jqr))):=fun σ σd σd2 H d v Q rs r b q=>by
 obtain⟨x,y,e,e2⟩:=b
 subst e e2
 obtain⟨a,vs,e,hH,r1⟩:=(show ∃a vs,v= .ref a∧H a=some (.tup vs)∧RelDs K H [x,y] vs from r)
 obtain⟨v1,v2,e1,r2,r3⟩:=jcO r1
 subst e e1
 refine⟨a,[v1,v2],rfl,SqT.of hH,rfl,v1,[v2],rfl,v2,[],rfl,rfl,q _ (.trans (.set v1 fun u=>jb1 js σ i u hi) (.set v2 fun u z=> ?_)) ((rs.set r2 i).set r3 j)⟩
 rw [G1M hij] at z
 exact jb1 js σ j u hj z
theorem jnd {K:PySem.W.Frag} {bind:D→SD→SD→Prop} {js:List Nat} {ti:TID} {tt:TTD} {te:TED} {g:TG} (hb:jjH K js bind g): ∀σ H Q,LE K (jda bind js ti tt te) σ H Q→tLC js (LI K ti) g (LT K tt) (LE K te) σ H Q:=
 fun σ H Q ⟨σd,h,Qd,rs,rh,q,p⟩=>by
  refine⟨σd,h,_,rs,rh,q,fun j J h1 H1 k1 rh1 jo ⟨n,W,w0,turn⟩=> ?_⟩
  refine⟨fun i m ys H' =>m=n-i∧Kept H1 H' ∧ ∃ds h',RelDs K H' ds ys∧RelH K h' H' ∧W i ds h',⟨n-0,rfl,.refl _,[],h1,rfl,rh1,w0⟩,?_⟩
  rintro i m ys H' ⟨rfl,kp,yd,h',ry,rh',w⟩
  obtain⟨hz,ds,ej,hn,stop,go⟩:=turn i yd h' w
  refine⟨by rw [←ry.length];exact hz,?_⟩
  have jo' :=jo H' h' kp rh' ds ej i
  have kk:Kept H H' :=k1.trans kp
  by_cases hi:i<ds.length
  ·obtain⟨g1,y1⟩:=jo'.1 ds[i] (G0b hi)
   refine .inr ⟨g1,fun x H'' y=> ?_⟩
   obtain⟨k2,rh2,r2⟩:=y1 x H'' y
   obtain⟨σd2,bd,q2⟩:=go ds[i] (G0b hi)
   refine hb σ σd σd2 H'' ds[i] x _ (((rs.mono (kk.trans k2))).clear js) r2 bd fun σ2 ag rs2=>⟨ag,?_⟩
   refine LT.bind rs2 rh2 q2 fun b h3 H3 k3 rs3 rh3 q3=> ?_
   cases b with
   |true=>
    rw [if_pos rfl] at q3 ⊢
    refine LE.bind rs3 rh3 q3 fun d4 v4 h4 H4 k4 rs4 rh4 r4 ⟨h5,sb,w5⟩=>⟨n-(i+1),by omega,rfl,kp.trans (k2.trans (k3.trans k4)),yd++ [d4],h5,(ry.mono (k2.trans (k3.trans k4))).append (.cons r4 .nil),rh4.sub sb,w5⟩
   |false=>
    rw [if_neg G0t] at q3 ⊢
    obtain⟨h5,sb,w5⟩:=q3
    exact⟨n-(i+1),by omega,rfl,kp.trans (k2.trans k3),yd,h5,ry.mono (k2.trans k3),rh3.sub sb,w5⟩
  ·refine .inl ⟨jo'.2 (G3m.mp hi),fun a ha=>p (.lst a) (.ref a) _ _ (kk.trans (.new ha)) (rh'.newL ha ry) ⟨rfl,ys,jap⟩ (stop (G3m.mp hi) a (rh'.free ha))⟩
theorem jej {X:Cx} {scope:Scope} {C:Addr} {s₀:Shared} {H₀:Hp} {ex:List Addr} {i:Nat} {x:Str} {p:Pos} (hN:X.N.Nodup) (hx:X.N[i]? =some x) (hl:scope.names.lookup x=some .local∨scope.names.lookup x=some .cell):
 PG (jfH X scope C s₀ H₀ ex) (.Name x p) (jea i):=by
 rcases hl with z|z
 ·exact jdN hN hx (.inl (lookup_relabel_local z)) (.inr (lookup_relabel_local z))
 ·exact jdN hN hx (.inr (jc9 z)) (.inl (by show (scope.names.lookup x==some NameKind.cell)=true;rw [z];rfl))
section
variable {X:Cx} {tg e iter elt:Expr} {te:TED} {ti:TID} {g:TGD} {tb:TSD} {tt:TTD} {pos:Pos} {ta:TAD} {scope:Scope} {js:List Nat} {ifs:List Expr}
theorem jne (he:QE X e te):QI X tg e (iL te):=(jmM he).imp jnc
theorem jqV {p:Pos} {a:Expr} (hg:Gl X "range") (hm:X.mg "range" =none) (ha:QA X [a] ta) (hs:starEach [a] X.env= [(false,eval a X.env)]:=by rfl):QI X tg (.Call (.Name "range" p) [a] [] pos) (iR1 ta):=(jjq hg hm ha hs).imp jqT
theorem jr7 {body:List Stmt} (hp:PassesOwn (model X.prog X.w) X.A X.env X.xe) (hc:X.calm=true) (hi:QI X tg iter ti) (hg:QG X tg g) (hb:QSs X body tb) (hs: ∀x,foldedSetIterable iter X.env x=pure x:=by intro _;rfl):
 QS X (.For tg iter body [] pos) (jpd ti g tb):=(joD hp hc hi hg hb hs).imp jpe
theorem jnf:PTs X [] (LT X.K je3):=fun pins s σ H Q I h=>jmZ pins s σ H Q I (jpf σ H Q h)
theorem jng {c:Expr} (hc:QT X c tt):PTs X [c] (LT X.K tt):=jm0 hc
theorem qlc {i:Nat} {x:Str} {p:Pos} (hc:X.calm=true) (S:BlockOk X scope js) (hi:QI X (.Name x p) iter ti) (hj:i∈js) (hN:X.N.Nodup) (hx:X.N[i]? =some x) (hl:scope.names.lookup x=some .local∨scope.names.lookup x=some .cell)
 (ht: ∀X',jax X scope X' →PTs X' ifs (LT X'.K tt)) (he: ∀X',jax X scope X' →QE X' elt te) (hs: ∀x,foldedSetIterable iter X.env x=pure x:=by intro _;rfl):
 QE X (.ListComp elt [⟨.Name x p,iter,ifs,0⟩] scope pos) (jda (bN i) js ti tt te):=
 (joU hc S hi (fun X' hX=>by obtain⟨C,s₀,H₀,ex,rfl⟩:=hX;exact jej hN hx hl) (fun X' hX=>by have:=ht X' hX;obtain⟨C,s₀,H₀,ex,rfl⟩:=hX;exact this)
  (fun X' hX=>by have:=he X' hX;obtain⟨C,s₀,H₀,ex,rfl⟩:=hX;exact this) hs).imp (jnd (jpg hj))
theorem jr8 {i j:Nat} {x y:Str} {p1 p2 p3:Pos} {k:Nat} (hc:X.calm=true) (S:BlockOk X scope js) (hi:QI X (.Tuple [.Name x p1,.Name y p2] k p3) iter ti) (hj:i∈js) (hj2:j∈js) (hij:i≠j) (hN:X.N.Nodup) (hx:X.N[i]? =some x) (hy:X.N[j]? =some y)
 (hl:scope.names.lookup x=some .local∨scope.names.lookup x=some .cell) (hl2:scope.names.lookup y=some .local∨scope.names.lookup y=some .cell)
 (ht: ∀X',jax X scope X' →PTs X' ifs (LT X'.K tt)) (he: ∀X',jax X scope X' →QE X' elt te) (hs: ∀x,foldedSetIterable iter X.env x=pure x:=by intro _;rfl):
 QE X (.ListComp elt [⟨.Tuple [.Name x p1,.Name y p2] k p3,iter,ifs,0⟩] scope pos) (jda (b2 i j) js ti tt te):=
 (joU hc S hi (fun X' hX=>by
  obtain⟨C,s₀,H₀,ex,rfl⟩:=hX
  exact jmb hc (jeh (jej hN hx hl) (jeh (jej hN hy hl2) jjn))) (fun X' hX=>by have:=ht X' hX;obtain⟨C,s₀,H₀,ex,rfl⟩:=hX;exact this)
  (fun X' hX=>by have:=he X' hX;obtain⟨C,s₀,H₀,ex,rfl⟩:=hX;exact this) hs).imp (jnd (jqU hj hj2 hij))
end
def LSp (K:PySem.W.Frag) (spd:RDn):Sp:=fun vs H Q _=>LC K spd vs H Q
theorem jnh {K:PySem.W.Frag} {spd:RDn} {t:TAD} {E:XK}: ∀σ H Q,LE K (dCB spd t) σ H Q→joL (LSp K spd) [] E (LA K t) σ H Q:=fun σ H Q ⟨σd,h,Qd,rs,rh,t,p⟩=>
 LA.bind rs rh t fun ds vs h1 H1 k1 rs1 rh1 r1 q=>by rw [G1J];exact⟨ds,h1,Qd,r1,rh1,q,jaA p k1⟩
section
variable {X:Cx} {k:Nat} {f:Addr} {fd:FuncData} {ps:List Str} {spd:RDn} {x:Str} {p pos:Pos} {e:Expr} {es:List Expr} {t:TAD}
theorem jqW (F:FnOk X.prog X.w X.K X.mg X.base CX0 k f fd ps (LSp X.K spd)) (hr:Room k X.A) (hg:Gl X x) (hm:X.mg x=some (.ref f)) (hk:PySem.W.keepIn X.K (.ref f)=true) (hb:Binds X.K fd ps [])
 (ha:QA X (e::es) t) (hdb:(x==("__debug__" :Str))=false:=by decide) (he:starEach (e::es) X.env=(false,eval e X.env)::starEach es X.env:=by rfl) (hpl:(backTo pos (starEach es X.env)).any (·.1)=false:=by rfl):
 QE X (.Call (.Name x p) (e::es) [] pos) (dCB spd t):=(jmT F hr hg hm hk hb .nil jqH ha hdb he hpl).imp jnh
theorem jph {id:String} {r:RDn} (hc:jdQ X (.builtin id) r) (hg:Gl X x) (hm:X.mg x=none) (hv:bootBuiltins x=some (.builtin id)) (ha:QA X (e::es) t) (hn:x≠ "__name__" :=by decide) (hdb:(x==("__debug__" :Str))=false:=by decide)
 (he:starEach (e::es) X.env=(false,eval e X.env)::starEach es X.env:=by rfl) (hpl:(backTo pos (starEach es X.env)).any (·.1)=false:=by rfl):QE X (.Call (.Name x p) (e::es) [] pos) (dCB r t):=(jfD hc hg hm hv ha hn hdb he hpl).imp joZ
theorem jni {T:String} {r:RDn} (hc:jdQ X (.type T) r) (hg:Gl X x) (hm:X.mg x=none) (hv:bootBuiltins x=some (.type T)) (ha:QA X (e::es) t) (hn:x≠ "__name__" :=by decide) (hdb:(x==("__debug__" :Str))=false:=by decide)
 (he:starEach (e::es) X.env=(false,eval e X.env)::starEach es X.env:=by rfl) (hpl:(backTo pos (starEach es X.env)).any (·.1)=false:=by rfl):QE X (.Call (.Name x p) (e::es) [] pos) (dCB r t):=(jen hc hg hm hv ha hn hdb he hpl).imp joZ
end
def ja2 (N:List Str) (ds:List D):SD:=ds.map some++List.replicate (N.length-ds.length) none
theorem jiT {K:PySem.W.Frag} {H:Hp} {N:List Str} {ds:List D} {vs:List V} (r:RelDs K H ds vs):RelS K H (ja2 N ds) (start N vs):=by
 have hl:=r.length
 refine⟨by unfold ja2 start;simp [hl],fun i d e=> ?_⟩
 unfold ja2 at e
 unfold start
 by_cases hi:i<ds.length
 ·rw [G0H (by simpa using hi),G0i] at e
  cases q:ds[i]? with
  |none=>rw [q] at e;cases e
  |some d' =>
   rw [q] at e;cases e
   obtain⟨v,e1,e2⟩:=r.get q
   exact⟨v,by rw [G0H (by simpa [←hl] using hi),G0i,e1];rfl,e2⟩
 ·rw [G0o (by simpa using hi),G3P] at e
  split at e<;>cases e
def jfk (Q:KD):EndsD:= {nx:=fun _ h=> ∃h',Sub h' h∧Q .non h',rt:=fun d h=> ∃h',Sub h' h∧Q d h'}
section
variable {P:Program} {w:World} {K:PySem.W.Frag} {mg:Str→Option Value} {base:Heap}
theorem Fun.okD {x qual:Str} {st:Stmt} {f:Addr} {fd:FuncData} {N ps:List Str} {k:Nat} {spd:RDn} (F:Fun K x qual st f fd) (S:FnScope N ps (jaa st)) (len: ∀ds h Q,spd ds h Q→ds.length=ps.length)
 (tb:TSD) (hbody: ∀ (cdv:Value) (A:Around) (outer:List Env) (s:Shared) (H:Hp) (E:XK),Room k (A.deeper (envOfC qual (jaa st) s.heap.objs.size f cdv))→QSs (jme CX0 P w K mg base N qual (jaa st) f cdv A outer s H E).nox (jai st) tb)
 (read: ∀ds h Q,spd ds h Q→tb (jfk Q) (ja2 N ds) h):FnOk P w K mg base CX0 (k+1) f fd ps (LSp K spd):=by
 refine F.ok S (fun vs H Q E h=> ?_) (fun cdv A outer s H vs Q E hr h=> ?_)
 ·obtain⟨ds,h,Qd,r,rh,q,p⟩:=h
  rw [←r.length];exact len _ _ _ q
 ·obtain⟨ds,h,Qd,r,rh,q,p⟩:=h
  refine⟨_,hbody cdv A outer s H E hr,ja2 N ds,h,jfk Qd,jiT r,rh,read ds h Qd q,fun σd' h' σ' H' k rs' rh' ⟨h2,sb,q'⟩=>p .non .non h2 H' k (rh'.sub sb) rfl q',fun d v h' H' k rh' r' ⟨h2,sb,q'⟩=>p d v h2 H' k (rh'.sub sb) r' q',fun _ _ _ _ _ _ _ z=>z.elim,fun _ _ _ _ _ _ _ z=>z.elim⟩
end
section
variable {X:Cx} {iter elt:Expr} {te:TED} {ti:TID} {tt:TTD} {pos spos:Pos} {scope:Scope} {js:List Nat} {ifs:List Expr}
theorem jpi {i k:Nat} {x y:Str} {p py:Pos} (hc:X.calm=true) (hN:X.N.Nodup) (hk:X.N[k]? =some y) (hy:Loc X.env.scope y) (S:BlockOk X scope js) (hi:QI X (.Name x p) iter ti) (hj:i∈js) (hx:X.N[i]? =some x) (hl:scope.names.lookup x=some .local∨scope.names.lookup x=some .cell)
 (ht: ∀X',jax X scope X' →PTs X' ifs (LT X'.K tt)) (he: ∀X',jax X scope X' →QE X' elt te)
 (hsw:swapsWith (.ListComp elt [⟨.Name x p,iter,ifs,0⟩] scope pos) (some (.Name y py)) spos.line X.env=pure true:=by rfl)
 (hf:X.fn y=true∨X.env.scope.names.lookup y=some .local:=by first|exact .inl rfl|exact .inr rfl|assumption) (hs: ∀x,foldedSetIterable iter X.env x=pure x:=by intro _;rfl):
 QS X (.Assign [.Name y py] (.ListComp elt [⟨.Name x p,iter,ifs,0⟩] scope pos) spos) (jex k (jda (bN i) js ti tt te)):=by
 have base:PS X (.Assign [.Name y py] (.ListComp elt [⟨.Name x p,iter,ifs,0⟩] scope pos) spos) (jmL (tLC js (LI X.K ti) (jea i) (LT X.K tt) (LE X.K te)) (jea k)):=
  jk9 hc S hi (fun X' hX=>by obtain⟨C,s₀,H₀,ex,rfl⟩:=hX;exact jej hN hx hl) (fun X' hX=>by have:=ht X' hX;obtain⟨C,s₀,H₀,ex,rfl⟩:=hX;exact this)
   (fun X' hX=>by have:=he X' hX;obtain⟨C,s₀,H₀,ex,rfl⟩:=hX;exact this) (jdN hN hk hy hf) hsw hs
 exact base.imp fun D σ H h=>by
  obtain⟨σd,hd,Qd,rs,rh,t,p⟩:=jmg (K:=X.K) D σ H h
  exact jnd (jpg hj) σ H _ ⟨σd,hd,Qd,rs,rh,t,p⟩
end
def jgx:RD2:=fun x y h Q=>match x,y with
 | .int i,.int j=>Q (.int (i+j)) h
 | .tup a,.tup b=>a.length+b.length≤sizeLine∧Q (.tup (a++b)) h
 | .lst a,.lst b=> ∃xs ys,h a=some xs∧h b=some ys∧xs.length+ys.length≤sizeLine∧ ∀p,h p=none→Q (.lst p) (jb2 h p (xs++ys))
 |_,_=>False
def jgy:RD2:=fun x y h Q=>match x,y with
 | .int i,.int j=>Q (.int (i-j)) h
 |_,_=>False
def jfI:RD2:=fun x y h Q=>match x,y with
 | .int i,.int j=>CMul i j∧Q (.int (i*j)) h
 | .lst a,.int k=> ∃xs,h a=some xs∧ -(2^63)≤k∧k<2^63∧xs.length*k.toNat≤sizeLine∧ ∀p,h p=none→Q (.lst p) (jb2 h p (List.replicate k.toNat xs).flatten)
 |_,_=>False
def jgz:RD2:=fun x y h Q=>match x,y with
 | .int i,.int j=>0<j∧Q (.int (i%j)) h
 |_,_=>False
def jcH:RD2:=fun x y h Q=>match x,y with
 | .int i,.int j=>jqx i j∧Q (.int (i / j)) h
 |_,_=>False
def jgA:RD2:=fun x y h Q=>match x,y with
 | .int i,.int j=>jro i j∧Q (.int (i^j.toNat)) h
 |_,_=>False
def jey (p:Int→Int→Bool):RD2:=fun x y h Q=>match x,y with
 | .int i,.int j=>Q (.bl (p i j)) h
 |_,_=>False
def eqD:RD2:=fun x y h Q=>match x,y with
 | .int i,.int j=>Q (.bl (decide (i=j))) h
 | .bl i,.bl j=>Q (.bl (decide (i=j))) h
 | .str i,.str j=>Q (.bl (decide (i=j))) h
 |_,_=>False
def neD:RD2:=fun x y h Q=>match x,y with
 | .int i,.int j=>Q (.bl (!decide (i=j))) h
 | .bl i,.bl j=>Q (.bl (!decide (i=j))) h
 | .str i,.str j=>Q (.bl (!decide (i=j))) h
 |_,_=>False
section
variable {X:Cx}
theorem jfJ {f:Value→Value→Sem Value} {C:Int→Int→Prop} {g:Int→Int→V} {gd:Int→Int→D} {r:RD2} (ho:OpR X f (rI C g)) (hg: ∀i j H,RelD X.K H (gd i j) (g i j))
 (hr: ∀x y h Q,r x y h Q→ ∃i j,x= .int i∧y= .int j∧C i j∧Q (gd i j) h):OpQ X f r:=ho.imp fun x y H Q ⟨dx,dy,h,Qd,rx,ry,rh,q,p⟩=>by
 obtain⟨i,j,e1,e2,c,q'⟩:=hr dx dy h Qd q
 subst e1 e2
 exact⟨i,j,rx,ry,c,p _ _ _ _ (.refl H) rh (hg i j H) q'⟩
theorem jdy {f:Value→Value→Sem Value} {g:Int→Int→V} {gd:Int→Int→D} {r:RD2} (ho:OpR X f (rI0 g)) (hg: ∀i j H,RelD X.K H (gd i j) (g i j))
 (hr: ∀x y h Q,r x y h Q→ ∃i j,x= .int i∧y= .int j∧Q (gd i j) h):OpQ X f r:=ho.imp fun x y H Q ⟨dx,dy,h,Qd,rx,ry,rh,q,p⟩=>by
 obtain⟨i,j,e1,e2,q'⟩:=hr dx dy h Qd q
 subst e1 e2
 exact⟨i,j,rx,ry,p _ _ _ _ (.refl H) rh (hg i j H) q'⟩
theorem jez:OpQ X (binaryOp .Sub) jgy:=jdy (gd:=fun i j=> .int (i-j)) joE (fun _ _ _=>rfl) fun x y h Q q=>by
 cases x<;>cases y<;>first|exact False.elim q|exact⟨_,_,rfl,rfl,q⟩
theorem jd7:OpQ X (binaryOp .Mod) jgz:=jfJ (gd:=fun i j=> .int (i%j)) joF (fun _ _ _=>rfl) fun x y h Q q=>by
 cases x<;>cases y<;>first|exact False.elim q|exact⟨_,_,rfl,rfl,q.1,q.2⟩
theorem jnj:OpQ X (binaryOp .FloorDiv) jcH:=jfJ (gd:=fun i j=> .int (i / j)) jmN (fun _ _ _=>rfl) fun x y h Q q=>by
 cases x<;>cases y<;>first|exact False.elim q|exact⟨_,_,rfl,rfl,q.1,q.2⟩
theorem jmi:OpQ X (binaryOp .Pow) jgA:=jfJ (gd:=fun i j=> .int (i^j.toNat)) joG (fun _ _ _=>rfl) fun x y h Q q=>by
 cases x<;>cases y<;>first|exact False.elim q|exact⟨_,_,rfl,rfl,q.1,q.2⟩
theorem jfK {p:Int→Int→Bool}: ∀x y h Q,jey p x y h Q→ ∃i j,x= .int i∧y= .int j∧Q (.bl (p i j)) h:=fun x y h Q q=>by
 cases x<;>cases y<;>first|exact False.elim q|exact⟨_,_,rfl,rfl,q⟩
theorem jld:OpQ X (compareOp .Lt) (jey fun i j=>decide (i<j)):=jdy (gd:=fun i j=> .bl (decide (i<j))) jqy (fun _ _ _=>rfl) jfK
theorem jjI:OpQ X (compareOp .LtE) (jey fun i j=>decide (i≤j)):=jdy (gd:=fun i j=> .bl (decide (i≤j))) jqz (fun _ _ _=>rfl) jfK
theorem jnk:OpQ X (compareOp .Gt) (jey fun i j=>decide (j<i)):=jdy (gd:=fun i j=> .bl (decide (j<i))) jqA (fun _ _ _=>rfl) jfK
theorem jle:OpQ X (compareOp .GtE) (jey fun i j=>decide (j≤i)):=jdy (gd:=fun i j=> .bl (decide (j≤i))) jqB (fun _ _ _=>rfl) jfK
theorem jn8 {α:Type} [DecidableEq α] {f:α→V} (hf: ∀a b,f a=f b→a=b) (a b:α):decide (f a=f b)=decide (a=b):=by
 by_cases h:a=b
 ·subst h;simp
 ·rw [G0L h,G0L (fun e=>h (hf a b e))]
theorem oq_eq:OpQ X (compareOp .Eq) eqD:=op_eq.imp fun x y H Q ⟨dx,dy,h,Qd,rx,ry,rh,q,p⟩=>by
 cases dx<;>cases dy<;>first
  |exact False.elim q
  |(cases (show x= .int _ from rx);cases (show y= .int _ from ry);refine⟨rfl,p _ _ _ _ (.refl H) rh ?_ q⟩;rw [jn8 (f:=V.int) (fun a b e=>by cases e;rfl)];rfl)
  |(cases (show x= .bl _ from rx);cases (show y= .bl _ from ry);refine⟨rfl,p _ _ _ _ (.refl H) rh ?_ q⟩;rw [jn8 (f:=V.bl) (fun a b e=>by cases e;rfl)];rfl)
  |(cases (show x= .str _ from rx);cases (show y= .str _ from ry);refine⟨rfl,p _ _ _ _ (.refl H) rh ?_ q⟩;rw [jn8 (f:=V.str) (fun a b e=>by cases e;rfl)];rfl)
theorem oq_ne:OpQ X (compareOp .NotEq) neD:=op_ne.imp fun x y H Q ⟨dx,dy,h,Qd,rx,ry,rh,q,p⟩=>by
 cases dx<;>cases dy<;>first
  |exact False.elim q
  |(cases (show x= .int _ from rx);cases (show y= .int _ from ry);refine⟨rfl,p _ _ _ _ (.refl H) rh ?_ q⟩;rw [jn8 (f:=V.int) (fun a b e=>by cases e;rfl)];rfl)
  |(cases (show x= .bl _ from rx);cases (show y= .bl _ from ry);refine⟨rfl,p _ _ _ _ (.refl H) rh ?_ q⟩;rw [jn8 (f:=V.bl) (fun a b e=>by cases e;rfl)];rfl)
  |(cases (show x= .str _ from rx);cases (show y= .str _ from ry);refine⟨rfl,p _ _ _ _ (.refl H) rh ?_ q⟩;rw [jn8 (f:=V.str) (fun a b e=>by cases e;rfl)];rfl)
def jpj (K:PySem.W.Frag):R2:=fun x y H Q=> ∃a b xs ys,x= .ref a∧y= .ref b∧SqT K H a xs∧SqT K H b ys∧xs= []∧Q (.ref b) H
theorem op_catT0:OpR X (binaryOp .Add) (jpj X.K):=by
 intro pins s σ H x y v u Q I rx ry h
 obtain⟨a,b,xs,ys,rfl,rfl,ha,hb,hx,q⟩:=h
 cases rx
 cases ry
 obtain⟨its,r1,p1,_⟩:=I.tuple ha
 obtain⟨its2,r2,p2,_⟩:=I.tuple hb
 have hv:its= []:=r1.nil_iff.mpr hx
 obtain⟨⟨cls,dd,data,sl⟩,ho,hc,n,hd⟩:=id p1
 obtain⟨⟨cls2,dd2,data2,sl2⟩,ho2,hc2,n2,hd2⟩:=id p2
 simp only at hc hd hc2 hd2
 subst hc hd hc2 hd2
 exact concat_meets ⟨_,ho,rfl⟩ ⟨_,ho2,rfl⟩ G3V seq_tuple_add G2Z G2R (G2N _ _)
  (tuple_addW0 a b its.toArray its2.toArray n n2 dd dd2 sl sl2 (by simp [hv])) ⟨ho,ho2,.ref b,H,I,rfl,q⟩
theorem jdz:OpQ X (binaryOp .Add) jgx:=(op_add.or (op_catT.or (op_catT0.or joS))).imp fun x y H Q ⟨dx,dy,h,Qd,rx,ry,rh,q,p⟩=>by
 cases dx<;>cases dy<;>first
  |exact False.elim q
  |skip
 ·exact .inl ⟨_,_,rx,ry,p (.int _) _ _ _ (.refl H) rh rfl q⟩
 ·rename_i ds es
  obtain⟨a,vs,e1,h1,r1⟩:=(show ∃a vs,x= .ref a∧H a=some (.tup vs)∧RelDs X.K H ds vs from rx)
  obtain⟨b,us,e2,h2,r2⟩:=(show ∃a vs,y= .ref a∧H a=some (.tup vs)∧RelDs X.K H es vs from ry)
  subst e1 e2
  obtain⟨hz,q⟩:=q
  by_cases hv:vs= []
  ·subst hv
   have e:ds= []:=G17.mp r1.length
   subst e
   exact .inr (.inr (.inl ⟨a,b,[],us,rfl,rfl,SqT.of h1,SqT.of h2,rfl,p (.tup es) _ _ _ (.refl H) rh ⟨b,us,rfl,h2,r2⟩ q⟩))
  ·refine .inr (.inl ⟨a,b,vs,us,rfl,rfl,SqT.of h1,SqT.of h2,hv,by rw [←r1.length,←r2.length];exact hz,fun e=> ?_,fun _ c hc=> ?_⟩)
   ·subst e
    have e:es= []:=G17.mp r2.length
    subst e
    rw [G1J] at q
    exact p (.tup ds) _ _ _ (.refl H) rh ⟨a,vs,rfl,h1,r1⟩ q
   ·exact p (.tup (ds++es)) _ _ _ (.new hc) (rh.new hc) ⟨c,vs++us,rfl,jap,(r1.append r2).mono (.new hc)⟩ q
 ·rename_i a b
  obtain⟨xs,ys,h1,h2,hz,q⟩:=q
  obtain⟨vs,e1,r1⟩:=rh a xs h1
  obtain⟨us,e2,r2⟩:=rh b ys h2
  refine .inr (.inr (.inr ⟨a,b,vs,us,rx.1,ry.1,e1,e2,by rw [←r1.length,←r2.length];exact hz,fun c hc=> ?_⟩))
  exact p (.lst c) _ _ _ (.new hc) (rh.newL hc (r1.append r2)) ⟨rfl,_,jap⟩ (q c (rh.free hc))
theorem RelDs.flat {K:PySem.W.Frag} {H:Hp} {ds:List D} {vs:List V} (r:RelDs K H ds vs): ∀k:Nat,RelDs K H (List.replicate k ds).flatten (List.replicate k vs).flatten
 |0=>by simp;exact .nil
 |k+1=>by rw [G1S,G1S,G2m,G2m];exact r.append (RelDs.flat r k)
theorem oq_mul:OpQ X (binaryOp .Mult) jfI:=(op_mul.or joT).imp fun x y H Q ⟨dx,dy,h,Qd,rx,ry,rh,q,p⟩=>by
 cases dx<;>cases dy<;>first
  |exact False.elim q
  |skip
 ·exact .inl ⟨_,_,rx,ry,q.1,p (.int _) _ _ _ (.refl H) rh rfl q.2⟩
 ·obtain⟨xs,h1,b1,b2,hz,q⟩:=q
  obtain⟨vs,e1,r1⟩:=rh _ xs h1
  refine .inr ⟨_,_,vs,rx.1,ry,e1,b1,b2,by rw [←r1.length];exact hz,fun c hc=> ?_⟩
  exact p (.lst c) _ _ _ (.new hc) (rh.newL hc (r1.flat _)) ⟨rfl,_,jap⟩ (q c (rh.free hc))
end
def ixD:RD2:=fun x y h Q=>match x,y with
 | .tup ds,.int i=> ∃d,atI ds i=some d∧Q d h
 | .lst a,.int i=> ∃ds d,h a=some ds∧atI ds i=some d∧Q d h
 | .scr ns,.int i=> ∃n,atI ns i=some n∧Q (.int n) h
 |_,_=>False
theorem jjJ {K:PySem.W.Frag} {H:Hp} {ds:List D} {vs:List V} (r:RelDs K H ds vs) {i:Int} {d:D} (e:atI ds i=some d): ∃v,atI vs i=some v∧RelD K H d v:=by
 unfold atI at e ⊢
 rw [←r.length]
 cases q:ixN ds.length i with
 |none=>rw [q] at e;cases e
 |some j=>rw [q] at e;exact r.get e
theorem jnl {α β:Type} (f:α→β) {xs:List α} {i:Int} {x:α} (e:atI xs i=some x):atI (xs.map f) i=some (f x):=by
 unfold atI at e ⊢
 rw [G0c]
 cases q:ixN xs.length i with
 |none=>rw [q] at e;cases e
 |some j=>
  rw [q] at e
  show (xs.map f)[j]? =_
  rw [G0i,(show xs[j]? =some x from e)];rfl
section
variable {X:Cx} {a b e:Expr} {ta tb te:TED} {pos p2:Pos}
theorem jqX: ∀σ H Q,LE X.K (dOp ixD ta tb) σ H Q→tOp (rIx X.K) (LE X.K ta) (LE X.K tb) σ H Q:=fun σ H Q ⟨σd,h,Qd,rs,rh,t,p⟩=>
 LE.bind rs rh t fun dx x h1 H1 k1 rs1 rh1 r1 t1=>LE.bind rs1 rh1 t1 fun dy y h2 H2 k2 rs2 rh2 ry q=>by
  have rx:=r1.mono k2
  have kk:=k1.trans k2
  cases dx<;>cases dy<;>first
   |exact False.elim q
   |skip
  ·rename_i ds i
   obtain⟨d,e,q⟩:=q
   obtain⟨a,vs,e1,hH,r⟩:=(show ∃a vs,x= .ref a∧H2 a=some (.tup vs)∧RelDs X.K H2 ds vs from rx)
   obtain⟨v,e2,rv⟩:=jjJ r e
   exact .inr (.inl ⟨a,vs,i,v,e1,ry,SqT.of hH,e2,p _ _ _ _ kk rh2 rv q⟩)
  ·rename_i a i
   obtain⟨ds,d,hd,e,q⟩:=q
   obtain⟨vs,hH,r⟩:=rh2 a ds hd
   obtain⟨v,e2,rv⟩:=jjJ r e
   exact .inl ⟨a,vs,i,v,rx.1,ry,SqL.of hH,e2,p _ _ _ _ kk rh2 rv q⟩
  ·rename_i ns i
   obtain⟨n,e,q⟩:=q
   obtain⟨a,e1,hS⟩:=(show ∃a,x= .ref a∧Scr X.K H2 a ns from rx)
   exact .inl ⟨a,_,i,.int n,e1,ry,hS.sq,jnl V.int e,p (.int n) _ _ _ kk rh2 rfl q⟩
theorem qix (ha:QE X a ta) (hb:QE X b tb) (hs:jhy b):QE X (.Subscript a b pos) (dOp ixD ta tb):=(jqF joP ha hb hs).imp jqX
end
def jfL:RDn:=fun ds h Q=>match ds with
 | [.tup xs]=>Q (.int xs.length) h
 | [.lst a]=> ∃xs,h a=some xs∧Q (.int xs.length) h
 | [.scr ns]=>Q (.int ns.length) h
 |_=>False
def jfM:RDn:=fun ds h Q=>match ds with
 | [.int i]=>Q (.int i) h
 | [.bl k]=>Q (.int (if k then 1 else 0)) h
 |_=>False
def jfN:RDn:=fun ds h Q=>match ds with
 | [.int i,.int j]=>Q (.int (if j>i then j else i)) h
 |_=>False
def ja3:RDn:=fun ds h Q=>match ds with
 | [.int i,.int j]=>jqx i j∧Q (.tup [.int (i / j),.int (i%j)]) h
 |_=>False
def jbt:RDn:=fun ds h Q=>match ds with
 | [.tup xs]=>Q (.tup xs) h
 | [.lst a]=> ∃xs,h a=some xs∧Q (.tup xs) h
 |_=>False
def ja4:RDn:=fun ds h Q=>match ds with
 | [.lst a]=> ∃xs,h a=some xs∧Q (.tup xs) (jew h a)
 |_=>False
def jcP:RDn:=fun ds h Q=>match ds with
 | [.tup xs]=> ∀p,h p=none→Q (.lst p) (jb2 h p xs)
 | [.lst a]=> ∃xs,h a=some xs∧ ∀p,h p=none→Q (.lst p) (jb2 h p xs)
 |_=>False
section
variable {X:Cx}
theorem jb7:jdQ X (.builtin "len") jfL:=call_len_seq.imp fun xs H Q ⟨ds,h,Qd,r,rh,q,p⟩=>by
 unfold jfL at q
 split at q
 ·rename_i es
  obtain⟨v,e,r1⟩:=jaC r
  obtain⟨a,vs,e1,hH,r2⟩:=(show ∃a vs,v= .ref a∧H a=some (.tup vs)∧RelDs X.K H es vs from r1)
  subst e e1
  exact⟨a,vs,rfl,.inr (SqT.of hH),by rw [←r2.length];exact p (.int _) _ _ _ (.refl H) rh rfl q⟩
 ·rename_i a
  obtain⟨es,hd,q⟩:=q
  obtain⟨v,e,r1⟩:=jaC r
  obtain⟨vs,hH,r2⟩:=rh a es hd
  have e1:v= .ref a:=r1.1
  subst e e1
  exact⟨a,vs,rfl,.inl (SqL.of hH),by rw [←r2.length];exact p (.int _) _ _ _ (.refl H) rh rfl q⟩
 ·rename_i ns
  obtain⟨v,e,r1⟩:=jaC r
  obtain⟨a,e1,hS⟩:=(show ∃a,v= .ref a∧Scr X.K H a ns from r1)
  subst e e1
  exact⟨a,_,rfl,.inl hS.sq,by rw [G0c];exact p (.int _) _ _ _ (.refl H) rh rfl q⟩
 ·exact q.elim
theorem jmj:jdQ X (.type "int") jfM:=call_int1.imp fun xs H Q ⟨ds,h,Qd,r,rh,q,p⟩=>by
 unfold jfM at q
 split at q
 ·rename_i i
  obtain⟨v,e,r1⟩:=jaC r
  cases (show v= .int i from r1)
  exact .inl ⟨i,e,p (.int i) _ _ _ (.refl H) rh rfl q⟩
 ·rename_i k
  obtain⟨v,e,r1⟩:=jaC r
  cases (show v= .bl k from r1)
  exact .inr ⟨k,e,p (.int _) _ _ _ (.refl H) rh rfl q⟩
 ·exact q.elim
theorem jpk (hc:X.calm=true):jdQ X (.builtin "max") jfN:=(jjv hc).imp fun xs H Q ⟨ds,h,Qd,r,rh,q,p⟩=>by
 unfold jfN at q
 split at q
 ·rename_i i j
  obtain⟨v,w,e,r1,r2⟩:=jcO r
  cases (show v= .int i from r1)
  cases (show w= .int j from r2)
  exact⟨i,j,e,p (.int _) _ _ _ (.refl H) rh rfl q⟩
 ·exact q.elim
theorem cq_tuple:jdQ X (.type "tuple") jbt:=call_tuple_of.imp fun xs H Q ⟨ds,h,Qd,r,rh,q,p⟩=>by
 unfold jbt at q
 split at q
 ·rename_i es
  obtain⟨v,e,r1⟩:=jaC r
  obtain⟨a,vs,e1,hH,r2⟩:=(show ∃a vs,v= .ref a∧H a=some (.tup vs)∧RelDs X.K H es vs from r1)
  subst e e1
  exact⟨a,vs,rfl,.inr ⟨SqT.of hH,p (.tup es) _ _ _ (.refl H) rh ⟨a,vs,rfl,hH,r2⟩ q⟩⟩
 ·rename_i a
  obtain⟨es,hd,q⟩:=q
  obtain⟨v,e,r1⟩:=jaC r
  obtain⟨vs,hH,r2⟩:=rh a es hd
  have e1:v= .ref a:=r1.1
  subst e e1
  exact⟨a,vs,rfl,.inl ⟨SqL.of hH,fun c hc=>p (.tup es) _ _ _ (.new hc) (rh.new hc) ⟨c,vs,rfl,jap,r2.mono (.new hc)⟩ q⟩⟩
 ·exact q.elim
theorem jb3:jdQ X (.type "tuple") ja4:=cq_tuple.imp fun xs H Q ⟨ds,h,Qd,r,rh,q,p⟩=>by
 unfold ja4 at q
 split at q
 ·rename_i a
  obtain⟨es,hd,q⟩:=q
  exact⟨[.lst a],h,fun d h' =>Qd d (jew h' a),r,rh,⟨es,hd,q⟩,fun d v h' H' k rh' rd q' =>p d v _ H' k (rh'.sub (Sub.drop h' a)) rd q'⟩
 ·exact q.elim
end
def jgO:D→Option String
 | .non=>some "NoneType" | .bl _=>some "bool" | .int _=>some "int" | .str _=>some "str" | .tup _=>some "tuple" | .lst _=>some "list" | .dic _ _=>some "dict" | .scr _=>none| .exc _=>none| .fn _=>none
def jpl (T:String) (n:String):Bool:=n==T||(T== "int" &&n== "bool")
theorem jlf {K:PySem.W.Frag} {H:Hp} {d:D} {v:V} {n:String} (r:RelD K H d v) (e:jgO d=some n):TyOf K H v (.type n):=by
 cases d with
 |non=>cases (show v= .non from r);cases e;exact .non
 |bl b=>cases (show v= .bl b from r);cases e;exact .bl b
 |int i=>cases (show v= .int i from r);cases e;exact .int i
 |str x=>cases (show v= .str x from r);cases e;exact .str x
 |tup ds=>
  obtain⟨a,vs,e1,hH,_⟩:=(show ∃a vs,v= .ref a∧H a=some (.tup vs)∧RelDs K H ds vs from r)
  subst e1;cases e;exact .tup hH
 |lst a=>
  obtain⟨e1,vs,hH⟩:=(show v= .ref a∧ ∃vs,H a=some (.lst vs) from r)
  subst e1;cases e;exact .lst hH
 |dic x i=>
  obtain⟨a,e1,hH⟩:=(show ∃a,v= .ref a∧H a=some (.dK [(Sum.inr x,V.int i)]) from r)
  subst e1;cases e;exact .dK hH
 |scr ns=>cases e
 |exc C=>cases e
 |fn a=>cases e
def jnm:List String:= ["NoneType","bool","int","str","tuple","list","dict"]
theorem jiU {d:D} {n:String} (e:jgO d=some n):n∈jnm:=by
 cases d<;>cases e<;>decide
def jqY (K:PySem.W.Frag):Prop:= ∀n∈jnm,∀T∈ ["tuple","int","bool","list","str"],PySem.W.kitOne K (.type n) (.type T)=some (jpl T n)
theorem jnn (K:PySem.W.Frag):jqY K:=by
 intro n hn T hT
 simp only [jnm,G0C,G1i,G3R] at hn hT
 rcases hn with rfl|rfl|rfl|rfl|rfl|rfl|rfl<;>rcases hT with rfl|rfl|rfl|rfl|rfl<;>with_unfolding_all rfl
theorem jjK {X:Cx} (T:String):CallR X (.builtin "isinstance") (fun xs H Q=> ∃x t b,xs= [x,.ty T]∧TyOf X.K H x t∧PySem.W.kitOne X.K t (.type T)=some b∧Q (.bl b) H):=by
 intro pins s σ H xs us Q I r h
 obtain⟨x,t,b,rfl,ty,e,q⟩:=h
 obtain⟨u,w',rfl,rx,rt⟩:=jmR r
 cases (show w' =Value.type T from rt)
 exact jjx I rx ty e fun tk=>⟨.bl b,H,I.tok tk,rfl,q⟩
def dIs (T:String) (ta:TED):TED:=fun σ h Q=>ta σ h fun x h1=> ∃n,jgO x=some n∧Q (.bl (jpl T n)) h1
theorem jqZ {X:Cx} {a:Expr} {ta:TED} {T:String} {t:Str} {p p2 pos:Pos} (hT:T∈ ["tuple","int","bool","list","str"]) (hg:Gl X "isinstance") (hm:X.mg "isinstance" =none) (hg2:Gl X t) (hm2:X.mg t=none) (hv:bootBuiltins t=some (.type T)) (ha:QE X a ta)
 (hn:t≠ "__name__" :=by decide) (hd:(t==("__debug__" :Str))=false:=by decide)
 (h1:starEach [a,.Name t p2] X.env=(false,eval a X.env)::starEach [.Name t p2] X.env:=by rfl) (h2:(backTo pos (starEach [.Name t p2] X.env)).any (·.1)=false:=by rfl):
 QE X (.Call (.Name "isinstance" p) [a,.Name t p2] [] pos) (dIs T ta):=
 (jfD (jjK T) hg hm PyProof.Rows.boot_isinstance (jc8 ha (jc8 (jmI (v:= .ty T) hg2 hm2 hv rfl hn hd) pa_nil (by rfl)) h1) (by decide) (by decide) h1 h2).imp
  fun σ H Q ⟨σd,h,Qd,rs,rh,t,p⟩=>LE.bind rs rh t fun d v h1 H1 k1 rs1 rh1 r1 ⟨n,e,q⟩=>⟨v,.type n,jpl T n,rfl,jlf r1 e,jnn _ n (jiU e) T hT,p (.bl _) _ _ _ k1 rh1 rfl q⟩
theorem jjL (bs:List Bool):(List.range bs.length).all (fun i=>bs.getD i false)=bs.all id:=by
 induction bs with
 |nil=>rfl
 |cons b bs ih=>
  rw [G0k,G20,G4o,G2c,G4o]
  show (b&&_)=(b&&bs.all id)
  rw [←ih]
  rfl
theorem jjM (bs:List Bool):(List.range bs.length).any (fun i=>bs.getD i false)=bs.any id:=by
 induction bs with
 |nil=>rfl
 |cons b bs ih=>
  rw [G0k,G20,List.any_cons,G4u,List.any_cons]
  show (b||_)=(b||bs.any id)
  rw [←ih]
  rfl
theorem jgP {bs:List Bool} {its:List Value} (r:Vals (bs.map V.bl) its) {i:Nat} {v:Value} (e:its[i]? =some v):v= .bool (bs.getD i false):=by
 have hl:=r.length
 rw [G0c] at hl
 have hi:i<its.length:=(G0m.mp e).1
 have hb:(bs.map V.bl)[i]? =some (.bl bs[i]):=by rw [G0i,G0b (by omega)];rfl
 obtain⟨u,e1,r1⟩:=r.get hb
 rw [e] at e1;cases e1
 rw [G0B,G0b (by omega)]
 exact r1
section
variable {X:Cx}
theorem jfO (hc:X.calm=true):CallR X (.builtin "all") (fun xs H Q=> ∃ (a:Addr) (bs:List Bool),xs= [.ref a]∧SqL X.K H a (bs.map V.bl)∧Q (.bl (bs.all id)) H):=by
 intro pins s σ H xs us Q I r h
 obtain⟨a,bs,rfl,hS,q⟩:=h
 obtain⟨u,rfl,ru⟩:=jeb r
 cases ru
 obtain⟨its,rv,pl,hz⟩:=I.list hS
 have hl:=pl.isList
 have hlt:a<s.heap.objs.size:=by obtain⟨_,e,_⟩:=hl;exact G0n e
 refine call_all_walk (G2j hl ?_)
 refine⟨s.heap.objs.size,_,_,_,_,_,fun i=>bs.getD i false,rfl,Walks.list (A:=X.A.in1) (show X.A.in1.handled=none from I.ok.hd hc) s.heap.objs.size a (G0R hlt) its.toArray,⟨⟨_,G0q _ rfl,rfl,rfl⟩,hl.push _⟩,?_,fun h' tk hk=> ?_⟩
 ·intro i v s' Q' E' hP hQ
  have e:its[i]? =some v:=by simpa using hP
  rw [jgP rv e]
  exact G1t hQ
 ·have hn:its.toArray.size=bs.length:=by rw [G0u,←rv.length,G0c]
  rw [hn,jjL]
  exact⟨.bl _,H,I.kept (t' :=tk) (fun b o e=>hk b o (fun z=>by rw [G0g.mp z] at e;exact absurd (G0n e) (G02 _)) (G0a _ e)),rfl,q⟩
theorem jfP (hc:X.calm=true):CallR X (.builtin "any") (fun xs H Q=> ∃ (a:Addr) (bs:List Bool),xs= [.ref a]∧SqL X.K H a (bs.map V.bl)∧Q (.bl (bs.any id)) H):=by
 intro pins s σ H xs us Q I r h
 obtain⟨a,bs,rfl,hS,q⟩:=h
 obtain⟨u,rfl,ru⟩:=jeb r
 cases ru
 obtain⟨its,rv,pl,hz⟩:=I.list hS
 have hl:=pl.isList
 have hlt:a<s.heap.objs.size:=by obtain⟨_,e,_⟩:=hl;exact G0n e
 refine call_any_walk (G2j hl ?_)
 refine⟨s.heap.objs.size,_,_,_,_,_,fun i=>bs.getD i false,rfl,Walks.list (A:=X.A.in1) (show X.A.in1.handled=none from I.ok.hd hc) s.heap.objs.size a (G0R hlt) its.toArray,⟨⟨_,G0q _ rfl,rfl,rfl⟩,hl.push _⟩,?_,fun h' tk hk=> ?_⟩
 ·intro i v s' Q' E' hP hQ
  have e:its[i]? =some v:=by simpa using hP
  rw [jgP rv e]
  exact G1t hQ
 ·have hn:its.toArray.size=bs.length:=by rw [G0u,←rv.length,G0c]
  rw [hn,jjM]
  exact⟨.bl _,H,I.kept (t' :=tk) (fun b o e=>hk b o (fun z=>by rw [G0g.mp z] at e;exact absurd (G0n e) (G02 _)) (G0a _ e)),rfl,q⟩
theorem jdb {K:PySem.W.Frag} {H:Hp}: ∀ {bs:List Bool} {vs:List V},RelDs K H (bs.map D.bl) vs→vs=bs.map V.bl
 | [],_,h=>h
 |b::bs,vs,h=>by
  obtain⟨v,r,e,h1,h2⟩:=(show ∃v r,vs=v::r∧RelD K H (.bl b) v∧RelDs K H (bs.map D.bl) r from h)
  rw [e,jdb h2,(show v= .bl b from h1)];rfl
def jpm:RDn:=fun ds h Q=> ∃ (a:Addr) (bs:List Bool),ds= [.lst a]∧h a=some (bs.map D.bl)∧Q (.bl (bs.all id)) (jew h a)
def jq0:RDn:=fun ds h Q=> ∃ (a:Addr) (bs:List Bool),ds= [.lst a]∧h a=some (bs.map D.bl)∧Q (.bl (bs.any id)) (jew h a)
theorem jfl (hc:X.calm=true):jdQ X (.builtin "all") jpm:=(jfO hc).imp fun xs H Q ⟨ds,h,Qd,r,rh,⟨a,bs,e,hd,q⟩,p⟩=>by
 subst e
 obtain⟨v,e,r1⟩:=jaC r
 obtain⟨vs,hH,r2⟩:=rh a _ hd
 have e1:v= .ref a:=r1.1
 rw [jdb r2] at hH
 subst e e1
 exact⟨a,bs,rfl,SqL.of hH,p (.bl _) _ _ _ (.refl H) (rh.sub (Sub.drop h a)) rfl q⟩
theorem jpn (hc:X.calm=true):jdQ X (.builtin "any") jq0:=(jfP hc).imp fun xs H Q ⟨ds,h,Qd,r,rh,⟨a,bs,e,hd,q⟩,p⟩=>by
 subst e
 obtain⟨v,e,r1⟩:=jaC r
 obtain⟨vs,hH,r2⟩:=rh a _ hd
 have e1:v= .ref a:=r1.1
 rw [jdb r2] at hH
 subst e e1
 exact⟨a,bs,rfl,SqL.of hH,p (.bl _) _ _ _ (.refl H) (rh.sub (Sub.drop h a)) rfl q⟩
end
def jfQ (to:TED) (te:TED):TED:=fun σ h Q=>to σ h fun x h1=> ∃a,x= .lst a∧te σ h1 fun y h2=> ∃xs,h2 a=some xs∧xs.length<sizeLine∧Q .non (jb2 h2 a (xs++ [y]))
section
variable {X:Cx} {o e i:Expr} {to te ti:TED} {apos cpos pos:Pos}
theorem jr9 (ho:QE X o to) (he:QE X e te) (hbase:attributeBase o "append" X.env (eval o X.env)=eval o X.env:=by rfl)
 (hfew:((backTo cpos (starEach [e] X.env)).all (fun x=> !x.1)&&(backToKw cpos (keywordEach [] X.env)).all (fun x=>x.1.isSome)&&decide ([e].length+([]:List Keyword).length+(if ([]:List Keyword).isEmpty then 0 else 1)<30))=true:=by rfl)
 (hline:(apos.endLine==cpos.line)=true:=by rfl) (hs:starEach [e] X.env=(false,eval e X.env)::starEach [] X.env:=by rfl) (hplain:(backTo cpos (starEach [] X.env)).any (·.1)=false:=by rfl):
 QE X (.Call (.Attribute o "append" apos) [e] [] cpos) (jfQ to te):=
 (joR G3S PySem.F.slot_list_append PySem.F.type_list_append jjC ho (jc8 he pa_nil hs) hbase hfew hline hs hplain).imp
  fun σ H Q ⟨σd,h,Qd,rs,rh,t,p⟩=>LE.bind rs rh t fun d v h1 H1 k1 rs1 rh1 r1 ⟨a,e,q⟩=>by
   subst e
   obtain⟨e1,vs,hH⟩:=(show v= .ref a∧ ∃vs,H1 a=some (.lst vs) from r1)
   subst e1
   refine⟨.inl ⟨rfl,vs,SqL.of hH⟩,?_⟩
   refine LE.bind rs1 rh1 q fun y u h2 H2 k2 rs2 rh2 r2 ⟨xs,hx,hz,q2⟩=> ?_
   obtain⟨ws,hW,r3⟩:=rh2 a xs hx
   refine⟨a,ws,u,rfl,rfl,hW,by rw [←r3.length];exact hz,p .non _ _ _ (k1.trans (k2.trans (.put hW))) (rh2.put hW (r3.append (.cons r2 .nil))) rfl q2⟩
def jcr (to ti:TED):TGD:=fun d σ h Q=>to σ h fun o h1=>ti σ h1 fun i h2=> ∃a k xs j,o= .lst a∧i= .int k∧h2 a=some xs∧ixN xs.length k=some j∧Q σ (jb2 h2 a (xs.set j d))
theorem jpo (ho:QE X o to) (hi:QE X i ti)
 (ha: ∀v,assign (.Subscript o i pos) X.env v=(do
  let ov ←holding [v] (eval o X.env)
  let iv ←holding [v,ov] (eval i X.env)
  standAt pos
  holding [v,ov,iv] (setItem ov iv v)
  release [v,ov,iv] []):=by intro _;rfl):QG X (.Subscript o i pos) (jcr to ti):=
 (jov ho hi jk6 ha).imp fun v σ H Q ⟨d,σd,h,Qd,r,rs,rh,q,p⟩=>
  LE.bind rs rh q fun d1 v1 h1 H1 k1 rs1 rh1 r1 q1=>LE.bind rs1 rh1 q1 fun d2 v2 h2 H2 k2 rs2 rh2 r2 ⟨a,k,xs,j,e1,e2,hx,hj,q2⟩=>by
   subst e1 e2
   have e3:v1= .ref a:=(r1.mono k2).1
   obtain⟨ws,hW,r3⟩:=rh2 a xs hx
   refine⟨a,ws,k,j,e3,r2,hW,by rw [←r3.length];exact hj,p _ _ _ _ (k1.trans (k2.trans (.put hW))) (rs2.mono (.put hW)) (rh2.put hW (RelDs.set ((r.mono k1).mono k2) j r3)) q2⟩
end
def jmk (N:List Str) (sc:List (Str×NameKind)) (scope:Scope) (js:List Nat):Bool:=
 scope.kind== .function&&scope.names.all (fun p=>p.2 != .cell||scope.names.lookup p.1==some .cell)&&scope.names.all (fun p=>p.2 != .local||scope.names.lookup p.1==some .local)&&
 scope.names.all (fun p=>p.2 != .free||sc.lookup p.1==some .cell||sc.lookup p.1==some .free)&&
 (List.range N.length).all fun i=>(scope.names.lookup (N.getD i Str.empty) !=some .local&&scope.names.lookup (N.getD i Str.empty) !=some .cell)||js.contains i
theorem jal {X:Cx} {scope:Scope} {js:List Nat} (h:jmk X.N X.env.scope.names scope js=true):BlockOk X scope js:=by
 unfold jmk at h
 simp only [G1q] at h
 obtain⟨⟨⟨⟨h1,h2⟩,h3⟩,h4⟩,h5⟩:=h
 refine⟨eq_of_beq h1,fun p hp e=> ?_,fun p hp e=> ?_,fun p hp e=> ?_,fun i x e1 e2=> ?_⟩
 ·have:=G05.mp h3 p hp;rw [e] at this;simpa using this
 ·have:=G05.mp h2 p hp;rw [e] at this;simpa using this
 ·have:=G05.mp h4 p hp;rw [e] at this;simpa using this
 ·have hi:i<X.N.length:=(G0m.mp e1).1
  have:=G05.mp h5 i (G0x.mpr hi)
  rw [G0B,e1,Option.getD_some] at this
  rcases e2 with e2|e2<;>(rw [e2] at this;simpa using this)
theorem qpt {X:Cx} {e:Expr} {t:TTD} (h:QW X e t):QT X e t:=h.pt
theorem jjN {i:Nat} {js:List Nat} {ti:TID} {te:TED} {σ:SD} {h h1:HD} {Q:KD} {ds:List D} {j:ItD} (f:D→D) (hz:ds.length≤sizeLine) (hj:j h1=some ds)
 (ht: ∀R:ItD→HD→Prop,R j h1→ti σ h R) (he: ∀d∈ds,∀Q' :KD,Q' (f d) h1→te ((ja8 js σ).set i (some d)) h1 Q') (hq: ∀p,h1 p=none→Q (.lst p) (jb2 h1 p (ds.map f))):jda (bN i) js ti je3 te σ h Q:=by
 refine ht _ ⟨ds.length,fun k ys h' =>h' =h1∧ys=(ds.take k).map f,⟨rfl,by simp⟩,?_⟩
 rintro k ys h' ⟨rfl,rfl⟩
 refine⟨by simp only [G0c,G0v];omega,ds,hj,G0f _,fun hl p hp=> ?_,fun d hd=>⟨_,rfl,?_⟩⟩
 ·rw [G0T hl];exact hq p hp
 ·unfold je3
  dsimp only
  rw [if_pos rfl]
  refine he d (G0h hd) _ ⟨h',Sub.refl _,rfl,?_⟩
  rw [G1u,hd]
  simp
end L2
namespace HT
open PySem PySem.Spec PyProof.Rows
section
variable {prog:Program} {w:World} {A:Around} {E:Value→Shared→Prop} {s:Shared}
theorem jdc {t sl:Addr} {items:Array Value} {vl vu:Value} {lo hi:Option Int} {Q:Value→Shared→Prop} (ht:IsTup s.heap t items) (hs:s.heap.IsSliceOf sl vl vu .none) (pl:IsPart vl lo) (pu:IsPart vu hi)
 (hw:sIx items.size 0 lo=0∧sIx items.size items.size hi=items.size) (h:Q (.ref t) s):wpAny (model prog w) A (getItem (.ref t) (.ref sl)) Q E s:=by
 obtain⟨os,hos,hcs,hds⟩:=id hs
 have hTs:s.TypeIs (.ref sl) "slice" :=⟨os,hos,hcs⟩
 unfold getItem
 try with_reducible refine G1x ?_
 first|refine wpAny_bind (G0d ?_)|skip
 refine wpAny_bind (wpAny_sequenceKey ht.typeIs (by decide) ?_)
 refine wpAny_bind (G1o (name:=Str.ofString "__getitem__") ht.typeIs G1R
  (G1p G1R ht.typeIs entry_tuple_getitem ?_ (args_tuple_getitem _ _)))
 show wpAny _ _ (Builtin.Tuple.tupleItemsOf (.ref t) >>= _) _ _ s
 refine wpAny_bind (tupleItemsOf_ ht ?_)
 refine wpAny_bind (G35 hTs ?_)
 rw [if_pos (by decide)]
 refine wpAny_bind (jcE hs pl pu ?_)
 have hyes:((((sIx items.size 0 lo:Nat):Int)==0&&(1:Int)==1&&(sIx items.size items.size hi-sIx items.size 0 lo)==items.size)=true):=by
  rw [hw.1,hw.2];simp
 show wpAny _ _ (if (((sIx items.size 0 lo:Nat):Int)==0&&(1:Int)==1&&(sIx items.size items.size hi-sIx items.size 0 lo)==items.size)=true then _ else _) _ _ s
 rw [if_pos hyes]
 refine wpAny_bind (m:=Builtin.Tuple.tupleIsExact (.ref t)) ?_
 unfold Builtin.Tuple.tupleIsExact
 refine wpAny_bind (G35 ht.typeIs (G0d ?_))
 rw [if_pos (by decide)]
 exact wpAny_bind (G3F (G0d ⟨_,rfl,G0d h⟩))
end
end HT
namespace L2
open PySem PySem.Spec PyProof.Rows
def jsa (K:PySem.W.Frag):V→Option Int→Option Int→Hp→VK→Prop:=fun x lo hi H Q=> ∃a xs,x= .ref a∧SqT K H a xs∧(HT.sIx xs.length 0 lo=0∧HT.sIx xs.length xs.length hi=xs.length)∧Q (.ref a) H
theorem sl_whole {X:Cx}:SlR X (jsa X.K):=by
 intro pins s σ H x v vl vu lo hi sl Q I rx hs pl pu h
 obtain⟨a,xs,rfl,hx,hw,q⟩:=h
 cases rx
 obtain⟨its,r,ht,hz⟩:=I.tuple hx
 have hlen:its.toArray.size=xs.length:=by rw [G0u];exact r.length.symm
 refine⟨"tuple",_,PyProof.Rows.slot_tuple_getitem.lookup,ht.typeIs,?_⟩
 exact HT.jdc ht hs pl pu (by rw [hlen];exact hw) ⟨.ref a,H,I,rfl,q⟩
def jeX {α:Type} (xs:List α) (lo hi:Option Int):List α:=(xs.drop (HT.sIx xs.length 0 lo)).take (HT.sIx xs.length xs.length hi-HT.sIx xs.length 0 lo)
abbrev TOD:=SD→HD→(Option Int→HD→Prop)→Prop
def jaT:TOD:=fun _ h Q=>Q none h
def jcs (t:TED):TOD:=fun σ h Q=>t σ h fun x h1=> ∃i,x= .int i∧Q (some i) h1
def LO (K:PySem.W.Frag) (t:TOD):TO:=fun σ H Q=> ∃σd h Qd,RelS K H σd σ∧RelH K h H∧t σd h Qd∧ ∀o h' H',Kept H H' →RelH K h' H' →Qd o h' →Q o H'
theorem LO.bind {K:PySem.W.Frag} {ta:TOD} {σ:St} {H:Hp} {σd:SD} {h:HD} {kd:Option Int→HD→Prop} {k:Option Int→Hp→Prop} (rs:RelS K H σd σ) (rh:RelH K h H) (t:ta σd h kd) (f: ∀o h' H',Kept H H' →RelS K H' σd σ→RelH K h' H' →kd o h' →k o H'):LO K ta σ H k:=
 ⟨σd,h,kd,rs,rh,t,fun o h' H' kp r1 q=>f o h' H' kp (rs.mono kp) r1 q⟩
theorem PO.imp {X:Cx} {e:Option Expr} {t t' :TO} (h:PO X e t) (i: ∀σ H Q,t' σ H Q→t σ H Q):PO X e t' :=fun pins s σ H Q I q=>h pins s σ H Q I (i σ H Q q)
abbrev QO (X:Cx) (e:Option Expr) (t:TOD):Prop:=PO X e (LO X.K t)
theorem jno {X:Cx}:QO X none jaT:=po_none.imp fun σ H Q ⟨σd,h,Qd,rs,rh,q,p⟩=>p none h H (.refl H) rh q
theorem jnp {X:Cx} {e:Expr} {te:TED} (he:QE X e te):QO X (some e) (jcs te):=(jmW he).imp fun σ H Q ⟨σd,h,Qd,rs,rh,q,p⟩=>
 LE.bind rs rh q fun d v h1 H1 k1 rs1 rh1 r1 ⟨i,e,q1⟩=>by subst e;exact⟨i,r1,p _ _ _ k1 rh1 q1⟩
def slD:D→Option Int→Option Int→HD→KD→Prop:=fun x lo hi h Q=>match x with
 | .tup ds=>Q (.tup (jeX ds lo hi)) h
 | .scr ns=> ∀p,h p=none→Q (.lst p) (jb2 h p ((jeX ns lo hi).map D.int))
 | .lst a=> ∃ds,h a=some ds∧ ∀p,h p=none→Q (.lst p) (jb2 h p (jeX ds lo hi))
 |_=>False
def dSl (te:TED) (tl th:TOD):TED:=fun σ h Q=>te σ h fun x h1=>tl σ h1 fun l h2=>th σ h2 fun u h3=>slD x l u h3 Q
theorem jfR {K:PySem.W.Frag} {H:Hp} {ds:List D} {vs:List V} (r:RelDs K H ds vs) (lo hi:Option Int):RelDs K H (jeX ds lo hi) (jkS vs lo hi):=by
 unfold jeX jkS
 rw [r.length]
 exact(r.drop _).take _
theorem jnq {α β:Type} (f:α→β) (xs:List α) (lo hi:Option Int):jeX (xs.map f) lo hi=(jeX xs lo hi).map f:=by
 unfold jeX
 rw [G0c,G4p,G4q]
theorem jpp {X:Cx} {e:Expr} {te:TED} {lo hi:Option Expr} {tl th:TOD} {pos p2:Pos} (he:QE X e te) (hl:QO X lo tl) (hu:QO X hi th):QE X (.Subscript e (.Slice lo hi none p2) pos) (dSl te tl th):=
 (jk5 (sl_tup.or (sl_whole.or jmX)) he hl hu).imp fun σ H Q ⟨σd,h,Qd,rs,rh,q,p⟩=>
  LE.bind rs rh q fun d v h1 H1 k1 rs1 rh1 r1 q1=>LO.bind rs1 rh1 q1 fun l h2 H2 k2 rs2 rh2 q2=>LO.bind rs2 rh2 q2 fun u h3 H3 k3 rs3 rh3 q3=>by
   have rv:=(r1.mono k2).mono k3
   have kk:=k1.trans (k2.trans k3)
   cases d<;>first
    |exact False.elim q3
    |skip
   ·rename_i ds
    obtain⟨a,vs,e1,hH,r⟩:=(show ∃a vs,v= .ref a∧H3 a=some (.tup vs)∧RelDs X.K H3 ds vs from rv)
    by_cases hw:HT.sIx vs.length 0 l=0∧HT.sIx vs.length vs.length u=vs.length
    ·refine .inr (.inl ⟨a,vs,e1,SqT.of hH,hw,p (.tup (jeX ds l u)) _ _ _ kk rh3 ⟨a,vs,rfl,hH,?_⟩ q3⟩)
     have z:=jfR r l u
     have e:jkS vs l u=vs:=by unfold jkS;rw [hw.1,hw.2];simp
     rwa [e] at z
    ·exact .inl ⟨a,vs,e1,SqT.of hH,hw,fun c hc=>p (.tup (jeX ds l u)) _ _ _ (kk.trans (.new hc)) (rh3.new hc) ⟨c,_,rfl,jap,(jfR r l u).mono (.new hc)⟩ q3⟩
   ·rename_i a
    obtain⟨ds,hd,q3⟩:=q3
    obtain⟨vs,hH,r⟩:=rh3 a ds hd
    exact .inr (.inr ⟨a,vs,rv.1,SqL.of hH,fun c hc=>p (.lst c) _ _ _ (kk.trans (.new hc)) (rh3.newL hc (jfR r l u)) ⟨rfl,_,jap⟩ (q3 c (rh3.free hc))⟩)
   ·rename_i ns
    obtain⟨a,e1,hS⟩:=(show ∃a,v= .ref a∧Scr X.K H3 a ns from rv)
    refine .inr (.inr ⟨a,_,e1,hS.sq,fun c hc=>p (.lst c) _ _ _ (kk.trans (.new hc)) (rh3.newL hc ?_) ⟨rfl,_,jap⟩ (q3 c (rh3.free hc))⟩)
    have z:=jfR (jc0 (K:=X.K) (H:=H3) ns) l u
    rwa [jnq] at z
end L2
namespace HT
open PySem PySem.Spec PyProof.Rows
open Sem (wp)
open Builtin
theorem jed:fillsNumberSlot (.type "tuple") "mul" =pure false:=
 PySem.fillsNumberSlot_seq (id:= "tuple.__mul__") (r:=some (.builtin "tuple.__rmul__")) F.slot_tuple_mul.lookup (by decide +kernel) F.slot_tuple_rmul.lookup (by decide +kernel)
theorem jgQ:seqRepeat? (.type "tuple")=pure (some (.builtin "tuple.__mul__")):=by
 unfold seqRepeat?
 rw [PySem.seqSlot_of (T:= "tuple") (name:= "__mul__") (id:= "tuple.__mul__") F.slot_tuple_mul.lookup (by decide +kernel),PySem.seqSlot_of (T:= "tuple") (name:= "__rmul__") (id:= "tuple.__rmul__") F.slot_tuple_rmul.lookup (by decide +kernel)]
 rfl
section
variable {prog:Program} {w:World} {A:Around} {E:Value→Shared→Prop} {s:Shared}
theorem jfS {k:Int} {t:Tok} {l:Addr} {o:Obj} {its:Array Value} {n:Nat} {P:PySem.Fin→Shared→Prop} (at_:s.heap.get? l=some o) (tup:o.cls= .type "tuple") (dat:o.data= .seq its n) (h:P (.done (.ret .notImplemented)) s):wpAny (model prog w) A (Builtin.«int.__rmul__» ⟨[.int k t,.ref l],[]⟩) P E s:=by
 obtain⟨c,dd,dt,sl⟩:=o
 cases tup;cases dat
 obtain⟨hp,g,d,tk,os⟩:=s
 wp_walk
 exact h
theorem jhA {l:Addr} {its:Array Value} {n:Nat} {x:Int} {u:Tok} {dd:Option Addr} {sl:Array (Option Value)} {P:PySem.Fin→Shared→Prop} (at_:s.heap.get? l=some {cls:= .type "tuple",dict:=dd,data:= .seq its n,slots:=sl}) (fits: -(2^63)≤x∧x<2^63)
 (same:(its.isEmpty||x==1)=true→P (.done (.ret (.ref l))) s)
 (gone:(its.isEmpty||x==1)=false→(decide (x≤0)||its.isEmpty)=true→P (.done (.ret (.ref s.heap.objs.size))) {s with heap:=s.heap.push {cls:= .type "tuple",data:= .seq #[]}})
 (more:(its.isEmpty||x==1)=false→(decide (x≤0)||its.isEmpty)=false→ ¬ (its.size:Int)*x>(2^63-1) / 8∧Builtin.Tuple.tupleTooMany ((its.size:Int)*x)=false∧((List.replicate x.toNat its).foldl (· ++ ·) #[]).size≤sizeLine∧
  P (.done (.ret (.ref s.heap.objs.size))) {s with heap:=s.heap.push {cls:= .type "tuple",data:= .seq ((List.replicate x.toNat its).foldl (· ++ ·) #[])}}):
 wpAny (model prog w) A (Builtin.«tuple.__mul__» ⟨[.ref l,.int x u],[]⟩) P E s:=by
 obtain⟨hp,g,d,tk,os⟩:=s
 wp_walk
 rw [if_neg (by simp only [G38,G1A];omega)]
 wp_walk
 cases c1:(its.isEmpty||x==1) with
 |true=>
  rw [if_pos rfl]
  wp_walk
  exact same c1
 |false=>
  rw [if_neg G0t]
  cases c2:(decide (x≤0)||its.isEmpty) with
  |true=>
   rw [if_pos rfl]
   wp_walk
   exact gone c1 c2
  |false=>
   obtain⟨m1,m2,m3,m4⟩:=more c1 c2
   rw [if_neg G0t]
   dsimp only
   rw [if_neg m1,m2,if_neg G0t]
   wp_walk
   exact m4
end
end HT
namespace L2
open PySem PySem.Spec PyProof.Rows
def jq1 (K:PySem.W.Frag):R2:=fun x y H Q=> ∃ (a:Addr) (k:Int) (xs:List V),x= .ref a∧y= .int k∧SqT K H a xs∧ -(2^63)≤k∧k<2^63∧xs.length*k.toNat≤sizeLine∧
 ((xs= []∨k=1)→Q (.ref a) H)∧(¬ (xs= []∨k=1)→ ∀p,H p=none→Q (.ref p) (upd H p (.tup (List.replicate k.toNat xs).flatten)))
theorem jek {l:List Value}:l.toArray= #[]↔l= []:=by cases l<;>simp
theorem jnr {X:Cx}:OpR X (binaryOp .Mult) (jq1 X.K):=by
 intro pins s σ H x y v u Q I rx ry h
 obtain⟨a,k,xs,rfl,rfl,hH,h1,h2,hz,q1,q2⟩:=h
 cases rx
 obtain⟨t,rfl⟩:=ry
 obtain⟨its,r,ht,_⟩:=I.tuple hH
 obtain⟨⟨cls,dd,data,sl⟩,ho,hc,n,hd⟩:=id ht
 simp only at hc hd
 subst hc hd
 have hl:=r.length
 have hnew:(List.replicate k.toNat its.toArray).foldl (· ++ ·) #[]=(List.replicate k.toNat its).flatten.toArray:=by
  have:=jep its k.toNat []
  rw [G0P] at this
  exact this
 have few:its.length*k.toNat≤sizeLine:=by rw [←hl];exact hz
 have free:=I.hok.fresh (G0f _)
 refine wpAny_binaryOp_repeat_ref (T:= "tuple") (U:= "int") (by decide) ⟨_,ho,rfl⟩ (fun s' =>G4d s' k t) HT.jed F.fills_int_mul G3p HT.jgQ F.slot_int_index.lookup
  (G1p G3p (G4d s k t) F.entry_int_rmul (HT.jfS ho rfl rfl ⟨_,rfl,rfl,⟨_,ho,rfl⟩,G1p F.slot_tuple_mul ⟨_,ho,rfl⟩ F.entry_tuple_mul (HT.jhA ho ⟨h1,h2⟩ (fun c=> ?_) (fun c c0=> ?_) (fun c c0=> ?_)) (F.args_tuple_mul_2 _ _)⟩) (F.args_int_rmul_2 _ _))
 ·refine⟨_,rfl,.ref a,H,I,rfl,q1 ?_⟩
  simp only [G38,G4t,Array.isEmpty_iff,jek] at c
  exact c.imp (fun e=>r.nil_iff.mp e) id
 ·simp only [Bool.or_eq_false_iff,G3n,G3v,ne_eq,jek] at c
  have k0:k.toNat=0:=by
   simp only [G38,G1A,Array.isEmpty_iff,jek] at c0
   have:=c0.resolve_right c.1;omega
  have last:=q2 (fun z=>z.elim (fun e=>c.1 (r.nil_iff.mpr e)) c.2) _ free
  rw [k0] at last
  exact⟨_,rfl,.ref s.heap.objs.size,_,I.laid (t' :=s.toks) (o:= .tup []) (fun b ob q=>G0a _ q) (G0f _) ⟨by decide,[],.nil,IsTupN.new _ _⟩,rfl,last⟩
 ·simp only [Bool.or_eq_false_iff,G3n,G3v,ne_eq,jek,decide_eq_false_iff_not] at c c0
  have em:((its.toArray.size:Nat):Int)*k=((its.length*k.toNat:Nat):Int):=by rw [Int.natCast_mul,G0u,show ((k.toNat:Nat):Int)=k by omega]
  have cap:(sizeLine:Nat)≤(2^63-1) / 8:=by decide
  rw [em,hnew]
  refine⟨by omega,by unfold Builtin.Tuple.tupleTooMany;exact decide_eq_false (by omega),by rw [List.size_toArray,jhz,Nat.mul_comm];exact few,_,rfl,.ref s.heap.objs.size,_,I.laid (t' :=s.toks) (o:= .tup (List.replicate k.toNat xs).flatten) (fun b ob q=>Heap.get?_push_of_some _ q) (Nat.le_refl _) ⟨by rw [jhz,Nat.mul_comm];exact hz,_,r.rep k.toNat,IsTupN.new _ _⟩,rfl,q2 (fun z=>z.elim (fun e=>c.1 (r.nil_iff.mpr e)) c.2) _ free⟩
def jfT:RD2:=fun x y h Q=>match x,y with
 | .tup ds,.int k=> -(2^63)≤k∧k<2^63∧ds.length*k.toNat≤sizeLine∧Q (.tup (List.replicate k.toNat ds).flatten) h
 |x,y=>jfI x y h Q
theorem jfU {X:Cx}:OpQ X (binaryOp .Mult) jfT:=(oq_mul.or jnr).imp fun x y H Q ⟨dx,dy,h,Qd,rx,ry,rh,q,p⟩=>by
 by_cases ht: ∃ds k,dx= .tup ds∧dy= .int k
 ·obtain⟨ds,k,e1,e2⟩:=ht
  subst e1 e2
  obtain⟨b1,b2,hz,q⟩:=q
  obtain⟨a,vs,e,hH,r⟩:=(show ∃a vs,x= .ref a∧H a=some (.tup vs)∧RelDs X.K H ds vs from rx)
  refine .inr ⟨a,k,vs,e,ry,SqT.of hH,b1,b2,by rw [←r.length];exact hz,fun hs=> ?_,fun _ c hc=>p (.tup _) _ _ _ (.new hc) (rh.new hc) ⟨c,_,rfl,jap,(r.flat _).mono (.new hc)⟩ q⟩
  refine p (.tup _) _ _ _ (.refl H) rh ⟨a,vs,rfl,hH,?_⟩ q
  rcases hs with e0|e1
  ·subst e0
   have:ds= []:=G17.mp r.length
   subst this;simpa using r
  ·subst e1;simpa using r
 ·refine .inl ⟨dx,dy,h,Qd,rx,ry,rh,?_,p⟩
  unfold jfT at q
  split at q
  ·exact absurd ⟨_,_,rfl,rfl⟩ ht
  ·exact q
def jfV:D→HD→KD→Prop:=fun x h Q=>match x with
 | .int i=>Q (.int (-i)) h
 |_=>False
def dUn (f:D→HD→KD→Prop) (ta:TED):TED:=fun σ h Q=>ta σ h fun x h1=>f x h1 Q
theorem jsb {X:Cx} {a:Expr} {ta:TED} {pos:Pos} (ha:QE X a ta):QE X (.UnaryOp .USub a pos) (dUn jfV ta):=
 (jqw joH ha).imp fun σ H Q ⟨σd,h,Qd,rs,rh,t,p⟩=>LE.bind rs rh t fun d v h1 H1 k1 rs1 rh1 r1 q=>by
  cases d<;>first
   |exact False.elim q
   |exact⟨_,r1,p (.int _) _ _ _ k1 rh1 rfl q⟩
def jgR (te:TED):TED:=fun σ h Q=>te σ h fun x h1=> ∃ds,x= .tup ds∧Q (.tup ds.reverse) h1
def jbI (x:Str) (i:Int):TED:=fun _ h Q=>Q (.dic x i) h
def jpq (K:PySem.W.Frag) (tl:TE):TI:=fun σ H R=>tl σ H fun x H1=> ∃a,x= .ref a∧((∃xs,SqL K H1 a xs∧R (Itl K a) H1)∨ ∃xs,SqT K H1 a xs∧R (Itt K a) H1)
theorem jpr {X:Cx} {tg l:Expr} {tl:TE} (hl:PE X l tl):PI X tg l (jpq X.K tl):=by
 intro pins s σ H R I h
 refine thn (hl pins s σ H _ I h) fun v s1 ⟨x,H1,I1,r1,q1⟩=> ?_
 obtain⟨a,e,q⟩:=q1
 subst e
 cases r1
 rcases q with ⟨xs,hq,q⟩|⟨xs,hq,q⟩
 ·obtain⟨its,rv,p,hz⟩:=I1.list hq
  refine G2j p.isList ?_
  refine⟨s1.heap.objs.size,[s1.heap.objs.size],_,_,H1,rfl,I1.kept (t' :=s1.toks) fun b o e=>G0a _ e,jgD a _,⟨_,G0q _ rfl,rfl,rfl⟩,fun b hb=> ?_,q⟩
  have e:b=s1.heap.objs.size:=by simpa using hb
  subst e
  exact I1.fpOk (G0f _) (I1.hok.fresh (G0f _))
 ·obtain⟨its,rv,p,hz⟩:=I1.tuple hq
  refine G2z (show s1.heap.IsTuple a its.toArray from p) ?_
  refine⟨s1.heap.objs.size,[s1.heap.objs.size],_,_,H1,rfl,I1.kept (t' :=s1.toks) fun b o e=>G0a _ e,jiL a _,⟨_,G0q _ rfl,rfl,rfl⟩,fun b hb=> ?_,q⟩
  have e:b=s1.heap.objs.size:=by simpa using hb
  subst e
  exact I1.fpOk (G0f _) (I1.hok.fresh (G0f _))
def iS (te:TED):TID:=fun σ h R=>te σ h fun x h1=>match x with
 | .lst a=>R (fun h=>h a) h1
 | .tup ds=>R (fun _=>some ds) h1
 | .scr ns=>R (fun _=>some (ns.map D.int)) h1
 |_=>False
theorem jlg {K:PySem.W.Frag} {H:Hp} {a:Addr} {ns:List Int} (hs:Scr K H a ns):jmh K H (fun _=>some (ns.map D.int)) (Itl K a):=fun H' h' k rh ds' e i=>by
 cases e
 have hs' :Scr K H' a ns:=hs.elim (fun ⟨o,z⟩=> .inl ⟨o,k.frz _ _ _ z⟩) .inr
 refine⟨fun d hd=> ?_,fun hl=>⟨_,hs'.sq,by simpa using hl⟩⟩
 obtain⟨v,e1,e2⟩:=(jc0 (K:=K) (H:=H') ns).get hd
 refine⟨⟨_,v,hs'.sq,e1⟩,fun x H'' ⟨eH,hx⟩=> ?_⟩
 subst eH
 have:=hx _ hs'.sq
 rw [e1] at this;cases this
 exact⟨.refl _,rh,e2⟩
theorem jps {K:PySem.W.Frag} {te:TED}: ∀σ H R,LI K (iS te) σ H R→jpq K (LE K te) σ H R:=fun σ H R ⟨σd,h,Rd,rs,rh,q,p⟩=>
 LE.bind rs rh q fun d v h1 H1 k1 rs1 rh1 r1 q1=>by
  cases d<;>first
   |exact False.elim q1
   |skip
  ·rename_i ds
   obtain⟨a,vs,e,hv,r⟩:=(show ∃a vs,v= .ref a∧H1 a=some (.tup vs)∧RelDs K H1 ds vs from r1)
   exact⟨a,e,.inr ⟨vs,SqT.of hv,p _ _ _ _ k1 rh1 (jlb hv r) q1⟩⟩
  ·rename_i a
   obtain⟨e,vs,hv⟩:=(show v= .ref a∧ ∃vs,H1 a=some (.lst vs) from r1)
   exact⟨a,e,.inl ⟨vs,SqL.of hv,p _ _ _ _ k1 rh1 (jgN H1 a) q1⟩⟩
  ·rename_i ns
   obtain⟨a,e,hS⟩:=(show ∃a,v= .ref a∧Scr K H1 a ns from r1)
   exact⟨a,e,.inl ⟨_,hS.sq,p _ _ _ _ k1 rh1 (jlg hS) q1⟩⟩
theorem jpu {X:Cx} {tg e:Expr} {te:TED} (he:QE X e te):QI X tg e (iS te):=(jpr he).imp jps
def jbu:TSD:=fun _ _ _=>False
theorem jpv {X:Cx} {st:Stmt}:QS X st jbu:=fun _ _ _ _ _ _ ⟨_,_,_,_,_,z,_⟩=>z.elim
structure Zs (mg:Str→Option Value):Prop where
 len:mg "len" =none
 max:mg "max" =none
 min:mg "min" =none
 divmod:mg "divmod" =none
 all:mg "all" =none
 any:mg "any" =none
 repr:mg "repr" =none
 sum:mg "sum" =none
 sorted:mg "sorted" =none
 int:mg "int" =none
 tuple:mg "tuple" =none
 list:mg "list" =none
 set:mg "set" =none
 bool:mg "bool" =none
 isinstance:mg "isinstance" =none
 range:mg "range" =none
 zip:mg "zip" =none
 enumerate:mg "enumerate" =none
 reversed:mg "reversed" =none
def jaf (P:Program) (w:World) (K:PySem.W.Frag) (mg:Str→Option Value) (base:Heap) (n:Nat) (x:Str) (ps:List Str) (sp:RDn):Prop:=
 ∃ (g:Addr) (gd:FuncData),FnOk P w K mg base CX0 n g gd ps (LSp K sp)∧Binds K gd ps []∧PySem.W.keepIn K (.ref g)=true∧mg x=some (.ref g)
def jjO:RDn:=fun ds h Q=> ∃ns,ds= [.scr ns]∧(∀a,h a=none)∧ns.length≤63∧ ∀h',Q (.bl true) h'
def Bm (mg:Str→Option Value) (base:Heap):Prop:= ∃bm ob,mg "__builtins__" =some (.ref bm)∧bm≠builtinsNs∧base.get? bm=some ob∧ob.cls= .type "module" ∧ob.dict=some builtinsNs∧ob.data= .plain
def jb8 (K:PySem.W.Frag):List (Addr×Addr):=LN.filterMap (PySem.W.tabIn K)
theorem TabK.mem {K:PySem.W.Frag} {P:Addr} (h:TabK K P): ∃c,(c,P)∈jb8 K:=let ⟨x,hx,c,e⟩:=h;⟨c,G2x.mpr ⟨x,hx,e⟩⟩
theorem jjP {P:Program} {w:World} {K:PySem.W.Frag} {mg mb:Str→Option Value} {k:Nat} {fa a:Addr} {fd:FuncData} {x:Str} {s₁:Shared} {vs:List Value} {ns:List Int}
 (KX:K.In s₁.heap) (hns:s₁.heap.Ns mainGlobals mg) (hb:s₁.heap.Ns builtinsNs mb) (hbb: ∀x:Str,x≠ "__name__" →mb x=bootBuiltins x) (hlim:s₁.heap.NoLimit) (hg:s₁.gens= #[])
 (ha:s₁.heap.get? a=some {cls:= .type "list",data:= .seq vs.toArray}) (hi:IntsAre vs ns) (hl:ns.length≤63) (hr:Room k callerA)
 (hbm:Bm mg s₁.heap) (F: ∀base:Heap,K.In base→base.Ns mainGlobals mg→Bm mg base→FnOk P w K mg base CX0 k fa fd [x] (LSp K jjO)) (hbind: ∀ (s:Shared) (u:Value),BindsTo s fd ⟨[u],[]⟩ [(x,u)])
 (hT: ∀p∈jb8 K,PySem.W.CodeHd s₁.heap p.1 p.2∧s₁.heap.get? p.2=some (PySem.W.tabObj #[])∧K.lookup p.2=none):
 codeAny (model P w) callerA (.call (.ref fa) ⟨[.ref a],[]⟩) (fun r s' =>r= .ok (.ret (.bool true))∧OldK s₁.heap s'.heap∧s'.os=s₁.os∧AllBare s'.gens) s₁:=by
 have rv:=jgL hi
 have lenV:=hi.length
 have hz:ns.length≤sizeLine:=G01 hl (by decide)
 have hT' : ∀b,b∈(jb8 K).map (·.2)→ ∃c,PySem.W.CodeHd s₁.heap c b∧s₁.heap.get? b=some (PySem.W.tabObj #[])∧K.lookup b=none:=fun b hb=>by
  obtain⟨p,hp,rfl⟩:=G0D.mp hb
  exact⟨p.1,hT p hp⟩
 have core: ∀H:Hp,Scr K H a ns→HOk P w H s₁.heap→(∀b u,H b=some u→(b=a∧K.lookup a=none∧ ∃o xs,u= .frz o (.lst xs))∨(b∈(jb8 K).map (·.2)∧u= .tbl #[]))→(∀b,b∈(jb8 K).map (·.2)→H b=some (.tbl #[]))→
  codeAny (model P w) callerA (.call (.ref fa) ⟨[.ref a],[]⟩) (fun r s' =>r= .ok (.ret (.bool true))∧OldK s₁.heap s'.heap∧s'.os=s₁.os∧AllBare s'.gens) s₁:=by
  intro H hS hok hA hTt
  have noA: ∀ {b:Addr} {o:Obj} {es:Array DictEntry} {ep:Nat},s₁.heap.get? b=some o→o.data= .dict es ep→H b=none:=fun {b o es ep} e d=>by
   cases q:H b with
   |none=>rfl
   |some u=>
    rcases hA b u q with ⟨rfl,_,_⟩|⟨z,_⟩
    ·rw [ha] at e;cases e
     have d' :Data.seq vs.toArray _=Data.dict es ep:=d
     cases d'
    ·obtain⟨c,_,e2,_⟩:=hT' b z
     rw [e2] at e;cases e
     have d' :Data.fields _=Data.dict es ep:=d
     cases d'
  have nsK: ∀ {b:Addr} {m:Str→Option Value},s₁.heap.Ns b m→(jkV s₁.heap H).Ns b m:=fun {b m} ⟨o,es,ep,e,d,r⟩=>⟨o,es,ep,jfC e (noA e d),d,r⟩
  have hKb:K.In (jkV s₁.heap H):=fun b o e=>jfC (KX b o e) (by
   cases q:H b with
   |none=>rfl
   |some u=>
    rcases hA b u q with ⟨rfl,z,_⟩|⟨z,_⟩
    ·rw [z] at e;cases e
    ·obtain⟨c,_,_,z2⟩:=hT' b z
     rw [z2] at e;cases e)
  have hM:Mod K mg (jkV s₁.heap H):=⟨hKb,nsK hns,⟨mb,nsK hb,hbb⟩,let ⟨mc,h1,h2⟩:=hlim;⟨mc,nsK h1,h2⟩⟩
  have e0:Env0 P w K mg (jkV s₁.heap H) callerA [] s₁ H:=⟨rfl,hM,fun b o e=>jmF e,G37 (jjj _ _),trivial,fun b hb=>absurd (show b∈([]:List Addr) from hb) (by simp),hok,.of_eq hg⟩
  have hsp:LSp K jjO [.ref a] H (fun v _=>v= .bl true) (fun _ _ _=>False):=by
   refine⟨[.scr ns],fun _=>none,fun d _=>d= .bl true,⟨.ref a,[],rfl,⟨a,rfl,hS⟩,rfl⟩,⟨fun b ds e=>(by cases e),fun p hp=> ?_⟩,⟨ns,rfl,fun _=>rfl,hl,fun _=>rfl⟩,?_⟩
   ·obtain⟨c,hc⟩:=hp.mem
    exact⟨#[],hTt p (List.mem_map_of_mem (f:=(·.2)) hc),trivial,fun pos cv e=>(by cases e)⟩
   ·intro d v h' H' _ _ r e
    subst e;exact r
  have hBm:Bm mg (jkV s₁.heap H):=by
   obtain⟨bm,ob,b1,b2,b3,b4,r⟩:=hbm
   refine⟨bm,ob,b1,b2,jfC b3 ?_,b4,r⟩
   cases q:H bm with
   |none=>rfl
   |some u=>
    rcases hA bm u q with ⟨rfl,_,_⟩|⟨z,_⟩
    ·rw [ha] at b3;cases b3;exact absurd (Value.type.inj b4) (by decide)
    ·obtain⟨c,_,e2,_⟩:=hT' bm z
     rw [e2] at b3;cases b3;cases b4
  refine G34 ((F _ hKb (nsK hns) hBm).run callerA [] s₁ H ⟨[.ref a],[]⟩ [.ref a] [.ref a] _ _ hr e0 (hbind s₁ (.ref a)) (.cons rfl .nil) hsp) fun r s' h=> ?_
  cases r with
  |error e=>exact False.elim h
  |ok fl=>
   cases fl with
   |next=>exact False.elim h
   |brk=>exact False.elim h
   |cont=>exact False.elim h
   |ret u=>
    obtain⟨v,H',os,bare,un,hok',r',q⟩:=h
    have q' :v= .bl true:=q
    subst q'
    obtain rfl:u=Value.bool true:=r'
    have one: ∀b o,s₁.heap.get? b=some o→s'.heap.get? b=some o∨(b∈(jb8 K).map (·.2)∧ ∃more,s'.heap.get? b=some (PySem.W.tabObj more)):=fun b o e=>by
     cases q:H b with
     |none=>exact .inl (un.keep b o e q (by intro z;exact absurd (show b∈([]:List Addr) from z) (by simp)) (by simp))
     |some u=>
      rcases hA b u q with ⟨rfl,_,ob,xs,rfl⟩|⟨z,rfl⟩
      ·have z2:=un.frzs _ ob _ q
       obtain⟨e1,_⟩:=hok _ _ q
       obtain⟨e2,_⟩:=hok' _ _ z2
       rw [e] at e1;cases e1
       exact .inl e2
      ·obtain⟨more,z2⟩:=un.tbls b _ q
       exact .inr ⟨z,_,(show s'.heap.get? b=some _ from hok' b _ z2)⟩
    refine⟨rfl,⟨fun b o e=> ?_,fun b o e=> ?_⟩,os,bare⟩
    ·rcases one b o e with z|⟨z,more,z2⟩
     ·exact .inl z
     ·obtain⟨c,hc,e2,_⟩:=hT' b z
      rw [e] at e2;cases e2
      refine .inr (.inl ⟨(hc.tab e).isCodeTable,rfl,#[],more,rfl,?_⟩)
      rw [z2]
      simp
    ·rcases one b o e with z|⟨z,more,z2⟩
     ·exact⟨_,z⟩
     ·exact⟨_,z2⟩
 have nT:a ∉ (jb8 K).map (·.2):=fun z=>by
  obtain⟨c,_,e2,_⟩:=hT' a z
  rw [ha] at e2;cases e2
 have okT: ∀ {H:Hp} (b:Addr),b∈(jb8 K).map (·.2)→ObjOk P w H s₁.heap b (.tbl #[]):=fun b hb=>let ⟨_,_,e,_⟩:=hT' b hb;e
 cases hk:K.lookup a with
 |some o=>
  have e:=KX a o hk
  rw [ha] at e
  cases e
  refine core (fun b=>if b∈(jb8 K).map (·.2) then some (.tbl #[]) else none) (.inr ⟨_,vs.toArray,_,hk,rfl,rfl,rfl,by rw [G0u,lenV];exact hz,by simpa using rv⟩) (fun b u z=> ?_) (fun b u z=> ?_) fun b hb=>if_pos hb
  ·by_cases hb:b∈(jb8 K).map (·.2)
   ·have z' :=(if_pos hb).symm.trans z
    cases z'
    exact okT b hb
   ·have z' :=(if_neg hb).symm.trans z
    cases z'
  ·by_cases hb:b∈(jb8 K).map (·.2)
   ·have z' :=(if_pos hb).symm.trans z
    cases z'
    exact .inr ⟨hb,rfl⟩
   ·have z' :=(if_neg hb).symm.trans z
    cases z'
 |none=>
  refine core (fun b=>if b=a then some (.frz {cls:= .type "list",data:= .seq vs.toArray} (.lst (ns.map V.int))) else if b∈(jb8 K).map (·.2) then some (.tbl #[]) else none) (.inl ⟨{cls:= .type "list",data:= .seq vs.toArray},if_pos rfl⟩) (fun b u z=> ?_) (fun b u z=> ?_) fun b hb=> ?_
  ·by_cases hb:b=a
   ·have z' :=(if_pos hb).symm.trans z
    cases z'
    subst hb
    exact⟨ha,by rw [G0c];exact hz,vs,_,rv,ha⟩
   ·have z' :=(if_neg hb).symm.trans z
    by_cases hb2:b∈(jb8 K).map (·.2)
    ·have z2:=(if_pos hb2).symm.trans z'
     cases z2
     exact okT b hb2
    ·have z2:=(if_neg hb2).symm.trans z'
     cases z2
  ·by_cases hb:b=a
   ·have z' :=(if_pos hb).symm.trans z
    cases z'
    exact .inl ⟨hb,hk,_,_,rfl⟩
   ·have z' :=(if_neg hb).symm.trans z
    by_cases hb2:b∈(jb8 K).map (·.2)
    ·have z2:=(if_pos hb2).symm.trans z'
     cases z2
     exact .inr ⟨hb2,rfl⟩
    ·have z2:=(if_neg hb2).symm.trans z'
     cases z2
  ·have:b≠a:=fun z=>nT (z ▸ hb)
   show (if b=a then _ else _)=_
   rw [if_neg this,if_pos hb]
def jq2 (q:Program) (K:PySem.W.Frag):Bool:=LN.all fun x=>match PySem.W.tabIn K x with
 |some p=>(K.lookup p.2).isNone&&((PyProof.Rows.recsOf q).find? (fun e=>e.name==x)).isSome
 |none=>true
theorem jlh {l:PySem.W.OpenLaw} {k:Nat} {q:Program} {loose:List Str} {XP:(Str→Option Value)→Heap→Prop} {YP:World→Heap→Prop} {d:DefRec} {K:Params→PySem.W.Frag} {x:Str} (hn:l.most=some 63) (hdf:d.params.defaults= []) (hr:Room k callerA)
 (hY: ∀ (w:World) (h:Heap),YP w h→(K w.params).In h) (hB: ∀w:World,jq2 q (K w.params)=true)
 (F: ∀ (w:World) (mg:Str→Option Value) (fa:Addr) (h:Heap),(K w.params).In h→h.Ns mainGlobals mg→mg d.name=some (.ref fa)→
  ∃fd:FuncData,(∀ (s:Shared) (u:Value),BindsTo s fd ⟨[u],[]⟩ [(x,u)])∧ ∀base:Heap,(K w.params).In base→base.Ns mainGlobals mg→Bm mg base→FnOk l.prog w (K w.params) mg base CX0 k fa fd [x] (LSp (K w.params) jjO)):
 PySem.W.WalkO q loose XP YP l.row.toRowW d [] (fun f vs=>PySem.call f vs):=by
 refine Att.attach_call hn hdf fun w s₀ s₁ mg mb fa o pm cd doc a vs ns G Y ho hd hcd hmg hobj hints hlen hg=> ?_
 have KX:=hY w _ Y
 obtain⟨fd,hb,hF⟩:=F w mg fa _ KX G.T.g hmg
 refine jjP KX G.T.g G.T.b G.T.builtins G.T.nolimit hg hobj hints hlen hr G.T.bmain hF hb fun p hp=> ?_
 obtain⟨x,hx,e⟩:=G2x.mp hp
 have z:=G05.mp (hB w) x hx
 rw [e] at z
 simp only [G1q,Option.isNone_iff_eq_none] at z
 obtain⟨dd,hdd⟩:=G3G.mp z.2
 have t:=PySem.W.tab_of (c:=p.1) (P:=p.2) G.T KX hdd e
 exact⟨t.1,t.2,z.1⟩
def jhB:Expr→Bool
 | .Starred .. =>false
 |_=>true
theorem jhC {e:Expr} {es:List Expr} {env:Env} (h:jhB e=true):starEach (e::es) env=(false,eval e env)::starEach es env:=by
 cases e<;>first|rfl|cases h
theorem qac {X:Cx} {e:Expr} {es:List Expr} {te:TED} {t:TAD} (ha:QE X e te) (hr:QA X es t) (h:jhB e=true:=by rfl):QA X (e::es) (ja9 te t):=jm6 ha hr (jhC h)
theorem jhD {α:Type} {xs:List α} {i:Int} (h0:0≤i) (h1:i<xs.length): ∃x∈xs,atI xs i=some x:=by
 have hk:i.toNat<xs.length:=by omega
 have ek:i=((i.toNat:Nat):Int):=by omega
 have z:=jcc (G0b hk)
 rw [←ek] at z
 exact⟨xs[i.toNat],G06 hk,z⟩
theorem Sub.newAt {h h' :HD} {p:Addr} {L:List D} (s:Sub h h') (e:h' p=none):Sub h (jb2 h' p L):=s.trans (.new e)
def But (p:Addr) (h h' :HD):Prop:= ∀a ds,a≠p→h a=some ds→h' a=some ds
theorem But.new {p q:Addr} {h h' :HD} {L:List D} (s:But p h h') (e:h' q=none):But p h (jb2 h' q L):=fun a ds n z=>by
 have:=s a ds n z
 rw [jbx (fun w=>by subst w;rw [e] at this;cases this)];exact this
theorem But.put {p:Addr} {h h' :HD} {L:List D} (s:But p h h'):But p h (jb2 h' p L):=fun a ds n z=>by rw [jbx n];exact s a ds n z
theorem But.putNew {p q:Addr} {h h' :HD} {L:List D} (s:But p h h') (e:h q=none):But p h (jb2 h' q L):=fun a ds n z=>by
 rw [jbx (fun w=>by subst w;rw [e] at z;cases z)];exact s a ds n z
theorem But.sub {p:Addr} {h h' :HD} {L:List D} (s:But p h h') (e:h' p=some L):Sub (jb2 h p L) h' :=fun a ds z=>by
 by_cases q:a=p
 ·subst q;rw [jad] at z;cases z;exact e
 ·rw [jbx q] at z;exact s a ds q z
theorem But.upd {p:Addr} {h:HD} {L:List D}:But p h (jb2 h p L):=fun a ds n z=>by rw [jbx n];exact z
theorem jaV {h:HD} {p q:Addr} {L:List D} (e:h p=some L) (f:h q=none):q≠p:=fun z=>by subst z;rw [e] at f;cases f
theorem jam {h:HD} {p q:Addr} {L M:List D} (e:h p=some L) (f:h q=none):jb2 h q M p=some L:=by rw [jbx (fun z=>by subst z;rw [e] at f;cases f)];exact e
theorem jaq {h:HD} {a b:Addr} {L M:List D} (n:b≠a) (e:h b=some M):jb2 h a L b=some M:=by rw [jbx n];exact e
theorem jgS {n:Nat} {i:Nat} {d:D} (h:((List.range n).map fun (k:Nat)=>D.int (k:Int))[i]? =some d):i<n∧d= .int i:=by
 rw [G0i] at h
 by_cases hi:i<n
 ·rw [G1F hi] at h;cases h;exact⟨hi,rfl⟩
 ·rw [G1k (by simpa using hi)] at h;cases h
theorem jag {t u:TSD} {E:EndsD} {σ:SD} {h:HD} (V:SD→HD→Prop) (first: ∀K:SD→HD→Prop,(∀σ' h',V σ' h' →K σ' h')→t {E with nx:=K} σ h) (rest: ∀σ' h',V σ' h' →u E σ' h'):jec t u E σ h:=first (u E) rest
theorem jjQ {p q:Addr} {h h' :HD} (b:But p h h') (e:h' q=none) (n:q≠p):h q=none:=by
 cases z:h q with
 |none=>rfl
 |some ds=>rw [b q ds n z] at e;cases e
def Nxt (E:EndsD) (V:SD→HD→Prop):EndsD:= {E with nx:=fun σ3 h3=> ∃h4,Sub h4 h3∧V σ3 h4,ct:=fun σ3 h3=> ∃h4,Sub h4 h3∧V σ3 h4,bk:=E.nx}
theorem jeA {ta:TAD} {g:TGD} {tb:TSD} {E:EndsD} {σ:SD} {h h1:HD} (n:Nat) (W:Nat→SD→HD→Prop) (hn:n<1000000)
 (ht: ∀R:List D→HD→Prop,R [.int (n:Int)] h1→ta σ h R) (w0:W 0 σ h1) (done: ∀σ' h',W n σ' h' →E.nx σ' h')
 (turn: ∀i σ' h',i<n→W i σ' h' →g (.int (i:Int)) σ' h' fun σ2 h2=>tb (Nxt E fun σ3 h4=>i+1≤n∧W (i+1) σ3 h4) σ2 h2):jpd (iR1 ta) g tb E σ h:=by
 refine ht _ ⟨(n:Int),rfl,by omega,by omega,n,fun i σ' h' =>i≤n∧W i σ' h',⟨G1c _,w0⟩,?_⟩
 rintro i σ' h' ⟨hi,w⟩
 refine⟨_,rfl,by simp,fun hl=> ?_,fun d hd=> ?_⟩
 ·have:i=n:=by simp at hl;omega
  subst this;exact done _ _ w
 ·obtain⟨hi',e⟩:=jgS hd
  have hi2:i<n:=by omega
  subst e
  exact turn i σ' h' hi2 w
theorem jic {ti:TID} {g:TGD} {tb:TSD} {E:EndsD} {σ:SD} {h h1:HD} {j:ItD} (ds:List D) (W:Nat→SD→HD→Prop)
 (ht: ∀R:ItD→HD→Prop,R j h1→ti σ h R) (hj: ∀i σ' h',W i σ' h' →j h' =some ds) (w0:W 0 σ h1) (done: ∀σ' h',W ds.length σ' h' →E.nx σ' h')
 (turn: ∀i d σ' h',ds[i]? =some d→W i σ' h' →g d σ' h' fun σ2 h2=>tb (Nxt E fun σ3 h4=>i+1≤ds.length∧W (i+1) σ3 h4) σ2 h2):jpd ti g tb E σ h:=by
 refine ht _ ⟨ds.length,fun i σ' h' =>i≤ds.length∧W i σ' h',⟨G1c _,w0⟩,?_⟩
 rintro i σ' h' ⟨hi,w⟩
 refine⟨ds,hj i σ' h' w,G0f _,fun hl=> ?_,fun d hd=>turn i d σ' h' hd w⟩
 have:i=ds.length:=by omega
 subst this;exact done _ _ w
theorem jgT {g:TGD} {tb:TSD} {E:EndsD} {σ:SD} {h1:HD} {j:ItD} (ds:List D) (W:Nat→SD→HD→Prop)
 (hj: ∀i σ' h',W i σ' h' →j h' =some ds) (w0:W 0 σ h1) (done: ∀σ' h',W ds.length σ' h' →E.nx σ' h')
 (turn: ∀i d σ' h',ds[i]? =some d→W i σ' h' →g d σ' h' fun σ2 h2=>tb (Nxt E fun σ3 h4=>i+1≤ds.length∧W (i+1) σ3 h4) σ2 h2):
 ∃ (n:Nat) (W:Nat→SD→HD→Prop),W 0 σ h1∧ ∀i σ' h',W i σ' h' → ∃ds,j h' =some ds∧ds.length≤n∧(ds.length≤i→E.nx σ' h')∧
  ∀d,ds[i]? =some d→g d σ' h' fun σ2 h2=>tb {E with nx:=fun σ3 h3=> ∃h4,Sub h4 h3∧W (i+1) σ3 h4,ct:=fun σ3 h3=> ∃h4,Sub h4 h3∧W (i+1) σ3 h4,bk:=E.nx} σ2 h2:=by
 refine⟨ds.length,fun i σ' h' =>i≤ds.length∧W i σ' h',⟨G1c _,w0⟩,?_⟩
 rintro i σ' h' ⟨hi,w⟩
 refine⟨ds,hj i σ' h' w,G0f _,fun hl=> ?_,fun d hd=>turn i d σ' h' hd w⟩
 have:i=ds.length:=by omega
 subst this;exact done _ _ w
theorem jml {i:Nat} {js:List Nat} {ta:TAD} {te:TED} {σ:SD} {h h1:HD} {Q:KD} (n:Nat) (W:Nat→List D→HD→Prop) (hn:n≤1000) (ht: ∀R:List D→HD→Prop,R [.int (n:Int)] h1→ta σ h R)
 (w0:W 0 [] h1) (wl: ∀k ys h',W k ys h' →ys.length=k) (turn: ∀k ys h',k<n→W k ys h' →te ((ja8 js σ).set i (some (.int (k:Int)))) h' fun y h4=> ∃h5,Sub h5 h4∧(k+1≤n∧W (k+1) (ys++ [y]) h5))
 (done: ∀ys h',W n ys h' → ∀p,h' p=none→Q (.lst p) (jb2 h' p ys)):jda (bN i) js (iR1 ta) je3 te σ h Q:=by
 refine ht _ ⟨(n:Int),rfl,by omega,by omega,n,fun k ys h' =>k≤n∧W k ys h',⟨G1c _,w0⟩,?_⟩
 rintro k ys h' ⟨hk,w⟩
 refine⟨by rw [wl k ys h' w];exact G1j (jaK (by omega)),_,rfl,by simp,fun hl p hp=> ?_,fun d hd=>⟨_,rfl,?_⟩⟩
 ·have:k=n:=by simp at hl;omega
  subst this;exact done ys h' w p hp
 ·obtain⟨hi',e⟩:=jgS hd
  subst e
  unfold je3
  dsimp only
  rw [if_pos rfl]
  exact turn k ys h' (by omega) w
end L2
namespace L2
open PySem PySem.Spec PyProof.Rows PySem.SeqAt
mutual
def ToP (h:HD):D→PyData→Prop
 |d,.none=>d= .non
 |d,.bool b=>d= .bl b
 |d,.int i=>d= .int i
 |d,.str x=>d= .str x
 |d,.tuple ps=> ∃ds,d= .tup ds∧ToPs h ds ps
 |d,.list ps=> ∃a ds,d= .lst a∧h a=some ds∧ToPs h ds ps
 |_,.dict _=>False
def ToPs (h:HD):List D→List PyData→Prop
 |ds,[]=>ds= []
 |ds,p::ps=> ∃d r,ds=d::r∧ToP h d p∧ToPs h r ps
end
section
variable {X:Cx} {pins:List (Addr×Obj)} {σ:St} {H:Hp} {s:Shared} {h:HD}
mutual
theorem jce (I:Inv X pins σ H s) (rh:RelH X.K h H): ∀ {p:PyData} {d:D} {v:V} {u:Value},ToP h d p→RelD X.K H d v→RelV v u→ ∃as,Reads s.heap u p as
 | .none,d,v,u,t,r,ru=>by cases (show d= .non from t);cases (show v= .non from r);cases (show u= .none from ru);exact⟨[],.none⟩
 | .bool b,d,v,u,t,r,ru=>by cases (show d= .bl b from t);cases (show v= .bl b from r);cases (show u= .bool b from ru);exact⟨[],.bool b⟩
 | .int i,d,v,u,t,r,ru=>by cases (show d= .int i from t);cases (show v= .int i from r);obtain⟨k,rfl⟩:=(show ∃t,u=Value.int i t from ru);exact⟨[],.int i k⟩
 | .str x,d,v,u,t,r,ru=>by cases (show d= .str x from t);cases (show v= .str x from r);obtain⟨k,rfl⟩:=(show ∃t,u=Value.str x t from ru);exact⟨[],.str x k⟩
 | .tuple ps,d,v,u,t,r,ru=>by
  obtain⟨ds,e,ts⟩:=(show ∃ds,d= .tup ds∧ToPs h ds ps from t)
  subst e
  obtain⟨a,vs,e,hH,rs⟩:=(show ∃a vs,v= .ref a∧H a=some (.tup vs)∧RelDs X.K H ds vs from r)
  subst e
  cases (show u= .ref a from ru)
  obtain⟨its,rv,ht,_⟩:=I.tuple (SqT.of hH)
  obtain⟨o,ho,hc,n,hd⟩:=ht
  obtain⟨as,q⟩:=reads_Ds I rh ts rs rv
  exact⟨as,.tuple ho hc hd q⟩
 | .list ps,d,v,u,t,r,ru=>by
  obtain⟨a,ds,e,ha,ts⟩:=(show ∃a ds,d= .lst a∧h a=some ds∧ToPs h ds ps from t)
  subst e
  obtain⟨vs,hH,rs⟩:=rh a ds ha
  have e:v= .ref a:=r.1
  subst e
  cases (show u= .ref a from ru)
  obtain⟨its,rv,pl,_⟩:=I.list (SqL.of hH)
  obtain⟨o,ho,hc,n,hd⟩:=pl.isList
  obtain⟨as,q⟩:=reads_Ds I rh ts rs rv
  exact⟨a::as,.list ho hc hd q⟩
 | .dict _,_,_,_,t,_,_=>(show False from t).elim
theorem reads_Ds (I:Inv X pins σ H s) (rh:RelH X.K h H): ∀ {ps:List PyData} {ds:List D} {vs:List V} {us:List Value},ToPs h ds ps→RelDs X.K H ds vs→Vals vs us→ ∃as,ReadsAll s.heap us ps as
 | [],ds,vs,us,t,r,rv=>by
  cases (show ds= [] from t);cases (show vs= [] from r);cases rv;exact⟨[],.nil⟩
 |p::ps,ds,vs,us,t,r,rv=>by
  obtain⟨d,dr,e,t1,t2⟩:=(show ∃d r,ds=d::r∧ToP h d p∧ToPs h r ps from t)
  subst e
  obtain⟨v,vr,e,r1,r2⟩:=(show ∃v r,vs=v::r∧RelD X.K H d v∧RelDs X.K H dr r from r)
  subst e
  cases rv with
  |cons ru rt=>
   obtain⟨as,q1⟩:=jce I rh t1 r1 ru
   obtain⟨bs,q2⟩:=reads_Ds I rh t2 r2 rt
   exact⟨as++bs,.cons q1 q2⟩
end
end
def eqE:RD2:=fun x y h Q=>match x,y with
 | .int i,.int j=>Q (.bl (decide (i=j))) h
 | .bl i,.bl j=>Q (.bl (decide (i=j))) h
 | .str i,.str j=>Q (.bl (decide (i=j))) h
 |x,y=> ∃p q,ToP h x p∧ToP h y q∧shaped p=true∧shaped q=true∧Q (.bl (PyData.eqv p q)) h
def neE:RD2:=fun x y h Q=>match x,y with
 | .int i,.int j=>Q (.bl (!decide (i=j))) h
 | .bl i,.bl j=>Q (.bl (!decide (i=j))) h
 | .str i,.str j=>Q (.bl (!decide (i=j))) h
 |x,y=> ∃p q,ToP h x p∧ToP h y q∧shaped p=true∧shaped q=true∧Q (.bl (!PyData.eqv p q)) h
section
variable {X:Cx}
def eqG:RD2:=fun x y h Q=> ∃p q,ToP h x p∧ToP h y q∧shaped p=true∧shaped q=true∧Q (.bl (PyData.eqv p q)) h
def neG:RD2:=fun x y h Q=> ∃p q,ToP h x p∧ToP h y q∧shaped p=true∧shaped q=true∧Q (.bl (!PyData.eqv p q)) h
theorem jpw (hu:X.A.units+64<cLine):OpQ X (compareOp .Eq) eqG:=by
 intro pins s σ H x y v u Q I rx ry h
 obtain⟨dx,dy,h,Qd,r1,r2,rh,⟨p,q,t1,t2,s1,s2,qq⟩,post⟩:=h
 obtain⟨as,a1⟩:=jce I rh t1 r1 rx
 obtain⟨bs,b1⟩:=jce I rh t2 r2 ry
 exact compareEq_shaped a1 b1 s1 s2 hu ⟨.bl _,H,I,rfl,post (.bl _) _ _ _ (.refl H) rh rfl qq⟩
theorem jpx (hu:X.A.units+64<cLine):OpQ X (compareOp .NotEq) neG:=by
 intro pins s σ H x y v u Q I rx ry h
 obtain⟨dx,dy,h,Qd,r1,r2,rh,⟨p,q,t1,t2,s1,s2,qq⟩,post⟩:=h
 obtain⟨as,a1⟩:=jce I rh t1 r1 rx
 obtain⟨bs,b1⟩:=jce I rh t2 r2 ry
 exact compareNe_shaped a1 b1 s1 s2 hu ⟨.bl _,H,I,rfl,post (.bl _) _ _ _ (.refl H) rh rfl qq⟩
theorem OpQ.or' {f:Value→Value→Sem Value} {r r' r2:RD2} (h:OpQ X f r) (h' :OpQ X f r') (i: ∀x y hh Q,r2 x y hh Q→r x y hh Q∨r' x y hh Q):OpQ X f r2:=fun pins s σ H x y v u Q I rx ry ⟨dx,dy,hd,Qd,r1,r2',rh,q,p⟩=>
 (i dx dy hd Qd q).elim (fun z=>h pins s σ H x y v u Q I rx ry ⟨dx,dy,hd,Qd,r1,r2',rh,z,p⟩) fun z=>h' pins s σ H x y v u Q I rx ry ⟨dx,dy,hd,Qd,r1,r2',rh,z,p⟩
theorem jgU (hu:X.A.units+64<cLine):OpQ X (compareOp .Eq) eqE:=oq_eq.or' (jpw hu) fun x y h Q q=>by
 unfold eqE at q
 split at q
 ·exact .inl q
 ·exact .inl q
 ·exact .inl q
 ·exact .inr q
theorem jgV (hu:X.A.units+64<cLine):OpQ X (compareOp .NotEq) neE:=oq_ne.or' (jpx hu) fun x y h Q q=>by
 unfold neE at q
 split at q
 ·exact .inl q
 ·exact .inl q
 ·exact .inl q
 ·exact .inr q
def isN:D→Bool
 | .non=>true
 |_=>false
def isV (neg:Bool):RD2:=fun x y h Q=>match y with
 | .non=>Q (.bl (neg !=isN x)) h
 | .bl c=>match x with
  | .bl b=>Q (.bl (neg !=(b==c))) h
  | .non=>Q (.bl neg) h
  |_=>False
 |_=>False
end
end L2
namespace HT
open PySem PySem.Spec PyProof.Rows
section
variable {prog:Program} {w:World} {A:Around} {E:Value→Shared→Prop} {s:Shared}
theorem jjR (k:Int) {vs:List Value} {ns:List Int} (hi:IntsAre vs ns) (j:Nat) (h:j<ns.length): ∃t,vs[j]? =some (.int ns[j] t):=by
 induction hi generalizing j with
 |nil=>simp at h
 |cons n t r ih=>
  cases j with
  |zero=>exact⟨t,rfl⟩
  |succ j=>obtain⟨u,e⟩:=ih j (by simpa using h);exact⟨u,by simpa using e⟩
end
end HT
namespace L2
open PySem PySem.Spec PyProof.Rows
theorem jid: ∀ {ns:List Int} {us:List Value},Vals (ns.map V.int) us→IntsAre us ns
 | [],_,r=>by cases r;exact .nil
 |n::ns,_,r=>by
  cases r with
  |cons r t=>obtain⟨k,rfl⟩:=r;exact .cons n k (jid t)
theorem jct {K:PySem.W.Frag} {H:Hp}: ∀ {ns:List Int} {vs:List V},RelDs K H (ns.map D.int) vs→vs=ns.map V.int
 | [],_,h=>h
 |n::ns,vs,h=>by
  obtain⟨v,r,e,h1,h2⟩:=(show ∃v r,vs=v::r∧RelD K H (.int n) v∧RelDs K H (ns.map D.int) r from h)
  rw [e,jct h2,(show v= .int n from h1)];rfl
theorem jeB: ∀ {xs:List V} {us:List Value},xs.length=us.length→(∀ (i:Nat) (x:V) (u:Value),xs[i]? =some x→us[i]? =some u→RelV x u)→Vals xs us
 | [],[],_,_=> .nil
 |x::xs,u::us,hl,h=> .cons (h 0 x u rfl rfl) (jeB (by simpa using hl) fun i y w e1 e2=>h (i+1) y w (by simpa using e1) (by simpa using e2))
 | [],_::_,hl,_=>by simp at hl
 |_::_,[],hl,_=>by simp at hl
theorem jfm (ns:List Int): ∀k,k≤ns.length→preSum (fun i=>ns.getD i 0) k=(ns.take k).sum
 |0,_=>by simp [preSum]
 |k+1,h=>by
  have hk:k<ns.length:=by omega
  rw [preSum,jfm ns k (by omega),G1u,G0b hk,List.sum_append,G0B,G0b hk]
  simp
theorem jfW {X:Cx} (hc:X.calm=true):CallR X (.builtin "sum") (fun xs H Q=> ∃ (a:Addr) (ns:List Int),xs= [.ref a]∧SqL X.K H a (ns.map V.int)∧Q (.int ns.sum) H):=by
 intro pins s σ H xs us Q I r h
 obtain⟨a,ns,rfl,hS,q⟩:=h
 obtain⟨u,rfl,ru⟩:=jeb r
 cases ru
 obtain⟨its,rv,pl,hz⟩:=I.list hS
 have hl:=pl.isList
 have hlt:a<s.heap.objs.size:=by obtain⟨_,e,_⟩:=hl;exact G0n e
 have hi:=jid rv
 have hn:its.length=ns.length:=hi.length
 refine call_sum_walkAnyS (G2j hl ?_)
 refine⟨s.heap.objs.size,_,_,_,_,_,_,fun i=>ns.getD i 0,rfl,(Walks.list (A:=X.A.in1) (show X.A.in1.handled=none from I.ok.hd hc) s.heap.objs.size a (G0R hlt) its.toArray).toS,⟨⟨_,G0q _ rfl,rfl,rfl⟩,hl.push _⟩,?_,?_,fun s' t' hm=> ?_⟩
 ·intro b hb
  simp only [G0C,G1i,G3R] at hb
  show b<(s.heap.push _).objs.size
  rw [G2L]
  rcases hb with e|e
  ·rw [e];exact G14 _
  ·rw [e];exact G3I hlt
 ·intro i v hP
  have e:its[i]? =some v:=by simpa using hP
  have hil:i<ns.length:=by rw [←hn];exact(G0m.mp e).1
  obtain⟨t,e2⟩:=HT.jjR 0 hi i hil
  rw [e] at e2;cases e2
  refine⟨t,?_⟩
  show Value.int ns[i] t=Value.int (ns.getD i 0) t
  rw [G0B,G0b hil];rfl
 ·have e:preSum (fun i=>ns.getD i 0) its.toArray.size=ns.sum:=by
   rw [G0u,hn,jfm ns _ (G0f _),G3g]
  rw [e]
  obtain⟨h',g',d',tk',o'⟩:=s'
  obtain⟨m1,m2,m3,m4,_⟩:=hm
  simp only at m1 m2 m3 m4
  subst m2 m3 m4
  refine⟨.int ns.sum,H,I.kept (t' :=tk') (fun b o e=>m1 b o (fun z=> ?_) (G0a _ e)),⟨_,rfl⟩,q⟩
  rw [G0g.mp z] at e;exact absurd (G0n e) (G02 _)
def jd8:RDn:=fun ds h Q=> ∃ (a:Addr) (ns:List Int),ds= [.lst a]∧h a=some (ns.map D.int)∧Q (.int ns.sum) (jew h a)
theorem jfX {X:Cx} (hc:X.calm=true):jdQ X (.builtin "sum") jd8:=(jfW hc).imp fun xs H Q ⟨ds,h,Qd,r,rh,⟨a,ns,e,hd,q⟩,p⟩=>by
 subst e
 obtain⟨v,e,r1⟩:=jaC r
 obtain⟨vs,hH,r2⟩:=rh a _ hd
 have e1:v= .ref a:=r1.1
 rw [jct r2] at hH
 subst e e1
 exact⟨a,ns,rfl,SqL.of hH,p (.int _) _ _ _ (.refl H) (rh.sub (Sub.drop h a)) rfl q⟩
def ja5:RDn:=fun ds h Q=> ∃ns:List Int,(ds= [.tup (ns.map D.int)]∨ ∃a,ds= [.lst a]∧h a=some (ns.map D.int))∧ns.length<64∧ ∀ (p:Addr) (ns' :List Int),h p=none→ns'.Perm ns→ns'.Pairwise (· ≤ ·)→Q (.lst p) (jb2 h p (ns'.map D.int))
def jgW (to te:TED):TED:=fun σ h Q=>to σ h fun x h1=> ∃ns:List Int,x= .tup (ns.map D.int)∧te σ h1 fun y h2=> ∃k:Int,y= .int k∧k∈ns∧Q (.int (ns.idxOf k:Nat)) h2
def jgX (to ti te:TED):TED:=fun σ h Q=>to σ h fun x h1=> ∃a,x= .lst a∧ti σ h1 fun i h2=>te σ h2 fun y h3=> ∃ (k:Nat) (xs:List D),i= .int (k:Int)∧k≤1000∧h3 a=some xs∧xs.length<sizeLine∧Q .non (jb2 h3 a (xs.take k++y::xs.drop k))
def jpy (ta:TA):TE:=fun σ H Q=>ta σ H fun vs H1=> ∃j:Int,vs= [.int j]∧ ∀p,H1 p=none→Q (.ref p) (upd H1 p (.rng 0 j))
theorem jli {X:Cx} {a:Expr} {ta:TA} {p pos:Pos} (hg:Gl X "range") (hm:X.mg "range" =none) (ha:PA X [a] ta) (hs:starEach [a] X.env= [(false,eval a X.env)]:=by rfl):PE X (.Call (.Name "range" p) [a] [] pos) (jpy ta):=by
 intro pins s σ H Q I h
 refine Call_ (jd4 I hg hm boot_range (G1z (thn (ha pos pins s σ H _ I h) fun us s1 ⟨vs,H1,I1,r1,q1⟩=> ?_) hs rfl))
 obtain⟨j,e,q⟩:=q1
 subst e
 obtain⟨u,rfl,ru⟩:=jeb r1
 obtain⟨t,rfl⟩:=ru
 refine call_range_1 ⟨.ref s1.heap.objs.size,_,I1.laid (o:= .rng 0 j) (fun b ob q=>G0a _ q) (G0f _) ?_,rfl,q _ (I1.hok.fresh (G0f _))⟩
 exact⟨_,_,_,G0q _ rfl⟩
theorem jfY {X:Cx} (hc:X.calm=true):CallR X (.type "list") (fun xs H Q=> ∃ (p:Addr) (n:Nat),xs= [.ref p]∧H p=some (.rng 0 (n:Int))∧n≤1000∧ ∀l,H l=none→Q (.ref l) (upd H l (.lst ((List.range n).map fun (k:Nat)=>V.int (k:Int))))):=by
 intro pins s σ H xs us Q I r h
 obtain⟨p,n,rfl,hH,hn,q⟩:=h
 obtain⟨u,rfl,ru⟩:=jeb r
 cases ru
 obtain⟨t,u,v,e⟩:=(show ObjOk X.prog X.w H s.heap p (.rng 0 (n:Int)) from I.hok p _ hH)
 refine call_list_range (n:=n) (I.ok.hd hc) e (small_one (by decide) (by decide) (by omega) (by omega)) ?_ (G01 hn (by decide)) fun h' tk acc c' kp e' hacc=> ?_
 ·rw [rangeSize_one];try (split<;>omega)
 ·refine⟨.ref s.heap.objs.size,_,I.laid (t' :=tk) (o:= .lst ((List.range n).map fun (k:Nat)=>V.int (k:Int))) (fun b ob q=>kp b ob q) (G0f _) ?_,rfl,q _ (I.hok.fresh (G0f _))⟩
  obtain⟨hs,hit⟩:=hacc
  refine⟨by rw [G0c,G0A];exact G1j (jaK hn),acc.toList,c',?_,by simpa using e'⟩
  refine jeB (by simp [hs]) fun i x u hx hu=> ?_
  rw [G0i] at hx
  have hi:i<n:=by
   by_cases z:i<n
   ·exact z
   ·rw [G1k (by simpa using z)] at hx;cases hx
  rw [G1F hi] at hx
  cases hx
  obtain⟨t,e⟩:=hit i u (by simpa using hu)
  exact⟨t,by rw [e];simp⟩
def jcu (ta:TAD):TED:=fun σ h Q=>ta σ h fun ds h1=> ∃n:Nat,ds= [.int (n:Int)]∧n≤1000∧ ∀p,h1 p=none→Q (.lst p) (jb2 h1 p ((List.range n).map fun (k:Nat)=>D.int (k:Int)))
theorem jgY {K:PySem.W.Frag} {H:Hp} (f:Nat→Int): ∀l:List Nat,RelDs K H (l.map fun k=>D.int (f k)) (l.map fun k=>V.int (f k))
 | []=> .nil
 |k::l=> .cons rfl (jgY f l)
theorem Kept.drop2 {H:Hp} {p q:Addr} {o o' :HO} (hp:H p=none) (hq:upd H p o q=none):Kept H (upd (upd H p o) q o'):=(Kept.new hp).trans (.new hq)
theorem jq3 {X:Cx} {a:Expr} {ta:TAD} {p p2 pos pos2:Pos} (hc:X.calm=true) (hg:Gl X "list") (hm:X.mg "list" =none) (hg2:Gl X "range") (hm2:X.mg "range" =none) (ha:QA X [a] ta) (hs:starEach [a] X.env= [(false,eval a X.env)]:=by rfl)
 (h1:starEach [.Call (.Name "range" p2) [a] [] pos2] X.env=(false,eval (.Call (.Name "range" p2) [a] [] pos2) X.env)::starEach [] X.env:=by rfl) (h2:(backTo pos (starEach [] X.env)).any (·.1)=false:=by rfl):
 QE X (.Call (.Name "list" p) [.Call (.Name "range" p2) [a] [] pos2] [] pos) (jcu ta):=
 (jen (jfY hc) hg hm (by decide +kernel) (jc8 (jli hg2 hm2 ha hs) pa_nil h1) (by decide) (by decide) h1 h2).imp
  fun σ H Q ⟨σd,h,Qd,rs,rh,t,post⟩=>LA.bind rs rh t fun ds vs h1 H1 k1 rs1 rh1 r1 ⟨n,e,hn,q⟩=>by
   subst e
   obtain⟨v,e,r2⟩:=jaC r1
   cases (show v= .int (n:Int) from r2)
   refine⟨n,e,fun c hcn=>⟨c,n,rfl,jap,hn,fun l hl=> ?_⟩⟩
   have rh2:=(rh1.new (o:= .rng 0 (n:Int)) hcn)
   exact post (.lst l) (.ref l) _ _ (k1.trans (.drop2 hcn hl)) (rh2.newL hl (jgY (fun k=>(k:Int)) (List.range n))) ⟨rfl,_,jap⟩ (q l (rh2.free hl))
structure JE (X:Cx) (e:Expr) (t:TED):Prop where
 to:QE X e t
structure JT (X:Cx) (e:Expr) (t:TTD):Prop where
 to:QT X e t
structure JW (X:Cx) (e:Expr) (t:TTD):Prop where
 to:QW X e t
structure JA (X:Cx) (e:List Expr) (t:TAD):Prop where
 to:QA X e t
structure JS (X:Cx) (e:Stmt) (t:TSD):Prop where
 to:QS X e t
structure JSs (X:Cx) (e:List Stmt) (t:TSD):Prop where
 to:QSs X e t
structure JG (X:Cx) (e:Expr) (t:TGD):Prop where
 to:QG X e t
structure JI (X:Cx) (tg e:Expr) (t:TID):Prop where
 to:QI X tg e t
structure JO (X:Cx) (e:Option Expr) (t:TOD):Prop where
 to:QO X e t
section
variable {X:Cx} {a b c e:Expr} {es rest:List Expr} {ta tb tc te:TED} {t u:TAD} {tt tu:TTD} {pos:Pos} {f r r' :RD2}
theorem jv (i:Nat) {x:Str} (hN:X.N[i]? =some x:=by rfl) (hv:Vis X.env.scope x:=by first|exact Or.inl rfl|exact Or.inr (Or.inl rfl)|exact Or.inr (Or.inr rfl)) (hd:(x==("__debug__" :Str))=false:=by decide) (hcd:(x==("__classdict__" :Str))=false:=by decide):JE X (.Name x pos) (jfd i):=⟨qv (i:=i) (hN:=hN) (hv:=hv) (hd:=hd) (hcd:=hcd)⟩
theorem jaF {i:Int} {j:Nat}:JE X (.Constant (.int i) j pos) (dC (.int i)):=⟨jrS⟩
theorem jbl {i:Bool} {j:Nat}:JE X (.Constant (.bool i) j pos) (dC (.bl i)):=⟨qbl⟩
theorem jry {j:Nat}:JE X (.Constant .none j pos) (dC .non):=⟨jrT⟩
theorem jjS {x:Str} {i:Int} {tk:Tok} (hg:Gl X x) (hm:X.mg x=some (.int i tk)) (hd:(x==("__debug__" :Str))=false:=by decide):JE X (.Name x pos) (dC (.int i)):=⟨jqN (hg:=hg) (hm:=hm) (hd:=hd)⟩
theorem jop {op:Operator} (ho:OpQ X (binaryOp op) f) (ha:JE X a ta) (hb:JE X b tb):JE X (.BinOp a op b pos) (dOp f ta tb):=⟨qop (ho:=ho) (ha:=ha.to) (hb:=hb.to)⟩
theorem jie {op:CmpOp} (ho:OpQ X (compareOp op) f) (ha:JE X a ta) (hb:JE X b tb) (hm:behindInMarks op b=false):JE X (.Compare a [op] [b] pos) (dOp f ta tb):=⟨jrU (ho:=ho) (ha:=ha.to) (hb:=hb.to) (hm:=hm)⟩
theorem jb6 {op:CmpOp} (ho:OpQ X (compareOp op) f) (ha:JE X a ta) (hb:JE X b tb) (hm:behindInMarks op b=false):JT X (.Compare a [op] [b] pos) (jbH (dOp f ta tb)):=⟨jqO (ho:=ho) (ha:=ha.to) (hb:=hb.to) (hm:=hm)⟩
theorem jpz {op op' :CmpOp} (ho:OpQ X (compareOp op) r) (ho' :OpQ X (compareOp op') r') (ha:JE X a ta) (hb:JE X b tb) (hc:JE X c tc) (hm:lastMarks [op,op'] [b,c]=false:=by with_unfolding_all rfl):JE X (.Compare a [op,op'] [b,c] pos) (ja1 r r' ta tb tc):=⟨jo3 (ho:=ho) (ho' :=ho') (ha:=ha.to) (hb:=hb.to) (hc:=hc.to) (hm:=hm)⟩
theorem jns {op op' :CmpOp} (ho:OpQ X (compareOp op) r) (ho' :OpQ X (compareOp op') r') (ha:JE X a ta) (hb:JE X b tb) (hc:JE X c tc) (hm:lastMarks [op,op'] [b,c]=false:=by with_unfolding_all rfl):JT X (.Compare a [op,op'] [b,c] pos) (jbH (ja1 r r' ta tb tc)):=⟨jm5 (ho:=ho) (ho' :=ho') (ha:=ha.to) (hb:=hb.to) (hc:=hc.to) (hm:=hm)⟩
theorem jeC (ha:JE X a ta) (he: ∀whole,isTrue a X.env whole=(do let v ←whole;standAt a.pos;holding [v] (truthy v)):=by intro _;rfl):JT X a (jbH ta):=⟨jqP (ha:=ha.to) (he:=he)⟩
theorem jpA (ha:JT X a tt):JW X (.BoolOp .Or [a] pos) tt:=⟨jrV (ha:=ha.to)⟩
theorem jpB (ha:JT X a tt) (hb:JW X (.BoolOp .Or (b::rest) pos) tu):JW X (.BoolOp .Or (a::b::rest) pos) (jff tt tu):=⟨jrW (ha:=ha.to) (hb:=hb.to)⟩
theorem jeD (ha:JT X a tt):JT X (.UnaryOp .Not a pos) (jci tt):=⟨jqQ (ha:=ha.to)⟩
theorem jkU {op:BoolOp} (ha:JE X a ta):JE X (.BoolOp op [a] pos) ta:=⟨jrX (ha:=ha.to)⟩
theorem jmm (ha:JE X a ta) (hb:JE X (.BoolOp .And (b::rest) pos) tb):JE X (.BoolOp .And (a::b::rest) pos) (jcj ta tb):=⟨jrY (ha:=ha.to) (hb:=hb.to)⟩
theorem jor (ha:JE X a ta) (hb:JE X (.BoolOp .Or (b::rest) pos) tb):JE X (.BoolOp .Or (a::b::rest) pos) (jfg ta tb):=⟨qor (ha:=ha.to) (hb:=hb.to)⟩
theorem jsc (ha:JE X a ta):JE X (.UnaryOp .Not a pos) (jck ta):=⟨jrZ (ha:=ha.to)⟩
theorem jif {c:Expr} (hc:JT X c tt) (ha:JE X a ta) (hb:JE X b tb):JE X (.IfExp c a b pos) (dIf tt ta tb):=⟨qif (hc:=hc.to) (ha:=ha.to) (hb:=hb.to)⟩
theorem jab:JA X [] jc6:=⟨jo4⟩
theorem jq4 {k:Nat} (h:JA X es t):JE X (.Tuple es k pos) (jfe t):=⟨jr0 (h:=h.to)⟩
theorem jjT (h:JA X es t):JE X (.List es pos) (je1 t):=⟨jr1 (h:=h.to)⟩
end
section
variable {X:Cx} {st:Stmt} {sts:List Stmt} {t u:TSD} {e:Expr} {te:TED} {pos:Pos}
theorem jbf:JSs X [] jcl:=⟨jpa⟩
theorem jae (h1:JS X st t) (h2:JSs X sts u):JSs X (st::sts) (jec t u):=⟨jna (h1:=h1.to) (h2:=h2.to)⟩
theorem jah (h1:JS X st t):JSs X [st] t:=⟨jpb (h1:=h1.to)⟩
theorem jbP (he:JE X e te) (hs:swapsWith e none pos.line X.env=pure false:=by rfl):JS X (.Expr e pos) (jcm te):=⟨jqS (he:=he.to) (hs:=hs)⟩
theorem jcf (he:JE X e te):JS X (.Return (some e) pos) (jfh te):=⟨jr2 (he:=he.to)⟩
theorem jfn {c:Expr} {a b:List Stmt} {tc:TTD} (hc:JT X c tc) (ha:JSs X a t) (hb:JSs X b u):JS X (.If c a b pos) (je2 tc t u):=⟨jr3 (hc:=hc.to) (ha:=ha.to) (hb:=hb.to)⟩
theorem jdd {i:Nat} {x:Str} {pos' :Pos} (hN:X.N.Nodup) (hi:X.N[i]? =some x) (hx:Loc X.env.scope x) (he:JE X e te) (hs:swapsWith e (some (.Name x pos')) pos.line X.env=pure false:=by rfl) (hf:X.fn x=true∨X.env.scope.names.lookup x=some .local:=by first|exact .inl rfl|exact .inr rfl|assumption):JS X (.Assign [.Name x pos'] e pos) (jex i te):=⟨jr4 (hN:=hN) (hi:=hi) (hx:=hx) (he:=he.to) (hs:=hs) (hf:=hf)⟩
theorem jde {i:Nat} {x:Str} (hN:X.N.Nodup) (hi:X.N[i]? =some x) (hx:Loc X.env.scope x) (hf:X.fn x=true∨X.env.scope.names.lookup x=some .local:=by first|exact .inl rfl|exact .inr rfl|assumption):JG X (.Name x pos) (gN i):=⟨jnb (hN:=hN) (hi:=hi) (hx:=hx) (hf:=hf)⟩
theorem jig {i j:Nat} {x y:Str} {p1 p2:Pos} {k:Nat} (hc:X.calm=true) (hN:X.N.Nodup) (hi:X.N[i]? =some x) (hj:X.N[j]? =some y) (hx:Loc X.env.scope x) (hy:Loc X.env.scope y) (hf:X.fn x=true∨X.env.scope.names.lookup x=some .local:=by first|exact .inl rfl|exact .inr rfl|assumption) (hf2:X.fn y=true∨X.env.scope.names.lookup y=some .local:=by first|exact .inl rfl|exact .inr rfl|assumption):JG X (.Tuple [.Name x p1,.Name y p2] k pos) (gT2 i j):=⟨jpc (hc:=hc) (hN:=hN) (hi:=hi) (hj:=hj) (hx:=hx) (hy:=hy) (hf:=hf) (hf2:=hf2)⟩
theorem jqh {tg:Expr} {g:TGD} (he:JE X e te) (hg:JG X tg g) (hs:swapsWithSole [tg] e pos.line X.env=pure false:=by rfl) (hsw:swappedStores [tg] e X.env=pure none:=by rfl) (h1:(assignEach [tg] X.env).map (·.2)= [assign tg X.env]:=by rfl):JS X (.Assign [tg] e pos) (jfi te g):=⟨jr5 (he:=he.to) (hg:=hg.to) (hs:=hs) (hsw:=hsw) (h1:=h1)⟩
theorem jrz {i j:Nat} {x y:Str} {a b:Expr} {ta:TAD} {px py pt:Pos} {kt k2 pt2} (hc:X.calm=true) (hN:X.N.Nodup) (hi:X.N[i]? =some x) (hj:X.N[j]? =some y) (hij:i≠j) (hx:X.env.scope.names.lookup x=some .local) (hy:X.env.scope.names.lookup y=some .local) (ha:JA X [a,b] ta) (hw:swappedStores [.Tuple [.Name x px,.Name y py] kt pt] (.Tuple [a,b] k2 pt2) X.env=pure (some [x,y])) (hs:swapsWithSole [.Tuple [.Name x px,.Name y py] kt pt] (.Tuple [a,b] k2 pt2) pos.line X.env=pure false:=by rfl):JS X (.Assign [.Tuple [.Name x px,.Name y py] kt pt] (.Tuple [a,b] k2 pt2) pos) (jfj i j ta):=⟨jr6 (hc:=hc) (hN:=hN) (hi:=hi) (hj:=hj) (hij:=hij) (hx:=hx) (hy:=hy) (ha:=ha.to) (hw:=hw) (hs:=hs)⟩
end
section
variable {X:Cx} {tg e iter elt:Expr} {te:TED} {ti:TID} {g:TGD} {tb:TSD} {tt:TTD} {pos:Pos} {ta:TAD} {scope:Scope} {js:List Nat} {ifs:List Expr}
theorem jnt (he:JE X e te):JI X tg e (iL te):=⟨jne (he:=he.to)⟩
theorem jdR {p:Pos} {a:Expr} (hg:Gl X "range") (hm:X.mg "range" =none) (ha:JA X [a] ta) (hs:starEach [a] X.env= [(false,eval a X.env)]:=by rfl):JI X tg (.Call (.Name "range" p) [a] [] pos) (iR1 ta):=⟨jqV (hg:=hg) (hm:=hm) (ha:=ha.to) (hs:=hs)⟩
theorem jlj {body:List Stmt} (hp:PassesOwn (model X.prog X.w) X.A X.env X.xe) (hc:X.calm=true) (hi:JI X tg iter ti) (hg:JG X tg g) (hb:JSs X body tb) (hs: ∀x,foldedSetIterable iter X.env x=pure x:=by intro _;rfl):JS X (.For tg iter body [] pos) (jpd ti g tb):=⟨jr7 (hp:=hp) (hc:=hc) (hi:=hi.to) (hg:=hg.to) (hb:=hb.to) (hs:=hs)⟩
theorem jaM:PTs X [] (LT X.K je3):=jnf
theorem jhE {c:Expr} (hc:JT X c tt):PTs X [c] (LT X.K tt):=jng (hc:=hc.to)
theorem jlc {i:Nat} {x:Str} {p:Pos} (hc:X.calm=true) (S:BlockOk X scope js) (hi:JI X (.Name x p) iter ti) (hj:i∈js) (hN:X.N.Nodup) (hx:X.N[i]? =some x) (hl:scope.names.lookup x=some .local∨scope.names.lookup x=some .cell) (ht: ∀X',jax X scope X' →PTs X' ifs (LT X'.K tt)) (he: ∀X',jax X scope X' →JE X' elt te) (hs: ∀x,foldedSetIterable iter X.env x=pure x:=by intro _;rfl):JE X (.ListComp elt [⟨.Name x p,iter,ifs,0⟩] scope pos) (jda (bN i) js ti tt te):=⟨qlc (hc:=hc) (S:=S) (hi:=hi.to) (hj:=hj) (hN:=hN) (hx:=hx) (hl:=hl) (ht:=ht) (he:=fun X' hX=>(he X' hX).to) (hs:=hs)⟩
theorem jq5 {i j:Nat} {x y:Str} {p1 p2 p3:Pos} {k:Nat} (hc:X.calm=true) (S:BlockOk X scope js) (hi:JI X (.Tuple [.Name x p1,.Name y p2] k p3) iter ti) (hj:i∈js) (hj2:j∈js) (hij:i≠j) (hN:X.N.Nodup) (hx:X.N[i]? =some x) (hy:X.N[j]? =some y) (hl:scope.names.lookup x=some .local∨scope.names.lookup x=some .cell) (hl2:scope.names.lookup y=some .local∨scope.names.lookup y=some .cell) (ht: ∀X',jax X scope X' →PTs X' ifs (LT X'.K tt)) (he: ∀X',jax X scope X' →JE X' elt te) (hs: ∀x,foldedSetIterable iter X.env x=pure x:=by intro _;rfl):JE X (.ListComp elt [⟨.Tuple [.Name x p1,.Name y p2] k p3,iter,ifs,0⟩] scope pos) (jda (b2 i j) js ti tt te):=⟨jr8 (hc:=hc) (S:=S) (hi:=hi.to) (hj:=hj) (hj2:=hj2) (hij:=hij) (hN:=hN) (hx:=hx) (hy:=hy) (hl:=hl) (hl2:=hl2) (ht:=ht) (he:=fun X' hX=>(he X' hX).to) (hs:=hs)⟩
end
section
variable {X:Cx} {k:Nat} {f:Addr} {fd:FuncData} {ps:List Str} {spd:RDn} {x:Str} {p pos:Pos} {e:Expr} {es:List Expr} {t:TAD}
theorem jao (F:FnOk X.prog X.w X.K X.mg X.base CX0 k f fd ps (LSp X.K spd)) (hr:Room k X.A) (hg:Gl X x) (hm:X.mg x=some (.ref f)) (hk:PySem.W.keepIn X.K (.ref f)=true) (hb:Binds X.K fd ps []) (ha:JA X (e::es) t) (hdb:(x==("__debug__" :Str))=false:=by decide) (he:starEach (e::es) X.env=(false,eval e X.env)::starEach es X.env:=by rfl) (hpl:(backTo pos (starEach es X.env)).any (·.1)=false:=by rfl):JE X (.Call (.Name x p) (e::es) [] pos) (dCB spd t):=⟨jqW (F:=F) (hr:=hr) (hg:=hg) (hm:=hm) (hk:=hk) (hb:=hb) (ha:=ha.to) (hdb:=hdb) (he:=he) (hpl:=hpl)⟩
theorem jaN {id:String} {r:RDn} (hc:jdQ X (.builtin id) r) (hg:Gl X x) (hm:X.mg x=none) (hv:bootBuiltins x=some (.builtin id)) (ha:JA X (e::es) t) (hn:x≠ "__name__" :=by decide) (hdb:(x==("__debug__" :Str))=false:=by decide) (he:starEach (e::es) X.env=(false,eval e X.env)::starEach es X.env:=by rfl) (hpl:(backTo pos (starEach es X.env)).any (·.1)=false:=by rfl):JE X (.Call (.Name x p) (e::es) [] pos) (dCB r t):=⟨jph (hc:=hc) (hg:=hg) (hm:=hm) (hv:=hv) (ha:=ha.to) (hn:=hn) (hdb:=hdb) (he:=he) (hpl:=hpl)⟩
theorem jbJ {T:String} {r:RDn} (hc:jdQ X (.type T) r) (hg:Gl X x) (hm:X.mg x=none) (hv:bootBuiltins x=some (.type T)) (ha:JA X (e::es) t) (hn:x≠ "__name__" :=by decide) (hdb:(x==("__debug__" :Str))=false:=by decide) (he:starEach (e::es) X.env=(false,eval e X.env)::starEach es X.env:=by rfl) (hpl:(backTo pos (starEach es X.env)).any (·.1)=false:=by rfl):JE X (.Call (.Name x p) (e::es) [] pos) (dCB r t):=⟨jni (hc:=hc) (hg:=hg) (hm:=hm) (hv:=hv) (ha:=ha.to) (hn:=hn) (hdb:=hdb) (he:=he) (hpl:=hpl)⟩
end
section
variable {X:Cx} {iter elt:Expr} {te:TED} {ti:TID} {tt:TTD} {pos spos:Pos} {scope:Scope} {js:List Nat} {ifs:List Expr}
theorem jpC {i k:Nat} {x y:Str} {p py:Pos} (hc:X.calm=true) (hN:X.N.Nodup) (hk:X.N[k]? =some y) (hy:Loc X.env.scope y) (S:BlockOk X scope js) (hi:JI X (.Name x p) iter ti) (hj:i∈js) (hx:X.N[i]? =some x) (hl:scope.names.lookup x=some .local∨scope.names.lookup x=some .cell) (ht: ∀X',jax X scope X' →PTs X' ifs (LT X'.K tt)) (he: ∀X',jax X scope X' →JE X' elt te) (hsw:swapsWith (.ListComp elt [⟨.Name x p,iter,ifs,0⟩] scope pos) (some (.Name y py)) spos.line X.env=pure true:=by rfl) (hf:X.fn y=true∨X.env.scope.names.lookup y=some .local:=by first|exact .inl rfl|exact .inr rfl|assumption) (hs: ∀x,foldedSetIterable iter X.env x=pure x:=by intro _;rfl):JS X (.Assign [.Name y py] (.ListComp elt [⟨.Name x p,iter,ifs,0⟩] scope pos) spos) (jex k (jda (bN i) js ti tt te)):=⟨jpi (hc:=hc) (hN:=hN) (hk:=hk) (hy:=hy) (S:=S) (hi:=hi.to) (hj:=hj) (hx:=hx) (hl:=hl) (ht:=ht) (he:=fun X' hX=>(he X' hX).to) (hsw:=hsw) (hf:=hf) (hs:=hs)⟩
end
section
variable {X:Cx} {a b e:Expr} {ta tb te:TED} {pos p2:Pos}
theorem jix (ha:JE X a ta) (hb:JE X b tb) (hs:jhy b):JE X (.Subscript a b pos) (dOp ixD ta tb):=⟨qix (ha:=ha.to) (hb:=hb.to) (hs:=hs)⟩
end
theorem jjU {X:Cx} {a:Expr} {ta:TED} {T:String} {t:Str} {p p2 pos:Pos} (hT:T∈ ["tuple","int","bool","list","str"]) (hg:Gl X "isinstance") (hm:X.mg "isinstance" =none) (hg2:Gl X t) (hm2:X.mg t=none) (hv:bootBuiltins t=some (.type T)) (ha:JE X a ta) (hn:t≠ "__name__" :=by decide) (hd:(t==("__debug__" :Str))=false:=by decide) (h1:starEach [a,.Name t p2] X.env=(false,eval a X.env)::starEach [.Name t p2] X.env:=by rfl) (h2:(backTo pos (starEach [.Name t p2] X.env)).any (·.1)=false:=by rfl):JE X (.Call (.Name "isinstance" p) [a,.Name t p2] [] pos) (dIs T ta):=⟨jqZ (hT:=hT) (hg:=hg) (hm:=hm) (hg2:=hg2) (hm2:=hm2) (hv:=hv) (ha:=ha.to) (hn:=hn) (hd:=hd) (h1:=h1) (h2:=h2)⟩
section
variable {X:Cx} {o e i:Expr} {to te ti:TED} {apos cpos pos:Pos}
theorem jpD (ho:JE X o to) (he:JE X e te) (hbase:attributeBase o "append" X.env (eval o X.env)=eval o X.env:=by rfl) (hfew:((backTo cpos (starEach [e] X.env)).all (fun x=> !x.1)&&(backToKw cpos (keywordEach [] X.env)).all (fun x=>x.1.isSome)&&decide ([e].length+([]:List Keyword).length+(if ([]:List Keyword).isEmpty then 0 else 1)<30))=true:=by rfl) (hline:(apos.endLine==cpos.line)=true:=by rfl) (hs:starEach [e] X.env=(false,eval e X.env)::starEach [] X.env:=by rfl) (hplain:(backTo cpos (starEach [] X.env)).any (·.1)=false:=by rfl):JE X (.Call (.Attribute o "append" apos) [e] [] cpos) (jfQ to te):=⟨jr9 (ho:=ho.to) (he:=he.to) (hbase:=hbase) (hfew:=hfew) (hline:=hline) (hs:=hs) (hplain:=hplain)⟩
theorem jmn (ho:JE X o to) (hi:JE X i ti) (ha: ∀v,assign (.Subscript o i pos) X.env v=(do
 let ov ←holding [v] (eval o X.env)
 let iv ←holding [v,ov] (eval i X.env)
 standAt pos
 holding [v,ov,iv] (setItem ov iv v)
 release [v,ov,iv] []):=by intro _;rfl):JG X (.Subscript o i pos) (jcr to ti):=⟨jpo (ho:=ho.to) (hi:=hi.to) (ha:=ha)⟩
end
theorem jpt {X:Cx} {e:Expr} {t:TTD} (h:JW X e t):JT X e t:=⟨qpt (h:=h.to)⟩
theorem jeE {X:Cx}:JO X none jaT:=⟨jno⟩
theorem jdf {X:Cx} {e:Expr} {te:TED} (he:JE X e te):JO X (some e) (jcs te):=⟨jnp (he:=he.to)⟩
theorem jfo {X:Cx} {e:Expr} {te:TED} {lo hi:Option Expr} {tl th:TOD} {pos p2:Pos} (he:JE X e te) (hl:JO X lo tl) (hu:JO X hi th):JE X (.Subscript e (.Slice lo hi none p2) pos) (dSl te tl th):=⟨jpp (he:=he.to) (hl:=hl.to) (hu:=hu.to)⟩
theorem jqi {X:Cx} {a:Expr} {ta:TED} {pos:Pos} (ha:JE X a ta):JE X (.UnaryOp .USub a pos) (dUn jfV ta):=⟨jsb (ha:=ha.to)⟩
theorem jcF {X:Cx} {tg e:Expr} {te:TED} (he:JE X e te):JI X tg e (iS te):=⟨jpu (he:=he.to)⟩
theorem jfp {X:Cx} {st:Stmt}:JS X st jbu:=⟨jpv⟩
theorem jac {X:Cx} {e:Expr} {es:List Expr} {te:TED} {t:TAD} (ha:JE X e te) (hr:JA X es t) (h:jhB e=true:=by rfl):JA X (e::es) (ja9 te t):=⟨qac (ha:=ha.to) (hr:=hr.to) (h:=h)⟩
theorem jq6 {X:Cx} {a:Expr} {ta:TAD} {p p2 pos pos2:Pos} (hc:X.calm=true) (hg:Gl X "list") (hm:X.mg "list" =none) (hg2:Gl X "range") (hm2:X.mg "range" =none) (ha:JA X [a] ta) (hs:starEach [a] X.env= [(false,eval a X.env)]:=by rfl) (h1:starEach [.Call (.Name "range" p2) [a] [] pos2] X.env=(false,eval (.Call (.Name "range" p2) [a] [] pos2) X.env)::starEach [] X.env:=by rfl) (h2:(backTo pos (starEach [] X.env)).any (·.1)=false:=by rfl):JE X (.Call (.Name "list" p) [.Call (.Name "range" p2) [a] [] pos2] [] pos) (jcu ta):=⟨jq3 (hc:=hc) (hg:=hg) (hm:=hm) (hg2:=hg2) (hm2:=hm2) (ha:=ha.to) (hs:=hs) (h1:=h1) (h2:=h2)⟩
section
variable {P:Program} {w:World} {K:PySem.W.Frag} {mg:Str→Option Value} {base:Heap}
theorem Fun.okJ {x qual:Str} {st:Stmt} {f:Addr} {fd:FuncData} {N ps:List Str} {k:Nat} {spd:RDn} (F:Fun K x qual st f fd) (S:FnScope N ps (jaa st)) (len: ∀ds h Q,spd ds h Q→ds.length=ps.length)
 (tb:TSD) (hbody: ∀ (cdv:Value) (A:Around) (outer:List Env) (s:Shared) (H:Hp) (E:XK),Room k (A.deeper (envOfC qual (jaa st) s.heap.objs.size f cdv))→JSs (jme CX0 P w K mg base N qual (jaa st) f cdv A outer s H E).nox (jai st) tb)
 (read: ∀ds h Q,spd ds h Q→tb (jfk Q) (ja2 N ds) h):FnOk P w K mg base CX0 (k+1) f fd ps (LSp K spd):=F.okD S len tb (fun cdv A outer s H E hr=>(hbody cdv A outer s H E hr).to) read
end
def jeY (r:List Int):D:= .tup (r.map D.int)
def jav (T:List (List Int)):D:= .tup (T.map jeY)
def jfZ (n:Nat) (r:List Int):Prop:=r.length=n∧ ∀x∈r,0≤x∧x≤1000000
def GoodTab (n:Nat) (T:List (List Int)):Prop:=T.length=n∧ ∀r∈T,jfZ n r
structure Sq (n e:Nat) (T:List (List Int)):Prop where
 len:T.length=n
 row: ∀r∈T,r.length=n
 nn: ∀r∈T,∀x∈r,0≤x
 bit: ∀r∈T,∀x∈r,x<2^e
theorem GoodTab.sq {n:Nat} {T:List (List Int)} (g:GoodTab n T):Sq n 20 T:=⟨g.1,fun r hr=>(g.2 r hr).1,fun r hr x hx=>((g.2 r hr).2 x hx).1,fun r hr x hx=>Int.lt_of_le_of_lt ((g.2 r hr).2 x hx).2 (by decide)⟩
theorem Sq.mono {n e f:Nat} {T:List (List Int)} (h:Sq n e T) (l:e≤f):Sq n f T:=⟨h.len,h.row,h.nn,fun r hr x hx=>Int.lt_of_lt_of_le (h.bit r hr x hx) (by
 have:(2:Nat)^e≤2^f:=G2H (by decide) l
 have h2:((2^e:Nat):Int)≤((2^f:Nat):Int):=by exact_mod_cast this
 simpa using h2)⟩
def ent (T:List (List Int)) (i j:Nat):Int:=(T.getD i []).getD j 0
def mkT (n:Nat) (f:Nat→Nat→Int):List (List Int):=(List.range n).map fun i=>(List.range n).map fun j=>f i j
theorem jd9 {n i j:Nat} {f:Nat→Nat→Int} (hi:i<n) (hj:j<n):ent (mkT n f) i j=f i j:=by
 unfold ent mkT
 simp [G0B,hi,hj]
theorem jbv {α:Type} (xs:List α) (d:α):xs=(List.range xs.length).map fun i=>xs.getD i d:=by
 apply List.ext_getElem (by simp)
 intro i h1 h2
 simp [G0B,h1]
theorem Sq.eq_mk {n e:Nat} {T:List (List Int)} (h:Sq n e T):T=mkT n (ent T):=by
 have h1:=jbv T []
 rw [h.len] at h1
 unfold mkT
 conv=>lhs;rw [h1]
 apply G0O
 intro i hi
 have hi' :i<T.length:=by rw [h.len];exact G0x.mp hi
 have hr:(T.getD i []).length=n:=by
  rw [G0B,G0b hi'];exact h.row _ (G06 hi')
 have h2:=jbv (T.getD i []) 0
 rw [hr] at h2
 exact h2
theorem jlk {n:Nat} {f g:Nat→Nat→Int} (h: ∀i j,i<n→j<n→f i j=g i j):mkT n f=mkT n g:=by
 unfold mkT
 apply G0O
 intro i hi
 apply G0O
 intro j hj
 exact h i j (G0x.mp hi) (G0x.mp hj)
theorem Sq.of_mk {n e:Nat} {f:Nat→Nat→Int} (h0: ∀i j,i<n→j<n→0≤f i j) (h1: ∀i j,i<n→j<n→f i j<2^e):Sq n e (mkT n f):=by
 have key: ∀r∈mkT n f,∃i,i<n∧r=(List.range n).map fun j=>f i j:=fun r hr=>by
  obtain⟨i,hi,e⟩:=G0D.mp hr;exact⟨i,G0x.mp hi,e.symm⟩
 refine⟨by simp [mkT],fun r hr=> ?_,fun r hr x hx=> ?_,fun r hr x hx=> ?_⟩
 ·obtain⟨i,_,e⟩:=key r hr;rw [e];simp
 ·obtain⟨i,hi,e⟩:=key r hr
  rw [e] at hx
  obtain⟨j,hj,e2⟩:=G0D.mp hx
  rw [←e2];exact h0 i j hi (G0x.mp hj)
 ·obtain⟨i,hi,e⟩:=key r hr
  rw [e] at hx
  obtain⟨j,hj,e2⟩:=G0D.mp hx
  rw [←e2];exact h1 i j hi (G0x.mp hj)
theorem Sq.ent_nn {n e:Nat} {T:List (List Int)} (h:Sq n e T) {i j:Nat} (hi:i<n) (hj:j<n):0≤ent T i j∧ent T i j<2^e:=by
 have hi' :i<T.length:=by rw [h.len];exact hi
 have hr:T.getD i []=T[i]:=by rw [G0B,G0b hi'];rfl
 have hm:T[i]∈T:=G06 hi'
 have hj' :j<T[i].length:=by rw [h.row _ hm];exact hj
 have he:ent T i j=T[i][j]:=by unfold ent;rw [hr,List.getD_eq_getElem?_getD,List.getElem?_eq_getElem hj'];rfl
 rw [he]
 exact⟨h.nn _ hm _ (G06 hj'),h.bit _ hm _ (G06 hj')⟩
theorem Sq.ext {n e f:Nat} {T U:List (List Int)} (h:Sq n e T) (g:Sq n f U) (k: ∀i j,i<n→j<n→ent T i j=ent U i j):T=U:=by
 rw [h.eq_mk,g.eq_mk];exact jlk k
def jaY (n:Nat) (f:Nat→Int):Int:=((List.range n).map f).sum
theorem jc1 (f:Nat→Int):jaY 0 f=0:=rfl
theorem jaO (n:Nat) (f:Nat→Int):jaY (n+1) f=jaY n f+f n:=by
 unfold jaY;rw [List.range_succ,List.map_append,List.sum_append];simp
theorem jbd {n:Nat} {f g:Nat→Int} (h: ∀k,k<n→f k=g k):jaY n f=jaY n g:=by
 unfold jaY;congr 1;apply List.map_congr_left;intro k hk;exact h k (List.mem_range.mp hk)
theorem jll {n:Nat} {f:Nat→Int} (h: ∀k,k<n→0≤f k):0≤jaY n f:=by
 induction n with
 |zero=>exact Int.le_refl _
 |succ n ih=>rw [jaO];have:=ih fun k hk=>h k (by omega);have:=h n (by omega);omega
theorem jlm {n:Nat} {f:Nat→Int} {b:Int} (h: ∀k,k<n→f k≤b):jaY n f≤n*b:=by
 induction n with
 |zero=>simp [jc1]
 |succ n ih=>
  rw [jaO];have h1:=ih fun k hk=>h k (by omega);have h2:=h n (by omega)
  have:((n+1:Nat):Int)*b=(n:Int)*b+b:=by rw [G3q,Int.add_mul];simp
  omega
theorem jjV (n:Nat) (f g:Nat→Int):jaY n (fun k=>f k+g k)=jaY n f+jaY n g:=by
 induction n with
 |zero=>rfl
 |succ n ih=>rw [jaO,jaO,jaO,ih];omega
theorem jeF (n:Nat) (c:Int) (f:Nat→Int):jaY n (fun k=>c*f k)=c*jaY n f:=by
 induction n with
 |zero=>simp [jc1]
 |succ n ih=>rw [jaO,jaO,ih,Int.mul_add]
theorem jiV (n:Nat) (c:Int) (f:Nat→Int):jaY n (fun k=>f k*c)=jaY n f*c:=by
 rw [G4v,←jeF];exact jbd fun k _=>G4v _ _
theorem jiW (m n:Nat) (f:Nat→Nat→Int):jaY m (fun i=>jaY n (f i))=jaY n (fun j=>jaY m fun i=>f i j):=by
 induction m with
 |zero=>
  rw [jc1]
  induction n with
  |zero=>rfl
  |succ n ih=>rw [jaO,←ih,jc1];rfl
 |succ m ih=>
  rw [jaO,ih,←jjV]
  exact jbd fun j _=>(jaO m fun i=>f i j).symm
theorem jgZ {n:Nat} {f:Nat→Int} {i:Nat} (hi:i<n) (h: ∀k,k<n→k≠i→f k=0):jaY n f=f i:=by
 induction n with
 |zero=>omega
 |succ n ih=>
  rw [jaO]
  by_cases e:i=n
  ·subst e
   have:jaY i f=0:=by
    have:jaY i f=jaY i (fun _=>0*1):=jbd fun k hk=>by rw [h k (by omega) (by omega)];rfl
    rw [this,jeF];simp
   omega
  ·rw [ih (by omega) fun k hk hne=>h k (by omega) hne,h n (by omega) (by omega)];omega
def jfq (n:Nat) (T U:List (List Int)):List (List Int):=mkT n fun i j=>jaY n fun k=>ent T i k*ent U k j
theorem Sq.mul {n e f:Nat} {T U:List (List Int)} (h:Sq n e T) (g:Sq n f U) (hn:n≤8):Sq n (e+f+3) (jfq n T U):=by
 have nn: ∀i j,i<n→j<n→ ∀k,k<n→0≤ent T i k*ent U k j:=fun i j hi hj k hk=>Int.mul_nonneg (h.ent_nn hi hk).1 (g.ent_nn hk hj).1
 refine Sq.of_mk (fun i j hi hj=>jll (nn i j hi hj)) fun i j hi hj=> ?_
 have hle: ∀k,k<n→ent T i k*ent U k j≤2^e*2^f-1:=fun k hk=>by
  have a:=h.ent_nn hi hk
  have b:=g.ent_nn hk hj
  have:ent T i k*ent U k j<2^e*2^f:=by
   have p:(0:Int)<2^f:=G4k (by decide)
   calc ent T i k*ent U k j≤ent T i k*2^f:=G3h (Int.le_of_lt b.2) a.1
    _<2^e*2^f:=Int.mul_lt_mul_of_pos_right a.2 p
  omega
 have s:=jlm hle
 have p:(0:Int)<2^e*2^f:=Int.mul_pos (G4k (by decide)) (G4k (by decide))
 have e1:(2:Int)^(e+f+3)=8*(2^e*2^f):=by rw [Int.pow_add,Int.pow_add];rw [G4v];rfl
 rw [e1]
 have hn' :(n:Int)≤8:=by omega
 have:(n:Int)*(2^e*2^f-1)≤8*(2^e*2^f-1):=Int.mul_le_mul_of_nonneg_right hn' (by omega)
 omega
theorem jcQ {n i j:Nat} {T U:List (List Int)} (hi:i<n) (hj:j<n):ent (jfq n T U) i j=jaY n fun k=>ent T i k*ent U k j:=jd9 hi hj
def jhF (n:Nat):List (List Int):=mkT n fun i j=>if i=j then 1 else 0
theorem Sq.one (n:Nat):Sq n 1 (jhF n):=Sq.of_mk (f:=fun i j=>if i=j then 1 else 0) (fun i j _ _=>by split<;>decide) fun i j _ _=>by split<;>decide
theorem mul_assoc {n e f g:Nat} {T U V:List (List Int)} (hT:Sq n e T) (hU:Sq n f U) (hV:Sq n g V) (hn:n≤8):jfq n (jfq n T U) V=jfq n T (jfq n U V):=by
 refine((hT.mul hU hn).mul hV hn).ext (hT.mul (hU.mul hV hn) hn) fun i j hi hj=> ?_
 rw [jcQ hi hj,jcQ hi hj]
 have e1:(jaY n fun k=>ent (jfq n T U) i k*ent V k j)=jaY n fun k=>jaY n fun l=>ent T i l*ent U l k*ent V k j:=
  jbd fun k hk=>by rw [jcQ hi hk,←jiV]
 have e2:(jaY n fun l=>ent T i l*ent (jfq n U V) l j)=jaY n fun l=>jaY n fun k=>ent T i l*(ent U l k*ent V k j):=
  jbd fun l hl=>by rw [jcQ hl hj,←jeF]
 rw [e1,e2,jiW]
 exact jbd fun l _=>jbd fun k _=>Int.mul_assoc _ _ _
theorem jln {n e:Nat} {T:List (List Int)} (hT:Sq n e T) (hn:n≤8):jfq n (jhF n) T=T:=by
 refine((Sq.one n).mul hT hn).ext hT fun i j hi hj=> ?_
 rw [jcQ hi hj,jgZ hi fun k hk hne=>by rw [jhF,jd9 hi hk,if_neg (Ne.symm hne)];simp]
 rw [jhF,jd9 hi hi,if_pos rfl];simp
theorem jlo {n e:Nat} {T:List (List Int)} (hT:Sq n e T) (hn:n≤8):jfq n T (jhF n)=T:=by
 refine(hT.mul (Sq.one n) hn).ext hT fun i j hi hj=> ?_
 rw [jcQ hi hj,jgZ hj fun k hk hne=>by rw [jhF,jd9 hk hj,if_neg hne];simp]
 rw [jhF,jd9 hj hj,if_pos rfl];simp
def jfr (n:Nat) (T:List (List Int)):Nat→List (List Int)
 |0=>jhF n
 |k+1=>jfq n (jfr n T k) T
theorem Sq.pow {n e:Nat} {T:List (List Int)} (hT:Sq n e T) (hn:n≤8): ∀k,Sq n (k*(e+3)+1) (jfr n T k)
 |0=>(Sq.one n).mono (by omega)
 |k+1=>((Sq.pow hT hn k).mul hT hn).mono (by rw [Nat.succ_mul];omega)
def jf0 (n:Nat) (T:List (List Int)):List (List Int):=mkT n fun i j=>if ent T i j=0 then 0 else 1
theorem Sq.mark {n:Nat} (T:List (List Int)):Sq n 1 (jf0 n T):=Sq.of_mk (f:=fun i j=>if ent T i j=0 then 0 else 1) (fun i j _ _=>by split<;>decide) fun i j _ _=>by split<;>decide
structure Ord (n:Nat) (o:List Nat):Prop where
 len:o.length=n
 all: ∀i,i<n→i∈o
def MulOk (i j:Int):Prop:= ∃m n:Nat,i.natAbs<2^m∧j.natAbs<2^n∧m+n≤134217728
theorem MulOk.ok {i j:Int} (h:MulOk i j):IntMulOk i j:=by
 obtain⟨m,n,a,b,c⟩:=h
 exact .of_le (PySem.intBits_le_iff.mpr a) (PySem.intBits_le_iff.mpr b) c
theorem jnu {X:Cx}:OpR X (binaryOp .Mult) (rI MulOk fun i j=> .int (i*j)):=opI fun _ _ _ _ _ _ _ hc q=>mul_int q hc.ok
def jgB:RD2:=fun x y h Q=>match x,y with
 | .int i,.int j=>MulOk i j∧Q (.int (i*j)) h
 |_,_=>False
theorem jnv {X:Cx}:OpQ X (binaryOp .Mult) jgB:=jfJ (gd:=fun i j=> .int (i*j)) jnu (fun _ _ _=>rfl) fun x y h Q q=>by
 cases x<;>cases y<;>first|exact False.elim q|exact⟨_,_,rfl,rfl,q.1,q.2⟩
theorem jeG {x:Int} {e:Nat} (h0:0≤x) (h1:x<2^e):x.natAbs<2^e:=by
 have:((2^e:Nat):Int)=2^e:=by simp
 omega
theorem jlp {x y:Int} {e f:Nat} (hx:0≤x∧x<2^e) (hy:0≤y∧y<2^f) (h:e+f≤134217728):MulOk x y:=⟨e,f,jeG hx.1 hx.2,jeG hy.1 hy.2,h⟩
section
variable {α β:Type} {i i' :Nat} {js:List Nat} {ti ti' :TID} {te:TED} {σ:SD} {h:HD} {Q:KD} {j:ItD}
theorem lcA (xs:List α) (c g:α→D) (hz:xs.length≤1000) (hj:j h=some (xs.map c)) (ht: ∀R:ItD→HD→Prop,R j h→ti σ h R)
 (he: ∀x∈xs,∀Q' :KD,Q' (g x) h→te ((ja8 js σ).set i (some (c x))) h Q') (hq: ∀p,h p=none→Q (.lst p) (jb2 h p (xs.map g))):jda (bN i) js ti je3 te σ h Q:=by
 refine ht _ ⟨xs.length,fun k ys h' =>h' =h∧ys=(xs.take k).map g,⟨rfl,by simp⟩,?_⟩
 rintro k ys h' ⟨rfl,rfl⟩
 refine⟨by simp only [G0c,G0v];exact G1j (jaK (by omega)),xs.map c,hj,by simp,fun hl p hp=> ?_,fun d hd=>⟨_,rfl,?_⟩⟩
 ·rw [G0T (by simpa using hl)];exact hq p hp
 ·unfold je3
  dsimp only
  rw [if_pos rfl]
  rw [G0i] at hd
  cases hx:xs[k]? with
  |none=>rw [hx] at hd;cases hd
  |some x=>
   rw [hx] at hd;cases hd
   refine he x (G0h hx) _ ⟨h',Sub.refl _,rfl,?_⟩
   rw [G1u,hx]
   simp
theorem lcF (xs:List α) (c g:α→D) (p:α→Bool) {tt:TTD} (hz:xs.length≤1000) (hj:j h=some (xs.map c)) (ht: ∀R:ItD→HD→Prop,R j h→ti σ h R)
 (hp: ∀x∈xs,∀Q' :Bool→HD→Prop,Q' (p x) h→tt ((ja8 js σ).set i (some (c x))) h Q') (he: ∀x∈xs,p x=true→ ∀Q' :KD,Q' (g x) h→te ((ja8 js σ).set i (some (c x))) h Q') (hq: ∀a,h a=none→Q (.lst a) (jb2 h a ((xs.filter p).map g))):jda (bN i) js ti tt te σ h Q:=by
 refine ht _ ⟨xs.length,fun k ys h' =>h' =h∧ys=((xs.take k).filter p).map g,⟨rfl,by simp⟩,?_⟩
 rintro k ys h' ⟨rfl,rfl⟩
 refine⟨?_,xs.map c,hj,by simp,fun hl a ha=> ?_,fun d hd=>⟨_,rfl,?_⟩⟩
 ·have:=G2C p (xs.take k)
  simp only [G0c,G0v] at this ⊢
  exact G1j (jaK (by omega))
 ·rw [G0T (by simpa using hl)];exact hq a ha
 ·rw [G0i] at hd
  cases hx:xs[k]? with
  |none=>rw [hx] at hd;cases hd
  |some x=>
   rw [hx] at hd;cases hd
   refine hp x (G0h hx) _ ?_
   cases hb:p x with
   |true=>
    rw [if_pos rfl]
    refine he x (G0h hx) hb _ ⟨h',Sub.refl _,rfl,?_⟩
    rw [G1u,hx]
    simp [hb]
   |false=>
    rw [if_neg G0t]
    refine⟨h',Sub.refl _,rfl,?_⟩
    rw [G1u,hx]
    simp [hb]
theorem jn9 (xs:List α) (c g:α→D) (hz:xs.length≤1000) (hj:j h=some (xs.map c)) (ht: ∀R:ItD→HD→Prop,R j h→ti σ h R)
 (he: ∀x∈xs,∀Q' :KD,Q' (g x) h→te ((ja8 js σ).set i (some (c x))) h Q') (hq:Q (.tup (xs.map g)) h):dCB ja4 (ja9 (jda (bN i) js ti je3 te) jc6) σ h Q:=by
 show jda (bN i) js ti je3 te σ h (fun x h1=>ja4 [x] h1 Q)
 exact lcA xs c g hz hj ht he fun p hp=>(show ∃ys,jb2 h p (xs.map g) p=some ys∧Q (.tup ys) (jew (jb2 h p (xs.map g)) p) from ⟨_,jad,by rw [jbs hp];exact hq⟩)
theorem jq7 (xs:List α) (c g:α→D) (p:α→Bool) {tt:TTD} (hz:xs.length≤1000) (hj:j h=some (xs.map c)) (ht: ∀R:ItD→HD→Prop,R j h→ti σ h R)
 (hp: ∀x∈xs,∀Q' :Bool→HD→Prop,Q' (p x) h→tt ((ja8 js σ).set i (some (c x))) h Q') (he: ∀x∈xs,p x=true→ ∀Q' :KD,Q' (g x) h→te ((ja8 js σ).set i (some (c x))) h Q') (hq:Q (.tup ((xs.filter p).map g)) h):dCB ja4 (ja9 (jda (bN i) js ti tt te) jc6) σ h Q:=by
 show jda (bN i) js ti tt te σ h (fun x h1=>ja4 [x] h1 Q)
 exact lcF xs c g p hz hj ht hp he fun a ha=>(show ∃ys,jb2 h a ((xs.filter p).map g) a=some ys∧Q (.tup ys) (jew (jb2 h a ((xs.filter p).map g)) a) from ⟨_,jad,by rw [jbs ha];exact hq⟩)
theorem jq8 (xs:List α) (c:α→D) (g:α→Int) (hz:xs.length≤1000) (hj:j h=some (xs.map c)) (ht: ∀R:ItD→HD→Prop,R j h→ti σ h R)
 (he: ∀x∈xs,∀Q' :KD,Q' (.int (g x)) h→te ((ja8 js σ).set i (some (c x))) h Q') (hq:Q (.int (xs.map g).sum) h):dCB jd8 (ja9 (jda (bN i) js ti je3 te) jc6) σ h Q:=by
 show jda (bN i) js ti je3 te σ h (fun x h1=>jd8 [x] h1 Q)
 exact lcA xs c (fun x=> .int (g x)) hz hj ht he fun p hp=>⟨p,xs.map g,rfl,by rw [jad,G0S];rfl,by rw [jbs hp];exact hq⟩
theorem jrA (xs:List α) (c:α→D) (g:α→Bool) (hz:xs.length≤1000) (hj:j h=some (xs.map c)) (ht: ∀R:ItD→HD→Prop,R j h→ti σ h R)
 (he: ∀x∈xs,∀Q' :KD,Q' (.bl (g x)) h→te ((ja8 js σ).set i (some (c x))) h Q') (hq:Q (.bl (xs.all g)) h):dCB jpm (ja9 (jda (bN i) js ti je3 te) jc6) σ h Q:=by
 show jda (bN i) js ti je3 te σ h (fun x h1=>jpm [x] h1 Q)
 exact lcA xs c (fun x=> .bl (g x)) hz hj ht he fun p hp=>⟨p,xs.map g,rfl,by rw [jad,G0S];rfl,by rw [jbs hp,G2c];exact hq⟩
theorem jsd (xs:List α) (c:α→D) (g:α→Bool) (hz:xs.length≤1000) (hj:j h=some (xs.map c)) (ht: ∀R:ItD→HD→Prop,R j h→ti σ h R)
 (he: ∀x∈xs,∀Q' :KD,Q' (.bl (g x)) h→te ((ja8 js σ).set i (some (c x))) h Q') (hq:Q (.bl (xs.any g)) h):dCB jq0 (ja9 (jda (bN i) js ti je3 te) jc6) σ h Q:=by
 show jda (bN i) js ti je3 te σ h (fun x h1=>jq0 [x] h1 Q)
 exact lcA xs c (fun x=> .bl (g x)) hz hj ht he fun p hp=>⟨p,xs.map g,rfl,by rw [jad,G0S];rfl,by rw [jbs hp,G4u];exact hq⟩
end
end L2
namespace L2
open PySem PySem.Spec PyProof.Rows PySem.SeqAt
def jpE (j:ItD):TID:=fun _ h R=>R j h
def jaE (o:List Nat):D:= .tup (o.map fun (k:Nat)=>D.int (k:Int))
def jhG (o:List Nat):List Int:=o.map fun (k:Nat)=>(k:Int)
theorem jnw (o:List Nat):jaE o= .tup ((jhG o).map D.int):=by unfold jaE jhG;rw [List.map_map];rfl
theorem jdA (h:HD): ∀ns:List Int,ToPs h (ns.map D.int) (ns.map PyData.int)
 | []=>rfl
 |n::ns=>⟨_,_,rfl,rfl,jdA h ns⟩
theorem jdg: ∀ns:List Int,PyData.canLayAll0 (ns.map PyData.int)=true
 | []=>rfl
 |n::ns=>by show (PyData.canLay0 (.int n)&&_)=true;rw [jdg ns];rfl
theorem jeH: ∀ns:List Int,PyData.eqvAll (ns.map PyData.int) (ns.map PyData.int)=true
 | []=>rfl
 |n::ns=>by show ((n==n)&&PyData.eqvAll _ _)=true;rw [jeH ns];simp
theorem jdS: ∀ns:List Int,PyData.depthAll (ns.map PyData.int)≤1
 | []=>by simp [PyData.depthAll]
 |n::ns=>by
  have:=jdS ns
  simp only [G0y,PyData.depthAll,PyData.depth];omega
theorem jeI (ns:List Int):shaped (.list (ns.map .int))=true:=by
 unfold shaped
 have h1:PyData.canLay0 (.list (ns.map .int))=true:=by simp only [PyData.canLay0];exact jdg ns
 have h2:=jdS ns
 have h3:PyData.depth (.list (ns.map .int))≤64:=by simp only [PyData.depth];omega
 rw [h1,G0r h3];rfl
def jmo (r:List Int):PyData:= .tuple (r.map .int)
theorem jdh {n e:Nat} {T:List (List Int)} (h:Sq n e T) {i:Nat} (hi:i<n):atI (T.map jeY) (i:Int)=some (jeY (T.getD i [])):=by
 have hi' :i<T.length:=by rw [h.len];exact hi
 exact jcc (by rw [G0i,G0B,G0b hi'];rfl)
theorem Sq.getRow {n e:Nat} {T:List (List Int)} (h:Sq n e T) {i:Nat} (hi:i<n):T.getD i []∈T:=by
 have hi' :i<T.length:=by rw [h.len];exact hi
 rw [G0B,G0b hi'];exact G06 hi'
theorem jdi {n:Nat} {r:List Int} (h:r.length=n) {j:Nat} (hj:j<n):atI (r.map D.int) (j:Int)=some (.int (r.getD j 0)):=by
 have hj' :j<r.length:=by rw [h];exact hj
 exact jcc (by rw [G0i,G0B,G0b hj'];rfl)
theorem jpF (n:Nat) (f:Nat→Nat→Int):D.tup ((List.range n).map fun i=>D.tup ((List.range n).map fun j=>D.int (f i j)))=jav (mkT n f):=by
 unfold jav jeY mkT
 rw [G0S]
 congr 1
 apply G0O
 intro i _
 simp [G0S,G2G]
theorem jnx (T:List (List Int)) (f:Int→Int):D.tup (T.map fun r=>D.tup (r.map fun x=>D.int (f x)))=jav (T.map fun r=>r.map f):=by
 unfold jav jeY
 rw [G0S]
 congr 1
 apply G0O
 intro r _
 simp [G0S,G2G]
theorem jny {n e:Nat} {T:List (List Int)} (h:Sq n e T):jf0 n T=T.map fun r=>r.map fun x=>if x≠0 then 1 else 0:=by
 conv=>rhs;rw [h.eq_mk]
 unfold jf0 mkT
 rw [G0S]
 apply G0O
 intro i _
 simp only [G1T,G0S]
 apply G0O
 intro j _
 simp only [G1T]
 by_cases z:ent T i j=0
 ·rw [if_pos z,if_neg (by simpa using z)]
 ·rw [if_neg z,if_pos z]
theorem jlq {n e:Nat} {T U:List (List Int)} (h:Sq n e T):(T.map fun r=>D.tup ((List.range n).map fun j=>D.int (jaY n fun m=>r.getD m 0*ent U m j)))=(jfq n T U).map jeY:=by
 conv=>lhs;rw [jbv T [],h.len]
 unfold jfq mkT
 rw [G0S,G0S]
 apply G0O
 intro i _
 simp only [G1T,jeY,G0S]
 rfl
theorem pow_add {n e:Nat} {T:List (List Int)} (h:Sq n e T) (hn:n≤8) (a:Nat): ∀b,jfr n T (a+b)=jfq n (jfr n T a) (jfr n T b)
 |0=>by rw [show jfr n T 0=jhF n from rfl,jlo (h.pow hn a) hn];rfl
 |b+1=>by
  show jfq n (jfr n T (a+b)) T=jfq n (jfr n T a) (jfq n (jfr n T b) T)
  rw [pow_add h hn a b,mul_assoc (h.pow hn a) (h.pow hn b) h hn]
theorem jnz {n e:Nat} {T:List (List Int)} (h:Sq n e T) (hn:n≤8):jfr n T 1=T:=jln h hn
theorem jg0 {n e:Nat} {T:List (List Int)} (h:Sq n e T) (hn:n≤8) (b:Nat):jfr n T (b+1)=jfq n T (jfr n T b):=by
 rw [Nat.add_comm,pow_add h hn,jnz h hn]
theorem jlr {n i j:Nat} {T:List (List Int)} (hi:i<n) (hj:j<n):ent (jf0 n T) i j=if ent T i j=0 then 0 else 1:=jd9 hi hj
section
variable {prog:Program} {w:World} {A:Around} {E:Value→Shared→Prop} {s:Shared}
theorem jjW {it t:Addr} {i n:Nat} {items:Array Value} {d1 d2:Option Addr} {s1 s2:Array (Option Value)} {P:PySem.Fin→Shared→Prop} (a1:s.heap.get? it=some {cls:= .type "tuple_iterator",dict:=d1,data:= .fields #[.ref t,.int i 0],slots:=s1}) (a2:s.heap.get? t=some {cls:= .type "tuple",dict:=d2,data:= .seq items n,slots:=s2})
 (more: ∀x h',items[i]? =some x→h'.IsTupleIter it t (i+1)→Heap.SameBut it s.heap h' →P (.done (.ret x)) {s with heap:=h'})
 (none_:items[i]? =none→wpAny (model prog w) A (do setField (.ref it) 0 .none;Builtin.SmallTypes.stopIteration) P E s):wpAny (model prog w) A (Builtin.«tuple_iterator.__next__» ⟨[.ref it],[]⟩) P E s:=by
 obtain⟨hp,g,d,tk,os⟩:=s
 wp_walk
 rw [G18]
 cases hx:items[i]? with
 |none=>exact wpAny_bind (G3F (none_ hx))
 |some x=>
  refine wpAny_bind (wpAny_setField a1 rfl (by simp) (G0d (more x _ hx ⟨_,G0Z _ a1 ?_,rfl,?_⟩ (G04 ..))))
  ·rfl
  ·simp [Obj.mapFields,rawInt]
theorem jeJ {Q:PySem.Fin→Shared→Prop} (hh:A.handled=none) (hE: ∀h' e,(∀b o,s.heap.get? b=some o→h'.get? b=some o)→(∃o,h'.get? e=some o∧o.cls= .type "StopIteration")→E (.ref e) {s with heap:=h'}):wpAny (model prog w) A Builtin.SmallTypes.stopIteration Q E s:=by
 obtain⟨hp,g,d,tk,os⟩:=s
 unfold Builtin.SmallTypes.stopIteration
 wp_walk
 unfold raiseNew
 refine wpAny_bind (wpAny_handled ?_)
 rw [hh]
 exact wpAny_bind (G0d (wpAny_throw (hE _ _ (fun b o q=>G0a _ (G0a _ q)) ⟨_,G0q _ rfl,rfl⟩)))
theorem jdT {it t:Addr} {i:Nat} {items:Array Value} {x:Value} {Q:Value→Shared→Prop} (hit:s.heap.IsTupleIter it t i) (ht:s.heap.IsTuple t items) (hx:items[i]? =some x)
 (hQ: ∀h',h'.IsTupleIter it t (i+1)→Heap.SameBut it s.heap h' →Q x {s with heap:=h'}):wpAny (model prog w) A (Builtin.SmallTypes.nextOf (.ref it)) Q E s:=by
 obtain⟨⟨c,d1,dt,s1⟩,ho,rfl,rfl⟩:=id hit
 obtain⟨⟨c2,d2,dt2,s2⟩,hol,rfl,nl,rfl⟩:=ht
 exact wpAny_bind (G1o hit.typeIs G2b (G1p G2b hit.typeIs G3r (jjW ho hol (fun y h' e b1 b2=>⟨y,rfl,G0d (by rw [hx] at e;cases e;exact hQ h' b1 b2)⟩) fun e=>by rw [hx] at e;cases e) (G3l _)))
theorem jbF {it t:Addr} {i:Nat} {items:Array Value} {Q:Value→Shared→Prop} (hh:A.handled=none) (hit:s.heap.IsTupleIter it t i) (ht:s.heap.IsTuple t items) (hx:items[i]? =none)
 (hE: ∀h' e,Heap.ExtBut it s.heap h' →(∃o,h'.get? e=some o∧o.cls= .type "StopIteration")→E (.ref e) {s with heap:=h'}):wpAny (model prog w) A (Builtin.SmallTypes.nextOf (.ref it)) Q E s:=by
 obtain⟨⟨c,d1,dt,s1⟩,ho,rfl,rfl⟩:=id hit
 obtain⟨⟨c2,d2,dt2,s2⟩,hol,rfl,nl,rfl⟩:=ht
 refine wpAny_bind (G1o hit.typeIs G2b (G1p G2b hit.typeIs G3r (jjW ho hol (fun y h' e b1 b2=>by rw [hx] at e;cases e) fun _=>wpAny_bind (wpAny_setField ho rfl (by simp) ?_)) (G3l _)))
 exact jeJ (s:= {s with heap:=_}) hh fun h' e grown stop=>hE h' e (fun b o ne q=>grown b o ((G04 ..).extBut b o ne q)) stop
end
theorem jjX {prog:Program} {w:World} {A:Around} (hh:A.handled=none) (it t:Addr) (hne:t≠it) (items:Array Value):
 Draws prog w A it [it,t] items.size (fun i v=>items[i]? =some v) (fun i h=>h.IsTupleIter it t i∧h.IsTuple t items) where
 live:=fun _ _ st=>let ⟨o,ho,_⟩:=st.1;⟨o,ho⟩
 frame:=fun _ _ _ st hk=>⟨st.1.at fun o e=>hk it (by simp) o e,st.2.at fun o e=>hk t (by simp) o e⟩
 item:=fun i s Q E hi st hQ=>jdT st.1 st.2 (x:=items[i]) (by simp [hi]) fun h' hit' hs' =>hQ _ h' s.toks (by simp [hi]) ⟨hit',st.2.extBut hs'.extBut hne⟩ hs'
 done:=fun s Q E st hE=>jbF hh st.1 st.2 (by simp) hE
theorem jjY {prog:Program} {w:World} {A:Around} (hh:A.handled=none) (it t:Addr) (items:Array Value) (n:Nat) (hn:items.size≤n):
 Draws prog w A it [it,t] n (fun _ _=>False) (fun i h=>i=n∧h.IsTupleIter it t n∧h.IsTuple t items) where
 live:=fun _ _ st=>let ⟨o,ho,_⟩:=st.2.1;⟨o,ho⟩
 frame:=fun _ _ _ st hk=>⟨st.1,st.2.1.at fun o e=>hk it (by simp) o e,st.2.2.at fun o e=>hk t (by simp) o e⟩
 item:=fun i s Q E hi st hQ=>absurd st.1 (G0R hi)
 done:=fun s Q E st hE=>jbF hh st.2.1 st.2.2 (G32 hn) hE
set_option maxHeartbeats 1000000 in
section
variable {prog:Program} {w:World} {A:Around} {E:Value→Shared→Prop} {s:Shared}
theorem jjZ {l:Addr} {its:Array Value} {P:PySem.Fin→Shared→Prop} (at_:s.heap.IsTuple l its)
 (h: ∀h',IsEnum h' (s.heap.objs.size+1) s.heap.objs.size 0 .none→h'.IsTupleIter s.heap.objs.size l 0→(∀b o,s.heap.get? b=some o→h'.get? b=some o)→P (.done (.ret (.ref (s.heap.objs.size+1)))) {s with heap:=h'}):
 wpAny (model prog w) A (Builtin.«enumerate.__new__» ⟨[.type "enumerate",.ref l],[]⟩) P E s:=by
 have fine:=sub_enumerate
 obtain⟨⟨c,dd,dt,sl⟩,there,rfl,n,rfl⟩:=id at_
 obtain⟨hp,g,d,tk,os⟩:=s
 have size: ∀o,(hp.push o).objs.size=hp.objs.size+1:=fun o=>G2L ..
 have made:=G0q (hp.push {cls:= .type "tuple_iterator",data:= .fields #[.ref l,.int 0 0]}) (o:= {cls:= .type "enumerate",data:= .fields #[.none,.bool false,.ref hp.objs.size,rawInt 0,.none,.none]}) rfl
 have fin:=h _ (by rw [←size];exact made) ⟨_,G0a _ (G0q _ rfl),rfl,rfl⟩ fun b o old=>G0a _ (G0a _ old)
 rw [←size {cls:= .type "tuple_iterator",data:= .fields #[.ref l,.int 0 0]}] at fin
 wp_walk using G2O there
 refine wpAny_stack_any fun calls=>G0d ?_
 split
 case h_1 c _ _ _ _ _=>cases c==Value.type "enumerate" <;>(wp_walk using G2O there,G2z at_;exact fin)
 case h_2=>wp_walk using G2O there,G2z at_;exact fin
theorem jf1 {l:Addr} {items:Array Value} {Q:Value→Shared→Prop} (hL:s.heap.IsTuple l items)
 (h: ∀h',IsEnum h' (s.heap.objs.size+1) s.heap.objs.size 0 .none→h'.IsTupleIter s.heap.objs.size l 0→(∀b o,s.heap.get? b=some o→h'.get? b=some o)→Q (.ref (s.heap.objs.size+1)) {s with heap:=h'}):
 wpAny (model prog w) A (call (.type "enumerate") [.ref l]) Q E s:=
 callType_new F.called_enumerate (by decide) (F.typeCall_enumerate_1 _) (F.newCall_enumerate_1 _) (fun _=>F.args_object_init_2 _ _) F.entry_enumerate_new
  (S:=fun _ R s=>s.heap.IsTuple l items∧ ∀h',IsEnum h' (s.heap.objs.size+1) s.heap.objs.size 0 .none→h'.IsTupleIter s.heap.objs.size l 0→(∀b o,s.heap.get? b=some o→h'.get? b=some o)→R (.ok (.ret (.ref (s.heap.objs.size+1)))) {s with heap:=h'})
  (.of_wp fun _ _ _ _ _ ⟨tup,k⟩=>jjZ tup fun h' e i old=>⟨_,rfl,k h' e i old⟩) ⟨hL,fun h' e i old=>⟨⟨_,e,rfl⟩,h h' e i old⟩⟩
end
section
variable {X:Cx} {pins:List (Addr×Obj)} {σ:List (Option V)} {H:Hp} {s:Shared} {h' :Heap}
theorem Inv.turnL {t' :Nat} {ch:List Addr} (I:Inv X pins σ H s) (k: ∀b o,b ∉ ch→s.heap.get? b=some o→h'.get? b=some o) (hc: ∀b∈ch,jjp X pins H b):Inv X pins σ H {s with heap:=h',toks:=t'}:=by
 refine I.step (g' :=s.gens) (d' :=s.drawn) (ch:=ch) (fun b hb=>let ⟨_,f1,_,f3,f4,f5⟩:=hc b hb;⟨f3,f1,f4,f5⟩) (fun b o _ _ nb e _=>k b o nb e) (fun b o _ _ nb e _=>⟨o.slots,k b o nb e⟩) (fun _ _ _ _ n=>n)
  (fun b o nb e=>⟨o,k b o nb e⟩) (fun _ _ e=>e) (fun _ _ _ e=>e) (fun b ps e=>⟨#[],by rw [e];simp⟩) (fun m hm=> ?_) (fun b u e=> ?_) I.bare
 ·obtain⟨o,es,ep,ho,r⟩:=hm
  exact⟨o,es,ep,k _ o (fun z=>(hc _ z).2.1 rfl) ho,r⟩
 ·refine(I.hok b u e).stay (fun c v hb q=>k c v (fun z=> ?_) q) (fun _ q=>q) fun _ _ q=>q
  have f:=(hc c z).1
  rcases hb with w|w
  ·rw [w,e] at f;cases f
  ·rw [w] at f;cases f
theorem Inv.turnLaid {t' :Nat} {ch:List Addr} {a:Addr} {o:HO} (I:Inv X pins σ H s) (k: ∀b u,b ∉ ch→s.heap.get? b=some u→h'.get? b=some u) (hc: ∀b∈ch,jjp X pins H b) (hp:s.heap.objs.size≤a)
 (new:ObjOk X.prog X.w (upd H a o) h' a o):Inv X pins σ (upd H a o) {s with heap:=h',toks:=t'}:=by
 have hn:=I.hok.fresh hp
 refine I.step (g' :=s.gens) (d' :=s.drawn) (ch:=ch) (fun b hb=>let ⟨_,f1,_,f3,f4,f5⟩:=hc b hb;⟨f3,f1,f4,f5⟩) (fun b u _ _ nb e _=>k b u nb e) (fun b u _ _ nb e _=>⟨u.slots,k b u nb e⟩)
  (fun b u _ e n=>by rw [jan (G0R (G0W (G0n e) hp))];exact n) (fun b u nb e=>⟨u,k b u nb e⟩) (fun b xs q=>by rw [jan (jaj q hn)];exact q) (fun b u xs q=>by rw [jan (jaj q hn)];exact q)
  (fun b ps q=>⟨#[],by rw [jan (jaj q hn),q];simp⟩) (fun m hm=> ?_) (fun b u e=> ?_) I.bare
 ·obtain⟨u,es,ep,ho,r⟩:=hm
  exact⟨u,es,ep,k _ u (fun z=>(hc _ z).2.1 rfl) ho,r⟩
 ·by_cases hb:b=a
  ·subst hb;rw [jap] at e;cases e;exact new
  ·rw [jan hb] at e
   refine(I.hok b u e).stay (fun c v hb q=>k c v (fun z=> ?_) q) (fun c q=>by rw [jan (jaj q hn)];exact q) fun c xs q=>by rw [jan (jaj q hn)];exact q
   have f:=(hc c z).1
   rcases hb with w|w
   ·rw [w,e] at f;cases f
   ·rw [w] at f;cases f
end
def Ite (K:PySem.W.Frag) (a:Addr):It:=
 ⟨fun i H=> ∃xs x,SqT K H a xs∧xs[i]? =some x,fun i H x H' => ∃p v,H p=none∧(∀xs,SqT K H a xs→xs[i]? =some v)∧x= .ref p∧H' =upd H p (.tup [.int i,v]),fun i H=> ∃xs,SqT K H a xs∧xs.length≤i⟩
theorem jj0 {P:Program} {w:World} {K:PySem.W.Frag} {es:List Expr} {k:Nat} {pos:Pos} (a it e:Addr) (hei:e≠it) (hae:a≠e) (hai:a≠it):Turn P w K (.Tuple es k pos) (Ite K a) [e,it] e (fun i h=>(∃old,IsEnum h e it i old)∧h.IsTupleIter it a i) where
 mem:=by simp
 obj:=fun i h st b hb=>by
  rcases G0C.mp hb with z|z
  ·subst z;obtain⟨old,q⟩:=st.1;exact⟨_,q,fun v z=>by cases z⟩
  ·have z:=G0g.mp z
   subst z;obtain⟨o,q,c,d⟩:=st.2;exact⟨o,q,fun v z=>by rw [d] at z;cases z⟩
 keep:=fun i h h' st k=>⟨let ⟨old,q⟩:=st.1;⟨old,k e (by simp) _ q⟩,st.2.at fun o q=>k it (by simp) o q⟩
 item:=by
  intro X hP hw hK hc i pins s σ H E I hf st hg
  subst hP hw hK
  obtain⟨xs,x,hq,hx⟩:=hg
  obtain⟨its,rv,p,hz⟩:=I.tuple hq
  obtain⟨u,hu,ru⟩:=rv.get hx
  have hi:i<its.toArray.size:=by have:=(G0m.mp hu).1;simpa using this
  obtain⟨old,he⟩:=st.1
  have helt:e<s.heap.objs.size:=G0n he
  refine wpAny_pyNext_enum_itemD (jjX (prog:=X.prog) (w:=X.w) (A:=X.A.in1) (I.ok.hd hc) it a hai its.toArray) he ⟨st.2,p⟩ hi hei (by simp [hei,Ne.symm hae]) fun x' h' tk hx' ho hs' hT hsz hk=> ?_
  have ex:x' =u:=G1a (hx'.symm.trans (show its.toArray[i]? =some u by simpa using hu))
  subst ex
  refine⟨_,rfl,wpAny_letOwnedTupleGo_enum ho fun h2 he2 hs2=> ?_⟩
  have hn:H s.heap.objs.size=none:=I.hok.fresh (G0f _)
  have hT2:h2.get? s.heap.objs.size=some {cls:= .type "tuple",data:= .seq #[.int i tk,x']}:=(hs2.2 _ (G2B helt)).trans hT
  refine⟨.ref s.heap.objs.size,upd H s.heap.objs.size (.tup [.int i,x]),?_,rfl,⟨_,x,hn,fun ys hy=>by rw [I.tuple_inj hy hq];exact hx,rfl,rfl⟩,⟨⟨x',by simpa using he2⟩,hs'.1.at fun o y=>(hs2.2 it (Ne.symm hei)).trans y⟩,fun b hb=> ?_⟩
  ·refine I.turnLaid (h' :=h2) (t' :=tk+1) (ch:= [e,it]) (fun b u hb q=> ?_) hf (G0f _) ⟨by show 2≤sizeLine;decide,[.int i tk,x'],.cons ⟨tk,rfl⟩ (.cons ru .nil),⟨_,hT2,rfl,rfl,_,rfl⟩⟩
   have b1:b≠e:=fun z=>hb (by simp [z])
   have b2:b≠it:=fun z=>hb (by simp [z])
   exact(hs2.2 b b1).trans (hk b u b1 b2 q)
  ·have f:=(hf b hb).1
   have:b≠s.heap.objs.size:=fun z=>by
    rcases G0C.mp hb with w|w
    ·rw [←w,z] at helt;exact absurd helt (G02 _)
    ·have w:=G0g.mp w
     obtain⟨o,ho',_⟩:=st.2
     have:=G0n ho'
     rw [←w,z] at this;exact absurd this (G02 _)
   rw [jan this];exact f
 done:=by
  intro X hP hw hK hc i pins s σ H E I hf st hg
  subst hP hw hK
  obtain⟨xs,hq,hx⟩:=hg
  obtain⟨its,rv,p,hz⟩:=I.tuple hq
  obtain⟨old,he⟩:=st.1
  have hl:=rv.length
  refine wpAny_pyNext_enum_endD (jjY (prog:=X.prog) (w:=X.w) (A:=X.A.in1) (I.ok.hd hc) it a its.toArray i (by simp;omega)) he ⟨rfl,st.2,p⟩ fun h' hx' =>⟨rfl,I.turnL (t' :=s.toks) (ch:= [it]) (fun b o hb q=>hx' b o (fun z=>hb (by simp [z])) q) fun b hb=>hf b (G0s _ hb)⟩
 self:=fun _ _ _ _ _ st h=>let ⟨_,q⟩:=st.1;wpAny_pyIter_enum q h
section
variable {X:Cx}
def jrB (K:PySem.W.Frag) (ta:TA):TI:=fun σ H R=>ta σ H fun vs H1=> ∃a,vs= [.ref a]∧(∃xs,SqT K H1 a xs)∧R (Ite K a) H1
theorem jnA {es:List Expr} {k:Nat} {tp:Pos} {a:Expr} {ta:TA} {p pos:Pos} (hg:Gl X "enumerate") (hm:X.mg "enumerate" =none) (ha:PA X [a] ta) (hs:starEach [a] X.env= [(false,eval a X.env)]:=by rfl):
 PI X (.Tuple es k tp) (.Call (.Name "enumerate" p) [a] [] pos) (jrB X.K ta):=by
 intro pins s σ H R I h
 refine Call_ (jd4 I hg hm (show bootBuiltins "enumerate" =some (.type "enumerate") by decide +kernel) (G1z (thn (ha pos pins s σ H _ I h) fun us s1 ⟨vs,H1,I1,r1,q1⟩=> ?_) hs rfl))
 obtain⟨a,e,⟨xs,hq⟩,q⟩:=q1
 subst e
 cases r1 with
 |cons r rr=>
  cases rr
  cases r
  obtain⟨its,rv,p,hz⟩:=I1.tuple hq
  have hlt:a<s1.heap.objs.size:=by obtain⟨o,ho,_⟩:=p;exact G0n ho
  refine jf1 (show s1.heap.IsTuple a its.toArray from p) fun h' he hit hk=> ?_
  refine wpAny_pyIter_enum he ?_
  refine⟨s1.heap.objs.size+1,[s1.heap.objs.size+1,s1.heap.objs.size],_,_,H1,rfl,I1.kept (t' :=s1.toks) hk,jj0 a s1.heap.objs.size (s1.heap.objs.size+1) (G2B (G14 _)) (G0R (G3I hlt)) (G0R hlt),⟨⟨_,he⟩,hit⟩,fun b hb=> ?_,q⟩
  have hb' :s1.heap.objs.size≤b:=by
   rcases G0C.mp hb with w|w
   ·rw [w];exact Nat.le_succ _
   ·rw [G0g.mp w];exact G0f _
  exact I1.fpOk hb' (I1.hok.fresh hb')
end
def jls (ds:List D):List D:=ds.zipIdx.map fun p=> .tup [.int (p.2:Int),p.1]
def iE (ta:TAD):TID:=fun σ h R=>ta σ h fun xs h1=> ∃ds,xs= [.tup ds]∧R (fun _=>some (jls ds)) h1
theorem jih {ds:List D} {i:Nat} {d:D} (h:(jls ds)[i]? =some d): ∃x,ds[i]? =some x∧d= .tup [.int (i:Int),x]:=by
 unfold jls at h
 rw [G0i,List.getElem?_zipIdx] at h
 cases q:ds[i]? with
 |none=>rw [q] at h;cases h
 |some x=>
  rw [q] at h
  refine⟨x,rfl,?_⟩
  have h' :some (D.tup [.int ((0+i:Nat):Int),x])=some d:=h
  rw [G11] at h'
  exact(G1a h').symm
theorem jdj (ds:List D):(jls ds).length=ds.length:=by simp [jls]
section
variable {K:PySem.W.Frag}
theorem jj1 {H:Hp} {a:Addr} {vs:List V} {ds:List D} (hv:H a=some (.tup vs)) (r:RelDs K H ds vs):jmh K H (fun _=>some (jls ds)) (Ite K a):=fun H' h' k rh ds' e i=>by
 cases e
 have hv' :=k.tup _ _ hv
 have r' :=r.mono k
 refine⟨fun d hd=> ?_,fun hl=>⟨vs,SqT.of hv',by rw [←r.length,←jdj];exact hl⟩⟩
 obtain⟨x,hx,ed⟩:=jih hd
 subst ed
 obtain⟨v,e1,e2⟩:=r'.get hx
 refine⟨⟨vs,v,SqT.of hv',e1⟩,fun x' H'' ⟨p,v',hp,hx',ex,eH⟩=> ?_⟩
 subst ex eH
 have ev:v' =v:=by have:=hx' vs (SqT.of hv');rw [e1] at this;exact(G1a this).symm
 subst ev
 have k2:Kept H' (upd H' p (.tup [.int i,v'])):= .new hp
 exact⟨k2,RelH.new rh hp,p,[.int i,v'],rfl,jap,_,_,rfl,rfl,_,_,rfl,e2.mono k2,rfl⟩
theorem jnB {ta:TAD}: ∀σ H R,LI K (iE ta) σ H R→jrB K (LA K ta) σ H R:=fun σ H R ⟨σd,h,Rd,rs,rh,q,p⟩=>
 LA.bind rs rh q fun ds vs h1 H1 k1 rs1 rh1 r1 ⟨es,e,q1⟩=>by
  subst e
  obtain⟨v,e,r2⟩:=jaC r1
  obtain⟨a,ws,e',hv,r⟩:=(show ∃a vs,v= .ref a∧H1 a=some (.tup vs)∧RelDs K H1 es vs from r2)
  subst e'
  exact⟨a,e,⟨ws,SqT.of hv⟩,p _ _ _ _ k1 rh1 (jj1 hv r) q1⟩
end
section
variable {X:Cx}
theorem jnC {es:List Expr} {k:Nat} {tp:Pos} {a:Expr} {ta:TAD} {p pos:Pos} (hg:Gl X "enumerate") (hm:X.mg "enumerate" =none) (ha:JA X [a] ta) (hs:starEach [a] X.env= [(false,eval a X.env)]:=by rfl):
 JI X (.Tuple es k tp) (.Call (.Name "enumerate" p) [a] [] pos) (iE ta):=⟨(jnA hg hm ha.to hs).imp jnB⟩
end
def jj2 (c:TTD) (tb:TSD):TSD:=fun D σ h=> ∃W:Nat→SD→HD→Prop,(∃m,W m σ h)∧ ∀m σ' h',W m σ' h' →c σ' h' fun b h1=>
 if b=true then tb {D with nx:=fun σ2 h2=> ∃m' h3,m' <m∧Sub h3 h2∧W m' σ2 h3,ct:=fun σ2 h2=> ∃m' h3,m' <m∧Sub h3 h2∧W m' σ2 h3,bk:=D.nx} σ' h1 else D.nx σ' h1
theorem jlu {K:PySem.W.Frag} {c:TTD} {tb:TSD}: ∀D σ H,LS K (jj2 c tb) D σ H→jmc (LT K c) (LS K tb) D σ H:=fun D σ H ⟨σd,h,Dd,rs,rh,⟨W,⟨m0,w0⟩,turn⟩,nx,rt,bk,ct⟩=>by
 refine⟨fun m σ' H' =>Kept H H' ∧ ∃σd' h',RelS K H' σd' σ' ∧RelH K h' H' ∧W m σd' h',⟨m0,.refl _,σd,h,rs,rh,w0⟩,?_⟩
 rintro m σ' H' ⟨kp,σd',h',rs',rh',w⟩
 refine LT.bind rs' rh' (turn m σd' h' w) fun b h1 H1 k1 rs1 rh1 q1=> ?_
 cases b with
 |false=>
  rw [if_neg G0t] at q1 ⊢
  exact nx _ _ _ _ (kp.trans k1) rs1 rh1 q1
 |true=>
  rw [if_pos rfl] at q1 ⊢
  have kk:Kept H H1:=kp.trans k1
  refine⟨fun σ2 H2=>Kept H H2∧ ∃m',m' <m∧ ∃σd2 h2,RelS K H2 σd2 σ2∧RelH K h2 H2∧W m' σd2 h2,fun σ2 H2 ⟨k2,m',hm,a,b,c,d,e⟩=>⟨m',hm,k2,a,b,c,d,e⟩,?_⟩
  exact⟨σd',h1,_,rs1,rh1,q1,fun a b c d k4 rs4 rh4 ⟨m',h4,hm,sb,w4⟩=>⟨kk.trans k4,m',hm,a,h4,rs4,rh4.sub sb,w4⟩,jaA rt kk,fun a b c d k4 rs4 rh4 q4=>nx a b c d (kk.trans k4) rs4 rh4 q4,fun a b c d k4 rs4 rh4 ⟨m',h4,hm,sb,w4⟩=>⟨kk.trans k4,m',hm,a,h4,rs4,rh4.sub sb,w4⟩⟩
section
variable {X:Cx} {pos:Pos}
theorem jmp {c:Expr} {body:List Stmt} {tc:TTD} {tb:TSD} (hp:PassesOwn (model X.prog X.w) X.A X.env X.xe) (hc:JT X c tc) (hb:JSs X body tb):JS X (.While c body [] pos) (jj2 tc tb):=⟨(jkY hp hc.to hb.to).imp jlu⟩
end
theorem jii {c:TTD} {tb:TSD} {E:EndsD} {σ:SD} {h:HD} (W:Nat→SD→HD→Prop) (m:Nat) (w0:W m σ h)
 (turn: ∀m σ' h',W m σ' h' →c σ' h' fun b h1=>if b=true then tb {E with nx:=fun σ2 h2=> ∃m' h3,m' <m∧Sub h3 h2∧W m' σ2 h3,ct:=fun σ2 h2=> ∃m' h3,m' <m∧Sub h3 h2∧W m' σ2 h3,bk:=E.nx} σ' h1 else E.nx σ' h1):jj2 c tb E σ h:=⟨W,⟨m,w0⟩,turn⟩
def Off (W:List Addr) (h h' :Heap):Prop:=h'.objs.size=h.objs.size∧ ∀b o,b ∉ W→h.get? b=some o→h'.get? b=some o
theorem Off.refl (W:List Addr) (h:Heap):Off W h h:=⟨rfl,fun _ _ _ e=>e⟩
theorem Off.of {c:Addr} {W:List Addr} {h h' :Heap} (x:Heap.SameBut c h h') (m:c∈W):Off W h h' :=⟨x.1,fun b o n e=>x.extBut b o (fun q=>n (q ▸ m)) e⟩
theorem Off.trans {W:List Addr} {h h' h'' :Heap} (x:Off W h h') (y:Off W h' h''):Off W h h'' :=⟨y.1.trans x.1,fun b o n e=>y.2 b o n (x.2 b o n e)⟩
abbrev jj3 (f0:Value) (b1:Bool) (TI TO:Addr):Obj:= {cls:= .type "zip",dict:=none,data:= .fields #[f0,.bool b1,.bool false,.ref TI,.ref TO],slots:= #[]}
def ZipAt (h:Heap) (z TI TO:Addr):Prop:= ∃f0 b1,h.get? z=some (jj3 f0 b1 TI TO)∧(f0= .none∨ ∃a t,f0= .int a t)
theorem ZipAt.off {h h' :Heap} {z TI TO:Addr} {W:List Addr} (Z:ZipAt h z TI TO) (o:Off W h h') (n:z ∉ W):ZipAt h' z TI TO:=let ⟨f,b,e,q⟩:=Z;⟨f,b,o.2 _ _ n e,q⟩
section
variable {prog:Program} {w:World} {A:Around} {E:Value→Shared→Prop} {s:Shared} {z TI TO i1 i2:Addr}
theorem jlv {Q:Bool→Shared→Prop} (Z:ZipAt s.heap z TI TO) (k: ∀b h',ZipAt h' z TI TO→Off [z] s.heap h' →Q b {s with heap:=h'}):wpAny (model prog w) A (Builtin.SmallTypes.ownedTupleIsFree (.ref z)) Q E s:=by
 obtain⟨f0,b1,hz,hf⟩:=id Z
 have stay:=fun b=>k b s.heap Z (Off.refl _ _)
 rcases hf with rfl|⟨a,t,rfl⟩
 ·wp_walk
  exact stay true
 ·have read: ∀ {P:Option Obj→Shared→Prop} {E' :Value→Shared→Prop},P (s.heap.get? a.toNat) s→wpAny (model prog w) A (loadIfAlive a.toNat) P E' s:=fun p _ _ _=>p
  wp_walk using read
  cases s.heap.get? a.toNat with
  |none=>exact G0d (stay true)
  |some o=>
   wp_walk
   cases b1 with
   |true=>exact G0d (stay false)
   |false=>exact wpAny_bind <| wpAny_setField_rec hz (by simp) fun h' z' same=>G0d (k false h' ⟨_,_,z',.inr ⟨a,t,rfl⟩⟩ (.of same (by simp)))
structure ZApart (z TI TO i1 i2:Addr):Prop where
 z1:z≠i1
 z2:z≠i2
 zO:z≠TO
 zI:z≠TI
 O1:TO≠i1
 O2:TO≠i2
 OI:TO≠TI
 I1:TI≠i1
 I2:TI≠i2
abbrev jpG (z:Addr) (h:Heap) (E:Value→Shared→Prop):Value→Shared→Prop:=fun e s' =>(∀o,h.get? z=some o→s'.heap.get? z=some o)∧ ∀h',Heap.ExtBut z s'.heap h' →E e {s' with heap:=h'}
set_option maxHeartbeats 2000000 in
theorem jj4 {Q:Value→Shared→Prop} (ap:ZApart z TI TO i1 i2) (Z:ZipAt s.heap z TI TO) (hTI:IsPair s.heap TI (.ref i1) (.ref i2)) (hTO: ∃a b,IsPair s.heap TO a b)
 (go: ∀h₁,Off [z] s.heap h₁→(∃o,h₁.get? z=some o∧o.cls= .type "zip")→wpAny (model prog w) A (Builtin.SmallTypes.nextOf (.ref i1)) (fun x s₁=>Off [i1] h₁ s₁.heap∧ ∀h₂,Off [TO] s₁.heap h₂→
  wpAny (model prog w) A (Builtin.SmallTypes.nextOf (.ref i2)) (fun y s₂=>Off [i2] h₂ s₂.heap∧ ∀h₃,(∀b o,b ∉ [z,TO]→s₂.heap.get? b=some o→h₃.get? b=some o)→IsPair h₃ s₂.heap.objs.size x y→
   ZipAt h₃ z TI TO→IsPair h₃ TI (.ref i1) (.ref i2)→(∃a b,IsPair h₃ TO a b)→Q (.ref s₂.heap.objs.size) {s₂ with heap:=h₃}) (jpG z h₂ E) {s₁ with heap:=h₂}) (jpG z h₁ E) {s with heap:=h₁}):
 wpAny (model prog w) A (Builtin.«zip.__next__» ⟨[.ref z],[]⟩) (fun fin s' => ∃v,fin= .done (.ret v)∧Q v s') E s:=by
 obtain⟨f0,b1,hz,hf⟩:=id Z
 have ask:=fun {P:Bool→Shared→Prop} {E' :Value→Shared→Prop} (k: ∀b h',ZipAt h' z TI TO→Off [z] s.heap h' →P b {s with heap:=h'})=>jlv (prog:=prog) (w:=w) (A:=A) (E:=E') Z k
 wp_walk using ask
 intro b h₀ Z₀ off₀
 have I₀:=off₀.2 _ _ (by simp [ap.zI.symm]) hTI
 obtain⟨a',b',O₀⟩: ∃a b,IsPair h₀ TO a b:=let ⟨a,b,e⟩:=hTO;⟨a,b,off₀.2 _ _ (by simp [ap.zO.symm]) e⟩
 cases b with
 |false=>
  have d1:=go h₀ off₀ (let ⟨_,_,e,_⟩:=Z₀;⟨_,e,rfl⟩)
  rw [if_neg (by decide)]
  refine wpAny_bind ?_
  rw [←G3z]
  simp only [G2T,List.forIn_nil]
  refine wpAny_bind (wpAny_bind (G1x ?_))
  refine wpAny_bind (m:=Builtin.SmallTypes.nextOf (.ref i1)) (G08 d1 (fun x s₁ d=>G0d (G0d ?_)) fun e s' f=>f.2 s'.heap fun _ _ _ e=>e)
  obtain⟨o1,d2⟩:=d
  refine wpAny_bind (wpAny_bind (G1x ?_))
  refine wpAny_bind (m:=Builtin.SmallTypes.nextOf (.ref i2)) (G08 (d2 s₁.heap (.refl _ _)) (fun y s₂ d=>G0d (G0d (G0d ?_))) fun e s' f=>f.2 s'.heap fun _ _ _ e=>e)
  obtain⟨o2,fin⟩:=d
  show wpAny _ _ (newTuple [x,y] >>= _) _ _ _
  have n1: ∀ {b},b≠i1→b ∉ [i1]:=fun h=>by simpa using h
  have n2: ∀ {b},b≠i2→b ∉ [i2]:=fun h=>by simpa using h
  have Z₂:=(Z₀.off o1 (n1 ap.z1)).off o2 (n2 ap.z2)
  have keep: ∀ {b o},b≠i1→b≠i2→h₀.get? b=some o→(s₂.heap.push {cls:= .type "tuple",data:= .seq #[x,y]}).get? b=some o:=fun q1 q2 e=>G0a _ (o2.2 _ _ (n2 q2) (o1.2 _ _ (n1 q1) e))
  refine wpAny_bind (wpAny_newTuple (G0d ⟨_,rfl,fin _ (fun b o _ e=>G0a _ e) (G0q _ rfl) ?_ (keep ap.I1 ap.I2 I₀) ⟨_,_,keep ap.O1 ap.O2 O₀⟩⟩))
  exact let ⟨f,b,e,q⟩:=Z₂;⟨f,b,G0a _ e,q⟩
 |true=>
  obtain⟨f0',b1',hz₀,_⟩:=Z₀
  have note:=fun {P:Unit→Shared→Prop} {E' :Value→Shared→Prop} (k: ∀h',h'.get? z=some (jj3 .ellipsis b1' TI TO)→Heap.SameBut z h₀ h' →P () {s with heap:=h'})=>
   wpAny_setField_rec (prog:=prog) (w:=w) (A:=A) (E:=E') (s:= {s with heap:=h₀}) (k:=0) (x:= .ellipsis) hz₀ (by simp) k
  wp_walk using note
  intro h₁ z₁ same₁
  have off₁:Off [z] s.heap h₁:=off₀.trans (.of same₁ (by simp))
  have O₁:=same₁.extBut _ _ ap.zO.symm O₀
  have I₁:=same₁.extBut _ _ ap.zI.symm I₀
  have fell: ∀ {h:Heap} {e:Value} {s' :Shared},h.get? z=some (jj3 .ellipsis b1' TI TO)→jpG z h E e s' →wpAny (model prog w) A (setField (.ref z) 0 .none) (fun _ s'' =>E e s'') E s' :=fun hz' f=>
   wpAny_setField_rec (f.1 _ hz') (by simp) fun h' _ same=>f.2 h' same.extBut
  have draw:=fun {P:Value→Shared→Prop} {E' :Value→Shared→Prop} (k: ∀x s₁,_→P x s₁) (f: ∀e s',jpG z h₁ E e s' →E' e s')=>G08 (go h₁ off₁ ⟨_,z₁,rfl⟩) k f
  wp_walk using wpAny_onRaise,draw
  case f=>exact fun e s' f=>fell z₁ f
  intro x s₁ ⟨o1,go2⟩
  have z₂:=o1.2 _ _ (by simp [ap.z1]) z₁
  have O₂:IsPair s₁.heap TO a' b' :=o1.2 _ _ (by simp [ap.O1]) O₁
  have I₂:=o1.2 _ _ (by simp [ap.I1]) I₁
  have lay:=fun {P:Unit→Shared→Prop} {E' :Value→Shared→Prop}=>wpAny_updateSeq_pair (prog:=prog) (w:=w) (A:=A) (E:=E') (s:=s₁) (k:=0) (x:=x) (Q:=P) O₂
  wp_walk using lay
  intro h₂ O₃ same₂
  replace O₃:IsPair h₂ TO x b' :=O₃
  have z₃:=same₂.extBut _ _ ap.zO z₂
  have I₃:=same₂.extBut _ _ ap.OI.symm I₂
  have draw2:=fun {P:Value→Shared→Prop} {E' :Value→Shared→Prop} (k: ∀y s₂,_→P y s₂) (f: ∀e s',jpG z h₂ E e s' →E' e s')=>G08 (go2 h₂ (.of same₂ (by simp))) k f
  wp_walk using wpAny_onRaise,draw2
  case f=>exact fun e s' f=>fell z₃ f
  intro y s₂ ⟨o2,fin⟩
  have z₄:=o2.2 _ _ (by simp [ap.z2]) z₃
  have O₄:IsPair s₂.heap TO x b' :=o2.2 _ _ (by simp [ap.O2]) O₃
  have I₄:=o2.2 _ _ (by simp [ap.I2]) I₃
  have lay2:=fun {P:Unit→Shared→Prop} {E' :Value→Shared→Prop}=>wpAny_updateSeq_pair (prog:=prog) (w:=w) (A:=A) (E:=E') (s:=s₂) (k:=1) (x:=y) (Q:=P) O₄
  wp_walk using lay2
  intro h₄ O₅ same₃
  replace O₅:IsPair h₄ TO x y:=O₅
  have z₅:=same₃.extBut _ _ ap.zO z₄
  have I₅:=same₃.extBut _ _ ap.OI.symm I₄
  wp_walk
  have size:h₄.objs.size=s₂.heap.objs.size:=same₃.1
  have zp:=G0a {cls:= .type "tuple",data:= .seq #[x,y]} z₅
  have zu:=G0Z (Obj.mapFields fun v=>v.setIfInBounds 0 (rawInt h₄.objs.size)) zp rfl
  have zu' :=G0Z (Obj.mapFields fun v=>v.setIfInBounds 1 (Value.bool false)) zu rfl
  have away: ∀ {b o},b≠z→(h₄.push {cls:= .type "tuple",data:= .seq #[x,y]}).get? b=some o→
   (((h₄.push {cls:= .type "tuple",data:= .seq #[x,y]}).update z (Obj.mapFields fun v=>v.setIfInBounds 0 (rawInt h₄.objs.size))).update z (Obj.mapFields fun v=>v.setIfInBounds 1 (Value.bool false))).get? b=some o:=fun n e=>
   (G04 ..).extBut _ _ n ((G04 ..).extBut _ _ n e)
  have new:=away (b:=h₄.objs.size) (fun q=>G02 _ (q ▸ G0n z₅)) (G0q _ rfl)
  refine⟨_,rfl,?_⟩
  have done:=fin _ (fun b o n e=>away (fun q=>n (by simp [q])) (G0a _ (same₃.extBut _ _ (fun q=>n (by simp [q])) e))) (size ▸ new) ⟨_,_,zu',.inr ⟨_,_,rfl⟩⟩ (away ap.zI.symm (G0a _ I₅)) ⟨_,_,away ap.zO.symm (G0a _ O₅)⟩
  rw [←size] at done
  exact done
theorem jnD {tg : Expr} {v : Value} {Q : Unit → Shared → Prop} (Z : ZipAt s.heap z TI TO) (k : ∀ h', ZipAt h' z TI TO → Off [z] s.heap h' → Q () { s with heap := h' }) : wpAny (model prog w) A (letOwnedTupleGo tg (.ref z) v) Q E s := by
  obtain ⟨f0, b1, hz, hf⟩ := id Z
  have stay := k s.heap Z (.refl _ _)
  have gone : wpAny (model prog w) A (updateField z 0 .none) Q E s := wpAny_setField_rec (k := 0) (x := .none) hz (by simp) fun h' z' same => k h' ⟨_, _, z', .inl rfl⟩ (.of same (by simp))
  unfold letOwnedTupleGo
  cases tg <;> first
    | exact G0d stay
    | (cases v <;> wp_walk <;> first
        | exact stay
        | (split
           · exact wpAny_bind (G3F gone)
           · exact G0d stay))
theorem jlw {Q:Option Value→Shared→Prop} (Z:ZipAt s.heap z TI TO)
 (h:wpAny (model prog w) A.in1 (Builtin.«zip.__next__» ⟨[.ref z],[]⟩) (fun fin s' => ∃v,fin= .done (.ret v)∧Q (some v) s') (fun e s' =>s'.TypeIs e "StopIteration" ∧Q none s') s):wpAny (model prog w) A (pyNext (.ref z)) Q E s:=by
 obtain⟨_,_,hz,_⟩:=Z
 have ty:s.TypeIs (.ref z) "zip" :=⟨_,hz,rfl⟩
 have asked:=G1p F.slot_zip_next ty F.entry_zip_next h (F.args_zip_next_1 _)
 exact wpAny_bind (wpAny_attempt (G1o (name:= "__next__") ty F.slot_zip_next (G08 asked (fun _ _ q=>G0d q) fun e s' q=>wpAny_bind (G3X (b:=true) q.1 isSubtype_stop (G0d q.2)))))
theorem jlx {l1 l2:Addr} {xs ys:Array Value} {P:PySem.Fin→Shared→Prop} (t1:s.heap.IsTuple l1 xs) (t2:s.heap.IsTuple l2 ys)
 (h: ∀h' n,n=s.heap.objs.size→ZipAt h' (n+4) (n+2) (n+3)→IsPair h' (n+2) (.ref n) (.ref (n+1))→(∃a b,IsPair h' (n+3) a b)→h'.IsTupleIter n l1 0→h'.IsTupleIter (n+1) l2 0→
  (∀b o,s.heap.get? b=some o→h'.get? b=some o)→P (.done (.ret (.ref (n+4)))) {s with heap:=h'}):
 wpAny (model prog w) A (Builtin.«zip.__new__» ⟨[.type "zip",.ref l1,.ref l2],[]⟩) P E s:=by
 have fine:=sub_zip
 obtain⟨hp,g,d,tk,os⟩:=s
 have first:Heap.IsTuple (Shared.heap ⟨hp,g,d,tk,os⟩) l1 xs:=t1
 have second: ∀o,Heap.IsTuple (Shared.heap ⟨hp.push o,g,d,tk,os⟩) l2 ys:=fun o=>Heap.IsTuple.push t2 o
 wp_walk using G2z first,G2z (second _)
 have size: ∀ (q:Heap) o,(q.push o).objs.size=q.objs.size+1:=fun q o=>G2L ..
 have n2: ∀o1 o2,((hp.push o1).push o2).objs.size=hp.objs.size+2:=fun _ _=>by rw [size,size]
 have n3: ∀o1 o2 o3,(((hp.push o1).push o2).push o3).objs.size=hp.objs.size+3:=fun _ _ _=>by rw [size,n2]
 have n4: ∀o1 o2 o3 o4,((((hp.push o1).push o2).push o3).push o4).objs.size=hp.objs.size+4:=fun _ _ _ _=>by rw [size,n3]
 have up: ∀ {q:Heap} {b o} o',q.get? b=some o→(q.push o').get? b=some o:=fun o' e=>G0a o' e
 show P (.done (.ret (.ref (Heap.objs (((((hp.push _).push _).push _).push _))).size))) _
 rw [n4]
 have at1:=G0q (hp.push {cls:= .type "tuple_iterator",data:= .fields #[.ref l1,.int 0 0]}) (o:= {cls:= .type "tuple_iterator",data:= .fields #[.ref l2,.int 0 0]}) rfl
 rw [size] at at1
 have top: ∀ (q:Heap) (o:Obj) (m:Nat),q.objs.size=m→o.isFreed=false→(q.push o).get? m=some o:=fun q o m e f=>e ▸ G0q q f
 refine h _ hp.objs.size rfl ⟨.none,false,(top _ _ _ (n4 ..) rfl).trans ?_,.inl rfl⟩ ((up _ (up _ (top _ _ _ (n2 ..) rfl))).trans ?_) ⟨.none,.none,up _ (top _ _ _ (n3 ..) rfl)⟩ ⟨_,up _ (up _ (up _ (up _ (G0q _ rfl)))),rfl,rfl⟩ ⟨_,up _ (up _ (up _ at1)),rfl,rfl⟩ fun b o e=>up _ (up _ (up _ (up _ (up _ e))))
 ·simp only [size,G2U];rfl
 ·simp only [size];rfl
theorem jeK {T newId initId:String} {pos:List Value} {kw:List (Str×Value)} {Made:Value→Shared→Prop} {Q:Value→Shared→Prop} (ft:TypeCalled T newId initId) (fits:checkTypeCall T ⟨pos,kw⟩=pure ())
 (made:wpAny (model prog w) A.in1 (call (.builtin newId) (.type T::pos) kw) Made E s)
 (begun: ∀o s₁,Made o s₁→s₁.TypeIs o T∧wpAny (model prog w) A.in1 (callSpecial? o "__init__" pos kw) (fun r s₂=>r=some .none∧Q o s₂) E s₁):
 wpAny (model prog w) A (call (.type T) pos kw) Q E s:=by
 have f1:=ft.notType
 have f2:=ft.canCreate
 have f3:=ft.made
 have f4:=ft.sub
 obtain⟨_,_,f5⟩:=ft.mro
 have first:=fun {Q' :Value→Shared→Prop} (k: ∀o s₁,Made o s₁→Q' o s₁)=>G08 (E' :=E) made k fun _ _ z=>z
 refine G4c (codeAny_of_tree (G0d ⟨Code.quiet_builtin _ (by decide +kernel),G2V F.entry_type_call ?_⟩))
 rw [Around.under_plain (weight_type_call_type T pos kw) (units_type_call_type T pos kw)]
 wp_walk using first
 intro o s₁ m
 obtain⟨ty,then_⟩:=begun o s₁ m
 refine wpAny_bind (G3X (b:=true) ty f4 (wpAny_bind (G1x (G08 then_ (fun r s₂ q=> ?_) fun _ _ z=>z))))
 obtain⟨rfl,q⟩:=q
 exact G0d q
theorem jg1 {T newId:String} {o:Value} {pos:List Value} {kw:List (Str×Value)} {Q:Option Value→Shared→Prop} (ft:TypeCalled T newId "object.__init__") (other:(some newId !=some "object.__new__")=true) (ty:s.TypeIs o T)
 (fits:argsOk "object.__init__" ⟨o::pos,kw⟩) (q:Q (some .none) s):wpAny (model prog w) A (callSpecial? o "__init__" pos kw) Q E s:=by
 have f1:=ft.init.lookup
 have f2:=ft.made
 refine G1o ty ft.init (wpAny_call_entry_kw ft.init ty F.entry_object_init ?_ fits)
 cases e:(!pos.isEmpty|| !kw.isEmpty)<;>(wp_walk;exact⟨_,rfl,q⟩)
theorem jg2 {l1 l2:Addr} {xs ys:Array Value} {Q:Value→Shared→Prop} (t1:s.heap.IsTuple l1 xs) (t2:s.heap.IsTuple l2 ys)
 (h: ∀h' n,n=s.heap.objs.size→ZipAt h' (n+4) (n+2) (n+3)→IsPair h' (n+2) (.ref n) (.ref (n+1))→(∃a b,IsPair h' (n+3) a b)→h'.IsTupleIter n l1 0→h'.IsTupleIter (n+1) l2 0→
  (∀b o,s.heap.get? b=some o→h'.get? b=some o)→Q (.ref (n+4)) {s with heap:=h'}):wpAny (model prog w) A (call (.type "zip") [.ref l1,.ref l2]) Q E s:=
 jeK (Made:=fun o s₁=>s₁.TypeIs o "zip" ∧Q o s₁) F.called_zip (F.typeCall_zip_2 _ _)
  (G4c (G3i F.called_zip.plain F.entry_zip_new (wpAny_of_eq (F.newCall_zip_2 _ _) (jlx t1 t2 fun h' n en zp i o a b k=>⟨let ⟨_,_,e,_⟩:=zp;⟨_,e,rfl⟩,h h' n en zp i o a b k⟩))))
  fun _ _ ⟨ty,q⟩=>⟨ty,jg1 F.called_zip (by decide) ty (F.args_object_init_3 _ _ _) ⟨rfl,q⟩⟩
end
def Itz (K : PySem.W.Frag) (a b : Addr) : It :=
  ⟨fun i H => ∃ xs ys x y, SqT K H a xs ∧ SqT K H b ys ∧ xs[i]? = some x ∧ ys[i]? = some y,
   fun i H x H' => ∃ p v u, H p = none ∧ (∀ xs, SqT K H a xs → xs[i]? = some v) ∧ (∀ ys, SqT K H b ys → ys[i]? = some u) ∧ x = .ref p ∧ H' = upd H p (.tup [v, u]),
   fun i H => ∃ xs ys, SqT K H a xs ∧ SqT K H b ys ∧ (xs.length ≤ i ∨ ys.length ≤ i)⟩
theorem jg3 {prog:Program} {w:World} {A:Around} {Q:Option Value→Shared→Prop} {E:Value→Shared→Prop} {s:Shared} {z TI TO i1 i2 l1 l2:Addr} {i:Nat} {xs ys:Array Value} (calm:A.handled=none) (ap:ZApart z TI TO i1 i2) (n1:l1 ∉ [z,TO,i1,i2]) (n2:l2 ∉ [z,TO,i1,i2]) (i12:i1≠i2)
 (Z:ZipAt s.heap z TI TO) (hTI:IsPair s.heap TI (.ref i1) (.ref i2)) (hTO: ∃a b,IsPair s.heap TO a b) (t1:s.heap.IsTuple l1 xs) (t2:s.heap.IsTuple l2 ys) (at1:s.heap.IsTupleIter i1 l1 i) (at2:s.heap.IsTupleIter i2 l2 i)
 (pair: ∀x y h' tk,xs[i]? =some x→ys[i]? =some y→(∀b o,b ∉ [z,TO,i1,i2]→s.heap.get? b=some o→h'.get? b=some o)→IsPair h' s.heap.objs.size x y→ZipAt h' z TI TO→IsPair h' TI (.ref i1) (.ref i2)→(∃a b,IsPair h' TO a b)→
  h'.IsTupleIter i1 l1 (i+1)→h'.IsTupleIter i2 l2 (i+1)→Q (some (.ref s.heap.objs.size)) {s with heap:=h',toks:=tk})
 (ended:(xs.size≤i∨ys.size≤i)→ ∀h' tk,(∀b o,b ∉ [z,TO,i1,i2]→s.heap.get? b=some o→h'.get? b=some o)→Q none {s with heap:=h',toks:=tk}):wpAny (model prog w) A (pyNext (.ref z)) Q E s:=by
 have sub: ∀ {b:Addr} {W:List Addr},b ∉ [z,TO,i1,i2]→(∀c∈W,c∈ [z,TO,i1,i2])→b ∉ W:=fun n m q=>n (m _ q)
 have z' : ∀c∈ [z],c∈ [z,TO,i1,i2]:=by simp
 have o' : ∀c∈ [TO],c∈ [z,TO,i1,i2]:=by simp
 have a' : ∀c∈ [i1],c∈ [z,TO,i1,i2]:=by simp
 have b' : ∀c∈ [i2],c∈ [z,TO,i1,i2]:=by simp
 have zo: ∀c∈ [z,TO],c∈ [z,TO,i1,i2]:=by simp
 refine jlw Z (jj4 ap Z hTI hTO fun h₁ off₁ isz=> ?_)
 have u1:h₁.IsTuple l1 xs:=t1.at fun o e=>off₁.2 _ _ (sub n1 z') e
 have v1:h₁.IsTupleIter i1 l1 i:=at1.at fun o e=>off₁.2 _ _ (by simp [ap.z1.symm]) e
 have stop: ∀ {h h' :Heap} {it e:Addr},z≠it→Heap.ExtBut it h h' →(∃o,h.get? z=some o∧o.cls= .type "zip")→(∃o,h'.get? e=some o∧o.cls= .type "StopIteration")→e≠z:=fun nz x ⟨o,e1,c1⟩ ⟨o2,e2,c2⟩ q=>by
  subst q
  rw [x _ _ nz e1] at e2
  cases e2
  rw [c1] at c2
  simp at c2
 cases hx:xs[i]? with
 |none=>
  refine jbF (s:= {s with heap:=h₁}) calm v1 u1 hx fun h' e grown st=>⟨fun o q=>grown _ _ ap.z1 q,fun h2 k=>⟨?_,ended (.inl (G1P.mp hx)) _ _ fun b o n q=>k _ _ (fun y=>sub n z' (by simp [y])) (grown _ _ (fun y=>sub n a' (by simp [y])) (off₁.2 _ _ (sub n z') q))⟩⟩
  have ne:=stop ap.z1 grown isz st
  obtain⟨o,q,c⟩:=st
  exact⟨o,k _ _ ne q,c⟩
 |some x=>
  refine jdT (s:= {s with heap:=h₁}) v1 u1 hx fun h1' w1 same₁=>⟨.of same₁ (by simp),fun h₂ off₂=> ?_⟩
  have all: ∀ {b o},b ∉ [z,TO,i1,i2]→s.heap.get? b=some o→h₂.get? b=some o:=fun n e=>off₂.2 _ _ (sub n o') (same₁.extBut _ _ (fun y=>sub n a' (by simp [y])) (off₁.2 _ _ (sub n z') e))
  have u2:h₂.IsTuple l2 ys:=t2.at fun o e=>all n2 e
  have v2:h₂.IsTupleIter i2 l2 i:=at2.at fun o e=>off₂.2 _ _ (by simp [ap.O2.symm]) (same₁.extBut _ _ i12.symm (off₁.2 _ _ (by simp [ap.z2.symm]) e))
  have w2:h₂.IsTupleIter i1 l1 (i+1):=w1.at fun o e=>off₂.2 _ _ (by simp [ap.O1.symm]) e
  have isz2: ∃o,h₂.get? z=some o∧o.cls= .type "zip" :=let ⟨o,e,c⟩:=isz;⟨o,off₂.2 _ _ (by simp [ap.zO]) (same₁.extBut _ _ ap.z1 e),c⟩
  cases hy:ys[i]? with
  |none=>
   refine jbF (s:= {s with heap:=h₂}) calm v2 u2 hy fun h' e grown st=>⟨fun o q=>grown _ _ ap.z2 q,fun h3 k=>⟨?_,ended (.inr (G1P.mp hy)) _ _ fun b o n q=>k _ _ (fun y=>sub n z' (by simp [y])) (grown _ _ (fun y=>sub n b' (by simp [y])) (all n q))⟩⟩
   have ne:=stop ap.z2 grown isz2 st
   obtain⟨o,q,c⟩:=st
   exact⟨o,k _ _ ne q,c⟩
  |some y=>
   refine jdT (s:= {s with heap:=h₂}) v2 u2 hy fun h2' w3 same₂=>⟨.of same₂ (by simp),fun h₃ kept new zip its out=> ?_⟩
   have size:h2'.objs.size=s.heap.objs.size:=by rw [same₂.1,off₂.1,same₁.1,off₁.1]
   have done:=pair x y h₃ s.toks hx hy (fun b o n e=>kept _ _ (sub n zo) (same₂.extBut _ _ (fun y=>sub n b' (by simp [y])) (all n e))) (size ▸ new) zip its out
    (w2.at fun o e=>kept _ _ (by simp [ap.z1.symm,ap.O1.symm]) (same₂.extBut _ _ i12 e)) (w3.at fun o e=>kept _ _ (by simp [ap.z2.symm,ap.O2.symm]) e)
   rw [←size] at done
   exact done
theorem jiX (n:Nat):ZApart (n+4) (n+2) (n+3) n (n+1):=by
 have d: ∀ {i j:Nat},i≠j→n+i≠n+j:=fun h q=>h (Nat.add_left_cancel q)
 exact⟨d (j:=0) (by decide),d (by decide),d (by decide),d (by decide),d (j:=0) (by decide),d (by decide),d (by decide),d (j:=0) (by decide),d (by decide)⟩
theorem jg4 {n c:Nat} (h:c<n):c ∉ [n+4,n+3,n,n+1]:=by
 simp only [G0C,G1i,G3R,not_or]
 omega
theorem jly {n c:Nat} (h:c∈ [n+4,n+2,n+3,n,n+1]):n≤c:=by
 simp only [G0C,G1i,G3R] at h
 omega
theorem jij {prog:Program} {w:World} {A:Around} {E:Value→Shared→Prop} {s:Shared} {z TI TO:Addr} {Q:Value→Shared→Prop} (Z:ZipAt s.heap z TI TO) (h:Q (.ref z) s):wpAny (model prog w) A (pyIter (.ref z)) Q E s:=by
 obtain⟨_,_,hz,_⟩:=Z
 have ty:s.TypeIs (.ref z) "zip" :=⟨_,hz,rfl⟩
 exact G3J ty F.slot_zip_iter (G1p F.slot_zip_iter ty F.entry_zip_iter (G0d ⟨_,rfl,_,_,ty,F.slot_zip_next.lookup,h⟩) (F.args_zip_iter_1 _))
theorem jlz {P:Program} {w:World} {K:PySem.W.Frag} (tg:Expr) (l1 l2 z TI TO i1 i2:Addr) (ap:ZApart z TI TO i1 i2) (n1:l1 ∉ [z,TO,i1,i2]) (n2:l2 ∉ [z,TO,i1,i2]) (i12:i1≠i2):
 Turn P w K tg (Itz K l1 l2) [z,TI,TO,i1,i2] z (fun i h=>ZipAt h z TI TO∧IsPair h TI (.ref i1) (.ref i2)∧(∃a b,IsPair h TO a b)∧h.IsTupleIter i1 l1 i∧h.IsTupleIter i2 l2 i):=by
 have inW: ∀ {b:Addr},b ∉ [z,TI,TO,i1,i2]→b ∉ [z,TO,i1,i2]:=fun n q=>n (by simp only [G0C] at q ⊢;rcases q with q|q|q|q|q<;>simp [q] at*)
 have there: ∀ {i:Nat} {h:Heap},(ZipAt h z TI TO∧IsPair h TI (.ref i1) (.ref i2)∧(∃a b,IsPair h TO a b)∧h.IsTupleIter i1 l1 i∧h.IsTupleIter i2 l2 i)→ ∀b∈ [z,TI,TO,i1,i2],∃o,h.get? b=some o∧ ∀v,o.data≠ .cell v:=fun ⟨⟨_,_,a1,_⟩,a2,⟨_,_,a3⟩,⟨o4,a4,_,d4⟩,⟨o5,a5,_,d5⟩⟩ b hb=>by
  simp only [G0C,G1i,G3R] at hb
  rcases hb with e|e|e|e|e<;>subst e
  ·exact⟨_,a1,fun v z=>by cases z⟩
  ·exact⟨_,a2,fun v z=>by cases z⟩
  ·exact⟨_,a3,fun v z=>by cases z⟩
  ·exact⟨o4,a4,fun v z=>by rw [d4] at z;cases z⟩
  ·exact⟨o5,a5,fun v z=>by rw [d5] at z;cases z⟩
 refine⟨by simp,fun i h st=>there st,fun i h h' ⟨⟨f,b,a1,qf⟩,a2,⟨x,y,a3⟩,a4,a5⟩ q=>⟨⟨f,b,q z (by simp) _ a1,qf⟩,q TI (by simp) _ a2,⟨x,y,q TO (by simp) _ a3⟩,a4.at fun o e=>q i1 (by simp) o e,a5.at fun o e=>q i2 (by simp) o e⟩,?_,?_,fun _ _ _ _ _ st h=>jij st.1 h⟩
 ·intro X hP hw hK hc i pins s σ H E I hf st hg
  subst hP hw hK
  obtain⟨xs,ys,x,y,hq,hq2,hx,hy⟩:=hg
  obtain⟨its,rv,p,_⟩:=I.tuple hq
  obtain⟨jts,rw',p2,_⟩:=I.tuple hq2
  obtain⟨u,hu,ru⟩:=rv.get hx
  obtain⟨v,hv,rv'⟩:=rw'.get hy
  obtain⟨a1,a2,a3,a4,a5⟩:=id st
  have lt: ∀b∈ [z,TI,TO,i1,i2],b≠s.heap.objs.size:=fun b hb=>let ⟨_,e,_⟩:=there st b hb;G0R (G0n e)
  have l1' :i<its.toArray.size:=by have:=(G0m.mp hu).1;simpa using this
  have l2' :i<jts.toArray.size:=by have:=(G0m.mp hv).1;simpa using this
  refine jg3 (I.ok.hd hc) ap n1 n2 i12 a1 a2 a3 p p2 a4 a5 (fun x' y' h' tk hx' hy' kept new zip it out w1 w2=>⟨_,rfl,?_⟩) fun ends=>absurd ends (by omega)
  have ex:x' =u:=by simp only [G39] at hx';rw [hu] at hx';cases hx';rfl
  have ey:y' =v:=by simp only [G39] at hy';rw [hv] at hy';cases hy';rfl
  subst ex ey
  refine jnD (s:= {s with heap:=h',toks:=tk}) zip fun h2 zip2 off=> ?_
  have hn:H s.heap.objs.size=none:=I.hok.fresh (G0f _)
  have nz: ∀ {b},b≠z→b ∉ [z]:=fun h=>by simpa using h
  have T2:IsPair h2 s.heap.objs.size x' y' :=off.2 _ _ (nz (lt z (by simp)).symm) new
  refine⟨.ref s.heap.objs.size,upd H s.heap.objs.size (.tup [x,y]),?_,rfl,⟨_,x,y,hn,fun ws hw=>by rw [I.tuple_inj hw hq];exact hx,fun ws hw=>by rw [I.tuple_inj hw hq2];exact hy,rfl,rfl⟩,
   ⟨zip2,off.2 _ _ (nz ap.zI.symm) it,let ⟨a,b,e⟩:=out;⟨a,b,off.2 _ _ (nz ap.zO.symm) e⟩,w1.at fun o e=>off.2 _ _ (nz ap.z1.symm) e,w2.at fun o e=>off.2 _ _ (nz ap.z2.symm) e⟩,fun b hb=> ?_⟩
  ·refine I.turnLaid (h' :=h2) (t' :=tk) (ch:= [z,TI,TO,i1,i2]) (fun b u hb q=>off.2 _ _ (fun y=>inW hb (by simp only [G0g] at y;simp [y])) (kept b u (inW hb) q)) hf (G0f _) ⟨by show 2≤sizeLine;decide,[x',y'],.cons ru (.cons rv' .nil),⟨_,T2,rfl,rfl,_,rfl⟩⟩
  ·rw [jan (lt b hb)];exact(hf b hb).1
 ·intro X hP hw hK hc i pins s σ H E I hf st hg
  subst hP hw hK
  obtain⟨xs,ys,hq,hq2,hl⟩:=hg
  obtain⟨its,rv,p,_⟩:=I.tuple hq
  obtain⟨jts,rw',p2,_⟩:=I.tuple hq2
  have e1:=rv.length
  have e2:=rw'.length
  obtain⟨a1,a2,a3,a4,a5⟩:=id st
  refine jg3 (I.ok.hd hc) ap n1 n2 i12 a1 a2 a3 p p2 a4 a5 (fun x' y' h' tk hx' hy' _ _ _ _ _ _ _=> ?_) fun _ h' tk kept=>⟨rfl,I.turnL (ch:= [z,TI,TO,i1,i2]) (fun b o hb q=>kept b o (inW hb) q) hf⟩
  have b1:=(G09.mp hx').1
  have b2:=(G09.mp hy').1
  simp only [G0u] at b1 b2
  omega
section
variable {X:Cx}
def jrC (K:PySem.W.Frag) (ta:TA):TI:=fun σ H R=>ta σ H fun vs H1=> ∃a b,vs= [.ref a,.ref b]∧(∃xs,SqT K H1 a xs)∧(∃ys,SqT K H1 b ys)∧R (Itz K a b) H1
theorem jpH {tg:Expr} {a b:Expr} {ta:TA} {p pos:Pos} (hg:Gl X "zip") (hm:X.mg "zip" =none) (ha:PA X [a,b] ta) (hs:starEach [a,b] X.env= [(false,eval a X.env),(false,eval b X.env)]:=by rfl) (hs2:starEach [b] X.env= [(false,eval b X.env)]:=by rfl):
 PI X tg (.Call (.Name "zip" p) [a,b] [] pos) (jrC X.K ta):=by
 intro pins s σ H R I h
 refine Call_ (jd4 I hg hm boot_zip (G1z (thn (ha pos pins s σ H _ I h) fun us s1 ⟨vs,H1,I1,r1,q1⟩=> ?_) (by rw [hs,hs2]) (by rw [hs2];rfl)))
 obtain⟨a,b,e,⟨xs,hq⟩,⟨ys,hq2⟩,q⟩:=q1
 subst e
 cases r1 with
 |cons r rr=>
  cases rr with
  |cons r' rr=>
   cases rr
   cases r
   cases r'
   obtain⟨its,rv,p,_⟩:=I1.tuple hq
   obtain⟨jts,rw',p2,_⟩:=I1.tuple hq2
   have la:a<s1.heap.objs.size:=by obtain⟨o,ho,_⟩:=p;exact G0n ho
   have lb:b<s1.heap.objs.size:=by obtain⟨o,ho,_⟩:=p2;exact G0n ho
   refine jg2 (show s1.heap.IsTuple a its.toArray from p) (show s1.heap.IsTuple b jts.toArray from p2) fun h' n en z1 z2 z3 z4 z5 hk=> ?_
   subst en
   refine jij z1 ⟨s1.heap.objs.size+4,[s1.heap.objs.size+4,s1.heap.objs.size+2,s1.heap.objs.size+3,s1.heap.objs.size,s1.heap.objs.size+1],_,_,H1,rfl,I1.kept (t' :=s1.toks) hk,
    jlz _ a b _ _ _ _ _ (jiX _) (jg4 la) (jg4 lb) (G0R (G14 _)),⟨z1,z2,z3,z4,z5⟩,fun c hc=> ?_,q⟩
   have hb' :s1.heap.objs.size≤c:=jly hc
   exact I1.fpOk hb' (I1.hok.fresh hb')
end
def jj5 (ds es:List D):List D:=(ds.zip es).map fun p=> .tup [p.1,p.2]
def iZ (ta:TAD):TID:=fun σ h R=>ta σ h fun xs h1=> ∃ds es,xs= [.tup ds,.tup es]∧R (fun _=>some (jj5 ds es)) h1
theorem jlA {ds es:List D} {i:Nat} {d:D} (h:(jj5 ds es)[i]? =some d): ∃x y,ds[i]? =some x∧es[i]? =some y∧d= .tup [x,y]:=by
 unfold jj5 at h
 rw [G0i] at h
 cases q:(ds.zip es)[i]? with
 |none=>rw [q] at h;cases h
 |some p=>
  rw [q] at h
  obtain⟨x,y⟩:=p
  rw [List.getElem?_zip_eq_some] at q
  exact⟨x,y,q.1,q.2,(G1a h).symm⟩
section
variable {K:PySem.W.Frag}
theorem jlB {H:Hp} {a b:Addr} {vs us:List V} {ds es:List D} (hv:H a=some (.tup vs)) (r:RelDs K H ds vs) (hu:H b=some (.tup us)) (ru:RelDs K H es us):jmh K H (fun _=>some (jj5 ds es)) (Itz K a b):=fun H' h' k rh ds' e i=>by
 cases e
 have hv' :=k.tup _ _ hv
 have hu' :=k.tup _ _ hu
 have r' :=r.mono k
 have ru' :=ru.mono k
 refine⟨fun d hd=> ?_,fun hl=>⟨vs,us,SqT.of hv',SqT.of hu',?_⟩⟩
 ·obtain⟨x,y,hx,hy,ed⟩:=jlA hd
  subst ed
  obtain⟨v,e1,e2⟩:=r'.get hx
  obtain⟨u,e3,e4⟩:=ru'.get hy
  refine⟨⟨vs,us,v,u,SqT.of hv',SqT.of hu',e1,e3⟩,fun x' H'' ⟨p,v',u',hp,hx',hy',ex,eH⟩=> ?_⟩
  subst ex eH
  have ev:v' =v:=by have:=hx' vs (SqT.of hv');rw [e1] at this;exact(G1a this).symm
  have eu:u' =u:=by have:=hy' us (SqT.of hu');rw [e3] at this;exact(G1a this).symm
  subst ev eu
  have k2:Kept H' (upd H' p (.tup [v',u'])):= .new hp
  exact⟨k2,RelH.new rh hp,p,[v',u'],rfl,jap,_,_,rfl,e2.mono k2,_,_,rfl,e4.mono k2,rfl⟩
 ·have l1:=r.length
  have l2:=ru.length
  unfold jj5 at hl
  rw [G0c,G3s] at hl
  omega
theorem jpI {ta:TAD}: ∀σ H R,LI K (iZ ta) σ H R→jrC K (LA K ta) σ H R:=fun σ H R ⟨σd,h,Rd,rs,rh,q,p⟩=>
 LA.bind rs rh q fun ds vs h1 H1 k1 rs1 rh1 r1 ⟨es,fs,e,q1⟩=>by
  subst e
  obtain⟨v,w,e,r2,r3⟩:=jcO r1
  obtain⟨a,ws,e',hv,r⟩:=(show ∃a vs,v= .ref a∧H1 a=some (.tup vs)∧RelDs K H1 es vs from r2)
  obtain⟨b,us,e'',hu,r'⟩:=(show ∃a vs,w= .ref a∧H1 a=some (.tup vs)∧RelDs K H1 fs vs from r3)
  subst e' e''
  exact⟨a,b,e,⟨ws,SqT.of hv⟩,⟨us,SqT.of hu⟩,p _ _ _ _ k1 rh1 (jlB hv r hu r') q1⟩
end
section
variable {X:Cx}
theorem jik {tg:Expr} {a b:Expr} {ta:TAD} {p pos:Pos} (hg:Gl X "zip") (hm:X.mg "zip" =none) (ha:JA X [a,b] ta) (hs:starEach [a,b] X.env= [(false,eval a X.env),(false,eval b X.env)]:=by rfl) (hs2:starEach [b] X.env= [(false,eval b X.env)]:=by rfl):
 JI X tg (.Call (.Name "zip" p) [a,b] [] pos) (iZ ta):=⟨(jpH hg hm ha.to hs hs2).imp jpI⟩
end
def inE (neg:Bool):RD2:=fun x y h Q=> ∃ (p:PyData) (ps:List PyData),ToP h x p∧(ToP h y (.list ps)∨ToP h y (.tuple ps))∧p.canLay0=true∧PyData.canLayAll0 ps=true∧p.depth≤60∧Q (.bl (neg !=ps.any fun z=>PyData.eqv z p)) h
section
variable {X:Cx}
theorem jpJ (hu:X.A.units+64<cLine):OpQ X (compareOp .In) (inE false):=by
 intro pins s σ H x y v u Q I rx ry h
 obtain⟨dx,dy,h,Qd,r1,r2,rh,⟨p,ps,t1,t2,c1,c2,c3,qq⟩,post⟩:=h
 obtain⟨as,a1⟩:=jce I rh t1 r1 rx
 have hu' :X.A.units+1+min (PyData.depthAll ps) p.depth<cLine:=by have:=G3W (PyData.depthAll ps) p.depth;omega
 have q' :Qd (.bl (ps.any fun z=>PyData.eqv z p)) h:=by simpa using qq
 rcases t2 with t2|t2
 ·obtain⟨bs,b1⟩:=jce I rh t2 r2 ry
  exact in_list_reads b1 a1 c2 c1 hu' ⟨.bl _,H,I,rfl,post (.bl _) _ _ _ (.refl H) rh rfl q'⟩
 ·obtain⟨bs,b1⟩:=jce I rh t2 r2 ry
  exact in_tuple_reads b1 a1 c2 c1 hu' ⟨.bl _,H,I,rfl,post (.bl _) _ _ _ (.refl H) rh rfl q'⟩
end
def jq9 (i:Nat) (f:Int→Int→Int) (te:TED):TSD:=fun D σ h=> ∃x:Int,σ[i]? =some (some (.int x))∧te σ h fun y h1=> ∃j:Int,y= .int j∧D.nx (σ.set i (some (.int (f x j)))) h1
theorem jmq {K:PySem.W.Frag} {i:Nat} {f:Int→Int→Int} {te:TED}: ∀D σ H,LS K (jq9 i f te) D σ H→jqt i (LE K te) (ipI f) D σ H:=fun D σ H ⟨σd,h,Dd,rs,rh,⟨x,hx,q⟩,nx,rt,bk,ct⟩=>by
 obtain⟨v,e1,r1⟩:=rs.2 i _ hx
 cases (show v= .int x from r1)
 exact⟨_,e1,LE.bind rs rh q fun d u h1 H1 k1 rs1 rh1 r1 ⟨j,e,q1⟩=>by
  subst e
  cases (show u= .int j from r1)
  exact⟨x,j,rfl,rfl,nx _ _ _ _ k1 (rs1.set (d:= .int (f x j)) rfl i) rh1 q1⟩⟩
section
variable {X:Cx} {i:Nat} {x:Str} {e:Expr} {te:TED} {pos pos' :Pos}
theorem jj6 (hN:X.N.Nodup) (hi:X.N[i]? =some x) (hx:Loc X.env.scope x) (he:JE X e te) (hf:X.fn x=true∨X.env.scope.names.lookup x=some .local:=by first|exact .inl rfl|exact .inr rfl|assumption):JS X (.AugAssign (.Name x pos') .Add e pos) (jq9 i (fun a b=>a+b) te):=⟨(jjo hN hi hx he.to joz hf).imp jmq⟩
theorem jj7 (hN:X.N.Nodup) (hi:X.N[i]? =some x) (hx:Loc X.env.scope x) (he:JE X e te) (hf:X.fn x=true∨X.env.scope.names.lookup x=some .local:=by first|exact .inl rfl|exact .inr rfl|assumption):JS X (.AugAssign (.Name x pos') .Sub e pos) (jq9 i (fun a b=>a-b) te):=⟨(jjo hN hi hx he.to joA hf).imp jmq⟩
end
end L2
namespace L2
open PySem PySem.Spec PyProof.Rows
structure ShowOk (p:PyData):Prop where
 sh:p.showable=true
 dp:p.depth≤60
 ln:p.shown.length≤sizeLine
structure ShowB (p:PyData) (k b:Nat):Prop where
 sh:p.showable=true
 dp:p.depth≤k
 ln:p.shown.length≤b
end L2
namespace HT
open PySem PySem.Spec PyProof.Rows
open AutoSeq1 (wpAny_loadPart')
section
variable {prog:Program} {w:World} {A:Around} {E:Value→Shared→Prop} {s:Shared}
structure RangeOf (h:Heap) (r:Addr) (a b c:Int) (n:Nat):Prop where
 at_: ∃t u v,IsRange h r a b c t u v
 small:Builtin.Range.small a b c=true
 many:Builtin.Range.rangeSize a b c=n
 fits:n≤2^24
end
end HT
namespace L2
open PySem PySem.Spec PyProof.Rows PySem.SeqAt
theorem jlC {X:Cx} (hu:X.A.units+64<cLine):MtM X "list.index" (fun x vs H Q=> ∃ (a:Addr) (y:V) (dy:D) (h:HD) (p:PyData) (ps:List PyData) (j:Nat) (z:PyData),x= .ref a∧vs= [y]∧RelD X.K H dy y∧RelH X.K h H∧ToP h (.lst a) (.list ps)∧ToP h dy p∧p.canLay0=true∧PyData.canLayAll0 ps=true∧p.depth≤60∧j<1000000∧ps[j]? =some z∧PyData.eqv z p=true∧(∀m y,m<j→ps[m]? =some y→PyData.eqv y p=false)∧Q (.int (j:Int)) H):=by
 intro pins s σ H x vs v us Q I rx rv h
 obtain⟨a,y,dy,h,p,ps,j,z,rfl,rfl,rd,rh,t1,t2,c1,c2,c3,hj,hz,hit,hno,q⟩:=h
 cases rx
 obtain⟨u,rfl,ru⟩:=jeb rv
 obtain⟨a',ds,ea,ha,ts⟩:=(show ∃a' ds,D.lst a= .lst a' ∧h a' =some ds∧ToPs h ds ps from t1)
 cases ea
 obtain⟨ws,hH,_⟩:=rh a ds ha
 obtain⟨as,r1⟩:=jce I rh t1 (show RelD X.K H (.lst a) (.ref a) from ⟨rfl,ws,hH⟩) (show RelV (.ref a) (.ref a) from rfl)
 obtain⟨bs,r2⟩:=jce I rh t2 rd ru
 cases r1 with
 |list h1 h2 h3 h4=>
  rename_i o its n cs
  have em:=readsAll_map ps _ _ c2 h4
  have gm: ∀m (hm:m<its.size),ps[m]? =some (readOf s.heap its[m]):=fun m hm=>by
   rw [←em,G0i,G0F,G1W hm];rfl
  have hlen:its.size=ps.length:=by rw [←em,G0c,G0j]
  have hjs:j<its.size:=by rw [hlen];exact(G0m.mp hz).1
  have hu' :X.A.units+1+min (PyData.depthAll ps) p.depth<cLine:=by have:=G3W (PyData.depthAll ps) p.depth;omega
  obtain⟨oc,od,odt,osl⟩:=o
  simp only at h2 h3
  subst h2 h3
  refine G4e F.slot_list_index ⟨_,h1,rfl⟩ F.entry_list_index (F.args_list_index_2 _ _) (list_indexAt a its n od osl u (fun y=>PyData.eqv (readOf s.heap y) p) j hjs (by omega) ?_ ?_) ⟨h1,items_eqAt h4 r2 c2 c1 hu',?_⟩
  ·have:=gm j hjs
   rw [hz] at this;injection this with this
   rw [←this];exact hit
  ·intro m hm hmj;exact hno m _ hmj (gm m hm)
  ·exact⟨.int (j:Int),H,I.tok _,⟨_,rfl⟩,q⟩
def jse (to te:TED):TED:=fun σ h Q=>to σ h fun x h1=> ∃a,x= .lst a∧te σ h1 fun y h2=> ∃ (p:PyData) (ps:List PyData) (j:Nat) (z:PyData),ToP h2 (.lst a) (.list ps)∧ToP h2 y p∧p.canLay0=true∧PyData.canLayAll0 ps=true∧p.depth≤60∧j<1000000∧ps[j]? =some z∧PyData.eqv z p=true∧(∀m y,m<j→ps[m]? =some y→PyData.eqv y p=false)∧Q (.int (j:Int)) h2
section
variable {X:Cx} {o e i:Expr} {to te ti:TED} {apos cpos:Pos}
theorem jsf (hu : X.A.units + 64 < cLine) (ho : JE X o to) (he : JE X e te) (hbase : attributeBase o "index" X.env (eval o X.env) = eval o X.env := by rfl)
    (hfew : ((backTo cpos (starEach [e] X.env)).all (fun x => !x.1) && (backToKw cpos (keywordEach [] X.env)).all (fun x => x.1.isSome) && decide ([e].length + ([] : List Keyword).length + (if ([] : List Keyword).isEmpty then 0 else 1) < 30)) = true := by rfl)
    (hline : (apos.endLine == cpos.line) = true := by rfl) (hs : starEach [e] X.env = (false, eval e X.env) :: starEach [] X.env := by rfl) (hplain : (backTo cpos (starEach [] X.env)).any (·.1) = false := by rfl) :
    JE X (.Call (.Attribute o "index" apos) [e] [] cpos) (jse to te) :=
  ⟨(joR G3S PySem.F.slot_list_index PySem.F.type_list_index (jlC hu) ho.to (jc8 he.to pa_nil hs) hbase hfew hline hs hplain).imp
    fun σ H Q ⟨σd, h, Qd, rs, rh, t, p⟩ => LE.bind rs rh t fun d v h1 H1 k1 rs1 rh1 r1 ⟨a, e, q⟩ => by
      subst e
      obtain ⟨e1, vs, hH⟩ := (show v = .ref a ∧ ∃ vs, H1 a = some (.lst vs) from r1)
      subst e1
      refine ⟨.inl ⟨rfl, vs, SqL.of hH⟩, ?_⟩
      refine LE.bind rs1 rh1 q fun y u h2 H2 k2 rs2 rh2 r2 ⟨pd, ps, j, z, t1, t2, c1, c2, c3, hj, hz, hit, hno, q2⟩ => ?_
      exact ⟨a, u, y, h2, pd, ps, j, z, rfl, rfl, r2, rh2, t1, t2, c1, c2, c3, hj, hz, hit, hno, p (.int _) _ _ _ (k1.trans k2) rh2 rfl q2⟩⟩
end
section
variable {α:Type} {i i' :Nat} {js:List Nat} {ti:TID} {te:TED} {σ:SD} {h:HD} {Q:KD} {j:ItD}
theorem jsg (xs:List α) (c c' g:α→D) (hz:xs.length≤1000) (hj:j h=some (xs.map fun x=> .tup [c x,c' x])) (ht: ∀R:ItD→HD→Prop,R j h→ti σ h R)
 (he: ∀x∈xs,∀Q' :KD,Q' (g x) h→te (((ja8 js σ).set i (some (c x))).set i' (some (c' x))) h Q') (hq: ∀p,h p=none→Q (.lst p) (jb2 h p (xs.map g))):jda (b2 i i') js ti je3 te σ h Q:=by
 refine ht _ ⟨xs.length,fun k ys h' =>h' =h∧ys=(xs.take k).map g,⟨rfl,by simp⟩,?_⟩
 rintro k ys h' ⟨rfl,rfl⟩
 refine⟨by simp only [G0c,G0v];exact G1j (jaK (by omega)),_,hj,by simp,fun hl p hp=> ?_,fun d hd=> ?_⟩
 ·rw [G0T (by simpa using hl)];exact hq p hp
 ·rw [G0i] at hd
  cases hx:xs[k]? with
  |none=>rw [hx] at hd;cases hd
  |some x=>
   rw [hx] at hd;cases hd
   refine⟨_,⟨_,_,rfl,rfl⟩,?_⟩
   unfold je3
   dsimp only
   rw [if_pos rfl]
   refine he x (G0h hx) _ ⟨h',Sub.refl _,rfl,?_⟩
   rw [G1u,hx]
   simp
theorem jpK (xs:List α) (c c' :α→D) (g:α→Bool) (hz:xs.length≤1000) (hj:j h=some (xs.map fun x=> .tup [c x,c' x])) (ht: ∀R:ItD→HD→Prop,R j h→ti σ h R)
 (he: ∀x∈xs,∀Q' :KD,Q' (.bl (g x)) h→te (((ja8 js σ).set i (some (c x))).set i' (some (c' x))) h Q') (hq:Q (.bl (xs.all g)) h):dCB jpm (ja9 (jda (b2 i i') js ti je3 te) jc6) σ h Q:=by
 show jda (b2 i i') js ti je3 te σ h (fun x h1=>jpm [x] h1 Q)
 exact jsg xs c c' (fun x=> .bl (g x)) hz hj ht he fun p hp=>⟨p,xs.map g,rfl,by rw [jad,G0S];rfl,by rw [jbs hp,G2c];exact hq⟩
end
def IsS (n:Nat) (S:List Nat):Prop:= ∃p:Nat→Bool,S=(List.range n).filter p
theorem IsS.lt {n:Nat} {S:List Nat} (h:IsS n S) {i:Nat} (hi:i∈S):i<n:=by
 obtain⟨p,rfl⟩:=h
 exact G0x.mp (G1Y.mp hi).1
theorem IsS.len {n:Nat} {S:List Nat} (h:IsS n S):S.length≤n:=by
 obtain⟨p,rfl⟩:=h
 have:=G2C p (List.range n)
 rwa [G0A] at this
theorem IsS.rise {n:Nat} {S:List Nat} (h:IsS n S):S.Pairwise (· < ·):=by
 obtain⟨p,rfl⟩:=h
 exact List.pairwise_lt_range.filter p
def jaZ (n:Nat) (T:List (List Int)) (S:List Nat):List Nat:=(List.range n).filter fun j=>S.any fun i=>decide (ent T i j≠0)
theorem IsS.step {n:Nat} (T:List (List Int)) (S:List Nat):IsS n (jaZ n T S):=⟨_,rfl⟩
def itF {α:Type} (f:α→α) (x:α):Nat→α
 |0=>x
 |k+1=>f (itF f x k)
theorem jf2 {α:Type} (f:α→α) (x:α) (a:Nat): ∀b,itF f x (a+b)=itF f (itF f x a) b
 |0=>rfl
 |b+1=>by show f (itF f x (a+b))=f (itF f (itF f x a) b);rw [jf2 f x a b]
theorem jg5 {α:Type} {f:α→α} {x:α} {a p:Nat} (e:itF f x (a+p)=itF f x a) (r:Nat): ∀q,itF f x (a+p*q+r)=itF f x (a+r)
 |0=>by simp
 |q+1=>by
  have h1:a+p*(q+1)+r=(a+p)+(p*q+r):=by rw [Nat.mul_succ];omega
  rw [h1,jf2,e,←jf2,←G2U,jg5 e r q]
theorem jnE {α:Type} {f:α→α} {x:α} {a m k:Nat} (e:itF f x m=itF f x a) (ha:a<m) (hk:a≤k):itF f x (a+(k-a)%(m-a))=itF f x k:=by
 have e' :itF f x (a+(m-a))=itF f x a:=by rw [show a+(m-a)=m by omega];exact e
 have h:=jg5 e' ((k-a)%(m-a)) ((k-a) / (m-a))
 have h2:=Nat.div_add_mod (k-a) (m-a)
 rw [show a+(m-a)*((k-a) / (m-a))+(k-a)%(m-a)=k by omega] at h
 exact h.symm
theorem IsS.it {n:Nat} {T:List (List Int)} {S:List Nat} (h:IsS n S): ∀k,IsS n (itF (jaZ n T) S k)
 |0=>h
 |_+1=>IsS.step _ _
theorem jeL {α:Type} [DecidableEq α]: ∀ {l m:List α},l.Nodup→(∀x∈l,x∈m)→l.length≤m.length
 | [],_,_,_=>G1c _
 |a::l,m,nd,h=>by
  have hm:=h a G0p
  have h2:l.length≤(m.erase a).length:=jeL (G1K.mp nd).2 fun x hx=>by
   have hxa:x≠a:=fun e=>(G1K.mp nd).1 (e ▸ hx)
   exact(G2I hxa).mpr (h x (G0s _ hx))
  rw [G2n hm] at h2
  have:=G2v hm
  simp only [G0k];omega
def je4:Nat→List (List Nat)
 |0=> [[]]
 |n+1=>je4 n++(je4 n).map (· ++ [n])
theorem jg6: ∀n,(je4 n).length=2^n
 |0=>rfl
 |n+1=>by
  show (je4 n++(je4 n).map (· ++ [n])).length=_
  rw [G0e,G0c,jg6 n,G1B];omega
theorem jeM (p:Nat→Bool): ∀n,(List.range n).filter p∈je4 n
 |0=>by simp [je4]
 |n+1=>by
  rw [G2o,G3A]
  show _∈je4 n++(je4 n).map (· ++ [n])
  cases e:p n with
  |true=>
   refine G0z.mpr (.inr (G0D.mpr ⟨_,jeM p n,?_⟩))
   simp [e]
  |false=>
   refine G0z.mpr (.inl ?_)
   have: [n].filter p= []:=by simp [e]
   rw [this,G1J];exact jeM p n
theorem jlD {n:Nat} (h6:n≤6) {l:List (List Nat)} (nd:l.Nodup) (hS: ∀S∈l,IsS n S):l.length≤64:=by
 have h:=jeL nd (m:=je4 n) fun S hs=>by obtain⟨p,rfl⟩:=hS S hs;exact jeM p n
 rw [jg6] at h
 exact G01 h (G2H (by decide) h6:2^n≤2^6)
def jc5 (S:List Nat):PyData:=jmo (jhG S)
theorem jcR (h:HD) (S:List Nat):ToP h (jaE S) (jc5 S):=by rw [jnw];exact⟨_,rfl,jdA h _⟩
theorem jdB (h:HD): ∀Ss:List (List Nat),ToPs h (Ss.map jaE) (Ss.map jc5)
 | []=>rfl
 |S::Ss=>⟨_,_,rfl,jcR h S,jdB h Ss⟩
theorem jcn (r:List Int):(jmo r).canLay0=true:=by unfold jmo;simp only [PyData.canLay0];exact jdg r
theorem jdk: ∀Ss:List (List Nat),PyData.canLayAll0 (Ss.map jc5)=true
 | []=>rfl
 |S::Ss=>by show (PyData.canLay0 (jc5 S)&&_)=true;rw [jdk Ss];rw [show (jc5 S).canLay0=true from jcn _];rfl
theorem jcS (r:List Int):(jmo r).depth≤2:=by unfold jmo;simp only [PyData.depth];have:=jdS r;omega
theorem jfs: ∀a b:List Int,PyData.eqvAll (a.map PyData.int) (b.map PyData.int)=decide (a=b)
 | [],[]=>by simp [PyData.eqvAll]
 | [],_::_=>by simp [PyData.eqvAll]
 |_::_,[]=>by simp [PyData.eqvAll]
 |x::a,y::b=>by
  show ((x==y)&&PyData.eqvAll (a.map .int) (b.map .int))=_
  rw [jfs a b,G1Z]
  simp
theorem jnF (a b:List Int):PyData.eqv (jmo a) (jmo b)=decide (a=b):=jfs a b
theorem jj8 {a b:List Nat} (h:jhG a=jhG b):a=b:=by
 have:=congrArg (List.map Int.toNat) h
 unfold jhG at this
 simpa [G0S,G2G] using this
theorem jdl (a b:List Nat):PyData.eqv (jc5 a) (jc5 b)=decide (a=b):=by
 unfold jc5
 rw [jnF,G1Z,G1A,G1A]
 exact⟨jj8,fun e=>by rw [e]⟩
theorem jdU (r:List Int):shaped (jmo r)=true:=by
 unfold shaped
 rw [jcn,G0r (by have:=jcS r;omega)];rfl
theorem jpL {a b:List Nat} {h:HD} {Q:KD} (e:a=b) (q:Q (.bl false) h):neE (jaE a) (jaE b) h Q:=by
 subst e
 exact⟨_,_,jcR h a,jcR h a,jdU _,jdU _,by rw [jdl,G0r rfl];exact q⟩
theorem jnG {neg:Bool} {S:List Nat} {Ss:List (List Nat)} {a:Addr} {h:HD} {Q:KD} (ha:h a=some (Ss.map jaE)) (q:Q (.bl (neg !=decide (S∈Ss))) h):inE neg (jaE S) (.lst a) h Q:=by
 refine⟨jc5 S,Ss.map jc5,jcR h S,.inl ⟨a,_,rfl,ha,jdB h Ss⟩,jcn _,jdk Ss,G01 (jcS _) (by decide),?_⟩
 have e:((Ss.map jc5).any fun z=>PyData.eqv z (jc5 S))=decide (S∈Ss):=by
  rw [G1Z,G4u,G3Y,G1A]
  constructor
  ·rintro ⟨x,hx,e⟩
   have:x=S:=by simpa [G1T,jdl] using e
   rw [←this];exact hx
  ·intro hi;exact⟨S,hi,by simp [G1T,jdl]⟩
 rw [e];exact q
theorem jnH {S:List Nat} {Ss:List (List Nat)} {a:Addr} {h:HD} {Q:KD} (ha:h a=some (Ss.map jaE)) (hS:S∈Ss) (hl:Ss.length≤1000) (q:Q (.int ((Ss.idxOf S:Nat):Int)) h):
 ∃ (p:PyData) (ps:List PyData) (j:Nat) (z:PyData),ToP h (.lst a) (.list ps)∧ToP h (jaE S) p∧p.canLay0=true∧PyData.canLayAll0 ps=true∧p.depth≤60∧j<1000000∧ps[j]? =some z∧PyData.eqv z p=true∧(∀m y,m<j→ps[m]? =some y→PyData.eqv y p=false)∧Q (.int (j:Int)) h:=by
 have hj:=G3K.mpr hS
 refine⟨jc5 S,Ss.map jc5,Ss.idxOf S,jc5 S,⟨a,_,rfl,ha,jdB h Ss⟩,jcR h S,jcn _,jdk Ss,G01 (jcS _) (by decide),by omega,?_,by rw [jdl,G0r rfl],fun m y hm hy=> ?_,q⟩
 ·rw [G0i,G0b hj,List.getElem_idxOf hj];rfl
 ·rw [G0i] at hy
  have hml:m<Ss.length:=by omega
  rw [G0b hml] at hy
  cases hy
  rw [jdl]
  have:=List.not_of_lt_findIdx (p:=(· ==S)) (xs:=Ss) hm
  simpa using this
theorem jg7 {α:Type} {f:Nat→α} {L:Nat} (h:1≤L):atI ((List.range L).map f) (-1)=some (f (L-1)):=by
 unfold atI ixN
 rw [G0c,G0A,if_neg (by decide),if_pos (by omega)]
 show ((List.range L).map f)[(-1+(L:Int)).toNat]? =_
 rw [show (-1+(L:Int)).toNat=L-1 by omega,G0i,G1F (by omega)];rfl
theorem jj9 {α:Type} {f:Nat→α} {L i:Nat} (h:i<L):atI ((List.range L).map f) (i:Int)=some (f i):=
 jcc (by rw [G0i,G1F h];rfl)
theorem jnI {α:Type} (xs:List α):jeX xs (some 1) none=xs.drop 1:=by
 unfold jeX
 cases xs with
 |nil=>simp
 |cons x xs=>simp [HT.sIx]
theorem jf3 (S:List Nat):jj5 (S.map fun (k:Nat)=>D.int (k:Int)) (jeX (S.map fun (k:Nat)=>D.int (k:Int)) (some 1) none)=(S.zip (S.drop 1)).map fun p=>D.tup [.int (p.1:Int),.int (p.2:Int)]:=by
 rw [jnI]
 unfold jj5
 rw [←G4q,List.zip_map,G0S];rfl
theorem jil: ∀ {S:List Nat},S.Pairwise (· < ·)→ ∀p∈S.zip (S.drop 1),p.1<p.2
 | [],_,p,hp=>by simp at hp
 | [a],_,p,hp=>by simp at hp
 |a::b::l,h,p,hp=>by
  have h' :=G1y.mp h
  rcases G0C.mp (show p∈(a,b)::(b::l).zip ((b::l).drop 1) from hp) with e|e
  ·subst e;exact h'.1 b G0p
  ·exact jil h'.2 p e
structure Enc {α:Type} [DecidableEq α] (e:α→D) (p:α→PyData):Prop where
 to: ∀ (h:HD) a,ToP h (e a) (p a)
 lay: ∀a,(p a).canLay0=true
 dp: ∀a,(p a).depth≤60
 eq: ∀a b,PyData.eqv (p a) (p b)=decide (a=b)
section
variable {α:Type} [DecidableEq α] {e:α→D} {p:α→PyData}
theorem Enc.lays (E:Enc e p): ∀as:List α,PyData.canLayAll0 (as.map p)=true
 | []=>rfl
 |a::as=>by show (PyData.canLay0 (p a)&&_)=true;rw [E.lays as,E.lay a];rfl
end
def mk1 (n:Nat) (T:List (List Int)) (M:List (List Int)):List (List Int):=jf0 n (jfq n M T)
def jra (n:Nat) (T:List (List Int)) (i:Nat):List (List Int):=itF (mk1 n T) (jf0 n T) i
def RP (n:Nat) (T:List (List Int)) (k i j:Nat):Prop:=ent (jfr n T k) i j≠0
section
variable {n e:Nat} {T:List (List Int)}
structure Course (n:Nat) (T:List (List Int)) (L J:Nat):Prop where
 nd:((List.range L).map (jra n T)).Nodup
 lt:J<L
 eq:jra n T L=jra n T J
end
structure Grid (n:Nat) (h0 h:HD) (p R:Addr) (rs:List Addr):Prop where
 at_:h R=some (rs.map D.lst)
 len:rs.length=n
 nR:R ∉ rs
 fR:h0 R=none
 np:p ∉ rs
 nRp:R≠p
 row: ∀a∈rs,h0 a=none∧ ∃r,h a=some (r.map D.int)∧jfZ n r
theorem call_divmodB {X:Cx}:CallR X (.builtin "divmod") (fun xs H Q=> ∃i j,xs= [.int i,.int j]∧(0<j∧j<2^200)∧ ∀p,H p=none→Q (.ref p) (upd H p (.tup [.int (i / j),.int (i%j)]))):=by
 intro pins s σ H xs us Q I r h
 obtain⟨i,j,rfl,⟨h1,h2⟩,q⟩:=h
 obtain⟨u,w',rfl,⟨t,rfl⟩,⟨t',rfl⟩⟩:=jmR r
 refine divmod_int (by omega) ?_ (.inl (PyProof.noPylong_of_log2 ?_))
 ·rw [G3t i (by omega),G3u i (by omega)]
  have hn:H s.heap.objs.size=none:=I.hok.fresh (G0f _)
  refine⟨.ref s.heap.objs.size,_,?_,rfl,q _ hn⟩
  refine I.laid (fun b o e=>G0a _ e) (G0f _) ⟨by simp only [G0k,G0I];rw [sizeLine_eq];decide,[.int (i / j) s.toks,.int (i%j) (s.toks+1)],.cons ⟨_,rfl⟩ (.cons ⟨_,rfl⟩ .nil),?_⟩
  exact⟨_,G0q s.heap rfl,rfl,rfl,0,rfl⟩
 ·have h3:j.natAbs<2^200:=jeG (by omega) h2
  have h4:=(Nat.log2_lt (by omega:j.natAbs≠0)).mpr h3
  omega
def jnJ:RDn:=fun ds h Q=> ∃i j:Int,ds= [.int i,.int j]∧(0<j∧j<2^200)∧Q (.tup [.int (i / j),.int (i%j)]) h
theorem jiY {X:Cx}:jdQ X (.builtin "divmod") jnJ:=call_divmodB.imp fun xs H Q ⟨ds,h,Qd,r,rh,⟨i,j,e,c,q⟩,p⟩=>by
 subst e
 obtain⟨v,w,e,r1,r2⟩:=jcO r
 cases (show v= .int i from r1)
 cases (show w= .int j from r2)
 exact⟨i,j,e,c,fun a ha=>p (.tup [.int (i / j),.int (i%j)]) _ _ _ (.new ha) (rh.new ha) ⟨a,_,rfl,jap,.cons rfl (.cons rfl .nil)⟩ q⟩
structure TabsOk (n:Nat) (Ts:List (List (List Int))):Prop where
 n1:1≤n
 n3:n≤3
 l1:1≤Ts.length
 l3:Ts.length≤3
 sq: ∀T∈Ts,Sq n 20 T
def jbK (d:D) (a b:Int):Bool:=match d with
 | .int x=>decide (a≤x)&&decide (x≤b)
 |_=>false
def jdm (d:D) (m:Int):Bool:=match d with
 | .tup es=>es.all fun x=>jbK x 0 (m-1)
 |_=>false
def jrD (d:D) (m lo hi:Int):Bool:=match d with
 | .tup es=>(es.all fun x=>jbK x 0 (m-1))&&(decide (lo≤(es.length:Int))&&decide ((es.length:Int)≤hi))
 |_=>false
def jiZ:D→Nat
 | .int x=>x.toNat
 |_=>0
def jbN:D→List Nat
 | .tup es=>es.map jiZ
 |_=> []
theorem jlE {d:D} {m:Nat} {lo hi:Int} (h:jrD d m lo hi=true):d=jaE (jbN d)∧(∀i∈jbN d,i<m)∧lo≤((jbN d).length:Int)∧((jbN d).length:Int)≤hi:=by
 cases d with
 |tup es=>
  simp only [jrD,G1q,G05,G1A] at h
  obtain⟨h1,h2,h3⟩:=h
  have key: ∀x∈es,x= .int ((jiZ x:Nat):Int)∧jiZ x<m:=fun x hx=>by
   have:=h1 x hx
   cases x with
   |int y=>
    simp only [jbK,G1q,G1A] at this
    refine⟨by show D.int y=D.int ((y.toNat:Nat):Int);rw [G2s this.1],by show y.toNat<m;omega⟩
   |_=>exact Bool.noConfusion this
  refine⟨?_,fun i hi=> ?_,by simpa [jbN] using h2,by simpa [jbN] using h3⟩
  ·show D.tup es=D.tup ((es.map jiZ).map fun (k:Nat)=>D.int (k:Int))
   rw [G0S]
   congr 1
   conv=>lhs;rw [←G4l es]
   exact G0O fun x hx=>(key x hx).1
  ·obtain⟨x,hx,e⟩:=G0D.mp hi
   rw [←e];exact(key x hx).2
 |_=>exact Bool.noConfusion h
end L2
set_option maxRecDepth 35000
namespace L2
open PySem PySem.Spec PyProof.Rows PySem.SeqAt
def Sm (k b:Nat) (d:D):Prop:= ∃p:PyData,(∀h,ToP h d p)∧ShowB p k b∧p.canLay0=true
def bnd:Nat→Nat
 |0=>200
 |k+1=>(bnd k+2)*155+3
def SmK (k:Nat) (d:D):Prop:=Sm k (bnd k) d
structure SmN (n:Nat) (ds:List D):Prop where
 len:ds.length≤n
 sm: ∀d∈ds,SmK 1 d
theorem jft {d:D} {m:Nat} (h:jdm d m=true):d=jaE (jbN d)∧ ∀i∈jbN d,i<m:=by
 cases d with
 |tup es=>
  have:=jlE (d:= .tup es) (m:=m) (lo:=0) (hi:=(es.length:Int)) (by
   show ((es.all fun x=>jbK x 0 ((m:Int)-1))&&(decide ((0:Int)≤(es.length:Int))&&decide ((es.length:Int)≤(es.length:Int))))=true
   rw [show (es.all fun x=>jbK x 0 ((m:Int)-1))=true from h,G0r (by omega),G0r (by omega)];rfl)
  exact⟨this.1,this.2.1⟩
 |_=>exact Bool.noConfusion h
def jf4 (T:List (List Int)) (W:List Nat):Bool:= !W.isEmpty&&(W.zip (W.drop 1)).all fun p=>decide (ent T p.1 p.2>0)
def jdn (T:List (List Int)) (n:Nat) (d:D):Bool:=jdm d n&&jf4 T (jbN d)
section
variable {α:Type} {i i' :Nat} {js:List Nat} {ti:TID} {te:TED} {σ:SD} {h:HD} {Q:KD} {j:ItD}
theorem jsh (xs:List α) (c c' g:α→D) (p:α→Bool) {tt:TTD} (hz:xs.length≤1000) (hj:j h=some (xs.map fun x=> .tup [c x,c' x])) (ht: ∀R:ItD→HD→Prop,R j h→ti σ h R)
 (hp: ∀x∈xs,∀Q' :Bool→HD→Prop,Q' (p x) h→tt (((ja8 js σ).set i (some (c x))).set i' (some (c' x))) h Q') (he: ∀x∈xs,p x=true→ ∀Q' :KD,Q' (g x) h→te (((ja8 js σ).set i (some (c x))).set i' (some (c' x))) h Q') (hq: ∀a,h a=none→Q (.lst a) (jb2 h a ((xs.filter p).map g))):jda (b2 i i') js ti tt te σ h Q:=by
 refine ht _ ⟨xs.length,fun k ys h' =>h' =h∧ys=((xs.take k).filter p).map g,⟨rfl,by simp⟩,?_⟩
 rintro k ys h' ⟨rfl,rfl⟩
 refine⟨?_,_,hj,by simp,fun hl a ha=> ?_,fun d hd=> ?_⟩
 ·have:=G2C p (xs.take k)
  simp only [G0c,G0v] at this ⊢
  exact G1j (jaK (by omega))
 ·rw [G0T (by simpa using hl)];exact hq a ha
 ·rw [G0i] at hd
  cases hx:xs[k]? with
  |none=>rw [hx] at hd;cases hd
  |some x=>
   rw [hx] at hd;cases hd
   refine⟨_,⟨_,_,rfl,rfl⟩,?_⟩
   refine hp x (G0h hx) _ ?_
   cases hb:p x with
   |true=>
    rw [if_pos rfl]
    refine he x (G0h hx) hb _ ⟨_,Sub.refl _,rfl,?_⟩
    rw [G1u,hx];simp [hb]
   |false=>
    rw [if_neg (by decide)]
    refine⟨_,Sub.refl _,rfl,?_⟩
    rw [G1u,hx];simp [hb]
end
def Itv (K:PySem.W.Frag) (a:Addr) (n:Nat):It:=
 ⟨fun i H=>i<n∧ ∃xs x,SqL K H a xs∧xs[n-1-i]? =some x,fun i H x H' =>H' =H∧ ∀xs,SqL K H a xs→xs[n-1-i]? =some x,fun i _=>n≤i⟩
theorem jlF {P:Program} {w:World} {K:PySem.W.Frag} {tg:Expr} (a it:Addr) (n:Nat):Turn P w K tg (Itv K a n) [it] it (fun i h=>i≤n∧h.IsRevIter it a ((n:Int)-1-(i:Int))) where
 mem:=by simp
 obj:=fun i h st b hb=>by
  have e:b=it:=by simpa using hb
  subst e
  obtain⟨_,o,e,c,d⟩:=st
  exact⟨o,e,fun v z=>by rw [d] at z;cases z⟩
 keep:=fun i h h' st k=>⟨st.1,st.2.at fun o e=>k it (by simp) o e⟩
 item:=by
  intro X hP hw hK hc i pins s σ H E I hf st hg
  subst hP hw hK
  obtain⟨hi,xs,x,hq,hx⟩:=hg
  obtain⟨its,rv,p,hz⟩:=I.list hq
  obtain⟨u,hu,ru⟩:=rv.get hx
  obtain⟨f0,f1,f2,f3,f4,f5⟩:=hf it (by simp)
  have st2:s.heap.IsRevIter it a (((n-1-i:Nat):Nat):Int):=by
   have:=st.2
   rw [show ((n:Int)-1-(i:Int))=(((n-1-i:Nat):Nat):Int) by omega] at this
   exact this
  refine wpAny_pyNext_rev_item st2 p.isList (x:=u) (by simpa using hu) fun h' st' sb=> ?_
  have I1:Inv X pins σ H {s with heap:=h'}:=I.turned (t' :=s.toks) (fun b o hb e=>(sb.2 b hb).trans e) f0 f1 f3 f4 f5
  obtain⟨o,e,c,d⟩:=id st'
  refine⟨u,rfl,jkZ (s:= {s with heap:=h'}) e c d (by decide) ⟨x,H,I1,ru,⟨rfl,fun ys hy=>by rw [I.list_inj hy hq];exact hx⟩,⟨by omega,?_⟩,fun b hb=>(hf b hb).1⟩⟩
  rw [show ((n:Int)-1-((i+1:Nat):Int))=(((n-1-i:Nat):Nat):Int)-1 by omega]
  exact st'
 done:=by
  intro X hP hw hK hc i pins s σ H E I hf st hg
  subst hP hw hK
  have hg:n≤i:=hg
  obtain⟨f0,f1,f2,f3,f4,f5⟩:=hf it (by simp)
  have st2:s.heap.IsRevIter it a (-1):=by
   have:=st.2
   rw [show ((n:Int)-1-(i:Int))= -1 by have:=st.1;omega] at this
   exact this
  exact wpAny_pyNext_rev_end (I.ok.hd hc) st2 fun h' eb=>⟨rfl,I.turned (t' :=s.toks) (fun b o hb e=>eb b o hb e) f0 f1 f3 f4 f5⟩
 self:=fun _ _ _ _ _ st h=>wpAny_pyIter_revIter st.2 h
section
variable {X:Cx}
def jrE (K:PySem.W.Frag) (ta:TA):TI:=fun σ H R=>ta σ H fun vs H1=> ∃a xs,vs= [.ref a]∧SqL K H1 a xs∧R (Itv K a xs.length) H1
theorem jpM {tg:Expr} {a:Expr} {ta:TA} {p pos:Pos} (hg:Gl X "reversed") (hm:X.mg "reversed" =none) (ha:PA X [a] ta) (hs:starEach [a] X.env= [(false,eval a X.env)]:=by rfl):
 PI X tg (.Call (.Name "reversed" p) [a] [] pos) (jrE X.K ta):=by
 intro pins s σ H R I h
 refine Call_ (jd4 I hg hm (show bootBuiltins "reversed" =some (.type "reversed") by decide +kernel) (G1z (thn (ha pos pins s σ H _ I h) fun us s1 ⟨vs,H1,I1,r1,q1⟩=> ?_) hs rfl))
 obtain⟨a,xs,e,hq,q⟩:=q1
 subst e
 cases r1 with
 |cons r rr=>
  cases rr
  cases r
  obtain⟨its,rv,p,hz⟩:=I1.list hq
  have hl:=rv.length
  refine call_reversed_list p.isList ?_
  have hr:(s1.heap.push (revObj a ((its.toArray.size:Int)-1))).IsRevIter s1.heap.objs.size a ((xs.length:Int)-1-((0:Nat):Int)):=by
   rw [show ((xs.length:Int)-1-((0:Nat):Int))=((its.toArray.size:Int)-1) by simp;omega]
   exact⟨_,G0q _ rfl,rfl,rfl⟩
  refine wpAny_pyIter_revIter hr ?_
  refine⟨s1.heap.objs.size,[s1.heap.objs.size],_,_,H1,rfl,I1.kept (t' :=s1.toks) fun b o e=>G0a _ e,jlF a _ xs.length,⟨G1c _,hr⟩,fun b hb=> ?_,q⟩
  have e:b=s1.heap.objs.size:=by simpa using hb
  subst e
  exact I1.fpOk (G0f _) (I1.hok.fresh (G0f _))
end
def jrF (a:Addr) (n:Nat):ItD:=fun h=>(h a).bind fun ds=>if ds.length=n then some ds.reverse else none
def iV (ta:TAD):TID:=fun σ h R=>ta σ h fun xs h1=> ∃a ds,xs= [.lst a]∧h1 a=some ds∧R (jrF a ds.length) h1
section
variable {K:PySem.W.Frag}
theorem jlG (H:Hp) (a:Addr) (n:Nat):jmh K H (jrF a n) (Itv K a n):=fun H' h' k rh ds' e i=>by
 have e:(h' a).bind (fun ds=>if ds.length=n then some ds.reverse else none)=some ds' :=e
 cases hd:h' a with
 |none=>rw [hd] at e;cases e
 |some ds=>
  rw [hd] at e
  have e:(if ds.length=n then some ds.reverse else none)=some ds' :=e
  by_cases hn:ds.length=n
  ·rw [if_pos hn] at e
   cases e
   obtain⟨vs,hv',r'⟩:=rh a ds hd
   refine⟨fun d hd=> ?_,fun hl=>by show n≤i;rw [G0M] at hl;omega⟩
   have hi:i<ds.length:=by have:=(G0m.mp hd).1;rwa [G0M] at this
   rw [G12 hi,hn] at hd
   obtain⟨v,e1,e2⟩:=r'.get hd
   refine⟨⟨by omega,vs,v,SqL.of hv',e1⟩,fun x' H'' ⟨eH,hx'⟩=> ?_⟩
   subst eH
   have ev:x' =v:=by have:=hx' vs (SqL.of hv');rw [e1] at this;exact(G1a this).symm
   subst ev
   exact⟨.refl _,rh,e2⟩
  ·rw [if_neg hn] at e;cases e
theorem jpN {ta:TAD}: ∀σ H R,LI K (iV ta) σ H R→jrE K (LA K ta) σ H R:=fun σ H R ⟨σd,h,Rd,rs,rh,q,p⟩=>
 LA.bind rs rh q fun ds vs h1 H1 k1 rs1 rh1 r1 ⟨a,es,e,he,q1⟩=>by
  subst e
  obtain⟨v,e,r2⟩:=jaC r1
  have e' :v= .ref a:=r2.1
  obtain⟨ws,hv,rw'⟩:=rh1 a es he
  subst e'
  rw [rw'.length] at q1
  exact⟨a,ws,e,SqL.of hv,p _ _ _ _ k1 rh1 (jlG H1 a _) q1⟩
end
section
variable {X:Cx}
theorem jpO {tg:Expr} {a:Expr} {ta:TAD} {p pos:Pos} (hg:Gl X "reversed") (hm:X.mg "reversed" =none) (ha:JA X [a] ta) (hs:starEach [a] X.env= [(false,eval a X.env)]:=by rfl):
 JI X tg (.Call (.Name "reversed" p) [a] [] pos) (iV ta):=⟨(jpM hg hm ha.to hs).imp jpN⟩
end
def jba (T:List (List Int)) (n p:Nat):List Nat:=(List.range n).filter fun j=>decide (ent T p j>0)
def cnt (T:List (List Int)) (n o:Nat):Nat→Nat→Int
 |0,p=>if p=o then 1 else 0
 |t+1,p=>((jba T n p).map (cnt T n o t)).sum
def ji0 (T:List (List Int)) (n o t:Nat):List Int:=(List.range n).map (cnt T n o t)
section
variable {T:List (List Int)} {n o:Nat}
theorem jim {p j:Nat} (h:j∈jba T n p):j<n:=G0x.mp (G1Y.mp h).1
theorem jhH (p:Nat):(jba T n p).length≤n:=by
 have:=G2C (fun j=>decide (ent T p j>0)) (List.range n)
 rwa [G0A] at this
theorem jka: ∀ {l:List Int},(∀x∈l,0≤x)→0≤l.sum
 | [],_=>by simp
 |x::l,h=>by
  have:=h x G0p
  have:=jka fun y hy=>h y (G0s _ hy)
  rw [G1E];omega
theorem jkb {b:Int}: ∀ {l:List Int},(∀x∈l,x≤b)→l.sum≤b*l.length
 | [],_=>by simp
 |x::l,h=>by
  have h1:=h x G0p
  have h2:=jkb fun y hy=>h y (G0s _ hy)
  rw [G1E,G0k,G3q,Int.mul_add]
  simp only [Int.natCast_one,Int.mul_one]
  omega
theorem jc7: ∀ (t p:Nat),0≤cnt T n o t p
 |0,p=>by show 0≤(if p=o then (1:Int) else 0);split<;>decide
 |t+1,p=>jka fun x hx=>by obtain⟨j,_,rfl⟩:=G0D.mp hx;exact jc7 t j
def jsi (T:List (List Int)) (n o t p:Nat):Nat:=(jba T n p).findIdx fun j=>decide (cnt T n o t j>0)
def nxt (T:List (List Int)) (n o t p:Nat):Nat:=(jba T n p).getD (jsi T n o t p) 0
end
def Cnts (h:HD) (A:Addr) (T:List (List Int)) (n o k:Nat):Prop:= ∃rs:List Addr,h A=some (rs.map D.lst)∧rs.length=k+1∧ ∀t a,rs[t]? =some a→h a=some ((ji0 T n o t).map D.int)
theorem Cnts.sub {h h' :HD} {A:Addr} {T:List (List Int)} {n o k:Nat} (c:Cnts h A T n o k) (s:Sub h h'):Cnts h' A T n o k:=let ⟨rs,a,l,r⟩:=c;⟨rs,s _ _ a,l,fun t b e=>s _ _ (r t b e)⟩
theorem Cnts.at {h:HD} {A:Addr} {T:List (List Int)} {n o k:Nat} (c:Cnts h A T n o k) {t:Nat} (ht:t≤k): ∃ (rs:List Addr) (a:Addr),h A=some (rs.map D.lst)∧atI (rs.map D.lst) (t:Int)=some (.lst a)∧h a=some ((ji0 T n o t).map D.int):=by
 obtain⟨rs,hA,hl,hr⟩:=c
 have hi:t<rs.length:=by omega
 exact⟨rs,rs[t],hA,jcc (by rw [G0i,G0b hi];rfl),hr t _ (G0b hi)⟩
theorem jdo {T:List (List Int)} {n o t p:Nat} (hp:p<n):atI ((ji0 T n o t).map D.int) (p:Int)=some (.int (cnt T n o t p)):=
 jcc (by unfold ji0;rw [List.map_map,List.getElem?_map,List.getElem?_range hp];rfl)
theorem sum_after {b:D→SD→SD→Prop} {js:List Nat} {ti:TID} {tt:TTD} {te:TED} {σ:SD} {h:HD} {Q:KD} (x:ti σ h fun j h1=>dCB jd8 (ja9 (jda b js (jpE j) tt te) jc6) σ h1 Q):dCB jd8 (ja9 (jda b js ti tt te) jc6) σ h Q:=x
theorem jlH {α:Type} {xs:List α} {x:α} (h1:1≤xs.length) (h:xs[xs.length-1]? =some x):atI xs (-1)=some x:=by
 unfold atI ixN
 rw [if_neg (by decide),if_pos (by omega)]
 show xs[(-1+(xs.length:Int)).toNat]? =_
 rw [show (-1+(xs.length:Int)).toNat=xs.length-1 by omega];exact h
end L2
namespace L2
open PySem PySem.Spec PyProof.Rows
structure Fly (h0:Heap) (H:Hp) (h:Heap) (x C:Addr):Prop where
 ex: ∃ (oe:Obj) (vs:Array Value) (a0:Value) (T:Addr) (oT:Obj) (ts:Array Value),h.get? x=some oe∧oe.cls= .ref C∧oe.data= .fields vs∧vs[0]? =some a0∧vs[1]? =some (.ref T)∧T≠x∧
  h.get? T=some oT∧oT.data= .fields ts∧ts[3]? =some .none∧H T=none∧h0.get? T=none
 nx:H x=none
 n0:h0.get? x=none
def CXR (P:Program) (w:World):CXT:=fun outer H s E e s' => ∃x C H',e= .ref x∧s'.os=s.os∧AllBare s'.gens∧Un (frs outer) [] H H' s.heap s'.heap∧HOk P w H' s'.heap∧Fly s.heap H' s'.heap x C∧E (.ref C) none H'
structure Rz0 (X:Cx):Prop where
 stk:X.stack=X.env::X.outer
 fr:X.env.frame=some X.env.locals
 ex:X.ex= []
structure Rz (X:Cx) (E:XK):Prop extends Rz0 X where
 xe: ∀e s',wpAny (model X.prog X.w) X.A (leaving X.env e) (fun _ s'' =>CXR X.prog X.w X.outer X.H₀ X.s₀ E e s'') (fun e' s'' =>CXR X.prog X.w X.outer X.H₀ X.s₀ E e' s'') s' →X.xe e s'
end L2
namespace L2
open PySem PySem.Spec PyProof.Rows PySem.W
structure LamOk (sc:Scope):Prop where
 kind:sc.kind= .function
 co:sc.isCoroutine=false
 gen:sc.isGenerator=false
 nocell: ∀y∈sc.names,y.2≠ .cell∧y.2≠ .local
structure Cap (N:List Str) (σ:St) (sc:Scope) (cl:List (Str×Addr)) (h:Heap) (H:Hp):Prop where
 len:σ.length=N.length
 inj: ∀x y c,cl.lookup x=some c→cl.lookup y=some c→x=y
 has: ∀x,sc.names.lookup x=some .free→ ∃c,cl.lookup x=some c
 cell: ∀x c,cl.lookup x=some c→(∃v,h.IsCell c v)∧H c=none
 loc: ∀ (i:Nat) (x:Str) (v:V),N[i]? =some x→σ[i]? =some (some v)→sc.names.lookup x=some .free→ ∃u c,RelV v u∧cl.lookup x=some c∧h.IsCell c (some u)
abbrev TXD:=SD→HD→(Str→HD→Prop)→Prop
def WX (X:Cx) (E:XK) (H:Hp) (R:Str→HD→Prop):Prop:= ∀c C h' H',Kept H H' →RelH X.K h' H' →X.mg c=some (.ref C)→R c h' →E (.ref C) none H'
structure JX (X:Cx) (sts:List Stmt) (t:TXD):Prop where
 to: ∀ (E:XK),Rz X E→ ∀ (pins:List (Addr×Obj)) (s:Shared) (σ:St) (H:Hp) (σd:SD) (h:HD) (R:Str→HD→Prop),Inv X pins σ H s→RelS X.K H σd σ→RelH X.K h H→t σd h R→WX X E H R→
  wpAny (model X.prog X.w) X.A (execs sts X.env) (fun _ _=>False) X.xe s
structure JXE (X:Cx) (e:Expr) (t:TXD):Prop where
 to: ∀ (E:XK),Rz X E→ ∀ (pins:List (Addr×Obj)) (s:Shared) (σ:St) (H:Hp) (σd:SD) (h:HD) (R:Str→HD→Prop),Inv X pins σ H s→RelS X.K H σd σ→RelH X.K h H→t σd h R→WX X E H R→
  wpAny (model X.prog X.w) X.A (eval e X.env) (fun _ _=>False) X.xe s
abbrev RDx:=List D→HD→(Str→HD→Prop)→Prop
def bmV:List Value:= [.type "ValueError",.type "Exception",.type "BaseException",.type "object"]
def jsj (K:PySem.W.Frag) (mg:Str→Option Value) (c:Str):Prop:= ∃C,mg c=some (.ref C)∧nsIn K mainGlobals c=some (some (.ref C))∧excIn K C bmV "ValueError.__new__" =true
end L2
namespace L2
open PySem PySem.Spec PyProof.Rows
structure RoomU (k:Nat) (A:Around):Prop where
 dp:A.depth+3*k+5<recursionLimit
 un:A.units+16*k+200<cLine
 gd:A.guards=some []
structure FnOkU (P:Program) (w:World) (K:PySem.W.Frag) (mg:Str→Option Value) (base:Heap) (CX:CXT) (k:Nat) (f:Addr) (fd:FuncData) (ps:List Str) (sp:Sp):Prop where
 len: ∀vs H Q E,sp vs H Q E→vs.length=ps.length
 run: ∀ (A:Around) (outer:List Env) (s:Shared) (H:Hp) (args:Args) (us:List Value) (vs:List V) (Q:VK) (E:XK),RoomU k A→Env0 P w K mg base A outer s H→BindsTo s fd args (ps.zip us)→Vals vs us→sp vs H Q E→
  codeAny (model P w) A (.call (.ref f) args) (CR CX outer P w H s Q E) s
structure FnOkS (P:Program) (w:World) (K:PySem.W.Frag) (mg:Str→Option Value) (base:Heap) (CX:CXT) (k:Nat) (f:Addr) (fd:FuncData) (ps:List Str) (sp:Shared→Sp):Prop where
 len: ∀s vs H Q E,sp s vs H Q E→vs.length=ps.length
 run: ∀ (A:Around) (outer:List Env) (s:Shared) (H:Hp) (args:Args) (us:List Value) (vs:List V) (Q:VK) (E:XK),Room k A→Env0 P w K mg base A outer s H→BindsTo s fd args (ps.zip us)→Vals vs us→sp s vs H Q E→
  codeAny (model P w) A (.call (.ref f) args) (CR CX outer P w H s Q E) s
end L2
namespace L2
open PySem PySem.Spec PyProof.Rows PySem.W PySem.Calls PySem.Builtin PySem.Builtin.ObjectAttr PySem.Builtin.Getset_descriptor
section
variable {prog:Program} {w:World} {A:Around} {E:Value→Shared→Prop} {s:Shared} {K:Frag} {x D:Addr}
structure ExcK (K:Frag) (D:Addr):Prop where
 cls:(clsIn K D).isSome=true
 ga:findIn K (.ref D) "__getattribute__" =some (some (.builtin "BaseException.__getattribute__"))
 hk:findIn K (.ref D) "__getattr__" =some none
 ca:findIn K (.ref D) "__class__" =some (some (.builtin "object.__class__"))
 gt:specialIn K (.builtin "object.__class__") "__get__" =some (some (.builtin "getset_descriptor.__get__"))
 tk:takesIn K (.builtin "object.__class__")=some true
 ob:mroIn K D (.type "object")=some true
 be:mroIn K D (.type "BaseException")=some true
end
end L2
namespace L2
open PySem PySem.Spec PyProof.Rows PySem.W
def CN:List Str:= ["NoTable","NoPlace","NoNumber","NoOrder","NoSet","NoWalk","NoLengths","NoWay","Apart","NoRow"]
abbrev N1:List Str:= ["_law_call","_law_found","_law_e","_law_word"]
def jrG:List Str:= ["NoTable","NoPlace","NoNumber","NoOrder","NoSet","NoWalk","NoLengths","NoWay","Apart","NoRow","NoTables","NoText","TooGreat"]
structure Exc (K:Frag) (mg:Str→Option Value):Prop where
 own: ∀c∈CN,jsj K mg c
 ek: ∀c∈CN,∀C,mg c=some (.ref C)→ExcK K C
 kit: ∀c∈CN,∀d∈jrG,∀C D,mg c=some (.ref C)→mg d=some (.ref D)→kitOne K (.ref C) (.ref D)=some (c==d)
 val: ∀c∈CN,∀C,mg c=some (.ref C)→kitOne K (.ref C) (.type "ValueError")=some true
 pe: ∃pe,mg "PowerError" =some (.ref pe)∧ ∀c∈CN,∀C,mg c=some (.ref C)→exmOne K (.ref C) (.ref pe)=some true
 cls: ∀d∈jrG,∃D,mg d=some (.ref D)
 ve:mg "ValueError" =none
def ipM:TIp:=fun x y H Q=> ∃i j,x= .int i∧y= .int j∧CMul i j∧Q (.int (i*j)) H
theorem jpP {X:Cx}:PIp X .Mult ipM:=by
 intro pins s σ H x y v u Q I r1 r2 h
 obtain⟨i,j,e1,e2,hc,q⟩:=h
 subst e1;subst e2
 obtain⟨t,rfl⟩:=r1
 obtain⟨t',rfl⟩:=r2
 exact imul_int ⟨.int _,H,I.tok _,⟨_,rfl⟩,q⟩ hc.ok
def jpQ (i:Nat) (te:TED):TSD:=fun D σ h=> ∃x:Int,σ[i]? =some (some (.int x))∧te σ h fun y h1=> ∃j:Int,y= .int j∧CMul x j∧D.nx (σ.set i (some (.int (x*j)))) h1
theorem jnK {K:PySem.W.Frag} {i:Nat} {te:TED}: ∀D σ H,LS K (jpQ i te) D σ H→jqt i (LE K te) ipM D σ H:=fun D σ H ⟨σd,h,Dd,rs,rh,⟨x,hx,q⟩,nx,rt,bk,ct⟩=>by
 obtain⟨v,e1,r1⟩:=rs.2 i _ hx
 cases (show v= .int x from r1)
 exact⟨_,e1,LE.bind rs rh q fun d u h1 H1 k1 rs1 rh1 r1 ⟨j,e,hc,q1⟩=>by
  subst e
  cases (show u= .int j from r1)
  exact⟨x,j,rfl,rfl,hc,nx _ _ _ _ k1 (rs1.set (d:= .int (x*j)) rfl i) rh1 q1⟩⟩
theorem jnL {X:Cx} {i:Nat} {x:Str} {e:Expr} {te:TED} {pos pos' :Pos} (hN:X.N.Nodup) (hi:X.N[i]? =some x) (hx:Loc X.env.scope x) (he:JE X e te) (hf:X.fn x=true∨X.env.scope.names.lookup x=some .local:=by first|exact .inl rfl|exact .inr rfl|assumption):JS X (.AugAssign (.Name x pos') .Mult e pos) (jpQ i te):=⟨(jjo hN hi hx he.to jpP hf).imp jnK⟩
end L2
namespace L2
open PySem PySem.Spec PyProof.Rows PySem.SeqAt
section
variable {n e:Nat} {T:List (List Int)}
instance (k i j:Nat):Decidable (RP n T k i j):=inferInstanceAs (Decidable (ent (jfr n T k) i j≠0))
end
structure GQ (n:Nat) (h0 h:HD) (p R:Addr) (rs:List Addr) (f:Nat→Nat→Int):Prop where
 at_:h R=some (rs.map D.lst)
 len:rs.length=n
 nR:R ∉ rs
 nd:rs.Nodup
 fR:h0 R=none
 np:p ∉ rs
 Rp:R≠p
 row: ∀i a,rs[i]? =some a→h0 a=none∧h a=some ((List.range n).map fun j=>D.int (f i j))
 nn: ∀i j,0≤f i j∧f i j≤1000000
def ja0 (f:Nat→Int):List Nat→Int→Nat×Int
 | [],m=>(0,m)
 |j::l,m=>if f j≤m then ja0 f l (m-f j) else (j,m)
theorem jbT {f:Nat→Int} (nn: ∀j,0≤f j): ∀ {l:List Nat} {m:Int},0≤m→m<(l.map f).sum→ ∃l1 l2,l=l1++(ja0 f l m).1::l2∧m=(l1.map f).sum+(ja0 f l m).2∧0≤(ja0 f l m).2∧(ja0 f l m).2<f (ja0 f l m).1
 | [],m,h0,h=>by simp at h;omega
 |j::l,m,h0,h=>by
  unfold ja0
  by_cases z:f j≤m
  ·rw [if_pos z]
   rw [G0y,G1E] at h
   obtain⟨l1,l2,e,s,a,b⟩:=jbT nn (l:=l) (m:=m-f j) (by omega) (by omega)
   exact⟨j::l1,l2,by rw [G00,←e],by rw [G0y,G1E];omega,a,b⟩
  ·rw [if_neg z]
   exact⟨[],l,rfl,by simp,h0,by show m<f j;omega⟩
theorem jin {α:Type} {f:Nat→Int} {F:Nat→List α} (nn: ∀j,0≤f j) (hf: ∀j,((F j).length:Int)=f j): ∀ {l:List Nat} {m:Int},0≤m→m<(l.map f).sum→(l.flatMap F)[m.toNat]? =(F (ja0 f l m).1)[(ja0 f l m).2.toNat]?
 | [],m,h0,h=>by simp at h;omega
 |j::l,m,h0,h=>by
  have lj:=hf j
  unfold ja0
  rw [G25]
  by_cases z:f j≤m
  ·rw [if_pos z,G0o (by omega)]
   rw [G0y,G1E] at h
   rw [←jin nn hf (l:=l) (m:=m-f j) (by omega) (by omega)]
   congr 1;omega
  ·rw [if_neg z,G0H (by omega)]
section
variable (T:List (List Int)) (n o:Nat)
def wks:Nat→Nat→List (List Nat)
 |0,p=>if p=o then [[p]] else []
 |t+1,p=>(jba T n p).flatMap fun j=>(wks t j).map (p:: ·)
def wn:Nat→Nat→Int→List Nat
 |0,p,_=> [p]
 |t+1,p,m=>p::wn t (ja0 (cnt T n o t) (jba T n p) m).1 (ja0 (cnt T n o t) (jba T n p) m).2
def gpN (k one:Nat) (m:Int):Nat→Nat×Int
 |0=>(one,m)
 |i+1=>ja0 (cnt T n o (k-1-i)) (jba T n (gpN k one m i).1) (gpN k one m i).2
def gwN (k one:Nat) (m:Int) (i:Nat):List Nat:=(List.range (i+1)).map fun t=>(gpN T n o k one m t).1
def ji1:List Nat→Int
 |p::j::r=>(((jba T n p).filter fun h=>decide (h<j)).map (cnt T n o r.length)).sum+ji1 (j::r)
 |_=>0
end
section
variable {T:List (List Int)} {n o:Nat}
theorem jhI: ∀t p,(((wks T n o t p).length:Nat):Int)=cnt T n o t p
 |0,p=>by
  show (((if p=o then [[p]] else []).length:Nat):Int)=if p=o then 1 else 0
  split<;>rfl
 |t+1,p=>by
  show ((((jba T n p).flatMap fun j=>(wks T n o t j).map (p:: ·)).length:Nat):Int)=((jba T n p).map (cnt T n o t)).sum
  induction jba T n p with
  |nil=>rfl
  |cons j l ih=>
   rw [G25,G0e,G0c,G3q,jhI t j,ih,G0y,G1E]
theorem jhJ: ∀ (t p:Nat) {m:Int},0≤m→m<cnt T n o t p→(wks T n o t p)[m.toNat]? =some (wn T n o t p m)
 |0,p,m,h0,h=>by
  have h' :m<if p=o then 1 else 0:=h
  by_cases z:p=o
  ·rw [if_pos z] at h'
   show (if p=o then [[p]] else [])[m.toNat]? =some [p]
   rw [if_pos z,show m.toNat=0 by omega];rfl
  ·rw [if_neg z] at h';omega
 |t+1,p,m,h0,h=>by
  show ((jba T n p).flatMap fun j=>(wks T n o t j).map (p:: ·))[m.toNat]? =_
  rw [jin (f:=cnt T n o t) (fun j=>jc7 t j) (fun j=>by rw [G0c];exact jhI t j) h0 h]
  obtain⟨l1,l2,e,s,a,b⟩:=jbT (f:=cnt T n o t) (fun j=>jc7 t j) h0 h
  rw [G0i,jhJ t _ a b];rfl
theorem jg8 (k p:Nat) (m:Int): ∀i,gpN T n o (k+1) p m (i+1)=gpN T n o k (ja0 (cnt T n o k) (jba T n p) m).1 (ja0 (cnt T n o k) (jba T n p) m).2 i
 |0=>by
  show ja0 (cnt T n o (k+1-1-0)) (jba T n p) m=(_,_)
  rw [show k+1-1-0=k by omega]
 |i+1=>by
  show ja0 (cnt T n o (k+1-1-(i+1))) (jba T n (gpN T n o (k+1) p m (i+1)).1) (gpN T n o (k+1) p m (i+1)).2=ja0 (cnt T n o (k-1-i)) _ _
  rw [jg8 k p m i,show k+1-1-(i+1)=k-1-i by omega]
theorem jkc: ∀ (k p:Nat) (m:Int),gwN T n o k p m k=wn T n o k p m
 |0,p,m=>rfl
 |k+1,p,m=>by
  unfold gwN
  rw [G20,G0y,G0S]
  show p::_=p::_
  congr 1
  rw [←jkc k]
  unfold gwN
  refine G0O fun i _=> ?_
  show (gpN T n o (k+1) p m (i+1)).1=_
  rw [jg8]
theorem jkd {k one:Nat} {m:Int} (h1:one<n) (h0:0≤m) (h:m<cnt T n o k one): ∀i,i≤k→(gpN T n o k one m i).1<n∧0≤(gpN T n o k one m i).2∧(gpN T n o k one m i).2<cnt T n o (k-i) (gpN T n o k one m i).1
 |0,_=>⟨h1,h0,h⟩
 |i+1,hi=>by
  obtain⟨a,b,c⟩:=jkd h1 h0 h i (by omega)
  rw [show k-i=(k-1-i)+1 by omega] at c
  obtain⟨l1,l2,e,s,x,y⟩:=jbT (f:=cnt T n o (k-1-i)) (fun j=>jc7 _ j) b c
  refine⟨jim (p:=(gpN T n o k one m i).1) (by rw [e];simp [gpN]),x,?_⟩
  rw [show k-(i+1)=k-1-i by omega];exact y
theorem jhK (t p:Nat) (m:Int): ∃r,wn T n o t p m=p::r∧r.length=t:=by
 induction t generalizing p m with
 |zero=>exact⟨[],rfl,rfl⟩
 |succ t ih=>
  obtain⟨r,e,l⟩:=ih (ja0 (cnt T n o t) (jba T n p) m).1 (ja0 (cnt T n o t) (jba T n p) m).2
  exact⟨_,rfl,by rw [e,G0k,l]⟩
theorem jf5 {l1 l2:List Nat} {j:Nat} (h:(l1++j::l2).Pairwise (· < ·)):(l1++j::l2).filter (fun x=>decide (x<j))=l1:=by
 rw [G0J] at h
 obtain⟨h1,h2,h3⟩:=h
 rw [G3A]
 have a:l1.filter (fun x=>decide (x<j))=l1:=List.filter_eq_self.mpr fun x hx=>G0r (h3 x hx j G0p)
 have b:(j::l2).filter (fun x=>decide (x<j))= []:=G33.mpr fun x hx=>by
  rcases G0C.mp hx with e|e
  ·subst e;simp
  ·have:=(G1y.mp h2).1 x e;simp;omega
 rw [a,b,G1J]
theorem jio (p:Nat):(jba T n p).Pairwise (· < ·):=List.pairwise_lt_range.filter _
theorem jmr: ∀ (t p:Nat) {m:Int},0≤m→m<cnt T n o t p→ji1 T n o (wn T n o t p m)=m
 |0,p,m,h0,h=>by
  have h' :m<if p=o then 1 else 0:=h
  show (0:Int)=m
  split at h' <;>omega
 |t+1,p,m,h0,h=>by
  obtain⟨l1,l2,e,s,a,b⟩:=jbT (f:=cnt T n o t) (fun j=>jc7 t j) h0 h
  have ih:=jmr t _ a b
  show ji1 T n o (p::wn T n o t (ja0 (cnt T n o t) (jba T n p) m).1 (ja0 (cnt T n o t) (jba T n p) m).2)=m
  generalize (ja0 (cnt T n o t) (jba T n p) m).1=j at*
  generalize (ja0 (cnt T n o t) (jba T n p) m).2=m' at*
  obtain⟨r,er,lr⟩:=jhK (T:=T) (n:=n) (o:=o) t j m'
  rw [er] at ih ⊢
  show (((jba T n p).filter fun h=>decide (h<j)).map (cnt T n o r.length)).sum+ji1 T n o (j::r)=m
  have hr:=jio (T:=T) (n:=n) p
  rw [e] at hr ⊢
  rw [jf5 hr,lr,ih];omega
theorem jpR {k one:Nat} {m:Int} (h1:one<n) (h0:0≤m) (h:m<cnt T n o k one): ∀x∈wn T n o k one m,x<n:=fun x hx=>by
 rw [←jkc] at hx
 obtain⟨t,ht,rfl⟩:=G0D.mp hx
 exact(jkd h1 h0 h t (by have:=G0x.mp ht;omega)).1
theorem jpS (t p:Nat) (m:Int):(wn T n o t p m).length=t+1:=by
 obtain⟨r,e,l⟩:=jhK (T:=T) (n:=n) (o:=o) t p m
 rw [e,G0k,l]
theorem jke: ∀ (t p:Nat) {m:Int},0≤m→m<cnt T n o t p→(wn T n o t p m)[t]? =some o
 |0,p,m,h0,h=>by
  have h' :m<if p=o then 1 else 0:=h
  by_cases z:p=o
  ·rw [z];rfl
  ·rw [if_neg z] at h';omega
 |t+1,p,m,h0,h=>by
  obtain⟨l1,l2,e,s,a,b⟩:=jbT (f:=cnt T n o t) (fun j=>jc7 t j) h0 h
  exact jke t _ a b
theorem jkf: ∀ (t p:Nat) {m:Int},0≤m→m<cnt T n o t p→jf4 T (wn T n o t p m)=true
 |0,p,m,h0,h=>rfl
 |t+1,p,m,h0,h=>by
  obtain⟨l1,l2,e,s,a,b⟩:=jbT (f:=cnt T n o t) (fun j=>jc7 t j) h0 h
  have ih:=jkf t _ a b
  show jf4 T (p::wn T n o t (ja0 (cnt T n o t) (jba T n p) m).1 (ja0 (cnt T n o t) (jba T n p) m).2)=true
  generalize (ja0 (cnt T n o t) (jba T n p) m).1=j at*
  generalize (ja0 (cnt T n o t) (jba T n p) m).2=m' at*
  obtain⟨r,er,lr⟩:=jhK (T:=T) (n:=n) (o:=o) t j m'
  have hj:ent T p j>0:=G1H (G1Y.mp (show j∈jba T n p by rw [e];simp)).2
  rw [er] at ih ⊢
  unfold jf4 at ih ⊢
  simp only [List.drop_succ_cons,G27,G2y,G4o,List.isEmpty_cons,G4g,G3T] at ih ⊢
  rw [G0r hj,ih];rfl
end
section
variable {α:Type} {i:Nat} {js:List Nat} {ti:TID} {te:TED} {σ:SD} {h:HD} {Q:KD} {j:ItD}
theorem jrb (xs:List α) (c:α→D) (g:α→Int) (p:α→Bool) {tt:TTD} (hz:xs.length≤1000) (hj:j h=some (xs.map c)) (ht: ∀R:ItD→HD→Prop,R j h→ti σ h R)
 (hp: ∀x∈xs,∀Q' :Bool→HD→Prop,Q' (p x) h→tt ((ja8 js σ).set i (some (c x))) h Q') (he: ∀x∈xs,p x=true→ ∀Q' :KD,Q' (.int (g x)) h→te ((ja8 js σ).set i (some (c x))) h Q') (hq:Q (.int ((xs.filter p).map g).sum) h):dCB jd8 (ja9 (jda (bN i) js ti tt te) jc6) σ h Q:=by
 show jda (bN i) js ti tt te σ h (fun x h1=>jd8 [x] h1 Q)
 exact lcF xs c (fun x=> .int (g x)) p hz hj ht hp he fun a ha=>⟨a,(xs.filter p).map g,rfl,by rw [jad,G0S];rfl,by rw [jbs ha];exact hq⟩
end
end L2
namespace HT
open PySem PySem.Spec PyProof.Rows
theorem jf6 {xs:Array Nat} {j:Nat} (r:xs.toList.Pairwise (· < ·)): ∀ (fuel lo hi:Nat),hi-lo≤fuel→hi≤xs.size→lo≤hi→(∀i,i<lo→ ∀v,xs[i]? =some v→v<j)→(∀i,hi≤i→ ∀v,xs[i]? =some v→j≤v)→
 (∀i,i<SetTable.below.go xs j fuel lo hi→ ∀v,xs[i]? =some v→v<j)∧(∀i,SetTable.below.go xs j fuel lo hi≤i→ ∀v,xs[i]? =some v→j≤v)∧SetTable.below.go xs j fuel lo hi≤xs.size
 |0,lo,hi,f,hs,lh,a,b=>by
  have:lo=hi:=by omega
  subst this
  exact⟨a,b,hs⟩
 |fuel+1,lo,hi,f,hs,lh,a,b=>by
  unfold SetTable.below.go
  by_cases c:lo<hi
  ·rw [if_pos c]
   have hm:(lo+hi) / 2<xs.size:=by omega
   have mono: ∀ (i k u v:Nat),i≤k→xs[i]? =some u→xs[k]? =some v→u≤v:=fun i k u v ik e1 e2=>by
    rcases G2d i k with z|z
    ·have i1:=(G09.mp e1)
     have i2:=(G09.mp e2)
     obtain⟨h1,e1'⟩:=i1
     obtain⟨h2,e2'⟩:=i2
     have:=G1e.mp r i k (by simpa using h1) (by simpa using h2) z
     simp only [G2J] at this
     omega
    ·have:i=k:=by omega
     subst this;rw [e1] at e2;cases e2;exact G0f _
   have em:xs.getD ((lo+hi) / 2) j=xs[(lo+hi) / 2]:=by simp [Array.getD,hm]
   dsimp only
   by_cases d:xs.getD ((lo+hi) / 2) j<j
   ·rw [if_pos d]
    refine jf6 r fuel _ hi (by omega) hs (by omega) (fun i hi' v hv=> ?_) b
    have:=mono i ((lo+hi) / 2) v xs[(lo+hi) / 2] (by omega) hv (by simp [hm])
    omega
   ·rw [if_neg d]
    refine jf6 r fuel lo _ (by omega) (by omega) (by omega) a (fun i hi' v hv=> ?_)
    have:=mono ((lo+hi) / 2) i xs[(lo+hi) / 2] v hi' (by simp [hm]) hv
    omega
  ·rw [if_neg c]
   have:lo=hi:=by omega
   subst this
   exact⟨a,b,hs⟩
theorem jdC {xs:Array Nat} (r:xs.toList.Pairwise (· < ·)) (j:Nat):(∀i,i<SetTable.below xs j→ ∀v,xs[i]? =some v→v<j)∧(∀i,SetTable.below xs j≤i→ ∀v,xs[i]? =some v→j≤v)∧SetTable.below xs j≤xs.size:=
 jf6 r xs.size 0 xs.size (by omega) (G0f _) (G1c _) (fun i h=>absurd h (G2p _)) (fun i h v e=>by rw [G32 h] at e;cases e)
theorem jhL {xs:Array Nat} {j:Nat} (r:xs.toList.Pairwise (· < ·)) (no:xs[SetTable.below xs j]? ≠some j):(SetTable.insertAt xs (SetTable.below xs j) j).toList.Pairwise (· < ·):=by
 obtain⟨a,b,hs⟩:=jdC r j
 rw [G2P,G0J,G1y]
 have low: ∀v∈xs.toList.take (SetTable.below xs j),v<j:=fun v hv=>by
  obtain⟨i,hi⟩:=G2K hv
  rw [G3B] at hi
  split at hi
  ·rename_i c;exact a i c v (by simpa using hi)
  ·cases hi
 have high: ∀v∈xs.toList.drop (SetTable.below xs j),j<v:=fun v hv=>by
  obtain⟨i,hi⟩:=G2K hv
  rw [G1g] at hi
  have hi' :xs[SetTable.below xs j+i]? =some v:=by simpa using hi
  have le:=b _ (Nat.le_add_right _ _) v hi'
  rcases G2d j v with z|z
  ·exact z
  ·have ev:v=j:=by omega
   subst ev
   cases i with
   |zero=>exact(no hi').elim
   |succ i=>
    obtain⟨h1,e1⟩:=G09.mp hi'
    have h0:SetTable.below xs v<xs.size:=by omega
    have le0:=b _ (G0f _) xs[SetTable.below xs v] (by simp [h0])
    have lt:=G1e.mp r (SetTable.below xs v) (SetTable.below xs v+(i+1)) (by simpa using h0) (by simpa using h1) (by omega)
    simp only [G2J] at lt
    omega
 exact⟨r.sublist (G2l _ _),⟨high,r.sublist (G1I _ _)⟩,fun u hu v hv=>by
  rcases G0C.mp hv with e|e
  ·rw [e];exact low u hu
  ·exact G3c (low u hu) (high v e)⟩
structure Tab (L:Bool) (n:Nat) (t:SetTable):Prop where
 fits:t.fits n=true
 led:t.led=L
 dum:t.dummies= #[]
 rise:t.plain=true∨n≤1→t.place.toList.Pairwise (· < ·)
theorem ji2 {t:SetTable} {n:Nat} (h:t.fits n=true):t.place.size=n:=by
 simp only [SetTable.fits,G1q,G4t] at h;exact h.1
theorem ji3 {t:SetTable} {j:Nat} (h:t.slot j= .empty):t.place[SetTable.below t.place j]? ≠some j:=fun e=>by
 unfold SetTable.slot at h
 dsimp only at h
 rw [if_pos (by rw [e];exact G2t _)] at h
 cases h
theorem jfu {t:SetTable} {j:Nat} (d:t.dummies= #[]):t.slot j≠ .dummy:=fun h=>by
 unfold SetTable.slot at h
 dsimp only at h
 split at h
 ·cases h
 ·rw [d] at h
  have:SetTable.has #[] j=false:=by unfold SetTable.has;simp
  rw [this] at h
  cases h
theorem jf7 (f:Nat→Option Nat): ∀l:List Nat,((l.filterMap fun j=>(f j).map (j,·)).map (·.1)).Sublist l
 | []=> .slnil
 |j::l=>by
  rw [List.filterMap_cons]
  cases e:(f j).map (j,·) with
  |none=>exact(jf7 f l).cons _
  |some q=>
   obtain⟨v,_,rfl⟩:=G1Q.mp e
   exact(jf7 f l).cons₂ _
abbrev jc2 (es:Array (Int×Value)) (ep:Nat) (t:SetTable):Obj:= {cls:= .type "set",dict:=none,data:= .set es ep t,slots:= #[]}
def jrH (e:Int×Value):Int:=match e.2 with
 | .int n _=>n
 |_=>0
structure SetI (L:Bool) (es:Array (Int×Value)) (t:SetTable) (ns:List Int):Prop where
 tab:Tab L es.size t
 nums: ∀e∈es.toList,∃n tk,e=(hashInt n,.int n tk)
 nd:(es.toList.map jrH).Nodup
 mem: ∀n,n∈es.toList.map jrH↔n∈ns
theorem jeN:plainId "set.update.loop" =true:=by decide +kernel
theorem jg9:entryFor table "set.update.loop" =some Builtin.«set.update.loop» :=entryFor_of_fast (by kernel_rfl)
theorem je5:entryFor table "set.__init__" =some Builtin.«set.__init__» :=entryFor_of_fast (by kernel_rfl)
abbrev jcI (w:World):Bool:= !(w.params.followText "set-order")
theorem jlI (L:Bool):SetI L #[] (.fresh 0 0 L) []:=⟨⟨rfl,rfl,rfl,fun _=> .nil⟩,fun e he=>by simp at he,by simp,fun n=>by simp⟩
theorem jdp:isSubtype (.type "set") (.type "set")=pure true:=by rw [G28];kernel_rfl
theorem jha:isSubtype (.type "list") (.type "set")=pure false:=by rw [G28];kernel_rfl
theorem jhb:isSubtype (.type "list") (.type "frozenset")=pure false:=by rw [G28];kernel_rfl
section
variable {prog:Program} {w:World} {A:Around} {E:Value→Shared→Prop} {s:Shared}
theorem jlJ {x:Value} {P:PySem.Fin→Shared→Prop} (h:P (.done (.ret (.ref s.heap.objs.size))) {s with heap:=s.heap.push (jc2 #[] 0 (.fresh 0 0 (jcI w)))}):
 wpAny (model prog w) A (Builtin.«set.__new__» ⟨[.type "set",x],[]⟩) P E s:=by
 have fine:=jdp
 obtain⟨hp,g,d,tk,os⟩:=s
 have told: ∀ {Q:Setting→Shared→Prop} {E' :Value→Shared→Prop} {A' :Around} {s' :Shared},Q ⟨prog,w.params⟩ s' →wpAny (model prog w) A' ask Q E' s' :=fun q=>G2M q
 wp_walk using told
 exact h
theorem jf8 {M:Model} {o x:Value} {Q:Unit→Shared→Prop} (ty:s.TypeIs o "set") (q:Q () s):wpAny M A (checkBuiltinCall "set.__init__" ⟨[o,x],[]⟩) Q E s:=by
 have fine:=jdp
 unfold checkBuiltinCall
 rw [kind_set_init,split_set_init,sig_set_init]
 wp_walk using PyProof.Rows.printed_name (n:= "set") (by decide),PyProof.Rows.printed_star (self:=o) rfl ty
 exact q
end
theorem slot_si_next:Slot "set_iterator" "__next__" "set_iterator.__next__" :=
 .of (owner:= "set_iterator") (n:= "__next__") (by rw [typeLookup_type,builtinLookup_eq_fast];kernel_rfl) (by decide +kernel) (by decide +kernel) (by decide +kernel) (.inl (by kernel_rfl)) (by rw [G28];kernel_rfl)
theorem jf9:entryFor table "set_iterator.__next__" =some Builtin.«set_iterator.__next__» :=entryFor_of_tree (by kernel_rfl)
theorem jhc (a:Value):argsOk "set_iterator.__next__" ⟨[a],[]⟩:=by unfold argsOk;kernel_rfl
theorem je6:entryFor table "set.__iter__" =some Builtin.«frozenset.__iter__» :=entryFor_alias (id' := "frozenset.__iter__") (by kernel_rfl) rfl (by decide +kernel) (by kernel_rfl)
abbrev itO (first:Value) (i:Nat) (a:Addr) (n ep:Nat):Obj:= {cls:= .type "set_iterator",data:= .fields #[first,rawInt i,.ref a,rawInt n,rawInt ep]}
inductive Mode (w:World) (a:Addr) (es:Array (Int×Value)) (ep:Nat) (t:SetTable):List Value→(Value→Nat→Heap→Prop)→Addr→Prop
 |text (b:w.params.followText "set-order" =true):Mode w a es ep t ((pickOrder (w.params.setOrder a ep) es).toList.map (·.2)) (fun f _ _=>f=rawInt 0) a
 |drawn (b:w.params.followText "set-order" =false) (d:t.plain=false) (two:1<es.size) (ord:List Nat) (p:ord.Perm (List.range es.size)) (tp:Addr):
  Mode w a es ep t (ord.map fun j=>(es.getD j (0,.none)).2) (fun f _ h=>f= .ref tp∧h.IsTuple tp (ord.map fun j=>rawInt (j:Nat)).toArray) tp
 |table (b:w.params.followText "set-order" =false) (d:t.plain=true∨es.size≤1):Mode w a es ep t (es.toList.map (·.2)) (fun f i _=> ∃slot:Nat,f=rawInt slot∧SetTable.below t.place slot=i) a
section
variable {prog:Program} {w:World} {A:Around} {E:Value→Shared→Prop} {s:Shared} {a I tp:Addr} {es:Array (Int×Value)} {ep n i:Nat} {t:SetTable} {ns:List Int} {first:Value}
theorem jkg {Q:Value→Shared→Prop} (S:Tab (jcI w) es.size t) (b:w.params.followText "set-order" =true) (ha:s.heap.get? a=some (jc2 es ep t)) (hI:s.heap.get? I=some (itO (rawInt 0) i a es.size ep)) (aI:a≠I)
 {x:Value} (hx:((pickOrder (w.params.setOrder a ep) es).toList.map (·.2))[i]? =some x) (q: ∀h',h'.get? I=some (itO (rawInt 0) (i+1) a es.size ep)→Heap.SameBut I s.heap h' →Q x {s with heap:=h'}):
 wpAny (model prog w) A (Builtin.«set_iterator.__next__» ⟨[.ref I],[]⟩) (fun fin s' => ∃v,fin= .done (.ret v)∧Q v s') E s:=by
 have told: ∀ {Q:Setting→Shared→Prop} {E' :Value→Shared→Prop} {A' :Around} {s' :Shared},Q ⟨prog,w.params⟩ s' →wpAny (model prog w) A' ask Q E' s' :=fun q=>G2M q
 have state:=fun {P:Array (Int×Value)×Nat×SetTable→Shared→Prop} {E' :Value→Shared→Prop} {A' :Around}=>G1m (prog:=prog) (w:=w) (A:=A') (E:=E') (Q:=P) (s:=s) ha rfl S.fits
 obtain⟨hp,g,d,tk,os⟩:=s
 rw [G0i] at hx
 obtain⟨⟨k,x'⟩,hx1,rfl⟩:=G1Q.mp hx
 have hx' :(pickOrder (w.params.setOrder a ep) es)[((i:Nat):Int).toNat]? =some (k,x'):=by rw [G18,←G0F];exact hx1
 have z1:=G0Z (Obj.mapFields fun v=>v.setIfInBounds 0 (rawInt ((Int.toNat 0:Nat):Int))) hI rfl
 have z2:=G0Z (Obj.mapFields fun v=>v.setIfInBounds 1 (rawInt ((i:Int)+1))) z1 rfl
 have fin:=q _ z2 ((G04 ..).trans (G04 ..))
 wp_walk using state,told
 rw [hx']
 wp_walk
 exact⟨_,rfl,fin⟩
theorem ji4 {Q:Value→Shared→Prop} {ord:List Nat} (S:Tab (jcI w) es.size t) (ha:s.heap.get? a=some (jc2 es ep t)) (hI:s.heap.get? I=some (itO (.ref tp) i a es.size ep)) (aI:a≠I) (ht:s.heap.IsTuple tp (ord.map fun j=>rawInt (j:Nat)).toArray) (p:ord.Perm (List.range es.size))
 {x:Value} (hx:(ord.map fun j=>(es.getD j (0,.none)).2)[i]? =some x) (q: ∀h',h'.get? I=some (itO (.ref tp) (i+1) a es.size ep)→Heap.SameBut I s.heap h' →Q x {s with heap:=h'}):
 wpAny (model prog w) A (Builtin.«set_iterator.__next__» ⟨[.ref I],[]⟩) (fun fin s' => ∃v,fin= .done (.ret v)∧Q v s') E s:=by
 have state:=fun {P:Array (Int×Value)×Nat×SetTable→Shared→Prop} {E' :Value→Shared→Prop} {A' :Around}=>G1m (prog:=prog) (w:=w) (A:=A') (E:=E') (Q:=P) (s:=s) ha rfl S.fits
 obtain⟨⟨oc,od,odt,osl⟩,hol,hc,c,hd⟩:=ht
 simp only at hc hd
 subst hc hd
 obtain⟨hp,g,d,tk,os⟩:=s
 rw [G0i] at hx
 obtain⟨j,hj,rfl⟩:=G1Q.mp hx
 have jlt:j<es.size:=G0x.mp (p.mem_iff.mp (G0h hj))
 have hj' :((ord.map fun j=>rawInt (j:Nat)).toArray)[((i:Nat):Int).toNat]? =some (rawInt (j:Nat)):=by simp [hj]
 have ej:es[((j:Nat):Int).toNat]? =some (es.getD j (0,.none)):=by simp [jlt,Array.getD]
 have z1:=G0Z (Obj.mapFields fun v=>v.setIfInBounds 1 (rawInt ((i:Int)+1))) hI rfl
 have fin:=q _ z1 (G04 ..)
 wp_walk using state
 rw [hj']
 show wpAny _ _ (setNextDrawn a ((j:Nat):Int).toNat ((ep:Nat):Int).toNat >>= _) _ _ _
 wp_walk using state
 rw [ej]
 wp_walk
 exact⟨_,rfl,fin⟩
theorem ji5 {Q:Value→Shared→Prop} {slot:Nat} (S:Tab (jcI w) es.size t) (b:w.params.followText "set-order" =false) (pl:t.plain=true∨es.size≤1) (ha:s.heap.get? a=some (jc2 es ep t)) (hI:s.heap.get? I=some (itO (rawInt slot) i a es.size ep)) (aI:a≠I) (hs:SetTable.below t.place slot=i)
 {x:Value} (hx:(es.toList.map (·.2))[i]? =some x) (q: ∀h' (slot' :Nat),SetTable.below t.place slot' =i+1→h'.get? I=some (itO (rawInt slot') (i+1) a es.size ep)→Heap.SameBut I s.heap h' →Q x {s with heap:=h'}):
 wpAny (model prog w) A (Builtin.«set_iterator.__next__» ⟨[.ref I],[]⟩) (fun fin s' => ∃v,fin= .done (.ret v)∧Q v s') E s:=by
 have told: ∀ {Q:Setting→Shared→Prop} {E' :Value→Shared→Prop} {A' :Around} {s' :Shared},Q ⟨prog,w.params⟩ s' →wpAny (model prog w) A' ask Q E' s' :=fun q=>G2M q
 have state:=fun {P:Array (Int×Value)×Nat×SetTable→Shared→Prop} {E' :Value→Shared→Prop} {A' :Around}=>G1m (prog:=prog) (w:=w) (A:=A') (E:=E') (Q:=P) (s:=s) ha rfl S.fits
 have led:t.led=true:=by rw [S.led];show (!(w.params.followText "set-order"))=true;rw [b];rfl
 have nd:(!t.plain&&decide (es.size>1))=false:=by
  rcases pl with z|z
  ·rw [z];rfl
  ·rw [G0L (by omega),G29]
 obtain⟨hp,g,d,tk,os⟩:=s
 rw [G0i] at hx
 obtain⟨⟨k,x'⟩,hx1,rfl⟩:=G1Q.mp hx
 have lt:i<es.size:=by have:=(G0m.mp hx1).1;simpa using this
 have ps:=ji2 S.fits
 have ltp:i<t.place.size:=by omega
 have ex:es[i]? =some (k,x'):=by rw [←G0F];exact hx1
 have ep' :t.place[i]? =some t.place[i]:=by simp [ltp]
 have rise:=S.rise pl
 have next:SetTable.below t.place (t.place[i]+1)=i+1:=by
  obtain⟨b1,b2,b3⟩:=jdC rise (t.place[i]+1)
  have mono:=fun (u v:Nat) (hu:u<t.place.size) (hv:v<t.place.size) (uv:u<v)=>G1e.mp rise u v (by simpa using hu) (by simpa using hv) uv
  simp only [G2J] at mono
  rcases G3L (SetTable.below t.place (t.place[i]+1)) (i+1) with z|z|z
  ·have:=b2 i (by omega) _ ep'
   omega
  ·exact z
  ·have h1:i+1<t.place.size:=by omega
   have:=b1 (i+1) z _ (by simp [h1]:t.place[i+1]? =some t.place[i+1])
   have:=mono i (i+1) ltp h1 (by omega)
   omega
 have z1:=G0Z (Obj.mapFields fun v=>v.setIfInBounds 0 (rawInt ((t.place[i]+1:Nat):Int))) hI rfl
 have z2:=G0Z (Obj.mapFields fun v=>v.setIfInBounds 1 (rawInt ((i:Int)+1))) z1 rfl
 have fin:=q _ _ next z2 ((G04 ..).trans (G04 ..))
 wp_walk using state,told
 split
 ·rename_i z
  have z' :(!t.plain&&decide (es.size>1))=true:=z
  rw [nd] at z';cases z'
 wp_walk
 rw [show ((slot:Nat):Int).toNat=slot from G18 _,hs,ex,ep']
 wp_walk
 exact⟨_,rfl,fin⟩
theorem ji6 {vals:List Value} {md:Value→Nat→Heap→Prop} {Q:PySem.Fin→Shared→Prop} (calm:A.handled=none) (S:Tab (jcI w) es.size t) (M:Mode w a es ep t vals md tp) (ha:s.heap.get? a=some (jc2 es ep t)) (hI:s.heap.get? I=some (itO first i a es.size ep)) (aI:a≠I) (hm:md first i s.heap) (hx:vals[i]? =none)
 (q: ∀h' e,(∀b o,b≠I→s.heap.get? b=some o→h'.get? b=some o)→(∃o,h'.get? e=some o∧o.cls= .type "StopIteration")→E (.ref e) {s with heap:=h'}):
 wpAny (model prog w) A (Builtin.«set_iterator.__next__» ⟨[.ref I],[]⟩) Q E s:=by
 have told: ∀ {Q:Setting→Shared→Prop} {E' :Value→Shared→Prop} {A' :Around} {s' :Shared},Q ⟨prog,w.params⟩ s' →wpAny (model prog w) A' ask Q E' s' :=fun q=>G2M q
 have state:=fun {P:Array (Int×Value)×Nat×SetTable→Shared→Prop} {E' :Value→Shared→Prop} {A' :Around}=>G1m (prog:=prog) (w:=w) (A:=A') (E:=E') (Q:=P) (s:=s) ha rfl S.fits
 have stop:=fun {h1:Heap} {Q' :PySem.Fin→Shared→Prop} (same:Heap.SameBut I s.heap h1)=>L2.jeJ (prog:=prog) (w:=w) (A:=A) (E:=E) (s:= {s with heap:=h1}) (Q:=Q') calm fun h' e grown st=>q h' e (fun b o nb x=>grown b o (same.extBut b o nb x)) st
 obtain⟨hp,g,d,tk,os⟩:=s
 have put: ∀ {P:Unit→Shared→Prop} {E' :Value→Shared→Prop} {k:Nat} {v:Value} {h1:Heap},k<5→Heap.SameBut I hp h1→(∃fs:Array Value,fs.size=5∧h1.get? I=some {cls:= .type "set_iterator",data:= .fields fs})→(∀h',Heap.SameBut I hp h' →(∃fs:Array Value,fs.size=5∧h'.get? I=some {cls:= .type "set_iterator",data:= .fields fs})→P () ⟨h',g,d,tk,os⟩)→wpAny (model prog w) A (setField (.ref I) k v) P E' ⟨h1,g,d,tk,os⟩:=fun hk same ⟨fs,hfs,e⟩ q' =>wpAny_setField_rec (s:=⟨_,g,d,tk,os⟩) e (by omega) fun h' z' same' =>q' h' (same.trans same') ⟨_,by simpa using hfs,z'⟩
 cases M with
 |text b=>
  subst hm
  have e:(pickOrder (w.params.setOrder a ep) es)[((i:Nat):Int).toNat]? =none:=by
   rw [G0i] at hx
   rw [G18,←G0F];exact G21.mp hx
  wp_walk using state,told
  rw [e]
  show wpAny _ _ (setField (.ref I) 2 .none >>= _) _ _ _
  exact wpAny_bind (put (by decide) (G2F _ _) ⟨_,rfl,hI⟩ fun h' same _=>stop same)
 |drawn b dp two ord p tp=>
  obtain⟨rfl,⟨oc,od,odt,osl⟩,hol,hc,c,hd⟩:=hm
  simp only at hc hd
  subst hc hd
  have e:((ord.map fun j=>rawInt (j:Nat)).toArray)[((i:Nat):Int).toNat]? =none:=by
   rw [G0i] at hx
   simp [G21.mp hx]
  wp_walk using state
  rw [e]
  show wpAny _ _ (setField (.ref I) 0 (rawInt 0) >>= fun _=>setField (.ref I) 2 .none >>= _) _ _ _
  exact wpAny_bind (put (by decide) (G2F _ _) ⟨_,rfl,hI⟩ fun h1 same1 there1=>wpAny_bind (put (by decide) same1 there1 fun h' same _=>stop same))
 |table b pl=>
  obtain⟨slot,rfl,hs⟩:=hm
  have led:t.led=true:=by rw [S.led];show (!(w.params.followText "set-order"))=true;rw [b];rfl
  have nd:(!t.plain&&decide (es.size>1))=false:=by
   rcases pl with z|z
   ·rw [z];rfl
   ·rw [G0L (by omega),G29]
  have e:es[i]? =none:=by
   rw [G0i] at hx
   rw [←G0F];exact G21.mp hx
  wp_walk using state,told
  split
  ·rename_i z
   have z' :(!t.plain&&decide (es.size>1))=true:=z
   rw [nd] at z';cases z'
  wp_walk
  rw [show ((slot:Nat):Int).toNat=slot from G18 _,hs,e]
  show wpAny _ _ (setField (.ref I) 2 .none >>= _) _ _ _
  exact wpAny_bind (put (by decide) (G2F _ _) ⟨_,rfl,hI⟩ fun h' same _=>stop same)
end
theorem jga:entryFor table "set_iterator.__iter__" =some Builtin.«dict_keyiterator.__iter__» :=entryFor_alias (id' := "dict_keyiterator.__iter__") (by kernel_rfl) (by first|rfl|decide +kernel|(unfold String.splitOn;simp +decide [String.splitOnAux])) (by decide +kernel) (by kernel_rfl)
theorem jdD:Slot "set_iterator" "__iter__" "set_iterator.__iter__" := .of (owner:= "set_iterator") (n:= "__iter__") (by rw [typeLookup_type,builtinLookup_eq_fast];kernel_rfl) (by decide +kernel) (by decide +kernel) (by decide +kernel) (.inl (by kernel_rfl)) (by rw [G28];kernel_rfl)
theorem jhd (a:Value):argsOk "set_iterator.__iter__" ⟨[a],[]⟩:=by unfold argsOk;kernel_rfl
section
variable {prog:Program} {w:World} {A:Around} {E:Value→Shared→Prop} {s:Shared} {a I tp:Addr} {es:Array (Int×Value)} {ep n i:Nat} {t:SetTable} {ns:List Int} {first:Value} {vals:List Value} {md:Value→Nat→Heap→Prop}
theorem Mode.keep {f:Value} {h h' :Heap} (M:Mode w a es ep t vals md tp) (m:md f i h) (k: ∀o,h.get? tp=some o→h'.get? tp=some o):md f i h' :=by
 cases M with
 |text b=>exact m
 |drawn b dp two ord p tp=>exact⟨m.1,m.2.at fun o e=>k o e⟩
 |table b pl=>exact m
theorem jkh {Q:Option Value→Shared→Prop} (ty:s.TypeIs (.ref I) "set_iterator")
 (h:wpAny (model prog w) A.in1 (Builtin.«set_iterator.__next__» ⟨[.ref I],[]⟩) (fun fin s' => ∃v,fin= .done (.ret v)∧Q (some v) s') (fun e s' =>s'.TypeIs e "StopIteration" ∧Q none s') s):wpAny (model prog w) A (pyNext (.ref I)) Q E s:=
 wpAny_bind (wpAny_attempt (G1o (name:= "__next__") ty slot_si_next (G08 (G1p slot_si_next ty jf9 h (jhc _)) (fun _ _ q=>G0d q) fun e s' q=>wpAny_bind (G3X (b:=true) q.1 isSubtype_stop (G0d q.2)))))
theorem jki (calm:A.handled=none) (S:Tab (jcI w) es.size t) (M:Mode w a es ep t vals md tp) (aI:a≠I) (tI:tp≠I):
 Walks prog w A I [I,a,tp] [I] vals.length (fun i v=>vals[i]? =some v) (fun i h=>h.get? a=some (jc2 es ep t)∧ ∃first,h.get? I=some (itO first i a es.size ep)∧md first i h) where
 sub:=fun b hb=>by simp only [G0g] at hb;simp [hb]
 frame:=fun i h h' ⟨ha,f,hI,m⟩ k=>⟨k a (by simp) _ ha,f,k I (by simp) _ hI,M.keep m fun o e=>k tp (by simp) o e⟩
 item:=fun i s Q E hi ⟨ha,f,hI,m⟩ q=>by
  have hx:vals[i]? =some vals[i]:=by simp [hi]
  refine jkh ⟨_,hI,rfl⟩ ?_
  have fin: ∀ {f' :Value} h',md f' (i+1) s.heap→h'.get? I=some (itO f' (i+1) a es.size ep)→Heap.SameBut I s.heap h' →Q (some vals[i]) {s with heap:=h'}:=fun h' m' e same=>
   q vals[i] h' s.toks hx ⟨same.extBut _ _ aI ha,_,e,M.keep m' fun o x=>same.extBut _ _ tI x⟩ fun b o nb x=>same.extBut _ _ (by simpa using nb) x
  cases M with
  |text b=>
   subst m
   exact jkg S b ha hI aI hx fun h' e same=>fin h' rfl e same
  |drawn b dp two ord p tp=>
   obtain⟨rfl,ht⟩:=m
   exact ji4 S ha hI aI ht p hx fun h' e same=>fin h' ⟨rfl,ht⟩ e same
  |table b pl=>
   obtain⟨slot,rfl,hs⟩:=m
   exact ji5 S b pl ha hI aI hs hx fun h' slot' hs' e same=>fin h' ⟨slot',rfl,hs'⟩ e same
 done:=fun s Q E ⟨ha,f,hI,m⟩ q=>by
  refine jkh ⟨_,hI,rfl⟩ (ji6 calm S M ha hI aI m (by simp) fun h' e kept ⟨o,ho,hc⟩=>⟨⟨o,ho,hc⟩,q h' s.toks fun b ob nb x=>kept b ob (by simpa using nb) x⟩)
 self:=fun i s Q E ⟨ha,f,hI,m⟩ q=>G3J ⟨_,hI,rfl⟩ jdD (G1p jdD ⟨_,hI,rfl⟩ jga (G0d ⟨_,rfl,_,_,⟨_,hI,rfl⟩,slot_si_next.lookup,q⟩) (jhd _))
end
theorem jdV {α:Type}: ∀ (l:List α) (i:Nat) {x:α},l[i]? =some x→(x::l.eraseIdx i).Perm l
 | [],i,x,h=>by cases h
 |y::l,0,x,h=>by cases h;exact .refl _
 |y::l,i+1,x,h=>(List.Perm.swap y x _).trans ((jdV l i h).cons y)
theorem jkj {α:Type} (next:Nat→Nat): ∀ (fuel k:Nat) (left:List α) (out:Array α),left.length=fuel→(pickOrder.go next fuel k left out).toList.Perm (out.toList++left)
 |0,k,left,out,h=>by
  rw [G2u h,G1J]
  exact .refl _
 |fuel+1,k,left,out,h=>by
  unfold pickOrder.go
  have lt:next k%left.length<left.length:=G26 _ (by omega)
  have hx:left[next k%left.length]? =some left[next k%left.length]:=by simp [lt]
  rw [hx]
  refine(jkj next fuel (k+1) _ _ (by rw [G3w lt];omega)).trans ?_
  rw [G1U,G0l]
  exact(jdV left _ hx).append_left _
theorem jkk {α:Type} (next:Nat→Nat) (xs:Array α):(pickOrder next xs).toList.Perm xs.toList:=by
 have:=jkj next xs.size 0 xs.toList #[] (by simp)
 rw [Array.toList_empty,G0P] at this
 exact this
section
variable {prog:Program} {w:World} {A:Around} {E:Value→Shared→Prop} {s:Shared} {a I tp:Addr} {es:Array (Int×Value)} {ep n i:Nat} {t:SetTable} {ns:List Int} {first:Value} {vals:List Value} {md:Value→Nat→Heap→Prop}
theorem Mode.perm (M:Mode w a es ep t vals md tp):vals.Perm (es.toList.map (·.2)):=by
 cases M with
 |text b=>exact(jkk _ es).map _
 |drawn b dp two ord p tp=>
  refine(p.map _).trans ?_
  have:(List.range es.size).map (fun j=>(es.getD j (0,.none)).2)=es.toList.map (·.2):=by
   refine G2q fun j=> ?_
   rw [G0i,G0i]
   by_cases hj:j<es.size
   ·rw [G1F hj];simp [hj,Array.getD]
   ·rw [G1k (by simpa using hj),G1k (by simpa using hj)];rfl
  rw [this]
 |table b pl=>exact .refl _
theorem jip {α:Type} {Q:List α→Shared→Prop}: ∀ (n:Nat) (xs:List α) (s:Shared),xs.length=n→(∀ys d,ys.Perm xs→Q ys {s with drawn:=d})→wpAny (model prog w) A (drawOrder n xs) Q E s
 |0,xs,s,h,q=>by
  rw [G2u h] at q
  exact G0d (q [] s.drawn (.refl _))
 |n+1,[],s,h,q=>by cases h
 |n+1,x::r,s,h,q=>by
  have pickd: ∀ {P:Nat→Shared→Prop} {E' :Value→Shared→Prop},(∀i d,i<(x::r).length→P i {s with drawn:=d})→wpAny (model prog w) A (choose .order (x::r).length) P E' s:=fun p _ _ _=>⟨by simp,p _ _ (G26 _ (by simp))⟩
  refine wpAny_bind (pickd fun i d hi=> ?_)
  have hx:(x::r)[i]? =some (x::r)[i]:=by rw [G0b hi]
  rw [hx]
  refine wpAny_bind (jip n _ {s with drawn:=d} (by rw [G3w hi];simp at h ⊢;omega) fun ys d' p=>G0d (q _ d' ?_))
  exact(p.cons _).trans (jdV _ _ hx)
theorem jlK {Q:Value→Shared→Prop} (S:Tab (jcI w) es.size t) (ha:s.heap.get? a=some (jc2 es ep t)) (few:es.size<1000)
 (k: ∀h' d I tp vals md first,Mode w a es ep t vals md tp→(∀b o,s.heap.get? b=some o→h'.get? b=some o)→s.heap.objs.size≤I→tp≠I→(tp=a∨s.heap.objs.size≤tp)→tp<h'.objs.size→h'.get? I=some (itO first 0 a es.size ep)→md first 0 h' →Q (.ref I) {s with heap:=h',drawn:=d}):
 wpAny (model prog w) A (pyIter (.ref a)) Q E s:=by
 have ty:s.TypeIs (.ref a) "set" :=⟨_,ha,rfl⟩
 have told: ∀ {Q:Setting→Shared→Prop} {E' :Value→Shared→Prop} {A' :Around} {s' :Shared},Q ⟨prog,w.params⟩ s' →wpAny (model prog w) A' ask Q E' s' :=fun q=>G2M q
 have state:=fun {P:Array (Int×Value)×Nat×SetTable→Shared→Prop} {E' :Value→Shared→Prop} {A' :Around} {s' :Shared} (e:s'.heap.get? a=some (jc2 es ep t))=>G1m (prog:=prog) (w:=w) (A:=A') (E:=E') (Q:=P) (s:=s') e rfl S.fits
 refine G3J ty F.slot_set_iter (G1p F.slot_set_iter ty je6 ?_ (F.args_set_iter_1 _))
 have state0:=fun {P:Array (Int×Value)×Nat×SetTable→Shared→Prop} {E' :Value→Shared→Prop} {A' :Around}=>state (P:=P) (E' :=E') (A' :=A') (s' :=s) ha
 cases b:w.params.followText "set-order" with
 |true=>
  wp_walk using state0,told
  have at_:(s.heap.push (itO (rawInt 0) 0 a es.size ep)).get? s.heap.objs.size=some (itO (rawInt 0) 0 a es.size ep):=G0q _ rfl
  have nI:a≠s.heap.objs.size:=fun z=>G02 _ (z ▸ G0n ha)
  refine⟨_,rfl,"set_iterator",_,⟨_,at_,rfl⟩,slot_si_next.lookup,?_⟩
  exact k _ s.drawn s.heap.objs.size a _ _ (rawInt 0) (.text b) (fun b o e=>G0a _ e) (G0f _) nI (.inl rfl) (G0n (G0a _ ha)) at_ rfl
 |false=>
  cases dd:(!t.plain&&decide (es.size>1)) with
  |false=>
   have pl:t.plain=true∨es.size≤1:=by
    cases hp:t.plain with
    |true=>exact .inl rfl
    |false=>rw [hp] at dd;have:=G3C (show decide (es.size>1)=false from dd);exact .inr (by omega)
   have at_:(s.heap.push (itO (rawInt 0) 0 a es.size ep)).get? s.heap.objs.size=some (itO (rawInt 0) 0 a es.size ep):=G0q _ rfl
   have nI:a≠s.heap.objs.size:=fun z=>G02 _ (z ▸ G0n ha)
   have zero:SetTable.below t.place 0=0:=by
    obtain⟨b1,_,b3⟩:=jdC (S.rise pl) 0
    rcases Nat.eq_zero_or_pos (SetTable.below t.place 0) with z|z
    ·exact z
    ·have h0:0<t.place.size:=by omega
     exact absurd (b1 0 z _ (by simp [h0]:t.place[0]? =some t.place[0])) (G2p _)
   have fin:=k _ s.drawn s.heap.objs.size a _ _ (rawInt 0) (.table b pl) (fun b o e=>G0a _ e) (G0f _) nI (.inl rfl) (G0n (G0a _ ha)) at_ ⟨0,rfl,zero⟩
   wp_walk using state0,told
   split
   ·rename_i z
    have z' :(!w.params.followText "set-order" &&(!t.plain&&decide (es.size>1)))=true:=z
    rw [b,dd] at z';cases z'
   wp_walk using state0
   exact⟨_,rfl,"set_iterator",_,⟨_,at_,rfl⟩,slot_si_next.lookup,fin⟩
  |true=>
   have pf:t.plain=false∧1<es.size:=by
    rw [G1q] at dd
    exact⟨by simpa using dd.1,G1H dd.2⟩
   wp_walk using state0,told
   split
   rotate_left
   ·rename_i z
    exact(z (show (!w.params.followText "set-order" &&(!t.plain&&decide (es.size>1)))=true by rw [b,dd];rfl)).elim
   refine wpAny_bind (jip es.size (List.range es.size) s (by simp) fun ord d p=> ?_)
   have len:ord.length=es.size:=by rw [p.length_eq];simp
   have t0:(s.heap.push {cls:= .type "tuple",data:= .seq (ord.map fun (i:Nat)=>rawInt i).toArray}).get? s.heap.objs.size=some {cls:= .type "tuple",data:= .seq (ord.map fun (i:Nat)=>rawInt i).toArray}:=G0q _ rfl
   refine wpAny_bind (wpAny_newTuple ?_ (by rw [G0c,len];exact G01 (G1j few) (by decide)))
   have ha1:(s.heap.push {cls:= .type "tuple",data:= .seq (ord.map fun (i:Nat)=>rawInt i).toArray}).get? a=some (jc2 es ep t):=G0a _ ha
   have state1:=fun {P:Array (Int×Value)×Nat×SetTable→Shared→Prop} {E' :Value→Shared→Prop} {A' :Around}=>state (P:=P) (E' :=E') (A' :=A') (s' := {s with heap:=s.heap.push {cls:= .type "tuple",data:= .seq (ord.map fun (i:Nat)=>rawInt i).toArray},drawn:=d}) ha1
   wp_walk using state1
   have at_:=G0q (s.heap.push {cls:= .type "tuple",data:= .seq (ord.map fun (i:Nat)=>rawInt i).toArray}) (o:=itO (.ref s.heap.objs.size) 0 a es.size ep) rfl
   have lt1:s.heap.objs.size<(s.heap.push {cls:= .type "tuple",data:= .seq (ord.map fun (i:Nat)=>rawInt i).toArray}).objs.size:=G0n t0
   refine⟨_,rfl,"set_iterator",_,⟨_,at_,rfl⟩,slot_si_next.lookup,?_⟩
   exact k _ d _ s.heap.objs.size _ _ (.ref s.heap.objs.size) (.drawn b pf.1 pf.2 ord p s.heap.objs.size) (fun b o e=>G0a _ (G0a _ e)) (G1j lt1) (G0R lt1) (.inr (G0f _)) (G0n (G0a _ t0)) at_ ⟨rfl,⟨_,G0a _ t0,rfl,0,rfl⟩⟩
end
section
variable {prog:Program} {w:World} {A:Around} {E:Value→Shared→Prop} {s:Shared} {a:Addr} {es:Array (Int×Value)} {ep:Nat} {t:SetTable} {ns:List Int}
theorem jlL {Q:Bool→Shared→Prop} (ty:s.TypeIs (.ref a) "set") (q:Q false s):wpAny (model prog w) A (Builtin.List.listLengthHint (.ref a)) Q E s:=by
 have parts:splitId "set.__len__" =some ("set","__len__"):=by decide +kernel
 have f2:=jdp
 unfold Builtin.List.listLengthHint
 refine wpAny_bind (wpAny_specialOf ty F.slot_set_len.lookup ?_)
 dsimp only
 rw [parts]
 dsimp only
 wp_walk
 exact q
def jpT (s:Shared) (es:Array (Int×Value)) (r:Result) (s' :Shared):Prop:=
 ∃h' d tk acc c,r= .ok (.ret (.ref s.heap.objs.size))∧s' = {s with heap:=h',drawn:=d,toks:=tk}∧h'.get? s.heap.objs.size=some {cls:= .type "list",dict:=none,data:= .seq acc c,slots:= #[]}∧(∀b o,s.heap.get? b=some o→h'.get? b=some o)∧acc.toList.Perm (es.toList.map (·.2))
theorem ji7 (calm:A.handled=none) (S:Tab (jcI w) es.size t) (ha:s.heap.get? a=some (jc2 es ep t)) (few:es.size<1000):
 codeAny (model prog w) A (.builtin "proto.collect" ⟨[.ref a],[]⟩) (jpT s es) s:=by
 have nS:s.heap.objs.size≠a:=fun z=>G02 _ (z ▸ G0n ha)
 have old: ∀ {b o o'},s.heap.get? b=some o→(s.heap.push o').get? b=some o:=fun e=>G0a _ e
 refine G2V F.entry_proto_collect ?_
 wp_walk
 refine⟨plainId_quiet F.plain_list_iadd _,G2V F.entry_list_iadd ?_⟩
 rw [G3j F.plain_list_iadd]
 have ha1:(s.heap.push {cls:= .type "list",data:= .seq #[]}).get? a=some (jc2 es ep t):=old ha
 have hS:(s.heap.push {cls:= .type "list",data:= .seq #[]}).get? s.heap.objs.size=some {cls:= .type "list",data:= .seq #[]}:=G0q _ rfl
 have ty:Shared.TypeIs {s with heap:=s.heap.push {cls:= .type "list",data:= .seq #[]}} (.ref a) "set" :=⟨_,ha1,rfl⟩
 have other:Builtin.List.listSameRef (.ref s.heap.objs.size) (.ref a)=false:=by simp [Builtin.List.listSameRef,nS]
 have iter:=fun {P:Value→Shared→Prop} {E' :Value→Shared→Prop} {A' :Around}=>jlK (prog:=prog) (w:=w) (A:=A') (E:=E') (Q:=P) (s:= {s with heap:=s.heap.push {cls:= .type "list",data:= .seq #[]}}) S ha1 (by omega)
 show wpAny _ A.in1 (Builtin.List.listExtendWith (.ref s.heap.objs.size) (.ref a) (.ref s.heap.objs.size)) _ _ _
 wp_walk using iter
 intro h1 d I tp vals md first M kept lo tI tpo tpl hI hm
 have ha2:h1.get? a=some (jc2 es ep t):=kept _ _ ha1
 have hS2:h1.get? s.heap.objs.size=some {cls:= .type "list",data:= .seq #[]}:=kept _ _ hS
 have ty2:Shared.TypeIs {s with heap:=h1,drawn:=d} (.ref a) "set" :=⟨_,ha2,rfl⟩
 refine wpAny_bind (G1x (jlL ty2 ?_))
 wp_walk
 have lt:a<s.heap.objs.size:=G0n ha
 have e1:(s.heap.push {cls:= .type "list",data:= .seq #[]}).objs.size=s.heap.objs.size+1:=G2L ..
 have lo' :s.heap.objs.size+1≤I:=by rw [←e1];exact lo
 have aI:a≠I:=fun z=>by subst z;exact absurd lt (G3m.mpr (Nat.le_of_succ_le lo'))
 have SI:s.heap.objs.size≠I:=G0R lo'
 have Stp:s.heap.objs.size≠tp:=by
  rcases tpo with z|z
  ·rw [z];exact nS
  ·exact G0R (G0W (by rw [e1];exact G14 _) z)
 have hS3:=G0Z (Obj.mapSeq fun x=>x.push Value.none) hS2 rfl
 have hS4:=G0Z (Obj.mapSeq fun x=>x.pop) hS3 rfl
 have same:Heap.SameBut s.heap.objs.size h1 ((h1.update s.heap.objs.size (Obj.mapSeq fun x=>x.push Value.none)).update s.heap.objs.size (Obj.mapSeq fun x=>x.pop)):=(G04 ..).trans (G04 ..)
 have W:=jki (prog:=prog) (A:=A.in1) calm S M aI tI
 refine⟨plainId_quiet F.plain_extend_loop _,codeAny_extend_loopS W.toS ?_ s.heap.objs.size (by simp [SI,nS,Stp]) _ vals.length 0 _ #[] _ rfl (G1c _) ⟨same.extBut _ _ nS.symm ha2,first,same.extBut _ _ SI.symm hI,M.keep hm fun o e=>same.extBut _ _ Stp.symm e⟩ hS4 (ItemsOf.nil _) fun s' acc c' moved hS' items=> ?_⟩
 ·rw [M.perm.length_eq,G0c,G0j];exact G01 (G1j few) (by decide)
 have same_vals:acc.toList=vals:=by
  refine G2q fun i=> ?_
  rw [G0F]
  cases e:acc[i]? with
  |some v=>exact(items.2 i v e).symm
  |none=>
   have:vals.length≤i:=by rw [←items.1];exact G1P.mp e
   exact(G1k this).symm
 obtain⟨h',g',d',tk',os'⟩:=s'
 have mg:g' =s.gens:=moved.gens
 have md' :d' =d:=moved.drawn
 have mo:os' =s.os:=moved.os
 subst mg md' mo
 refine⟨h',d',tk',acc,c',rfl,rfl,hS',fun b o e=> ?_,by rw [same_vals];exact M.perm⟩
 have lb:=G0n e
 have nb:b≠s.heap.objs.size:=G0R lb
 have nbI:b≠I:=fun z=>by subst z;exact absurd lb (G3m.mpr (Nat.le_of_succ_le lo'))
 exact moved.heap b o (by simp [nb,nbI]) (same.extBut _ _ nb (kept _ _ (old e)))
end
end HT
namespace L2
open PySem PySem.Spec PyProof.Rows PySem.SeqAt
theorem Inv.drew {X:Cx} {pins:List (Addr×Obj)} {σ:St} {H:Hp} {s:Shared} (I:Inv X pins σ H s) (d:Drawn):Inv X pins σ H {s with drawn:=d}:=⟨I.ok,I.os,I.bare,I.base,I.loc,I.cell,I.free,I.freeC,I.pin,I.hok,I.len⟩
end L2
namespace L2
theorem mem_step {n:Nat} {T:List (List Int)} {S:List Nat} {j:Nat}:j∈jaZ n T S↔j<n∧ ∃i∈S,ent T i j≠0:=by
 unfold jaZ
 rw [G1Y,G0x,G3Y]
 simp only [G1A]
section
variable {n e:Nat} {T:List (List Int)}
theorem jkl {f:Nat→Int} {P:Nat→Bool}: ∀l:List Nat,((l.filter P).map f).sum=(l.map fun j=>if P j=true then f j else 0).sum
 | []=>rfl
 |j::l=>by
  rw [List.filter_cons,G0y,G1E,←jkl l]
  split
  ·rw [G0y,G1E]
  ·rw [Int.zero_add]
theorem jfv (f:Nat→Int) (n:Nat):jaY n f=((List.range n).map f).sum:=rfl
theorem jkm (hT:Sq n e T) (hn:n≤8) {o:Nat} (ho:o<n): ∀k p,p<n→cnt T n o k p=ent (jfr n (jf0 n T) k) p o
 |0,p,hp=>by
  show (if p=o then (1:Int) else 0)=ent (jhF n) p o
  unfold jhF
  rw [jd9 hp ho]
 |k+1,p,hp=>by
  show ((jba T n p).map (cnt T n o k)).sum=_
  rw [jg0 (Sq.mark T) hn,jcQ hp ho,jfv]
  unfold jba
  rw [jkl]
  refine congrArg List.sum (G0O fun j hj=> ?_)
  have hj:=G0x.mp hj
  rw [jlr hp hj,←jkm hT hn ho k j hj]
  have nn:=(hT.ent_nn hp hj).1
  by_cases z:ent T p j=0
  ·rw [if_pos z,if_neg (by simp;omega),Int.zero_mul]
  ·rw [if_neg z,if_pos (by simp;omega),Int.one_mul]
theorem jdq: ∀ {l:List Int},(∀x∈l,0≤x)→(0<l.sum↔ ∃x∈l,0<x)
 | [],_=>by simp
 |x::l,h=>by
  have h1:=h x G0p
  have h2:=jka fun y hy=>h y (G0s _ hy)
  have ih:=jdq fun y hy=>h y (G0s _ hy)
  rw [G1E]
  constructor
  ·intro z
   by_cases w:0<x
   ·exact⟨x,G0p,w⟩
   ·obtain⟨y,hy,hp⟩:=ih.mp (by omega)
    exact⟨y,G0s _ hy,hp⟩
  ·rintro ⟨y,hy,hp⟩
   rcases G0C.mp hy with z|z
   ·subst z;omega
   ·have:=ih.mpr ⟨y,z,hp⟩;omega
theorem jiq (hT:Sq n e T) {o:Nat} (ho:o<n): ∀ (k:Nat) (S:List Nat),(∀i∈S,i<n)→(o∈itF (jaZ n T) S k↔ ∃p∈S,0<cnt T n o k p)
 |0,S,hS=>by
  show o∈S↔ ∃p∈S,0<(if p=o then (1:Int) else 0)
  constructor
  ·intro z;exact⟨o,z,by rw [if_pos rfl];decide⟩
  ·rintro ⟨p,hp,z⟩
   by_cases w:p=o
   ·exact w ▸ hp
   ·rw [if_neg w] at z;omega
 |k+1,S,hS=>by
  rw [show k+1=1+k by omega,jf2]
  rw [jiq hT ho k (itF (jaZ n T) S 1) (fun i hi=>(mem_step.mp hi).1)]
  constructor
  ·rintro ⟨j,hj,z⟩
   obtain⟨hjn,p,hp,e⟩:=mem_step.mp hj
   refine⟨p,hp,?_⟩
   rw [show 1+k=k+1 by omega]
   show 0<((jba T n p).map (cnt T n o k)).sum
   rw [jdq (fun x hx=>by obtain⟨q,_,rfl⟩:=G0D.mp hx;exact jc7 k q)]
   refine⟨_,G0D.mpr ⟨j,?_,rfl⟩,z⟩
   unfold jba
   rw [G1Y,G0x]
   have:=(hT.ent_nn (hS p hp) hjn).1
   exact⟨hjn,by simp;omega⟩
  ·rintro ⟨p,hp,z⟩
   rw [show 1+k=k+1 by omega] at z
   have z:0<((jba T n p).map (cnt T n o k)).sum:=z
   rw [jdq (fun x hx=>by obtain⟨q,_,rfl⟩:=G0D.mp hx;exact jc7 k q)] at z
   obtain⟨x,hx,xp⟩:=z
   obtain⟨j,hj,rfl⟩:=G0D.mp hx
   unfold jba at hj
   rw [G1Y,G0x] at hj
   have:=G1H hj.2
   exact⟨j,mem_step.mpr ⟨hj.1,p,hp,by omega⟩,xp⟩
end
inductive Made (L:List Nat):Nat→Prop
 |z:Made L 0
 |s {n l:Nat}:Made L n→l∈L→Made L (n+l)
structure Lens (L:List Nat):Prop where
 rise:L.Pairwise (· < ·)
 lo: ∀l∈L,1≤l
 hi: ∀l∈L,l≤12
 some:1≤L.length
 few:L.length≤6
end L2
namespace HT
open PySem PyProof.Rows
section
variable {prog:Program} {w:World} {A:Around} {E:Value→Shared→Prop} {σ α β:Type} {J:Shared→Prop}
def Tm (prog:Program) (w:World) (A:Around) (E:Value→Shared→Prop) (J:Shared→Prop) {σ α:Type} (m:StateT σ Sem α) (Q:α→σ→Prop) (st:σ):Prop:=
 ∀s,J s→wpAny (model prog w) A (m.run st) (fun r s' =>Q r.1 r.2∧J s') E s
theorem Tm.pure {a:α} {Q:α→σ→Prop} {st:σ} (h:Q a st):Tm prog w A E J (Pure.pure a:StateT σ Sem α) Q st:=fun s j=>by
 rw [StateT.run_pure];exact G0d ⟨h,j⟩
theorem Tm.bind {m:StateT σ Sem α} {f:α→StateT σ Sem β} {Q:β→σ→Prop} {st:σ} (h:Tm prog w A E J m (fun a st' =>Tm prog w A E J (f a) Q st') st):Tm prog w A E J (m >>= f) Q st:=fun s j=>by
 rw [StateT.run_bind]
 exact wpAny_bind (G08 (h s j) (fun r s' x=>x.1 s' x.2) fun _ _ e=>e)
theorem Tm.get {Q:σ→σ→Prop} {st:σ} (h:Q st st):Tm prog w A E J (MonadState.get:StateT σ Sem σ) Q st:=fun s j=>by
 show wpAny _ _ ((StateT.get:StateT σ Sem σ).run st) _ _ _
 exact G0d ⟨h,j⟩
theorem Tm.mono {m:StateT σ Sem α} {Q Q' :α→σ→Prop} {st:σ} (h:Tm prog w A E J m Q st) (q: ∀a st',Q a st' →Q' a st'):Tm prog w A E J m Q' st:=fun s j=>
 G08 (h s j) (fun r s' x=>⟨q _ _ x.1,x.2⟩) fun _ _ e=>e
theorem Tm.range' {f:Nat→β→StateT σ Sem (ForInStep β)} (I:Nat→β→σ→Prop) {Q:β→σ→Prop} {b:Nat} (step: ∀i c st,i<b→I i c st→Tm prog w A E J (f i c) (fun r st' =>match r with| .done c' =>Q c' st' | .yield c' =>I (i+1) c' st') st) (fin: ∀c st,I b c st→Q c st):
 ∀ (k i:Nat) (c:β) (st:σ),i+k=b→I i c st→Tm prog w A E J (forIn (List.range' i k) c f) Q st
 |0,i,c,st,e,h=>by
  rw [List.range'_zero,List.forIn_nil]
  exact .pure (fin c st (by rw [←e];exact h))
 |k+1,i,c,st,e,h=>by
  rw [List.range'_succ,G2T]
  refine .bind ((step i c st (by omega) h).mono fun r st' x=> ?_)
  cases r with
  |done c' =>exact .pure x
  |yield c' =>exact Tm.range' I step fin k (i+1) c' st' (by omega) x
theorem Tm.range {f:Nat→β→StateT σ Sem (ForInStep β)} (I:Nat→β→σ→Prop) {Q:β→σ→Prop} {a b:Nat} {c:β} {st:σ} (hab:a≤b) (h:I a c st) (step: ∀i c st,i<b→I i c st→Tm prog w A E J (f i c) (fun r st' =>match r with| .done c' =>Q c' st' | .yield c' =>I (i+1) c' st') st) (fin: ∀c st,I b c st→Q c st):
 Tm prog w A E J (forIn [a:b] c f) Q st:=fun s j=>by
 rw [Std.Legacy.Range.forIn_eq_forIn_range']
 have e:([a:b]:Std.Legacy.Range).size=b-a:=by simp [Std.Legacy.Range.size]
 rw [e]
 exact Tm.range' I step fin (b-a) a c st (by omega) h s j
end
section
variable {prog:Program} {w:World} {A:Around} {E:Value→Shared→Prop} {J:Shared→Prop} {κ:SortKind} {U:Keyed→Prop} {R:Keyed→Keyed→Bool}
def jhM (prog:Program) (w:World) (A:Around) (J:Shared→Prop) (κ:SortKind) (U:Keyed→Prop) (R:Keyed→Keyed→Bool):Prop:=
 ∀x y,U x→U y→ ∀s,J s→wpAny (model prog w) A (keyLt' κ x.1 y.1) (fun b s' =>b=R x y∧J s') (fun _ _=>False) s
theorem Tm.lt {x y:Keyed} {st:SortSt} {Q:Option Bool→SortSt→Prop} (a:jhM prog w A J κ U R) (k:kindOf st=κ) (hx:U x) (hy:U y) (q:Q (some (R x y)) st):Tm prog w A E J (lt' x y) Q st:=by
 rw [lt'_eq]
 refine .bind (.get ?_)
 rw [k]
 intro s j
 rw [StateT.run_bind]
 refine wpAny_bind ?_
 show wpAny _ _ ((StateT.lift _:StateT SortSt Sem _).run st) _ _ _
 rw [StateT.run_lift]
 refine wpAny_bind (wpAny_attempt (G08 (a x y hx hy s j) (fun b s' x=> ?_) fun _ _ e=>e.elim))
 obtain⟨rfl,j'⟩:=x
 exact G0d (Tm.pure (prog:=prog) (w:=w) (A:=A) (E:=E) (J:=J) q s' j')
theorem Tm.elem {arr:Array Keyed} {i:Nat} {x:Keyed} {st:SortSt} {Q:Keyed→SortSt→Prop} (e:arr[i]? =some x) (q:Q x st):Tm prog w A E J (elem' arr i) Q st:=by
 rw [elem'_eq,e]
 exact .pure q
theorem jpU {n lo hi:Nat} {g:Nat→Bool} {st:SortSt} {f:Nat→Option (Option Nat)×Nat×Nat→StateT SortSt Sem (ForInStep (Option (Option Nat)×Nat×Nat))} (anti: ∀i j,i≤j→j<n→g j=true→g i=true)
 (h1:lo≤hi) (h2:hi≤n) (a1: ∀i,i<lo→g i=true) (a2: ∀i,hi≤i→i<n→g i=false)
 (stop: ∀i l,Tm prog w A E J (f i (none,l,l)) (fun r st' =>st' =st∧r= .done (none,l,l)) st)
 (step: ∀i l u,l<u→u≤n→Tm prog w A E J (f i (none,l,u)) (fun r st' =>st' =st∧r=if g (l+(u-l) / 2)=true then .yield (none,l+(u-l) / 2+1,u) else .yield (none,l,l+(u-l) / 2)) st):
 Tm prog w A E J (forIn [0:n] (none,lo,hi) f) (fun c st' =>st' =st∧c.1=none∧c.2.2≤n∧(∀i,i<c.2.2→g i=true)∧ ∀i,c.2.2≤i→i<n→g i=false) st:=by
 have no: ∀i j,i≤j→j<n→g i=false→g j=false:=fun i j hij hj z=>by
  cases hb:g j with
  |false=>rfl
  |true=>rw [anti i j hij hj hb] at z;cases z
 refine Tm.range (fun i c st' =>st' =st∧c.1=none∧c.2.1≤c.2.2∧c.2.2≤n∧(∀i,i<c.2.1→g i=true)∧(∀i,c.2.2≤i→i<n→g i=false)∧c.2.2-c.2.1+i≤n) (Nat.zero_le _) ⟨rfl,rfl,h1,h2,a1,a2,by dsimp only;omega⟩ ?_ ?_
 ·rintro i ⟨r,l,u⟩ _ hi ⟨rfl,hr,b1,b2,b3,b4,b5⟩
  dsimp only at hr b1 b2 b3 b4 b5
  subst hr
  by_cases z:l=u
  ·subst z
   refine(stop i l).mono ?_
   rintro _ _ ⟨rfl,rfl⟩
   exact⟨rfl,rfl,b2,b3,b4⟩
  ·refine(step i l u (by omega) b2).mono ?_
   rintro _ _ ⟨rfl,rfl⟩
   cases hg:g (l+(u-l) / 2) with
   |true=>
    rw [if_pos rfl]
    exact⟨rfl,rfl,by dsimp only;omega,b2,fun j hj=>anti j _ (by dsimp only at hj;omega) (by omega) hg,b4,by dsimp only;omega⟩
   |false=>
    rw [if_neg (by decide)]
    exact⟨rfl,rfl,by dsimp only;omega,by dsimp only;omega,b3,fun j hj hn=>no _ j hj hn hg,by dsimp only;omega⟩
 ·rintro ⟨r,l,u⟩ _ ⟨rfl,hr,b1,b2,b3,b4,b5⟩
  dsimp only at hr b1 b2 b3 b4 b5 ⊢
  exact⟨rfl,hr,b2,fun j hj=>b3 j (by omega),b4⟩
def gal:Bool→Keyed→Array Keyed→Nat→Nat→Nat→StateT SortSt Sem (Option Nat):=sortPriv% PySem.Builtin.gallop
def byd (R:Keyed→Keyed→Bool) (left:Bool) (key:Keyed) (arr:Array Keyed) (base i:Nat):Bool:=
 match arr[base+i]? with
 |some x=>if left=true then R x key else !R key x
 |none=>false
theorem jkn {left:Bool} {key:Keyed} {arr:Array Keyed} {base n hint:Nat} {st:SortSt} {Q:Option Nat→SortSt→Prop} (a:jhM prog w A J κ U R) (k:kindOf st=κ) (uk:U key) (ua: ∀i,i<n→ ∃x,arr[base+i]? =some x∧U x)
 (anti: ∀i j,i≤j→j<n→byd R left key arr base j=true→byd R left key arr base i=true) (hh:hint<n)
 (q: ∀m,m≤n→(∀i,i<m→byd R left key arr base i=true)→(∀i,m≤i→i<n→byd R left key arr base i=false)→Q (some m) st):Tm prog w A E J (gal left key arr base n hint) Q st:=by
 have ask: ∀i (Q' :Option Bool→SortSt→Prop),i<n→Q' (some (byd R left key arr base i)) st→Tm prog w A E J (do let x ←elem' arr (base+i);if left=true then lt' x key else do let b ←lt' key x;Pure.pure (b.map fun z=> !z)) Q' st:=fun i Q' hi q' =>by
  obtain⟨x,ex,ux⟩:=ua i hi
  refine .bind (.elem ex ?_)
  unfold byd at q'
  rw [ex] at q'
  cases left with
  |true=>exact .lt a k ux uk q'
  |false=>exact .bind (.lt a k uk ux (.pure q'))
 have no: ∀i j,i≤j→j<n→byd R left key arr base i=false→byd R left key arr base j=false:=fun i j hij hj z=>by
  cases hb:byd R left key arr base j with
  |false=>rfl
  |true=>rw [anti i j hij hj hb] at z;cases z
 unfold gal
 refine .bind (ask hint _ hh ?_)
 dsimp only
 cases hb:byd R left key arr base hint with
 |true=>
  rw [if_pos rfl]
  refine .bind (Tm.mono (Tm.range (fun i c st' =>st' =st∧c.1=none∧c.2.1<c.2.2∧hint+c.2.1<n∧byd R left key arr base (hint+c.2.1)=true∧i+1≤c.2.2)
   (Q:=fun c st' =>st' =st∧c.1=none∧c.2.1<c.2.2∧hint+c.2.1<n∧byd R left key arr base (hint+c.2.1)=true∧(n-hint≤c.2.2∨byd R left key arr base (hint+c.2.2)=false)) (G1c _) ⟨rfl,rfl,by decide,by omega,by simpa using hb,by decide⟩ ?_ ?_) ?_)
  ·rintro i ⟨r,lo,of⟩ _ hi ⟨rfl,hr,h1,h2,h3,h4⟩
   dsimp only at hr h1 h2 h3 h4 ⊢
   subst hr
   by_cases z:of≥n-hint
   ·rw [if_pos z]
    exact .pure ⟨rfl,rfl,h1,h2,h3,.inl z⟩
   ·rw [if_neg z]
    refine .bind (ask (hint+of) _ (by omega) ?_)
    dsimp only
    cases hc:byd R left key arr base (hint+of) with
    |true=>exact .pure ⟨rfl,rfl,by dsimp only;omega,by dsimp only;omega,hc,by dsimp only;omega⟩
    |false=>exact .pure ⟨rfl,rfl,h1,h2,h3,.inr hc⟩
  ·rintro ⟨r,lo,of⟩ _ ⟨rfl,hr,h1,h2,h3,h4⟩
   exact⟨rfl,hr,h1,h2,h3,.inl (by dsimp only at h4 ⊢;omega)⟩
  ·rintro ⟨r,lo,of⟩ _ ⟨rfl,hr,h1,h2,h3,h4⟩
   dsimp only at hr h1 h2 h3 h4 ⊢
   subst hr
   dsimp only
   refine .bind (Tm.mono (jpU (g:=byd R left key arr base) anti (by omega) (by omega) (fun i hi=>anti i _ (by omega) h2 h3) (fun i hi hn=> ?_) (fun i l=> ?_) (fun i l u hl hu=> ?_)) ?_)
   ·rcases h4 with z|z
    ·omega
    ·exact no (hint+of) i (by omega) hn z
   ·rw [if_pos (G0f l)]
    exact .pure ⟨rfl,rfl⟩
   ·rw [if_neg (show ¬l≥u by omega)]
    refine .bind (ask (l+(u-l) / 2) _ (by omega) ?_)
    dsimp only
    cases byd R left key arr base (l+(u-l) / 2)<;>exact .pure ⟨rfl,rfl⟩
   ·rintro ⟨r,l,u⟩ _ ⟨rfl,hr,b2,b3,b4⟩
    dsimp only at hr b2 b3 b4 ⊢
    subst hr
    exact .pure (q u b2 b3 b4)
 |false=>
  rw [if_neg (by decide)]
  refine .bind (Tm.mono (Tm.range (fun i c st' =>st' =st∧c.1=none∧c.2.1<c.2.2∧c.2.1≤hint∧byd R left key arr base (hint-c.2.1)=false∧i+1≤c.2.2)
   (Q:=fun c st' =>st' =st∧c.1=none∧c.2.1<c.2.2∧c.2.1≤hint∧byd R left key arr base (hint-c.2.1)=false∧(hint+1≤c.2.2∨byd R left key arr base (hint-c.2.2)=true)) (Nat.zero_le _) ⟨rfl,rfl,by decide,by dsimp only;omega,by simpa using hb,by decide⟩ ?_ ?_) ?_)
  ·rintro i ⟨r,lo,of⟩ _ hi ⟨rfl,hr,h1,h2,h3,h4⟩
   dsimp only at hr h1 h2 h3 h4 ⊢
   subst hr
   by_cases z:of≥hint+1
   ·rw [if_pos z]
    exact .pure ⟨rfl,rfl,h1,h2,h3,.inl z⟩
   ·rw [if_neg z]
    refine .bind (ask (hint-of) _ (by omega) ?_)
    dsimp only
    cases hc:byd R left key arr base (hint-of) with
    |false=>exact .pure ⟨rfl,rfl,by dsimp only;omega,by dsimp only;omega,hc,by dsimp only;omega⟩
    |true=>exact .pure ⟨rfl,rfl,h1,h2,h3,.inr hc⟩
  ·rintro ⟨r,lo,of⟩ _ ⟨rfl,hr,h1,h2,h3,h4⟩
   exact⟨rfl,hr,h1,h2,h3,.inl (by dsimp only at h4 ⊢;omega)⟩
  ·rintro ⟨r,lo,of⟩ _ ⟨rfl,hr,h1,h2,h3,h4⟩
   dsimp only at hr h1 h2 h3 h4 ⊢
   subst hr
   dsimp only
   refine .bind (Tm.mono (jpU (g:=byd R left key arr base) anti (by omega) (by omega) (fun i hi=> ?_) (fun i hi hn=>no _ i hi hn h3) (fun i l=> ?_) (fun i l u hl hu=> ?_)) ?_)
   ·rcases h4 with z|z
    ·omega
    ·exact anti i (hint-of) (by omega) (by omega) z
   ·rw [if_pos (G0f l)]
    exact .pure ⟨rfl,rfl⟩
   ·rw [if_neg (show ¬l≥u by omega)]
    refine .bind (ask (l+(u-l) / 2) _ (by omega) ?_)
    dsimp only
    cases byd R left key arr base (l+(u-l) / 2)<;>exact .pure ⟨rfl,rfl⟩
   ·rintro ⟨r,l,u⟩ _ ⟨rfl,hr,b2,b3,b4⟩
    dsimp only at hr b2 b3 b4 ⊢
    subst hr
    exact .pure (q u b2 b3 b4)
end
section
variable {κ:Type} {U:κ→Prop} {R:κ→κ→Bool} {al bl:List κ}
structure Ordd (U:κ→Prop) (R:κ→κ→Bool):Prop where
 asym: ∀x y,U x→U y→R x y=true→R y x=false
 neg: ∀x y z,U x→U y→U z→R x z=true→R x y=true∨R y z=true
theorem Ordd.refl (o:Ordd U R) {x:κ} (u:U x):R x x=false:=by
 cases h:R x x with
 |false=>rfl
 |true=>have:=o.asym x x u u h;rw [h] at this;exact this
theorem Ordd.trans (o:Ordd U R) {x y z:κ} (ux:U x) (uy:U y) (uz:U z) (a:R y x=false) (b:R z y=false):R z x=false:=by
 cases h:R z x with
 |false=>rfl
 |true=>
  rcases o.neg z y x uz uy ux h with z|z
  ·rw [b] at z;cases z
  ·rw [a] at z;cases z
abbrev Srt (R:κ→κ→Bool) (l:List κ):Prop:=l.Pairwise fun x y=>R y x=false
structure MI (R:κ→κ→Bool) (al bl:List κ) (ia ib:Nat) (out:List κ):Prop where
 perm:out.Perm (al.take ia++bl.take ib)
 srt:Srt R out
 ra: ∀x∈out,∀y∈al.drop ia,R y x=false
 rb: ∀x∈out,∀y∈bl.drop ib,R y x=false
theorem jar {l:List κ} {i:Nat} {y:κ} (h:l[i]? =some y):l.drop i=y::l.drop (i+1):=by
 obtain⟨hi,e⟩:=G0m.mp h
 rw [G1X hi,e]
theorem jco {l:List κ} {i:Nat} {y:κ} (h:l[i]? =some y):l.take (i+1)=l.take i++ [y]:=by
 rw [G1u,h];rfl
theorem MI.start (al bl:List κ):MI R al bl 0 0 []:=⟨.refl _,.nil,fun x hx=>(G1i hx).elim,fun x hx=>(G1i hx).elim⟩
theorem MI.pushB {ia ib:Nat} {out:List κ} {y:κ} (m:MI R al bl ia ib out) (o:Ordd U R) (ua: ∀x∈al,U x) (ub: ∀x∈bl,U x) (sa:Srt R al) (sb:Srt R bl) (hy:bl[ib]? =some y) (lt: ∀z,al[ia]? =some z→R y z=true):MI R al bl ia (ib+1) (out++ [y]):=by
 have dy:=jar hy
 have uy:=ub y (G0h hy)
 have sdb:Srt R (bl.drop ib):=sb.sublist (G1I _ _)
 rw [dy] at sdb
 refine⟨?_,?_,fun x hx z hz=> ?_,fun x hx z hz=> ?_⟩
 ·rw [jco hy,←G0l]
  exact m.perm.append_right _
 ·refine G0J.mpr ⟨m.srt,G1d _ _,fun x hx z hz=> ?_⟩
  rw [G0g.mp hz]
  exact m.rb x hx y (by rw [dy];exact G0p ..)
 ·rcases G0z.mp hx with w|w
  ·exact m.ra x w z hz
  ·rw [G0g.mp w]
   cases e:al[ia]? with
   |none=>rw [G1l (G3D.mp e)] at hz;cases hz
   |some a0=>
    have da:=jar e
    have ua0:=ua a0 (G0h e)
    have sda:Srt R (al.drop ia):=sa.sublist (G1I _ _)
    rw [da] at sda hz
    have l0:=o.asym y a0 uy ua0 (lt a0 e)
    rcases G0C.mp hz with v|v
    ·rw [v];exact l0
    ·exact o.trans uy ua0 (ua z (G07 v)) l0 ((G1y.mp sda).1 z v)
 ·rcases G0z.mp hx with w|w
  ·exact m.rb x w z (by rw [dy];exact G0s _ hz)
  ·rw [G0g.mp w]
   exact(G1y.mp sdb).1 z hz
theorem MI.pushA {ia ib:Nat} {out:List κ} {y:κ} (m:MI R al bl ia ib out) (o:Ordd U R) (ua: ∀x∈al,U x) (ub: ∀x∈bl,U x) (sa:Srt R al) (sb:Srt R bl) (hy:al[ia]? =some y) (ge: ∀z,bl[ib]? =some z→R z y=false):MI R al bl (ia+1) ib (out++ [y]):=by
 have dy:=jar hy
 have uy:=ua y (G0h hy)
 have sda:Srt R (al.drop ia):=sa.sublist (G1I _ _)
 rw [dy] at sda
 refine⟨?_,?_,fun x hx z hz=> ?_,fun x hx z hz=> ?_⟩
 ·rw [jco hy]
  refine(m.perm.append_right [y]).trans ?_
  rw [G0l,G0l]
  exact(G2D).append_left _
 ·refine G0J.mpr ⟨m.srt,G1d _ _,fun x hx z hz=> ?_⟩
  rw [G0g.mp hz]
  exact m.ra x hx y (by rw [dy];exact G0p ..)
 ·rcases G0z.mp hx with w|w
  ·exact m.ra x w z (by rw [dy];exact G0s _ hz)
  ·rw [G0g.mp w]
   exact(G1y.mp sda).1 z hz
 ·rcases G0z.mp hx with w|w
  ·exact m.rb x w z hz
  ·rw [G0g.mp w]
   cases e:bl[ib]? with
   |none=>rw [G1l (G3D.mp e)] at hz;cases hz
   |some b0=>
    have db:=jar e
    have ub0:=ub b0 (G0h e)
    have sdb:Srt R (bl.drop ib):=sb.sublist (G1I _ _)
    rw [db] at sdb hz
    have l0:=ge b0 e
    rcases G0C.mp hz with v|v
    ·rw [v];exact l0
    ·exact o.trans uy ub0 (ub z (G07 v)) l0 ((G1y.mp sdb).1 z v)
theorem MI.manyA {ib:Nat} (o:Ordd U R) (ua: ∀x∈al,U x) (ub: ∀x∈bl,U x) (sa:Srt R al) (sb:Srt R bl): ∀ (k:Nat) {ia:Nat} {out:List κ},MI R al bl ia ib out→ia+k≤al.length→(∀i,i<k→ ∀y,al[ia+i]? =some y→ ∀z,bl[ib]? =some z→R z y=false)→MI R al bl (ia+k) ib (out++(al.drop ia).take k)
 |0,ia,out,m,_,_=>by rw [G4h,G1J];exact m
 |k+1,ia,out,m,hk,h=>by
  obtain⟨y,hy⟩: ∃y,al[ia]? =some y:=⟨_,G0b (by omega)⟩
  have m1:=m.pushA o ua ub sa sb hy (h 0 (by omega) y hy)
  have:=MI.manyA o ua ub sa sb k m1 (by omega) (fun i hi y hy=>h (i+1) (by omega) y (by rw [show ia+(i+1)=ia+1+i by omega];exact hy))
  rw [show ia+(k+1)=ia+1+k by omega,jar hy,List.take_succ_cons,List.append_cons]
  exact this
theorem MI.manyB {ia:Nat} (o:Ordd U R) (ua: ∀x∈al,U x) (ub: ∀x∈bl,U x) (sa:Srt R al) (sb:Srt R bl): ∀ (k:Nat) {ib:Nat} {out:List κ},MI R al bl ia ib out→ib+k≤bl.length→(∀i,i<k→ ∀y,bl[ib+i]? =some y→ ∀z,al[ia]? =some z→R y z=true)→MI R al bl ia (ib+k) (out++(bl.drop ib).take k)
 |0,ib,out,m,_,_=>by rw [G4h,G1J];exact m
 |k+1,ib,out,m,hk,h=>by
  obtain⟨y,hy⟩: ∃y,bl[ib]? =some y:=⟨_,G0b (by omega)⟩
  have m1:=m.pushB o ua ub sa sb hy (h 0 (by omega) y hy)
  have:=MI.manyB o ua ub sa sb k m1 (by omega) (fun i hi y hy=>h (i+1) (by omega) y (by rw [show ib+(i+1)=ib+1+i by omega];exact hy))
  rw [show ib+(k+1)=ib+1+k by omega,jar hy,List.take_succ_cons,List.append_cons]
  exact this
theorem MI.all {out:List κ} (m:MI R al bl al.length bl.length out):out.Perm (al++bl)∧Srt R out:=by
 have:=m.perm
 rw [G3g,G3g] at this
 exact⟨this,m.srt⟩
theorem MI.done {ia ib:Nat} {out:List κ} (m:MI R al bl ia ib out) (o:Ordd U R) (ua: ∀x∈al,U x) (ub: ∀x∈bl,U x) (sa:Srt R al) (sb:Srt R bl) (ha:ia≤al.length) (hb:ib≤bl.length) (h:ia=al.length∨ib=bl.length):(out++al.drop ia++bl.drop ib).Perm (al++bl)∧Srt R (out++al.drop ia++bl.drop ib):=by
 have m1:=MI.manyA o ua ub sa sb (al.length-ia) m (by omega) (fun i hi y hy z hz=>by
  have:=(G0m.mp hz).1
  omega)
 rw [show ia+(al.length-ia)=al.length by omega,G0T (by rw [G0Q];exact G0f _)] at m1
 have m2:=MI.manyB o ua ub sa sb (bl.length-ib) m1 (by omega) (fun i hi y hy z hz=>by
  have:=(G0m.mp hz).1
  omega)
 rw [show ib+(bl.length-ib)=bl.length by omega,G0T (l:=bl.drop ib) (by rw [G0Q];exact G0f _)] at m2
 exact m2.all
theorem MI.lastA {ia ib:Nat} {out:List κ} (m:MI R al bl ia ib out) (o:Ordd U R) (ua: ∀x∈al,U x) (ub: ∀x∈bl,U x) (sa:Srt R al) (sb:Srt R bl) (ha:ia+1=al.length) (hb:ib≤bl.length) (h: ∀y∈bl,∀z,al[al.length-1]? =some z→R y z=true):(out++bl.drop ib++al.drop ia).Perm (al++bl)∧Srt R (out++bl.drop ib++al.drop ia):=by
 have m2:=MI.manyB o ua ub sa sb (bl.length-ib) m (by omega) (fun i hi y hy z hz=>h y (G0h hy) z (by rw [←ha];exact hz))
 rw [show ib+(bl.length-ib)=bl.length by omega,G0T (by rw [G0Q];exact G0f _)] at m2
 have m1:=MI.manyA o ua ub sa sb (al.length-ia) m2 (by omega) (fun i hi y hy z hz=>by
  have:=(G0m.mp hz).1
  omega)
 rw [show ia+(al.length-ia)=al.length by omega,G0T (l:=al.drop ia) (by rw [G0Q];exact G0f _)] at m1
 exact m1.all
end
section
variable {prog:Program} {w:World} {A:Around} {E:Value→Shared→Prop} {J:Shared→Prop} {κ:SortKind} {U:Keyed→Prop} {R:Keyed→Keyed→Bool}
theorem Tm.rule {σ:Type} {x:String} {Q:Unit→σ→Prop} {st:σ} (q:Q () st):Tm prog w A E J (liftM (PySem.rule x):StateT σ Sem Unit) Q st:=fun s j=>by
 show wpAny _ _ ((StateT.lift _:StateT σ Sem _).run st) _ _ _
 rw [StateT.run_lift]
 exact wpAny_bind (G3F (G0d ⟨q,j⟩))
theorem Tm.modify {σ:Type} {f:σ→σ} {Q:Unit→σ→Prop} {st:σ} (q:Q () (f st)):Tm prog w A E J (_root_.modify f:StateT σ Sem PUnit) Q st:=fun s j=>by
 rw [StateT.run_modify]
 exact G0d ⟨q,j⟩
def mLo:Array Keyed→Array Keyed→StateT SortSt Sem (Array Keyed):=sortPriv% PySem.Builtin.mergeLo
def Gal (st st' :SortSt):Prop:=kindOf st' =kindOf st∧arrOf st' =arrOf st∧pendingOf st' =pendingOf st∧failedOf st' =failedOf st
theorem Gal.refl (st:SortSt):Gal st st:=⟨rfl,rfl,rfl,rfl⟩
theorem jel (a:Array Keyed) (i:Nat):(a.extract i).toList=a.toList.drop i:=by
 rw [G2g,List.extract_eq_drop_take]
 exact G0T (by simp)
theorem jir (a:Array Keyed) (i k:Nat):(a.extract i (i+k)).toList=(a.toList.drop i).take k:=by
 rw [G2g,List.extract_eq_drop_take,G3U]
def jcJ (R:Keyed→Keyed→Bool) (a b c:Array Keyed):Prop:=c.toList.Perm (a.toList++b.toList)∧Srt R c.toList
structure Two (U:Keyed→Prop) (R:Keyed→Keyed→Bool) (a b:Array Keyed):Prop where
 o:Ordd U R
 ua: ∀x∈a.toList,U x
 ub: ∀x∈b.toList,U x
 sa:Srt R a.toList
 sb:Srt R b.toList
 last: ∀y∈b.toList,∀z,a.toList[a.toList.length-1]? =some z→R y z=true
abbrev MA (R:Keyed→Keyed→Bool) (a b:Array Keyed) (ia ib:Nat) (out:Array Keyed):Prop:=MI R a.toList b.toList ia ib out.toList
section
variable {a b out:Array Keyed} {ia ib:Nat}
theorem MA.done (t:Two U R a b) (m:MA R a b ia ib out) (ha:ia≤a.size) (hb:ib≤b.size) (h:ia=a.size∨ib=b.size):jcJ R a b (out++a.extract ia++b.extract ib):=by
 have:=MI.done m t.o t.ua t.ub t.sa t.sb (by simpa using ha) (by simpa using hb) (by simpa using h)
 unfold jcJ
 rw [G1h,G1h,jel,jel]
 exact this
theorem MA.lastA (t:Two U R a b) (m:MA R a b ia ib out) (ha:ia+1=a.size) (hb:ib≤b.size):jcJ R a b (out++b.extract ib++a.extract ia):=by
 have:=MI.lastA m t.o t.ua t.ub t.sa t.sb (by simpa using ha) (by simpa using hb) t.last
 unfold jcJ
 rw [G1h,G1h,jel,jel]
 exact this
theorem MA.pushB (t:Two U R a b) {y:Keyed} (m:MA R a b ia ib out) (hy:b.toList[ib]? =some y) (lt: ∀z,a.toList[ia]? =some z→R y z=true):MA R a b ia (ib+1) (out.push y):=by
 have:=MI.pushB m t.o t.ua t.ub t.sa t.sb hy lt
 show MI R _ _ _ _ (out.push y).toList
 rw [G1U];exact this
theorem MA.pushA (t:Two U R a b) {y:Keyed} (m:MA R a b ia ib out) (hy:a.toList[ia]? =some y) (ge: ∀z,b.toList[ib]? =some z→R z y=false):MA R a b (ia+1) ib (out.push y):=by
 have:=MI.pushA m t.o t.ua t.ub t.sa t.sb hy ge
 show MI R _ _ _ _ (out.push y).toList
 rw [G1U];exact this
theorem MA.manyA (t:Two U R a b) (m:MA R a b ia ib out) (k:Nat) (hk:ia+k≤a.size) (h: ∀i,i<k→ ∀y,a.toList[ia+i]? =some y→ ∀z,b.toList[ib]? =some z→R z y=false):MA R a b (ia+k) ib (out++a.extract ia (ia+k)):=by
 have:=MI.manyA t.o t.ua t.ub t.sa t.sb k m (by simpa using hk) h
 show MI R _ _ _ _ (out++a.extract ia (ia+k)).toList
 rw [G1h,jir];exact this
theorem MA.manyB (t:Two U R a b) (m:MA R a b ia ib out) (k:Nat) (hk:ib+k≤b.size) (h: ∀i,i<k→ ∀y,b.toList[ib+i]? =some y→ ∀z,a.toList[ia]? =some z→R y z=true):MA R a b ia (ib+k) (out++b.extract ib (ib+k)):=by
 have:=MI.manyB t.o t.ua t.ub t.sa t.sb k m (by simpa using hk) h
 show MI R _ _ _ _ (out++b.extract ib (ib+k)).toList
 rw [G1h,jir];exact this
end
theorem jcG {left:Bool} {key x:Keyed} {arr:Array Keyed} {base i:Nat} (h:arr.toList[base+i]? =some x):byd R left key arr base i=if left=true then R x key else !R key x:=by
 unfold byd
 rw [←G0F,h]
theorem jeO {l:List Keyed} (s:Srt R l) (o:Ordd U R) (u: ∀x∈l,U x) {i j:Nat} {x y:Keyed} (hij:i≤j) (hx:l[i]? =some x) (hy:l[j]? =some y):R y x=false:=by
 by_cases z:i=j
 ·subst z
  rw [hx] at hy;injection hy with hy;subst hy
  exact o.refl (u x (G0h hx))
 ·obtain⟨h1,e1⟩:=G0m.mp hx
  obtain⟨h2,e2⟩:=G0m.mp hy
  have:=G1e.mp s i j h1 h2 (by omega)
  rw [e1,e2] at this;exact this
theorem jeP {arr:Array Keyed} {i:Nat} (h:i<arr.size): ∃x,arr.toList[i]? =some x∧arr[i]? =some x:=⟨arr[i],by simp [h],by simp [h]⟩
theorem jrI {arr:Array Keyed} {y:Keyed} {base n hint:Nat} {st:SortSt} {Q:Option Nat→SortSt→Prop} (ak:jhM prog w A J κ U R) (kd:kindOf st=κ) (o:Ordd U R) (u: ∀x∈arr.toList,U x) (s:Srt R arr.toList) (uy:U y) (hn:base+n≤arr.size) (hh:hint<n)
 (q: ∀k,k≤n→(∀i,i<k→ ∀x,arr.toList[base+i]? =some x→R y x=false)→(∀i,k≤i→i<n→ ∀x,arr.toList[base+i]? =some x→R y x=true)→Q (some k) st):Tm prog w A E J (gal false y arr base n hint) Q st:=by
 refine jkn ak kd uy (fun i hi=> ?_) (fun i j hij hj h=> ?_) hh (fun k k1 k2 k3=>q k k1 (fun i hi x hx=> ?_) (fun i h1 h2 x hx=> ?_))
 ·obtain⟨x,lx,ex⟩:=jeP (show base+i<arr.size by omega)
  exact⟨x,ex,u x (G0h lx)⟩
 ·obtain⟨x,lx,_⟩:=jeP (show base+i<arr.size by omega)
  obtain⟨z,lz,_⟩:=jeP (show base+j<arr.size by omega)
  rw [jcG lz] at h
  rw [jcG lx]
  have hz:R y z=false:=by simpa using h
  have:=o.trans (u x (G0h lx)) (u z (G0h lz)) uy (jeO s o u (by omega) lx lz) hz
  simp [this]
 ·have:=k2 i hi
  rw [jcG hx] at this
  simpa using this
 ·have:=k3 i h1 h2
  rw [jcG hx] at this
  simpa using this
theorem jqj {arr:Array Keyed} {y:Keyed} {base n hint:Nat} {st:SortSt} {Q:Option Nat→SortSt→Prop} (ak:jhM prog w A J κ U R) (kd:kindOf st=κ) (o:Ordd U R) (u: ∀x∈arr.toList,U x) (s:Srt R arr.toList) (uy:U y) (hn:base+n≤arr.size) (hh:hint<n)
 (q: ∀k,k≤n→(∀i,i<k→ ∀x,arr.toList[base+i]? =some x→R x y=true)→(∀i,k≤i→i<n→ ∀x,arr.toList[base+i]? =some x→R x y=false)→Q (some k) st):Tm prog w A E J (gal true y arr base n hint) Q st:=by
 refine jkn ak kd uy (fun i hi=> ?_) (fun i j hij hj h=> ?_) hh (fun k k1 k2 k3=>q k k1 (fun i hi x hx=> ?_) (fun i h1 h2 x hx=> ?_))
 ·obtain⟨x,lx,ex⟩:=jeP (show base+i<arr.size by omega)
  exact⟨x,ex,u x (G0h lx)⟩
 ·obtain⟨x,lx,_⟩:=jeP (show base+i<arr.size by omega)
  obtain⟨z,lz,_⟩:=jeP (show base+j<arr.size by omega)
  rw [jcG lz] at h
  rw [jcG lx]
  have hz:R z y=true:=by simpa using h
  rcases o.neg z x y (u z (G0h lz)) (u x (G0h lx)) uy hz with v|v
  ·rw [jeO s o u (by omega) lx lz] at v;cases v
  ·simp [v]
 ·have:=k2 i hi
  rw [jcG hx] at this
  simpa using this
 ·have:=k3 i h1 h2
  rw [jcG hx] at this
  simpa using this
theorem jpV {a b:Array Keyed} {st:SortSt} {Q:Array Keyed→SortSt→Prop} (ak:jhM prog w A J κ U R) (kd:kindOf st=κ) (t:Two U R a b)
 (na:1≤a.size) (nb:1≤b.size) (first: ∀y z,b.toList[0]? =some y→a.toList[0]? =some z→R y z=true)
 (q: ∀c st',Gal st st' →jcJ R a b c→Q c st'):Tm prog w A E J (mLo a b) Q st:=by
 have gb: ∀i,i<b.size→ ∃y,b[i]? =some y∧b.toList[i]? =some y∧U y:=fun i hi=>⟨b[i],by simp [hi],by simp [hi],t.ub _ (by simp)⟩
 have ga: ∀i,i<a.size→ ∃y,a[i]? =some y∧a.toList[i]? =some y∧U y:=fun i hi=>⟨a[i],by simp [hi],by simp [hi],t.ua _ (by simp)⟩
 unfold mLo
 refine .bind (.rule ?_)
 obtain⟨b0,eb0,lb0,ub0⟩:=gb 0 (by omega)
 refine .bind (.elem eb0 ?_)
 have m0:MA R a b 0 1 #[b0]:=MA.pushB t (out:= #[]) (MI.start _ _) lb0 (fun z hz=>first _ z lb0 hz)
 dsimp only
 by_cases z1:1=b.size
 ·rw [if_pos (by simpa using z1)]
  exact .pure (q _ _ (Gal.refl st) (MA.done t m0 (G1c _) (by omega) (.inr z1)))
 rw [if_neg (by simpa using z1)]
 by_cases z2:0+1=a.size
 ·rw [if_pos (by simpa using z2)]
  exact .pure (q _ _ (Gal.refl st) (MA.lastA t m0 z2 (by omega)))
 rw [if_neg (by simpa using z2)]
 refine .bind (.get ?_)
 refine .bind (Tm.mono (Tm.range (fun i c st' =>Gal st st' ∧c.1=none∧MA R a b c.2.2.1 c.2.2.2.1 c.2.1∧c.2.2.1+1<a.size∧c.2.2.2.1<b.size∧i+1≤c.2.2.1+c.2.2.2.1)
  (Q:=fun c st' =>Gal st st' ∧ ∃r,c.1=some r∧jcJ R a b r) (Nat.zero_le _) ⟨Gal.refl st,rfl,m0,by dsimp only;omega,by dsimp only;omega,by dsimp only;omega⟩ ?_ ?_) ?_)
 ·rintro i ⟨r,out,ia,ib,mg⟩ st1 hi ⟨gl,hr,m,h1,h2,h3⟩
  dsimp only at hr m h1 h2 h3 ⊢
  subst hr
  refine .bind (Tm.mono (Tm.range (fun j c st' =>Gal st st' ∧c.1=none∧MA R a b c.2.2.1 c.2.2.2.1 c.2.1∧c.2.2.1+1<a.size∧c.2.2.2.1<b.size∧ia+ib+j≤c.2.2.1+c.2.2.2.1)
   (Q:=fun c st' =>Gal st st' ∧((∃r,c.1=some r∧jcJ R a b r)∨(c.1=none∧MA R a b c.2.2.1 c.2.2.2.1 c.2.1∧c.2.2.1+1<a.size∧c.2.2.2.1<b.size∧ia+ib+1≤c.2.2.1+c.2.2.2.1))) (Nat.zero_le _) ⟨gl,rfl,m,h1,h2,by dsimp only;omega⟩ ?_ ?_) ?_)
  ·clear m h1 h2
   rintro j ⟨r,out,ja,jb,ac,bc⟩ st2 hj ⟨gl2,hr,m,h1,h2,h4⟩
   dsimp only at hr m h1 h2 h4 ⊢
   subst hr
   obtain⟨y,ey,ly,uy⟩:=gb jb h2
   obtain⟨x,ex,lx,ux⟩:=ga ja (by omega)
   refine .bind (.elem ey (.bind (.elem ex (.bind (.lt ak (gl2.1.trans kd) uy ux ?_)))))
   dsimp only
   cases hb:R y x with
   |true=>
    rw [if_pos rfl]
    refine .bind (.elem ey ?_)
    have m1:=MA.pushB t m ly (fun z hz=>by rw [lx] at hz;injection hz with hz;rw [←hz];exact hb)
    by_cases c1:jb+1=b.size
    ·rw [if_pos (by simpa using c1)]
     exact .pure ⟨gl2,.inl ⟨_,rfl,MA.done t m1 (by omega) (by omega) (.inr c1)⟩⟩
    rw [if_neg (by simpa using c1)]
    split
    ·exact .pure ⟨gl2,.inr ⟨rfl,m1,h1,by dsimp only;omega,by dsimp only;omega⟩⟩
    ·exact .pure ⟨gl2,rfl,m1,h1,by dsimp only;omega,by dsimp only;omega⟩
   |false=>
    rw [if_neg (by decide)]
    refine .bind (.elem ex ?_)
    have m1:=MA.pushA t m lx (fun z hz=>by rw [ly] at hz;injection hz with hz;rw [←hz];exact hb)
    by_cases c1:ja+1+1=a.size
    ·rw [if_pos (by simpa using c1)]
     exact .pure ⟨gl2,.inl ⟨_,rfl,MA.lastA t m1 c1 (by omega)⟩⟩
    rw [if_neg (by simpa using c1)]
    split
    ·exact .pure ⟨gl2,.inr ⟨rfl,m1,by dsimp only;omega,h2,by dsimp only;omega⟩⟩
    ·exact .pure ⟨gl2,rfl,m1,by dsimp only;omega,h2,by dsimp only;omega⟩
  ·rintro ⟨r,out,ja,jb,ac,bc⟩ st2 ⟨gl2,hr,m,h1,h2,h4⟩
   dsimp only at h1 h2 h4
   omega
  ·clear m h1 h2
   rintro ⟨r,out,ja,jb,ac,bc⟩ st2 ⟨gl2,⟨c,hr,wh⟩|⟨hr,m,h1,h2,h4⟩⟩
   ·dsimp only at hr ⊢
    subst hr
    exact .pure ⟨gl2,c,rfl,wh⟩
   dsimp only at hr m h1 h2 h4 ⊢
   subst hr
   refine .bind (.rule ?_)
   refine .bind (Tm.mono (Tm.range (fun j c st' =>Gal st st' ∧c.1=none∧MA R a b c.2.2.1 c.2.2.2.1 c.2.1∧c.2.2.1+1<a.size∧c.2.2.2.1<b.size∧ja+jb+j≤c.2.2.1+c.2.2.2.1)
    (Q:=fun c st' =>Gal st st' ∧((∃r,c.1=some r∧jcJ R a b r)∨(c.1=none∧MA R a b c.2.2.1 c.2.2.2.1 c.2.1∧c.2.2.1+1<a.size∧c.2.2.2.1<b.size∧ja+jb≤c.2.2.1+c.2.2.2.1))) (Nat.zero_le _) ⟨gl2,rfl,m,h1,h2,by dsimp only;omega⟩ ?_ ?_) ?_)
   ·clear m h1 h2 gl2
    rintro j ⟨r,out,pa,pb,mg,ac,bc⟩ st2 hj ⟨gl2,hr,m,h1,h2,h5⟩
    dsimp only at hr m h1 h2 h5 ⊢
    subst hr
    obtain⟨y,ey,ly,uy⟩:=gb pb h2
    by_cases zg:mg>1
    all_goals
     first|rw [if_pos zg]|rw [if_neg zg]
     refine .bind (Tm.modify ?_)
     refine .bind (.elem ey (.bind (jrI ak (gl2.1.trans kd) t.o t.ua t.sa uy (by omega) (by omega) fun k k1 k2 k3=> ?_)))
     dsimp only
     have m1:=MA.manyA t m k (by omega) (fun i hi x hx z hz=>by rw [ly] at hz;injection hz with hz;rw [←hz];exact k2 i hi x hx)
     by_cases kz:k>0
     ·rw [if_pos kz]
      by_cases c1:pa+k+1=a.size
      ·rw [if_pos (by simpa using c1)]
       exact .pure ⟨gl2,.inl ⟨_,rfl,MA.lastA t m1 c1 (by omega)⟩⟩
      rw [if_neg (by simpa using c1)]
      by_cases c2:pa+k=a.size
      ·rw [if_pos (by simpa using c2)]
       exact .pure ⟨gl2,.inl ⟨_,rfl,MA.done t m1 (by omega) (by omega) (.inl c2)⟩⟩
      rw [if_neg (by simpa using c2)]
      have P1:pa+k+1<a.size:=by omega
      have M2:=MA.pushB t m1 ly (fun x hx=>k3 k (G0f _) (by omega) x hx)
      refine .bind (.elem ey ?_)
      by_cases c3:pb+1=b.size
      ·rw [if_pos (by simpa using c3)]
       exact .pure ⟨gl2,.inl ⟨_,rfl,MA.done t M2 (by omega) (by omega) (.inr c3)⟩⟩
      rw [if_neg (by simpa using c3)]
      obtain⟨x,ex,lx,ux⟩:=ga (pa+k) (by omega)
      refine .bind (.elem ex (.bind (jqj ak (gl2.1.trans kd) t.o t.ub t.sb ux (by omega) (by omega) fun k' q1 q2 q3=> ?_)))
      dsimp only
      have M3:=MA.manyB t M2 k' (by omega) (fun i hi y' hy z hz=>by rw [lx] at hz;injection hz with hz;rw [←hz];exact q2 i hi y' hy)
      by_cases kz' :k' >0
      ·rw [if_pos kz']
       by_cases c4:pb+1+k' =b.size
       ·rw [if_pos (by simpa using c4)]
        exact .pure ⟨gl2,.inl ⟨_,rfl,MA.done t M3 (by omega) (by omega) (.inr c4)⟩⟩
       rw [if_neg (by simpa using c4)]
       refine .bind (.elem ex ?_)
       have M4:=MA.pushA t M3 lx (fun z hz=>q3 k' (G0f _) (by omega) z hz)
       by_cases c5:pa+k+1+1=a.size
       ·rw [if_pos (by simpa using c5)]
        exact .pure ⟨gl2,.inl ⟨_,rfl,MA.lastA t M4 c5 (by omega)⟩⟩
       rw [if_neg (by simpa using c5)]
       by_cases c6:(decide (k<7)&&decide (k' <7))=true
       ·rw [if_pos c6]
        exact .pure ⟨gl2,.inr ⟨rfl,M4,by dsimp only;omega,by dsimp only;omega,by dsimp only;omega⟩⟩
       ·rw [if_neg c6]
        exact .pure ⟨gl2,rfl,M4,by dsimp only;omega,by dsimp only;omega,by dsimp only;omega⟩
      ·rw [if_neg kz']
       refine .bind (.elem ex ?_)
       have M4:=MA.pushA t M2 lx (fun z hz=>q3 0 (by omega) (by omega) z hz)
       by_cases c5:pa+k+1+1=a.size
       ·rw [if_pos (by simpa using c5)]
        exact .pure ⟨gl2,.inl ⟨_,rfl,MA.lastA t M4 c5 (by omega)⟩⟩
       rw [if_neg (by simpa using c5)]
       by_cases c6:(decide (k<7)&&decide (k' <7))=true
       ·rw [if_pos c6]
        exact .pure ⟨gl2,.inr ⟨rfl,M4,by dsimp only;omega,by dsimp only;omega,by dsimp only;omega⟩⟩
       ·rw [if_neg c6]
        exact .pure ⟨gl2,rfl,M4,by dsimp only;omega,by dsimp only;omega,by dsimp only;omega⟩
     ·rw [if_neg kz]
      have k0:k=0:=by omega
      have P1:pa+1<a.size:=h1
      have M2:=MA.pushB t m ly (fun x hx=>k3 0 (by omega) (by omega) x hx)
      refine .bind (.elem ey ?_)
      by_cases c3:pb+1=b.size
      ·rw [if_pos (by simpa using c3)]
       exact .pure ⟨gl2,.inl ⟨_,rfl,MA.done t M2 (by omega) (by omega) (.inr c3)⟩⟩
      rw [if_neg (by simpa using c3)]
      obtain⟨x,ex,lx,ux⟩:=ga (pa) (by omega)
      refine .bind (.elem ex (.bind (jqj ak (gl2.1.trans kd) t.o t.ub t.sb ux (by omega) (by omega) fun k' q1 q2 q3=> ?_)))
      dsimp only
      have M3:=MA.manyB t M2 k' (by omega) (fun i hi y' hy z hz=>by rw [lx] at hz;injection hz with hz;rw [←hz];exact q2 i hi y' hy)
      by_cases kz' :k' >0
      ·rw [if_pos kz']
       by_cases c4:pb+1+k' =b.size
       ·rw [if_pos (by simpa using c4)]
        exact .pure ⟨gl2,.inl ⟨_,rfl,MA.done t M3 (by omega) (by omega) (.inr c4)⟩⟩
       rw [if_neg (by simpa using c4)]
       refine .bind (.elem ex ?_)
       have M4:=MA.pushA t M3 lx (fun z hz=>q3 k' (G0f _) (by omega) z hz)
       by_cases c5:pa+1+1=a.size
       ·rw [if_pos (by simpa using c5)]
        exact .pure ⟨gl2,.inl ⟨_,rfl,MA.lastA t M4 c5 (by omega)⟩⟩
       rw [if_neg (by simpa using c5)]
       by_cases c6:(decide (k<7)&&decide (k' <7))=true
       ·rw [if_pos c6]
        exact .pure ⟨gl2,.inr ⟨rfl,M4,by dsimp only;omega,by dsimp only;omega,by dsimp only;omega⟩⟩
       ·rw [if_neg c6]
        exact .pure ⟨gl2,rfl,M4,by dsimp only;omega,by dsimp only;omega,by dsimp only;omega⟩
      ·rw [if_neg kz']
       refine .bind (.elem ex ?_)
       have M4:=MA.pushA t M2 lx (fun z hz=>q3 0 (by omega) (by omega) z hz)
       by_cases c5:pa+1+1=a.size
       ·rw [if_pos (by simpa using c5)]
        exact .pure ⟨gl2,.inl ⟨_,rfl,MA.lastA t M4 c5 (by omega)⟩⟩
       rw [if_neg (by simpa using c5)]
       by_cases c6:(decide (k<7)&&decide (k' <7))=true
       ·rw [if_pos c6]
        exact .pure ⟨gl2,.inr ⟨rfl,M4,by dsimp only;omega,by dsimp only;omega,by dsimp only;omega⟩⟩
       ·rw [if_neg c6]
        exact .pure ⟨gl2,rfl,M4,by dsimp only;omega,by dsimp only;omega,by dsimp only;omega⟩
   ·rintro ⟨r,out,pa,pb,mg,ac,bc⟩ st3 ⟨gl3,hr,m,h1,h2,h5⟩
    dsimp only at h1 h2 h5
    omega
   ·clear m h1 h2
    rintro ⟨r,out,pa,pb,mg,ac,bc⟩ st3 ⟨gl3,⟨c,hr,wh⟩|⟨hr,m,h1,h2,h5⟩⟩
    ·dsimp only at hr ⊢
     subst hr
     exact .pure ⟨gl3,c,rfl,wh⟩
    dsimp only at hr m h1 h2 h5 ⊢
    subst hr
    refine .bind (Tm.modify ?_)
    exact .pure ⟨gl3,rfl,m,h1,h2,by dsimp only;omega⟩
 ·rintro ⟨r,out,ia,ib,mg⟩ st1 ⟨gl,hr,m,h1,h2,h3⟩
  dsimp only at h1 h2 h3
  omega
 ·rintro ⟨r,out,ia,ib,mg⟩ st1 ⟨gl,c,hr,wh⟩
  dsimp only at hr ⊢
  subst hr
  exact .pure (q c st1 gl wh)
end
section
variable {prog:Program} {w:World} {A:Around} {E:Value→Shared→Prop} {J:Shared→Prop} {κ:SortKind} {U:Keyed→Prop} {R:Keyed→Keyed→Bool}
abbrev Flp (R:Keyed→Keyed→Bool):Keyed→Keyed→Bool:=fun x y=>R y x
theorem Ordd.flip (o:Ordd U R):Ordd U (Flp R):=⟨fun x y ux uy h=>o.asym y x uy ux h,fun x y z ux uy uz h=>(o.neg z y x uz uy ux h).symm⟩
theorem jbc {l:List Keyed} (s:Srt R l):Srt (Flp R) l.reverse:=G3d.mpr s
theorem jis {l:List Keyed} (s:Srt (Flp R) l):Srt R l.reverse:=G3d.mpr s
theorem jko {l:List Keyed} {n:Nat} (h1:1≤n) (hn:n≤l.length):l.reverse[l.length-n]? =l[n-1]? :=by
 rw [G12 (by omega)]
 congr 1;omega
theorem jbQ {l:List Keyed} {z:Keyed} {n:Nat} (hn:n≤l.length) (h:l.reverse[l.length-n]? =some z):1≤n∧l[n-1]? =some z:=by
 have:=(G0m.mp h).1
 rw [G0M] at this
 have n1:1≤n:=by omega
 exact⟨n1,by rw [←jko n1 hn];exact h⟩
theorem jdE (l:List Keyed) {n:Nat} (hn:n≤l.length):l.reverse.drop (l.length-n)=(l.take n).reverse:=by
 rw [List.drop_reverse]
 congr 2;omega
def MH (R:Keyed→Keyed→Bool) (a b:Array Keyed) (na nb:Nat) (out:Array Keyed):Prop:=MI (Flp R) b.toList.reverse a.toList.reverse (b.toList.length-nb) (a.toList.length-na) out.toList
structure TwoH (U:Keyed→Prop) (R:Keyed→Keyed→Bool) (a b:Array Keyed):Prop where
 o:Ordd U R
 ua: ∀x∈a.toList,U x
 ub: ∀x∈b.toList,U x
 sa:Srt R a.toList
 sb:Srt R b.toList
 first: ∀z∈a.toList,∀y,b.toList[0]? =some y→R y z=true
section
variable {a b out:Array Keyed} {na nb:Nat}
theorem TwoH.fa (t:TwoH U R a b): ∀x∈a.toList.reverse,U x:=fun x hx=>t.ua x (G1r.mp hx)
theorem TwoH.fb (t:TwoH U R a b): ∀x∈b.toList.reverse,U x:=fun x hx=>t.ub x (G1r.mp hx)
theorem MH.start (a b:Array Keyed):MH R a b a.toList.length b.toList.length #[]:=by
 unfold MH;rw [Nat.sub_self,Nat.sub_self];exact MI.start _ _
theorem MH.pushA (t:TwoH U R a b) {y:Keyed} (m:MH R a b na nb out) (h1:1≤na) (hn:na≤a.toList.length) (hb:nb≤b.toList.length) (hy:a.toList[na-1]? =some y) (lt: ∀z,1≤nb→b.toList[nb-1]? =some z→R z y=true):MH R a b (na-1) nb (out.push y):=by
 have:=MI.pushB m t.o.flip t.fb t.fa (jbc t.sb) (jbc t.sa) (by rw [jko h1 hn];exact hy) (fun z hz=>lt z (jbQ hb hz).1 (jbQ hb hz).2)
 unfold MH
 rw [G1U,show a.toList.length-(na-1)=a.toList.length-na+1 by omega];exact this
theorem MH.pushB (t:TwoH U R a b) {y:Keyed} (m:MH R a b na nb out) (h1:1≤nb) (hn:nb≤b.toList.length) (ha:na≤a.toList.length) (hy:b.toList[nb-1]? =some y) (ge: ∀z,1≤na→a.toList[na-1]? =some z→R y z=false):MH R a b na (nb-1) (out.push y):=by
 have:=MI.pushA m t.o.flip t.fb t.fa (jbc t.sb) (jbc t.sa) (by rw [jko h1 hn];exact hy) (fun z hz=>ge z (jbQ ha hz).1 (jbQ ha hz).2)
 unfold MH
 rw [G1U,show b.toList.length-(nb-1)=b.toList.length-nb+1 by omega];exact this
theorem jdF (a:Array Keyed) (n:Nat):(a.extract 0 n).toList=a.toList.take n:=by
 rw [G2g,List.extract_eq_drop_take,G27,Nat.sub_zero]
theorem MH.done (t:TwoH U R a b) (m:MH R a b na nb out) (ha:na≤a.toList.length) (hb:nb≤b.toList.length) (h:na=0∨nb=0):jcJ R a b (a.extract 0 na++b.extract 0 nb++out.reverse):=by
 have:=MI.done m t.o.flip t.fb t.fa (jbc t.sb) (jbc t.sa) (by rw [G0M];omega) (by rw [G0M];omega) (by rw [G0M,G0M];omega)
 rw [jdE _ ha,jdE _ hb] at this
 have e:(a.extract 0 na++b.extract 0 nb++out.reverse).toList=(out.toList++(b.toList.take nb).reverse++(a.toList.take na).reverse).reverse:=by
  rw [G1h,G1h,jdF,jdF,G3k]
  simp [G0l]
 unfold jcJ
 rw [e]
 refine⟨(G1v _).trans (this.1.trans ?_),jis this.2⟩
 exact(List.Perm.append (G1v _) (G1v _)).trans G2D
theorem MH.firstB (t:TwoH U R a b) (m:MH R a b na nb out) (ha:na≤a.toList.length) (hb:nb=1) (hb' :1≤b.toList.length):jcJ R a b (b.extract 0 nb++a.extract 0 na++out.reverse):=by
 subst hb
 have:=MI.lastA m t.o.flip t.fb t.fa (jbc t.sb) (jbc t.sa) (by rw [G0M];omega) (by rw [G0M];omega) (fun z hz y hy=>by
  rw [G0M] at hy
  have:=(jbQ hb' hy).2
  exact t.first z (G1r.mp hz) y (by simpa using this))
 rw [jdE _ ha,jdE _ hb'] at this
 have e:(b.extract 0 1++a.extract 0 na++out.reverse).toList=(out.toList++(a.toList.take na).reverse++(b.toList.take 1).reverse).reverse:=by
  rw [G1h,G1h,jdF,jdF,G3k]
  simp [G0l]
 unfold jcJ
 rw [e]
 refine⟨(G1v _).trans (this.1.trans ?_),jis this.2⟩
 exact(List.Perm.append (G1v _) (G1v _)).trans G2D
theorem jit (l:List Keyed) {p n:Nat} (h1:p≤n) (hn:n≤l.length):(l.reverse.drop (l.length-n)).take (n-p)=((l.drop p).take (n-p)).reverse:=by
 rw [jdE l hn,List.take_reverse,G0v,G4i,G4a hn,show n-(n-p)=p by omega]
theorem jkp (a:Array Keyed) {p n:Nat} (h:p≤n):(a.extract p n).reverse.toList=((a.toList.drop p).take (n-p)).reverse:=by
 rw [G3k,G2g,List.extract_eq_drop_take]
theorem MH.manyA (t:TwoH U R a b) (m:MH R a b na nb out) (p:Nat) (hp:p≤na) (hn:na≤a.toList.length) (hb:nb≤b.toList.length) (h: ∀i,p≤i→i<na→ ∀y,a.toList[i]? =some y→ ∀z,1≤nb→b.toList[nb-1]? =some z→R z y=true):MH R a b p nb (out++(a.extract p na).reverse):=by
 have:=MI.manyB t.o.flip t.fb t.fa (jbc t.sb) (jbc t.sa) (na-p) m (by rw [G0M];omega) (fun i hi y hy z hz=>by
  rw [G12 (by omega)] at hy
  exact h _ (by omega) (by omega) y hy z (jbQ hb hz).1 (jbQ hb hz).2)
 rw [jit _ hp hn] at this
 unfold MH
 rw [G1h,jkp _ hp,show a.toList.length-p=a.toList.length-na+(na-p) by omega]
 exact this
theorem MH.manyB (t:TwoH U R a b) (m:MH R a b na nb out) (p:Nat) (hp:p≤nb) (hn:nb≤b.toList.length) (ha:na≤a.toList.length) (h: ∀i,p≤i→i<nb→ ∀y,b.toList[i]? =some y→ ∀z,1≤na→a.toList[na-1]? =some z→R y z=false):MH R a b na p (out++(b.extract p nb).reverse):=by
 have:=MI.manyA t.o.flip t.fb t.fa (jbc t.sb) (jbc t.sa) (nb-p) m (by rw [G0M];omega) (fun i hi y hy z hz=>by
  rw [G12 (by omega)] at hy
  exact h _ (by omega) (by omega) y hy z (jbQ ha hz).1 (jbQ ha hz).2)
 rw [jit _ hp hn] at this
 unfold MH
 rw [G1h,jkp _ hp,show b.toList.length-p=b.toList.length-nb+(nb-p) by omega]
 exact this
end
def mHi:Array Keyed→Array Keyed→StateT SortSt Sem (Array Keyed):=sortPriv% PySem.Builtin.mergeHi
theorem jpW {a b:Array Keyed} {st:SortSt} {Q:Array Keyed→SortSt→Prop} (ak:jhM prog w A J κ U R) (kd:kindOf st=κ) (t:TwoH U R a b)
 (na:1≤a.size) (nb:1≤b.size) (last: ∀y z,b.toList[b.size-1]? =some y→a.toList[a.size-1]? =some z→R y z=true)
 (q: ∀c st',Gal st st' →jcJ R a b c→Q c st'):Tm prog w A E J (mHi a b) Q st:=by
 have gb: ∀i,i<b.size→ ∃y,b[i]? =some y∧b.toList[i]? =some y∧U y:=fun i hi=>⟨b[i],by simp [hi],by simp [hi],t.ub _ (by simp)⟩
 have ga: ∀i,i<a.size→ ∃y,a[i]? =some y∧a.toList[i]? =some y∧U y:=fun i hi=>⟨a[i],by simp [hi],by simp [hi],t.ua _ (by simp)⟩
 have la:a.toList.length=a.size:=by simp
 have lb:b.toList.length=b.size:=by simp
 unfold mHi
 refine .bind (.rule ?_)
 obtain⟨a0,ea0,la0,ua0⟩:=ga (a.size-1) (by omega)
 refine .bind (.elem ea0 ?_)
 have m0:MH R a b (a.size-1) b.size #[a0]:=by
  have m:=MH.start (R:=R) a b
  rw [la,lb] at m
  exact MH.pushA t m na (by omega) (by omega) la0 (fun z _ hz=>last z a0 hz la0)
 dsimp only
 by_cases z1:a.size-1=0
 ·rw [if_pos (by simpa using z1)]
  exact .pure (q _ _ (Gal.refl st) (MH.done t m0 (by omega) (by omega) (.inl z1)))
 rw [if_neg (by simpa using z1)]
 by_cases z2:b.size=1
 ·rw [if_pos (by simpa using z2)]
  exact .pure (q _ _ (Gal.refl st) (MH.firstB t m0 (by omega) z2 (by omega)))
 rw [if_neg (by simpa using z2)]
 refine .bind (.get ?_)
 refine .bind (Tm.mono (Tm.range (fun i c st' =>Gal st st' ∧c.1=none∧MH R a b c.2.1 c.2.2.1 c.2.2.2.1∧1≤c.2.1∧c.2.1≤a.size∧2≤c.2.2.1∧c.2.2.1≤b.size∧i+1+c.2.1+c.2.2.1≤a.size+b.size)
  (Q:=fun c st' =>Gal st st' ∧ ∃r,c.1=some r∧jcJ R a b r) (Nat.zero_le _) ⟨Gal.refl st,rfl,m0,by dsimp only;omega,by dsimp only;omega,by dsimp only;omega,by dsimp only;omega,by dsimp only;omega⟩ ?_ ?_) ?_)
 ·rintro i ⟨r,ia,ib,out,mg⟩ st1 hi ⟨gl,hr,m,h1,g1,h2,g2,h3⟩
  dsimp only at hr m h1 g1 h2 g2 h3 ⊢
  subst hr
  refine .bind (Tm.mono (Tm.range (fun j c st' =>Gal st st' ∧c.1=none∧MH R a b c.2.1 c.2.2.1 c.2.2.2.1∧1≤c.2.1∧c.2.1≤a.size∧2≤c.2.2.1∧c.2.2.1≤b.size∧j+c.2.1+c.2.2.1≤ia+ib)
   (Q:=fun c st' =>Gal st st' ∧((∃r,c.1=some r∧jcJ R a b r)∨(c.1=none∧MH R a b c.2.1 c.2.2.1 c.2.2.2.1∧1≤c.2.1∧c.2.1≤a.size∧2≤c.2.2.1∧c.2.2.1≤b.size∧1+c.2.1+c.2.2.1≤ia+ib))) (Nat.zero_le _) ⟨gl,rfl,m,h1,g1,h2,g2,by dsimp only;omega⟩ ?_ ?_) ?_)
  ·clear m h1 h2
   rintro j ⟨r,ja,jb,out,ac,bc⟩ st2 hj ⟨gl2,hr,m,h1,f1,h2,f2,h4⟩
   dsimp only at hr m h1 f1 h2 f2 h4 ⊢
   subst hr
   obtain⟨y,ey,ly,uy⟩:=gb (jb-1) (by omega)
   obtain⟨x,ex,lx,ux⟩:=ga (ja-1) (by omega)
   refine .bind (.elem ey (.bind (.elem ex (.bind (.lt ak (gl2.1.trans kd) uy ux ?_)))))
   dsimp only
   cases hb:R y x with
   |true=>
    rw [if_pos rfl]
    refine .bind (.elem ex ?_)
    have m1:=MH.pushA t m h1 (by omega) (by omega) lx (fun z _ hz=>by rw [ly] at hz;injection hz with hz;rw [←hz];exact hb)
    by_cases c1:ja-1=0
    ·rw [if_pos (by simpa using c1)]
     exact .pure ⟨gl2,.inl ⟨_,rfl,MH.done t m1 (by omega) (by omega) (.inl c1)⟩⟩
    rw [if_neg (by simpa using c1)]
    split
    ·exact .pure ⟨gl2,.inr ⟨rfl,m1,by dsimp only;omega,by dsimp only;omega,h2,f2,by dsimp only;omega⟩⟩
    ·exact .pure ⟨gl2,rfl,m1,by dsimp only;omega,by dsimp only;omega,h2,f2,by dsimp only;omega⟩
   |false=>
    rw [if_neg (by decide)]
    refine .bind (.elem ey ?_)
    have m1:=MH.pushB t m (by omega) (by omega) (by omega) ly (fun z _ hz=>by rw [lx] at hz;injection hz with hz;rw [←hz];exact hb)
    by_cases c1:jb-1=1
    ·rw [if_pos (by simpa using c1)]
     exact .pure ⟨gl2,.inl ⟨_,rfl,MH.firstB t m1 (by omega) c1 (by omega)⟩⟩
    rw [if_neg (by simpa using c1)]
    split
    ·exact .pure ⟨gl2,.inr ⟨rfl,m1,h1,f1,by dsimp only;omega,by dsimp only;omega,by dsimp only;omega⟩⟩
    ·exact .pure ⟨gl2,rfl,m1,h1,f1,by dsimp only;omega,by dsimp only;omega,by dsimp only;omega⟩
  ·rintro ⟨r,ja,jb,out,ac,bc⟩ st2 ⟨gl2,hr,m,h1,f1,h2,f2,h4⟩
   dsimp only at h1 h2 h4
   omega
  ·clear m h1 h2
   rintro ⟨r,ja,jb,out,ac,bc⟩ st2 ⟨gl2,⟨c,hr,wh⟩|⟨hr,m,h1,f1,h2,f2,h4⟩⟩
   ·dsimp only at hr ⊢
    subst hr
    exact .pure ⟨gl2,c,rfl,wh⟩
   dsimp only at hr m h1 f1 h2 f2 h4 ⊢
   subst hr
   refine .bind (.rule ?_)
   refine .bind (Tm.mono (Tm.range (fun j c st' =>Gal st st' ∧c.1=none∧MH R a b c.2.1 c.2.2.1 c.2.2.2.1∧1≤c.2.1∧c.2.1≤a.size∧2≤c.2.2.1∧c.2.2.1≤b.size∧j+c.2.1+c.2.2.1≤ja+jb)
    (Q:=fun c st' =>Gal st st' ∧((∃r,c.1=some r∧jcJ R a b r)∨(c.1=none∧MH R a b c.2.1 c.2.2.1 c.2.2.2.1∧1≤c.2.1∧c.2.1≤a.size∧2≤c.2.2.1∧c.2.2.1≤b.size∧c.2.1+c.2.2.1≤ja+jb))) (Nat.zero_le _) ⟨gl2,rfl,m,h1,f1,h2,f2,by dsimp only;omega⟩ ?_ ?_) ?_)
   ·clear m gl2
    rintro j ⟨r,pa,pb,out,mg,ac,bc⟩ st2 hj ⟨gl2,hr,m,h1,f1,h2,f2,h5⟩
    dsimp only at hr m h1 f1 h2 f2 h5 ⊢
    subst hr
    obtain⟨y,ey,ly,uy⟩:=gb (pb-1) (by omega)
    by_cases zg:mg>1
    all_goals
     first|rw [if_pos zg]|rw [if_neg zg]
     refine .bind (Tm.modify ?_)
     refine .bind (.elem ey (.bind (jrI ak (gl2.1.trans kd) t.o t.ua t.sa uy (by omega) (by omega) fun k k1 k2 k3=> ?_)))
     dsimp only
     have m1:=MH.manyA t m k (by omega) (by omega) (by omega) (fun i hi1 hi2 x hx z hz1 hz=>by rw [ly] at hz;injection hz with hz;rw [←hz];exact k3 i hi1 hi2 x (by rw [G11];exact hx))
     by_cases kz:pa-k>0
     ·rw [if_pos kz]
      by_cases c1:k=0
      ·rw [if_pos (by simpa using c1)]
       exact .pure ⟨gl2,.inl ⟨_,rfl,MH.done t m1 (by omega) (by omega) (.inl c1)⟩⟩
      rw [if_neg (by simpa using c1)]
      refine .bind (.elem ey ?_)
      have M2:=MH.pushB t m1 (by omega) (by omega) (by omega) ly (fun z hz1 hz=>k2 (k-1) (by omega) z (by rw [G11];exact hz))
      by_cases c3:pb-1=1
      ·rw [if_pos (by simpa using c3)]
       exact .pure ⟨gl2,.inl ⟨_,rfl,MH.firstB t M2 (by omega) c3 (by omega)⟩⟩
      rw [if_neg (by simpa using c3)]
      obtain⟨x,ex,lx,ux⟩:=ga (k-1) (by omega)
      refine .bind (.elem ex (.bind (jqj ak (gl2.1.trans kd) t.o t.ub t.sb ux (by omega) (by omega) fun k' q1 q2 q3=> ?_)))
      dsimp only
      have M3:=MH.manyB t M2 k' (by omega) (by omega) (by omega) (fun i hi1 hi2 y' hy z hz1 hz=>by rw [lx] at hz;injection hz with hz;rw [←hz];exact q3 i hi1 hi2 y' (by rw [G11];exact hy))
      by_cases kz' :pb-1-k' >0
      ·rw [if_pos kz']
       by_cases c4:k' =1
       ·rw [if_pos (by simpa using c4)]
        exact .pure ⟨gl2,.inl ⟨_,rfl,MH.firstB t M3 (by omega) c4 (by omega)⟩⟩
       rw [if_neg (by simpa using c4)]
       by_cases c7:k' =0
       ·rw [if_pos (by simpa using c7)]
        exact .pure ⟨gl2,.inl ⟨_,rfl,MH.done t M3 (by omega) (by omega) (.inr c7)⟩⟩
       rw [if_neg (by simpa using c7)]
       refine .bind (.elem ex ?_)
       have M4:=MH.pushA t M3 (by omega) (by omega) (by omega) lx (fun z hz1 hz=>q2 (k' -1) (by omega) z (by rw [G11];exact hz))
       by_cases c5:k-1=0
       ·rw [if_pos (by simpa using c5)]
        exact .pure ⟨gl2,.inl ⟨_,rfl,MH.done t M4 (by omega) (by omega) (.inl c5)⟩⟩
       rw [if_neg (by simpa using c5)]
       by_cases c6:(decide (pa-k<7)&&decide (pb-1-k' <7))=true
       ·rw [if_pos c6]
        exact .pure ⟨gl2,.inr ⟨rfl,M4,by dsimp only;omega,by dsimp only;omega,by dsimp only;omega,by dsimp only;omega,by dsimp only;omega⟩⟩
       ·rw [if_neg c6]
        exact .pure ⟨gl2,rfl,M4,by dsimp only;omega,by dsimp only;omega,by dsimp only;omega,by dsimp only;omega,by dsimp only;omega⟩
      ·rw [if_neg kz']
       refine .bind (.elem ex ?_)
       have M4:=MH.pushA t M2 (by omega) (by omega) (by omega) lx (fun z hz1 hz=>q2 ((pb-1)-1) (by omega) z (by rw [G11];exact hz))
       by_cases c5:k-1=0
       ·rw [if_pos (by simpa using c5)]
        exact .pure ⟨gl2,.inl ⟨_,rfl,MH.done t M4 (by omega) (by omega) (.inl c5)⟩⟩
       rw [if_neg (by simpa using c5)]
       by_cases c6:(decide (pa-k<7)&&decide (pb-1-k' <7))=true
       ·rw [if_pos c6]
        exact .pure ⟨gl2,.inr ⟨rfl,M4,by dsimp only;omega,by dsimp only;omega,by dsimp only;omega,by dsimp only;omega,by dsimp only;omega⟩⟩
       ·rw [if_neg c6]
        exact .pure ⟨gl2,rfl,M4,by dsimp only;omega,by dsimp only;omega,by dsimp only;omega,by dsimp only;omega,by dsimp only;omega⟩
     ·rw [if_neg kz]
      refine .bind (.elem ey ?_)
      have M2:=MH.pushB t m (by omega) (by omega) (by omega) ly (fun z hz1 hz=>k2 (pa-1) (by omega) z (by rw [G11];exact hz))
      by_cases c3:pb-1=1
      ·rw [if_pos (by simpa using c3)]
       exact .pure ⟨gl2,.inl ⟨_,rfl,MH.firstB t M2 (by omega) c3 (by omega)⟩⟩
      rw [if_neg (by simpa using c3)]
      obtain⟨x,ex,lx,ux⟩:=ga (pa-1) (by omega)
      refine .bind (.elem ex (.bind (jqj ak (gl2.1.trans kd) t.o t.ub t.sb ux (by omega) (by omega) fun k' q1 q2 q3=> ?_)))
      dsimp only
      have M3:=MH.manyB t M2 k' (by omega) (by omega) (by omega) (fun i hi1 hi2 y' hy z hz1 hz=>by rw [lx] at hz;injection hz with hz;rw [←hz];exact q3 i hi1 hi2 y' (by rw [G11];exact hy))
      by_cases kz' :pb-1-k' >0
      ·rw [if_pos kz']
       by_cases c4:k' =1
       ·rw [if_pos (by simpa using c4)]
        exact .pure ⟨gl2,.inl ⟨_,rfl,MH.firstB t M3 (by omega) c4 (by omega)⟩⟩
       rw [if_neg (by simpa using c4)]
       by_cases c7:k' =0
       ·rw [if_pos (by simpa using c7)]
        exact .pure ⟨gl2,.inl ⟨_,rfl,MH.done t M3 (by omega) (by omega) (.inr c7)⟩⟩
       rw [if_neg (by simpa using c7)]
       refine .bind (.elem ex ?_)
       have M4:=MH.pushA t M3 (by omega) (by omega) (by omega) lx (fun z hz1 hz=>q2 (k' -1) (by omega) z (by rw [G11];exact hz))
       by_cases c5:pa-1=0
       ·rw [if_pos (by simpa using c5)]
        exact .pure ⟨gl2,.inl ⟨_,rfl,MH.done t M4 (by omega) (by omega) (.inl c5)⟩⟩
       rw [if_neg (by simpa using c5)]
       by_cases c6:(decide (pa-k<7)&&decide (pb-1-k' <7))=true
       ·rw [if_pos c6]
        exact .pure ⟨gl2,.inr ⟨rfl,M4,by dsimp only;omega,by dsimp only;omega,by dsimp only;omega,by dsimp only;omega,by dsimp only;omega⟩⟩
       ·rw [if_neg c6]
        exact .pure ⟨gl2,rfl,M4,by dsimp only;omega,by dsimp only;omega,by dsimp only;omega,by dsimp only;omega,by dsimp only;omega⟩
      ·rw [if_neg kz']
       refine .bind (.elem ex ?_)
       have M4:=MH.pushA t M2 (by omega) (by omega) (by omega) lx (fun z hz1 hz=>q2 ((pb-1)-1) (by omega) z (by rw [G11];exact hz))
       by_cases c5:pa-1=0
       ·rw [if_pos (by simpa using c5)]
        exact .pure ⟨gl2,.inl ⟨_,rfl,MH.done t M4 (by omega) (by omega) (.inl c5)⟩⟩
       rw [if_neg (by simpa using c5)]
       by_cases c6:(decide (pa-k<7)&&decide (pb-1-k' <7))=true
       ·rw [if_pos c6]
        exact .pure ⟨gl2,.inr ⟨rfl,M4,by dsimp only;omega,by dsimp only;omega,by dsimp only;omega,by dsimp only;omega,by dsimp only;omega⟩⟩
       ·rw [if_neg c6]
        exact .pure ⟨gl2,rfl,M4,by dsimp only;omega,by dsimp only;omega,by dsimp only;omega,by dsimp only;omega,by dsimp only;omega⟩
   ·rintro ⟨r,pa,pb,out,mg,ac,bc⟩ st3 ⟨gl3,hr,m,h1,f1,h2,f2,h5⟩
    dsimp only at h1 h2 h5
    omega
   ·clear m
    rintro ⟨r,pa,pb,out,mg,ac,bc⟩ st3 ⟨gl3,⟨c,hr,wh⟩|⟨hr,m,h1,f1,h2,f2,h5⟩⟩
    ·dsimp only at hr ⊢
     subst hr
     exact .pure ⟨gl3,c,rfl,wh⟩
    dsimp only at hr m h1 f1 h2 f2 h5 ⊢
    subst hr
    refine .bind (Tm.modify ?_)
    exact .pure ⟨gl3,rfl,m,h1,f1,h2,f2,by dsimp only;omega⟩
 ·rintro ⟨r,ia,ib,out,mg⟩ st1 ⟨gl,hr,m,h1,g1,h2,g2,h3⟩
  dsimp only at h1 h2 h3
  omega
 ·rintro ⟨r,ia,ib,out,mg⟩ st1 ⟨gl,c,hr,wh⟩
  dsimp only at hr ⊢
  subst hr
  exact .pure (q c st1 gl wh)
end
section
variable {prog:Program} {w:World} {A:Around} {E:Value→Shared→Prop} {J:Shared→Prop} {κ:SortKind} {U:Keyed→Prop} {R:Keyed→Keyed→Bool}
def seg (l:List Keyed) (p n:Nat):List Keyed:=(l.drop p).take n
theorem jfw {l:List Keyed} {p n i:Nat} (hi:i<n):(seg l p n)[i]? =l[p+i]? :=by
 unfold seg
 rw [G1G hi,G1g]
theorem jeQ {l:List Keyed} {p n:Nat} (h:p+n≤l.length):(seg l p n).length=n:=by
 unfold seg
 rw [G0v,G0Q];omega
theorem jhN {l:List Keyed} {p n:Nat} {x:Keyed} (h:x∈seg l p n):x∈l:=G07 (G0V h)
theorem jrJ {left:Bool} {arr:Array Keyed} {y:Keyed} {base n hint:Nat} {st:SortSt} {Q:Option Nat→SortSt→Prop} (ak:jhM prog w A J κ U R) (kd:kindOf st=κ) (o:Ordd U R) (u: ∀x∈arr.toList,U x) (s:Srt R (seg arr.toList base n)) (uy:U y) (hn:base+n≤arr.size) (hh:hint<n)
 (q: ∀k,k≤n→(∀x∈(seg arr.toList base n).take k,(if left=true then R x y else !R y x)=true)→(∀x∈(seg arr.toList base n).drop k,(if left=true then R x y else !R y x)=false)→Q (some k) st):Tm prog w A E J (gal left y arr base n hint) Q st:=by
 have ln:arr.toList.length=arr.size:=by simp
 have sl:(seg arr.toList base n).length=n:=jeQ (by omega)
 have us: ∀x∈seg arr.toList base n,U x:=fun x hx=>u x (jhN hx)
 refine jkn ak kd uy (fun i hi=> ?_) (fun i j hij hj h=> ?_) hh (fun k k1 k2 k3=>q k k1 (fun x hx=> ?_) (fun x hx=> ?_))
 ·obtain⟨x,lx,ex⟩:=jeP (show base+i<arr.size by omega)
  exact⟨x,ex,u x (G0h lx)⟩
 ·obtain⟨x,lx,_⟩:=jeP (show base+i<arr.size by omega)
  obtain⟨z,lz,_⟩:=jeP (show base+j<arr.size by omega)
  have ux:=u x (G0h lx)
  have uz:=u z (G0h lz)
  have le:=jeO s o us hij (by rw [jfw (by omega)];exact lx) (by rw [jfw hj];exact lz)
  rw [jcG lz] at h
  rw [jcG lx]
  cases left with
  |true=>
   have hz:R z y=true:=by simpa using h
   rcases o.neg z x y uz ux uy hz with v|v
   ·rw [le] at v;cases v
   ·simp [v]
  |false=>
   have hz:R y z=false:=by simpa using h
   have:=o.trans ux uz uy le hz
   simp [this]
 ·obtain⟨i,hi,e⟩:=G19 hx
  rw [G0v,sl] at hi
  have lx:arr.toList[base+i]? =some x:=by
   rw [←jfw (n:=n) (by omega),G0b (by omega),←e,List.getElem_take]
  have:=k2 i (by omega)
  rw [jcG lx] at this;exact this
 ·obtain⟨i,hi,e⟩:=G19 hx
  rw [G0Q,sl] at hi
  have lx:arr.toList[base+(k+i)]? =some x:=by
   rw [←jfw (n:=n) (by omega),G0b (by omega),←e,G3M]
  have:=k3 (k+i) (by omega) (by omega)
  rw [jcG lx] at this;exact this
theorem jiu: ∀ (m:List Keyed) (arr:Array Keyed) (p d:Nat),p+d+m.length≤arr.size→((m.zipIdx d).foldl (fun (c:Array Keyed) (x:Keyed×Nat)=>c.setIfInBounds (p+x.2) x.1) arr).toList=arr.toList.take (p+d)++m++arr.toList.drop (p+d+m.length)
 | [],arr,p,d,_=>by simp
 |x::m,arr,p,d,h=>by
  rw [G0k] at h
  rw [List.zipIdx_cons,G36]
  rw [jiu m _ p (d+1) (by rw [G2Q];omega)]
  have hl:arr.toList.length=arr.size:=by simp
  rw [G3x]
  have e1:(arr.toList.set (p+d) x).take (p+(d+1))=arr.toList.take (p+d)++ [x]:=by
   rw [show p+(d+1)=p+d+1 by omega,G1u,G2Y (by omega)]
   rw [List.take_set_of_le (G0f _)]
   rfl
  have e2:(arr.toList.set (p+d) x).drop (p+(d+1)+m.length)=arr.toList.drop (p+d+(m.length+1)):=by
   rw [List.drop_set_of_lt (by omega),show p+(d+1)+m.length=p+d+(m.length+1) by omega]
  rw [e1,e2,G0k]
  simp [G0l]
end
section
variable {prog:Program} {w:World} {A:Around} {E:Value→Shared→Prop} {J:Shared→Prop} {κ:SortKind} {U:Keyed→Prop} {R:Keyed→Keyed→Bool}
theorem Tm.set {σ:Type} {st st' :σ} {Q:PUnit→σ→Prop} (q:Q ⟨⟩ st'):Tm prog w A E J (MonadStateOf.set st' :StateT σ Sem PUnit) Q st:=fun s j=>by
 show wpAny _ _ ((StateT.set st' :StateT σ Sem PUnit).run st) _ _ _
 exact G0d ⟨q,j⟩
theorem jkq (a:Array Keyed) {p n:Nat} (h:p≤n):(a.extract p n).toList=seg a.toList p (n-p):=by
 rw [G2g,List.extract_eq_drop_take];rfl
theorem jhO (o:Ordd U R) {l:List Keyed} (u: ∀x∈l,U x) (s:Srt R l) {z:Keyed} (hz:l[l.length-1]? =some z) {x:Keyed} (hx:x∈l):R z x=false:=by
 obtain⟨i,hi,e⟩:=G19 hx
 exact jeO s o u (show i≤l.length-1 by omega) (by rw [G0b hi,e]) hz
theorem jiv (o:Ordd U R) {l:List Keyed} (u: ∀x∈l,U x) (s:Srt R l) {z:Keyed} (hz:l[0]? =some z) {x:Keyed} (hx:x∈l):R x z=false:=by
 obtain⟨i,hi,e⟩:=G19 hx
 exact jeO s o u (G1c _) hz (by rw [G0b hi,e])
theorem jeR (o:Ordd U R) {X Y c:List Keyed} {k k2:Nat} {y0 x9:Keyed} (uX: ∀x∈X,U x) (uY: ∀x∈Y,U x) (sX:Srt R X) (sY:Srt R Y) (hy:Y[0]? =some y0) (hx:X[X.length-1]? =some x9)
 (f1: ∀x∈X.take k,R y0 x=false) (g2: ∀y∈Y.drop k2,R y x9=false) (hp:c.Perm (X.drop k++Y.take k2)) (sc:Srt R c):(X.take k++c++Y.drop k2).Perm (X++Y)∧Srt R (X.take k++c++Y.drop k2):=by
 have uy0:=uY y0 (G0h hy)
 have ux9:=uX x9 (G0h hx)
 constructor
 ·have e:X++Y=X.take k++(X.drop k++Y.take k2)++Y.drop k2:=by
   rw [←G0l,G0N,G0l,G0N]
  rw [e]
  exact(hp.append_left _).append_right _
 ·have inX: ∀x∈X.take k,∀z∈X.drop k,R z x=false:=fun x hx z hz=>by
   have:Srt R (X.take k++X.drop k):=by rw [G0N];exact sX
   exact(G0J.mp this).2.2 x hx z hz
  have inY: ∀x∈Y.take k2,∀z∈Y.drop k2,R z x=false:=fun x hx z hz=>by
   have:Srt R (Y.take k2++Y.drop k2):=by rw [G0N];exact sY
   exact(G0J.mp this).2.2 x hx z hz
  have xy: ∀x∈X.take k,∀y∈Y,R y x=false:=fun x hx y hy' =>o.trans (uX x (G0V hx)) uy0 (uY y hy') (f1 x hx) (jiv o uY sY hy hy')
  have yx: ∀x∈X,∀y∈Y.drop k2,R y x=false:=fun x hx' y hy' =>o.trans (uX x hx') ux9 (uY y (G07 hy')) (jhO o uX sX hx hx') (g2 y hy')
  have xc: ∀x∈X.take k,∀z∈c,R z x=false:=fun x hx z hz=>by
   rcases G0z.mp (hp.mem_iff.mp hz) with v|v
   ·exact inX x hx z v
   ·exact xy x hx z (G0V v)
  refine G0J.mpr ⟨G0J.mpr ⟨sX.sublist (G2l _ _),sc,xc⟩,sY.sublist (G1I _ _),fun x hx y hy=> ?_⟩
  rcases G0z.mp hx with v|v
  ·exact xy x v y (G07 hy)
  ·rcases G0z.mp (hp.mem_iff.mp v) with v|v
   ·exact yx x (G07 v) y hy
   ·exact inY x v y hy
theorem jhe (l:List Keyed) {p n m:Nat}:l=l.take p++(seg l p n++seg l (p+n) m)++l.drop (p+n+m):=by
 unfold seg
 have e1:(l.drop (p+n)).take m++l.drop (p+n+m)=l.drop (p+n):=by
  rw [show l.drop (p+n+m)=(l.drop (p+n)).drop m by rw [G2e],G0N]
 have e2:(l.drop p).take n++l.drop (p+n)=l.drop p:=by
  rw [show l.drop (p+n)=(l.drop p).drop n by rw [G2e],G0N]
 rw [G0l,G0l,e1,e2,G0N]
theorem jpX {st:SortSt} {Q:Bool→SortSt→Prop} {i sa na pw sb nb pw2:Nat} (ak:jhM prog w A J κ U R) (kd:kindOf st=κ) (o:Ordd U R) (u: ∀x∈(arrOf st).toList,U x) (p1:(pendingOf st)[i]? =some (sa,na,pw)) (p2:(pendingOf st)[i+1]? =some (sb,nb,pw2))
 (hs:sa+na=sb) (n1:1≤na) (n2:1≤nb) (hz:sb+nb≤(arrOf st).size) (s1:Srt R (seg (arrOf st).toList sa na)) (s2:Srt R (seg (arrOf st).toList sb nb)) (hf:failedOf st=none)
 (q: ∀st' Z,kindOf st' =κ→failedOf st' =none→pendingOf st' =((pendingOf st).setIfInBounds i (sa,na+nb,pw)).eraseIdxIfInBounds (i+1)→(arrOf st').toList=(arrOf st).toList.take sa++Z++(arrOf st).toList.drop (sb+nb)→Z.Perm (seg (arrOf st).toList sa na++seg (arrOf st).toList sb nb)→Srt R Z→Q true st'):
 Tm prog w A E J (mergeAt' i) Q st:=by
 have ln:(arrOf st).toList.length=(arrOf st).size:=by simp
 unfold mergeAt'
 refine .bind (.get ?_)
 dsimp only
 rw [p1,p2]
 dsimp only
 refine .bind (Tm.set ?_)
 subst hs
 have lX:(seg (arrOf st).toList sa na).length=na:=jeQ (by omega)
 have lY:(seg (arrOf st).toList (sa+na) nb).length=nb:=jeQ (by omega)
 have uX: ∀x∈seg (arrOf st).toList sa na,U x:=fun x hx=>u x (jhN hx)
 have uY: ∀x∈seg (arrOf st).toList (sa+na) nb,U x:=fun x hx=>u x (jhN hx)
 obtain⟨y0,ly0,ey0⟩:=jeP (arr:=arrOf st) (show sa+na<(arrOf st).size by omega)
 obtain⟨x9,lx9,ex9⟩:=jeP (arr:=arrOf st) (show sa+(na-1)<(arrOf st).size by omega)
 have hy:(seg (arrOf st).toList (sa+na) nb)[0]? =some y0:=by rw [jfw (by omega)];exact ly0
 have hx:(seg (arrOf st).toList sa na)[(seg (arrOf st).toList sa na).length-1]? =some x9:=by rw [lX,jfw (by omega)];exact lx9
 have uy0:=u y0 (G0h ly0)
 have ux9:=u x9 (G0h lx9)
 have c3:=jhe (arrOf st).toList (p:=sa) (n:=na) (m:=nb)
 have same: ∀ (st' :SortSt),arrOf st' =arrOf st→ ∀k k2,(∀x∈(seg (arrOf st).toList sa na).take k,R y0 x=false)→(∀y∈(seg (arrOf st).toList (sa+na) nb).drop k2,R y x9=false)→(na≤k∨k2=0)→Srt R (seg (arrOf st).toList sa na++seg (arrOf st).toList (sa+na) nb):=fun st' e k k2 f1 g2 h=>by
  have pl:(((seg (arrOf st).toList sa na).drop k++(seg (arrOf st).toList (sa+na) nb).take k2)).Perm ((seg (arrOf st).toList sa na).drop k++(seg (arrOf st).toList (sa+na) nb).take k2):= .refl _
  have sc:Srt R ((seg (arrOf st).toList sa na).drop k++(seg (arrOf st).toList (sa+na) nb).take k2):=by
   rcases h with h|h
   ·rw [G1l (by omega),G0P];exact s2.sublist (G2l _ _)
   ·rw [h,G4h,G1J];exact s1.sublist (G1I _ _)
  have:=(jeR o uX uY s1 s2 hy hx f1 g2 pl sc).2
  rw [←G0l,G0N,G0l,G0N] at this
  exact this
 refine .bind (.elem ey0 (.bind (jrJ (left:=false) ak kd o u s1 uy0 (show sa+na≤(arrOf st).size by omega) (by omega) fun k k1 f1 f2=> ?_)))
 have f1: ∀x∈(seg (arrOf st).toList sa na).take k,R y0 x=false:=fun x hx=>by simpa using f1 x hx
 have f2: ∀x∈(seg (arrOf st).toList sa na).drop k,R y0 x=true:=fun x hx=>by simpa using f2 x hx
 dsimp only
 by_cases z1:na-k=0
 ·rw [if_pos (by simpa using z1)]
  refine .pure (q _ (seg (arrOf st).toList sa na++seg (arrOf st).toList (sa+na) nb) kd hf rfl c3 (.refl _) (same st rfl k nb f1 (fun y hy=> ?_) (.inl (by omega))))
  rw [G1l (by omega)] at hy;cases hy
 rw [if_neg (by simpa using z1)]
 refine .bind (.elem (show _=some x9 by rw [show sa+k+(na-k)-1=sa+(na-1) by omega];exact ex9) (.bind (jrJ (left:=true) ak kd o u s2 ux9 (show sa+na+nb≤(arrOf st).size by omega) (by omega) fun k2 j1 g1 g2=> ?_)))
 have g1: ∀y∈(seg (arrOf st).toList (sa+na) nb).take k2,R y x9=true:=fun x hx=>by simpa using g1 x hx
 have g2: ∀y∈(seg (arrOf st).toList (sa+na) nb).drop k2,R y x9=false:=fun x hx=>by simpa using g2 x hx
 dsimp only
 by_cases z2:k2=0
 ·rw [if_pos (by simpa using z2)]
  exact .pure (q _ _ kd hf rfl c3 (.refl _) (same st rfl k k2 f1 g2 (.inr z2)))
 rw [if_neg (by simpa using z2)]
 have eX:((arrOf st).extract (sa+k) (sa+na)).toList=(seg (arrOf st).toList sa na).drop k:=by
  rw [jkq _ (by omega)];unfold seg
  rw [G4i,G2e,show sa+na-(sa+k)=na-k by omega]
 have eY:((arrOf st).extract (sa+na) (sa+na+k2)).toList=(seg (arrOf st).toList (sa+na) nb).take k2:=by
  rw [jkq _ (by omega)];unfold seg
  rw [G4j,show sa+na+k2-(sa+na)=min k2 nb by omega]
 have sx:((arrOf st).extract (sa+k) (sa+na)).size=na-k:=by rw [←G0j,eX,G0Q,lX]
 have sy:((arrOf st).extract (sa+na) (sa+na+k2)).size=k2:=by rw [←G0j,eY,G0v,lY];omega
 have hx2: ∀z,((seg (arrOf st).toList sa na).drop k)[((seg (arrOf st).toList sa na).drop k).length-1]? =some z→z=x9:=fun z hz' =>by
  rw [G0Q,G1g,lX,show k+(na-k-1)=na-1 by omega] at hz'
  rw [lX] at hx
  rw [hx] at hz';injection hz' with hz';exact hz'.symm
 have hy2: ∀z,((seg (arrOf st).toList (sa+na) nb).take k2)[0]? =some z→z=y0:=fun z hz' =>by
  rw [G1G (by omega),hy] at hz';injection hz' with hz';exact hz'.symm
 have put: ∀c:Array Keyed,jcJ R ((arrOf st).extract (sa+k) (sa+na)) ((arrOf st).extract (sa+na) (sa+na+k2)) c→(c.toList.zipIdx.foldl (fun (d:Array Keyed) (x:Keyed×Nat)=>d.setIfInBounds (sa+k+x.2) x.1) (arrOf st)).toList=(arrOf st).toList.take sa++((seg (arrOf st).toList sa na).take k++c.toList++(seg (arrOf st).toList (sa+na) nb).drop k2)++(arrOf st).toList.drop (sa+na+nb):=fun c wh=>by
  have lc:c.toList.length=na-k+k2:=by
   rw [wh.1.length_eq,G0e,G0j,G0j,sx,sy]
  have:=jiu c.toList (arrOf st) (sa+k) 0 (by omega)
  rw [this,lc,G1O,show sa+k+(na-k+k2)=sa+na+k2 by omega]
  have e1:(arrOf st).toList.take (sa+k)=(arrOf st).toList.take sa++(seg (arrOf st).toList sa na).take k:=by
   unfold seg
   rw [G4j,G4a k1,List.take_add]
  have e2:(arrOf st).toList.drop (sa+na+k2)=(seg (arrOf st).toList (sa+na) nb).drop k2++(arrOf st).toList.drop (sa+na+nb):=by
   unfold seg
   have h1:((arrOf st).toList.drop (sa+na)).drop k2=(((arrOf st).toList.drop (sa+na)).take nb++((arrOf st).toList.drop (sa+na)).drop nb).drop k2:=by rw [G0N]
   rw [G15 (by rw [G0v,G0Q];omega),G2e,G2e] at h1
   exact h1
  rw [e1,e2]
  simp [G0l]
 have jr: ∀c:Array Keyed,jcJ R ((arrOf st).extract (sa+k) (sa+na)) ((arrOf st).extract (sa+na) (sa+na+k2)) c→_:=fun c wh=>jeR o (c:=c.toList) uX uY s1 s2 hy hx f1 g2 (by have:=wh.1;rw [eX,eY] at this;exact this) wh.2
 by_cases z3:na-k≤k2
 ·rw [if_pos z3]
  refine .bind (jpV ak kd ⟨o,fun x hx=> ?_,fun x hx=> ?_,?_,?_,fun y hy z hz' => ?_⟩ (by rw [sx];omega) (by rw [sy];omega) (fun y z hy' hz' => ?_) fun c st' gl wh=> .bind (Tm.modify (.bind (.get (.pure ?_)))))
  ·rw [eX] at hx;exact uX x (G07 hx)
  ·rw [eY] at hx;exact uY x (G0V hx)
  ·rw [eX];exact s1.sublist (G1I _ _)
  ·rw [eY];exact s2.sublist (G2l _ _)
  ·rw [eY] at hy
   rw [eX] at hz'
   rw [hx2 z hz'];exact g1 y hy
  ·rw [eY] at hy'
   rw [eX] at hz'
   rw [hy2 y hy'];exact f2 z (G0h hz')
  ·have e:failedOf st' =none:=gl.2.2.2.trans hf
   show Q (failedOf st').isNone _
   rw [e]
   refine q _ _ (gl.1.trans kd) e gl.2.2.1 ?_ (jr c wh).1 (jr c wh).2
   have ea:arrOf st' =arrOf st:=gl.2.1
   show (c.toList.zipIdx.foldl _ (arrOf st')).toList=_
   rw [ea];exact put c wh
 ·rw [if_neg z3]
  refine .bind (jpW ak kd ⟨o,fun x hx=> ?_,fun x hx=> ?_,?_,?_,fun z hz' y hy' => ?_⟩ (by rw [sx];omega) (by rw [sy];omega) (fun y z hy' hz' => ?_) fun c st' gl wh=> .bind (Tm.modify (.bind (.get (.pure ?_)))))
  ·rw [eX] at hx;exact uX x (G07 hx)
  ·rw [eY] at hx;exact uY x (G0V hx)
  ·rw [eX];exact s1.sublist (G1I _ _)
  ·rw [eY];exact s2.sublist (G2l _ _)
  ·rw [eY] at hy'
   rw [eX] at hz'
   rw [hy2 y hy'];exact f2 z hz'
  ·rw [eY] at hy'
   rw [eX,sx] at hz'
   have:=hx2 z (by rw [G0Q,lX];exact hz')
   rw [this];exact g1 y (G0h hy')
  ·have e:failedOf st' =none:=gl.2.2.2.trans hf
   show Q (failedOf st').isNone _
   rw [e]
   refine q _ _ (gl.1.trans kd) e gl.2.2.1 ?_ (jr c wh).1 (jr c wh).2
   have ea:arrOf st' =arrOf st:=gl.2.1
   show (c.toList.zipIdx.foldl _ (arrOf st')).toList=_
   rw [ea];exact put c wh
end
section
variable {prog:Program} {w:World} {A:Around} {E:Value→Shared→Prop} {J:Shared→Prop} {κ:SortKind} {U:Keyed→Prop} {R:Keyed→Keyed→Bool}
def Lies (st:SortSt) (P Z S:List Keyed):Prop:=(arrOf st).toList=P++Z++S
def Arr (st st' :SortSt):Prop:=kindOf st' =kindOf st∧pendingOf st' =pendingOf st∧failedOf st' =failedOf st∧gallopOf st' =gallopOf st
theorem Arr.refl (st:SortSt):Arr st st:=⟨rfl,rfl,rfl,rfl⟩
theorem jlM (xs:Array Keyed) (P Z S:List Keyed) (h:xs.toList=P++Z++S):(mirror xs P.length (P.length+Z.length) ((P.length+Z.length-P.length) / 2)).toList=P++Z.reverse++S:=by
 have hl:xs.size=P.length+Z.length+S.length:=by rw [←G0j,h];simp [G2U]
 refine G2q fun k=> ?_
 rw [G0F,getElem?_mirror_all (by omega)]
 by_cases c:P.length≤k∧k<P.length+Z.length
 ·rw [if_pos c,←G0F,h,G0l,G0l]
  have e1:(P++(Z++S))[P.length+(P.length+Z.length)-1-k]? =Z[P.length+Z.length-1-k]? :=by
   rw [G0o (by omega),G0H (by omega)]
   congr 1;omega
  have e2:(P++(Z.reverse++S))[k]? =Z[P.length+Z.length-1-k]? :=by
   rw [G0o (by omega),G0H (by rw [G0M];omega),G12 (by omega)]
   congr 1;omega
  rw [e1,e2]
 ·rw [if_neg c,←G0F,h,G0l,G0l]
  by_cases d:k<P.length
  ·rw [G0H d,G0H d]
  ·have e1:(P++(Z++S))[k]? =S[k-P.length-Z.length]? :=by
    rw [G0o (by omega),G0o (by omega)]
   have e2:(P++(Z.reverse++S))[k]? =S[k-P.length-Z.length]? :=by
    rw [G0o (by omega),G0o (by rw [G0M];omega),G0M]
   rw [e1,e2]
theorem Tm.rev {st:SortSt} {P Z S:List Keyed} {i j:Nat} {Q:Unit→SortSt→Prop} (h:Lies st P Z S) (hi:i=P.length) (hj:j=P.length+Z.length) (q: ∀st',Arr st st' →Lies st' P Z.reverse S→Q () st'):Tm prog w A E J (reverseSlice' i j) Q st:=by
 rw [reverseSlice'_eq]
 subst hi hj
 exact .modify (q _ ⟨rfl,rfl,rfl,rfl⟩ (jlM _ P Z S h))
theorem Tm.ltAt {st:SortSt} {x y:Keyed} {i j:Nat} {Q:Option Bool→SortSt→Prop} (ak:jhM prog w A J κ U R) (kd:kindOf st=κ) (hx:(arrOf st).toList[i]? =some x) (hy:(arrOf st).toList[j]? =some y) (ux:U x) (uy:U y) (q:Q (some (R x y)) st):Tm prog w A E J (ltAt' i j) Q st:=by
 rw [ltAt'_eq]
 exact .bind (.get (.bind (.elem (by rw [←G0F];exact hx) (.bind (.elem (by rw [←G0F];exact hy) (.lt ak kd ux uy q))))))
abbrev Dsc (R:Keyed→Keyed→Bool) (l:List Keyed):Prop:=l.Pairwise fun x y=>R x y=false
theorem jgb {l:List Keyed} (d:Dsc R l):Srt R l.reverse:=G3d.mpr d
theorem jdG (o:Ordd U R) {l:List Keyed} {x y:Keyed} (u: ∀z∈l++ [x],U z) (uy:U y) (s:Srt R (l++ [x])) (h:R y x=false):Srt R (l++ [x]++ [y]):=by
 refine G0J.mpr ⟨s,G1d _ _,fun z hz v hv=> ?_⟩
 rw [G0g.mp hv]
 have ux:=u x (by simp)
 rcases G0z.mp hz with w|w
 ·exact o.trans (u z hz) ux uy ((G0J.mp s).2.2 z w x (by simp)) h
 ·rw [G0g.mp w];exact h
theorem jlN {l m:List Keyed} (s:Dsc R (l++m)) (alike: ∀x∈m,∀y∈m,R x y=false):Dsc R (l++m.reverse):=by
 obtain⟨a,b,c⟩:=G0J.mp s
 refine G0J.mpr ⟨a,?_,fun x hx y hy=>c x hx y (G1r.mp hy)⟩
 rw [G1e]
 intro i j hi hj _
 exact alike _ (G1r.mp (G06 hi)) _ (G1r.mp (G06 hj))
end
section
variable {prog:Program} {w:World} {A:Around} {E:Value→Shared→Prop} {J:Shared→Prop} {κ:SortKind} {U:Keyed→Prop} {R:Keyed→Keyed→Bool}
theorem Arr.trans {a b c:SortSt} (x:Arr a b) (y:Arr b c):Arr a c:=⟨y.1.trans x.1,y.2.1.trans x.2.1,y.2.2.1.trans x.2.2.1,y.2.2.2.trans x.2.2.2⟩
theorem Lies.rest {st:SortSt} {P Z S:List Keyed} (h:Lies st P Z S) {i:Nat}:(arrOf st).toList[P.length+Z.length+i]? =S[i]? :=by
 rw [h,G0o (by rw [G0e];omega),G0e]
 congr 1;omega
theorem Lies.end {st:SortSt} {P W S:List Keyed} {x:Keyed} (h:Lies st P (W++ [x]) S):(arrOf st).toList[P.length+W.length]? =some x:=by
 rw [h,G0l,G0o (by omega),G0l,G0o (by omega)]
 simp
theorem jbU {l:List Keyed} (h:1≤l.length): ∃W x,l=W++ [x]:=by
 rcases List.eq_nil_or_concat l with e|⟨W,x,e⟩
 ·subst e;simp at h
 ·exact⟨W,x,by rw [e,List.concat_eq_append]⟩
structure Fall (R:Keyed→Keyed→Bool) (T Z1 Z2:List Keyed) (n:Nat):Prop where
 len:(Z1++Z2).length=n
 perm:(Z1++Z2).Perm (T.take n)
 dsc:Dsc R (Z1++Z2)
 alike: ∀x∈Z2,∀y∈Z2,R x y=false
 ne:1≤Z2.length
theorem Fall.turn {T Z1 Z2:List Keyed} {n:Nat} (f:Fall R T Z1 Z2 n):Fall R T Z1 Z2.reverse n:=
 ⟨by have:=f.len;simp only [G0e,G0M] at this ⊢;exact this,((G1v Z2).append_left Z1).trans f.perm,jlN f.dsc f.alike,fun x hx y hy=>f.alike x (G1r.mp hx) y (G1r.mp hy),by rw [G0M];exact f.ne⟩
theorem Fall.mem {T Z1 Z2:List Keyed} {n:Nat} (f:Fall R T Z1 Z2 n) {x:Keyed} (h:x∈Z1++Z2):x∈T:=G0V (f.perm.mem_iff.mp h)
theorem jb4 {T Z:List Keyed} {n:Nat} {y:Keyed} (h:Z.Perm (T.take n)) (hy:T[n]? =some y):(Z++ [y]).Perm (T.take (n+1)):=by
 rw [jco hy];exact h.append_right _
theorem Fall.below (o:Ordd U R) {T Z1 Z2:List Keyed} {n:Nat} {x y:Keyed} (u: ∀x∈T,U x) (f:Fall R T Z1 Z2 n) (hx:x∈Z2) (hy:T[n]? =some y) (h:R y x=true):Fall R T (Z1++Z2) [y] (n+1):=by
 have uy:=u y (G0h hy)
 have ux:=u x (f.mem (G0z.mpr (.inr hx)))
 have xy:=o.asym y x uy ux h
 refine⟨by rw [G0e,f.len];rfl,jb4 f.perm hy,?_,fun a ha b hb=> ?_,by simp⟩
 ·refine G0J.mpr ⟨f.dsc,G1d _ _,fun z hz v hv=> ?_⟩
  rw [G0g.mp hv]
  have uz:=u z (f.mem hz)
  have zx:R z x=false:=by
   rcases G0z.mp hz with w|w
   ·exact(G0J.mp f.dsc).2.2 z w x hx
   ·exact f.alike z w x hx
  exact o.trans uy ux uz xy zx
 ·rw [G0g.mp ha,G0g.mp hb];exact o.refl uy
theorem Fall.like (o:Ordd U R) {T Z1 Z2:List Keyed} {n:Nat} {x y:Keyed} (u: ∀x∈T,U x) (f:Fall R T Z1 Z2 n) (hx:x∈Z2) (hy:T[n]? =some y) (h:R y x=false) (h' :R x y=false):Fall R T Z1 (Z2++ [y]) (n+1):=by
 have uy:=u y (G0h hy)
 have ux:=u x (f.mem (G0z.mpr (.inr hx)))
 have zy: ∀z∈Z1++Z2,R z y=false:=fun z hz=>by
  have uz:=u z (f.mem hz)
  have zx:R z x=false:=by
   rcases G0z.mp hz with w|w
   ·exact(G0J.mp f.dsc).2.2 z w x hx
   ·exact f.alike z w x hx
  exact o.trans uy ux uz h' zx
 have yz: ∀z∈Z2,R y z=false:=fun z hz=>o.trans (u z (f.mem (G0z.mpr (.inr hz)))) ux uy (f.alike x hx z hz) h
 refine⟨by rw [←G0l,G0e,f.len];rfl,by rw [←G0l];exact jb4 f.perm hy,?_,fun a ha b hb=> ?_,by simp⟩
 ·rw [←G0l]
  refine G0J.mpr ⟨f.dsc,G1d _ _,fun z hz v hv=> ?_⟩
  rw [G0g.mp hv];exact zy z hz
 ·rcases G0z.mp ha with p|p<;>rcases G0z.mp hb with r|r
  ·exact f.alike a p b r
  ·rw [G0g.mp r];exact zy a (G0z.mpr (.inr p))
  ·rw [G0g.mp p];exact yz b r
  ·rw [G0g.mp p,G0g.mp r];exact o.refl uy
theorem jlO {st:SortSt} {Q:Option Nat→SortSt→Prop} {P T:List Keyed} (ak:jhM prog w A J κ U R) (kd:kindOf st=κ) (o:Ordd U R) (u: ∀x∈T,U x) (h:Lies st P [] T) (h1:1≤T.length)
 (q: ∀n st' Z,1≤n→n≤T.length→Arr st st' →Lies st' P Z (T.drop n)→Z.Perm (T.take n)→Srt R Z→Q (some n) st'):Tm prog w A E J (countRun' P.length T.length) Q st:=by
 have at0: ∀ {i:Nat} {j:Nat},j=P.length+i→(arrOf st).toList[j]? =T[i]? :=fun {i j} e=>by
  have:=h.rest (i:=i)
  rw [G0I,G1O] at this
  rw [e];exact this
 have tl: ∀n,n<T.length→ ∃y,T[n]? =some y∧U y:=fun n hn=>⟨T[n],G0b hn,u _ (G06 hn)⟩
 unfold countRun'
 refine .bind (Tm.mono (Tm.range (fun i c st' =>st' =st∧c=(none,i)∧Srt R (T.take i)∧1≤i) (Q:=fun c st' =>st' =st∧c.1=none∧1≤c.2∧c.2≤T.length∧Srt R (T.take c.2)∧(c.2<T.length→ ∀x y,T[c.2-1]? =some x→T[c.2]? =some y→R y x=true)) h1 ⟨rfl,rfl,?_,G0f _⟩ ?_ ?_) ?_)
 ·obtain⟨W,x,e⟩: ∃x r,T=x::r:=by cases T with|nil=>simp at h1|cons x r=>exact⟨x,r,rfl⟩
  rw [e];exact G1d _ _
 ·rintro i ⟨r,m⟩ _ hi ⟨rfl,hc,sr,i1⟩
  injection hc with hr hm
  subst hr hm
  dsimp only
  obtain⟨y,hy,uy⟩:=tl m hi
  obtain⟨x,hx,ux⟩:=tl (m-1) (by omega)
  refine .bind (.ltAt ak kd (show _=some y by rw [at0 rfl];exact hy) (show _=some x by rw [at0 (i:=m-1) (by omega)];exact hx) uy ux ?_)
  dsimp only
  cases hb:R y x with
  |true=>
   rw [if_pos rfl]
   refine .pure ⟨rfl,rfl,i1,by dsimp only;omega,sr,fun _ a b ha hb' => ?_⟩
   dsimp only at ha hb'
   rw [hx] at ha;rw [hy] at hb'
   injection ha with ha;injection hb' with hb'
   rw [←ha,←hb'];exact hb
  |false=>
   rw [if_neg (by decide)]
   refine .pure ⟨rfl,rfl,?_,by omega⟩
   have e1:T.take m=T.take (m-1)++ [x]:=by
    have:=jco hx
    rw [show m-1+1=m by omega] at this;exact this
   rw [jco hy]
   rw [e1] at sr ⊢
   exact jdG o (fun z hz=>u z (G0V (i:=m) (by rw [e1];exact hz))) uy sr hb
 ·rintro ⟨r,m⟩ _ ⟨rfl,hc,sr,i1⟩
  injection hc with hr hm
  subst hr hm
  exact⟨rfl,rfl,i1,G0f _,sr,fun z=>absurd z (G02 _)⟩
 ·rintro ⟨r,n⟩ st' ⟨rfl,hr,n1,n2,sr,br⟩
  dsimp only at hr n1 n2 sr br ⊢
  subst hr
  dsimp only
  have LT: ∀m,Lies st' P (T.take m) (T.drop m):=fun m=>by
   have:=h
   unfold Lies at this ⊢
   rw [this,G1J,G0l,G0N]
  by_cases z1:n=T.length
  ·rw [if_pos (by simpa using z1)]
   exact .pure (q n _ _ n1 n2 (Arr.refl _) (LT n) (.refl _) sr)
  rw [if_neg (by simpa using z1)]
  obtain⟨y,hy,uy⟩:=tl n (by omega)
  obtain⟨x,hx,ux⟩:=tl (n-1) (by omega)
  have yx:=br (by omega) x y hx hy
  have ex:T.take n=T.take (n-1)++ [x]:=by
   have:=jco hx
   rw [show n-1+1=n by omega] at this;exact this
  have lt:(T.take n).length=n:=by rw [G0v];omega
  have dy:T.drop n=y::T.drop (n+1):=jar hy
  by_cases z2:n>1
  ·rw [if_pos z2]
   obtain⟨x0,hx0,ux0⟩:=tl 0 (by omega)
   refine .bind (.ltAt ak kd (show _=some x0 by rw [at0 (i:=0) (j:=P.length) (by omega)];exact hx0) (show _=some x by rw [at0 (i:=n-1) (by omega)];exact hx) ux0 ux ?_)
   dsimp only
   cases hr0:R x0 x with
   |true=>
    rw [if_pos rfl]
    exact .pure (q n _ _ n1 n2 (Arr.refl _) (LT n) (.refl _) sr)
   |false=>
    rw [if_neg (by decide)]
    have alike: ∀p∈T.take n,∀r∈T.take n,R p r=false:=fun p hp r hr=>by
     have up:=u p (G0V hp)
     have ur:=u r (G0V hr)
     have us: ∀z∈T.take n,U z:=fun z hz=>u z (G0V hz)
     have a1:R p x0=false:=jiv o us sr (z:=x0) (by rw [G1G (by omega)];exact hx0) hp
     have a2:R x r=false:=jhO o us sr (z:=x) (by rw [lt,G1G (by omega)];exact hx) hr
     have a3:R p x=false:=by
      have:=jhO o us sr (z:=x) (by rw [lt,G1G (by omega)];exact hx) hp
      cases hpx:R p x with
      |false=>rfl
      |true=>
       rcases o.neg p x0 x up ux0 ux hpx with v|v
       ·rw [a1] at v;cases v
       ·rw [hr0] at v;cases v
     exact o.trans ur ux up a2 a3
    have F0:Fall R T [] (T.take n).reverse n:=Fall.turn ⟨lt,.refl _,G1e.mpr fun i j hi hj _=>alike _ (G06 hi) _ (G06 hj),alike,by rw [lt];exact n1⟩
    have F1:=F0.below o u (x:=x) (G1r.mpr (by rw [ex];simp)) hy yx
    refine .bind (.rev (LT n) rfl (by rw [lt]) fun st1 ar1 L0=> .bind (.rule ?_))
    have L1:Lies st1 P (([]++(T.take n).reverse)++ [y]) (T.drop (n+1)):=by
     have:=L0
     unfold Lies at this ⊢
     rw [this,dy];simp
    generalize []++(T.take n).reverse=Zr at F1 L1
    refine .bind (Tm.mono (Tm.range (fun i c s2=>Arr st' s2∧c.1=none∧c.2.1=i∧ ∃Z1 Z2,Lies s2 P (Z1++Z2) (T.drop i)∧Fall R T Z1 Z2 i∧Z2.length=c.2.2+1) (Q:=fun c s2=>Arr st' s2∧c.1=none∧1≤c.2.1∧c.2.1≤T.length∧ ∃Z1 Z2,Lies s2 P (Z1++Z2) (T.drop c.2.1)∧Fall R T Z1 Z2 c.2.1∧Z2.length=c.2.2+1) (by omega) ⟨ar1,rfl,rfl,Zr,[y],L1,F1,rfl⟩ ?_ ?_) ?_)
    ·rintro i ⟨r,m,neq⟩ s2 hi ⟨ar2,hr,hm,Z1,Z2,L2,F2,l2⟩
     dsimp only at hr hm L2 F2 l2 ⊢
     subst hr hm
     have l12:=F2.len
     obtain⟨W,x2,eW⟩:=jbU F2.ne
     have m1:1≤m:=by
      have p:=F2.len
      have r:=F2.ne
      rw [G0e] at p
      omega
     obtain⟨y2,hy2,uy2⟩:=tl m hi
     have xin:x2∈Z2:=by rw [eW];simp
     have ux2:=u x2 (F2.mem (G0z.mpr (.inr xin)))
     have ay:(arrOf s2).toList[P.length+m]? =some y2:=by
      have:=L2.rest (i:=0)
      rw [G1g,l12] at this
      rw [G1O] at this
      rw [this];exact hy2
     have ax:(arrOf s2).toList[P.length+m-1]? =some x2:=by
      have L3:Lies s2 P ((Z1++W)++ [x2]) (T.drop m):=by
       have:=L2
       unfold Lies at this ⊢
       rw [this,eW];simp
      have:=L3.end
      rw [←this]
      congr 1
      rw [eW] at l12
      simp only [G0e,G10] at l12 ⊢
      omega
     refine .bind (.ltAt ak (ar2.1.trans kd) ay ax uy2 ux2 ?_)
     dsimp only
     cases hb:R y2 x2 with
     |true=>
      rw [if_pos rfl]
      by_cases zq:neq>0
      ·rw [if_pos zq]
       have L2' :Lies s2 (P++Z1) Z2 (T.drop m):=by
        have:=L2
        unfold Lies at this ⊢
        rw [this];simp
       refine .bind (.rev L2' (by rw [G0e] at l12 ⊢;omega) (by rw [G0e] at l12 ⊢;omega) fun s3 ar3 L3=> .pure ⟨ar2.trans ar3,rfl,rfl,Z1++Z2.reverse,[y2],?_,F2.turn.below o u (G1r.mpr xin) hy2 hb,rfl⟩)
       have:=L3
       unfold Lies at this ⊢
       rw [this,jar hy2];simp
      ·rw [if_neg zq]
       refine .pure ⟨ar2,rfl,rfl,Z1++Z2,[y2],?_,F2.below o u xin hy2 hb,rfl⟩
       have:=L2
       unfold Lies at this ⊢
       rw [this,jar hy2];simp
     |false=>
      rw [if_neg (by decide)]
      refine .bind (.ltAt ak (ar2.1.trans kd) ax ay ux2 uy2 ?_)
      dsimp only
      cases hc:R x2 y2 with
      |true=>
       rw [if_pos rfl]
       exact .pure ⟨ar2,rfl,by dsimp only;omega,by dsimp only;omega,Z1,Z2,L2,F2,l2⟩
      |false=>
       rw [if_neg (by decide)]
       refine .pure ⟨ar2,rfl,rfl,Z1,Z2++ [y2],?_,F2.like o u xin hy2 hb hc,by rw [G0e,l2];rfl⟩
       have:=L2
       unfold Lies at this ⊢
       rw [this,jar hy2];simp
    ·rintro ⟨r,m,neq⟩ s2 ⟨ar2,hr,hm,Z1,Z2,L2,F2,l2⟩
     dsimp only at hr hm L2 F2 l2
     subst hr hm
     exact⟨ar2,rfl,h1,G0f _,Z1,Z2,L2,F2,l2⟩
    ·rintro ⟨r,m,neq⟩ s2 ⟨ar2,hr,m1,m2,Z1,Z2,L2,F2,l2⟩
     dsimp only at hr m1 m2 L2 F2 l2 ⊢
     subst hr
     have l12:=F2.len
     dsimp only
     by_cases zq:neq>0
     ·rw [if_pos zq]
      have L2' :Lies s2 (P++Z1) Z2 (T.drop m):=by
       have:=L2
       unfold Lies at this ⊢
       rw [this];simp
      refine .bind (.rev L2' (by rw [G0e] at l12 ⊢;omega) (by rw [G0e] at l12 ⊢;omega) fun s3 ar3 L3=> ?_)
      have L3' :Lies s3 P (Z1++Z2.reverse) (T.drop m):=by
       have:=L3
       unfold Lies at this ⊢
       rw [this];simp
      have F3:=F2.turn
      refine .bind (.rev L3' rfl (by rw [F3.len]) fun s4 ar4 L4=> ?_)
      have ar4:=(ar2.trans ar3).trans ar4
      have pm:=(G1v (Z1++Z2.reverse)).trans F3.perm
      have sz:=jgb F3.dsc
      refine .bind (Tm.mono (Tm.range (fun i c s5=>Arr st' s5∧c=(none,i)∧1≤i∧ ∃Z,Lies s5 P Z (T.drop i)∧Z.Perm (T.take i)∧Srt R Z) (Q:=fun c s5=>Arr st' s5∧c.1=none∧1≤c.2∧c.2≤T.length∧ ∃Z,Lies s5 P Z (T.drop c.2)∧Z.Perm (T.take c.2)∧Srt R Z) m2 ⟨ar4,rfl,m1,_,L4,pm,sz⟩ ?_ ?_) ?_)
      ·rintro i ⟨r,m'⟩ s5 hi ⟨ar5,hc,i1,Z,L5,p5,s5'⟩
       injection hc with hr hm
       subst hr hm
       dsimp only
       have lz:Z.length=m' :=by rw [p5.length_eq,G0v];omega
       obtain⟨W,x5,eW⟩:=jbU (l:=Z) (by omega)
       subst eW
       have lw:W.length+1=m' :=by rw [G0e] at lz;exact lz
       obtain⟨y5,hy5,uy5⟩:=tl m' hi
       have uZ: ∀z∈W++ [x5],U z:=fun z hz=>u z (G0V (p5.mem_iff.mp hz))
       refine .bind (.ltAt ak (ar5.1.trans kd) (show _=some y5 by have:=L5.rest (i:=0);rw [G1g,lz] at this;rw [G1O] at this;rw [this];exact hy5) (show _=some x5 by rw [show P.length+m' -1=P.length+W.length by omega];exact L5.end) uy5 (uZ x5 (by simp)) ?_)
       dsimp only
       cases hb:R y5 x5 with
       |true=>
        rw [if_pos rfl]
        exact .pure ⟨ar5,rfl,i1,by dsimp only;omega,_,L5,p5,s5'⟩
       |false=>
        rw [if_neg (by decide)]
        refine .pure ⟨ar5,rfl,by omega,W++ [x5]++ [y5],?_,jb4 p5 hy5,jdG o uZ uy5 s5' hb⟩
        have:=L5
        unfold Lies at this ⊢
        rw [this,jar hy5];simp
      ·rintro ⟨r,m'⟩ s5 ⟨ar5,hc,i1,Z,L5,p5,s5'⟩
       injection hc with hr hm
       subst hr hm
       exact⟨ar5,rfl,i1,G0f _,Z,L5,p5,s5'⟩
      ·rintro ⟨r,m'⟩ s5 ⟨ar5,hr,i1,i2,Z,L5,p5,s5'⟩
       dsimp only at hr i1 i2 L5 p5 ⊢
       subst hr
       exact .pure (q m' s5 Z i1 i2 ar5 L5 p5 s5')
     ·rw [if_neg zq]
      refine .bind (.rev L2 rfl (by rw [l12]) fun s4 ar4 L4=> ?_)
      have ar4:=ar2.trans ar4
      have pm:=(G1v (Z1++Z2)).trans F2.perm
      have sz:=jgb F2.dsc
      refine .bind (Tm.mono (Tm.range (fun i c s5=>Arr st' s5∧c=(none,i)∧1≤i∧ ∃Z,Lies s5 P Z (T.drop i)∧Z.Perm (T.take i)∧Srt R Z) (Q:=fun c s5=>Arr st' s5∧c.1=none∧1≤c.2∧c.2≤T.length∧ ∃Z,Lies s5 P Z (T.drop c.2)∧Z.Perm (T.take c.2)∧Srt R Z) m2 ⟨ar4,rfl,m1,_,L4,pm,sz⟩ ?_ ?_) ?_)
      ·rintro i ⟨r,m'⟩ s5 hi ⟨ar5,hc,i1,Z,L5,p5,s5'⟩
       injection hc with hr hm
       subst hr hm
       dsimp only
       have lz:Z.length=m' :=by rw [p5.length_eq,G0v];omega
       obtain⟨W,x5,eW⟩:=jbU (l:=Z) (by omega)
       subst eW
       have lw:W.length+1=m' :=by rw [G0e] at lz;exact lz
       obtain⟨y5,hy5,uy5⟩:=tl m' hi
       have uZ: ∀z∈W++ [x5],U z:=fun z hz=>u z (G0V (p5.mem_iff.mp hz))
       refine .bind (.ltAt ak (ar5.1.trans kd) (show _=some y5 by have:=L5.rest (i:=0);rw [G1g,lz] at this;rw [G1O] at this;rw [this];exact hy5) (show _=some x5 by rw [show P.length+m' -1=P.length+W.length by omega];exact L5.end) uy5 (uZ x5 (by simp)) ?_)
       dsimp only
       cases hb:R y5 x5 with
       |true=>
        rw [if_pos rfl]
        exact .pure ⟨ar5,rfl,i1,by dsimp only;omega,_,L5,p5,s5'⟩
       |false=>
        rw [if_neg (by decide)]
        refine .pure ⟨ar5,rfl,by omega,W++ [x5]++ [y5],?_,jb4 p5 hy5,jdG o uZ uy5 s5' hb⟩
        have:=L5
        unfold Lies at this ⊢
        rw [this,jar hy5];simp
      ·rintro ⟨r,m'⟩ s5 ⟨ar5,hc,i1,Z,L5,p5,s5'⟩
       injection hc with hr hm
       subst hr hm
       exact⟨ar5,rfl,i1,G0f _,Z,L5,p5,s5'⟩
      ·rintro ⟨r,m'⟩ s5 ⟨ar5,hr,i1,i2,Z,L5,p5,s5'⟩
       dsimp only at hr i1 i2 L5 p5 ⊢
       subst hr
       exact .pure (q m' s5 Z i1 i2 ar5 L5 p5 s5')
  ·rw [if_neg z2]
   refine .bind (.rule ?_)
   have n0:n=1:=by omega
   have F0:Fall R T [] (T.take n) n:=⟨lt,.refl _,by subst n0;rw [ex];exact G1d _ _,fun p hp r hr=>by
    subst n0
    rw [ex] at hp hr
    have hp' :p=x:=by simpa using hp
    have hr' :r=x:=by simpa using hr
    rw [hp',hr'];exact o.refl ux,by rw [lt];exact n1⟩
   have F1:=F0.below o u (x:=x) (by rw [ex];simp) hy yx
   have ar1:=Arr.refl st'
   have L1:Lies st' P (([]++T.take n)++ [y]) (T.drop (n+1)):=by
    have:=LT n
    unfold Lies at this ⊢
    rw [this,dy];simp
   generalize []++T.take n=Zr at F1 L1
   refine .bind (Tm.mono (Tm.range (fun i c s2=>Arr st' s2∧c.1=none∧c.2.1=i∧ ∃Z1 Z2,Lies s2 P (Z1++Z2) (T.drop i)∧Fall R T Z1 Z2 i∧Z2.length=c.2.2+1) (Q:=fun c s2=>Arr st' s2∧c.1=none∧1≤c.2.1∧c.2.1≤T.length∧ ∃Z1 Z2,Lies s2 P (Z1++Z2) (T.drop c.2.1)∧Fall R T Z1 Z2 c.2.1∧Z2.length=c.2.2+1) (by omega) ⟨ar1,rfl,rfl,Zr,[y],L1,F1,rfl⟩ ?_ ?_) ?_)
   ·rintro i ⟨r,m,neq⟩ s2 hi ⟨ar2,hr,hm,Z1,Z2,L2,F2,l2⟩
    dsimp only at hr hm L2 F2 l2 ⊢
    subst hr hm
    have l12:=F2.len
    obtain⟨W,x2,eW⟩:=jbU F2.ne
    have m1:1≤m:=by
     have p:=F2.len
     have r:=F2.ne
     rw [G0e] at p
     omega
    obtain⟨y2,hy2,uy2⟩:=tl m hi
    have xin:x2∈Z2:=by rw [eW];simp
    have ux2:=u x2 (F2.mem (G0z.mpr (.inr xin)))
    have ay:(arrOf s2).toList[P.length+m]? =some y2:=by
     have:=L2.rest (i:=0)
     rw [G1g,l12] at this
     rw [G1O] at this
     rw [this];exact hy2
    have ax:(arrOf s2).toList[P.length+m-1]? =some x2:=by
     have L3:Lies s2 P ((Z1++W)++ [x2]) (T.drop m):=by
      have:=L2
      unfold Lies at this ⊢
      rw [this,eW];simp
     have:=L3.end
     rw [←this]
     congr 1
     rw [eW] at l12
     simp only [G0e,G10] at l12 ⊢
     omega
    refine .bind (.ltAt ak (ar2.1.trans kd) ay ax uy2 ux2 ?_)
    dsimp only
    cases hb:R y2 x2 with
    |true=>
     rw [if_pos rfl]
     by_cases zq:neq>0
     ·rw [if_pos zq]
      have L2' :Lies s2 (P++Z1) Z2 (T.drop m):=by
       have:=L2
       unfold Lies at this ⊢
       rw [this];simp
      refine .bind (.rev L2' (by rw [G0e] at l12 ⊢;omega) (by rw [G0e] at l12 ⊢;omega) fun s3 ar3 L3=> .pure ⟨ar2.trans ar3,rfl,rfl,Z1++Z2.reverse,[y2],?_,F2.turn.below o u (G1r.mpr xin) hy2 hb,rfl⟩)
      have:=L3
      unfold Lies at this ⊢
      rw [this,jar hy2];simp
     ·rw [if_neg zq]
      refine .pure ⟨ar2,rfl,rfl,Z1++Z2,[y2],?_,F2.below o u xin hy2 hb,rfl⟩
      have:=L2
      unfold Lies at this ⊢
      rw [this,jar hy2];simp
    |false=>
     rw [if_neg (by decide)]
     refine .bind (.ltAt ak (ar2.1.trans kd) ax ay ux2 uy2 ?_)
     dsimp only
     cases hc:R x2 y2 with
     |true=>
      rw [if_pos rfl]
      exact .pure ⟨ar2,rfl,by dsimp only;omega,by dsimp only;omega,Z1,Z2,L2,F2,l2⟩
     |false=>
      rw [if_neg (by decide)]
      refine .pure ⟨ar2,rfl,rfl,Z1,Z2++ [y2],?_,F2.like o u xin hy2 hb hc,by rw [G0e,l2];rfl⟩
      have:=L2
      unfold Lies at this ⊢
      rw [this,jar hy2];simp
   ·rintro ⟨r,m,neq⟩ s2 ⟨ar2,hr,hm,Z1,Z2,L2,F2,l2⟩
    dsimp only at hr hm L2 F2 l2
    subst hr hm
    exact⟨ar2,rfl,h1,G0f _,Z1,Z2,L2,F2,l2⟩
   ·rintro ⟨r,m,neq⟩ s2 ⟨ar2,hr,m1,m2,Z1,Z2,L2,F2,l2⟩
    dsimp only at hr m1 m2 L2 F2 l2 ⊢
    subst hr
    have l12:=F2.len
    dsimp only
    by_cases zq:neq>0
    ·rw [if_pos zq]
     have L2' :Lies s2 (P++Z1) Z2 (T.drop m):=by
      have:=L2
      unfold Lies at this ⊢
      rw [this];simp
     refine .bind (.rev L2' (by rw [G0e] at l12 ⊢;omega) (by rw [G0e] at l12 ⊢;omega) fun s3 ar3 L3=> ?_)
     have L3' :Lies s3 P (Z1++Z2.reverse) (T.drop m):=by
      have:=L3
      unfold Lies at this ⊢
      rw [this];simp
     have F3:=F2.turn
     refine .bind (.rev L3' rfl (by rw [F3.len]) fun s4 ar4 L4=> ?_)
     have ar4:=(ar2.trans ar3).trans ar4
     have pm:=(G1v (Z1++Z2.reverse)).trans F3.perm
     have sz:=jgb F3.dsc
     refine .bind (Tm.mono (Tm.range (fun i c s5=>Arr st' s5∧c=(none,i)∧1≤i∧ ∃Z,Lies s5 P Z (T.drop i)∧Z.Perm (T.take i)∧Srt R Z) (Q:=fun c s5=>Arr st' s5∧c.1=none∧1≤c.2∧c.2≤T.length∧ ∃Z,Lies s5 P Z (T.drop c.2)∧Z.Perm (T.take c.2)∧Srt R Z) m2 ⟨ar4,rfl,m1,_,L4,pm,sz⟩ ?_ ?_) ?_)
     ·rintro i ⟨r,m'⟩ s5 hi ⟨ar5,hc,i1,Z,L5,p5,s5'⟩
      injection hc with hr hm
      subst hr hm
      dsimp only
      have lz:Z.length=m' :=by rw [p5.length_eq,G0v];omega
      obtain⟨W,x5,eW⟩:=jbU (l:=Z) (by omega)
      subst eW
      have lw:W.length+1=m' :=by rw [G0e] at lz;exact lz
      obtain⟨y5,hy5,uy5⟩:=tl m' hi
      have uZ: ∀z∈W++ [x5],U z:=fun z hz=>u z (G0V (p5.mem_iff.mp hz))
      refine .bind (.ltAt ak (ar5.1.trans kd) (show _=some y5 by have:=L5.rest (i:=0);rw [G1g,lz] at this;rw [G1O] at this;rw [this];exact hy5) (show _=some x5 by rw [show P.length+m' -1=P.length+W.length by omega];exact L5.end) uy5 (uZ x5 (by simp)) ?_)
      dsimp only
      cases hb:R y5 x5 with
      |true=>
       rw [if_pos rfl]
       exact .pure ⟨ar5,rfl,i1,by dsimp only;omega,_,L5,p5,s5'⟩
      |false=>
       rw [if_neg (by decide)]
       refine .pure ⟨ar5,rfl,by omega,W++ [x5]++ [y5],?_,jb4 p5 hy5,jdG o uZ uy5 s5' hb⟩
       have:=L5
       unfold Lies at this ⊢
       rw [this,jar hy5];simp
     ·rintro ⟨r,m'⟩ s5 ⟨ar5,hc,i1,Z,L5,p5,s5'⟩
      injection hc with hr hm
      subst hr hm
      exact⟨ar5,rfl,i1,G0f _,Z,L5,p5,s5'⟩
     ·rintro ⟨r,m'⟩ s5 ⟨ar5,hr,i1,i2,Z,L5,p5,s5'⟩
      dsimp only at hr i1 i2 L5 p5 ⊢
      subst hr
      exact .pure (q m' s5 Z i1 i2 ar5 L5 p5 s5')
    ·rw [if_neg zq]
     refine .bind (.rev L2 rfl (by rw [l12]) fun s4 ar4 L4=> ?_)
     have ar4:=ar2.trans ar4
     have pm:=(G1v (Z1++Z2)).trans F2.perm
     have sz:=jgb F2.dsc
     refine .bind (Tm.mono (Tm.range (fun i c s5=>Arr st' s5∧c=(none,i)∧1≤i∧ ∃Z,Lies s5 P Z (T.drop i)∧Z.Perm (T.take i)∧Srt R Z) (Q:=fun c s5=>Arr st' s5∧c.1=none∧1≤c.2∧c.2≤T.length∧ ∃Z,Lies s5 P Z (T.drop c.2)∧Z.Perm (T.take c.2)∧Srt R Z) m2 ⟨ar4,rfl,m1,_,L4,pm,sz⟩ ?_ ?_) ?_)
     ·rintro i ⟨r,m'⟩ s5 hi ⟨ar5,hc,i1,Z,L5,p5,s5'⟩
      injection hc with hr hm
      subst hr hm
      dsimp only
      have lz:Z.length=m' :=by rw [p5.length_eq,G0v];omega
      obtain⟨W,x5,eW⟩:=jbU (l:=Z) (by omega)
      subst eW
      have lw:W.length+1=m' :=by rw [G0e] at lz;exact lz
      obtain⟨y5,hy5,uy5⟩:=tl m' hi
      have uZ: ∀z∈W++ [x5],U z:=fun z hz=>u z (G0V (p5.mem_iff.mp hz))
      refine .bind (.ltAt ak (ar5.1.trans kd) (show _=some y5 by have:=L5.rest (i:=0);rw [G1g,lz] at this;rw [G1O] at this;rw [this];exact hy5) (show _=some x5 by rw [show P.length+m' -1=P.length+W.length by omega];exact L5.end) uy5 (uZ x5 (by simp)) ?_)
      dsimp only
      cases hb:R y5 x5 with
      |true=>
       rw [if_pos rfl]
       exact .pure ⟨ar5,rfl,i1,by dsimp only;omega,_,L5,p5,s5'⟩
      |false=>
       rw [if_neg (by decide)]
       refine .pure ⟨ar5,rfl,by omega,W++ [x5]++ [y5],?_,jb4 p5 hy5,jdG o uZ uy5 s5' hb⟩
       have:=L5
       unfold Lies at this ⊢
       rw [this,jar hy5];simp
     ·rintro ⟨r,m'⟩ s5 ⟨ar5,hc,i1,Z,L5,p5,s5'⟩
      injection hc with hr hm
      subst hr hm
      exact⟨ar5,rfl,i1,G0f _,Z,L5,p5,s5'⟩
     ·rintro ⟨r,m'⟩ s5 ⟨ar5,hr,i1,i2,Z,L5,p5,s5'⟩
      dsimp only at hr i1 i2 L5 p5 ⊢
      subst hr
      exact .pure (q m' s5 Z i1 i2 ar5 L5 p5 s5')
end
section
variable {prog:Program} {w:World} {A:Around} {E:Value→Shared→Prop} {J:Shared→Prop} {κ:SortKind} {U:Keyed→Prop} {R:Keyed→Keyed→Bool}
theorem jlP (xs:Array Keyed) (P Z S:List Keyed) (y:Keyed) (l:Nat) (hl:l≤Z.length) (h:xs.toList=P++Z++y::S):(bubble xs (P.length+Z.length) (Z.length-l)).toList=P++(Z.take l++ [y]++Z.drop l)++S:=by
 have hz:xs.size=P.length+Z.length+(S.length+1):=by rw [←G0j,h];simp [G2U]
 have at_: ∀k,xs[k]? =(P++Z++y::S)[k]? :=fun k=>by rw [←G0F,h]
 refine G2q fun k=> ?_
 rw [G0F,getElem?_bubble (by omega) _ (by omega)]
 have lt:(Z.take l).length=l:=by rw [G0v];omega
 by_cases c:k=P.length+Z.length-(Z.length-l)
 ·rw [if_pos c,at_]
  have e1:(P++Z++y::S)[P.length+Z.length]? =some y:=by
   rw [G0o (by rw [G0e];omega),G0e,Nat.sub_self];rfl
  have e2:(P++(Z.take l++ [y]++Z.drop l)++S)[k]? =some y:=by
   rw [G0l,G0o (by omega),G0l,G0l,G0o (by rw [lt];omega),lt,show k-P.length-l=0 by omega];rfl
  rw [e1,e2]
 ·rw [if_neg c]
  by_cases d:P.length+Z.length-(Z.length-l)<k∧k≤P.length+Z.length
  ·rw [if_pos d,at_]
   have e1:(P++Z++y::S)[k-1]? =Z[k-1-P.length]? :=by
    rw [G0l,G0o (by omega),G0H (by omega)]
   have e2:(P++(Z.take l++ [y]++Z.drop l)++S)[k]? =Z[k-1-P.length]? :=by
    rw [G0l,G0o (by omega),G0H (by simp only [G0e,G0v,G0Q,G10];omega),G0o (by rw [G0e,lt];simp;omega),G0e,lt,G1g]
    congr 1;simp;omega
   rw [e1,e2]
  ·rw [if_neg d,at_]
   by_cases f:k<P.length+l
   ·have e1:(P++Z++y::S)[k]? =(P++Z.take l)[k]? :=by
     have:P++Z++y::S=P++Z.take l++(Z.drop l++y::S):=by
      rw [G0l,G0l,←G0l (Z.take l),G0N]
     rw [this,G0H (by rw [G0e,lt];omega)]
    have e2:(P++(Z.take l++ [y]++Z.drop l)++S)[k]? =(P++Z.take l)[k]? :=by
     have:P++(Z.take l++ [y]++Z.drop l)++S=P++Z.take l++([y]++Z.drop l++S):=by simp [G0l]
     rw [this,G0H (by rw [G0e,lt];omega)]
    rw [e1,e2]
   ·have e1:(P++Z++y::S)[k]? =S[k-P.length-Z.length-1]? :=by
     rw [G0o (by rw [G0e];omega),G0e,List.getElem?_cons,if_neg (by omega)]
     congr 1;omega
    have e2:(P++(Z.take l++ [y]++Z.drop l)++S)[k]? =S[k-P.length-Z.length-1]? :=by
     rw [G0o (by simp only [G0e,G0v,G0Q,G10];omega)]
     congr 1;simp only [G0e,G0v,G0Q,G10];omega
    rw [e1,e2]
theorem jnM (o:Ordd U R) {Z:List Keyed} {y:Keyed} {l:Nat} (u: ∀z∈Z,U z) (uy:U y) (s:Srt R Z) (a: ∀z∈Z.take l,R y z=false) (b: ∀z∈Z.drop l,R y z=true):Srt R (Z.take l++ [y]++Z.drop l):=by
 have s' :Srt R (Z.take l++Z.drop l):=by rw [G0N];exact s
 obtain⟨s1,s2,s3⟩:=G0J.mp s'
 refine G0J.mpr ⟨G0J.mpr ⟨s1,G1d _ _,fun x hx z hz=> ?_⟩,s2,fun x hx z hz=> ?_⟩
 ·rw [G0g.mp hz];exact a x hx
 ·rcases G0z.mp hx with v|v
  ·exact s3 x v z hz
  ·rw [G0g.mp v]
   exact o.asym y z uy (u z (G07 hz)) (b z hz)
theorem jpY {st:SortSt} {Q:Bool→SortSt→Prop} {P T Z:List Keyed} {n k:Nat} (ak:jhM prog w A J κ U R) (kd:kindOf st=κ) (o:Ordd U R) (u: ∀x∈T,U x) (h:Lies st P Z (T.drop k)) (hp:Z.Perm (T.take k)) (hs:Srt R Z) (k1:1≤k) (kn:k≤n) (hn:n≤T.length)
 (q: ∀st' Z',Arr st st' →Lies st' P Z' (T.drop n)→Z'.Perm (T.take n)→Srt R Z' →Q true st'):Tm prog w A E J (binarySort' P.length n k) Q st:=by
 unfold binarySort'
 refine .bind (Tm.mono (Tm.range (fun i c s1=>Arr st s1∧c.1=none∧1≤i∧ ∃Z,Lies s1 P Z (T.drop i)∧Z.Perm (T.take i)∧Srt R Z) (Q:=fun c s1=>Arr st s1∧c.1=none∧ ∃Z,Lies s1 P Z (T.drop n)∧Z.Perm (T.take n)∧Srt R Z) (by omega) ⟨Arr.refl st,rfl,by omega,Z,by rw [Nat.max_eq_left k1];exact h,by rw [Nat.max_eq_left k1];exact hp,hs⟩ ?_ ?_) ?_)
 ·rintro i ⟨r,c2⟩ s1 hi ⟨ar,hr,i1,Z,L,p,s⟩
  dsimp only at hr ⊢
  subst hr
  obtain⟨y,hy⟩: ∃y,T[i]? =some y:=⟨_,G0b (by omega)⟩
  have uy:=u y (G0h hy)
  have lz:Z.length=i:=by rw [p.length_eq,G0v];omega
  have uZ: ∀z∈Z,U z:=fun z hz=>u z (G0V (p.mem_iff.mp hz))
  have ay:(arrOf s1).toList[P.length+i]? =some y:=by
   have:=L.rest (i:=0)
   rw [G1g,lz] at this
   rw [G1O] at this
   rw [this];exact hy
  have az: ∀m,m<i→ ∃z,Z[m]? =some z∧(arrOf s1).toList[P.length+m]? =some z:=fun m hm=>by
   refine⟨Z[m],G0b (by omega),?_⟩
   rw [L,G0l,G0o (by omega),G0H (by omega),G3U,G0b (by omega)]
  refine .bind (Tm.mono (Tm.range (fun j c s2=>s2=s1∧c.1=none∧c.2.1≤c.2.2∧c.2.2≤i∧(∀z∈Z.take c.2.1,R y z=false)∧(∀z∈Z.drop c.2.2,R y z=true)∧c.2.2-c.2.1+j≤i) (Q:=fun c s2=>s2=s1∧c.1=none∧c.2.1≤i∧(∀z∈Z.take c.2.1,R y z=false)∧(∀z∈Z.drop c.2.1,R y z=true)) (Nat.zero_le _) ⟨rfl,rfl,Nat.zero_le _,Nat.le_refl _,fun z hz=> ?_,fun z hz=> ?_,by dsimp only;omega⟩ ?_ ?_) ?_)
  ·dsimp only at hz;rw [List.take_zero] at hz;cases hz
  ·dsimp only at hz;rw [List.drop_eq_nil_of_le (by omega)] at hz;cases hz
  ·rintro j ⟨r,l,v⟩ _ hj ⟨rfl,hr,b1,b2,b3,b4,b5⟩
   dsimp only at hr b1 b2 b3 b4 b5 ⊢
   subst hr
   by_cases c1:l≥v
   ·rw [if_pos c1]
    have:l=v:=by omega
    subst this
    exact .pure ⟨rfl,rfl,b2,b3,b4⟩
   rw [if_neg c1]
   obtain⟨z,hz,ez⟩:=az ((l+v) / 2) (by omega)
   have uz:=uZ z (G0h hz)
   refine .bind (.ltAt ak (ar.1.trans kd) ay ez uy uz ?_)
   dsimp only
   cases hb:R y z with
   |true=>
    rw [if_pos rfl]
    refine .pure ⟨rfl,rfl,by dsimp only;omega,by dsimp only;omega,b3,fun x hx=> ?_,by dsimp only;omega⟩
    dsimp only at hx
    have zx:R x z=false:=by
     obtain⟨t,ht,e⟩:=G19 hx
     rw [G0Q] at ht
     exact jeO s o uZ (show (l+v) / 2≤(l+v) / 2+t by omega) hz (by rw [G0b (by omega),←e,G3M])
    rcases o.neg y x z uy (uZ x (G07 hx)) uz hb with w|w
    ·exact w
    ·rw [zx] at w;cases w
   |false=>
    rw [if_neg (by decide)]
    refine .pure ⟨rfl,rfl,by dsimp only;omega,b2,fun x hx=> ?_,b4,by dsimp only;omega⟩
    dsimp only at hx
    have xz:R z x=false:=by
     obtain⟨t,ht,e⟩:=G19 hx
     rw [G0v] at ht
     exact jeO s o uZ (show t≤(l+v) / 2 by omega) (by rw [G0b (by omega),←e,List.getElem_take]) hz
    exact o.trans (uZ x (G0V hx)) uz uy xz hb
  ·rintro ⟨r,l,v⟩ _ ⟨rfl,hr,b1,b2,b3,b4,b5⟩
   dsimp only at hr b1 b2 b3 b4 b5 ⊢
   have:l=v:=by omega
   subst this
   exact⟨rfl,hr,b2,b3,b4⟩
  ·rintro ⟨r,l,v⟩ s2 ⟨rfl,hr,b2,b3,b4⟩
   dsimp only at hr b2 b3 b4 ⊢
   subst hr
   dsimp only
   refine .bind ?_
   show Tm prog w A E J (moveDown' (P.length+i) (P.length+l)) _ _
   rw [moveDown'_eq]
   refine .modify (.pure ⟨ar.trans ⟨rfl,rfl,rfl,rfl⟩,rfl,by omega,Z.take l++ [y]++Z.drop l,?_,?_,jnM o uZ uy s b3 b4⟩)
   ·have:=jlP (arrOf s2) P Z (T.drop (i+1)) y l (by omega) (by rw [←jar hy];exact L)
    rw [lz] at this
    rw [show P.length+i-(P.length+l)=i-l by omega]
    exact this
   ·refine List.Perm.trans ?_ (jb4 p hy)
    rw [G0l]
    have e:Z++ [y]=Z.take l++(Z.drop l++ [y]):=by rw [←G0l,G0N]
    rw [e]
    exact(G2D).append_left _
 ·rintro ⟨r,c2⟩ s1 ⟨ar,hr,i1,Z,L,p,s⟩
  exact⟨ar,hr,Z,L,p,s⟩
 ·rintro ⟨r,c2⟩ s1 ⟨ar,hr,Z,L,p,s⟩
  dsimp only at hr ⊢
  subst hr
  exact .pure (q s1 Z ar L p s)
end
section
variable {prog:Program} {w:World} {A:Around} {E:Value→Shared→Prop} {J:Shared→Prop} {κ:SortKind} {U:Keyed→Prop} {R:Keyed→Keyed→Bool}
def Stk (R:Keyed→Keyed→Bool) (l:List Keyed):List (Nat×Nat×Nat)→Nat→Nat→Prop
 | [],s,e=>s=e
 |(p,n,_)::rest,s,e=>p=s∧1≤n∧Srt R (seg l p n)∧Stk R l rest (s+n) e
theorem Stk.le {l:List Keyed}: ∀ {pl:List (Nat×Nat×Nat)} {s e:Nat},Stk R l pl s e→s+pl.length≤e
 | [],s,e,h=>by cases h;simp
 |(p,n,_)::rest,s,e,⟨_,n1,_,h⟩=>by have:=Stk.le h;simp only [G0k];omega
theorem jlQ {l l' :List Keyed} {p n e:Nat} (h:l.take e=l'.take e) (he:p+n≤e):seg l p n=seg l' p n:=by
 have cut: ∀k:List Keyed,seg k p n=seg (k.take e) p n:=fun k=>by
  unfold seg
  rw [G4i,G4j,G4a (by omega)]
 rw [cut l,cut l',h]
theorem Stk.same {l l' :List Keyed}: ∀ {pl:List (Nat×Nat×Nat)} {s e:Nat},Stk R l pl s e→l.take e=l'.take e→Stk R l' pl s e
 | [],s,e,h,_=>h
 |(p,n,_)::rest,s,e,⟨a,b,c,d⟩,h=>by
  have:=d.le
  exact⟨a,b,by rw [←jlQ h (by omega)];exact c,d.same h⟩
theorem Stk.shift {l l' :List Keyed}: ∀ {pl:List (Nat×Nat×Nat)} {s e:Nat},Stk R l pl s e→l.drop s=l'.drop s→Stk R l' pl s e
 | [],s,e,h,_=>h
 |(p,n,_)::rest,s,e,⟨a,b,c,d⟩,h=>by
  subst a
  refine⟨rfl,b,by unfold seg at c ⊢;rw [←h];exact c,d.shift ?_⟩
  rw [←G2e,←G2e,h]
theorem Stk.append {l:List Keyed}: ∀ {a b:List (Nat×Nat×Nat)} {s e:Nat},Stk R l (a++b) s e↔ ∃m,Stk R l a s m∧Stk R l b m e
 | [],b,s,e=>⟨fun h=>⟨s,rfl,h⟩,fun ⟨m,h,h'⟩=>by cases h;exact h'⟩
 |(p,n,w)::a,b,s,e=>by
  constructor
  ·rintro ⟨x,y,z,h⟩
   obtain⟨m,h1,h2⟩:=Stk.append.mp h
   exact⟨m,⟨x,y,z,h1⟩,h2⟩
  ·rintro ⟨m,⟨x,y,z,h1⟩,h2⟩
   exact⟨x,y,z,Stk.append.mpr ⟨m,h1,h2⟩⟩
structure Bt (R:Keyed→Keyed→Bool) (κ:SortKind) (l0:List Keyed) (lo:Nat) (st:SortSt):Prop where
 kind:kindOf st=κ
 failed:failedOf st=none
 perm:(arrOf st).toList.Perm l0
 stk:Stk R (arrOf st).toList (pendingOf st).toList 0 lo
theorem Bt.size {l0:List Keyed} {lo:Nat} {st:SortSt} (b:Bt R κ l0 lo st):(arrOf st).size=l0.length:=by rw [←G0j,b.perm.length_eq]
theorem Bt.merge {l0:List Keyed} {lo:Nat} {st:SortSt} {Q:Bool→SortSt→Prop} {i:Nat} (ak:jhM prog w A J κ U R) (o:Ordd U R) (u: ∀x∈l0,U x) (b:Bt R κ l0 lo st) (hlo:lo≤l0.length) (hi:i+1<(pendingOf st).size)
 (q: ∀st',Bt R κ l0 lo st' →(pendingOf st').size+1=(pendingOf st).size→(arrOf st').toList.drop lo=(arrOf st).toList.drop lo→Q true st'):Tm prog w A E J (mergeAt' i) Q st:=by
 have lp:(pendingOf st).toList.length=(pendingOf st).size:=by simp
 obtain⟨⟨sa,na,pw⟩,hx⟩: ∃x,(pendingOf st).toList[i]? =some x:=⟨_,G0b (by omega)⟩
 obtain⟨⟨sb,nb,pw2⟩,hy⟩: ∃y,(pendingOf st).toList[i+1]? =some y:=⟨_,G0b (by omega)⟩
 have e:(pendingOf st).toList=(pendingOf st).toList.take i++(sa,na,pw)::(sb,nb,pw2)::(pendingOf st).toList.drop (i+2):=by
  rw [←jar hy,←jar hx,G0N]
 have stk:=b.stk
 rw [e] at stk
 obtain⟨m,k1,em,n1,s1,eb,n2,s2,k2⟩:=Stk.append.mp stk
 subst em
 subst eb
 have le:=k2.le
 have sz:=b.size
 have hz:sa+na+nb≤(arrOf st).size:=by omega
 have ln:(arrOf st).toList.length=(arrOf st).size:=by simp
 refine jpX ak b.kind o (fun x hx=>u x (b.perm.mem_iff.mp hx)) (by rw [←G0F];exact hx) (by rw [←G0F];exact hy) rfl n1 n2 hz s1 s2 b.failed fun st' Z kd hf hp ha pz sz' => ?_
 have hpl:(pendingOf st').toList=(pendingOf st).toList.take i++(sa,na+nb,pw)::(pendingOf st).toList.drop (i+2):=by
  rw [hp,Array.eraseIdxIfInBounds_eq,dif_pos (by rw [G2Q];exact hi),Array.toList_eraseIdx,G3x]
  generalize (pendingOf st).toList.drop (i+2)=B at e ⊢
  have li:((pendingOf st).toList.take i).length=i:=by rw [G0v];omega
  generalize (pendingOf st).toList.take i=A at e li ⊢
  rw [e]
  subst li
  simp [List.set_append,List.eraseIdx_append]
  intro z;omega
 have lZ:Z.length=na+nb:=by rw [pz.length_eq,G0e,jeQ (by omega),jeQ (by omega)]
 have lt:((arrOf st).toList.take sa).length=sa:=by rw [G0v];omega
 refine q st' ⟨kd,hf,?_,?_⟩ ?_ ?_
 ·rw [ha]
  refine List.Perm.trans ?_ b.perm
  have c3:=jhe (arrOf st).toList (p:=sa) (n:=na) (m:=nb)
  have pp:=(pz.append_left ((arrOf st).toList.take sa)).append_right ((arrOf st).toList.drop (sa+na+nb))
  rw [←c3] at pp
  exact pp
 ·rw [hpl,ha]
  refine Stk.append.mpr ⟨sa,k1.same ?_,rfl,by omega,?_,?_⟩
  ·rw [G0l,G16 (by omega),G0T (l:=(arrOf st).toList.take sa) (by omega)]
  ·unfold seg
   rw [G0l,G15 (by omega),G1l (by omega),G0P,G16 (by omega),G0T (by omega)]
   exact sz'
  ·rw [←G2U]
   refine k2.shift ?_
   have:((arrOf st).toList.take sa++Z).length=sa+na+nb:=by rw [G0e,lt,lZ];omega
   rw [G15 (by omega),G1l (as:=(arrOf st).toList.take sa++Z) (by omega),G0P]
 ·rw [←G0j,←G0j,hpl]
  have:(pendingOf st).toList.length=((pendingOf st).toList.take i++(sa,na,pw)::(sa+na,nb,pw2)::(pendingOf st).toList.drop (i+2)).length:=congrArg List.length e
  rw [this]
  simp only [G0e,G0k]
  omega
 ·rw [ha]
  have c1:((arrOf st).toList.take sa++Z).length=sa+na+nb:=by rw [G0e,lt,lZ];omega
  have c2:sa+na+nb≤lo:=by omega
  rw [List.drop_append,G1l (as:=(arrOf st).toList.take sa++Z) (by omega),G0P,G2e,c1]
  congr 1;omega
theorem Bt.run {l0 Z:List Keyed} {lo n:Nat} {s1 s2:SortSt} (b:Bt R κ l0 lo s1) (hlo:lo≤l0.length) (ar:Arr s1 s2) (L:Lies s2 ((arrOf s1).toList.take lo) Z (((arrOf s1).toList.drop lo).drop n)) (p:Z.Perm (((arrOf s1).toList.drop lo).take n)) (sr:Srt R Z) (hn:n≤l0.length-lo):Bt R κ l0 lo s2∧Srt R (seg (arrOf s2).toList lo n):=by
 have ln:(arrOf s1).toList.length=l0.length:=b.perm.length_eq
 have lP:((arrOf s1).toList.take lo).length=lo:=by rw [G0v];omega
 have lZ:Z.length=n:=by rw [p.length_eq,G0v,G0Q];omega
 have e:(arrOf s2).toList=(arrOf s1).toList.take lo++Z++((arrOf s1).toList.drop lo).drop n:=L
 refine⟨⟨ar.1.trans b.kind,ar.2.2.1.trans b.failed,?_,?_⟩,?_⟩
 ·rw [e]
  refine List.Perm.trans ?_ b.perm
  have pp:=(p.append_left ((arrOf s1).toList.take lo)).append_right (((arrOf s1).toList.drop lo).drop n)
  rw [G0l _ (((arrOf s1).toList.drop lo).take n),G0N,G0N] at pp
  exact pp
 ·rw [ar.2.1]
  refine b.stk.same ?_
  rw [e,G0l,G16 (by omega),G0T (l:=(arrOf s1).toList.take lo) (by omega)]
 ·rw [e]
  unfold seg
  rw [G0l,G15 (by omega),G1l (by omega),G0P,G16 (by omega),G0T (by omega)]
  exact sr
theorem Bt.push {l0:List Keyed} {lo n:Nat} {s:SortSt} (b:Bt R κ l0 lo s) (n1:1≤n) (g:Srt R (seg (arrOf s).toList lo n)):Bt R κ l0 (lo+n) (setPending s ((pendingOf s).push (lo,n,0))):=by
 refine⟨b.kind,b.failed,b.perm,?_⟩
 show Stk R (arrOf s).toList ((pendingOf s).push (lo,n,0)).toList 0 (lo+n)
 rw [G1U]
 exact Stk.append.mpr ⟨lo,b.stk,rfl,n1,g,rfl⟩
theorem Stk.mod {l:List Keyed} {f:Nat×Nat×Nat→Nat×Nat×Nat} (hf: ∀x,(f x).1=x.1∧(f x).2.1=x.2.1): ∀ {pl:List (Nat×Nat×Nat)} {k s e:Nat},Stk R l pl s e→Stk R l (pl.modify k f) s e
 | [],k,s,e,h=>by rw [List.modify_nil];exact h
 |(p,n,w)::rest,0,s,e,⟨a,b,c,d⟩=>by
  rw [List.modify_zero_cons]
  have e1:=(hf (p,n,w)).1
  have e2:=(hf (p,n,w)).2
  generalize f (p,n,w)=x at e1 e2
  obtain⟨p',n',w'⟩:=x
  dsimp only at e1 e2
  subst e1 e2
  exact⟨a,b,c,d⟩
 |(p,n,w)::rest,k+1,s,e,⟨a,b,c,d⟩=>by
  rw [List.modify_succ_cons]
  exact⟨a,b,c,d.mod hf⟩
theorem Bt.mod {l0:List Keyed} {lo k:Nat} {s:SortSt} {f:Nat×Nat×Nat→Nat×Nat×Nat} (b:Bt R κ l0 lo s) (hf: ∀x,(f x).1=x.1∧(f x).2.1=x.2.1):Bt R κ l0 lo (setPending s ((pendingOf s).modify k f)):=by
 refine⟨b.kind,b.failed,b.perm,?_⟩
 show Stk R (arrOf s).toList ((pendingOf s).modify k f).toList 0 lo
 rw [Array.toList_modify]
 exact b.stk.mod hf
theorem jlR (c:Bool) (x:Nat):(if c=true then x-1 else x)≤x:=by cases c<;>simp
theorem jnN {l0:List Keyed} {st:SortSt} {Q:Unit→SortSt→Prop} (ak:jhM prog w A J κ U R) (o:Ordd U R) (u: ∀x∈l0,U x) (kd:kindOf st=κ) (hf:failedOf st=none) (hp:pendingOf st= #[]) (hl:(arrOf st).toList=l0)
 (q: ∀st',failedOf st' =none→(arrOf st').toList.Perm l0→Srt R (arrOf st').toList→Q () st'):Tm prog w A E J sortRuns' Q st:=by
 have b0:Bt R κ l0 0 st:=⟨kd,hf,by rw [hl],by rw [hp];rfl⟩
 rw [sortRuns'_eq]
 refine .bind (.get ?_)
 dsimp only
 rw [b0.size]
 generalize minRun' l0.length l0.length 0=mr
 refine .bind (Tm.mono (Tm.range (fun i c s1=>c.1=none∧c.2≤l0.length∧i≤c.2∧Bt R κ l0 c.2 s1) (Q:=fun c s1=>c.1=none∧Bt R κ l0 l0.length s1) (G1c _) ⟨rfl,G1c _,G1c _,b0⟩ ?_ ?_) ?_)
 ·rintro i ⟨r,lo⟩ s1 hi ⟨hr,h1,h2,b⟩
  dsimp only at hr h1 h2 b ⊢
  subst hr
  by_cases z1:lo≥l0.length
  ·rw [if_pos z1]
   have:lo=l0.length:=by omega
   subst this
   exact .pure ⟨rfl,b⟩
  rw [if_neg z1]
  have ln:(arrOf s1).toList.length=l0.length:=b.perm.length_eq
  have lP:((arrOf s1).toList.take lo).length=lo:=by rw [G0v];omega
  have lT:((arrOf s1).toList.drop lo).length=l0.length-lo:=by rw [G0Q,ln]
  have uT: ∀x∈(arrOf s1).toList.drop lo,U x:=fun x hx=>u x (b.perm.mem_iff.mp (G07 hx))
  have ct:=fun {Q}=>jlO (prog:=prog) (w:=w) (A:=A) (E:=E) (J:=J) (Q:=Q) (st:=s1) (P:=(arrOf s1).toList.take lo) (T:=(arrOf s1).toList.drop lo) ak b.kind o uT (by unfold Lies;rw [List.append_nil,List.take_append_drop]) (by omega)
  rw [lP,lT] at ct
  refine .bind (ct fun n s2 Z n1 n2 ar L p sr=> ?_)
  dsimp only
  by_cases z2:n<mr
  ·rw [if_pos z2]
   have bn:=fun {Q}=>jpY (prog:=prog) (w:=w) (A:=A) (E:=E) (J:=J) (Q:=Q) (st:=s2) (P:=(arrOf s1).toList.take lo) (T:=(arrOf s1).toList.drop lo) (n:=min (l0.length-lo) mr) ak (ar.1.trans b.kind) o uT L p sr n1 (by omega) (by omega)
   rw [lP] at bn
   refine .bind (.rule (.bind (bn fun s3 Z3 ar3 L3 p3 sr3=> ?_)))
   obtain⟨B,G⟩:=b.run h1 (ar.trans ar3) L3 p3 sr3 (by omega)
   have N1:1≤min (l0.length-lo) mr:=by omega
   rw [if_neg (by decide)]
   refine .bind (.get ?_)
   split
   ·refine .bind (Tm.mono (Tm.range (fun j c s4=>c.1=none∧Bt R κ l0 lo s4∧Srt R (seg (arrOf s4).toList lo (min (l0.length-lo) mr))) (Q:=fun c s4=>c.1=none∧Bt R κ l0 lo s4∧Srt R (seg (arrOf s4).toList lo (min (l0.length-lo) mr))) (G1c _) ⟨rfl,B,G⟩ ?_ (fun _ _ h=>h)) ?_)
    ·rintro j ⟨r,c⟩ s4 hj ⟨hr,B4,G4⟩
     dsimp only at hr ⊢
     subst hr
     refine .bind (.get ?_)
     split
     ·rename_i older heq
      split
      ·exact .pure ⟨rfl,B4,G4⟩
      ·have two:(pendingOf s4).size>1:=G3E fun z=>by rw [if_neg z] at heq;cases heq
       refine .bind (Bt.merge ak o u B4 h1 (by omega) fun s5 B5 _ dr=> ?_)
       refine .pure ⟨rfl,B5,?_⟩
       unfold seg at G4 ⊢
       rw [dr];exact G4
     ·exact .pure ⟨rfl,B4,G4⟩
    ·rintro ⟨r,c⟩ s4 ⟨hr,B4,G4⟩
     dsimp only at hr ⊢
     subst hr
     dsimp only
     refine .bind (.modify (.bind (.modify (.pure ⟨rfl,?_,?_,Bt.push (Bt.mod B4 fun x=>⟨rfl,rfl⟩) N1 G4⟩))))
     ·dsimp only;omega
     ·dsimp only;omega
   ·refine .bind (.modify (.pure ⟨rfl,?_,?_,Bt.push B N1 G⟩))
    ·dsimp only;omega
    ·dsimp only;omega
  ·rw [if_neg z2]
   obtain⟨B,G⟩:=b.run h1 ar L p sr n2
   have N1:=n1
   refine .bind (.get ?_)
   split
   ·refine .bind (Tm.mono (Tm.range (fun j c s4=>c.1=none∧Bt R κ l0 lo s4∧Srt R (seg (arrOf s4).toList lo (n))) (Q:=fun c s4=>c.1=none∧Bt R κ l0 lo s4∧Srt R (seg (arrOf s4).toList lo (n))) (G1c _) ⟨rfl,B,G⟩ ?_ (fun _ _ h=>h)) ?_)
    ·rintro j ⟨r,c⟩ s4 hj ⟨hr,B4,G4⟩
     dsimp only at hr ⊢
     subst hr
     refine .bind (.get ?_)
     split
     ·rename_i older heq
      split
      ·exact .pure ⟨rfl,B4,G4⟩
      ·have two:(pendingOf s4).size>1:=G3E fun z=>by rw [if_neg z] at heq;cases heq
       refine .bind (Bt.merge ak o u B4 h1 (by omega) fun s5 B5 _ dr=> ?_)
       refine .pure ⟨rfl,B5,?_⟩
       unfold seg at G4 ⊢
       rw [dr];exact G4
     ·exact .pure ⟨rfl,B4,G4⟩
    ·rintro ⟨r,c⟩ s4 ⟨hr,B4,G4⟩
     dsimp only at hr ⊢
     subst hr
     dsimp only
     refine .bind (.modify (.bind (.modify (.pure ⟨rfl,?_,?_,Bt.push (Bt.mod B4 fun x=>⟨rfl,rfl⟩) N1 G4⟩))))
     ·dsimp only;omega
     ·dsimp only;omega
   ·refine .bind (.modify (.pure ⟨rfl,?_,?_,Bt.push B N1 G⟩))
    ·dsimp only;omega
    ·dsimp only;omega
 ·rintro ⟨r,lo⟩ s1 ⟨hr,h1,h2,b⟩
  dsimp only at hr h1 h2 b
  have:lo=l0.length:=by omega
  subst this
  exact⟨hr,b⟩
 ·rintro ⟨r,lo⟩ s1 ⟨hr,b⟩
  dsimp only at hr ⊢
  subst hr
  dsimp only
  have le0:=b.stk.le
  have lp0:(pendingOf s1).toList.length=(pendingOf s1).size:=by simp
  refine .bind (Tm.mono (Tm.range (fun j c s4=>c.1=none∧Bt R κ l0 l0.length s4∧(pendingOf s4).size+j≤l0.length) (Q:=fun c s4=>c.1=none∧Bt R κ l0 l0.length s4∧(pendingOf s4).size≤1) (G1c _) ⟨rfl,b,by omega⟩ ?_ (fun c s4 ⟨x,y,z⟩=>⟨x,y,by omega⟩)) ?_)
  ·rintro j ⟨r,c⟩ s4 hj ⟨hr,B4,z4⟩
   dsimp only at hr ⊢
   subst hr
   refine .bind (.get ?_)
   by_cases c1:(pendingOf s4).size≤1
   ·rw [if_pos c1]
    exact .pure ⟨rfl,B4,c1⟩
   rw [if_neg c1]
   refine .bind (Bt.merge ak o u B4 (G0f _) (G2S (Nat.add_le_add_right (jlR _ _) 1) (by omega)) fun s5 B5 z5 _=> ?_)
   exact .pure ⟨rfl,B5,by omega⟩
  ·rintro ⟨r,c⟩ s4 ⟨hr,B4,z4⟩
   dsimp only at hr ⊢
   subst hr
   refine .pure (q s4 B4.failed B4.perm ?_)
   have stk:=B4.stk
   have ln:(arrOf s4).toList.length=l0.length:=B4.perm.length_eq
   have lp:(pendingOf s4).toList.length=(pendingOf s4).size:=by simp
   generalize (pendingOf s4).toList=pl at stk lp
   match pl,stk,lp with
   | [],e,_=>
    have:l0.length=0:=e.symm
    have:(arrOf s4).toList= []:=G17.mp (by omega)
    rw [this];exact .nil
   | [(p,n,_)],⟨e1,_,sr,e2⟩,_=>
    subst e1
    have en:n=l0.length:=by have:0+n=l0.length:=e2;omega
    unfold seg at sr
    rw [G27,G0T (by omega)] at sr
    exact sr
   |_::_::_,_,h=>simp only [G0k] at h;omega
end
section
variable {prog:Program} {w:World} {A:Around} {E:Value→Shared→Prop} {s:Shared} {κ:SortKind} {U:Keyed→Prop} {R:Keyed→Keyed→Bool}
def joa (s:Shared) (a:Addr) (h' :Heap):Prop:= ∀b o,b≠a→s.heap.get? b=some o→h'.get? b=some o
def Only (s:Shared) (h' :Heap):Shared→Prop:=fun s' => ∃tk,s' = {s with heap:=h',toks:=tk}
theorem jlS {M:Model} {α β:Type} {c:Prop} [Decidable c] {m m' :Sem α} {F:α→Sem β} {Q:β→Shared→Prop} (h:wpAny M A ((if c then m else m') >>= F) Q E s):wpAny M A (if c then m >>= F else m' >>= F) Q E s:=by
 by_cases z:c
 ·rw [if_pos z] at h ⊢;exact h
 ·rw [if_neg z] at h ⊢;exact h
theorem jdW (vs:List Value):(vs.toArray.zip vs.toArray).toList=vs.map fun v=>(v,v):=by
 rw [Array.toList_zip]
 show vs.zip vs=_
 induction vs with
 |nil=>rfl
 |cons v vs ih=>rw [G2y,ih,G0y]
theorem jlT {a:Addr} {vs:List Value} {n:Nat} {P:Fin→Shared→Prop} (ho:s.heap.get? a=some (seqObj "list" vs.toArray n)) (hz:vs.length≤sizeLine)
 (hk:2≤vs.length→ ∀h',joa s a h' →wpAny (model prog w) A (keyKind' vs.toArray) (fun k s' =>k=κ∧Only s h' s') (fun _ _=>False) {s with heap:=h'}) (ak: ∀h',joa s a h' →jhM prog w A (Only s h') κ U R) (o:Ordd U R) (u: ∀v∈vs,U (v,v))
 (q: ∀ (out:List Value) (c tk:Nat) (h' :Heap),joa s a h' →h'.get? a=some (seqObj "list" out.toArray c)→out.Perm vs→(out.map fun v=>(v,v)).Pairwise (fun x y=>R y x=false)→P (.done (.ret .none)) {s with heap:=h',toks:=tk}):
 wpAny (model prog w) A (Builtin.«list.sort» ⟨[.ref a],[]⟩) P E s:=by
 have alt:=G0n ho
 have sv:vs.toArray.size=vs.length:=G0u ..
 rw [list_sort_plain]
 refine wpAny_bind (listItems_at ho rfl ?_)
 obtain⟨c1,ho1⟩: ∃c,(s.heap.update a (Obj.mapSeq fun _=>(#[]:Array Value))).get? a=some (seqObj "list" #[] c):=⟨_,get?_update_seq ho fun _=> #[]⟩
 refine wpAny_bind (listUpdate_at ho rfl ?_ (by rw [sv];exact hz) (G1c _))
 refine wpAny_bind (seqEpoch_at ho1 rfl ?_)
 refine wpAny_bind (wpAny_newTuple ?_ hz)
 refine wpAny_bind (wpAny_newList ?_ (G1c _))
 refine G1x ?_
 have past:joa s a (((s.heap.update a (Obj.mapSeq fun _=>(#[]:Array Value))).push {cls:= .type "tuple",data:= .seq vs.toArray.toList.toArray}).push {cls:= .type "list",data:= .seq ([]:List Value).toArray}):=fun b x ne e=>by
  refine G0a _ (G0a _ ?_)
  rw [Heap.get?_update_ne _ _ _ _ ne];exact e
 have ho3:=G0a ({cls:= .type "list",data:= .seq ([]:List Value).toArray}:Obj) (G0a ({cls:= .type "tuple",data:= .seq vs.toArray.toList.toArray}:Obj) ho1)
 revert past ho3
 generalize ((s.heap.update a (Obj.mapSeq fun _=>(#[]:Array Value))).push ({cls:= .type "tuple",data:= .seq vs.toArray.toList.toArray}:Obj)).push ({cls:= .type "list",data:= .seq ([]:List Value).toArray}:Obj)=H3
 intro past ho3
 have kd:wpAny (model prog w) A (if vs.toArray.size<2 then pure general' else keyKind' vs.toArray) (fun k s0=>(2≤vs.length→k=κ)∧Only s H3 s0) (fun _ _=>False) {s with heap:=H3}:=by
  by_cases c:vs.toArray.size<2
  ·rw [if_pos c]
   exact G0d ⟨fun z=>by omega,s.toks,rfl⟩
  ·rw [if_neg c]
   exact G08 (hk (by omega) H3 past) (fun k s0 x=>⟨fun _=>x.1,x.2⟩) fun _ _ e=>e
 have rn: ∀k s0,(2≤vs.length→k=κ)→Only s H3 s0→wpAny (model prog w) A ((if vs.toArray.size<2 then pure () else sortRuns' :StateT SortSt Sem Unit).run (SortSt.mk' k (vs.toArray.zip vs.toArray) #[] 7 none)) (fun r s' =>(failedOf r.2=none∧(arrOf r.2).toList.Perm (vs.map fun v=>(v,v))∧Srt R (arrOf r.2).toList)∧Only s H3 s') E s0:=by
  intro k s0 ek j
  by_cases c:vs.toArray.size<2
  ·rw [if_pos c,StateT.run_pure]
   refine G0d ⟨⟨rfl,?_,?_⟩,j⟩
   ·show (vs.toArray.zip vs.toArray).toList.Perm _
    rw [jdW]
   ·show Srt R (vs.toArray.zip vs.toArray).toList
    rw [jdW]
    rw [sv] at c
    match vs,c with
    | [],_=>exact List.Pairwise.nil
    | [v],_=>exact G1d _ _
  ·rw [if_neg c]
   have ek:=ek (by omega)
   subst ek
   refine jnN (E:=E) (ak H3 past) o (l0:=vs.map fun v=>(v,v)) (st:=SortSt.mk' k (vs.toArray.zip vs.toArray) #[] 7 none) (fun x hx=> ?_) rfl rfl rfl (jdW vs) (Q:=fun _ st' =>failedOf st' =none∧(arrOf st').toList.Perm (vs.map fun v=>(v,v))∧Srt R (arrOf st').toList) (fun st' a1 a2 a3=>⟨a1,a2,a3⟩) s0 j
   obtain⟨v,hv,rfl⟩:=G0D.mp hx
   exact u v hv
 dsimp only
 refine jlS (wpAny_bind (G08 kd (fun k s0 x=> ?_) fun _ _ e=>e.elim))
 refine wpAny_bind (G08 (rn k s0 x.1 x.2) ?_ fun _ _ e=>e)
 rintro ⟨⟨⟩,st'⟩ s1 ⟨⟨hf,hp,hs⟩,tk,rfl⟩
 dsimp only
 have eo:((arrOf st').map fun x=>x.2)=((arrOf st').toList.map fun x=>x.2).toArray:=by
  rw [←Array.toList_map,Array.toArray_toList]
 have two:(arrOf st').toList=((arrOf st').toList.map fun x=>x.2).map fun v=>(v,v):=by
  rw [G0S]
  refine(G4l _).symm.trans (G0O fun x hx=> ?_)
  obtain⟨v,_,rfl⟩:=G0D.mp (hp.mem_iff.mp hx)
  rfl
 have po:((arrOf st').toList.map fun x=>x.2).Perm vs:=by
  have:=hp.map fun x=>x.2
  rw [G0S] at this
  refine this.trans ?_
  rw [show ((fun x:Keyed=>x.2)∘fun v:Value=>(v,v))=id from rfl,G4l]
 rw [two] at hs
 rw [eo]
 generalize (arrOf st').toList.map (fun x=>x.2)=out at hs po
 obtain⟨c2,ho4⟩: ∃c,(H3.update a (Obj.mapSeq fun _=>out.toArray)).get? a=some (seqObj "list" out.toArray c):=⟨_,get?_update_seq ho3 fun _=>out.toArray⟩
 refine wpAny_bind (seqEpoch_at (s:= {s with heap:=H3,toks:=tk}) ho3 rfl ?_)
 refine wpAny_bind (listUpdate_at (s:= {s with heap:=H3,toks:=tk}) ho3 rfl ?_ (G1c _) (by rw [G0u,po.length_eq];exact Nat.le_succ_of_le hz))
 rw [hf]
 simp only [bne_self_eq_false,G1f,G4w]
 refine G0d (q out c2 tk _ (fun b x ne e=> ?_) ho4 po hs)
 rw [Heap.get?_update_ne _ _ _ _ ne];exact past b x ne e
abbrev jhf (h h' :Heap):Prop:= ∀b o,h.get? b=some o→h'.get? b=some o
end
theorem jdX: ∀a b:List Int,jaJ a b=true→jaJ b a=false
 | [],[],h=>rfl
 | [],_::_,_=>rfl
 |_::_,[],h=>by cases h
 |x::xs,y::ys,h=>by
  unfold jaJ at h ⊢
  by_cases e:x=y
  ·subst e
   rw [if_pos rfl] at h ⊢
   exact jdX xs ys h
  ·rw [if_neg e] at h
   rw [if_neg (Ne.symm e)]
   have:=G1H h
   exact G0L (by omega)
theorem jhg: ∀a b c:List Int,jaJ a c=true→jaJ a b=true∨jaJ b c=true
 | [],[],c,h=> .inr h
 | [],_::_,_,_=> .inl rfl
 |_::_,_,[],h=>by cases h
 |x::xs,[],z::zs,h=> .inr rfl
 |x::xs,y::ys,z::zs,h=>by
  unfold jaJ at h ⊢
  by_cases e:x=z
  ·subst e
   rw [if_pos rfl] at h
   by_cases f:x=y
   ·subst f
    rw [if_pos rfl,if_pos rfl]
    exact jhg xs ys zs h
   ·rw [if_neg f,if_neg (Ne.symm f)]
    by_cases g:x<y
    ·exact .inl (G0r g)
    ·exact .inr (G0r (by omega))
  ·rw [if_neg e] at h
   have lt:=G1H h
   by_cases f:x=y
   ·subst f
    rw [if_neg e]
    exact .inr h
   ·rw [if_neg f]
    by_cases g:x<y
    ·exact .inl (G0r g)
    ·refine .inr ?_
     rw [if_neg (by omega)]
     exact G0r (by omega)
theorem jeS: ∀a b:List Int,jaJ a b=false→jaJ b a=false→a=b
 | [],[],_,_=>rfl
 | [],_::_,h,_=>by cases h
 |_::_,[],_,h=>by cases h
 |x::xs,y::ys,h,h' =>by
  unfold jaJ at h h'
  by_cases e:x=y
  ·subst e
   rw [if_pos rfl] at h h'
   rw [jeS xs ys h h']
  ·rw [if_neg e] at h
   rw [if_neg (Ne.symm e)] at h'
   have:=G3C h
   have:=G3C h'
   omega
theorem jkr {U:Keyed→Prop} (key:Value→List Int):Ordd U (fun x y=>jaJ (key x.1) (key y.1)):=⟨fun x y _ _ h=>jdX _ _ h,fun x y z _ _ _ h=>jhg _ _ _ h⟩
def IT (h:Heap) (v:Value) (ns:List Int):Prop:= ∃a its,v= .ref a∧IsTup h a its∧IntsAre its.toList ns
theorem IT.keeps {h h' :Heap} {v:Value} {ns:List Int} (x:IT h v ns) (k:jhf h h'):IT h' v ns:=let ⟨a,its,e,t,i⟩:=x;⟨a,its,e,t.keeps k,i⟩
theorem jiw: ∀ {vs:List Value} {ns ms:List Int},IntsAre vs ns→IntsAre vs ms→ns=ms
 |_,_,_,.nil,.nil=>rfl
 |_,_,_,.cons n t a,.cons _ _ b=>by rw [jiw a b]
theorem IT.one {h:Heap} {v:Value} {ns ms:List Int} (x:IT h v ns) (y:IT h v ms):ns=ms:=by
 obtain⟨a,its,rfl,⟨o,e,c,n,d⟩,i⟩:=x
 obtain⟨a',its',e2,⟨o',e',c',n',d'⟩,i'⟩:=y
 cases e2
 rw [e] at e'
 cases e'
 rw [d] at d'
 cases d'
 exact jiw i i'
open Classical in
noncomputable def jbb (h:Heap) (v:Value):List Int:=if e: ∃ns,IT h v ns then e.choose else []
theorem IT.nums {h:Heap} {v:Value} {ns:List Int} (x:IT h v ns):jbb h v=ns:=by
 have e: ∃ns,IT h v ns:=⟨ns,x⟩
 unfold jbb
 rw [dif_pos e]
 exact e.choose_spec.one x
section
variable {prog:Program} {w:World} {A:Around} {E:Value→Shared→Prop} {s:Shared}
theorem jdH {α β:Type} {M:Model} {f:α→Sem β} (r:α→β): ∀ (l:List α) {Q:List β→Shared→Prop},(∀v∈l,∀Q' :β→Shared→Prop,Q' (r v) s→wpAny M A (f v) Q' E s)→Q (l.map r) s→wpAny M A (l.mapM f) Q E s
 | [],_,_,q=>by
  rw [List.mapM_nil];exact G0d q
 |v::l,Q,hf,q=>by
  rw [List.mapM_cons]
  refine wpAny_bind (hf v G0p _ (wpAny_bind ?_))
  exact jdH r l (fun u hu=>hf u (G0s _ hu)) (G0d q)
def jbe (h:Heap):Value→Option Value
 | .ref a=>match h.get? a with
  |some o=>match o.data with
   | .seq xs _=>xs[0]?
   |_=>none
  |none=>none
 |_=>none
theorem jlU {v:Value} {ns:List Int} {Q:Option Value→Shared→Prop} (x:IT s.heap v ns) (q:Q (jbe s.heap v) s):wpAny (model prog w) A (firstOfTuple' v) Q E s:=by
 obtain⟨a,its,rfl,⟨o,e,c,n,d⟩,i⟩:=x
 have fe:jbe s.heap (.ref a)=its[0]? :=by
  unfold jbe;dsimp only;rw [e];dsimp only;rw [d]
 rw [PySem.W.kas_first_eq]
 refine wpAny_bind (PySem.W.Looks.here (show PySem.W.Looks (model prog w) s.heap (typeOf (.ref a)) o.cls from (PySem.W.Looks.ld e).andThen .now) ?_)
 rw [c,if_neg (by decide)]
 refine wpAny_bind (listItems_at e d (G0d ?_))
 rw [←fe];exact q
theorem ji8 {h:Heap} {v:Value} (x:IT h v []):jbe h v=none:=by
 obtain⟨a,its,rfl,⟨o,e,c,n,d⟩,i⟩:=x
 unfold jbe;dsimp only;rw [e];dsimp only;rw [d];dsimp only
 obtain⟨l⟩:=its
 cases i
 rfl
theorem jfx {h:Heap} {v:Value} {n:Int} {ns:List Int} (x:IT h v (n::ns)): ∃t,jbe h v=some (.int n t):=by
 obtain⟨a,its,rfl,⟨o,e,c,k,d⟩,i⟩:=x
 obtain⟨l⟩:=its
 cases i with
 |cons _ t i=>exact⟨t,by unfold jbe;dsimp only;rw [e];dsimp only;rw [d];rfl⟩
theorem jlV {h:Heap} {v:Value} {ns:List Int} (x:IT h v ns):(jbe h v).isSome= !ns.isEmpty:=by
 cases ns with
 |nil=>rw [ji8 x];rfl
 |cons n ns=>obtain⟨t,e⟩:=jfx x;rw [e];rfl
noncomputable def jks (h:Heap) (vs:List Value):SortKind:=
 if (vs.all fun v=> !(jbb h v).isEmpty)=true then tuples' true else if ((vs[0]?.map fun v=> !(jbb h v).isEmpty)=some true) then general' else oneType'
theorem jkt {h:Heap} {vs:List Value} (h2:2≤vs.length) (x: ∀v∈vs,∃ns,IT h v ns) {Q:SortKind→Shared→Prop} (e:jhf h s.heap) (q:Q (jks h vs) s):wpAny (model prog w) A (keyKind' vs.toArray) Q E s:=by
 have fr: ∀v∈vs,(jbe s.heap v).isSome= !(jbb h v).isEmpty:=fun v hv=>by
  obtain⟨ns,t⟩:=x v hv
  rw [t.nums,jlV (t.keeps e)]
 rw [keyKind'_eq,G3N,map_eq_pure_bind]
 refine wpAny_bind (wpAny_bind (jdH (jbe s.heap) vs (fun v hv Q' q' => ?_) (G0d ?_)))
 ·obtain⟨ns,t⟩:=x v hv
  exact jlU (t.keeps e) q'
 have all_:((vs.map (jbe s.heap)).toArray.all fun o=>o.isSome)=vs.all fun v=> !(jbb h v).isEmpty:=by
  rw [G3Z,G2c]
  rw [G1Z,G05,G05]
  exact⟨fun z v hv=>by rw [←fr v hv];exact z v hv,fun z v hv=>by show (jbe s.heap v).isSome=true;rw [fr v hv];exact z v hv⟩
 rw [all_]
 unfold jks at q
 by_cases a1:(vs.all fun v=> !(jbb h v).isEmpty)=true
 ·rw [if_pos a1] at q
  rw [if_pos a1]
  refine wpAny_bind (G3F ?_)
  obtain⟨fs,efs,nums,ne⟩: ∃fs:List Value,vs.map (jbe s.heap)=fs.map some∧(∀f∈fs,∃n t,f=Value.int n t)∧fs.length=vs.length:=by
   have go: ∀l:List Value,(∀v∈l,v∈vs)→ ∃fs:List Value,l.map (jbe s.heap)=fs.map some∧(∀f∈fs,∃n t,f=Value.int n t)∧fs.length=l.length:=by
    intro l
    induction l with
    |nil=>exact fun _=>⟨[],rfl,fun f hf=>absurd hf G1i,rfl⟩
    |cons v l ih=>
     intro sub
     obtain⟨fs,e1,e2,e3⟩:=ih fun u hu=>sub u (G0s _ hu)
     have hv:=sub v G0p
     obtain⟨ns,t⟩:=x v hv
     have ne:=G05.mp a1 v hv
     rw [t.nums] at ne
     cases ns with
     |nil=>cases ne
     |cons n ns=>
      obtain⟨tk,ef⟩:=jfx (t.keeps e)
      refine⟨.int n tk::fs,by rw [G0y,G0y,ef,e1],fun f hf=> ?_,by rw [G0k,G0k,e3]⟩
      rcases G0C.mp hf with rfl|hf
      ·exact⟨n,tk,rfl⟩
      ·exact e2 f hf
   exact go vs fun _ hv=>hv
  rw [efs]
  have fm:((fs.map some).toArray.filterMap id)=fs.toArray:=by simp
  rw [fm,oneTypeOnly'_eq,G3N,map_eq_pure_bind]
  refine wpAny_bind (wpAny_bind (wpAny_bind (jdH (fun _=>Value.type "int") fs (fun f hf Q' q' => ?_) (G0d ?_))))
  ·obtain⟨n,t,rfl⟩:=nums f hf
   exact G0d q'
  ·match fs,ne with
   | [],ne=>rw [G0I] at ne;omega
   |f::fs,_=>
    have h0:(List.map (fun _=>Value.type "int") (f::fs)).toArray[0]? =some (Value.type "int"):=by simp
    have h1:((List.map (fun _=>Value.type "int") (f::fs)).toArray.all fun y=>y==Value.type "int")=true:=by
     rw [G3Z,G2c,G05]
     exact fun _ _=>rfl
    rw [h0]
    simp only [h1,if_true]
    exact G0d (G0d q)
 rw [if_neg a1] at q
 rw [if_neg a1]
 match vs,h2,x,fr,q with
 |v::vs,h2,x,fr,q=>
  have h0:((List.map (jbe s.heap) (v::vs)).toArray[0]?.bind id).isSome= !(jbb h v).isEmpty:=by
   rw [←fr v G0p];simp
  rw [h0]
  have h0' :(((v::vs)[0]?.map fun v=> !(jbb h v).isEmpty)=some true)↔(!(jbb h v).isEmpty)=true:=by simp
  by_cases a2:(!(jbb h v).isEmpty)=true
  ·rw [if_pos (h0'.mpr a2)] at q
   rw [if_pos a2]
   exact G0d q
  rw [if_neg fun z=>a2 (h0'.mp z)] at q
  rw [if_neg a2]
  rw [oneTypeOnly'_eq,G3N,map_eq_pure_bind]
  refine wpAny_bind (wpAny_bind (wpAny_bind (jdH (fun _=>Value.type "tuple") (v::vs) (fun f hf Q' q' => ?_) (G0d ?_))))
  ·obtain⟨ns,t⟩:=x f hf
   obtain⟨a,its,rfl,⟨o,e1,c,n,d⟩,i⟩:=t.keeps e
   refine PySem.W.Looks.here (show PySem.W.Looks (model prog w) s.heap (typeOf (.ref a)) o.cls from (PySem.W.Looks.ld e1).andThen .now) ?_
   rw [c];exact q'
  ·have h3:(List.map (fun _=>Value.type "tuple") (v::vs)).toArray[0]? =some (Value.type "tuple"):=by simp
   have h1:((List.map (fun _=>Value.type "tuple") (v::vs)).toArray.all fun y=>y==Value.type "tuple")=true:=by
    rw [G3Z,G2c,G05]
    exact fun _ _=>rfl
   rw [h3]
   simp only [h1,if_true]
   exact G0d (G0d q)
theorem jiy {fin:Bool} {Q:Bool→Shared→Prop} {m n:Nat} (ef:fin=decide (m<n)): ∀ {vs us:List Value} {ns ms:List Int} (i:Nat),IntsAre vs ns→IntsAre us ms→ns.length+n=ms.length+m→Q (jaJ ns ms) s→PySem.W.KatLex prog w A true fin Q (vs.zip us) i s
 |_,_,_,_,i,.nil,.nil,l,q=>by
  subst ef
  rw [G3H]
  refine G4b ?_
  rw [G0L (by rw [G0I] at l;omega)];exact q
 |_,_,_,_,i,.nil,.cons c u y,l,q=>by
  subst ef
  rw [G3H]
  refine G4b ?_
  rw [G0r (by rw [G0I,G0k] at l;omega)];exact q
 |_,_,_,_,i,.cons a t x,.nil,l,q=>by
  subst ef
  rw [List.zip_nil_right]
  refine G4b ?_
  rw [G0L (by rw [G0I,G0k] at l;omega)];exact q
 |_,_,_,_,i,.cons a t x,.cons c u y,l,q=>by
  rw [G2y]
  rw [jcZ] at q
  obtain⟨e,he,hiff⟩:=jh6 A s a t c u
  refine PySem.W.kat_cons (he prog w _ _ ?_)
  refine PySem.W.kat_go (fun z=>PySem.W.kat_yes ?_) fun z=>PySem.W.kat_no ?_
  ·rw [if_pos (hiff.mp z)] at q
   exact jiy ef (i+1) x y (by rw [G0k,G0k] at l;omega) q
  ·rw [if_neg fun z' =>by rw [hiff.mpr z'] at z;cases z] at q
   cases (true&&i==0) with
   |true=>exact oneLt_int q
   |false=>exact PySem.W.kat_one _ _ (PyProof.Rows.lt_int q)
theorem jpZ {v u:Value} {ns ms:List Int} {Q:Bool→Shared→Prop} (hu:A.units<cLine) (x:IT s.heap v ns) (y:IT s.heap u ms) (q:Q (jaJ ns ms) s):wpAny (model prog w) A (oneLt' true v u) Q E s:=by
 obtain⟨a,its,rfl,⟨⟨cls,dd,data,sl⟩,e1,c,n,d⟩,i⟩:=x
 obtain⟨b,its2,rfl,⟨⟨cls2,dd2,data2,sl2⟩,e2,c2,n2,d2⟩,i2⟩:=y
 simp only at c d c2 d2
 subst c d c2 d2
 rw [oneLt'_eq]
 simp only [if_true]
 refine wpAny_bind (wpAny_cRoomFor hu (wpAny_bind (wpAny_callSpecialIfBound?_slot ⟨_,e1,rfl⟩ G3a (G4e G3a ⟨_,e1,rfl⟩ G31 (G3Q _ _) (jdx a b its its2 n n2 dd dd2 sl sl2 ns ms i i2) ⟨e1,e2,?_⟩))))
 exact G1t q
theorem jp0 {v u:Value} {ns ms:List Int} {Q:Bool→Shared→Prop} (hu:A.units<cLine) (x:IT s.heap v ns) (y:IT s.heap u ms) (q:Q (jaJ ns ms) s):wpAny (model prog w) A (oneLt' false v u) Q E s:=by
 obtain⟨a,its,rfl,t,i⟩:=x
 obtain⟨b,its2,rfl,t2,i2⟩:=y
 exact PySem.W.kat_one _ _ (jiN t t2 i i2 hu q)
theorem jku {vs:List Value} (hu:A.units<cLine) {h' :Heap} (k:jhf s.heap h'):jhM prog w A (Only s h') (jks s.heap vs) (fun x=> ∃ns,IT s.heap x.1 ns) (fun x y=>jaJ (jbb s.heap x.1) (jbb s.heap y.1)):=by
 rintro ⟨x,x'⟩ ⟨y,y'⟩ ⟨ns,tx⟩ ⟨ms,ty⟩ s1 ⟨tk,rfl⟩
 dsimp only at tx ty ⊢
 have q:(jaJ ns ms=jaJ (jbb s.heap x) (jbb s.heap y)∧Only s h' {s with heap:=h',toks:=tk}):=⟨by rw [tx.nums,ty.nums],tk,rfl⟩
 have kx:=tx.keeps k
 have ky:=ty.keeps k
 unfold jks
 by_cases a1:(vs.all fun v=> !(jbb s.heap v).isEmpty)=true
 ·rw [if_pos a1]
  obtain⟨a,its,rfl,⟨o,e1,c,n,d⟩,i⟩:=kx
  obtain⟨b,its2,rfl,⟨o2,e2,c2,n2,d2⟩,i2⟩:=ky
  refine PySem.W.kat_lt e1 d e2 d2 (jiy rfl 0 i i2 ?_ q)
  have z1:=i.length
  have z2:=i2.length
  rw [G0j] at z1 z2
  omega
 rw [if_neg a1]
 by_cases a2:(vs[0]?.map fun v=> !(jbb s.heap v).isEmpty)=some true
 ·rw [if_pos a2]
  show wpAny _ _ (oneLt' false x y) _ _ _
  exact jp0 hu kx ky q
 ·rw [if_neg a2,keyLt'_oneType]
  exact jpZ hu kx ky q
end
end HT
namespace L2
open PySem PySem.Spec PyProof.Rows PySem.SeqAt HT
theorem jhh {α β:Type} {f:α→β}: ∀ {out:List β} {l:List α},out.Perm (l.map f)→ ∃l' :List α,l'.Perm l∧l'.map f=out
 | [],l,p=>by
  have e:=p.length_eq
  rw [G0c,G0I] at e
  exact⟨[],by rw [G2u e.symm],rfl⟩
 |x::out,l,p=>by
  obtain⟨y,hy,rfl⟩:=G0D.mp (p.mem_iff.mp G0p)
  obtain⟨l1,l2,rfl⟩:=List.append_of_mem hy
  have p2:out.Perm ((l1++l2).map f):=by
   refine List.Perm.cons_inv (a:=f y) (p.trans ?_)
   rw [G1s,G1s,G0y]
   exact List.perm_middle
  obtain⟨l',a,b⟩:=jhh p2
  exact⟨y::l',(a.cons y).trans List.perm_middle.symm,by rw [G0y,b]⟩
def jp1 (H:Hp) (v:V) (ns:List Int):Prop:= ∃a,v= .ref a∧H a=some (.tup (ns.map V.int))
abbrev tI (ns:List Int):D:= .tup (ns.map D.int)
theorem jkv {K:PySem.W.Frag} {H:Hp}: ∀ {nss:List (List Int)} {vs:List V},RelDs K H (nss.map tI) vs→ ∃ps:List (V×List Int),vs=ps.map (·.1)∧nss=ps.map (·.2)∧ ∀p∈ps,jp1 H p.1 p.2
 | [],vs,r=>⟨[],r,rfl,fun p hp=>by cases hp⟩
 |ns::nss,vs,r=>by
  obtain⟨v,us,e,r1,r2⟩:=(show ∃v r,vs=v::r∧RelD K H (tI ns) v∧RelDs K H (nss.map tI) r from r)
  obtain⟨ps,e1,e2,e3⟩:=jkv r2
  obtain⟨a,ws,e4,hH,r4⟩:=(show ∃a vs,v= .ref a∧H a=some (.tup vs)∧RelDs K H (ns.map D.int) vs from r1)
  rw [jct r4] at hH
  exact⟨(v,ns)::ps,by rw [e,e1];rfl,by rw [e2];rfl,fun p hp=>by
   rcases G0C.mp hp with rfl|hp
   ·exact⟨a,e4,hH⟩
   ·exact e3 p hp⟩
theorem jkw {K:PySem.W.Frag} {H:Hp}: ∀ {ps:List (V×List Int)},(∀p∈ps,jp1 H p.1 p.2)→RelDs K H ((ps.map (·.2)).map tI) (ps.map (·.1))
 | [],_=> .nil
 |p::ps,h=> .cons (by
  obtain⟨a,e,hH⟩:=h p G0p
  exact⟨a,_,e,hH,jc0 _⟩) (jkw fun q hq=>h q (G0s _ hq))
abbrev toI (S:List Nat):List Int:=S.map fun (k:Nat)=>(k:Int)
theorem jms (S:List Nat):tI (toI S)=jaE S:=by
 show D.tup _=D.tup _
 rw [G0S];rfl
end L2
namespace L2
open PySem PySem.Spec PyProof.Rows PySem.SeqAt
theorem jiz {h:HD} {A:Addr} {P:List (List Nat)} (k:h A=some (P.map jaE)):ToP h (.lst A) (.list (P.map jc5)):=⟨A,_,rfl,k,jdB h P⟩
structure GB (n:Nat) (h0 h:HD) (R:Addr) (rs:List Addr) (f:Nat→Nat→Bool):Prop where
 at_:h R=some (rs.map D.lst)
 len:rs.length=n
 nR:R ∉ rs
 nd:rs.Nodup
 sb:Sub h0 h
 row: ∀i a,rs[i]? =some a→h0 a=none∧h a=some ((List.range n).map fun j=>D.bl (f i j))
def wk (T:List (List Int)):Nat→Nat→Nat→Bool
 |0,i,j=>decide (i=j)|| !decide (ent T i j=0)
 |b+1,i,j=>wk T b i j||(wk T b i b&&wk T b b j)
def fW (T:List (List Int)) (b i j x y:Nat):Bool:=if x<i∨(x=i∧y<j) then wk T (b+1) x y else wk T b x y
structure LevOk (n t:Nat) (w:List Nat):Prop where
 len:w.length=t+1
 lt: ∀i∈w,i<n
 nd:w.Nodup
 low: ∀i∈w,w.headD 0≤i
theorem encO:Enc jaE jc5:=⟨jcR,fun S=>jcn _,fun S=>G01 (jcS _) (by decide),jdl⟩
theorem jfy: ∀P:List (List Nat),PyData.depthAll (P.map jc5)≤3
 | []=>by simp [PyData.depthAll]
 |S::P=>by
  have:=jfy P
  have h2:PyData.depth (jc5 S)≤2:=jcS _
  simp only [G0y,PyData.depthAll];omega
theorem jeT (P:List (List Nat)):shaped (.list (P.map jc5))=true:=by
 unfold shaped
 have h1:PyData.canLay0 (.list (P.map jc5))=true:=by simp only [PyData.canLay0];exact encO.lays P
 have h2:=jfy P
 have h3:PyData.depth (.list (P.map jc5))≤64:=by simp only [PyData.depth];omega
 rw [h1,G0r h3];rfl
theorem jiA (W:List Nat):jbN (jaE W)=W:=by
 show (W.map fun (k:Nat)=>D.int (k:Int)).map jiZ=W
 rw [G0S]
 have:(jiZ∘fun (k:Nat)=>D.int (k:Int))=id:=by funext k;rfl
 rw [this,G4l]
theorem jkx {W:List Nat} {n:Nat} (h: ∀i∈W,i<n):jdm (jaE W) n=true:=by
 show (W.map _).all _=true
 rw [G05]
 intro x hx
 obtain⟨i,hi,rfl⟩:=G0D.mp hx
 have:=h i hi
 show (decide ((0:Int)≤(i:Int))&&decide ((i:Int)≤(n:Int)-1))=true
 rw [G0r (show (0:Int)≤(i:Int) by omega),G0r (show (i:Int)≤(n:Int)-1 by omega)];rfl
end L2
namespace HT
open PySem PySem.Spec PyProof.Rows
section
variable {prog:Program} {w:World} {A:Around} {E:Value→Shared→Prop} {s:Shared} {h0:Heap} {l I S:Addr} {vs:List Value} {lt:Value→Value→Bool}
structure At (h0:Heap) (l I S:Addr) (vs:List Value) (i:Nat) (st:Array Value) (h:Heap):Prop where
 kept:jhf h0 h
 it:h.IsListIter I l i
 lst:h.IsList l vs.toArray
 store: ∃c,h.get? S=some (seqObj "list" st c)
end
end HT
namespace HT
open PySem PySem.Spec PyProof.Rows PySem.SeqAt
open PySem.AutoSeq1 (wpAny_loadPart')
open PySem.MeetsSeq PySem.MeetsSeq2 PySem.MeetsSeq3
inductive Lx (prog:Program) (w:World) (A:Around) (s:Shared):List Value→List Value→Bool→Prop
 |nn:Lx prog w A s [] [] false
 |nc (u:Value) (us:List Value):Lx prog w A s [] (u::us) true
 |cn (v:Value) (vs:List Value):Lx prog w A s (v::vs) [] false
 |same {v u:Value} {vs us:List Value} {b:Bool} (e:EqAt A s v u true) (t:Lx prog w A s vs us b):Lx prog w A s (v::vs) (u::us) b
 |unlike {v u:Value} {vs us:List Value} {b:Bool} (e:EqAt A s v u false) (t: ∀ (Q E:Value→Shared→Prop),Q (.bool b) s→wpAny (model prog w) A (richCompare .Lt v u) Q E s):Lx prog w A s (v::vs) (u::us) b
end HT
namespace L2
open PySem PySem.Spec PyProof.Rows PySem.SeqAt HT
open Classical in
noncomputable def readOf (h:Heap) (v:Value):PyData:=if e: ∃p as,p.canLay0=true∧Reads h v p as then e.choose else .none
end L2
namespace L2
open PySem PySem.Spec PyProof.Rows PySem.SeqAt
structure LensE (L:List Nat):Prop where
 rise:L.Pairwise (· < ·)
 lo: ∀l∈L,1≤l
 hi: ∀l∈L,l≤12
 few:L.length≤6
end L2
namespace L2
open PySem PySem.Spec PyProof.Rows
def s5:Nat→Nat
 |0=>0
 |d+1=>5*s5 d+1
theorem jky: ∀d,4*s5 d+1=5^d
 |0=>rfl
 |d+1=>by have:=jky d;rw [G1B];show 4*(5*s5 d+1)+1=_;omega
theorem jmt (a:Nat): ∀b,s5 (a+b)=5^b*s5 a+s5 b
 |0=>by show s5 a=1*s5 a+0;omega
 |b+1=>by
  show 5*s5 (a+b)+1=5^(b+1)*s5 a+(5*s5 b+1)
  rw [jmt a b,G1B,G4m,G3b (5^b) 5,G4r];omega
theorem jmu: ∀d,s5 d%2=d%2
 |0=>rfl
 |d+1=>by have:=jmu d;show (5*s5 d+1)%2=_;omega
theorem jp2 (m:Nat):s5 (2*m)=2*(s5 m*(2*s5 m+1)):=by
 rw [Nat.two_mul,jmt,←jky m]
 have:(4*s5 m+1)*s5 m+s5 m=2*(s5 m*(2*s5 m+1)):=by
  rw [Nat.add_mul,G4m,G4m]
  have e1:4*s5 m*s5 m=4*(s5 m*s5 m):=G4r ..
  have e2:s5 m*(2*s5 m)=2*(s5 m*s5 m):=by rw [Nat.mul_left_comm]
  rw [e1,e2];omega
 exact this
theorem jmv (k x:Nat):Nat.Coprime (2^k) (2*x+1):=by
 refine Nat.Coprime.pow_left k ?_
 show Nat.gcd 2 (2*x+1)=1
 rw [Nat.gcd_rec,show (2*x+1)%2=1 by omega];rfl
theorem jmw: ∀ (k d:Nat),2^k∣s5 d→2^k∣d
 |0,d,_=>by rw [G3e];exact Nat.one_dvd _
 |k+1,d,h=>by
  have ev:d%2=0:=by
   rw [←jmu d]
   exact Nat.mod_eq_zero_of_dvd (Nat.dvd_trans ⟨2^k,by rw [G1B,G3b]⟩ h)
  obtain⟨m,rfl⟩: ∃m,d=2*m:=⟨d / 2,by omega⟩
  rw [jp2,G1B,G3b] at h
  have h1:2^k∣s5 m*(2*s5 m+1):=Nat.dvd_of_mul_dvd_mul_left (by decide) h
  have h2:=jmw k m ((jmv k (s5 m)).dvd_of_dvd_mul_right h1)
  rw [G1B,G3b]
  exact Nat.mul_dvd_mul_left 2 h2
def f5 (N:Nat):Nat→Nat→Nat
 |0,a=>a
 |d+1,a=>(f5 N d a*5+1)%N
theorem jp3 {N:Nat} (a:Nat): ∀d,f5 N d a%N=(5^d*a+s5 d)%N
 |0=>by show a%N=(1*a+0)%N;rw [Nat.one_mul,G1O]
 |d+1=>by
  show (f5 N d a*5+1)%N%N=(5^(d+1)*a+(5*s5 d+1))%N
  rw [Nat.mod_mod,Nat.add_mod,Nat.mul_mod,jp3 a d,←Nat.mul_mod,←Nat.add_mod,Nat.add_mul,G1B]
  congr 1
  have:5^d*a*5=5^d*5*a:=by rw [Nat.mul_right_comm]
  omega
theorem jp4 {N:Nat} (hN:0<N) {a:Nat} (ha:a<N): ∀d,f5 N d a<N
 |0=>ha
 |d+1=>G26 _ hN
theorem jmx {N:Nat} (a:Nat) (b:Nat): ∀d,f5 N (b+d) a=f5 N d (f5 N b a)
 |0=>rfl
 |d+1=>by show (f5 N (b+d) a*5+1)%N=_;rw [jmx a b d];rfl
theorem jlW {k a d:Nat} (ha:a<2^k) (d0:0<d) (hd:d<2^k):f5 (2^k) d a≠a:=fun e=>by
 have e1:=jp3 (N:=2^k) a d
 rw [e] at e1
 have le:a≤5^d*a+s5 d:=G01 (Nat.le_mul_of_pos_left a (Nat.pow_pos (by decide))) (Nat.le_add_right _ _)
 have dv:2^k∣5^d*a+s5 d-a:=Nat.dvd_of_mod_eq_zero (Nat.sub_mod_eq_zero_of_mod_eq e1.symm)
 have e2:5^d*a+s5 d-a=s5 d*(2*(2*a)+1):=by
  rw [←jky d,Nat.add_mul,G4m]
  have:4*s5 d*a=s5 d*(2*(2*a)):=by
   rw [G3b 4,G4r];congr 1;omega
  omega
 rw [e2] at dv
 have:=Nat.le_of_dvd d0 (jmw k d ((jmv k (2*a)).dvd_of_dvd_mul_right dv))
 omega
theorem jnO {N:Nat} {a:Nat} {k:Nat} (hN:N=2^k) (ha:a<N): ∀ {i j:Nat},i<j→j<N→f5 N i a≠f5 N j a:=fun {i j} ij jN e=>by
 subst hN
 have:=jmx (N:=2^k) a i (j-i)
 rw [G2a (G1j ij)] at this
 exact jlW (jp4 (Nat.pow_pos (by decide)) ha i) (by omega) (by omega) ((this.symm.trans e.symm))
theorem jnP {N:Nat}: ∀ {xs:List Nat},xs.Nodup→(∀x∈xs,x<N)→N≤xs.length→ ∀e,e<N→e∈xs:=fun {xs} nd lt le e he=>by
 have p:(List.range N).length≤(xs.filter fun x=>decide (x<N)).length:=by
  rw [G0A,List.filter_eq_self.mpr fun x hx=>G0r (lt x hx)];exact le
 refine G2f fun no=> ?_
 have key: ∀ (ys zs:List Nat),ys.Nodup→(∀y∈ys,y∈zs)→ys.length≤zs.length:=by
  intro ys
  induction ys with
  |nil=>intro zs _ _;exact G1c _
  |cons y ys ih=>
   intro zs d s
   obtain⟨d1,d2⟩:=G1K.mp d
   have hy:=s y G0p
   have:=ih (zs.erase y) d2 fun x hx=>(G2I (show x≠y from fun q=>d1 (by rw [←q];exact hx))).mpr (s x (G0s _ hx))
   rw [G2n hy] at this
   have:0<zs.length:=G2v hy
   rw [G0k];omega
 have:=key (e::xs) (List.range N) (G1K.mpr ⟨no,nd⟩) fun y hy=>by
  rcases G0C.mp hy with q|q
  ·rw [q];exact G0x.mpr he
  ·exact G0x.mpr (lt y q)
 rw [G0k,G0A] at this
 omega
theorem jmy {N k a e:Nat} (hN:N=2^k) (ha:a<N) (he:e<N): ∃m,m<N∧f5 N m a=e:=by
 have nd:((List.range N).map fun m=>f5 N m a).Nodup:=by
  rw [List.Nodup,G1V]
  refine G1e.mpr fun i j hi hj ij=> ?_
  rw [G2W,G2W]
  rw [G0A] at hj
  exact jnO hN ha ij hj
 have:=jnP nd (fun x hx=>by
  obtain⟨m,_,rfl⟩:=G0D.mp hx
  exact jp4 (by rw [hN];exact Nat.pow_pos (by decide)) ha m) (by rw [G0c,G0A];exact G0f _) e he
 obtain⟨m,hm,e⟩:=G0D.mp this
 exact⟨m,G0x.mp hm,e⟩
def jbr (t:SetTable):Nat→SetTable.Probe→SetTable.Probe
 |0,p=>p
 |n+1,p=>jbr t n (t.advance p)
theorem jdI (t:SetTable): ∀ (a b:Nat) (p:SetTable.Probe),jbr t (a+b) p=jbr t b (jbr t a p)
 |0,b,p=>by rw [G11];rfl
 |a+1,b,p=>by rw [Nat.add_right_comm];exact jdI t a b _
def jhP (t:SetTable) (i q:Nat) (d:Option Nat):SetTable.Probe:= {j:=i,more:=SetTable.runEnd t.mask i-i,i:=i,perturb:=q,dummy:=d}
theorem jdr (t:SetTable): ∀ (m:Nat) (p:SetTable.Probe),p.more=m→jbr t (m+1) p=jhP t ((p.i*5+1+p.perturb / 32)%(t.mask+1)) (p.perturb / 32) p.dummy
 |0,p,e=>by
  show t.advance p=_
  unfold SetTable.advance
  rw [if_neg (by omega)]
  rfl
 |m+1,p,e=>by
  have a:t.advance p= {p with j:=p.j+1,more:=p.more-1}:=by unfold SetTable.advance;rw [if_pos (by omega)]
  show jbr t (m+1) (t.advance p)=_
  rw [a,jdr t m _ (by show p.more-1=m;omega)]
theorem jkz (mask i:Nat):SetTable.runEnd mask i-i≤9:=by unfold SetTable.runEnd;split<;>omega
def jgC (N:Nat) (b:Nat):Nat→Nat
 |0=>b%N
 |L+1=>(jgC N b L*5+1+b / 32^(L+1))%N
theorem jkA (t:SetTable) (h:Int): ∀L,∃n,n≤10*L∧jbr t n (t.probeStart h)=jhP t (jgC (t.mask+1) (SetTable.bits h) L) (SetTable.bits h / 32^L) none
 |0=>⟨0,G0f _,by rw [G3e,G4n];rfl⟩
 |L+1=>by
  obtain⟨n,hn,e⟩:=jkA t h L
  have s:=jkz t.mask (jgC (t.mask+1) (SetTable.bits h) L)
  refine⟨n+(SetTable.runEnd t.mask (jgC (t.mask+1) (SetTable.bits h) L)-jgC (t.mask+1) (SetTable.bits h) L+1),by omega,?_⟩
  rw [jdI,e]
  refine(jdr t _ (jhP t _ _ none) rfl).trans ?_
  show jhP t ((jgC (t.mask+1) (SetTable.bits h) L*5+1+SetTable.bits h / 32^L / 32)%(t.mask+1)) (SetTable.bits h / 32^L / 32) none=_
  rw [G2w,←G1B];rfl
theorem jnQ (h:Int):SetTable.bits h<2^64:=by unfold SetTable.bits;omega
theorem jgc {N:Nat} (h:Int): ∀m,jgC N (SetTable.bits h) (13+m)=f5 N m (jgC N (SetTable.bits h) 13)
 |0=>rfl
 |m+1=>by
  show (jgC N (SetTable.bits h) (13+m)*5+1+SetTable.bits h / 32^(13+m+1))%N=(f5 N m (jgC N (SetTable.bits h) 13)*5+1)%N
  rw [jgc h m,Nat.div_eq_of_lt (G0W (jnQ h) ?_),G1O]
  exact G01 (show 2^64≤32^13 by decide) (G2H (by decide) (by omega))
theorem jlX {t:SetTable} {k:Nat} (hN:t.mask+1=2^k) (h:Int) {e:Nat} (he:e≤t.mask): ∃n,n<10*SetTable.turns t.mask∧(jbr t n (t.probeStart h)).j=e:=by
 obtain⟨m,hm,em⟩:=jmy hN (a:=jgC (t.mask+1) (SetTable.bits h) 13) (G26 _ (G3f _)) (show e<t.mask+1 by omega)
 obtain⟨n,hn,en⟩:=jkA t h (13+m)
 refine⟨n,by unfold SetTable.turns;omega,?_⟩
 rw [en,←em,←jgc h m];rfl
theorem jkB {P:Nat→Prop}: ∀n,P n→ ∃m,m≤n∧P m∧ ∀k,k<m→ ¬P k:=fun n=>by
 induction n using Nat.strongRecOn with
 |ind n ih=>
  intro h
  rcases Classical.em (∃k,k<n∧P k) with ⟨k,lt,pk⟩|no
  ·obtain⟨m,a,b,c⟩:=ih k lt pk
   exact⟨m,by omega,b,c⟩
  ·exact⟨n,G0f _,h,fun k lt pk=>no ⟨k,lt,pk⟩⟩
theorem jmz {t:SetTable} {f:Nat→Int} {h:Int} (d:t.dummies= #[]): ∀ (n fuel:Nat) (p:SetTable.Probe),n<fuel→t.slot (jbr t n p).j= .empty→(∀k,k<n→t.slot (jbr t k p).j≠ .empty)→p.dummy=none→
 (SetTable.probe.go t f h fuel p=some (.empty (jbr t n p).j none)∧ ∀k,k<n→ ∀i,t.slot (jbr t k p).j= .live i→f i≠h)∨
 (∃k i,k<n∧t.slot (jbr t k p).j= .live i∧f i=h∧(∀k',k' <k→ ∀i',t.slot (jbr t k' p).j= .live i' →f i' ≠h)∧SetTable.probe.go t f h fuel p=some (.candidate (jbr t k p).j i (jbr t (k+1) p)))
 |_,0,_,lt,_,_,_=>absurd lt (G2p _)
 |0,fuel+1,p,_,he,_,hd=>by
  refine .inl ⟨?_,fun k hk=>absurd hk (G2p _)⟩
  have he:t.slot p.j= .empty:=he
  unfold SetTable.probe.go
  rw [he,hd];rfl
 |n+1,fuel+1,p,lt,he,ne,hd=>by
  have h0:t.slot p.j≠ .empty:=ne 0 (G3f _)
  cases hs:t.slot p.j with
  |empty=>exact absurd hs h0
  |dummy=>exact absurd hs (HT.jfu d)
  |live i=>
   by_cases e:f i=h
   ·refine .inr ⟨0,i,G3f _,hs,e,fun k' hk=>absurd hk (G2p _),?_⟩
    unfold SetTable.probe.go
    rw [hs]
    show (if (f i==h)=true then _ else _)=_
    rw [if_pos (by rw [e];exact G2t h)];rfl
   ·have ad:(t.advance p).dummy=none:=by unfold SetTable.advance;split<;>exact hd
    have step:SetTable.probe.go t f h (fuel+1) p=SetTable.probe.go t f h fuel (t.advance p):=by
     conv=>lhs;unfold SetTable.probe.go
     rw [hs]
     show (if (f i==h)=true then _ else _)=_
     rw [if_neg (by simpa using e)]
    rcases jmz d n fuel (t.advance p) (by omega) he (fun k hk=>ne (k+1) (by omega)) ad with ⟨a,b⟩|⟨k,i',hk,a,b,c,g⟩
    ·refine .inl ⟨by rw [step];exact a,fun k hk i2 hi=> ?_⟩
     cases k with
     |zero=>rw [show t.slot (jbr t 0 p).j= .live i from hs] at hi;cases hi;exact e
     |succ k=>exact b k (by omega) i2 hi
    ·refine .inr ⟨k+1,i',by omega,a,b,fun k' hk' i2 hi=> ?_,by rw [step];exact g⟩
     cases k' with
     |zero=>rw [show t.slot (jbr t 0 p).j= .live i from hs] at hi;cases hi;exact e
     |succ k' =>exact c k' (by omega) i2 hi
theorem jhQ {t:SetTable} {k:Nat} (hN:t.mask+1=2^k) (h:Int) {e:Nat} (he:e≤t.mask) (em:t.slot e= .empty): ∃n,n<10*SetTable.turns t.mask∧t.slot (jbr t n (t.probeStart h)).j= .empty∧ ∀m,m<n→t.slot (jbr t m (t.probeStart h)).j≠ .empty:=by
 obtain⟨n,hn,ej⟩:=jlX hN h he
 obtain⟨m,a,b,c⟩:=jkB (P:=fun n=>t.slot (jbr t n (t.probeStart h)).j= .empty) n (by rw [ej];exact em)
 exact⟨m,by omega,b,c⟩
theorem jkC {t:SetTable} (r:t.place.toList.Pairwise (· < ·)) {i j:Nat} (h:t.place[i]? =some j):t.slot j= .live i:=by
 obtain⟨lo,hi,_⟩:=HT.jdC r j
 have e:SetTable.below t.place j=i:=by
  rcases G3L (SetTable.below t.place j) i with z|z|z
  ·obtain⟨hlt,ev⟩:=G09.mp h
   have hb:SetTable.below t.place j<t.place.size:=by omega
   have a:=hi (SetTable.below t.place j) (G0f _) t.place[SetTable.below t.place j] (G1W hb)
   have b:=G1e.mp r (SetTable.below t.place j) i (by simpa using hb) (by simpa using hlt) z
   simp only [G2J] at b
   omega
  ·exact z
  ·exact absurd (lo i z j h) (G02 _)
 unfold SetTable.slot
 dsimp only
 rw [e,h,if_pos (G2t _)]
theorem jkD {t:SetTable} {i j:Nat} (h:t.slot j= .live i):t.place[i]? =some j:=by
 unfold SetTable.slot at h
 dsimp only at h
 split at h
 ·rename_i c
  injection h with h
  subst h
  exact eq_of_beq c
 ·split at h<;>cases h
theorem jdJ {t:SetTable} (d:t.dummies= #[]) (r:t.place.toList.Pairwise (· < ·)) {j:Nat}:t.slot j= .empty↔ ∀i:Nat,t.place[i]? ≠some j:=by
 constructor
 ·intro h i e
  rw [jkC r e] at h;cases h
 ·intro h
  cases e:t.slot j with
  |empty=>rfl
  |dummy=>exact absurd e (HT.jfu d)
  |live i=>exact absurd (jkD e) (h i)
theorem jlY {t u:SetTable} (e:t.mask=u.mask) (p:SetTable.Probe):t.advance p=u.advance p:=by
 unfold SetTable.advance
 rw [e]
theorem jcT {t u:SetTable} (e:t.mask=u.mask): ∀ (n:Nat) (p:SetTable.Probe),jbr t n p=jbr u n p
 |0,_=>rfl
 |n+1,p=>by show jbr t n (t.advance p)=jbr u n (u.advance p);rw [jlY e,jcT e n]
theorem jc3 {t u:SetTable} (e:t.mask=u.mask) (h:Int):t.probeStart h=u.probeStart h:=by
 unfold SetTable.probeStart
 rw [e]
def Way (t:SetTable) (h:Int) (j:Nat):Prop:= ∃n,(jbr t n (t.probeStart h)).j=j∧ ∀m,m<n→t.slot (jbr t m (t.probeStart h)).j≠ .empty
theorem Way.more {t u:SetTable} (e:t.mask=u.mask) (f: ∀j,u.slot j= .empty→t.slot j= .empty) {h:Int} {j:Nat} (w:Way t h j):Way u h j:=by
 obtain⟨n,a,b⟩:=w
 refine⟨n,by rw [←jc3 e,←jcT e];exact a,fun m hm z=>b m hm ?_⟩
 rw [←jc3 e,←jcT e] at z
 exact f _ z
theorem jmA {α:Type} (xs:List α) (x:α) {p:Nat} (hp:p≤xs.length) (i:Nat):(xs.take p++x::xs.drop p)[i]? =if i<p then xs[i]? else if i=p then some x else xs[i-1]? :=by
 have tl:(xs.take p).length=p:=by rw [G0v];omega
 by_cases a:i<p
 ·rw [if_pos a,G0H (by omega),G3B,if_pos a]
 ·rw [if_neg a,G0o (by omega),tl]
  by_cases b:i=p
  ·rw [if_pos b,b,Nat.sub_self];rfl
  ·rw [if_neg b,show i-p=(i-p-1)+1 by omega,G0G,G1g]
   congr 1;omega
structure Laid (t:SetTable) (hs:List Int):Prop where
 pow: ∃k,t.mask+1=2^k
 big:7≤t.mask
 dum:t.dummies= #[]
 rise:t.place.toList.Pairwise (· < ·)
 size:t.place.size=hs.length
 room:hs.length≤t.mask
 low: ∀ (i j:Nat),t.place[i]? =some j→j≤t.mask
 way: ∀ (i:Nat) (h:Int) (j:Nat),hs[i]? =some h→t.place[i]? =some j→Way t h j
theorem Laid.free {t:SetTable} {hs:List Int} (l:Laid t hs): ∃e,e≤t.mask∧t.slot e= .empty:=by
 refine G2f fun no=> ?_
 have nd:t.place.toList.Nodup:=l.rise.imp fun {a b} z=>G0R z
 have all: ∀e,e<t.mask+1→e∈t.place.toList:=fun e he=>by
  refine G2f fun z=>no ⟨e,by omega,(jdJ l.dum l.rise).mpr fun i q=>z ?_⟩
  exact Array.mem_toList_iff.mpr (Array.mem_of_getElem? q)
 have key: ∀ (ys zs:List Nat),ys.Nodup→(∀y∈ys,y∈zs)→ys.length≤zs.length:=by
  intro ys
  induction ys with
  |nil=>intro zs _ _;exact G1c _
  |cons y ys ih=>
   intro zs d s
   obtain⟨d1,d2⟩:=G1K.mp d
   have hy:=s y G0p
   have:=ih (zs.erase y) d2 fun x hx=>(G2I (show x≠y from fun q=>d1 (by rw [←q];exact hx))).mpr (s x (G0s _ hx))
   rw [G2n hy] at this
   have:0<zs.length:=G2v hy
   rw [G0k];omega
 have:=key (List.range (t.mask+1)) t.place.toList List.nodup_range fun y hy=>all y (G0x.mp hy)
 rw [G0A,G0j,l.size] at this
 have:=l.room
 omega
theorem Laid.search {t:SetTable} {hs:List Int} (l:Laid t hs) (h:Int): ∃n,n<10*SetTable.turns t.mask∧t.slot (jbr t n (t.probeStart h)).j= .empty∧(∀m,m<n→t.slot (jbr t m (t.probeStart h)).j≠ .empty)∧ ∀i:Nat,hs[i]? =some h→ ∃m,m<n∧t.slot (jbr t m (t.probeStart h)).j= .live i:=by
 obtain⟨k,hk⟩:=l.pow
 obtain⟨e,he,em⟩:=l.free
 obtain⟨n,a,b,c⟩:=jhQ hk h he em
 refine⟨n,a,b,c,fun i hi=> ?_⟩
 obtain⟨j,hj⟩: ∃j,t.place[i]? =some j:=⟨t.place[i]'(by rw [l.size];exact(G0m.mp hi).1),G1W _⟩
 obtain⟨m,x,y⟩:=l.way i h j hi hj
 have lv:t.slot (jbr t m (t.probeStart h)).j= .live i:=by rw [x];exact jkC l.rise hj
 refine⟨m,?_,lv⟩
 rcases G3L m n with z|z|z
 ·exact z
 ·rw [z,b] at lv;cases lv
 ·exact absurd b (y n z)
theorem jkE (t:SetTable) (j:Nat):(t.put j).1.place.toList=t.place.toList.take (SetTable.below t.place j)++j::t.place.toList.drop (SetTable.below t.place j):=G2P ..
theorem jkF {t:SetTable} (d:t.dummies= #[]) (j:Nat):(t.put j).1.dummies= #[]:=by
 show (if SetTable.has t.dummies j then _ else t.dummies)= #[]
 rw [d,if_neg (by simp [SetTable.has])]
theorem Laid.put {t:SetTable} {hs:List Int} (l:Laid t hs) {h:Int} {j:Nat} (em:t.slot j= .empty) (jm:j≤t.mask) (w:Way t h j) (room:hs.length+1≤t.mask):Laid (t.put j).1 (hs.take (t.put j).2++h::hs.drop (t.put j).2):=by
 have pe:(t.put j).2=SetTable.below t.place j:=rfl
 have me:t.mask=(t.put j).1.mask:=rfl
 have pl:=jkE t j
 have hp:SetTable.below t.place j≤t.place.size:=(HT.jdC l.rise j).2.2
 have hp1:SetTable.below t.place j≤t.place.toList.length:=by rw [G0j];exact hp
 have hp2:SetTable.below t.place j≤hs.length:=by rw [←l.size];exact hp
 have rise:(t.put j).1.place.toList.Pairwise (· < ·):=HT.jhL l.rise (HT.ji3 em)
 have at1: ∀i:Nat,(t.put j).1.place[i]? =if i<SetTable.below t.place j then t.place[i]? else if i=SetTable.below t.place j then some j else t.place[i-1]? :=fun i=>by
  have:=jmA t.place.toList j hp1 i
  rw [←pl] at this
  simpa using this
 have sl: ∀x,(t.put j).1.slot x= .empty→t.slot x= .empty:=fun x hx=>by
  rw [jdJ (jkF l.dum j) rise] at hx
  rw [jdJ l.dum l.rise]
  intro i e
  by_cases c:i<SetTable.below t.place j
  ·exact hx i (by rw [at1,if_pos c];exact e)
  ·exact hx (i+1) (by rw [at1,if_neg (by omega),if_neg (by omega)];exact e)
 rw [pe]
 refine⟨l.pow,l.big,jkF l.dum j,rise,?_,?_,fun i x hx=> ?_,fun i g x hg hx=> ?_⟩
 ·rw [←G0j,pl]
  simp only [G0e,G0k,G0v,G0Q,G0j]
  have:=l.size
  omega
 ·show _≤t.mask
  simp only [G0e,G0k,G0v,G0Q]
  omega
 ·rw [at1] at hx
  split at hx
  ·exact l.low _ _ hx
  ·split at hx
   ·injection hx with hx;subst hx;exact jm
   ·exact l.low _ _ hx
 ·rw [at1] at hx
  rw [jmA hs h hp2] at hg
  by_cases c:i<SetTable.below t.place j
  ·rw [if_pos c] at hg hx
   exact(l.way i g x hg hx).more me sl
  ·rw [if_neg c] at hg hx
   by_cases b:i=SetTable.below t.place j
   ·rw [if_pos b] at hg hx
    injection hg with hg;injection hx with hx
    subst hg hx
    exact w.more me sl
   ·rw [if_neg b] at hg hx
    exact(l.way (i-1) g x hg hx).more me sl
theorem ji9 (a b:Nat) (led:Bool):Laid (.fresh a b led) []:=⟨⟨3,rfl⟩,G0f 7,rfl,List.Pairwise.nil,rfl,G1c _,fun i j h=>by simp [SetTable.fresh] at h,fun i h j e=>by simp at e⟩
theorem jmB (t:SetTable): ∀ (k i q m j:Nat) (d:Option Nat),k≤m→jbr t k ⟨j,m,i,q,d⟩=⟨j+k,m-k,i,q,d⟩
 |0,i,q,m,j,d,_=>rfl
 |k+1,i,q,m,j,d,h=>by
  have a:t.advance ⟨j,m,i,q,d⟩=⟨j+1,m-1,i,q,d⟩:=by unfold SetTable.advance;rw [if_pos (show m>0 by omega)]
  show jbr t k (t.advance ⟨j,m,i,q,d⟩)=_
  rw [a,jmB t k i q (m-1) (j+1) d (by omega)]
  congr 1<;>omega
def jrc (t:SetTable) (E:Nat→Bool) (h:Int) (j:Nat):Prop:= ∃n,(jbr t n (t.probeStart h)).j=j∧ ∀m,m<n→E (jbr t m (t.probeStart h)).j=false
theorem jiB {t:SetTable} {owner:Array (Option Nat)} {h:Int}: ∀ (fuel L n:Nat) {j:Nat},jbr t n (t.probeStart h)=jhP t (jgC (t.mask+1) (SetTable.bits h) L) (SetTable.bits h / 32^L) none→(∀m,m<n→(owner.getD (jbr t m (t.probeStart h)).j (some 0)).isNone=false)→
 SetTable.layClean.free t.mask owner fuel (jgC (t.mask+1) (SetTable.bits h) L) (SetTable.bits h / 32^L)=some j→(owner.getD j (some 0)).isNone=true∧jrc t (fun x=>(owner.getD x (some 0)).isNone) h j
 |0,_,_,_,_,_,e=>by cases e
 |fuel+1,L,n,j,hn,ne,e=>by
  unfold SetTable.layClean.free at e
  generalize hI:jgC (t.mask+1) (SetTable.bits h) L=I at hn e
  have run: ∀k,k≤SetTable.runEnd t.mask I-I→(jbr t (n+k) (t.probeStart h)).j=I+k:=fun k hk=>by
   rw [jdI,hn]
   exact congrArg SetTable.Probe.j (jmB t k I _ _ I none hk)
  have re:I≤SetTable.runEnd t.mask I:=by unfold SetTable.runEnd;split<;>omega
  split at e
  ·rename_i k hk
   injection e with e
   subst e
   obtain⟨a,b,c⟩:=List.find?_range_eq_some.mp hk
   have kl:=G0x.mp b
   refine⟨a,n+k,run k (by omega),fun m hm=> ?_⟩
   rcases G2d m n with z|z
   ·exact ne m z
   ·have:=c (m-n) (by omega)
    have r:=run (m-n) (by omega)
    rw [G2a z] at r
    show (owner.getD (jbr t m (t.probeStart h)).j (some 0)).isNone=false
    rw [r];simpa using this
  ·rename_i hk
   have none:=List.find?_eq_none.mp hk
   have nx:=jdr t _ (jhP t I (SetTable.bits h / 32^L) .none) rfl
   refine jiB fuel (L+1) (n+(SetTable.runEnd t.mask I-I+1)) (j:=j) ?_ (fun m hm=> ?_) ?_
   ·rw [jdI,hn]
    refine nx.trans ?_
    show jhP t ((I*5+1+SetTable.bits h / 32^L / 32)%(t.mask+1)) (SetTable.bits h / 32^L / 32) .none=_
    rw [G2w,←G1B,←hI];rfl
   ·rcases G2d m n with z|z
    ·exact ne m z
    ·have:=none (m-n) (G0x.mpr (by omega))
     have r:=run (m-n) (by omega)
     rw [G2a z] at r
     rw [r];exact Bool.eq_false_iff.mpr this
   ·rw [show SetTable.leap t.mask I (SetTable.bits h / 32^L)=((I*5+1+SetTable.bits h / 32^L / 32)%(t.mask+1),SetTable.bits h / 32^L / 32) from rfl] at e
    dsimp only at e
    rw [G2w,←G1B,←hI] at e
    exact e
theorem jkG {t:SetTable} {owner:Array (Option Nat)} {h:Int} {k:Nat} (hN:t.mask+1=2^k) {e:Nat} (he:e≤t.mask) (em:(owner.getD e (some 0)).isNone=true): ∃j,SetTable.layClean.free t.mask owner (SetTable.turns t.mask) (SetTable.bits h%(t.mask+1)) (SetTable.bits h)=some j:=by
 obtain⟨m,hm,e1⟩:=jmy hN (a:=jgC (t.mask+1) (SetTable.bits h) 13) (G26 _ (G3f _)) (show e<t.mask+1 by omega)
 rw [←jgc h m] at e1
 have go: ∀ (fuel L:Nat),(∃L',L≤L' ∧L' <L+fuel∧jgC (t.mask+1) (SetTable.bits h) L' =e)→ ∃j,SetTable.layClean.free t.mask owner fuel (jgC (t.mask+1) (SetTable.bits h) L) (SetTable.bits h / 32^L)=some j:=by
  intro fuel
  induction fuel with
  |zero=>rintro L ⟨L',a,b,_⟩;omega
  |succ fuel ih=>
   rintro L ⟨L',a,b,c⟩
   unfold SetTable.layClean.free
   generalize hI:jgC (t.mask+1) (SetTable.bits h) L=I
   split
   ·rename_i k hk;exact⟨_,rfl⟩
   ·rename_i hk
    have none:=List.find?_eq_none.mp hk
    have ne:I≠e:=fun z=>by
     have re:I≤SetTable.runEnd t.mask I:=by unfold SetTable.runEnd;split<;>omega
     have:=none 0 (G0x.mpr (by omega))
     rw [G1O,z] at this
     exact this em
    have lt:L+1≤L' :=by
     rcases G2d L L' with z|z
     ·exact z
     ·have:L=L' :=by omega
      subst this
      exact absurd (hI.symm.trans c) ne
    obtain⟨j,hj⟩:=ih (L+1) ⟨L',lt,by omega,c⟩
    refine⟨j,?_⟩
    rw [show SetTable.leap t.mask I (SetTable.bits h / 32^L)=((I*5+1+SetTable.bits h / 32^L / 32)%(t.mask+1),SetTable.bits h / 32^L / 32) from rfl]
    dsimp only
    rw [G2w,←G1B,←hI]
    exact hj
 have:=go (SetTable.turns t.mask) 0 ⟨13+m,Nat.zero_le _,by unfold SetTable.turns;omega,e1⟩
 rw [G3e,G4n] at this
 exact this
def emO (owner:Array (Option Nat)) (x:Nat):Bool:=(owner.getD x (some 0)).isNone
theorem emO_iff {owner:Array (Option Nat)} {x:Nat}:emO owner x=true↔owner[x]? =some none:=by
 unfold emO
 rw [G2E]
 cases owner[x]? with
 |none=>simp
 |some o=>cases o<;>simp
structure Own (t:SetTable) (hs:List Int) (owner:Array (Option Nat)) (k:Nat):Prop where
 size:owner.size=t.mask+1
 lt: ∀x i:Nat,owner[x]? =some (some i)→i<k
 inj: ∀x y i:Nat,owner[x]? =some (some i)→owner[y]? =some (some i)→x=y
 all: ∀i,i<k→ ∃x:Nat,owner[x]? =some (some i)
 way: ∀ (x i:Nat) (h:Int),owner[x]? =some (some i)→hs[i]? =some h→jrc t (emO owner) h x
theorem Own.free {t:SetTable} {hs:List Int} {owner:Array (Option Nat)} {k:Nat} (o:Own t hs owner k) (room:k≤t.mask): ∃e,e≤t.mask∧emO owner e=true:=by
 refine G2f fun no=> ?_
 have got: ∀x,x<t.mask+1→ ∃i,owner[x]? =some (some i):=fun x hx=>by
  have hs' :x<owner.size:=by rw [o.size];exact hx
  cases e:owner[x]? with
  |none=>rw [G1P] at e;omega
  |some v=>
   cases v with
   |none=>exact absurd ⟨x,by omega,emO_iff.mpr e⟩ no
   |some i=>exact⟨i,rfl⟩
 have gi: ∀x,x<t.mask+1→owner[x]? =some (some (((owner[x]?).getD none).getD 0)):=fun x hx=>by
  obtain⟨i,e⟩:=got x hx
  rw [e];rfl
 have nd:((List.range (t.mask+1)).map fun x=>((owner[x]?).getD none).getD 0).Nodup:=by
  rw [List.Nodup,G1V]
  refine G1e.mpr fun a b ha hb ab e=> ?_
  rw [G2W,G2W] at e
  rw [G0A] at ha hb
  have x1:=gi a ha
  have x2:=gi b hb
  rw [e] at x1
  have:=o.inj a b _ x1 x2
  omega
 have:=jeL (m:=List.range k) nd fun y hy=>by
  obtain⟨x,hx,rfl⟩:=G0D.mp hy
  exact G0x.mpr (o.lt x _ (gi x (G0x.mp hx)))
 rw [G0c,G0A,G0A] at this
 omega
theorem Own.step {t:SetTable} {hs:List Int} {owner:Array (Option Nat)} {k n:Nat} {h:Int} (hN:t.mask+1=2^n) (o:Own t hs owner k) (room:k≤t.mask) (hk:hs[k]? =some h): ∃j,SetTable.layClean.free t.mask owner (SetTable.turns t.mask) (SetTable.bits h%(t.mask+1)) (SetTable.bits h)=some j∧Own t hs (owner.setIfInBounds j (some k)) (k+1):=by
 obtain⟨e,he,em⟩:=o.free room
 obtain⟨j,hj⟩:=jkG (h:=h) hN he em
 have w:=jiB (t:=t) (owner:=owner) (h:=h) (SetTable.turns t.mask) 0 0 (j:=j) (by rw [G3e,G4n];rfl) (fun m hm=>absurd hm (G2p _)) (by rw [G3e,G4n];exact hj)
 have jn:owner[j]? =some none:=emO_iff.mp w.1
 have js:j<owner.size:=(G09.mp jn).1
 have at1: ∀x:Nat,(owner.setIfInBounds j (some k))[x]? =if j=x then some (some k) else owner[x]? :=fun x=>by
  rw [Array.getElem?_setIfInBounds]
  by_cases c:j=x
  ·rw [if_pos c,if_pos c,if_pos js]
  ·rw [if_neg c,if_neg c]
 have old: ∀x i:Nat,(owner.setIfInBounds j (some k))[x]? =some (some i)→(x=j∧i=k)∨(x≠j∧owner[x]? =some (some i)):=fun x i hx=>by
  rw [at1] at hx
  split at hx
  ·rename_i c;injection hx with hx;injection hx with hx;exact .inl ⟨c.symm,hx.symm⟩
  ·rename_i c;exact .inr ⟨Ne.symm c,hx⟩
 have emm: ∀x,emO owner x=false→emO (owner.setIfInBounds j (some k)) x=false:=fun x hx=>by
  refine Bool.eq_false_iff.mpr fun z=> ?_
  rw [emO_iff,at1] at z
  split at z
  ·cases z
  ·rw [emO_iff.mpr z] at hx;cases hx
 refine⟨j,hj,by rw [G2Q];exact o.size,fun x i hx=> ?_,fun x y i hx hy=> ?_,fun i hi=> ?_,fun x i g hx hg=> ?_⟩
 ·rcases old x i hx with ⟨_,e⟩|⟨_,e⟩
  ·omega
  ·have:=o.lt x i e;omega
 ·rcases old x i hx with ⟨a,b⟩|⟨a,b⟩<;>rcases old y i hy with ⟨c,d⟩|⟨c,d⟩
  ·rw [a,c]
  ·have:=o.lt y i d;omega
  ·have:=o.lt x i b;omega
  ·exact o.inj x y i b d
 ·by_cases c:i=k
  ·exact⟨j,by rw [at1,if_pos rfl,c]⟩
  ·obtain⟨x,hx⟩:=o.all i (by omega)
   have ne: ¬j=x:=fun z=>by rw [←z,jn] at hx;cases hx
   exact⟨x,by rw [at1,if_neg ne];exact hx⟩
 ·rcases old x i hx with ⟨a,b⟩|⟨a,b⟩
  ·rw [b,hk] at hg
   injection hg with hg
   rw [a,←hg]
   obtain⟨m,p,q⟩:=w.2
   exact⟨m,p,fun m' hm=>emm _ (q m' hm)⟩
  ·obtain⟨m,p,q⟩:=o.way x i g b hg
   exact⟨m,p,fun m' hm=>emm _ (q m' hm)⟩
theorem jlZ (t:SetTable) (hs:List Int):Own t hs (Array.replicate (t.mask+1) none) 0:=by
 have no: ∀x i:Nat,(Array.replicate (t.mask+1) (none:Option Nat))[x]? ≠some (some i):=fun x i e=>by
  rw [Array.getElem?_replicate] at e
  split at e<;>cases e
 exact⟨Array.size_replicate,fun x i e=>absurd e (no x i),fun x y i e=>absurd e (no x i),fun i hi=>absurd hi (G2p _),fun x i h e=>absurd e (no x i)⟩
theorem jiC {t:SetTable} {hs:List Int} {n:Nat} (hN:t.mask+1=2^n) (room:hs.length≤t.mask) {F:Option (Array (Option Nat)×Nat)→Int→Option (Array (Option Nat)×Nat)}
 (hF: ∀owner k h j,SetTable.layClean.free t.mask owner (SetTable.turns t.mask) (SetTable.bits h%(t.mask+1)) (SetTable.bits h)=some j→F (some (owner,k)) h=some (owner.setIfInBounds j (some k),k+1)): ∀ (rest:List Int) (k:Nat) (owner:Array (Option Nat)),Own t hs owner k→k≤hs.length→hs.drop k=rest→ ∃owner',rest.foldl F (some (owner,k))=some (owner',hs.length)∧Own t hs owner' hs.length
 | [],k,owner,o,kl,e=>by
  have:k=hs.length:=by have:=List.drop_eq_nil_iff.mp e;omega
  subst this
  exact⟨owner,rfl,o⟩
 |h::rest,k,owner,o,kl,e=>by
  have hk:hs[k]? =some h:=by
   have:(hs.drop k)[0]? =some h:=by rw [e];rfl
   rwa [G1g,G1O] at this
  have lt:k<hs.length:=(G0m.mp hk).1
  obtain⟨j,hj,o'⟩:=o.step hN (by omega) hk
  have e2:hs.drop (k+1)=rest:=by rw [←List.tail_drop,e];rfl
  obtain⟨owner',a,b⟩:=jiC hN room hF rest (k+1) _ o' lt e2
  exact⟨owner',by rw [G36,hF _ _ _ _ hj];exact a,b⟩
theorem jl0 {t:SetTable} {hs:List Int} {n:Nat} (hN:t.mask+1=2^n) (room:hs.length≤t.mask) {F:Option (Array (Option Nat)×Nat)→Int→Option (Array (Option Nat)×Nat)}
 (hF: ∀owner k h j,SetTable.layClean.free t.mask owner (SetTable.turns t.mask) (SetTable.bits h%(t.mask+1)) (SetTable.bits h)=some j→F (some (owner,k)) h=some (owner.setIfInBounds j (some k),k+1)): ∃owner,(hs.foldl F (some (Array.replicate (t.mask+1) none,0))).map (·.1)=some owner∧Own t hs owner hs.length:=by
 obtain⟨owner,a,b⟩:=jiC hN room hF hs 0 _ (jlZ t hs) (G1c _) rfl
 exact⟨owner,by rw [a];rfl,b⟩
theorem jnR {t:SetTable} {hashes:Array Int} {n:Nat} (hN:t.mask+1=2^n) (room:hashes.size≤t.mask): ∃owner,SetTable.layClean t.mask hashes=some owner∧Own t hashes.toList owner hashes.toList.length:=by
 unfold SetTable.layClean
 rw [←Array.foldl_toList]
 refine jl0 hN (by rw [G0j];exact room) fun owner k h j hj=> ?_
 show (SetTable.layClean.free t.mask owner _ _ _).bind _=_
 rw [hj];rfl
theorem jhR {t:SetTable}: ∀ (n:Nat) (p:SetTable.Probe),p.j+p.more≤t.mask→(jbr t n p).j≤t.mask
 |0,p,h=>by show p.j≤t.mask;omega
 |n+1,p,h=>by
  refine jhR n (t.advance p) ?_
  unfold SetTable.advance
  split
  ·show p.j+1+(p.more-1)≤t.mask;omega
  ·have:(p.i*5+1+p.perturb / 32)%(t.mask+1)<t.mask+1:=G26 _ (G3f _)
   show (p.i*5+1+p.perturb / 32)%(t.mask+1)+(SetTable.runEnd t.mask ((p.i*5+1+p.perturb / 32)%(t.mask+1))-(p.i*5+1+p.perturb / 32)%(t.mask+1))≤t.mask
   unfold SetTable.runEnd
   split<;>omega
theorem jhi (t:SetTable) (h:Int):(t.probeStart h).j+(t.probeStart h).more≤t.mask:=by
 have:SetTable.bits h%(t.mask+1)<t.mask+1:=G26 _ (G3f _)
 show SetTable.bits h%(t.mask+1)+(SetTable.runEnd t.mask (SetTable.bits h%(t.mask+1))-SetTable.bits h%(t.mask+1))≤t.mask
 unfold SetTable.runEnd
 split<;>omega
theorem jp5 {T0 T' :SetTable} {E:Nat→Bool} {h:Int} {j:Nat} (em:T0.mask=T'.mask) (f: ∀y,y≤T0.mask→E y=false→T'.slot y≠ .empty) (w:jrc T0 E h j):Way T' h j:=by
 obtain⟨n,a,b⟩:=w
 refine⟨n,by rw [←jc3 em,←jcT em];exact a,fun m hm=> ?_⟩
 rw [←jc3 em,←jcT em]
 exact f _ (jhR m _ (jhi T0 h)) (b m hm)
theorem jnS {mask finger moves n:Nat} {led plain:Bool} {hashes:Array Int} (hN:mask+1=2^n) (h7:7≤mask) (room:hashes.size≤mask): ∃t' order,SetTable.laid mask finger moves led plain hashes=some (t',order)∧t'.mask=mask∧t'.led=led∧t'.plain=plain∧order.toList.Perm (List.range hashes.size)∧Laid t' (order.toList.map fun i=>hashes.toList.getD i 0):=by
 obtain⟨T0,hm⟩: ∃T0:SetTable,T0.mask=mask:=⟨{SetTable.fresh 0 0 true with mask:=mask},rfl⟩
 subst hm
 obtain⟨owner,ho,own⟩:=jnR (t:=T0) (hashes:=hashes) hN room
 unfold SetTable.laid
 rw [ho]
 refine⟨_,_,rfl,rfl,rfl,rfl,?_⟩
 generalize hl:((List.range (T0.mask+1)).filterMap fun j=>(owner.getD j none).map (j,·))=live
 have osz:owner.size=T0.mask+1:=own.size
 have mem: ∀x i:Nat,(x,i)∈live↔owner[x]? =some (some i):=fun x i=>by
  rw [←hl,G2x]
  constructor
  ·rintro ⟨j,hj,e⟩
   rw [G2E] at e
   cases z:owner[j]? with
   |none=>rw [z] at e;cases e
   |some v=>
    rw [z] at e
    cases v with
    |none=>cases e
    |some w=>cases e;exact z
  ·intro e
   have lt:x<owner.size:=(G09.mp e).1
   refine⟨x,G0x.mpr (by omega),?_⟩
   rw [G2E,e];rfl
 have sub:(live.map (·.1)).Sublist (List.range (T0.mask+1)):=by rw [←hl];exact HT.jf7 _ _
 have rise:(live.map (·.1)).Pairwise (· < ·):=List.pairwise_lt_range.sublist sub
 have nd:(live.map (·.2)).Nodup:=by
  rw [List.Nodup,G1V]
  rw [G1V] at rise
  refine rise.imp_of_mem fun {a b} ha hb lt e=> ?_
  have:=own.inj a.1 b.1 a.2 ((mem _ _).mp ha) (by rw [e];exact(mem _ _).mp hb)
  omega
 have len0:hashes.toList.length=hashes.size:=G0j
 have pm:(live.map (·.2)).Perm (List.range hashes.size):=by
  refine(List.perm_ext_iff_of_nodup nd List.nodup_range).mpr fun i=> ?_
  rw [G0x]
  constructor
  ·intro h
   obtain⟨⟨x,i'⟩,a,rfl⟩:=G0D.mp h
   have:=own.lt x i' ((mem _ _).mp a)
   omega
  ·intro h
   obtain⟨x,hx⟩:=own.all i (by omega)
   exact G0D.mpr ⟨(x,i),(mem _ _).mpr hx,rfl⟩
 have ll:live.length=hashes.size:=by have:=pm.length_eq;rwa [G0c,G0A] at this
 refine⟨pm,⟨n,hN⟩,h7,rfl,rise,?_,?_,fun i j hj=> ?_,fun i h x hh hx=> ?_⟩
 ·simp
 ·show _≤T0.mask
  simp only [G0c]
  omega
 ·have hj:(live.map (·.1))[i]? =some j:=by simpa using hj
  have:=G0x.mp (sub.subset (G0h hj))
  show j≤T0.mask
  omega
 ·have hx:(live.map (·.1))[i]? =some x:=by simpa using hx
  have hh:((live.map (·.2)).map fun i=>hashes.toList.getD i 0)[i]? =some h:=hh
  rw [G0i] at hx
  obtain⟨⟨x',i'⟩,e1,e2⟩:=G1Q.mp hx
  have e2:x' =x:=e2
  subst e2
  rw [G0i,G0i,e1] at hh
  have hh:hashes.toList.getD i' 0=h:=by injection hh
  have ow:=(mem _ _).mp (G0h e1)
  have lt:=own.lt _ _ ow
  have hg:hashes.toList[i']? =some h:=by
   rw [←hh,G0B,G0b lt];rfl
  refine jp5 (T0:=T0) rfl (fun y hy hb z=> ?_) (own.way _ _ _ ow hg)
  rw [jdJ rfl rise] at z
  cases e:owner[y]? with
  |none=>rw [G1P] at e;omega
  |some v=>
   cases v with
   |none=>rw [emO_iff.mpr e] at hb;cases hb
   |some w=>
    obtain⟨i2,h2⟩:=G2K (G0D.mpr ⟨(y,w),(mem _ _).mpr e,rfl⟩:y∈live.map (·.1))
    exact z i2 (by simpa using h2)
theorem Laid.stands {t:SetTable} {hs:List Int} (l:Laid t hs):t.gaveWay=false:=by
 obtain⟨k,hk⟩:=l.pow
 have b:=l.big
 cases k with
 |zero=>rw [G3e] at hk;omega
 |succ k=>
  rw [G1B] at hk
  unfold SetTable.gaveWay
  refine beq_false_of_ne ?_
  omega
theorem jiD: ∀ (fuel k n:Nat),3≤k→ ∃m,3≤m∧SetTable.sizeAbove.go n fuel (2^k)=2^m∧(n<2^(k+fuel)→n<2^m)
 |0,k,n,h=>⟨k,h,rfl,fun z=>z⟩
 |fuel+1,k,n,h=>by
  unfold SetTable.sizeAbove.go
  by_cases c:2^k≤n
  ·rw [if_pos c,←G1B]
   obtain⟨m,a,b,d⟩:=jiD fuel (k+1) n (by omega)
   exact⟨m,a,b,fun z=>d (by rw [Nat.add_right_comm,G2U];exact z)⟩
  ·rw [if_neg c]
   exact⟨k,h,rfl,fun _=>by omega⟩
theorem above {n:Nat} (h:n<2^67): ∃m,SetTable.sizeAbove n=2^m∧n<SetTable.sizeAbove n∧8≤SetTable.sizeAbove n:=by
 obtain⟨m,a,b,c⟩:=jiD 64 3 n (by decide)
 have b:SetTable.sizeAbove n=2^m:=b
 refine⟨m,b,by rw [b];exact c h,?_⟩
 rw [b]
 exact G2H (show 0<2 by decide) a
end L2
namespace L2
open PySem PySem.Spec PyProof.Rows HT
variable {prog:Program} {w:World} {A:Around} {E:Value→Shared→Prop} {s:Shared} {a:Addr} {es:Array (Int×Value)} {ep:Nat} {t:SetTable}
theorem Laid.fits {hs:List Int} (l:Laid t hs) {n:Nat} (e:hs.length=n):t.fits n=true:=by
 have a:=l.size
 have b:=l.room
 have c:=l.dum
 simp only [SetTable.fits,SetTable.fill,G1q,G4t,G1A,c]
 simp
 omega
theorem jiE (t:SetTable):t.sameMemory t.moves t.mask=some true:=by
 unfold SetTable.sameMemory
 rw [if_pos (G2t _)]
theorem jiF {b:Addr} {Q:Bool→Shared→Prop} (q:Q true s):wpAny (model prog w) A (isSame (.ref b) (.ref b)) Q E s:=by
 unfold isSame
 dsimp only
 rw [if_pos (G2t _)]
 exact G0d q
set_option maxHeartbeats 4000000 in
theorem jhS {Q:SetFound→Shared→Prop} {x:Value} {h:Int} {n:Nat} {eqk:Nat→Bool} (l:Laid t (es.toList.map (·.1))) (ho:s.heap.get? a=some (jc2 es ep t))
 (refs: ∀ (i:Nat) (y:Value),es[i]? =some (h,y)→ ∃b,y= .ref b)
 (seen: ∀Q' :Bool→Shared→Prop,Q' false s→wpAny (model prog w) A (searchCouldBeSeen x ((es.filter (·.1==h)).toList.map (·.2))) Q' E s)
 (cmp: ∀ (i:Nat) (y:Value),es[i]? =some (h,y)→ ∀Q' :Bool→Shared→Prop,Q' (eqk i) s→wpAny (model prog w) A (holding [y] (eqBool y x)) Q' E s)
 (em:t.slot (jbr t n (t.probeStart h)).j= .empty) (nb:n<10*SetTable.turns t.mask) (ne: ∀m,m<n→t.slot (jbr t m (t.probeStart h)).j≠ .empty)
 (free:(∀m i,m<n→t.slot (jbr t m (t.probeStart h)).j= .live i→(es[i]?.map (·.1)).getD 0=h→eqk i=false)→Q (.free (jbr t n (t.probeStart h)).j false) s)
 (there: ∀ (i:Nat) (y:Value),es[i]? =some (h,y)→eqk i=true→Q (.there none) s):
 ∀ (r k fuel:Nat) (stand:Option SetTable.Probe),k+r=n→r<fuel→stand.getD (t.probeStart h)=jbr t k (t.probeStart h)→(∀m i,m<k→t.slot (jbr t m (t.probeStart h)).j= .live i→(es[i]?.map (·.1)).getD 0=h→eqk i=false)→
  wpAny (model prog w) A (setSearchFrom a x h true fuel stand) Q E s:=by
 intro r
 induction r using Nat.strongRecOn with
 |ind r ih=>
 intro k fuel stand kr rf st old
 obtain⟨fuel,rfl⟩: ∃f,fuel=f+1:=⟨fuel-1,by omega⟩
 have fit:t.fits es.size=true:=l.fits (by rw [G0c,G0j])
 unfold setSearchFrom
 refine wpAny_bind (G1m ho rfl fit ?_)
 dsimp only
 rw [l.stands]
 simp only [G1f,↓reduceIte]
 have ad: ∀m,jbr t m (jbr t k (t.probeStart h))=jbr t (k+m) (t.probeStart h):=fun m=>(jdI t k m _).symm
 have dn: ∀ (m:Nat) (p:SetTable.Probe),p.dummy=none→(jbr t m p).dummy=none:=fun m=>by
  induction m with
  |zero=>exact fun p hp=>hp
  |succ m ihm=>exact fun p hp=>ihm _ (by unfold SetTable.advance;split<;>exact hp)
 have out:=jmz (f:=fun i=>(es[i]?.map (·.1)).getD 0) (h:=h) l.dum r (10*SetTable.turns t.mask) (jbr t k (t.probeStart h)) (by omega) (by rw [ad,kr];exact em) (fun m hm=>by rw [ad];exact ne _ (by omega)) (dn _ _ rfl)
 have e0:t.probe (fun i=>(es[i]?.map (·.1)).getD 0) h (stand.getD (t.probeStart h))=SetTable.probe.go t (fun i=>(es[i]?.map (·.1)).getD 0) h (10*SetTable.turns t.mask) (jbr t k (t.probeStart h)):=by rw [st];rfl
 rw [←e0] at out
 split
 ·rename_i met hmet
  have hmet:t.probe (fun i=>(es[i]?.map (·.1)).getD 0) h (stand.getD (t.probeStart h))=some met:=hmet
  rw [hmet] at out
  rcases out with ⟨e,no⟩|⟨m,i,mr,sl,hi,no,e⟩
  ·injection e with e
   subst e
   dsimp only
   refine G0d ?_
   rw [ad,kr]
   refine free fun m i hm sl hi=> ?_
   rcases G2d m k with z|z
   ·exact old m i z sl hi
   ·refine absurd hi (no (m-k) (by omega) i ?_)
    rw [ad,G2a z];exact sl
  ·injection e with e
   subst e
   dsimp only
   obtain⟨y,ei⟩: ∃y,es[i]? =some (h,y):=by
    obtain⟨lt,_⟩:=G09.mp (jkD sl)
    have sz:i<es.size:=by have:=l.size;rw [G0c,G0j] at this;omega
    rw [G1W sz] at hi ⊢
    have hi:es[i].1=h:=hi
    exact⟨es[i].2,by rw [←hi]⟩
   cases hl:t.led
   ·simp only [G4g,↓reduceIte]
    refine wpAny_bind (seen _ ?_)
    simp only [G1f,↓reduceIte]
    rw [ei]
    dsimp only
    refine wpAny_bind (cmp i y ei _ ?_)
    refine wpAny_bind (G1m ho rfl fit ?_)
    dsimp only
    cases ek:eqk i with
    |true=>simp only [G4s,↓reduceIte];exact G0d (there i y ei ek)
    |false=>
     simp only [G29,G1f,↓reduceIte,jiE,sl,ei]
     obtain⟨b,rfl⟩:=refs i y ei
     refine wpAny_bind (jiF ?_)
     refine wpAny_bind (G0d ?_)
     simp only [↓reduceIte]
     refine ih (r-(m+1)) (by omega) (k+(m+1)) fuel (some _) (by omega) (by omega) (by show jbr t (m+1) _=_;rw [ad]) (fun m' i' hm' sl' hi' => ?_)
     rcases G2d m' k with z|z
     ·exact old m' i' z sl' hi'
     ·have e1:jbr t m' (t.probeStart h)=jbr t (m' -k) (jbr t k (t.probeStart h)):=by rw [ad,G2a z]
      rw [e1] at sl'
      rcases G2d (m' -k) m with y|y
      ·exact absurd hi' (no (m' -k) y i' sl')
      ·have e2:m' -k=m:=by omega
       rw [e2,sl] at sl'
       injection sl' with sl'
       rw [←sl'];exact ek
   ·simp only [Bool.not_true,G1f,↓reduceIte]
    rw [ei]
    dsimp only
    refine wpAny_bind (cmp i y ei _ ?_)
    refine wpAny_bind (G1m ho rfl fit ?_)
    dsimp only
    cases ek:eqk i with
    |true=>simp only [G4s,↓reduceIte];exact G0d (there i y ei ek)
    |false=>
     simp only [G29,G1f,↓reduceIte,jiE,sl,ei]
     obtain⟨b,rfl⟩:=refs i y ei
     refine wpAny_bind (jiF ?_)
     refine wpAny_bind (G0d ?_)
     simp only [↓reduceIte]
     refine ih (r-(m+1)) (by omega) (k+(m+1)) fuel (some _) (by omega) (by omega) (by show jbr t (m+1) _=_;rw [ad]) (fun m' i' hm' sl' hi' => ?_)
     rcases G2d m' k with z|z
     ·exact old m' i' z sl' hi'
     ·have e1:jbr t m' (t.probeStart h)=jbr t (m' -k) (jbr t k (t.probeStart h)):=by rw [ad,G2a z]
      rw [e1] at sl'
      rcases G2d (m' -k) m with y|y
      ·exact absurd hi' (no (m' -k) y i' sl')
      ·have e2:m' -k=m:=by omega
       rw [e2,sl] at sl'
       injection sl' with sl'
       rw [←sl'];exact ek
 ·rename_i hmet
  rcases out with ⟨e,_⟩|⟨_,_,_,_,_,_,e⟩<;>exact(hmet _ e).elim
theorem jja {Q:SetFound→Shared→Prop} {x:Value} {h:Int} {eqk:Nat→Bool} (l:Laid t (es.toList.map (·.1))) (few:t.mask≤9000) (ho:s.heap.get? a=some (jc2 es ep t))
 (refs: ∀ (i:Nat) (y:Value),es[i]? =some (h,y)→ ∃b,y= .ref b)
 (seen: ∀Q' :Bool→Shared→Prop,Q' false s→wpAny (model prog w) A (searchCouldBeSeen x ((es.filter (·.1==h)).toList.map (·.2))) Q' E s)
 (cmp: ∀ (i:Nat) (y:Value),es[i]? =some (h,y)→ ∀Q' :Bool→Shared→Prop,Q' (eqk i) s→wpAny (model prog w) A (holding [y] (eqBool y x)) Q' E s)
 (free: ∀j,(∀ (i:Nat) (y:Value),es[i]? =some (h,y)→eqk i=false)→t.slot j= .empty→j≤t.mask→Way t h j→Q (.free j false) s)
 (there: ∀ (i:Nat) (y:Value),es[i]? =some (h,y)→eqk i=true→Q (.there none) s):wpAny (model prog w) A (setSearch a x h true) Q E s:=by
 obtain⟨n,nb,em,ne,met⟩:=l.search h
 refine jhS l ho refs seen cmp em nb ne (fun al=>free _ (fun i y e=> ?_) em (jhR n _ (jhi t h)) ⟨n,rfl,ne⟩) there n 0 100000 none (Nat.zero_add n) (by unfold SetTable.turns at nb;omega) rfl (fun m i hm=>absurd hm (Nat.not_lt_zero _))
 have e1:(es.toList.map (·.1))[i]? =some h:=by
  rw [G0i,G0F,e];rfl
 obtain⟨m,hm,sl⟩:=met i e1
 exact al m i hm sl (by rw [e];rfl)
theorem Laid.plain {hs:List Int} (l:Laid t hs) (b:Bool):Laid {t with plain:=b} hs:=
 ⟨l.pow,l.big,l.dum,l.rise,l.size,l.room,l.low,fun i h j x y=>Way.more (t:=t) (u:= {t with plain:=b}) rfl (fun _ z=>z) (l.way i h j x y)⟩
theorem jjb (es:Array (Int×Value)) (h:Int) (x:Value) (p:Nat):(SetTable.insertAt es p (h,x)).toList.map (·.1)=(es.toList.map (·.1)).take p++h::(es.toList.map (·.1)).drop p:=by
 rw [G2P,G1s,G0y,G4p,G4q]
theorem jiG: ∀ (fuel k n:Nat),SetTable.sizeAbove.go n fuel (2^k)≤2^k∨SetTable.sizeAbove.go n fuel (2^k)≤2*n
 |0,k,n=> .inl (G0f _)
 |fuel+1,k,n=>by
  unfold SetTable.sizeAbove.go
  by_cases c:2^k≤n
  ·rw [if_pos c,←G1B]
   rcases jiG fuel (k+1) n with z|z
   ·refine .inr (G01 z ?_)
    rw [G1B];omega
   ·exact .inr z
  ·rw [if_neg c];exact .inl (G0f _)
theorem jhT {hashes:Array Int} {w:Nat} (hw:hashes.size≤w) (few:w≤40000):SetTable.sizeAbove w≤80008∧ ∃t' order,t.relaid hashes w=some (t',order)∧t'.led=t.led∧w≤t'.mask∧t'.mask≤2*w+8∧order.toList.Perm (List.range hashes.size)∧Laid t' (order.toList.map fun i=>hashes.toList.getD i 0):=by
 obtain⟨m,a,b,c⟩:=above (n:=w) (by omega)
 have u:SetTable.sizeAbove w≤8∨SetTable.sizeAbove w≤2*w:=jiG 64 3 w
 refine⟨by omega,?_⟩
 obtain⟨t',order,x,mk,y,z,p,q⟩:=jnS (mask:=SetTable.sizeAbove w-1) (finger:=t.finger) (moves:=t.movedTo (SetTable.sizeAbove w-1)) (led:=t.led) (plain:=t.plain) (hashes:=hashes) (n:=m) (by rw [←a];omega) (by omega) (by omega)
 exact⟨t',order,x,y,by rw [mk];omega,by rw [mk];omega,p,q⟩
set_option maxHeartbeats 4000000 in
theorem jkH {Q:Unit→Shared→Prop} {wd:Nat} (l:Laid t (es.toList.map (·.1))) (ho:s.heap.get? a=some (jc2 es ep t)) (hw:es.size≤wd) (few:wd≤40000)
 (k: ∀es' t' h',es'.toList.Perm es.toList→Laid t' (es'.toList.map (·.1))→t'.led=t.led→wd≤t'.mask→t'.mask≤2*wd+8→h'.get? a=some (jc2 es' (ep+1) t')→Heap.SameBut a s.heap h' →Q () {s with heap:=h'}):wpAny (model prog w) A (setRelay a wd) Q E s:=by
 have fit:t.fits es.size=true:=l.fits (by rw [G0c,G0j])
 obtain⟨up,t',order,er,ld,m1,m2,pm,l'⟩:=jhT (t:=t) (hashes:=es.map (·.1)) (w:=wd) (by rw [Array.size_map];exact hw) few
 unfold setRelay
 refine wpAny_bind (G1m ho rfl fit ?_)
 dsimp only
 rw [er]
 have sl: ¬SetTable.sizeAbove wd>sizeLine:=G3m.mpr (G01 up (by decide))
 simp only [sl,↓reduceIte]
 have fe: ∀l:List Nat,(∀i∈l,i<es.size)→l.filterMap (fun i=>es[i]?)=l.map (fun i=>es.toList.getD i (0,.none)):=fun l=>by
  induction l with
  |nil=>exact fun _=>rfl
  |cons i l ih=>
   intro h
   have hi:=h i G0p
   have e:es[i]? =some (es.toList.getD i (0,.none)):=by
    rw [G0B,G0F,G1W hi];rfl
   rw [List.filterMap_cons_some e,G0y,ih fun x hx=>h x (G0s _ hx)]
 rw [Array.size_map] at pm
 have lt: ∀i∈order.toList,i<es.size:=fun i hi=>G0x.mp (pm.mem_iff.mp hi)
 have e1:(order.filterMap (es[·]?)).toList=order.toList.map (fun i=>es.toList.getD i (0,.none)):=by
  rw [Array.toList_filterMap];exact fe _ lt
 have e2:es.toList=(List.range es.size).map (fun i=>es.toList.getD i (0,.none)):=by
  have:=jbv es.toList (0,(.none:Value))
  rwa [G0j] at this
 have pe:(order.filterMap (es[·]?)).toList.Perm es.toList:=by
  have:=pm.map (fun i=>es.toList.getD i (0,.none))
  rw [←e2] at this
  rw [e1];exact this
 have sz:(order.filterMap (es[·]?)).size=es.size:=by have:=pe.length_eq;rwa [G0j,G0j] at this
 have hh:(order.filterMap (es[·]?)).toList.map (·.1)=order.toList.map fun i=>(es.map (·.1)).toList.getD i 0:=by
  rw [e1,G0S]
  refine G0O fun i hi=> ?_
  show (es.toList.getD i (0,.none)).1=(es.map (·.1)).toList.getD i 0
  have z:i<es.toList.length:=by rw [G0j];exact lt i hi
  rw [Array.toList_map,G0B,G0B,G0i,G0b z];rfl
 rw [←hh] at l'
 refine wpAny_bind ?_
 show wpAny _ _ (ite _ _ _) _ _ _
 rw [if_neg (by rw [sz];simp)]
 refine G0d ?_
 dsimp only
 exact wpAny_storeSet_of (s:=s) ho rfl (k _ t' _ pe l' ld m1 m2 (G0Z _ ho rfl) (G04 ..)) (by rw [sz];exact G01 (show es.size≤40000 by omega) (by decide))
set_option maxHeartbeats 4000000 in
theorem jnT {Q:Bool→Shared→Prop} {b:Addr} {h:Int} {eqk:Nat→Bool} {bv:Bool} {fuel:Nat} (l:Laid t (es.toList.map (·.1))) (few:t.mask≤9000) (lean:es.size*5<t.mask*3) (ho:s.heap.get? a=some (jc2 es ep t))
 (refs: ∀ (i:Nat) (y:Value),es[i]? =some (h,y)→ ∃b,y= .ref b)
 (seen: ∀Q' :Bool→Shared→Prop,Q' false s→wpAny (model prog w) A (searchCouldBeSeen (.ref b) ((es.filter (·.1==h)).toList.map (·.2))) Q' E s)
 (cmp: ∀ (i:Nat) (y:Value),es[i]? =some (h,y)→ ∀Q' :Bool→Shared→Prop,Q' (eqk i) s→wpAny (model prog w) A (holding [y] (eqBool y (.ref b))) Q' E s)
 (byv: ∀Q' :Bool→Shared→Prop,Q' bv s→wpAny (model prog w) A (hashByValue 8 (.ref b)) Q' E s)
 (new:(∀ (i:Nat) (y:Value),es[i]? =some (h,y)→eqk i=false)→ ∀es' ep' t' h',es'.toList.Perm (es.push (h,.ref b)).toList→Laid t' (es'.toList.map (·.1))→t'.mask≤max t.mask (8*es.size+16)→es'.size*5<t'.mask*3→t'.led=t.led→h'.get? a=some (jc2 es' ep' t')→Heap.SameBut a s.heap h' →Q true {s with heap:=h'})
 (there: ∀ (i:Nat) (y:Value),es[i]? =some (h,y)→eqk i=true→Q false s):wpAny (model prog w) A (setAddHashedIn a (.ref b) h (fuel+1)) Q E s:=by
 have fit:t.fits es.size=true:=l.fits (by rw [G0c,G0j])
 have sz:(es.toList.map (·.1)).length=es.size:=by rw [G0c,G0j]
 unfold setAddHashedIn
 refine wpAny_bind (G1m ho rfl fit ?_)
 dsimp only
 rw [show byScan (.ref b) es=false from rfl]
 simp only [G1f,↓reduceIte]
 refine wpAny_bind (jja (eqk:=eqk) l few ho refs seen cmp (fun j no em jm wy=> ?_) (fun i y e ek=> ?_))
 ·dsimp only
  refine wpAny_bind (G1m ho rfl fit ?_)
  dsimp only
  have l1:=l.put em jm wy (by rw [sz];have:=l.big;omega)
  have l1:=(congrArg (Laid (t.put j).1) (jjb es h (.ref b) (t.put j).2)).mpr l1
  have z0:(SetTable.insertAt es (t.put j).2 (h,.ref b)).size=es.size+1:=by
   have:=(G22 es (t.put j).2 (h,(.ref b:Value))).length_eq
   rw [G0j,G0j,Array.size_push] at this
   exact this
  have z1:(SetTable.insertAt es (t.put j).2 (h,.ref b)).size≤sizeLine:=by
   rw [z0];exact G01 (show es.size+1≤10000 by omega) (by decide)
  have rest: ∀t2:SetTable,Laid t2 ((SetTable.insertAt es (t.put j).2 (h,.ref b)).toList.map (·.1))→t2.led=t.led→t2.mask=t.mask→wpAny (model prog w) A (do storeSet a (SetTable.insertAt es (t.put j).2 (h,.ref b)) t2;if (!false&&t2.tooFull)=true then (do setRelay a (SetTable.grown (es.size+1));pure true) else pure true) Q E s:=fun t2 l2 ld mk=>by
   refine wpAny_bind (wpAny_storeSet_of (s:=s) ho rfl ?_ z1)
   have o1:(s.heap.update a (Obj.putSet (SetTable.insertAt es (t.put j).2 (h,.ref b)) t2)).get? a=some (jc2 (SetTable.insertAt es (t.put j).2 (h,.ref b)) (ep+1) t2):=G0Z _ ho rfl
   cases tf:t2.tooFull with
   |true=>
    simp only [G4g,G4s,↓reduceIte]
    refine wpAny_bind (jkH (wd:=SetTable.grown (es.size+1)) (ep:=ep+1) l2 o1 (by rw [z0];unfold SetTable.grown;split<;>omega) (by unfold SetTable.grown;split<;>omega) fun es' t' h' pe l' ld' m1 m2 o2 sb=> ?_)
    refine G0d (new no es' (ep+1+1) t' h' (pe.trans (G22 ..)) l' ?_ ?_ (ld'.trans ld) o2 (Heap.SameBut.trans (G04 ..) sb))
    ·unfold SetTable.grown at m2;split at m2<;>omega
    ·have:=pe.length_eq
     rw [G0j,G0j,z0] at this
     unfold SetTable.grown at m1;split at m1<;>omega
   |false=>
   simp only [G29,G1f,↓reduceIte]
   refine G0d (new no _ (ep+1) t2 _ (G22 ..) l2 (by omega) ?_ ld (G0Z _ ho rfl) (G04 ..))
   rw [z0]
   have s2:=l2.size
   rw [G0c,G0j,z0] at s2
   have: ¬ (t2.fill*5≥t2.mask*3):=by simpa [SetTable.tooFull] using tf
   have f2:t2.fill=es.size+1:=by unfold SetTable.fill;rw [l2.dum,s2];rfl
   omega
  cases hp:(t.put j).1.plain
  ·simp only [G1f,↓reduceIte]
   refine wpAny_bind (G0d ?_)
   simp only [↓reduceIte]
   exact rest (t.put j).1 l1 rfl rfl
  ·simp only [↓reduceIte]
   refine wpAny_bind (byv _ ?_)
   cases bv
   ·simp only [G1f,↓reduceIte]
    exact rest _ (l1.plain false) rfl rfl
   ·simp only [↓reduceIte]
    exact rest (t.put j).1 l1 rfl rfl
 ·exact G0d (there i y e ek)
end L2
namespace L2
open PySem PySem.Spec PyProof.Rows HT
def jnU (h h' :Heap):Prop:= ∀ (b:Addr) (o:Obj),o.cls= .type "tuple" →h.get? b=some o→h'.get? b=some o
theorem jgd {α β:Type} {M:Model} {A:Around} {E:Value→Shared→Prop} {s:Shared} {f:α→β→Sem (ForInStep β)} {r:β} {Q:β→Shared→Prop}: ∀ (l:List α),(∀x∈l,∀Q' :ForInStep β→Shared→Prop,Q' (.yield r) s→wpAny M A (f x r) Q' E s)→Q r s→wpAny M A (forIn l r f) Q E s
 | [],_,q=>G0d q
 |x::l,h,q=>by
  rw [G2T]
  exact wpAny_bind (h x (.head _) _ (jgd l (fun y hy=>h y (.tail _ hy)) q))
structure MemK (prog:Program) (w:World) (K:Type) [DecidableEq K] where
 is:Heap→K→Addr→Prop
 hash:K→Int
 inj: ∀ {h:Heap} {x y:K} {a:Addr},is h x a→is h y a→x=y
 keep: ∀ {h h' :Heap} {x:K} {a:Addr},jnU h h' →is h x a→is h' x a
 hashed: ∀ {A:Around} {E:Value→Shared→Prop} {s:Shared} {x:K} {a:Addr} {Q:Int→Shared→Prop},A.units+8<cLine→is s.heap x a→(∀tk,Q (hash x) {s with toks:=tk})→wpAny (model prog w) A (pyHash (.ref a)) Q E s
 same: ∀ {A:Around} {E:Value→Shared→Prop} {s:Shared} {x y:K} {a b:Addr} {Q:Bool→Shared→Prop},A.units+8<cLine→is s.heap x a→is s.heap y b→Q (decide (x=y)) s→wpAny (model prog w) A (eqBool (.ref a) (.ref b)) Q E s
 quiet: ∀ {A:Around} {E:Value→Shared→Prop} {s:Shared} {x:K} {a:Addr} {Q:Bool→Shared→Prop},is s.heap x a→Q true s→wpAny (model prog w) A (eqIsQuiet 8 (.ref a)) Q E s
 cls: ∀ {A:Around} {E:Value→Shared→Prop} {s:Shared} {x:K} {a:Addr} {Q:Bool→Shared→Prop},is s.heap x a→Q false s→wpAny (model prog w) A (ofAClassStatement 8 (.ref a)) Q E s
 byv: ∀ {A:Around} {E:Value→Shared→Prop} {s:Shared} {x:K} {a:Addr} {Q:Bool→Shared→Prop},is s.heap x a→Q true s→wpAny (model prog w) A (hashByValue 8 (.ref a)) Q E s
section
variable {prog:Program} {w:World} {A:Around} {E:Value→Shared→Prop} {s:Shared} {K:Type} [DecidableEq K]
theorem jnV (M:MemK prog w K) {x:K} {a:Addr} {stored:List Value} {Q:Bool→Shared→Prop} (hx:M.is s.heap x a) (hs: ∀y∈stored,∃k b,y= .ref b∧M.is s.heap k b) (q:Q false s):wpAny (model prog w) A (searchCouldBeSeen (.ref a) stored) Q E s:=by
 unfold searchCouldBeSeen
 refine wpAny_bind (jgd stored (fun y hy Q' q' => ?_) (G0d q))
 obtain⟨k,b,rfl,hk⟩:=hs y hy
 by_cases c:(a==b)=true
 ·simp only [c,Bool.true_or,↓reduceIte]
  exact G0d q'
 ·simp only [c,show carriedByValue (.ref a)=false from rfl,G4f,Bool.or_false,G1f,↓reduceIte]
  refine wpAny_bind (M.quiet hx (wpAny_bind (M.quiet hk (wpAny_bind (M.cls hx (wpAny_bind (M.cls hk ?_)))))))
  exact G0d q'
structure SetT (M:MemK prog w K) (L:Bool) (is:K→Addr→Prop) (f:Int×Value→K) (es:Array (Int×Value)) (t:SetTable) (ks:List K):Prop where
 laid:Laid t (es.toList.map (·.1))
 led:t.led=L
 lean:es.size*5<t.mask*3
 mask:t.mask≤8*ks.length+16
 each: ∀e∈es.toList,e.1=M.hash (f e)∧ ∃b,e.2= .ref b∧is (f e) b
 nd:(es.toList.map f).Nodup
 mem: ∀k,k∈es.toList.map f↔k∈ks
theorem jhj: ∀ {xs ys:List K},xs.Nodup→(∀x∈xs,x∈ys)→xs.length≤ys.length
 | [],_,_,_=>G1c _
 |x::xs,ys,nd,h=>by
  obtain⟨n1,n2⟩:=G1K.mp nd
  have le:=jhj (ys:=ys.erase x) n2 fun y hy=>(G2I (fun (e:y=x)=>n1 (by rw [←e];exact hy))).mpr (h y (.tail _ hy))
  rw [G2n (h x (.head _))] at le
  have pos:=G2v (h x (.head _))
  rw [G0k]
  omega
theorem SetT.size {M:MemK prog w K} {L:Bool} {is:K→Addr→Prop} {f:Int×Value→K} {es:Array (Int×Value)} {t:SetTable} {ks:List K} (S:SetT M L is f es t ks):es.size≤ks.length:=by
 have:=jhj S.nd fun k hk=>(S.mem k).mp hk
 rwa [G0c,G0j] at this
theorem SetT.tab {M:MemK prog w K} {L:Bool} {is:K→Addr→Prop} {f:Int×Value→K} {es:Array (Int×Value)} {t:SetTable} {ks:List K} (S:SetT M L is f es t ks):Tab L es.size t:=
 ⟨S.laid.fits (by rw [G0c,G0j]),S.led,S.laid.dum,fun _=>S.laid.rise⟩
theorem SetT.imp {M:MemK prog w K} {L:Bool} {is is' :K→Addr→Prop} {f:Int×Value→K} {es:Array (Int×Value)} {t:SetTable} {ks:List K} (S:SetT M L is f es t ks) (h: ∀k b,is k b→is' k b):SetT M L is' f es t ks:=
 ⟨S.laid,S.led,S.lean,S.mask,fun e he=>by
  obtain⟨a,b,c,d⟩:=S.each e he
  exact⟨a,b,c,h _ _ d⟩,S.nd,S.mem⟩
set_option maxHeartbeats 1000000 in
theorem jkI {M:MemK prog w K} {L:Bool} {is:K→Addr→Prop} {f:Int×Value→K} {es:Array (Int×Value)} {ep:Nat} {t:SetTable} {ks:List K} {a b:Addr} {k:K} {Q:Bool→Shared→Prop} (hu:A.units+8<cLine) (S:SetT M L is f es t ks) (ho:s.heap.get? a=some (jc2 es ep t)) (few:ks.length<1000) (to: ∀k b,is k b→M.is s.heap k b) (hk:is k b)
 (q: ∀r f' es' ep' t' h' tk,SetT M L is f' es' t' (k::ks)→h'.get? a=some (jc2 es' ep' t')→Heap.SameBut a s.heap h' →Q r {s with heap:=h',toks:=tk}):wpAny (model prog w) A (setAdd a (.ref b)) Q E s:=by
 refine G1x (wpAny_bind (M.hashed hu (to _ _ hk) fun tk=>G1x ?_))
 show wpAny _ _ (setAddHashedIn a (.ref b) (M.hash k) (99999+1)) _ _ _
 have at_: ∀ (i:Nat) (y:Value),es[i]? =some (M.hash k,y)→(M.hash k,y)∈es.toList:=fun i y e=>by
  rw [←G0F] at e;exact G0h e
 refine jnT (s:= {s with toks:=tk}) (eqk:=fun i=>match es[i]? with
  |some e=>decide (f e=k)
  |none=>false) (bv:=true) S.laid (G01 S.mask (by omega)) S.lean ho (fun i y e=> ?_) (fun Q' q' => ?_) (fun i y e Q' q' => ?_) (fun Q' q' =>M.byv (to _ _ hk) q') (fun no es' ep' t' h' pe l' mk ln ld o' sb=> ?_) (fun i y e ek=> ?_)
 ·obtain⟨_,c,d,_⟩:=S.each _ (at_ i y e);exact⟨c,d⟩
 ·refine jnV M (to _ _ hk) (fun y hy=> ?_) q'
  obtain⟨e,he,rfl⟩:=G0D.mp hy
  obtain⟨_,c,d,i⟩:=S.each e (by rw [Array.toList_filter] at he;exact(G1Y.mp he).1)
  exact⟨_,c,d,to _ _ i⟩
 ·obtain⟨_,c,d,i'⟩:=S.each _ (at_ i y e)
  have d:y= .ref c:=d
  subst d
  simp only [e] at q'
  exact G1x (M.same hu (to _ _ i') (to _ _ hk) q')
 ·have kn:k ∉ ks:=fun z=>by
   obtain⟨e,he,fe⟩:=G0D.mp ((S.mem k).mpr z)
   obtain⟨i,hi⟩:=G2K he
   obtain⟨e1,e2⟩:=e
   have h1:=(S.each _ he).1
   rw [fe] at h1
   have h1:e1=M.hash k:=h1
   subst h1
   have hi:es[i]? =some (M.hash k,e2):=by rw [←G0F];exact hi
   have:=no i e2 hi
   simp only [hi,fe,decide_true] at this
   cases this
  have same: ∀e∈es.toList,(if e=(M.hash k,.ref b) then k else f e)=f e:=fun e he=>by
   by_cases c:e=(M.hash k,.ref b)
   ·rw [if_pos c]
    obtain⟨_,c',d,i⟩:=S.each e he
    rw [c] at d
    cases d
    exact M.inj (to _ _ hk) (to _ _ i)
   ·rw [if_neg c]
  have me:(es.toList.map fun e=>if e=(M.hash k,.ref b) then k else f e)=es.toList.map f:=G0O same
  have pk:=pe.map fun e=>if e=(M.hash k,.ref b) then k else f e
  rw [G1U,G1s,me] at pk
  have one:(List.map (fun e=>if e=(M.hash k,.ref b) then k else f e) [(M.hash k,.ref b)])= [k]:=by simp
  rw [one] at pk
  have sz:=S.size
  refine q true (fun e=>if e=(M.hash k,.ref b) then k else f e) es' ep' t' h' tk ⟨l',ld.trans S.led,ln,?_,fun e he=> ?_,pk.nodup_iff.mpr ?_,fun m=>pk.mem_iff.trans ?_⟩ o' sb
  ·have:=S.mask
   rw [G0k]
   omega
  ·have z:=pe.mem_iff.mp he
   rw [G1U] at z
   rcases G0z.mp z with z|z
   ·rw [same e z];exact S.each e z
   ·have z:=G0g.mp z
    subst z
    rw [if_pos rfl]
    exact⟨rfl,b,rfl,hk⟩
  ·rw [List.nodup_append]
   refine⟨S.nd,by simp,fun x hx y hy e=> ?_⟩
   have:y=k:=by simpa using hy
   subst this;subst e
   exact kn ((S.mem _).mp hx)
  ·rw [G0z,S.mem m,G0g,G0C,or_comm]
 ·have hin:k∈ks:=by
   simp only [e,G1A] at ek
   rw [←ek]
   exact(S.mem _).mp (List.mem_map_of_mem (at_ i y e))
  refine q false f es ep t s.heap tk ⟨S.laid,S.led,S.lean,?_,S.each,S.nd,fun m=>(S.mem m).trans ?_⟩ ho (G2F _ _)
  ·have:=S.mask
   rw [G0k]
   omega
  ·rw [G0C]
   exact⟨.inr,fun z=>z.elim (fun e=>e ▸ hin) id⟩
end
section
variable {prog:Program} {w:World} {A:Around} {E:Value→Shared→Prop} {s:Shared}
theorem jnW (n:Nat) {v:Value} (h:carriedByValue v=true):ofAClassStatement n v=pure false:=by
 cases v<;>first|(cases h;done)|simp [ofAClassStatement]
theorem jp6 {n:Int} {v:Value} (h:(intKind prog w).is n v=true): ∃tk,v= .int n tk:=by
 cases v<;>simp [intKind,Value.isInt] at h
 exact⟨_,by rw [h]⟩
theorem jjc {ks:List Int} {vs:List Value} (h:ItemsAre (intKind prog w) ks vs): ∀v∈vs,∃n tk,v= .int n tk:=by
 induction h with
 |nil=>exact fun v hv=>absurd hv G1i
 |cons h1 _ ih=>
  intro v hv
  rcases G0C.mp hv with rfl|hv
  ·obtain⟨tk,e⟩:=jp6 h1;exact⟨_,tk,e⟩
  ·exact ih v hv
theorem jnX {x:List Int} {a:Addr} {Q:Bool→Shared→Prop}:IsTupleKey (intKind prog w) s.heap x a→Q false s→wpAny (model prog w) A (ofAClassStatement 8 (.ref a)) Q E s
 |⟨_,_,_,ho,hc,hd,hi⟩,q=>by
  unfold ofAClassStatement
  refine wpAny_bind (G35 (T:= "tuple") ⟨_,ho,hc⟩ ?_)
  simp only [G2t,↓reduceIte,pure_bind,Bool.not_true,G1f]
  refine wpAny_bind (wpAny_seqItems ho hd (wpAny_bind ?_))
  simp only [←G3z]
  refine jgd _ (fun v hv Q' q' => ?_) (G0d q)
  rw [jnW 7 (hi.byValue v hv)]
  exact G0d q'
theorem jnY {x:List Int} {a:Addr} {Q:Bool→Shared→Prop}:IsTupleKey (intKind prog w) s.heap x a→Q true s→wpAny (model prog w) A (hashByValue 8 (.ref a)) Q E s
 |⟨_,_,_,ho,hc,hd,hi⟩,q=>by
  unfold hashByValue
  refine wpAny_bind (wpAny_specialOf (T:= "tuple") ⟨_,ho,hc⟩ F.slot_tuple_hash.lookup ?_)
  refine wpAny_bind (wpAny_seqItems ho hd (wpAny_bind ?_))
  simp only [Option.getD_some,←G3z]
  refine jgd _ (fun v hv Q' q' => ?_) (G0d q)
  obtain⟨m,tk,rfl⟩:=jjc hi v hv
  exact G0d q'
def jrd (prog:Program) (w:World):MemK prog w (List Int) where
 is:=fun h x a=>IsTupleKey (intKind prog w) h x a
 hash:=tupleKeyHash (intKind prog w)
 inj:=fun hx hy=>hx.inj hy
 keep:=fun k ⟨o,items,n,ho,hc,hd,hi⟩=>⟨o,items,n,k _ o hc ho,hc,hd,hi⟩
 hashed:=fun hu hk q=>wpAny_pyHash_tuple (by omega) hk (q _)
 same:=fun hu hx hy q=>wpAny_eqBool_tuple (by omega) hx hy q
 quiet:=fun hk q=>wpAny_eqIsQuiet_tuple hk q
 cls:=fun hk q=>jnX hk q
 byv:=fun hk q=>jnY hk q
end
end L2
namespace L2
open PySem PySem.Spec PyProof.Rows HT PySem.SeqAt
section
variable {prog:Program} {w:World} {A:Around} {E:Value→Shared→Prop} {a I:Addr} {fp wr:List Addr} {n:Nat} {P:Nat→Value→Prop} {St:Nat→Heap→Prop} {K:Type} [DecidableEq K] {M:MemK prog w K} {L:Bool} {is:K→Addr→Prop} {key:Nat→K}
theorem jfz {R:Result→Shared→Prop} (hu:A.units+16<cLine) (W:Walks prog w A.in1 I fp wr n P St) (num: ∀i v,P i v→ ∃b,v= .ref b∧is (key i) b) (na:a ∉ fp) (few:n<1000) (nt: ∀i h,St i h→ ∀b∈wr,∀o,h.get? b=some o→o.cls≠ .type "tuple"):
 ∀ (k i:Nat) (s:Shared) (f:Int×Value→K) (es:Array (Int×Value)) (ep:Nat) (t:SetTable),i+k=n→St i s.heap→s.heap.get? a=some (jc2 es ep t)→(∀k b,is k b→M.is s.heap k b)→SetT M L is f es t ((List.range i).map key).reverse→
  (∀h' tk f' es' ep' t',h'.get? a=some (jc2 es' ep' t')→SetT M L is f' es' t' ((List.range n).map key).reverse→(∀b o,b≠a→b ∉ wr→s.heap.get? b=some o→h'.get? b=some o)→R (.ok (.ret .none)) {s with heap:=h',toks:=tk})→
  codeAny (model prog w) A (.builtin "set.update.loop" ⟨[.ref a,.ref I],[]⟩) R s
 |0,i,s,f,es,ep,t,hk,st,ha,to,S,q=>by
  obtain rfl:i=n:=by omega
  refine G2V jg9 ?_
  rw [G3j jeN]
  exact wpAny_bind (W.done s _ _ st fun h' tk kept=>G0d (q h' tk f es ep t (kept _ _ (fun z=>na (W.sub _ z)) ha) S fun b o _ nb e=>kept b o nb e))
 |k+1,i,s,f,es,ep,t,hk,st,ha,to,S,q=>by
  refine G2V jg9 ?_
  rw [G3j jeN]
  refine wpAny_bind (W.item i s _ _ (by omega) st fun v h1 tk1 pv st1 kept1=> ?_)
  obtain⟨b,rfl,hb⟩:=num i v pv
  have ha1:=kept1 _ _ (fun z=>na (W.sub _ z)) ha
  have to1: ∀k b,is k b→M.is h1 k b:=fun k b z=>M.keep (fun c o hc e=>kept1 c o (fun m=>nt i _ st c m o e hc) e) (to k b z)
  refine wpAny_bind (G1x (jkI (s:= {s with heap:=h1,toks:=tk1}) (show A.units+1+8<cLine by omega) S ha1 (by simp;omega) to1 hb fun r f2 es2 ep2 t2 h2 tk2 S2 ha2 same2=>G0d ⟨plainId_quiet jeN _,?_⟩))
  have S3:SetT M L is f2 es2 t2 ((List.range (i+1)).map key).reverse:=by
   rw [G2o,G1s,List.reverse_append];exact S2
  have kep: ∀c o,o.cls= .type "tuple" →h1.get? c=some o→h2.get? c=some o:=fun c o hc e=>same2.extBut _ _ (fun z=>by
   subst z
   rw [show h1.get? c=some (jc2 es ep t) from ha1] at e
   cases e
   exact absurd (show Value.type "set" =Value.type "tuple" from hc) (by decide)) e
  refine jfz hu W num na few nt k (i+1) {s with heap:=h2,toks:=tk2} f2 es2 ep2 t2 (by omega) (W.frame _ _ _ st1 fun b hb o e=>same2.extBut _ _ (fun z=>na (z ▸ hb)) e) ha2 (fun k b z=>M.keep kep (to1 k b z)) S3 fun h' tk' f' es' ep' t' ha' S' kept' => ?_
  exact q h' tk' f' es' ep' t' ha' S' fun b o ba bw e=>kept' b o ba bw (same2.extBut _ _ ba (kept1 b o bw e))
theorem jl1 (L:Bool) (f:Int×Value→K):SetT M L is f #[] (.fresh 0 0 L) []:=⟨ji9 0 0 L,rfl,(by show 0*5<7*3;decide),(by show 7≤8*0+16;decide),fun e he=>absurd he (by simp),by simp,fun k=>by simp⟩
variable {s:Shared}
theorem jkJ {l:Addr} {vs:List Value} {ep:Nat} {Q:Option Value→Shared→Prop} (hu:A.units+32<cLine) (calm:A.handled=none)
 (hl:s.heap.IsList l vs.toArray) (hM: ∀i v,vs[i]? =some v→ ∃b,v= .ref b∧is (key i) b) (to: ∀k b,is k b→M.is s.heap k b) (few:vs.length<1000) (ha:s.heap.get? a=some (jc2 #[] ep (.fresh 0 0 (jcI w)))) (la:l≠a)
 (k: ∀h' tk f' es' ep' t',h'.get? a=some (jc2 es' ep' t')→SetT M (jcI w) is f' es' t' ((List.range vs.length).map key).reverse→(∀b o,b≠a→s.heap.get? b=some o→h'.get? b=some o)→Q (some .none) {s with heap:=h',toks:=tk}):
 wpAny (model prog w) A (callSpecial? (.ref a) "__init__" [.ref l]) Q E s:=by
 have ty:s.TypeIs (.ref a) "set" :=⟨_,ha,rfl⟩
 refine G1o ty F.called_set.init (G4c (G3i F.called_set.init.plain je5 (jf8 ty ?_)))
 have f1:=jha
 have f2:=jhb
 have isl:=hl
 obtain⟨⟨oc,od,odt,osl⟩,hol,hc,c,hd⟩:=hl
 simp only at hc hd
 subst hc hd
 have state:=fun {P:Array (Int×Value)×Nat×SetTable→Shared→Prop} {E' :Value→Shared→Prop} {A' :Around}=>G1m (prog:=prog) (w:=w) (A:=A') (E:=E') (Q:=P) (s:=s) ha rfl (jlI (jcI w)).tab.fits
 have far:a≠s.heap.objs.size:=fun z=>G02 _ (z ▸ G0n ha)
 have lfar:l≠s.heap.objs.size:=fun z=>G02 _ (z ▸ G0n hol)
 have na:a ∉ [s.heap.objs.size,l]:=by simp [far,la.symm]
 have tl:s.TypeIs (.ref l) "list" :=⟨_,hol,rfl⟩
 have sv:vs.toArray.size=vs.length:=G0u ..
 wp_walk using state,G2j isl
 have W:=Walks.list (prog:=prog) (w:=w) (A:=A.in1.in1) calm s.heap.objs.size l lfar vs.toArray
 refine jfz (f:=fun _=>key 0) (M:=M) (is:=is) (key:=key) (show A.units+1+16<cLine by omega) W (fun i v hv=>hM i v (by simpa using hv)) na (by rw [sv];exact few) (fun i h st b hb o e=> ?_) vs.toArray.size 0 _ #[] ep _ (G11 _) ⟨⟨_,G0q _ rfl,rfl,rfl⟩,⟨_,G0a _ hol,rfl,c,rfl⟩⟩ (G0a _ ha) (fun k b z=>M.keep (fun c o hc e=>G0a _ e) (to k b z)) (jl1 _ _) fun h' tk f' es' ep' t' e S kept=> ?_
 ·obtain⟨⟨o',e',c',_⟩,_⟩:=st
  rw [G0g.mp hb,e'] at e
  cases e
  rw [c'];decide
 ·rw [sv] at S
  exact G0d (G0d (k h' tk f' es' ep' t' e S fun b ob nb q=>kept b ob nb (fun z=>G02 _ (G0g.mp z ▸ G0n q)) (G0a _ q)))
theorem jl2 {l:Addr} {vs:List Value} {Q:Value→Shared→Prop} (hu:A.units+40<cLine) (calm:A.handled=none)
 (hl:s.heap.IsList l vs.toArray) (hM: ∀i v,vs[i]? =some v→ ∃b,v= .ref b∧is (key i) b) (to: ∀k b,is k b→M.is s.heap k b) (few:vs.length<1000)
 (k: ∀h' tk f' es' ep' t',h'.get? s.heap.objs.size=some (jc2 es' ep' t')→SetT M (jcI w) is f' es' t' ((List.range vs.length).map key).reverse→(∀b o,s.heap.get? b=some o→h'.get? b=some o)→Q (.ref s.heap.objs.size) {s with heap:=h',toks:=tk}):
 wpAny (model prog w) A (call (.type "set") [.ref l]) Q E s:=by
 have fits:checkTypeCall "set" ⟨[.ref l],[]⟩=pure ():=by kernel_rfl
 have newFits:checkBuiltinCall "set.__new__" ⟨[.type "set",.ref l],[]⟩=pure ():=by kernel_rfl
 obtain⟨o,hol,r⟩:=hl
 refine L2.jeK (Made:=fun v s₁=>v= .ref s.heap.objs.size∧s₁= {s with heap:=s.heap.push (jc2 #[] 0 (.fresh 0 0 (jcI w)))}) F.called_set fits
  (G4c (G3i F.called_set.plain F.entry_set_new (wpAny_of_eq newFits (jlJ ⟨rfl,rfl⟩)))) fun v s₁ ⟨ev,es⟩=> ?_
 subst ev es
 have at_:(s.heap.push (jc2 #[] 0 (.fresh 0 0 (jcI w)))).get? s.heap.objs.size=some (jc2 #[] 0 (.fresh 0 0 (jcI w))):=G0q _ rfl
 refine⟨⟨_,at_,rfl⟩,jkJ (s:= {s with heap:=s.heap.push (jc2 #[] 0 (.fresh 0 0 (jcI w)))}) (M:=M) (is:=is) (key:=key) (show A.units+1+32<cLine by omega) calm ⟨o,G0a _ hol,r⟩ hM (fun k b z=>M.keep (fun c o hc e=>G0a _ e) (to k b z)) few at_ (fun z=>G02 _ (z ▸ G0n hol)) fun h' tk f' es' ep' t' e S kept=>⟨rfl,k h' tk f' es' ep' t' e S fun b ob q=>kept b ob (fun z=>G02 _ (z ▸ G0n q)) (G0a _ q)⟩⟩
theorem jhU {es:Array (Int×Value)} {ep:Nat} {t:SetTable} {Q:Value→Shared→Prop} (hu:A.in1.in1.units<cLine) (calm:A.handled=none) (S:Tab (jcI w) es.size t) (ha:s.heap.get? a=some (jc2 es ep t)) (few:es.size<1000) (x: ∀e∈es.toList,∃ns,IT s.heap e.2 ns)
 (k: ∀ (h1 h' :Heap) d (tk c:Nat) (out:List Value),jhf s.heap h1→jhf h1 h' →h'.get? h1.objs.size=some (seqObj "list" out.toArray c)→out.Perm (es.toList.map (·.2))→out.Pairwise (fun x y=>HT.jaJ (jbb s.heap y) (jbb s.heap x)=false)→
  Q (.ref h1.objs.size) {s with heap:=h',drawn:=d,toks:=tk}):wpAny (model prog w) A (call (.builtin "sorted") [.ref a]) Q E s:=by
 refine Calls.call_function_entry kind_sorted plain_sorted entry_sorted (args_sorted1 _) (wpAny_bind (G0d (wpAny_bind (wpAny_bind (wpAny_runValue (G34 (ji7 calm S ha few) fun res s' listed=> ?_))))))
 obtain⟨h1,d,tk,acc,c0,rfl,rfl,made,kept,p⟩:=listed
 refine wpAny_bind (wpAny_load made (G0d ?_))
 have len:acc.toList.length=es.size:=by rw [p.length_eq,G0c,G0j]
 have hz:acc.toList.length≤sizeLine:=by rw [len];exact G01 (G1j few) (by decide)
 have fresh:(h1.push (seqObj "list" acc.toList.toArray 0)).get? h1.objs.size=some (seqObj "list" acc.toList.toArray 0):=G0q _ rfl
 have kp: ∀h',joa {s with heap:=h1.push (seqObj "list" acc.toList.toArray 0),drawn:=d,toks:=tk} h1.objs.size h' →jhf h1 h' :=fun h' p b x e=>p b x (G0R (G0n e)) (G0a _ e)
 have ks: ∀h',joa {s with heap:=h1.push (seqObj "list" acc.toList.toArray 0),drawn:=d,toks:=tk} h1.objs.size h' →jhf s.heap h' :=fun h' p b x e=>kp h' p b x (kept b x e)
 have it: ∀v∈acc.toList,∃ns,IT s.heap v ns:=fun v hv=>by
  obtain⟨e,he,rfl⟩:=G0D.mp (p.mem_iff.mp hv)
  exact x e he
 refine wpAny_bind (wpAny_newList (wpAny_bind (G1x (G1p slot_list_sort ⟨_,fresh,rfl⟩ entry_list_sort (jlT (s:= {s with heap:=h1.push (seqObj "list" acc.toList.toArray 0),drawn:=d,toks:=tk}) (κ:=jks s.heap acc.toList) (U:=fun x=> ∃ns,IT s.heap x.1 ns) (R:=fun x y=>HT.jaJ (jbb s.heap x.1) (jbb s.heap y.1)) fresh hz
  (fun h2 h' p=>jkt (s:= {s with heap:=h',drawn:=d,toks:=tk}) h2 it (ks h' p) ⟨rfl,tk,rfl⟩) (fun h' p=>jku (s:= {s with drawn:=d}) hu (ks h' p)) (jkr _) it fun out c tk' h' p' e1 e2 e3=>⟨_,rfl,?_⟩) (args_list_sort _)))) hz)
 refine G0d ⟨_,rfl,k h1 h' d tk' c out kept (kp h' p') e1 (e2.trans p) ?_⟩
 rw [G1V] at e3
 exact e3
end
theorem jfA {prog:Program} {w:World}: ∀ {vs:List Value} {ns:List Int},IntsAre vs ns→ItemsAre (intKind prog w) ns vs
 |_,_,.nil=> .nil
 |_,_,.cons n t a=> .cons (by simp [intKind,Value.isInt]) (jfA a)
def jmC (prog:Program) (w:World) (H:Hp) (o:Obj) (ks:List (List Int)):Prop:= ∃es ep t f,o=jc2 es ep t∧SetT (jrd prog w) (jcI w) (fun k b=>H b=some (.tup (k.map V.int))) f es t ks
theorem jp7 {X:Cx} {pins:List (Addr×Obj)} {σ:St} {H:Hp} {s:Shared} (I:Inv X pins σ H s) (k:List Int) (b:Addr) (h:H b=some (.tup (k.map V.int))):(jrd X.prog X.w).is s.heap k b:=by
 obtain⟨_,us,r2,o,e,c,_,n,d⟩:=I.hok b _ h
 exact⟨o,us.toArray,n,e,c,d,jfA (jid r2)⟩
theorem jp8 {X:Cx} {pins:List (Addr×Obj)} {σ:St} {H:Hp} {s:Shared} (I:Inv X pins σ H s) (k:List Int) (b:Addr) (h:H b=some (.tup (k.map V.int))):IT s.heap (.ref b) k:=by
 obtain⟨_,us,r2,p⟩:=I.hok b _ h
 exact⟨b,us.toArray,rfl,p.tup,jid r2⟩
theorem jkK {X:Cx} {k:Nat} (hc:X.calm=true) (hr:Room k X.A):CallR X (.type "set") (fun xs H Q=> ∃ (a:Addr) (ps:List (V×List Int)),xs= [.ref a]∧SqL X.K H a (ps.map (·.1))∧ps.length<1000∧(∀p∈ps,jp1 H p.1 p.2)∧ ∀ (p:Addr) (o:Obj),H p=none→jmC X.prog X.w H o (ps.map (·.2)).reverse→Q (.ref p) (upd H p (.frz o (.own 0)))):=by
 intro pins s σ H xs us Q I r h
 obtain⟨a,ps,rfl,hS,few,ht,q⟩:=h
 obtain⟨u,rfl,ru⟩:=jeb r
 cases ru
 obtain⟨its,rv,pl,hz⟩:=I.list hS
 have len:its.length=ps.length:=by have:=rv.length;rw [G0c] at this;exact this.symm
 have hu:X.A.units+40<cLine:=by have:=hr.un;omega
 have at_: ∀i v,its[i]? =some v→ ∃b,v= .ref b∧H b=some (.tup (((ps.map (·.2)).getD i []).map V.int)):=by
  clear hS q few hz pl len
  induction ps generalizing its with
  |nil=>cases rv;exact fun i v e=>by cases e
  |cons p ps ih=>
   rw [G0y] at rv
   cases rv with
   |cons r1 r2=>
    intro i v e
    cases i with
    |zero=>
     obtain⟨b,eb,hb⟩:=ht p G0p
     rw [eb] at r1
     cases e
     exact⟨b,r1,hb⟩
    |succ i=>exact ih (fun p hp=>ht p (G0s _ hp)) _ r2 i v e
 have rng:(List.range its.length).map (fun i=>(ps.map (·.2)).getD i [])=ps.map (·.2):=by
  have:=jbv (ps.map (·.2)) ([]:List Int)
  rw [G0c] at this
  rw [len];exact this.symm
 refine jl2 (M:=jrd X.prog X.w) (is:=fun k b=>H b=some (.tup (k.map V.int))) hu (I.ok.hd hc) pl.isList at_ (jp7 I) (by omega) fun h' tk f es ep t e S kept=> ?_
 rw [rng] at S
 exact⟨.ref _,_,I.laid (t' :=tk) (o:= .frz (jc2 es ep t) (.own 0)) kept (G0f _) ⟨e,⟨_,e⟩⟩,rfl,q _ _ (I.hok.fresh (G0f _)) ⟨es,ep,t,f,rfl,S⟩⟩
def job:Value→V
 | .ref b=> .ref b
 |_=> .int 0
theorem jjd {x y:List Int} (h:HT.jaJ y x=false) (ne:x≠y):HT.jaJ x y=true:=by
 cases e:HT.jaJ x y with
 |true=>rfl
 |false=>exact absurd (jeS _ _ e h) ne
theorem jge {X:Cx} {k:Nat} (hc:X.calm=true) (hr:Room k X.A):CallR X (.builtin "sorted") (fun xs H Q=> ∃ (p:Addr) (o:Obj) (ks:List (List Int)),xs= [.ref p]∧H p=some (.frz o (.own 0))∧jmC X.prog X.w H o ks∧ks.length<1000∧ ∀ (q:Addr) (ps:List (V×List Int)),H q=none→(∀x∈ps,jp1 H x.1 x.2)→(ps.map (·.2)).Pairwise (fun x y=>HT.jaJ x y=true)→(∀k,k∈ps.map (·.2)↔k∈ks)→Q (.ref q) (upd H q (.lst (ps.map (·.1))))):=by
 intro pins s σ H xs us Q I r h
 obtain⟨p,o,ks,rfl,hp,⟨es,ep,t,f,rfl,S⟩,few,q⟩:=h
 obtain⟨u,rfl,ru⟩:=jeb r
 cases ru
 have hu:X.A.in1.in1.units<cLine:=by
  have:=hr.un
  show X.A.units+1+1<cLine
  omega
 have it: ∀e∈es.toList,IT s.heap e.2 (f e)∧jp1 H (job e.2) (f e)∧RelV (job e.2) e.2:=fun e he=>by
  obtain⟨_,b,eb,hb⟩:=S.each e he
  rw [eb]
  exact⟨jp8 I _ _ hb,⟨b,rfl,hb⟩,rfl⟩
 have sz:=S.size
 refine jhU hu (I.ok.hd hc) S.tab (I.hok p _ hp).1 (by omega) (fun e he=>⟨_,(it e he).1⟩) fun h1 h' d tk c out k1 k2 lies pm srt=> ?_
 obtain⟨zs,pz,rfl⟩:=jhh pm
 have I1:=(I.kept (t' :=s.toks) k1).drew d
 have vv: ∀l:List (Int×Value),(∀z∈l,z∈es.toList)→Vals ((l.map fun e=>(job e.2,f e)).map (·.1)) (l.map (·.2)):=fun l=>by
  induction l with
  |nil=>exact fun _=> .nil
  |cons z l ih=>exact fun sub=> .cons (it z (sub z G0p)).2.2 (ih fun y hy=>sub y (G0s _ hy))
 have m2:(zs.map fun e=>(job e.2,f e)).map (·.2)=zs.map f:=by rw [G0S];rfl
 refine⟨.ref _,_,I1.laid (t' :=tk) (o:= .lst ((zs.map fun e=>(job e.2,f e)).map (·.1))) k2 (G0f _) ⟨?_,_,c,vv zs fun z hm=>pz.mem_iff.mp hm,lies⟩,rfl,q _ (zs.map fun e=>(job e.2,f e)) (I1.hok.fresh (G0f _)) (fun x hx=> ?_) ?_ fun k=> ?_⟩
 ·rw [G0c,G0c,pz.length_eq,G0j];exact G01 (show es.size≤1000 by omega) (by decide)
 ·obtain⟨e,he,rfl⟩:=G0D.mp hx
  exact(it e (pz.mem_iff.mp he)).2.1
 ·rw [m2]
  have nd:(zs.map f).Nodup:=(pz.map f).nodup_iff.mpr S.nd
  unfold List.Nodup at nd
  rw [G1V] at srt nd ⊢
  refine(srt.and nd).imp_of_mem fun {y z} hy hz ⟨e,ne⟩=> ?_
  rw [(it y (pz.mem_iff.mp hy)).1.nums,(it z (pz.mem_iff.mp hz)).1.nums] at e
  exact jjd e ne
 ·rw [m2]
  exact(pz.map f).mem_iff.trans (S.mem k)
def dST (ta:TAD):TED:=fun σ h Q=>ta σ h fun ds h1=> ∃ (a:Addr) (nss:List (List Int)),ds= [.lst a]∧h1 a=some (nss.map tI)∧nss.length<1000∧ ∀ (p:Addr) (kss:List (List Int)),h1 p=none→kss.Pairwise (fun x y=>HT.jaJ x y=true)→(∀k,k∈kss↔k∈nss)→Q (.lst p) (jb2 h1 p (kss.map tI))
theorem jst {X : Cx} {k : Nat} {a : Expr} {ta : TAD} {p p2 pos pos2 : Pos} (hr : Room k X.A) (hc : X.calm = true) (hg : Gl X "sorted") (hm : X.mg "sorted" = none) (hg2 : Gl X "set") (hm2 : X.mg "set" = none) (ha : JA X [a] ta) (hs : starEach [a] X.env = [(false, eval a X.env)] := by rfl)
    (h1 : starEach [.Call (.Name "set" p2) [a] [] pos2] X.env = (false, eval (.Call (.Name "set" p2) [a] [] pos2) X.env) :: starEach [] X.env := by rfl) (h2 : (backTo pos (starEach [] X.env)).any (·.1) = false := by rfl) (h3 : (backTo pos2 (starEach [] X.env)).any (·.1) = false := by rfl) :
    JE X (.Call (.Name "sorted" p) [.Call (.Name "set" p2) [a] [] pos2] [] pos) (dST ta) :=
  ⟨(jfD (jge hc hr) hg hm (by decide +kernel) (jc8 (jen (jkK hc hr) hg2 hm2 (by decide +kernel) ha.to (by decide) (by decide) hs h3) pa_nil h1) (by decide) (by decide) h1 h2).imp
    fun σ H Q ⟨σd, h, Qd, rs, rh, t, post⟩ => LA.bind rs rh t fun ds vs h1 H1 k1 rs1 rh1 r1 ⟨a, nss, e, hd, few, q⟩ => by
      subst e
      obtain ⟨v, e, r2⟩ := jaC r1
      obtain ⟨ws, hH, r3⟩ := rh1 a _ hd
      have e1 : v = .ref a := r2.1
      subst e e1
      obtain ⟨ps, rfl, rfl, ht⟩ := jkv r3
      rw [G0c] at few
      refine ⟨a, ps, rfl, SqL.of hH, few, ht, fun c o hcn S => ?_⟩
      have rh2 := rh1.new (o := .frz o (.own 0)) hcn
      have up : ∀ {b : Addr} {ob : _}, H1 b = some ob → upd H1 c (.frz o (.own 0)) b = some ob := fun {b ob} e => by
        rw [jan (fun z => by subst z; rw [hcn] at e; cases e)]; exact e
      obtain ⟨es, ep, t, f, eo, S⟩ := S
      refine ⟨c, o, (ps.map (·.2)).reverse, rfl, jap, ⟨es, ep, t, f, eo, S.imp fun k b z => up z⟩, by simpa using few, fun l ps' hl ht' srt mem => ?_⟩
      exact post (.lst l) (.ref l) _ _ (k1.trans ((Kept.new hcn).trans (.new hl))) (rh2.newL hl (jkw ht')) ⟨rfl, _, jap⟩ (q l (ps'.map (·.2)) (rh2.free hl) srt fun k => by rw [mem k, G1r])⟩
end L2
namespace L2
open PySem PySem.Spec PyProof.Rows PySem.SeqAt HT
theorem jmD {α:Type} {R:α→α→Prop} (no: ∀x y,R x y→ ¬R y x): ∀ {xs ys:List α},xs.Pairwise R→ys.Pairwise R→(∀a,a∈xs↔a∈ys)→xs=ys
 | [],[],_,_,_=>rfl
 | [],y::ys,_,_,m=>absurd ((m y).mpr G0p) G1i
 |x::xs,[],_,_,m=>absurd ((m x).mp G0p) G1i
 |x::xs,y::ys,px,py,m=>by
  obtain⟨p1,p2⟩:=G1y.mp px
  obtain⟨q1,q2⟩:=G1y.mp py
  have e:x=y:=by
   rcases G0C.mp ((m x).mp G0p) with e|e
   ·exact e
   rcases G0C.mp ((m y).mpr G0p) with e' |e'
   ·exact e'.symm
   exact absurd (p1 y e') (no _ _ (q1 x e))
  subst e
  rw [jmD no p2 q2 fun a=>⟨fun h=> ?_,fun h=> ?_⟩]
  ·rcases G0C.mp ((m a).mp (G0s _ h)) with e|e
   ·subst e;exact absurd (p1 _ h) (no _ _ (p1 _ h))
   ·exact e
  ·rcases G0C.mp ((m a).mpr (G0s _ h)) with e|e
   ·subst e;exact absurd (q1 _ h) (no _ _ (q1 _ h))
   ·exact e
theorem jp9 (x y:List Int) (h:HT.jaJ x y=true): ¬HT.jaJ y x=true:=fun z=>by rw [jdX _ _ h] at z;cases z
section
variable {T:List (List Int)} {n o:Nat}
theorem jgf: ∀ (t p:Nat),∀w∈wks T n o t p,∃r,w=p::r
 |0,p,w,h=>by
  have h:w∈(if p=o then [[p]] else []):=h
  split at h
  ·exact⟨[],G0g.mp h⟩
  ·cases h
 |t+1,p,w,h=>by
  obtain⟨j,_,h⟩:=List.mem_flatMap.mp (show w∈(jba T n p).flatMap fun j=>(wks T n o t j).map (p:: ·) from h)
  obtain⟨r,_,rfl⟩:=G0D.mp h
  exact⟨r,rfl⟩
theorem jhk (p:Nat) (w u:List Nat):HT.jaJ (toI (p::w)) (toI (p::u))=HT.jaJ (toI w) (toI u):=by
 show HT.jaJ ((p:Int)::toI w) ((p:Int)::toI u)=_
 rw [jcZ,if_pos rfl]
theorem jiH: ∀ (t p:Nat),(wks T n o t p).Pairwise fun x y=>HT.jaJ (toI x) (toI y)=true
 |0,p=>by
  show (if p=o then [[p]] else []).Pairwise _
  split
  ·exact G1d _ _
  ·exact List.Pairwise.nil
 |t+1,p=>by
  show ((jba T n p).flatMap fun j=>(wks T n o t j).map (p:: ·)).Pairwise _
  have r:=jio (T:=T) (n:=n) p
  revert r
  induction jba T n p with
  |nil=>exact fun _=>List.Pairwise.nil
  |cons j l ih=>
   intro r
   obtain⟨r1,r2⟩:=G1y.mp r
   rw [G25,G0J]
   refine⟨?_,ih r2,fun x hx y hy=> ?_⟩
   ·rw [G1V]
    exact(jiH t j).imp fun {x y} h=>by rw [jhk];exact h
   ·obtain⟨u,hu,rfl⟩:=G0D.mp hx
    obtain⟨i,hi,hy⟩:=List.mem_flatMap.mp hy
    obtain⟨v,hv,rfl⟩:=G0D.mp hy
    obtain⟨u,rfl⟩:=jgf t j u hu
    obtain⟨v,rfl⟩:=jgf t i v hv
    have ji:=r1 i hi
    rw [jhk]
    show HT.jaJ ((j:Int)::toI u) ((i:Int)::toI v)=true
    rw [jcZ,if_neg (by omega)]
    exact G0r (by omega)
theorem jnZ (k one:Nat):(List.range (cnt T n o k one).toNat).map (fun (m:Nat)=>wn T n o k one (m:Int))=wks T n o k one:=by
 have len:=jhI (T:=T) (n:=n) (o:=o) k one
 refine G2q fun i=> ?_
 rw [G0i]
 by_cases hi:i<(cnt T n o k one).toNat
 ·rw [G1F hi]
  have:=jhJ (T:=T) (n:=n) (o:=o) k one (m:=(i:Int)) (by omega) (by omega)
  rw [G18] at this
  exact this.symm
 ·rw [G1k (by simpa using hi),G1k (by omega)];rfl
theorem jkL (h4:n≤4): ∀ (t p:Nat),cnt T n o t p≤4^t
 |0,p=>by
  show (if p=o then (1:Int) else 0)≤1
  split<;>omega
 |t+1,p=>by
  show ((jba T n p).map (cnt T n o t)).sum≤_
  refine Int.le_trans (jkb (b:=4^t) fun x hx=> ?_) ?_
  ·obtain⟨j,_,rfl⟩:=G0D.mp hx
   exact jkL h4 t j
  ·rw [G0c,Int.pow_succ]
   have:=jhH (T:=T) (n:=n) p
   exact G3h (by omega) (Int.le_of_lt (G4k (by decide)))
end
end L2
namespace My
open PySem L2
def top (i:Nat):Stmt:=PySem.Challenge.pw_firstpowers_k15_whole_walks_and_powers.main.body.getD i (.Pass ⟨0,0,0,0⟩)
abbrev jbV:Stmt:=top 9
theorem jhV:FnScope ["thing"] ["thing"] (jaa jbV):=⟨rfl,rfl,rfl,by decide +kernel,rfl,by decide +kernel,by decide +kernel⟩
abbrev jby:Stmt:=top 10
theorem jhl:FnScope ["thing","least","most"] ["thing","least","most"] (jaa jby):=⟨rfl,rfl,rfl,by decide +kernel,rfl,by decide +kernel,by decide +kernel⟩
abbrev jbW:Stmt:=top 11
theorem jhW:FnScope ["thing","size"] ["thing","size"] (jaa jbW):=⟨rfl,rfl,rfl,by decide +kernel,rfl,by decide +kernel,by decide +kernel⟩
abbrev jbg:Stmt:=top 12
theorem sc_are_places:FnScope ["thing","size","each"] ["thing","size"] (jaa jbg):=⟨rfl,rfl,rfl,by decide +kernel,rfl,by decide +kernel,by decide +kernel⟩
abbrev jdY:Stmt:=top 13
theorem sc_rises:FnScope ["row","one","other"] ["row"] (jaa jdY):=⟨rfl,rfl,rfl,by decide +kernel,rfl,by decide +kernel,by decide +kernel⟩
abbrev jc4:Stmt:=top 14
theorem jkM:FnScope ["thing","size"] ["thing","size"] (jaa jc4):=⟨rfl,rfl,rfl,by decide +kernel,rfl,by decide +kernel,by decide +kernel⟩
abbrev jaW:Stmt:=top 15
theorem sc_is_table_row:FnScope ["thing","size","number"] ["thing","size"] (jaa jaW):=⟨rfl,rfl,rfl,by decide +kernel,rfl,by decide +kernel,by decide +kernel⟩
abbrev jaH:Stmt:=top 16
theorem sc_has_table_form:FnScope ["thing","row"] ["thing"] (jaa jaH):=⟨rfl,rfl,rfl,by decide +kernel,rfl,by decide +kernel,by decide +kernel⟩
abbrev jbh:Stmt:=top 17
theorem jgg:FnScope ["thing"] ["thing"] (jaa jbh):=⟨rfl,rfl,rfl,by decide +kernel,rfl,by decide +kernel,by decide +kernel⟩
abbrev jbi:Stmt:=top 18
theorem jgh:FnScope ["table","thing"] ["table","thing"] (jaa jbi):=⟨rfl,rfl,rfl,by decide +kernel,rfl,by decide +kernel,by decide +kernel⟩
abbrev jbX:Stmt:=top 19
theorem jhX:FnScope ["table","thing"] ["table","thing"] (jaa jbX):=⟨rfl,rfl,rfl,by decide +kernel,rfl,by decide +kernel,by decide +kernel⟩
abbrev ja6:Stmt:=top 20
theorem je7:FnScope ["thing","least","most"] ["thing","least","most"] (jaa ja6):=⟨rfl,rfl,rfl,by decide +kernel,rfl,by decide +kernel,by decide +kernel⟩
abbrev jdZ:Stmt:=top 23
theorem sc_heads:FnScope ["table","place","head","number"] ["table","place"] (jaa jdZ):=⟨rfl,rfl,rfl,by decide +kernel,rfl,by decide +kernel,by decide +kernel⟩
abbrev jaP:Stmt:=top 24
theorem sc_has_walk_form:FnScope ["table","thing","one","other"] ["table","thing"] (jaa jaP):=⟨rfl,rfl,rfl,by decide +kernel,rfl,by decide +kernel,by decide +kernel⟩
abbrev jbz:Stmt:=top 25
theorem jhm:FnScope ["table","thing"] ["table","thing"] (jaa jbz):=⟨rfl,rfl,rfl,by decide +kernel,rfl,by decide +kernel,by decide +kernel⟩
abbrev jas:Stmt:=top 26
theorem jcK:FnScope ["table","one","other","k"] ["table","one","other","k"] (jaa jas):=⟨rfl,rfl,rfl,by decide +kernel,rfl,by decide +kernel,by decide +kernel⟩
abbrev jbA:Stmt:=top 27
theorem sc_counts_to:FnScope ["table","other","k","size","counts","left","place","head"] ["table","other","k"] (jaa jbA):=⟨rfl,rfl,rfl,by decide +kernel,rfl,by decide +kernel,by decide +kernel⟩
abbrev jbj:Stmt:=top 28
theorem sc_next_place:FnScope ["table","place","ahead","number","ways","at"] ["table","place","ahead","number"] (jaa jbj):=⟨rfl,rfl,rfl,by decide +kernel,rfl,by decide +kernel,by decide +kernel⟩
abbrev jaI:Stmt:=top 29
theorem sc_walk_of_number:FnScope ["table","one","counts","number","walk","ahead","place"] ["table","one","counts","number"] (jaa jaI):=⟨rfl,rfl,rfl,by decide +kernel,rfl,by decide +kernel,by decide +kernel⟩
abbrev jcp:Stmt:=top 30
theorem jje:FnScope ["table","thing"] ["table","thing"] (jaa jcp):=⟨rfl,rfl,rfl,by decide +kernel,rfl,by decide +kernel,by decide +kernel⟩
abbrev jbY:Stmt:=top 31
theorem sc_worth_of:FnScope ["table","walk","worth","one","other"] ["table","walk"] (jaa jbY):=⟨rfl,rfl,rfl,by decide +kernel,rfl,by decide +kernel,by decide +kernel⟩
abbrev jbk:Stmt:=top 32
theorem jgi:FnScope ["table","one","other","k"] ["table","one","other","k"] (jaa jbk):=⟨rfl,rfl,rfl,by decide +kernel,rfl,by decide +kernel,by decide +kernel⟩
abbrev jbm:Stmt:=top 33
theorem sc_first_walk:FnScope ["table","one","other","k","counts"] ["table","one","other","k"] (jaa jbm):=⟨rfl,rfl,rfl,by decide +kernel,rfl,by decide +kernel,by decide +kernel⟩
abbrev jbZ:Stmt:=top 34
theorem sc_nth_walk:FnScope ["table","one","other","k","number","counts"] ["table","one","other","k","number"] (jaa jbZ):=⟨rfl,rfl,rfl,by decide +kernel,rfl,by decide +kernel,by decide +kernel⟩
abbrev jaQ:Stmt:=top 35
theorem sc_place_of_walk:FnScope ["table","walk","left","counts","number","one","other","head"] ["table","walk"] (jaa jaQ):=⟨rfl,rfl,rfl,by decide +kernel,rfl,by decide +kernel,by decide +kernel⟩
abbrev jbn:Stmt:=top 38
theorem sc_step_after:FnScope ["table","some","head","place"] ["table","some"] (jaa jbn):=⟨rfl,rfl,rfl,by decide +kernel,rfl,by decide +kernel,by decide +kernel⟩
abbrev jbB:Stmt:=top 39
theorem sc_set_after:FnScope ["table","some","k","sets","later","start"] ["table","some","k"] (jaa jbB):=⟨rfl,rfl,rfl,by decide +kernel,rfl,by decide +kernel,by decide +kernel⟩
abbrev jbo:Stmt:=top 42
theorem sc_multiplied:FnScope ["one","other","size","row","place","by"] ["one","other"] (jaa jbo):=⟨rfl,rfl,rfl,by decide +kernel,rfl,by decide +kernel,by decide +kernel⟩
abbrev jaR:Stmt:=top 43
theorem sc_power_of_none:FnScope ["size","row","place"] ["size"] (jaa jaR):=⟨rfl,rfl,rfl,by decide +kernel,rfl,by decide +kernel,by decide +kernel⟩
abbrev jd0:Stmt:=top 44
theorem sc_power:FnScope ["table","k","told","step"] ["table","k"] (jaa jd0):=⟨rfl,rfl,rfl,by decide +kernel,rfl,by decide +kernel,by decide +kernel⟩
abbrev jd1:Stmt:=top 46
theorem sc_marks:FnScope ["table","row","number"] ["table"] (jaa jd1):=⟨rfl,rfl,rfl,by decide +kernel,rfl,by decide +kernel,by decide +kernel⟩
abbrev jbC:Stmt:=top 48
theorem jhn:FnScope ["_law_script","_law_k"] ["_law_script","_law_k"] (jaa jbC):=⟨rfl,rfl,rfl,by decide +kernel,rfl,by decide +kernel,by decide +kernel⟩
abbrev jb0:Stmt:=top 49
theorem sc__law_pen:FnScope ["_law_cell_here","_law_left"] ["_law_cell_here"] (jaa jb0):=⟨rfl,rfl,rfl,by decide +kernel,rfl,by decide +kernel,by decide +kernel⟩
abbrev jbD:Stmt:=top 50
theorem sc__law_draw:FnScope ["_law_pen_here","_law_many","_law_left","_law_found","_law_stir"] ["_law_pen_here","_law_many"] (jaa jbD):=⟨rfl,rfl,rfl,by decide +kernel,rfl,by decide +kernel,by decide +kernel⟩
abbrev jbp:Stmt:=top 51
theorem sc__law_table:FnScope ["_law_pen_here","_law_size","_law_way","_law_often","_law_most","_law_rows","_law_one","_law_row","_law_other","_law_goes"] ["_law_pen_here","_law_size"] (jaa jbp):=⟨rfl,rfl,rfl,by decide +kernel,rfl,by decide +kernel,by decide +kernel⟩
abbrev jaB:Stmt:=top 52
theorem sc__law_pair_right:FnScope ["_law_table_here","_law_one","_law_other","_law_k","_law_many","_law_some","_law_number","_law_walk"] ["_law_table_here","_law_one","_law_other","_law_k"] (jaa jaB):=⟨rfl,rfl,rfl,by decide +kernel,rfl,by decide +kernel,by decide +kernel⟩
abbrev jgj:Stmt:=top 53
theorem sc_law:FnScope ["_law_script","_law_cell_here","_law_pen_here","_law_size","_law_table_here","_law_turn","_law_one","_law_other"] ["_law_script"] (jaa jgj):=⟨rfl,rfl,rfl,by decide +kernel,rfl,by decide +kernel,by decide +kernel⟩
section
variable {P:Program} {w:World} {K:PySem.W.Frag} {mg:Str→Option Value} {base:Heap}
/-- no def is asked of the script's list: a thing -/
def jkN:D→Bool
 | .int _=>true
 |_=>false
/-- a row of so many numbers from 0 on -/
def jqk:D→Bool
 | .int i=>decide (0≤i)
 |_=>false
def jmE (d:D) (k:Int):Bool:=match d with
 | .tup ds=>decide ((ds.length:Int)=k)&&ds.all jqk
 |_=>false
/-! every part has a kind that is told,and no tuple is long -/
mutual
def okD:D→Bool
 | .scr _=>false| .exc _=>false| .fn _=>false
 | .tup ds=>decide (ds.length≤1000)&&okDs ds
 |_=>true
def okDs:List D→Bool
 | []=>true
 |d::ds=>okD d&&okDs ds
end
theorem jiI: ∀ {ds:List D},okDs ds=true→ ∀d∈ds,okD d=true
 |d::ds,h,x,hx=>by
  have h' :(okD d&&okDs ds)=true:=h
  rw [G1q] at h'
  rcases G0C.mp hx with e|e
  ·subst e;exact h'.1
  ·exact jiI h'.2 x e
theorem jkO: ∀ {ds:List D},(∀d∈ds,okD d=true)→okDs ds=true
 | [],_=>rfl
 |d::ds,h=>by
  show (okD d&&okDs ds)=true
  rw [h d G0p,jkO fun x hx=>h x (G0s _ hx)];rfl
theorem jgk {ds:List D} (h:okD (.tup ds)=true):ds.length≤1000∧ ∀d∈ds,okD d=true:=by
 have h' :(decide (ds.length≤1000)&&okDs ds)=true:=h
 rw [G1q] at h'
 exact⟨G1H h'.1,jiI h'.2⟩
theorem jho {ds:List D} (h:ds.length≤1000) (h2: ∀d∈ds,okD d=true):okD (.tup ds)=true:=by
 show (decide (ds.length≤1000)&&okDs ds)=true
 rw [G0r h,jkO h2];rfl
theorem jdK {d:D} (h:okD d=true): ∃n,jgO d=some n:=by
 cases d<;>first|exact⟨_,rfl⟩|cases h
/-- a table -/
def joc:D→Bool
 | .tup rs=>decide (1≤rs.length)&&decide (rs.length≤6)&&rs.all fun r=>jmE r rs.length
 |_=>false
def jcv:RDn:=fun ds h Q=> ∃d n,ds= [d]∧jgO d=some n∧Q (.bl (jkN d)) h
set_option maxHeartbeats 2000000 in
theorem jhY {n:Nat} {f:Addr} {fd:FuncData} (Z:Zs mg) (F:Fun K "is_whole" "is_whole" jbV f fd):FnOk P w K mg base CX0 (n+1) f fd ["thing"] (LSp K jcv):=by
 refine F.okJ jhV (fun ds h Q q=>by obtain⟨d,nm,e,hn,q⟩:=q;subst e;rfl) _ (fun cdv A outer s H E hr=>(jah (jcf (jmm (jjU (T:= "int") (by decide) rfl Z.isinstance rfl Z.int (by decide +kernel) (jv 0)) (jkU (jsc (jjU (T:= "bool") (by decide) rfl Z.isinstance rfl Z.bool (by decide +kernel) (jv 0)))))))) ?_
 intro ds h Q q
 obtain⟨d,nm,e,hn,q⟩:=q
 subst e
 simp only [jec,Nxt,je2,jff,jcM,jci,jbH,dOp,ja1,dIs,jfd,dCB,ja9,jc6,jfh,jcN,dC,jcl,jbu,jex,jfi,jfj,jcm,jfe,je1,jcj,jfg,jck,dIf,dUn,jgR,dSl,jaT,jcs,jfQ,jbI,gN,gT2,jcr,jgx,jgy,jfT,jfI,jgB,jgz,jcH,jgA,jey,eqD,neD,eqE,neE,isV,isN,jd8,ja5,jgW,jgX,jcu,ixD,jfL,jfM,jfN,ja3,jbt,ja4,jcP,jfV,slD,jfk,ja2,G0y,G1n,G0k,G0I,List.replicate,G00,G0P,G0X,G0Y,G0K,G0G,G03,G1b,D.bl.injEq,D.lst.injEq,hn]
 cases d<;>cases hn<;>exact⟨h,Sub.refl h,q⟩
def jb9:RDn:=fun ds h Q=> ∃d,∃a b:Int,ds= [d,.int a,.int b]∧okD d=true∧Q (.bl (jbK d a b)) h
set_option maxHeartbeats 2000000 in
theorem jhp {n:Nat} {f:Addr} {fd:FuncData} (Z:Zs mg) (F:Fun K "is_within" "is_within" jby f fd) (C_is_whole:jaf P w K mg base n "is_whole" ["thing"] jcv):FnOk P w K mg base CX0 (n+1) f fd ["thing","least","most"] (LSp K jb9):=by
 obtain⟨g_G_is_whole,gd_G_is_whole,G_is_whole,bG_is_whole,kG_is_whole,mG_is_whole⟩:=C_is_whole
 refine F.okJ jhl (fun ds h Q q=>by obtain⟨d,a,b,e,ok,q⟩:=q;subst e;rfl) _ (fun cdv A outer s H E hr=>(jah (jcf (jmm (jao G_is_whole hr rfl mG_is_whole kG_is_whole bG_is_whole (jac (jv 0) jab)) (jkU (jpz jjI jjI (jv 1) (jv 0) (jv 2))))))) ?_
 intro ds h Q q
 obtain⟨d,a,b,e,ok,q⟩:=q
 subst e
 obtain⟨nm,hn⟩:=jdK ok
 refine⟨_,rfl,d,nm,rfl,hn,jkN d,rfl,?_⟩
 cases d with
 |int x=>
  refine jh7 ⟨_,rfl,_,rfl,_,rfl,?_⟩
  show if decide (a≤x)=true then _ else _
  by_cases h1:a≤x
  ·rw [G0r h1]
   simp only [jbK,G0r h1,G3T] at q
   exact jh7 ⟨_,rfl,h,Sub.refl h,q⟩
  ·rw [G0L h1]
   simp only [jbK,G0L h1,G4f] at q
   exact jd5 ⟨h,Sub.refl h,q⟩
 |_=>exact jd5 ⟨h,Sub.refl h,q⟩
def jcw:RDn:=fun ds h Q=> ∃d,∃n:Int,ds= [d,.int n]∧okD d=true∧Q (.bl (jbK d 0 (n-1))) h
set_option maxHeartbeats 2000000 in
theorem jhZ {n:Nat} {f:Addr} {fd:FuncData} (Z:Zs mg) (F:Fun K "is_place" "is_place" jbW f fd) (C_is_within:jaf P w K mg base n "is_within" ["thing","least","most"] jb9):FnOk P w K mg base CX0 (n+1) f fd ["thing","size"] (LSp K jcw):=by
 obtain⟨g_G_is_within,gd_G_is_within,G_is_within,bG_is_within,kG_is_within,mG_is_within⟩:=C_is_within
 refine F.okJ jhW (fun ds h Q q=>by obtain⟨d,k,e,ok,q⟩:=q;subst e;rfl) _ (fun cdv A outer s H E hr=>(jah (jcf (jao G_is_within hr rfl mG_is_within kG_is_within bG_is_within (jac (jv 0) (by exact(jac jaF (by exact(jac (jop jez (jv 1) jaF) jab))))))))) ?_
 intro ds h Q q
 obtain⟨d,k,e,ok,q⟩:=q
 subst e
 exact⟨_,rfl,_,rfl,d,0,k-1,rfl,ok,h,Sub.refl h,q⟩
def jbR:RDn:=fun ds h Q=> ∃d,∃n:Int,ds= [d,.int n]∧okD d=true∧Q (.bl (jdm d n)) h
set_option maxHeartbeats 2000000 in
theorem jgl {n:Nat} {f:Addr} {fd:FuncData} (Z:Zs mg) (F:Fun K "are_places" "are_places" jbg f fd) (C_is_place:jaf P w K mg base n "is_place" ["thing","size"] jcw):FnOk P w K mg base CX0 (n+1) f fd ["thing","size"] (LSp K jbR):=by
 obtain⟨g_G_is_place,gd_G_is_place,G_is_place,bG_is_place,kG_is_place,mG_is_place⟩:=C_is_place
 refine F.okJ sc_are_places (fun ds h Q q=>by obtain⟨d,k,e,ok,q⟩:=q;subst e;rfl) _ (fun cdv A outer s H E hr=>(jah (jcf (jmm (jjU (T:= "tuple") (by decide) rfl Z.isinstance rfl Z.tuple (by decide +kernel) (jv 0)) (jkU (jaN (jfl rfl) rfl Z.all G13 (jac (jlc (i:=2) (js:= [2]) rfl (jal (by rfl)) (jcF (jv 0)) (by decide) sc_are_places.nd rfl (by first|exact Or.inl rfl|exact Or.inr rfl) (fun X' hX=>jaM) (fun X' hX=>by obtain⟨C,s₀,H₀,ex,rfl⟩:=hX;exact(jao G_is_place hr rfl mG_is_place kG_is_place bG_is_place (jac (jv 2) (by exact(jac (jv 1) jab)))))) jab))))))) ?_
 intro ds h Q q
 obtain⟨d,k,e,ok,q⟩:=q
 subst e
 obtain⟨nm,hn⟩:=jdK ok
 refine⟨_,rfl,nm,hn,?_⟩
 cases d with
 |tup es=>
  cases hn
  obtain⟨hl,ht⟩:=jgk ok
  refine⟨_,rfl,jh7 ?_⟩
  exact jrA es (fun x=>x) (fun x=>jbK x 0 (k-1)) hl (by rw [List.map_id']) (fun R r=>⟨_,rfl,r⟩) (fun x hx Q' q' =>⟨_,rfl,_,rfl,x,k,rfl,ht x hx,q'⟩) ⟨h,Sub.refl h,q⟩
 |_=>cases hn<;>exact⟨_,rfl,jd5 ⟨h,Sub.refl h,q⟩⟩
def jgm:RDn:=fun ds h Q=> ∃S:List Nat,ds= [jaE S]∧S.length≤1000∧Q (.bl ((S.zip (S.drop 1)).all fun p=>decide ((p.1:Int)<(p.2:Int)))) h
set_option maxHeartbeats 2000000 in
theorem jl3 {n:Nat} {f:Addr} {fd:FuncData} (Z:Zs mg) (F:Fun K "rises" "rises" jdY f fd):FnOk P w K mg base CX0 (n+1) f fd ["row"] (LSp K jgm):=by
 refine F.okJ sc_rises (fun ds h Q q=>by obtain⟨S,e,hl,q⟩:=q;subst e;rfl) _ (fun cdv A outer s H E hr=>(jah (jcf (jaN (jfl rfl) rfl Z.all G13 (jac (jq5 (i:=1) (j:=2) (js:= [1,2]) rfl (jal (by rfl)) (jik rfl Z.zip (jac (jv 0) (by exact(jac (jfo (jv 0) (jdf jaF) jeE) jab)))) (by decide) (by decide) (by decide) sc_rises.nd rfl rfl (by first|exact Or.inl rfl|exact Or.inr rfl) (by first|exact Or.inl rfl|exact Or.inr rfl) (fun X' hX=>jaM) (fun X' hX=>by obtain⟨C,s₀,H₀,ex,rfl⟩:=hX;exact(jie jld (jv 1) (jv 2) (jaw _)))) jab))))) ?_
 intro ds h Q q
 obtain⟨S,e,hl,q⟩:=q
 subst e
 refine jpK (j:=fun _=>some (jj5 (S.map fun (k:Nat)=>D.int (k:Int)) (jeX (S.map fun (k:Nat)=>D.int (k:Int)) (some 1) none))) (S.zip (S.drop 1)) (fun p=> .int (p.1:Int)) (fun p=> .int (p.2:Int)) (fun p=>decide ((p.1:Int)<(p.2:Int))) (by rw [G3s];omega) (congrArg some (jf3 S)) (fun R r=>⟨_,rfl,_,rfl,_,rfl,_,_,rfl,r⟩) (fun p hp Q' q' =>⟨_,rfl,_,rfl,q'⟩) ⟨h,Sub.refl h,q⟩
theorem jl4 {S:List Nat} (h:S.Pairwise (· < ·)):((S.zip (S.drop 1)).all fun p=>decide ((p.1:Int)<(p.2:Int)))=true:=by
 rw [G05]
 intro p hp
 have:=jil h p hp
 exact G0r (by omega)
def jsk (n:Nat) (d:D):Prop:=(okD d=true∧jdm d (n:Int)=false)∨ ∃S:List Nat,d=jaE S∧(∀i∈S,i<n)∧S.length≤1000∧((S.zip (S.drop 1)).all fun p=>decide ((p.1:Int)<(p.2:Int)))=false
def jeU:RDn:=fun ds h Q=> ∃d,∃n:Nat,ds= [d,.int (n:Int)]∧n≤6∧((∃S,d=jaE S∧IsS n S∧Q (.bl true) h)∨(jsk n d∧Q (.bl false) h))
set_option maxHeartbeats 2000000 in
theorem jkP {n:Nat} {f:Addr} {fd:FuncData} (Z:Zs mg) (F:Fun K "is_set" "is_set" jc4 f fd) (C_rises:jaf P w K mg base n "rises" ["row"] jgm) (C_are_places:jaf P w K mg base n "are_places" ["thing","size"] jbR):FnOk P w K mg base CX0 (n+1) f fd ["thing","size"] (LSp K jeU):=by
 obtain⟨g_G_rises,gd_G_rises,G_rises,bG_rises,kG_rises,mG_rises⟩:=C_rises
 obtain⟨g_G_are_places,gd_G_are_places,G_are_places,bG_are_places,kG_are_places,mG_are_places⟩:=C_are_places
 refine F.okJ jkM (fun ds h Q q=>by obtain⟨d,n,e,hn,q⟩:=q;subst e;rfl) _ (fun cdv A outer s H E hr=>(jah (jcf (jmm (jao G_are_places hr rfl mG_are_places kG_are_places bG_are_places (jac (jv 0) (by exact(jac (jv 1) jab)))) (jkU (jao G_rises hr rfl mG_rises kG_rises bG_rises (jac (jv 0) jab))))))) ?_
 intro ds h Q q
 obtain⟨d,n,e,hn,q⟩:=q
 subst e
 have okO: ∀S:List Nat,S.length≤1000→okD (jaE S)=true:=fun S hS=>jho (by rw [G0c];exact hS) fun d hd=>by obtain⟨x,_,rfl⟩:=G0D.mp hd;rfl
 have plO: ∀S:List Nat,(∀i∈S,i<n)→jdm (jaE S) (n:Int)=true:=fun S hS=>by
  show (S.map _).all _=true
  rw [G05];intro x hx;obtain⟨i,hi,rfl⟩:=G0D.mp hx;have:=hS i hi
  show (decide ((0:Int)≤(i:Int))&&decide ((i:Int)≤(n:Int)-1))=true
  rw [G0r (show (0:Int)≤(i:Int) by omega),G0r (show (i:Int)≤(n:Int)-1 by omega)];rfl
 rcases q with ⟨S,rfl,hS,q⟩|⟨⟨ok,bad⟩|⟨S,rfl,hS,hl,hr⟩,q⟩
 ·have hlen:=hS.len
  refine⟨_,rfl,_,rfl,jaE S,(n:Int),rfl,okO S (by omega),?_⟩
  rw [plO S fun i hi=>hS.lt hi]
  refine⟨_,rfl,jh7 ⟨_,rfl,S,rfl,by omega,?_⟩⟩
  rw [jl4 hS.rise]
  exact⟨h,Sub.refl h,q⟩
 ·refine⟨_,rfl,_,rfl,d,(n:Int),rfl,ok,?_⟩
  rw [bad]
  exact⟨_,rfl,jd5 ⟨h,Sub.refl h,q⟩⟩
 ·refine⟨_,rfl,_,rfl,jaE S,(n:Int),rfl,okO S hl,?_⟩
  rw [plO S hS]
  refine⟨_,rfl,jh7 ⟨_,rfl,S,rfl,hl,?_⟩⟩
  rw [hr]
  exact⟨h,Sub.refl h,q⟩
def jb5:RDn:=fun ds h Q=> ∃d k,ds= [d,.int k]∧okD d=true∧Q (.bl (jmE d k)) h
set_option maxHeartbeats 2000000 in
theorem jeV {n:Nat} {f:Addr} {fd:FuncData} (Z:Zs mg) (F:Fun K "is_table_row" "is_table_row" jaW f fd) (C_is_whole:jaf P w K mg base n "is_whole" ["thing"] jcv):FnOk P w K mg base CX0 (n+1) f fd ["thing","size"] (LSp K jb5):=by
 obtain⟨g_G_is_whole,gd_G_is_whole,G_is_whole,bG_is_whole,kG_is_whole,mG_is_whole⟩:=C_is_whole
 refine F.okJ sc_is_table_row (fun ds h Q q=>by obtain⟨d,k,e,ok,q⟩:=q;subst e;rfl) _ (fun cdv A outer s H E hr=>(jae (jfn (jpt (jpB (jeD (jeC (jjU (T:= "tuple") (by decide) rfl Z.isinstance rfl Z.tuple (by decide +kernel) (jv 0)))) (jpA (jb6 oq_ne (jaN jb7 rfl Z.len G1w (jac (jv 0) jab)) (jv 1) (jaw _))))) (jah (jcf jbl)) jbf) (by exact(jah (jcf (jaN (jfl rfl) rfl Z.all G13 (jac (jlc (i:=2) (js:= [2]) rfl (jal (by rfl)) (jcF (jv 0)) (by decide) sc_is_table_row.nd rfl (by first|exact Or.inl rfl|exact Or.inr rfl) (fun X' hX=>jaM) (fun X' hX=>by obtain⟨C,s₀,H₀,ex,rfl⟩:=hX;exact(jmm (jao G_is_whole hr rfl mG_is_whole kG_is_whole bG_is_whole (jac (jv 2) jab)) (jkU (jie jle (jv 2) jaF (jaw _)))))) jab))))))) ?_
 intro ds h Q q
 obtain⟨d,k,e,ok,q⟩:=q
 subst e
 obtain⟨nm,hn⟩:=jdK ok
 simp only [jec,Nxt,je2,jff,jcM,jci,jbH,dOp,ja1,dIs,jfd,dCB,ja9,jc6,jfh,jcN,dC,jcl,jbu,jex,jfi,jfj,jcm,jfe,je1,jcj,jfg,jck,dIf,dUn,jgR,dSl,jaT,jcs,jfQ,jbI,gN,gT2,jcr,jgx,jgy,jfT,jfI,jgB,jgz,jcH,jgA,jey,eqD,neD,eqE,neE,isV,isN,jd8,ja5,jgW,jgX,jcu,ixD,jfL,jfM,jfN,ja3,jbt,ja4,jcP,jfV,slD,jfk,ja2,G0y,G1n,G0k,G0I,List.replicate,G00,G0P,G0X,G0Y,G0K,G0G,G03,G1b,D.bl.injEq,D.lst.injEq,hn]
 cases d with
 |tup es=>
  cases hn
  obtain⟨hl,ht⟩:=jgk ok
  simp only [jpl]
  by_cases hk:(es.length:Int)=k
  ·simp only [hk]
   simp
   refine jjN (ds:=es) (h1:=h) (j:=fun _=>some es) (fun x=> .bl (jqk x)) (G1j (jaK hl)) rfl (fun R r=>⟨.tup es,rfl,r⟩) (fun d hd Q' q' => ?_) (fun p hp=> ?_)
   ·obtain⟨nn,hnn⟩:=jdK (ht d hd)
    refine⟨d,rfl,d,nn,rfl,hnn,jkN d,rfl,?_⟩
    cases d with
    |int i=>exact jh7 ⟨.int i,rfl,q'⟩
    |_=>exact jd5 q'
   ·refine⟨p,es.map jqk,rfl,by rw [jad];simp,h,?_,?_⟩
    ·rw [jbs hp];exact Sub.refl h
    ·simpa [jmE,hk,G2c,G2G] using q
  ·simp [hk]
   exact⟨h,Sub.refl h,by simpa [jmE,hk] using q⟩
 |_=>cases hn<;>exact⟨h,Sub.refl h,q⟩
def jbE:RDn:=fun ds h Q=> ∃d,ds= [d]∧okD d=true∧Q (.bl (joc d)) h
set_option maxHeartbeats 2000000 in
theorem jd2 {n:Nat} {f:Addr} {fd:FuncData} (Z:Zs mg) (F:Fun K "has_table_form" "has_table_form" jaH f fd) (C_is_table_row:jaf P w K mg base n "is_table_row" ["thing","size"] jb5) (M_MOST_ROWS: ∃tk,mg "MOST_ROWS" =some (.int 6 tk)):FnOk P w K mg base CX0 (n+1) f fd ["thing"] (LSp K jbE):=by
 obtain⟨g_G_is_table_row,gd_G_is_table_row,G_is_table_row,bG_is_table_row,kG_is_table_row,mG_is_table_row⟩:=C_is_table_row
 obtain⟨tk_MOST_ROWS,m_MOST_ROWS⟩:=M_MOST_ROWS
 refine F.okJ sc_has_table_form (fun ds h Q q=>by obtain⟨d,e,ok,q⟩:=q;subst e;rfl) _ (fun cdv A outer s H E hr=>(jae (jfn (jpt (jpB (jeD (jeC (jjU (T:= "tuple") (by decide) rfl Z.isinstance rfl Z.tuple (by decide +kernel) (jv 0)))) (jpA (jeD (jns jjI jjI jaF (jaN jb7 rfl Z.len G1w (jac (jv 0) jab)) (jjS rfl m_MOST_ROWS)))))) (jah (jcf jbl)) jbf) (by exact(jah (jcf (jaN (jfl rfl) rfl Z.all G13 (jac (jlc (i:=1) (js:= [1]) rfl (jal (by rfl)) (jcF (jv 0)) (by decide) sc_has_table_form.nd rfl (by first|exact Or.inl rfl|exact Or.inr rfl) (fun X' hX=>jaM) (fun X' hX=>by obtain⟨C,s₀,H₀,ex,rfl⟩:=hX;exact(jao G_is_table_row hr rfl mG_is_table_row kG_is_table_row bG_is_table_row (jac (jv 1) (by exact(jac (jaN jb7 rfl Z.len G1w (jac (jv 0) jab)) jab)))))) jab))))))) ?_
 intro ds h Q q
 obtain⟨d,e,ok,q⟩:=q
 subst e
 obtain⟨nm,hn⟩:=jdK ok
 simp only [jec,Nxt,je2,jff,jcM,jci,jbH,dOp,ja1,dIs,jfd,dCB,ja9,jc6,jfh,jcN,dC,jcl,jbu,jex,jfi,jfj,jcm,jfe,je1,jcj,jfg,jck,dIf,dUn,jgR,dSl,jaT,jcs,jfQ,jbI,gN,gT2,jcr,jgx,jgy,jfT,jfI,jgB,jgz,jcH,jgA,jey,eqD,neD,eqE,neE,isV,isN,jd8,ja5,jgW,jgX,jcu,ixD,jfL,jfM,jfN,ja3,jbt,ja4,jcP,jfV,slD,jfk,ja2,G0y,G1n,G0k,G0I,List.replicate,G00,G0P,G0X,G0Y,G0K,G0G,G03,G1b,D.bl.injEq,D.lst.injEq,hn]
 cases d with
 |tup es=>
  cases hn
  obtain⟨hl,ht⟩:=jgk ok
  simp only [jpl]
  by_cases h1:1≤es.length
  ·by_cases h6:es.length≤6
   ·have h1' :(1:Int)≤es.length:=by omega
    have h6' :(es.length:Int)≤6:=by omega
    simp [h1',h6']
    refine jjN (ds:=es) (h1:=h) (j:=fun _=>some es) (fun x=> .bl (jmE x es.length)) (G1j (jaK hl)) rfl (fun R r=>⟨.tup es,rfl,r⟩) (fun d hd Q' q' => ?_) (fun p hp=> ?_)
    ·exact⟨d,rfl,.tup es,rfl,d,es.length,rfl,ht d hd,q'⟩
    ·refine⟨p,es.map fun x=>jmE x es.length,rfl,by rw [jad];simp,h,?_,?_⟩
     ·rw [jbs hp];exact Sub.refl h
     ·simpa [joc,h1,h6,G2c,G2G] using q
   ·have h1' :(1:Int)≤es.length:=by omega
    have h6' : ¬ (es.length:Int)≤6:=by omega
    simp [h1',h6']
    exact⟨h,Sub.refl h,by simpa [joc,h1,h6] using q⟩
  ·have h1' : ¬ (1:Int)≤es.length:=by omega
   simp [h1']
   exact⟨h,Sub.refl h,by simpa [joc,h1] using q⟩
 |_=>cases hn<;>exact⟨h,Sub.refl h,q⟩
theorem jn0 {x:Int} (h:0≤x):jqk (.int x)=true:=G0r h
theorem jn1 {n e:Nat} {T:List (List Int)} (h:Sq n e T) {r:List Int} (hr:r∈T):jmE (jeY r) n=true:=by
 simp only [jmE,jeY,G0c,h.row r hr,decide_true,G3T,G2c,G05,G1T]
 intro x hx;exact jn0 (h.nn r hr x hx)
theorem jn2 {n e:Nat} {T:List (List Int)} (h:Sq n e T) (h1:1≤n) (h6:n≤6):joc (jav T)=true:=by
 simp only [joc,jav,G0c,h.len,G0r h1,G0r h6,G3T,G2c,G05,G1T]
 intro r hr;exact jn1 h hr
theorem jqa {n e:Nat} {T:List (List Int)} (h:Sq n e T) (h6:n≤6):okD (jav T)=true:=
 jho (by rw [G0c,h.len];omega) fun d hd=>by
  obtain⟨r,hr,rfl⟩:=G0D.mp hd
  exact jho (by rw [G0c,h.row r hr];omega) fun d hd=>by obtain⟨x,_,rfl⟩:=G0D.mp hd;rfl
def jaz:RDn:=fun ds h Q=> ∃T,∃n e:Nat,ds= [jav T]∧Sq n e T∧1≤n∧n≤6∧Q .non h
set_option maxHeartbeats 2000000 in
theorem jgn {n:Nat} {f:Addr} {fd:FuncData} (Z:Zs mg) (F:Fun K "want_table" "want_table" jbh f fd) (C_has_table_form:jaf P w K mg base n "has_table_form" ["thing"] jbE):FnOk P w K mg base CX0 (n+1) f fd ["thing"] (LSp K jaz):=by
 obtain⟨g_G_has_table_form,gd_G_has_table_form,G_has_table_form,bG_has_table_form,kG_has_table_form,mG_has_table_form⟩:=C_has_table_form
 refine F.okJ jgg (fun ds h Q q=>by obtain⟨T,k,b,e,hT,h1,h6,q⟩:=q;subst e;rfl) _ (fun cdv A outer s H E hr=>(jah (jfn (jeD (jeC (jao G_has_table_form hr rfl mG_has_table_form kG_has_table_form bG_has_table_form (jac (jv 0) jab)))) (jah jfp) jbf))) ?_
 intro ds h Q q
 obtain⟨T,k,b,e,hT,h1,h6,q⟩:=q
 subst e
 refine⟨_,rfl,jav T,rfl,jqa hT h6,_,rfl,?_⟩
 rw [jn2 hT h1 h6]
 exact jd5 ⟨h,Sub.refl h,q⟩
def jcx:RDn:=fun ds h Q=> ∃T,∃n e p:Nat,ds= [jav T,.int (p:Int)]∧Sq n e T∧p<n∧Q .non h
set_option maxHeartbeats 2000000 in
theorem jgo {n:Nat} {f:Addr} {fd:FuncData} (Z:Zs mg) (F:Fun K "want_place" "want_place" jbi f fd) (C_is_place:jaf P w K mg base n "is_place" ["thing","size"] jcw):FnOk P w K mg base CX0 (n+1) f fd ["table","thing"] (LSp K jcx):=by
 obtain⟨g_G_is_place,gd_G_is_place,G_is_place,bG_is_place,kG_is_place,mG_is_place⟩:=C_is_place
 refine F.okJ jgh (fun ds h Q q=>by obtain⟨T,n,bb,p,e,hT,hp,q⟩:=q;subst e;rfl) _ (fun cdv A outer s H E hr=>(jah (jfn (jeD (jeC (jao G_is_place hr rfl mG_is_place kG_is_place bG_is_place (jac (jv 1) (by exact(jac (jaN jb7 rfl Z.len G1w (jac (jv 0) jab)) jab)))))) (jah jfp) jbf))) ?_
 intro ds h Q q
 obtain⟨T,n,bb,p,e,hT,hp,q⟩:=q
 subst e
 refine⟨_,rfl,_,rfl,.int (p:Int),_,rfl,rfl,_,rfl,?_⟩
 have e0:jbK (.int (p:Int)) 0 ((((T.map jeY).length:Nat):Int)-1)=true:=by
  rw [G0c,hT.len]
  show (decide ((0:Int)≤(p:Int))&&decide ((p:Int)≤(n:Int)-1))=true
  rw [G0r (by omega),G0r (by omega)];rfl
 rw [e0]
 exact jd5 ⟨h,Sub.refl h,q⟩
def jds:RDn:=fun ds h Q=> ∃ (T:List (List Int)) (S:List Nat) (n:Nat),ds= [jav T,jaE S]∧T.length=n∧IsS n S∧n≤6∧Q .non h
set_option maxHeartbeats 2000000 in
theorem jh0 {n:Nat} {f:Addr} {fd:FuncData} (Z:Zs mg) (F:Fun K "want_set" "want_set" jbX f fd) (C_is_set:jaf P w K mg base n "is_set" ["thing","size"] jeU):FnOk P w K mg base CX0 (n+1) f fd ["table","thing"] (LSp K jds):=by
 obtain⟨g_G_is_set,gd_G_is_set,G_is_set,bG_is_set,kG_is_set,mG_is_set⟩:=C_is_set
 refine F.okJ jhX (fun ds h Q q=>by obtain⟨T,S,k,e,hT,hS,h6,q⟩:=q;subst e;rfl) _ (fun cdv A outer s H E hr=>(jah (jfn (jeD (jeC (jao G_is_set hr rfl mG_is_set kG_is_set bG_is_set (jac (jv 1) (by exact(jac (jaN jb7 rfl Z.len G1w (jac (jv 0) jab)) jab)))))) (jah jfp) jbf))) ?_
 intro ds h Q q
 obtain⟨T,S,k,e,hT,hS,h6,q⟩:=q
 subst e
 refine⟨_,rfl,_,rfl,_,k,by rw [G0c,hT],h6,.inl ⟨S,rfl,hS,_,rfl,?_⟩⟩
 exact jd5 ⟨h,Sub.refl h,q⟩
def jaX:RDn:=fun ds h Q=> ∃k lo hi:Int,ds= [.int k,.int lo,.int hi]∧lo≤k∧k≤hi∧Q .non h
set_option maxHeartbeats 2000000 in
theorem je8 {n:Nat} {f:Addr} {fd:FuncData} (Z:Zs mg) (F:Fun K "want_number" "want_number" ja6 f fd) (C_is_within:jaf P w K mg base n "is_within" ["thing","least","most"] jb9):FnOk P w K mg base CX0 (n+1) f fd ["thing","least","most"] (LSp K jaX):=by
 obtain⟨g_G_is_within,gd_G_is_within,G_is_within,bG_is_within,kG_is_within,mG_is_within⟩:=C_is_within
 refine F.okJ je7 (fun ds h Q q=>by obtain⟨k,lo,hi,e,h1,h2,q⟩:=q;subst e;rfl) _ (fun cdv A outer s H E hr=>(jah (jfn (jeD (jeC (jao G_is_within hr rfl mG_is_within kG_is_within bG_is_within (jac (jv 0) (by exact(jac (jv 1) (by exact(jac (jv 2) jab)))))))) (jah jfp) jbf))) ?_
 intro ds h Q q
 obtain⟨k,lo,hi,e,h1,h2,q⟩:=q
 subst e
 refine⟨_,rfl,_,rfl,_,rfl,.int k,lo,hi,rfl,rfl,_,rfl,?_⟩
 have e0:jbK (.int k) lo hi=true:=by
  show (decide (lo≤k)&&decide (k≤hi))=true
  rw [G0r h1,G0r h2];rfl
 rw [e0]
 exact jd5 ⟨h,Sub.refl h,q⟩
theorem jn3 {n:Nat} {r:List Int} (h:r.length=n):jls (r.map D.int)=(List.range n).map fun (j:Nat)=>D.tup [.int (j:Int),.int (r.getD j 0)]:=by
 apply G2q
 intro i
 by_cases hi:i<n
 ·have hi' :i<(jls (r.map D.int)).length:=by rw [jdj,G0c,h];exact hi
  obtain⟨x,hx,ed⟩:=jih (G0b hi')
  rw [G0b hi',ed]
  rw [G0i,G1F hi]
  rw [G0i,G0b (by omega)] at hx
  injection hx with hx
  rw [←hx]
  show some (D.tup [D.int (i:Int),D.int r[i]])=some (D.tup [D.int (i:Int),D.int (r.getD i 0)])
  rw [G0B,G0b (show i<r.length by omega)]
  rfl
 ·rw [G1k (by rw [jdj,G0c];omega),G1k (by simp;omega)]
def jdL:RDn:=fun ds h Q=> ∃T,∃n e p:Nat,ds= [jav T,.int (p:Int)]∧Sq n e T∧n≤6∧p<n∧ ∀F,h F=none→Q (.lst F) (jb2 h F ((jba T n p).map fun (k:Nat)=>D.int (k:Int)))
set_option maxHeartbeats 2000000 in
theorem jl5 {n:Nat} {f:Addr} {fd:FuncData} (Z:Zs mg) (F:Fun K "heads" "heads" jdZ f fd):FnOk P w K mg base CX0 (n+1) f fd ["table","place"] (LSp K jdL):=by
 refine F.okJ sc_heads (fun ds h Q q=>by obtain⟨T,n,bb,p,e,hT,n6,hp,q⟩:=q;subst e;rfl) _ (fun cdv A outer s H E hr=>(jah (jcf (jq5 (i:=2) (j:=3) (js:= [2,3]) rfl (jal (by rfl)) (jnC rfl Z.enumerate (jac (jix (jv 0) (jv 1) (fun _ _=>rfl)) jab)) (by decide) (by decide) (by decide) sc_heads.nd rfl rfl (by first|exact Or.inl rfl|exact Or.inr rfl) (by first|exact Or.inl rfl|exact Or.inr rfl) (fun X' hX=>by obtain⟨C,s₀,H₀,ex,rfl⟩:=hX;exact jhE (jb6 oq_ne (jv 3) jaF (jaw _))) (fun X' hX=>by obtain⟨C,s₀,H₀,ex,rfl⟩:=hX;exact(jv 2)))))) ?_
 intro ds h Q q
 obtain⟨T,n,bb,p,e,hT,n6,hp,q⟩:=q
 subst e
 refine jsh (j:=fun _=>some (jls ((T.getD p []).map D.int))) (List.range n) (fun j=> .int (j:Int)) (fun j=> .int ((T.getD p []).getD j 0)) (fun j=> .int (j:Int)) (fun j=>decide (ent T p j>0)) (by rw [G0A];omega) (congrArg some (jn3 (hT.row _ (Sq.getRow hT hp)))) (fun R r=>⟨_,rfl,_,rfl,_,jdh hT hp,_,rfl,r⟩) (fun x hx Q' q' =>⟨_,rfl,_,rfl,?_⟩) (fun x hx _ Q' q' =>⟨_,rfl,q'⟩) (fun F eF=>⟨_,Sub.refl _,q F eF⟩)
 have hnn:=(hT.ent_nn hp (G0x.mp hx)).1
 have e4:(!decide (((T.getD p []).getD x 0)=0))=decide (ent T p x>0):=by
  show (!decide (ent T p x=0))=_
  by_cases z:ent T p x=0
  ·rw [z];rfl
  ·rw [G0L z,G0r (by omega)];rfl
 rw [←e4] at q';exact q'
def jay:RDn:=fun ds h Q=> ∃T d,∃n e:Nat,ds= [jav T,d]∧Sq n e T∧1≤n∧n≤6∧okD d=true∧Q (.bl (jdn T n d)) h
set_option maxHeartbeats 2000000 in
theorem jee {n:Nat} {f:Addr} {fd:FuncData} (Z:Zs mg) (F:Fun K "has_walk_form" "has_walk_form" jaP f fd) (C_are_places:jaf P w K mg base n "are_places" ["thing","size"] jbR):FnOk P w K mg base CX0 (n+1) f fd ["table","thing"] (LSp K jay):=by
 obtain⟨g_G_are_places,gd_G_are_places,G_are_places,bG_are_places,kG_are_places,mG_are_places⟩:=C_are_places
 refine F.okJ sc_has_walk_form (fun ds h Q q=>by obtain⟨T,d,n,bb,e,hT,n1,n6,ok,q⟩:=q;subst e;rfl) _ (fun cdv A outer s H E hr=>(jae (jfn (jpt (jpB (jeD (jeC (jao G_are_places hr rfl mG_are_places kG_are_places bG_are_places (jac (jv 1) (by exact(jac (jaN jb7 rfl Z.len G1w (jac (jv 0) jab)) jab)))))) (jpA (jb6 (jgU hr.units) (jv 1) (jq4 jab) (jaw _))))) (jah (jcf jbl)) jbf) (by exact(jah (jcf (jaN (jfl rfl) rfl Z.all G13 (jac (jq5 (i:=2) (j:=3) (js:= [2,3]) rfl (jal (by rfl)) (jik rfl Z.zip (jac (jv 1) (by exact(jac (jfo (jv 1) (jdf jaF) jeE) jab)))) (by decide) (by decide) (by decide) sc_has_walk_form.nd rfl rfl (by first|exact Or.inl rfl|exact Or.inr rfl) (by first|exact Or.inl rfl|exact Or.inr rfl) (fun X' hX=>jaM) (fun X' hX=>by obtain⟨C,s₀,H₀,ex,rfl⟩:=hX;exact(jie oq_ne (jix (jix (jv 0) (jv 2) (fun _ _=>rfl)) (jv 3) (fun _ _=>rfl)) jaF (jaw _)))) jab))))))) ?_
 intro ds h Q q
 obtain⟨T,d,n,bb,e,hT,n1,n6,ok,q⟩:=q
 subst e
 have hlen:(((T.map jeY).length:Nat):Int)=(n:Int):=by rw [G0c,hT.len]
 refine jag (fun σ' h' => ∃W,d=jaE W∧(∀i∈W,i<n)∧W.length≤1000∧jdn T n d=jf4 T W∧W.isEmpty=false∧σ' = [some (jav T),some (jaE W),none,none]∧h=h') (fun C hC=> ?_) ?_
 ·refine⟨_,rfl,_,rfl,d,_,rfl,ok,_,rfl,?_⟩
  rw [hlen]
  cases hp:jdm d n with
  |false=>
   have:jdn T n d=false:=by unfold jdn;rw [hp];rfl
   rw [this] at q
   exact jh7 (jh7 ⟨h,Sub.refl h,q⟩)
  |true=>
   obtain⟨e1,hW⟩:=jft hp
   have e2:jdn T n d=jf4 T (jbN d):=by unfold jdn;rw [hp];rfl
   generalize jbN d=W at e1 hW e2
   have hl:W.length≤1000:=by
    have:=(jgk (e1 ▸ ok)).1
    rwa [G0c] at this
   refine jd5 ⟨_,rfl,(by show 0≤sizeLine;decide),?_⟩
   rw [e1]
   refine⟨jc5 W,.tuple [],jcR h W,⟨_,rfl,rfl⟩,jdU _,rfl,_,rfl,?_⟩
   cases W with
   |nil=>
    have:jdn T n d=false:=by rw [e2];rfl
    rw [this] at q
    exact jh7 ⟨h,Sub.refl h,q⟩
   |cons w W=>exact jd5 (hC _ _ ⟨w::W,e1,hW,hl,e2,rfl,rfl,rfl⟩)
 rintro _ _ ⟨W,e1,hW,hl,e2,hne,rfl,rfl⟩
 rw [e2] at q
 have e3:jf4 T W=(W.zip (W.drop 1)).all fun p=>decide (ent T p.1 p.2>0):=by unfold jf4;rw [hne];rfl
 rw [e3] at q
 refine jpK (j:=fun _=>some (jj5 (W.map fun (k:Nat)=>D.int (k:Int)) (jeX (W.map fun (k:Nat)=>D.int (k:Int)) (some 1) none))) (W.zip (W.drop 1)) (fun p=> .int (p.1:Int)) (fun p=> .int (p.2:Int)) (fun p=>decide (ent T p.1 p.2>0)) (by rw [G3s];omega) (congrArg some (jf3 W)) (fun R r=>⟨_,rfl,_,rfl,_,rfl,_,_,rfl,r⟩) (fun p hp Q' q' => ?_) ⟨h,Sub.refl h,q⟩
 have hi:=hW _ (G2k hp).1
 have hj:=hW _ (G07 (G2k hp).2)
 refine⟨_,rfl,_,rfl,_,jdh hT hi,_,rfl,_,jdi (hT.row _ (Sq.getRow hT hi)) hj,?_⟩
 have hnn:=(hT.ent_nn hi hj).1
 have e4:(!decide (((T.getD p.1 []).getD p.2 0)=0))=decide (ent T p.1 p.2>0):=by
  show (!decide (ent T p.1 p.2=0))=_
  by_cases z:ent T p.1 p.2=0
  ·rw [z];rfl
  ·rw [G0L z,G0r (by omega)];rfl
 rw [←e4] at q';exact q'
def jca:RDn:=fun ds h Q=> ∃T d,∃n e:Nat,ds= [jav T,d]∧Sq n e T∧1≤n∧n≤6∧okD d=true∧jdn T n d=true∧Q .non h
set_option maxHeartbeats 2000000 in
theorem jhq {n:Nat} {f:Addr} {fd:FuncData} (Z:Zs mg) (F:Fun K "want_walk" "want_walk" jbz f fd) (C_has_walk_form:jaf P w K mg base n "has_walk_form" ["table","thing"] jay):FnOk P w K mg base CX0 (n+1) f fd ["table","thing"] (LSp K jca):=by
 obtain⟨g_G_has_walk_form,gd_G_has_walk_form,G_has_walk_form,bG_has_walk_form,kG_has_walk_form,mG_has_walk_form⟩:=C_has_walk_form
 refine F.okJ jhm (fun ds h Q q=>by obtain⟨T,d,n,bb,e,hT,n1,n6,ok,hw,q⟩:=q;subst e;rfl) _ (fun cdv A outer s H E hr=>(jah (jfn (jeD (jeC (jao G_has_walk_form hr rfl mG_has_walk_form kG_has_walk_form bG_has_walk_form (jac (jv 0) (by exact(jac (jv 1) jab)))))) (jah jfp) jbf))) ?_
 intro ds h Q q
 obtain⟨T,d,n,bb,e,hT,n1,n6,ok,hw,q⟩:=q
 subst e
 refine⟨_,rfl,_,rfl,T,d,n,bb,rfl,hT,n1,n6,ok,_,rfl,?_⟩
 rw [hw]
 exact jd5 ⟨h,Sub.refl h,q⟩
def jau:RDn:=fun ds h Q=> ∃T,∃n e one o k:Nat,ds= [jav T,.int (one:Int),.int (o:Int),.int (k:Int)]∧Sq n e T∧1≤n∧n≤6∧one<n∧o<n∧k≤40∧Q .non h
set_option maxHeartbeats 2000000 in
theorem jcL {n:Nat} {f:Addr} {fd:FuncData} (Z:Zs mg) (F:Fun K "want_ends_and_steps" "want_ends_and_steps" jas f fd) (C_want_table:jaf P w K mg base n "want_table" ["thing"] jaz) (C_want_place:jaf P w K mg base n "want_place" ["table","thing"] jcx) (C_want_number:jaf P w K mg base n "want_number" ["thing","least","most"] jaX) (M_MOST_STEPS_walks: ∃tk,mg "MOST_STEPS_walks" =some (.int 40 tk)):FnOk P w K mg base CX0 (n+1) f fd ["table","one","other","k"] (LSp K jau):=by
 obtain⟨g_G_want_table,gd_G_want_table,G_want_table,bG_want_table,kG_want_table,mG_want_table⟩:=C_want_table
 obtain⟨g_G_want_place,gd_G_want_place,G_want_place,bG_want_place,kG_want_place,mG_want_place⟩:=C_want_place
 obtain⟨g_G_want_number,gd_G_want_number,G_want_number,bG_want_number,kG_want_number,mG_want_number⟩:=C_want_number
 obtain⟨tk_MOST_STEPS_walks,m_MOST_STEPS_walks⟩:=M_MOST_STEPS_walks
 refine F.okJ jcK (fun ds h Q q=>by obtain⟨T,n,bb,one,o,k,e,hT,n1,n6,h1,ho,hk,q⟩:=q;subst e;rfl) _ (fun cdv A outer s H E hr=>(jae (jbP (jao G_want_table hr rfl mG_want_table kG_want_table bG_want_table (jac (jv 0) jab))) (by exact(jae (jbP (jao G_want_place hr rfl mG_want_place kG_want_place bG_want_place (jac (jv 0) (by exact(jac (jv 1) jab))))) (by exact(jae (jbP (jao G_want_place hr rfl mG_want_place kG_want_place bG_want_place (jac (jv 0) (by exact(jac (jv 2) jab))))) (by exact(jah (jbP (jao G_want_number hr rfl mG_want_number kG_want_number bG_want_number (jac (jv 3) (by exact(jac jaF (by exact(jac (jjS rfl m_MOST_STEPS_walks) jab))))))))))))))) ?_
 intro ds h Q q
 obtain⟨T,n,bb,one,o,k,e,hT,n1,n6,h1,ho,hk,q⟩:=q
 subst e
 refine jag (fun σ' h' =>σ' = [some (jav T),some (.int (one:Int)),some (.int (o:Int)),some (.int (k:Int))]∧h=h') (fun C hC=>⟨_,rfl,T,n,bb,rfl,hT,n1,n6,hC _ _ ⟨rfl,rfl⟩⟩) ?_
 rintro _ _ ⟨rfl,rfl⟩
 refine jag (fun σ' h' =>σ' = [some (jav T),some (.int (one:Int)),some (.int (o:Int)),some (.int (k:Int))]∧h=h') (fun C hC=>⟨_,rfl,_,rfl,T,n,bb,one,rfl,hT,h1,hC _ _ ⟨rfl,rfl⟩⟩) ?_
 rintro _ _ ⟨rfl,rfl⟩
 refine jag (fun σ' h' =>σ' = [some (jav T),some (.int (one:Int)),some (.int (o:Int)),some (.int (k:Int))]∧h=h') (fun C hC=>⟨_,rfl,_,rfl,T,n,bb,o,rfl,hT,ho,hC _ _ ⟨rfl,rfl⟩⟩) ?_
 rintro _ _ ⟨rfl,rfl⟩
 exact⟨_,rfl,(k:Int),0,40,rfl,by omega,by omega,h,Sub.refl h,q⟩
def jbq:RDn:=fun ds h Q=> ∃T,∃n e o k:Nat,ds= [jav T,.int (o:Int),.int (k:Int)]∧Sq n e T∧1≤n∧n≤6∧o<n∧k≤40∧ ∀A h',Sub h h' →Cnts h' A T n o k→Q (.lst A) h'
set_option maxHeartbeats 2000000 in
theorem jhr {n:Nat} {f:Addr} {fd:FuncData} (Z:Zs mg) (F:Fun K "counts_to" "counts_to" jbA f fd) (C_heads:jaf P w K mg base n "heads" ["table","place"] jdL):FnOk P w K mg base CX0 (n+1) f fd ["table","other","k"] (LSp K jbq):=by
 obtain⟨g_G_heads,gd_G_heads,G_heads,bG_heads,kG_heads,mG_heads⟩:=C_heads
 refine F.okJ sc_counts_to (fun ds h Q q=>by obtain⟨T,n,bb,o,k,e,hT,n1,n6,ho,hk,q⟩:=q;subst e;rfl) _ (fun cdv A outer s H E hr=>(jae (jdd (i:=3) sc_counts_to.nd rfl (Or.inl rfl) (jaN jb7 rfl Z.len G1w (jac (jv 0) jab))) (by exact(jae (jdd (i:=4) sc_counts_to.nd rfl (by first|exact Or.inr rfl|exact Or.inl rfl) (jjT (jac (jlc (i:=6) (js:= [6]) rfl (jal (by rfl)) (jdR rfl Z.range (jac (jv 3) jab)) (by decide) sc_counts_to.nd rfl (by first|exact Or.inl rfl|exact Or.inr rfl) (fun X' hX=>jaM) (fun X' hX=>by obtain⟨C,s₀,H₀,ex,rfl⟩:=hX;exact(jif (jb6 (jgU hr.units) (jv 6) (jv 1) (jaw _)) jaF jaF))) jab))) (by exact(jae (jlj G1D rfl (jdR rfl Z.range (jac (jv 2) jab)) (jde (i:=5) sc_counts_to.nd rfl (by first|exact Or.inr rfl|exact Or.inl rfl)) (jah (jbP (jpD (jv 4) (jlc (i:=6) (js:= [6]) rfl (jal (by rfl)) (jdR rfl Z.range (jac (jv 3) jab)) (by decide) sc_counts_to.nd rfl (by first|exact Or.inl rfl|exact Or.inr rfl) (fun X' hX=>jaM) (fun X' hX=>by obtain⟨C,s₀,H₀,ex,rfl⟩:=hX;exact(jaN (jfX rfl) rfl Z.sum (by decide +kernel) (jac (jlc (i:=7) (js:= [7]) rfl (jal (by rfl)) (jcF (jao G_heads hr rfl mG_heads kG_heads bG_heads (jac (jv 0) (by exact(jac (jv 6) jab))))) (by decide) sc_counts_to.nd rfl (by first|exact Or.inl rfl|exact Or.inr rfl) (fun X' hX=>jaM) (fun X' hX=>by obtain⟨C,s₀,H₀,ex,rfl⟩:=hX;exact(jix (jix (jv 4) (jv 5) (fun _ _=>rfl)) (jv 7) (fun _ _=>rfl)))) jab)))))))) (by exact(jah (jcf (jv 4)))))))))) ?_
 intro ds h Q q
 obtain⟨T,n,bb,o,k,e,hT,n1,n6,ho,hk,q⟩:=q
 subst e
 refine jag (fun σ' h' =>σ' = [some (jav T),some (.int (o:Int)),some (.int (k:Int)),some (.int (n:Int)),none,none,none,none]∧h=h') (fun C hC=>⟨_,rfl,hC _ _ ⟨by rw [G0c,hT.len];rfl,rfl⟩⟩) ?_
 rintro _ _ ⟨rfl,rfl⟩
 refine jag (fun σ' h' => ∃A,∃ (rs:List Addr),σ' = [some (jav T),some (.int (o:Int)),some (.int (k:Int)),some (.int (n:Int)),some (.lst A),none,none,none]∧h A=none∧h' A=some (rs.map D.lst)∧rs.length=0+1∧(∀t a,rs[t]? =some a→h' a=some ((ji0 T n o t).map D.int))∧A ∉ rs∧Sub h h') (fun C hC=> ?_) ?_
 ·simp only [jex,je1,ja9,jc6]
  refine lcA (List.range n) (fun j=> .int (j:Int)) (fun j=> .int (cnt T n o 0 j)) (by rw [G0A];omega) rfl (fun R r=>⟨_,rfl,(n:Int),rfl,by omega,by omega,r⟩) (fun j hj Q' q' =>⟨_,rfl,_,rfl,_,rfl,?_⟩) (fun a ea=>⟨(by show 1≤sizeLine;decide),fun A eA=>hC _ _ ⟨A,[a],rfl,?_,jad,rfl,?_,?_,Sub.newAt (Sub.newAt (Sub.refl h) ea) eA⟩⟩)
  ·by_cases z:j=o
   ·subst z
    have:cnt T n j 0 j=1:=if_pos rfl
    rw [this] at q'
    rw [G0r rfl];exact jh7 q'
   ·have:cnt T n o 0 j=0:=if_neg z
    rw [this] at q'
    have e0:decide ((j:Int)=(o:Int))=false:=G0L (by omega)
    rw [e0];exact jd5 q'
  ·cases z:h A with
   |none=>rfl
   |some ds=>rw [jam z ea] at eA;cases eA
  ·intro t b e
   cases t with
   |zero=>
    cases (show some a=some b from e)
    refine jam (L:=(ji0 T n o 0).map D.int) ?_ eA
    rw [jad];unfold ji0;rw [List.map_map];rfl
   |succ t=>cases e
  ·intro z
   rw [G0g.mp z,jad] at eA;cases eA
 rintro _ h1 ⟨A,rs,rfl,fA,kA,lr,rows,nA,sb⟩
 refine jag (fun σ' h' => ∃a b c,∃ (rs:List Addr),σ' = [some (jav T),some (.int (o:Int)),some (.int (k:Int)),some (.int (n:Int)),some (.lst A),a,b,c]∧h' A=some (rs.map D.lst)∧rs.length=k+1∧(∀t a,rs[t]? =some a→h' a=some ((ji0 T n o t).map D.int))∧A ∉ rs∧Sub h h') (fun C hC=> ?_) (fun σ' h2 ⟨a,b,c,rs,e,kA,lr,rows,nA,sb⟩=>by subst e;exact⟨_,rfl,h2,Sub.refl _,q A h2 sb ⟨rs,kA,lr,rows⟩⟩)
 refine jeA k (fun i σ' h' => ∃a b c,∃ (rs:List Addr),σ' = [some (jav T),some (.int (o:Int)),some (.int (k:Int)),some (.int (n:Int)),some (.lst A),a,b,c]∧h' A=some (rs.map D.lst)∧rs.length=i+1∧(∀t a,rs[t]? =some a→h' a=some ((ji0 T n o t).map D.int))∧A ∉ rs∧Sub h h') (by omega) (fun R r=>⟨_,rfl,r⟩) ⟨none,none,none,rs,rfl,kA,lr,rows,nA,sb⟩ (fun σ' h' z=>hC _ _ z) ?_
 clear kA lr rows nA sb
 rintro i _ h2 hi ⟨a,b,c,rs,rfl,kA,lr,rows,nA,sb⟩
 have hil:i<rs.length:=by omega
 have hat:atI (rs.map D.lst) (i:Int)=some (.lst rs[i]):=jcc (by rw [G0i,G0b hil];rfl)
 have hrow:=rows i _ (G0b hil)
 refine⟨_,rfl,A,rfl,jml (h1:=h2) n (fun p ys h' =>ys=(List.range p).map (fun p=>D.int (cnt T n o (i+1) p))∧h' =h2) (by omega) (fun R r=>⟨_,rfl,r⟩) ⟨rfl,rfl⟩ (fun p ys h' ⟨e,_⟩=>by rw [e,G0c,G0A]) ?_ ?_⟩
 ·rintro p ys h3 hp ⟨rfl,rfl⟩
  refine sum_after ⟨_,rfl,_,rfl,T,n,bb,p,rfl,hT,n6,hp,fun F eF=> ?_⟩
  refine jq8 (j:=fun h=>h F) (jba T n p) (fun j=> .int (j:Int)) (fun j=>cnt T n o i j) (by have:=jhH (T:=T) (n:=n) p;omega) jad (fun R r=>r) (fun j hj Q' q' =>⟨_,rfl,_,rfl,_,_,jam kA eF,hat,_,rfl,_,_,jam hrow eF,jdo (jim hj),q'⟩) ⟨h3,Sub.newAt (Sub.refl _) eF,by omega,?_,rfl⟩
  rw [G2o,G1s];rfl
 ·rintro ys h3 ⟨rfl,rfl⟩ r er
  have nr:r≠A:=jaV kA er
  refine⟨_,jam kA er,?_,_,Sub.refl _,by omega,_,_,_,rs++ [r],rfl,?_,by rw [G0e,lr];rfl,fun t b e=> ?_,?_,?_⟩
  ·rw [G0c];exact jaK (by omega)
  ·rw [jad,G1s];rfl
  ·by_cases z:t<rs.length
   ·rw [G0H z] at e
    have hb:=rows t b e
    have nb:b≠A:=fun w=>nA (w ▸ G0h e)
    exact jaq nb (jam hb er)
   ·rw [G0o (by omega)] at e
    have zt:t-rs.length=0:=by
     have:=(G0m.mp e).1
     simp at this;omega
    rw [zt] at e
    cases (show some r=some b from e)
    have:t=i+1:=by omega
    subst this
    refine jaq (M:=(ji0 T n o (i+1)).map D.int) nr ?_
    rw [jad];unfold ji0;rw [List.map_map];rfl
  ·intro z
   rcases G0z.mp z with y|y
   ·exact nA y
   ·exact nr (G0g.mp y).symm
  ·intro x ds ex
   have hx:=sb x ds ex
   rw [jbx (fun w=>by subst w;rw [fA] at ex;cases ex)]
   exact jam hx er
def jcy:RDn:=fun ds h Q=> ∃T a,∃n e p o t:Nat,∃m:Int,ds= [jav T,.int (p:Int),.lst a,.int m]∧Sq n e T∧n≤6∧p<n∧h a=some ((ji0 T n o t).map D.int)∧0≤m∧m<cnt T n o (t+1) p∧Q (.tup [.int (((ja0 (cnt T n o t) (jba T n p) m).1:Nat):Int),.int (ja0 (cnt T n o t) (jba T n p) m).2]) h
set_option maxHeartbeats 2000000 in
theorem jgp {n:Nat} {f:Addr} {fd:FuncData} (Z:Zs mg) (F:Fun K "next_place" "next_place" jbj f fd) (C_heads:jaf P w K mg base n "heads" ["table","place"] jdL):FnOk P w K mg base CX0 (n+1) f fd ["table","place","ahead","number"] (LSp K jcy):=by
 obtain⟨g_G_heads,gd_G_heads,G_heads,bG_heads,kG_heads,mG_heads⟩:=C_heads
 refine F.okJ sc_next_place (fun ds h Q q=>by obtain⟨T,a,n,bb,p,o,t,m,e,hT,n6,hp,ka,m0,hm,q⟩:=q;subst e;rfl) _ (fun cdv A outer s H E hr=>(jae (jdd (i:=4) sc_next_place.nd rfl (Or.inl rfl) (jao G_heads hr rfl mG_heads kG_heads bG_heads (jac (jv 0) (by exact(jac (jv 1) jab))))) (by exact(jae (jdd (i:=5) sc_next_place.nd rfl (Or.inl rfl) jaF) (by exact(jae (jmp G1D (jb6 jle (jv 3) (jix (jv 2) (jix (jv 4) (jv 5) (fun _ _=>rfl)) (fun _ _=>rfl)) (jaw _)) (jae (jj7 (i:=3) sc_next_place.nd rfl (Or.inl rfl) (jix (jv 2) (jix (jv 4) (jv 5) (fun _ _=>rfl)) (fun _ _=>rfl))) (by exact(jah (jj6 (i:=5) sc_next_place.nd rfl (Or.inl rfl) jaF))))) (by exact(jah (jcf (jq4 (jac (jix (jv 4) (jv 5) (fun _ _=>rfl)) (by exact(jac (jv 3) jab))))))))))))) ?_
 intro ds h Q q
 obtain⟨T,a,n,bb,p,o,t,m,e,hT,n6,hp,ka,m0,hm,q⟩:=q
 subst e
 refine jag (fun σ' h' => ∃F,σ' = [some (jav T),some (.int (p:Int)),some (.lst a),some (.int m),some (.lst F),none]∧h' F=some ((jba T n p).map fun (k:Nat)=>D.int (k:Int))∧h' a=some ((ji0 T n o t).map D.int)∧Sub h h') (fun C hC=>⟨_,rfl,_,rfl,T,n,bb,p,rfl,hT,n6,hp,fun F eF=>hC _ _ ⟨F,rfl,jad,jam ka eF,Sub.newAt (Sub.refl h) eF⟩⟩) ?_
 rintro _ h1 ⟨F,rfl,kF,ka1,sb⟩
 refine jag (fun σ' h' =>σ' = [some (jav T),some (.int (p:Int)),some (.lst a),some (.int m),some (.lst F),some (.int 0)]∧h1=h') (fun C hC=>hC _ _ ⟨rfl,rfl⟩) ?_
 rintro _ _ ⟨rfl,rfl⟩
 have hat: ∀i j:Nat,(jba T n p)[i]? =some j→atI ((jba T n p).map fun (k:Nat)=>D.int (k:Int)) ((i:Nat):Int)=some (.int (j:Int)):=fun i j hi=>jcc (by rw [G0i,hi];rfl)
 refine jag (fun σ' h' => ∃ (i:Nat) (m' :Int) (j:Nat),σ' = [some (jav T),some (.int (p:Int)),some (.lst a),some (.int m'),some (.lst F),some (.int (i:Int))]∧h1=h' ∧(jba T n p)[i]? =some j∧ja0 (cnt T n o t) (jba T n p) m=(j,m')) (fun C hC=> ?_) ?_
 ·refine jii (fun w σ' h' => ∃ (i:Nat) (m' :Int),σ' = [some (jav T),some (.int (p:Int)),some (.lst a),some (.int m'),some (.lst F),some (.int (i:Int))]∧h1=h' ∧w=(jba T n p).length-i∧0≤m' ∧m' <(((jba T n p).drop i).map (cnt T n o t)).sum∧ja0 (cnt T n o t) (jba T n p) m=ja0 (cnt T n o t) ((jba T n p).drop i) m') _ ⟨0,m,rfl,rfl,rfl,m0,hm,rfl⟩ ?_
  rintro w _ _ ⟨i,m',rfl,rfl,hw,m0',hm',pk⟩
  have hil:i<(jba T n p).length:=Nat.lt_of_not_le fun z=>by rw [G1l z] at hm';simp at hm';omega
  have hj:=G0b hil
  have ed:(jba T n p).drop i=(jba T n p)[i]::(jba T n p).drop (i+1):=G1X hil
  have jl:(jba T n p)[i]<n:=jim (G06 hil)
  generalize (jba T n p)[i]=j at hj ed jl
  rw [ed] at hm' pk
  rw [G0y,G1E] at hm'
  refine⟨_,rfl,_,rfl,_,rfl,_,rfl,_,_,kF,hat i j hj,_,_,ka1,jdo jl,?_⟩
  refine⟨_,rfl,?_⟩
  show if decide (cnt T n o t j≤m')=true then _ else _
  by_cases z:cnt T n o t j≤m'
  ·rw [G0r z]
   refine jh7 ?_
   refine jag (fun σ' h' =>σ' = [some (jav T),some (.int (p:Int)),some (.lst a),some (.int (m' -cnt T n o t j)),some (.lst F),some (.int (i:Int))]∧h1=h') (fun C2 hC2=>⟨m',rfl,_,rfl,_,rfl,_,rfl,_,_,kF,hat i j hj,_,_,ka1,jdo jl,_,rfl,hC2 _ _ ⟨rfl,rfl⟩⟩) ?_
   rintro _ _ ⟨rfl,rfl⟩
   refine⟨(i:Int),rfl,_,rfl,(jba T n p).length-(i+1),_,by omega,Sub.refl _,i+1,m' -cnt T n o t j,rfl,rfl,rfl,by omega,by omega,?_⟩
   rw [pk]
   show ja0 (cnt T n o t) (j::(jba T n p).drop (i+1)) m' =_
   conv=>lhs;unfold ja0
   rw [if_pos z]
  ·rw [G0L z]
   refine jd5 (hC _ _ ⟨i,m',j,rfl,rfl,hj,?_⟩)
   rw [pk]
   conv=>lhs;unfold ja0
   rw [if_neg z]
 rintro _ _ ⟨i,m',j,rfl,rfl,hj,pk⟩
 rw [pk] at q
 exact⟨_,rfl,_,rfl,_,_,kF,hat _ _ hj,_,rfl,(by show 2≤sizeLine;decide),h,sb,q⟩
def ja7:RDn:=fun ds h Q=> ∃T A,∃n e one o k:Nat,∃m:Int,ds= [jav T,.int (one:Int),.lst A,.int m]∧Sq n e T∧n≤6∧one<n∧k≤40∧Cnts h A T n o k∧0≤m∧m<cnt T n o k one∧Q (jaE (wn T n o k one m)) h
set_option maxHeartbeats 2000000 in
theorem jd3 {n:Nat} {f:Addr} {fd:FuncData} (Z:Zs mg) (F:Fun K "walk_of_number" "walk_of_number" jaI f fd) (C_next_place:jaf P w K mg base n "next_place" ["table","place","ahead","number"] jcy):FnOk P w K mg base CX0 (n+1) f fd ["table","one","counts","number"] (LSp K ja7):=by
 obtain⟨g_G_next_place,gd_G_next_place,G_next_place,bG_next_place,kG_next_place,mG_next_place⟩:=C_next_place
 refine F.okJ sc_walk_of_number (fun ds h Q q=>by obtain⟨T,A,n,bb,one,o,k,m,e,hT,n6,h1,hk,cA,m0,hm,q⟩:=q;subst e;rfl) _ (fun cdv A outer s H E hr=>(jae (jdd (i:=4) sc_walk_of_number.nd rfl (Or.inl rfl) (jjT (jac (jv 1) jab))) (by exact(jae (jlj G1D rfl (jpO rfl Z.reversed (jac (jfo (jv 2) jeE (jdf (jqi jaF))) jab)) (jde (i:=5) sc_walk_of_number.nd rfl (Or.inl rfl)) (jae (jqh (jao G_next_place hr rfl mG_next_place kG_next_place bG_next_place (jac (jv 0) (by exact(jac (jix (jv 4) (jqi jaF) (fun _ _=>rfl)) (by exact(jac (jv 5) (by exact(jac (jv 3) jab)))))))) (jig (i:=6) (j:=3) rfl sc_walk_of_number.nd rfl rfl (Or.inl rfl) (Or.inl rfl))) (by exact(jah (jbP (jpD (jv 4) (jv 6))))))) (by exact(jah (jcf (jbJ cq_tuple rfl Z.tuple (by decide +kernel) (jac (jv 4) jab))))))))) ?_
 intro ds h Q q
 obtain⟨T,A,n,bb,one,o,k,m,e,hT,n6,h1,hk,cA,m0,hm,q⟩:=q
 subst e
 refine jag (fun σ' h' => ∃W,σ' = [some (jav T),some (.int (one:Int)),some (.lst A),some (.int m),some (.lst W),none,none]∧h W=none∧h' W=some ((gwN T n o k one m 0).map fun (k:Nat)=>D.int (k:Int))∧Sub h h') (fun C hC=>⟨_,rfl,(by show 1≤sizeLine;decide),fun W eW=>hC _ _ ⟨W,rfl,eW,jad,Sub.newAt (Sub.refl h) eW⟩⟩) ?_
 rintro _ h2 ⟨W,rfl,fW,kW,sb⟩
 obtain⟨rs,kA,lr,rows⟩:=cA
 have hcut:jeX (rs.map D.lst) none (some (-1))=(rs.take k).map D.lst:=by
  unfold jeX
  have e1:HT.sIx (rs.map D.lst).length 0 none=0:=rfl
  have e2:HT.sIx (rs.map D.lst).length (rs.map D.lst).length (some (-1))=k:=by
   show (if (-1:Int)<0 then ((-1:Int)+(((rs.map D.lst).length:Nat):Int)).toNat else min (-1:Int).toNat (rs.map D.lst).length)=k
   rw [if_pos (by decide),G0c,lr];omega
  rw [e1,e2,G27,Nat.sub_zero,G4p]
 refine jag (fun σ' h' => ∃m' a b,σ' = [some (jav T),some (.int (one:Int)),some (.lst A),some (.int m'),some (.lst W),a,b]∧h' W=some ((gwN T n o k one m k).map fun (k:Nat)=>D.int (k:Int))∧Sub h h') (fun C hC=> ?_) ?_
 ·refine⟨_,rfl,_,rfl,_,sb _ _ kA,fun p ep=>⟨p,_,rfl,jad,?_⟩⟩
  have lt:((rs.take k).map D.lst).length=k:=by rw [G0c,G0v];omega
  rw [hcut,lt]
  refine jgT (((rs.take k).map D.lst).reverse) (fun i σ' h' => ∃a b,σ' = [some (jav T),some (.int (one:Int)),some (.lst A),some (.int (gpN T n o k one m i).2),some (.lst W),a,b]∧h' p=some ((rs.take k).map D.lst)∧h' W=some ((gwN T n o k one m i).map fun (k:Nat)=>D.int (k:Int))∧Sub h h') (fun i σ' h' ⟨_,_,_,kp,_⟩=> ?_) ⟨none,none,rfl,jad,jam kW ep,Sub.newAt sb ep⟩ (fun σ' h' ⟨a,b,e,_,kW,sb⟩=>hC _ _ ⟨_,a,b,e,by rw [G0M,lt] at kW;exact kW,sb⟩) ?_
  ·show (h' p).bind _=_
   rw [kp]
   show (if ((rs.take k).map D.lst).length=k then _ else _)=_
   rw [if_pos lt]
  have nWp:W≠p:=fun z=>by subst z;rw [kW] at ep;cases ep
  clear kW sb
  rintro i d _ h3 hd ⟨a,b,rfl,kp,kW,sb⟩
  have hi:i<k:=by have:=(G0m.mp hd).1;rwa [G0M,lt] at this
  rw [G12 (by rw [lt];exact hi),lt,G0i,G3B,if_pos (by omega)] at hd
  have hil:k-1-i<rs.length:=by omega
  rw [G0b hil] at hd
  cases hd
  have hrow:=sb _ _ (rows _ _ (G0b hil))
  obtain⟨g1,g2,g3⟩:=jkd h1 m0 hm i (by omega)
  rw [show k-i=(k-1-i)+1 by omega] at g3
  have hlast:atI ((gwN T n o k one m i).map fun (k:Nat)=>D.int (k:Int)) (-1)=some (.int (((gpN T n o k one m i).1:Nat):Int)):=by
   unfold gwN
   rw [G0S]
   exact jg7 (f:=(fun (k:Nat)=>D.int (k:Int))∘fun t=>(gpN T n o k one m t).1) (show 1≤i+1 by omega)
  refine jag (fun σ' h' => ∃b,σ' = [some (jav T),some (.int (one:Int)),some (.lst A),some (.int (gpN T n o k one m (i+1)).2),some (.lst W),b,some (.int (((gpN T n o k one m (i+1)).1:Nat):Int))]∧h3=h') (fun C2 hC2=>⟨_,rfl,_,rfl,_,_,kW,hlast,_,rfl,_,rfl,T,rs[k-1-i],n,bb,(gpN T n o k one m i).1,o,k-1-i,(gpN T n o k one m i).2,rfl,hT,n6,g1,hrow,g2,g3,_,_,rfl,hC2 _ _ ⟨_,rfl,rfl⟩⟩) ?_
  rintro _ _ ⟨b,rfl,rfl⟩
  refine⟨_,rfl,W,rfl,_,rfl,_,kW,?_,_,Sub.refl _,by rw [G0M,lt];omega,_,_,rfl,jaq (Ne.symm nWp) kp,?_,?_⟩
  ·rw [List.length_map];unfold gwN;rw [List.length_map,List.length_range];exact jaK (by omega)
  ·rw [jad];unfold gwN;rw [List.range_succ (n:=i+1),List.map_append,List.map_append];rfl
  ·intro x ds ex
   rw [jbx (fun w=>by subst w;rw [fW] at ex;cases ex)]
   exact sb x ds ex
 rintro _ h3 ⟨m',a,b,rfl,kW,sb⟩
 rw [jkc] at kW
 exact⟨_,rfl,_,kW,h,sb,q⟩
set_option maxHeartbeats 2000000 in
theorem jjf {n:Nat} {f:Addr} {fd:FuncData} (Z:Zs mg) (F:Fun K "is_walk" "is_walk" jcp f fd) (C_want_table:jaf P w K mg base n "want_table" ["thing"] jaz) (C_has_walk_form:jaf P w K mg base n "has_walk_form" ["table","thing"] jay):FnOk P w K mg base CX0 (n+1) f fd ["table","thing"] (LSp K jay):=by
 obtain⟨g_G_want_table,gd_G_want_table,G_want_table,bG_want_table,kG_want_table,mG_want_table⟩:=C_want_table
 obtain⟨g_G_has_walk_form,gd_G_has_walk_form,G_has_walk_form,bG_has_walk_form,kG_has_walk_form,mG_has_walk_form⟩:=C_has_walk_form
 refine F.okJ jje (fun ds h Q q=>by obtain⟨T,d,n,bb,e,hT,n1,n6,ok,q⟩:=q;subst e;rfl) _ (fun cdv A outer s H E hr=>(jae (jbP (jao G_want_table hr rfl mG_want_table kG_want_table bG_want_table (jac (jv 0) jab))) (by exact(jah (jcf (jao G_has_walk_form hr rfl mG_has_walk_form kG_has_walk_form bG_has_walk_form (jac (jv 0) (by exact(jac (jv 1) jab))))))))) ?_
 intro ds h Q q
 obtain⟨T,d,n,bb,e,hT,n1,n6,ok,q⟩:=q
 subst e
 refine jag (fun σ' h' =>σ' = [some (jav T),some d]∧h=h') (fun C hC=>⟨_,rfl,T,n,bb,rfl,hT,n1,n6,hC _ _ ⟨rfl,rfl⟩⟩) ?_
 rintro _ _ ⟨rfl,rfl⟩
 exact⟨_,rfl,_,rfl,T,d,n,bb,rfl,hT,n1,n6,ok,h,Sub.refl h,q⟩
def jcU (T:List (List Int)) (zs:List (Nat×Nat)):Int:=zs.foldl (fun a p=>a*ent T p.1 p.2) 1
def jcV (T:List (List Int)) (W:List Nat):Int:=jcU T (W.zip (W.drop 1))
theorem jh1 (T:List (List Int)) (zs:List (Nat×Nat)) (p:Nat×Nat):jcU T (zs++ [p])=jcU T zs*ent T p.1 p.2:=by
 unfold jcU;rw [List.foldl_append];rfl
theorem jkQ {T:List (List Int)} {n:Nat} {d:D} (h:jdn T n d=true):d=jaE (jbN d)∧ ∀i∈jbN d,i<n:=by
 unfold jdn at h
 exact jft (Bool.and_eq_true_iff.mp h).1
theorem jqb {n:Nat} {W:List Nat} (hW: ∀i∈W,i<n): ∀p∈W.zip (W.drop 1),p.1<n∧p.2<n:=fun p hp=>⟨hW _ (G2k hp).1,hW _ (G07 (G2k hp).2)⟩
def jdt:RDn:=fun ds h Q=> ∃T d,∃n e:Nat,ds= [jav T,d]∧Sq n e T∧1≤n∧n≤6∧okD d=true∧e≤60∧jdn T n d=true∧Q (.int (jcV T (jbN d))) h
set_option maxHeartbeats 2000000 in
theorem jh2 {n:Nat} {f:Addr} {fd:FuncData} (Z:Zs mg) (F:Fun K "worth_of" "worth_of" jbY f fd) (C_want_table:jaf P w K mg base n "want_table" ["thing"] jaz) (C_want_walk:jaf P w K mg base n "want_walk" ["table","thing"] jca):FnOk P w K mg base CX0 (n+1) f fd ["table","walk"] (LSp K jdt):=by
 obtain⟨g_G_want_table,gd_G_want_table,G_want_table,bG_want_table,kG_want_table,mG_want_table⟩:=C_want_table
 obtain⟨g_G_want_walk,gd_G_want_walk,G_want_walk,bG_want_walk,kG_want_walk,mG_want_walk⟩:=C_want_walk
 refine F.okJ sc_worth_of (fun ds h Q q=>by obtain⟨T,d,n,bb,e,hT,n1,n6,ok,he,hw,q⟩:=q;subst e;rfl) _ (fun cdv A outer s H E hr=>(jae (jbP (jao G_want_table hr rfl mG_want_table kG_want_table bG_want_table (jac (jv 0) jab))) (by exact(jae (jbP (jao G_want_walk hr rfl mG_want_walk kG_want_walk bG_want_walk (jac (jv 0) (by exact(jac (jv 1) jab))))) (by exact(jae (jdd (i:=2) sc_worth_of.nd rfl (Or.inl rfl) jaF) (by exact(jae (jlj G1D rfl (jik rfl Z.zip (jac (jv 1) (by exact(jac (jfo (jv 1) (jdf jaF) jeE) jab)))) (jig (i:=3) (j:=4) rfl sc_worth_of.nd rfl rfl (Or.inl rfl) (Or.inl rfl)) (jah (jnL (i:=2) sc_worth_of.nd rfl (Or.inl rfl) (jix (jix (jv 0) (jv 3) (fun _ _=>rfl)) (jv 4) (fun _ _=>rfl))))) (by exact(jah (jcf (jv 2)))))))))))) ?_
 intro ds h Q q
 obtain⟨T,d,n,bb,e,hT,n1,n6,ok,he,hw,q⟩:=q
 subst e
 refine jag (fun σ' h' =>σ' = [some (jav T),some d,none,none,none]∧h=h') (fun C hC=>⟨_,rfl,T,n,bb,rfl,hT,n1,n6,hC _ _ ⟨rfl,rfl⟩⟩) ?_
 rintro _ _ ⟨rfl,rfl⟩
 refine jag (fun σ' h' =>σ' = [some (jav T),some d,none,none,none]∧h=h') (fun C hC=>⟨_,rfl,_,rfl,T,d,n,bb,rfl,hT,n1,n6,ok,hw,hC _ _ ⟨rfl,rfl⟩⟩) ?_
 rintro _ _ ⟨rfl,rfl⟩
 obtain⟨ed,hW⟩:=jkQ hw
 generalize jbN d=W at ed hW q
 subst ed
 refine jag (fun σ' h' =>σ' = [some (jav T),some (jaE W),some (.int 1),none,none]∧h=h') (fun C hC=>hC _ _ ⟨rfl,rfl⟩) ?_
 rintro _ _ ⟨rfl,rfl⟩
 have hz:=jqb hW
 have ez:=jf3 W
 generalize hzs:W.zip (W.drop 1)=zs at hz ez
 refine jag (fun σ' h' => ∃a b,σ' = [some (jav T),some (jaE W),some (.int (jcU T zs)),a,b]∧h=h') (fun C hC=> ?_) ?_
 ·refine jic (h1:=h) (j:=fun _=>some (jj5 (W.map fun (k:Nat)=>D.int (k:Int)) (jeX (W.map fun (k:Nat)=>D.int (k:Int)) (some 1) none))) (zs.map fun p=>D.tup [.int (p.1:Int),.int (p.2:Int)]) (fun i σ' h' => ∃a b,σ' = [some (jav T),some (jaE W),some (.int (jcU T (zs.take i))),a,b]∧h=h') (fun R r=>⟨_,rfl,_,rfl,_,rfl,_,_,rfl,r⟩) (fun _ _ _ _=>congrArg some ez) ⟨none,none,rfl,rfl⟩ (fun σ' h' ⟨a,b,e,eh⟩=>hC _ _ ⟨a,b,by rw [e,G0c,G3g],eh⟩) ?_
  rintro i d _ _ hd ⟨a,b,rfl,rfl⟩
  have hil:=(G0m.mp hd).1
  rw [G0c] at hil
  rw [G0i,G0b hil] at hd
  injection hd with hd
  subst hd
  have hp:=hz _ (G06 hil)
  have hb:=hT.ent_nn hp.1 hp.2
  have hb2:ent T zs[i].1 zs[i].2<2^64:=((hT.mono (show bb≤64 by omega)).ent_nn hp.1 hp.2).2
  have CM:CMul (jcU T (zs.take i)) ((T.getD zs[i].1 []).getD zs[i].2 0):= .inr ⟨Int.lt_of_lt_of_le (by decide) hb.1,hb2⟩
  have eT:jcU T (zs.take (i+1))=jcU T (zs.take i)*ent T zs[i].1 zs[i].2:=by
   rw [G1u,G0b hil]
   exact jh1 _ _ _
  refine⟨_,_,rfl,?_⟩
  refine⟨_,rfl,_,rfl,_,rfl,_,jdh hT hp.1,_,rfl,_,jdi (hT.row _ (Sq.getRow hT hp.1)) hp.2,_,rfl,CM,_,Sub.refl _,by rw [G0c];omega,some (.int (zs[i].1:Int)),some (.int (zs[i].2:Int)),?_,rfl⟩
  rw [eT];rfl
 rintro _ _ ⟨a,b,rfl,rfl⟩
 refine⟨_,rfl,h,Sub.refl h,?_⟩
 have:jcV T W=jcU T zs:=by unfold jcV;rw [hzs]
 rw [←this];exact q
def jcz:RDn:=fun ds h Q=> ∃T,∃n e one o k:Nat,ds= [jav T,.int (one:Int),.int (o:Int),.int (k:Int)]∧Sq n e T∧1≤n∧n≤6∧one<n∧o<n∧k≤40∧Q (.int (cnt T n o k one)) h
set_option maxHeartbeats 2000000 in
theorem jgq {n:Nat} {f:Addr} {fd:FuncData} (Z:Zs mg) (F:Fun K "walks_many" "walks_many" jbk f fd) (C_want_ends_and_steps:jaf P w K mg base n "want_ends_and_steps" ["table","one","other","k"] jau) (C_counts_to:jaf P w K mg base n "counts_to" ["table","other","k"] jbq):FnOk P w K mg base CX0 (n+1) f fd ["table","one","other","k"] (LSp K jcz):=by
 obtain⟨g_G_want_ends_and_steps,gd_G_want_ends_and_steps,G_want_ends_and_steps,bG_want_ends_and_steps,kG_want_ends_and_steps,mG_want_ends_and_steps⟩:=C_want_ends_and_steps
 obtain⟨g_G_counts_to,gd_G_counts_to,G_counts_to,bG_counts_to,kG_counts_to,mG_counts_to⟩:=C_counts_to
 refine F.okJ jgi (fun ds h Q q=>by obtain⟨T,n,bb,one,o,k,e,hT,n1,n6,h1,ho,hk,q⟩:=q;subst e;rfl) _ (fun cdv A outer s H E hr=>(jae (jbP (jao G_want_ends_and_steps hr rfl mG_want_ends_and_steps kG_want_ends_and_steps bG_want_ends_and_steps (jac (jv 0) (by exact(jac (jv 1) (by exact(jac (jv 2) (by exact(jac (jv 3) jab))))))))) (by exact(jah (jcf (jix (jix (jao G_counts_to hr rfl mG_counts_to kG_counts_to bG_counts_to (jac (jv 0) (by exact(jac (jv 2) (by exact(jac (jv 3) jab)))))) (jv 3) (fun _ _=>rfl)) (jv 1) (fun _ _=>rfl))))))) ?_
 intro ds h Q q
 obtain⟨T,n,bb,one,o,k,e,hT,n1,n6,h1,ho,hk,q⟩:=q
 subst e
 refine jag (fun σ' h' =>σ' = [some (jav T),some (.int (one:Int)),some (.int (o:Int)),some (.int (k:Int))]∧h=h') (fun C hC=>⟨_,rfl,_,rfl,_,rfl,_,rfl,T,n,bb,one,o,k,rfl,hT,n1,n6,h1,ho,hk,hC _ _ ⟨rfl,rfl⟩⟩) ?_
 rintro _ _ ⟨rfl,rfl⟩
 refine⟨_,rfl,_,rfl,_,rfl,T,n,bb,o,k,rfl,hT,n1,n6,ho,hk,fun A h2 sb cA=> ?_⟩
 obtain⟨rs,a,kA,hat,ka⟩:=cA.at (G0f k)
 exact⟨_,rfl,_,_,kA,hat,_,rfl,_,_,ka,jdo h1,h,sb,q⟩
def jcA:RDn:=fun ds h Q=> ∃T,∃n e one o k:Nat,ds= [jav T,.int (one:Int),.int (o:Int),.int (k:Int)]∧Sq n e T∧1≤n∧n≤6∧one<n∧o<n∧k≤40∧Q (if 0<cnt T n o k one then jaE (wn T n o k one 0) else .non) h
set_option maxHeartbeats 2000000 in
theorem jgr {n:Nat} {f:Addr} {fd:FuncData} (Z:Zs mg) (F:Fun K "first_walk" "first_walk" jbm f fd) (C_want_ends_and_steps:jaf P w K mg base n "want_ends_and_steps" ["table","one","other","k"] jau) (C_counts_to:jaf P w K mg base n "counts_to" ["table","other","k"] jbq) (C_walk_of_number:jaf P w K mg base n "walk_of_number" ["table","one","counts","number"] ja7):FnOk P w K mg base CX0 (n+1) f fd ["table","one","other","k"] (LSp K jcA):=by
 obtain⟨g_G_want_ends_and_steps,gd_G_want_ends_and_steps,G_want_ends_and_steps,bG_want_ends_and_steps,kG_want_ends_and_steps,mG_want_ends_and_steps⟩:=C_want_ends_and_steps
 obtain⟨g_G_counts_to,gd_G_counts_to,G_counts_to,bG_counts_to,kG_counts_to,mG_counts_to⟩:=C_counts_to
 obtain⟨g_G_walk_of_number,gd_G_walk_of_number,G_walk_of_number,bG_walk_of_number,kG_walk_of_number,mG_walk_of_number⟩:=C_walk_of_number
 refine F.okJ sc_first_walk (fun ds h Q q=>by obtain⟨T,n,bb,one,o,k,e,hT,n1,n6,h1,ho,hk,q⟩:=q;subst e;rfl) _ (fun cdv A outer s H E hr=>(jae (jbP (jao G_want_ends_and_steps hr rfl mG_want_ends_and_steps kG_want_ends_and_steps bG_want_ends_and_steps (jac (jv 0) (by exact(jac (jv 1) (by exact(jac (jv 2) (by exact(jac (jv 3) jab))))))))) (by exact(jae (jdd (i:=4) sc_first_walk.nd rfl (Or.inl rfl) (jao G_counts_to hr rfl mG_counts_to kG_counts_to bG_counts_to (jac (jv 0) (by exact(jac (jv 2) (by exact(jac (jv 3) jab))))))) (by exact(jah (jcf (jif (jb6 jnk (jix (jix (jv 4) (jv 3) (fun _ _=>rfl)) (jv 1) (fun _ _=>rfl)) jaF (jaw _)) (jao G_walk_of_number hr rfl mG_walk_of_number kG_walk_of_number bG_walk_of_number (jac (jv 0) (by exact(jac (jv 1) (by exact(jac (jv 4) (by exact(jac jaF jab)))))))) jry)))))))) ?_
 intro ds h Q q
 obtain⟨T,n,bb,one,o,k,e,hT,n1,n6,h1,ho,hk,q⟩:=q
 subst e
 refine jag (fun σ' h' =>σ' = [some (jav T),some (.int (one:Int)),some (.int (o:Int)),some (.int (k:Int)),none]∧h=h') (fun C hC=>⟨_,rfl,_,rfl,_,rfl,_,rfl,T,n,bb,one,o,k,rfl,hT,n1,n6,h1,ho,hk,hC _ _ ⟨rfl,rfl⟩⟩) ?_
 rintro _ _ ⟨rfl,rfl⟩
 refine jag (fun σ' h' => ∃A,σ' = [some (jav T),some (.int (one:Int)),some (.int (o:Int)),some (.int (k:Int)),some (.lst A)]∧Sub h h' ∧Cnts h' A T n o k) (fun C hC=>⟨_,rfl,_,rfl,_,rfl,T,n,bb,o,k,rfl,hT,n1,n6,ho,hk,fun A h2 sb cA=>hC _ _ ⟨A,rfl,sb,cA⟩⟩) ?_
 rintro _ h2 ⟨A,rfl,sb,cA⟩
 obtain⟨rs,a,kA,hat,ka⟩:=cA.at (G0f k)
 refine⟨_,rfl,_,rfl,_,_,kA,hat,_,rfl,_,_,ka,jdo h1,_,rfl,?_⟩
 show if decide (cnt T n o k one>0)=true then _ else _
 by_cases z:0<cnt T n o k one
 ·rw [G0r z]
  rw [if_pos z] at q
  exact jh7 ⟨_,rfl,_,rfl,_,rfl,T,A,n,bb,one,o,k,0,rfl,hT,n6,h1,hk,cA,by decide,z,h,sb,q⟩
 ·rw [G0L z]
  rw [if_neg z] at q
  exact jd5 ⟨h,sb,q⟩
def jdu:RDn:=fun ds h Q=> ∃T,∃n e one o k:Nat,∃m:Int,ds= [jav T,.int (one:Int),.int (o:Int),.int (k:Int),.int m]∧Sq n e T∧1≤n∧n≤6∧one<n∧o<n∧k≤40∧0≤m∧m<cnt T n o k one∧Q (jaE (wn T n o k one m)) h
set_option maxHeartbeats 2000000 in
theorem jh3 {n:Nat} {f:Addr} {fd:FuncData} (Z:Zs mg) (F:Fun K "nth_walk" "nth_walk" jbZ f fd) (C_want_ends_and_steps:jaf P w K mg base n "want_ends_and_steps" ["table","one","other","k"] jau) (C_counts_to:jaf P w K mg base n "counts_to" ["table","other","k"] jbq) (C_want_number:jaf P w K mg base n "want_number" ["thing","least","most"] jaX) (C_walk_of_number:jaf P w K mg base n "walk_of_number" ["table","one","counts","number"] ja7):FnOk P w K mg base CX0 (n+1) f fd ["table","one","other","k","number"] (LSp K jdu):=by
 obtain⟨g_G_want_ends_and_steps,gd_G_want_ends_and_steps,G_want_ends_and_steps,bG_want_ends_and_steps,kG_want_ends_and_steps,mG_want_ends_and_steps⟩:=C_want_ends_and_steps
 obtain⟨g_G_counts_to,gd_G_counts_to,G_counts_to,bG_counts_to,kG_counts_to,mG_counts_to⟩:=C_counts_to
 obtain⟨g_G_want_number,gd_G_want_number,G_want_number,bG_want_number,kG_want_number,mG_want_number⟩:=C_want_number
 obtain⟨g_G_walk_of_number,gd_G_walk_of_number,G_walk_of_number,bG_walk_of_number,kG_walk_of_number,mG_walk_of_number⟩:=C_walk_of_number
 refine F.okJ sc_nth_walk (fun ds h Q q=>by obtain⟨T,n,bb,one,o,k,m,e,hT,n1,n6,h1,ho,hk,m0,hm,q⟩:=q;subst e;rfl) _ (fun cdv A outer s H E hr=>(jae (jbP (jao G_want_ends_and_steps hr rfl mG_want_ends_and_steps kG_want_ends_and_steps bG_want_ends_and_steps (jac (jv 0) (by exact(jac (jv 1) (by exact(jac (jv 2) (by exact(jac (jv 3) jab))))))))) (by exact(jae (jdd (i:=5) sc_nth_walk.nd rfl (Or.inl rfl) (jao G_counts_to hr rfl mG_counts_to kG_counts_to bG_counts_to (jac (jv 0) (by exact(jac (jv 2) (by exact(jac (jv 3) jab))))))) (by exact(jae (jbP (jao G_want_number hr rfl mG_want_number kG_want_number bG_want_number (jac (jv 4) (by exact(jac jaF (by exact(jac (jop jez (jix (jix (jv 5) (jv 3) (fun _ _=>rfl)) (jv 1) (fun _ _=>rfl)) jaF) jab))))))) (by exact(jah (jcf (jao G_walk_of_number hr rfl mG_walk_of_number kG_walk_of_number bG_walk_of_number (jac (jv 0) (by exact(jac (jv 1) (by exact(jac (jv 5) (by exact(jac (jv 4) jab))))))))))))))))) ?_
 intro ds h Q q
 obtain⟨T,n,bb,one,o,k,m,e,hT,n1,n6,h1,ho,hk,m0,hm,q⟩:=q
 subst e
 refine jag (fun σ' h' =>σ' = [some (jav T),some (.int (one:Int)),some (.int (o:Int)),some (.int (k:Int)),some (.int m),none]∧h=h') (fun C hC=>⟨_,rfl,_,rfl,_,rfl,_,rfl,T,n,bb,one,o,k,rfl,hT,n1,n6,h1,ho,hk,hC _ _ ⟨rfl,rfl⟩⟩) ?_
 rintro _ _ ⟨rfl,rfl⟩
 refine jag (fun σ' h' => ∃A,σ' = [some (jav T),some (.int (one:Int)),some (.int (o:Int)),some (.int (k:Int)),some (.int m),some (.lst A)]∧Sub h h' ∧Cnts h' A T n o k) (fun C hC=>⟨_,rfl,_,rfl,_,rfl,T,n,bb,o,k,rfl,hT,n1,n6,ho,hk,fun A h2 sb cA=>hC _ _ ⟨A,rfl,sb,cA⟩⟩) ?_
 rintro _ h2 ⟨A,rfl,sb,cA⟩
 obtain⟨rs,a,kA,hat,ka⟩:=cA.at (G0f k)
 refine jag (fun σ' h' =>σ' = [some (jav T),some (.int (one:Int)),some (.int (o:Int)),some (.int (k:Int)),some (.int m),some (.lst A)]∧h2=h') (fun C hC=>⟨_,rfl,_,rfl,_,rfl,_,_,kA,hat,_,rfl,_,_,ka,jdo h1,m,0,_,rfl,m0,by omega,hC _ _ ⟨rfl,rfl⟩⟩) ?_
 rintro _ _ ⟨rfl,rfl⟩
 exact⟨_,rfl,_,rfl,_,rfl,_,rfl,T,A,n,bb,one,o,k,m,rfl,hT,n6,h1,hk,cA,m0,hm,h,sb,q⟩
theorem sum_after {b:D→SD→SD→Prop} {js:List Nat} {ti:TID} {tt:TTD} {te:TED} {σ:SD} {h:HD} {Q:KD} (x:ti σ h fun j h1=>dCB jd8 (ja9 (jda b js (jpE j) tt te) jc6) σ h1 Q):dCB jd8 (ja9 (jda b js ti tt te) jc6) σ h Q:=x
def jbL:RDn:=fun ds h Q=> ∃T W,∃n e o:Nat,ds= [jav T,jaE W]∧Sq n e T∧1≤n∧n≤6∧jdn T n (jaE W)=true∧(∀i∈W,i<n)∧1≤W.length∧W.length≤41∧W[W.length-1]? =some o∧Q (.int (ji1 T n o W)) h
set_option maxHeartbeats 2000000 in
theorem jef {n:Nat} {f:Addr} {fd:FuncData} (Z:Zs mg) (F:Fun K "place_of_walk" "place_of_walk" jaQ f fd) (C_want_table:jaf P w K mg base n "want_table" ["thing"] jaz) (C_want_walk:jaf P w K mg base n "want_walk" ["table","thing"] jca) (C_counts_to:jaf P w K mg base n "counts_to" ["table","other","k"] jbq) (C_heads:jaf P w K mg base n "heads" ["table","place"] jdL) (M_MOST_STEPS_walks: ∃tk,mg "MOST_STEPS_walks" =some (.int 40 tk)):FnOk P w K mg base CX0 (n+1) f fd ["table","walk"] (LSp K jbL):=by
 obtain⟨g_G_want_table,gd_G_want_table,G_want_table,bG_want_table,kG_want_table,mG_want_table⟩:=C_want_table
 obtain⟨g_G_want_walk,gd_G_want_walk,G_want_walk,bG_want_walk,kG_want_walk,mG_want_walk⟩:=C_want_walk
 obtain⟨g_G_counts_to,gd_G_counts_to,G_counts_to,bG_counts_to,kG_counts_to,mG_counts_to⟩:=C_counts_to
 obtain⟨g_G_heads,gd_G_heads,G_heads,bG_heads,kG_heads,mG_heads⟩:=C_heads
 obtain⟨tk_MOST_STEPS_walks,m_MOST_STEPS_walks⟩:=M_MOST_STEPS_walks
 refine F.okJ sc_place_of_walk (fun ds h Q q=>by obtain⟨T,W,n,b,o,e,hT,h1,h6,hw,hW,w1,w2,hl,q⟩:=q;subst e;rfl) _ (fun cdv A outer s H E hr=>(jae (jbP (jao G_want_table hr rfl mG_want_table kG_want_table bG_want_table (jac (jv 0) jab))) (by exact(jae (jbP (jao G_want_walk hr rfl mG_want_walk kG_want_walk bG_want_walk (jac (jv 0) (by exact(jac (jv 1) jab))))) (by exact(jae (jdd (i:=2) sc_place_of_walk.nd rfl (by first|exact Or.inr rfl|exact Or.inl rfl) (jop jez (jaN jb7 rfl Z.len G1w (jac (jv 1) jab)) jaF)) (by exact(jae (jfn (jb6 jnk (jv 2) (jjS rfl m_MOST_STEPS_walks) (jaw _)) (jah jfp) jbf) (by exact(jae (jdd (i:=3) sc_place_of_walk.nd rfl (by first|exact Or.inr rfl|exact Or.inl rfl) (jao G_counts_to hr rfl mG_counts_to kG_counts_to bG_counts_to (jac (jv 0) (by exact(jac (jix (jv 1) (jqi jaF) (fun _ _=>rfl)) (by exact(jac (jv 2) jab))))))) (by exact(jae (jdd (i:=4) sc_place_of_walk.nd rfl (Or.inl rfl) jaF) (by exact(jae (jlj G1D rfl (jik rfl Z.zip (jac (jv 1) (by exact(jac (jfo (jv 1) (jdf jaF) jeE) jab)))) (jig (i:=5) (j:=6) rfl sc_place_of_walk.nd rfl rfl (Or.inl rfl) (by first|exact Or.inr rfl|exact Or.inl rfl)) (jae (jj7 (i:=2) sc_place_of_walk.nd rfl (by first|exact Or.inr rfl|exact Or.inl rfl) jaF) (by exact(jah (jj6 (i:=4) sc_place_of_walk.nd rfl (Or.inl rfl) (jaN (jfX rfl) rfl Z.sum (by decide +kernel) (jac (jlc (i:=7) (js:= [7]) rfl (jal (by rfl)) (jcF (jao G_heads hr rfl mG_heads kG_heads bG_heads (jac (jv 0) (by exact(jac (jv 5) jab))))) (by decide) sc_place_of_walk.nd rfl (by first|exact Or.inl rfl|exact Or.inr rfl) (fun X' hX=>by obtain⟨C,s₀,H₀,ex,rfl⟩:=hX;exact jhE (jb6 jld (jv 7) (jv 6) (jaw _))) (fun X' hX=>by obtain⟨C,s₀,H₀,ex,rfl⟩:=hX;exact(jix (jix (jv 3) (jv 2) (fun _ _=>rfl)) (jv 7) (fun _ _=>rfl)))) jab))))))) (by exact(jah (jcf (jv 4)))))))))))))))))) ?_
 intro ds h Q q
 obtain⟨T,W,n,b,o,e,hT,h1,h6,hw,hW,w1,w2,hl,q⟩:=q
 subst e
 have okW:okD (jaE W)=true:=jho (by rw [G0c];omega) fun d hd=>by obtain⟨x,_,rfl⟩:=G0D.mp hd;rfl
 have lW:((W.map fun (k:Nat)=>D.int (k:Int)).length:Int)=(W.length:Int):=by rw [G0c]
 have ho:o<n:=hW o (G0h hl)
 refine jag (fun σ' h' =>σ' = [some (jav T),some (jaE W),none,none,none,none,none,none]∧h=h') (fun C hC=>⟨_,rfl,T,n,b,rfl,hT,h1,h6,hC _ _ ⟨rfl,rfl⟩⟩) ?_
 rintro _ _ ⟨rfl,rfl⟩
 refine jag (fun σ' h' =>σ' = [some (jav T),some (jaE W),none,none,none,none,none,none]∧h=h') (fun C hC=>⟨_,rfl,_,rfl,T,_,n,b,rfl,hT,h1,h6,okW,hw,hC _ _ ⟨rfl,rfl⟩⟩) ?_
 rintro _ _ ⟨rfl,rfl⟩
 refine jag (fun σ' h' =>σ' = [some (jav T),some (jaE W),some (.int ((W.length-1:Nat):Int)),none,none,none,none,none]∧h=h') (fun C hC=>⟨_,rfl,hC _ _ ⟨by rw [lW,show (W.length:Int)-1=((W.length-1:Nat):Int) by omega];rfl,rfl⟩⟩) ?_
 rintro _ _ ⟨rfl,rfl⟩
 refine jag (fun σ' h' =>σ' = [some (jav T),some (jaE W),some (.int ((W.length-1:Nat):Int)),none,none,none,none,none]∧h=h') (fun C hC=>⟨_,rfl,_,rfl,?_⟩) ?_
 ·show if decide ((40:Int)<((W.length-1:Nat):Int))=true then _ else _
  rw [G0L (show ¬ (40:Int)<((W.length-1:Nat):Int) by omega)]
  exact jd5 (hC _ _ ⟨rfl,rfl⟩)
 rintro _ _ ⟨rfl,rfl⟩
 have ewl:atI (W.map fun (k:Nat)=>D.int (k:Int)) (-1)=some (.int (o:Int)):=jlH (by rw [G0c];exact w1) (by rw [G0c,G0i,hl];rfl)
 refine jag (fun σ' h' => ∃A,σ' = [some (jav T),some (jaE W),some (.int ((W.length-1:Nat):Int)),some (.lst A),none,none,none,none]∧Sub h h' ∧Cnts h' A T n o (W.length-1)) (fun C hC=>⟨_,rfl,_,rfl,_,ewl,_,rfl,T,n,b,o,W.length-1,rfl,hT,h1,h6,ho,by omega,fun A h' sb hc=>hC _ _ ⟨A,rfl,sb,hc⟩⟩) ?_
 rintro _ h2 ⟨A,rfl,sb,cA⟩
 refine jag (fun σ' h' =>σ' = [some (jav T),some (jaE W),some (.int ((W.length-1:Nat):Int)),some (.lst A),some (.int 0),none,none,none]∧h2=h') (fun C hC=>hC _ _ ⟨rfl,rfl⟩) ?_
 rintro _ _ ⟨rfl,rfl⟩
 have ez:=jf3 W
 have zl:(W.zip (W.drop 1)).length=W.length-1:=by rw [G3s,G0Q];omega
 refine jag (fun σ' h' => ∃ (u v w x:Option D),σ' = [some (jav T),some (jaE W),u,some (.lst A),some (.int (ji1 T n o W)),v,w,x]∧Sub h h') (fun C hC=> ?_) (fun σ' h' ⟨u,v,w,x,e,sb⟩=>by subst e;exact⟨_,rfl,h,sb,q⟩)
 refine jic (h1:=h2) (j:=fun _=>some (jj5 (W.map fun (k:Nat)=>D.int (k:Int)) (jeX (W.map fun (k:Nat)=>D.int (k:Int)) (some 1) none))) ((W.zip (W.drop 1)).map fun p=>D.tup [.int (p.1:Int),.int (p.2:Int)]) (fun i σ' h' => ∃ (num:Int) (v w x:Option D),σ' = [some (jav T),some (jaE W),some (.int ((W.length-1-i:Nat):Int)),some (.lst A),some (.int num),v,w,x]∧Sub h h' ∧Cnts h' A T n o (W.length-1)∧num+ji1 T n o (W.drop i)=ji1 T n o W) (fun R r=>⟨_,rfl,_,rfl,_,rfl,_,_,rfl,r⟩) (fun _ _ _ _=>congrArg some ez) ⟨0,none,none,none,rfl,sb,cA,by rw [G27,Int.zero_add]⟩ ?_ ?_
 ·rintro σ' h' ⟨num,v,w,x,e,sb,_,en⟩
  rw [G0c,zl] at e en
  obtain⟨y,ey⟩: ∃y,W.drop (W.length-1)= [y]:=by
   have:(W.drop (W.length-1)).length=1:=by rw [G0Q];omega
   exact List.length_eq_one_iff.mp this
  rw [ey] at en
  have en:num=ji1 T n o W:=by rw [←en];show num=num+0;omega
  subst en
  exact hC _ _ ⟨_,v,w,x,e,sb⟩
 clear sb
 rintro i d _ h3 hd ⟨num,v,w,x,rfl,sb,cA3,en⟩
 have hil:=(G0m.mp hd).1
 rw [G0c] at hil
 have hiW:i+1<W.length:=by rw [zl] at hil;omega
 have e0:(W.zip (W.drop 1))[i]=(W[i],W[i+1]):=by
  rw [List.getElem_zip,G3M]
  congr 2
  omega
 rw [G0i,G0b hil] at hd
 injection hd with hd
 subst hd
 rw [e0]
 have ha:W[i]<n:=hW _ (G06 _)
 have hb:W[i+1]<n:=hW _ (G06 _)
 have edr:W.drop i=W[i]::W[i+1]::W.drop (i+2):=by rw [G1X (by omega),G1X (by omega)]
 have edr1:W.drop (i+1)=W[i+1]::W.drop (i+2):=G1X (by omega)
 generalize W[i]=y1 at ha edr
 generalize W[i+1]=y2 at hb edr edr1
 refine⟨_,_,rfl,?_⟩
 show jec _ _ _ [some (jav T),some (jaE W),some (.int ((W.length-1-i:Nat):Int)),some (.lst A),some (.int num),some (.int (y1:Int)),some (.int (y2:Int)),x] h3
 refine jag (fun σ' h' =>σ' = [some (jav T),some (jaE W),some (.int ((W.length-1-(i+1):Nat):Int)),some (.lst A),some (.int num),some (.int (y1:Int)),some (.int (y2:Int)),x]∧h3=h') (fun C2 hC2=>⟨_,rfl,_,rfl,hC2 _ _ ⟨congrArg (fun z=> [some (jav T),some (jaE W),some (D.int z),some (.lst A),some (.int num),some (.int (y1:Int)),some (.int (y2:Int)),x]) (show ((W.length-1-i:Nat):Int)-1=((W.length-1-(i+1):Nat):Int) by omega),rfl⟩⟩) ?_
 rintro _ _ ⟨rfl,rfl⟩
 obtain⟨rs,aa,kA,hat,ka⟩:=cA3.at (show W.length-1-(i+1)≤W.length-1 by omega)
 refine⟨_,rfl,?_⟩
 refine sum_after ⟨_,rfl,_,rfl,T,n,b,y1,rfl,hT,h6,ha,fun F fF=> ?_⟩
 refine jrb (j:=fun h=>h F) (jba T n y1) (fun j=> .int (j:Int)) (fun j=>cnt T n o (W.length-1-(i+1)) j) (fun (j:Nat)=>decide (j<y2)) (G01 (jhH _) (by omega)) jad (fun R r=>r) (fun j hj Q' q' =>⟨_,rfl,_,rfl,?_⟩) (fun j hj _ Q' q' =>⟨_,rfl,_,rfl,_,_,jam kA fF,hat,_,rfl,_,_,jam ka fF,jdo (jim hj),q'⟩) ?_
 ·show ∃k,D.bl (decide (((j:Nat):Int)<((y2:Nat):Int)))=D.bl k∧_
  rw [show decide (((j:Nat):Int)<((y2:Nat):Int))=decide (j<y2) from by rw [G1Z,decide_eq_true_iff,decide_eq_true_iff];omega]
  exact⟨_,rfl,q'⟩
 ·refine⟨_,rfl,_,Sub.refl _,by rw [G0c,zl];omega,num+(((jba T n y1).filter fun (j:Nat)=>decide (j<y2)).map (cnt T n o (W.length-1-(i+1)))).sum,_,_,_,rfl,Sub.newAt sb fF,cA3.sub (Sub.newAt (Sub.refl _) fF),?_⟩
  rw [←en,edr,edr1]
  show _=num+((((jba T n y1).filter fun h=>decide (h<y2)).map (cnt T n o (W.drop (i+2)).length)).sum+ji1 T n o (y2::W.drop (i+2)))
  rw [G0Q,show W.length-(i+2)=W.length-1-(i+1) by omega]
  omega
def jcB:RDn:=fun ds h Q=> ∃T S,∃n e:Nat,ds= [jav T,jaE S]∧Sq n e T∧IsS n S∧n≤6∧Q (jaE (jaZ n T S)) h
set_option maxHeartbeats 2000000 in
theorem jgs {n:Nat} {f:Addr} {fd:FuncData} (Z:Zs mg) (F:Fun K "step_after" "step_after" jbn f fd):FnOk P w K mg base CX0 (n+1) f fd ["table","some"] (LSp K jcB):=by
 refine F.okJ sc_step_after (fun ds h Q q=>by obtain⟨T,S,k,b,e,hT,hS,h6,q⟩:=q;subst e;rfl) _ (fun cdv A outer s H E hr=>(jah (jcf (jbJ jb3 rfl Z.tuple (by decide +kernel) (jac (jlc (i:=2) (js:= [2]) rfl (jal (by rfl)) (jdR rfl Z.range (jac (jaN jb7 rfl Z.len G1w (jac (jv 0) jab)) jab)) (by decide) sc_step_after.nd rfl (by first|exact Or.inl rfl|exact Or.inr rfl) (fun X' hX=>by obtain⟨C,s₀,H₀,ex,rfl⟩:=hX;exact jhE (jeC (jaN (jpn rfl) rfl Z.any (by decide +kernel) (jac (jlc (i:=3) (js:= [3]) rfl (jal (by rfl)) (jcF (jv 1)) (by decide) sc_step_after.nd rfl (by first|exact Or.inl rfl|exact Or.inr rfl) (fun X' hX=>jaM) (fun X' hX=>by obtain⟨C,s₀,H₀,ex,rfl⟩:=hX;exact(jie oq_ne (jix (jix (jv 0) (jv 3) (fun _ _=>rfl)) (jv 2) (fun _ _=>rfl)) jaF (jaw _)))) jab)))) (fun X' hX=>by obtain⟨C,s₀,H₀,ex,rfl⟩:=hX;exact(jv 2))) jab))))) ?_
 intro ds h Q q
 obtain⟨T,S,k,b,e,hT,hS,h6,q⟩:=q
 subst e
 have hlen:=hS.len
 refine jq7 (List.range k) (fun j=> .int (j:Int)) (fun j=> .int (j:Int)) (fun j=>S.any fun i=>decide (ent T i j≠0)) (by rw [G0A];omega) rfl (fun R r=>⟨_,rfl,(k:Int),by rw [G0c,hT.len],by omega,by omega,r⟩) (fun j hj Q' q' => ?_) (fun j hj hp Q' q' =>⟨_,rfl,q'⟩) ⟨h,Sub.refl h,q⟩
 refine jsd S (fun i=> .int (i:Int)) (fun i=>decide (ent T i j≠0)) (by omega) rfl (fun R r=>⟨_,rfl,r⟩) (fun i hi Q'' q'' => ?_) ⟨_,rfl,q'⟩
 have hi' :=hS.lt hi
 refine⟨_,rfl,_,rfl,_,jdh hT hi',_,rfl,_,jdi (hT.row _ (Sq.getRow hT hi')) (G0x.mp hj),?_⟩
 have e:(!decide (((T.getD i []).getD j 0)=0))=decide (ent T i j≠0):=by simp [ent]
 rw [←e] at q'';exact q''
def jcW:RDn:=fun ds h Q=> ∃T S,∃n e k:Nat,ds= [jav T,jaE S,.int (k:Int)]∧Sq n e T∧1≤n∧n≤6∧IsS n S∧k≤1000000000∧Q (jaE (itF (jaZ n T) S k)) h
set_option maxHeartbeats 2000000 in
theorem jhs {n:Nat} {f:Addr} {fd:FuncData} (Z:Zs mg) (F:Fun K "set_after" "set_after" jbB f fd) (C_want_table:jaf P w K mg base n "want_table" ["thing"] jaz) (C_want_set:jaf P w K mg base n "want_set" ["table","thing"] jds) (C_want_number:jaf P w K mg base n "want_number" ["thing","least","most"] jaX) (C_step_after:jaf P w K mg base n "step_after" ["table","some"] jcB) (M_MOST_STEPS_afters: ∃tk,mg "MOST_STEPS_afters" =some (.int 1000000000 tk)):FnOk P w K mg base CX0 (n+1) f fd ["table","some","k"] (LSp K jcW):=by
 obtain⟨g_G_want_table,gd_G_want_table,G_want_table,bG_want_table,kG_want_table,mG_want_table⟩:=C_want_table
 obtain⟨g_G_want_set,gd_G_want_set,G_want_set,bG_want_set,kG_want_set,mG_want_set⟩:=C_want_set
 obtain⟨g_G_want_number,gd_G_want_number,G_want_number,bG_want_number,kG_want_number,mG_want_number⟩:=C_want_number
 obtain⟨g_G_step_after,gd_G_step_after,G_step_after,bG_step_after,kG_step_after,mG_step_after⟩:=C_step_after
 obtain⟨tk_MOST_STEPS_afters,m_MOST_STEPS_afters⟩:=M_MOST_STEPS_afters
 refine F.okJ sc_set_after (fun ds h Q q=>by obtain⟨T,S,n,bb,k,e,hT,h1,h6,hS,hk,q⟩:=q;subst e;rfl) _ (fun cdv A outer s H E hr=>(jae (jbP (jao G_want_table hr rfl mG_want_table kG_want_table bG_want_table (jac (jv 0) jab))) (by exact(jae (jbP (jao G_want_set hr rfl mG_want_set kG_want_set bG_want_set (jac (jv 0) (by exact(jac (jv 1) jab))))) (by exact(jae (jbP (jao G_want_number hr rfl mG_want_number kG_want_number bG_want_number (jac (jv 2) (by exact(jac jaF (by exact(jac (jjS rfl m_MOST_STEPS_afters) jab))))))) (by exact(jae (jdd (i:=3) sc_set_after.nd rfl (Or.inl rfl) (jjT (jac (jv 1) jab))) (by exact(jae (jmp G1D (jb6 jjI (jaN jb7 rfl Z.len G1w (jac (jv 3) jab)) (jv 2) (jaw _)) (jae (jdd (i:=4) sc_set_after.nd rfl (Or.inl rfl) (jao G_step_after hr rfl mG_step_after kG_step_after bG_step_after (jac (jv 0) (by exact(jac (jix (jv 3) (jqi jaF) (fun _ _=>rfl)) jab))))) (by exact(jae (jfn (jb6 (jpJ hr.units) (jv 4) (jv 3) (by with_unfolding_all rfl)) (jae (jdd (i:=5) sc_set_after.nd rfl (Or.inl rfl) (jsf hr.units (jv 3) (jv 4))) (by exact(jah (jcf (jix (jv 3) (jop jdz (jv 5) (jop jd7 (jop jez (jv 2) (jv 5)) (jop jez (jaN jb7 rfl Z.len G1w (jac (jv 3) jab)) (jv 5)))) (fun _ _=>rfl)))))) jbf) (by exact(jah (jbP (jpD (jv 3) (jv 4))))))))) (by exact(jah (jcf (jix (jv 3) (jv 2) (fun _ _=>rfl))))))))))))))) ?_
 intro ds h Q q
 obtain⟨T,S,n,bb,k,e,hT,h1,h6,hS,hk,q⟩:=q
 subst e
 refine jag (fun σ' h' =>σ' = [some (jav T),some (jaE S),some (.int (k:Int)),none,none,none]∧h=h') (fun C hC=>⟨_,rfl,T,n,bb,rfl,hT,h1,h6,hC _ _ ⟨rfl,rfl⟩⟩) ?_
 rintro _ _ ⟨rfl,rfl⟩
 refine jag (fun σ' h' =>σ' = [some (jav T),some (jaE S),some (.int (k:Int)),none,none,none]∧h=h') (fun C hC=>⟨_,rfl,_,rfl,T,S,n,rfl,hT.len,hS,h6,hC _ _ ⟨rfl,rfl⟩⟩) ?_
 rintro _ _ ⟨rfl,rfl⟩
 refine jag (fun σ' h' =>σ' = [some (jav T),some (jaE S),some (.int (k:Int)),none,none,none]∧h=h') (fun C hC=>⟨_,rfl,(k:Int),0,1000000000,rfl,by omega,by omega,hC _ _ ⟨rfl,rfl⟩⟩) ?_
 rintro _ _ ⟨rfl,rfl⟩
 have itS: ∀j,IsS n (itF (jaZ n T) S j):=fun j=>hS.it j
 refine jag (fun σ' h' => ∃A,σ' = [some (jav T),some (jaE S),some (.int (k:Int)),some (.lst A),none,none]∧h A=none∧h' A=some ((List.range 1).map fun j=>jaE (itF (jaZ n T) S j))∧Sub h h') (fun C hC=> ?_) ?_
 ·exact⟨_,rfl,(by show 1≤sizeLine;decide),fun A eA=>hC _ _ ⟨A,rfl,eA,jad,Sub.newAt (Sub.refl h) eA⟩⟩
 rintro _ h1' ⟨A,rfl,fA,kA,sbA⟩
 refine jag (fun σ' h' => ∃a b,σ' = [some (jav T),some (jaE S),some (.int (k:Int)),some (.lst A),a,b]∧h' A=some ((List.range (k+1)).map fun j=>jaE (itF (jaZ n T) S j))∧Sub h h') (fun C hC=> ?_) ?_
 ·refine jii (fun m σ' h' => ∃L a b,σ' = [some (jav T),some (jaE S),some (.int (k:Int)),some (.lst A),a,b]∧h' A=some ((List.range L).map fun j=>jaE (itF (jaZ n T) S j))∧Sub h h' ∧1≤L∧L≤k+1∧m=k+1-L∧((List.range L).map (itF (jaZ n T) S)).Nodup) k ⟨1,none,none,rfl,kA,sbA,by decide,by omega,by omega,by simp⟩ ?_
  rintro m _ h2 ⟨L,a,b,rfl,kA2,sb2,hL1,hLk,hm,nd⟩
  have hL64:L≤64:=by
   have:=jlD h6 nd fun X hX=>by obtain⟨j,_,rfl⟩:=G0D.mp hX;exact itS j
   simpa using this
  refine⟨_,rfl,_,kA2,_,rfl,_,rfl,jkT (fun c=> ?_) (fun c=> ?_)⟩
  rotate_left
  ·have c' : ¬ (((List.range L).map fun j=>jaE (itF (jaZ n T) S j)).length:Int)≤(k:Int):=fun z=>c (G0r z)
   rw [G0c,G0A] at c'
   have eL:L=k+1:=by omega
   subst eL
   exact hC _ _ ⟨a,b,rfl,kA2,sb2⟩
  have c' :(((List.range L).map fun j=>jaE (itF (jaZ n T) S j)).length:Int)≤(k:Int):=G1H c
  rw [G0c,G0A] at c'
  have hLk2:L≤k:=by omega
  have eqL:jaZ n T (itF (jaZ n T) S (L-1))=itF (jaZ n T) S L:=by
   obtain⟨L',rfl⟩: ∃L',L=L' +1:=⟨L-1,by omega⟩
   rfl
  refine jag (fun σ' h' =>σ' = [some (jav T),some (jaE S),some (.int (k:Int)),some (.lst A),some (jaE (itF (jaZ n T) S L)),b]∧h2=h') (fun C2 hC2=> ?_) ?_
  ·refine⟨_,rfl,_,rfl,_,_,kA2,jg7 hL1,T,_,n,bb,rfl,hT,itS _,h6,hC2 _ _ ⟨?_,rfl⟩⟩
   rw [eqL];rfl
  rintro _ _ ⟨rfl,rfl⟩
  have kA3:h2 A=some (((List.range L).map (itF (jaZ n T) S)).map jaE):=by rw [kA2,G0S];rfl
  refine jag (fun σ' h' =>σ' = [some (jav T),some (jaE S),some (.int (k:Int)),some (.lst A),some (jaE (itF (jaZ n T) S L)),b]∧h2=h' ∧itF (jaZ n T) S L ∉ (List.range L).map (itF (jaZ n T) S)) (fun C2 hC2=> ?_) ?_
  ·refine⟨_,rfl,_,rfl,jnG kA3 ⟨_,rfl,jkT (fun c=> ?_) (fun c=>hC2 _ _ ⟨rfl,rfl,fun z=>c (by rw [G0r z];rfl)⟩)⟩⟩
   have hin:itF (jaZ n T) S L∈(List.range L).map (itF (jaZ n T) S):=by
    cases z:decide (itF (jaZ n T) S L∈(List.range L).map (itF (jaZ n T) S)) with
    |true=>exact G1H z
    |false=>rw [z] at c;exact absurd c (by decide)
   have hjl:=G3K.mpr hin
   have hat:=List.getElem_idxOf hjl
   generalize hJ:((List.range L).map (itF (jaZ n T) S)).idxOf (itF (jaZ n T) S L)=J at hjl hat
   have hJL:J<L:=by simpa using hjl
   have hJe:itF (jaZ n T) S L=itF (jaZ n T) S J:=by
    rw [←hat];simp
   refine jag (fun σ' h' =>σ' = [some (jav T),some (jaE S),some (.int (k:Int)),some (.lst A),some (jaE (itF (jaZ n T) S L)),some (.int (J:Int))]∧h2=h') (fun C3 hC3=> ?_) ?_
   ·refine⟨_,rfl,A,rfl,_,rfl,?_⟩
    obtain⟨pd,ps,jj,zz,t1,t2,c1,c2,c3,c4,c5,c6,c7,ej⟩:=jnH (Q:=fun d _=>d= .int (J:Int)) kA3 hin (by simp;omega) (by rw [hJ])
    have ejj:jj=J:=by injection ej with ej;omega
    subst ejj
    exact⟨pd,ps,jj,zz,t1,t2,c1,c2,c3,c4,c5,c6,c7,hC3 _ _ ⟨rfl,rfl⟩⟩
   rintro _ _ ⟨rfl,rfl⟩
   have hpos:(0:Int)<(((List.range L).map fun j=>jaE (itF (jaZ n T) S j)).length:Int)-(J:Int):=by
    rw [G0c,G0A];omega
   have hix:(J:Int)+((k:Int)-(J:Int))%((((List.range L).map fun j=>jaE (itF (jaZ n T) S j)).length:Int)-(J:Int))=((J+(k-J)%(L-J):Nat):Int):=by
    rw [G0c,G0A,G3q,Int.natCast_emod,Int.natCast_sub (by omega),Int.natCast_sub (by omega)]
   have hlt:J+(k-J)%(L-J)<L:=by
    have:=G26 (k-J) (show 0<L-J by omega)
    omega
   refine⟨_,rfl,_,rfl,_,rfl,_,rfl,_,rfl,_,kA2,_,rfl,hpos,_,jaE (itF (jaZ n T) S (J+(k-J)%(L-J))),kA2,?_,h,sb2,?_⟩
   ·rw [hix];exact jj9 hlt
   ·rw [jnE hJe hJL (by omega)];exact q
  rintro _ _ ⟨rfl,rfl,hni⟩
  refine⟨_,rfl,A,rfl,_,rfl,_,kA2,?_,k+1-(L+1),_,by omega,Sub.refl _,L+1,_,_,rfl,?_,?_,by omega,by omega,rfl,?_⟩
  ·rw [G0c,G0A];exact jaK (by omega)
  ·rw [jad,G2o,G1s];rfl
  ·intro x ds e
   rw [jbx (fun w=>by subst w;rw [fA] at e;cases e)];exact sb2 x ds e
  ·rw [G2o,G1s,List.nodup_append]
   exact⟨nd,by simp,fun x hx y hy=>by rw [G0g.mp (show y∈ [itF (jaZ n T) S L] from hy)];intro e;exact hni (e ▸ hx)⟩
 rintro _ h3 ⟨a,b,rfl,kA3,sb3⟩
 exact⟨_,rfl,_,rfl,_,_,kA3,jj9 (by omega),h,sb3,q⟩
def jcC:RDn:=fun ds h Q=> ∃T U,∃n e f:Nat,ds= [jav T,jav U]∧Sq n e T∧Sq n f U∧e+f≤1000000∧n≤6∧Q (jav (jfq n T U)) h
set_option maxHeartbeats 2000000 in
theorem jgt {n:Nat} {f:Addr} {fd:FuncData} (Z:Zs mg) (F:Fun K "multiplied" "multiplied" jbo f fd):FnOk P w K mg base CX0 (n+1) f fd ["one","other"] (LSp K jcC):=by
 refine F.okJ sc_multiplied (fun ds h Q q=>by obtain⟨T,U,k,b,f,e,hT,hU,hb,h6,q⟩:=q;subst e;rfl) _ (fun cdv A outer s H E hr=>(jae (jdd (i:=2) sc_multiplied.nd rfl (by first|exact Or.inr rfl|exact Or.inl rfl) (jaN jb7 rfl Z.len G1w (jac (jv 0) jab))) (by exact(jah (jcf (jbJ jb3 rfl Z.tuple (by decide +kernel) (jac (jlc (i:=3) (js:= [3]) rfl (jal (by rfl)) (jcF (jv 0)) (by decide) sc_multiplied.nd rfl (by first|exact Or.inl rfl|exact Or.inr rfl) (fun X' hX=>jaM) (fun X' hX=>by obtain⟨C,s₀,H₀,ex,rfl⟩:=hX;exact(jbJ jb3 rfl Z.tuple (by decide +kernel) (jac (jlc (i:=4) (js:= [4]) rfl (jal (by rfl)) (jdR rfl Z.range (jac (jv 2) jab)) (by decide) sc_multiplied.nd rfl (by first|exact Or.inl rfl|exact Or.inr rfl) (fun X' hX=>jaM) (fun X' hX=>by obtain⟨C,s₀,H₀,ex,rfl⟩:=hX;exact(jaN (jfX rfl) rfl Z.sum (by decide +kernel) (jac (jlc (i:=5) (js:= [5]) rfl (jal (by rfl)) (jdR rfl Z.range (jac (jv 2) jab)) (by decide) sc_multiplied.nd rfl (by first|exact Or.inl rfl|exact Or.inr rfl) (fun X' hX=>jaM) (fun X' hX=>by obtain⟨C,s₀,H₀,ex,rfl⟩:=hX;exact(jop jnv (jix (jv 3) (jv 5) (fun _ _=>rfl)) (jix (jix (jv 1) (jv 5) (fun _ _=>rfl)) (jv 4) (fun _ _=>rfl))))) jab)))) jab)))) jab))))))) ?_
 intro ds h Q q
 obtain⟨T,U,k,b,f,e,hT,hU,hb,h6,q⟩:=q
 subst e
 refine jag (fun σ' h' =>σ' = [some (jav T),some (jav U),some (.int (k:Int)),none,none,none]∧h=h') (fun C hC=>⟨_,rfl,hC _ _ ⟨by rw [G0c,hT.len];rfl,rfl⟩⟩) ?_
 rintro _ _ ⟨rfl,rfl⟩
 refine jn9 T jeY (fun r=> .tup ((List.range k).map fun j=> .int (jaY k fun m=>r.getD m 0*ent U m j))) (by rw [hT.len];omega) rfl (fun R r=>⟨_,rfl,r⟩) (fun r hr Q' q' => ?_) ⟨h,Sub.refl h,?_⟩
 ·refine jn9 (List.range k) (fun j=> .int (j:Int)) (fun j=> .int (jaY k fun m=>r.getD m 0*ent U m j)) (by rw [G0A];omega) rfl (fun R rr=>⟨_,rfl,(k:Int),rfl,by omega,by omega,rr⟩) (fun j hj Q'' q'' => ?_) q'
  refine jq8 (List.range k) (fun m=> .int (m:Int)) (fun m=>r.getD m 0*ent U m j) (by rw [G0A];omega) rfl (fun R rr=>⟨_,rfl,(k:Int),rfl,by omega,by omega,rr⟩) (fun m hm Q3 q3=> ?_) q''
  have hm' :=G0x.mp hm
  have hj' :=G0x.mp hj
  refine⟨_,rfl,_,rfl,_,jdi (hT.row r hr) hm',_,rfl,_,rfl,_,jdh hU hm',_,rfl,_,jdi (hU.row _ (Sq.getRow hU hm')) hj',?_,q3⟩
  refine jlp (e:=b) (f:=f) ?_ (hU.ent_nn hm' hj') (by omega)
  have hm2:m<r.length:=by rw [hT.row r hr];exact hm'
  have e1:r.getD m 0=r[m]:=by rw [G0B,G0b hm2];rfl
  rw [e1];exact⟨hT.nn r hr _ (G06 hm2),hT.bit r hr _ (G06 hm2)⟩
 ·rw [jlq hT];exact q
def jbM:RDn:=fun ds h Q=> ∃n:Nat,ds= [.int (n:Int)]∧n≤6∧Q (jav (jhF n)) h
set_option maxHeartbeats 2000000 in
theorem jeg {n:Nat} {f:Addr} {fd:FuncData} (Z:Zs mg) (F:Fun K "power_of_none" "power_of_none" jaR f fd):FnOk P w K mg base CX0 (n+1) f fd ["size"] (LSp K jbM):=by
 refine F.okJ sc_power_of_none (fun ds h Q q=>by obtain⟨k,e,h6,q⟩:=q;subst e;rfl) _ (fun cdv A outer s H E hr=>(jah (jcf (jbJ jb3 rfl Z.tuple (by decide +kernel) (jac (jlc (i:=1) (js:= [1]) rfl (jal (by rfl)) (jdR rfl Z.range (jac (jv 0) jab)) (by decide) sc_power_of_none.nd rfl (by first|exact Or.inl rfl|exact Or.inr rfl) (fun X' hX=>jaM) (fun X' hX=>by obtain⟨C,s₀,H₀,ex,rfl⟩:=hX;exact(jbJ jb3 rfl Z.tuple (by decide +kernel) (jac (jlc (i:=2) (js:= [2]) rfl (jal (by rfl)) (jdR rfl Z.range (jac (jv 0) jab)) (by decide) sc_power_of_none.nd rfl (by first|exact Or.inl rfl|exact Or.inr rfl) (fun X' hX=>jaM) (fun X' hX=>by obtain⟨C,s₀,H₀,ex,rfl⟩:=hX;exact(jif (jb6 (jgU hr.units) (jv 1) (jv 2) (jaw _)) jaF jaF))) jab)))) jab))))) ?_
 intro ds h Q q
 obtain⟨k,e,h6,q⟩:=q
 subst e
 refine jn9 (List.range k) (fun j=> .int (j:Int)) (fun i=> .tup ((List.range k).map fun j=> .int (if i=j then 1 else 0))) (by rw [G0A];omega) rfl (fun R r=>⟨_,rfl,(k:Int),rfl,by omega,by omega,r⟩) (fun i hi Q' q' => ?_) ⟨h,Sub.refl h,?_⟩
 ·refine jn9 (List.range k) (fun j=> .int (j:Int)) (fun j=> .int (if i=j then 1 else 0)) (by rw [G0A];omega) rfl (fun R rr=>⟨_,rfl,(k:Int),rfl,by omega,by omega,rr⟩) (fun j hj Q'' q'' =>⟨_,rfl,_,rfl,_,rfl,?_⟩) q'
  by_cases z:i=j
  ·subst z;rw [if_pos rfl] at q'';rw [G0r rfl];exact jh7 q''
  ·rw [if_neg z] at q''
   have:decide ((i:Int)=(j:Int))=false:=G0L (by omega)
   rw [this];exact jd5 q''
 ·rw [jpF];exact q
def jgu:RDn:=fun ds h Q=> ∃T,∃n e m:Nat,ds= [jav T,.int (m:Int)]∧Sq n e T∧1≤n∧n≤6∧m≤60∧e≤10000∧Q (jav (jfr n T m)) h
set_option maxHeartbeats 2000000 in
theorem jl6 {n:Nat} {f:Addr} {fd:FuncData} (Z:Zs mg) (F:Fun K "power" "power" jd0 f fd) (C_want_table:jaf P w K mg base n "want_table" ["thing"] jaz) (C_want_number:jaf P w K mg base n "want_number" ["thing","least","most"] jaX) (C_power_of_none:jaf P w K mg base n "power_of_none" ["size"] jbM) (C_multiplied:jaf P w K mg base n "multiplied" ["one","other"] jcC) (M_MOST_POWER: ∃tk,mg "MOST_POWER" =some (.int 60 tk)):FnOk P w K mg base CX0 (n+1) f fd ["table","k"] (LSp K jgu):=by
 obtain⟨g_G_want_table,gd_G_want_table,G_want_table,bG_want_table,kG_want_table,mG_want_table⟩:=C_want_table
 obtain⟨g_G_want_number,gd_G_want_number,G_want_number,bG_want_number,kG_want_number,mG_want_number⟩:=C_want_number
 obtain⟨g_G_power_of_none,gd_G_power_of_none,G_power_of_none,bG_power_of_none,kG_power_of_none,mG_power_of_none⟩:=C_power_of_none
 obtain⟨g_G_multiplied,gd_G_multiplied,G_multiplied,bG_multiplied,kG_multiplied,mG_multiplied⟩:=C_multiplied
 obtain⟨tk_MOST_POWER,m_MOST_POWER⟩:=M_MOST_POWER
 refine F.okJ sc_power (fun ds h Q q=>by obtain⟨T,k,b,m,e,hT,h1,h6,hm,hb,q⟩:=q;subst e;rfl) _ (fun cdv A outer s H E hr=>(jae (jbP (jao G_want_table hr rfl mG_want_table kG_want_table bG_want_table (jac (jv 0) jab))) (by exact(jae (jbP (jao G_want_number hr rfl mG_want_number kG_want_number bG_want_number (jac (jv 1) (by exact(jac jaF (by exact(jac (jjS rfl m_MOST_POWER) jab))))))) (by exact(jae (jdd (i:=2) sc_power.nd rfl (Or.inl rfl) (jao G_power_of_none hr rfl mG_power_of_none kG_power_of_none bG_power_of_none (jac (jaN jb7 rfl Z.len G1w (jac (jv 0) jab)) jab))) (by exact(jae (jlj G1D rfl (jdR rfl Z.range (jac (jv 1) jab)) (jde (i:=3) sc_power.nd rfl (Or.inl rfl)) (jah (jdd (i:=2) sc_power.nd rfl (Or.inl rfl) (jao G_multiplied hr rfl mG_multiplied kG_multiplied bG_multiplied (jac (jv 2) (by exact(jac (jv 0) jab))))))) (by exact(jah (jcf (jv 2)))))))))))) ?_
 intro ds h Q q
 obtain⟨T,k,b,m,e,hT,h1,h6,hm,hb,q⟩:=q
 subst e
 refine jag (fun σ' h' =>σ' = [some (jav T),some (.int (m:Int)),none,none]∧h=h') (fun C hC=>⟨_,rfl,T,k,b,rfl,hT,h1,h6,hC _ _ ⟨rfl,rfl⟩⟩) ?_
 rintro _ _ ⟨rfl,rfl⟩
 refine jag (fun σ' h' =>σ' = [some (jav T),some (.int (m:Int)),none,none]∧h=h') (fun C hC=>⟨_,rfl,(m:Int),0,60,rfl,by omega,by omega,hC _ _ ⟨rfl,rfl⟩⟩) ?_
 rintro _ _ ⟨rfl,rfl⟩
 refine jag (fun σ' h' =>σ' = [some (jav T),some (.int (m:Int)),some (jav (jhF k)),none]∧h=h') (fun C hC=>⟨_,rfl,k,by rw [G0c,hT.len],h6,hC _ _ ⟨rfl,rfl⟩⟩) ?_
 rintro _ _ ⟨rfl,rfl⟩
 refine jag (fun σ' h' => ∃a,σ' = [some (jav T),some (.int (m:Int)),some (jav (jfr k T m)),a]∧h=h') (fun C hC=> ?_) ?_
 ·refine jeA m (fun i σ' h' => ∃a,σ' = [some (jav T),some (.int (m:Int)),some (jav (jfr k T i)),a]∧h=h') (by omega) (fun R r=>⟨_,rfl,r⟩) ⟨none,rfl,rfl⟩ (fun σ' h' z=>hC _ _ z) ?_
  rintro i _ _ hi ⟨a,rfl,rfl⟩
  refine⟨_,rfl,_,rfl,jfr k T i,T,k,_,b,rfl,hT.pow (by omega) i,hT,?_,h6,_,Sub.refl _,by omega,_,rfl,rfl⟩
  have:=Nat.mul_le_mul (show i≤60 by omega) (show b+3≤10003 by omega)
  omega
 rintro _ _ ⟨a,rfl,rfl⟩
 exact⟨_,rfl,_,Sub.refl _,q⟩
def jgv:RDn:=fun ds h Q=> ∃T,∃n e:Nat,ds= [jav T]∧Sq n e T∧1≤n∧n≤6∧Q (jav (jf0 n T)) h
set_option maxHeartbeats 2000000 in
theorem jl7 {n:Nat} {f:Addr} {fd:FuncData} (Z:Zs mg) (F:Fun K "marks" "marks" jd1 f fd) (C_want_table:jaf P w K mg base n "want_table" ["thing"] jaz):FnOk P w K mg base CX0 (n+1) f fd ["table"] (LSp K jgv):=by
 obtain⟨g_G_want_table,gd_G_want_table,G_want_table,bG_want_table,kG_want_table,mG_want_table⟩:=C_want_table
 refine F.okJ sc_marks (fun ds h Q q=>by obtain⟨T,k,b,e,hT,h1,h6,q⟩:=q;subst e;rfl) _ (fun cdv A outer s H E hr=>(jae (jbP (jao G_want_table hr rfl mG_want_table kG_want_table bG_want_table (jac (jv 0) jab))) (by exact(jah (jcf (jbJ jb3 rfl Z.tuple (by decide +kernel) (jac (jlc (i:=1) (js:= [1]) rfl (jal (by rfl)) (jcF (jv 0)) (by decide) sc_marks.nd rfl (by first|exact Or.inl rfl|exact Or.inr rfl) (fun X' hX=>jaM) (fun X' hX=>by obtain⟨C,s₀,H₀,ex,rfl⟩:=hX;exact(jbJ jb3 rfl Z.tuple (by decide +kernel) (jac (jlc (i:=2) (js:= [2]) rfl (jal (by rfl)) (jcF (jv 1)) (by decide) sc_marks.nd rfl (by first|exact Or.inl rfl|exact Or.inr rfl) (fun X' hX=>jaM) (fun X' hX=>by obtain⟨C,s₀,H₀,ex,rfl⟩:=hX;exact(jif (jb6 oq_ne (jv 2) jaF (jaw _)) jaF jaF))) jab)))) jab))))))) ?_
 intro ds h Q q
 obtain⟨T,k,b,e,hT,h1,h6,q⟩:=q
 subst e
 refine jag (fun σ' h' =>σ' = [some (jav T),none,none]∧h=h') (fun C hC=>⟨_,rfl,T,k,b,rfl,hT,h1,h6,hC _ _ ⟨rfl,rfl⟩⟩) ?_
 rintro _ _ ⟨rfl,rfl⟩
 refine jn9 T jeY (fun r=> .tup (r.map fun x=> .int (if x≠0 then 1 else 0))) (by rw [hT.len];omega) rfl (fun R r=>⟨_,rfl,r⟩) (fun r hr Q' q' => ?_) ⟨h,Sub.refl h,?_⟩
 ·refine jn9 r D.int (fun x=> .int (if x≠0 then 1 else 0)) (by rw [hT.row r hr];omega) rfl (fun R r=>⟨_,rfl,r⟩) (fun x hx Q'' q'' =>⟨_,rfl,_,rfl,?_⟩) q'
  by_cases z:x=0
  ·subst z;exact jd5 q''
  ·have e:(!decide (x=0))=true:=by simp [z]
   rw [e]
   rw [if_pos z] at q''
   exact jh7 q''
 ·rw [jnx,←jny hT];exact q
def jcX:RDn:=fun ds h Q=> ∃ns k,ds= [.scr ns,.int k]∧0≤k∧ ∀n,Q (.int n) h
set_option maxHeartbeats 2000000 in
theorem jht {n:Nat} {f:Addr} {fd:FuncData} (Z:Zs mg) (F:Fun K "_law_cell" "_law_cell" jbC f fd):FnOk P w K mg base CX0 (n+1) f fd ["_law_script","_law_k"] (LSp K jcX):=by
 refine F.okJ jhn (fun ds h Q q=>by obtain⟨ns,k,e,h0,q⟩:=q;subst e;rfl) _ (fun cdv A outer s H E hr=>(jae (jfn (jb6 jld (jv 1) (jaN jb7 rfl Z.len G1w (jac (jv 0) jab)) (jaw _)) (jah (jcf (jix (jv 0) (jv 1) (fun _ _=>rfl)))) jbf) (by exact(jah (jcf jaF))))) ?_
 intro ds h Q q
 obtain⟨ns,k,e,h0,q⟩:=q
 subst e
 simp only [jec,Nxt,je2,jff,jcM,jci,jbH,dOp,ja1,dIs,jfd,dCB,ja9,jc6,jfh,jcN,dC,jcl,jbu,jex,jfi,jfj,jcm,jfe,je1,jcj,jfg,jck,dIf,dUn,jgR,dSl,jaT,jcs,jfQ,jbI,gN,gT2,jcr,jgx,jgy,jfT,jfI,jgB,jgz,jcH,jgA,jey,eqD,neD,eqE,neE,isV,isN,jd8,ja5,jgW,jgX,jcu,ixD,jfL,jfM,jfN,ja3,jbt,ja4,jcP,jfV,slD,jfk,ja2,G0y,G1n,G0k,G0I,List.replicate,G00,G0P,G0X,G0Y,G0K,G0G,G03,G1b,D.bl.injEq,D.lst.injEq]
 refine jkT (fun c=> ?_) (fun _=>⟨h,Sub.refl h,q 0⟩)
 have c' :k<(ns.length:Int):=G1H c
 have hk:k.toNat<ns.length:=by omega
 have ek:k=((k.toNat:Nat):Int):=by omega
 have z:=jcc (G0b hk)
 rw [←ek] at z
 exact⟨ns[k.toNat],z,h,Sub.refl h,q _⟩
def jdv:RDn:=fun ds h Q=> ∃c,ds= [.int c]∧ ∀p l fl,h p=none→0≤l→(fl=0∨fl=1)→Q (.lst p) (jb2 h p [.int l,.int fl])
set_option maxHeartbeats 2000000 in
theorem jh4 {n:Nat} {f:Addr} {fd:FuncData} (Z:Zs mg) (F:Fun K "_law_pen" "_law_pen" jb0 f fd):FnOk P w K mg base CX0 (n+1) f fd ["_law_cell_here"] (LSp K jdv):=by
 refine F.okJ sc__law_pen (fun ds h Q q=>by obtain⟨c,e,q⟩:=q;subst e;rfl) _ (fun cdv A outer s H E hr=>(jae (jdd (i:=1) sc__law_pen.nd rfl (Or.inl rfl) (jaN (jpk rfl) rfl Z.max (by decide +kernel) (jac (jv 0) (by exact(jac (jop jez jaF (jv 0)) jab))))) (by exact(jah (jcf (jjT (jac (jv 1) (by exact(jac (jbJ jmj rfl Z.int (by decide +kernel) (jac (jie jle (jv 1) (jop jmi jaF jaF) (jaw _)) jab)) jab))))))))) ?_
 intro ds h Q q
 obtain⟨c,e,q⟩:=q
 subst e
 simp only [jec,Nxt,je2,jff,jcM,jci,jbH,dOp,ja1,dIs,jfd,dCB,ja9,jc6,jfh,jcN,dC,jcl,jbu,jex,jfi,jfj,jcm,jfe,je1,jcj,jfg,jck,dIf,dUn,jgR,dSl,jaT,jcs,jfQ,jbI,gN,gT2,jcr,jgx,jgy,jfT,jfI,jgB,jgz,jcH,jgA,jey,eqD,neD,eqE,neE,isV,isN,jd8,ja5,jgW,jgX,jcu,ixD,jfL,jfM,jfN,ja3,jbt,ja4,jcP,jfV,slD,jfk,ja2,G0y,G1n,G0k,G0I,List.replicate,G00,G0P,G0X,G0Y,G0K,G0G,G03,G1b,D.bl.injEq,D.lst.injEq]
 refine⟨⟨by decide,by decide,by decide⟩,by decide,fun p hp=>⟨_,Sub.refl _,q p _ _ hp ?_ ?_⟩⟩
 ·split<;>omega
 ·split<;>simp<;>omega
def jcb:RDn:=fun ds h Q=> ∃p l fl m,ds= [.lst p,.int m]∧h p=some [.int l,.int fl]∧0≤l∧0<m∧m<2^200∧ ∀r l',0≤r→r<m→0≤l' →Q (.int r) (jb2 h p [.int l',.int fl])
set_option maxHeartbeats 2000000 in
theorem jhu {n:Nat} {f:Addr} {fd:FuncData} (Z:Zs mg) (F:Fun K "_law_draw" "_law_draw" jbD f fd):FnOk P w K mg base CX0 (n+1) f fd ["_law_pen_here","_law_many"] (LSp K jcb):=by
 refine F.okJ sc__law_draw (fun ds h Q q=>by obtain⟨p,l,fl,m,e,hp,h0,hm,hm2,q⟩:=q;subst e;rfl) _ (fun cdv A outer s H E hr=>(jae (jfn (jb6 oq_eq (jix (jv 0) jaF (fun _ _=>rfl)) jaF (jaw _)) (jae (jqh (jaN jiY rfl Z.divmod (by decide +kernel) (jac (jix (jv 0) jaF (fun _ _=>rfl)) (by exact(jac (jv 1) jab)))) (jig (i:=2) (j:=3) rfl sc__law_draw.nd rfl rfl (Or.inl rfl) (Or.inl rfl))) (by exact(jae (jqh (jv 2) (jmn (jv 0) jaF)) (by exact(jah (jcf (jv 3))))))) jbf) (by exact(jae (jdd (i:=4) sc__law_draw.nd rfl (Or.inl rfl) (jop jd7 (jop jfU (jop jdz (jop jd7 (jix (jv 0) jaF (fun _ _=>rfl)) jaF) jaF) jaF) jaF)) (by exact(jae (jdd (i:=4) sc__law_draw.nd rfl (Or.inl rfl) (jop jd7 (jop jdz (jop jfU (jv 4) (jv 4)) jaF) jaF)) (by exact(jae (jqh (jop jd7 (jop jdz (jop jfU (jv 4) jaF) jaF) jaF) (jmn (jv 0) jaF)) (by exact(jah (jcf (jop jd7 (jop jnj (jix (jv 0) jaF (fun _ _=>rfl)) jaF) (jv 1))))))))))))) ?_
 intro ds h Q q
 obtain⟨p,l,fl,m,e,hp,h0,hm,hm2,q⟩:=q
 subst e
 simp only [jec,Nxt,je2,jff,jcM,jci,jbH,dOp,ja1,dIs,jfd,dCB,ja9,jc6,jfh,jcN,dC,jcl,jbu,jex,jfi,jfj,jcm,jfe,je1,jcj,jfg,jck,dIf,dUn,jgR,dSl,jaT,jcs,jfQ,jbI,gN,gT2,jcr,jgx,jgy,jfT,jfI,jgB,jgz,jcH,jgA,jey,eqD,neD,eqE,neE,isV,isN,jd8,ja5,jgW,jgX,jcu,ixD,jfL,jfM,jfN,ja3,jbt,ja4,jcP,jfV,slD,jfk,ja2,G0y,G1n,G0k,G0I,List.replicate,G00,G0P,G0X,G0Y,G0K,G0G,G03,G1b,D.bl.injEq,D.lst.injEq,hp]
 refine⟨_,_,rfl,rfl,?_⟩
 show if decide (fl=1)=true then _ else _
 refine jkT (fun _=> ?_) (fun _=> ?_)
 ·exact⟨_,_,rfl,rfl,_,_,rfl,⟨hm,hm2⟩,_,_,rfl,p,0,_,0,rfl,rfl,hp,rfl,_,Sub.refl _,q (l%m) (l / m) (G2X _ (by omega)) (G2A _ hm) (Int.ediv_nonneg h0 (by omega))⟩
 ·have b1:0≤l%2147483647∧l%2147483647<2147483647:=⟨G2X _ (by decide),G2A _ (by decide)⟩
  refine⟨_,_,rfl,rfl,by decide,.inr ⟨by decide,by decide⟩,by decide,?_⟩
  have b2: ∀z:Int,0≤z%2147483629∧z%2147483629<2147483629:=fun z=>⟨G2X _ (by decide),G2A _ (by decide)⟩
  have b3: ∀z:Int,0≤z%2147483587∧z%2147483587<2147483587:=fun z=>⟨G2X _ (by decide),G2A _ (by decide)⟩
  generalize (l%2147483647+40503)*69621=z1
  have c1:CMul (z1%2147483629) (z1%2147483629):=by
   have z:=b2 z1
   exact .inl ⟨by omega,by omega⟩
  generalize (z1%2147483629*(z1%2147483629)+7817)=z2
  generalize ((z2%2147483587)*48271+11)=z3
  have z:=b2 z3
  refine⟨c1,by decide,.inr ⟨by decide,by decide⟩,by decide,p,0,_,0,rfl,rfl,hp,rfl,_,_,jad,rfl,⟨by decide,by decide⟩,hm,_,Sub.refl _,?_⟩
  exact q (z3%2147483629 / 32%m) (z3%2147483629) (G2X _ (by omega)) (G2A _ hm) z.1
def jcD:RDn:=fun ds h Q=> ∃p l fl,∃k:Nat,ds= [.lst p,.int (k:Int)]∧h p=some [.int l,.int fl]∧0≤l∧1≤k∧k≤6∧ ∀T l',GoodTab k T→0≤l' →Q (jav T) (jb2 h p [.int l',.int fl])
set_option maxHeartbeats 2000000 in
theorem jgw {n:Nat} {f:Addr} {fd:FuncData} (Z:Zs mg) (F:Fun K "_law_table" "_law_table" jbp f fd) (C__law_draw:jaf P w K mg base n "_law_draw" ["_law_pen_here","_law_many"] jcb):FnOk P w K mg base CX0 (n+1) f fd ["_law_pen_here","_law_size"] (LSp K jcD):=by
 obtain⟨g_G__law_draw,gd_G__law_draw,G__law_draw,bG__law_draw,kG__law_draw,mG__law_draw⟩:=C__law_draw
 refine F.okJ sc__law_table (fun ds h Q q=>by obtain⟨p,l,fl,k,e,hp,h0,hk1,hk6,q⟩:=q;subst e;rfl) _ (fun cdv A outer s H E hr=>(jae (jrz (i:=2) (j:=3) rfl sc__law_table.nd rfl rfl (by decide) rfl rfl (jac (jao G__law_draw hr rfl mG__law_draw kG__law_draw bG__law_draw (jac (jv 0) (by exact(jac jaF jab)))) (by exact(jac (jix (jjT (jac jaF (by exact(jac jaF (by exact(jac jaF jab)))))) (jao G__law_draw hr rfl mG__law_draw kG__law_draw bG__law_draw (jac (jv 0) (by exact(jac jaF jab)))) (fun _ _=>rfl)) jab))) rfl) (by exact(jae (jdd (i:=4) sc__law_table.nd rfl (Or.inl rfl) (jix (jjT (jac jaF (by exact(jac jaF (by exact(jac jaF (by exact(jac (jop jmi jaF jaF) jab)))))))) (jao G__law_draw hr rfl mG__law_draw kG__law_draw bG__law_draw (jac (jv 0) (by exact(jac jaF jab)))) (fun _ _=>rfl))) (by exact(jae (jdd (i:=5) sc__law_table.nd rfl (Or.inl rfl) (jjT jab)) (by exact(jae (jlj G1D rfl (jdR rfl Z.range (jac (jv 1) jab)) (jde (i:=6) sc__law_table.nd rfl (Or.inl rfl)) (jae (jdd (i:=7) sc__law_table.nd rfl (Or.inl rfl) (jjT jab)) (by exact(jae (jlj G1D rfl (jdR rfl Z.range (jac (jv 1) jab)) (jde (i:=8) sc__law_table.nd rfl (Or.inl rfl)) (jae (jdd (i:=9) sc__law_table.nd rfl (Or.inl rfl) (jie oq_eq (jao G__law_draw hr rfl mG__law_draw kG__law_draw bG__law_draw (jac (jv 0) (by exact(jac (jv 3) jab)))) jaF (jaw _))) (by exact(jae (jfn (jb6 jld (jv 2) jaF (jaw _)) (jah (jdd (i:=9) sc__law_table.nd rfl (Or.inl rfl) (jor (jie oq_eq (jv 8) (jop jd7 (jop jdz (jv 6) jaF) (jv 1)) (jaw _)) (jkU (jmm (jv 9) (jkU (jie (jgU hr.units) (jao G__law_draw hr rfl mG__law_draw kG__law_draw bG__law_draw (jac (jv 0) (by exact(jac jaF jab)))) (jv 2) (jaw _)))))))) jbf) (by exact(jae (jfn (jb6 oq_eq (jv 2) jaF (jaw _)) (jah (jdd (i:=9) sc__law_table.nd rfl (Or.inl rfl) (jor (jmm (jv 9) (jkU (jie oq_eq (jop jd7 (jop jez (jv 8) (jv 6)) jaF) jaF (jaw _)))) (jkU (jie (jgU hr.units) (jv 8) (jop jdz (jv 6) jaF) (jaw _)))))) jbf) (by exact(jae (jfn (jb6 oq_eq (jv 2) jaF (jaw _)) (jah (jdd (i:=9) sc__law_table.nd rfl (Or.inl rfl) (jmm (jv 9) (jkU (jie jle (jv 8) (jv 6) (jaw _)))))) jbf) (by exact(jah (jbP (jpD (jv 7) (jop jfU (jbJ jmj rfl Z.int (by decide +kernel) (jac (jv 9) jab)) (jop jdz jaF (jao G__law_draw hr rfl mG__law_draw kG__law_draw bG__law_draw (jac (jv 0) (by exact(jac (jv 4) jab)))))))))))))))))) (by exact(jah (jbP (jpD (jv 5) (jbJ cq_tuple rfl Z.tuple (by decide +kernel) (jac (jv 7) jab)))))))))) (by exact(jah (jcf (jbJ cq_tuple rfl Z.tuple (by decide +kernel) (jac (jv 5) jab))))))))))))) ?_
 intro ds h Q q
 obtain⟨p,l,fl,k,e,hp,h0,hk1,hk6,q⟩:=q
 subst e
 refine jag (fun σ' h' => ∃way o l2,σ' = [some (.lst p),some (.int (k:Int)),some (.int way),some (.int o),none,none,none,none,none,none]∧0<o∧o<1000∧0≤l2∧h' p=some [.int l2,.int fl]∧But p h h') (fun C hC=> ?_) (fun σ' h' hV=> ?_)
 ·simp only [jec,Nxt,je2,jff,jcM,jci,jbH,dOp,ja1,dIs,jfd,dCB,ja9,jc6,jfh,jcN,dC,jcl,jbu,jex,jfi,jfj,jcm,jfe,je1,jcj,jfg,jck,dIf,dUn,jgR,dSl,jaT,jcs,jfQ,jbI,gN,gT2,jcr,jgx,jgy,jfT,jfI,jgB,jgz,jcH,jgA,jey,eqD,neD,eqE,neE,isV,isN,jd8,ja5,jgW,jgX,jcu,ixD,jfL,jfM,jfN,ja3,jbt,ja4,jcP,jfV,slD,jfk,ja2,G0y,G1n,G0k,G0I,List.replicate,G00,G0P,G0X,G0Y,G0K,G0G,G03,G1b,D.bl.injEq,D.lst.injEq,hp]
  refine⟨p,l,fl,6,rfl,hp,h0,by decide,by decide,fun way l1 w0 w1 l10=> ?_⟩
  refine⟨by decide,fun p1 e1=>⟨p,l1,fl,3,rfl,jam jad e1,l10,by decide,by decide,fun r l2 r0 r1 l20=> ?_⟩⟩
  obtain⟨oft,ho,eo⟩:=jhD (xs:= [D.int 2,D.int 3,D.int 5]) r0 r1
  refine⟨_,oft,jaq (jaV jad e1) jad,eo,?_⟩
  obtain⟨o,e,o1,o2⟩: ∃o:Int,oft= .int o∧0<o∧o<1000:=by
   simp only [G0C,G1i,G3R] at ho
   rcases ho with e|e|e<;>exact⟨_,e,by decide,by decide⟩
  subst e
  exact⟨_,_,rfl,hC _ _ ⟨way,o,l2,rfl,o1,o2,l20,jad,((But.upd).new e1).put⟩⟩
 obtain⟨way,o,l2,e,o1,o2,l20,kA,bA⟩:=hV
 subst e
 refine jag (fun σ' h' => ∃m l3,σ' = [some (.lst p),some (.int (k:Int)),some (.int way),some (.int o),some (.int m),none,none,none,none,none]∧0<m∧m≤1000000∧0≤l3∧h' p=some [.int l3,.int fl]∧But p h h') (fun C hC=> ?_) (fun σ' h' hV=> ?_)
 ·simp only [jec,Nxt,je2,jff,jcM,jci,jbH,dOp,ja1,dIs,jfd,dCB,ja9,jc6,jfh,jcN,dC,jcl,jbu,jex,jfi,jfj,jcm,jfe,je1,jcj,jfg,jck,dIf,dUn,jgR,dSl,jaT,jcs,jfQ,jbI,gN,gT2,jcr,jgx,jgy,jfT,jfI,jgB,jgz,jcH,jgA,jey,eqD,neD,eqE,neE,isV,isN,jd8,ja5,jgW,jgX,jcu,ixD,jfL,jfM,jfN,ja3,jbt,ja4,jcP,jfV,slD,jfk,ja2,G0y,G1n,G0k,G0I,List.replicate,G00,G0P,G0X,G0Y,G0K,G0G,G03,G1b,D.bl.injEq,D.lst.injEq]
  refine⟨⟨by decide,by decide,by decide⟩,by decide,fun p1 e1=>⟨p,l2,fl,4,rfl,jam kA e1,l20,by decide,by decide,fun r l3 r0 r1 l30=> ?_⟩⟩
  obtain⟨most,ho,eo⟩:=jhD (xs:= [D.int 1,D.int 1,D.int 3,D.int (10^Int.toNat 6)]) r0 r1
  refine⟨_,most,jaq (jaV kA e1) jad,eo,?_⟩
  obtain⟨m,e,o1,o2⟩: ∃o:Int,most= .int o∧0<o∧o≤1000000:=by
   simp only [G0C,G1i,G3R] at ho
   rcases ho with e|e|e|e<;>exact⟨_,e,by decide,by decide⟩
  subst e
  exact hC _ _ ⟨m,l3,rfl,o1,o2,l30,jad,(bA.new e1).put⟩
 obtain⟨m,l3,e,m1,m2,l30,kB,bB⟩:=hV
 subst e
 refine jag (fun σ' h' => ∃R,σ' = [some (.lst p),some (.int (k:Int)),some (.int way),some (.int o),some (.int m),some (.lst R),none,none,none,none]∧R≠p∧h R=none∧h' R=some []∧h' p=some [.int l3,.int fl]∧But p h h') (fun C hC=> ?_) (fun σ' h' hV=> ?_)
 ·simp only [jec,Nxt,je2,jff,jcM,jci,jbH,dOp,ja1,dIs,jfd,dCB,ja9,jc6,jfh,jcN,dC,jcl,jbu,jex,jfi,jfj,jcm,jfe,je1,jcj,jfg,jck,dIf,dUn,jgR,dSl,jaT,jcs,jfQ,jbI,gN,gT2,jcr,jgx,jgy,jfT,jfI,jgB,jgz,jcH,jgA,jey,eqD,neD,eqE,neE,isV,isN,jd8,ja5,jgW,jgX,jcu,ixD,jfL,jfM,jfN,ja3,jbt,ja4,jcP,jfV,slD,jfk,ja2,G0y,G1n,G0k,G0I,List.replicate,G00,G0P,G0X,G0Y,G0K,G0G,G03,G1b,D.bl.injEq,D.lst.injEq]
  exact⟨by decide,fun R eR=>hC _ _ ⟨R,rfl,jaV kB eR,jjQ bB eR (jaV kB eR),jad,jam kB eR,bB.new eR⟩⟩
 obtain⟨R,e,nR,fR,kR,kC,bC⟩:=hV
 subst e
 refine jag (fun σ' h' => ∃a b c d l4 rows,σ' = [some (.lst p),some (.int (k:Int)),some (.int way),some (.int o),some (.int m),some (.lst R),a,b,c,d]∧0≤l4∧h' p=some [.int l4,.int fl]∧h' R=some (rows.map jeY)∧But p h h' ∧GoodTab k rows) (fun C hC=> ?_) (fun σ' h' hV=> ?_)
 rotate_left
 ·obtain⟨a,b,c,d,l4,rows,e,l40,kD,kE,bD,g⟩:=hV
  subst e
  simp only [jec,Nxt,je2,jff,jcM,jci,jbH,dOp,ja1,dIs,jfd,dCB,ja9,jc6,jfh,jcN,dC,jcl,jbu,jex,jfi,jfj,jcm,jfe,je1,jcj,jfg,jck,dIf,dUn,jgR,dSl,jaT,jcs,jfQ,jbI,gN,gT2,jcr,jgx,jgy,jfT,jfI,jgB,jgz,jcH,jgA,jey,eqD,neD,eqE,neE,isV,isN,jd8,ja5,jgW,jgX,jcu,ixD,jfL,jfM,jfN,ja3,jbt,ja4,jcP,jfV,slD,jfk,ja2,G0y,G1n,G0k,G0I,List.replicate,G00,G0P,G0X,G0Y,G0K,G0G,G03,G1b,D.bl.injEq,D.lst.injEq]
  exact⟨_,kE,_,bD.sub kD,q rows l4 g l40⟩
 refine jeA k (fun i σ' h' => ∃a b c d l4 rows,σ' = [some (.lst p),some (.int (k:Int)),some (.int way),some (.int o),some (.int m),some (.lst R),a,b,c,d]∧0≤l4∧h' p=some [.int l4,.int fl]∧h' R=some (rows.map jeY)∧But p h h' ∧rows.length=i∧ ∀r∈rows,jfZ k r) (by omega) (fun R' r=>⟨_,rfl,r⟩)
  ⟨none,none,none,none,l3,[],rfl,l30,kC,kR,bC,rfl,fun r hr=>nomatch hr⟩ (fun σ' h' ⟨a,b,c,d,l4,rows,e,l40,kD,kE,bD,g1,g2⟩=>hC _ _ ⟨a,b,c,d,l4,rows,e,l40,kD,kE,bD,g1,g2⟩) ?_
 rintro i σ' h' hi ⟨a,b,c,d,l4,rows,e,l40,kD,kE,bD,g1,g2⟩
 subst e
 show jec _ _ _ [some (.lst p),some (.int (k:Int)),some (.int way),some (.int o),some (.int m),some (.lst R),some (.int (i:Int)),b,c,d] h'
 refine jag (fun σ' h' => ∃S,σ' = [some (.lst p),some (.int (k:Int)),some (.int way),some (.int o),some (.int m),some (.lst R),some (.int (i:Int)),some (.lst S),c,d]∧S≠p∧S≠R∧h S=none∧h' S=some []∧h' p=some [.int l4,.int fl]∧h' R=some (rows.map jeY)∧But p h h') (fun C hC=> ?_) (fun σ' h' hV=> ?_)
 ·simp only [jec,Nxt,je2,jff,jcM,jci,jbH,dOp,ja1,dIs,jfd,dCB,ja9,jc6,jfh,jcN,dC,jcl,jbu,jex,jfi,jfj,jcm,jfe,je1,jcj,jfg,jck,dIf,dUn,jgR,dSl,jaT,jcs,jfQ,jbI,gN,gT2,jcr,jgx,jgy,jfT,jfI,jgB,jgz,jcH,jgA,jey,eqD,neD,eqE,neE,isV,isN,jd8,ja5,jgW,jgX,jcu,ixD,jfL,jfM,jfN,ja3,jbt,ja4,jcP,jfV,slD,jfk,ja2,G0y,G1n,G0k,G0I,List.replicate,G00,G0P,G0X,G0Y,G0K,G0G,G03,G1b,D.bl.injEq,D.lst.injEq]
  exact⟨by decide,fun S eS=>hC _ _ ⟨S,rfl,jaV kD eS,jaV kE eS,jjQ bD eS (jaV kD eS),jad,jam kD eS,jam kE eS,bD.new eS⟩⟩
 obtain⟨S,e,nS,nSR,fS,kS,kD,kE,bD⟩:=hV
 subst e
 refine jag (fun σ' h' => ∃c d l5 row,σ' = [some (.lst p),some (.int (k:Int)),some (.int way),some (.int o),some (.int m),some (.lst R),some (.int (i:Int)),some (.lst S),c,d]∧0≤l5∧h' p=some [.int l5,.int fl]∧h' R=some (rows.map jeY)∧h' S=some (row.map D.int)∧But p h h' ∧jfZ k row) (fun C hC=> ?_) (fun σ' h' hV=> ?_)
 rotate_left
 ·obtain⟨c,d,l5,row,e,l50,kD,kE,kF,bD,g⟩:=hV
  subst e
  simp only [jec,Nxt,je2,jff,jcM,jci,jbH,dOp,ja1,dIs,jfd,dCB,ja9,jc6,jfh,jcN,dC,jcl,jbu,jex,jfi,jfj,jcm,jfe,je1,jcj,jfg,jck,dIf,dUn,jgR,dSl,jaT,jcs,jfQ,jbI,gN,gT2,jcr,jgx,jgy,jfT,jfI,jgB,jgz,jcH,jgA,jey,eqD,neD,eqE,neE,isV,isN,jd8,ja5,jgW,jgX,jcu,ixD,jfL,jfM,jfN,ja3,jbt,ja4,jcP,jfV,slD,jfk,ja2,G0y,G1n,G0k,G0I,List.replicate,G00,G0P,G0X,G0Y,G0K,G0G,G03,G1b,D.bl.injEq,D.lst.injEq]
  refine⟨_,kF,_,kE,?_,_,Sub.refl _,by omega,_,_,_,_,l5,rows++ [row],rfl,l50,jaq (Ne.symm nR) kD,?_,bD.putNew fR,by simp [g1],?_⟩
  ·rw [G0c];exact G2S (show rows.length≤1000 by omega) (by decide)
  ·rw [jad,G1s];rfl
  ·intro r hr
   rcases G0z.mp hr with z|z
   ·exact g2 r z
   ·rw [G0g.mp z];exact g
 refine jeA k (fun j σ' h' => ∃c d l5 row,σ' = [some (.lst p),some (.int (k:Int)),some (.int way),some (.int o),some (.int m),some (.lst R),some (.int (i:Int)),some (.lst S),c,d]∧0≤l5∧h' p=some [.int l5,.int fl]∧h' R=some (rows.map jeY)∧h' S=some (row.map D.int)∧But p h h' ∧row.length=j∧ ∀x∈row,0≤x∧x≤1000000) (by omega) (fun R' r=>⟨_,rfl,r⟩)
  ⟨_,_,l4,[],rfl,l40,kD,kE,kS,bD,rfl,fun r hr=>nomatch hr⟩ (fun σ' h' ⟨c,d,l5,row,e,l50,kD,kE,kF,bD,g1,g2⟩=>hC _ _ ⟨c,d,l5,row,e,l50,kD,kE,kF,bD,g1,g2⟩) ?_
 rintro j σ' h' hj ⟨c,d,l5,row,e,l50,kD,kE,kF,bD,g1',g2'⟩
 subst e
 show jec _ _ _ [some (.lst p),some (.int (k:Int)),some (.int way),some (.int o),some (.int m),some (.lst R),some (.int (i:Int)),some (.lst S),some (.int (j:Int)),d] h'
 refine jag (fun σ' h' => ∃ (g:Bool) (l6:Int),σ' = [some (.lst p),some (.int (k:Int)),some (.int way),some (.int o),some (.int m),some (.lst R),some (.int (i:Int)),some (.lst S),some (.int (j:Int)),some (.bl g)]∧0≤l6∧h' p=some [.int l6,.int fl]∧h' R=some (rows.map jeY)∧h' S=some (row.map D.int)∧But p h h') (fun C hC=> ?_) (fun σ' h' hV=> ?_)
 ·simp only [jec,Nxt,je2,jff,jcM,jci,jbH,dOp,ja1,dIs,jfd,dCB,ja9,jc6,jfh,jcN,dC,jcl,jbu,jex,jfi,jfj,jcm,jfe,je1,jcj,jfg,jck,dIf,dUn,jgR,dSl,jaT,jcs,jfQ,jbI,gN,gT2,jcr,jgx,jgy,jfT,jfI,jgB,jgz,jcH,jgA,jey,eqD,neD,eqE,neE,isV,isN,jd8,ja5,jgW,jgX,jcu,ixD,jfL,jfM,jfN,ja3,jbt,ja4,jcP,jfV,slD,jfk,ja2,G0y,G1n,G0k,G0I,List.replicate,G00,G0P,G0X,G0Y,G0K,G0G,G03,G1b,D.bl.injEq,D.lst.injEq]
  exact⟨p,l5,fl,o,rfl,kD,l50,o1,by omega,fun r l6 r0 r1 l60=>hC _ _ ⟨_,l6,rfl,l60,jad,jaq nR kE,jaq nS kF,bD.put⟩⟩
 obtain⟨g,l6,e,l60,kD,kE,kF,bD⟩:=hV
 subst e
 refine jag (fun σ' h' => ∃ (g:Bool) (l6:Int),σ' = [some (.lst p),some (.int (k:Int)),some (.int way),some (.int o),some (.int m),some (.lst R),some (.int (i:Int)),some (.lst S),some (.int (j:Int)),some (.bl g)]∧0≤l6∧h' p=some [.int l6,.int fl]∧h' R=some (rows.map jeY)∧h' S=some (row.map D.int)∧But p h h') (fun C hC=> ?_) (fun σ' h' hV=> ?_)
 ·simp only [jec,Nxt,je2,jff,jcM,jci,jbH,dOp,ja1,dIs,jfd,dCB,ja9,jc6,jfh,jcN,dC,jcl,jbu,jex,jfi,jfj,jcm,jfe,je1,jcj,jfg,jck,dIf,dUn,jgR,dSl,jaT,jcs,jfQ,jbI,gN,gT2,jcr,jgx,jgy,jfT,jfI,jgB,jgz,jcH,jgA,jey,eqD,neD,eqE,neE,isV,isN,jd8,ja5,jgW,jgX,jcu,ixD,jfL,jfM,jfN,ja3,jbt,ja4,jcP,jfV,slD,jfk,ja2,G0y,G1n,G0k,G0I,List.replicate,G00,G0P,G0X,G0Y,G0K,G0G,G03,G1b,D.bl.injEq,D.lst.injEq]
  refine jkT (fun _=> ?_) (fun _=>hC _ _ ⟨g,l6,rfl,l60,kD,kE,kF,bD⟩)
  refine⟨by omega,?_⟩
  refine jkT (fun _=>hC _ _ ⟨_,l6,rfl,l60,kD,kE,kF,bD⟩) (fun _=> ?_)
  refine jkT (fun _=> ?_) (fun _=>hC _ _ ⟨_,l6,rfl,l60,kD,kE,kF,bD⟩)
  exact⟨p,l6,fl,2,rfl,kD,l60,by decide,by decide,fun r l7 r0 r1 l70=>hC _ _ ⟨_,l7,rfl,l70,jad,jaq nR kE,jaq nS kF,bD.put⟩⟩
 obtain⟨g,l6,e,l60,kD,kE,kF,bD⟩:=hV
 subst e
 refine jag (fun σ' h' => ∃ (g:Bool) (l6:Int),σ' = [some (.lst p),some (.int (k:Int)),some (.int way),some (.int o),some (.int m),some (.lst R),some (.int (i:Int)),some (.lst S),some (.int (j:Int)),some (.bl g)]∧0≤l6∧h' p=some [.int l6,.int fl]∧h' R=some (rows.map jeY)∧h' S=some (row.map D.int)∧But p h h') (fun C hC=> ?_) (fun σ' h' hV=> ?_)
 ·simp only [jec,Nxt,je2,jff,jcM,jci,jbH,dOp,ja1,dIs,jfd,dCB,ja9,jc6,jfh,jcN,dC,jcl,jbu,jex,jfi,jfj,jcm,jfe,je1,jcj,jfg,jck,dIf,dUn,jgR,dSl,jaT,jcs,jfQ,jbI,gN,gT2,jcr,jgx,jgy,jfT,jfI,jgB,jgz,jcH,jgA,jey,eqD,neD,eqE,neE,isV,isN,jd8,ja5,jgW,jgX,jcu,ixD,jfL,jfM,jfN,ja3,jbt,ja4,jcP,jfV,slD,jfk,ja2,G0y,G1n,G0k,G0I,List.replicate,G00,G0P,G0X,G0Y,G0K,G0G,G03,G1b,D.bl.injEq,D.lst.injEq]
  refine jkT (fun _=> ?_) (fun _=>hC _ _ ⟨g,l6,rfl,l60,kD,kE,kF,bD⟩)
  cases g
  ·exact hC _ _ ⟨_,l6,rfl,l60,kD,kE,kF,bD⟩
  ·refine⟨by decide,?_⟩
   refine jkT (fun _=>hC _ _ ⟨_,l6,rfl,l60,kD,kE,kF,bD⟩) (fun _=>hC _ _ ⟨_,l6,rfl,l60,kD,kE,kF,bD⟩)
 obtain⟨g,l6,e,l60,kD,kE,kF,bD⟩:=hV
 subst e
 refine jag (fun σ' h' => ∃ (g:Bool) (l6:Int),σ' = [some (.lst p),some (.int (k:Int)),some (.int way),some (.int o),some (.int m),some (.lst R),some (.int (i:Int)),some (.lst S),some (.int (j:Int)),some (.bl g)]∧0≤l6∧h' p=some [.int l6,.int fl]∧h' R=some (rows.map jeY)∧h' S=some (row.map D.int)∧But p h h') (fun C hC=> ?_) (fun σ' h' hV=> ?_)
 ·simp only [jec,Nxt,je2,jff,jcM,jci,jbH,dOp,ja1,dIs,jfd,dCB,ja9,jc6,jfh,jcN,dC,jcl,jbu,jex,jfi,jfj,jcm,jfe,je1,jcj,jfg,jck,dIf,dUn,jgR,dSl,jaT,jcs,jfQ,jbI,gN,gT2,jcr,jgx,jgy,jfT,jfI,jgB,jgz,jcH,jgA,jey,eqD,neD,eqE,neE,isV,isN,jd8,ja5,jgW,jgX,jcu,ixD,jfL,jfM,jfN,ja3,jbt,ja4,jcP,jfV,slD,jfk,ja2,G0y,G1n,G0k,G0I,List.replicate,G00,G0P,G0X,G0Y,G0K,G0G,G03,G1b,D.bl.injEq,D.lst.injEq]
  refine jkT (fun _=> ?_) (fun _=>hC _ _ ⟨g,l6,rfl,l60,kD,kE,kF,bD⟩)
  cases g
  ·exact hC _ _ ⟨_,l6,rfl,l60,kD,kE,kF,bD⟩
  ·exact hC _ _ ⟨_,l6,rfl,l60,kD,kE,kF,bD⟩
 obtain⟨g,l6,e,l60,kD,kE,kF,bD⟩:=hV
 subst e
 simp only [jec,Nxt,je2,jff,jcM,jci,jbH,dOp,ja1,dIs,jfd,dCB,ja9,jc6,jfh,jcN,dC,jcl,jbu,jex,jfi,jfj,jcm,jfe,je1,jcj,jfg,jck,dIf,dUn,jgR,dSl,jaT,jcs,jfQ,jbI,gN,gT2,jcr,jgx,jgy,jfT,jfI,jgB,jgz,jcH,jgA,jey,eqD,neD,eqE,neE,isV,isN,jd8,ja5,jgW,jgX,jcu,ixD,jfL,jfM,jfN,ja3,jbt,ja4,jcP,jfV,slD,jfk,ja2,G0y,G1n,G0k,G0I,List.replicate,G00,G0P,G0X,G0Y,G0K,G0G,G03,G1b,D.bl.injEq,D.lst.injEq]
 refine⟨p,l6,fl,m,rfl,kD,l60,m1,by omega,fun r l7 r0 r1 l70=> ?_⟩
 have gi: ∀x:Int,(0≤x∧x≤1)→CMul x (1+r)∧0≤x*(1+r)∧x*(1+r)≤1000000:=fun x hx=>by
  have:x=0∨x=1:=by omega
  rcases this with e|e<;>subst e
  ·exact⟨.inl ⟨by decide,by decide⟩,by omega,by omega⟩
  ·exact⟨.inl ⟨by decide,by decide⟩,by omega,by omega⟩
 have gg:=gi (if g=true then 1 else 0) (by cases g<;>decide)
 refine⟨gg.1,_,jaq nS kF,?_,_,Sub.refl _,by omega,_,_,l7,row++ [(if g=true then 1 else 0)*(1+r)],rfl,l70,jaq (Ne.symm nS) jad,jaq (Ne.symm nSR) (jaq nR kE),?_,(bD.put).putNew fS,by simp [g1'],?_⟩
 ·rw [G0c];exact G2S (show row.length≤1000 by omega) (by decide)
 ·rw [jad,G1s];rfl
 ·intro x hx
  rcases G0z.mp hx with z|z
  ·exact g2' x z
  ·rw [G0g.mp z];exact gg.2
theorem jhv: ∀l:List Int,PyData.canLayAll0 (l.map PyData.int)=true
 | []=>rfl
 |x::l=>by show (PyData.canLay0 (.int x)&&_)=true;rw [jhv l];rfl
theorem jn4 {neg:Bool} {x:Nat} {S:List Nat} {h:HD} {Q:KD} (q: ∀b:Bool,(b=true↔x∈S)→Q (.bl (neg !=b)) h):inE neg (.int (x:Int)) (jaE S) h Q:=by
 refine⟨.int x,(jhG S).map PyData.int,rfl,.inr (jcR h S),rfl,jhv _,(by show (0:Nat)≤60;decide),q _ ?_⟩
 rw [G3Y]
 constructor
 ·rintro ⟨z,hz,e⟩
  obtain⟨m,hm,rfl⟩:=G0D.mp hz
  obtain⟨y,hy,rfl⟩:=G0D.mp (show m∈S.map fun (k:Nat)=>(k:Int) from hm)
  have:(y:Int)=x:=by simpa [PyData.eqv] using e
  have:y=x:=by omega
  exact this ▸ hy
 ·intro z
  exact⟨.int x,G0D.mpr ⟨_,G0D.mpr ⟨x,z,rfl⟩,rfl⟩,by simp [PyData.eqv]⟩
theorem jqc {a b:Bool} {h:HD} {Q:KD} (e:a=b) (q:Q (.bl false) h):neE (.bl a) (.bl b) h Q:=by
 subst e
 show Q _ h
 cases a<;>exact q
theorem jn5 {a b:Int} {h:HD} {Q:KD} (e:a=b) (q:Q (.bl false) h):neE (.int a) (.int b) h Q:=by
 subst e
 show Q (.bl (!decide (a=a))) h
 rw [G0r rfl];exact q
theorem jn6 {a b:Int} {h:HD} {Q:KD} (e:a=b) (q:Q (.bl true) h):eqE (.int a) (.int b) h Q:=by
 subst e
 show Q (.bl (decide (a=a))) h
 rw [G0r rfl];exact q
theorem jn7 {n i:Nat} (hi:i<n):IsS n [i]:=by
 refine⟨fun j=>decide (j=i),?_⟩
 induction n with
 |zero=>omega
 |succ n ih=>
  rw [G2o,G3A]
  by_cases z:i<n
  ·rw [←ih z]
   have: ¬n=i:=by omega
   simp [this]
  ·have e:i=n:=by omega
   subst e
   have:(List.range i).filter (fun j=>decide (j=i))= []:=G33.mpr fun j hj=>by have:=G0x.mp hj;simp;omega
   rw [this];simp
theorem jeW (T:List (List Int)): ∀ (zs:List (Nat×Nat)) (a:Int),zs.foldl (fun a p=>a*ent T p.1 p.2) a=a*jcU T zs
 | [],a=>(Int.mul_one a).symm
 |z::zs,a=>by
  show zs.foldl _ (a*ent T z.1 z.2)=a*zs.foldl _ (1*ent T z.1 z.2)
  rw [jeW T zs,jeW T zs,Int.one_mul,Int.mul_assoc]
theorem jjg (T:List (List Int)) (p j:Nat) (r:List Nat):jcV T (p::j::r)=ent T p j*jcV T (j::r):=by
 show List.foldl _ (1*ent T p j) _=_
 rw [jeW,Int.one_mul]
 rfl
theorem jhw {α:Type} (c:Int) (f:α→Int): ∀l:List α,(l.map fun x=>c*f x).sum=c*(l.map f).sum
 | []=>(Int.mul_zero c).symm
 |x::l=>by rw [G0y,G1E,G0y,G1E,jhw c f l,Int.mul_add]
theorem jiJ {α β:Type} (F:α→List β) (f:β→Int): ∀l:List α,((l.flatMap F).map f).sum=(l.map fun x=>((F x).map f).sum).sum
 | []=>rfl
 |x::l=>by rw [G25,G1s,List.sum_append,jiJ F f l,G0y,G1E]
theorem jfB {T:List (List Int)} {n e o:Nat} (hT:Sq n e T) (hn:n≤8) (ho:o<n): ∀k p,p<n→ent (jfr n T k) p o=((wks T n o k p).map (jcV T)).sum
 |0,p,hp=>by
  show ent (jhF n) p o=(((if p=o then [[p]] else []):List (List Nat)).map (jcV T)).sum
  unfold jhF
  rw [jd9 hp ho]
  split<;>rfl
 |k+1,p,hp=>by
  show _=(((jba T n p).flatMap fun j=>(wks T n o k j).map (p:: ·)).map (jcV T)).sum
  rw [jg0 hT hn,jcQ hp ho,jfv,jiJ]
  unfold jba
  rw [jkl]
  refine congrArg List.sum (G0O fun j hj=> ?_)
  have hj:=G0x.mp hj
  have nn:=(hT.ent_nn hp hj).1
  rw [jfB hT hn ho k j hj]
  have e:((wks T n o k j).map (p:: ·)).map (jcV T)=(wks T n o k j).map fun w=>ent T p j*jcV T w:=by
   rw [G0S]
   refine G0O fun w hw=> ?_
   obtain⟨r,rfl⟩:=jgf k j w hw
   exact jjg T p j r
  rw [e,jhw]
  by_cases z:ent T p j=0
  ·rw [z,if_neg (by decide),Int.zero_mul]
  ·rw [if_pos (by simp;omega)]
theorem jkR {T:List (List Int)} {n:Nat} {W:List Nat} (h: ∀i∈W,i<n) (w:jf4 T W=true):jdn T n (jaE W)=true:=by
 unfold jdn
 rw [jkx h,jiA,w];rfl
theorem jl8 {h:HD} {A B:Addr} {P P' :List (List Nat)} {Q:KD} (k:h A=some (P.map jaE)) (k' :h B=some (P'.map jaE)) (e:P=P') (q:Q (.bl false) h):neE (.lst A) (.lst B) h Q:=by
 subst e
 refine⟨.list (P.map jc5),.list (P.map jc5),jiz k,jiz k',jeT P,jeT P,?_⟩
 have e:PyData.eqv (.list (P.map jc5)) (.list (P.map jc5))=true:=by
  show PyData.eqvAll (P.map jc5) (P.map jc5)=true
  clear k k' q
  induction P with
  |nil=>rfl
  |cons S P ih=>
   show (PyData.eqv (jc5 S) (jc5 S)&&PyData.eqvAll (P.map jc5) (P.map jc5))=true
   rw [jdl,ih,G0r rfl];rfl
 rw [e];exact q
theorem jl9 {h:HD} {A B:Addr} {a b:List Int} {Q:KD} (k:h A=some (a.map D.int)) (k' :h B=some (b.map D.int)) (e:a=b) (q:Q (.bl false) h):neE (.lst A) (.lst B) h Q:=by
 subst e
 refine⟨.list (a.map .int),.list (a.map .int),⟨A,_,rfl,k,jdA _ _⟩,⟨B,_,rfl,k',jdA _ _⟩,?_,?_,?_⟩
 ·exact jeI a
 ·exact jeI a
 ·rw [show PyData.eqv (.list (a.map .int)) (.list (a.map .int))=true from jeH a];exact q
theorem jre {r:RD2} {te tu:TED} {s1 s2:TSD} {E:EndsD} {σ:SD} {h:HD} (x:te σ h fun a h1=>tu σ h1 fun b h2=>r a b h2 fun v h3=> ∃k,v= .bl k∧if k=true then s1 E σ h3 else s2 E σ h3):je2 (jbH (dOp r te tu)) s1 s2 E σ h:=x
theorem jiK {W:List Nat} (h:W.length≤1000):okD (jaE W)=true:=jho (by rw [G0c];exact h) fun d hd=>by
 obtain⟨x,_,rfl⟩:=G0D.mp hd
 rfl
def jbw:RDn:=fun ds h Q=> ∃T,∃n e one o k:Nat,ds= [jav T,.int (one:Int),.int (o:Int),.int (k:Int)]∧Sq n e T∧e≤60∧1≤n∧n≤4∧one<n∧o<n∧k≤4∧Q (.bl true) h
set_option maxHeartbeats 2000000 in
theorem jdM {n:Nat} {f:Addr} {fd:FuncData} (Z:Zs mg) (F:Fun K "_law_pair_right" "_law_pair_right" jaB f fd) (C_walks_many:jaf P w K mg base n "walks_many" ["table","one","other","k"] jcz) (C_set_after:jaf P w K mg base n "set_after" ["table","some","k"] jcW) (C_power:jaf P w K mg base n "power" ["table","k"] jgu) (C_marks:jaf P w K mg base n "marks" ["table"] jgv) (C_nth_walk:jaf P w K mg base n "nth_walk" ["table","one","other","k","number"] jdu) (C_is_walk:jaf P w K mg base n "is_walk" ["table","thing"] jay) (C_first_walk:jaf P w K mg base n "first_walk" ["table","one","other","k"] jcA) (C_place_of_walk:jaf P w K mg base n "place_of_walk" ["table","walk"] jbL) (C_worth_of:jaf P w K mg base n "worth_of" ["table","walk"] jdt):FnOk P w K mg base CX0 (n+1) f fd ["_law_table_here","_law_one","_law_other","_law_k"] (LSp K jbw):=by
 obtain⟨g_G_walks_many,gd_G_walks_many,G_walks_many,bG_walks_many,kG_walks_many,mG_walks_many⟩:=C_walks_many
 obtain⟨g_G_set_after,gd_G_set_after,G_set_after,bG_set_after,kG_set_after,mG_set_after⟩:=C_set_after
 obtain⟨g_G_power,gd_G_power,G_power,bG_power,kG_power,mG_power⟩:=C_power
 obtain⟨g_G_marks,gd_G_marks,G_marks,bG_marks,kG_marks,mG_marks⟩:=C_marks
 obtain⟨g_G_nth_walk,gd_G_nth_walk,G_nth_walk,bG_nth_walk,kG_nth_walk,mG_nth_walk⟩:=C_nth_walk
 obtain⟨g_G_is_walk,gd_G_is_walk,G_is_walk,bG_is_walk,kG_is_walk,mG_is_walk⟩:=C_is_walk
 obtain⟨g_G_first_walk,gd_G_first_walk,G_first_walk,bG_first_walk,kG_first_walk,mG_first_walk⟩:=C_first_walk
 obtain⟨g_G_place_of_walk,gd_G_place_of_walk,G_place_of_walk,bG_place_of_walk,kG_place_of_walk,mG_place_of_walk⟩:=C_place_of_walk
 obtain⟨g_G_worth_of,gd_G_worth_of,G_worth_of,bG_worth_of,kG_worth_of,mG_worth_of⟩:=C_worth_of
 refine F.okJ sc__law_pair_right (fun ds h Q q=>by obtain⟨T,n,bb,one,o,k,e,hT,hb,n1,n4,h1,ho,hk,q⟩:=q;subst e;rfl) _ (fun cdv A outer s H E hr=>(jae (jdd (i:=4) sc__law_pair_right.nd rfl (Or.inl rfl) (jao G_walks_many hr rfl mG_walks_many kG_walks_many bG_walks_many (jac (jv 0) (by exact(jac (jv 1) (by exact(jac (jv 2) (by exact(jac (jv 3) jab))))))))) (by exact(jae (jfn (jpt (jpB (jb6 (jgV hr.units) (jix (jix (jao G_power hr rfl mG_power kG_power bG_power (jac (jao G_marks hr rfl mG_marks kG_marks bG_marks (jac (jv 0) jab)) (by exact(jac (jv 3) jab)))) (jv 1) (fun _ _=>rfl)) (jv 2) (fun _ _=>rfl)) (jv 4) (jaw _)) (jpA (jb6 (jgV hr.units) (jie (jpJ hr.units) (jv 2) (jao G_set_after hr rfl mG_set_after kG_set_after bG_set_after (jac (jv 0) (by exact(jac (jq4 (jac (jv 1) jab)) (by exact(jac (jv 3) jab)))))) (by with_unfolding_all rfl)) (jie jnk (jv 4) jaF (jaw _)) (jaw _))))) (jah (jcf jbl)) jbf) (by exact(jae (jpC (i:=6) (k:=5) (js:= [6]) rfl sc__law_pair_right.nd rfl (Or.inl rfl) (jal (by rfl)) (jdR rfl Z.range (jac (jv 4) jab)) (by decide) rfl (by first|exact Or.inl rfl|exact Or.inr rfl) (fun X' hX=>jaM) (fun X' hX=>by obtain⟨C,s₀,H₀,ex,rfl⟩:=hX;exact(jao G_nth_walk hr rfl mG_nth_walk kG_nth_walk bG_nth_walk (jac (jv 0) (by exact(jac (jv 1) (by exact(jac (jv 2) (by exact(jac (jv 3) (by exact(jac (jv 6) jab)))))))))))) (by exact(jae (jfn (jpt (jpB (jb6 (jgV hr.units) (jst hr rfl rfl Z.sorted rfl Z.set (jac (jv 5) jab)) (jv 5) (jaw _)) (jpA (jeD (jeC (jaN (jfl rfl) rfl Z.all G13 (jac (jlc (i:=7) (js:= [7]) rfl (jal (by rfl)) (jcF (jv 5)) (by decide) sc__law_pair_right.nd rfl (by first|exact Or.inl rfl|exact Or.inr rfl) (fun X' hX=>jaM) (fun X' hX=>by obtain⟨C,s₀,H₀,ex,rfl⟩:=hX;exact(jao G_is_walk hr rfl mG_is_walk kG_is_walk bG_is_walk (jac (jv 0) (by exact(jac (jv 7) jab)))))) jab))))))) (jah (jcf jbl)) jbf) (by exact(jae (jfn (jb6 (jgV hr.units) (jao G_first_walk hr rfl mG_first_walk kG_first_walk bG_first_walk (jac (jv 0) (by exact(jac (jv 1) (by exact(jac (jv 2) (by exact(jac (jv 3) jab)))))))) (jix (jop jdz (jv 5) (jjT (jac jry jab))) jaF (fun _ _=>rfl)) (jaw _)) (jah (jcf jbl)) jbf) (by exact(jae (jfn (jb6 (jgV hr.units) (jlc (i:=7) (js:= [7]) rfl (jal (by rfl)) (jcF (jv 5)) (by decide) sc__law_pair_right.nd rfl (by first|exact Or.inl rfl|exact Or.inr rfl) (fun X' hX=>jaM) (fun X' hX=>by obtain⟨C,s₀,H₀,ex,rfl⟩:=hX;exact(jao G_place_of_walk hr rfl mG_place_of_walk kG_place_of_walk bG_place_of_walk (jac (jv 0) (by exact(jac (jv 7) jab)))))) (jq6 rfl rfl Z.list rfl Z.range (jac (jv 4) jab)) (jaw _)) (jah (jcf jbl)) jbf) (by exact(jah (jcf (jie oq_eq (jix (jix (jao G_power hr rfl mG_power kG_power bG_power (jac (jv 0) (by exact(jac (jv 3) jab)))) (jv 1) (fun _ _=>rfl)) (jv 2) (fun _ _=>rfl)) (jaN (jfX rfl) rfl Z.sum (by decide +kernel) (jac (jlc (i:=7) (js:= [7]) rfl (jal (by rfl)) (jcF (jv 5)) (by decide) sc__law_pair_right.nd rfl (by first|exact Or.inl rfl|exact Or.inr rfl) (fun X' hX=>jaM) (fun X' hX=>by obtain⟨C,s₀,H₀,ex,rfl⟩:=hX;exact(jao G_worth_of hr rfl mG_worth_of kG_worth_of bG_worth_of (jac (jv 0) (by exact(jac (jv 7) jab)))))) jab)) (jaw _))))))))))))))))) ?_
 intro ds h Q q
 obtain⟨T,n,bb,one,o,k,e,hT,hb,n1,n4,h1,ho,hk,q⟩:=q
 subst e
 have n6:n≤6:=by omega
 obtain⟨N,hN⟩: ∃N:Nat,cnt T n o k one=(N:Int):=⟨(cnt T n o k one).toNat,(G2s (jc7 k one)).symm⟩
 have N3:N≤256:=by
  have a:=jkL (T:=T) (o:=o) n4 k one
  have b:(4:Int)^k≤256:=by rcases (by omega:k=0∨k=1∨k=2∨k=3∨k=4) with rfl|rfl|rfl|rfl|rfl<;>decide
  omega
 have all:=jnZ (T:=T) (n:=n) (o:=o) k one
 rw [hN,G18] at all
 have len:(wks T n o k one).length=N:=by rw [←all,G0c,G0A]
 have each: ∀W∈wks T n o k one,jdn T n (jaE W)=true∧(∀i∈W,i<n)∧W.length=k+1∧W[k]? =some o:=fun W hW=>by
  rw [←all] at hW
  obtain⟨m,hm,rfl⟩:=G0D.mp hW
  have hm:=G0x.mp hm
  have m0:(0:Int)≤(m:Int):=by omega
  have m1:(m:Int)<cnt T n o k one:=by omega
  exact⟨jkR (jpR h1 m0 m1) (jkf k one m0 m1),jpR h1 m0 m1,jpS k one m,jke k one m0 m1⟩
 refine jag (fun σ' h' =>σ' = [some (jav T),some (.int (one:Int)),some (.int (o:Int)),some (.int (k:Int)),some (.int (N:Int)),none,none,none]∧h=h') (fun C hC=>⟨_,rfl,_,rfl,_,rfl,_,rfl,T,n,bb,one,o,k,rfl,hT,n1,n6,h1,ho,by omega,hC _ _ ⟨by rw [hN];rfl,rfl⟩⟩) ?_
 rintro _ _ ⟨rfl,rfl⟩
 have sP:=(Sq.mark (n:=n) T).pow (by omega) k
 have ws:=jiq hT ho k [one] (fun x hx=>by rw [G0g.mp hx];exact h1)
 refine jag (fun σ' h' =>σ' = [some (jav T),some (.int (one:Int)),some (.int (o:Int)),some (.int (k:Int)),some (.int (N:Int)),none,none,none]∧h=h') (fun C hC=>⟨_,rfl,T,n,bb,rfl,hT,n1,n6,_,rfl,jf0 n T,n,1,k,rfl,Sq.mark T,n1,n6,by omega,by omega,_,rfl,_,jdh sP h1,_,rfl,_,jdi (sP.row _ (Sq.getRow sP h1)) ho,_,rfl,jn5 ((jkm hT (by omega) ho k one h1).symm.trans hN) ⟨_,rfl,jd5 ⟨_,rfl,_,rfl,_,rfl,(by show 1≤sizeLine;decide),_,rfl,T,[one],n,bb,k,rfl,hT,n1,n6,jn7 h1,by omega,?_⟩⟩⟩) ?_
 ·refine jn4 fun bo hbo=>⟨_,rfl,?_⟩
  dsimp only [dC,jey]
  refine jqc ?_ ⟨_,rfl,jd5 (hC _ _ ⟨rfl,rfl⟩)⟩
  show (false !=bo)=decide (0<(N:Int))
  have e:bo=true↔0<(N:Int):=by
   rw [hbo,ws,←hN]
   exact⟨fun ⟨p,hp,z⟩=>by rw [G0g.mp hp] at z;exact z,fun z=>⟨one,G0g.mpr rfl,z⟩⟩
  cases bo with
  |true=>rw [G0r (e.mp rfl)];rfl
  |false=>rw [G0L (fun z=>by have:=e.mpr z;cases this)];rfl
 rintro _ _ ⟨rfl,rfl⟩
 refine jag (fun σ' h' => ∃A,σ' = [some (jav T),some (.int (one:Int)),some (.int (o:Int)),some (.int (k:Int)),some (.int (N:Int)),some (.lst A),none,none]∧Sub h h' ∧h' A=some ((wks T n o k one).map jaE)) (fun C hC=> ?_) ?_
 ·refine jml N (fun i ys h' =>h' =h∧ys=(List.range i).map fun (m:Nat)=>jaE (wn T n o k one (m:Int))) (by omega) (fun R r=>⟨_,rfl,r⟩) ⟨rfl,rfl⟩ (fun i ys h' w=>by rw [w.2,G0c,G0A]) (fun i ys h' hi w=> ?_) (fun ys h' w p hp=> ?_)
  ·obtain⟨rfl,rfl⟩:=w
   exact⟨_,rfl,_,rfl,_,rfl,_,rfl,_,rfl,T,n,bb,one,o,k,(i:Int),rfl,hT,n1,n6,h1,ho,by omega,by omega,by omega,_,Sub.refl _,by omega,rfl,by rw [G2o,G1s];rfl⟩
  ·obtain⟨rfl,rfl⟩:=w
   refine hC _ _ ⟨p,rfl,Sub.newAt (Sub.refl _) hp,?_⟩
   rw [jad,←all,G0S];rfl
 rintro _ h1' ⟨A,rfl,sb,kA⟩
 refine jag (fun σ' h' =>σ' = [some (jav T),some (.int (one:Int)),some (.int (o:Int)),some (.int (k:Int)),some (.int (N:Int)),some (.lst A),none,none]∧Sub h h' ∧h' A=some ((wks T n o k one).map jaE)) (fun C hC=>⟨_,rfl,A,(wks T n o k one).map toI,rfl,?_,by rw [G0c];omega,fun p kss hp srt mem=>⟨_,rfl,jl8 (P:=wks T n o k one) (P' :=wks T n o k one) ?_ (jam kA hp) rfl ⟨_,rfl,jd5 ?_⟩⟩⟩) ?_
 ·rw [kA,G0S]
  exact congrArg some (G0O fun S _=>(jms S).symm)
 ·rw [jad,jmD jp9 srt (by rw [G1V];exact jiH k one) mem,G0S]
  exact congrArg some (G0O fun S _=>jms S)
 ·refine jrA (j:=fun h=>h A) (wks T n o k one) jaE (fun _=>true) (by omega) (jam kA hp) (fun R r=>⟨_,rfl,r⟩) (fun W hW Q' q' => ?_) ⟨_,rfl,?_⟩
  ·obtain⟨w1,w2,w3,w4⟩:=each W hW
   refine⟨_,rfl,_,rfl,T,jaE W,n,bb,rfl,hT,n1,n6,jiK (by omega),?_⟩
   rw [w1];exact q'
  ·rw [show (wks T n o k one).all (fun _=>true)=true from G05.mpr fun _ _=>rfl]
   exact jd5 (hC _ _ ⟨rfl,sb.newAt hp,jam kA hp⟩)
 clear sb kA
 rintro _ h2 ⟨rfl,sb,kA⟩
 refine jag (fun σ' h' =>σ' = [some (jav T),some (.int (one:Int)),some (.int (o:Int)),some (.int (k:Int)),some (.int (N:Int)),some (.lst A),none,none]∧Sub h h' ∧h' A=some ((wks T n o k one).map jaE)) (fun C hC=>⟨_,rfl,_,rfl,_,rfl,_,rfl,T,n,bb,one,o,k,rfl,hT,n1,n6,h1,ho,by omega,_,rfl,(by show 1≤sizeLine;decide),fun p1 e1=>⟨_,_,jam kA e1,jad,?_,fun p2 e2=>⟨_,if 0<cnt T n o k one then jaE (wn T n o k one 0) else .non,jad,jcc (j:=0) ?_,?_⟩⟩⟩) ?_
 ·rw [G0c]
  exact G1j (jaK (by simp only [G0k,G0I];omega))
 ·by_cases c:0<cnt T n o k one
  ·rw [if_pos c,G0H (by rw [G0c];omega),G0i]
   exact congrArg (Option.map jaE) (jhJ k one (m:=0) (Int.le_refl _) c)
  ·have e0:wks T n o k one= []:=G17.mp (by omega)
   rw [if_neg c,e0];rfl
 ·have fin:C [some (jav T),some (.int (one:Int)),some (.int (o:Int)),some (.int (k:Int)),some (.int (N:Int)),some (.lst A),none,none] (jb2 (jb2 h2 p1 [D.non]) p2 (List.map jaE (wks T n o k one)++ [D.non])):=hC _ _ ⟨rfl,(sb.newAt e1).newAt e2,jam (jam kA e1) e2⟩
  by_cases c:0<cnt T n o k one
  ·rw [if_pos c]
   exact jpL rfl ⟨_,rfl,jd5 fin⟩
  ·rw [if_neg c]
   exact⟨.none,.none,rfl,rfl,rfl,rfl,_,rfl,jd5 fin⟩
 clear sb kA
 rintro _ h3 ⟨rfl,sb,kA⟩
 have places:(wks T n o k one).map (ji1 T n o)=(List.range N).map fun (m:Nat)=>(m:Int):=by
  rw [←all,G0S]
  exact G0O fun m hm=>jmr k one (by omega) (by have:=G0x.mp hm;omega)
 refine jag (fun σ' h' =>σ' = [some (jav T),some (.int (one:Int)),some (.int (o:Int)),some (.int (k:Int)),some (.int (N:Int)),some (.lst A),none,none]∧Sub h h' ∧h' A=some ((wks T n o k one).map jaE)) (fun C hC=> ?_) ?_
 ·refine jre (lcA (j:=fun h=>h A) (wks T n o k one) jaE (fun W=> .int (ji1 T n o W)) (by omega) kA (fun R r=>⟨_,rfl,r⟩) (fun W hW Q' q' => ?_) fun p hp=> ?_)
  ·obtain⟨w1,w2,w3,w4⟩:=each W hW
   exact⟨_,rfl,_,rfl,T,W,n,bb,o,rfl,hT,n1,n6,w1,w2,by omega,by omega,by rw [w3];exact w4,q'⟩
  ·refine⟨_,rfl,N,rfl,by omega,fun p2 e2=>jl9 (a:=(wks T n o k one).map (ji1 T n o)) (b:=(List.range N).map fun (m:Nat)=>(m:Int)) (jam (by rw [jad,G0S];rfl) e2) (by rw [jad,G0S];rfl) places ⟨_,rfl,jd5 (hC _ _ ⟨rfl,(sb.newAt hp).newAt e2,jam (jam kA hp) e2⟩)⟩⟩
 clear sb kA
 rintro _ h4 ⟨rfl,sb,kA⟩
 have sQ:=hT.pow (by omega:n≤8) k
 refine⟨_,rfl,_,rfl,T,n,bb,k,rfl,hT,n1,n6,by omega,by omega,_,rfl,_,jdh sQ h1,_,rfl,_,jdi (sQ.row _ (Sq.getRow sQ h1)) ho,?_⟩
 refine jq8 (j:=fun h=>h A) (wks T n o k one) jaE (jcV T) (by omega) kA (fun R r=>⟨_,rfl,r⟩) (fun W hW Q' q' => ?_) ?_
 ·obtain⟨w1,w2,w3,w4⟩:=each W hW
  refine⟨_,rfl,_,rfl,T,jaE W,n,bb,rfl,hT,n1,n6,jiK (by omega),hb,w1,?_⟩
  rw [jiA];exact q'
 ·exact jn6 (jfB hT (by omega) ho k one h1) ⟨_,sb,q⟩
set_option maxHeartbeats 2000000 in
theorem jqd {n:Nat} {f:Addr} {fd:FuncData} (Z:Zs mg) (F:Fun K "law" "law" jgj f fd) (C__law_cell:jaf P w K mg base n "_law_cell" ["_law_script","_law_k"] jcX) (C__law_pen:jaf P w K mg base n "_law_pen" ["_law_cell_here"] jdv) (C__law_draw:jaf P w K mg base n "_law_draw" ["_law_pen_here","_law_many"] jcb) (C__law_table:jaf P w K mg base n "_law_table" ["_law_pen_here","_law_size"] jcD) (C__law_pair_right:jaf P w K mg base n "_law_pair_right" ["_law_table_here","_law_one","_law_other","_law_k"] jbw):FnOk P w K mg base CX0 (n+1) f fd ["_law_script"] (LSp K jjO):=by
 obtain⟨g_G__law_cell,gd_G__law_cell,G__law_cell,bG__law_cell,kG__law_cell,mG__law_cell⟩:=C__law_cell
 obtain⟨g_G__law_pen,gd_G__law_pen,G__law_pen,bG__law_pen,kG__law_pen,mG__law_pen⟩:=C__law_pen
 obtain⟨g_G__law_draw,gd_G__law_draw,G__law_draw,bG__law_draw,kG__law_draw,mG__law_draw⟩:=C__law_draw
 obtain⟨g_G__law_table,gd_G__law_table,G__law_table,bG__law_table,kG__law_table,mG__law_table⟩:=C__law_table
 obtain⟨g_G__law_pair_right,gd_G__law_pair_right,G__law_pair_right,bG__law_pair_right,kG__law_pair_right,mG__law_pair_right⟩:=C__law_pair_right
 refine F.okJ sc_law (fun ds h Q q=>by obtain⟨ns,e,hh,hns,q⟩:=q;subst e;rfl) _ (fun cdv A outer s H E hr=>(jae (jlj G1D rfl (jnt (jop jdz (jjT (jac (jao G__law_cell hr rfl mG__law_cell kG__law_cell bG__law_cell (jac (jv 0) (by exact(jac jaF jab)))) jab)) (jfo (jv 0) (jdf jaF) (jdf jaF)))) (jde (i:=1) sc_law.nd rfl (Or.inl rfl)) (jae (jdd (i:=2) sc_law.nd rfl (Or.inl rfl) (jao G__law_pen hr rfl mG__law_pen kG__law_pen bG__law_pen (jac (jv 1) jab))) (by exact(jae (jdd (i:=3) sc_law.nd rfl (Or.inl rfl) (jix (jjT (jac jaF (by exact(jac jaF (by exact(jac jaF (by exact(jac jaF (by exact(jac jaF (by exact(jac jaF jab)))))))))))) (jao G__law_draw hr rfl mG__law_draw kG__law_draw bG__law_draw (jac (jv 2) (by exact(jac jaF jab)))) (fun _ _=>rfl))) (by exact(jae (jdd (i:=4) sc_law.nd rfl (Or.inl rfl) (jao G__law_table hr rfl mG__law_table kG__law_table bG__law_table (jac (jv 2) (by exact(jac (jv 3) jab))))) (by exact(jah (jlj G1D rfl (jdR rfl Z.range (jac jaF jab)) (jde (i:=5) sc_law.nd rfl (Or.inl rfl)) (jae (jrz (i:=6) (j:=7) rfl sc_law.nd rfl rfl (by decide) rfl rfl (jac (jao G__law_draw hr rfl mG__law_draw kG__law_draw bG__law_draw (jac (jv 2) (by exact(jac (jv 3) jab)))) (by exact(jac (jao G__law_draw hr rfl mG__law_draw kG__law_draw bG__law_draw (jac (jv 2) (by exact(jac (jv 3) jab)))) jab))) rfl) (by exact(jah (jfn (jeD (jeC (jao G__law_pair_right hr rfl mG__law_pair_right kG__law_pair_right bG__law_pair_right (jac (jv 4) (by exact(jac (jv 6) (by exact(jac (jv 7) (by exact(jac (jao G__law_draw hr rfl mG__law_draw kG__law_draw bG__law_draw (jac (jv 2) (by exact(jac jaF jab)))) jab)))))))))) (jah (jcf jbl)) jbf))))))))))))) (by exact(jah (jcf jbl))))) ?_
 intro ds h Q q
 obtain⟨ns,e,hh,hns,q⟩:=q
 subst e
 refine jag (fun σ' h' =>True) (fun C hC=> ?_) (fun σ' h3 hV=>⟨h3,Sub.refl _,q h3⟩)
 refine⟨_,rfl,ns,0,rfl,(by decide),fun n0=>⟨(by show 1≤sizeLine;decide),fun p1 e1=>⟨_,rfl,_,rfl,_,rfl,fun p2 e2=>⟨_,_,jam jad e2,jad,?_,fun p3 e3=>⟨p3,rfl,?_⟩⟩⟩⟩⟩
 ·have:(jeX ns (some 1) (some 3)).length≤ns.length:=by unfold jeX;rw [List.length_take,List.length_drop];omega
  rw [G0c]
  exact G1j (jaK (by simp only [G0k,G0I];omega))
 generalize hcs:([D.int n0]++(jeX ns (some 1) (some 3)).map D.int)=cs
 have hint: ∀d∈cs,∃c,d= .int c:=fun d hd=>by
  rw [←hcs] at hd
  rcases G0z.mp hd with z|z
  ·exact⟨n0,G0g.mp z⟩
  ·obtain⟨x,_,e⟩:=G0D.mp z;exact⟨x,e.symm⟩
 refine jgT cs (fun i σ' h' => ∃a1 a2 a3 a4 a5 a6 a7,σ' = [some (.scr ns),a1,a2,a3,a4,a5,a6,a7]∧h' p3=some cs) (fun i σ' h' ⟨_,_,_,_,_,_,_,_,k⟩=>k) ⟨_,_,_,_,_,_,_,rfl,jad⟩ (fun σ' h' _=>hC _ _ True.intro) ?_
 rintro i d _ h4 hi ⟨b1,b2,b3,b4,b5,b6,b7,rfl,k3⟩
 obtain⟨c,rfl⟩:=hint d (G0h hi)
 have hil:i<cs.length:=(G0m.mp hi).1
 show jec _ _ _ [some (.scr ns),some (.int c),b2,b3,b4,b5,b6,b7] h4
 refine jag (fun σ' h' => ∃p l fl,σ' = [some (.scr ns),some (.int c),some (.lst p),b3,b4,b5,b6,b7]∧h' p=some [.int l,.int fl]∧0≤l∧h' p3=some cs∧p3≠p) (fun C hC=> ?_) ?_
 ·refine⟨_,rfl,c,rfl,fun p l fl ep l0 _=>hC _ _ ⟨p,l,fl,rfl,jad,l0,jam k3 ep,Ne.symm (jaV k3 ep)⟩⟩
 rintro _ h5 ⟨p,l,fl,rfl,kp,l0,k3,n3⟩
 refine jag (fun σ' h' => ∃ (n:Nat) (l2:Int),σ' = [some (.scr ns),some (.int c),some (.lst p),some (.int (n:Int)),b4,b5,b6,b7]∧1≤n∧n≤4∧h' p=some [.int l2,.int fl]∧0≤l2∧h' p3=some cs) (fun C hC=>⟨(by show 6≤sizeLine;decide),fun p1 e1=>⟨_,rfl,p,l,fl,6,rfl,jam kp e1,l0,by decide,by decide,fun r l2 r0 r1 l20=> ?_⟩⟩) ?_
 ·obtain⟨d,hd,ed⟩:=jhD (xs:= [D.int 1,D.int 2,D.int 3,D.int 4,D.int 3,D.int 2]) r0 r1
  refine⟨_,d,jaq (jaV kp e1) jad,ed,?_⟩
  have q' : ∀k:Nat,1≤k→k≤4→C [some (.scr ns),some (.int c),some (.lst p),some (.int (k:Int)),b4,b5,b6,b7] (jb2 (jb2 h5 p1 [D.int 1,D.int 2,D.int 3,D.int 4,D.int 3,D.int 2]) p [.int l2,.int fl]):=fun k a b=>hC _ _ ⟨k,l2,rfl,a,b,jad,l20,jaq n3 (jam k3 e1)⟩
  simp only [G0C,G1i,G3R] at hd
  rcases hd with e|e|e|e|e|e<;>subst e
  ·exact q' 1 (by decide) (by decide)
  ·exact q' 2 (by decide) (by decide)
  ·exact q' 3 (by decide) (by decide)
  ·exact q' 4 (by decide) (by decide)
  ·exact q' 3 (by decide) (by decide)
  ·exact q' 2 (by decide) (by decide)
 clear kp l0 k3
 rintro _ h6 ⟨n,l2,rfl,n1,n4,kp,l20,k3⟩
 refine jag (fun σ' h' => ∃ (T:List (List Int)) (l2:Int),σ' = [some (.scr ns),some (.int c),some (.lst p),some (.int (n:Int)),some (jav T),b5,b6,b7]∧GoodTab n T∧h' p=some [.int l2,.int fl]∧0≤l2∧h' p3=some cs) (fun C hC=>⟨_,rfl,_,rfl,p,l2,fl,n,rfl,kp,l20,n1,by omega,fun T l3 gT l30=>hC _ _ ⟨T,l3,rfl,gT,jad,l30,jaq n3 k3⟩⟩) ?_
 clear kp l20 k3
 rintro _ h7 ⟨T,l2,rfl,gT,kp,l20,k3⟩
 refine jeA 3 (fun i σ' h' => ∃b5 b6 b7 l2,σ' = [some (.scr ns),some (.int c),some (.lst p),some (.int (n:Int)),some (jav T),b5,b6,b7]∧h' p=some [.int l2,.int fl]∧0≤l2∧h' p3=some cs) (by decide) (fun R r=>r) ⟨_,_,_,l2,rfl,kp,l20,k3⟩ (fun σ' h' ⟨_,_,_,_,e,_,_,k⟩=>⟨_,Sub.refl _,by omega,_,_,_,_,_,_,_,e,k⟩) ?_
 clear kp l20 k3
 rintro t _ h8 ht ⟨b5',b6',b7',l2,rfl,kp,l20,k3⟩
 refine jag (fun σ' h' => ∃ (l2:Int) (u v:Nat),σ' = [some (.scr ns),some (.int c),some (.lst p),some (.int (n:Int)),some (jav T),some (.int (t:Int)),some (.int (u:Int)),some (.int (v:Int))]∧u<n∧v<n∧h' p=some [.int l2,.int fl]∧0≤l2∧h' p3=some cs) (fun C hC=>⟨_,rfl,_,rfl,p,l2,fl,(n:Int),rfl,kp,l20,by omega,by omega,fun x l3 x0 x1 l30=>⟨_,rfl,_,rfl,p,l3,fl,(n:Int),rfl,jad,l30,by omega,by omega,fun y l4 y0 y1 l40=>⟨_,_,rfl,hC _ _ ⟨l4,x.toNat,y.toNat,?_,by omega,by omega,jad,l40,jaq n3 (jaq n3 k3)⟩⟩⟩⟩) ?_
 ·rw [G2s x0,G2s y0];rfl
 clear kp l20 k3
 rintro _ h9 ⟨l2,u,v,rfl,hu,hv,kp,l20,k3⟩
 exact⟨_,rfl,_,rfl,_,rfl,_,rfl,p,l2,fl,5,rfl,kp,l20,by decide,by decide,fun x l3 x0 x1 l30=>⟨T,n,20,u,v,x.toNat,by rw [G2s x0],gT.sq,by decide,n1,n4,hu,hv,by omega,_,rfl,jd5 ⟨_,Sub.refl _,by omega,_,_,_,l3,rfl,jad,l30,jaq n3 k3⟩⟩⟩
end
set_option maxHeartbeats 8000000 in
theorem jqe {l:PySem.W.OpenLaw} {w:World} {K:PySem.W.Frag} {h:Heap} {mg:Str→Option Value} {fa:Addr} (X:K.In h) (G:h.Ns mainGlobals mg) (hfa:mg "law" =some (.ref fa))
 {f0:Addr} {od0 an0:Option Addr} {sl0:Array (Option Value)} {oc0 kV0 dc0 pm0 cd0 ct0:Value}
 (a0:PySem.W.nsIn K mainGlobals "is_whole" =some (some (.ref f0))) (l0:K.lookup f0=some ⟨oc0,od0,.func (PySem.W.fnOf "is_whole" "is_whole" (jak jbV) (jai jbV) (jaa jbV) .none kV0 dc0 pm0 an0 cd0 ct0),sl0⟩) (c0:PySem.W.codeIn K cd0 "is_whole" =true) (k0:PySem.W.keepIn K (.ref f0)=true)
 {f1:Addr} {od1 an1:Option Addr} {sl1:Array (Option Value)} {oc1 kV1 dc1 pm1 cd1 ct1:Value}
 (a1:PySem.W.nsIn K mainGlobals "is_within" =some (some (.ref f1))) (l1:K.lookup f1=some ⟨oc1,od1,.func (PySem.W.fnOf "is_within" "is_within" (jak jby) (jai jby) (jaa jby) .none kV1 dc1 pm1 an1 cd1 ct1),sl1⟩) (c1:PySem.W.codeIn K cd1 "is_within" =true) (k1:PySem.W.keepIn K (.ref f1)=true)
 {f2:Addr} {od2 an2:Option Addr} {sl2:Array (Option Value)} {oc2 kV2 dc2 pm2 cd2 ct2:Value}
 (a2:PySem.W.nsIn K mainGlobals "is_place" =some (some (.ref f2))) (l2:K.lookup f2=some ⟨oc2,od2,.func (PySem.W.fnOf "is_place" "is_place" (jak jbW) (jai jbW) (jaa jbW) .none kV2 dc2 pm2 an2 cd2 ct2),sl2⟩) (c2:PySem.W.codeIn K cd2 "is_place" =true) (k2:PySem.W.keepIn K (.ref f2)=true)
 {f3:Addr} {od3 an3:Option Addr} {sl3:Array (Option Value)} {oc3 kV3 dc3 pm3 cd3 ct3:Value}
 (a3:PySem.W.nsIn K mainGlobals "are_places" =some (some (.ref f3))) (l3:K.lookup f3=some ⟨oc3,od3,.func (PySem.W.fnOf "are_places" "are_places" (jak jbg) (jai jbg) (jaa jbg) .none kV3 dc3 pm3 an3 cd3 ct3),sl3⟩) (c3:PySem.W.codeIn K cd3 "are_places" =true) (k3:PySem.W.keepIn K (.ref f3)=true)
 {f4:Addr} {od4 an4:Option Addr} {sl4:Array (Option Value)} {oc4 kV4 dc4 pm4 cd4 ct4:Value}
 (a4:PySem.W.nsIn K mainGlobals "rises" =some (some (.ref f4))) (l4:K.lookup f4=some ⟨oc4,od4,.func (PySem.W.fnOf "rises" "rises" (jak jdY) (jai jdY) (jaa jdY) .none kV4 dc4 pm4 an4 cd4 ct4),sl4⟩) (c4:PySem.W.codeIn K cd4 "rises" =true) (k4:PySem.W.keepIn K (.ref f4)=true)
 {f5:Addr} {od5 an5:Option Addr} {sl5:Array (Option Value)} {oc5 kV5 dc5 pm5 cd5 ct5:Value}
 (a5:PySem.W.nsIn K mainGlobals "is_set" =some (some (.ref f5))) (l5:K.lookup f5=some ⟨oc5,od5,.func (PySem.W.fnOf "is_set" "is_set" (jak jc4) (jai jc4) (jaa jc4) .none kV5 dc5 pm5 an5 cd5 ct5),sl5⟩) (c5:PySem.W.codeIn K cd5 "is_set" =true) (k5:PySem.W.keepIn K (.ref f5)=true)
 {f6:Addr} {od6 an6:Option Addr} {sl6:Array (Option Value)} {oc6 kV6 dc6 pm6 cd6 ct6:Value}
 (a6:PySem.W.nsIn K mainGlobals "is_table_row" =some (some (.ref f6))) (l6:K.lookup f6=some ⟨oc6,od6,.func (PySem.W.fnOf "is_table_row" "is_table_row" (jak jaW) (jai jaW) (jaa jaW) .none kV6 dc6 pm6 an6 cd6 ct6),sl6⟩) (c6:PySem.W.codeIn K cd6 "is_table_row" =true) (k6:PySem.W.keepIn K (.ref f6)=true)
 {f7:Addr} {od7 an7:Option Addr} {sl7:Array (Option Value)} {oc7 kV7 dc7 pm7 cd7 ct7:Value}
 (a7:PySem.W.nsIn K mainGlobals "has_table_form" =some (some (.ref f7))) (l7:K.lookup f7=some ⟨oc7,od7,.func (PySem.W.fnOf "has_table_form" "has_table_form" (jak jaH) (jai jaH) (jaa jaH) .none kV7 dc7 pm7 an7 cd7 ct7),sl7⟩) (c7:PySem.W.codeIn K cd7 "has_table_form" =true) (k7:PySem.W.keepIn K (.ref f7)=true)
 {f8:Addr} {od8 an8:Option Addr} {sl8:Array (Option Value)} {oc8 kV8 dc8 pm8 cd8 ct8:Value}
 (a8:PySem.W.nsIn K mainGlobals "want_table" =some (some (.ref f8))) (l8:K.lookup f8=some ⟨oc8,od8,.func (PySem.W.fnOf "want_table" "want_table" (jak jbh) (jai jbh) (jaa jbh) .none kV8 dc8 pm8 an8 cd8 ct8),sl8⟩) (c8:PySem.W.codeIn K cd8 "want_table" =true) (k8:PySem.W.keepIn K (.ref f8)=true)
 {f9:Addr} {od9 an9:Option Addr} {sl9:Array (Option Value)} {oc9 kV9 dc9 pm9 cd9 ct9:Value}
 (a9:PySem.W.nsIn K mainGlobals "want_place" =some (some (.ref f9))) (l9:K.lookup f9=some ⟨oc9,od9,.func (PySem.W.fnOf "want_place" "want_place" (jak jbi) (jai jbi) (jaa jbi) .none kV9 dc9 pm9 an9 cd9 ct9),sl9⟩) (c9:PySem.W.codeIn K cd9 "want_place" =true) (k9:PySem.W.keepIn K (.ref f9)=true)
 {f10:Addr} {od10 an10:Option Addr} {sl10:Array (Option Value)} {oc10 kV10 dc10 pm10 cd10 ct10:Value}
 (a10:PySem.W.nsIn K mainGlobals "want_set" =some (some (.ref f10))) (l10:K.lookup f10=some ⟨oc10,od10,.func (PySem.W.fnOf "want_set" "want_set" (jak jbX) (jai jbX) (jaa jbX) .none kV10 dc10 pm10 an10 cd10 ct10),sl10⟩) (c10:PySem.W.codeIn K cd10 "want_set" =true) (k10:PySem.W.keepIn K (.ref f10)=true)
 {f11:Addr} {od11 an11:Option Addr} {sl11:Array (Option Value)} {oc11 kV11 dc11 pm11 cd11 ct11:Value}
 (a11:PySem.W.nsIn K mainGlobals "want_number" =some (some (.ref f11))) (l11:K.lookup f11=some ⟨oc11,od11,.func (PySem.W.fnOf "want_number" "want_number" (jak ja6) (jai ja6) (jaa ja6) .none kV11 dc11 pm11 an11 cd11 ct11),sl11⟩) (c11:PySem.W.codeIn K cd11 "want_number" =true) (k11:PySem.W.keepIn K (.ref f11)=true)
 {f12:Addr} {od12 an12:Option Addr} {sl12:Array (Option Value)} {oc12 kV12 dc12 pm12 cd12 ct12:Value}
 (a12:PySem.W.nsIn K mainGlobals "heads" =some (some (.ref f12))) (l12:K.lookup f12=some ⟨oc12,od12,.func (PySem.W.fnOf "heads" "heads" (jak jdZ) (jai jdZ) (jaa jdZ) .none kV12 dc12 pm12 an12 cd12 ct12),sl12⟩) (c12:PySem.W.codeIn K cd12 "heads" =true) (k12:PySem.W.keepIn K (.ref f12)=true)
 {f13:Addr} {od13 an13:Option Addr} {sl13:Array (Option Value)} {oc13 kV13 dc13 pm13 cd13 ct13:Value}
 (a13:PySem.W.nsIn K mainGlobals "has_walk_form" =some (some (.ref f13))) (l13:K.lookup f13=some ⟨oc13,od13,.func (PySem.W.fnOf "has_walk_form" "has_walk_form" (jak jaP) (jai jaP) (jaa jaP) .none kV13 dc13 pm13 an13 cd13 ct13),sl13⟩) (c13:PySem.W.codeIn K cd13 "has_walk_form" =true) (k13:PySem.W.keepIn K (.ref f13)=true)
 {f14:Addr} {od14 an14:Option Addr} {sl14:Array (Option Value)} {oc14 kV14 dc14 pm14 cd14 ct14:Value}
 (a14:PySem.W.nsIn K mainGlobals "want_walk" =some (some (.ref f14))) (l14:K.lookup f14=some ⟨oc14,od14,.func (PySem.W.fnOf "want_walk" "want_walk" (jak jbz) (jai jbz) (jaa jbz) .none kV14 dc14 pm14 an14 cd14 ct14),sl14⟩) (c14:PySem.W.codeIn K cd14 "want_walk" =true) (k14:PySem.W.keepIn K (.ref f14)=true)
 {f15:Addr} {od15 an15:Option Addr} {sl15:Array (Option Value)} {oc15 kV15 dc15 pm15 cd15 ct15:Value}
 (a15:PySem.W.nsIn K mainGlobals "want_ends_and_steps" =some (some (.ref f15))) (l15:K.lookup f15=some ⟨oc15,od15,.func (PySem.W.fnOf "want_ends_and_steps" "want_ends_and_steps" (jak jas) (jai jas) (jaa jas) .none kV15 dc15 pm15 an15 cd15 ct15),sl15⟩) (c15:PySem.W.codeIn K cd15 "want_ends_and_steps" =true) (k15:PySem.W.keepIn K (.ref f15)=true)
 {f16:Addr} {od16 an16:Option Addr} {sl16:Array (Option Value)} {oc16 kV16 dc16 pm16 cd16 ct16:Value}
 (a16:PySem.W.nsIn K mainGlobals "counts_to" =some (some (.ref f16))) (l16:K.lookup f16=some ⟨oc16,od16,.func (PySem.W.fnOf "counts_to" "counts_to" (jak jbA) (jai jbA) (jaa jbA) .none kV16 dc16 pm16 an16 cd16 ct16),sl16⟩) (c16:PySem.W.codeIn K cd16 "counts_to" =true) (k16:PySem.W.keepIn K (.ref f16)=true)
 {f17:Addr} {od17 an17:Option Addr} {sl17:Array (Option Value)} {oc17 kV17 dc17 pm17 cd17 ct17:Value}
 (a17:PySem.W.nsIn K mainGlobals "next_place" =some (some (.ref f17))) (l17:K.lookup f17=some ⟨oc17,od17,.func (PySem.W.fnOf "next_place" "next_place" (jak jbj) (jai jbj) (jaa jbj) .none kV17 dc17 pm17 an17 cd17 ct17),sl17⟩) (c17:PySem.W.codeIn K cd17 "next_place" =true) (k17:PySem.W.keepIn K (.ref f17)=true)
 {f18:Addr} {od18 an18:Option Addr} {sl18:Array (Option Value)} {oc18 kV18 dc18 pm18 cd18 ct18:Value}
 (a18:PySem.W.nsIn K mainGlobals "walk_of_number" =some (some (.ref f18))) (l18:K.lookup f18=some ⟨oc18,od18,.func (PySem.W.fnOf "walk_of_number" "walk_of_number" (jak jaI) (jai jaI) (jaa jaI) .none kV18 dc18 pm18 an18 cd18 ct18),sl18⟩) (c18:PySem.W.codeIn K cd18 "walk_of_number" =true) (k18:PySem.W.keepIn K (.ref f18)=true)
 {f19:Addr} {od19 an19:Option Addr} {sl19:Array (Option Value)} {oc19 kV19 dc19 pm19 cd19 ct19:Value}
 (a19:PySem.W.nsIn K mainGlobals "is_walk" =some (some (.ref f19))) (l19:K.lookup f19=some ⟨oc19,od19,.func (PySem.W.fnOf "is_walk" "is_walk" (jak jcp) (jai jcp) (jaa jcp) .none kV19 dc19 pm19 an19 cd19 ct19),sl19⟩) (c19:PySem.W.codeIn K cd19 "is_walk" =true) (k19:PySem.W.keepIn K (.ref f19)=true)
 {f20:Addr} {od20 an20:Option Addr} {sl20:Array (Option Value)} {oc20 kV20 dc20 pm20 cd20 ct20:Value}
 (a20:PySem.W.nsIn K mainGlobals "worth_of" =some (some (.ref f20))) (l20:K.lookup f20=some ⟨oc20,od20,.func (PySem.W.fnOf "worth_of" "worth_of" (jak jbY) (jai jbY) (jaa jbY) .none kV20 dc20 pm20 an20 cd20 ct20),sl20⟩) (c20:PySem.W.codeIn K cd20 "worth_of" =true) (k20:PySem.W.keepIn K (.ref f20)=true)
 {f21:Addr} {od21 an21:Option Addr} {sl21:Array (Option Value)} {oc21 kV21 dc21 pm21 cd21 ct21:Value}
 (a21:PySem.W.nsIn K mainGlobals "walks_many" =some (some (.ref f21))) (l21:K.lookup f21=some ⟨oc21,od21,.func (PySem.W.fnOf "walks_many" "walks_many" (jak jbk) (jai jbk) (jaa jbk) .none kV21 dc21 pm21 an21 cd21 ct21),sl21⟩) (c21:PySem.W.codeIn K cd21 "walks_many" =true) (k21:PySem.W.keepIn K (.ref f21)=true)
 {f22:Addr} {od22 an22:Option Addr} {sl22:Array (Option Value)} {oc22 kV22 dc22 pm22 cd22 ct22:Value}
 (a22:PySem.W.nsIn K mainGlobals "first_walk" =some (some (.ref f22))) (l22:K.lookup f22=some ⟨oc22,od22,.func (PySem.W.fnOf "first_walk" "first_walk" (jak jbm) (jai jbm) (jaa jbm) .none kV22 dc22 pm22 an22 cd22 ct22),sl22⟩) (c22:PySem.W.codeIn K cd22 "first_walk" =true) (k22:PySem.W.keepIn K (.ref f22)=true)
 {f23:Addr} {od23 an23:Option Addr} {sl23:Array (Option Value)} {oc23 kV23 dc23 pm23 cd23 ct23:Value}
 (a23:PySem.W.nsIn K mainGlobals "nth_walk" =some (some (.ref f23))) (l23:K.lookup f23=some ⟨oc23,od23,.func (PySem.W.fnOf "nth_walk" "nth_walk" (jak jbZ) (jai jbZ) (jaa jbZ) .none kV23 dc23 pm23 an23 cd23 ct23),sl23⟩) (c23:PySem.W.codeIn K cd23 "nth_walk" =true) (k23:PySem.W.keepIn K (.ref f23)=true)
 {f24:Addr} {od24 an24:Option Addr} {sl24:Array (Option Value)} {oc24 kV24 dc24 pm24 cd24 ct24:Value}
 (a24:PySem.W.nsIn K mainGlobals "place_of_walk" =some (some (.ref f24))) (l24:K.lookup f24=some ⟨oc24,od24,.func (PySem.W.fnOf "place_of_walk" "place_of_walk" (jak jaQ) (jai jaQ) (jaa jaQ) .none kV24 dc24 pm24 an24 cd24 ct24),sl24⟩) (c24:PySem.W.codeIn K cd24 "place_of_walk" =true) (k24:PySem.W.keepIn K (.ref f24)=true)
 {f25:Addr} {od25 an25:Option Addr} {sl25:Array (Option Value)} {oc25 kV25 dc25 pm25 cd25 ct25:Value}
 (a25:PySem.W.nsIn K mainGlobals "step_after" =some (some (.ref f25))) (l25:K.lookup f25=some ⟨oc25,od25,.func (PySem.W.fnOf "step_after" "step_after" (jak jbn) (jai jbn) (jaa jbn) .none kV25 dc25 pm25 an25 cd25 ct25),sl25⟩) (c25:PySem.W.codeIn K cd25 "step_after" =true) (k25:PySem.W.keepIn K (.ref f25)=true)
 {f26:Addr} {od26 an26:Option Addr} {sl26:Array (Option Value)} {oc26 kV26 dc26 pm26 cd26 ct26:Value}
 (a26:PySem.W.nsIn K mainGlobals "set_after" =some (some (.ref f26))) (l26:K.lookup f26=some ⟨oc26,od26,.func (PySem.W.fnOf "set_after" "set_after" (jak jbB) (jai jbB) (jaa jbB) .none kV26 dc26 pm26 an26 cd26 ct26),sl26⟩) (c26:PySem.W.codeIn K cd26 "set_after" =true) (k26:PySem.W.keepIn K (.ref f26)=true)
 {f27:Addr} {od27 an27:Option Addr} {sl27:Array (Option Value)} {oc27 kV27 dc27 pm27 cd27 ct27:Value}
 (a27:PySem.W.nsIn K mainGlobals "multiplied" =some (some (.ref f27))) (l27:K.lookup f27=some ⟨oc27,od27,.func (PySem.W.fnOf "multiplied" "multiplied" (jak jbo) (jai jbo) (jaa jbo) .none kV27 dc27 pm27 an27 cd27 ct27),sl27⟩) (c27:PySem.W.codeIn K cd27 "multiplied" =true) (k27:PySem.W.keepIn K (.ref f27)=true)
 {f28:Addr} {od28 an28:Option Addr} {sl28:Array (Option Value)} {oc28 kV28 dc28 pm28 cd28 ct28:Value}
 (a28:PySem.W.nsIn K mainGlobals "power_of_none" =some (some (.ref f28))) (l28:K.lookup f28=some ⟨oc28,od28,.func (PySem.W.fnOf "power_of_none" "power_of_none" (jak jaR) (jai jaR) (jaa jaR) .none kV28 dc28 pm28 an28 cd28 ct28),sl28⟩) (c28:PySem.W.codeIn K cd28 "power_of_none" =true) (k28:PySem.W.keepIn K (.ref f28)=true)
 {f29:Addr} {od29 an29:Option Addr} {sl29:Array (Option Value)} {oc29 kV29 dc29 pm29 cd29 ct29:Value}
 (a29:PySem.W.nsIn K mainGlobals "power" =some (some (.ref f29))) (l29:K.lookup f29=some ⟨oc29,od29,.func (PySem.W.fnOf "power" "power" (jak jd0) (jai jd0) (jaa jd0) .none kV29 dc29 pm29 an29 cd29 ct29),sl29⟩) (c29:PySem.W.codeIn K cd29 "power" =true) (k29:PySem.W.keepIn K (.ref f29)=true)
 {f30:Addr} {od30 an30:Option Addr} {sl30:Array (Option Value)} {oc30 kV30 dc30 pm30 cd30 ct30:Value}
 (a30:PySem.W.nsIn K mainGlobals "marks" =some (some (.ref f30))) (l30:K.lookup f30=some ⟨oc30,od30,.func (PySem.W.fnOf "marks" "marks" (jak jd1) (jai jd1) (jaa jd1) .none kV30 dc30 pm30 an30 cd30 ct30),sl30⟩) (c30:PySem.W.codeIn K cd30 "marks" =true) (k30:PySem.W.keepIn K (.ref f30)=true)
 {f31:Addr} {od31 an31:Option Addr} {sl31:Array (Option Value)} {oc31 kV31 dc31 pm31 cd31 ct31:Value}
 (a31:PySem.W.nsIn K mainGlobals "_law_cell" =some (some (.ref f31))) (l31:K.lookup f31=some ⟨oc31,od31,.func (PySem.W.fnOf "_law_cell" "_law_cell" (jak jbC) (jai jbC) (jaa jbC) .none kV31 dc31 pm31 an31 cd31 ct31),sl31⟩) (c31:PySem.W.codeIn K cd31 "_law_cell" =true) (k31:PySem.W.keepIn K (.ref f31)=true)
 {f32:Addr} {od32 an32:Option Addr} {sl32:Array (Option Value)} {oc32 kV32 dc32 pm32 cd32 ct32:Value}
 (a32:PySem.W.nsIn K mainGlobals "_law_pen" =some (some (.ref f32))) (l32:K.lookup f32=some ⟨oc32,od32,.func (PySem.W.fnOf "_law_pen" "_law_pen" (jak jb0) (jai jb0) (jaa jb0) .none kV32 dc32 pm32 an32 cd32 ct32),sl32⟩) (c32:PySem.W.codeIn K cd32 "_law_pen" =true) (k32:PySem.W.keepIn K (.ref f32)=true)
 {f33:Addr} {od33 an33:Option Addr} {sl33:Array (Option Value)} {oc33 kV33 dc33 pm33 cd33 ct33:Value}
 (a33:PySem.W.nsIn K mainGlobals "_law_draw" =some (some (.ref f33))) (l33:K.lookup f33=some ⟨oc33,od33,.func (PySem.W.fnOf "_law_draw" "_law_draw" (jak jbD) (jai jbD) (jaa jbD) .none kV33 dc33 pm33 an33 cd33 ct33),sl33⟩) (c33:PySem.W.codeIn K cd33 "_law_draw" =true) (k33:PySem.W.keepIn K (.ref f33)=true)
 {f34:Addr} {od34 an34:Option Addr} {sl34:Array (Option Value)} {oc34 kV34 dc34 pm34 cd34 ct34:Value}
 (a34:PySem.W.nsIn K mainGlobals "_law_table" =some (some (.ref f34))) (l34:K.lookup f34=some ⟨oc34,od34,.func (PySem.W.fnOf "_law_table" "_law_table" (jak jbp) (jai jbp) (jaa jbp) .none kV34 dc34 pm34 an34 cd34 ct34),sl34⟩) (c34:PySem.W.codeIn K cd34 "_law_table" =true) (k34:PySem.W.keepIn K (.ref f34)=true)
 {f35:Addr} {od35 an35:Option Addr} {sl35:Array (Option Value)} {oc35 kV35 dc35 pm35 cd35 ct35:Value}
 (a35:PySem.W.nsIn K mainGlobals "_law_pair_right" =some (some (.ref f35))) (l35:K.lookup f35=some ⟨oc35,od35,.func (PySem.W.fnOf "_law_pair_right" "_law_pair_right" (jak jaB) (jai jaB) (jaa jaB) .none kV35 dc35 pm35 an35 cd35 ct35),sl35⟩) (c35:PySem.W.codeIn K cd35 "_law_pair_right" =true) (k35:PySem.W.keepIn K (.ref f35)=true)
 {f36:Addr} {od36 an36:Option Addr} {sl36:Array (Option Value)} {oc36 kV36 dc36 pm36 cd36 ct36:Value}
 (a36:PySem.W.nsIn K mainGlobals "law" =some (some (.ref f36))) (l36:K.lookup f36=some ⟨oc36,od36,.func (PySem.W.fnOf "law" "law" (jak jgj) (jai jgj) (jaa jgj) .none kV36 dc36 pm36 an36 cd36 ct36),sl36⟩) (c36:PySem.W.codeIn K cd36 "law" =true) (k36:PySem.W.keepIn K (.ref f36)=true)
 {tk0:Tok} (v0:PySem.W.nsIn K mainGlobals "MOST_ROWS" =some (some (.int 6 tk0)))
 {tk1:Tok} (v1:PySem.W.nsIn K mainGlobals "MOST_STEPS_walks" =some (some (.int 40 tk1)))
 {tk2:Tok} (v2:PySem.W.nsIn K mainGlobals "MOST_STEPS_afters" =some (some (.int 1000000000 tk2)))
 {tk3:Tok} (v3:PySem.W.nsIn K mainGlobals "MOST_POWER" =some (some (.int 60 tk3)))
 (z0:PySem.W.nsIn K mainGlobals "len" =some none)
 (z1:PySem.W.nsIn K mainGlobals "max" =some none)
 (z2:PySem.W.nsIn K mainGlobals "min" =some none)
 (z3:PySem.W.nsIn K mainGlobals "divmod" =some none)
 (z4:PySem.W.nsIn K mainGlobals "all" =some none)
 (z5:PySem.W.nsIn K mainGlobals "any" =some none)
 (z6:PySem.W.nsIn K mainGlobals "repr" =some none)
 (z7:PySem.W.nsIn K mainGlobals "sum" =some none)
 (z8:PySem.W.nsIn K mainGlobals "sorted" =some none)
 (z9:PySem.W.nsIn K mainGlobals "int" =some none)
 (z10:PySem.W.nsIn K mainGlobals "tuple" =some none)
 (z11:PySem.W.nsIn K mainGlobals "list" =some none)
 (z12:PySem.W.nsIn K mainGlobals "set" =some none)
 (z13:PySem.W.nsIn K mainGlobals "bool" =some none)
 (z14:PySem.W.nsIn K mainGlobals "isinstance" =some none)
 (z15:PySem.W.nsIn K mainGlobals "range" =some none)
 (z16:PySem.W.nsIn K mainGlobals "zip" =some none)
 (z17:PySem.W.nsIn K mainGlobals "enumerate" =some none)
 (z18:PySem.W.nsIn K mainGlobals "reversed" =some none)
 : ∃fd:FuncData,(∀ (s:Shared) (v:Value),BindsTo s fd ⟨[v],[]⟩ [("_law_script",v)])∧ ∀base:Heap,K.In base→base.Ns mainGlobals mg→Bm mg base→FnOk l.prog w K mg base CX0 9 fa fd ["_law_script"] (LSp K jjO):=by
 have e:=hfa.symm.trans (G0w X G a36)
 cases e
 have F0:=jat (st:=jbV) l0 c0 k0
 have b0:=F0.binds (ps:= ["thing"]) fun _ _ _ _ _ _ us hl=>match us,hl with| [_],_=>rfl
 have m0:=G0w X G a0
 have F1:=jat (st:=jby) l1 c1 k1
 have b1:=F1.binds (ps:= ["thing","least","most"]) fun _ _ _ _ _ _ us hl=>match us,hl with| [_,_,_],_=>rfl
 have m1:=G0w X G a1
 have F2:=jat (st:=jbW) l2 c2 k2
 have b2:=F2.binds (ps:= ["thing","size"]) fun _ _ _ _ _ _ us hl=>match us,hl with| [_,_],_=>rfl
 have m2:=G0w X G a2
 have F3:=jat (st:=jbg) l3 c3 k3
 have b3:=F3.binds (ps:= ["thing","size"]) fun _ _ _ _ _ _ us hl=>match us,hl with| [_,_],_=>rfl
 have m3:=G0w X G a3
 have F4:=jat (st:=jdY) l4 c4 k4
 have b4:=F4.binds (ps:= ["row"]) fun _ _ _ _ _ _ us hl=>match us,hl with| [_],_=>rfl
 have m4:=G0w X G a4
 have F5:=jat (st:=jc4) l5 c5 k5
 have b5:=F5.binds (ps:= ["thing","size"]) fun _ _ _ _ _ _ us hl=>match us,hl with| [_,_],_=>rfl
 have m5:=G0w X G a5
 have F6:=jat (st:=jaW) l6 c6 k6
 have b6:=F6.binds (ps:= ["thing","size"]) fun _ _ _ _ _ _ us hl=>match us,hl with| [_,_],_=>rfl
 have m6:=G0w X G a6
 have F7:=jat (st:=jaH) l7 c7 k7
 have b7:=F7.binds (ps:= ["thing"]) fun _ _ _ _ _ _ us hl=>match us,hl with| [_],_=>rfl
 have m7:=G0w X G a7
 have F8:=jat (st:=jbh) l8 c8 k8
 have b8:=F8.binds (ps:= ["thing"]) fun _ _ _ _ _ _ us hl=>match us,hl with| [_],_=>rfl
 have m8:=G0w X G a8
 have F9:=jat (st:=jbi) l9 c9 k9
 have b9:=F9.binds (ps:= ["table","thing"]) fun _ _ _ _ _ _ us hl=>match us,hl with| [_,_],_=>rfl
 have m9:=G0w X G a9
 have F10:=jat (st:=jbX) l10 c10 k10
 have b10:=F10.binds (ps:= ["table","thing"]) fun _ _ _ _ _ _ us hl=>match us,hl with| [_,_],_=>rfl
 have m10:=G0w X G a10
 have F11:=jat (st:=ja6) l11 c11 k11
 have b11:=F11.binds (ps:= ["thing","least","most"]) fun _ _ _ _ _ _ us hl=>match us,hl with| [_,_,_],_=>rfl
 have m11:=G0w X G a11
 have F12:=jat (st:=jdZ) l12 c12 k12
 have b12:=F12.binds (ps:= ["table","place"]) fun _ _ _ _ _ _ us hl=>match us,hl with| [_,_],_=>rfl
 have m12:=G0w X G a12
 have F13:=jat (st:=jaP) l13 c13 k13
 have b13:=F13.binds (ps:= ["table","thing"]) fun _ _ _ _ _ _ us hl=>match us,hl with| [_,_],_=>rfl
 have m13:=G0w X G a13
 have F14:=jat (st:=jbz) l14 c14 k14
 have b14:=F14.binds (ps:= ["table","thing"]) fun _ _ _ _ _ _ us hl=>match us,hl with| [_,_],_=>rfl
 have m14:=G0w X G a14
 have F15:=jat (st:=jas) l15 c15 k15
 have b15:=F15.binds (ps:= ["table","one","other","k"]) fun _ _ _ _ _ _ us hl=>match us,hl with| [_,_,_,_],_=>rfl
 have m15:=G0w X G a15
 have F16:=jat (st:=jbA) l16 c16 k16
 have b16:=F16.binds (ps:= ["table","other","k"]) fun _ _ _ _ _ _ us hl=>match us,hl with| [_,_,_],_=>rfl
 have m16:=G0w X G a16
 have F17:=jat (st:=jbj) l17 c17 k17
 have b17:=F17.binds (ps:= ["table","place","ahead","number"]) fun _ _ _ _ _ _ us hl=>match us,hl with| [_,_,_,_],_=>rfl
 have m17:=G0w X G a17
 have F18:=jat (st:=jaI) l18 c18 k18
 have b18:=F18.binds (ps:= ["table","one","counts","number"]) fun _ _ _ _ _ _ us hl=>match us,hl with| [_,_,_,_],_=>rfl
 have m18:=G0w X G a18
 have F19:=jat (st:=jcp) l19 c19 k19
 have b19:=F19.binds (ps:= ["table","thing"]) fun _ _ _ _ _ _ us hl=>match us,hl with| [_,_],_=>rfl
 have m19:=G0w X G a19
 have F20:=jat (st:=jbY) l20 c20 k20
 have b20:=F20.binds (ps:= ["table","walk"]) fun _ _ _ _ _ _ us hl=>match us,hl with| [_,_],_=>rfl
 have m20:=G0w X G a20
 have F21:=jat (st:=jbk) l21 c21 k21
 have b21:=F21.binds (ps:= ["table","one","other","k"]) fun _ _ _ _ _ _ us hl=>match us,hl with| [_,_,_,_],_=>rfl
 have m21:=G0w X G a21
 have F22:=jat (st:=jbm) l22 c22 k22
 have b22:=F22.binds (ps:= ["table","one","other","k"]) fun _ _ _ _ _ _ us hl=>match us,hl with| [_,_,_,_],_=>rfl
 have m22:=G0w X G a22
 have F23:=jat (st:=jbZ) l23 c23 k23
 have b23:=F23.binds (ps:= ["table","one","other","k","number"]) fun _ _ _ _ _ _ us hl=>match us,hl with| [_,_,_,_,_],_=>rfl
 have m23:=G0w X G a23
 have F24:=jat (st:=jaQ) l24 c24 k24
 have b24:=F24.binds (ps:= ["table","walk"]) fun _ _ _ _ _ _ us hl=>match us,hl with| [_,_],_=>rfl
 have m24:=G0w X G a24
 have F25:=jat (st:=jbn) l25 c25 k25
 have b25:=F25.binds (ps:= ["table","some"]) fun _ _ _ _ _ _ us hl=>match us,hl with| [_,_],_=>rfl
 have m25:=G0w X G a25
 have F26:=jat (st:=jbB) l26 c26 k26
 have b26:=F26.binds (ps:= ["table","some","k"]) fun _ _ _ _ _ _ us hl=>match us,hl with| [_,_,_],_=>rfl
 have m26:=G0w X G a26
 have F27:=jat (st:=jbo) l27 c27 k27
 have b27:=F27.binds (ps:= ["one","other"]) fun _ _ _ _ _ _ us hl=>match us,hl with| [_,_],_=>rfl
 have m27:=G0w X G a27
 have F28:=jat (st:=jaR) l28 c28 k28
 have b28:=F28.binds (ps:= ["size"]) fun _ _ _ _ _ _ us hl=>match us,hl with| [_],_=>rfl
 have m28:=G0w X G a28
 have F29:=jat (st:=jd0) l29 c29 k29
 have b29:=F29.binds (ps:= ["table","k"]) fun _ _ _ _ _ _ us hl=>match us,hl with| [_,_],_=>rfl
 have m29:=G0w X G a29
 have F30:=jat (st:=jd1) l30 c30 k30
 have b30:=F30.binds (ps:= ["table"]) fun _ _ _ _ _ _ us hl=>match us,hl with| [_],_=>rfl
 have m30:=G0w X G a30
 have F31:=jat (st:=jbC) l31 c31 k31
 have b31:=F31.binds (ps:= ["_law_script","_law_k"]) fun _ _ _ _ _ _ us hl=>match us,hl with| [_,_],_=>rfl
 have m31:=G0w X G a31
 have F32:=jat (st:=jb0) l32 c32 k32
 have b32:=F32.binds (ps:= ["_law_cell_here"]) fun _ _ _ _ _ _ us hl=>match us,hl with| [_],_=>rfl
 have m32:=G0w X G a32
 have F33:=jat (st:=jbD) l33 c33 k33
 have b33:=F33.binds (ps:= ["_law_pen_here","_law_many"]) fun _ _ _ _ _ _ us hl=>match us,hl with| [_,_],_=>rfl
 have m33:=G0w X G a33
 have F34:=jat (st:=jbp) l34 c34 k34
 have b34:=F34.binds (ps:= ["_law_pen_here","_law_size"]) fun _ _ _ _ _ _ us hl=>match us,hl with| [_,_],_=>rfl
 have m34:=G0w X G a34
 have F35:=jat (st:=jaB) l35 c35 k35
 have b35:=F35.binds (ps:= ["_law_table_here","_law_one","_law_other","_law_k"]) fun _ _ _ _ _ _ us hl=>match us,hl with| [_,_,_,_],_=>rfl
 have m35:=G0w X G a35
 have F36:=jat (st:=jgj) l36 c36 k36
 have b36:=F36.binds (ps:= ["_law_script"]) fun _ _ _ _ _ _ us hl=>match us,hl with| [_],_=>rfl
 have m36:=G0w X G a36
 have M_MOST_ROWS: ∃tk,mg "MOST_ROWS" =some (.int 6 tk):=⟨_,G0w X G v0⟩
 have M_MOST_STEPS_walks: ∃tk,mg "MOST_STEPS_walks" =some (.int 40 tk):=⟨_,G0w X G v1⟩
 have M_MOST_STEPS_afters: ∃tk,mg "MOST_STEPS_afters" =some (.int 1000000000 tk):=⟨_,G0w X G v2⟩
 have M_MOST_POWER: ∃tk,mg "MOST_POWER" =some (.int 60 tk):=⟨_,G0w X G v3⟩
 have Z:Zs mg:=⟨G0U X G z0,G0U X G z1,G0U X G z2,G0U X G z3,G0U X G z4,G0U X G z5,G0U X G z6,G0U X G z7,G0U X G z8,G0U X G z9,G0U X G z10,G0U X G z11,G0U X G z12,G0U X G z13,G0U X G z14,G0U X G z15,G0U X G z16,G0U X G z17,G0U X G z18⟩
 refine⟨PySem.W.fnOf "law" "law" (jak jgj) (jai jgj) (jaa jgj) .none kV36 dc36 pm36 an36 cd36 ct36,fun s v=> .of_eq rfl,fun base _ _ B=> ?_⟩
 have c_is_whole: ∀n,jaf l.prog w K mg base (n+1) "is_whole" ["thing"] jcv:=fun n=>⟨_,_,jhY (n:=n+0) Z F0,b0,k0,m0⟩
 have c_is_within: ∀n,jaf l.prog w K mg base (n+2) "is_within" ["thing","least","most"] jb9:=fun n=>⟨_,_,jhp (n:=n+1) Z F1 (c_is_whole (n+0)),b1,k1,m1⟩
 have c_is_place: ∀n,jaf l.prog w K mg base (n+3) "is_place" ["thing","size"] jcw:=fun n=>⟨_,_,jhZ (n:=n+2) Z F2 (c_is_within (n+0)),b2,k2,m2⟩
 have c_are_places: ∀n,jaf l.prog w K mg base (n+4) "are_places" ["thing","size"] jbR:=fun n=>⟨_,_,jgl (n:=n+3) Z F3 (c_is_place (n+0)),b3,k3,m3⟩
 have c_rises: ∀n,jaf l.prog w K mg base (n+1) "rises" ["row"] jgm:=fun n=>⟨_,_,jl3 (n:=n+0) Z F4,b4,k4,m4⟩
 have c_is_set: ∀n,jaf l.prog w K mg base (n+5) "is_set" ["thing","size"] jeU:=fun n=>⟨_,_,jkP (n:=n+4) Z F5 (c_rises (n+3)) (c_are_places (n+0)),b5,k5,m5⟩
 have c_is_table_row: ∀n,jaf l.prog w K mg base (n+2) "is_table_row" ["thing","size"] jb5:=fun n=>⟨_,_,jeV (n:=n+1) Z F6 (c_is_whole (n+0)),b6,k6,m6⟩
 have c_has_table_form: ∀n,jaf l.prog w K mg base (n+3) "has_table_form" ["thing"] jbE:=fun n=>⟨_,_,jd2 (n:=n+2) Z F7 (c_is_table_row (n+0)) M_MOST_ROWS,b7,k7,m7⟩
 have c_want_table: ∀n,jaf l.prog w K mg base (n+4) "want_table" ["thing"] jaz:=fun n=>⟨_,_,jgn (n:=n+3) Z F8 (c_has_table_form (n+0)),b8,k8,m8⟩
 have c_want_place: ∀n,jaf l.prog w K mg base (n+4) "want_place" ["table","thing"] jcx:=fun n=>⟨_,_,jgo (n:=n+3) Z F9 (c_is_place (n+0)),b9,k9,m9⟩
 have c_want_set: ∀n,jaf l.prog w K mg base (n+6) "want_set" ["table","thing"] jds:=fun n=>⟨_,_,jh0 (n:=n+5) Z F10 (c_is_set (n+0)),b10,k10,m10⟩
 have c_want_number: ∀n,jaf l.prog w K mg base (n+3) "want_number" ["thing","least","most"] jaX:=fun n=>⟨_,_,je8 (n:=n+2) Z F11 (c_is_within (n+0)),b11,k11,m11⟩
 have c_heads: ∀n,jaf l.prog w K mg base (n+1) "heads" ["table","place"] jdL:=fun n=>⟨_,_,jl5 (n:=n+0) Z F12,b12,k12,m12⟩
 have c_has_walk_form: ∀n,jaf l.prog w K mg base (n+5) "has_walk_form" ["table","thing"] jay:=fun n=>⟨_,_,jee (n:=n+4) Z F13 (c_are_places (n+0)),b13,k13,m13⟩
 have c_want_walk: ∀n,jaf l.prog w K mg base (n+6) "want_walk" ["table","thing"] jca:=fun n=>⟨_,_,jhq (n:=n+5) Z F14 (c_has_walk_form (n+0)),b14,k14,m14⟩
 have c_want_ends_and_steps: ∀n,jaf l.prog w K mg base (n+5) "want_ends_and_steps" ["table","one","other","k"] jau:=fun n=>⟨_,_,jcL (n:=n+4) Z F15 (c_want_table (n+0)) (c_want_place (n+0)) (c_want_number (n+1)) M_MOST_STEPS_walks,b15,k15,m15⟩
 have c_counts_to: ∀n,jaf l.prog w K mg base (n+2) "counts_to" ["table","other","k"] jbq:=fun n=>⟨_,_,jhr (n:=n+1) Z F16 (c_heads (n+0)),b16,k16,m16⟩
 have c_next_place: ∀n,jaf l.prog w K mg base (n+2) "next_place" ["table","place","ahead","number"] jcy:=fun n=>⟨_,_,jgp (n:=n+1) Z F17 (c_heads (n+0)),b17,k17,m17⟩
 have c_walk_of_number: ∀n,jaf l.prog w K mg base (n+3) "walk_of_number" ["table","one","counts","number"] ja7:=fun n=>⟨_,_,jd3 (n:=n+2) Z F18 (c_next_place (n+0)),b18,k18,m18⟩
 have c_is_walk: ∀n,jaf l.prog w K mg base (n+6) "is_walk" ["table","thing"] jay:=fun n=>⟨_,_,jjf (n:=n+5) Z F19 (c_want_table (n+1)) (c_has_walk_form (n+0)),b19,k19,m19⟩
 have c_worth_of: ∀n,jaf l.prog w K mg base (n+7) "worth_of" ["table","walk"] jdt:=fun n=>⟨_,_,jh2 (n:=n+6) Z F20 (c_want_table (n+2)) (c_want_walk (n+0)),b20,k20,m20⟩
 have c_walks_many: ∀n,jaf l.prog w K mg base (n+6) "walks_many" ["table","one","other","k"] jcz:=fun n=>⟨_,_,jgq (n:=n+5) Z F21 (c_want_ends_and_steps (n+0)) (c_counts_to (n+3)),b21,k21,m21⟩
 have c_first_walk: ∀n,jaf l.prog w K mg base (n+6) "first_walk" ["table","one","other","k"] jcA:=fun n=>⟨_,_,jgr (n:=n+5) Z F22 (c_want_ends_and_steps (n+0)) (c_counts_to (n+3)) (c_walk_of_number (n+2)),b22,k22,m22⟩
 have c_nth_walk: ∀n,jaf l.prog w K mg base (n+6) "nth_walk" ["table","one","other","k","number"] jdu:=fun n=>⟨_,_,jh3 (n:=n+5) Z F23 (c_want_ends_and_steps (n+0)) (c_counts_to (n+3)) (c_want_number (n+2)) (c_walk_of_number (n+2)),b23,k23,m23⟩
 have c_place_of_walk: ∀n,jaf l.prog w K mg base (n+7) "place_of_walk" ["table","walk"] jbL:=fun n=>⟨_,_,jef (n:=n+6) Z F24 (c_want_table (n+2)) (c_want_walk (n+0)) (c_counts_to (n+4)) (c_heads (n+5)) M_MOST_STEPS_walks,b24,k24,m24⟩
 have c_step_after: ∀n,jaf l.prog w K mg base (n+1) "step_after" ["table","some"] jcB:=fun n=>⟨_,_,jgs (n:=n+0) Z F25,b25,k25,m25⟩
 have c_set_after: ∀n,jaf l.prog w K mg base (n+7) "set_after" ["table","some","k"] jcW:=fun n=>⟨_,_,jhs (n:=n+6) Z F26 (c_want_table (n+2)) (c_want_set (n+0)) (c_want_number (n+3)) (c_step_after (n+5)) M_MOST_STEPS_afters,b26,k26,m26⟩
 have c_multiplied: ∀n,jaf l.prog w K mg base (n+1) "multiplied" ["one","other"] jcC:=fun n=>⟨_,_,jgt (n:=n+0) Z F27,b27,k27,m27⟩
 have c_power_of_none: ∀n,jaf l.prog w K mg base (n+1) "power_of_none" ["size"] jbM:=fun n=>⟨_,_,jeg (n:=n+0) Z F28,b28,k28,m28⟩
 have c_power: ∀n,jaf l.prog w K mg base (n+5) "power" ["table","k"] jgu:=fun n=>⟨_,_,jl6 (n:=n+4) Z F29 (c_want_table (n+0)) (c_want_number (n+1)) (c_power_of_none (n+3)) (c_multiplied (n+3)) M_MOST_POWER,b29,k29,m29⟩
 have c_marks: ∀n,jaf l.prog w K mg base (n+5) "marks" ["table"] jgv:=fun n=>⟨_,_,jl7 (n:=n+4) Z F30 (c_want_table (n+0)),b30,k30,m30⟩
 have c__law_cell: ∀n,jaf l.prog w K mg base (n+1) "_law_cell" ["_law_script","_law_k"] jcX:=fun n=>⟨_,_,jht (n:=n+0) Z F31,b31,k31,m31⟩
 have c__law_pen: ∀n,jaf l.prog w K mg base (n+1) "_law_pen" ["_law_cell_here"] jdv:=fun n=>⟨_,_,jh4 (n:=n+0) Z F32,b32,k32,m32⟩
 have c__law_draw: ∀n,jaf l.prog w K mg base (n+1) "_law_draw" ["_law_pen_here","_law_many"] jcb:=fun n=>⟨_,_,jhu (n:=n+0) Z F33,b33,k33,m33⟩
 have c__law_table: ∀n,jaf l.prog w K mg base (n+2) "_law_table" ["_law_pen_here","_law_size"] jcD:=fun n=>⟨_,_,jgw (n:=n+1) Z F34 (c__law_draw (n+0)),b34,k34,m34⟩
 have c__law_pair_right: ∀n,jaf l.prog w K mg base (n+8) "_law_pair_right" ["_law_table_here","_law_one","_law_other","_law_k"] jbw:=fun n=>⟨_,_,jdM (n:=n+7) Z F35 (c_walks_many (n+1)) (c_set_after (n+0)) (c_power (n+2)) (c_marks (n+2)) (c_nth_walk (n+1)) (c_is_walk (n+1)) (c_first_walk (n+1)) (c_place_of_walk (n+0)) (c_worth_of (n+0)),b35,k35,m35⟩
 exact jqd (n:=8) Z F36 (c__law_cell 7) (c__law_pen 7) (c__law_draw 7) (c__law_table 6) (c__law_pair_right 0)
end My
def PySem.W.Fast.tw3919231996889382583 : Unit := ()
def PySem.W.Fast.tw12637571977928709720 : Unit := ()
def PySem.W.Fast.tw16571022543571174237 : Unit := ()
def PySem.W.Fast.tw2287607388820284608 : Unit := ()
def PySem.W.Fast.tw18304318756402816467 : Unit := ()
def PySem.W.Fast.tw13677723568760023212 : Unit := ()
def PySem.W.Fast.tw2430146190466030680 : Unit := ()
def PySem.W.Fast.tw13364974081906044458 : Unit := ()
def PySem.W.Fast.tw12939450466744688282 : Unit := ()
def PySem.W.Fast.tw392750972503262889 : Unit := ()
def PySem.W.Fast.tw15280738766812920698 : Unit := ()
def PySem.W.Fast.tw12508137816852683389 : Unit := ()
def PySem.W.Fast.tw7429384860129181476 : Unit := ()
def PySem.W.Fast.tw8923186863322645688 : Unit := ()
def PySem.W.Fast.tw5873930895149877021 : Unit := ()
def PySem.W.Fast.tw6706074312484456378 : Unit := ()
def PySem.W.Fast.tw11943558663427530572 : Unit := ()
def PySem.W.Fast.tw15657081093915289216 : Unit := ()
def PySem.W.Fast.tw2244139562802054711 : Unit := ()
def PySem.W.Fast.tw13502955598104312402 : Unit := ()
def PySem.W.Fast.tw14956436286232562660 : Unit := ()
def PySem.W.Fast.tw8688761252884848973 : Unit := ()
def PySem.W.Fast.tw17545194666840324565 : Unit := ()
def PySem.W.Fast.tw3618874084463935951 : Unit := ()
def PySem.W.Fast.tw10515608806737961101 : Unit := ()
def PySem.W.Fast.tw17366440731626208861 : Unit := ()
def PySem.W.Fast.tw14197801005676205386 : Unit := ()
def PySem.W.Fast.tw9055992243597963804 : Unit := ()
def PySem.W.Fast.tw7619922074263995806 : Unit := ()
def PySem.W.Fast.tw11977015459112909600 : Unit := ()
def PySem.W.Fast.tw8357090222206043830 : Unit := ()
def PySem.W.Fast.tw12886315161906518071 : Unit := ()
def PySem.W.Fast.tw2064435383478389615 : Unit := ()
def PySem.W.Fast.tw4876148579336306656 : Unit := ()
def PySem.W.Fast.tw10307232953094357814 : Unit := ()
def PySem.W.Fast.tw4994337641184474418 : Unit := ()
def PySem.W.Fast.tw6278523326119115967 : Unit := ()
def PySem.W.Fast.tw16886664852534410440 : Unit := ()
def PySem.W.Fast.tw7082122114152728458 : Unit := ()
def PySem.W.Fast.tw15912717274335009968 : Unit := ()
def PySem.W.Fast.tw6722286953562439275 : Unit := ()
def PySem.W.Fast.tw12247957777421983065 : Unit := ()
def PySem.W.Fast.tw11604892391268595211 : Unit := ()
def PySem.W.Fast.tw7178394451094790903 : Unit := ()
def PySem.W.Fast.tw14619263119078313533 : Unit := ()
def PySem.W.Fast.tw785269665724386731 : Unit := ()
def PySem.W.Fast.tw5977819837648187570 : Unit := ()
def PySem.W.Fast.tw8338266855202633430 : Unit := ()
def PySem.W.Fast.tw16174220543965891059 : Unit := ()
def PySem.W.Fast.tw12690274106488743043 : Unit := ()
def PySem.W.Fast.tw9075585037358801409 : Unit := ()
def PySem.W.Fast.tw984079222641107296 : Unit := ()
def PySem.W.Fast.tw9584644230727220807 : Unit := ()
def PySem.W.Fast.tw6065250340315515431 : Unit := ()
def PySem.W.Fast.tw10799947080707987622 : Unit := ()
def PySem.W.Fast.tw3263066568300311 : Unit := ()
def PySem.W.Fast.tw862567508448967545 : Unit := ()
def PySem.W.Fast.tw7509024871221498542 : Unit := ()
def PySem.W.Fast.tw1292496503752300861 : Unit := ()
def PySem.W.Fast.tw6921202390979395114 : Unit := ()
def PySem.W.Fast.tw6041051504927464893 : Unit := ()
def PySem.W.Fast.tw3885568922302126139 : Unit := ()
def PySem.W.Fast.tw8919571000093109559 : Unit := ()
def PySem.W.Fast.tw9524318766189074225 : Unit := ()
def PySem.W.Fast.tw6976511410649765617 : Unit := ()
def PySem.W.Fast.tw7492779308433449811 : Unit := ()
def PySem.W.Fast.tw12417184598603731957 : Unit := ()
def PySem.W.Fast.tw15315254435411770724 : Unit := ()
def PySem.W.Fast.tw1687723368642994881 : Unit := ()
def PySem.W.Fast.tw12439740801130603055 : Unit := ()
def PySem.W.Fast.tw13546014251753059133 : Unit := ()
def PySem.W.Fast.tw9183354866880285065 : Unit := ()
def PySem.W.Fast.tw16748360501229820344 : Unit := ()
def PySem.W.Fast.tw8773811538164819314 : Unit := ()
def PySem.W.Fast.tw1983124993374995046 : Unit := ()
def PySem.W.Fast.tw979637660671948232 : Unit := ()
def PySem.W.Fast.tw5293894312221610600 : Unit := ()
def PySem.W.Fast.tw8904206826814872597 : Unit := ()
def PySem.W.Fast.tw4921622667415237476 : Unit := ()
def PySem.W.Fast.tw10517613535501186723 : Unit := ()
def PySem.W.Fast.tw9327944661934501457 : Unit := ()
def PySem.W.Fast.tw640758174382137137 : Unit := ()
def PySem.W.Fast.tw15540692631830115900 : Unit := ()
def PySem.W.Fast.tw7676827162124737989 : Unit := ()
def PySem.W.Fast.tw12347923530227918455 : Unit := ()
def PySem.W.Fast.tw8941141022721720943 : Unit := ()
def PySem.W.Fast.tw9370248872778294465 : Unit := ()
def PySem.W.Fast.tw1141987913816041080 : Unit := ()
def PySem.W.Fast.tw4166705545308790895 : Unit := ()
def PySem.W.Fast.tw9137375980913364845 : Unit := ()
def PySem.W.Fast.tw6032250703354091005 : Unit := ()
def PySem.W.Fast.tw9864881857413704711 : Unit := ()
def PySem.W.Fast.tw270485292830485131 : Unit := ()
def PySem.W.Fast.tw1328863745706629106 : Unit := ()
def PySem.W.Fast.tw12241677253283726783 : Unit := ()
def PySem.W.Fast.tw5052738291902786603 : Unit := ()
def PySem.W.Fast.tw13363561431986018896 : Unit := ()
def PySem.W.Fast.tw13702045365383528282 : Unit := ()
def PySem.W.Fast.tw14900846119487877636 : Unit := ()
def PySem.W.Fast.tw15682997016690877681 : Unit := ()
def PySem.W.Fast.tw7426481173132454947 : Unit := ()
def PySem.W.Fast.tw2376052356652045742 : Unit := ()
def PySem.W.Fast.tw1038787946305787487 : Unit := ()
def PySem.W.Fast.tw1279358286944461734 : Unit := ()
def PySem.W.Fast.tw16906535361835215111 : Unit := ()
def PySem.W.Fast.tw5525691090526481226 : Unit := ()
def PySem.W.Fast.tw7072231954216301196 : Unit := ()
def PySem.W.Fast.tw7285767981491232596 : Unit := ()
def PySem.W.Fast.tw2110986109569838339 : Unit := ()
def PySem.W.Fast.tw1945789844878959229 : Unit := ()
def PySem.W.Fast.tw13712916150428421096 : Unit := ()
def PySem.W.Fast.tw15902304011853289933 : Unit := ()
def PySem.W.Fast.tw17318784308319553825 : Unit := ()
def PySem.W.Fast.tw4998915882562217125 : Unit := ()
def PySem.W.Fast.tw15446432112073997940 : Unit := ()
def PySem.W.Fast.tw739521205100748662 : Unit := ()
def PySem.W.Fast.tw10347045127346752485 : Unit := ()
def PySem.W.Fast.tw9937787999274236733 : Unit := ()
def PySem.W.Fast.tw390174991380114556 : Unit := ()
def PySem.W.Fast.tw77854599175637352 : Unit := ()
def PySem.W.Fast.tw2261835681087125248 : Unit := ()
def PySem.W.Fast.tw6184082332299014987 : Unit := ()
def PySem.W.Fast.tw15093130680650623089 : Unit := ()
def PySem.W.Fast.tw2597617084007845426 : Unit := ()
def PySem.W.Fast.tw10340972303489176840 : Unit := ()
def PySem.W.Fast.tw2269150349179684545 : Unit := ()
def PySem.W.Fast.tw10366047864011195346 : Unit := ()
def PySem.W.Fast.tw15250756349571430097 : Unit := ()
def PySem.W.Fast.tw12101570211838627650 : Unit := ()
def PySem.W.Fast.tw831174236513121599 : Unit := ()
def PySem.W.Fast.tw7452225819948024082 : Unit := ()
def PySem.W.Fast.tw8747057311044415769 : Unit := ()
def PySem.W.Fast.tw9874833380243575223 : Unit := ()
def PySem.W.Fast.tw4466876111431151724 : Unit := ()
def PySem.W.Fast.tw7100234991779920669 : Unit := ()
def PySem.W.Fast.tw2175038433974671209 : Unit := ()
def PySem.W.Fast.tw15484239060826339537 : Unit := ()
def PySem.W.Fast.tw5453914251808587836 : Unit := ()
def PySem.W.Fast.tw1548659374372486759 : Unit := ()
def PySem.W.Fast.tw11849969688740958329 : Unit := ()
def PySem.W.Fast.tw18072396932547571763 : Unit := ()
def PySem.W.Fast.tw10927643132392920035 : Unit := ()
def PySem.W.Fast.tw5645711835239938540 : Unit := ()
def PySem.W.Fast.tw8199522260075143201 : Unit := ()
def PySem.W.Fast.tw9907786161845200568 : Unit := ()
def PySem.W.Fast.tw14947282881541980773 : Unit := ()
def PySem.W.Fast.tw7159031837030470288 : Unit := ()
def PySem.W.Fast.tw18329490813784298968 : Unit := ()
def PySem.W.Fast.tw1140579991971314109 : Unit := ()
def PySem.W.Fast.tw18244615271456041813 : Unit := ()
def PySem.W.Fast.tw11838002539609578118 : Unit := ()
def PySem.W.Fast.tw12725024038650566999 : Unit := ()
def PySem.W.Fast.tw6123384607726351488 : Unit := ()
def PySem.W.Fast.tw3710963231590165460 : Unit := ()
def PySem.W.Fast.tw637475967103773218 : Unit := ()
def PySem.W.Fast.tw862061691621350243 : Unit := ()
def PySem.W.Fast.tw1660890345869052453 : Unit := ()
def PySem.W.Fast.tw11287354454087865295 : Unit := ()
def PySem.W.Fast.tw1617574117693364882 : Unit := ()
def PySem.W.Fast.tw4589414303728925590 : Unit := ()
def PySem.W.Fast.tw8417128786499065987 : Unit := ()
def PySem.W.Fast.tw6775147395766669361 : Unit := ()
def PySem.W.Fast.tw3449696278055501126 : Unit := ()
def PySem.W.Fast.tw2506891532168093346 : Unit := ()
def PySem.W.Fast.tw2241600262508160440 : Unit := ()
def PySem.W.Fast.tw195661898692227982 : Unit := ()
def PySem.W.Fast.tw14275391984923939673 : Unit := ()
def PySem.W.Fast.tw14464558532258852800 : Unit := ()
def PySem.W.Fast.tw18058131341134044495 : Unit := ()
def PySem.W.Fast.tw9836350141427306691 : Unit := ()
def PySem.W.Fast.tw8210352567440408439 : Unit := ()
def PySem.W.Fast.tw11562233926216528590 : Unit := ()
def PySem.W.Fast.tw7229551449909260770 : Unit := ()
def PySem.W.Fast.tw11086633472023438860 : Unit := ()
def PySem.W.Fast.tw4158583466792248503 : Unit := ()
def PySem.W.Fast.tw9098823994039974748 : Unit := ()
def PySem.W.Fast.tw17789570216588390227 : Unit := ()
def PySem.W.Fast.tw7923933554850857042 : Unit := ()
def PySem.W.Fast.tw3454523364108855101 : Unit := ()
def PySem.W.Fast.tw18416547507135928847 : Unit := ()
def PySem.W.Fast.tw16049868362263843850 : Unit := ()
def PySem.W.Fast.tw15195306104085322620 : Unit := ()
def PySem.W.Fast.tw9332950971226733324 : Unit := ()
def PySem.W.Fast.tw1180248942114208732 : Unit := ()
def PySem.W.Fast.tw15172830106981319391 : Unit := ()
def PySem.W.Fast.tw14455108525769798732 : Unit := ()
def PySem.W.Fast.tw9428585918664095067 : Unit := ()
def PySem.W.Fast.tw16731961793504504883 : Unit := ()
def PySem.W.Fast.tw4696066305302756547 : Unit := ()
def PySem.W.Fast.tw7740776329595935491 : Unit := ()
def PySem.W.Fast.tw16612650015378393772 : Unit := ()
def PySem.W.Fast.tw6367271913241937828 : Unit := ()
def PySem.W.Fast.tw14908846176565571255 : Unit := ()
def PySem.W.Fast.tw13425072633208436594 : Unit := ()
def PySem.W.Fast.tw2193573328996609849 : Unit := ()
def PySem.W.Fast.tw4869852557326408331 : Unit := ()
def PySem.W.Fast.tw9045526295072130860 : Unit := ()
def PySem.W.Fast.tw1542307882898650274 : Unit := ()
def PySem.W.Fast.tw17405384901791219808 : Unit := ()
def PySem.W.Fast.tw4371663897315607857 : Unit := ()
def PySem.W.Fast.tw1565037551600495227 : Unit := ()
def PySem.W.Fast.tw1931683308101803161 : Unit := ()
def PySem.W.Fast.tw3405721903576886522 : Unit := ()
def PySem.W.Fast.tw12208348776323251632 : Unit := ()
open PySem PySem.W PyProof.Rows
set_option maxRecDepth 100000 in
set_option maxHeartbeats 0 in
theorem PySem.Challenge.cw_firstpowers_k15_whole_walks_and_powers_holds : PySem.Challenge.rw_firstpowers_k15_whole_walks_and_powers.Holds := by
  w_on; o_law; k_head; (case hw => w_witness2)
  k_fill
  refine L2.jlh (l := PySem.Challenge.rw_firstpowers_k15_whole_walks_and_powers) (k := 9) (x := "_law_script") rfl rfl ⟨rfl, by decide, by decide, rfl⟩ (fun w h Y => PySem.W.kIn_of Y) ?B ?F
  case B => intro w; kernel_rfl
  case F =>
    intro w mg fa h KX G hmg
    refine' My.jqe KX G hmg ?a0 ?l0 ?c0 ?k0 ?a1 ?l1 ?c1 ?k1 ?a2 ?l2 ?c2 ?k2 ?a3 ?l3 ?c3 ?k3 ?a4 ?l4 ?c4 ?k4 ?a5 ?l5 ?c5 ?k5 ?a6 ?l6 ?c6 ?k6 ?a7 ?l7 ?c7 ?k7 ?a8 ?l8 ?c8 ?k8 ?a9 ?l9 ?c9 ?k9 ?a10 ?l10 ?c10 ?k10 ?a11 ?l11 ?c11 ?k11 ?a12 ?l12 ?c12 ?k12 ?a13 ?l13 ?c13 ?k13 ?a14 ?l14 ?c14 ?k14 ?a15 ?l15 ?c15 ?k15 ?a16 ?l16 ?c16 ?k16 ?a17 ?l17 ?c17 ?k17 ?a18 ?l18 ?c18 ?k18 ?a19 ?l19 ?c19 ?k19 ?a20 ?l20 ?c20 ?k20 ?a21 ?l21 ?c21 ?k21 ?a22 ?l22 ?c22 ?k22 ?a23 ?l23 ?c23 ?k23 ?a24 ?l24 ?c24 ?k24 ?a25 ?l25 ?c25 ?k25 ?a26 ?l26 ?c26 ?k26 ?a27 ?l27 ?c27 ?k27 ?a28 ?l28 ?c28 ?k28 ?a29 ?l29 ?c29 ?k29 ?a30 ?l30 ?c30 ?k30 ?a31 ?l31 ?c31 ?k31 ?a32 ?l32 ?c32 ?k32 ?a33 ?l33 ?c33 ?k33 ?a34 ?l34 ?c34 ?k34 ?a35 ?l35 ?c35 ?k35 ?a36 ?l36 ?c36 ?k36 ?v0 ?v1 ?v2 ?v3 ?z0 ?z1 ?z2 ?z3 ?z4 ?z5 ?z6 ?z7 ?z8 ?z9 ?z10 ?z11 ?z12 ?z13 ?z14 ?z15 ?z16 ?z17 ?z18
    (case a0 => k_is)
    (case l0 => k_is)
    (case c0 => k_is)
    (case k0 => k_is)
    (case a1 => k_is)
    (case l1 => k_is)
    (case c1 => k_is)
    (case k1 => k_is)
    (case a2 => k_is)
    (case l2 => k_is)
    (case c2 => k_is)
    (case k2 => k_is)
    (case a3 => k_is)
    (case l3 => k_is)
    (case c3 => k_is)
    (case k3 => k_is)
    (case a4 => k_is)
    (case l4 => k_is)
    (case c4 => k_is)
    (case k4 => k_is)
    (case a5 => k_is)
    (case l5 => k_is)
    (case c5 => k_is)
    (case k5 => k_is)
    (case a6 => k_is)
    (case l6 => k_is)
    (case c6 => k_is)
    (case k6 => k_is)
    (case a7 => k_is)
    (case l7 => k_is)
    (case c7 => k_is)
    (case k7 => k_is)
    (case a8 => k_is)
    (case l8 => k_is)
    (case c8 => k_is)
    (case k8 => k_is)
    (case a9 => k_is)
    (case l9 => k_is)
    (case c9 => k_is)
    (case k9 => k_is)
    (case a10 => k_is)
    (case l10 => k_is)
    (case c10 => k_is)
    (case k10 => k_is)
    (case a11 => k_is)
    (case l11 => k_is)
    (case c11 => k_is)
    (case k11 => k_is)
    (case a12 => k_is)
    (case l12 => k_is)
    (case c12 => k_is)
    (case k12 => k_is)
    (case a13 => k_is)
    (case l13 => k_is)
    (case c13 => k_is)
    (case k13 => k_is)
    (case a14 => k_is)
    (case l14 => k_is)
    (case c14 => k_is)
    (case k14 => k_is)
    (case a15 => k_is)
    (case l15 => k_is)
    (case c15 => k_is)
    (case k15 => k_is)
    (case a16 => k_is)
    (case l16 => k_is)
    (case c16 => k_is)
    (case k16 => k_is)
    (case a17 => k_is)
    (case l17 => k_is)
    (case c17 => k_is)
    (case k17 => k_is)
    (case a18 => k_is)
    (case l18 => k_is)
    (case c18 => k_is)
    (case k18 => k_is)
    (case a19 => k_is)
    (case l19 => k_is)
    (case c19 => k_is)
    (case k19 => k_is)
    (case a20 => k_is)
    (case l20 => k_is)
    (case c20 => k_is)
    (case k20 => k_is)
    (case a21 => k_is)
    (case l21 => k_is)
    (case c21 => k_is)
    (case k21 => k_is)
    (case a22 => k_is)
    (case l22 => k_is)
    (case c22 => k_is)
    (case k22 => k_is)
    (case a23 => k_is)
    (case l23 => k_is)
    (case c23 => k_is)
    (case k23 => k_is)
    (case a24 => k_is)
    (case l24 => k_is)
    (case c24 => k_is)
    (case k24 => k_is)
    (case a25 => k_is)
    (case l25 => k_is)
    (case c25 => k_is)
    (case k25 => k_is)
    (case a26 => k_is)
    (case l26 => k_is)
    (case c26 => k_is)
    (case k26 => k_is)
    (case a27 => k_is)
    (case l27 => k_is)
    (case c27 => k_is)
    (case k27 => k_is)
    (case a28 => k_is)
    (case l28 => k_is)
    (case c28 => k_is)
    (case k28 => k_is)
    (case a29 => k_is)
    (case l29 => k_is)
    (case c29 => k_is)
    (case k29 => k_is)
    (case a30 => k_is)
    (case l30 => k_is)
    (case c30 => k_is)
    (case k30 => k_is)
    (case a31 => k_is)
    (case l31 => k_is)
    (case c31 => k_is)
    (case k31 => k_is)
    (case a32 => k_is)
    (case l32 => k_is)
    (case c32 => k_is)
    (case k32 => k_is)
    (case a33 => k_is)
    (case l33 => k_is)
    (case c33 => k_is)
    (case k33 => k_is)
    (case a34 => k_is)
    (case l34 => k_is)
    (case c34 => k_is)
    (case k34 => k_is)
    (case a35 => k_is)
    (case l35 => k_is)
    (case c35 => k_is)
    (case k35 => k_is)
    (case a36 => k_is)
    (case l36 => k_is)
    (case c36 => k_is)
    (case k36 => k_is)
    (case v0 => k_is)
    (case v1 => k_is)
    (case v2 => k_is)
    (case v3 => k_is)
    (case z0 => k_is)
    (case z1 => k_is)
    (case z2 => k_is)
    (case z3 => k_is)
    (case z4 => k_is)
    (case z5 => k_is)
    (case z6 => k_is)
    (case z7 => k_is)
    (case z8 => k_is)
    (case z9 => k_is)
    (case z10 => k_is)
    (case z11 => k_is)
    (case z12 => k_is)
    (case z13 => k_is)
    (case z14 => k_is)
    (case z15 => k_is)
    (case z16 => k_is)
    (case z17 => k_is)
    (case z18 => k_is)
