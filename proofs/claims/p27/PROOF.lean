import PyProof.Rows.All
import Wide.All
import OpenK.AllK
import Wide.FinOn
import Lean
import PyProof.EqAt
import PyProof.EqKinds
import PyProof.TupleCall
import PyProof.Rows.TopTwo
import KE.KIsAll
import PyProof.ExcAttrAll.ValueError
import KE.KTryMore
import KE.KRevIter
import PyProof.SetRoads
import PySem.Challenge.RW_firstpowers_k27_the_beat
set_option Elab.async false
set_option linter.all false
set_option maxRecDepth 100000
abbrev G0a:= @List.length_map
abbrev G0b:= @PySem.Heap.get?_push_of_some
abbrev G0c:= @List.getElem?_eq_getElem
abbrev G0d:= @List.length_append
abbrev G0e:= @PySem.wpAny_pure
abbrev G0f:= @Nat.le_refl
abbrev G0g:= @List.mem_singleton
abbrev G0h:= @List.length_cons
abbrev G0i:= @List.mem_of_getElem?
abbrev G0j:= @List.append_assoc
abbrev G0k:= @List.getElem?_eq_some_iff
abbrev G0l:= @PySem.Heap.lt_size
abbrev G0m:= @Array.length_toList
abbrev G0n:= @List.mem_cons
abbrev G0o:= @List.getElem?_map
abbrev G0p:= @List.getElem?_cons_succ
abbrev G0q:= @Bool.false_ne_true
abbrev G0r:= @List.getElem?_cons_zero
abbrev G0s:= @List.getElem?_append_right
abbrev G0t:= @List.mem_cons_self
abbrev G0u:= @List.mem_append
abbrev G0v:= @List.mem_append_right
abbrev G0w:= @List.size_toArray
abbrev G0x:= @PySem.Heap.get?_push_size
abbrev G0y:= @List.mem_cons_of_mem
abbrev G0z:= @List.mem_range
abbrev G0A:= @List.length_nil
abbrev G0B:= @List.length_take
abbrev G0C:= @Nat.le_trans
abbrev G0D:= @Nat.lt_of_lt_of_le
abbrev G0E:= @Option.some.injEq
abbrev G0F:= @List.take_of_length_le
abbrev G0G:= @List.map_cons
abbrev G0H:= @PySem.wpAny_mono
abbrev G0I:= @decide_eq_true
abbrev G0J:= @Nat.ne_of_lt
abbrev G0K:= @Array.getElem?_toList
abbrev G0L:= @List.length_range
abbrev G0M:= @List.getD_eq_getElem?_getD
abbrev G0N:= @List.mem_map
abbrev G0O:= @List.take_append_drop
abbrev G0P:= @decide_eq_false
abbrev G0Q:= @List.nil_append
abbrev G0R:= @List.getElem?_append_left
abbrev G0S:= @List.map_append
abbrev G0T:= @Nat.le_of_lt
abbrev G0U:= @PySem.W.mg_of
abbrev G0V:= @List.pairwise_append
abbrev G0W:= @Nat.lt_irrefl
abbrev G0X:= @List.length_drop
abbrev G0Y:= @PySem.W.mg_none_of
abbrev G0Z:= @Bool.and_eq_true
abbrev G00:= @List.cons_append
abbrev G01:= @List.mem_of_mem_take
abbrev G02:= @PySem.Heap.get?_update_self
abbrev G03:= @List.set_cons_succ
abbrev G04:= @List.set_cons_zero
abbrev G05:= @List.not_mem_nil
abbrev G06:= @Nat.zero_le
abbrev G07:= @Array.toList_append
abbrev G08:= @PySem.Heap.SameBut.update
abbrev G09:= @List.pairwise_singleton
abbrev G1a:= @List.length_reverse
abbrev G1b:= @decide_eq_true_iff
abbrev G1c:= @PySem.PassesOwn.never
abbrev G1d:= @List.map_map
abbrev G1e:= @List.mem_filter
abbrev G1f:= @List.all_eq_true
abbrev G1g:= @PySem.wpAny_holding
abbrev G1h:= @exists_eq_left'
abbrev G1i:= @List.getElem_mem
abbrev G1j:= @List.getElem?_eq_none
abbrev G1k:= @List.pairwise_iff_getElem
abbrev G1l:= @of_decide_eq_true
abbrev G1m:= @PySem.wpAny_setState_of
abbrev G1n:= @List.pairwise_map
abbrev G1o:= @Bool.false_eq_true
abbrev G1p:= @List.getElem?_drop
abbrev G1q:= @List.mem_of_mem_drop
abbrev G1r:= @PySem.boot_len
abbrev G1s:= @List.append_nil
abbrev G1t:= @List.map_nil
abbrev G1u:= @List.map_congr_left
abbrev G1v:= @List.mem_append_left
abbrev G1w:= @List.lookup_cons
abbrev G1x:= @List.mem_reverse
abbrev G1y:= @Option.some.inj
abbrev G1z:= @Bool.eq_iff_iff
abbrev G1A:= @Array.getElem?_eq_some_iff
abbrev G1B:= @PySem.mem_of_lookup
abbrev G1C:= @PySem.wpAny_call_entry
abbrev G1D:= @List.range_succ
abbrev G1E:= @List.take_add_one
abbrev G1F:= @Array.toList_push
abbrev G1G:= @List.reverse_perm
abbrev G1H:= @List.getElem?_set_ne
abbrev G1I:= @Option.map_eq_some_iff
abbrev G1J:= @List.drop_eq_nil_of_le
abbrev G1K:= @List.filter_append
abbrev G1L:= @List.getElem?_take_of_lt
abbrev G1M:= @List.nodup_cons
abbrev G1N:= @List.length_filter_le
abbrev G1O:= @PySem.wpAny_truthy_bool
abbrev G1P:= @PySem.wpAny_callSpecial?_slot
abbrev G1Q:= @List.filter_cons_of_pos
abbrev G1R:= @List.filter_cons_of_neg
abbrev G1S:= @List.pairwise_cons
abbrev G1T:= @PySem.W.kia_one
abbrev G1U:= @List.getElem?_range
abbrev G1V:= @Option.isSome_iff_exists
abbrev G1W:= @Nat.zero_add
abbrev G1X:= @List.drop_sublist
abbrev G1Y:= @Nat.pow_succ
abbrev G1Z:= @Nat.lt_of_le_of_lt
abbrev G10:= @PySem.wpAny_execs_cons
abbrev G11:= @Nat.lt_succ_self
abbrev G12:= @Nat.lt_or_ge
abbrev G13:= @Nat.add_zero
abbrev G14:= @List.take_sublist
abbrev G15:= @PyProof.Rows.slot_tuple_getitem
abbrev G16:= @List.replicate_succ
abbrev G17:= @decide_eq_true_eq
abbrev G18:= @Int.toNat_natCast
abbrev G19:= @Array.getElem?_eq_getElem
abbrev G2a:= @List.length_singleton
abbrev G2b:= @PySem.wpAny_Call_Name_kw
abbrev G2c:= @List.length_erase_of_mem
abbrev G2d:= @beq_self_eq_true
abbrev G2e:= @List.eq_nil_of_length_eq_zero
abbrev G2f:= @List.drop_append_of_le_length
abbrev G2g:= @List.take_append_of_le_length
abbrev G2h:= @PySem.codeAny_call_builtin
abbrev G2i:= @List.getElem?_of_mem
abbrev G2j:= @Nat.ne_of_gt
abbrev G2k:= @PyProof.Rows.callWith_type1
abbrev G2l:= @PySem.codeAny_builtin
abbrev G2m:= @List.getElem_of_mem
abbrev G2n:= @Nat.add_sub_cancel'
abbrev G2o:= @List.getElem?_set_self
abbrev G2p:= @List.length_pos_of_mem
abbrev G2q:= @PySem.F.slot_tuple_iterator_next
abbrev G2r:= @Nat.not_lt
abbrev G2s:= @List.mem_filterMap
abbrev G2t:= @Decidable.byContradiction
abbrev G2u:= @List.drop_drop
abbrev G2v:= @Classical.byContradiction
abbrev G2w:= @PySem.W.hideAll_none
abbrev G2x:= @List.mem_erase_of_ne
abbrev G2y:= @PySem.Around.under_plainId
abbrev G2z:= @Array.toList_extract
abbrev G2A:= @PySem.wpAny_newObj_type
abbrev G2B:= @PySem.wpAny_passesOwn
abbrev G2C:= @PySem.wpAny_pyIter_list
abbrev G2D:= @List.flatten_cons
abbrev G2E:= @PySem.Heap.SameBut.refl
abbrev G2F:= @Bool.or_eq_true
abbrev G2G:= @Nat.not_lt_zero
abbrev G2H:= @List.ext_getElem?
abbrev G2I:= @PySem.W.hideAll_get
abbrev G2J:= @List.length_eq_zero_iff
abbrev G2K:= @PySem.F.plainAttrs_list
abbrev G2L:= @PySem.wpAny_askSetting
abbrev G2M:= @PySem.wpAny_call
abbrev G2N:= @PySem.isSubtype_type
abbrev G2O:= @PySem.W.cellsFrom_some
abbrev G2P:= @Nat.div_div_eq_div_mul
abbrev G2Q:= @PyProof.Rows.boot_isinstance
abbrev G2R:= @PySem.wpAny_pyIter_tuple
abbrev G2S:= @List.getElem_range
abbrev G2T:= @Int.emod_lt_of_pos
abbrev G2U:= @PySem.wpAny_execs_nil
abbrev G2V:= @PySem.codeAny_mono
abbrev G2W:= @List.all_map
abbrev G2X:= @List.perm_append_comm
abbrev G2Y:= @List.getElem?_reverse
abbrev G2Z:= @Array.getD_eq_getD_getElem?
abbrev G20:= @PySem.wpAny_newFunctionEnv_cells
abbrev G21:= @Array.getElem?_eq_none_iff
abbrev G22:= @Array.getElem_toList
abbrev G23:= @PySem.Calls.call_function_entry
abbrev G24:= @Nat.min_le_right
abbrev G25:= @or_false
abbrev G26:= @List.mem_map_of_mem
abbrev G27:= @PySem.F.args_tuple_add_2
abbrev G28:= @beq_iff_eq
abbrev G29:= @Nat.lt_trans
abbrev G3a:= @PySem.AutoSeq1.wpAny_loadPart'
abbrev G3b:= @PySem.SetTable.toList_insertAt
abbrev G3c:= @Nat.mod_lt
abbrev G3d:= @Array.size_setIfInBounds
abbrev G3e:= @PySem.wpAny_standAt
abbrev G3f:= @PySem.Calls.spliced_cons
abbrev G3g:= @List.of_mem_zip
abbrev G3h:= @List.getElem?_replicate
abbrev G3i:= @List.zip_cons_cons
abbrev G3j:= @PySem.F.entry_tuple_add
abbrev G3k:= @List.forIn_cons
abbrev G3l:= @decide_eq_false_iff_not
abbrev G3m:= @Nat.min_eq_left
abbrev G3n:= @List.filter_nil
abbrev G3o:= @Int.emod_nonneg
abbrev G3p:= @PySem.F.slot_tuple_add
abbrev G3q:= @Option.map_eq_none_iff
abbrev G3r:= @List.filter_eq_nil_iff
abbrev G3s:= @PySem.SetTable.insertAt_perm
abbrev G3t:= @List.getElem?_set
abbrev G3u:= @Nat.lt_of_succ_le
abbrev G3v:= @Nat.lt_succ_of_lt
abbrev G3w:= @List.nodup_append
abbrev G3x:= @PySem.Heap.size_push
abbrev G3y:= @Bool.and_false
abbrev G3z:= @PySem.codeAny_call_function
abbrev G3A:= @PyProof.Rows.callWith_builtin1
abbrev G3B:= @PySem.F.slot_tuple_lt
abbrev G3C:= @Nat.mul_comm
abbrev G3D:= @List.pairwise_reverse
abbrev G3E:= @Nat.pow_zero
abbrev G3F:= @Nat.succ_pos
abbrev G3G:= @List.take_length
abbrev G3H:= @List.any_eq_true
abbrev G3I:= @PySem.Around.frames_deeper
abbrev G3J:= @Array.toList_reverse
abbrev G3K:= @PySem.F.args_tuple_iterator_next_1
abbrev G3L:= @PySem.wpAny_rule
abbrev G3M:= @PySem.call_meets
abbrev G3N:= @beq_eq_false_iff_ne
abbrev G3O:= @List.filterMap_cons
abbrev G3P:= @List.foldl_cons
abbrev G3Q:= @PySem.F.slot_int_rmul
abbrev G3R:= @PySem.F.entry_tuple_iterator_next
abbrev G3S:= @PySem.Heap.get?_update_ne
abbrev G3T:= @Int.fdiv_eq_ediv_of_nonneg
abbrev G3U:= @Int.fmod_eq_emod_of_nonneg
abbrev G3V:= @Array.isEmpty_eq_false_iff
abbrev G3W:= @List.length_eraseIdx_of_lt
abbrev G3X:= @Array.toList_setIfInBounds
abbrev G3Y:= @PySem.W.of_hideAll
abbrev G3Z:= @PySem.W.callWith_K
abbrev G30:= @PySem.W.codeRec_of
abbrev G31:= @of_decide_eq_false
abbrev G32:= @List.getElem?_eq_none_iff
abbrev G33:= @List.take_zero
abbrev G34:= @List.getLastD_eq_getLast?
abbrev G35:= @List.getLast?_eq_getElem?
abbrev G36:= @PySem.Calls.spliced_nil
abbrev G37:= @List.zip_nil_left
abbrev G38:= @Function.comp_def
abbrev G39:= @PySem.W.Looks.here
abbrev G4a:= @Bool.not_eq_true'
abbrev G4b:= @PySem.wpAny_storeSet_of
abbrev G4c:= @Nat.lt_trichotomy
abbrev G4d:= @List.mapM_toArray
abbrev G4e:= @List.flatMap_cons
abbrev G4f:= @PySem.F.args_tuple_lt_2
abbrev G4g:= @PySem.wpAny_attempt
abbrev G4h:= @PySem.F.slot_list_count
abbrev G4i:= @PySem.plainId_quiet
abbrev G4j:= @PySem.wpAny_newList
abbrev G4k:= @Nat.add_sub_cancel_left
abbrev G4l:= @Nat.add_assoc
abbrev G4m:= @PySem.noFill_tuple_add
abbrev G4n:= @List.perm_middle
abbrev G4o:= @List.all_toArray
abbrev G4p:= @Int.natCast_emod
abbrev G4q:= @PySem.F.entry_tuple_lt
abbrev G4r:= @Array.getElem?_eq_none
abbrev G4s:= @List.length_replicate
abbrev G4t:= @PySem.wpAny_typeOf
abbrev G4u:= @Nat.le_of_eq
abbrev G4v:= @PySem.codeAny_of_tree
abbrev G4w:= @PySem.W.kat_nil
abbrev G4x:= @Classical.em
abbrev G4y:= @PyProof.Rows.boot_all
abbrev G4z:= @if_false
abbrev G4A:= @PySem.typeIs_int
abbrev G4B:= @List.drop_zero
abbrev G4C:= @List.drop_take
abbrev G4D:= @List.take_take
abbrev G4E:= @PySem.wpAny_field
abbrev G4F:= @List.map_id
abbrev G4G:= @Nat.mul_add
abbrev G4H:= @Nat.div_one
abbrev G4I:= @List.map_take
abbrev G4J:= @List.map_drop
abbrev G4K:= @Nat.mul_assoc
abbrev G4L:= @Nat.le_of_dvd
abbrev G4M:= @Bool.and_true
namespace L2
open PySem PySem.Spec PyProof.Rows
abbrev Key:=Sum Int Str
def joN:Key→Value→Bool
 | .inl k,v=>Value.isInt k v
 | .inr x,v=>Value.isStrOf x v
def jsA (w:World):Key→Int
 | .inl k=>hashInt k
 | .inr x=>hashStr w x
theorem jaO: ∀ {k:Key} {v:Value},joN k v=true→(∃i t,k=Sum.inl i∧v=Value.int i t)∨(∃x t,k=Sum.inr x∧v=Value.str x t)
 | .inl i,v,h=>by
  obtain⟨t,e⟩:=Value.isInt_shape (k:=i) (v:=v) h
  exact .inl ⟨i,t,rfl,e⟩
 | .inr x,v,h=>by
  obtain⟨t,e⟩:=Value.isStrOf_shape (x:=x) (v:=v) h
  exact .inr ⟨x,t,rfl,e⟩
theorem joO (a b:Int):decide ((Sum.inl a:Key)=Sum.inl b)=(a==b):=by
 by_cases e:a=b
 ·subst e;simp
 ·have h: ¬ (Sum.inl a:Key)=Sum.inl b:=fun q=>e (Sum.inl.inj q)
  rw [G0P h]
  exact(G3N.mpr e).symm
theorem joP (a b:Str):decide ((Sum.inr a:Key)=Sum.inr b)=decide (a=b):=by
 by_cases e:a=b
 ·subst e;simp
 ·have h: ¬ (Sum.inr a:Key)=Sum.inr b:=fun q=>e (Sum.inr.inj q)
  rw [G0P h,G0P e]
theorem joQ (a:Int) (b:Str):decide ((Sum.inl a:Key)=Sum.inr b)=false:=G0P (fun q=>nomatch q)
theorem joR (a:Str) (b:Int):decide ((Sum.inr a:Key)=Sum.inl b)=false:=G0P (fun q=>nomatch q)
def jjh (prog:Program) (w:World):PySem.KeyKind prog w Key where
 is:=joN
 hash:=jsA w
 inj:=fun v a b ha hb=>by
  rcases jaO ha with ⟨i,t,rfl,rfl⟩|⟨x,t,rfl,rfl⟩
  ·rcases jaO hb with ⟨j,u,rfl,e⟩|⟨y,u,rfl,e⟩
   ·injection e with e1 _;rw [e1]
   ·exact nomatch e
  ·rcases jaO hb with ⟨j,u,rfl,e⟩|⟨y,u,rfl,e⟩
   ·exact nomatch e
   ·injection e with e1 _;rw [e1]
 byValue:=fun k v h=>by
  rcases jaO h with ⟨i,t,rfl,rfl⟩|⟨x,t,rfl,rfl⟩<;>rfl
 pyHash:=fun hv h=>by
  rcases jaO hv with ⟨i,t,rfl,rfl⟩|⟨x,t,rfl,rfl⟩
  ·exact wpAny_pyHash_int h
  ·exact wpAny_pyHash_str h
 eqBool:=fun hu hv h=>by
  rcases jaO hu with ⟨i,t,rfl,rfl⟩|⟨x,t,rfl,rfl⟩
  ·rcases jaO hv with ⟨j,u,rfl,rfl⟩|⟨y,u,rfl,rfl⟩
   ·rw [joO] at h;exact wpAny_eqBool_int h
   ·rw [joQ] at h;exact SeqAt.EqAt.int_str i t y u _ _ _ _ h
  ·rcases jaO hv with ⟨j,u,rfl,rfl⟩|⟨y,u,rfl,rfl⟩
   ·rw [joR] at h;exact SeqAt.EqAt.str_int x t j u _ _ _ _ h
   ·rw [joP] at h;exact wpAny_eqBool_str h
 «strs» :=fun k x t v h=>by
  rcases jaO h with ⟨i,u,rfl,e⟩|⟨y,u,rfl,e⟩
  ·exact nomatch e
  ·injection e with e1 _
   subst e1
   cases v<;>rfl
inductive V where
 |non|bl (b:Bool)|int (i:Int)|str (x:Str)|byt (b:Array UInt8)|flt (b:UInt64)|ref (a:Addr)|ty (n:String)
 deriving DecidableEq
def RelV:V→Value→Prop
 | .non,u=>u=Value.none
 | .bl b,u=>u=Value.bool b
 | .int i,u=> ∃t,u=Value.int i t
 | .str x,u=> ∃t,u=Value.str x t
 | .byt b,u=> ∃t,u=Value.bytes b t
 | .flt b,u=> ∃t,u=Value.float b t
 | .ref a,u=>u=Value.ref a
 | .ty n,u=>u=Value.type n
abbrev Vals:List V→List Value→Prop:=Paired RelV
theorem Vals.length {xs:List V} {us:List Value} (r:Vals xs us):xs.length=us.length:=Paired.length r
theorem Vals.get: ∀ {xs:List V} {us:List Value} {i:Nat} {x:V},Vals xs us→xs[i]? =some x→ ∃u,us[i]? =some u∧RelV x u
 |_,_,_,_,.nil,e=>by simp at e
 |_,_,0,_,.cons r _,e=>by simp at e;subst e;exact⟨_,rfl,r⟩
 |_,_,i+1,x,.cons _ t,e=>by
  obtain⟨u,h1,h2⟩:=Vals.get (i:=i) (x:=x) t (by simpa using e)
  exact⟨u,by simpa using h1,h2⟩
theorem Vals.set {x:V} {u:Value} (r:RelV x u): ∀ {xs:List V} {us:List Value} (i:Nat),Vals xs us→Vals (xs.set i x) (us.set i u)
 |_,_,_,.nil=> .nil
 |_,_,0,.cons _ t=> .cons r t
 |_,_,i+1,.cons q t=> .cons q (Vals.set r i t)
theorem Vals.append: ∀ {xs ys:List V} {us ws:List Value},Vals xs us→Vals ys ws→Vals (xs++ys) (us++ws)
 |_,_,_,_,.nil,s=>s
 |_,_,_,_,.cons r t,s=> .cons r (Vals.append t s)
theorem Vals.take: ∀ {xs:List V} {us:List Value} (n:Nat),Vals xs us→Vals (xs.take n) (us.take n)
 |_,_,0,_=> .nil
 |_,_,_+1,.nil=> .nil
 |_,_,n+1,.cons r t=> .cons r (Vals.take n t)
theorem Vals.drop: ∀ {xs:List V} {us:List Value} (n:Nat),Vals xs us→Vals (xs.drop n) (us.drop n)
 |_,_,0,r=>r
 |_,_,_+1,.nil=> .nil
 |_,_,n+1,.cons _ t=>Vals.drop n t
def jq5:Option V→Option Value→Prop
 |some v,some u=>RelV v u
 |none,none=>True
 |_,_=>False
def KV {κ:Type}:List (κ×V)→List (κ×Value)→Prop:=Paired fun (p:κ×V) (q:κ×Value)=>p.1=q.1∧RelV p.2 q.2
def kV:Key→V
 | .inl i=> .int i
 | .inr x=> .str x
inductive HO where
 /-- a list -/
 |lst (xs:List V)
 /-- a tuple (never changes) -/
 |tup (xs:List V)
 /-- a dict whose keys are ints and texts;one whose keys are tuples of ints and texts (the empty one is both) -/
 |dK (kvs:List (Key×V))|dT (kvs:List (List Key×V))
 /-- a set of ints: its members,its size -/
 |set (S:Int→Bool) (n:Nat)
 /-- an instance of the class at C,its dict at dx,its attributes -/
 |ins (C dx:Addr) (fs:List (Str×V))
 /-- the dict of the instance at x -/
 |own (x:Addr)
 /-- the dict of an exception -/
 |xd (fs:List (Str×V))
 /-- a bound method,f of x -/
 |met (f x:Addr)
 /-- a range object lo,lo+1,.. below hi -/
 |rng (lo hi:Int)
 /-- a thing that is known to the object (the script;a dict while a loop walks it):read,never written while it is so -/
 |frz (o:Obj) (u:HO)
 /-- a code object's table -/
 |tbl (ps:Array Value)
 /-- any other thing,by what is true of its one object (a def of one's own: SetO a S n:=HO.ext fun h=> ..) -/
 |ext (φ:Heap→Prop)
abbrev Hp:=Addr→Option HO
def upd (H:Hp) (a:Addr) (o:HO):Hp:=fun b=>if b=a then some o else H b
theorem jam {H:Hp} {a:Addr} {o:HO}:upd H a o a=some o:=by unfold upd;rw [if_pos rfl]
theorem jaj {H:Hp} {a b:Addr} {o:HO} (h:b≠a):upd H a o b=H b:=by unfold upd;rw [if_neg h]
theorem jji {H:Hp} {a b:Addr} {o u:HO} (h:H a=some o) (h' :H b=some u) (d:o≠u):a≠b:=by
 intro e;subst e;rw [h] at h';exact d (G1y h')
theorem jan {H:Hp} {a b:Addr} {o:HO} (h:H a=some o) (h' :H b=none):a≠b:=by
 intro e;subst e;rw [h] at h';cases h'
def IsTupN (h:Heap) (a:Addr) (items:Array Value):Prop:= ∃o,h.get? a=some o∧o.cls= .type "tuple" ∧o.dict=none∧ ∃n,o.data= .seq items n
theorem IsTupN.tup {h:Heap} {a:Addr} {items:Array Value} (x:IsTupN h a items):IsTup h a items:=let ⟨o,e,c,_,n,d⟩:=x;⟨o,e,c,n,d⟩
theorem IsTupN.new (h:Heap) (items:Array Value):IsTupN (h.push {cls:= .type "tuple",data:= .seq items}) h.objs.size items:=⟨_,G0x _ rfl,rfl,rfl,_,rfl⟩
section
variable (P:Program) (w:World)
def ObjOk (H:Hp) (h:Heap) (a:Addr):HO→Prop
 | .lst xs=>xs.length≤sizeLine∧ ∃ (its:List Value) (n:Nat),Vals xs its∧h.get? a=some {cls:= .type "list",data:= .seq its.toArray n}
 | .tup xs=>xs.length≤sizeLine∧ ∃its:List Value,Vals xs its∧IsTupN h a its.toArray
 | .dK kvs=>kvs.length≤sizeLine∧(a==sysModules)=false∧ ∃vs,KV kvs vs∧h.DictOf (jjh P w) a vs
 | .dT kvs=>kvs.length≤sizeLine∧(a==sysModules)=false∧ ∃xs:List (List Key×Addr×Value),
  Paired (fun (p:List Key×V) (q:List Key×Addr×Value)=>p.1=q.1∧H q.2.1=some (.tup (p.1.map kV))∧RelV p.2 q.2.2) kvs xs∧
  ∃o es ep,h.get? a=some o∧o.ExactDict∧o.data= .dict es ep∧es.toList=xs.map (entryOfKey (tupleKind (jjh P w)))∧(xs.map (·.1)).Nodup
 | .set S n=>h.SetOf (intKind P w) a S n
 | .ins C dx fs=>H dx=some (.own a)∧fs.length≤1000∧dx≠a∧h.get? a=some (PySem.W.instObj C dx)∧
  ∃mA,h.Ns1 dx mA∧(∀f,jq5 (fs.lookup f) (mA f))∧PySem.Within mA (fs.map (·.1))
 | .own _=> ∃o,h.get? a=some o
 | .xd fs=> ∃mA,h.Ns1 a mA∧ ∀f,jq5 (fs.lookup f) (mA f)
 | .rng lo hi=> ∃t u v,h.get? a=some {cls:= .type "range",data:= .fields #[.int lo t,.int hi u,.int 1 v]}
 | .frz o u=>h.get? a=some o∧ObjOk H h a u
 | .tbl ps=>h.get? a=some {cls:= .none,data:= .fields ps}
 | .met f x=>h.get? a=some (PySem.W.methodObj (.ref f) (.ref x))
 | .ext φ=>φ h∧(∃o,h.get? a=some o)∧ ∀h1 h2:Heap,φ h1→(∀o,h1.get? a=some o→h2.get? a=some o)→φ h2
def HOk (H:Hp) (h:Heap):Prop:= ∀a o,H a=some o→ObjOk P w H h a o
end
section
variable {P:Program} {w:World} {H H' :Hp} {h h' :Heap} {a:Addr} {o:HO}
theorem ObjOk.lt (x:ObjOk P w H h a o):a<h.objs.size:=by
 cases o with
 |lst xs=>obtain⟨_,_,_,_,e⟩:=x;exact G0l e
 |tup xs=>obtain⟨_,_,_,p⟩:=x;exact p.tup.lt
 |dK kvs=>obtain⟨_,_,_,_,o,_,_,e,_⟩:=x;exact G0l e
 |dT kvs=>obtain⟨_,_,_,_,o,_,_,e,_⟩:=x;exact G0l e
 |set S n=>obtain⟨o,_,_,_,e,_⟩:=x;exact G0l e
 |ins C dx fs=>obtain⟨_,_,_,e,_⟩:=x;exact G0l e
 |own y=>obtain⟨_,e⟩:=x;exact G0l e
 |xd fs=>obtain⟨_,⟨_,_,_,e,_⟩,_⟩:=x;exact G0l e
 |rng lo hi=>obtain⟨_,_,_,e⟩:=x;exact G0l e
 |frz ob u=>obtain⟨e,_⟩:=x;exact G0l e
 |tbl ps=>exact G0l (show h.get? a=some _ from x)
 |met f y=>exact G0l (show h.get? a=some _ from x)
 |ext φ=>obtain⟨_,⟨_,e⟩,_⟩:=x;exact G0l e
theorem Paired.mapP {α β:Type} {F G:α→β→Prop}: ∀ {l₁:List α} {l₂:List β},Paired F l₁ l₂→(∀a b,F a b→G a b)→Paired G l₁ l₂
 |_,_,.nil,_=> .nil
 |_,_,.cons r t,f=> .cons (f _ _ r) (Paired.mapP t f)
theorem ObjOk.stay (x:ObjOk P w H h a o) (k: ∀b u,(b=a∨H b=some (.own a))→h.get? b=some u→h'.get? b=some u)
 (ho: ∀b,H b=some (.own a)→H' b=some (.own a)) (ht: ∀b xs,H b=some (.tup xs)→H' b=some (.tup xs)):ObjOk P w H' h' a o:=by
 induction o with
 |lst xs=>obtain⟨z,its,n,r,e⟩:=x;exact⟨z,its,n,r,k _ _ (.inl rfl) e⟩
 |tup xs=>obtain⟨z,its,r,ob,e,c⟩:=x;exact⟨z,its,r,ob,k _ _ (.inl rfl) e,c⟩
 |dK kvs=>obtain⟨z,y,vs,r,ob,es,ep,e,c⟩:=x;exact⟨z,y,vs,r,ob,es,ep,k _ _ (.inl rfl) e,c⟩
 |dT kvs=>
  obtain⟨z,y,xs,r,ob,es,ep,e,c⟩:=x
  exact⟨z,y,xs,Paired.mapP r fun p q z=>⟨z.1,ht _ _ z.2.1,z.2.2⟩,ob,es,ep,k _ _ (.inl rfl) e,c⟩
 |set S n=>obtain⟨ob,es,ep,t,e,c⟩:=x;exact⟨ob,es,ep,t,k _ _ (.inl rfl) e,c⟩
 |ins C dx fs=>
  obtain⟨d,z,ne,e,mA,⟨od,es,ep,e2,c⟩,r⟩:=x
  exact⟨ho _ d,z,ne,k _ _ (.inl rfl) e,mA,⟨od,es,ep,k _ _ (.inr d) e2,c⟩,r⟩
 |own y=>obtain⟨ob,e⟩:=x;exact⟨ob,k _ _ (.inl rfl) e⟩
 |xd fs=>obtain⟨mA,⟨od,es,ep,e,c⟩,r⟩:=x;exact⟨mA,⟨od,es,ep,k _ _ (.inl rfl) e,c⟩,r⟩
 |rng lo hi=>obtain⟨t,u,v,e⟩:=x;exact⟨t,u,v,k _ _ (.inl rfl) e⟩
 |frz ob u ih=>obtain⟨e,q⟩:=x;exact⟨k _ _ (.inl rfl) e,ih q⟩
 |tbl ps=>
  have e:h.get? a=some {cls:= .none,data:= .fields ps}:=x
  show h'.get? a=some {cls:= .none,data:= .fields ps}
  exact k a _ (.inl rfl) e
 |met f y=>
  have e:h.get? a=some (PySem.W.methodObj (.ref f) (.ref y)):=x
  show h'.get? a=some (PySem.W.methodObj (.ref f) (.ref y))
  exact k a _ (.inl rfl) e
 |ext φ=>obtain⟨p,⟨o,e⟩,st⟩:=x;exact⟨st _ _ p fun o q=>k _ _ (.inl rfl) q,⟨o,k _ _ (.inl rfl) e⟩,st⟩
theorem HOk.lt (x:HOk P w H h) (e:H a=some o):a<h.objs.size:=(x a o e).lt
theorem HOk.fresh (x:HOk P w H h) (e:h.objs.size≤a):H a=none:=by
 cases q:H a with
 |none=>rfl
 |some u=>exact absurd (G0D (x.lt q) e) (G0W _)
theorem HOk.kept (x:HOk P w H h) (k: ∀b u,h.get? b=some u→h'.get? b=some u):HOk P w H h' :=fun a o e=>
 (x a o e).stay (fun b u _ q=>k b u q) (fun _ q=>q) fun _ _ q=>q
theorem HOk.laid (x:HOk P w H h) (k: ∀b u,h.get? b=some u→h'.get? b=some u) (hp:h.objs.size≤a) (new:ObjOk P w (upd H a o) h' a o):HOk P w (upd H a o) h' :=fun b u e=>by
 have hn:=x.fresh hp
 by_cases hb:b=a
 ·subst hb;rw [jam] at e;cases e;exact new
 ·rw [jaj hb] at e
  exact(x b u e).stay (fun c v _ q=>k c v q) (fun c q=>by rw [jaj (jan q hn)];exact q) fun c xs q=>by rw [jaj (jan q hn)];exact q
end
def Rd (H:Hp) (a:Addr) (u:HO):Prop:=H a=some u∨ ∃o,H a=some (.frz o u)
theorem Rd.ok {P:Program} {w:World} {H:Hp} {h:Heap} {a:Addr} {u:HO} (r:Rd H a u) (x:HOk P w H h):ObjOk P w H h a u:=by
 rcases r with r|⟨o,r⟩
 ·exact x a u r
 ·obtain⟨_,q⟩:=x a _ r
  exact q
def Mut:Option HO→Prop
 |some (.lst _)=>True
 |some (.dK _)=>True
 |some (.dT _)=>True
 |some (.set _ _)=>True
 |some (.ins _ _ _)=>True
 |some (.ext _)=>True
 |_=>False
section
variable {P:Program} {w:World} {H:Hp} {h h' :Heap} {x e:Addr} {o' :HO}
theorem HOk.write (ok:HOk P w H h) (mu:Mut (H x)) (he:e=x∨H e=some (.own x)) (k: ∀b u,b≠e→h.get? b=some u→h'.get? b=some u) (heo: ∃u,h'.get? e=some u)
 (new:ObjOk P w (upd H x o') h' x o'):HOk P w (upd H x o') h' :=fun b u q=>by
 have nown: ∀c y,H c=some (.own y)→c≠x:=fun c y r z=>by subst z;rw [r] at mu;exact mu
 have ntup: ∀c xs,H c=some (.tup xs)→c≠x:=fun c xs r z=>by subst z;rw [r] at mu;exact mu
 by_cases hb:b=x
 ·subst hb;rw [jam] at q;cases q;exact new
 ·rw [jaj hb] at q
  by_cases hbe:b=e
  ·have q' :H b=some (.own x):=by
    rcases he with z|z
    ·exact absurd (hbe.trans z) hb
    ·rw [hbe];exact z
   rw [q] at q';cases q'
   obtain⟨v,hv⟩:=heo
   exact⟨v,by rw [hbe];exact hv⟩
  ·refine(ok b u q).stay (fun c v hc r=>k c v ?_ r) (fun c r=>by rw [jaj (nown c b r)];exact r) fun c xs r=>by rw [jaj (ntup c xs r)];exact r
   rcases hc with rfl|hc
   ·exact hbe
   ·rintro rfl
    rcases he with z|z
    ·exact nown c b hc z
    ·rw [hc] at z;cases z;exact hb rfl
end
structure Un (fs ex:List Addr) (H H' :Hp) (h h' :Heap):Prop where
 keep: ∀b o,h.get? b=some o→H b=none→b ∉ fs→b ∉ ex→h'.get? b=some o
 slot: ∀b o,h.get? b=some o→H b=none→b∈fs→b ∉ ex→ ∃sl,h'.get? b=some {o with slots:=sl}
 free: ∀b o,h.get? b=some o→H b=none→b ∉ ex→H' b=none
 there: ∀b o,h.get? b=some o→b ∉ ex→ ∃o',h'.get? b=some o'
 tups: ∀b xs,H b=some (.tup xs)→H' b=some (.tup xs)
 frzs: ∀b o u,H b=some (.frz o u)→H' b=some (.frz o u)
 tbls: ∀b ps,H b=some (.tbl ps)→ ∃more,H' b=some (.tbl (ps++more))
section
variable {fs fs' ex ex' :List Addr} {H H1 H2:Hp} {h h1 h2 h' :Heap} {a x e:Addr} {o:HO}
theorem Un.any (u:Un fs ex H H1 h h1) {b:Addr} {ob:Obj} (q:h.get? b=some ob) (n:H b=none) (hx:b ∉ ex): ∃sl,h1.get? b=some {ob with slots:=sl}:=by
 by_cases hb:b∈fs
 ·exact u.slot b ob q n hb hx
 ·exact⟨ob.slots,u.keep b ob q n hb hx⟩
theorem Un.kept (k: ∀b u,h.get? b=some u→h'.get? b=some u):Un fs ex H H h h' :=
 ⟨fun b ob q _ _ _=>k b ob q,fun b ob q _ _ _=>⟨ob.slots,k b ob q⟩,fun _ _ _ n _=>n,fun b ob q _=>⟨ob,k b ob q⟩,fun _ _ q=>q,fun _ _ _ q=>q,fun _ ps q=>⟨#[],by rw [q];simp⟩⟩
theorem Un.refl:Un fs ex H H h h:=Un.kept fun _ _ q=>q
theorem Un.laid (k: ∀b u,h.get? b=some u→h'.get? b=some u) (hp:h.objs.size≤a) (hn:H a=none):Un fs ex H (upd H a o) h h' where
 keep:=fun b u q _ _ _=>k b u q
 slot:=fun b u q _ _ _=>⟨u.slots,k b u q⟩
 free:=fun b u q n _=>by rw [jaj (G0J (G0D (G0l q) hp))];exact n
 there:=fun b u q _=>⟨u,k b u q⟩
 tups:=fun b xs q=>by rw [jaj (jan q hn)];exact q
 frzs:=fun b u xs q=>by rw [jaj (jan q hn)];exact q
 tbls:=fun b ps q=>⟨#[],by rw [jaj (jan q hn),q];simp⟩
theorem Un.write (mu:Mut (H x)) (he:e=x∨H e=some (.own x)) (k: ∀b u,b≠e→h.get? b=some u→h'.get? b=some u) (heo: ∃u,h'.get? e=some u):Un fs ex H (upd H x o) h h' :=by
 have hx: ∀b,H b=none→b≠x:=fun b n z=>by subst z;rw [n] at mu;exact mu
 have hb: ∀b,H b=none→b≠e:=fun b n z=>by
  subst z
  rcases he with r|r
  ·exact hx b n r
  ·rw [n] at r;cases r
 have hm: ∀b u,H b=some u→ ¬Mut (some u)→b≠x:=fun b u q nm z=>by subst z;rw [q] at mu;exact nm mu
 refine⟨fun b u q n _ _=>k b u (hb b n) q,fun b u q n _ _=>⟨u.slots,k b u (hb b n) q⟩,fun b u q n _=>by rw [jaj (hx b n)];exact n,fun b u q _=> ?_,
  fun b xs q=>by rw [jaj (hm b _ q fun z=>z)];exact q,fun b u xs q=>by rw [jaj (hm b _ q fun z=>z)];exact q,fun b ps q=>⟨#[],by rw [jaj (hm b _ q fun z=>z),q];simp⟩⟩
 by_cases hbe:b=e
 ·subst hbe;exact heo
 ·exact⟨u,k b u hbe q⟩
end
def trk (h:Heap) (H:Hp):List Addr:=(List.range h.objs.size).filter fun a=>(H a).isSome
def jk8 (h:Heap) (H:Hp):Heap:=PySem.W.hideAll h (trk h H)
theorem jjj (h:Heap) (H:Hp):(jk8 h H).objs.size=h.objs.size:=PySem.W.hideAll_size _ _
theorem jfG {h:Heap} {H:Hp} {b:Addr} {o:Obj} (e:h.get? b=some o) (n:H b=none):(jk8 h H).get? b=some o:=
 G2I _ e fun hm=>by
  have q:(H b).isSome=true:=(G1e.mp hm).2
  rw [n] at q;simp at q
theorem jmO {h:Heap} {H:Hp} {b:Addr} {o:Obj} (e:(jk8 h H).get? b=some o):h.get? b=some o∧H b=none:=by
 have e' :h.get? b=some o:=G3Y (trk h H) e
 refine⟨e',?_⟩
 cases q:H b with
 |none=>rfl
 |some x=>
  have hm:b∈trk h H:=G1e.mpr ⟨G0z.mpr (G0l e'),by simp [q]⟩
  have z:(jk8 h H).get? b=none:=G2w (trk h H) hm
  rw [z] at e;cases e
def jmP (g h:Heap) (L:Addr):List (Addr×Obj):=(List.range h.objs.size).filterMap fun a=>if a=L∨(g.get? a).isSome=true then none else (h.get? a).map fun o=>(a,o)
def rest (g h:Heap) (L d:Addr):List (Addr×Obj):=(jmP g h L).filter fun p=>decide (p.1≠d)
structure Mod (K:PySem.W.Frag) (mg:Str→Option Value) (base:Heap):Prop where
 kin:K.In base
 glob:base.Ns mainGlobals mg
 blt: ∃mb,base.Ns builtinsNs mb∧ ∀x:Str,x≠ "__name__" →mb x=bootBuiltins x
 nolimit:base.NoLimit
structure Cx where
 prog:Program
 w:World
 K:PySem.W.Frag
 mg:Str→Option Value
 base:Heap
 A:Around
 N:List Str
 s₀:Shared
 H₀:Hp
 env:Env
 outer:List Env
 stack:List Env
 ex:List Addr
 fn:Str→Bool
 calm:Bool
 pn:List (Addr×Obj)
 xe:Value→Shared→Prop
def frs (l:List Env):List Addr:=l.filterMap (·.frame)
abbrev Cx.fs (X:Cx):List Addr:=frs X.outer
def Vis (sc:Scope) (x:Str):Prop:=sc.names.lookup x=some .local∨sc.names.lookup x=some .cell∨sc.names.lookup x=some .free
def Loc (sc:Scope) (x:Str):Prop:=sc.names.lookup x=some .local∨sc.names.lookup x=some .cell
def jsB (env:Env) (h:Heap) (m:Str→Option Value) (x:Str) (u:Value):Prop:=
 (env.kindOf x=some .local∧m x=some u)∨((env.kindOf x=some .cell∨env.kindOf x=some .free)∧ ∃c,env.cells.lookup x=some c∧h.IsCell c (some u))
structure Cx.Ok (X:Cx):Prop where
 mod:Mod X.K X.mg X.base
 kind:X.env.scope.kind= .function
 glob:X.env.globals=mainGlobals
 blt:X.env.builtins=builtinsNs
 above:X.s₀.heap.objs.size≤X.env.locals
 inj: ∀x y c,X.env.cells.lookup x=some c→X.env.cells.lookup y=some c→x=y
 has: ∀x,(X.env.kindOf x=some .cell∨X.env.kindOf x=some .free)→ ∃c,X.env.cells.lookup x=some c
 cab: ∀x c,X.fn x=true→X.env.cells.lookup x=some c→X.s₀.heap.objs.size≤c
 hd:X.calm=true→X.A.handled=none
 frames:X.A.frames=some X.stack
 stk:X.stack=X.outer∨(X.stack=X.env::X.outer∧X.env.frame=some X.env.locals)
 exf: ∀b∈X.ex,b≠X.env.locals∧ ∀x c,X.env.cells.lookup x=some c→c≠b
 bs: ∀b o,X.base.get? b=some o→X.s₀.heap.get? b=some o∧X.H₀ b=none
 bsz:X.base.objs.size≤X.s₀.heap.objs.size
 noex: ∀b o,X.base.get? b=some o→b ∉ X.ex
 exfs: ∀b∈X.ex,b ∉ X.fs
 funs:X.s₀.heap.FunFrames X.base X.outer
 frf: ∀b∈X.fs,X.H₀ b=none
structure Inv (X:Cx) (pins:List (Addr×Obj)) (σ:List (Option V)) (H:Hp) (s:Shared):Prop where
 ok:X.Ok
 os:s.os=X.s₀.os
 bare:AllBare s.gens
 base:Un X.fs X.ex X.H₀ H X.s₀.heap s.heap
 loc: ∃m,s.heap.Ns X.env.locals m∧ ∀ (i:Nat) (x:Str) (v:V),X.N[i]? =some x→σ[i]? =some (some v)→Vis X.env.scope x→ ∃u,RelV v u∧jsB X.env s.heap m x u
 cell: ∀x c,X.env.cells.lookup x=some c→ ∃v,s.heap.IsCell c v
 free:H X.env.locals=none
 freeC: ∀x c,X.env.cells.lookup x=some c→H c=none
 pin: ∀p∈X.pn++pins,s.heap.get? p.1=some p.2∧H p.1=none∧p.1≠X.env.locals∧p.1 ∉ X.fs∧ ∀v,p.2.data≠ .cell v
 hok:HOk X.prog X.w H s.heap
 len:σ.length=X.N.length
section
variable {X:Cx} {pins:List (Addr×Obj)} {σ:List (Option V)} {H H' :Hp} {s:Shared} {h' :Heap}
theorem Cx.Ok.nofr (ok:X.Ok) {b:Addr} {o:Obj} (e:X.base.get? b=some o):b ∉ X.fs:=fun hb=>by
 have:=(ok.funs.mem hb).1
 rw [e] at this;cases this
theorem Inv.bs (I:Inv X pins σ H s): ∀b o,X.base.get? b=some o→s.heap.get? b=some o∧H b=none:=fun b o e=>
 ⟨I.base.keep b o (I.ok.bs b o e).1 (I.ok.bs b o e).2 (I.ok.nofr e) (I.ok.noex b o e),I.base.free b o (I.ok.bs b o e).1 (I.ok.bs b o e).2 (I.ok.noex b o e)⟩
theorem Inv.bk (I:Inv X pins σ H s): ∀b o,X.base.get? b=some o→s.heap.get? b=some o:=fun b o e=>(I.bs b o e).1
theorem Inv.mod (I:Inv X pins σ H s):Mod X.K X.mg X.base:=I.ok.mod
theorem Inv.kIn (I:Inv X pins σ H s):X.K.In s.heap:=I.ok.mod.kin.keeps I.bk
theorem Inv.lt (I:Inv X pins σ H s):X.env.locals<s.heap.objs.size:=let ⟨_,hn,_⟩:=I.loc;hn.lt
theorem Inv.sz (I:Inv X pins σ H s):X.s₀.heap.objs.size≤s.heap.objs.size:=G0C I.ok.above (G0T I.lt)
theorem Inv.nofs (I:Inv X pins σ H s) {a:Addr} (h:s.heap.objs.size≤a):a ∉ X.fs:=fun hb=>by
 obtain⟨_,o,ho,_⟩:=I.ok.funs.mem hb
 exact absurd (G0D (G0l ho) (G0C I.sz h)) (G0W _)
theorem Inv.cne (I:Inv X pins σ H s): ∀x c,X.env.cells.lookup x=some c→c≠X.env.locals:=fun x c e z=>by
 obtain⟨v,o,ho,hd⟩:=I.cell x c e
 obtain⟨m,⟨o',es,ep,ho',hd',_⟩,_⟩:=I.loc
 rw [z,ho'] at ho;cases ho;rw [hd'] at hd;cases hd
theorem Inv.funs (I:Inv X pins σ H s):s.heap.FunFrames X.base X.outer:=by
 have all: ∀ (l:List Env),(∀b∈frs l,b∈X.fs)→X.s₀.heap.FunFrames X.base l→s.heap.FunFrames X.base l:=by
  intro l
  induction l with
  |nil=>intro _ _;trivial
  |cons env r ih=>
   intro hs hl
   obtain⟨hk,⟨L,o,hf,hn,ho,hd⟩,hr⟩:=hl
   have hL:L∈X.fs:=hs L (by unfold frs;rw [List.filterMap_cons,hf];exact List.mem_cons_self)
   obtain⟨sl,e⟩:=I.base.slot L o ho (I.ok.frf L hL) hL fun z=>I.ok.exfs L z hL
   exact⟨hk,⟨L,_,hf,hn,e,hd⟩,ih (fun b hb=>hs b (by unfold frs;rw [List.filterMap_cons,hf];exact List.mem_cons_of_mem _ hb)) hr⟩
 exact all X.outer (fun _ hb=>hb) I.ok.funs
theorem Inv.stack (I:Inv X pins σ H s):s.heap.FunFrames X.base X.stack:=by
 rcases I.ok.stk with e|⟨e,hf⟩
 ·rw [e];exact I.funs
 ·rw [e]
  obtain⟨m,hn,_⟩:=I.loc
  refine .cons (by rw [I.ok.kind];decide) hf hn ?_ I.funs
  exact Heap.get?_none_of_le (G0C I.ok.bsz I.ok.above)
theorem Inv.stkSub (I:Inv X pins σ H s): ∀b∈frs X.stack,b∈X.env.locals::X.fs:=fun b hb=>by
 rcases I.ok.stk with e|⟨e,hf⟩
 ·rw [e] at hb;exact G0y _ hb
 ·rw [e] at hb
  unfold frs at hb
  rw [G3O,hf] at hb
  exact hb
theorem Inv.stkFree (I:Inv X pins σ H s): ∀b∈frs X.stack,H b=none:=fun b hb=>by
 rcases G0n.mp (I.stkSub b hb) with e|hb
 ·rw [e];exact I.free
 ·obtain⟨_,o,ho,_⟩:=I.ok.funs.mem hb
  exact I.base.free b o ho (I.ok.frf b hb) fun z=>I.ok.exfs b z hb
theorem Inv.step {g' :Array GenState} {t' :Nat} {d' :Drawn} {ch:List Addr} (I:Inv X pins σ H s)
 (hch: ∀b∈ch,(b∈X.ex∨X.s₀.heap.objs.size≤b)∧b≠X.env.locals∧(∀x c,X.env.cells.lookup x=some c→c≠b)∧ ∀p∈X.pn++pins,p.1≠b)
 (keep: ∀b o,b≠X.env.locals→b ∉ X.fs→b ∉ ch→s.heap.get? b=some o→H b=none→h'.get? b=some o)
 (slot: ∀b o,b≠X.env.locals→b∈X.fs→b ∉ ch→s.heap.get? b=some o→H b=none→ ∃sl,h'.get? b=some {o with slots:=sl}) (free: ∀b o,b ∉ ch→s.heap.get? b=some o→H b=none→H' b=none)
 (there: ∀b o,b ∉ ch→s.heap.get? b=some o→ ∃o',h'.get? b=some o')
 (tups: ∀b xs,H b=some (.tup xs)→H' b=some (.tup xs)) (frzs: ∀b o u,H b=some (.frz o u)→H' b=some (.frz o u)) (tbls: ∀b ps,H b=some (.tbl ps)→ ∃more,H' b=some (.tbl (ps++more)))
 (ns: ∀m,s.heap.Ns X.env.locals m→h'.Ns X.env.locals m) (hok:HOk X.prog X.w H' h') (hg:AllBare g'):
 Inv X pins σ H' {s with heap:=h',gens:=g',drawn:=d',toks:=t'}:=by
 have neL: ∀b o,X.s₀.heap.get? b=some o→b≠X.env.locals:=fun b o e=>G0J (G0D (G0l e) I.ok.above)
 have neC: ∀b o,X.s₀.heap.get? b=some o→b ∉ X.ex→b ∉ ch:=fun b o e hx hb=>by
  rcases (hch b hb).1 with z|z
  ·exact hx z
  ·exact absurd (G0D (G0l e) z) (G0W _)
 have cellK: ∀x c,X.env.cells.lookup x=some c→ ∀v,s.heap.IsCell c v→h'.IsCell c v:=fun x c e v ⟨o,ho,hd⟩=>by
  have nch:c ∉ ch:=fun z=>(hch c z).2.2.1 x c e rfl
  by_cases hc:c∈X.fs
  ·obtain⟨sl,q⟩:=slot c o (I.cne x c e) hc nch ho (I.freeC x c e)
   exact⟨_,q,hd⟩
  ·exact⟨o,keep c o (I.cne x c e) hc nch ho (I.freeC x c e),hd⟩
 refine⟨I.ok,I.os,hg,⟨fun b o e n hb hx=> ?_,fun b o e n hb hx=> ?_,fun b o e n hx=> ?_,fun b o e hx=> ?_,fun b xs e=>tups b xs (I.base.tups b xs e),fun b o xs e=>frzs b o xs (I.base.frzs b o xs e),fun b ps e=> ?_⟩,?_,fun x c e=> ?_,?_,fun x c e=> ?_,fun p hp=> ?_,hok,I.len⟩
 ·exact keep b o (neL b o e) hb (neC b o e hx) (I.base.keep b o e n hb hx) (I.base.free b o e n hx)
 ·obtain⟨sl,e1⟩:=I.base.slot b o e n hb hx
  obtain⟨sl',e2⟩:=slot b _ (neL b o e) hb (neC b o e hx) e1 (I.base.free b o e n hx)
  exact⟨sl',e2⟩
 ·obtain⟨o',e1⟩:=I.base.there b o e hx
  exact free b o' (neC b o e hx) e1 (I.base.free b o e n hx)
 ·obtain⟨o',e1⟩:=I.base.there b o e hx
  exact there b o' (neC b o e hx) e1
 ·obtain⟨m1,e1⟩:=I.base.tbls b ps e
  obtain⟨m2,e2⟩:=tbls b _ e1
  exact⟨m1++m2,by rw [e2,Array.append_assoc]⟩
 ·obtain⟨m,hn,hl⟩:=I.loc
  refine⟨m,ns m hn,fun i x v e1 e2 e3=> ?_⟩
  obtain⟨u,r,l⟩:=hl i x v e1 e2 e3
  refine⟨u,r,?_⟩
  rcases l with l|⟨k,c,e,z⟩
  ·exact .inl l
  ·exact .inr ⟨k,c,e,cellK x c e _ z⟩
 ·obtain⟨v,z⟩:=I.cell x c e
  exact⟨v,cellK x c e v z⟩
 ·obtain⟨m,⟨o,_,_,ho,_⟩,_⟩:=I.loc
  exact free _ o (fun z=>(hch _ z).2.1 rfl) ho I.free
 ·obtain⟨v,o,ho,hd⟩:=I.cell x c e
  exact free c o (fun z=>(hch c z).2.2.1 x c e rfl) ho (I.freeC x c e)
 ·obtain⟨e,n,ne,nf,d⟩:=I.pin p hp
  have nch:p.1 ∉ ch:=fun z=>(hch p.1 z).2.2.2 p hp rfl
  exact⟨keep p.1 p.2 ne nf nch e n,free p.1 p.2 nch e n,ne,nf,d⟩
theorem Inv.un {t' :Nat} (I:Inv X pins σ H s) (u:Un X.fs [] H H' s.heap h') (hok:HOk X.prog X.w H' h'):Inv X pins σ H' {s with heap:=h',toks:=t'}:=by
 obtain⟨m,⟨o,es,ep,ho,r⟩,_⟩:=id I.loc
 obtain⟨sl,hL⟩:=u.any ho I.free (by simp)
 exact I.step (g' :=s.gens) (d' :=s.drawn) (ch:= []) (fun _ z=>nomatch z) (fun b o _ hb _ e n=>u.keep b o e n hb (by simp)) (fun b o _ hb _ e n=>u.slot b o e n hb (by simp)) (fun b o _ e n=>u.free b o e n (by simp)) (fun b o _ e=>u.there b o e (by simp)) u.tups u.frzs u.tbls (fun m' hm=>by
  obtain⟨o',es',ep',ho',r'⟩:=hm
  rw [ho] at ho';cases ho'
  exact⟨_,es',ep',hL,r'⟩) hok I.bare
theorem Inv.call {g' :Array GenState} {t' :Nat} {d' :Drawn} {ch:List Addr} (I:Inv X pins σ H s) (u:Un (frs X.stack) ch H H' s.heap h') (hok:HOk X.prog X.w H' h') (hg:AllBare g')
 (hch: ∀b∈ch,(b∈X.ex∨X.s₀.heap.objs.size≤b)∧b≠X.env.locals∧(∀x c,X.env.cells.lookup x=some c→c≠b)∧ ∀p∈X.pn++pins,p.1≠b):
 Inv X pins σ H' {s with heap:=h',gens:=g',drawn:=d',toks:=t'}:=by
 obtain⟨m,⟨o,es,ep,ho,r⟩,_⟩:=id I.loc
 obtain⟨sl,hL⟩:=u.any ho I.free fun z=>(hch _ z).2.1 rfl
 exact I.step (ch:=ch) hch (fun b o hL hb hc e n=>u.keep b o e n (fun z=>(G0n.mp (I.stkSub b z)).elim hL hb) hc) (fun b o _ _ hc e n=>u.any e n hc) (fun b o hc e n=>u.free b o e n hc) (fun b o hc e=>u.there b o e hc) u.tups u.frzs u.tbls (fun m' hm=>by
  obtain⟨o',es',ep',ho',r'⟩:=hm
  rw [ho] at ho';cases ho'
  exact⟨_,es',ep',hL,r'⟩) hok hg
theorem Inv.turned {t' :Nat} {it:Addr} (I:Inv X pins σ H s) (k: ∀b o,b≠it→s.heap.get? b=some o→h'.get? b=some o) (hn:H it=none) (hL:it≠X.env.locals)
 (h1:it∈X.ex∨X.s₀.heap.objs.size≤it) (h2: ∀x c,X.env.cells.lookup x=some c→c≠it) (h3: ∀p∈X.pn++pins,p.1≠it):Inv X pins σ H {s with heap:=h',toks:=t'}:=by
 have nit: ∀b u,H b=some u→b≠it:=fun b u e z=>by rw [z,hn] at e;cases e
 refine I.step (g' :=s.gens) (d' :=s.drawn) (ch:= [it]) (fun b hb=> ?_) (fun b o _ _ hc e _=>k b o (fun z=>hc (by simp [z])) e) (fun b o _ _ hc e _=>⟨o.slots,k b o (fun z=>hc (by simp [z])) e⟩) (fun _ _ _ _ n=>n)
  (fun b o hc e=>⟨o,k b o (fun z=>hc (by simp [z])) e⟩) (fun _ _ e=>e) (fun _ _ _ e=>e) (fun b ps e=>⟨#[],by rw [e];simp⟩) (fun m hm=> ?_) (fun b u e=> ?_) I.bare
 ·have e:b=it:=by simpa using hb
  subst e
  exact⟨h1,hL,h2,h3⟩
 ·obtain⟨o,es,ep,ho,r⟩:=hm
  exact⟨o,es,ep,k _ o (Ne.symm hL) ho,r⟩
 ·refine(I.hok b u e).stay (fun c v hc q=>k c v ?_ q) (fun _ q=>q) fun _ _ q=>q
  rcases hc with z|z
  ·rw [z];exact nit b u e
  ·exact nit c _ z
theorem Inv.tok (I:Inv X pins σ H s) (t:Nat):Inv X pins σ H {s with toks:=t}:=I.un (h' :=s.heap) (t' :=t) Un.refl I.hok
theorem Inv.kept {t' :Nat} (I:Inv X pins σ H s) (k: ∀b u,s.heap.get? b=some u→h'.get? b=some u):Inv X pins σ H {s with heap:=h',toks:=t'}:=I.un (Un.kept k) (I.hok.kept k)
theorem Inv.laid {a:Addr} {o:HO} {t' :Nat} (I:Inv X pins σ H s) (k: ∀b u,s.heap.get? b=some u→h'.get? b=some u) (hp:s.heap.objs.size≤a) (new:ObjOk X.prog X.w (upd H a o) h' a o):
 Inv X pins σ (upd H a o) {s with heap:=h',toks:=t'}:=I.un (Un.laid k hp (I.hok.fresh hp)) (I.hok.laid k hp new)
theorem Inv.write {x e:Addr} {o:HO} {t' :Nat} (I:Inv X pins σ H s) (mu:Mut (H x)) (he:e=x∨H e=some (.own x)) (k: ∀b u,b≠e→s.heap.get? b=some u→h'.get? b=some u) (heo: ∃u,h'.get? e=some u)
 (new:ObjOk X.prog X.w (upd H x o) h' x o):Inv X pins σ (upd H x o) {s with heap:=h',toks:=t'}:=I.un (Un.write mu he k heo) (I.hok.write mu he k heo new)
theorem Inv.weak {σ' :List (Option V)} (I:Inv X pins σ H s) (hl:σ'.length=σ.length) (w: ∀ (i:Nat) v,σ'[i]? =some (some v)→σ[i]? =some (some v)):Inv X pins σ' H s:=
 ⟨I.ok,I.os,I.bare,I.base,let ⟨m,hn,hl'⟩:=I.loc;⟨m,hn,fun i x v e1 e2 e3=>hl' i x v e1 (w i v e2) e3⟩,I.cell,I.free,I.freeC,I.pin,I.hok,hl.trans I.len⟩
theorem Inv.pins_of {pins' :List (Addr×Obj)} (I:Inv X pins σ H s) (h: ∀p∈pins',s.heap.get? p.1=some p.2∧H p.1=none∧p.1≠X.env.locals∧p.1 ∉ X.fs∧ ∀v,p.2.data≠ .cell v):Inv X pins' σ H s:=
 ⟨I.ok,I.os,I.bare,I.base,I.loc,I.cell,I.free,I.freeC,fun p hp=>(G0u.mp hp).elim (fun z=>I.pin p (G1v _ z)) (h p),I.hok,I.len⟩
theorem jfH {N:List Str} (hN:N.Nodup) {i j:Nat} {x:Str} (a:N[i]? =some x) (b:N[j]? =some x):i=j:=by
 obtain⟨h1,e1⟩:=G0k.mp a
 obtain⟨h2,e2⟩:=G0k.mp b
 exact(List.getElem_inj hN).mp (e1.trans e2.symm)
theorem jjk {M:Model} {A:Around} {E:Value→Shared→Prop} {i:Nat} {x:Str} {v:V} {u:Value} {Q:Unit→Shared→Prop} (I:Inv X pins σ H s) (hN:X.N.Nodup) (hi:X.N[i]? =some x) (hx:Loc X.env.scope x) (r:RelV v u)
 (h: ∀s',Inv X pins (σ.set i (some v)) H s' →(∃a,Heap.SameBut a s.heap s'.heap∧(a=X.env.locals∨X.env.cells.lookup x=some a))→Q () s') (hf:X.fn x=true∨X.env.scope.names.lookup x=some .local:=by first|exact .inl rfl|exact .inr rfl|assumption):wpAny M A (storeName X.env x u) Q E s:=by
 obtain⟨m,hn,hl⟩:=id I.loc
 have hcls:(X.env.scope.kind== .class||(X.env.scope.kind== .module&&X.env.locals !=X.env.globals))=false:=by rw [I.ok.kind];rfl
 have hiσ:i<σ.length:=by rw [I.len];exact(G0k.mp hi).1
 have cne:=I.cne
 have tracked: ∀ {a:Addr} {h' :Heap},(∃o,s.heap.get? a=some o∧H a=none)→Heap.SameBut a s.heap h' →HOk X.prog X.w H h' :=fun {a h'} ha hs b ob e=>by
  obtain⟨_,_,hfree⟩:=ha
  refine(I.hok b ob e).stay (fun c w' hc q=>(hs.2 c ?_).trans q) (fun _ q=>q) fun _ _ q=>q
  rintro rfl
  rcases hc with rfl|hc
  ·rw [hfree] at e;cases e
  ·rw [hfree] at hc;cases hc
 rcases hx with hk|hk
 ·refine wpAny_storeName_local hk hn (fun h' hn' hs=> ?_) hcls
  obtain⟨oL,_,_,hoL,_⟩:=id hn
  refine h _ ⟨I.ok,I.os,I.bare,⟨fun b o e n hb hx=> ?_,fun b o e n hb hx=> ?_,I.base.free,fun b o e hx=> ?_,I.base.tups,I.base.frzs,I.base.tbls⟩,⟨_,hn',fun j y v' e1 e2 e3=> ?_⟩,fun y c e=> ?_,I.free,I.freeC,fun p hp=> ?_,tracked ⟨oL,hoL,I.free⟩ hs,by simpa using I.len⟩ ⟨_,hs,.inl rfl⟩
  ·exact(hs.2 b (G0J (G0D (G0l e) I.ok.above))).trans (I.base.keep b o e n hb hx)
  ·obtain⟨sl,e1⟩:=I.base.slot b o e n hb hx
   exact⟨sl,(hs.2 b (G0J (G0D (G0l e) I.ok.above))).trans e1⟩
  ·obtain⟨o',e1⟩:=I.base.there b o e hx
   exact⟨o',(hs.2 b (G0J (G0D (G0l e) I.ok.above))).trans e1⟩
  ·by_cases hj:j=i
   ·subst hj
    rw [hi] at e1;cases e1
    rw [G2o hiσ] at e2
    cases e2
    exact⟨u,r,.inl ⟨hk,by simp⟩⟩
   ·rw [G1H (Ne.symm hj)] at e2
    obtain⟨u',r',q⟩:=hl j y v' e1 e2 e3
    refine⟨u',r',?_⟩
    rcases q with ⟨k,e⟩|⟨k,c,e,z⟩
    ·refine .inl ⟨k,?_⟩
     have:y≠x:=fun e=>hj (jfH hN e1 (e ▸ hi))
     simp [this,e]
    ·exact .inr ⟨k,c,e,z.sameBut hs (cne y c e)⟩
  ·obtain⟨w',z⟩:=I.cell y c e
   exact⟨w',z.sameBut hs (cne y c e)⟩
  ·obtain⟨e,n,ne,nf,d⟩:=I.pin p hp
   exact⟨(hs.2 p.1 ne).trans e,n,ne,nf,d⟩
 ·have hfn:X.fn x=true:=by
   rcases hf with z|z
   ·exact z
   ·rw [z] at hk;cases hk
  obtain⟨c,hc⟩:=I.ok.has x (.inl hk)
  obtain⟨w',z⟩:=I.cell x c hc
  refine wpAny_storeName_cell I.ok.kind hk hc z (fun h' hc' hs=> ?_)
  obtain⟨oc,hoc,hocd⟩:=id z
  refine h {s with heap:=h'} ⟨I.ok,I.os,I.bare,⟨fun b o e n hb hx=> ?_,fun b o e n hb hx=> ?_,I.base.free,fun b o e hx=> ?_,I.base.tups,I.base.frzs,I.base.tbls⟩,⟨m,hn.sameBut hs (Ne.symm (cne x c hc)),fun j y v' e1 e2 e3=> ?_⟩,fun y c' e=> ?_,I.free,I.freeC,fun p hp=> ?_,tracked ⟨oc,hoc,I.freeC x c hc⟩ hs,by simpa using I.len⟩ ⟨c,hs,.inr hc⟩
  ·exact(hs.2 b (G0J (G0D (G0l e) (I.ok.cab x c hfn hc)))).trans (I.base.keep b o e n hb hx)
  ·obtain⟨sl,e1⟩:=I.base.slot b o e n hb hx
   exact⟨sl,(hs.2 b (G0J (G0D (G0l e) (I.ok.cab x c hfn hc)))).trans e1⟩
  ·obtain⟨o',e1⟩:=I.base.there b o e hx
   exact⟨o',(hs.2 b (G0J (G0D (G0l e) (I.ok.cab x c hfn hc)))).trans e1⟩
  ·by_cases hj:j=i
   ·subst hj
    rw [hi] at e1;cases e1
    rw [G2o hiσ] at e2
    cases e2
    exact⟨u,r,.inr ⟨.inl hk,c,hc,hc'⟩⟩
   ·rw [G1H (Ne.symm hj)] at e2
    obtain⟨u',r',q⟩:=hl j y v' e1 e2 e3
    refine⟨u',r',?_⟩
    rcases q with q|⟨k,c',e,z'⟩
    ·exact .inl q
    ·refine .inr ⟨k,c',e,z'.sameBut hs ?_⟩
     rintro rfl
     exact hj (jfH hN e1 (I.ok.inj _ _ _ e hc ▸ hi))
  ·by_cases hcc:c' =c
   ·subst hcc;exact⟨_,hc'⟩
   ·obtain⟨w2,z2⟩:=I.cell y c' e
    exact⟨w2,z2.sameBut hs hcc⟩
  ·obtain⟨e,n,ne,nf,d⟩:=I.pin p hp
   refine⟨(hs.2 p.1 ?_).trans e,n,ne,nf,d⟩
   intro q
   rw [q,hoc] at e
   have q' :oc=p.2:=G1y e
   exact d w' (by rw [←q'];exact hocd)
theorem jcj {M:Model} {A:Around} {E:Value→Shared→Prop} {i:Nat} {x:Str} {v:V} {u:Value} {Q:Unit→Shared→Prop} (I:Inv X pins σ H s) (hN:X.N.Nodup) (hi:X.N[i]? =some x) (hx:Loc X.env.scope x) (r:RelV v u)
 (h: ∀s',Inv X pins (σ.set i (some v)) H s' →Q () s') (hf:X.fn x=true∨X.env.scope.names.lookup x=some .local:=by first|exact .inl rfl|exact .inr rfl|assumption):wpAny M A (storeName X.env x u) Q E s:=
 jjk I hN hi hx r (fun s' I' _=>h s' I') hf
theorem Inv.call' {s' :Shared} {ch:List Addr} (I:Inv X pins σ H s) (ho:s'.os=s.os) (u:Un (frs X.stack) ch H H' s.heap s'.heap) (hok:HOk X.prog X.w H' s'.heap) (hg:AllBare s'.gens)
 (hch: ∀b∈ch,(b∈X.ex∨X.s₀.heap.objs.size≤b)∧b≠X.env.locals∧(∀x c,X.env.cells.lookup x=some c→c≠b)∧ ∀p∈X.pn++pins,p.1≠b):Inv X pins σ H' s' :=by
 obtain⟨h',g',d',t',o'⟩:=s'
 have e:o' =s.os:=ho
 subst e
 exact I.call (g' :=g') (t' :=t') (d' :=d') u hok hg hch
end
abbrev XK:=Value→Option Addr→Hp→Prop
abbrev St:=List (Option V)
abbrev VK:=V→Hp→Prop
abbrev TE:=St→Hp→VK→Prop
abbrev TT:=St→Hp→(Bool→Hp→Prop)→Prop
abbrev TA:=St→Hp→(List V→Hp→Prop)→Prop
structure Ends where
 nx:St→Hp→Prop
 rt:VK
 bk:St→Hp→Prop:=fun _ _=>False
 ct:St→Hp→Prop:=fun _ _=>False
abbrev TS:=Ends→St→Hp→Prop
def EP (X:Cx) (pins:List (Addr×Obj)) (σ:St) (Q:VK) (u:Value) (s' :Shared):Prop:= ∃v H',Inv X pins σ H' s' ∧RelV v u∧Q v H'
def TP (X:Cx) (pins:List (Addr×Obj)) (σ:St) (Q:Bool→Hp→Prop) (b:Bool) (s' :Shared):Prop:= ∃H',Inv X pins σ H' s' ∧Q b H'
def AP (X:Cx) (pins:List (Addr×Obj)) (σ:St) (Q:List V→Hp→Prop) (us:List Value) (s' :Shared):Prop:= ∃vs H',Inv X pins σ H' s' ∧Vals vs us∧Q vs H'
def SP (X:Cx) (pins:List (Addr×Obj)) (D:Ends) (f:Flow) (s' :Shared):Prop:=
 match f with
 | .next=> ∃σ' H',Inv X pins σ' H' s' ∧D.nx σ' H'
 | .brk=> ∃σ' H',Inv X pins σ' H' s' ∧D.bk σ' H'
 | .cont=> ∃σ' H',Inv X pins σ' H' s' ∧D.ct σ' H'
 | .ret u=> ∃v σ' H',Inv X pins σ' H' s' ∧RelV v u∧D.rt v H'
def PE (X:Cx) (e:Expr) (t:TE):Prop:=
 ∀ (pins:List (Addr×Obj)) (s:Shared) (σ:St) (H:Hp) (Q:VK),Inv X pins σ H s→t σ H Q→wpAny (model X.prog X.w) X.A (eval e X.env) (EP X pins σ Q) X.xe s
def PT (X:Cx) (e:Expr) (t:TT):Prop:=
 ∀ (pins:List (Addr×Obj)) (s:Shared) (σ:St) (H:Hp) (Q:Bool→Hp→Prop),Inv X pins σ H s→t σ H Q→wpAny (model X.prog X.w) X.A (isTrue e X.env (eval e X.env)) (TP X pins σ Q) X.xe s
def PW (X:Cx) (e:Expr) (t:TT):Prop:=
 ∀ (whole:Sem Value) (pins:List (Addr×Obj)) (s:Shared) (σ:St) (H:Hp) (Q:Bool→Hp→Prop),Inv X pins σ H s→t σ H Q→wpAny (model X.prog X.w) X.A (isTrue e X.env whole) (TP X pins σ Q) X.xe s
theorem PW.pt {X:Cx} {e:Expr} {t:TT} (h:PW X e t):PT X e t:=h _
def PA (X:Cx) (es:List Expr) (t:TA):Prop:=
 ∀ (pos:Pos) (pins:List (Addr×Obj)) (s:Shared) (σ:St) (H:Hp) (Q:List V→Hp→Prop),Inv X pins σ H s→t σ H Q→wpAny (model X.prog X.w) X.A (spliced (backTo pos (starEach es X.env))) (AP X pins σ Q) X.xe s
def PS (X:Cx) (st:Stmt) (t:TS):Prop:=
 ∀ (pins:List (Addr×Obj)) (s:Shared) (σ:St) (H:Hp) (D:Ends),Inv X pins σ H s→t D σ H→wpAny (model X.prog X.w) X.A (exec st X.env) (SP X pins D) X.xe s
def PSs (X:Cx) (st:List Stmt) (t:TS):Prop:=
 ∀ (pins:List (Addr×Obj)) (s:Shared) (σ:St) (H:Hp) (D:Ends),Inv X pins σ H s→t D σ H→wpAny (model X.prog X.w) X.A (execs st X.env) (SP X pins D) X.xe s
theorem thn {α:Type} {t:Sem α} {Q Q' :α→Shared→Prop} {M:Model} {A:Around} {E:Value→Shared→Prop} {s:Shared} (h:wpAny M A t Q E s) (hQ: ∀a s,Q a s→Q' a s):wpAny M A t Q' E s:=G0H h hQ fun _ _ x=>x
section
variable {X:Cx}
def jq6 (i:Nat):TE:=fun σ H Q=> ∃v,σ[i]? =some (some v)∧Q v H
def tC (v:V):TE:=fun _ H Q=>Q v H
theorem jmf {i:Nat} {x:Str} {pos:Pos} (hN:X.N[i]? =some x) (hv:Vis X.env.scope x) (hd:(x==("__debug__" :Str))=false:=by decide) (hcd:(x==("__classdict__" :Str))=false:=by decide):PE X (.Name x pos) (jq6 i):=by
 intro pins s σ H Q I h
 obtain⟨v,e,h⟩:=h
 obtain⟨m,hn,hl⟩:=I.loc
 obtain⟨u,r,l⟩:=hl i x v hN e hv
 have fin:EP X pins σ Q u s:=⟨v,H,I,r,h⟩
 rcases l with ⟨hk,hm⟩|⟨hk,c,hc,hcell⟩
 ·exact wpAny_Name (wpAny_loadName_local I.ok.kind hk hn hm fin) hd
 ·rcases hk with hk|hk
  ·exact wpAny_Name (wpAny_loadName_cell I.ok.kind hk hc hcell fin) hd
  ·exact wpAny_Name (wpAny_loadName_free I.ok.kind hk hc hcell fin hcd) hd
theorem pe_int {i j pos}:PE X (.Constant (.int i) j pos) (tC (.int i)):=fun _ _ _ H _ I h=>wpAny_Constant_int ⟨.int i,H,I.tok _,⟨_,rfl⟩,h⟩
theorem pe_bl {b j pos}:PE X (.Constant (.bool b) j pos) (tC (.bl b)):=fun _ _ _ H _ I h=>Constant_bool ⟨.bl b,H,I,rfl,h⟩
theorem pe_str {x j pos}:PE X (.Constant (.str x) j pos) (tC (.str x)):=fun _ _ _ H _ I h=>Calls.Constant_str ⟨.str x,H,I.tok _,⟨_,rfl⟩,h⟩
def Gl (X:Cx) (x:Str):Prop:=X.env.kindOf x=some .globalImplicit
theorem jdD {E:Value→Shared→Prop} {pins:List (Addr×Obj)} {s:Shared} {σ:St} {H:Hp} {x:Str} {u:Value} {pos:Pos} {Q:Value→Shared→Prop} (I:Inv X pins σ H s) (hg:Gl X x) (hm:X.mg x=some u) (h:Q u s)
 (hd:(x==("__debug__" :Str))=false:=by decide):wpAny (model X.prog X.w) X.A (eval (.Name x pos) X.env) Q E s:=
 Calls.Name_function_global I.ok.kind hg (Calls.loadGlobal_global (by rw [I.ok.glob];exact I.mod.glob.keeps I.bk) hm h) hd
theorem jef {E:Value→Shared→Prop} {pins:List (Addr×Obj)} {s:Shared} {σ:St} {H:Hp} {x:Str} {u:Value} {pos:Pos} {Q:Value→Shared→Prop} (I:Inv X pins σ H s) (hg:Gl X x) (hm:X.mg x=none) (hv:bootBuiltins x=some u) (h:Q u s)
 (hn:x≠ "__name__" :=by decide) (hd:(x==("__debug__" :Str))=false:=by decide):wpAny (model X.prog X.w) X.A (eval (.Name x pos) X.env) Q E s:=by
 obtain⟨mb,h1,h2⟩:=I.mod.blt
 exact Calls.Name_function_global I.ok.kind hg (Calls.loadGlobal_builtin (by rw [I.ok.glob];exact I.mod.glob.keeps I.bk) hm (by rw [I.ok.blt];exact h1.keeps I.bk) ((h2 x hn).trans hv) h) hd
theorem jjl {x:Str} {v:V} {u:Value} {pos:Pos} (hg:Gl X x) (hm:X.mg x=some u) (r:RelV v u) (hd:(x==("__debug__" :Str))=false:=by decide):PE X (.Name x pos) (tC v):=
 fun _ _ _ H _ I h=>jdD I hg hm ⟨v,H,I,r,h⟩ hd
theorem jjm {x:Str} {v:V} {u:Value} {pos:Pos} (hg:Gl X x) (hm:X.mg x=none) (hv:bootBuiltins x=some u) (r:RelV v u) (hn:x≠ "__name__" :=by decide) (hd:(x==("__debug__" :Str))=false:=by decide):PE X (.Name x pos) (tC v):=
 fun _ _ _ H _ I h=>jef I hg hm hv ⟨v,H,I,r,h⟩ hn hd
variable {a b:Expr} {ta tb:TE} {pos:Pos}
theorem jk9 (b:Expr) {op:CmpOp} (h:op≠ .In) (h2:op≠ .NotIn):behindInMarks op b=false:=by
 have e1:(op==CmpOp.In)=false:=by cases op<;>first|rfl|exact absurd rfl h
 have e2:(op==CmpOp.NotIn)=false:=by cases op<;>first|rfl|exact absurd rfl h2
 cases b<;>simp [behindInMarks,e1,e2]
def tB (t:TE):TT:=fun σ H Q=>t σ H fun x H1=> ∃c,x= .bl c∧Q c H1
theorem joS {e:Expr} {t:TE} (h:PE X e t) (he: ∀whole,isTrue e X.env whole=(do let v ←whole;standAt e.pos;holding [v] (truthy v)):=by intro _;rfl):PT X e (tB t):=by
 intro pins s σ H Q I hw
 refine isTrue_plain (thn (h pins s σ H _ I hw) fun v s1 ⟨x,H1,I1,r1,q1⟩=> ?_) (he _)
 obtain⟨d,rfl,q⟩:=q1
 cases r1
 exact G1O ⟨H1,I1,q⟩
variable {tA tB' :TT} {rest:List Expr}
def jr6 (t u:TT):TT:=fun σ H Q=>t σ H fun c H1=>if c=true then u σ H1 Q else Q false H1
def tOr (t u:TT):TT:=fun σ H Q=>t σ H fun c H1=>if c=true then Q true H1 else u σ H1 Q
def jr7 (t:TT):TT:=fun σ H Q=>t σ H fun c H1=>Q (!c) H1
theorem jmQ (ha:PT X a tA):PW X (.BoolOp .And [a] pos) tA:=by
 intro wh pins s σ H Q I h
 refine isTrue_and (thn (ha pins s σ H Q I h) fun c s1 e=> ?_)
 cases c with
 |true=>exact isTrue_and_nil e
 |false=>exact e
theorem joT (ha:PT X a tA):PW X (.BoolOp .Or [a] pos) tA:=by
 intro wh pins s σ H Q I h
 refine isTrue_or (thn (ha pins s σ H Q I h) fun c s1 e=> ?_)
 cases c with
 |false=>exact isTrue_or_nil e
 |true=>exact e
theorem joU (ha:PT X a tA) (hb:PW X (.BoolOp .And (b::rest) pos) tB'):PW X (.BoolOp .And (a::b::rest) pos) (jr6 tA tB'):=by
 intro wh pins s σ H Q I h
 refine isTrue_and (thn (ha pins s σ H _ I h) fun c s1 ⟨H1,I1,q1⟩=> ?_)
 cases c with
 |true=>exact hb wh pins s1 σ H1 Q I1 q1
 |false=>exact⟨H1,I1,q1⟩
theorem jq7 (ha:PT X a tA) (hb:PW X (.BoolOp .Or (b::rest) pos) tB'):PW X (.BoolOp .Or (a::b::rest) pos) (tOr tA tB'):=by
 intro wh pins s σ H Q I h
 refine isTrue_or (thn (ha pins s σ H _ I h) fun c s1 ⟨H1,I1,q1⟩=> ?_)
 cases c with
 |true=>exact⟨H1,I1,q1⟩
 |false=>exact hb wh pins s1 σ H1 Q I1 q1
theorem joV (ha:PT X a tA):PT X (.UnaryOp .Not a pos) (jr7 tA):=by
 intro pins s σ H Q I h
 exact isTrue_not (ha pins s σ H (fun c H1=>Q (!c) H1) I h)
def joW (ta tb:TE):TE:=fun σ H Q=>ta σ H fun x H1=> ∃c,x= .bl c∧if c=true then tb σ H1 Q else Q (.bl false) H1
def jr8 (ta tb:TE):TE:=fun σ H Q=>ta σ H fun x H1=> ∃c,x= .bl c∧if c=true then Q (.bl true) H1 else tb σ H1 Q
def joX (ta:TE):TE:=fun σ H Q=>ta σ H fun x H1=> ∃c,x= .bl c∧Q (.bl (!c)) H1
theorem joY {op} {t:TE} (h:PE X a t):PE X (.BoolOp op [a] pos) t:=fun pins s σ H Q I hw=>BoolOp_one (h pins s σ H Q I hw)
theorem joZ (ha:PE X a ta) (hb:PE X (.BoolOp .And (b::rest) pos) tb):PE X (.BoolOp .And (a::b::rest) pos) (joW ta tb):=by
 intro pins s σ H Q I h
 refine BoolOp_and (thn (ha pins s σ H _ I h) fun v s1 ⟨x,H1,I1,r1,q1⟩=> ?_)
 obtain⟨c,rfl,q1⟩:=q1
 cases r1
 refine G1O ?_
 cases c with
 |true=>exact hb pins s1 σ H1 Q I1 q1
 |false=>exact⟨.bl false,H1,I1,rfl,q1⟩
theorem jq8 (ha:PE X a ta) (hb:PE X (.BoolOp .Or (b::rest) pos) tb):PE X (.BoolOp .Or (a::b::rest) pos) (jr8 ta tb):=by
 intro pins s σ H Q I h
 refine BoolOp_or (thn (ha pins s σ H _ I h) fun v s1 ⟨x,H1,I1,r1,q1⟩=> ?_)
 obtain⟨c,rfl,q1⟩:=q1
 cases r1
 refine G1O ?_
 cases c with
 |false=>exact hb pins s1 σ H1 Q I1 q1
 |true=>exact⟨.bl true,H1,I1,rfl,q1⟩
theorem jo0 (ha:PE X a ta):PE X (.UnaryOp .Not a pos) (joX ta):=by
 intro pins s σ H Q I h
 refine UnaryOp_ (thn (ha pins s σ H _ I h) fun v s1 ⟨x,H1,I1,r1,q1⟩=> ?_)
 obtain⟨c,rfl,q1⟩:=q1
 cases r1
 exact not_of (G1O ⟨.bl (!c),H1,I1,rfl,q1⟩)
def tIf (t:TT) (ta tb:TE):TE:=fun σ H Q=>t σ H fun c H1=>if c=true then ta σ H1 Q else tb σ H1 Q
theorem jla {c:Expr} (hc:PT X c tA) (ha:PE X a ta) (hb:PE X b tb):PE X (.IfExp c a b pos) (tIf tA ta tb):=by
 intro pins s σ H Q I h
 refine wpAny_IfExp (thn (hc pins s σ H _ I h) fun d s1 ⟨H1,I1,q1⟩=> ?_)
 cases d with
 |true=>exact ha pins s1 σ H1 Q I1 q1
 |false=>exact hb pins s1 σ H1 Q I1 q1
end
def SqL (K:PySem.W.Frag) (H:Hp) (a:Addr) (xs:List V):Prop:=
 Rd H a (.lst xs)∨
  ∃ (o:Obj) (its:Array Value) (n:Nat),K.lookup a=some o∧o.cls= .type "list" ∧o.dict=none∧o.data= .seq its n∧its.size≤sizeLine∧Vals xs its.toList
def SqT (K:PySem.W.Frag) (H:Hp) (a:Addr) (xs:List V):Prop:=
 Rd H a (.tup xs)∨
  ∃ (o:Obj) (its:Array Value) (n:Nat),K.lookup a=some o∧o.cls= .type "tuple" ∧o.data= .seq its n∧its.size≤sizeLine∧Vals xs its.toList
def jsC:Value→Option V
 | .none=>some .non
 | .bool b=>some (.bl b)
 | .int i _=>some (.int i)
 | .str x _=>some (.str x)
 | .bytes b _=>some (.byt b)
 | .float b _=>some (.flt b)
 | .ref a=>some (.ref a)
 | .type n=>some (.ty n)
 |_=>none
theorem RelV.abs {x:V} {u:Value} (r:RelV x u):jsC u=some x:=by
 cases x with
 |non=>cases r;rfl
 |bl _=>cases r;rfl
 |int _=>obtain⟨t,rfl⟩:=r;rfl
 |str _=>obtain⟨t,rfl⟩:=r;rfl
 |byt _=>obtain⟨t,rfl⟩:=r;rfl
 |flt _=>obtain⟨t,rfl⟩:=r;rfl
 |ref _=>cases r;rfl
 |ty _=>cases r;rfl
theorem RelV.inj {x y:V} {u:Value} (r:RelV x u) (q:RelV y u):x=y:=G1y (r.abs.symm.trans q.abs)
theorem Vals.inj: ∀ {xs ys:List V} {us:List Value},Vals xs us→Vals ys us→xs=ys
 |_,_,_,.nil,.nil=>rfl
 |_,_,_,.cons r t,.cons r' t' =>by rw [r.inj r',Vals.inj t t']
section
variable {X:Cx} {pins:List (Addr×Obj)} {σ:St} {H:Hp} {s:Shared} {a:Addr} {xs ys:List V}
theorem SqL.of {K:PySem.W.Frag} (h:H a=some (.lst xs)):SqL K H a xs:= .inl (.inl h)
theorem SqT.of {K:PySem.W.Frag} (h:H a=some (.tup xs)):SqT K H a xs:= .inl (.inl h)
theorem Inv.list (I:Inv X pins σ H s) (h:SqL X.K H a xs): ∃its:List Value,Vals xs its∧PlainL s.heap a its.toArray∧xs.length≤sizeLine:=by
 rcases h with h|⟨o,its,n,hk,hc,hd,hs,hz,r⟩
 ·obtain⟨z,its,n,r,e⟩:=h.ok I.hok
  exact⟨its,r,⟨_,n,e,rfl,rfl,rfl⟩,z⟩
 ·refine⟨its.toList,r,⟨o,n,I.kIn a o hk,hc,hd,by simpa using hs⟩,?_⟩
  have e:=r.length
  simp only [G0m] at e
  omega
theorem Inv.tuple (I:Inv X pins σ H s) (h:SqT X.K H a xs): ∃its:List Value,Vals xs its∧IsTup s.heap a its.toArray∧xs.length≤sizeLine:=by
 rcases h with h|⟨o,its,n,hk,hc,hs,hz,r⟩
 ·obtain⟨z,its,r,p⟩:=h.ok I.hok
  exact⟨its,r,p.tup,z⟩
 ·refine⟨its.toList,r,⟨o,I.kIn a o hk,hc,n,by simpa using hs⟩,?_⟩
  have e:=r.length
  simp only [G0m] at e
  omega
theorem Inv.list_inj (I:Inv X pins σ H s) (h:SqL X.K H a xs) (h' :SqL X.K H a ys):xs=ys:=by
 obtain⟨its,r,⟨o,n,e,_,_,d⟩,_⟩:=I.list h
 obtain⟨its',r',⟨o',n',e',_,_,d'⟩,_⟩:=I.list h'
 rw [e] at e';cases e'
 rw [d] at d'
 injection d' with d1 _
 have:its=its' :=by simpa using congrArg Array.toList d1
 subst this
 exact r.inj r'
theorem Inv.tuple_inj (I:Inv X pins σ H s) (h:SqT X.K H a xs) (h' :SqT X.K H a ys):xs=ys:=by
 obtain⟨its,r,⟨o,e,_,n,d⟩,_⟩:=I.tuple h
 obtain⟨its',r',⟨o',e',_,n',d'⟩,_⟩:=I.tuple h'
 rw [e] at e';cases e'
 rw [d] at d'
 injection d' with d1 _
 have:its=its' :=by simpa using congrArg Array.toList d1
 subst this
 exact r.inj r'
end
abbrev Cx.wish (X:Cx) (E:Value→Shared→Prop):Cx:= {X with xe:=E}
abbrev Cx.nox (X:Cx):Cx:=X.wish fun _ _=>False
theorem Cx.Ok.wish {X:Cx} (ok:X.Ok) (E:Value→Shared→Prop):(X.wish E).Ok:=
 ⟨ok.mod,ok.kind,ok.glob,ok.blt,ok.above,ok.inj,ok.has,ok.cab,ok.hd,ok.frames,ok.stk,ok.exf,ok.bs,ok.bsz,ok.noex,ok.exfs,ok.funs,ok.frf⟩
theorem Cx.Ok.unwish {X:Cx} {E:Value→Shared→Prop} (ok:(X.wish E).Ok):X.Ok:=
 ⟨ok.mod,ok.kind,ok.glob,ok.blt,ok.above,ok.inj,ok.has,ok.cab,ok.hd,ok.frames,ok.stk,ok.exf,ok.bs,ok.bsz,ok.noex,ok.exfs,ok.funs,ok.frf⟩
section
variable {X:Cx} {pins:List (Addr×Obj)} {σ:St} {H:Hp} {s:Shared} {E:Value→Shared→Prop}
theorem Inv.wish (I:Inv X pins σ H s) (E:Value→Shared→Prop):Inv (X.wish E) pins σ H s:=⟨I.ok.wish E,I.os,I.bare,I.base,I.loc,I.cell,I.free,I.freeC,I.pin,I.hok,I.len⟩
theorem Inv.unwish (I:Inv (X.wish E) pins σ H s):Inv X pins σ H s:=⟨I.ok.unwish,I.os,I.bare,I.base,I.loc,I.cell,I.free,I.freeC,I.pin,I.hok,I.len⟩
theorem SP.unwish {D:Ends} {f:Flow} {s' :Shared} (h:SP (X.wish E) pins D f s'):SP X pins D f s' :=by
 cases f with
 |next=>obtain⟨σ',H',I,q⟩:=h;exact⟨σ',H',I.unwish,q⟩
 |brk=>obtain⟨σ',H',I,q⟩:=h;exact⟨σ',H',I.unwish,q⟩
 |cont=>obtain⟨σ',H',I,q⟩:=h;exact⟨σ',H',I.unwish,q⟩
 |ret u=>obtain⟨v,σ',H',I,r,q⟩:=h;exact⟨v,σ',H',I.unwish,r,q⟩
theorem PSs.nox {st:List Stmt} {t:TS} (h:PSs X.nox st t):PSs X st t:=fun pins s σ H D I hw=>
 G0H (h pins s σ H D (I.wish _) hw) (fun _ _ q=>q.unwish) fun _ _ z=>False.elim z
end
section
variable {X:Cx} {st:Stmt} {rest:List Stmt} {t u:TS} {e:Expr} {te:TE} {pos:Pos}
def jo1:TS:=fun D σ H=>D.nx σ H
def jr9 (t u:TS):TS:=fun D σ H=>t {D with nx:=u D} σ H
theorem pss_nil:PSs X [] jo1:=fun _ _ σ H _ I h=>G2U ⟨σ,H,I,h⟩
theorem jlb (h1:PS X st t) (h2:PSs X rest u):PSs X (st::rest) (jr9 t u):=by
 intro pins s σ H D I h
 refine G10 (thn (h1 pins s σ H {D with nx:=u D} I h) fun f s1 q=> ?_)
 cases f with
 |next=>
  obtain⟨σ',H',I',q⟩:=q
  exact h2 pins s1 σ' H' D I' q
 |ret v=>exact q
 |brk=>exact q
 |cont=>exact q
theorem jmR (h1:PS X st t):PSs X [st] t:=by
 intro pins s σ H D I h
 refine G10 (thn (h1 pins s σ H D I h) fun f s1 q=> ?_)
 cases f with
 |next=>exact G2U q
 |ret v=>exact q
 |brk=>exact q
 |cont=>exact q
theorem Inv.quiet {pins:List (Addr×Obj)} {σ:St} {H:Hp} {s:Shared} (I:Inv X pins σ H s):interactive X.env=false:=by simp [interactive,I.ok.kind]
def jo3 (te:TE):TS:=fun D σ H=>te σ H fun _ H1=>D.nx σ H1
theorem jmS (he:PE X e te) (hs:swapsWith e none pos.line X.env=pure false:=by rfl):PS X (.Expr e pos) (jo3 te):=by
 intro pins s σ H D I h
 exact wpAny_Expr_any (thn (he pins s σ H _ I h) fun v s1 ⟨x,H1,I1,r1,q1⟩=>⟨σ,H1,I1,q1⟩) I.quiet hs
def jsa (te:TE):TS:=fun D σ H=>te σ H D.rt
theorem jo4 (he:PE X e te):PS X (.Return (some e) pos) (jsa te):=by
 intro pins s σ H D I h
 exact wpAny_Return_some (thn (he pins s σ H _ I h) fun v s1 ⟨x,H1,I1,r1,q1⟩=>⟨x,σ,H1,I1,r1,q1⟩)
def jsb (c:TT) (t u:TS):TS:=fun D σ H=>c σ H fun b H1=>if b=true then t D σ H1 else u D σ H1
theorem jq9 {c:Expr} {a b:List Stmt} {tc:TT} (hc:PT X c tc) (ha:PSs X a t) (hb:PSs X b u):PS X (.If c a b pos) (jsb tc t u):=by
 intro pins s σ H D I h
 refine wpAny_If (thn (hc pins s σ H _ I h) fun d s1 ⟨H1,I1,q1⟩=> ?_)
 cases d with
 |true=>exact ha pins s1 σ H1 D I1 q1
 |false=>exact hb pins s1 σ H1 D I1 q1
end
abbrev TG:=V→St→Hp→(St→Hp→Prop)→Prop
abbrev TGs:=List V→St→Hp→(St→Hp→Prop)→Prop
def PG (X:Cx) (target:Expr) (t:TG):Prop:=
 ∀ (pins:List (Addr×Obj)) (s:Shared) (σ:St) (H:Hp) (v:V) (u:Value) (Q:St→Hp→Prop),Inv X pins σ H s→RelV v u→t v σ H Q→
  wpAny (model X.prog X.w) X.A (assign target X.env u) (fun _ s' => ∃σ' H',Inv X pins σ' H' s' ∧Q σ' H') X.xe s
def PGs (X:Cx) (ts:List Expr) (t:TGs):Prop:=
 ∀ (pins:List (Addr×Obj)) (s:Shared) (σ:St) (H:Hp) (vs:List V) (us:List Value) (Q:St→Hp→Prop),Inv X pins σ H s→Vals vs us→t vs σ H Q→
  wpAny (model X.prog X.w) X.A (assignInOrder ((assignEach ts X.env).map (·.2)) us) (fun _ s' => ∃σ' H',Inv X pins σ' H' s' ∧Q σ' H') X.xe s
abbrev jra:=V→V→V→Hp→(Hp→Prop)→Prop
def jsc (X:Cx) (t:jra):Prop:=
 ∀ (pins:List (Addr×Obj)) (s:Shared) (σ:St) (H:Hp) (o i v:V) (ov iv u:Value) (Q:Hp→Prop),Inv X pins σ H s→RelV o ov→RelV i iv→RelV v u→t o i v H Q→
  wpAny (model X.prog X.w) X.A (setItem ov iv u) (fun _ s' => ∃H',Inv X pins σ H' s' ∧Q H') X.xe s
section
variable {X:Cx} {pos:Pos}
def jcB (i:Nat):TG:=fun v σ H Q=>Q (σ.set i (some v)) H
theorem jc5 {i:Nat} {x:Str} (hN:X.N.Nodup) (hi:X.N[i]? =some x) (hx:Loc X.env.scope x) (hf:X.fn x=true∨X.env.scope.names.lookup x=some .local:=by first|exact .inl rfl|exact .inr rfl|assumption):PG X (.Name x pos) (jcB i):=by
 intro pins s σ H v u Q I r h
 exact wpAny_assign_Name (jcj I hN hi hx r (fun s' I' =>⟨_,H,I',h⟩) hf)
def jrb:TGs:=fun vs σ H Q=>vs= []∧Q σ H
def jjn (t:TG) (u:TGs):TGs:=fun vs σ H Q=> ∃v r,vs=v::r∧t v σ H fun σ' H' =>u r σ' H' Q
theorem jjo:PGs X [] jrb:=by
 intro pins s σ H vs us Q I r h
 obtain⟨e,h⟩:=h
 subst e
 cases r
 exact assignInOrder_nil ⟨σ,H,I,h⟩
theorem jd5 {e:Expr} {es:List Expr} {t:TG} {u:TGs} (h1:PG X e t) (h2:PGs X es u)
 (hs:(assignEach (e::es) X.env).map (·.2)=assign e X.env::(assignEach es X.env).map (·.2):=by rfl):PGs X (e::es) (jjn t u):=by
 intro pins s σ H vs us Q I r h
 obtain⟨v,vr,e1,h⟩:=h
 subst e1
 cases r with
 |cons r rr=>
  rw [hs]
  refine assignInOrder_cons (thn (h1 pins s σ H _ _ _ I r h) fun _ s1 ⟨σ1,H1,I1,q1⟩=> ?_)
  exact h2 pins s1 σ1 H1 _ _ Q I1 rr q1
def jrc (K:PySem.W.Frag) (n:Nat) (t:TGs):TG:=fun v σ H Q=> ∃a xs,v= .ref a∧SqT K H a xs∧xs.length=n∧t xs σ H Q
theorem jmg {es:List Expr} {k:Nat} {t:TGs} {n:Nat} (hc:X.calm=true) (h:PGs X es t)
 (hn:(assignEach es X.env).length=n:=by rfl) (hst:(assignEach es X.env).findIdx? (·.1)=none:=by rfl):PG X (.Tuple es k pos) (jrc X.K n t):=by
 intro pins s σ H v u Q I r hw
 obtain⟨a,xs,e1,hq,hl,hw⟩:=hw
 subst e1
 cases r
 obtain⟨its,rv,ht,hz⟩:=I.tuple hq
 refine assign_Tuple_tuple (I.ok.hd hc) ht (by simp [hn,←hl,rv.length]) hst fun h' hx=> ?_
 have I1:Inv X pins σ H {s with heap:=h'}:=I.kept (t' :=s.toks) fun b o e=>hx b o (G0J (G0l e)) e
 exact h pins _ σ H xs _ Q I1 (by simpa using rv) hw
def jsD (to ti:TE) (t:jra):TG:=fun v σ H Q=>to σ H fun o H1=>ti σ H1 fun i H2=>t o i v H2 fun H3=>Q σ H3
theorem jo6 {o i:Expr} {to ti:TE} {t:jra} (ho:PE X o to) (hi:PE X i ti) (hs:jsc X t)
 (ha: ∀v,assign (.Subscript o i pos) X.env v=(do
  let ov ←holding [v] (eval o X.env)
  let iv ←holding [v,ov] (eval i X.env)
  standAt pos
  holding [v,ov,iv] (setItem ov iv v)
  release [v,ov,iv] []):=by intro _;rfl):PG X (.Subscript o i pos) (jsD to ti t):=by
 intro pins s σ H v u Q I r h
 rw [ha]
 refine wpAny_bind (G1g (thn (ho pins s σ H _ I h) fun ov s1 ⟨x,H1,I1,r1,q1⟩=> ?_))
 refine wpAny_bind (G1g (thn (hi pins s1 σ H1 _ I1 q1) fun iv s2 ⟨y,H2,I2,r2,q2⟩=> ?_))
 refine wpAny_bind (G3e (wpAny_bind (G1g (thn (hs pins s2 σ H2 x y v ov iv u _ I2 r1 r2 r q2) fun _ s3 ⟨H3,I3,q3⟩=> ?_))))
 exact wpAny_release ⟨σ,H3,I3,q3⟩
def jmh (te:TE) (g:TG):TS:=fun D σ H=>te σ H fun x H1=>g x σ H1 D.nx
theorem jo7 {tg e:Expr} {te:TE} {g:TG} (he:PE X e te) (hg:PG X tg g) (hs:swapsWithSole [tg] e pos.line X.env=pure false:=by rfl) (hw:swappedStores [tg] e X.env=pure none:=by rfl)
 (h1:(assignEach [tg] X.env).map (·.2)= [assign tg X.env]:=by rfl):PS X (.Assign [tg] e pos) (jmh te g):=by
 intro pins s σ H D I h
 refine wpAny_Assign_stores (thn (he pins s σ H _ I h) fun v s1 ⟨x,H1,I1,r1,q1⟩=> ?_) hs hw
 rw [h1]
 exact thn (hg pins s1 σ H1 x v _ I1 r1 q1) fun _ s2 q=>q
theorem jo8 {i:Nat} {x:Str} {e:Expr} {te:TE} {pos' :Pos} (hN:X.N.Nodup) (hi:X.N[i]? =some x) (hx:Loc X.env.scope x) (he:PE X e te) (hs:swapsWith e (some (.Name x pos')) pos.line X.env=pure false:=by rfl) (hf:X.fn x=true∨X.env.scope.names.lookup x=some .local:=by first|exact .inl rfl|exact .inr rfl|assumption):
 PS X (.Assign [.Name x pos'] e pos) (jmh te (jcB i)):=by
 intro pins s σ H D I h
 refine wpAny_Assign_Name (thn (he pins s σ H _ I h) fun v s1 ⟨y,H1,I1,r1,q1⟩=> ?_) hs
 exact jcj I1 hN hi hx r1 (fun s2 I2=>⟨_,H1,I2,q1⟩) hf
def jsd (i j:Nat) (ta:TA):TS:=fun D σ H=>ta σ H fun vs H1=> ∃v w,vs= [v,w]∧D.nx ((σ.set i (some v)).set j (some w)) H1
theorem jo9 {i j:Nat} {x y:Str} {a b:Expr} {ta:TA} {px py pt:Pos} {kt k2 pt2} (hc:X.calm=true) (hN:X.N.Nodup) (hi:X.N[i]? =some x) (hj:X.N[j]? =some y) (hij:i≠j)
 (hx:X.env.scope.names.lookup x=some .local) (hy:X.env.scope.names.lookup y=some .local) (ha:PA X [a,b] ta)
 (hw:swappedStores [.Tuple [.Name x px,.Name y py] kt pt] (.Tuple [a,b] k2 pt2) X.env=pure (some [x,y]))
 (hs:swapsWithSole [.Tuple [.Name x px,.Name y py] kt pt] (.Tuple [a,b] k2 pt2) pos.line X.env=pure false:=by rfl):
 PS X (.Assign [.Tuple [.Name x px,.Name y py] kt pt] (.Tuple [a,b] k2 pt2) pos) (jsd i j ta):=by
 intro pins s σ H D I h
 rw [exec_Assign_arm]
 refine wpAny_bind (G3e ?_)
 rw [hs]
 refine wpAny_bind (G0e ?_)
 rw [if_neg (by decide)]
 refine wpAny_bind (Tuple_ (thn (ha _ pins s σ H _ I h) fun us s1 ⟨vs,H1,I1,r1,q1⟩=> ?_))
 obtain⟨v,w,e1,q1⟩:=q1
 subst e1
 obtain⟨u1,u2,rfl,rv,rw'⟩: ∃u1 u2,us= [u1,u2]∧RelV v u1∧RelV w u2:=by
  cases r1 with
  |cons p q=>
   cases q with
   |cons p' q' =>
    cases q'
    exact⟨_,_,rfl,p,p'⟩
 refine G2A ?_ (by show 2≤sizeLine;decide)
 have I2:Inv X pins σ H1 {s1 with heap:=s1.heap.push {cls:= .type "tuple",data:= .seq [u1,u2].toArray}}:=I1.kept (t' :=s1.toks) fun b o e=>G0b _ e
 rw [hw]
 refine wpAny_bind (G0e ?_)
 show wpAny (model X.prog X.w) X.A (do rule "assign.swapped-stores";let items ←unpackItems (.ref s1.heap.objs.size) 2 none;assignInOrder [fun v=>bindName X.env y v,fun v=>bindName X.env x v] items.reverse;pure Flow.next) _ _ _
 refine wpAny_bind (G3L (wpAny_bind (unpackItems_tuple (items:= #[u1,u2]) (I.ok.hd hc) (IsTup.new s1.heap _) fun h' hx' => ?_)))
 have I3:=I2.kept (h' :=h') (t' :=s1.toks) fun b o e=>hx' b o (G0J (G0l e)) e
 show wpAny _ _ (assignInOrder [fun v=>bindName X.env y v,fun v=>bindName X.env x v] [u2,u1] >>= fun _=>pure Flow.next) _ _ _
 refine wpAny_bind (assignInOrder_cons (wpAny_bindName (jcj I3 hN hj (.inl hy) rw' (fun s2 I4=> ?_) (.inr hy))))
 refine assignInOrder_cons (wpAny_bindName (jcj I4 hN hi (.inl hx) rv (fun s3 I5=>assignInOrder_nil (G0e ?_)) (.inr hx)))
 rw [List.set_comm _ _ (Ne.symm hij)] at I5
 exact⟨_,H1,I5,q1⟩
def jmi (c:TT) (tb:TS):TS:=fun D σ H=> ∃W:Nat→St→Hp→Prop,(∃m,W m σ H)∧ ∀m σ H,W m σ H→
 c σ H fun b H1=>if b=true then ∃N:St→Hp→Prop,(∀σ' H',N σ' H' → ∃m',m' <m∧W m' σ' H')∧tb {D with nx:=N,ct:=N,bk:=D.nx} σ H1 else D.nx σ H1
theorem jld {c:Expr} {body:List Stmt} {tc:TT} {tb:TS} (hp:PassesOwn (model X.prog X.w) X.A X.env X.xe) (hc:PT X c tc) (hb:PSs X body tb):PS X (.While c body [] pos) (jmi tc tb):=by
 intro pins s σ H D I h
 obtain⟨W,⟨m0,w0⟩,turn⟩:=h
 refine wpAny_While (codeAny_whileLoop (fun n s' => ∃σ' H',Inv X pins σ' H' s' ∧W n σ' H') ?_ m0 ⟨σ,H,I,w0⟩)
 rintro n s1 ⟨σ1,H1,I1,w1⟩
 refine G2B hp (thn (hc pins s1 σ1 H1 _ I1 (turn n σ1 H1 w1)) fun b s2 ⟨H2,I2,q2⟩=> ?_)
 cases b with
 |true=>
  obtain⟨N,hN,q2⟩:=q2
  rw [if_pos rfl]
  refine G2B hp (thn (hb pins s2 σ1 H2 _ I2 q2) fun f s3 q3=> ?_)
  cases f with
  |next=>
   obtain⟨σ3,H3,I3,n3⟩:=q3
   obtain⟨m',hm,w3⟩:=hN σ3 H3 n3
   exact⟨m',hm,σ3,H3,I3,w3⟩
  |cont=>
   obtain⟨σ3,H3,I3,n3⟩:=q3
   obtain⟨m',hm,w3⟩:=hN σ3 H3 n3
   exact⟨m',hm,σ3,H3,I3,w3⟩
  |brk=>exact q3
  |ret v=>exact q3
 |false=>
  rw [if_neg G0q]
  exact G2U ⟨σ1,H2,I2,q2⟩
end
structure It where
 go:Nat→Hp→Prop
 yld:Nat→Hp→V→Hp→Prop
 stop:Nat→Hp→Prop
def jjf (X:Cx) (pins:List (Addr×Obj)) (H:Hp) (b:Addr):Prop:=
 H b=none∧b≠X.env.locals∧b ∉ X.fs∧(b∈X.ex∨X.s₀.heap.objs.size≤b)∧(∀x c,X.env.cells.lookup x=some c→c≠b)∧ ∀p∈X.pn++pins,p.1≠b
theorem Inv.fpOk {X:Cx} {pins:List (Addr×Obj)} {σ:St} {H H' :Hp} {s:Shared} {b:Addr} (I:Inv X pins σ H s) (hb:s.heap.objs.size≤b) (hn:H' b=none):jjf X pins H' b:=by
 refine⟨hn,G2j (G0D I.lt hb),I.nofs hb,.inr (G0C I.sz hb),fun x c e z=> ?_,fun p hp z=> ?_⟩
 ·obtain⟨v,q⟩:=I.cell x c e
  exact absurd (G0D q.lt (by rw [z];exact hb)) (G0W _)
 ·exact absurd (G0D (G0l (I.pin p hp).1) (by rw [z];exact hb)) (G0W _)
structure Turn (P:Program) (w:World) (K:PySem.W.Frag) (tg:Expr) (J:It) (fp:List Addr) (it:Addr) (tn:Nat→Heap→Prop):Prop where
 mem:it∈fp
 obj: ∀i h,tn i h→ ∀b∈fp,∃o,h.get? b=some o∧ ∀v,o.data≠ .cell v
 keep: ∀i h h',tn i h→(∀b∈fp,∀o,h.get? b=some o→h'.get? b=some o)→tn i h'
 item: ∀ (X:Cx),X.prog=P→X.w=w→X.K=K→X.calm=true→ ∀ (i:Nat) (pins:List (Addr×Obj)) (s:Shared) (σ:St) (H:Hp) (E:Value→Shared→Prop),Inv X pins σ H s→(∀b∈fp,jjf X pins H b)→tn i s.heap→J.go i H→
  wpAny (model P w) X.A (pyNext (.ref it)) (fun r s1=> ∃u,r=some u∧
   wpAny (model P w) X.A (letOwnedTupleGo tg (.ref it) u) (fun _ s2=> ∃x H',Inv X pins σ H' s2∧RelV x u∧J.yld i H x H' ∧tn (i+1) s2.heap∧ ∀b∈fp,H' b=none) E s1) E s
 done: ∀ (X:Cx),X.prog=P→X.w=w→X.K=K→X.calm=true→ ∀ (i:Nat) (pins:List (Addr×Obj)) (s:Shared) (σ:St) (H:Hp) (E:Value→Shared→Prop),Inv X pins σ H s→(∀b∈fp,jjf X pins H b)→tn i s.heap→J.stop i H→
  wpAny (model P w) X.A (pyNext (.ref it)) (fun r s1=>r=none∧Inv X pins σ H s1) E s
 self: ∀ (A:Around) (i:Nat) (s:Shared) (Q:Value→Shared→Prop) (E:Value→Shared→Prop),tn i s.heap→Q (.ref it) s→wpAny (model P w) A (pyIter (.ref it)) Q E s
abbrev TI:=St→Hp→(It→Hp→Prop)→Prop
def PIE (X:Cx) (pins:List (Addr×Obj)) (σ:St) (tg:Expr) (R:It→Hp→Prop) (itv:Value) (s2:Shared):Prop:=
 ∃ (it:Addr) (fp:List Addr) (tn:Nat→Heap→Prop) (J:It) (H' :Hp),itv= .ref it∧Inv X pins σ H' s2∧Turn X.prog X.w X.K tg J fp it tn∧tn 0 s2.heap∧(∀b∈fp,jjf X pins H' b)∧R J H'
def PI (X:Cx) (tg iter:Expr) (wi:TI):Prop:=
 ∀ (pins:List (Addr×Obj)) (s:Shared) (σ:St) (H:Hp) (R:It→Hp→Prop),Inv X pins σ H s→wi σ H R→
  wpAny (model X.prog X.w) X.A (eval iter X.env) (fun v s1=>wpAny (model X.prog X.w) X.A (pyIter v) (PIE X pins σ tg R) X.xe s1) X.xe s
theorem jmT {M : Model} {A : Around} {E : Value → Shared → Prop} {s : Shared} {tg : Expr} {it : Addr} {u : Value} {o : Obj} {n : String} {vs : Array Value} {Q : Unit → Shared → Prop} (ho : s.heap.get? it = some o) (hc : o.cls = .type n) (hd : o.data = .fields vs)
    (hn : ["enumerate", "zip", "dict_itemiterator", "dict_reverseitemiterator", "odict_iterator", "itertools.zip_longest", "itertools.pairwise"].contains n = false) (hQ : Q () s) : wpAny M A (letOwnedTupleGo tg (.ref it) u) Q E s := by
  unfold letOwnedTupleGo
  cases tg <;> first
    | exact G0e hQ
    | (cases u <;> first
        | exact G0e hQ
        | (refine wpAny_bind (wpAny_load ho ?_)
           rw [hc, hd]
           show wpAny M A (if (["enumerate", "zip", "dict_itemiterator", "dict_reverseitemiterator", "odict_iterator", "itertools.zip_longest", "itertools.pairwise"].contains n && vs[0]? == some (rawInt _)) = true then _ else _) Q E s
           rw [if_neg (by intro h; rw [hn, Bool.false_and] at h; cases h)]
           exact G0e hQ))
def Itl (K:PySem.W.Frag) (a:Addr):It:=
 ⟨fun i H=> ∃xs x,SqL K H a xs∧xs[i]? =some x,fun i H x H' =>H' =H∧ ∀xs,SqL K H a xs→xs[i]? =some x,fun i H=> ∃xs,SqL K H a xs∧xs.length≤i⟩
def Itt (K:PySem.W.Frag) (a:Addr):It:=
 ⟨fun i H=> ∃xs x,SqT K H a xs∧xs[i]? =some x,fun i H x H' =>H' =H∧ ∀xs,SqT K H a xs→xs[i]? =some x,fun i H=> ∃xs,SqT K H a xs∧xs.length≤i⟩
def Itr (lo:Int) (n:Nat):It:=⟨fun i _=>i<n,fun i H x H' =>H' =H∧x= .int (lo+i),fun i _=>n≤i⟩
theorem jgx {P:Program} {w:World} {K:PySem.W.Frag} {tg:Expr} (a it:Addr):Turn P w K tg (Itl K a) [it] it (fun i h=>h.IsListIter it a i) where
 mem:=by simp
 obj:=fun i h st b hb=>by
  have e:b=it:=by simpa using hb
  subst e
  obtain⟨o,e,c,d⟩:=st
  exact⟨o,e,fun v z=>by rw [d] at z;cases z⟩
 keep:=fun i h h' st k=>st.at fun o e=>k it (by simp) o e
 item:=by
  intro X hP hw hK hc i pins s σ H E I hf st hg
  subst hP hw hK
  obtain⟨xs,x,hq,hx⟩:=hg
  obtain⟨its,rv,p,hz⟩:=I.list hq
  obtain⟨u,hu,ru⟩:=rv.get hx
  obtain⟨f0,f1,f2,f3,f4,f5⟩:=hf it (by simp)
  refine wpAny_pyNext_list_item st p.isList (x:=u) (by simpa using hu) fun h' st' sb=> ?_
  have I1:Inv X pins σ H {s with heap:=h'}:=I.turned (t' :=s.toks) (fun b o hb e=>(sb.2 b hb).trans e) f0 f1 f3 f4 f5
  obtain⟨o,e,c,d⟩:=id st'
  exact⟨u,rfl,jmT (s:= {s with heap:=h'}) e c d (by decide) ⟨x,H,I1,ru,⟨rfl,fun ys hy=>by rw [I.list_inj hy hq];exact hx⟩,st',fun b hb=>(hf b hb).1⟩⟩
 done:=by
  intro X hP hw hK hc i pins s σ H E I hf st hg
  subst hP hw hK
  obtain⟨xs,hq,hx⟩:=hg
  obtain⟨its,rv,p,hz⟩:=I.list hq
  obtain⟨f0,f1,f2,f3,f4,f5⟩:=hf it (by simp)
  have hl:=rv.length
  exact wpAny_pyNext_list_end (I.ok.hd hc) st p.isList (by simp;omega) fun h' eb=>⟨rfl,I.turned (t' :=s.toks) (fun b o hb e=>eb b o hb e) f0 f1 f3 f4 f5⟩
 self:=fun _ _ _ _ _ st h=>wpAny_pyIter_listiter st h
theorem jiB {P:Program} {w:World} {K:PySem.W.Frag} {tg:Expr} (a it:Addr):Turn P w K tg (Itt K a) [it] it (fun i h=>h.IsTupleIter it a i) where
 mem:=by simp
 obj:=fun i h st b hb=>by
  have e:b=it:=by simpa using hb
  subst e
  obtain⟨o,e,c,d⟩:=st
  exact⟨o,e,fun v z=>by rw [d] at z;cases z⟩
 keep:=fun i h h' st k=>st.at fun o e=>k it (by simp) o e
 item:=by
  intro X hP hw hK hc i pins s σ H E I hf st hg
  subst hP hw hK
  obtain⟨xs,x,hq,hx⟩:=hg
  obtain⟨its,rv,p,hz⟩:=I.tuple hq
  obtain⟨u,hu,ru⟩:=rv.get hx
  obtain⟨f0,f1,f2,f3,f4,f5⟩:=hf it (by simp)
  refine wpAny_pyNext_tuple_item st (show s.heap.IsTuple a its.toArray from p) (x:=u) (by simpa using hu) fun h' st' sb=> ?_
  have I1:Inv X pins σ H {s with heap:=h'}:=I.turned (t' :=s.toks) (fun b o hb e=>(sb.2 b hb).trans e) f0 f1 f3 f4 f5
  obtain⟨o,e,c,d⟩:=id st'
  exact⟨u,rfl,jmT (s:= {s with heap:=h'}) e c d (by decide) ⟨x,H,I1,ru,⟨rfl,fun ys hy=>by rw [I.tuple_inj hy hq];exact hx⟩,st',fun b hb=>(hf b hb).1⟩⟩
 done:=by
  intro X hP hw hK hc i pins s σ H E I hf st hg
  subst hP hw hK
  obtain⟨xs,hq,hx⟩:=hg
  obtain⟨its,rv,p,hz⟩:=I.tuple hq
  obtain⟨f0,f1,f2,f3,f4,f5⟩:=hf it (by simp)
  have hl:=rv.length
  exact wpAny_pyNext_tuple_end (I.ok.hd hc) st (show s.heap.IsTuple a its.toArray from p) (by simp;omega) fun h' eb=>⟨rfl,I.turned (t' :=s.toks) (fun b o hb e=>eb b o hb e) f0 f1 f3 f4 f5⟩
 self:=fun _ _ _ _ _ st h=>wpAny_pyIter_tupleiter st h
theorem jiC {P:Program} {w:World} {K:PySem.W.Frag} {tg:Expr} (it:Addr) (lo:Int) (n:Nat):Turn P w K tg (Itr lo n) [it] it (fun i h=>IsRangeIter h it (lo+(i:Nat)*1) ((n:Int)-(i:Nat)) 1) where
 mem:=by simp
 obj:=fun i h st b hb=>by
  have e:b=it:=by simpa using hb
  subst e
  exact⟨_,st,fun v z=>by
   have z' :Data.fields _=Data.cell v:=z
   cases z'⟩
 keep:=fun i h h' st k=>k it (by simp) _ st
 item:=by
  intro X hP hw hK hc i pins s σ H E I hf st hg
  subst hP hw hK
  obtain⟨f0,f1,f2,f3,f4,f5⟩:=hf it (by simp)
  have W:=Walks.range (prog:=X.prog) (w:=X.w) (I.ok.hd hc) it lo 1 n
  refine W.item i s _ _ hg st fun v h' tk hv st' kk=> ?_
  obtain⟨t,rfl⟩:=hv
  have I1:Inv X pins σ H {s with heap:=h',toks:=tk}:=I.turned (fun b o hb e=>kk b o (by simpa using hb) e) f0 f1 f3 f4 f5
  refine⟨_,rfl,jmT (s:= {s with heap:=h',toks:=tk}) (n:= "range_iterator") st' rfl rfl (by decide) ⟨.int (lo+i),H,I1,⟨t,?_⟩,⟨rfl,rfl⟩,st',fun b hb=>(hf b hb).1⟩⟩
  rw [Int.mul_one]
 done:=by
  intro X hP hw hK hc i pins s σ H E I hf st hg
  subst hP hw hK
  obtain⟨f0,f1,f2,f3,f4,f5⟩:=hf it (by simp)
  exact wpAny_pyNext_range_end (I.ok.hd hc) st (by have:n≤i:=hg;omega) fun h' eb=>⟨rfl,I.turned (t' :=s.toks) (fun b o hb e=>eb b o hb e) f0 f1 f3 f4 f5⟩
 self:=fun _ _ _ _ _ st h=>wpAny_pyIter_rangeiter st h
section
variable {X:Cx} {tg:Expr}
def jpa (K:PySem.W.Frag) (tl:TE):TI:=fun σ H R=>tl σ H fun x H1=> ∃a,x= .ref a∧(∃xs,SqL K H1 a xs)∧R (Itl K a) H1
theorem jmU {l:Expr} {tl:TE} (hl:PE X l tl):PI X tg l (jpa X.K tl):=by
 intro pins s σ H R I h
 refine thn (hl pins s σ H _ I h) fun v s1 ⟨x,H1,I1,r1,q1⟩=> ?_
 obtain⟨a,e,⟨xs,hq⟩,q⟩:=q1
 subst e
 cases r1
 obtain⟨its,rv,p,hz⟩:=I1.list hq
 refine G2C p.isList ?_
 refine⟨s1.heap.objs.size,[s1.heap.objs.size],_,_,H1,rfl,I1.kept (t' :=s1.toks) fun b o e=>G0b _ e,jgx a _,⟨_,G0x _ rfl,rfl,rfl⟩,fun b hb=> ?_,q⟩
 have e:b=s1.heap.objs.size:=by simpa using hb
 subst e
 exact I1.fpOk (G0f _) (I1.hok.fresh (G0f _))
theorem jh0 {pins:List (Addr×Obj)} {σ:St} {H:Hp} {s:Shared} {R:It→Hp→Prop} {E:Value→Shared→Prop} {lo hi:Int} {t u v:Tok} {tk:Nat} (I:Inv X pins σ H s) (h1: -(2^62)≤lo) (h2:lo<2^62) (h3: -(2^62)≤hi) (h4:hi<2^62)
 (q:R (Itr lo (hi-lo).toNat) H):wpAny (model X.prog X.w) X.A (pyIter (.ref s.heap.objs.size)) (PIE X pins σ tg R) E {s with heap:=s.heap.push {cls:= .type "range",data:= .fields #[.int lo t,.int hi u,.int 1 v]},toks:=tk}:=by
 refine wpAny_pyIter_range (IsRange.new ..) (small_one h1 h2 h3 h4) ?_
 have I1:Inv X pins σ H {s with heap:=s.heap.push {cls:= .type "range",data:= .fields #[.int lo t,.int hi u,.int 1 v]},toks:=tk}:=I.kept fun b o e=>G0b _ e
 refine⟨(s.heap.push {cls:= .type "range",data:= .fields #[.int lo t,.int hi u,.int 1 v]}).objs.size,[(s.heap.push {cls:= .type "range",data:= .fields #[.int lo t,.int hi u,.int 1 v]}).objs.size],_,_,H,rfl,
  I1.kept (t' :=tk) fun b o e=>G0b _ e,jiC _ lo (hi-lo).toNat,?_,fun b hb=> ?_,q⟩
 ·have e1:lo+((0:Nat):Int)*1=lo:=by simp
  have e2:(((hi-lo).toNat:Nat):Int)-((0:Nat):Int)=Builtin.Range.rangeSize lo hi 1:=by rw [rangeSize_one];split<;>omega
  show IsRangeIter _ _ (lo+((0:Nat):Int)*1) ((((hi-lo).toNat:Nat):Int)-((0:Nat):Int)) 1
  rw [e1,e2]
  exact G0x _ rfl
 ·have e:b=(s.heap.push {cls:= .type "range",data:= .fields #[.int lo t,.int hi u,.int 1 v]}).objs.size:=by simpa using hb
  subst e
  exact I1.fpOk (G0f _) (I1.hok.fresh (G0f _))
def jpb (ta:TA):TI:=fun σ H R=>ta σ H fun vs H1=> ∃j:Int,vs= [.int j]∧ -(2^62)≤j∧j<2^62∧R (Itr 0 j.toNat) H1
def jpc (ta:TA):TI:=fun σ H R=>ta σ H fun vs H1=> ∃i j:Int,vs= [.int i,.int j]∧(-(2^62)≤i∧i<2^62∧ -(2^62)≤j∧j<2^62)∧R (Itr i (j-i).toNat) H1
theorem jjp {a:Expr} {ta:TA} {p pos:Pos} (hg:Gl X "range") (hm:X.mg "range" =none) (ha:PA X [a] ta) (hs:starEach [a] X.env= [(false,eval a X.env)]:=by rfl):PI X tg (.Call (.Name "range" p) [a] [] pos) (jpb ta):=by
 intro pins s σ H R I h
 refine Call_ (jef I hg hm boot_range (G2k (thn (ha pos pins s σ H _ I h) fun us s1 ⟨vs,H1,I1,r1,q1⟩=> ?_) hs rfl))
 obtain⟨j,e,q1,q2,q⟩:=q1
 subst e
 cases r1 with
 |cons r rr=>
  cases rr
  obtain⟨t,rfl⟩:=r
  exact call_range_1 (jh0 I1 (by omega) (by omega) q1 q2 (by simpa using q))
theorem jjq {a b:Expr} {ta:TA} {p pos:Pos} (hg:Gl X "range") (hm:X.mg "range" =none) (ha:PA X [a,b] ta) (hs:starEach [a,b] X.env= [(false,eval a X.env),(false,eval b X.env)]:=by rfl) (hs2:starEach [b] X.env= [(false,eval b X.env)]:=by rfl):
 PI X tg (.Call (.Name "range" p) [a,b] [] pos) (jpc ta):=by
 intro pins s σ H R I h
 refine Call_ (jef I hg hm boot_range (G2k (thn (ha pos pins s σ H _ I h) fun us s1 ⟨vs,H1,I1,r1,q1⟩=> ?_) (by rw [hs,hs2]) (by rw [hs2];rfl)))
 obtain⟨i,j,e,⟨q1,q2,q3,q4⟩,q⟩:=q1
 subst e
 cases r1 with
 |cons r rr=>
  cases rr with
  |cons r' rr=>
   cases rr
   obtain⟨t,rfl⟩:=r
   obtain⟨t',rfl⟩:=r'
   exact call_range_2 (jh0 I1 q1 q2 q3 q4 q)
def jse (wi:TI) (g:TG) (tb:TS):TS:=fun D σ H=>wi σ H fun J H1=> ∃W:Nat→Nat→St→Hp→Prop,(∃m,W 0 m σ H1)∧ ∀i m σ H,W i m σ H→
 (J.stop i H∧D.nx σ H)∨(J.go i H∧ ∃N:St→Hp→Prop,(∀σ' H',N σ' H' → ∃m',m' <m∧W (i+1) m' σ' H')∧ ∀x H',J.yld i H x H' →g x σ H' fun σ2 H2=>tb {D with nx:=N,ct:=N,bk:=D.nx} σ2 H2)
def jc2 (fp:List Addr) (h:Heap):List (Addr×Obj):=fp.filterMap fun b=>(h.get? b).map fun o=>(b,o)
theorem jbK {fp:List Addr} {h:Heap} {b:Addr} {o:Obj} (hb:b∈fp) (e:h.get? b=some o):(b,o)∈jc2 fp h:=G2s.mpr ⟨b,hb,by rw [e];rfl⟩
theorem jeg {fp:List Addr} {h:Heap} {p:Addr×Obj} (hp:p∈jc2 fp h):p.1∈fp∧h.get? p.1=some p.2:=by
 obtain⟨b,hb,e⟩:=G2s.mp hp
 cases q:h.get? b with
 |none=>rw [q] at e;cases e
 |some o=>
  rw [q] at e
  have e' :(b,o)=p:=G1y e
  subst e'
  exact⟨hb,q⟩
theorem Inv.pinned {pins:List (Addr×Obj)} {σ:St} {H:Hp} {s:Shared} {fp:List Addr} (I:Inv X pins σ H s) (hf: ∀b∈fp,jjf X pins H b) (ho: ∀b∈fp,∃o,s.heap.get? b=some o∧ ∀v,o.data≠ .cell v):Inv X (pins++jc2 fp s.heap) σ H s:=
 I.pins_of fun p hp=>(G0u.mp hp).elim (fun z=>I.pin p (G0v _ z)) fun z=>by
  obtain⟨hb,e⟩:=jeg z
  obtain⟨f0,f1,f2,_⟩:=hf p.1 hb
  obtain⟨o,e',d⟩:=ho p.1 hb
  rw [e] at e';cases e'
  exact⟨e,f0,f1,f2,d⟩
theorem Inv.unpinned {pins pl:List (Addr×Obj)} {σ:St} {H:Hp} {s:Shared} (I:Inv X (pins++pl) σ H s):Inv X pins σ H s:=I.pins_of fun p hp=>I.pin p (G0v _ (G1v _ hp))
theorem jpd {iter:Expr} {body:List Stmt} {wi:TI} {g:TG} {tb:TS} {pos:Pos} (hp:PassesOwn (model X.prog X.w) X.A X.env X.xe) (hc:X.calm=true) (hi:PI X tg iter wi) (hg:PG X tg g) (hb:PSs X body tb)
 (hs: ∀x,foldedSetIterable iter X.env x=pure x:=by intro _;rfl):PS X (.For tg iter body [] pos) (jse wi g tb):=by
 intro pins s σ H D I h
 refine wpAny_For (thn (hi pins s σ H _ I h) fun v s1 h1=>thn h1 fun itv s2 h2=> ?_) hs
 obtain⟨it,fp,tn,J,H2,e,I2,T,st2,f2,W,⟨m0,w0⟩,turn⟩:=h2
 subst e
 -- what stays true of the iterator's objects through the loop
 have stat: ∀ {H' :Hp},(∀b∈fp,H' b=none)→ ∀b∈fp,jjf X pins H' b:=fun hn b hb=>⟨hn b hb,(f2 b hb).2⟩
 refine codeAny_forLoop_any (fun n s' => ∃i σ' H',Inv X pins σ' H' s' ∧tn i s'.heap∧(∀b∈fp,H' b=none)∧W i n σ' H') ?_ m0 ⟨0,σ,H2,I2,st2,fun b hb=>(f2 b hb).1,w0⟩
 rintro n s3 ⟨i,σ3,H3,I3,st3,fr3,w3⟩
 rcases turn i n σ3 H3 w3 with ⟨stop,qn⟩|⟨go,N,hN,step⟩
 ·refine G2B hp (thn (T.done X rfl rfl rfl hc i pins s3 σ3 H3 X.xe I3 (stat fr3) st3 stop) fun r s4 ⟨hr,I4⟩=> ?_)
  subst hr
  exact G2U ⟨σ3,H3,I4,qn⟩
 ·refine G2B hp (thn (T.item X rfl rfl rfl hc i pins s3 σ3 H3 X.xe I3 (stat fr3) st3 go) fun r s4 ⟨u,hr,h4⟩=> ?_)
  subst hr
  refine G2B hp (thn h4 fun _ s5 ⟨x,H5,I5,r5,y5,st5,fr5⟩=> ?_)
  have I5' :=I5.pinned (stat fr5) (T.obj _ _ st5)
  refine G2B hp (thn (hg _ s5 σ3 H5 x u _ I5' r5 (step x H5 y5)) fun _ s6 ⟨σ6,H6,I6,q6⟩=> ?_)
  refine G2B hp (thn (hb _ s6 σ6 H6 _ I6 q6) fun f s7 q7=> ?_)
  have again: ∀ {σ7:St} {H7:Hp},Inv X (pins++jc2 fp s5.heap) σ7 H7 s7→N σ7 H7→ ∃m,m<n∧ ∃i σ' H',Inv X pins σ' H' s7∧tn i s7.heap∧(∀b∈fp,H' b=none)∧W i m σ' H' :=fun {σ7 H7} I7 n7=>by
   obtain⟨m',hm,w7⟩:=hN σ7 H7 n7
   refine⟨m',hm,i+1,σ7,H7,I7.unpinned,T.keep _ _ _ st5 fun b hb o e=>(I7.pin (b,o) (G0v _ (G0v _ (jbK hb e)))).1,fun b hb=> ?_,w7⟩
   obtain⟨o,e,d⟩:=T.obj _ _ st5 b hb
   exact(I7.pin (b,o) (G0v _ (G0v _ (jbK hb e)))).2.1
  cases f with
  |next=>obtain⟨σ7,H7,I7,n7⟩:=q7;exact again I7 n7
  |cont=>obtain⟨σ7,H7,I7,n7⟩:=q7;exact again I7 n7
  |brk=>obtain⟨σ7,H7,I7,q7⟩:=q7;exact⟨σ7,H7,I7.unpinned,q7⟩
  |ret v=>obtain⟨x7,σ7,H7,I7,r7,q7⟩:=q7;exact⟨x7,σ7,H7,I7.unpinned,r7,q7⟩
end
abbrev R2:=V→V→Hp→VK→Prop
def OpR (X:Cx) (f:Value→Value→Sem Value) (r:R2):Prop:=
 ∀ (pins:List (Addr×Obj)) (s:Shared) (σ:St) (H:Hp) (x y:V) (v u:Value) (Q:VK),Inv X pins σ H s→RelV x v→RelV y u→r x y H Q→
  wpAny (model X.prog X.w) X.A (f v u) (EP X pins σ Q) X.xe s
def UnR (X:Cx) (f:Value→Sem Value) (r:V→Hp→VK→Prop):Prop:=
 ∀ (pins:List (Addr×Obj)) (s:Shared) (σ:St) (H:Hp) (x:V) (v:Value) (Q:VK),Inv X pins σ H s→RelV x v→r x H Q→
  wpAny (model X.prog X.w) X.A (f v) (EP X pins σ Q) X.xe s
def CallR (X:Cx) (f:Value) (r:List V→Hp→VK→Prop):Prop:=
 ∀ (pins:List (Addr×Obj)) (s:Shared) (σ:St) (H:Hp) (xs:List V) (us:List Value) (Q:VK),Inv X pins σ H s→Vals xs us→r xs H Q→
  wpAny (model X.prog X.w) X.A (call f us) (EP X pins σ Q) X.xe s
def tOp (r:R2) (ta tb:TE):TE:=fun σ H Q=>ta σ H fun x H1=>tb σ H1 fun y H2=>r x y H2 Q
def tUn (r:V→Hp→VK→Prop) (ta:TE):TE:=fun σ H Q=>ta σ H fun x H1=>r x H1 Q
def rI (C:Int→Int→Prop) (g:Int→Int→V):R2:=fun x y H Q=> ∃i j,x= .int i∧y= .int j∧C i j∧Q (g i j) H
def rI0 (g:Int→Int→V):R2:=fun x y H Q=> ∃i j,x= .int i∧y= .int j∧Q (g i j) H
def rU (g:Int→V):V→Hp→VK→Prop:=fun x H Q=> ∃i,x= .int i∧Q (g i) H
section
variable {X:Cx} {a b c:Expr} {ta tb tc:TE} {pos:Pos}
theorem jrd (ha:PE X a ta) (hb:PE X b tb) {pins:List (Addr×Obj)} {s:Shared} {σ:St} {H:Hp} {R:V→V→Hp→Prop} (I:Inv X pins σ H s)
 (h:ta σ H fun x H1=>tb σ H1 fun y H2=>R x y H2) {Q:Value→Shared→Prop} {f:Value→Value→Sem Value}
 (hf: ∀v u s2 x y H2,Inv X pins σ H2 s2→RelV x v→RelV y u→R x y H2→wpAny (model X.prog X.w) X.A (f v u) Q X.xe s2):
 wpAny (model X.prog X.w) X.A (eval a X.env) (fun v s₁=>wpAny (model X.prog X.w) X.A (eval b X.env) (fun u s₂=>wpAny (model X.prog X.w) X.A (f v u) Q X.xe s₂) X.xe s₁) X.xe s:=by
 refine thn (ha pins s σ H _ I h) fun v s1 ⟨x,H1,I1,r1,q1⟩=> ?_
 refine thn (hb pins s1 σ H1 _ I1 q1) fun u s2 ⟨y,H2,I2,r2,q2⟩=> ?_
 exact hf v u s2 x y H2 I2 r1 r2 q2
theorem jre {op:Operator} {r:R2} (ho:OpR X (binaryOp op) r) (ha:PE X a ta) (hb:PE X b tb):PE X (.BinOp a op b pos) (tOp r ta tb):=by
 intro pins s σ H Q I h
 exact wpAny_BinOp (jrd ha hb I h fun v u s2 x y H2 I2 rx ry q=>ho pins s2 σ H2 x y v u Q I2 rx ry q)
theorem jrf {op:UnaryOp} {r:V→Hp→VK→Prop} (ho:UnR X (unaryOp op) r) (ha:PE X a ta):PE X (.UnaryOp op a pos) (tUn r ta):=by
 intro pins s σ H Q I h
 exact UnaryOp_ (thn (ha pins s σ H _ I h) fun v s1 ⟨x,H1,I1,r1,q1⟩=>ho pins s1 σ H1 x v Q I1 r1 q1)
theorem opI {f:Value→Value→Sem Value} {C:Int→Int→Prop} {g:Int→Int→Int}
 (rule: ∀ (i j:Int) (t u:Tok) (s:Shared) (Q:Value→Shared→Prop) (E:Value→Shared→Prop),C i j→Q (.int (g i j) s.toks) {s with toks:=s.toks+1}→wpAny (model X.prog X.w) X.A (f (.int i t) (.int j u)) Q E s):
 OpR X f (rI C fun i j=> .int (g i j)):=by
 intro pins s σ H x y v u Q I rx ry h
 obtain⟨i,j,rfl,rfl,hc,q⟩:=h
 obtain⟨t,rfl⟩:=rx
 obtain⟨t',rfl⟩:=ry
 exact rule i j t t' s _ _ hc ⟨.int (g i j),H,I.tok _,⟨_,rfl⟩,q⟩
theorem jsf {f:Value→Value→Sem Value} {g:Int→Int→Int}
 (rule: ∀ (i j:Int) (t u:Tok) (s:Shared) (Q:Value→Shared→Prop) (E:Value→Shared→Prop),Q (.int (g i j) s.toks) {s with toks:=s.toks+1}→wpAny (model X.prog X.w) X.A (f (.int i t) (.int j u)) Q E s):
 OpR X f (rI0 fun i j=> .int (g i j)):=by
 intro pins s σ H x y v u Q I rx ry h
 obtain⟨i,j,rfl,rfl,q⟩:=h
 obtain⟨t,rfl⟩:=rx
 obtain⟨t',rfl⟩:=ry
 exact rule i j t t' s _ _ ⟨.int (g i j),H,I.tok _,⟨_,rfl⟩,q⟩
theorem jqY {f:Value→Value→Sem Value} {g:Int→Int→Bool}
 (rule: ∀ (i j:Int) (t u:Tok) (s:Shared) (Q:Value→Shared→Prop) (E:Value→Shared→Prop),Q (.bool (g i j)) s→wpAny (model X.prog X.w) X.A (f (.int i t) (.int j u)) Q E s):
 OpR X f (rI0 fun i j=> .bl (g i j)):=by
 intro pins s σ H x y v u Q I rx ry h
 obtain⟨i,j,rfl,rfl,q⟩:=h
 obtain⟨t,rfl⟩:=rx
 obtain⟨t',rfl⟩:=ry
 exact rule i j t t' s _ _ ⟨.bl (g i j),H,I,rfl,q⟩
def jrg (i j:Int):Prop:=0<j∧j<1073741824
def jsg (i j:Int):Prop:=0≤j∧j≤1000000∧i.natAbs<2^64
def CMul (i j:Int):Prop:=(-(2^64)<i∧i<2^64)∨(-(2^64)<j∧j<2^64)
theorem CMul.ok {i j:Int} (h:CMul i j):IntMulOk i j:=by
 rcases h with ⟨h1,h2⟩|⟨h1,h2⟩
 ·exact .of_left (intBits_le_64 h1 h2)
 ·exact .of_right (intBits_le_64 h1 h2)
theorem op_add:OpR X (binaryOp .Add) (rI0 fun i j=> .int (i+j)):=jsf fun _ _ _ _ _ _ _ q=>add_int q
theorem jpe:OpR X (binaryOp .Sub) (rI0 fun i j=> .int (i-j)):=jsf fun _ _ _ _ _ _ _ q=>sub_int q
theorem op_mul:OpR X (binaryOp .Mult) (rI CMul fun i j=> .int (i*j)):=opI fun _ _ _ _ _ _ _ hc q=>mul_int q hc.ok
theorem jmV:OpR X (binaryOp .FloorDiv) (rI jrg fun i j=> .int (i / j)):=opI fun i j _ _ _ _ _ hc q=>by
 have h1:(0:Int)<j:=hc.1
 have h2:j<1073741824:=hc.2
 exact floordiv_int (by omega) (by rw [G3T i (by omega)];exact q) (.inl (PyProof.noPylong_small (by omega)))
theorem jpf:OpR X (binaryOp .Mod) (rI (fun _ j=>0<j) fun i j=> .int (i%j)):=opI fun i j _ _ _ _ _ hc q=>by
 have h1:(0:Int)<j:=hc
 exact mod_int' (by omega) (by rw [G3U i (by omega)];exact q)
theorem jpg:OpR X (binaryOp .Pow) (rI jsg fun i j=> .int (i^j.toNat)):=opI fun _ _ _ _ _ _ _ hc q=>pow_int_small hc.1 hc.2.1 hc.2.2 q
theorem unI {f:Value→Sem Value} {g:Int→Int}
 (rule: ∀ (i:Int) (t:Tok) (s:Shared) (Q:Value→Shared→Prop) (E:Value→Shared→Prop),Q (.int (g i) s.toks) {s with toks:=s.toks+1}→wpAny (model X.prog X.w) X.A (f (.int i t)) Q E s):
 UnR X f (rU fun i=> .int (g i)):=by
 intro pins s σ H x v Q I rx h
 obtain⟨i,rfl,q⟩:=h
 obtain⟨t,rfl⟩:=rx
 exact rule i t s _ _ ⟨.int (g i),H,I.tok _,⟨_,rfl⟩,q⟩
theorem jph:UnR X (unaryOp .USub) (rU fun i=> .int (-i)):=unI fun _ _ _ _ _ q=>neg_int q
end
def jsh:V→V→Bool
 | .non,.non=>true| .non,.int _=>true| .int _,.non=>true| .non,.bl _=>true| .bl _,.non=>true| .non,.str _=>true| .str _,.non=>true
 | .int _,.int _=>true| .bl _,.bl _=>true| .str _,.str _=>true| .byt _,.byt _=>true
 | .int _,.str _=>true| .str _,.int _=>true| .bl _,.str _=>true| .str _,.bl _=>true
 |_,_=>false
def rEq:R2:=fun x y H Q=>jsh x y=true∧Q (.bl (decide (x=y))) H
def rNe:R2:=fun x y H Q=>jsh x y=true∧Q (.bl (!decide (x=y))) H
theorem jjr {i j:Int}:decide (V.int i=V.int j)=(i==j):=by
 rw [G1z]
 simp
theorem jmj {i j:Bool}:decide (V.bl i=V.bl j)=(i==j):=by
 rw [G1z]
 simp
theorem jjs {i j:Str}:decide (V.str i=V.str j)=(i==j):=by
 rw [G1z]
 simp
theorem jjt {i j:Array UInt8}:decide (V.byt i=V.byt j)=(i.toList==j.toList):=by
 rw [G1z]
 cases i
 cases j
 simp
section
variable {X:Cx} {a b c:Expr} {ta tb tc:TE} {pos:Pos}
theorem jaD {pins:List (Addr×Obj)} {σ:St} {H:Hp} {s:Shared} {Q:VK} {k k' :Bool} (I:Inv X pins σ H s) (q:Q (.bl k) H) (e:k=k'):EP X pins σ Q (.bool k') s:=by
 subst e
 exact⟨.bl k,H,I,rfl,q⟩
theorem op_eq:OpR X (compareOp .Eq) rEq:=by
 intro pins s σ H x y v u Q I rx ry h
 obtain⟨hs,q⟩:=h
 cases x with
 |non=>
  cases rx
  cases y with
  |non=>cases ry;exact PySem.EqNone.eq_none_none (jaD I q (by simp))
  |bl j=>cases ry;exact PySem.EqNone.eq_none_bool (jaD I q (by simp))
  |int j=>obtain⟨t',rfl⟩:=ry;exact PySem.EqNone.eq_none_int (jaD I q (by simp))
  |str j=>obtain⟨t',rfl⟩:=ry;exact PySem.EqNone.eq_none_str (jaD I q (by simp))
  |_=>exact absurd (show false=true from hs) G0q
 |bl i=>
  cases rx
  cases y with
  |non=>cases ry;exact PySem.EqNone.eq_bool_none (jaD I q (by simp))
  |bl j=>cases ry;exact eq_bool (jaD I q jmj)
  |str j=>obtain⟨t',rfl⟩:=ry;exact PySem.EqMixed.eq_bool_str (jaD I q (by simp))
  |_=>exact absurd (show false=true from hs) G0q
 |int i=>
  obtain⟨t,rfl⟩:=rx
  cases y with
  |non=>cases ry;exact PySem.EqNone.eq_int_none (jaD I q (by simp))
  |int j=>obtain⟨t',rfl⟩:=ry;exact eq_int (jaD I q jjr)
  |str j=>obtain⟨t',rfl⟩:=ry;exact PySem.EqMixed.eq_int_str (jaD I q (by simp))
  |_=>exact absurd (show false=true from hs) G0q
 |str i=>
  obtain⟨t,rfl⟩:=rx
  cases y with
  |non=>cases ry;exact PySem.EqNone.eq_str_none (jaD I q (by simp))
  |bl j=>cases ry;exact PySem.EqMixed.eq_str_bool (jaD I q (by simp))
  |int j=>obtain⟨t',rfl⟩:=ry;exact PySem.EqMixed.eq_str_int (jaD I q (by simp))
  |str j=>obtain⟨t',rfl⟩:=ry;exact eq_str (jaD I q jjs)
  |_=>exact absurd (show false=true from hs) G0q
 |byt i=>
  obtain⟨t,rfl⟩:=rx
  cases y with
  |byt j=>obtain⟨t',rfl⟩:=ry;exact PySem.W.eq_bytes (jaD I q jjt)
  |_=>exact absurd (show false=true from hs) G0q
 |_=>cases y<;>exact absurd (show false=true from hs) G0q
theorem op_ne:OpR X (compareOp .NotEq) rNe:=by
 intro pins s σ H x y v u Q I rx ry h
 obtain⟨hs,q⟩:=h
 cases x with
 |non=>
  cases rx
  cases y with
  |non=>cases ry;exact PySem.EqNone.ne_none_none (jaD I q (by simp))
  |bl j=>cases ry;exact PySem.EqNone.ne_none_bool (jaD I q (by simp))
  |int j=>obtain⟨t',rfl⟩:=ry;exact PySem.EqNone.ne_none_int (jaD I q (by simp))
  |str j=>obtain⟨t',rfl⟩:=ry;exact PySem.EqNone.ne_none_str (jaD I q (by simp))
  |_=>exact absurd (show false=true from hs) G0q
 |bl i=>
  cases rx
  cases y with
  |non=>cases ry;exact PySem.EqNone.ne_bool_none (jaD I q (by simp))
  |bl j=>cases ry;exact ne_bool (jaD I q (congrArg not jmj))
  |str j=>obtain⟨t',rfl⟩:=ry;exact PySem.EqMixed.ne_bool_str (jaD I q (by simp))
  |_=>exact absurd (show false=true from hs) G0q
 |int i=>
  obtain⟨t,rfl⟩:=rx
  cases y with
  |non=>cases ry;exact PySem.EqNone.ne_int_none (jaD I q (by simp))
  |int j=>obtain⟨t',rfl⟩:=ry;exact ne_int (jaD I q (congrArg not jjr))
  |str j=>obtain⟨t',rfl⟩:=ry;exact PySem.EqMixed.ne_int_str (jaD I q (by simp))
  |_=>exact absurd (show false=true from hs) G0q
 |str i=>
  obtain⟨t,rfl⟩:=rx
  cases y with
  |non=>cases ry;exact PySem.EqNone.ne_str_none (jaD I q (by simp))
  |bl j=>cases ry;exact PySem.EqMixed.ne_str_bool (jaD I q (by simp))
  |int j=>obtain⟨t',rfl⟩:=ry;exact PySem.EqMixed.ne_str_int (jaD I q (by simp))
  |str j=>obtain⟨t',rfl⟩:=ry;exact ne_str (jaD I q (congrArg not jjs))
  |_=>exact absurd (show false=true from hs) G0q
 |byt i=>
  obtain⟨t,rfl⟩:=rx
  cases y with
  |byt j=>obtain⟨t',rfl⟩:=ry;exact PySem.W.ne_bytes (jaD I q (congrArg not jjt))
  |_=>exact absurd (show false=true from hs) G0q
 |_=>cases y<;>exact absurd (show false=true from hs) G0q
theorem jrh:OpR X (compareOp .Lt) (rI0 fun i j=> .bl (decide (i<j))):=jqY fun _ _ _ _ _ _ _ q=>lt_int q
theorem jri:OpR X (compareOp .LtE) (rI0 fun i j=> .bl (decide (i≤j))):=jqY fun _ _ _ _ _ _ _ q=>le_int q
theorem jrj:OpR X (compareOp .Gt) (rI0 fun i j=> .bl (decide (j<i))):=jqY fun _ _ _ _ _ _ _ q=>gt_int q
theorem jrk:OpR X (compareOp .GtE) (rI0 fun i j=> .bl (decide (j≤i))):=jqY fun _ _ _ _ _ _ _ q=>ge_int q
theorem OpR.or {f:Value→Value→Sem Value} {r r' :R2} (h:OpR X f r) (h' :OpR X f r'):OpR X f (fun x y H Q=>r x y H Q∨r' x y H Q):=by
 intro pins s σ H x y v u Q I rx ry q
 rcases q with q|q
 ·exact h pins s σ H x y v u Q I rx ry q
 ·exact h' pins s σ H x y v u Q I rx ry q
theorem jav (b:Expr) {op:CmpOp} (h:op≠ .In:=by decide) (h2:op≠ .NotIn:=by decide):behindInMarks op b=false:=by
 have e1:(op==CmpOp.In)=false:=by cases op<;>first|rfl|exact absurd rfl h
 have e2:(op==CmpOp.NotIn)=false:=by cases op<;>first|rfl|exact absurd rfl h2
 cases b<;>simp [behindInMarks,e1,e2]
theorem jmW {op:CmpOp} {r:R2} (ho:OpR X (compareOp op) r) (ha:PE X a ta) (hb:PE X b tb) (hm:behindInMarks op b=false):PE X (.Compare a [op] [b] pos) (tOp r ta tb):=by
 intro pins s σ H Q I h
 exact wpAny_Compare1 (jrd ha hb I h fun v u s2 x y H2 I2 rx ry q=>ho pins s2 σ H2 x y v u Q I2 rx ry q) hm
def jmX (t:TE):TT:=fun σ H Q=>t σ H fun x H' => ∃k,x= .bl k∧Q k H'
theorem jmY {op:CmpOp} {r:R2} (ho:OpR X (compareOp op) r) (ha:PE X a ta) (hb:PE X b tb) (hm:behindInMarks op b=false):PT X (.Compare a [op] [b] pos) (jmX (tOp r ta tb)):=by
 intro pins s σ H Q I h
 refine wpAny_isTrue_Compare1 (thn (ha pins s σ H _ I h) fun v s1 ⟨x,H1,I1,r1,q1⟩=>thn (hb pins s1 σ H1 _ I1 q1) fun u s2 ⟨y,H2,I2,r2,q2⟩=>
  thn (ho pins s2 σ H2 x y v u _ I2 r1 r2 q2) fun c s3 ⟨z,H3,I3,r3,k,e,q3⟩=> ?_) hm
 subst e
 cases r3
 exact G1O ⟨H3,I3,q3⟩
def jmk (r r' :R2) (ta tb tc:TE):TE:=fun σ H Q=>ta σ H fun x H1=>tb σ H1 fun y H2=>r x y H2 fun z H3=> ∃k,z= .bl k∧
 (if k=true then tc σ H3 fun w' H4=>r' y w' H4 Q else Q (.bl false) H3)
theorem jle {op op' :CmpOp} {r r' :R2} (ho:OpR X (compareOp op) r) (ho' :OpR X (compareOp op') r') (ha:PE X a ta) (hb:PE X b tb) (hc:PE X c tc)
 (hm:lastMarks [op,op'] [b,c]=false:=by with_unfolding_all rfl):PT X (.Compare a [op,op'] [b,c] pos) (jmX (jmk r r' ta tb tc)):=by
 intro pins s σ H Q I h
 refine isTrue_chain (thn (ha pins s σ H _ I h) fun v s1 ⟨x,H1,I1,r1,q1⟩=>test_link (thn (hb pins s1 σ H1 _ I1 q1) fun u s2 ⟨y,H2,I2,r2,q2⟩=>
  thn (ho pins s2 σ H2 x y v u _ I2 r1 r2 q2) fun d s3 ⟨z,H3,I3,r3,k,e,q3⟩=> ?_)) hm
 subst e
 cases r3
 refine G1O ?_
 cases k with
 |false=>
  obtain⟨k',e',q'⟩:=q3
  cases e'
  exact ite_ff ⟨H3,I3,q'⟩
 |true=>
  refine ite_tt (test_last (thn (hc pins s3 σ H3 _ I3 q3) fun w' s4 ⟨z',H4,I4,r4,q4⟩=>thn (ho' pins s4 σ H4 y z' u w' _ I4 r2 r4 q4) fun d' s5 ⟨z2,H5,I5,r5,k2,e2,q5⟩=> ?_))
  subst e2
  cases r5
  exact G1O ⟨H5,I5,q5⟩
theorem jgy:(sizeLine:Nat)<2^63:=by rw [sizeLine_eq];decide
theorem jdg {x:V} {us:List Value} (r:Vals [x] us): ∃u,us= [u]∧RelV x u:=by
 cases r with
 |cons r1 r2=>cases r2;exact⟨_,rfl,r1⟩
theorem jju {x y:V} {us:List Value} (r:Vals [x,y] us): ∃u w',us= [u,w']∧RelV x u∧RelV y w' :=by
 cases r with
 |cons r1 r2=>
  cases r2 with
  |cons r3 r4=>cases r4;exact⟨_,_,rfl,r1,r3⟩
theorem jjv (hc:X.calm=true):CallR X (.builtin "max") (fun xs H Q=> ∃i j,xs= [.int i,.int j]∧Q (.int (if j>i then j else i)) H):=by
 intro pins s σ H xs us Q I r h
 obtain⟨i,j,rfl,q⟩:=h
 obtain⟨u,w',rfl,⟨t,rfl⟩,⟨t',rfl⟩⟩:=jju r
 refine max_two_ints (I.ok.hd hc) fun h' tk k=>⟨_,H,I.kept k,?_,q⟩
 by_cases hj:j>i
 ·rw [if_pos hj,if_pos hj];exact⟨_,rfl⟩
 ·rw [if_neg hj,if_neg hj];exact⟨_,rfl⟩
theorem call_int1:CallR X (.type "int") (fun xs H Q=>(∃i,xs= [.int i]∧Q (.int i) H)∨ ∃k,xs= [.bl k]∧Q (.int (if k then 1 else 0)) H):=by
 intro pins s σ H xs us Q I r h
 rcases h with ⟨i,rfl,q⟩|⟨k,rfl,q⟩
 ·obtain⟨u,rfl,t,rfl⟩:=jdg r
  exact call_int_int ⟨.int i,H,I,⟨_,rfl⟩,q⟩
 ·obtain⟨u,rfl,r1⟩:=jdg r
  cases r1
  exact call_int_bool ⟨.int (if k then 1 else 0),H,I.tok _,⟨_,rfl⟩,q⟩
end
structure ObjM (h:Heap) (x dx C:Addr) (mA:Str→Option Value):Prop where
 obj:h.get? x=some (PySem.W.instObj C dx)
 ns:h.Ns1 dx mA
 ne:dx≠x
theorem jjw {h:Heap} {dx:Addr} {mA:Str→Option Value} (n:h.Ns1 dx mA): ∃od,h.get? dx=some od∧ ∀name,PySem.W.lookIn name od=some (mA name):=by
 obtain⟨o,es,ep,ho,hd,hk,_,hm⟩:=n
 refine⟨o,ho,fun name=> ?_⟩
 have e:=hm name
 unfold nsFind findBy at e
 rw [←Array.find?_toList] at e
 unfold PySem.W.lookIn
 rw [hd]
 dsimp only
 split
 ·rename_i y q
  rw [q] at e
  exact congrArg some e
 ·rename_i q
  rw [q] at e
  have a:es.toList.any (·.refKey)=false:=by
   rw [List.any_eq_false]
   intro y hy
   obtain⟨z,t,hkey⟩:=hk y (Array.mem_toList_iff.mp hy)
   simp [DictEntry.refKey,hkey]
  have a' : ¬es.toList.any (·.refKey)=true:=by rw [a];exact G0q
  rw [if_neg a']
  exact congrArg some e
theorem ObjM.look {h:Heap} {x dx C:Addr} {mA:Str→Option Value} (I:ObjM h x dx C mA): ∃od,PySem.W.InstAt h x (PySem.W.instObj C dx) C (some od)∧ ∀name,PySem.W.lookIn name od=some (mA name):=
 let ⟨od,ho,hl⟩:=jjw I.ns
 ⟨od,⟨I.obj,rfl,rfl,ho⟩,hl⟩
section
variable {P:Program} {w:World} {H H' :Hp} {h h' :Heap} {a C dx:Addr} {fs fs' :List (Str×V)}
theorem jmZ (hok:HOk P w H h) (e:H a=some (.ins C dx fs)): ∃mA,ObjM h a dx C mA∧(∀f,jq5 (fs.lookup f) (mA f))∧PySem.Within mA (fs.map (·.1))∧fs.length≤1000∧H dx=some (.own a):=by
 obtain⟨d,z,ne,ob,mA,n,r,q⟩:=(show ObjOk P w H h a (.ins C dx fs) from hok a _ e)
 exact⟨mA,⟨ob,n,ne⟩,r,q,z,d⟩
end
structure Cls (K:PySem.W.Frag) (C:Addr):Prop where
 pg:PySem.W.plainGet K C Str.empty=true
 hd:PySem.W.hasDictIn K C=true
 po:PySem.W.plainOver K C=true
 sa:PySem.W.findIn K (.ref C) "__setattr__" =some (some (.builtin "object.__setattr__"))
theorem Cls.get {K:PySem.W.Frag} {C:Addr} (c:Cls K C) (f:Str):PySem.W.plainGet K C f=true:=c.pg
structure Con (K:PySem.W.Frag) (C:Addr) (f:Str) (v:V) (u:Value):Prop where
 at_:PySem.W.findIn K (.ref C) f=some (some u)
 rel:RelV v u
 get:PySem.W.specialIn K u "__get__" =some none
 cp:PySem.W.copiedNames.contains f=false
structure Meth (K:PySem.W.Frag) (C:Addr) (m:Str) (f:Addr):Prop where
 at_:PySem.W.findIn K (.ref C) m=some (some (.ref f))
 fn:PySem.W.isFn K (.ref f)=true
 kp:PySem.W.keepIn K (.ref f)=true
section
variable {X:Cx} {pins:List (Addr×Obj)} {σ:St} {H:Hp} {s:Shared} {A:Around} {E:Value→Shared→Prop} {Q:Value→Shared→Prop} {c:Value} {b:Bool}
inductive TyOf (K:PySem.W.Frag) (H:Hp):V→Value→Prop where
 |non:TyOf K H .non (.type "NoneType")
 |bl (x:Bool):TyOf K H (.bl x) (.type "bool")
 |int (i:Int):TyOf K H (.int i) (.type "int")
 |str (x:Str):TyOf K H (.str x) (.type "str")
 |flt (x:UInt64):TyOf K H (.flt x) (.type "float")
 |lst {a:Addr} {xs:List V} (e:H a=some (.lst xs)):TyOf K H (.ref a) (.type "list")
 |frz {a:Addr} {o:Obj} {xs:List V} (e:H a=some (.frz o (.lst xs))):TyOf K H (.ref a) (.type "list")
 |tup {a:Addr} {xs:List V} (e:H a=some (.tup xs)):TyOf K H (.ref a) (.type "tuple")
 |dK {a:Addr} {kvs:List (Key×V)} (e:H a=some (.dK kvs)):TyOf K H (.ref a) (.type "dict")
 |dT {a:Addr} {kvs:List (List Key×V)} (e:H a=some (.dT kvs)):TyOf K H (.ref a) (.type "dict")
 |ins {a C dx:Addr} {fs:List (Str×V)} (e:H a=some (.ins C dx fs)) (cl:Cls K C) (ha:PySem.W.findIn K (.ref C) "__class__" =some (some (.builtin "object.__class__")))
  (hn:PySem.W.specialIn K (.builtin "object.__class__") "__get__" =some (some (.builtin "getset_descriptor.__get__"))) (htk:PySem.W.takesIn K (.builtin "object.__class__")=some true)
  (hm:PySem.W.mroIn K C (.type "object")=some true):TyOf K H (.ref a) (.ref C)
theorem jjx {x:V} {u t:Value} (I:Inv X pins σ H s) (rx:RelV x u) (ty:TyOf X.K H x t) (e:PySem.W.kitOne X.K t c=some b) (h: ∀tk,Q (.bool b) {s with toks:=tk}):
 wpAny (model X.prog X.w) A (call (.builtin "isinstance") [u,c]) Q E s:=by
 cases ty with
 |non=>cases (show u=Value.none from rx);exact G1T PySem.W.kitx_none I.kIn True.intro e (fun z=>nomatch z) h
 |bl y=>cases (show u=Value.bool y from rx);exact G1T PySem.W.kitx_bool I.kIn True.intro e (fun z=>nomatch z) h
 |int i=>obtain⟨t,q⟩:=(show ∃t,u=Value.int i t from rx);cases q;exact G1T PySem.W.kitx_int I.kIn True.intro e (fun z=>nomatch z) h
 |str y=>obtain⟨t,q⟩:=(show ∃t,u=Value.str y t from rx);cases q;exact G1T PySem.W.kitx_str I.kIn True.intro e (fun z=>nomatch z) h
 |flt y=>obtain⟨t,q⟩:=(show ∃t,u=Value.float y t from rx);cases q;exact G1T PySem.W.kitx_float I.kIn True.intro e (fun z=>nomatch z) h
 | @lst a xs ea=>
  cases (show u=Value.ref a from rx)
  obtain⟨_,_,n,_,h1⟩:=(show ObjOk X.prog X.w H s.heap a (.lst xs) from I.hok a _ ea)
  exact G1T PySem.W.kitx_list I.kIn ⟨_,h1,rfl⟩ e (fun z=>nomatch z) h
 | @frz a ob xs ea=>
  cases (show u=Value.ref a from rx)
  obtain⟨_,_,_,n,_,h1⟩:=(show ObjOk X.prog X.w H s.heap a (.frz ob (.lst xs)) from I.hok a _ ea)
  exact G1T PySem.W.kitx_list I.kIn ⟨_,h1,rfl⟩ e (fun z=>nomatch z) h
 | @tup a xs ea=>
  cases (show u=Value.ref a from rx)
  obtain⟨_,_,_,p⟩:=(show ObjOk X.prog X.w H s.heap a (.tup xs) from I.hok a _ ea)
  obtain⟨o,h1,h2,_⟩:=p
  exact G1T PySem.W.kitx_tuple I.kIn ⟨o,h1,h2⟩ e (fun z=>nomatch z) h
 | @dK a kvs ea=>
  cases (show u=Value.ref a from rx)
  obtain⟨_,_,vs,_,p⟩:=(show ObjOk X.prog X.w H s.heap a (.dK kvs) from I.hok a _ ea)
  obtain⟨o,es,ep,h1,h2,_⟩:=p
  exact G1T PySem.W.kitx_dict I.kIn ⟨o,h1,h2.1⟩ e (fun z=>nomatch z) h
 | @dT a kvs ea=>
  cases (show u=Value.ref a from rx)
  obtain⟨_,_,xs,_,o,es,ep,h1,h2,_⟩:=(show ObjOk X.prog X.w H s.heap a (.dT kvs) from I.hok a _ ea)
  exact G1T PySem.W.kitx_dict I.kIn ⟨o,h1,h2.1⟩ e (fun z=>nomatch z) h
 | @ins a C dx fs ea cl ha hn htk hm=>
  cases (show u=Value.ref a from rx)
  obtain⟨mA,O,_⟩:=jmZ I.hok ea
  obtain⟨od,J,_⟩:=O.look
  exact G1T (PySem.W.kitx_own (cl.get _) cl.hd ha hn htk hm) I.kIn J e (fun z=>nomatch z) h
end
structure Room (k:Nat) (A:Around):Prop where
 hd:A.handled=none
 dp:A.depth+3*k+5<recursionLimit
 un:A.units+16*k+200<cLine
 gd:A.guards=some []
theorem Room.mono {j k:Nat} {A:Around} (r:Room k A) (h:j≤k):Room j A:=⟨r.hd,by have:=r.dp;omega,by have:=r.un;omega,r.gd⟩
theorem Room.deeper {k:Nat} {A:Around} (r:Room (k+1) A) (env:Env):Room k (A.deeper env):=
 ⟨r.hd,by have:=r.dp;show A.depth+1+3*k+5<_;omega,by have:=r.un;show A.units+3+16*k+200<_;omega,r.gd⟩
theorem Room.depth {k:Nat} {A:Around} (r:Room k A):A.depth<recursionLimit:=by have:=r.dp;omega
theorem Room.units {k:Nat} {A:Around} (r:Room k A):A.units+64<cLine:=by have:=r.un;omega
def jrl:TA:=fun _ H Q=>Q [] H
def jlf (ta:TE) (tr:TA):TA:=fun σ H Q=>ta σ H fun x H1=>tr σ H1 fun xs H2=>Q (x::xs) H2
section
variable {X:Cx} {e:Expr} {es:List Expr} {te:TE} {t:TA} {pos:Pos}
theorem pa_nil:PA X [] jrl:=fun _ _ _ _ H Q I h=>G36 ⟨[],H,I,.nil,h⟩
theorem jbm (ha:PE X e te) (hr:PA X es t) (hs:starEach (e::es) X.env=(false,eval e X.env)::starEach es X.env:=by rfl):PA X (e::es) (jlf te t):=by
 intro pos pins s σ H Q I h
 rw [hs]
 show wpAny _ _ (spliced ((false,eval e X.env)::backTo pos (starEach es X.env))) _ _ s
 refine G3f (thn (ha pins s σ H _ I h) fun u s1 ⟨x,H1,I1,r1,q1⟩=> ?_)
 exact thn (hr pos pins s1 σ H1 _ I1 q1) fun us s2 ⟨xs,H2,I2,r2,q2⟩=>⟨x::xs,H2,I2,.cons r1 r2,q2⟩
def jsi (t:TA):TE:=fun σ H Q=>t σ H fun xs H1=>xs.length≤sizeLine∧ ∀p,H1 p=none→Q (.ref p) (upd H1 p (.tup xs))
def jsj (t:TA):TE:=fun σ H Q=>t σ H fun xs H1=>xs.length≤sizeLine∧ ∀p,H1 p=none→Q (.ref p) (upd H1 p (.lst xs))
theorem jpi {x1} (h:PA X es t):PE X (.Tuple es x1 pos) (jsi t):=by
 intro pins s σ H Q I hq
 refine wpAny_Tuple_spliced (thn (h pos pins s σ H _ I hq) fun us s1 ⟨xs,H1,I1,r,z,q⟩=>⟨by rw [←r.length];exact z,?_⟩)
 have hf:H1 s1.heap.objs.size=none:=I1.hok.fresh (G0f _)
 refine⟨.ref s1.heap.objs.size,upd H1 s1.heap.objs.size (.tup xs),I1.laid (t' :=s1.toks) (fun b u e=>G0b _ e) (G0f _) ?_,rfl,q _ hf⟩
 exact⟨z,us,r,IsTupN.new _ _⟩
theorem jpj (h:PA X es t):PE X (.List es pos) (jsj t):=by
 intro pins s σ H Q I hq
 refine wpAny_List_spliced (thn (h pos pins s σ H _ I hq) fun us s1 ⟨xs,H1,I1,r,z,q⟩=>⟨by rw [←r.length];exact z,?_⟩)
 have hf:H1 s1.heap.objs.size=none:=I1.hok.fresh (G0f _)
 refine⟨.ref s1.heap.objs.size,upd H1 s1.heap.objs.size (.lst xs),I1.laid (t' :=s1.toks) (fun b u e=>G0b _ e) (G0f _) ?_,rfl,q _ hf⟩
 exact⟨z,us,0,r,G0x _ rfl⟩
end
abbrev Sp:=List V→Hp→VK→XK→Prop
abbrev CXT:=List Env→Hp→Shared→XK→Value→Shared→Prop
structure Env0 (P:Program) (w:World) (K:PySem.W.Frag) (mg:Str→Option Value) (base:Heap) (A:Around) (outer:List Env) (s:Shared) (H:Hp):Prop where
 frames:A.frames=some outer
 mod:Mod K mg base
 bs: ∀b o,base.get? b=some o→s.heap.get? b=some o∧H b=none
 bsz:base.objs.size≤s.heap.objs.size
 funs:s.heap.FunFrames base outer
 frf: ∀b∈frs outer,H b=none
 hok:HOk P w H s.heap
 bare:AllBare s.gens
def CE (outer:List Env) (P:Program) (w:World) (H:Hp) (s:Shared) (Q:VK) (u:Value) (s' :Shared):Prop:=
 ∃v H',s'.os=s.os∧AllBare s'.gens∧Un (frs outer) [] H H' s.heap s'.heap∧HOk P w H' s'.heap∧RelV v u∧Q v H'
def CR (CX:CXT) (outer:List Env) (P:Program) (w:World) (H:Hp) (s:Shared) (Q:VK) (E:XK) (r:Result) (s' :Shared):Prop:=
 match r with
 | .ok (.ret u)=>CE outer P w H s Q u s'
 | .ok _=>False
 | .error e=>CX outer H s E e s'
structure FnOk (P:Program) (w:World) (K:PySem.W.Frag) (mg:Str→Option Value) (base:Heap) (CX:CXT) (k:Nat) (f:Addr) (fd:FuncData) (ps:List Str) (sp:Sp):Prop where
 len: ∀vs H Q E,sp vs H Q E→vs.length=ps.length
 run: ∀ (A:Around) (outer:List Env) (s:Shared) (H:Hp) (args:Args) (us:List Value) (vs:List V) (Q:VK) (E:XK),Room k A→Env0 P w K mg base A outer s H→BindsTo s fd args (ps.zip us)→Vals vs us→sp vs H Q E→
  codeAny (model P w) A (.call (.ref f) args) (CR CX outer P w H s Q E) s
section
variable {X:Cx} {pins:List (Addr×Obj)} {σ:St} {H:Hp} {s s' :Shared}
theorem Inv.env0 (I:Inv X pins σ H s):Env0 X.prog X.w X.K X.mg X.base X.A X.stack s H:=
 ⟨I.ok.frames,I.ok.mod,I.bs,G0C I.ok.bsz I.sz,I.stack,I.stkFree,I.hok,I.bare⟩
theorem Inv.after {Q:VK} {u:Value} (I:Inv X pins σ H s) (h:CE X.stack X.prog X.w H s Q u s'):EP X pins σ Q u s' :=by
 obtain⟨v,H',os,bare,un,hok,r,q⟩:=h
 obtain⟨hh,g,d,t,os'⟩:=s'
 obtain rfl:os' =s.os:=os
 exact⟨v,H',I.call (h' :=hh) (g' :=g) (d' :=d) (t' :=t) (ch:= []) un hok bare (fun b z=>absurd z (by simp)),r,q⟩
end
def jm0 (sp:Sp) (dvs:List V) (E:XK) (t:TA):TE:=fun σ H Q=>t σ H fun vs H1=>sp (vs++dvs) H1 Q E
def Binds (K:PySem.W.Frag) (fd:FuncData) (ps:List Str) (ds:List Value):Prop:=
 ∀ (s:Shared) (us:List Value),K.In s.heap→(us++ds).length=ps.length→BindsTo s fd ⟨us,[]⟩ (ps.zip (us++ds))
theorem Binds.all {K:PySem.W.Frag} {fd:FuncData} {ps:List Str} (h: ∀us:List Value,us.length=ps.length→bindArgs fd ⟨us,[]⟩=pure (ps.zip us)):Binds K fd ps []:=fun s us _ hl=>by
 rw [G1s] at hl ⊢
 exact .of_eq (h us hl)
def jeh (CX:CXT) (X:Cx) (E:XK):Prop:= ∀ (pins:List (Addr×Obj)) (σ:St) (H:Hp) (s:Shared) (e:Value) (s' :Shared),Inv X pins σ H s→CX X.stack H s E e s' →X.xe e s'
section
variable {X:Cx} {CX:CXT} {k:Nat} {f C:Addr} {fd:FuncData} {ps:List Str} {sp:Sp} {dvs:List V} {ds:List Value} {E:XK} {x m:Str} {p pos apos:Pos} {e o:Expr} {es:List Expr} {ta:TE} {t:TA}
theorem jpk {pins:List (Addr×Obj)} {σ:St} {H:Hp} {s:Shared} {Q:VK} {us:List Value} {vs:List V} (F:FnOk X.prog X.w X.K X.mg X.base CX k f fd ps sp) (hr:Room k X.A) (hb:Binds X.K fd ps ds) (hd:Vals dvs ds) (hx:jeh CX X E)
 (I:Inv X pins σ H s) (r:Vals vs us) (h:sp (vs++dvs) H Q E):wpAny (model X.prog X.w) X.A (call (.ref f) us) (EP X pins σ Q) X.xe s:=by
 have r2:Vals (vs++dvs) (us++ds):=r.append hd
 have hl:(us++ds).length=ps.length:=by rw [←r2.length];exact F.len _ _ _ _ h
 refine G2M (G2V (F.run X.A X.stack s H ⟨us,[]⟩ (us++ds) (vs++dvs) Q E hr I.env0 (hb s us I.kIn hl) r2 h) fun r s' hq=> ?_)
 cases r with
 |error e=>exact hx pins σ H s e s' I hq
 |ok fl=>
  cases fl with
  |ret u=>exact I.after hq
  |next=>exact False.elim hq
  |brk=>exact False.elim hq
  |cont=>exact False.elim hq
theorem jjy (F:FnOk X.prog X.w X.K X.mg X.base CX k f fd ps sp) (hr:Room k X.A) (hg:Gl X x) (hm:X.mg x=some (.ref f)) (hk:PySem.W.keepIn X.K (.ref f)=true) (hb:Binds X.K fd ps ds) (hd:Vals dvs ds) (hx:jeh CX X E)
 (ha:PA X (e::es) t) (hdb:(x==("__debug__" :Str))=false:=by decide) (he:starEach (e::es) X.env=(false,eval e X.env)::starEach es X.env:=by rfl) (hpl:(backTo pos (starEach es X.env)).any (·.1)=false:=by rfl):
 PE X (.Call (.Name x p) (e::es) [] pos) (jm0 sp dvs E t):=by
 intro pins s σ H Q I h
 refine G2b (jdD I hg hm ?_ hdb)
 refine G3Z (h₀:=X.base) I.ok.mod.kin hk (thn (ha pos pins s σ H _ I h) fun us s1 ⟨vs,H1,I1,r,q⟩=>⟨I1.kIn,?_⟩) he hpl
 exact jpk F hr hb hd hx I1 r q
structure Mk (K:PySem.W.Frag) (C f:Addr):Prop where
 makes:PySem.W.makesIn K C=true
 init:PySem.W.findIn K (.ref C) "__init__" =some (some (.ref f))
 fn:PySem.W.isFn K (.ref f)=true
 kp:PySem.W.keepIn K (.ref C)=true
end
section
variable {X:Cx} {CX:CXT} {k:Nat} {f C:Addr} {fd:FuncData} {ps ks:List Str} {sp:Sp} {E:XK} {x m:Str} {p pos apos kpos:Pos} {e o:Expr} {es:List Expr} {kws:List Keyword} {te ta:TE} {t tk:TA} {nm:Option Str}
structure KBinds (K:PySem.W.Frag) (fd:FuncData) (ps ks:List Str) (g:List Value→List Value→List Value) (gV:List V→List V→List V):Prop where
 to: ∀ (s:Shared) (us ws:List Value),K.In s.heap→(g us ws).length=ps.length→BindsTo s fd ⟨us,ks.zip ws⟩ (ps.zip (g us ws))
 rel: ∀ {vs:List V} {us:List Value} {zs:List V} {ws:List Value},Vals vs us→Vals zs ws→Vals (gV vs zs) (g us ws)
variable {g:List Value→List Value→List Value} {gV:List V→List V→List V}
end
structure FnScope (N P:List Str) (sc:Scope):Prop where
 kind:sc.kind= .function
 co:sc.isCoroutine=false
 gen:sc.isGenerator=false
 nd:N.Nodup
 pre:N.take P.length=P
 par: ∀x∈P,sc.names.lookup x=some .local∨sc.names.lookup x=some .cell
 nofree: ∀y∈sc.names,y.2≠ .free
theorem jgz {kindOf:Str→Option NameKind} {x:Str}: ∀ {binds:List (Str×Value)} {m:Str→Option Value},(∀v,(x,v) ∉ binds)→bindL kindOf binds m x=m x
 | [],_,_=>rfl
 |(n,v)::r,m,h=>by
  unfold bindL
  rw [jgz fun w hw=>h w (G0y _ hw)]
  split
  ·have:x≠n:=by rintro rfl;exact h v G0t
   simp [this]
  ·rfl
theorem jgA {kindOf:Str→Option NameKind} {x:Str}: ∀ {binds:List (Str×Value)} {m:Str→Option Value},(∀v,(x,v) ∉ binds)→bindC kindOf binds m x=m x
 | [],_,_=>rfl
 |(n,v)::r,m,h=>by
  unfold bindC
  rw [jgA fun w hw=>h w (G0y _ hw)]
  split
  ·rfl
  ·have:x≠n:=by rintro rfl;exact h v G0t
   simp [this]
theorem jei {kindOf:Str→Option NameKind} {x:Str} {v:Value}: ∀ {P:List Str} {vs:List Value} {i:Nat} {m:Str→Option Value},P.Nodup→P[i]? =some x→vs[i]? =some v→kindOf x=some .local→
 bindL kindOf (P.zip vs) m x=some v
 | [],_,_,_,_,h,_,_=>by simp at h
 |_::_,[],_,_,_,_,h,_=>by simp at h
 |p::P,w::vs,0,m,nd,h1,h2,hk=>by
  simp at h1 h2;subst h1;subst h2
  show bindL kindOf ((p,w)::P.zip vs) m p=_
  unfold bindL
  rw [jgz fun v hv=>(G1M.mp nd).1 (G3g hv).1,if_pos hk]
  simp
 |p::P,w::vs,i+1,m,nd,h1,h2,hk=>by
  show bindL kindOf ((p,w)::P.zip vs) m x=_
  unfold bindL
  exact jei (i:=i) (G1M.mp nd).2 (by simpa using h1) (by simpa using h2) hk
theorem jej {kindOf:Str→Option NameKind} {x:Str} {v:Value}: ∀ {P:List Str} {vs:List Value} {i:Nat} {m:Str→Option Value},P.Nodup→P[i]? =some x→vs[i]? =some v→kindOf x≠some .local→
 bindC kindOf (P.zip vs) m x=some v
 | [],_,_,_,_,h,_,_=>by simp at h
 |_::_,[],_,_,_,_,h,_=>by simp at h
 |p::P,w::vs,0,m,nd,h1,h2,hk=>by
  simp at h1 h2;subst h1;subst h2
  show bindC kindOf ((p,w)::P.zip vs) m p=_
  unfold bindC
  rw [jgA fun v hv=>(G1M.mp nd).1 (G3g hv).1,if_neg hk]
  simp
 |p::P,w::vs,i+1,m,nd,h1,h2,hk=>by
  show bindC kindOf ((p,w)::P.zip vs) m x=_
  unfold bindC
  exact jej (i:=i) (G1M.mp nd).2 (by simpa using h1) (by simpa using h2) hk
def start (N:List Str) (vs:List V):St:=vs.map some++List.replicate (N.length-vs.length) none
def jfI (CX:CXT) (P:Program) (w:World) (K:PySem.W.Frag) (mg:Str→Option Value) (base:Heap) (N:List Str) (qual:Str) (scope:Scope) (f:Addr) (cd:Value) (A:Around) (outer:List Env) (s:Shared) (H:Hp) (E:XK):Cx where
 prog:=P
 w:=w
 K:=K
 mg:=mg
 base:=base
 A:=A.deeper (envOfC qual scope s.heap.objs.size f cd)
 N:=N
 s₀:=s
 H₀:=H
 env:=envOfC qual scope s.heap.objs.size f cd
 outer:=outer
 stack:=envOfC qual scope s.heap.objs.size f cd::outer
 ex:= []
 calm:=true
 fn:=fun _=>true
 pn:= []
 xe:=fun e s' =>wpAny (model P w) (A.deeper (envOfC qual scope s.heap.objs.size f cd)) (leaving (envOfC qual scope s.heap.objs.size f cd) e) (fun _ s'' =>CX outer H s E e s'') (fun e' s'' =>CX outer H s E e' s'') s'
theorem jcT {sc:Scope} {n:Nat} {x:Str} (h:sc.names.lookup x=some .cell): ∃c,(cellsFrom n sc.names []).lookup x=some c:=by
 have q:=G2O sc.names n [] (.inl h)
 exact G1V.mp q
theorem jgB {CX:CXT} {P:Program} {w:World} {K:PySem.W.Frag} {mg:Str→Option Value} {base:Heap} {N ps:List Str} {qual:Str} {scope:Scope} {f:Addr} {cd:Value} {A:Around} {outer:List Env} {s s1:Shared} {H:Hp} {E:XK} {us:List Value} {vs:List V}
 (S:FnScope N ps scope) (hd:A.handled=none) (e0:Env0 P w K mg base A outer s H) (hl:vs.length=ps.length) (r:Vals vs us)
 (x:InCallC s s.heap.objs.size (bindL (envOfC qual scope s.heap.objs.size f cd).kindOf (ps.zip us) fun _=>none) (cellsFrom (s.heap.objs.size+1) scope.names []) (bindC (envOfC qual scope s.heap.objs.size f cd).kindOf (ps.zip us) fun _=>none) s1):
 Inv (jfI CX P w K mg base N qual scope f cd A outer s H E) [] (start N vs) H s1:=by
 have hpl:ps.length≤N.length:=by have:=congrArg List.length S.pre;rw [G0B] at this;omega
 obtain⟨h1,tk,rfl,hk⟩:=x.done
 have noA: ∀b:Addr,b ∉ (jfI CX P w K mg base N qual scope f cd A outer s H E).ex:=fun b z=>absurd (show b∈([]:List Addr) from z) (by simp)
 refine⟨⟨e0.mod,S.kind,rfl,rfl,G0f _,fun y z c h1 h2=> ?_,fun y hy=> ?_,fun y c _ h=> ?_,fun _=>hd,G3I e0.frames,.inr ⟨rfl,rfl⟩,fun b z=>absurd z (noA b),e0.bs,e0.bsz,fun b _ _=>noA b,fun b z=>absurd z (noA b),e0.funs,e0.frf⟩,
  rfl,e0.bare,Un.kept hk,⟨_,x.toInCall.ns,fun i y v h1 h2 h3=> ?_⟩,fun y c h=>⟨_,x.cell y c h⟩,e0.hok.fresh (G0f _),fun y c h=> ?_,fun p hp=>absurd (show p∈([]:List (Addr×Obj)) from hp) (by simp),e0.hok.kept hk,?_⟩
 ·exact name_of_addr x.apart (G1B h1) (G1B h2)
 ·have hy:scope.names.lookup y=some .cell∨scope.names.lookup y=some .free:=hy
  rcases hy with hy|hy
  ·exact jcT hy
  ·exact absurd rfl (S.nofree _ (G1B hy))
 ·exact G0T (x.above y c (G1B h))
 ·have hi:i<vs.length:=by
   unfold start at h2
   by_cases hi:i<vs.length
   ·exact hi
   ·rw [G0s (by simpa using hi)] at h2
    rw [G3h] at h2
    split at h2<;>cases h2
  have ha:vs[i]? =some v:=by
   unfold start at h2
   rw [G0R (by simpa using hi),G0o] at h2
   cases e:vs[i]? with
   |none=>rw [e] at h2;cases h2
   |some a=>rw [e] at h2;cases h2;rfl
  obtain⟨u,hu,rv⟩:=r.get ha
  have hp:ps[i]? =some y:=by
   rw [←S.pre,G1L (by omega)];exact h1
  have ndP:ps.Nodup:=by rw [←S.pre];exact S.nd.sublist (G14 _ _)
  refine⟨u,rv,?_⟩
  rcases S.par y (G0i hp) with k|k
  ·exact .inl ⟨k,jei ndP hp hu k⟩
  ·obtain⟨c,e⟩:=jcT (n:=s.heap.objs.size+1) k
   refine .inr ⟨.inl k,c,e,?_⟩
   have q:=x.cell y c e
   rw [jej ndP hp hu (by show scope.names.lookup y≠_;rw [k];decide)] at q
   exact q
 ·exact e0.hok.fresh (G0T (x.above y c (G1B h)))
 ·unfold start
  show _=N.length
  rw [G0d,G0a,G4s]
  omega
theorem jm1 {CX:CXT} {P:Program} {w:World} {K:PySem.W.Frag} {mg:Str→Option Value} {base:Heap} {k:Nat} {f:Addr} {name qual:Str} {params:Arguments} {body:List Stmt} {scope:Scope} {dV kV doc pm cdv ct oc:Value} {an od:Option Addr}
 {osl:Array (Option Value)} {N ps:List Str} {sp:Sp} (lk:K.lookup f=some ⟨oc,od,.func (PySem.W.fnOf name qual params body scope dV kV doc pm an cdv ct),osl⟩) (hcd:PySem.W.codeIn K cdv qual=true) (S:FnScope N ps scope)
 (len: ∀vs H Q E,sp vs H Q E→vs.length=ps.length)
 (hbody: ∀ (A:Around) (outer:List Env) (s:Shared) (H:Hp) (vs:List V) (Q:VK) (E:XK),Room k (A.deeper (envOfC qual scope s.heap.objs.size f cdv))→sp vs H Q E→
  ∃t,PSs (jfI CX P w K mg base N qual scope f cdv A outer s H E) body t∧t {nx:=fun _ H' =>Q .non H',rt:=Q} (start N vs) H):
 FnOk P w K mg base CX (k+1) f (PySem.W.fnOf name qual params body scope dV kV doc pm an cdv ct) ps sp:=by
 refine⟨len,fun A outer s H args us vs Q E hr e0 hb r hsp=> ?_⟩
 have hl:=len _ _ _ _ hsp
 have KX:K.In s.heap:=e0.mod.kin.keeps fun b o e=>(e0.bs b o e).1
 have lim:s.heap.NoLimit:=e0.mod.nolimit.keeps fun b o e=>(e0.bs b o e).1
 have hkind: ∀y∈ps.zip us,scope.names.lookup y.1=some .local∨(scope.names.lookup y.1=some .cell∧((cellsFrom (s.heap.objs.size+1) scope.names []).lookup y.1).isSome=true):=fun ⟨n,v⟩ hy=>by
  rcases S.par n (G3g hy).1 with q|q
  ·exact .inl q
  ·exact .inr ⟨q,G2O _ _ _ (.inl q)⟩
 refine G3z hr.depth (KX _ _ lk) rfl S.co S.gen rfl (G30 KX hcd) (hb _ _ _ _ ?_)
 refine G20 S.kind hkind fun env he s1 x=> ?_
 subst he
 refine⟨lim.keeps x.toInCall.keep,codeAny_func ?_⟩
 obtain⟨t,ht,hq⟩:=hbody A outer s H vs Q E (hr.deeper _) hsp
 have I:Inv (jfI CX P w K mg base N qual scope f cdv A outer s H E) [] (start N vs) H s1:=jgB S hr.hd e0 hl r x
 refine G0H (ht [] s1 (start N vs) H _ I hq) (fun fl s' hs=> ?_) fun e s' hs=>hs
 have fin: ∀ {σ' :St} {H' :Hp} {v:V} {u:Value},Inv (jfI CX P w K mg base N qual scope f cdv A outer s H E) [] σ' H' s' →RelV v u→Q v H' →CE outer P w H s Q u s' :=
  fun {σ' H' v u} J rv q=>⟨v,H',J.os,J.bare,J.base,J.hok,rv,q⟩
 cases fl with
 |ret u=>
  obtain⟨v,σ',H',J,rv,q⟩:=hs
  exact fin J rv q
 |next=>
  obtain⟨σ',H',J,q⟩:=hs
  exact fin (v:=V.non) (u:=Value.none) J rfl q
 |brk=>
  obtain⟨_,_,_,q⟩:=hs
  exact False.elim q
 |cont=>
  obtain⟨_,_,_,q⟩:=hs
  exact False.elim q
section
variable {X:Cx} {x:Str} {p pos:Pos} {e:Expr} {es:List Expr} {t:TA} {id T:String} {r:List V→Hp→VK→Prop}
def tCB (r:List V→Hp→VK→Prop) (t:TA):TE:=fun σ H Q=>t σ H fun vs H1=>r vs H1 Q
theorem jcU (hc:CallR X (.builtin id) r) (hg:Gl X x) (hm:X.mg x=none) (hv:bootBuiltins x=some (.builtin id)) (ha:PA X (e::es) t) (hn:x≠ "__name__" :=by decide) (hdb:(x==("__debug__" :Str))=false:=by decide)
 (he:starEach (e::es) X.env=(false,eval e X.env)::starEach es X.env:=by rfl) (hpl:(backTo pos (starEach es X.env)).any (·.1)=false:=by rfl):PE X (.Call (.Name x p) (e::es) [] pos) (tCB r t):=by
 intro pins s σ H Q I h
 refine G2b (jef I hg hm hv ?_ hn hdb)
 exact G3A (thn (ha pos pins s σ H _ I h) fun us s1 ⟨vs,H1,I1,r1,q1⟩=>hc pins s1 σ H1 vs us Q I1 r1 q1) he hpl
theorem jek (hc:CallR X (.type T) r) (hg:Gl X x) (hm:X.mg x=none) (hv:bootBuiltins x=some (.type T)) (ha:PA X (e::es) t) (hn:x≠ "__name__" :=by decide) (hdb:(x==("__debug__" :Str))=false:=by decide)
 (he:starEach (e::es) X.env=(false,eval e X.env)::starEach es X.env:=by rfl) (hpl:(backTo pos (starEach es X.env)).any (·.1)=false:=by rfl):PE X (.Call (.Name x p) (e::es) [] pos) (tCB r t):=by
 intro pins s σ H Q I h
 refine G2b (jef I hg hm hv ?_ hn hdb)
 exact G2k (thn (ha pos pins s σ H _ I h) fun us s1 ⟨vs,H1,I1,r1,q1⟩=>hc pins s1 σ H1 vs us Q I1 r1 q1) he hpl
end
end L2
namespace HT
open PySem PyProof.Rows
def jaz:List Int→List Int→Bool
 | [],[]=>false
 | [],_::_=>true
 |_::_,[]=>false
 |x::xs,y::ys=>if x=y then jaz xs ys else decide (x<y)
theorem jdE (x y:Int) (xs ys:List Int):jaz (x::xs) (y::ys)=if x=y then jaz xs ys else decide (x<y):=rfl
theorem jfJ:jaz [] []=false:=rfl
theorem jeX (y:Int) (ys:List Int):jaz [] (y::ys)=true:=rfl
theorem jeY (x:Int) (xs:List Int):jaz (x::xs) []=false:=rfl
theorem jh1 (A:Around) (s:Shared) (a:Int) (t:Tok) (c:Int) (u:Tok): ∃e,SeqAt.EqAt A s (.int a t) (.int c u) e∧(e=true↔a=c):=
 ⟨(a==c),SeqAt.EqAt.int_int a t c u,by simp⟩
theorem jlg (A:Around) (s:Shared) (a:Int) (t:Tok) (c:Int) (u:Tok) (prog:Program) (w:World) (E:Value→Shared→Prop) (Q:Value→Shared→Prop) (h:Q (.bool (decide (a<c))) s):
 wpAny (model prog w) A (richCompare .Lt (.int a t) (.int c u)) Q E s:=
 (PyProof.Rows.lt_int h:wpAny (model prog w) A (compareOp .Lt (.int a t) (.int c u)) Q E s)
section
open PySem.SeqAt
open PySem.AutoSeq1 (wpAny_loadPart')
open PySem.MeetsSeq PySem.MeetsSeq2 PySem.MeetsSeq3
theorem jdh (l b:Addr) (items items2:Array Value) (n n2:Nat) (dd dd2:Option Addr) (sl sl2:Array (Option Value)) (ns ms:List Int) (hi:IntsAre items.toList ns) (hj:IntsAre items2.toList ms):
 Meets (Builtin.«tuple.__lt__» ⟨[.ref l,.ref b],[]⟩)
  (fun _ R s=>s.heap.get? l=some {cls:= .type "tuple",dict:=dd,data:= .seq items n,slots:=sl}∧s.heap.get? b=some {cls:= .type "tuple",dict:=dd2,data:= .seq items2 n2,slots:=sl2}∧
   R (.ok (.ret (.bool (jaz ns ms)))) s):=
 .of_wp fun prog w A R s h=>by
  obtain⟨hp,g,d,tk,os⟩:=s;obtain⟨hl,hb,h⟩:=h
  have f2:=AutoSeq1.sub_tuple_tuple
  have z1:items.size=ns.length:=by rw [←hi.length];simp
  have z2:items2.size=ms.length:=by rw [←hj.length];simp
  wp_walk using wpAny_loadPart' hl,wpAny_loadPart' hb,wpAny_forIn_list _ (fun rest b s' =>b.1=none∧s' =⟨hp,g,d,tk,os⟩∧ ∃ (vs ws:List Value) (ns' ms' :List Int),rest=vs.zip ws∧
   IntsAre vs ns' ∧IntsAre ws ms' ∧ns'.length+items2.size=ms'.length+items.size∧R (.ok (.ret (.bool (jaz ns' ms')))) ⟨hp,g,d,tk,os⟩) _
  case turn=>
   rintro ⟨y,x⟩ rest b s' ⟨hb',rfl,vs,ws,ns',ms',hz,hvi,hwi,hlen,hR⟩
   cases hvi with
   |nil=>rw [G37] at hz;cases hz
   |cons a t hvi' =>
    cases hwi with
    |nil=>rw [List.zip_nil_right] at hz;cases hz
    |cons c u hwi' =>
     rw [G3i] at hz
     injection hz with hyx hrest
     injection hyx with hy hx
     subst hy hx
     rw [jdE] at hR
     simp only [G0h] at hlen
     obtain⟨e,he,hiff⟩:=jh1 A.in1 ⟨hp,g,d,tk,os⟩ a t c u
     refine wpAny_bind (he prog w _ _ ?_)
     cases e with
     |true=>
      rw [if_pos (hiff.mp rfl)] at hR
      wp_walk
      exact⟨rfl,rfl,_,_,_,_,hrest,hvi',hwi',by omega,hR⟩
     |false=>
      rw [if_neg (fun q=>absurd (hiff.mpr q) G0q)] at hR
      have hri:=jlg A.in1 ⟨hp,g,d,tk,os⟩ a t c u prog w
      wp_walk using hri
      exact⟨_,rfl,by simpa using hR⟩
  case fin=>
   rintro ⟨b1,b2⟩ s' ⟨hb',rfl,vs,ws,ns',ms',hz,hvi,hwi,hlen,hR⟩
   simp only at hb'
   subst hb'
   have hv:jaz ns' ms' =decide (items.size<items2.size):=by
    cases hvi with
    |nil=>
     cases hwi with
     |nil=>
      simp only [G0A] at hlen
      rw [jfJ]
      exact(G0P (by omega)).symm
     |cons c u hw=>
      simp only [G0A,G0h] at hlen
      rw [jeX]
      exact(G0I (by omega)).symm
    |cons a t hv=>
     cases hwi with
     |nil=>
      simp only [G0A,G0h] at hlen
      rw [jeY]
      exact(G0P (by omega)).symm
     |cons c u hw=>
      rw [G3i] at hz
      cases hz
   rw [hv] at hR
   wp_walk
   exact⟨_,rfl,by simpa [Builtin.Tuple.tupleCompareSizes] using hR⟩
  case h=>
   exact⟨rfl,rfl,items.toList,items2.toList,ns,ms,rfl,hi,hj,by omega,h⟩
end
section
variable {prog:Program} {w:World} {A:Around} {E:Value→Shared→Prop} {s:Shared}
theorem jiD {l b:Addr} {items items2:Array Value} {ns ms:List Int} {Q:Value→Shared→Prop} (hl:IsTup s.heap l items) (hb:IsTup s.heap b items2) (hi:IntsAre items.toList ns) (hj:IntsAre items2.toList ms)
 (hu:A.units<cLine) (h:Q (.bool (jaz ns ms)) s):wpAny (model prog w) A (compareOp .Lt (.ref l) (.ref b)) Q E s:=by
 obtain⟨⟨cls,dd,data,sl⟩,ho,hc,n,hd⟩:=id hl
 obtain⟨⟨cls2,dd2,data2,sl2⟩,ho2,hc2,n2,hd2⟩:=id hb
 simp only at hc hd hc2 hd2
 subst hc hd hc2 hd2
 exact richCompare_meets_room (op:= .Lt) ⟨_,ho,rfl⟩ ⟨_,ho2,rfl⟩ G3B G4q (G4f _ _) (jdh l b items items2 n n2 dd dd2 sl sl2 ns ms hi hj)
  ⟨ho,ho2,show Value.bool (jaz ns ms)≠Value.notImplemented∧Q (.bool (jaz ns ms)) s from ⟨(fun x=>nomatch x),h⟩⟩ hu
theorem jm2 {t b:Addr} {vs ws:List Value} {Q:Value→Shared→Prop} (ht:IsTup s.heap t vs.toArray) (hb:IsTup s.heap b ws.toArray) (hv:vs≠ [])
 (h1:ws= []→Q (.ref t) s) (h2:ws≠ []→Q (.ref s.heap.objs.size) {s with heap:=s.heap.push {cls:= .type "tuple",data:= .seq (vs++ws).toArray}})
 (hsz:vs.length+ws.length≤sizeLine):wpAny (model prog w) A (binaryOp .Add (.ref t) (.ref b)) Q E s:=by
 obtain⟨⟨cls,dd,data,sl⟩,ho,hc,n,hd⟩:=id ht
 obtain⟨⟨cls2,dd2,data2,sl2⟩,ho2,hc2,n2,hd2⟩:=id hb
 simp only at hc hd hc2 hd2
 subst hc hd hc2 hd2
 have e:vs.toArray++ws.toArray=(vs++ws).toArray:=by simp
 by_cases hw:ws= []
 ·exact concat_meets ⟨_,ho,rfl⟩ ⟨_,ho2,rfl⟩ G4m seq_tuple_add G3p G3j (G27 _ _)
   (tuple_addW1 t b vs.toArray ws.toArray n n2 dd dd2 sl sl2 (by simpa using hv) (by simp [hw])) ⟨ho,ho2,h1 hw⟩
 ·refine concat_meets ⟨_,ho,rfl⟩ ⟨_,ho2,rfl⟩ G4m seq_tuple_add G3p G3j (G27 _ _)
   (tuple_addW2 t b vs.toArray ws.toArray n n2 dd dd2 sl sl2 (by simpa using hv) (by simpa using hw) (by rw [G0w,G0w];exact hsz)) ⟨ho,ho2,?_⟩
  rw [e]
  exact h2 hw
def sIx (n d:Nat):Option Int→Nat
 |none=>d
 |some v=>if v<0 then (v+(n:Int)).toNat else min v.toNat n
theorem jpl (n d:Nat) (hd:d≤n) (o:Option Int):sIx n d o≤n:=by
 cases o with
 |none=>exact hd
 |some v=>
  show (if v<0 then (v+(n:Int)).toNat else min v.toNat n)≤n
  by_cases hv:v<0
  ·rw [if_pos hv];omega
  ·rw [if_neg hv];exact G24 _ _
theorem jjz (v:Int) (n d:Nat):(if v<0 then max (v+(n:Int)) 0 else min v (n:Int))=((sIx n d (some v):Nat):Int):=by
 show (if v<0 then max (v+(n:Int)) 0 else min v (n:Int))=(((if v<0 then (v+(n:Int)).toNat else min v.toNat n):Nat):Int)
 by_cases hv:v<0
 ·simp only [if_pos hv];omega
 ·simp only [if_neg hv];omega
theorem jiE (lo hi:Option Int) (n:Nat):Builtin.Slice.sliceAdjust lo hi 1 (n:Int)=(((sIx n 0 lo:Nat):Int),((sIx n n hi:Nat):Int)):=by
 have h1: ¬ ((1:Int)<0):=by omega
 unfold Builtin.Slice.sliceAdjust
 simp only [h1,G4z]
 refine Prod.ext ?_ ?_
 ·cases lo with
  |none=>rfl
  |some v=>exact jjz v n 0
 ·cases hi with
  |none=>rfl
  |some v=>exact jjz v n n
theorem jiF (i j:Nat):Builtin.Slice.slicePlaces (i:Int) (j:Int) 1=j-i:=by
 unfold Builtin.Slice.slicePlaces
 have h1:(1:Int)>0:=by omega
 simp only [h1,if_true,Int.ediv_one]
 split<;>omega
theorem jfd {v:Value} {o:Option Int} {Q:Option Int→Shared→Prop} (p:IsPart v o) (h:Q o s):wpAny (model prog w) A (Builtin.Slice.slicePartIndex v) Q E s:=by
 cases p with
 |none=>exact slicePart_none h
 |int i t=>exact slicePart_int h
theorem jcx {sl:Addr} {vl vu:Value} {lo hi:Option Int} {n:Nat} {Q:Int×Int×Nat→Shared→Prop} (hs:s.heap.IsSliceOf sl vl vu .none) (pl:IsPart vl lo) (pu:IsPart vu hi)
 (h:Q (((sIx n 0 lo:Nat):Int),1,sIx n n hi-sIx n 0 lo) s):wpAny (model prog w) A (Builtin.Slice.sliceApplied (.ref sl) (pure (n:Int))) Q E s:=by
 obtain⟨os,hos,hcs,hds⟩:=id hs
 unfold Builtin.Slice.sliceApplied Builtin.Slice.sliceFields
 refine wpAny_bind (wpAny_bind (G4E hos hds (x:=vl) rfl (wpAny_bind (G4E hos hds (x:=vu) rfl (wpAny_bind (G4E hos hds (x:= .none) rfl (G0e ?_)))))))
 refine wpAny_bind (slicePart_none ?_)
 show wpAny _ _ (if ((1:Int)==0)=true then _ else _) _ _ s
 rw [if_neg (by decide)]
 refine wpAny_bind (jfd pl (wpAny_bind (jfd pu (wpAny_bind (G0e ?_)))))
 show wpAny _ _ (match Builtin.Slice.sliceAdjust lo hi 1 (n:Int) with|(lo,hi)=>pure (lo,(1:Int),Builtin.Slice.slicePlaces lo hi 1)) _ _ s
 rw [jiE lo hi n]
 show wpAny _ _ (pure (((sIx n 0 lo:Nat):Int),(1:Int),Builtin.Slice.slicePlaces ((sIx n 0 lo:Nat):Int) ((sIx n n hi:Nat):Int) 1)) _ _ s
 rw [jiF]
 exact G0e h
theorem jlh (xs:Array Value) (i k:Nat):((List.range k).filterMap fun (m:Nat)=>xs[((i:Int)+(m:Int)*1).toNat]?).toArray=((xs.toList.drop i).take k).toArray:=by
 have e:(fun (m:Nat)=>xs[((i:Int)+(m:Int)*1).toNat]?)=fun m=>xs[i+m]? :=by
  funext m
  have:((i:Int)+(m:Int)*1).toNat=i+m:=by omega
  rw [this]
 rw [e]
 have:=pick_run xs i k
 rw [List.filterMap_map] at this
 have e2:((fun x=>xs[x]?)∘fun x=>i+x)=fun m=>xs[i+m]? :=rfl
 rw [e2] at this
 rw [this]
theorem jdF {t sl:Addr} {items:Array Value} {vl vu:Value} {lo hi:Option Int} {Q:Value→Shared→Prop} (ht:IsTup s.heap t items) (hs:s.heap.IsSliceOf sl vl vu .none) (pl:IsPart vl lo) (pu:IsPart vu hi)
 (hw: ¬ (sIx items.size 0 lo=0∧sIx items.size items.size hi=items.size))
 (h:Q (.ref s.heap.objs.size) {s with heap:=s.heap.push {cls:= .type "tuple",data:= .seq ((items.toList.drop (sIx items.size 0 lo)).take (sIx items.size items.size hi-sIx items.size 0 lo)).toArray}})
 (hsz:items.size≤sizeLine):wpAny (model prog w) A (getItem (.ref t) (.ref sl)) Q E s:=by
 have htake:sizeOk (.seq ((items.toList.drop (sIx items.size 0 lo)).take (sIx items.size items.size hi-sIx items.size 0 lo)).toArray):=by
  show ((items.toList.drop (sIx items.size 0 lo)).take (sIx items.size items.size hi-sIx items.size 0 lo)).toArray.size≤sizeLine
  rw [G0w,G0B,G0X,G0m]
  omega
 have hj:sIx items.size items.size hi≤items.size:=jpl _ _ (G0f _) hi
 obtain⟨os,hos,hcs,hds⟩:=id hs
 have hTs:s.TypeIs (.ref sl) "slice" :=⟨os,hos,hcs⟩
 unfold getItem
 try with_reducible refine G1g ?_
 first|refine wpAny_bind (G0e ?_)|skip
 refine wpAny_bind (wpAny_sequenceKey ht.typeIs (by decide) ?_)
 refine wpAny_bind (G1P (name:=Str.ofString "__getitem__") ht.typeIs G15
  (G1C G15 ht.typeIs entry_tuple_getitem ?_ (args_tuple_getitem _ _)))
 show wpAny _ _ (Builtin.Tuple.tupleItemsOf (.ref t) >>= _) _ _ s
 refine wpAny_bind (tupleItemsOf_ ht ?_)
 refine wpAny_bind (G4t hTs ?_)
 rw [if_pos (by decide)]
 refine wpAny_bind (jcx hs pl pu ?_)
 have hno: ¬ ((((sIx items.size 0 lo:Nat):Int)==0&&(1:Int)==1&&(sIx items.size items.size hi-sIx items.size 0 lo)==items.size)=true):=by
  intro q
  rw [G0Z,G0Z] at q
  have q1:((sIx items.size 0 lo:Nat):Int)=0:=eq_of_beq q.1.1
  have q2:sIx items.size items.size hi-sIx items.size 0 lo=items.size:=eq_of_beq q.2
  exact hw ⟨by omega,by omega⟩
 show wpAny _ _ (if (((sIx items.size 0 lo:Nat):Int)==0&&(1:Int)==1&&(sIx items.size items.size hi-sIx items.size 0 lo)==items.size)=true then _ else _) _ _ s
 rw [if_neg hno,jlh]
 first
  |exact wpAny_bind (m:=Builtin.Tuple.tupleExact _) (G2A (G0e ⟨_,rfl,G0e h⟩) htake)
  |exact wpAny_bind (m:=Builtin.Tuple.tupleExact _) (G2A (wpAny_bind (G0e (G0e ⟨_,rfl,G0e h⟩))) htake)
  |exact wpAny_bind (wpAny_bind (m:=Builtin.Tuple.tupleExact _) (G2A (G0e (G0e ⟨_,rfl,G0e h⟩)) htake))
  |exact wpAny_bind (wpAny_bind (m:=Builtin.Tuple.tupleExact _) (G2A (G0e ⟨_,rfl,G0e h⟩) htake))
end
end HT
namespace L2
open PySem PySem.Spec PyProof.Rows
abbrev TO:=St→Hp→(Option Int→Hp→Prop)→Prop
def PO (X:Cx) (e:Option Expr) (t:TO):Prop:=
 ∀ (pins:List (Addr×Obj)) (s:Shared) (σ:St) (H:Hp) (Q:Option Int→Hp→Prop),Inv X pins σ H s→t σ H Q→
  wpAny (model X.prog X.w) X.A (evalPart e X.env) (fun u s' => ∃o H',Inv X pins σ H' s' ∧IsPart u o∧Q o H') X.xe s
def jrm (t:TE):TO:=fun σ H Q=>t σ H fun x H1=> ∃i,x= .int i∧Q (some i) H1
section
variable {X:Cx} {e:Expr} {te:TE} {lo hi:Option Expr} {tl th:TO} {pos p2:Pos}
theorem jm3 (h:PE X e te):PO X (some e) (jrm te):=by
 intro pins s σ H Q I hw
 rw [evalPart_some]
 refine thn (h pins s σ H _ I hw) fun u s1 ⟨x,H1,I1,r1,q1⟩=> ?_
 obtain⟨i,rfl,q⟩:=q1
 obtain⟨t,rfl⟩:=r1
 exact⟨some i,H1,I1,.int i t,q⟩
def SlR (X:Cx) (r:V→Option Int→Option Int→Hp→VK→Prop):Prop:=
 ∀ (pins:List (Addr×Obj)) (s:Shared) (σ:St) (H:Hp) (x:V) (v vl vu:Value) (lo hi:Option Int) (sl:Addr) (Q:VK),Inv X pins σ H s→RelV x v→s.heap.IsSliceOf sl vl vu .none→IsPart vl lo→IsPart vu hi→r x lo hi H Q→
  ∃T id,typeLookup (.type T) "__getitem__" =pure (some (.builtin id))∧s.TypeIs v T∧wpAny (model X.prog X.w) X.A (getItem v (.ref sl)) (EP X pins σ Q) X.xe s
theorem SlR.or {r r' :V→Option Int→Option Int→Hp→VK→Prop} (h:SlR X r) (h' :SlR X r'):SlR X (fun x lo hi H Q=>r x lo hi H Q∨r' x lo hi H Q):=by
 intro pins s σ H x v vl vu lo hi sl Q I rx hs pl pu q
 rcases q with q|q
 ·exact h pins s σ H x v vl vu lo hi sl Q I rx hs pl pu q
 ·exact h' pins s σ H x v vl vu lo hi sl Q I rx hs pl pu q
def tSl (r:V→Option Int→Option Int→Hp→VK→Prop) (te:TE) (tl th:TO):TE:=fun σ H Q=>te σ H fun x H1=>tl σ H1 fun l H2=>th σ H2 fun u H3=>r x l u H3 Q
theorem jli {r:V→Option Int→Option Int→Hp→VK→Prop} (hr:SlR X r) (he:PE X e te) (hl:PO X lo tl) (hu:PO X hi th):PE X (.Subscript e (.Slice lo hi none p2) pos) (tSl r te tl th):=by
 intro pins s σ H Q I h
 refine Subscript_ (thn (he pins s σ H _ I h) fun v s1 ⟨x,H1,I1,r1,q1⟩=> ?_)
 refine wpAny_Slice (thn (hl pins s1 σ H1 _ I1 q1) fun vl s2 ⟨l,H2,I2,pl,q2⟩=>thn (hu pins s2 σ H2 _ I2 q2) fun vu s3 ⟨u,H3,I3,pu,q3⟩=> ?_)
 rw [evalPart_none]
 refine G0e ?_
 have I4:Inv X pins σ H3 {s3 with heap:=s3.heap.push {cls:= .type "slice",data:= .fields #[vl,vu,.none]}}:=I3.kept (t' :=s3.toks) fun b ob q=>G0b _ q
 obtain⟨T,id,hT,ht,hg⟩:=hr pins {s3 with heap:=s3.heap.push {cls:= .type "slice",data:= .fields #[vl,vu,.none]}} σ H3 x v vl vu l u s3.heap.objs.size Q I4 r1 (Heap.IsSliceOf.new ..) pl pu q3
 show wpAny (model X.prog X.w) X.A (subscriptTail e (.Slice lo hi none p2) v (.ref s3.heap.objs.size)) (EP X pins σ Q) X.xe {s3 with heap:=s3.heap.push {cls:= .type "slice",data:= .fields #[vl,vu,.none]}}
 exact tail_any (ops:= [.ref s3.heap.objs.size,v]) ht hT hg (by with_unfolding_all rfl)
def jk4 (xs:List V) (lo hi:Option Int):List V:=(xs.drop (HT.sIx xs.length 0 lo)).take (HT.sIx xs.length xs.length hi-HT.sIx xs.length 0 lo)
theorem jel (xs:List V) (lo hi:Option Int):(jk4 xs lo hi).length≤xs.length:=by
 unfold jk4
 rw [G0B,G0X]
 omega
def jsE (K:PySem.W.Frag):V→Option Int→Option Int→Hp→VK→Prop:=fun x lo hi H Q=> ∃a xs,x= .ref a∧SqT K H a xs∧
 ¬ (HT.sIx xs.length 0 lo=0∧HT.sIx xs.length xs.length hi=xs.length)∧ ∀p,H p=none→Q (.ref p) (upd H p (.tup (jk4 xs lo hi)))
theorem sl_tup:SlR X (jsE X.K):=by
 intro pins s σ H x v vl vu lo hi sl Q I rx hs pl pu h
 obtain⟨a,xs,rfl,hx,hw,q⟩:=h
 cases rx
 obtain⟨its,r,ht,hz⟩:=I.tuple hx
 have hlen:its.toArray.size=xs.length:=by rw [G0w];exact r.length.symm
 refine⟨"tuple",_,PyProof.Rows.slot_tuple_getitem.lookup,ht.typeIs,?_⟩
 refine HT.jdF ht hs pl pu (by rw [hlen];exact hw) ?_ (by rw [hlen];exact hz)
 rw [hlen]
 refine⟨.ref s.heap.objs.size,_,I.laid (t' :=s.toks) (o:= .tup (jk4 xs lo hi)) (fun b ob q=>G0b _ q) (G0f _) ?_,rfl,q _ (I.hok.fresh (G0f _))⟩
 exact⟨G0C (jel xs lo hi) hz,_,(r.drop (HT.sIx xs.length 0 lo)).take (HT.sIx xs.length xs.length hi-HT.sIx xs.length 0 lo),IsTupN.new _ _⟩
def jrn (K:PySem.W.Frag):R2:=fun x y H Q=> ∃a b xs ys,x= .ref a∧y= .ref b∧SqT K H a xs∧SqT K H b ys∧xs≠ []∧xs.length+ys.length≤sizeLine∧
 (ys= []→Q (.ref a) H)∧(ys≠ []→ ∀p,H p=none→Q (.ref p) (upd H p (.tup (xs++ys))))
theorem Vals.nil_iff {xs:List V} {us:List Value} (r:Vals xs us):us= []↔xs= []:=by
 cases r with
 |nil=>simp
 |cons _ _=>simp
theorem op_catT:OpR X (binaryOp .Add) (jrn X.K):=by
 intro pins s σ H x y v u Q I rx ry h
 obtain⟨a,b,xs,ys,rfl,rfl,ha,hb,hx,hz,q1,q2⟩:=h
 cases rx
 cases ry
 obtain⟨its,r1,p1,_⟩:=I.tuple ha
 obtain⟨its2,r2,p2,_⟩:=I.tuple hb
 refine HT.jm2 p1 p2 (fun z=>hx (r1.nil_iff.mp z)) (fun z=>⟨.ref a,H,I,rfl,q1 (r2.nil_iff.mp z)⟩) (fun z=> ?_) (by rw [←r1.length,←r2.length];exact hz)
 refine⟨.ref s.heap.objs.size,_,I.laid (t' :=s.toks) (o:= .tup (xs++ys)) (fun b ob q=>G0b _ q) (G0f _) ?_,rfl,q2 (fun w=>z (r2.nil_iff.mpr w)) _ (I.hok.fresh (G0f _))⟩
 exact⟨by rw [G0d];exact hz,_,r1.append r2,IsTupN.new _ _⟩
end
def ixN (n:Nat) (i:Int):Option Nat:=if 0≤i then (if i<n then some i.toNat else none) else if-(n:Int)≤i then some (i+n).toNat else none
def atI {α:Type} (xs:List α) (i:Int):Option α:=(ixN xs.length i).bind fun j=>xs[j]?
theorem jjA {n:Nat} {i:Int} {j:Nat} (h:ixN n i=some j):seqIndex? i n=some j∧j<n∧ -(n:Int)≤i∧i<n:=by
 unfold ixN at h
 by_cases h0:0≤i
 ·rw [if_pos h0] at h
  by_cases h1:i<n
  ·rw [if_pos h1] at h
   have e:i.toNat=j:=G1y h
   exact⟨by rw [seqIndex_of h0 h1,e],by omega,by omega,h1⟩
  ·rw [if_neg h1] at h;cases h
 ·rw [if_neg h0] at h
  by_cases h1: -(n:Int)≤i
  ·rw [if_pos h1] at h
   have e:(i+n).toNat=j:=G1y h
   exact⟨by rw [seqIndex_neg (by omega) h1,e],by omega,h1,by omega⟩
  ·rw [if_neg h1] at h;cases h
theorem jhq {α:Type} {xs:List α} {i:Int} {v:α} (h:atI xs i=some v): ∃j,seqIndex? i xs.length=some j∧xs[j]? =some v∧j<xs.length∧ -(xs.length:Int)≤i∧i<xs.length:=by
 unfold atI at h
 cases e:ixN xs.length i with
 |none=>rw [e] at h;cases h
 |some j=>
  rw [e] at h
  obtain⟨h1,h2,h3,h4⟩:=jjA e
  exact⟨j,h1,h,h2,h3,h4⟩
theorem jbQ {α:Type} {xs:List α} {j:Nat} {v:α} (h:xs[j]? =some v):atI xs (j:Int)=some v:=by
 have hj:j<xs.length:=(G0k.mp h).1
 have e:ixN xs.length (j:Int)=some j:=by
  unfold ixN
  rw [if_pos (by omega),if_pos (by omega)];simp
 unfold atI;rw [e];exact h
def jhr (b:Expr):Prop:= ∀o i,subscripted b false o i=operate [o,i] (getItem o i)
def IxR (X:Cx) (r:R2):Prop:=
 ∀ (value slice:Expr) (pins:List (Addr×Obj)) (s:Shared) (σ:St) (H:Hp) (x y:V) (v u:Value) (Q:VK),Inv X pins σ H s→RelV x v→RelV y u→r x y H Q→
  subscripted slice false v u=operate [v,u] (getItem v u)→wpAny (model X.prog X.w) X.A (subscriptTail value slice v u) (EP X pins σ Q) X.xe s
def MtR (X:Cx) (id:String) (r:V→List V→Hp→VK→Prop):Prop:=
 ∀ (pins:List (Addr×Obj)) (s:Shared) (σ:St) (H:Hp) (x:V) (xs:List V) (v:Value) (us:List Value) (Q:VK),Inv X pins σ H s→RelV x v→Vals xs us→r x xs H Q→
  wpAny (model X.prog X.w) X.A (call (.builtin id) (v::us)) (EP X pins σ Q) X.xe s
section
variable {X:Cx} {a b:Expr} {ta tb:TE} {pos:Pos}
theorem IxR.or {r r' :R2} (h:IxR X r) (h' :IxR X r'):IxR X (fun x y H Q=>r x y H Q∨r' x y H Q):=by
 intro value slice pins s σ H x y v u Q I rx ry q hs
 rcases q with q|q
 ·exact h value slice pins s σ H x y v u Q I rx ry q hs
 ·exact h' value slice pins s σ H x y v u Q I rx ry q hs
theorem jro {r:R2} (hr:IxR X r) (ha:PE X a ta) (hb:PE X b tb) (hs:jhr b):PE X (.Subscript a b pos) (tOp r ta tb):=by
 intro pins s σ H Q I h
 exact Subscript_ (jrd ha hb I h fun v u s2 x y H2 I2 rx ry q=>hr a b pins s2 σ H2 x y v u Q I2 rx ry q (hs _ _))
def jsk (K:PySem.W.Frag):R2:=fun x y H Q=> ∃p xs i v,x= .ref p∧y= .int i∧SqL K H p xs∧atI xs i=some v∧Q v H
def jsl (K:PySem.W.Frag):R2:=fun x y H Q=> ∃p xs i v,x= .ref p∧y= .int i∧SqT K H p xs∧atI xs i=some v∧Q v H
def jsm:R2:=fun x y H Q=> ∃z i c,x= .str z∧y= .int i∧z.length≤sizeLine∧atI z.cps.toList i=some c∧Q (.str ⟨#[c]⟩) H
theorem ix_list:IxR X (jsk X.K):=by
 intro value slice pins s σ H x y v u Q I rx ry h hs
 obtain⟨p,xs,i,z,rfl,rfl,hq,he,q⟩:=h
 cases rx
 obtain⟨t,rfl⟩:=ry
 obtain⟨its,r,pl,hz⟩:=I.list hq
 obtain⟨j,h1,h2,h3,h4,h5⟩:=jhq he
 obtain⟨w,ew,rw'⟩:=r.get h2
 have hl:=r.length
 have hn:=jgy
 have fin:EP X pins σ Q w s:=⟨z,H,I,rw',q⟩
 by_cases h0:0≤i
 ·have hj:i.toNat=j:=by
   rw [seqIndex_of h0 h5] at h1
   exact G1y h1
  exact item_listR pl.isList h0 (by omega) (by rw [hj];simpa using ew) fin hs
 ·have hj:(i+(its.toArray.size:Int)).toNat=j:=by
   rw [seqIndex_neg (by omega) h4] at h1
   rw [G0w,←hl]
   exact G1y h1
  exact subscriptTail_builtinR (x:=w) pl.isList.typeIs slot_list_getitem.lookup
   (wpAny_getItem_list_neg (Q:=fun r s' =>r=w∧EP X pins σ Q r s') pl.isList (by omega) (by rw [G0w]<;>omega) (by omega) (by rw [hj];simpa using ew) ⟨rfl,fin⟩) hs
theorem ix_tup:IxR X (jsl X.K):=by
 intro value slice pins s σ H x y v u Q I rx ry h hs
 obtain⟨p,xs,i,z,rfl,rfl,hq,he,q⟩:=h
 cases rx
 obtain⟨t,rfl⟩:=ry
 obtain⟨its,r,pl,hz⟩:=I.tuple hq
 obtain⟨j,h1,h2,h3,h4,h5⟩:=jhq he
 obtain⟨w,ew,rw'⟩:=r.get h2
 have hl:=r.length
 have hn:=jgy
 have fin:EP X pins σ Q w s:=⟨z,H,I,rw',q⟩
 exact subscriptTail_builtinR (x:=w) pl.typeIs slot_tuple_getitem.lookup
  (getItem_tuple (j:=j) (Q:=fun r s' =>r=w∧EP X pins σ Q r s') pl (by omega) (by omega) (by rw [G0w,←hl];exact h1) (by simpa using ew) ⟨rfl,fin⟩) hs
theorem jpm:IxR X jsm:=by
 intro value slice pins s σ H x y v u Q I rx ry h hs
 obtain⟨z,i,c,rfl,rfl,hz,he,q⟩:=h
 obtain⟨t,rfl⟩:=rx
 obtain⟨t',rfl⟩:=ry
 obtain⟨j,h1,h2,h3,h4,h5⟩:=jhq he
 have hl:z.cps.toList.length=z.length:=by simp [Str.length]
 rw [hl] at h1 h4 h5
 have hn:=jgy
 exact tail_any (typeIs_str s z t) slot_str_getitem.lookup (getItem_str (c:=c) (by
  have e1:decide (i< -(2^63:Int))=false:=G0P (by omega)
  have e2:decide (i≥2^63)=false:=G0P (by omega)
  rw [e1,e2,Bool.or_false]) (by rw [h1];simpa using h2) ⟨.str ⟨#[c]⟩,H,I.tok _,⟨_,rfl⟩,q⟩) hs
def rIx (K:PySem.W.Frag):R2:=fun x y H Q=>jsk K x y H Q∨jsl K x y H Q∨jsm x y H Q
theorem jpn:IxR X (rIx X.K):=ix_list.or (ix_tup.or jpm)
theorem jiG (its:List Value) (n j:Nat) (u:Value):Obj.mapSeq (·.setIfInBounds j u) {cls:= .type "list",data:= .seq its.toArray n}= {cls:= .type "list",data:= .seq (its.set j u).toArray n}:=by
 simp [Obj.mapSeq]
theorem Inv.lst {pins:List (Addr×Obj)} {σ:St} {H:Hp} {s:Shared} {p:Addr} {xs:List V} (I:Inv X pins σ H s) (h:H p=some (.lst xs)):
 ∃ (its:List Value) (n:Nat),Vals xs its∧s.heap.get? p=some {cls:= .type "list",data:= .seq its.toArray n}∧xs.length≤sizeLine:=by
 obtain⟨z,its,n,r,e⟩:=I.hok p _ h
 exact⟨its,n,r,e,z⟩
theorem Inv.lstUpd {pins:List (Addr×Obj)} {σ:St} {H:Hp} {s:Shared} {p:Addr} {xs ys:List V} {its its' :List Value} {n n' :Nat} {f:Obj→Obj} (I:Inv X pins σ H s) (h:H p=some (.lst xs))
 (ho:s.heap.get? p=some {cls:= .type "list",data:= .seq its.toArray n}) (hf:f {cls:= .type "list",data:= .seq its.toArray n}= {cls:= .type "list",data:= .seq its'.toArray n'}) (r:Vals ys its') (hz:ys.length≤sizeLine) (t:Nat):
 Inv X pins σ (upd H p (.lst ys)) {s with heap:=s.heap.update p f,toks:=t}:=by
 have e:(s.heap.update p f).get? p=some {cls:= .type "list",data:= .seq its'.toArray n'}:=by
  rw [G02 f ho (by rw [hf]<;>rfl),hf]
 refine I.write (x:=p) (e:=p) (by rw [h];trivial) (.inl rfl) (fun b u hb q=>(Heap.get?_update_other _ _ (Ne.symm hb)).trans q) ⟨_,e⟩ ?_
 exact⟨hz,its',n',r,e⟩
def jrp:V→V→V→Hp→(Hp→Prop)→Prop:=fun o i v H Q=> ∃p xs k j,o= .ref p∧i= .int k∧H p=some (.lst xs)∧ixN xs.length k=some j∧Q (upd H p (.lst (xs.set j v)))
theorem jlj:jsc X jrp:=by
 intro pins s σ H o i v ov iv u Q I ro ri rv h
 obtain⟨p,xs,k,j,rfl,rfl,hp,hj,q⟩:=h
 cases ro
 obtain⟨t,rfl⟩:=ri
 obtain⟨its,n,r,ho,hz⟩:=I.lst hp
 obtain⟨h1,h2,h3,h4⟩:=jjA hj
 have hl:=r.length
 have hn:=jgy
 have I' :Inv X pins σ (upd H p (.lst (xs.set j v))) {s with heap:=s.heap.update p (Obj.mapSeq (·.setIfInBounds j u))}:=
  I.lstUpd hp ho (jiG its n j u) (r.set rv j) (by rw [List.length_set];exact hz) s.toks
 by_cases h0:0≤k
 ·have hk:k.toNat=j:=by
   rw [seqIndex_of h0 h4] at h1
   exact G1y h1
  exact PySem.W.ki_setAt ho h0 (by omega) (by rw [G0w,←hl];exact h4) (by rw [hk];exact⟨_,I',q⟩)
 ·have hk:(k+(its.toArray.size:Int)).toNat=j:=by
   rw [seqIndex_neg (by omega) h3] at h1
   rw [G0w,←hl]
   exact G1y h1
  exact PySem.W.ki_setBack ho (by omega) (by rw [G0w,←hl];exact h3) (by omega) (by rw [hk];exact⟨_,I',q⟩)
theorem jgC (lo hi:Option Int) (n:Nat):(sliceBounds lo hi none n).1=((HT.sIx n 0 lo:Nat):Int)∧(sliceBounds lo hi none n).2.1=((HT.sIx n n hi:Nat):Int)∧(sliceBounds lo hi none n).2.2=1:=by
 refine⟨?_,?_,rfl⟩
 ·cases lo with
  |none=>simp [sliceBounds,HT.sIx]
  |some i=>
   simp only [sliceBounds,HT.sIx,Option.getD_none,show (1:Int)>0 by decide,if_true]
   by_cases h:i<0
   ·simp only [h,if_true]<;>omega
   ·simp only [h,G4z]<;>omega
 ·cases hi with
  |none=>simp [sliceBounds,HT.sIx]
  |some i=>
   simp only [sliceBounds,HT.sIx,Option.getD_none,show (1:Int)>0 by decide,if_true]
   by_cases h:i<0
   ·simp only [h,if_true]<;>omega
   ·simp only [h,G4z]<;>omega
theorem jfK (its:List Value) (lo hi:Option Int):slicePick its.toArray lo hi none=((its.drop (HT.sIx its.length 0 lo)).take (HT.sIx its.length its.length hi-HT.sIx its.length 0 lo)).toArray:=by
 obtain⟨h1,h2,h3⟩:=jgC lo hi its.toArray.size
 unfold slicePick
 rw [h1,h2,h3]
 simp only [sliceRange_one,pick_run,G0w]<;>rfl
def jsF (K:PySem.W.Frag):V→Option Int→Option Int→Hp→VK→Prop:=fun x lo hi H Q=> ∃a xs,x= .ref a∧SqL K H a xs∧ ∀p,H p=none→Q (.ref p) (upd H p (.lst (jk4 xs lo hi)))
theorem jm4:SlR X (jsF X.K):=by
 intro pins s σ H x v vl vu lo hi sl Q I rx hs pl pu h
 obtain⟨a,xs,rfl,hx,q⟩:=h
 cases rx
 obtain⟨its,r,ht,hz⟩:=I.list hx
 have hlen:=r.length
 refine⟨"list",_,slot_list_getitem.lookup,ht.isList.typeIs,?_⟩
 refine wpAny_getItem_list_slice ht.isList hs pl pu .none (by simp) ?_ (by rw [G0w]<;>omega)
 rw [jfK,←hlen]
 refine⟨.ref s.heap.objs.size,_,I.laid (t' :=s.toks) (o:= .lst (jk4 xs lo hi)) (fun b ob q=>G0b _ q) (G0f _) ?_,rfl,q _ (I.hok.fresh (G0f _))⟩
 exact⟨G0C (jel xs lo hi) hz,_,0,(r.drop (HT.sIx xs.length 0 lo)).take (HT.sIx xs.length xs.length hi-HT.sIx xs.length 0 lo),G0x _ rfl⟩
theorem call_len_seq:CallR X (.builtin "len") (fun xs H Q=> ∃p ys,xs= [.ref p]∧(SqL X.K H p ys∨SqT X.K H p ys)∧Q (.int ys.length) H):=by
 intro pins s σ H xs us Q I r h
 obtain⟨p,ys,rfl,hq,q⟩:=h
 obtain⟨u,rfl,rx⟩:=jdg r
 cases rx
 have hn:=jgy
 rcases hq with hq|hq
 ·obtain⟨its,r',pl,hz⟩:=I.list hq
  have hlen:=r'.length
  exact Calls.call_len_list pl.isList (by simp only [G0w]<;>omega) ⟨.int ys.length,H,I.tok _,⟨s.toks+1,by rw [G0w,hlen]⟩,q⟩
 ·obtain⟨its,r',pl,hz⟩:=I.tuple hq
  have hlen:=r'.length
  exact len_tuple pl (by simp only [G0w]<;>omega) ⟨.int ys.length,H,I.tok _,⟨s.toks+1,by rw [G0w,hlen]⟩,q⟩
theorem call_tuple_of:CallR X (.type "tuple") (fun xs H Q=> ∃p ys,xs= [.ref p]∧((SqL X.K H p ys∧ ∀l,H l=none→Q (.ref l) (upd H l (.tup ys)))∨(SqT X.K H p ys∧Q (.ref p) H))):=by
 intro pins s σ H xs us Q I r h
 obtain⟨p,ys,rfl,h⟩:=h
 obtain⟨u,rfl,rx⟩:=jdg r
 cases rx
 rcases h with ⟨hq,q⟩|⟨hq,q⟩
 ·obtain⟨its,r',pl,hz⟩:=I.list hq
  have hlen:=r'.length
  refine call_tuple_list pl.isList (fun h' kp=> ?_) (by simp only [G0w]<;>omega)
  have I1:Inv X pins σ H {s with heap:=h'}:=I.kept (t' :=s.toks) kp
  have I2:Inv X pins σ (upd H h'.objs.size (.tup ys)) {s with heap:=h'.push {cls:= .type "tuple",data:= .seq its.toArray}}:=
   I1.laid (t' :=s.toks) (fun b o e=>G0b _ e) (G0f _) (show ObjOk X.prog X.w _ _ _ (.tup ys) from ⟨hz,its,r',IsTupN.new _ _⟩)
  exact⟨.ref h'.objs.size,_,I2,rfl,q _ (I1.hok.fresh (G0f _))⟩
 ·obtain⟨its,r',pl,hz⟩:=I.tuple hq
  exact call_tuple_same pl ⟨.ref p,H,I,rfl,q⟩
def tyV (K:PySem.W.Frag) (T:String) (x:V) (H:Hp):Prop:=match x with
 | .str _=>T= "str"
 | .int _=>T= "int"
 | .ref p=>(T= "list" ∧ ∃xs,SqL K H p xs)∨(T= "tuple" ∧ ∃o,K.lookup p=some o∧o.cls= .type "tuple" ∧o.dict=none)∨
  (T= "dict" ∧((∃kvs,H p=some (.dK kvs))∨ ∃kvs,H p=some (.dT kvs)))∨(T= "set" ∧ ∃S n,H p=some (.set S n))
 |_=>False
theorem jpo {pins:List (Addr×Obj)} {σ:St} {H:Hp} {s:Shared} {T:String} {x:V} {v:Value} (I:Inv X pins σ H s) (r:RelV x v) (ty:tyV X.K T x H):
 s.TypeIs v T∧ ∀a,v= .ref a→ ∃ob,s.heap.get? a=some ob∧ob.dict=none:=by
 cases x with
 |str z=>
  obtain⟨t,rfl⟩:=r
  cases (show T= "str" from ty)
  exact⟨typeIs_str s z t,fun _ e=>nomatch e⟩
 |int i=>
  obtain⟨t,rfl⟩:=r
  cases (show T= "int" from ty)
  exact⟨G4A s i t,fun _ e=>nomatch e⟩
 |ref p=>
  cases r
  rcases ty with ⟨rfl,xs,hq⟩|⟨rfl,o,hk,hc,hd⟩|⟨rfl,hk⟩|⟨rfl,S,n,hk⟩
  ·obtain⟨its,_,pl,_⟩:=I.list hq
   refine⟨pl.isList.typeIs,fun a e=> ?_⟩
   cases e
   obtain⟨o,n,e,c,hd,_⟩:=pl
   exact⟨o,e,hd⟩
  ·refine⟨⟨o,I.kIn p o hk,hc⟩,fun a e=> ?_⟩
   cases e
   exact⟨o,I.kIn _ o hk,hd⟩
  ·have z: ∃o,s.heap.get? p=some o∧o.ExactDict:=by
    rcases hk with ⟨kvs,hk⟩|⟨kvs,hk⟩
    ·obtain⟨_,_,_,_,o,_,_,e,ex,_⟩:=I.hok p _ hk
     exact⟨o,e,ex⟩
    ·obtain⟨_,_,_,_,o,_,_,e,ex,_⟩:=I.hok p _ hk
     exact⟨o,e,ex⟩
   obtain⟨o,e,ex⟩:=z
   refine⟨⟨o,e,ex.1⟩,fun a e2=> ?_⟩
   cases e2
   exact⟨o,e,ex.2.1⟩
  ·obtain⟨o,_,_,_,e,ex,_⟩:=I.hok p _ hk
   refine⟨⟨o,e,ex.1⟩,fun a e2=> ?_⟩
   cases e2
   exact⟨o,e,ex.2.1⟩
 |_=>exact False.elim ty
def tBM (K:PySem.W.Frag) (T:String) (r:V→List V→Hp→VK→Prop) (to:TE) (t:TA):TE:=fun σ H Q=>to σ H fun x H1=>tyV K T x H1∧t σ H1 fun xs H2=>r x xs H2 Q
variable {o e:Expr} {es:List Expr} {to:TE} {t:TA} {name:Str} {apos cpos:Pos} {T id:String} {r:V→List V→Hp→VK→Prop}
theorem jlk (pa:PlainAttrs T) (slot:Slot T name id) (hty:typeOf (.builtin id)=pure (.type "method_descriptor")) (hm:MtR X id r) (ho:PE X o to) (ha:PA X (e::es) t)
 (hbase:attributeBase o name X.env (eval o X.env)=eval o X.env:=by rfl)
 (hfew:((backTo cpos (starEach (e::es) X.env)).all (fun x=> !x.1)&&(backToKw cpos (keywordEach [] X.env)).all (fun x=>x.1.isSome)
  &&decide ((e::es).length+([]:List Keyword).length+(if ([]:List Keyword).isEmpty then 0 else 1)<30))=true:=by rfl)
 (hline:(apos.endLine==cpos.line)=true:=by rfl) (hs:starEach (e::es) X.env=(false,eval e X.env)::starEach es X.env:=by rfl) (hplain:(backTo cpos (starEach es X.env)).any (·.1)=false:=by rfl):
 PE X (.Call (.Attribute o name apos) (e::es) [] cpos) (tBM X.K T r to t):=by
 intro pins s σ H Q I h
 refine wpAny_Call_method_late hbase hfew hline rfl (thn (ho pins s σ H _ I h) fun v s1 ⟨x,H1,I1,r1,ty,q1⟩=> ?_)
 obtain⟨h1,h2⟩:=jpo I1 r1 ty
 refine⟨T,id,pa,slot,hty,h1,h2,?_⟩
 have hA:=ha cpos pins s1 σ H1 _ I1 q1
 rw [hs] at hA ⊢
 refine Calls.callWith_builtin (by show (false||(backTo cpos (starEach es X.env)).any (·.1))=false;rw [hplain]<;>rfl) (Calls.evalArgs_plain ?_)
 exact thn hA fun us s2 ⟨vs,H2,I2,r2,q2⟩=>hm pins s2 σ H2 x vs v us Q I2 r1 r2 q2
end
def MtM (X:Cx) (id:String) (r:V→List V→Hp→VK→Prop):Prop:=
 ∀ (pins:List (Addr×Obj)) (s:Shared) (σ:St) (H:Hp) (x:V) (xs:List V) (v:Value) (us:List Value) (Q:VK),Inv X pins σ H s→RelV x v→Vals xs us→r x xs H Q→
  wpAny (model X.prog X.w) X.A (call (.builtin id) (v::us)) (EP X pins σ Q) X.xe s
theorem Vals.one: ∀ {x:V} {us:List Value},Vals [x] us→ ∃u,us= [u]∧RelV x u
 |_,_,.cons r .nil=>⟨_,rfl,r⟩
theorem Vals.rep {xs:List V} {us:List Value} (h:Vals xs us): ∀k:Nat,Vals (List.replicate k xs).flatten (List.replicate k us).flatten
 |0=> .nil
 |k+1=>by
  rw [G16,G16,G2D,G2D]
  exact Vals.append h (Vals.rep h k)
theorem jem (its:List Value): ∀ (k:Nat) (acc:List Value),
 List.foldl (fun x1 x2=>x1++x2) acc.toArray (List.replicate k its.toArray)=(acc++(List.replicate k its).flatten).toArray
 |0,acc=>by simp
 |k+1,acc=>by
  have e:acc.toArray++its.toArray=(acc++its).toArray:=by simp
  have e2:(acc++its)++(List.replicate k its).flatten=acc++(List.replicate (k+1) its).flatten:=by
   rw [G16,G2D,G0j]
  rw [←e2,←jem its k (acc++its),←e,G16,G3P]
section
variable {X:Cx} {pins:List (Addr×Obj)} {σ:St} {H:Hp} {s:Shared} {l b:Addr} {xs ys zs:List V}
theorem Inv.lset {its its' :List Value} {n:Nat} {f:Array Value→Array Value} {t' :Nat} (I:Inv X pins σ H s) (hH:H l=some (.lst xs))
 (e:s.heap.get? l=some {cls:= .type "list",data:= .seq its.toArray n}) (hf:f its.toArray=its'.toArray) (hv:Vals ys its') (hz:ys.length≤sizeLine):
 Inv X pins σ (upd H l (.lst ys)) {s with heap:=s.heap.update l (Obj.mapSeq f),toks:=t'}:=by
 have q:=PySem.IsL.update e f
 rw [hf] at q
 refine I.write (x:=l) (e:=l) (by rw [hH];exact trivial) (.inl rfl) (fun b' u hb hu=>(Heap.get?_update_other s.heap (Obj.mapSeq f) (Ne.symm hb)).trans hu) ⟨_,q⟩ ?_
 exact⟨hz,its',_,hv,q⟩
theorem Inv.lnew {its:List Value} {t' :Nat} (I:Inv X pins σ H s) (hv:Vals ys its) (hz:ys.length≤sizeLine):
 Inv X pins σ (upd H s.heap.objs.size (.lst ys)) {s with heap:=s.heap.push {cls:= .type "list",data:= .seq its.toArray},toks:=t'}:=
 I.laid (fun _ _ q=>G0b _ q) (G0f _) ⟨hz,its,0,hv,G0x _ rfl⟩
theorem Inv.fresh (I:Inv X pins σ H s):H s.heap.objs.size=none:=I.hok.fresh (G0f _)
theorem Inv.lstM (I:Inv X pins σ H s) (hH:H l=some (.lst xs)):xs.length≤sizeLine∧ ∃ (its:List Value) (n:Nat),Vals xs its∧xs.length=its.length∧s.heap.get? l=some {cls:= .type "list",data:= .seq its.toArray n}:=by
 obtain⟨z,its,n,r,e⟩:=I.hok l _ hH
 exact⟨z,its,n,r,r.length,e⟩
theorem jll {n:Nat} (h:n≤sizeLine):Builtin.List.listTooLong n=false:=by
 unfold Builtin.List.listTooLong
 exact G0P (by omega)
end
section
variable {X:Cx}
def jm5:V→List V→Hp→VK→Prop:=fun x vs H Q=> ∃l xs y,x= .ref l∧vs= [y]∧H l=some (.lst xs)∧xs.length<sizeLine∧Q .non (upd H l (.lst (xs++ [y])))
theorem jjB:MtM X "list.append" jm5:=by
 intro pins s σ H x vs v us Q I rx rv h
 obtain⟨l,xs,y,rfl,rfl,hH,hz,q⟩:=h
 cases rx
 obtain⟨u,rfl,ru⟩:=rv.one
 obtain⟨z,its,n,r,hl,e⟩:=I.lstM hH
 refine G3M F.slot_list_append ⟨_,e,rfl⟩ F.entry_list_append (F.args_list_append_2 _ _) (PySem.list_append l its.toArray n u (by rw [G0w];omega)) ⟨e,?_⟩
 refine⟨.non,_,I.lset (its' :=its++ [u]) hH e (by simp) (r.append (.cons ru .nil)) ?_,rfl,q⟩
 rw [G0d,G2a]
 omega
def jsG:R2:=fun x y H Q=> ∃l b xs zs,x= .ref l∧y= .ref b∧H l=some (.lst xs)∧H b=some (.lst zs)∧xs.length+zs.length≤sizeLine∧ ∀p,H p=none→Q (.ref p) (upd H p (.lst (xs++zs)))
theorem jpp:OpR X (binaryOp .Add) jsG:=by
 intro pins s σ H x y v u Q I rx ry h
 obtain⟨l,b,xs,zs,rfl,rfl,hH,hB,hz,q⟩:=h
 cases rx
 cases ry
 obtain⟨z,its,n,r,hl,e⟩:=I.lstM hH
 obtain⟨z2,its2,n2,r2,hl2,e2⟩:=I.lstM hB
 refine PySem.P.add_list e e2 ?_ (by rw [G0w,G0w];omega)
 have ea:its.toArray++its2.toArray=(its++its2).toArray:=by simp
 rw [ea]
 exact⟨.ref _,_,I.lnew (t' :=s.toks) (r.append r2) (by rw [G0d];omega),rfl,q _ I.fresh⟩
def jsH:R2:=fun x y H Q=> ∃l k xs,x= .ref l∧y= .int k∧H l=some (.lst xs)∧ -(2^63)≤k∧k<2^63∧xs.length*k.toNat≤sizeLine∧
 ∀p,H p=none→Q (.ref p) (upd H p (.lst (List.replicate k.toNat xs).flatten))
theorem jhs {α:Type} (xs:List α) (k:Nat):(List.replicate k xs).flatten.length=k*xs.length:=by
 induction k with
 |zero=>simp
 |succ k ih=>rw [G16,G2D,G0d,ih,Nat.succ_mul,Nat.add_comm]
theorem jpq:OpR X (binaryOp .Mult) jsH:=by
 intro pins s σ H x y v u Q I rx ry h
 obtain⟨l,k,xs,rfl,rfl,hH,h1,h2,hz,q⟩:=h
 cases rx
 obtain⟨t,rfl⟩:=ry
 obtain⟨z,its,n,r,hl,e⟩:=I.lstM hH
 have hlen:its.toArray.size*k.toNat≤sizeLine:=by rw [G0w,←hl];exact hz
 have hcap: ¬its.toArray.size*k.toNat>(2^63-1) / 8:=by
  have:(sizeLine:Nat)≤(2^63-1) / 8:=by decide
  omega
 have hfit: ¬ (!Builtin.List.listFitsIndex k)=true:=by
  rw [fitsIndex_both h1 h2]
  exact G0q
 have hlong: ¬Builtin.List.listTooLong (its.toArray.size*k.toNat)=true:=by
  rw [jll hlen]
  exact G0q
 have hnew:List.foldl (fun x1 x2=>x1++x2) #[] (List.replicate (if its.toArray.isEmpty=true then 0 else k.toNat) its.toArray)=(List.replicate k.toNat its).flatten.toArray:=by
  have f0: ∀m:Nat,List.foldl (fun x1 x2=>x1++x2) #[] (List.replicate m its.toArray)=(List.replicate m its).flatten.toArray:=fun m=>by
   have:=jem its m []
   rw [G0Q] at this
   exact this
  rw [f0]
  cases its with
  |nil=>simp
  |cons a r' =>rw [if_neg (by simp)]
 refine wpAny_binaryOp_repeat_ref (T:= "list") (U:= "int") (by decide) ⟨_,e,rfl⟩ (fun s' =>G4A s' k t) noFill_list_mul F.fills_int_mul G3Q repeat_list F.slot_int_index.lookup
  (G3M G3Q (G4A s k t) F.entry_int_rmul (F.args_int_rmul_2 _ _) (int___rmul___int_list k t l its.toArray n)
   ⟨e,rfl,⟨_,e,rfl⟩,G3M F.slot_list_mul ⟨_,e,rfl⟩ F.entry_list_mul (F.args_list_mul_2 _ _) (AutoListH.list___mul___list_int_3 l its.toArray n k t hfit hcap hlong) ⟨e,?_⟩⟩)
 rw [hnew]
 exact⟨.ref _,_,I.lnew (t' :=s.toks) (r.rep k.toNat) (by rw [jhs,G3C];exact hz),rfl,q _ I.fresh⟩
end
end L2
namespace Att
open PySem PySem.W PySem.Calls PyProof.Rows
theorem jen {P:Params} {h:Heap}: ∀ (ns:List Int) (vs:List Value),WellAll P h vs (ns.map WData.int)→IntsAre vs ns:=by
 intro ns
 induction ns with
 |nil=>
  intro vs w
  rw [G1t] at w
  cases w
  exact .nil
 |cons n ns ih=>
  intro vs w
  rw [G0G] at w
  cases w with
  |cons a b=>
   cases a
   exact .cons _ _ (ih _ b)
theorem jjC {l:OpenLaw} {n:Nat} (hn:l.most=some n) {P:Params} {h:Heap} {args:List WData} {vals:List Value}
 (hpre:l.row.toRowW.claim.pre args=true) (hwl:WellAll P h vals args):
 ∃a vs ns,vals= [Value.ref a]∧args= [WData.list (ns.map WData.int)]∧h.get? a=some {cls:= .type "list",data:= .seq vs.toArray}∧IntsAre vs ns∧ns.length≤n:=by
 have hsh:WShape.hasAll [] args [.list .int]=true:=(pre_splitW hpre).1
 have hc:l.pre.holds [] {args:=args}=true:=(pre_splitW hpre).2
 obtain⟨d,r,rfl,h1,h2⟩:=hasAllW_cons hsh
 obtain rfl:=hasAllW_nil h2
 obtain⟨xs,rfl,h3⟩:=hasW_list h1
 obtain⟨ns,rfl⟩:=items_int h3
 have hlen:ns.length≤n:=by
  unfold OpenLaw.pre at hc
  have h4:(WTm.not (.lt (.lit (.int (n:Int))) (.len (.arg 0)))).holds [] {args:= [.list (ns.map .int)]}=true:=by
   have h4:=(holds_andW hc).1
   rw [hn] at h4
   exact h4
  have h5:=condW_of h4 (w_not (w_lt w_lit (w_len_list (w_arg rfl))))
  rw [G0a] at h5
  refine Nat.le_of_not_lt fun q=> ?_
  have q' :(n:Int)<((ns.length:Nat):Int):=by omega
  first
   |(rw [G0I q'] at h5;exact absurd h5 (by decide))
   |(simp at h5;omega)
 cases hwl with
 |cons w1 w2=>
  cases w2
  cases w1 with
  |list ho hall=>exact⟨_,_,ns,rfl,rfl,ho,jen ns _ hall,hlen⟩
theorem jjD (l:OpenLaw) (args:List WData):l.row.toRowW.claim.post args (.bool true) args=true:=
 postW_of (r:=l.row.toRowW) (X:=(true==true))
  (show WShape.has [] (.bool true) .bool=true by first|rfl|decide|simp [WShape.has,WShape.arms,WShape.armsAll])
  (show (WTm.eq .res (.lit (.bool true))).value [] {args:=args,res:=some (.bool true),after:=args}=some (.bool (true==true)) from w_eq_bool (w_res rfl) w_lit) rfl
theorem attach_call {l:OpenLaw} {n:Nat} {q:Program} {loose:List Str} {XP:(Str→Option Value)→Heap→Prop} {YP:World→Heap→Prop} {d:DefRec}
 (hn:l.most=some n) (hdf:d.params.defaults= [])
 (call: ∀ (w:World) (s₀ s₁:Shared) (mg mb:Str→Option Value) (fa:Addr) (o:Obj) (pm cd doc:Value) (a:Addr) (vs:List Value) (ns:List Int),
  Ground q loose [] XP w s₀ mg mb s₁.heap→YP w s₁.heap→
  s₁.heap.get? fa=some o→o.data= .func (docDef d.name d.params d.body d.scope pm cd doc)→s₁.heap.CodeRec cd d.name→mg d.name=some (.ref fa)→
  s₁.heap.get? a=some {cls:= .type "list",data:= .seq vs.toArray}→IntsAre vs ns→ns.length≤n→s₁.gens= #[]→
  codeAny (model l.prog w) callerA (.call (.ref fa) ⟨[.ref a],[]⟩) (fun r s' =>r= .ok (.ret (.bool true))∧OldK s₁.heap s'.heap∧s'.os=s₁.os∧AllBare s'.gens) s₁):
 WalkO q loose XP YP l.row.toRowW d [] (fun f vs=>PySem.call f vs):=by
 intro w s₀ s₁ mg mb G Y fa o pm cd doc dV kV ho hd hcd hD hmg hg args vals as hpre hlay hrd hwl hlo
 obtain rfl:dV= .none:=Dflts.none hD hdf
 obtain rfl:kV= .none:=Dflts.noKw hD
 obtain⟨a,vs,ns,rfl,rfl,hobj,hints,hlen⟩:=jjC hn hpre hwl
 refine enter_call (G2V (call w s₀ s₁ mg mb fa o pm cd doc a vs ns G Y ho (fd_plain hd) hcd hmg hobj hints hlen hg) fun r s' hq=> ?_)
 obtain⟨rfl,h2,h3,h4⟩:=hq
 exact⟨.inl ⟨.bool true,.bool true,[],rfl,fun _=>rfl,.bool true,jjD l _,fun _=>⟨List.Pairwise.nil,fun _ hm=>(nomatch hm)⟩⟩,h2,h3,h4⟩
end Att
namespace L2
open PySem PySem.Spec PyProof.Rows
theorem jgD: ∀ {vs:List Value} {ns:List Int},IntsAre vs ns→Vals (ns.map V.int) vs
 |_,_,.nil=> .nil
 |_,_,.cons n t h=> .cons ⟨t,rfl⟩ (jgD h)
def Only (H:Hp):Prop:= ∀b,H b=none∨ ∃o xs,H b=some (.frz o (.lst xs))
def jaq (s:Stmt):Arguments:=match s with
 | .FunctionDef _ a _ _ _ _ _ _ _ _=>a
 |_=> {posonlyargs:= [],args:= [],vararg:=none,kwonlyargs:= [],kw_defaults:= [],kwarg:=none,defaults:= []}
def jal (s:Stmt):List Stmt:=match s with
 | .FunctionDef _ _ b _ _ _ _ _ _ _=>b
 |_=> []
def jab (s:Stmt):Scope:=match s with
 | .FunctionDef _ _ _ _ _ _ sc _ _ _=>sc
 |_=> {kind:= .function,names:= [],isGenerator:=false,isCoroutine:=false}
abbrev CX0:CXT:=fun _ _ _ _ _ _=>False
abbrev E0:XK:=fun _ _ _=>False
theorem jm6 {X:Cx}:jeh CX0 X E0:=fun _ _ _ _ _ _ _ h=>h.elim
structure Fun (K:PySem.W.Frag) (x qual:Str) (st:Stmt) (f:Addr) (fd:FuncData):Prop where
 ex: ∃ (oc:Value) (od:Option Addr) (kV doc pm:Value) (an:Option Addr) (cdv ct:Value) (osl:Array (Option Value)),
  fd=PySem.W.fnOf x qual (jaq st) (jal st) (jab st) .none kV doc pm an cdv ct∧K.lookup f=some ⟨oc,od,.func fd,osl⟩∧PySem.W.codeIn K cdv qual=true
 kp:PySem.W.keepIn K (.ref f)=true
section
variable {P:Program} {w:World} {K:PySem.W.Frag} {mg:Str→Option Value} {base:Heap}
theorem Fun.ok {x qual:Str} {st:Stmt} {f:Addr} {fd:FuncData} {N ps:List Str} {k:Nat} {sp:Sp} (F:Fun K x qual st f fd) (S:FnScope N ps (jab st)) (len: ∀vs H Q E,sp vs H Q E→vs.length=ps.length)
 (hbody: ∀ (cdv:Value) (A:Around) (outer:List Env) (s:Shared) (H:Hp) (vs:List V) (Q:VK) (E:XK),Room k (A.deeper (envOfC qual (jab st) s.heap.objs.size f cdv))→sp vs H Q E→
  ∃t,PSs (jfI CX0 P w K mg base N qual (jab st) f cdv A outer s H E).nox (jal st) t∧t {nx:=fun _ H' =>Q .non H',rt:=Q} (start N vs) H):FnOk P w K mg base CX0 (k+1) f fd ps sp:=by
 obtain⟨oc,od,kV,doc,pm,an,cdv,ct,osl,rfl,lk,hcd⟩:=F.ex
 refine jm1 lk hcd S len fun A outer s H vs Q E hr hsp=> ?_
 obtain⟨t,h,q⟩:=hbody cdv A outer s H vs Q E hr hsp
 exact⟨t,h.nox,q⟩
theorem Fun.binds {x qual:Str} {st:Stmt} {f:Addr} {fd:FuncData} {ps:List Str} (F:Fun K x qual st f fd)
 (h: ∀ (kV doc pm:Value) (an:Option Addr) (cdv ct:Value) (us:List Value),us.length=ps.length→bindArgs (PySem.W.fnOf x qual (jaq st) (jal st) (jab st) .none kV doc pm an cdv ct) ⟨us,[]⟩=pure (ps.zip us)):Binds K fd ps []:=by
 obtain⟨oc,od,kV,doc,pm,an,cdv,ct,osl,rfl,lk,hcd⟩:=F.ex
 exact .all (h kV doc pm an cdv ct)
theorem jaG {x qual:Str} {st:Stmt} {f:Addr} {oc:Value} {od an:Option Addr} {osl:Array (Option Value)} {kV doc pm cdv ct:Value} (l:K.lookup f=some ⟨oc,od,.func (PySem.W.fnOf x qual (jaq st) (jal st) (jab st) .none kV doc pm an cdv ct),osl⟩)
 (c:PySem.W.codeIn K cdv qual=true) (k:PySem.W.keepIn K (.ref f)=true):Fun K x qual st f (PySem.W.fnOf x qual (jaq st) (jal st) (jab st) .none kV doc pm an cdv ct):=⟨⟨oc,od,kV,doc,pm,an,cdv,ct,osl,rfl,l,c⟩,k⟩
end
theorem jar {n:Nat} (h:n≤1000):n<sizeLine:=G1Z h (by decide)
section
variable {X:Cx}
theorem pv (i:Nat) {x:Str} {pos:Pos} (hN:X.N[i]? =some x:=by rfl) (hv:Vis X.env.scope x:=by first|exact Or.inl rfl|exact Or.inr (Or.inl rfl)|exact Or.inr (Or.inr rfl)) (hd:(x==("__debug__" :Str))=false:=by decide)
 (hcd:(x==("__classdict__" :Str))=false:=by decide):PE X (.Name x pos) (jq6 i):=jmf hN hv hd hcd
end
theorem jeo {A B:Prop} (h:B):if false=true then A else B:=by
 rw [if_neg G0q]
 exact h
theorem jk5 {A B:Prop} (h:A):if true=true then A else B:=by
 rw [if_pos rfl]
 exact h
theorem jfL {c A B:Prop} [Decidable c] (h1:c→A) (h2: ¬c→B):if c then A else B:=by
 by_cases h:c
 ·rw [if_pos h]
  exact h1 h
 ·rw [if_neg h]
  exact h2 h
structure M1 (X:Cx) (o:Expr) (m:Str) (apos:Pos) (e:Expr) (cpos:Pos):Prop where
 base:attributeBase o m X.env (eval o X.env)=eval o X.env
 few:((backTo cpos (starEach [e] X.env)).all (fun x=> !x.1)&&(backToKw cpos (keywordEach [] X.env)).all (fun x=>x.1.isSome)
  &&decide (([e]:List Expr).length+([]:List Keyword).length+(if ([]:List Keyword).isEmpty then 0 else 1)<30))=true
 line:(apos.endLine==cpos.line)=true
 trees:backTo cpos (starEach [e] X.env)= [(false,eval e X.env)]
structure M2 (X:Cx) (o:Expr) (m:Str) (apos:Pos) (e f:Expr) (cpos:Pos):Prop where
 base:attributeBase o m X.env (eval o X.env)=eval o X.env
 few:((backTo cpos (starEach [e,f] X.env)).all (fun x=> !x.1)&&(backToKw cpos (keywordEach [] X.env)).all (fun x=>x.1.isSome)
  &&decide (([e,f]:List Expr).length+([]:List Keyword).length+(if ([]:List Keyword).isEmpty then 0 else 1)<30))=true
 line:(apos.endLine==cpos.line)=true
 trees:backTo cpos (starEach [e,f] X.env)= [(false,eval e X.env),(false,eval f X.env)]
def jb0 (names:List (Str×NameKind)) (env:Env) (cs:List (Str×Addr)):List (Str×Addr):=
 names.foldl (fun cs p=>if p.2= .free then (match env.cells.lookup p.1 with|some c=>(p.1,c)::cs|none=>cs) else cs) cs
theorem jbB (p:Str×NameKind) (l:List (Str×NameKind)) (env:Env) (cs:List (Str×Addr)):
 jb0 (p::l) env cs=jb0 l env (if p.2= .free then (match env.cells.lookup p.1 with|some c=>(p.1,c)::cs|none=>cs) else cs):=rfl
theorem jep {env:Env} {f:Str×NameKind→List (Str×Addr)→Sem (ForInStep (List (Str×Addr)))}
 (h1: ∀p cs,p.2≠ .free→f p cs=pure (.yield cs)) (h2: ∀p cs c,p.2= .free→env.cells.lookup p.1=some c→f p cs=pure (.yield ((p.1,c)::cs))):
 ∀ (l:List (Str×NameKind)) (cs:List (Str×Addr)),(∀p∈l,p.2= .free→ ∃c,env.cells.lookup p.1=some c)→forIn l cs f=pure (jb0 l env cs)
 | [],cs,_=>rfl
 |p::l,cs,h=>by
  have ih:=jep h1 h2 l
  by_cases hp:p.2= .free
  ·obtain⟨c,hc⟩:=h p G0t hp
   rw [G3k,h2 p cs c hp hc,pure_bind]
   show forIn l ((p.1,c)::cs) f=_
   rw [ih _ fun q hq=>h q (G0y _ hq),jbB,if_pos hp,hc]
  ·rw [G3k,h1 p cs hp,pure_bind]
   show forIn l cs f=_
   rw [ih _ fun q hq=>h q (G0y _ hq),jbB,if_neg hp]
theorem jfM {scope:Scope} {env:Env} (h: ∀p∈scope.names,p.2= .free→ ∃c,env.cells.lookup p.1=some c):closureFor scope env=pure (jb0 scope.names env []):=by
 simp only [closureFor]
 rw [jep (env:=env) (fun p cs hp=> ?_) (fun p cs c hp hc=> ?_) _ _ h]
 ·rfl
 ·obtain⟨n,k⟩:=p
  have hb:(k==NameKind.free)=false:=by simpa using hp
  simp only [hb,G1o,G4z]
 ·obtain⟨n,k⟩:=p
  have hb:(k==NameKind.free)=true:=by simpa using hp
  have hc' :env.cells.lookup n=some c:=hc
  simp only [hb,if_true,cellOf,hc',pure_bind]
theorem jeq {env:Env}: ∀ (l:List (Str×NameKind)) (cs:List (Str×Addr)),(∀p∈cs,env.cells.lookup p.1=some p.2)→ ∀p∈jb0 l env cs,env.cells.lookup p.1=some p.2
 | [],cs,h,p,hp=>h p hp
 |q::l,cs,h,p,hp=>by
  rw [jbB] at hp
  refine jeq l _ (fun r hr=> ?_) p hp
  by_cases hq:q.2= .free
  ·rw [if_pos hq] at hr
   cases e:env.cells.lookup q.1 with
   |none=>rw [e] at hr;exact h r hr
   |some c=>
    rw [e] at hr
    rcases G0n.mp hr with rfl|hr
    ·exact e
    ·exact h r hr
  ·rw [if_neg hq] at hr;exact h r hr
theorem jer {env:Env}: ∀ (l:List (Str×NameKind)) (cs:List (Str×Addr)),∀p∈cs,p∈jb0 l env cs
 | [],cs,p,hp=>hp
 |q::l,cs,p,hp=>by
  rw [jbB]
  refine jer l _ p ?_
  by_cases hq:q.2= .free
  ·rw [if_pos hq]
   cases e:env.cells.lookup q.1 with
   |none=>exact hp
   |some c=>exact G0y _ hp
  ·rw [if_neg hq];exact hp
theorem jes {env:Env} {x:Str} {c:Addr} (hc:env.cells.lookup x=some c): ∀ (l:List (Str×NameKind)) (cs:List (Str×Addr)),(x,NameKind.free)∈l→(x,c)∈jb0 l env cs
 |q::l,cs,h=>by
  rw [jbB]
  rcases G0n.mp h with e|h
  ·subst e
   rw [if_pos rfl,hc]
   exact jer l _ _ G0t
  ·exact jes hc l _ h
theorem jbL {α:Type}: ∀ {l:List (Str×α)} {x:Str} {c:α},l.lookup x=some c→(x,c)∈l
 | [],_,_,h=>by simp at h
 |(n,k)::r,x,c,h=>by
  rw [G1w] at h
  cases hx:x==n with
  |true=>
   rw [hx] at h
   have e:x=n:=eq_of_beq hx
   cases h;subst e
   exact G0t
  |false=>rw [hx] at h;exact G0y _ (jbL h)
theorem jfe {α:Type}: ∀ {l:List (Str×α)} {x:Str} {c:α},(x,c)∈l→ ∃c',l.lookup x=some c'
 |(n,k)::r,x,c,h=>by
  rw [G1w]
  cases hx:x==n with
  |true=>exact⟨_,rfl⟩
  |false=>
   rcases G0n.mp h with e|h
   ·cases e;simp at hx
   ·exact jfe h
theorem jff {l:List (Str×NameKind)} {env:Env} {x:Str} {c:Addr} (h:(jb0 l env []).lookup x=some c):env.cells.lookup x=some c:=
 jeq l [] (fun _ z=>nomatch z) (x,c) (jbL h)
theorem jjE {l:List (Str×NameKind)} {env:Env} {x:Str} {c:Addr} (hc:env.cells.lookup x=some c) (h:(x,NameKind.free)∈l):(jb0 l env []).lookup x=some c:=by
 obtain⟨c',e⟩:=jfe (jes hc l [] h)
 have:=jff e
 rw [hc] at this;cases this
 exact e
theorem jck {κ:Type} {f:Str×κ→Str×κ} {g:Str→κ→κ} (hf: ∀n k,f (n,k)=(n,g n k)) (x:Str): ∀l:List (Str×κ),(l.map f).lookup x=(l.lookup x).map (g x)
 | []=>rfl
 |(n,k)::r=>by
  rw [G0G,hf,G1w,G1w,jck hf x r]
  cases same:x==n with
  |false=>rfl
  |true=>rw [eq_of_beq same];rfl
theorem jaQ {env:Env} {names:List (Str×NameKind)} {x:Str} {k:NameKind} (found:
 (names.map fun (n,k)=>if (k==NameKind.free&&env.scope.kind== .function&&env.kindOf n==some .cell) then (n,NameKind.cell) else (n,k)).lookup x=some k):
  names.lookup x=some k∨names.lookup x=some .free:=by
 rw [jck (g:=fun n k=>if (k==NameKind.free&&env.scope.kind== .function&&env.kindOf n==some .cell) then .cell else k) (fun n k=>by dsimp only;split<;>rfl)] at found
 obtain⟨k0,was,now⟩:=G1I.mp found
 split at now
 ·rename_i c
  simp only [G0Z,G28] at c
  exact .inr (by rw [was,c.1.1])
 ·exact .inl (by rw [was,now])
theorem jbH: ∀ (names:List (Str×NameKind)) (n:Nat) (acc:List (Str×Addr)) (p:Str×Addr),p∈cellsFrom n names acc→p∈acc∨(n≤p.2∧(p.1,NameKind.cell)∈names)
 | [],_,_,_,h=> .inl h
 |(x,k)::r,n,acc,p,h=>by
  unfold cellsFrom at h
  split at h
  ·rename_i hk
   rcases jbH r (n+1) _ p h with z|⟨z1,z2⟩
   ·rcases G0n.mp z with e|z
    ·subst e
     have:k= .cell:=by simpa using hk
     subst this
     exact .inr ⟨G0f _,G0t⟩
    ·exact .inl z
   ·exact .inr ⟨by omega,G0y _ z2⟩
  ·rcases jbH r n acc p h with z|⟨z1,z2⟩
   ·exact .inl z
   ·exact .inr ⟨z1,G0y _ z2⟩
theorem jaI: ∀ (names:List (Str×NameKind)) (n:Nat) (acc:List (Str×Addr)),cellsFrom n names acc=cellsFrom n names []++acc
 | [],_,_=>rfl
 |(x,k)::r,n,acc=>by
  unfold cellsFrom
  split
  ·rw [jaI r (n+1) ((x,n)::acc),jaI r (n+1) [(x,n)],G0j];rfl
  ·exact jaI r n acc
theorem jdG {α:Type} (l l' :List (Str×α)) (x:Str):(l++l').lookup x=(match l.lookup x with|some c=>some c|none=>l'.lookup x):=by
 induction l with
 |nil=>rfl
 |cons p l ih=>
  obtain⟨n,c⟩:=p
  rw [G00,G1w,G1w]
  cases x==n with
  |true=>rfl
  |false=>exact ih
theorem jc6 {env:Env} {names:List (Str×NameKind)} {x:Str} (here:names.lookup x=some .cell):
 (names.map fun (n,k)=>if (k==NameKind.free&&env.scope.kind== .function&&env.kindOf n==some .cell) then (n,NameKind.cell) else (n,k)).lookup x=some .cell:=by
 rw [jck (g:=fun n k=>if (k==NameKind.free&&env.scope.kind== .function&&env.kindOf n==some .cell) then .cell else k) (fun n k=>by dsimp only;split<;>rfl),here]
 simp
section
variable {M:Model} {A:Around} {E:Value→Shared→Prop} {s:Shared}
theorem jiH (h:Heap) (names:List (Str×NameKind)):(∀n c,(n,c)∈cellsFrom h.objs.size names []→(pushCells h names).IsCell c none∧h.objs.size≤c)∧(cellsFrom h.objs.size names []).Pairwise fun x y=>x.2≠y.2:=
 have laid:=cellsFrom_ok names h h.objs.size [] ⟨by simp,.nil⟩ (G0f _)
 ⟨laid.empty,laid.apart⟩
theorem jgE {scope:Scope} {globals:Addr} {closure:List (Str×Addr)} {qual:Str} {func:Option Addr} {code:Value} {outer:Env} {builtins:Addr} {Q:Env→Shared→Prop}
 (hQ: ∀h',h'.Ns s.heap.objs.size (fun _=>none)→(∀b o,s.heap.get? b=some o→h'.get? b=some o)→(∀n c,(n,c)∈cellsFrom (s.heap.objs.size+1) scope.names []→h'.IsCell c none∧s.heap.objs.size+1≤c)→
  ((cellsFrom (s.heap.objs.size+1) scope.names []).Pairwise fun x y=>x.2≠y.2)→
  Q (newEnv scope s.heap.objs.size globals (cellsFrom (s.heap.objs.size+1) scope.names closure) qual func code (some outer) builtins) {s with heap:=h'}):
 wpAny M A (newFunctionEnv scope globals closure [] qual func code (some outer) builtins) Q E s:=by
 have names:=jiH (s.heap.push {cls:= .type "dict",data:= .dict #[]}) scope.names
 have first:(s.heap.push {cls:= .type "dict",data:= .dict #[]}).objs.size=s.heap.objs.size+1:=G3x ..
 rw [first] at names
 unfold newFunctionEnv
 refine wpAny_bind (wpAny_alloc (wpAny_bind (wpAny_layCells _ (fun n k cs=>rfl) _ _ _ _ ?_)))
 simp only [Option.isSome_some,if_true]
 rw [first]
 exact wpAny_bind (G0e (G0e (hQ _ ((Heap.Ns.new _ _).keeps (pushCells_keeps _ _)) (fun b o here=>pushCells_keeps _ _ b o (G0b _ here)) names.1 names.2)))
end
def jaE (X:Cx) (scope:Scope) (C:Addr):List (Str×Addr):=cellsFrom (C+1) scope.names (jb0 scope.names X.env [])
def jfN (X:Cx) (scope:Scope) (C:Addr) (s₀:Shared) (H₀:Hp) (ex:List Addr):Cx:=
 {X with s₀:=s₀,H₀:=H₀,env:=compEnvC scope (jaE X scope C) C X.env,outer:=X.stack,ex:=ex,fn:=fun x=>scope.names.lookup x==some .cell,pn:= [],xe:=fun _ _=>False}
def jat (X:Cx) (scope:Scope) (X' :Cx):Prop:= ∃C s₀ H₀ ex,X' =jfN X scope C s₀ H₀ ex
structure BlockOk (X:Cx) (scope:Scope) (js:List Nat):Prop where
 kind:scope.kind= .function
 locs: ∀p∈scope.names,p.2= .local→scope.names.lookup p.1=some .local
 cels: ∀p∈scope.names,p.2= .cell→scope.names.lookup p.1=some .cell
 free: ∀p∈scope.names,p.2= .free→X.env.scope.names.lookup p.1=some .cell∨X.env.scope.names.lookup p.1=some .free
 js: ∀ (i:Nat) (x:Str),X.N[i]? =some x→(scope.names.lookup x=some .local∨scope.names.lookup x=some .cell)→i∈js
theorem jcb {X:Cx} {scope:Scope} {js:List Nat} (S:BlockOk X scope js) {C:Addr} {x:Str} {c:Addr} (h:(jaE X scope C).lookup x=some c):
 (scope.names.lookup x≠some .cell∧X.env.cells.lookup x=some c)∨(scope.names.lookup x=some .cell∧(x,c)∈cellsFrom (C+1) scope.names []):=by
 unfold jaE at h
 rw [jaI,jdG] at h
 cases e:(cellsFrom (C+1) scope.names []).lookup x with
 |some d=>
  rw [e] at h
  cases h
  have m:=jbL e
  rcases jbH _ _ _ _ m with z|⟨_,z⟩
  ·exact absurd z (by simp)
  ·exact .inr ⟨S.cels _ z rfl,m⟩
 |none=>
  rw [e] at h
  refine .inl ⟨fun z=> ?_,jff h⟩
  obtain⟨d,hd⟩:=jcT (sc:=scope) (n:=C+1) z
  rw [e] at hd;cases hd
theorem jdV {X:Cx} {scope:Scope} {js:List Nat} (S:BlockOk X scope js) {C:Addr} {x:Str} {c:Addr} (hc:X.env.cells.lookup x=some c) (h:(x,NameKind.free)∈scope.names) (hn:scope.names.lookup x≠some .cell):(jaE X scope C).lookup x=some c:=by
 unfold jaE
 rw [jaI,jdG]
 cases e:(cellsFrom (C+1) scope.names []).lookup x with
 |some d=>
  rcases jbH _ _ _ _ (jbL e) with z|⟨_,z⟩
  ·exact absurd z (by simp)
  ·exact absurd (S.cels _ z rfl) hn
 |none=>exact jjE hc h
def jbG:List Nat→St→St
 | [],σ=>σ
 |j::js,σ=>jbG js (σ.set j none)
theorem jfg: ∀ (js:List Nat) (σ:St),(jbG js σ).length=σ.length
 | [],_=>rfl
 |j::js,σ=>by rw [jbG,jfg js];simp
theorem jet: ∀ (js:List Nat) (σ:St) (i:Nat) (v:V),(jbG js σ)[i]? =some (some v)→σ[i]? =some (some v)
 | [],_,_,_,h=>h
 |j::js,σ,i,v,h=>by
  have h1:=jet js _ i v h
  by_cases e:i=j
  ·subst e
   rw [G3t] at h1
   simp at h1
  ·rwa [G1H (Ne.symm e)] at h1
theorem jbn: ∀ (js:List Nat) (σ:St) (i:Nat) (v:V),i∈js→ ¬ (jbG js σ)[i]? =some (some v)
 |j::js,σ,i,v,hm,h=>by
  rcases G0n.mp hm with rfl|hm
  ·have h1:=jet js _ i v h
   rw [G3t] at h1
   simp at h1
  ·exact jbn js _ i v hm h
theorem HOk.track {P:Program} {w:World} {H:Hp} {h:Heap} {a:Addr} {o:HO} (x:HOk P w H h) (hn:H a=none) (new:ObjOk P w (upd H a o) h a o):HOk P w (upd H a o) h:=fun b u e=>by
 by_cases hb:b=a
 ·subst hb;rw [jam] at e;cases e;exact new
 ·rw [jaj hb] at e
  exact(x b u e).stay (fun c v _ q=>q) (fun c q=>by rw [jaj (jan q hn)];exact q) fun c xs q=>by rw [jaj (jan q hn)];exact q
def Agree (σ σ' :St):Prop:=σ'.length=σ.length∧ ∀ (i:Nat) (v:V),σ[i]? =some (some v)→σ'[i]? =some (some v)
theorem Agree.set {σ:St} {j:Nat} (v:V) (h: ∀u,¬σ[j]? =some (some u)):Agree σ (σ.set j (some v)):=⟨by simp,fun i u q=>by
 by_cases e:j=i
 ·subst e;exact absurd q (h u)
 ·rw [G1H e];exact q⟩
theorem Agree.trans {a b c:St} (x:Agree a b) (y:Agree b c):Agree a c:=⟨y.1.trans x.1,fun i v h=>y.2 i v (x.2 i v h)⟩
def PTs (X:Cx) (ifs:List Expr) (t:TT):Prop:=
 ∀ (pins:List (Addr×Obj)) (s:Shared) (σ:St) (H:Hp) (Q:Bool→Hp→Prop),Inv X pins σ H s→t σ H Q→
  wpAny (model X.prog X.w) X.A (forIn ifs true fun c r=>if r=true then do let ok ←isTrue c X.env (eval c X.env);pure (ForInStep.yield ok) else pure (ForInStep.yield r)) (TP X pins σ Q) X.xe s
def jsn:TT:=fun _ H Q=>Q true H
theorem jm7 {X:Cx}:PTs X [] jsn:=fun _ _ _ H _ I h=>wpAny_tests_nil ⟨H,I,h⟩
theorem jm8 {X:Cx} {c:Expr} {t:TT} (hc:PT X c t):PTs X [c] t:=fun pins s σ H Q I h=>wpAny_tests_one (hc pins s σ H Q I h)
def jfh (iter target:Expr) (ifs:List Expr) (it:Value) (env:Env) (act:Sem Unit) (nxt:Code):Sem PySem.Fin:=do
 standAt iter.pos
 match ←pyNext it with
 |none=>pure (.done .next)
 |some v=>
  letOwnedTupleGo target it v
  assign target env v
  let mut ok:=true
  for c in ifs do
   if ok then ok ←isTrue c env (eval c env)
  if ok then act
  again nxt
theorem jh2 {prog:Program} {w:World} {A:Around} {R:Result→Shared→Prop} {s:Shared} {elt target iter:Expr} {gens:List Comprehension} {scope:Scope} {pos:Pos} {ifs:List Expr} {depth:Nat} {it acc:Value} {env:Env} {act:Sem Unit} (I:Nat→Shared→Prop)
 (heq:compTurn (.ListComp elt gens scope pos) depth it acc env=jfh iter target ifs it env act (.compLoop (.ListComp elt gens scope pos) depth it acc env))
 (turn: ∀n s,I n s→wpAny (model prog w) A (pyNext it) (fun r s₁=>match r with
  |none=>R (.ok .next) s₁
  |some v=>wpAny (model prog w) A (letOwnedTupleGo target it v) (fun _ s₁=>wpAny (model prog w) A (assign target env v) (fun _ s₂=>
   wpAny (model prog w) A (forIn ifs true fun c r=>if r=true then do let ok ←PySem.isTrue c env (eval c env);pure (ForInStep.yield ok) else pure (ForInStep.yield r)) (fun ok s₃=>
    if ok=true then wpAny (model prog w) A act (fun _ s₅=> ∃m,m<n∧I m s₅) (fun _ _=>False) s₃
    else ∃m,m<n∧I m s₃) (fun _ _=>False) s₂) (fun _ _=>False) s₁) (fun _ _=>False) s₁) (fun _ _=>False) s)
 (n:Nat) (h:I n s):
 codeAny (model prog w) A (.compLoop (.ListComp elt gens scope pos) depth it acc env) R s:=by
 refine codeAny_loop rfl I (fun n s hI=> ?_) n h
 show wpAny _ A ((compTurn (.ListComp elt gens scope pos) depth it acc env).onRaise (fun x=>do noteFrame x env;theTreesLotGoes x)) _ _ s
 refine wpAny_noted ?_
 rw [heq]
 unfold jfh
 refine wpAny_bind (G3e (wpAny_bind (G0H (turn n s hI) (fun r s₁ h₁=> ?_) fun _ _ h' =>h'.elim)))
 cases r with
 |none=>exact G0e h₁
 |some v=>
  refine wpAny_bind (G0H h₁ (fun _ s₁ h₁=> ?_) fun _ _ h' =>h'.elim)
  refine wpAny_bind (G0H h₁ (fun _ s₂ h₂=>wpAny_bind (G0H h₂ (fun ok s₃ h₃=> ?_) fun _ _ h' =>h'.elim)) fun _ _ h' =>h'.elim)
  cases ok with
  |false=>exact G0e ⟨rfl,h₃⟩
  |true=>exact wpAny_bind (G0H h₃ (fun _ s₅ h₅=>G0e ⟨rfl,h₅⟩) fun _ _ h' =>h'.elim)
abbrev TM:=St→Hp→List V→(List V→Hp→Prop)→Prop
def jqZ (X:Cx) (D:Addr) (act:Sem Unit) (t:TM):Prop:=
 ∀ (pins:List (Addr×Obj)) (s:Shared) (σ:St) (H:Hp) (ys:List V) (us:List Value) (Q:List V→Hp→Prop),Inv X ([(D,LCg.lst us)]++pins) σ H s→Vals ys us→ys.length≤sizeLine→D∈X.ex→(∀x c,X.env.cells.lookup x=some c→c≠D)→(∀p∈X.pn++pins,p.1≠D)→t σ H ys Q→
  wpAny (model X.prog X.w) X.A act (fun _ s' => ∃ys' us' H',Vals ys' us' ∧Inv X ([(D,LCg.lst us')]++pins) σ H' s' ∧Q ys' H') (fun _ _=>False) s
def jpr (te:TE):TM:=fun σ H ys Q=>te σ H fun y H1=>Q (ys++ [y]) H1
def jfi (elt:Expr) (env:Env) (acc:Value):Sem Unit:=do let _ ←call (.builtin "list.append") [acc,←eval elt env]
theorem jfO {X:Cx} {D:Addr} {elt:Expr} {te:TE} (hx:X.xe=fun _ _=>False) (he:PE X elt te):jqZ X D (jfi elt X.env (.ref D)) (jpr te):=by
 intro pins s σ H ys us Q I hv hz DX cD pD h
 have q:=he _ s σ H _ I h
 rw [hx] at q
 unfold jfi
 refine wpAny_bind (G0H q (fun y s1 ⟨yv,H1,I1,r1,q1⟩=> ?_) fun _ _ z=>z)
 have zD:=I1.pin (D,LCg.lst us) (G0v _ (G1v _ G0t))
 refine wpAny_bind (append_at (its:=us.toArray) (n:=us.length) zD.1 (fun h11 hs11 hD11=>G0e ?_) (by rw [G0w,←hv.length];exact hz))
 have I10u:Inv X pins σ H1 s1:=I1.pins_of fun p hp=>I1.pin p (G0v _ (G0v _ hp))
 have I11:Inv X pins σ H1 {s1 with heap:=h11}:=I10u.turned (t' :=s1.toks) (it:=D) (fun b o hb e=>hs11.extBut b o hb e) zD.2.1 zD.2.2.1 (.inl DX) cD pD
 have eD:h11.get? D=some (LCg.lst (us++ [y])):=by rw [hD11];exact congrArg some (LCg.lst_snoc us y)
 refine⟨ys++ [yv],us++ [y],H1,hv.append (.cons r1 .nil),I11.pins_of fun p hp=> ?_,q1⟩
 rcases G0u.mp hp with z|z
 ·rcases G0g.mp z with rfl
  exact⟨eD,zD.2.1,zD.2.2.1,zD.2.2.2.1,fun v z=>by cases z⟩
 ·exact I11.pin p (G0v _ z)
def jq0 (js : List Nat) (wi : TI) (g : TG) (tt : TT) (tm : TM) : TE := fun σ H Q => wi σ H fun J H1 =>
  ∃ W : Nat → Nat → List V → Hp → Prop, (∃ m, W 0 m [] H1) ∧ ∀ i m ys H, W i m ys H → ys.length ≤ sizeLine ∧
    ((J.stop i H ∧ ∀ p, H p = none → Q (.ref p) (upd H p (.lst ys))) ∨
     (J.go i H ∧ ∀ x H', J.yld i H x H' → g x (jbG js σ) H' fun σ2 H2 => Agree (jbG js σ) σ2 ∧ tt σ2 H2 fun b H3 =>
        if b = true then tm σ2 H3 ys fun ys' H4 => ∃ m', m' < m ∧ W (i + 1) m' ys' H4 else ∃ m', m' < m ∧ W (i + 1) m' ys H3))
def tLC (js:List Nat) (wi:TI) (g:TG) (tt:TT) (te:TE):TE:=jq0 js wi g tt (jpr te)
theorem jml {X:Cx} {e elt iter tg:Expr} {ifs:List Expr} {rest:List Comprehension} {scope:Scope} {pos pos0:Pos} {js:List Nat} {wi:TI} {g:TG} {tt:TT} {tm:TM} {use:Option (Value→Sem Unit)} {Qv:Value→Shared→Prop} (hc:X.calm=true) (S:BlockOk X scope js) (hi:PI X tg iter wi)
 (he0:e= .ListComp elt (⟨tg,iter,ifs,0⟩::rest) scope pos)
 (hg: ∀X',jat X scope X' →PG X' tg g) (ht: ∀X',jat X scope X' →PTs X' ifs tt)
 (act:Env→Value→Sem Unit) (hturn: ∀it acc env,compTurn e 0 it acc env=jfh iter tg ifs it env (act env acc) (.compLoop e 0 it acc env)) (he: ∀X',jat X scope X' → ∀D,jqZ X' D (act X'.env (.ref D)) tm)
 (hs: ∀x,foldedSetIterable iter X.env x=pure x) {pins:List (Addr×Obj)} {s:Shared} {σ:St} {H:Hp} {Q:VK} (I:Inv X pins σ H s) (h:jq0 js wi g tt tm σ H Q)
 (fin: ∀ (D C:Addr) (H' :Hp) (s' :Shared) (m:Str→Option Value),s'.heap.Ns C m→(∀h',Heap.SameBut C s'.heap h' →Inv X pins σ H' {s' with heap:=h'})→H' C=none→C≠X.env.locals→C ∉ X.fs→X.s₀.heap.objs.size≤C→(∀x c,X.env.cells.lookup x=some c→c≠C)→(∀p∈X.pn++pins,p.1≠C)→
  Q (.ref D) H' →compPost (model X.prog X.w) X.A X.xe use Qv (.ref D) C (.ok .next) s'):
 wpAny (model X.prog X.w) X.A (comprehension e scope X.env pos0 (newList []) false (eval iter X.env) use) Qv X.xe s:=by
 have hclos:=jfM (scope:=scope) (env:=X.env) (fun p hp e=>I.ok.has p.1 (S.free p hp e))
 subst he0
 refine wpAny_comprehension_free (use:=use) rfl hs hclos S.kind S.locs (thn (hi pins s σ H _ I h) fun v s1 h1=>thn h1 fun itv s2 h2=> ?_)
 obtain⟨it,fp,tn,J,H2,e,I2,T,st2,f2,W,⟨m0,w0⟩,turn⟩:=h2
 subst e
 refine G2A (jgE (fun h₁ hns₁ hkp₁ hcl₁ hap₁=> ?_))
 dsimp only at hns₁ hkp₁ hcl₁ hap₁ ⊢
 generalize hD:s2.heap.objs.size=D
 generalize hH3:s2.heap.push {cls:= .type "list",dict:=none,data:= .seq ([]:List Value).toArray}=h3 at hns₁ hkp₁ hcl₁ hap₁ ⊢
 have sz3:h3.objs.size=D+1:=by rw [←hH3,G3x,hD]
 have up3: ∀b o,s2.heap.get? b=some o→h3.get? b=some o:=fun b o e=>hH3 ▸ G0b _ e
 have I3:Inv X pins σ H2 {s2 with heap:=h3}:=I2.kept (t' :=s2.toks) up3
 have hD3:h3.get? D=some (LCg.lst []):=by rw [←hH3,←hD];exact G0x _ rfl
 have fD:jjf X pins H2 D:=I2.fpOk (by rw [hD];exact G0f _) (I2.hok.fresh (by rw [hD];exact G0f _))
 have obf: ∀b∈fp,∃o,s2.heap.get? b=some o∧ ∀v,o.data≠ .cell v:=T.obj _ _ st2
 have ltf: ∀b∈fp,b<D:=fun b hb=>by obtain⟨o,e,_⟩:=obf b hb;rw [←hD];exact G0l e
 generalize hC:h3.objs.size=C at hns₁ hcl₁ hap₁ ⊢
 have CD:C=D+1:=hC.symm.trans sz3
 have upC: ∀b o,h3.get? b=some o→h₁.get? b=some o:=hkp₁
 generalize hX:jfN X scope C {s2 with heap:=h3} H2 (fp++ [D])=X'
 have iX:jat X scope X' :=⟨C,_,_,_,hX.symm⟩
 have hf: ∀b∈fp++ [D],jjf X pins H2 b:=fun b hb=>(G0u.mp hb).elim (f2 b) fun z=>by rw [G0g.mp z];exact fD
 have cl: ∀x c,(jaE X scope C).lookup x=some c→X.env.cells.lookup x=some c∨C<c:=fun x c e=>by
  rcases jcb S e with ⟨_,z⟩|⟨_,z⟩
  ·exact .inl z
  ·exact .inr (G3u (hcl₁ x c z).2)
 have olt: ∀x c,X.env.cells.lookup x=some c→c<C:=fun x c e=>by obtain⟨v,q⟩:=I3.cell x c e;rw [←hC];exact q.lt
 have ltb: ∀b∈fp++ [D],b<C:=fun b hb=>(G0u.mp hb).elim (fun z=>by have:=ltf b z;rw [CD];exact G3v this) fun z=>by rw [G0g.mp z,CD];exact G11 _
 have okX:X'.Ok:=by
  subst hX
  refine⟨I.ok.mod,S.kind,I.ok.glob,I.ok.blt,G4u hC,fun x y c e1 e2=> ?_,fun x hx=> ?_,fun x c z e=> ?_,I.ok.hd,I.ok.frames,.inl rfl,fun b hb=>⟨G0J (ltb b hb),fun x c e=>(cl x c e).elim (fun z=>(hf b hb).2.2.2.2.1 x c z) fun z=>G2j (G29 (ltb b hb) z)⟩,
   I3.bs,G0C I.ok.bsz I3.sz,fun b o e hb=> ?_,fun b hb z=> ?_,I3.stack,I3.stkFree⟩
  ·rcases jcb S e1 with ⟨_,z1⟩|⟨_,z1⟩<;>rcases jcb S e2 with ⟨_,z2⟩|⟨_,z2⟩
   ·exact I.ok.inj x y c z1 z2
   ·exact absurd (G29 (olt x c z1) (G3u (hcl₁ y c z2).2)) (G0W _)
   ·exact absurd (G29 (olt y c z2) (G3u (hcl₁ x c z1).2)) (G0W _)
   ·exact name_of_addr hap₁ z1 z2
  ·have own:scope.names.lookup x=some .cell→ ∃c,(jaE X scope C).lookup x=some c:=fun z=>by
    obtain⟨c,hc⟩:=jcT (sc:=scope) (n:=C+1) z
    exact⟨c,by unfold jaE;rw [jaI,jdG,hc]⟩
   have shr:scope.names.lookup x=some .free→ ∃c,(jaE X scope C).lookup x=some c:=fun z=>by
    have fm:=jbL z
    obtain⟨c,hc⟩:=I.ok.has x (S.free _ fm rfl)
    exact⟨c,jdV S hc fm (by rw [z];decide)⟩
   rcases hx with hx|hx
   ·rcases jaQ (env:=X.env) hx with z|z
    ·exact own z
    ·exact shr z
   ·rcases jaQ (env:=X.env) hx with z|z<;>exact shr z
  ·have z' :scope.names.lookup x=some .cell:=by
    have z2:(scope.names.lookup x==some NameKind.cell)=true:=z
    simpa using z2
   rcases jcb S e with ⟨n,_⟩|⟨_,m⟩
   ·exact absurd z' n
   ·show h3.objs.size≤c
    rw [hC];exact G0T (G3u (hcl₁ x c m).2)
  ·rcases (hf b hb).2.2.2.1 with z|z
   ·exact I.ok.noex b o e z
   ·exact absurd (G0D (G0l e) (G0C I.ok.bsz z)) (G0W _)
  ·rcases G0n.mp (I.stkSub b z) with q|q
   ·exact(hf b hb).2.1 q
   ·exact(hf b hb).2.2.1 q
 -- the block's first state
 have I4:Inv X' [(D,LCg.lst [])] (jbG js σ) H2 {s2 with heap:=h₁}:=by
  subst hX
  have hDC:D≠C:=by rw [CD];exact G0J (G11 _)
  refine⟨okX,rfl,I2.bare,Un.kept (fun b u e=>upC b u e),⟨_,hns₁,fun i x v e1 e2 e3=> ?_⟩,fun x c e=> ?_,I3.hok.fresh (G4u hC),fun x c e=>(cl x c e).elim (fun z=>I2.freeC x c z) (fun z=>I3.hok.fresh (by rw [←hC] at z;exact G0T z)),fun p hp=> ?_,I3.hok.kept upC,(jfg js σ).trans I2.len⟩
  ·have fr:scope.names.lookup x=some .free:=by
    rcases e3 with e3|e3|e3
    ·rcases jaQ (env:=X.env) e3 with z|z
     ·exact absurd e2 (jbn js σ i v (S.js i x e1 (.inl z)))
     ·exact z
    ·rcases jaQ (env:=X.env) e3 with z|z
     ·exact absurd e2 (jbn js σ i v (S.js i x e1 (.inr z)))
     ·exact z
    ·rcases jaQ (env:=X.env) e3 with z|z<;>exact z
   have fm:=jbL fr
   obtain⟨m,hm,hl⟩:=I2.loc
   have vis:=S.free _ fm rfl
   obtain⟨u,r,lk⟩:=hl i x v e1 (jet js σ i v e2) (.inr vis)
   have kd:(relabel scope X.env).names.lookup x=some .cell∨(relabel scope X.env).names.lookup x=some .free:=by
    rcases e3 with e3|e3|e3
    ·rcases jaQ (env:=X.env) e3 with z|z
     ·rw [fr] at z;cases z
     ·exfalso
      have z2:=e3
      -- a local's kind stays
      exact absurd e2 (jbn js σ i v (S.js i x e1 (.inl (by
       have q: ∀ (l:List (Str×NameKind)),(l.map fun (n,k)=>if (k==NameKind.free&&X.env.scope.kind== .function&&X.env.kindOf n==some .cell) then (n,NameKind.cell) else (n,k)).lookup x=some .local→l.lookup x=some .local:=by
        intro l
        induction l with
        |nil=>intro h;simp at h
        |cons p l ih=>
         obtain⟨n,k'⟩:=p
         intro h
         have h' :List.lookup x ((if (k' ==NameKind.free&&X.env.scope.kind== .function&&X.env.kindOf n==some .cell)=true then (n,NameKind.cell) else (n,k'))::(l.map fun (n,k)=>if (k==NameKind.free&&X.env.scope.kind== .function&&X.env.kindOf n==some .cell) then (n,NameKind.cell) else (n,k)))=some .local:=h
         rw [G1w]
         by_cases hc:(k' ==NameKind.free&&X.env.scope.kind== .function&&X.env.kindOf n==some .cell)=true
         ·rw [if_pos hc,G1w] at h'
          cases hx:x==n with
          |true=>rw [hx] at h';cases h'
          |false=>rw [hx] at h';exact ih h'
         ·rw [if_neg hc,G1w] at h'
          cases hx:x==n with
          |true=>rw [hx] at h';exact h'
          |false=>rw [hx] at h';exact ih h'
       exact q _ z2))))
    ·exact .inl e3
    ·exact .inr e3
   rcases lk with ⟨k,_⟩|⟨_,c,hc,hcell⟩
   ·have k' :X.env.scope.names.lookup x=some .local:=k
    rcases vis with z|z<;>(rw [k'] at z;cases z)
   ·refine⟨u,r,.inr ⟨kd,c,jdV S hc fm (by rw [fr];decide),?_⟩⟩
    obtain⟨o,ho,hd⟩:=hcell
    exact⟨o,upC _ _ (up3 _ _ ho),hd⟩
  ·rcases jcb S e with ⟨_,z⟩|⟨_,z⟩
   ·obtain⟨v,o,ho,hd⟩:=I2.cell x c z
    exact⟨v,o,upC _ _ (up3 _ _ ho),hd⟩
   ·exact⟨none,(hcl₁ x c z).1⟩
  ·have hp' :p∈ [(D,LCg.lst [])]:=hp
   rcases G0g.mp hp' with rfl
   refine⟨upC _ _ hD3,fD.1,hDC,fun z=> ?_,fun v z=>by cases z⟩
   rcases G0n.mp (I.stkSub D z) with q|q
   ·exact fD.2.1 q
   ·exact fD.2.2.1 q
 have st4:tn 0 h₁:=T.keep _ _ _ st2 fun b _ o e=>upC _ _ (up3 _ _ e)
 have eA:X'.A=X.A:=by rw [←hX];rfl
 have eP:X'.prog=X.prog:=by rw [←hX];rfl
 have eW:X'.w=X.w:=by rw [←hX];rfl
 have eK:X'.K=X.K:=by rw [←hX];rfl
 have eC:X'.calm=true:=by rw [←hX];exact hc
 have eV:X'.env=compEnvC scope (jaE X scope C) C X.env:=by rw [←hX];rfl
 have eE:X'.xe=fun _ _=>False:=by rw [←hX];rfl
 -- what stays true of the iterator's objects
 have stat: ∀ {us:List Value} {H' :Hp},(∀b∈fp,H' b=none)→ ∀b∈fp,jjf X' [(D,LCg.lst us)] H' b:=fun {us H'} hn b hb=>by
  have q:=hf b (G1v _ hb)
  subst hX
  refine⟨hn b hb,G0J (ltb b (G1v _ hb)),fun z=> ?_,.inl (G1v _ hb),fun x c e=>(cl x c e).elim (fun z=>q.2.2.2.2.1 x c z) (fun z=>G2j (G29 (ltb b (G1v _ hb)) z)),fun p hp=> ?_⟩
  ·rcases G0n.mp (I.stkSub b z) with r|r
   ·exact q.2.1 r
   ·exact q.2.2.1 r
  ·have hp' :p∈ [(D,LCg.lst us)]:=hp
   rcases G0g.mp hp' with rfl
   exact G2j (ltf b hb)
 have loop: ∀s₃:Shared,s₃= {s2 with heap:=h₁}→
  codeAny (model X.prog X.w) X.A (.compLoop (.ListComp elt (⟨tg,iter,ifs,0⟩::rest) scope pos) 0 (.ref it) (.ref D) (compEnvC scope (jaE X scope C) C X.env))
   (compPost (model X.prog X.w) X.A X.xe use Qv (.ref D) C) s₃:=by
  rintro s₃ rfl
  refine jh2 (act:=act (compEnvC scope (jaE X scope C) C X.env) (.ref D)) (fun n s' => ∃i ys us H',Vals ys us∧Inv X' [(D,LCg.lst us)] (jbG js σ) H' s' ∧tn i s'.heap∧(∀b∈fp,H' b=none)∧W i n ys H') (hturn _ _ _) ?_ m0
   ⟨0,[],[],H2,.nil,I4,st4,fun b hb=>(f2 b hb).1,w0⟩
  rintro n s5 ⟨i,ys,us,H5,hv5,I5,st5,fr5,w5⟩
  obtain⟨hz,tr⟩:=turn i n ys H5 w5
  rcases tr with ⟨stop,qn⟩|⟨go,step⟩
  ·have q:=T.done X' eP eW eK eC i _ s5 _ H5 (fun _ _=>False) I5 (stat fr5) st5 stop
   rw [eA] at q
   refine G0H q (fun r s6 ⟨hr,I6⟩=> ?_) fun _ _ z=>z
   subst hr
   obtain⟨m6,hm6,_⟩:=I6.loc
   rw [eV] at hm6
   have zD:=I6.pin (D,LCg.lst us) (G0v _ G0t)
   have HD:H5 D=none:=zD.2.1
   have oD:s6.heap.get? D=some (LCg.lst us):=zD.1
   have hDC:D≠C:=by rw [CD];exact G0J (G11 _)
   have HC:H5 C=none:=by have z:=I6.free;rw [eV] at z;exact z
   have B:=I6.base
   have os6:s6.os=s2.os:=by have z:=I6.os;rw [←hX] at z;exact z
   have Bu:Un (frs X.stack) (fp++ [D]) H2 H5 h3 s6.heap:=by rw [←hX] at B;exact B
   have neC: ∀b o,h3.get? b=some o→b≠C:=fun b o e=>by rw [←hC];exact G0J (G0l e)
   refine fin D C (upd H5 D (.lst ys)) s6 m6 hm6 (fun h' hs' => ?_) (by rw [jaj (Ne.symm hDC)];exact HC) ?_ ?_ ?_ (fun x c e=>G0J (olt x c e)) ?_ (qn D HD)
   ·have hk5:HOk X.prog X.w H5 h' :=fun b u e=>by
     have z:=I6.hok b u e
     rw [eP,eW] at z
     refine z.stay (fun c v hc q=>hs'.extBut c v ?_ q) (fun _ q=>q) fun _ _ q=>q
     rcases hc with rfl|hc
     ·exact jan e HC
     ·exact jan hc HC
    refine I3.call' (ch:=fp++ [D]) os6 ⟨fun b o e n hb hx=> ?_,fun b o e n hb hx=> ?_,fun b o e n hx=> ?_,fun b o e hx=> ?_,fun b xs e=> ?_,fun b o u e=> ?_,fun b ps e=> ?_⟩ (hk5.track HD ?_) I6.bare fun b hb=> ?_
    ·exact hs'.extBut b o (neC b o e) (Bu.keep b o e n hb hx)
    ·obtain⟨sl,q⟩:=Bu.slot b o e n hb hx
     exact⟨sl,hs'.extBut b _ (neC b o e) q⟩
    ·rw [jaj fun z=>hx (by rw [z];exact G0v _ G0t)]
     exact Bu.free b o e n hx
    ·obtain⟨o',q⟩:=Bu.there b o e hx
     exact⟨o',hs'.extBut b _ (neC b o e) q⟩
    ·have z:=Bu.tups b xs e
     rw [jaj (jan z HD)];exact z
    ·have z:=Bu.frzs b o u e
     rw [jaj (jan z HD)];exact z
    ·obtain⟨more,z⟩:=Bu.tbls b ps e
     exact⟨more,by rw [jaj (jan z HD)];exact z⟩
    ·exact⟨hz,us,us.length,hv5,hs'.extBut D _ hDC oD⟩
    ·have q:=hf b hb
     exact⟨q.2.2.2.1,q.2.1,q.2.2.2.2.1,q.2.2.2.2.2⟩
   ·rw [←hC];exact G2j I3.lt
   ·exact I3.nofs (G4u hC)
   ·rw [←hC];exact I3.sz
   ·intro p hp
    have:=(I3.pin p hp).1
    rw [←hC];exact G0J (G0l this)
  ·have q:=T.item X' eP eW eK eC i _ s5 _ H5 (fun _ _=>False) I5 (stat fr5) st5 go
   rw [eA] at q
   refine G0H q (fun r s6 ⟨u,hr,h6⟩=> ?_) fun _ _ z=>z
   subst hr
   refine G0H h6 (fun _ s7 ⟨x,H7,I7,r7,y7,st7,fr7⟩=> ?_) fun _ _ z=>z
   have I7' :=I7.pinned (stat fr7) (T.obj _ _ st7)
   have q7:=hg X' iX _ s7 _ H7 x u _ I7' r7 (step x H7 y7)
   rw [eP,eW,eA,eV,eE] at q7
   refine G0H q7 (fun _ s8 ⟨σ8,H8,I8,ag8,q8⟩=> ?_) fun _ _ z=>z
   have q9:=ht X' iX _ s8 σ8 H8 _ I8 q8
   rw [eP,eW,eA,eV,eE] at q9
   refine G0H q9 (fun ok s9 ⟨H9,I9,q9⟩=> ?_) fun _ _ z=>z
   have keepT: ∀ {σ' :St} {H' :Hp} {s' :Shared} {us:List Value},Inv X' ([(D,LCg.lst us)]++jc2 fp s7.heap) σ' H' s' →tn (i+1) s'.heap∧ ∀b∈fp,H' b=none:=fun {σ' H' s' us} I' =>
    ⟨T.keep _ _ _ st7 fun b hb o e=>(I'.pin (b,o) (G0v _ (G0v _ (jbK hb e)))).1,fun b hb=>by
     obtain⟨o,e,_⟩:=T.obj _ _ st7 b hb
     exact(I'.pin (b,o) (G0v _ (G0v _ (jbK hb e)))).2.1⟩
   cases ok with
   |false=>
    have q9: ∃m',m' <n∧W (i+1) m' ys H9:=q9
    obtain⟨m',hm,w9⟩:=q9
    obtain⟨t9,f9⟩:=keepT I9
    exact⟨m',hm,i+1,ys,us,H9,hv5,(I9.unpinned).weak ag8.1.symm ag8.2,t9,f9,w9⟩
   |true=>
    have q9:tm σ8 H9 ys fun ys' H4=> ∃m',m' <n∧W (i+1) m' ys' H4:=q9
    have DX:D∈X'.ex:=by rw [←hX];exact G0v _ G0t
    have pD: ∀p∈X'.pn++jc2 fp s7.heap,p.1≠D:=fun p hp=>by
     have hp' :p∈jc2 fp s7.heap:=by rw [←hX] at hp;simpa [jfN] using hp
     exact G0J (ltf _ (jeg hp').1)
    have cD: ∀x c,X'.env.cells.lookup x=some c→c≠D:=fun x c e=>by
     rw [eV] at e
     exact(cl x c e).elim (fun z=>fD.2.2.2.2.1 x c z) fun z=>G2j (G29 (by rw [CD];exact G11 _) z)
    have q10:=he X' iX D _ s9 σ8 H9 ys us _ I9 hv5 hz DX cD pD q9
    rw [eP,eW,eA,eV] at q10
    show wpAny _ _ (act _ _) _ _ s9
    refine G0H q10 (fun _ s10 ⟨ys',us',H10,hv10,I10,m',hm,w10⟩=> ?_) fun _ _ z=>z
    obtain⟨t10,f10⟩:=keepT I10
    exact⟨m',hm,i+1,ys',us',H10,hv10,(I10.unpinned).weak ag8.1.symm ag8.2,t10,f10,w10⟩
 exact codeAny_compStart_list (loop _ rfl) (T.self X.A 0 _ _ _ st4 (loop _ rfl))
theorem jps {X:Cx} {elt iter tg:Expr} {ifs:List Expr} {scope:Scope} {pos:Pos} {js:List Nat} {wi:TI} {g:TG} {tt:TT} {te:TE} (hc:X.calm=true) (S:BlockOk X scope js) (hi:PI X tg iter wi)
 (hg: ∀X',jat X scope X' →PG X' tg g) (ht: ∀X',jat X scope X' →PTs X' ifs tt) (he: ∀X',jat X scope X' →PE X' elt te)
 (hs: ∀x,foldedSetIterable iter X.env x=pure x:=by intro _;rfl):PE X (.ListComp elt [⟨tg,iter,ifs,0⟩] scope pos) (tLC js wi g tt te):=by
 intro pins s σ H Q I h
 rw [eval_ListComp]
 exact jml (use:=none) hc S hi rfl hg ht (jfi elt) (fun _ _ _=>rfl) (fun X' hX D=>jfO (by obtain⟨_,_,_,_,rfl⟩:=hX;rfl) (he X' hX)) hs I h
  fun D C H' s' m hn hk _ _ _ _ _ _ q=>⟨m,hn,fun h' hs' =>⟨.ref D,H',hk h' hs',rfl,q⟩⟩
theorem jjF {X:Cx} {e elt iter tg:Expr} {ifs:List Expr} {rest:List Comprehension} {scope:Scope} {pos pos' spos:Pos} {x:Str} {js:List Nat} {wi:TI} {g g' :TG} {tt:TT} {tm:TM} (hc:X.calm=true) (S:BlockOk X scope js) (hi:PI X tg iter wi)
 (he0:e= .ListComp elt (⟨tg,iter,ifs,0⟩::rest) scope pos) (hg: ∀X',jat X scope X' →PG X' tg g) (ht: ∀X',jat X scope X' →PTs X' ifs tt)
 (act:Env→Value→Sem Unit) (hturn: ∀it acc env,compTurn e 0 it acc env=jfh iter tg ifs it env (act env acc) (.compLoop e 0 it acc env)) (he: ∀X',jat X scope X' → ∀D,jqZ X' D (act X'.env (.ref D)) tm)
 (hg' :PG X (.Name x pos') g') (hsw:swapsWith e (some (.Name x pos')) spos.line X.env=pure true)
 (hs: ∀x,foldedSetIterable iter X.env x=pure x):PS X (.Assign [.Name x pos'] e spos) (jmh (jq0 js wi g tt tm) g'):=by
 intro pins s σ H Dn I h
 rw [exec_Assign_Name_used _ _ _ _ hsw]
 refine wpAny_bind (G3e (wpAny_bind ?_))
 subst he0
 rw [arm_evalThenUse_ListComp]
 show wpAny _ X.A (do let _ ←comprehension (.ListComp elt (⟨tg,iter,ifs,0⟩::rest) scope pos) scope X.env _ (newList []) false (eval iter X.env) (some (assign (.Name x pos') X.env))) _ _ s
 refine wpAny_bind (G0H (jml (use:=some (assign (.Name x pos') X.env)) (Qv:=fun _ s' =>SP X pins Dn .next s') hc S hi rfl hg ht act hturn he hs I h ?_) (fun _ s' hq=>G0e (G0e hq)) fun _ _ e=>e)
 intro D C H' s' m hn hk HC nL nf sz ncell npin q
 show wpAny _ X.A (assign (.Name x pos') X.env (.ref D)) _ _ s'
 obtain⟨o,es,ep,ho,hd,hr⟩:=id hn
 have I1:Inv X pins σ H' s' :=hk s'.heap (G2E ..)
 have I2:Inv X (pins++ [(C,o)]) σ H' s' :=I1.pins_of fun p hp=>by
  rcases G0u.mp hp with z|z
  ·exact I1.pin p (G0v _ z)
  ·rcases G0g.mp z with rfl
   exact⟨ho,HC,nL,nf,fun v z=>by rw [hd] at z;cases z⟩
 refine G0H (hg' _ s' σ H' (.ref D) (.ref D) _ I2 rfl q) (fun _ s3 ⟨σ3,H3,I3,q3⟩=> ?_) fun _ _ z=>z
 have pC:=I3.pin (C,o) (G0v _ (G0v _ G0t))
 refine⟨m,hn.at' fun o' e' => ?_,fun h' hs' => ?_⟩
 ·rw [ho] at e';cases e';exact pC.1
 ·exact⟨σ3,H3,(I3.unpinned).turned (t' :=s3.toks) (it:=C) (fun b o hb e=>hs'.extBut b o hb e) pC.2.1 nL (.inr sz) ncell npin,q3⟩
theorem jlm {X:Cx} {elt iter tg:Expr} {ifs:List Expr} {scope:Scope} {pos pos' spos:Pos} {x:Str} {js:List Nat} {wi:TI} {g g' :TG} {tt:TT} {te:TE} (hc:X.calm=true) (S:BlockOk X scope js) (hi:PI X tg iter wi)
 (hg: ∀X',jat X scope X' →PG X' tg g) (ht: ∀X',jat X scope X' →PTs X' ifs tt) (he: ∀X',jat X scope X' →PE X' elt te)
 (hg' :PG X (.Name x pos') g') (hsw:swapsWith (.ListComp elt [⟨tg,iter,ifs,0⟩] scope pos) (some (.Name x pos')) spos.line X.env=pure true)
 (hs: ∀x,foldedSetIterable iter X.env x=pure x:=by intro _;rfl):PS X (.Assign [.Name x pos'] (.ListComp elt [⟨tg,iter,ifs,0⟩] scope pos) spos) (jmh (tLC js wi g tt te) g'):=
 jjF hc S hi rfl hg ht (jfi elt) (fun _ _ _=>rfl) (fun X' hX D=>jfO (by obtain⟨_,_,_,_,rfl⟩:=hX;rfl) (he X' hX)) hg' hsw hs
def jjG (e iter:Expr) (env:Env) (acc:Value):Sem Unit:=do
 let x ←eval iter env
 standAt iter.pos
 let x ←foldedSetIterable iter env x
 let _ ←runOwn (.compStart e 1 (←holding [x] (pyIter x)) acc env) env
def mIn (wi : TI) (g : TG) (tt : TT) (tm : TM) : TM := fun σ H ys Q => wi σ H fun J H1 =>
  ∃ W : Nat → Nat → List V → Hp → Prop, (∃ m, W 0 m ys H1) ∧ ∀ i m ys H, W i m ys H → ys.length ≤ sizeLine ∧
    ((J.stop i H ∧ Q ys H) ∨
     (J.go i H ∧ ∀ x H', J.yld i H x H' → g x σ H' fun σ2 H2 => Agree σ σ2 ∧ tt σ2 H2 fun b H3 =>
        if b = true then tm σ2 H3 ys fun ys' H4 => ∃ m', m' < m ∧ W (i + 1) m' ys' H4 else ∃ m', m' < m ∧ W (i + 1) m' ys H3))
theorem jdi {prog:Program} {w:World} {A:Around} {R:Result→Shared→Prop} {s:Shared} {elt:Expr} {g0 g1:Comprehension} {scope:Scope} {pos:Pos} {it acc:Value} {env:Env} (ha:g1.is_async=0)
 (h0:codeAny (model prog w) A (.compLoop (.ListComp elt [g0,g1] scope pos) 1 it acc env) R s)
 (h:wpAny (model prog w) A (pyIter it) (fun it' s' =>codeAny (model prog w) A (.compLoop (.ListComp elt [g0,g1] scope pos) 1 it' acc env) R s')
  (notedBy (model prog w) A env fun x s' =>R (.error x) s') s):
 codeAny (model prog w) A (.compStart (.ListComp elt [g0,g1] scope pos) 1 it acc env) R s:=by
 obtain⟨tg,iter,ifs,as⟩:=g1
 cases (show as=0 from ha)
 refine G4v (wpAny_notedAt ?_)
 obtain⟨hp,g,d,tk,os⟩:=s
 unfold compStart
 wp_walk
 refine G2L ?_
 split
 ·exact G0e ⟨rfl,h0⟩
 ·exact wpAny_bind (G3L (wpAny_bind (G3e (wpAny_bind (G0H h (fun _ _ on=>G0e ⟨rfl,on⟩) fun _ _ x=>x)))))
theorem jm9 {X:Cx} {D:Addr} {elt iter tg:Expr} {g0:Comprehension} {ifs:List Expr} {scope:Scope} {pos:Pos} {wi:TI} {g:TG} {tt:TT} {te:TE} (hc:X.calm=true) (hx:X.xe=fun _ _=>False)
 (hi:PI X tg iter wi) (hg:PG X tg g) (ht:PTs X ifs tt) (he:PE X elt te) (hs: ∀x,foldedSetIterable iter X.env x=pure x):
 jqZ X D (jjG (.ListComp elt [g0,⟨tg,iter,ifs,0⟩] scope pos) iter X.env (.ref D)) (mIn wi g tt (jpr te)):=by
 intro pins s σ H ys us Q I hv hz DX cD pD h
 have q:=hi _ s σ H _ I h
 rw [hx] at q
 unfold jjG
 refine wpAny_bind (G0H q (fun v s1 h1=>wpAny_bind (G3e (wpAny_bind (wpAny_of_eq (hs v) (wpAny_bind (G1g (G0H h1 (fun itv s2 h2=> ?_) fun _ _ z=>z))))))) fun _ _ z=>z)
 obtain⟨it,fp,tn,J,H2,e,I2,T,st2,f2,W,⟨m0,w0⟩,turn⟩:=h2
 subst e
 refine wpAny_bind (wpAny_runOwn ?_)
 have neD: ∀b∈fp,b≠D:=fun b hb=>by
  have z:=(f2 b hb).2.2.2.2.2 (D,LCg.lst us) (G0v _ (G1v _ G0t))
  exact Ne.symm z
 have stat: ∀ {us' :List Value} {H' :Hp},(∀b∈fp,H' b=none)→ ∀b∈fp,jjf X ([(D,LCg.lst us')]++pins) H' b:=fun {us' H'} hn b hb=>by
  have q:=f2 b hb
  refine⟨hn b hb,q.2.1,q.2.2.1,q.2.2.2.1,q.2.2.2.2.1,fun p hp=> ?_⟩
  rcases G0u.mp hp with z|z
  ·exact q.2.2.2.2.2 p (G1v _ z)
  ·rcases G0u.mp z with z|z
   ·rcases G0g.mp z with rfl
    exact Ne.symm (neD b hb)
   ·exact q.2.2.2.2.2 p (G0v _ (G0v _ z))
 have loop:codeAny (model X.prog X.w) X.A (.compLoop (.ListComp elt [g0,⟨tg,iter,ifs,0⟩] scope pos) 1 (.ref it) (.ref D) X.env)
  (fun r s' =>match r with| .ok f=>wpAny (model X.prog X.w) X.A (pure ()) (fun _ s' => ∃ys' us' H',Vals ys' us' ∧Inv X ([(D,LCg.lst us')]++pins) σ H' s' ∧Q ys' H') (fun _ _=>False) s' | .error e=>cameBackBy (model X.prog X.w) X.A X.env (fun _ _=>False) e s') s2:=by
  refine jh2 (act:=jfi elt X.env (.ref D)) (fun n s' => ∃i ys us H',Vals ys us∧Inv X ([(D,LCg.lst us)]++pins) σ H' s' ∧tn i s'.heap∧(∀b∈fp,H' b=none)∧W i n ys H') rfl ?_ m0
   ⟨0,ys,us,H2,hv,I2,st2,fun b hb=>(f2 b hb).1,w0⟩
  rintro n s5 ⟨i,ys,us,H5,hv5,I5,st5,fr5,w5⟩
  obtain⟨hz,tr⟩:=turn i n ys H5 w5
  rcases tr with ⟨stop,qn⟩|⟨go,step⟩
  ·refine G0H (T.done X rfl rfl rfl hc i _ s5 _ H5 (fun _ _=>False) I5 (stat fr5) st5 stop) (fun r s6 ⟨hr,I6⟩=> ?_) fun _ _ z=>z
   subst hr
   exact G0e ⟨ys,us,H5,hv5,I6,qn⟩
  ·refine G0H (T.item X rfl rfl rfl hc i _ s5 _ H5 (fun _ _=>False) I5 (stat fr5) st5 go) (fun r s6 ⟨u,hr,h6⟩=> ?_) fun _ _ z=>z
   subst hr
   refine G0H h6 (fun _ s7 ⟨x,H7,I7,r7,y7,st7,fr7⟩=> ?_) fun _ _ z=>z
   have I7' :=I7.pinned (stat fr7) (T.obj _ _ st7)
   have q7:=hg _ s7 _ H7 x u _ I7' r7 (step x H7 y7)
   rw [hx] at q7
   refine G0H q7 (fun _ s8 ⟨σ8,H8,I8,ag8,q8⟩=> ?_) fun _ _ z=>z
   have q9:=ht _ s8 σ8 H8 _ I8 q8
   rw [hx] at q9
   refine G0H q9 (fun ok s9 ⟨H9,I9,q9⟩=> ?_) fun _ _ z=>z
   have keepT: ∀ {σ' :St} {H' :Hp} {s' :Shared} {us:List Value},Inv X (([(D,LCg.lst us)]++pins)++jc2 fp s7.heap) σ' H' s' →tn (i+1) s'.heap∧ ∀b∈fp,H' b=none:=fun {σ' H' s' us} I' =>
    ⟨T.keep _ _ _ st7 fun b hb o e=>(I'.pin (b,o) (G0v _ (G0v _ (jbK hb e)))).1,fun b hb=>by
     obtain⟨o,e,_⟩:=T.obj _ _ st7 b hb
     exact(I'.pin (b,o) (G0v _ (G0v _ (jbK hb e)))).2.1⟩
   cases ok with
   |false=>
    have q9: ∃m',m' <n∧W (i+1) m' ys H9:=q9
    obtain⟨m',hm,w9⟩:=q9
    obtain⟨t9,f9⟩:=keepT I9
    exact⟨m',hm,i+1,ys,us,H9,hv5,(I9.unpinned).weak ag8.1.symm ag8.2,t9,f9,w9⟩
   |true=>
    have q9:jpr te σ8 H9 ys fun ys' H4=> ∃m',m' <n∧W (i+1) m' ys' H4:=q9
    have pD' : ∀p∈X.pn++(pins++jc2 fp s7.heap),p.1≠D:=fun p hp=>by
     rcases G0u.mp hp with z|z
     ·exact pD p (G1v _ z)
     ·rcases G0u.mp z with z|z
      ·exact pD p (G0v _ z)
      ·exact neD _ (jeg z).1
    rw [G0j] at I9
    have q10:=jfO (D:=D) hx he (pins++jc2 fp s7.heap) s9 σ8 H9 ys us _ I9 hv5 hz DX cD pD' q9
    show wpAny _ _ (jfi _ _ _) _ _ s9
    refine G0H q10 (fun _ s10 ⟨ys',us',H10,hv10,I10,m',hm,w10⟩=> ?_) fun _ _ z=>z
    rw [←G0j] at I10
    obtain⟨t10,f10⟩:=keepT I10
    exact⟨m',hm,i+1,ys',us',H10,hv10,(I10.unpinned).weak ag8.1.symm ag8.2,t10,f10,w10⟩
 exact jdi rfl loop (T.self X.A 0 _ _ _ st2 loop)
theorem jna (elt iter tg iter' tg' :Expr) (ifs ifs' :List Expr) (scope:Scope) (pos:Pos) (it acc:Value) (env:Env):
 compTurn (.ListComp elt [⟨tg,iter,ifs,0⟩,⟨tg',iter',ifs',0⟩] scope pos) 0 it acc env=
  jfh iter tg ifs it env (jjG (.ListComp elt [⟨tg,iter,ifs,0⟩,⟨tg',iter',ifs',0⟩] scope pos) iter' env acc) (.compLoop (.ListComp elt [⟨tg,iter,ifs,0⟩,⟨tg',iter',ifs',0⟩] scope pos) 0 it acc env):=by
 unfold jfh jjG
 simp only [bind_assoc,pure_bind]
 rfl
def jso (js:List Nat) (wi:TI) (g:TG) (tt:TT) (wi' :TI) (g' :TG) (tt' :TT) (te:TE):TE:=jq0 js wi g tt (mIn wi' g' tt' (jpr te))
inductive D where
 |non|bl (b:Bool)|int (i:Int)|str (x:Str)|tup (ds:List D)|lst (a:Addr)|dic (x:Str) (i:Int)|scr (ns:List Int)|exc (C:Addr)|fn (a:Addr)
def Scr (K:PySem.W.Frag) (H:Hp) (a:Addr) (ns:List Int):Prop:=
 (∃o,H a=some (.frz o (.lst (ns.map V.int))))∨
  ∃ (o:Obj) (its:Array Value) (n:Nat),K.lookup a=some o∧o.cls= .type "list" ∧o.dict=none∧o.data= .seq its n∧its.size≤sizeLine∧Vals (ns.map V.int) its.toList
theorem Scr.sq {K:PySem.W.Frag} {H:Hp} {a:Addr} {ns:List Int} (h:Scr K H a ns):SqL K H a (ns.map V.int):=h.elim (fun z=> .inl (.inr z)) .inr
mutual
def RelD (K:PySem.W.Frag) (H:Hp):D→V→Prop
 | .non,v=>v= .non
 | .bl b,v=>v= .bl b
 | .int i,v=>v= .int i
 | .str x,v=>v= .str x
 | .tup ds,v=> ∃a vs,v= .ref a∧H a=some (.tup vs)∧RelDs K H ds vs
 | .lst a,v=>v= .ref a∧ ∃vs,H a=some (.lst vs)
 | .dic x i,v=> ∃a,v= .ref a∧H a=some (.dK [(Sum.inr x,V.int i)])
 | .scr ns,v=> ∃a,v= .ref a∧Scr K H a ns
 | .exc C,v=> ∃x o vs,v= .ref x∧H x=some (.frz o (.own 0))∧o.cls= .ref C∧o.data= .fields vs
 | .fn a,v=>v= .ref a∧PySem.W.keepIn K (.ref a)=true
def RelDs (K:PySem.W.Frag) (H:Hp):List D→List V→Prop
 | [],vs=>vs= []
 |d::ds,vs=> ∃v r,vs=v::r∧RelD K H d v∧RelDs K H ds r
end
structure Kept (H H' :Hp):Prop where
 tup: ∀a xs,H a=some (.tup xs)→H' a=some (.tup xs)
 lst: ∀a xs,H a=some (.lst xs)→ ∃ys,H' a=some (.lst ys)
 dic: ∀a k,H a=some (.dK k)→H' a=some (.dK k)
 frz: ∀a o u,H a=some (.frz o u)→H' a=some (.frz o u)
theorem Kept.refl (H:Hp):Kept H H:=⟨fun _ _ h=>h,fun _ xs h=>⟨xs,h⟩,fun _ _ h=>h,fun _ _ _ h=>h⟩
theorem Kept.trans {A B C:Hp} (x:Kept A B) (y:Kept B C):Kept A C:=
 ⟨fun a xs h=>y.tup a xs (x.tup a xs h),fun a xs h=>let ⟨_,e⟩:=x.lst a xs h;y.lst a _ e,fun a k h=>y.dic a k (x.dic a k h),fun a o u h=>y.frz a o u (x.frz a o u h)⟩
theorem Kept.new {H:Hp} {p:Addr} {o:HO} (h:H p=none):Kept H (upd H p o):=
 ⟨fun a xs e=>by rw [jaj (jan e h)];exact e,fun a xs e=>⟨xs,by rw [jaj (jan e h)];exact e⟩,fun a k e=>by rw [jaj (jan e h)];exact e,fun a o u e=>by rw [jaj (jan e h)];exact e⟩
theorem Kept.put {H:Hp} {p:Addr} {xs ys:List V} (h:H p=some (.lst xs)):Kept H (upd H p (.lst ys)):=
 ⟨fun a zs e=>by rw [jaj (jji e h (by intro z;cases z))];exact e,fun a zs e=>by
  by_cases q:a=p
  ·subst q;exact⟨ys,jam⟩
  ·exact⟨zs,by rw [jaj q];exact e⟩,
  fun a k e=>by rw [jaj (jji e h (by intro z;cases z))];exact e,fun a o u e=>by rw [jaj (jji e h (by intro z;cases z))];exact e⟩
mutual
theorem RelD.mono {K:PySem.W.Frag} {H H' :Hp} (k:Kept H H'): ∀ {d:D} {v:V},RelD K H d v→RelD K H' d v
 | .non,_,h=>h
 | .bl _,_,h=>h
 | .int _,_,h=>h
 | .str _,_,h=>h
 | .tup ds,v,h=>by
  obtain⟨a,vs,e,h1,h2⟩:=(show ∃a vs,v= .ref a∧H a=some (.tup vs)∧RelDs K H ds vs from h)
  exact⟨a,vs,e,k.tup _ _ h1,RelDs.mono k h2⟩
 | .lst a,v,h=>by
  obtain⟨e,vs,h1⟩:=(show v= .ref a∧ ∃vs,H a=some (.lst vs) from h)
  exact⟨e,k.lst _ _ h1⟩
 | .dic x i,v,h=>by
  obtain⟨a,e,h1⟩:=(show ∃a,v= .ref a∧H a=some (.dK [(Sum.inr x,V.int i)]) from h)
  exact⟨a,e,k.dic _ _ h1⟩
 | .scr ns,v,h=>by
  obtain⟨a,e,h1⟩:=(show ∃a,v= .ref a∧Scr K H a ns from h)
  exact⟨a,e,h1.elim (fun ⟨o,z⟩=> .inl ⟨o,k.frz _ _ _ z⟩) .inr⟩
 | .exc C,v,h=>by
  obtain⟨x,o,vs,e,h1,r⟩:=(show ∃x o vs,v= .ref x∧H x=some (.frz o (.own 0))∧o.cls= .ref C∧o.data= .fields vs from h)
  exact⟨x,o,vs,e,k.frz _ _ _ h1,r⟩
 | .fn a,v,h=>h
theorem RelDs.mono {K:PySem.W.Frag} {H H' :Hp} (k:Kept H H'): ∀ {ds:List D} {vs:List V},RelDs K H ds vs→RelDs K H' ds vs
 | [],_,h=>h
 |d::ds,vs,h=>by
  obtain⟨v,r,e,h1,h2⟩:=(show ∃v r,vs=v::r∧RelD K H d v∧RelDs K H ds r from h)
  exact⟨v,r,e,RelD.mono k h1,RelDs.mono k h2⟩
end
section
variable {K:PySem.W.Frag} {H:Hp}
theorem RelDs.nil:RelDs K H [] []:=rfl
theorem RelDs.cons {d:D} {v:V} {ds:List D} {vs:List V} (h:RelD K H d v) (t:RelDs K H ds vs):RelDs K H (d::ds) (v::vs):=⟨v,vs,rfl,h,t⟩
theorem RelDs.length: ∀ {ds:List D} {vs:List V},RelDs K H ds vs→ds.length=vs.length
 | [],_,h=>by cases (show _= [] from h);rfl
 |d::ds,vs,h=>by
  obtain⟨v,r,e,_,h2⟩:=(show ∃v r,vs=v::r∧RelD K H d v∧RelDs K H ds r from h)
  subst e
  simp [RelDs.length h2]
theorem RelDs.append: ∀ {ds es:List D} {vs us:List V},RelDs K H ds vs→RelDs K H es us→RelDs K H (ds++es) (vs++us)
 | [],_,_,_,h,g=>by cases (show _= [] from h);exact g
 |d::ds,es,vs,us,h,g=>by
  obtain⟨v,r,e,h1,h2⟩:=(show ∃v r,vs=v::r∧RelD K H d v∧RelDs K H ds r from h)
  subst e
  exact .cons h1 (RelDs.append h2 g)
theorem RelDs.get: ∀ {ds:List D} {vs:List V} {i:Nat} {d:D},RelDs K H ds vs→ds[i]? =some d→ ∃v,vs[i]? =some v∧RelD K H d v
 |d' ::ds,vs,i,d,h,e=>by
  obtain⟨v,r,q,h1,h2⟩:=(show ∃v r,vs=v::r∧RelD K H d' v∧RelDs K H ds r from h)
  subst q
  cases i with
  |zero=>simp at e;subst e;exact⟨v,rfl,h1⟩
  |succ i=>
   obtain⟨u,q1,q2⟩:=RelDs.get h2 (i:=i) (d:=d) (by simpa using e)
   exact⟨u,by simpa using q1,q2⟩
theorem RelDs.take (n:Nat): ∀ {ds:List D} {vs:List V},RelDs K H ds vs→RelDs K H (ds.take n) (vs.take n):=by
 induction n with
 |zero=>intro ds vs _;exact(rfl:RelDs K H [] [])
 |succ n ih=>
  intro ds vs h
  cases ds with
  |nil=>cases (show vs= [] from h);exact .nil
  |cons d ds=>
   obtain⟨v,r,e,h1,h2⟩:=(show ∃v r,vs=v::r∧RelD K H d v∧RelDs K H ds r from h)
   subst e;exact .cons h1 (ih h2)
theorem RelDs.drop (n:Nat): ∀ {ds:List D} {vs:List V},RelDs K H ds vs→RelDs K H (ds.drop n) (vs.drop n):=by
 induction n with
 |zero=>intro ds vs h;exact h
 |succ n ih=>
  intro ds vs h
  cases ds with
  |nil=>cases (show vs= [] from h);exact .nil
  |cons d ds=>
   obtain⟨v,r,e,h1,h2⟩:=(show ∃v r,vs=v::r∧RelD K H d v∧RelDs K H ds r from h)
   subst e;exact ih h2
theorem RelDs.set {d:D} {v:V} (q:RelD K H d v): ∀ {ds:List D} {vs:List V} (i:Nat),RelDs K H ds vs→RelDs K H (ds.set i d) (vs.set i v)
 | [],_,_,h=>by cases (show _= [] from h);exact .nil
 |e::ds,vs,i,h=>by
  obtain⟨u,r,z,h1,h2⟩:=(show ∃u r,vs=u::r∧RelD K H e u∧RelDs K H ds r from h)
  subst z
  cases i with
  |zero=>exact .cons q h2
  |succ i=>exact .cons h1 (RelDs.set q i h2)
theorem jcc: ∀ns:List Int,RelDs K H (ns.map D.int) (ns.map V.int)
 | []=> .nil
 |n::ns=> .cons rfl (jcc ns)
end
abbrev HD:=Addr→Option (List D)
def jbi (h:HD) (a:Addr) (ds:List D):HD:=fun b=>if b=a then some ds else h b
def jeu (h:HD) (a:Addr):HD:=fun b=>if b=a then none else h b
theorem jaa {h:HD} {a:Addr} {ds:List D}:jbi h a ds a=some ds:=if_pos rfl
theorem jbR {h:HD} {a b:Addr} {ds:List D} (e:b≠a):jbi h a ds b=h b:=if_neg e
theorem jcH {h:HD} {a:Addr} {ds:List D} (e:h a=none):jeu (jbi h a ds) a=h:=by
 funext b;unfold jeu jbi;by_cases q:b=a
 ·subst q;simp [e]
 ·simp [q]
def LN:List Str:= ["law","_law_right","_law_words","_law_other_words","_law_many_right","_law_all","_law_told_row","_law_all_right","_law_desk_right","_law_signs_right","_law_lists_right","_law_text_right"]
def TabK (K:PySem.W.Frag) (P:Addr):Prop:= ∃x∈LN,∃c,PySem.W.tabIn K x=some (c,P)
def CodesOk (H:Hp) (ps:Array Value):Prop:=TriplesOk ps.toList∧ ∀pos cv,codeAmong pos ps.toList=some cv→ ∃ (c:Addr) (o:Obj) (vs:Array Value) (q:Str) (t:Tok),cv= .ref c∧H c=some (.frz o (.own 0))∧o.data= .fields vs∧vs[1]? =some (.str q t)
def CTabs (K:PySem.W.Frag) (H:Hp):Prop:= ∀P,TabK K P→ ∃ps,H P=some (.tbl ps)∧CodesOk H ps
theorem CodesOk.mono {H H' :Hp} {ps:Array Value} (k: ∀a o u,H a=some (.frz o u)→H' a=some (.frz o u)) (c:CodesOk H ps):CodesOk H' ps:=
 ⟨c.1,fun pos cv e=>let ⟨c',o,vs,q,t,e1,e2,r⟩:=c.2 pos cv e;⟨c',o,vs,q,t,e1,k _ _ _ e2,r⟩⟩
theorem CTabs.mono {K:PySem.W.Frag} {H H' :Hp} (x:CTabs K H) (k: ∀a o u,H a=some (.frz o u)→H' a=some (.frz o u)) (kt: ∀a ps,H a=some (.tbl ps)→H' a=some (.tbl ps)):CTabs K H' :=fun P hP=>
 let ⟨ps,e,c⟩:=x P hP;⟨ps,kt _ _ e,c.mono k⟩
theorem CTabs.new {K:PySem.W.Frag} {H:Hp} {p:Addr} {o:HO} (x:CTabs K H) (e:H p=none):CTabs K (upd H p o):=
 x.mono (fun a o' u h=>by rw [jaj (jan h e)];exact h) fun a ps h=>by rw [jaj (jan h e)];exact h
theorem CTabs.put {K:PySem.W.Frag} {H:Hp} {p:Addr} {o:HO} {xs:List V} (x:CTabs K H) (e:H p=some (.lst xs)):CTabs K (upd H p o):=
 x.mono (fun a o' u h=>by rw [jaj (jji h e (by intro z;cases z))];exact h) fun a ps h=>by rw [jaj (jji h e (by intro z;cases z))];exact h
structure RelH (K:PySem.W.Frag) (h:HD) (H:Hp):Prop where
 ls: ∀a ds,h a=some ds→ ∃vs,H a=some (.lst vs)∧RelDs K H ds vs
 tb:CTabs K H
instance {K:PySem.W.Frag} {h:HD} {H:Hp}:CoeFun (RelH K h H) fun _=> ∀a ds,h a=some ds→ ∃vs,H a=some (.lst vs)∧RelDs K H ds vs:=⟨RelH.ls⟩
def Sub (h h' :HD):Prop:= ∀a ds,h a=some ds→h' a=some ds
theorem Sub.refl (h:HD):Sub h h:=fun _ _ e=>e
theorem Sub.trans {a b c:HD} (x:Sub a b) (y:Sub b c):Sub a c:=fun d ds e=>y d ds (x d ds e)
theorem Sub.drop (h:HD) (a:Addr):Sub (jeu h a) h:=fun b ds e=>by
 unfold jeu at e;split at e
 ·cases e
 ·exact e
theorem Sub.new {h:HD} {p:Addr} {ds:List D} (e:h p=none):Sub h (jbi h p ds):=fun a es q=>by
 rw [jbR];exact q
 intro z;subst z;rw [e] at q;cases q
section
variable {K:PySem.W.Frag} {h h' :HD} {H:Hp}
theorem RelH.sub (r:RelH K h H) (s:Sub h' h):RelH K h' H:=⟨fun a ds e=>r a ds (s a ds e),r.tb⟩
theorem RelH.free (r:RelH K h H) {p:Addr} (e:H p=none):h p=none:=by
 cases q:h p with
 |none=>rfl
 |some ds=>obtain⟨vs,z,_⟩:=r p ds q;rw [e] at z;cases z
theorem RelH.new (r:RelH K h H) {p:Addr} {o:HO} (e:H p=none):RelH K h (upd H p o):=⟨fun a ds q=>by
 obtain⟨vs,z,w⟩:=r a ds q
 exact⟨vs,by rw [jaj (jan z e)];exact z,w.mono (.new e)⟩,r.tb.new e⟩
theorem RelH.newL (r:RelH K h H) {p:Addr} {ds:List D} {vs:List V} (e:H p=none) (q:RelDs K H ds vs):RelH K (jbi h p ds) (upd H p (.lst vs)):=⟨fun a es z=>by
 by_cases w:a=p
 ·subst w;rw [jaa] at z;cases z
  exact⟨vs,jam,q.mono (.new e)⟩
 ·rw [jbR w] at z
  obtain⟨us,z1,z2⟩:=r a es z
  exact⟨us,by rw [jaj w];exact z1,z2.mono (.new e)⟩,r.tb.new e⟩
theorem RelH.put (r:RelH K h H) {p:Addr} {ds:List D} {vs us:List V} (e:H p=some (.lst us)) (q:RelDs K H ds vs):RelH K (jbi h p ds) (upd H p (.lst vs)):=⟨fun a es z=>by
 by_cases w:a=p
 ·subst w;rw [jaa] at z;cases z
  exact⟨vs,jam,q.mono (.put e)⟩
 ·rw [jbR w] at z
  obtain⟨us,z1,z2⟩:=r a es z
  exact⟨us,by rw [jaj w];exact z1,z2.mono (.put e)⟩,r.tb.put e⟩
end
abbrev SD:=List (Option D)
def RelS (K:PySem.W.Frag) (H:Hp) (σd:SD) (σ:St):Prop:=σd.length=σ.length∧ ∀ (i:Nat) (d:D),σd[i]? =some (some d)→ ∃v,σ[i]? =some (some v)∧RelD K H d v
theorem RelS.mono {K:PySem.W.Frag} {H H' :Hp} {σd:SD} {σ:St} (r:RelS K H σd σ) (k:Kept H H'):RelS K H' σd σ:=⟨r.1,fun i d e=>let ⟨v,a,b⟩:=r.2 i d e;⟨v,a,b.mono k⟩⟩
theorem RelS.set {K:PySem.W.Frag} {H:Hp} {σd:SD} {σ:St} {d:D} {v:V} (r:RelS K H σd σ) (q:RelD K H d v) (i:Nat):RelS K H (σd.set i (some d)) (σ.set i (some v)):=⟨by simp [r.1],fun j e h=>by
 by_cases z:i=j
 ·subst z
  rw [G3t] at h ⊢
  by_cases hl:i<σd.length
  ·rw [if_pos rfl,if_pos hl] at h
   rw [if_pos rfl,if_pos (by rw [←r.1];exact hl)]
   cases h;exact⟨v,rfl,q⟩
  ·rw [if_pos rfl,if_neg hl] at h;cases h
 ·rw [G1H z] at h ⊢
  exact r.2 j e h⟩
theorem RelS.clear1 {K:PySem.W.Frag} {H:Hp} {σd:SD} {σ:St} (r:RelS K H σd σ) (i:Nat):RelS K H (σd.set i none) (σ.set i none):=⟨by simp [r.1],fun j e h=>by
 by_cases z:i=j
 ·subst z
  rw [G3t] at h
  split at h
  ·split at h<;>cases h
  ·contradiction
 ·rw [G1H z] at h ⊢
  exact r.2 j e h⟩
def jaH:List Nat→SD→SD
 | [],σ=>σ
 |j::js,σ=>jaH js (σ.set j none)
theorem RelS.clear {K:PySem.W.Frag} {H:Hp}: ∀ (js:List Nat) {σd:SD} {σ:St},RelS K H σd σ→RelS K H (jaH js σd) (jbG js σ)
 | [],_,_,r=>r
 |j::js,_,_,r=>RelS.clear js (r.clear1 j)
abbrev KD:=D→HD→Prop
abbrev TED:=SD→HD→KD→Prop
abbrev TTD:=SD→HD→(Bool→HD→Prop)→Prop
abbrev TAD:=SD→HD→(List D→HD→Prop)→Prop
abbrev RD2:=D→D→HD→KD→Prop
abbrev RDn:=List D→HD→KD→Prop
structure EndsD where
 nx:SD→HD→Prop
 rt:KD
 bk:SD→HD→Prop:=fun _ _=>False
 ct:SD→HD→Prop:=fun _ _=>False
abbrev TSD:=EndsD→SD→HD→Prop
abbrev TGD:=D→SD→HD→(SD→HD→Prop)→Prop
def jmm (K:PySem.W.Frag) (H:Hp) (Qd:KD) (Q:VK):Prop:= ∀d v h' H',Kept H H' →RelH K h' H' →RelD K H' d v→Qd d h' →Q v H'
def LE (K:PySem.W.Frag) (t:TED):TE:=fun σ H Q=> ∃σd h Qd,RelS K H σd σ∧RelH K h H∧t σd h Qd∧jmm K H Qd Q
def LT (K:PySem.W.Frag) (t:TTD):TT:=fun σ H Q=> ∃σd h Qd,RelS K H σd σ∧RelH K h H∧t σd h Qd∧ ∀b h' H',Kept H H' →RelH K h' H' →Qd b h' →Q b H'
def LA (K:PySem.W.Frag) (t:TAD):TA:=fun σ H Q=> ∃σd h Qd,RelS K H σd σ∧RelH K h H∧t σd h Qd∧ ∀ds vs h' H',Kept H H' →RelH K h' H' →RelDs K H' ds vs→Qd ds h' →Q vs H'
def LR (K:PySem.W.Frag) (f:RD2):R2:=fun x y H Q=> ∃dx dy h Qd,RelD K H dx x∧RelD K H dy y∧RelH K h H∧f dx dy h Qd∧jmm K H Qd Q
def LC (K:PySem.W.Frag) (f:RDn):List V→Hp→VK→Prop:=fun xs H Q=> ∃ds h Qd,RelDs K H ds xs∧RelH K h H∧f ds h Qd∧jmm K H Qd Q
def LG (K:PySem.W.Frag) (g:TGD):TG:=fun v σ H Q=> ∃d σd h Qd,RelD K H d v∧RelS K H σd σ∧RelH K h H∧g d σd h Qd∧ ∀σd' h' σ' H',Kept H H' →RelS K H' σd' σ' →RelH K h' H' →Qd σd' h' →Q σ' H'
def LS (K:PySem.W.Frag) (t:TSD):TS:=fun D₀ σ H=> ∃σd h Dd,RelS K H σd σ∧RelH K h H∧t Dd σd h∧
 (∀σd' h' σ' H',Kept H H' →RelS K H' σd' σ' →RelH K h' H' →Dd.nx σd' h' →D₀.nx σ' H')∧jmm K H Dd.rt D₀.rt∧
 (∀σd' h' σ' H',Kept H H' →RelS K H' σd' σ' →RelH K h' H' →Dd.bk σd' h' →D₀.bk σ' H')∧(∀σd' h' σ' H',Kept H H' →RelS K H' σd' σ' →RelH K h' H' →Dd.ct σd' h' →D₀.ct σ' H')
theorem PE.imp {X:Cx} {e:Expr} {t t' :TE} (h:PE X e t) (i: ∀σ H Q,t' σ H Q→t σ H Q):PE X e t' :=fun pins s σ H Q I q=>h pins s σ H Q I (i σ H Q q)
theorem PT.imp {X:Cx} {e:Expr} {t t' :TT} (h:PT X e t) (i: ∀σ H Q,t' σ H Q→t σ H Q):PT X e t' :=fun pins s σ H Q I q=>h pins s σ H Q I (i σ H Q q)
theorem PW.imp {X:Cx} {e:Expr} {t t' :TT} (h:PW X e t) (i: ∀σ H Q,t' σ H Q→t σ H Q):PW X e t' :=fun wh pins s σ H Q I q=>h wh pins s σ H Q I (i σ H Q q)
theorem PA.imp {X:Cx} {e:List Expr} {t t' :TA} (h:PA X e t) (i: ∀σ H Q,t' σ H Q→t σ H Q):PA X e t' :=fun pos pins s σ H Q I q=>h pos pins s σ H Q I (i σ H Q q)
theorem PS.imp {X:Cx} {e:Stmt} {t t' :TS} (h:PS X e t) (i: ∀D σ H,t' D σ H→t D σ H):PS X e t' :=fun pins s σ H D I q=>h pins s σ H D I (i D σ H q)
theorem PSs.imp {X:Cx} {e:List Stmt} {t t' :TS} (h:PSs X e t) (i: ∀D σ H,t' D σ H→t D σ H):PSs X e t' :=fun pins s σ H D I q=>h pins s σ H D I (i D σ H q)
theorem PG.imp {X:Cx} {e:Expr} {t t' :TG} (h:PG X e t) (i: ∀v σ H Q,t' v σ H Q→t v σ H Q):PG X e t' :=fun pins s σ H v u Q I r q=>h pins s σ H v u Q I r (i v σ H Q q)
theorem OpR.imp {X:Cx} {f:Value→Value→Sem Value} {r r' :R2} (h:OpR X f r) (i: ∀x y H Q,r' x y H Q→r x y H Q):OpR X f r' :=fun pins s σ H x y v u Q I a b q=>h pins s σ H x y v u Q I a b (i x y H Q q)
theorem CallR.imp {X:Cx} {f:Value} {r r' :List V→Hp→VK→Prop} (h:CallR X f r) (i: ∀xs H Q,r' xs H Q→r xs H Q):CallR X f r' :=fun pins s σ H xs us Q I a q=>h pins s σ H xs us Q I a (i xs H Q q)
def jeU (i:Nat):TED:=fun σ h Q=> ∃d,σ[i]? =some (some d)∧Q d h
def dC (d:D):TED:=fun _ h Q=>Q d h
def dOp (f:RD2) (ta tb:TED):TED:=fun σ h Q=>ta σ h fun x h1=>tb σ h1 fun y h2=>f x y h2 Q
def jd0:TAD:=fun _ h Q=>Q [] h
def jbq (ta:TED) (tr:TAD):TAD:=fun σ h Q=>ta σ h fun x h1=>tr σ h1 fun xs h2=>Q (x::xs) h2
def jeV (t:TAD):TED:=fun σ h Q=>t σ h fun ds h1=>ds.length≤sizeLine∧Q (.tup ds) h1
def jeZ (t:TAD):TED:=fun σ h Q=>t σ h fun ds h1=>ds.length≤sizeLine∧ ∀p,h1 p=none→Q (.lst p) (jbi h1 p ds)
def dCB (r:RDn) (t:TAD):TED:=fun σ h Q=>t σ h fun ds h1=>r ds h1 Q
def jbr (t:TED):TTD:=fun σ h Q=>t σ h fun x h1=> ∃k,x= .bl k∧Q k h1
def ja2 (r r' :RD2) (ta tb tc:TED):TED:=fun σ h Q=>ta σ h fun x h1=>tb σ h1 fun y h2=>r x y h2 fun z h3=> ∃k,z= .bl k∧
 (if k=true then tc σ h3 fun w h4=>r' y w h4 Q else Q (.bl false) h3)
def jb1 (t u:TTD):TTD:=fun σ h Q=>t σ h fun c h1=>if c=true then u σ h1 Q else Q false h1
def je0 (t u:TTD):TTD:=fun σ h Q=>t σ h fun c h1=>if c=true then Q true h1 else u σ h1 Q
def jb2 (t:TTD):TTD:=fun σ h Q=>t σ h fun c h1=>Q (!c) h1
def jb3 (ta tb:TED):TED:=fun σ h Q=>ta σ h fun x h1=> ∃c,x= .bl c∧if c=true then tb σ h1 Q else Q (.bl false) h1
def je1 (ta tb:TED):TED:=fun σ h Q=>ta σ h fun x h1=> ∃c,x= .bl c∧if c=true then Q (.bl true) h1 else tb σ h1 Q
def jb4 (ta:TED):TED:=fun σ h Q=>ta σ h fun x h1=> ∃c,x= .bl c∧Q (.bl (!c)) h1
def dIf (t:TTD) (ta tb:TED):TED:=fun σ h Q=>t σ h fun c h1=>if c=true then ta σ h1 Q else tb σ h1 Q
section
variable {K:PySem.W.Frag}
theorem jpu (i:Nat): ∀σ H Q,LE K (jeU i) σ H Q→jq6 i σ H Q:=fun σ H Q ⟨σd,h,Qd,rs,rh,⟨d,e,q⟩,p⟩=>let ⟨v,e1,e2⟩:=rs.2 i d e;⟨v,e1,p d v h H (.refl H) rh e2 q⟩
theorem jq1 {d:D} {v:V} (r: ∀H,RelD K H d v): ∀σ H Q,LE K (dC d) σ H Q→tC v σ H Q:=fun σ H Q ⟨σd,h,Qd,rs,rh,q,p⟩=>p d v h H (.refl H) rh (r H) q
theorem jaw {H H1:Hp} {Qd:KD} {Q:VK} (p:jmm K H Qd Q) (k:Kept H H1):jmm K H1 Qd Q:=fun d v h' H' k' =>p d v h' H' (k.trans k')
theorem LE.bind {ta:TED} {σ:St} {H:Hp} {σd:SD} {h:HD} {kd:KD} {k:VK} (rs:RelS K H σd σ) (rh:RelH K h H) (t:ta σd h kd) (f: ∀d v h' H',Kept H H' →RelS K H' σd σ→RelH K h' H' →RelD K H' d v→kd d h' →k v H'):LE K ta σ H k:=
 ⟨σd,h,kd,rs,rh,t,fun d v h' H' kp r1 r2 q=>f d v h' H' kp (rs.mono kp) r1 r2 q⟩
theorem LT.bind {ta:TTD} {σ:St} {H:Hp} {σd:SD} {h:HD} {kd:Bool→HD→Prop} {k:Bool→Hp→Prop} (rs:RelS K H σd σ) (rh:RelH K h H) (t:ta σd h kd) (f: ∀b h' H',Kept H H' →RelS K H' σd σ→RelH K h' H' →kd b h' →k b H'):LT K ta σ H k:=
 ⟨σd,h,kd,rs,rh,t,fun b h' H' kp r1 q=>f b h' H' kp (rs.mono kp) r1 q⟩
theorem LA.bind {ta:TAD} {σ:St} {H:Hp} {σd:SD} {h:HD} {kd:List D→HD→Prop} {k:List V→Hp→Prop} (rs:RelS K H σd σ) (rh:RelH K h H) (t:ta σd h kd) (f: ∀ds vs h' H',Kept H H' →RelS K H' σd σ→RelH K h' H' →RelDs K H' ds vs→kd ds h' →k vs H'):LA K ta σ H k:=
 ⟨σd,h,kd,rs,rh,t,fun d v h' H' kp r1 r2 q=>f d v h' H' kp (rs.mono kp) r1 r2 q⟩
theorem jnb {f:RD2} {ta tb:TED}: ∀σ H Q,LE K (dOp f ta tb) σ H Q→tOp (LR K f) (LE K ta) (LE K tb) σ H Q:=fun σ H Q ⟨σd,h,Qd,rs,rh,t,p⟩=>
 LE.bind rs rh t fun d v h1 H1 k1 rs1 rh1 r1 t1=>LE.bind rs1 rh1 t1 fun d2 v2 h2 H2 k2 rs2 rh2 r2 t2=>⟨d,d2,h2,Qd,r1.mono k2,r2,rh2,t2,jaw p (k1.trans k2)⟩
theorem jpv: ∀σ H Q,LA K jd0 σ H Q→jrl σ H Q:=fun σ H Q ⟨σd,h,Qd,rs,rh,t,p⟩=>p [] [] h H (.refl H) rh rfl t
theorem jnc {ta:TED} {tr:TAD}: ∀σ H Q,LA K (jbq ta tr) σ H Q→jlf (LE K ta) (LA K tr) σ H Q:=fun σ H Q ⟨σd,h,Qd,rs,rh,t,p⟩=>
 LE.bind rs rh t fun d v h1 H1 k1 rs1 rh1 r1 t1=>LA.bind rs1 rh1 t1 fun ds vs h2 H2 k2 rs2 rh2 r2 t2=>p _ _ h2 H2 (k1.trans k2) rh2 (.cons (r1.mono k2) r2) t2
theorem jpw {t:TAD}: ∀σ H Q,LE K (jeV t) σ H Q→jsi (LA K t) σ H Q:=fun σ H Q ⟨σd,h,Qd,rs,rh,t,p⟩=>
 LA.bind rs rh t fun ds vs h1 H1 k1 rs1 rh1 r1 ⟨z,q⟩=>⟨by rw [←r1.length];exact z,fun a ha=>p (.tup ds) (.ref a) h1 _ (k1.trans (.new ha)) (rh1.new ha) ⟨a,vs,rfl,jam,r1.mono (.new ha)⟩ q⟩
theorem jpx {t:TAD}: ∀σ H Q,LE K (jeZ t) σ H Q→jsj (LA K t) σ H Q:=fun σ H Q ⟨σd,h,Qd,rs,rh,t,p⟩=>
 LA.bind rs rh t fun ds vs h1 H1 k1 rs1 rh1 r1 ⟨z,q⟩=>⟨by rw [←r1.length];exact z,fun a ha=>p (.lst a) (.ref a) _ _ (k1.trans (.new ha)) (rh1.newL ha r1) ⟨rfl,vs,jam⟩ (q a (rh1.free ha))⟩
theorem jpy {r:RDn} {t:TAD}: ∀σ H Q,LE K (dCB r t) σ H Q→tCB (LC K r) (LA K t) σ H Q:=fun σ H Q ⟨σd,h,Qd,rs,rh,t,p⟩=>
 LA.bind rs rh t fun ds vs h1 H1 k1 rs1 rh1 r1 q=>⟨ds,h1,Qd,r1,rh1,q,jaw p k1⟩
theorem jjH {t:TED}: ∀σ H Q,LT K (jbr t) σ H Q→jmX (LE K t) σ H Q:=fun σ H Q ⟨σd,h,Qd,rs,rh,t,p⟩=>
 LE.bind rs rh t fun d v h1 H1 k1 rs1 rh1 r1 ⟨k,e,q⟩=>by subst e;exact⟨k,r1,p k h1 H1 k1 rh1 q⟩
theorem jln {t:TED}: ∀σ H Q,LT K (jbr t) σ H Q→tB (LE K t) σ H Q:=fun σ H Q ⟨σd,h,Qd,rs,rh,t,p⟩=>
 LE.bind rs rh t fun d v h1 H1 k1 rs1 rh1 r1 ⟨k,e,q⟩=>by subst e;exact⟨k,r1,p k h1 H1 k1 rh1 q⟩
theorem jlo {r r' :RD2} {ta tb tc:TED}: ∀σ H Q,LE K (ja2 r r' ta tb tc) σ H Q→jmk (LR K r) (LR K r') (LE K ta) (LE K tb) (LE K tc) σ H Q:=fun σ H Q ⟨σd,h,Qd,rs,rh,t,p⟩=>
 LE.bind rs rh t fun d v h1 H1 k1 rs1 rh1 r1 t1=>LE.bind rs1 rh1 t1 fun d2 v2 h2 H2 k2 rs2 rh2 r2 t2=>⟨d,d2,h2,_,r1.mono k2,r2,rh2,t2,fun d3 v3 h3 H3 k3 rh3 r3 ⟨k,e,q⟩=>by
  subst e
  refine⟨k,r3,?_⟩
  cases k with
  |true=>
   rw [if_pos rfl] at q ⊢
   exact LE.bind (rs2.mono k3) rh3 q fun d4 v4 h4 H4 k4 rs4 rh4 r4 t4=>⟨d2,d4,h4,Qd,(r2.mono k3).mono k4,r4,rh4,t4,jaw p (k1.trans (k2.trans (k3.trans k4)))⟩
  |false=>
   rw [if_neg G0q] at q ⊢
   exact p (.bl false) _ h3 H3 (k1.trans (k2.trans k3)) rh3 rfl q⟩
theorem jpz {t u:TTD}: ∀σ H Q,LT K (jb1 t u) σ H Q→jr6 (LT K t) (LT K u) σ H Q:=fun σ H Q ⟨σd,h,Qd,rs,rh,t,p⟩=>
 LT.bind rs rh t fun b h1 H1 k1 rs1 rh1 q=>by
  cases b with
  |true=>rw [if_pos rfl] at q ⊢;exact⟨σd,h1,Qd,rs1,rh1,q,fun b h' H' k=>p b h' H' (k1.trans k)⟩
  |false=>rw [if_neg G0q] at q ⊢;exact p _ _ _ k1 rh1 q
theorem jrq {t u:TTD}: ∀σ H Q,LT K (je0 t u) σ H Q→tOr (LT K t) (LT K u) σ H Q:=fun σ H Q ⟨σd,h,Qd,rs,rh,t,p⟩=>
 LT.bind rs rh t fun b h1 H1 k1 rs1 rh1 q=>by
  cases b with
  |true=>rw [if_pos rfl] at q ⊢;exact p _ _ _ k1 rh1 q
  |false=>rw [if_neg G0q] at q ⊢;exact⟨σd,h1,Qd,rs1,rh1,q,fun b h' H' k=>p b h' H' (k1.trans k)⟩
theorem jpA {t:TTD}: ∀σ H Q,LT K (jb2 t) σ H Q→jr7 (LT K t) σ H Q:=fun σ H Q ⟨σd,h,Qd,rs,rh,t,p⟩=>
 LT.bind rs rh t fun b h1 H1 k1 rs1 rh1 q=>p _ _ _ k1 rh1 q
theorem jpB {ta tb:TED}: ∀σ H Q,LE K (jb3 ta tb) σ H Q→joW (LE K ta) (LE K tb) σ H Q:=fun σ H Q ⟨σd,h,Qd,rs,rh,t,p⟩=>
 LE.bind rs rh t fun d v h1 H1 k1 rs1 rh1 r1 ⟨c,e,q⟩=>by
  subst e
  refine⟨c,r1,?_⟩
  cases c with
  |true=>rw [if_pos rfl] at q ⊢;exact⟨σd,h1,Qd,rs1,rh1,q,jaw p k1⟩
  |false=>rw [if_neg G0q] at q ⊢;exact p (.bl false) _ _ _ k1 rh1 rfl q
theorem jrr {ta tb:TED}: ∀σ H Q,LE K (je1 ta tb) σ H Q→jr8 (LE K ta) (LE K tb) σ H Q:=fun σ H Q ⟨σd,h,Qd,rs,rh,t,p⟩=>
 LE.bind rs rh t fun d v h1 H1 k1 rs1 rh1 r1 ⟨c,e,q⟩=>by
  subst e
  refine⟨c,r1,?_⟩
  cases c with
  |true=>rw [if_pos rfl] at q ⊢;exact p (.bl true) _ _ _ k1 rh1 rfl q
  |false=>rw [if_neg G0q] at q ⊢;exact⟨σd,h1,Qd,rs1,rh1,q,jaw p k1⟩
theorem jpC {ta:TED}: ∀σ H Q,LE K (jb4 ta) σ H Q→joX (LE K ta) σ H Q:=fun σ H Q ⟨σd,h,Qd,rs,rh,t,p⟩=>
 LE.bind rs rh t fun d v h1 H1 k1 rs1 rh1 r1 ⟨c,e,q⟩=>by subst e;exact⟨c,r1,p (.bl (!c)) _ _ _ k1 rh1 rfl q⟩
theorem jrs {t:TTD} {ta tb:TED}: ∀σ H Q,LE K (dIf t ta tb) σ H Q→tIf (LT K t) (LE K ta) (LE K tb) σ H Q:=fun σ H Q ⟨σd,h,Qd,rs,rh,t,p⟩=>
 LT.bind rs rh t fun b h1 H1 k1 rs1 rh1 q=>by
  cases b with
  |true=>rw [if_pos rfl] at q ⊢;exact⟨σd,h1,Qd,rs1,rh1,q,jaw p k1⟩
  |false=>rw [if_neg G0q] at q ⊢;exact⟨σd,h1,Qd,rs1,rh1,q,jaw p k1⟩
end
abbrev QE (X:Cx) (e:Expr) (t:TED):Prop:=PE X e (LE X.K t)
abbrev QT (X:Cx) (e:Expr) (t:TTD):Prop:=PT X e (LT X.K t)
abbrev QW (X:Cx) (e:Expr) (t:TTD):Prop:=PW X e (LT X.K t)
abbrev QA (X:Cx) (es:List Expr) (t:TAD):Prop:=PA X es (LA X.K t)
abbrev QS (X:Cx) (s:Stmt) (t:TSD):Prop:=PS X s (LS X.K t)
abbrev QSs (X:Cx) (s:List Stmt) (t:TSD):Prop:=PSs X s (LS X.K t)
abbrev QG (X:Cx) (e:Expr) (t:TGD):Prop:=PG X e (LG X.K t)
abbrev OpQ (X:Cx) (f:Value→Value→Sem Value) (r:RD2):Prop:=OpR X f (LR X.K r)
abbrev jc7 (X:Cx) (f:Value) (r:RDn):Prop:=CallR X f (LC X.K r)
section
variable {X:Cx} {a b c e:Expr} {es rest:List Expr} {ta tb tc te:TED} {t u:TAD} {tt tu:TTD} {pos:Pos} {f r r' :RD2}
theorem qv (i:Nat) {x:Str} (hN:X.N[i]? =some x:=by rfl) (hv:Vis X.env.scope x:=by first|exact Or.inl rfl|exact Or.inr (Or.inl rfl)|exact Or.inr (Or.inr rfl)) (hd:(x==("__debug__" :Str))=false:=by decide)
 (hcd:(x==("__classdict__" :Str))=false:=by decide):QE X (.Name x pos) (jeU i):=(jmf hN hv hd hcd).imp (jpu i)
theorem jsI {i:Int} {j:Nat}:QE X (.Constant (.int i) j pos) (dC (.int i)):=pe_int.imp (jq1 fun _=>rfl)
theorem qbl {i:Bool} {j:Nat}:QE X (.Constant (.bool i) j pos) (dC (.bl i)):=pe_bl.imp (jq1 fun _=>rfl)
theorem jsJ {x:Str} {j:Nat}:QE X (.Constant (.str x) j pos) (dC (.str x)):=pe_str.imp (jq1 fun _=>rfl)
theorem jrt {x:Str} {i:Int} {tk:Tok} (hg:Gl X x) (hm:X.mg x=some (.int i tk)) (hd:(x==("__debug__" :Str))=false:=by decide):QE X (.Name x pos) (dC (.int i)):=
 (jjl (v:= .int i) hg hm ⟨tk,rfl⟩ hd).imp (jq1 fun _=>rfl)
theorem qop {op:Operator} (ho:OpQ X (binaryOp op) f) (ha:QE X a ta) (hb:QE X b tb):QE X (.BinOp a op b pos) (dOp f ta tb):=(jre ho ha hb).imp jnb
theorem jsK {op:CmpOp} (ho:OpQ X (compareOp op) f) (ha:QE X a ta) (hb:QE X b tb) (hm:behindInMarks op b=false):QE X (.Compare a [op] [b] pos) (dOp f ta tb):=(jmW ho ha hb hm).imp jnb
theorem jru {op:CmpOp} (ho:OpQ X (compareOp op) f) (ha:QE X a ta) (hb:QE X b tb) (hm:behindInMarks op b=false):QT X (.Compare a [op] [b] pos) (jbr (dOp f ta tb)):=
 (jmY ho ha hb hm).imp fun σ H Q h=>by
  obtain⟨σd,h,Qd,rs,rh,t,p⟩:=jjH (t:=dOp f ta tb) σ H Q h
  exact jnb σ H _ ⟨σd,h,Qd,rs,rh,t,p⟩
theorem jnd {op op' :CmpOp} (ho:OpQ X (compareOp op) r) (ho' :OpQ X (compareOp op') r') (ha:QE X a ta) (hb:QE X b tb) (hc:QE X c tc) (hm:lastMarks [op,op'] [b,c]=false:=by with_unfolding_all rfl):
 QT X (.Compare a [op,op'] [b,c] pos) (jbr (ja2 r r' ta tb tc)):=(jle ho ho' ha hb hc hm).imp fun σ H Q h=>by
 obtain⟨σd,h,Qd,rs,rh,t,p⟩:=jjH (t:=ja2 r r' ta tb tc) σ H Q h
 exact jlo σ H _ ⟨σd,h,Qd,rs,rh,t,p⟩
theorem jrv (ha:QE X a ta) (he: ∀whole,isTrue a X.env whole=(do let v ←whole;standAt a.pos;holding [v] (truthy v)):=by intro _;rfl):QT X a (jbr ta):=(joS ha he).imp jln
theorem jrw (ha:QT X a tt):QW X (.BoolOp .And [a] pos) tt:=jmQ ha
theorem jsL (ha:QT X a tt):QW X (.BoolOp .Or [a] pos) tt:=joT ha
theorem jrx (ha:QT X a tt) (hb:QW X (.BoolOp .And (b::rest) pos) tu):QW X (.BoolOp .And (a::b::rest) pos) (jb1 tt tu):=(joU ha hb).imp jpz
theorem jsM (ha:QT X a tt) (hb:QW X (.BoolOp .Or (b::rest) pos) tu):QW X (.BoolOp .Or (a::b::rest) pos) (je0 tt tu):=(jq7 ha hb).imp jrq
theorem jry (ha:QT X a tt):QT X (.UnaryOp .Not a pos) (jb2 tt):=(joV ha).imp jpA
theorem jsN {op:BoolOp} (ha:QE X a ta):QE X (.BoolOp op [a] pos) ta:=joY ha
theorem jsO (ha:QE X a ta) (hb:QE X (.BoolOp .And (b::rest) pos) tb):QE X (.BoolOp .And (a::b::rest) pos) (jb3 ta tb):=(joZ ha hb).imp jpB
theorem qor (ha:QE X a ta) (hb:QE X (.BoolOp .Or (b::rest) pos) tb):QE X (.BoolOp .Or (a::b::rest) pos) (je1 ta tb):=(jq8 ha hb).imp jrr
theorem jsP (ha:QE X a ta):QE X (.UnaryOp .Not a pos) (jb4 ta):=(jo0 ha).imp jpC
theorem qif {c:Expr} (hc:QT X c tt) (ha:QE X a ta) (hb:QE X b tb):QE X (.IfExp c a b pos) (dIf tt ta tb):=(jla hc ha hb).imp jrs
theorem jpD:QA X [] jd0:=pa_nil.imp jpv
theorem jne (ha:QE X e te) (hr:QA X es t) (hs:starEach (e::es) X.env=(false,eval e X.env)::starEach es X.env:=by rfl):QA X (e::es) (jbq te t):=(jbm ha hr hs).imp jnc
theorem jsQ {k:Nat} (h:QA X es t):QE X (.Tuple es k pos) (jeV t):=(jpi h).imp jpw
theorem jsR (h:QA X es t):QE X (.List es pos) (jeZ t):=(jpj h).imp jpx
end
def jb5:TSD:=fun D σ h=>D.nx σ h
def jd1 (t u:TSD):TSD:=fun D σ h=>t {D with nx:=u D} σ h
def jb6 (te:TED):TSD:=fun D σ h=>te σ h fun _ h1=>D.nx σ h1
def jeW (te:TED):TSD:=fun D σ h=>te σ h D.rt
def jcC:TSD:=fun D _ h=>D.rt .non h
def je2 (c:TTD) (t u:TSD):TSD:=fun D σ h=>c σ h fun b h1=>if b=true then t D σ h1 else u D σ h1
def jd6 (i:Nat) (te:TED):TSD:=fun D σ h=>te σ h fun d h1=>D.nx (σ.set i (some d)) h1
def je3 (te:TED) (g:TGD):TSD:=fun D σ h=>te σ h fun x h1=>g x σ h1 D.nx
def je4 (i j:Nat) (ta:TAD):TSD:=fun D σ h=>ta σ h fun ds h1=> ∃v w,ds= [v,w]∧D.nx ((σ.set i (some v)).set j (some w)) h1
def gN (i:Nat):TGD:=fun d σ h Q=>Q (σ.set i (some d)) h
def gT2 (i j:Nat):TGD:=fun d σ h Q=> ∃x y,d= .tup [x,y]∧Q ((σ.set i (some x)).set j (some y)) h
section
variable {K:PySem.W.Frag}
theorem LS.of {t:TSD} {D₀:Ends} {σ:St} {H:Hp} {σd:SD} {h:HD} {Dd:EndsD} (rs:RelS K H σd σ) (rh:RelH K h H) (q:t Dd σd h)
 (nx: ∀σd' h' σ' H',Kept H H' →RelS K H' σd' σ' →RelH K h' H' →Dd.nx σd' h' →D₀.nx σ' H') (rt:jmm K H Dd.rt D₀.rt)
 (bk: ∀σd' h' σ' H',Kept H H' →RelS K H' σd' σ' →RelH K h' H' →Dd.bk σd' h' →D₀.bk σ' H') (ct: ∀σd' h' σ' H',Kept H H' →RelS K H' σd' σ' →RelH K h' H' →Dd.ct σd' h' →D₀.ct σ' H'):LS K t D₀ σ H:=⟨σd,h,Dd,rs,rh,q,nx,rt,bk,ct⟩
theorem jnf: ∀D σ H,LS K jb5 D σ H→jo1 D σ H:=fun D σ H ⟨σd,h,Dd,rs,rh,q,nx,_⟩=>nx σd h σ H (.refl H) rs rh q
theorem jpE {t u:TSD}: ∀D σ H,LS K (jd1 t u) D σ H→jr9 (LS K t) (LS K u) D σ H:=fun D σ H ⟨σd,h,Dd,rs,rh,q,nx,rt,bk,ct⟩=>
 LS.of rs rh q (fun σd' h' σ' H' k rs' rh' q' =>⟨σd',h',Dd,rs',rh',q',fun a b c d k' =>nx a b c d (k.trans k'),jaw rt k,fun a b c d k' =>bk a b c d (k.trans k'),fun a b c d k' =>ct a b c d (k.trans k')⟩) rt bk ct
theorem jng {te:TED}: ∀D σ H,LS K (jb6 te) D σ H→jo3 (LE K te) D σ H:=fun D σ H ⟨σd,h,Dd,rs,rh,q,nx,rt,bk,ct⟩=>
 LE.bind rs rh q fun d v h1 H1 k1 rs1 rh1 r1 q1=>nx _ _ _ _ k1 rs1 rh1 q1
theorem jpF {te:TED}: ∀D σ H,LS K (jeW te) D σ H→jsa (LE K te) D σ H:=fun D σ H ⟨σd,h,Dd,rs,rh,q,nx,rt,bk,ct⟩=>⟨σd,h,Dd.rt,rs,rh,q,rt⟩
theorem jrz {c:TTD} {t u:TSD}: ∀D σ H,LS K (je2 c t u) D σ H→jsb (LT K c) (LS K t) (LS K u) D σ H:=fun D σ H ⟨σd,h,Dd,rs,rh,q,nx,rt,bk,ct⟩=>
 LT.bind rs rh q fun b h1 H1 k rs1 rh1 q1=>by
  cases b with
  |true=>rw [if_pos rfl] at q1 ⊢;exact⟨σd,h1,Dd,rs1,rh1,q1,fun a b c d k' =>nx a b c d (k.trans k'),jaw rt k,fun a b c d k' =>bk a b c d (k.trans k'),fun a b c d k' =>ct a b c d (k.trans k')⟩
  |false=>rw [if_neg G0q] at q1 ⊢;exact⟨σd,h1,Dd,rs1,rh1,q1,fun a b c d k' =>nx a b c d (k.trans k'),jaw rt k,fun a b c d k' =>bk a b c d (k.trans k'),fun a b c d k' =>ct a b c d (k.trans k')⟩
theorem jjI {i:Nat} {te:TED}: ∀D σ H,LS K (jd6 i te) D σ H→jmh (LE K te) (jcB i) D σ H:=fun D σ H ⟨σd,h,Dd,rs,rh,q,nx,rt,bk,ct⟩=>
 LE.bind rs rh q fun d v h1 H1 k1 rs1 rh1 r1 q1=>nx _ _ _ _ k1 (rs1.set r1 i) rh1 q1
theorem jpG {te:TED} {g:TGD}: ∀D σ H,LS K (je3 te g) D σ H→jmh (LE K te) (LG K g) D σ H:=fun D σ H ⟨σd,h,Dd,rs,rh,q,nx,rt,bk,ct⟩=>
 LE.bind rs rh q fun d v h1 H1 k1 rs1 rh1 r1 q1=>⟨d,σd,h1,_,r1,rs1,rh1,q1,fun a b c e k' =>nx a b c e (k1.trans k')⟩
theorem jpH {i j:Nat} {ta:TAD}: ∀D σ H,LS K (je4 i j ta) D σ H→jsd i j (LA K ta) D σ H:=fun D σ H ⟨σd,h,Dd,rs,rh,q,nx,rt,bk,ct⟩=>
 LA.bind rs rh q fun ds vs h1 H1 k1 rs1 rh1 r1 ⟨x,y,e,q1⟩=>by
  subst e
  obtain⟨v,r,e,r2,r3⟩:=(show ∃v r,vs=v::r∧RelD K H1 x v∧RelDs K H1 [y] r from r1)
  obtain⟨w,r',e',r4,r5⟩:=(show ∃v r',r=v::r' ∧RelD K H1 y v∧RelDs K H1 [] r' from r3)
  cases (show r' = [] from r5)
  subst e' e
  exact⟨v,w,rfl,nx _ _ _ _ k1 ((rs1.set r2 i).set r4 j) rh1 q1⟩
theorem jnh (i:Nat): ∀v σ H Q,LG K (gN i) v σ H Q→jcB i v σ H Q:=fun v σ H Q ⟨d,σd,h,Qd,r,rs,rh,q,p⟩=>p _ _ _ _ (.refl H) (rs.set r i) rh q
theorem jcI {H:Hp} {x y:D} {vs:List V} (r:RelDs K H [x,y] vs): ∃v w,vs= [v,w]∧RelD K H x v∧RelD K H y w:=by
 obtain⟨v,r1,e,r2,r3⟩:=(show ∃v r,vs=v::r∧RelD K H x v∧RelDs K H [y] r from r)
 obtain⟨w,z,e',r4,r5⟩:=(show ∃v z,r1=v::z∧RelD K H y v∧RelDs K H [] z from r3)
 cases (show z= [] from r5)
 subst e' e
 exact⟨v,w,rfl,r2,r4⟩
theorem jay {H:Hp} {x:D} {vs:List V} (r:RelDs K H [x] vs): ∃v,vs= [v]∧RelD K H x v:=by
 obtain⟨v,r1,e,r2,r3⟩:=(show ∃v r,vs=v::r∧RelD K H x v∧RelDs K H [] r from r)
 cases (show r1= [] from r3)
 exact⟨v,e,r2⟩
theorem jpI (i j:Nat): ∀v σ H Q,LG K (gT2 i j) v σ H Q→jrc K 2 (jjn (jcB i) (jjn (jcB j) jrb)) v σ H Q:=fun v σ H Q ⟨d,σd,h,Qd,r,rs,rh,⟨x,y,e,q⟩,p⟩=>by
 subst e
 obtain⟨a,vs,e,hH,r1⟩:=(show ∃a vs,v= .ref a∧H a=some (.tup vs)∧RelDs K H [x,y] vs from r)
 obtain⟨v1,v2,e1,r2,r3⟩:=jcI r1
 subst e e1
 exact⟨a,[v1,v2],rfl,SqT.of hH,rfl,v1,[v2],rfl,v2,[],rfl,rfl,p _ _ _ _ (.refl H) ((rs.set r2 i).set r3 j) rh q⟩
end
section
variable {X:Cx} {st:Stmt} {sts:List Stmt} {t u:TSD} {e:Expr} {te:TED} {pos:Pos}
theorem jpJ:QSs X [] jb5:=pss_nil.imp jnf
theorem jni (h1:QS X st t) (h2:QSs X sts u):QSs X (st::sts) (jd1 t u):=(jlb h1 h2).imp jpE
theorem jpK (h1:QS X st t):QSs X [st] t:=jmR h1
theorem jrA (he:QE X e te) (hs:swapsWith e none pos.line X.env=pure false:=by rfl):QS X (.Expr e pos) (jb6 te):=(jmS he hs).imp jng
theorem jsS (he:QE X e te):QS X (.Return (some e) pos) (jeW te):=(jo4 he).imp jpF
theorem jsT {c:Expr} {a b:List Stmt} {tc:TTD} (hc:QT X c tc) (ha:QSs X a t) (hb:QSs X b u):QS X (.If c a b pos) (je2 tc t u):=(jq9 hc ha hb).imp jrz
theorem jsU {i:Nat} {x:Str} {pos' :Pos} (hN:X.N.Nodup) (hi:X.N[i]? =some x) (hx:Loc X.env.scope x) (he:QE X e te) (hs:swapsWith e (some (.Name x pos')) pos.line X.env=pure false:=by rfl)
 (hf:X.fn x=true∨X.env.scope.names.lookup x=some .local:=by first|exact .inl rfl|exact .inr rfl|assumption):QS X (.Assign [.Name x pos'] e pos) (jd6 i te):=(jo8 hN hi hx he hs hf).imp jjI
theorem jnj {i:Nat} {x:Str} (hN:X.N.Nodup) (hi:X.N[i]? =some x) (hx:Loc X.env.scope x) (hf:X.fn x=true∨X.env.scope.names.lookup x=some .local:=by first|exact .inl rfl|exact .inr rfl|assumption):QG X (.Name x pos) (gN i):=
 (jc5 hN hi hx hf).imp (jnh i)
theorem jpL {i j:Nat} {x y:Str} {p1 p2:Pos} {k:Nat} (hc:X.calm=true) (hN:X.N.Nodup) (hi:X.N[i]? =some x) (hj:X.N[j]? =some y) (hx:Loc X.env.scope x) (hy:Loc X.env.scope y)
 (hf:X.fn x=true∨X.env.scope.names.lookup x=some .local:=by first|exact .inl rfl|exact .inr rfl|assumption) (hf2:X.fn y=true∨X.env.scope.names.lookup y=some .local:=by first|exact .inl rfl|exact .inr rfl|assumption):
 QG X (.Tuple [.Name x p1,.Name y p2] k pos) (gT2 i j):=(jmg hc (jd5 (jc5 hN hi hx hf) (jd5 (jc5 hN hj hy hf2) jjo))).imp (jpI i j)
theorem jsV {tg:Expr} {g:TGD} (he:QE X e te) (hg:QG X tg g) (hs:swapsWithSole [tg] e pos.line X.env=pure false:=by rfl) (hsw:swappedStores [tg] e X.env=pure none:=by rfl)
 (h1:(assignEach [tg] X.env).map (·.2)= [assign tg X.env]:=by rfl):QS X (.Assign [tg] e pos) (je3 te g):=(jo7 he hg hs hsw h1).imp jpG
theorem jsW {i j:Nat} {x y:Str} {a b:Expr} {ta:TAD} {px py pt:Pos} {kt k2 pt2} (hc:X.calm=true) (hN:X.N.Nodup) (hi:X.N[i]? =some x) (hj:X.N[j]? =some y) (hij:i≠j)
 (hx:X.env.scope.names.lookup x=some .local) (hy:X.env.scope.names.lookup y=some .local) (ha:QA X [a,b] ta)
 (hw:swappedStores [.Tuple [.Name x px,.Name y py] kt pt] (.Tuple [a,b] k2 pt2) X.env=pure (some [x,y]))
 (hs:swapsWithSole [.Tuple [.Name x px,.Name y py] kt pt] (.Tuple [a,b] k2 pt2) pos.line X.env=pure false:=by rfl):
 QS X (.Assign [.Tuple [.Name x px,.Name y py] kt pt] (.Tuple [a,b] k2 pt2) pos) (je4 i j ta):=(jo9 hc hN hi hj hij hx hy ha hw hs).imp jpH
end
abbrev ItD:=HD→Option (List D)
def joG (K:PySem.W.Frag) (H:Hp) (j:ItD) (J:It):Prop:= ∀H' h',Kept H H' →RelH K h' H' → ∀ds,j h' =some ds→ ∀i:Nat,
 (∀d,ds[i]? =some d→J.go i H' ∧ ∀x H'',J.yld i H' x H'' →Kept H' H'' ∧RelH K h' H'' ∧RelD K H'' d x)∧(ds.length≤i→J.stop i H')
abbrev TID:=SD→HD→(ItD→HD→Prop)→Prop
def LI (K:PySem.W.Frag) (t:TID):TI:=fun σ H R=> ∃σd h Rd,RelS K H σd σ∧RelH K h H∧t σd h Rd∧ ∀j J h' H',Kept H H' →RelH K h' H' →joG K H' j J→Rd j h' →R J H'
abbrev QI (X:Cx) (tg iter:Expr) (t:TID):Prop:=PI X tg iter (LI X.K t)
theorem PI.imp {X:Cx} {tg e:Expr} {t t' :TI} (h:PI X tg e t) (i: ∀σ H R,t' σ H R→t σ H R):PI X tg e t' :=fun pins s σ H R I q=>h pins s σ H R I (i σ H R q)
def iL (te:TED):TID:=fun σ h R=>te σ h fun x h1=> ∃a,x= .lst a∧R (fun h=>h a) h1
def iR1 (ta:TAD):TID:=fun σ h R=>ta σ h fun ds h1=> ∃n:Int,ds= [.int n]∧ -(2^62)≤n∧n<2^62∧R (fun _=>some ((List.range n.toNat).map fun (k:Nat)=>D.int (k:Int))) h1
def iR2 (ta:TAD):TID:=fun σ h R=>ta σ h fun ds h1=> ∃m n:Int,ds= [.int m,.int n]∧(-(2^62)≤m∧m<2^62∧ -(2^62)≤n∧n<2^62)∧R (fun _=>some ((List.range (n-m).toNat).map fun (k:Nat)=>D.int (m+(k:Int)))) h1
section
variable {K:PySem.W.Frag}
theorem jgF (H:Hp) (a:Addr):joG K H (fun h=>h a) (Itl K a):=fun H' h' k rh ds e i=>by
 obtain⟨vs,hv,r⟩:=rh a ds e
 refine⟨fun d hd=> ?_,fun hl=>⟨vs,SqL.of hv,by rw [←r.length];exact hl⟩⟩
 obtain⟨v,e1,e2⟩:=r.get hd
 refine⟨⟨vs,v,SqL.of hv,e1⟩,fun x H'' ⟨eH,hx⟩=> ?_⟩
 subst eH
 have:=hx vs (SqL.of hv)
 rw [e1] at this;cases this
 exact⟨.refl _,rh,e2⟩
theorem jlp {H:Hp} {a:Addr} {vs:List V} {ds:List D} (hv:H a=some (.tup vs)) (r:RelDs K H ds vs):joG K H (fun _=>some ds) (Itt K a):=fun H' h' k rh ds' e i=>by
 cases e
 have hv' :=k.tup _ _ hv
 have r' :=r.mono k
 refine⟨fun d hd=> ?_,fun hl=>⟨vs,SqT.of hv',by rw [←r.length];exact hl⟩⟩
 obtain⟨v,e1,e2⟩:=r'.get hd
 refine⟨⟨vs,v,SqT.of hv',e1⟩,fun x H'' ⟨eH,hx⟩=> ?_⟩
 subst eH
 have:=hx vs (SqT.of hv')
 rw [e1] at this;cases this
 exact⟨.refl _,rh,e2⟩
theorem jfj (H:Hp) (lo:Int) (n:Nat) (ds:List D) (hd:ds=(List.range n).map fun (k:Nat)=>D.int (lo+(k:Int))):joG K H (fun _=>some ds) (Itr lo n):=fun H' h' k rh ds' e i=>by
 cases e
 subst hd
 refine⟨fun d hd=> ?_,fun hl=>(show n≤i by simpa using hl)⟩
 rw [G0o] at hd
 have hi:i<n:=by
  by_cases z:i<n
  ·exact z
  ·rw [G1j (by simpa using z)] at hd;cases hd
 rw [G1U hi] at hd
 cases hd
 refine⟨hi,fun x H'' ⟨eH,hx⟩=> ?_⟩
 subst eH hx
 exact⟨.refl _,rh,rfl⟩
theorem jnk {te:TED}: ∀σ H R,LI K (iL te) σ H R→jpa K (LE K te) σ H R:=fun σ H R ⟨σd,h,Rd,rs,rh,q,p⟩=>
 LE.bind rs rh q fun d v h1 H1 k1 rs1 rh1 r1 ⟨a,e,q1⟩=>by
  subst e
  obtain⟨e,vs,hv⟩:=(show v= .ref a∧ ∃vs,H1 a=some (.lst vs) from r1)
  exact⟨a,e,⟨vs,SqL.of hv⟩,p _ _ _ _ k1 rh1 (jgF H1 a) q1⟩
theorem jrB {ta:TAD}: ∀σ H R,LI K (iR1 ta) σ H R→jpb (LA K ta) σ H R:=fun σ H R ⟨σd,h,Rd,rs,rh,q,p⟩=>
 LA.bind rs rh q fun ds vs h1 H1 k1 rs1 rh1 r1 ⟨n,e,b1,b2,q1⟩=>by
  subst e
  obtain⟨v,e,r2⟩:=jay r1
  cases (show v= .int n from r2)
  exact⟨n,e,b1,b2,p _ _ _ _ k1 rh1 (jfj H1 0 n.toNat _ (by simp)) q1⟩
theorem jrC {ta:TAD}: ∀σ H R,LI K (iR2 ta) σ H R→jpc (LA K ta) σ H R:=fun σ H R ⟨σd,h,Rd,rs,rh,q,p⟩=>
 LA.bind rs rh q fun ds vs h1 H1 k1 rs1 rh1 r1 ⟨m,n,e,b,q1⟩=>by
  subst e
  obtain⟨v,w,e,r2,r3⟩:=jcI r1
  cases (show v= .int m from r2)
  cases (show w= .int n from r3)
  exact⟨m,n,e,b,p _ _ _ _ k1 rh1 (jfj H1 m (n-m).toNat _ rfl) q1⟩
end
def jpM (ti:TID) (g:TGD) (tb:TSD):TSD:=fun D σ h=>ti σ h fun j h1=> ∃ (n:Nat) (W:Nat→SD→HD→Prop),W 0 σ h1∧ ∀i σ' h',W i σ' h' → ∃ds,j h' =some ds∧ds.length≤n∧(ds.length≤i→D.nx σ' h')∧
 ∀d,ds[i]? =some d→g d σ' h' fun σ2 h2=>tb {D with nx:=fun σ3 h3=> ∃h4,Sub h4 h3∧W (i+1) σ3 h4,ct:=fun σ3 h3=> ∃h4,Sub h4 h3∧W (i+1) σ3 h4,bk:=D.nx} σ2 h2
theorem jpN {K:PySem.W.Frag} {ti:TID} {g:TGD} {tb:TSD}: ∀D σ H,LS K (jpM ti g tb) D σ H→jse (LI K ti) (LG K g) (LS K tb) D σ H:=fun D σ H ⟨σd,h,Dd,rs,rh,q,nx,rt,bk,ct⟩=>by
 refine⟨σd,h,_,rs,rh,q,fun j J h1 H1 k1 rh1 jo ⟨n,W,w0,turn⟩=> ?_⟩
 refine⟨fun i m σ' H' =>m=n-i∧Kept H1 H' ∧ ∃σd' h',RelS K H' σd' σ' ∧RelH K h' H' ∧W i σd' h',⟨n-0,rfl,.refl _,σd,h1,rs.mono k1,rh1,w0⟩,?_⟩
 rintro i m σ' H' ⟨rfl,kp,σd',h',rs',rh',w⟩
 obtain⟨ds,ej,hn,stop,go⟩:=turn i σd' h' w
 have jo' :=jo H' h' kp rh' ds ej i
 by_cases hi:i<ds.length
 ·obtain⟨g1,y1⟩:=jo'.1 ds[i] (G0c hi)
  refine .inr ⟨g1,fun σ2 H2=>Kept H1 H2∧ ∃σd2 h2,RelS K H2 σd2 σ2∧RelH K h2 H2∧W (i+1) σd2 h2,fun σ2 H2 ⟨k2,a,b,c,d,e⟩=>⟨n-(i+1),by omega,rfl,k2,a,b,c,d,e⟩,fun x H'' y=> ?_⟩
  obtain⟨k2,rh2,r2⟩:=y1 x H'' y
  refine⟨ds[i],σd',h',_,r2,rs'.mono k2,rh2,go ds[i] (G0c hi),fun σd3 h3 σ3 H3 k3 rs3 rh3 q3=> ?_⟩
  have kk:Kept H H3:=k1.trans (kp.trans (k2.trans k3))
  have kk1:Kept H1 H3:=kp.trans (k2.trans k3)
  exact⟨σd3,h3,_,rs3,rh3,q3,fun a b c d k4 rs4 rh4 ⟨h4,sb,w4⟩=>⟨kk1.trans k4,a,h4,rs4,rh4.sub sb,w4⟩,jaw rt kk,fun a b c d k4 rs4 rh4 q4=>nx a b c d (kk.trans k4) rs4 rh4 q4,fun a b c d k4 rs4 rh4 ⟨h4,sb,w4⟩=>⟨kk1.trans k4,a,h4,rs4,rh4.sub sb,w4⟩⟩
 ·exact .inl ⟨jo'.2 (G2r.mp hi),nx _ _ _ _ (k1.trans kp) rs' rh' (stop (G2r.mp hi))⟩
def jht:TTD:=fun _ h Q=>Q true h
def jev (bind:D→SD→SD→Prop) (js:List Nat) (ti:TID) (tt:TTD) (te:TED):TED:=fun σ h Q=>ti σ h fun j h1=> ∃ (n:Nat) (W:Nat→List D→HD→Prop),W 0 [] h1∧ ∀i ys h',W i ys h' →ys.length≤sizeLine∧
 ∃ds,j h' =some ds∧ds.length≤n∧(ds.length≤i→ ∀p,h' p=none→Q (.lst p) (jbi h' p ys))∧
  ∀d,ds[i]? =some d→ ∃σ2,bind d (jaH js σ) σ2∧tt σ2 h' fun b h3=>if b=true then te σ2 h3 fun y h4=> ∃h5,Sub h5 h4∧W (i+1) (ys++ [y]) h5 else ∃h5,Sub h5 h3∧W (i+1) ys h5
def bN (i:Nat):D→SD→SD→Prop:=fun d σ σ2=>σ2=σ.set i (some d)
def b2 (i j:Nat):D→SD→SD→Prop:=fun d σ σ2=> ∃x y,d= .tup [x,y]∧σ2=(σ.set i (some x)).set j (some y)
theorem jpO {K:PySem.W.Frag}: ∀σ H Q,LT K jht σ H Q→jsn σ H Q:=fun σ H Q ⟨σd,h,Qd,rs,rh,q,p⟩=>p true h H (.refl H) rh q
def jjJ (K:PySem.W.Frag) (js:List Nat) (bind:D→SD→SD→Prop) (g:TG):Prop:= ∀ (σ:St) (σd σd2:SD) (H:Hp) (d:D) (v:V) (Q:St→Hp→Prop),RelS K H (jaH js σd) (jbG js σ)→RelD K H d v→bind d (jaH js σd) σd2→
 (∀σ2,Agree (jbG js σ) σ2→RelS K H σd2 σ2→Q σ2 H)→g v (jbG js σ) H Q
theorem jpP {K:PySem.W.Frag} {js:List Nat} {i:Nat} (hi:i∈js):jjJ K js (bN i) (jcB i):=fun σ σd σd2 H d v Q rs r b q=>by
 cases (show σd2=_ from b)
 exact q _ (.set v fun u=>jbn js σ i u hi) (rs.set r i)
theorem jrD {K:PySem.W.Frag} {js:List Nat} {i j:Nat} (hi:i∈js) (hj:j∈js) (hij:i≠j):jjJ K js (b2 i j) (jrc K 2 (jjn (jcB i) (jjn (jcB j) jrb))):=fun σ σd σd2 H d v Q rs r b q=>by
 obtain⟨x,y,e,e2⟩:=b
 subst e e2
 obtain⟨a,vs,e,hH,r1⟩:=(show ∃a vs,v= .ref a∧H a=some (.tup vs)∧RelDs K H [x,y] vs from r)
 obtain⟨v1,v2,e1,r2,r3⟩:=jcI r1
 subst e e1
 refine⟨a,[v1,v2],rfl,SqT.of hH,rfl,v1,[v2],rfl,v2,[],rfl,rfl,q _ (.trans (.set v1 fun u=>jbn js σ i u hi) (.set v2 fun u z=> ?_)) ((rs.set r2 i).set r3 j)⟩
 rw [G1H hij] at z
 exact jbn js σ j u hj z
theorem jnl {K:PySem.W.Frag} {bind:D→SD→SD→Prop} {js:List Nat} {ti:TID} {tt:TTD} {te:TED} {g:TG} (hb:jjJ K js bind g): ∀σ H Q,LE K (jev bind js ti tt te) σ H Q→tLC js (LI K ti) g (LT K tt) (LE K te) σ H Q:=
 fun σ H Q ⟨σd,h,Qd,rs,rh,q,p⟩=>by
  refine⟨σd,h,_,rs,rh,q,fun j J h1 H1 k1 rh1 jo ⟨n,W,w0,turn⟩=> ?_⟩
  refine⟨fun i m ys H' =>m=n-i∧Kept H1 H' ∧ ∃ds h',RelDs K H' ds ys∧RelH K h' H' ∧W i ds h',⟨n-0,rfl,.refl _,[],h1,rfl,rh1,w0⟩,?_⟩
  rintro i m ys H' ⟨rfl,kp,yd,h',ry,rh',w⟩
  obtain⟨hz,ds,ej,hn,stop,go⟩:=turn i yd h' w
  refine⟨by rw [←ry.length];exact hz,?_⟩
  have jo' :=jo H' h' kp rh' ds ej i
  have kk:Kept H H' :=k1.trans kp
  by_cases hi:i<ds.length
  ·obtain⟨g1,y1⟩:=jo'.1 ds[i] (G0c hi)
   refine .inr ⟨g1,fun x H'' y=> ?_⟩
   obtain⟨k2,rh2,r2⟩:=y1 x H'' y
   obtain⟨σd2,bd,q2⟩:=go ds[i] (G0c hi)
   refine hb σ σd σd2 H'' ds[i] x _ (((rs.mono (kk.trans k2))).clear js) r2 bd fun σ2 ag rs2=>⟨ag,?_⟩
   refine LT.bind rs2 rh2 q2 fun b h3 H3 k3 rs3 rh3 q3=> ?_
   cases b with
   |true=>
    rw [if_pos rfl] at q3 ⊢
    refine LE.bind rs3 rh3 q3 fun d4 v4 h4 H4 k4 rs4 rh4 r4 ⟨h5,sb,w5⟩=>⟨n-(i+1),by omega,rfl,kp.trans (k2.trans (k3.trans k4)),yd++ [d4],h5,(ry.mono (k2.trans (k3.trans k4))).append (.cons r4 .nil),rh4.sub sb,w5⟩
   |false=>
    rw [if_neg G0q] at q3 ⊢
    obtain⟨h5,sb,w5⟩:=q3
    exact⟨n-(i+1),by omega,rfl,kp.trans (k2.trans k3),yd,h5,ry.mono (k2.trans k3),rh3.sub sb,w5⟩
  ·refine .inl ⟨jo'.2 (G2r.mp hi),fun a ha=>p (.lst a) (.ref a) _ _ (kk.trans (.new ha)) (rh'.newL ha ry) ⟨rfl,ys,jam⟩ (stop (G2r.mp hi) a (rh'.free ha))⟩
theorem jcV {X:Cx} {scope:Scope} {C:Addr} {s₀:Shared} {H₀:Hp} {ex:List Addr} {i:Nat} {x:Str} {p:Pos} (hN:X.N.Nodup) (hx:X.N[i]? =some x) (hl:scope.names.lookup x=some .local∨scope.names.lookup x=some .cell):
 PG (jfN X scope C s₀ H₀ ex) (.Name x p) (jcB i):=by
 rcases hl with z|z
 ·exact jc5 hN hx (.inl (lookup_relabel_local z)) (.inr (lookup_relabel_local z))
 ·exact jc5 hN hx (.inr (jc6 z)) (.inl (by show (scope.names.lookup x==some NameKind.cell)=true;rw [z];rfl))
section
variable {X:Cx} {tg e iter elt:Expr} {te:TED} {ti:TID} {g:TGD} {tb:TSD} {tt:TTD} {pos:Pos} {ta:TAD} {scope:Scope} {js:List Nat} {ifs:List Expr}
theorem jnm (he:QE X e te):QI X tg e (iL te):=(jmU he).imp jnk
theorem jrE {p:Pos} {a:Expr} (hg:Gl X "range") (hm:X.mg "range" =none) (ha:QA X [a] ta) (hs:starEach [a] X.env= [(false,eval a X.env)]:=by rfl):QI X tg (.Call (.Name "range" p) [a] [] pos) (iR1 ta):=(jjp hg hm ha hs).imp jrB
theorem jsX {body:List Stmt} (hp:PassesOwn (model X.prog X.w) X.A X.env X.xe) (hc:X.calm=true) (hi:QI X tg iter ti) (hg:QG X tg g) (hb:QSs X body tb) (hs: ∀x,foldedSetIterable iter X.env x=pure x:=by intro _;rfl):
 QS X (.For tg iter body [] pos) (jpM ti g tb):=(jpd hp hc hi hg hb hs).imp jpN
theorem jnn:PTs X [] (LT X.K jht):=fun pins s σ H Q I h=>jm7 pins s σ H Q I (jpO σ H Q h)
theorem jno {c:Expr} (hc:QT X c tt):PTs X [c] (LT X.K tt):=jm8 hc
theorem qlc {i:Nat} {x:Str} {p:Pos} (hc:X.calm=true) (S:BlockOk X scope js) (hi:QI X (.Name x p) iter ti) (hj:i∈js) (hN:X.N.Nodup) (hx:X.N[i]? =some x) (hl:scope.names.lookup x=some .local∨scope.names.lookup x=some .cell)
 (ht: ∀X',jat X scope X' →PTs X' ifs (LT X'.K tt)) (he: ∀X',jat X scope X' →QE X' elt te) (hs: ∀x,foldedSetIterable iter X.env x=pure x:=by intro _;rfl):
 QE X (.ListComp elt [⟨.Name x p,iter,ifs,0⟩] scope pos) (jev (bN i) js ti tt te):=
 (jps hc S hi (fun X' hX=>by obtain⟨C,s₀,H₀,ex,rfl⟩:=hX;exact jcV hN hx hl) (fun X' hX=>by have:=ht X' hX;obtain⟨C,s₀,H₀,ex,rfl⟩:=hX;exact this)
  (fun X' hX=>by have:=he X' hX;obtain⟨C,s₀,H₀,ex,rfl⟩:=hX;exact this) hs).imp (jnl (jpP hj))
theorem jsY {i j:Nat} {x y:Str} {p1 p2 p3:Pos} {k:Nat} (hc:X.calm=true) (S:BlockOk X scope js) (hi:QI X (.Tuple [.Name x p1,.Name y p2] k p3) iter ti) (hj:i∈js) (hj2:j∈js) (hij:i≠j) (hN:X.N.Nodup) (hx:X.N[i]? =some x) (hy:X.N[j]? =some y)
 (hl:scope.names.lookup x=some .local∨scope.names.lookup x=some .cell) (hl2:scope.names.lookup y=some .local∨scope.names.lookup y=some .cell)
 (ht: ∀X',jat X scope X' →PTs X' ifs (LT X'.K tt)) (he: ∀X',jat X scope X' →QE X' elt te) (hs: ∀x,foldedSetIterable iter X.env x=pure x:=by intro _;rfl):
 QE X (.ListComp elt [⟨.Tuple [.Name x p1,.Name y p2] k p3,iter,ifs,0⟩] scope pos) (jev (b2 i j) js ti tt te):=
 (jps hc S hi (fun X' hX=>by
  obtain⟨C,s₀,H₀,ex,rfl⟩:=hX
  exact jmg hc (jd5 (jcV hN hx hl) (jd5 (jcV hN hy hl2) jjo))) (fun X' hX=>by have:=ht X' hX;obtain⟨C,s₀,H₀,ex,rfl⟩:=hX;exact this)
  (fun X' hX=>by have:=he X' hX;obtain⟨C,s₀,H₀,ex,rfl⟩:=hX;exact this) hs).imp (jnl (jrD hj hj2 hij))
end
def LSp (K:PySem.W.Frag) (spd:RDn):Sp:=fun vs H Q _=>LC K spd vs H Q
theorem jjK {K:PySem.W.Frag} {spd:RDn} {t:TAD} {E:XK}: ∀σ H Q,LE K (dCB spd t) σ H Q→jm0 (LSp K spd) [] E (LA K t) σ H Q:=fun σ H Q ⟨σd,h,Qd,rs,rh,t,p⟩=>
 LA.bind rs rh t fun ds vs h1 H1 k1 rs1 rh1 r1 q=>by rw [G1s];exact⟨ds,h1,Qd,r1,rh1,q,jaw p k1⟩
section
variable {X:Cx} {k:Nat} {f:Addr} {fd:FuncData} {ps:List Str} {spd:RDn} {x:Str} {p pos:Pos} {e:Expr} {es:List Expr} {t:TAD}
theorem jrF (F:FnOk X.prog X.w X.K X.mg X.base CX0 k f fd ps (LSp X.K spd)) (hr:Room k X.A) (hg:Gl X x) (hm:X.mg x=some (.ref f)) (hk:PySem.W.keepIn X.K (.ref f)=true) (hb:Binds X.K fd ps [])
 (ha:QA X (e::es) t) (hdb:(x==("__debug__" :Str))=false:=by decide) (he:starEach (e::es) X.env=(false,eval e X.env)::starEach es X.env:=by rfl) (hpl:(backTo pos (starEach es X.env)).any (·.1)=false:=by rfl):
 QE X (.Call (.Name x p) (e::es) [] pos) (dCB spd t):=(jjy F hr hg hm hk hb .nil jm6 ha hdb he hpl).imp jjK
theorem jpQ {id:String} {r:RDn} (hc:jc7 X (.builtin id) r) (hg:Gl X x) (hm:X.mg x=none) (hv:bootBuiltins x=some (.builtin id)) (ha:QA X (e::es) t) (hn:x≠ "__name__" :=by decide) (hdb:(x==("__debug__" :Str))=false:=by decide)
 (he:starEach (e::es) X.env=(false,eval e X.env)::starEach es X.env:=by rfl) (hpl:(backTo pos (starEach es X.env)).any (·.1)=false:=by rfl):QE X (.Call (.Name x p) (e::es) [] pos) (dCB r t):=(jcU hc hg hm hv ha hn hdb he hpl).imp jpy
theorem jnp {T:String} {r:RDn} (hc:jc7 X (.type T) r) (hg:Gl X x) (hm:X.mg x=none) (hv:bootBuiltins x=some (.type T)) (ha:QA X (e::es) t) (hn:x≠ "__name__" :=by decide) (hdb:(x==("__debug__" :Str))=false:=by decide)
 (he:starEach (e::es) X.env=(false,eval e X.env)::starEach es X.env:=by rfl) (hpl:(backTo pos (starEach es X.env)).any (·.1)=false:=by rfl):QE X (.Call (.Name x p) (e::es) [] pos) (dCB r t):=(jek hc hg hm hv ha hn hdb he hpl).imp jpy
end
def jaB (N:List Str) (ds:List D):SD:=ds.map some++List.replicate (N.length-ds.length) none
theorem jcW {K:PySem.W.Frag} {H:Hp} {N:List Str} {ds:List D} {vs:List V} (r:RelDs K H ds vs):RelS K H (jaB N ds) (start N vs):=by
 have hl:=r.length
 refine⟨by unfold jaB start;simp [hl],fun i d e=> ?_⟩
 unfold jaB at e
 unfold start
 by_cases hi:i<ds.length
 ·rw [G0R (by simpa using hi),G0o] at e
  cases q:ds[i]? with
  |none=>rw [q] at e;cases e
  |some d' =>
   rw [q] at e;cases e
   obtain⟨v,e1,e2⟩:=r.get q
   exact⟨v,by rw [G0R (by simpa [←hl] using hi),G0o,e1];rfl,e2⟩
 ·rw [G0s (by simpa using hi),G3h] at e
  split at e<;>cases e
def jdW (Q:KD):EndsD:= {nx:=fun _ h=> ∃h',Sub h' h∧Q .non h',rt:=fun d h=> ∃h',Sub h' h∧Q d h'}
section
variable {P:Program} {w:World} {K:PySem.W.Frag} {mg:Str→Option Value} {base:Heap}
theorem Fun.okD {x qual:Str} {st:Stmt} {f:Addr} {fd:FuncData} {N ps:List Str} {k:Nat} {spd:RDn} (F:Fun K x qual st f fd) (S:FnScope N ps (jab st)) (len: ∀ds h Q,spd ds h Q→ds.length=ps.length)
 (tb:TSD) (hbody: ∀ (cdv:Value) (A:Around) (outer:List Env) (s:Shared) (H:Hp) (E:XK),Room k (A.deeper (envOfC qual (jab st) s.heap.objs.size f cdv))→QSs (jfI CX0 P w K mg base N qual (jab st) f cdv A outer s H E).nox (jal st) tb)
 (read: ∀ds h Q,spd ds h Q→tb (jdW Q) (jaB N ds) h):FnOk P w K mg base CX0 (k+1) f fd ps (LSp K spd):=by
 refine F.ok S (fun vs H Q E h=> ?_) (fun cdv A outer s H vs Q E hr h=> ?_)
 ·obtain⟨ds,h,Qd,r,rh,q,p⟩:=h
  rw [←r.length];exact len _ _ _ q
 ·obtain⟨ds,h,Qd,r,rh,q,p⟩:=h
  refine⟨_,hbody cdv A outer s H E hr,jaB N ds,h,jdW Qd,jcW r,rh,read ds h Qd q,fun σd' h' σ' H' k rs' rh' ⟨h2,sb,q'⟩=>p .non .non h2 H' k (rh'.sub sb) rfl q',fun d v h' H' k rh' r' ⟨h2,sb,q'⟩=>p d v h2 H' k (rh'.sub sb) r' q',fun _ _ _ _ _ _ _ z=>z.elim,fun _ _ _ _ _ _ _ z=>z.elim⟩
end
section
variable {X:Cx} {iter elt:Expr} {te:TED} {ti:TID} {tt:TTD} {pos spos:Pos} {scope:Scope} {js:List Nat} {ifs:List Expr}
theorem jpR {i k:Nat} {x y:Str} {p py:Pos} (hc:X.calm=true) (hN:X.N.Nodup) (hk:X.N[k]? =some y) (hy:Loc X.env.scope y) (S:BlockOk X scope js) (hi:QI X (.Name x p) iter ti) (hj:i∈js) (hx:X.N[i]? =some x) (hl:scope.names.lookup x=some .local∨scope.names.lookup x=some .cell)
 (ht: ∀X',jat X scope X' →PTs X' ifs (LT X'.K tt)) (he: ∀X',jat X scope X' →QE X' elt te)
 (hsw:swapsWith (.ListComp elt [⟨.Name x p,iter,ifs,0⟩] scope pos) (some (.Name y py)) spos.line X.env=pure true:=by rfl)
 (hf:X.fn y=true∨X.env.scope.names.lookup y=some .local:=by first|exact .inl rfl|exact .inr rfl|assumption) (hs: ∀x,foldedSetIterable iter X.env x=pure x:=by intro _;rfl):
 QS X (.Assign [.Name y py] (.ListComp elt [⟨.Name x p,iter,ifs,0⟩] scope pos) spos) (jd6 k (jev (bN i) js ti tt te)):=by
 have base:PS X (.Assign [.Name y py] (.ListComp elt [⟨.Name x p,iter,ifs,0⟩] scope pos) spos) (jmh (tLC js (LI X.K ti) (jcB i) (LT X.K tt) (LE X.K te)) (jcB k)):=
  jlm hc S hi (fun X' hX=>by obtain⟨C,s₀,H₀,ex,rfl⟩:=hX;exact jcV hN hx hl) (fun X' hX=>by have:=ht X' hX;obtain⟨C,s₀,H₀,ex,rfl⟩:=hX;exact this)
   (fun X' hX=>by have:=he X' hX;obtain⟨C,s₀,H₀,ex,rfl⟩:=hX;exact this) (jc5 hN hk hy hf) hsw hs
 exact base.imp fun D σ H h=>by
  obtain⟨σd,hd,Qd,rs,rh,t,p⟩:=jjI (K:=X.K) D σ H h
  exact jnl (jpP hj) σ H _ ⟨σd,hd,Qd,rs,rh,t,p⟩
end
def dIn (i' :Nat) (ti:TID) (tt:TTD) (te:TED) (V:List D→HD→Prop) (ys:List D):SD→HD→Prop:=fun σ h=>ti σ h fun j h1=> ∃ (n:Nat) (W:Nat→List D→HD→Prop),W 0 ys h1∧ ∀i ys h',W i ys h' →ys.length≤sizeLine∧
 ∃ds,j h' =some ds∧ds.length≤n∧(ds.length≤i→V ys h')∧
  ∀d,ds[i]? =some d→tt (σ.set i' (some d)) h' fun b h3=>if b=true then te (σ.set i' (some d)) h3 fun y h4=> ∃h5,Sub h5 h4∧W (i+1) (ys++ [y]) h5 else ∃h5,Sub h5 h3∧W (i+1) ys h5
def jrG (bind:D→SD→SD→Prop) (js:List Nat) (ti:TID) (tt:TTD) (i' :Nat) (ti' :TID) (tt' :TTD) (te:TED):TED:=fun σ h Q=>ti σ h fun j h1=> ∃ (n:Nat) (W:Nat→List D→HD→Prop),W 0 [] h1∧ ∀i ys h',W i ys h' →ys.length≤sizeLine∧
 ∃ds,j h' =some ds∧ds.length≤n∧(ds.length≤i→ ∀p,h' p=none→Q (.lst p) (jbi h' p ys))∧
  ∀d,ds[i]? =some d→ ∃σ2,bind d (jaH js σ) σ2∧tt σ2 h' fun b h3=>if b=true then dIn i' ti' tt' te (fun ys' h6=> ∃h5,Sub h5 h6∧W (i+1) ys' h5) ys σ2 h3 else ∃h5,Sub h5 h3∧W (i+1) ys h5
def jjL (K:PySem.W.Frag) (js:List Nat) (i' :Nat) (bind:D→SD→SD→Prop) (g:TG):Prop:= ∀ (σ:St) (σd σd2:SD) (H:Hp) (d:D) (v:V) (Q:St→Hp→Prop),RelS K H (jaH js σd) (jbG js σ)→RelD K H d v→bind d (jaH js σd) σd2→
 (∀σ2,Agree (jbG js σ) σ2→(∀u,¬σ2[i']? =some (some u))→RelS K H σd2 σ2→Q σ2 H)→g v (jbG js σ) H Q
theorem jpS {K:PySem.W.Frag} {js:List Nat} {i i' :Nat} (hi:i∈js) (hi' :i' ∈js) (hne:i≠i'):jjL K js i' (bN i) (jcB i):=fun σ σd σd2 H d v Q rs r b q=>by
 cases (show σd2=_ from b)
 refine q _ (.set v fun u=>jbn js σ i u hi) (fun u z=> ?_) (rs.set r i)
 rw [G1H hne] at z
 exact jbn js σ i' u hi' z
theorem jpT {K:PySem.W.Frag} {bind:D→SD→SD→Prop} {js:List Nat} {i' :Nat} {ti ti' :TID} {tt tt' :TTD} {te:TED} {g:TG} (hb:jjL K js i' bind g): ∀σ H Q,LE K (jrG bind js ti tt i' ti' tt' te) σ H Q→jso js (LI K ti) g (LT K tt) (LI K ti') (jcB i') (LT K tt') (LE K te) σ H Q:=
 fun σ H Q ⟨σd,h,Qd,rs,rh,q,p⟩=>by
  refine⟨σd,h,_,rs,rh,q,fun j J h1 H1 k1 rh1 jo ⟨n,W,w0,turn⟩=> ?_⟩
  refine⟨fun i m ys H' =>m=n-i∧Kept H1 H' ∧ ∃ds h',RelDs K H' ds ys∧RelH K h' H' ∧W i ds h',⟨n-0,rfl,.refl _,[],h1,rfl,rh1,w0⟩,?_⟩
  rintro i m ys H' ⟨rfl,kp,yd,h',ry,rh',w⟩
  obtain⟨hz,ds,ej,hn,stop,go⟩:=turn i yd h' w
  refine⟨by rw [←ry.length];exact hz,?_⟩
  have jo' :=jo H' h' kp rh' ds ej i
  have kk:Kept H H' :=k1.trans kp
  by_cases hi:i<ds.length
  ·obtain⟨g1,y1⟩:=jo'.1 ds[i] (G0c hi)
   refine .inr ⟨g1,fun x H'' y=> ?_⟩
   obtain⟨k2,rh2,r2⟩:=y1 x H'' y
   obtain⟨σd2,bd,q2⟩:=go ds[i] (G0c hi)
   refine hb σ σd σd2 H'' ds[i] x _ (((rs.mono (kk.trans k2))).clear js) r2 bd fun σ2 ag un rs2=>⟨ag,?_⟩
   refine LT.bind rs2 rh2 q2 fun b h3 H3 k3 rs3 rh3 q3=> ?_
   cases b with
   |true=>
    rw [if_pos rfl] at q3 ⊢
    -- the second clause
    refine⟨σd2,h3,_,rs3,rh3,q3,fun j2 J2 h4 H4 k4 rh4 jo2 ⟨n2,W2,w20,turn2⟩=> ?_⟩
    refine⟨fun i2 m2 ys2 H5=>m2=n2-i2∧Kept H4 H5∧ ∃ds h5,RelDs K H5 ds ys2∧RelH K h5 H5∧W2 i2 ds h5,⟨n2-0,rfl,.refl _,yd,h4,ry.mono (k2.trans (k3.trans k4)),rh4,w20⟩,?_⟩
    rintro i2 m2 ys2 H5 ⟨rfl,kp5,yd5,h5,ry5,rh5,w5⟩
    obtain⟨hz5,ds5,ej5,hn5,stop5,go5⟩:=turn2 i2 yd5 h5 w5
    refine⟨by rw [←ry5.length];exact hz5,?_⟩
    have jo5:=jo2 H5 h5 kp5 rh5 ds5 ej5 i2
    have kk5:Kept H1 H5:=kp.trans (k2.trans (k3.trans (k4.trans kp5)))
    by_cases hi5:i2<ds5.length
    ·obtain⟨g5,y5⟩:=jo5.1 ds5[i2] (G0c hi5)
     refine .inr ⟨g5,fun x6 H6 yy6=> ?_⟩
     obtain⟨k6,rh6,r6⟩:=y5 x6 H6 yy6
     refine⟨.set x6 un,?_⟩
     have rs6:=(rs3.mono (k4.trans (kp5.trans k6))).set r6 i'
     refine LT.bind rs6 rh6 (go5 ds5[i2] (G0c hi5)) fun b h7 H7 k7 rs7 rh7 q7=> ?_
     cases b with
     |true=>
      rw [if_pos rfl] at q7 ⊢
      exact LE.bind rs7 rh7 q7 fun d8 v8 h8 H8 k8 rs8 rh8 r8 ⟨h9,sb,w9⟩=>⟨n2-(i2+1),by omega,rfl,kp5.trans (k6.trans (k7.trans k8)),yd5++ [d8],h9,(ry5.mono (k6.trans (k7.trans k8))).append (.cons r8 .nil),rh8.sub sb,w9⟩
     |false=>
      rw [if_neg G0q] at q7 ⊢
      obtain⟨h9,sb,w9⟩:=q7
      exact⟨n2-(i2+1),by omega,rfl,kp5.trans (k6.trans k7),yd5,h9,ry5.mono (k6.trans k7),rh7.sub sb,w9⟩
    ·obtain⟨h9,sb,w9⟩:=stop5 (G2r.mp hi5)
     exact .inl ⟨jo5.2 (G2r.mp hi5),n-(i+1),by omega,rfl,kk5,yd5,h9,ry5,rh5.sub sb,w9⟩
   |false=>
    rw [if_neg G0q] at q3 ⊢
    obtain⟨h5,sb,w5⟩:=q3
    exact⟨n-(i+1),by omega,rfl,kp.trans (k2.trans k3),yd,h5,ry.mono (k2.trans k3),rh3.sub sb,w5⟩
  ·refine .inl ⟨jo'.2 (G2r.mp hi),fun a ha=>p (.lst a) (.ref a) _ _ (kk.trans (.new ha)) (rh'.newL ha ry) ⟨rfl,ys,jam⟩ (stop (G2r.mp hi) a (rh'.free ha))⟩
def jfP:RD2:=fun x y h Q=>match x,y with
 | .int i,.int j=>Q (.int (i+j)) h
 | .tup a,.tup b=>a.length+b.length≤sizeLine∧Q (.tup (a++b)) h
 | .lst a,.lst b=> ∃xs ys,h a=some xs∧h b=some ys∧xs.length+ys.length≤sizeLine∧ ∀p,h p=none→Q (.lst p) (jbi h p (xs++ys))
 |_,_=>False
def jfQ:RD2:=fun x y h Q=>match x,y with
 | .int i,.int j=>Q (.int (i-j)) h
 |_,_=>False
def jfk:RD2:=fun x y h Q=>match x,y with
 | .int i,.int j=>CMul i j∧Q (.int (i*j)) h
 | .lst a,.int k=> ∃xs,h a=some xs∧ -(2^63)≤k∧k<2^63∧xs.length*k.toNat≤sizeLine∧ ∀p,h p=none→Q (.lst p) (jbi h p (List.replicate k.toNat xs).flatten)
 |_,_=>False
def jfR:RD2:=fun x y h Q=>match x,y with
 | .int i,.int j=>0<j∧Q (.int (i%j)) h
 |_,_=>False
def jcl:RD2:=fun x y h Q=>match x,y with
 | .int i,.int j=>jrg i j∧Q (.int (i / j)) h
 |_,_=>False
def jfS:RD2:=fun x y h Q=>match x,y with
 | .int i,.int j=>jsg i j∧Q (.int (i^j.toNat)) h
 |_,_=>False
def jew (p:Int→Int→Bool):RD2:=fun x y h Q=>match x,y with
 | .int i,.int j=>Q (.bl (p i j)) h
 |_,_=>False
def eqD:RD2:=fun x y h Q=>match x,y with
 | .int i,.int j=>Q (.bl (decide (i=j))) h
 | .bl i,.bl j=>Q (.bl (decide (i=j))) h
 | .str i,.str j=>Q (.bl (decide (i=j))) h
 |_,_=>False
def neD:RD2:=fun x y h Q=>match x,y with
 | .int i,.int j=>Q (.bl (!decide (i=j))) h
 | .bl i,.bl j=>Q (.bl (!decide (i=j))) h
 | .str i,.str j=>Q (.bl (!decide (i=j))) h
 |_,_=>False
section
variable {X:Cx}
theorem jhu {f:Value→Value→Sem Value} {C:Int→Int→Prop} {g:Int→Int→V} {gd:Int→Int→D} {r:RD2} (ho:OpR X f (rI C g)) (hg: ∀i j H,RelD X.K H (gd i j) (g i j))
 (hr: ∀x y h Q,r x y h Q→ ∃i j,x= .int i∧y= .int j∧C i j∧Q (gd i j) h):OpQ X f r:=ho.imp fun x y H Q ⟨dx,dy,h,Qd,rx,ry,rh,q,p⟩=>by
 obtain⟨i,j,e1,e2,c,q'⟩:=hr dx dy h Qd q
 subst e1 e2
 exact⟨i,j,rx,ry,c,p _ _ _ _ (.refl H) rh (hg i j H) q'⟩
theorem jdj {f:Value→Value→Sem Value} {g:Int→Int→V} {gd:Int→Int→D} {r:RD2} (ho:OpR X f (rI0 g)) (hg: ∀i j H,RelD X.K H (gd i j) (g i j))
 (hr: ∀x y h Q,r x y h Q→ ∃i j,x= .int i∧y= .int j∧Q (gd i j) h):OpQ X f r:=ho.imp fun x y H Q ⟨dx,dy,h,Qd,rx,ry,rh,q,p⟩=>by
 obtain⟨i,j,e1,e2,q'⟩:=hr dx dy h Qd q
 subst e1 e2
 exact⟨i,j,rx,ry,p _ _ _ _ (.refl H) rh (hg i j H) q'⟩
theorem jh3:OpQ X (binaryOp .Sub) jfQ:=jdj (gd:=fun i j=> .int (i-j)) jpe (fun _ _ _=>rfl) fun x y h Q q=>by
 cases x<;>cases y<;>first|exact False.elim q|exact⟨_,_,rfl,rfl,q⟩
theorem jcy:OpQ X (binaryOp .Mod) jfR:=jhu (gd:=fun i j=> .int (i%j)) jpf (fun _ _ _=>rfl) fun x y h Q q=>by
 cases x<;>cases y<;>first|exact False.elim q|exact⟨_,_,rfl,rfl,q.1,q.2⟩
theorem jnq:OpQ X (binaryOp .FloorDiv) jcl:=jhu (gd:=fun i j=> .int (i / j)) jmV (fun _ _ _=>rfl) fun x y h Q q=>by
 cases x<;>cases y<;>first|exact False.elim q|exact⟨_,_,rfl,rfl,q.1,q.2⟩
theorem jmn:OpQ X (binaryOp .Pow) jfS:=jhu (gd:=fun i j=> .int (i^j.toNat)) jpg (fun _ _ _=>rfl) fun x y h Q q=>by
 cases x<;>cases y<;>first|exact False.elim q|exact⟨_,_,rfl,rfl,q.1,q.2⟩
theorem jfT {p:Int→Int→Bool}: ∀x y h Q,jew p x y h Q→ ∃i j,x= .int i∧y= .int j∧Q (.bl (p i j)) h:=fun x y h Q q=>by
 cases x<;>cases y<;>first|exact False.elim q|exact⟨_,_,rfl,rfl,q⟩
theorem jpU:OpQ X (compareOp .Lt) (jew fun i j=>decide (i<j)):=jdj (gd:=fun i j=> .bl (decide (i<j))) jrh (fun _ _ _=>rfl) jfT
theorem jpV:OpQ X (compareOp .LtE) (jew fun i j=>decide (i≤j)):=jdj (gd:=fun i j=> .bl (decide (i≤j))) jri (fun _ _ _=>rfl) jfT
theorem jjM:OpQ X (compareOp .Gt) (jew fun i j=>decide (j<i)):=jdj (gd:=fun i j=> .bl (decide (j<i))) jrj (fun _ _ _=>rfl) jfT
theorem jnr:OpQ X (compareOp .GtE) (jew fun i j=>decide (j≤i)):=jdj (gd:=fun i j=> .bl (decide (j≤i))) jrk (fun _ _ _=>rfl) jfT
theorem joH {α:Type} [DecidableEq α] {f:α→V} (hf: ∀a b,f a=f b→a=b) (a b:α):decide (f a=f b)=decide (a=b):=by
 by_cases h:a=b
 ·subst h;simp
 ·rw [G0P h,G0P (fun e=>h (hf a b e))]
theorem oq_eq:OpQ X (compareOp .Eq) eqD:=op_eq.imp fun x y H Q ⟨dx,dy,h,Qd,rx,ry,rh,q,p⟩=>by
 cases dx<;>cases dy<;>first
  |exact False.elim q
  |(cases (show x= .int _ from rx);cases (show y= .int _ from ry);refine⟨rfl,p _ _ _ _ (.refl H) rh ?_ q⟩;rw [joH (f:=V.int) (fun a b e=>by cases e;rfl)];rfl)
  |(cases (show x= .bl _ from rx);cases (show y= .bl _ from ry);refine⟨rfl,p _ _ _ _ (.refl H) rh ?_ q⟩;rw [joH (f:=V.bl) (fun a b e=>by cases e;rfl)];rfl)
  |(cases (show x= .str _ from rx);cases (show y= .str _ from ry);refine⟨rfl,p _ _ _ _ (.refl H) rh ?_ q⟩;rw [joH (f:=V.str) (fun a b e=>by cases e;rfl)];rfl)
theorem oq_ne:OpQ X (compareOp .NotEq) neD:=op_ne.imp fun x y H Q ⟨dx,dy,h,Qd,rx,ry,rh,q,p⟩=>by
 cases dx<;>cases dy<;>first
  |exact False.elim q
  |(cases (show x= .int _ from rx);cases (show y= .int _ from ry);refine⟨rfl,p _ _ _ _ (.refl H) rh ?_ q⟩;rw [joH (f:=V.int) (fun a b e=>by cases e;rfl)];rfl)
  |(cases (show x= .bl _ from rx);cases (show y= .bl _ from ry);refine⟨rfl,p _ _ _ _ (.refl H) rh ?_ q⟩;rw [joH (f:=V.bl) (fun a b e=>by cases e;rfl)];rfl)
  |(cases (show x= .str _ from rx);cases (show y= .str _ from ry);refine⟨rfl,p _ _ _ _ (.refl H) rh ?_ q⟩;rw [joH (f:=V.str) (fun a b e=>by cases e;rfl)];rfl)
def jpW (K:PySem.W.Frag):R2:=fun x y H Q=> ∃a b xs ys,x= .ref a∧y= .ref b∧SqT K H a xs∧SqT K H b ys∧xs= []∧Q (.ref b) H
theorem op_catT0:OpR X (binaryOp .Add) (jpW X.K):=by
 intro pins s σ H x y v u Q I rx ry h
 obtain⟨a,b,xs,ys,rfl,rfl,ha,hb,hx,q⟩:=h
 cases rx
 cases ry
 obtain⟨its,r1,p1,_⟩:=I.tuple ha
 obtain⟨its2,r2,p2,_⟩:=I.tuple hb
 have hv:its= []:=r1.nil_iff.mpr hx
 obtain⟨⟨cls,dd,data,sl⟩,ho,hc,n,hd⟩:=id p1
 obtain⟨⟨cls2,dd2,data2,sl2⟩,ho2,hc2,n2,hd2⟩:=id p2
 simp only at hc hd hc2 hd2
 subst hc hd hc2 hd2
 exact concat_meets ⟨_,ho,rfl⟩ ⟨_,ho2,rfl⟩ G4m seq_tuple_add G3p G3j (G27 _ _)
  (tuple_addW0 a b its.toArray its2.toArray n n2 dd dd2 sl sl2 (by simp [hv])) ⟨ho,ho2,.ref b,H,I,rfl,q⟩
theorem ja3:OpQ X (binaryOp .Add) jfP:=(op_add.or (op_catT.or (op_catT0.or jpp))).imp fun x y H Q ⟨dx,dy,h,Qd,rx,ry,rh,q,p⟩=>by
 cases dx<;>cases dy<;>first
  |exact False.elim q
  |skip
 ·exact .inl ⟨_,_,rx,ry,p (.int _) _ _ _ (.refl H) rh rfl q⟩
 ·rename_i ds es
  obtain⟨a,vs,e1,h1,r1⟩:=(show ∃a vs,x= .ref a∧H a=some (.tup vs)∧RelDs X.K H ds vs from rx)
  obtain⟨b,us,e2,h2,r2⟩:=(show ∃a vs,y= .ref a∧H a=some (.tup vs)∧RelDs X.K H es vs from ry)
  subst e1 e2
  obtain⟨hz,q⟩:=q
  by_cases hv:vs= []
  ·subst hv
   have e:ds= []:=G2J.mp r1.length
   subst e
   exact .inr (.inr (.inl ⟨a,b,[],us,rfl,rfl,SqT.of h1,SqT.of h2,rfl,p (.tup es) _ _ _ (.refl H) rh ⟨b,us,rfl,h2,r2⟩ q⟩))
  ·refine .inr (.inl ⟨a,b,vs,us,rfl,rfl,SqT.of h1,SqT.of h2,hv,by rw [←r1.length,←r2.length];exact hz,fun e=> ?_,fun _ c hc=> ?_⟩)
   ·subst e
    have e:es= []:=G2J.mp r2.length
    subst e
    rw [G1s] at q
    exact p (.tup ds) _ _ _ (.refl H) rh ⟨a,vs,rfl,h1,r1⟩ q
   ·exact p (.tup (ds++es)) _ _ _ (.new hc) (rh.new hc) ⟨c,vs++us,rfl,jam,(r1.append r2).mono (.new hc)⟩ q
 ·rename_i a b
  obtain⟨xs,ys,h1,h2,hz,q⟩:=q
  obtain⟨vs,e1,r1⟩:=rh a xs h1
  obtain⟨us,e2,r2⟩:=rh b ys h2
  refine .inr (.inr (.inr ⟨a,b,vs,us,rx.1,ry.1,e1,e2,by rw [←r1.length,←r2.length];exact hz,fun c hc=> ?_⟩))
  exact p (.lst c) _ _ _ (.new hc) (rh.newL hc (r1.append r2)) ⟨rfl,_,jam⟩ (q c (rh.free hc))
theorem RelDs.flat {K:PySem.W.Frag} {H:Hp} {ds:List D} {vs:List V} (r:RelDs K H ds vs): ∀k:Nat,RelDs K H (List.replicate k ds).flatten (List.replicate k vs).flatten
 |0=>by simp;exact .nil
 |k+1=>by rw [G16,G16,G2D,G2D];exact r.append (RelDs.flat r k)
theorem oq_mul:OpQ X (binaryOp .Mult) jfk:=(op_mul.or jpq).imp fun x y H Q ⟨dx,dy,h,Qd,rx,ry,rh,q,p⟩=>by
 cases dx<;>cases dy<;>first
  |exact False.elim q
  |skip
 ·exact .inl ⟨_,_,rx,ry,q.1,p (.int _) _ _ _ (.refl H) rh rfl q.2⟩
 ·obtain⟨xs,h1,b1,b2,hz,q⟩:=q
  obtain⟨vs,e1,r1⟩:=rh _ xs h1
  refine .inr ⟨_,_,vs,rx.1,ry,e1,b1,b2,by rw [←r1.length];exact hz,fun c hc=> ?_⟩
  exact p (.lst c) _ _ _ (.new hc) (rh.newL hc (r1.flat _)) ⟨rfl,_,jam⟩ (q c (rh.free hc))
end
def ixD:RD2:=fun x y h Q=>match x,y with
 | .tup ds,.int i=> ∃d,atI ds i=some d∧Q d h
 | .lst a,.int i=> ∃ds d,h a=some ds∧atI ds i=some d∧Q d h
 | .scr ns,.int i=> ∃n,atI ns i=some n∧Q (.int n) h
 |_,_=>False
theorem jjN {K:PySem.W.Frag} {H:Hp} {ds:List D} {vs:List V} (r:RelDs K H ds vs) {i:Int} {d:D} (e:atI ds i=some d): ∃v,atI vs i=some v∧RelD K H d v:=by
 unfold atI at e ⊢
 rw [←r.length]
 cases q:ixN ds.length i with
 |none=>rw [q] at e;cases e
 |some j=>rw [q] at e;exact r.get e
theorem jns {α β:Type} (f:α→β) {xs:List α} {i:Int} {x:α} (e:atI xs i=some x):atI (xs.map f) i=some (f x):=by
 unfold atI at e ⊢
 rw [G0a]
 cases q:ixN xs.length i with
 |none=>rw [q] at e;cases e
 |some j=>
  rw [q] at e
  show (xs.map f)[j]? =_
  rw [G0o,(show xs[j]? =some x from e)];rfl
section
variable {X:Cx} {a b e:Expr} {ta tb te:TED} {pos p2:Pos}
theorem jrH: ∀σ H Q,LE X.K (dOp ixD ta tb) σ H Q→tOp (rIx X.K) (LE X.K ta) (LE X.K tb) σ H Q:=fun σ H Q ⟨σd,h,Qd,rs,rh,t,p⟩=>
 LE.bind rs rh t fun dx x h1 H1 k1 rs1 rh1 r1 t1=>LE.bind rs1 rh1 t1 fun dy y h2 H2 k2 rs2 rh2 ry q=>by
  have rx:=r1.mono k2
  have kk:=k1.trans k2
  cases dx<;>cases dy<;>first
   |exact False.elim q
   |skip
  ·rename_i ds i
   obtain⟨d,e,q⟩:=q
   obtain⟨a,vs,e1,hH,r⟩:=(show ∃a vs,x= .ref a∧H2 a=some (.tup vs)∧RelDs X.K H2 ds vs from rx)
   obtain⟨v,e2,rv⟩:=jjN r e
   exact .inr (.inl ⟨a,vs,i,v,e1,ry,SqT.of hH,e2,p _ _ _ _ kk rh2 rv q⟩)
  ·rename_i a i
   obtain⟨ds,d,hd,e,q⟩:=q
   obtain⟨vs,hH,r⟩:=rh2 a ds hd
   obtain⟨v,e2,rv⟩:=jjN r e
   exact .inl ⟨a,vs,i,v,rx.1,ry,SqL.of hH,e2,p _ _ _ _ kk rh2 rv q⟩
  ·rename_i ns i
   obtain⟨n,e,q⟩:=q
   obtain⟨a,e1,hS⟩:=(show ∃a,x= .ref a∧Scr X.K H2 a ns from rx)
   exact .inl ⟨a,_,i,.int n,e1,ry,hS.sq,jns V.int e,p (.int n) _ _ _ kk rh2 rfl q⟩
theorem qix (ha:QE X a ta) (hb:QE X b tb) (hs:jhr b):QE X (.Subscript a b pos) (dOp ixD ta tb):=(jro jpn ha hb hs).imp jrH
end
def jfl:RDn:=fun ds h Q=>match ds with
 | [.tup xs]=>Q (.int xs.length) h
 | [.lst a]=> ∃xs,h a=some xs∧Q (.int xs.length) h
 | [.scr ns]=>Q (.int ns.length) h
 |_=>False
def jfm:RDn:=fun ds h Q=>match ds with
 | [.int i]=>Q (.int i) h
 | [.bl k]=>Q (.int (if k then 1 else 0)) h
 |_=>False
def jfn:RDn:=fun ds h Q=>match ds with
 | [.int i,.int j]=>Q (.int (if j>i then j else i)) h
 |_=>False
def jaS:RDn:=fun ds h Q=>match ds with
 | [.int i,.int j]=>jrg i j∧Q (.tup [.int (i / j),.int (i%j)]) h
 |_=>False
def jba:RDn:=fun ds h Q=>match ds with
 | [.tup xs]=>Q (.tup xs) h
 | [.lst a]=> ∃xs,h a=some xs∧Q (.tup xs) h
 |_=>False
def jaN:RDn:=fun ds h Q=>match ds with
 | [.lst a]=> ∃xs,h a=some xs∧Q (.tup xs) (jeu h a)
 |_=>False
def jcD:RDn:=fun ds h Q=>match ds with
 | [.tup xs]=> ∀p,h p=none→Q (.lst p) (jbi h p xs)
 | [.lst a]=> ∃xs,h a=some xs∧ ∀p,h p=none→Q (.lst p) (jbi h p xs)
 |_=>False
section
variable {X:Cx}
theorem jbC:jc7 X (.builtin "len") jfl:=call_len_seq.imp fun xs H Q ⟨ds,h,Qd,r,rh,q,p⟩=>by
 unfold jfl at q
 split at q
 ·rename_i es
  obtain⟨v,e,r1⟩:=jay r
  obtain⟨a,vs,e1,hH,r2⟩:=(show ∃a vs,v= .ref a∧H a=some (.tup vs)∧RelDs X.K H es vs from r1)
  subst e e1
  exact⟨a,vs,rfl,.inr (SqT.of hH),by rw [←r2.length];exact p (.int _) _ _ _ (.refl H) rh rfl q⟩
 ·rename_i a
  obtain⟨es,hd,q⟩:=q
  obtain⟨v,e,r1⟩:=jay r
  obtain⟨vs,hH,r2⟩:=rh a es hd
  have e1:v= .ref a:=r1.1
  subst e e1
  exact⟨a,vs,rfl,.inl (SqL.of hH),by rw [←r2.length];exact p (.int _) _ _ _ (.refl H) rh rfl q⟩
 ·rename_i ns
  obtain⟨v,e,r1⟩:=jay r
  obtain⟨a,e1,hS⟩:=(show ∃a,v= .ref a∧Scr X.K H a ns from r1)
  subst e e1
  exact⟨a,_,rfl,.inl hS.sq,by rw [G0a];exact p (.int _) _ _ _ (.refl H) rh rfl q⟩
 ·exact q.elim
theorem jmo:jc7 X (.type "int") jfm:=call_int1.imp fun xs H Q ⟨ds,h,Qd,r,rh,q,p⟩=>by
 unfold jfm at q
 split at q
 ·rename_i i
  obtain⟨v,e,r1⟩:=jay r
  cases (show v= .int i from r1)
  exact .inl ⟨i,e,p (.int i) _ _ _ (.refl H) rh rfl q⟩
 ·rename_i k
  obtain⟨v,e,r1⟩:=jay r
  cases (show v= .bl k from r1)
  exact .inr ⟨k,e,p (.int _) _ _ _ (.refl H) rh rfl q⟩
 ·exact q.elim
theorem jpX (hc:X.calm=true):jc7 X (.builtin "max") jfn:=(jjv hc).imp fun xs H Q ⟨ds,h,Qd,r,rh,q,p⟩=>by
 unfold jfn at q
 split at q
 ·rename_i i j
  obtain⟨v,w,e,r1,r2⟩:=jcI r
  cases (show v= .int i from r1)
  cases (show w= .int j from r2)
  exact⟨i,j,e,p (.int _) _ _ _ (.refl H) rh rfl q⟩
 ·exact q.elim
theorem cq_tuple:jc7 X (.type "tuple") jba:=call_tuple_of.imp fun xs H Q ⟨ds,h,Qd,r,rh,q,p⟩=>by
 unfold jba at q
 split at q
 ·rename_i es
  obtain⟨v,e,r1⟩:=jay r
  obtain⟨a,vs,e1,hH,r2⟩:=(show ∃a vs,v= .ref a∧H a=some (.tup vs)∧RelDs X.K H es vs from r1)
  subst e e1
  exact⟨a,vs,rfl,.inr ⟨SqT.of hH,p (.tup es) _ _ _ (.refl H) rh ⟨a,vs,rfl,hH,r2⟩ q⟩⟩
 ·rename_i a
  obtain⟨es,hd,q⟩:=q
  obtain⟨v,e,r1⟩:=jay r
  obtain⟨vs,hH,r2⟩:=rh a es hd
  have e1:v= .ref a:=r1.1
  subst e e1
  exact⟨a,vs,rfl,.inl ⟨SqL.of hH,fun c hc=>p (.tup es) _ _ _ (.new hc) (rh.new hc) ⟨c,vs,rfl,jam,r2.mono (.new hc)⟩ q⟩⟩
 ·exact q.elim
theorem jdk:jc7 X (.type "tuple") jaN:=cq_tuple.imp fun xs H Q ⟨ds,h,Qd,r,rh,q,p⟩=>by
 unfold jaN at q
 split at q
 ·rename_i a
  obtain⟨es,hd,q⟩:=q
  exact⟨[.lst a],h,fun d h' =>Qd d (jeu h' a),r,rh,⟨es,hd,q⟩,fun d v h' H' k rh' rd q' =>p d v _ H' k (rh'.sub (Sub.drop h' a)) rd q'⟩
 ·exact q.elim
end
def jgG:D→Option String
 | .non=>some "NoneType" | .bl _=>some "bool" | .int _=>some "int" | .str _=>some "str" | .tup _=>some "tuple" | .lst _=>some "list" | .dic _ _=>some "dict" | .scr _=>none| .exc _=>none| .fn _=>none
def jpY (T:String) (n:String):Bool:=n==T||(T== "int" &&n== "bool")
theorem jlq {K:PySem.W.Frag} {H:Hp} {d:D} {v:V} {n:String} (r:RelD K H d v) (e:jgG d=some n):TyOf K H v (.type n):=by
 cases d with
 |non=>cases (show v= .non from r);cases e;exact .non
 |bl b=>cases (show v= .bl b from r);cases e;exact .bl b
 |int i=>cases (show v= .int i from r);cases e;exact .int i
 |str x=>cases (show v= .str x from r);cases e;exact .str x
 |tup ds=>
  obtain⟨a,vs,e1,hH,_⟩:=(show ∃a vs,v= .ref a∧H a=some (.tup vs)∧RelDs K H ds vs from r)
  subst e1;cases e;exact .tup hH
 |lst a=>
  obtain⟨e1,vs,hH⟩:=(show v= .ref a∧ ∃vs,H a=some (.lst vs) from r)
  subst e1;cases e;exact .lst hH
 |dic x i=>
  obtain⟨a,e1,hH⟩:=(show ∃a,v= .ref a∧H a=some (.dK [(Sum.inr x,V.int i)]) from r)
  subst e1;cases e;exact .dK hH
 |scr ns=>cases e
 |exc C=>cases e
 |fn a=>cases e
def jnt:List String:= ["NoneType","bool","int","str","tuple","list","dict"]
theorem jiI {d:D} {n:String} (e:jgG d=some n):n∈jnt:=by
 cases d<;>cases e<;>decide
def jrI (K:PySem.W.Frag):Prop:= ∀n∈jnt,∀T∈ ["tuple","int","bool","list","str"],PySem.W.kitOne K (.type n) (.type T)=some (jpY T n)
theorem jnu (K:PySem.W.Frag):jrI K:=by
 intro n hn T hT
 simp only [jnt,G0n,G05,G25] at hn hT
 rcases hn with rfl|rfl|rfl|rfl|rfl|rfl|rfl<;>rcases hT with rfl|rfl|rfl|rfl|rfl<;>with_unfolding_all rfl
theorem jjO {X:Cx} (T:String):CallR X (.builtin "isinstance") (fun xs H Q=> ∃x t b,xs= [x,.ty T]∧TyOf X.K H x t∧PySem.W.kitOne X.K t (.type T)=some b∧Q (.bl b) H):=by
 intro pins s σ H xs us Q I r h
 obtain⟨x,t,b,rfl,ty,e,q⟩:=h
 obtain⟨u,w',rfl,rx,rt⟩:=jju r
 cases (show w' =Value.type T from rt)
 exact jjx I rx ty e fun tk=>⟨.bl b,H,I.tok tk,rfl,q⟩
def dIs (T:String) (ta:TED):TED:=fun σ h Q=>ta σ h fun x h1=> ∃n,jgG x=some n∧Q (.bl (jpY T n)) h1
theorem jrJ {X:Cx} {a:Expr} {ta:TED} {T:String} {t:Str} {p p2 pos:Pos} (hT:T∈ ["tuple","int","bool","list","str"]) (hg:Gl X "isinstance") (hm:X.mg "isinstance" =none) (hg2:Gl X t) (hm2:X.mg t=none) (hv:bootBuiltins t=some (.type T)) (ha:QE X a ta)
 (hn:t≠ "__name__" :=by decide) (hd:(t==("__debug__" :Str))=false:=by decide)
 (h1:starEach [a,.Name t p2] X.env=(false,eval a X.env)::starEach [.Name t p2] X.env:=by rfl) (h2:(backTo pos (starEach [.Name t p2] X.env)).any (·.1)=false:=by rfl):
 QE X (.Call (.Name "isinstance" p) [a,.Name t p2] [] pos) (dIs T ta):=
 (jcU (jjO T) hg hm G2Q (jbm ha (jbm (jjm (v:= .ty T) hg2 hm2 hv rfl hn hd) pa_nil (by rfl)) h1) (by decide) (by decide) h1 h2).imp
  fun σ H Q ⟨σd,h,Qd,rs,rh,t,p⟩=>LE.bind rs rh t fun d v h1 H1 k1 rs1 rh1 r1 ⟨n,e,q⟩=>⟨v,.type n,jpY T n,rfl,jlq r1 e,jnu _ n (jiI e) T hT,p (.bl _) _ _ _ k1 rh1 rfl q⟩
theorem jjP (bs:List Bool):(List.range bs.length).all (fun i=>bs.getD i false)=bs.all id:=by
 induction bs with
 |nil=>rfl
 |cons b bs ih=>
  rw [G0h,List.range_succ_eq_map,List.all_cons,G2W,List.all_cons]
  show (b&&_)=(b&&bs.all id)
  rw [←ih]
  rfl
theorem jjQ {bs:List Bool} {its:List Value} (r:Vals (bs.map V.bl) its) {i:Nat} {v:Value} (e:its[i]? =some v):v= .bool (bs.getD i false):=by
 have hl:=r.length
 rw [G0a] at hl
 have hi:i<its.length:=(G0k.mp e).1
 have hb:(bs.map V.bl)[i]? =some (.bl bs[i]):=by rw [G0o,G0c (by omega)];rfl
 obtain⟨u,e1,r1⟩:=r.get hb
 rw [e] at e1;cases e1
 rw [G0M,G0c (by omega)]
 exact r1
section
variable {X:Cx}
theorem jfU (hc:X.calm=true):CallR X (.builtin "all") (fun xs H Q=> ∃ (a:Addr) (bs:List Bool),xs= [.ref a]∧SqL X.K H a (bs.map V.bl)∧Q (.bl (bs.all id)) H):=by
 intro pins s σ H xs us Q I r h
 obtain⟨a,bs,rfl,hS,q⟩:=h
 obtain⟨u,rfl,ru⟩:=jdg r
 cases ru
 obtain⟨its,rv,pl,hz⟩:=I.list hS
 have hl:=pl.isList
 have hlt:a<s.heap.objs.size:=by obtain⟨_,e,_⟩:=hl;exact G0l e
 refine call_all_walk (G2C hl ?_)
 refine⟨s.heap.objs.size,_,_,_,_,_,fun i=>bs.getD i false,rfl,Walks.list (A:=X.A.in1) (show X.A.in1.handled=none from I.ok.hd hc) s.heap.objs.size a (G0J hlt) its.toArray,⟨⟨_,G0x _ rfl,rfl,rfl⟩,hl.push _⟩,?_,fun h' tk hk=> ?_⟩
 ·intro i v s' Q' E' hP hQ
  have e:its[i]? =some v:=by simpa using hP
  rw [jjQ rv e]
  exact G1O hQ
 ·have hn:its.toArray.size=bs.length:=by rw [G0w,←rv.length,G0a]
  rw [hn,jjP]
  exact⟨.bl _,H,I.kept (t' :=tk) (fun b o e=>hk b o (fun z=>by rw [G0g.mp z] at e;exact absurd (G0l e) (G0W _)) (G0b _ e)),rfl,q⟩
theorem jex {K:PySem.W.Frag} {H:Hp}: ∀ {bs:List Bool} {vs:List V},RelDs K H (bs.map D.bl) vs→vs=bs.map V.bl
 | [],_,h=>h
 |b::bs,vs,h=>by
  obtain⟨v,r,e,h1,h2⟩:=(show ∃v r,vs=v::r∧RelD K H (.bl b) v∧RelDs K H (bs.map D.bl) r from h)
  rw [e,jex h2,(show v= .bl b from h1)];rfl
def jsZ:RDn:=fun ds h Q=> ∃ (a:Addr) (bs:List Bool),ds= [.lst a]∧h a=some (bs.map D.bl)∧Q (.bl (bs.all id)) (jeu h a)
theorem jmp (hc:X.calm=true):jc7 X (.builtin "all") jsZ:=(jfU hc).imp fun xs H Q ⟨ds,h,Qd,r,rh,⟨a,bs,e,hd,q⟩,p⟩=>by
 subst e
 obtain⟨v,e,r1⟩:=jay r
 obtain⟨vs,hH,r2⟩:=rh a _ hd
 have e1:v= .ref a:=r1.1
 rw [jex r2] at hH
 subst e e1
 exact⟨a,bs,rfl,SqL.of hH,p (.bl _) _ _ _ (.refl H) (rh.sub (Sub.drop h a)) rfl q⟩
end
def jfo (to:TED) (te:TED):TED:=fun σ h Q=>to σ h fun x h1=> ∃a,x= .lst a∧te σ h1 fun y h2=> ∃xs,h2 a=some xs∧xs.length<sizeLine∧Q .non (jbi h2 a (xs++ [y]))
section
variable {X:Cx} {o e i:Expr} {to te ti:TED} {apos cpos pos:Pos}
theorem js0 (ho:QE X o to) (he:QE X e te) (hbase:attributeBase o "append" X.env (eval o X.env)=eval o X.env:=by rfl)
 (hfew:((backTo cpos (starEach [e] X.env)).all (fun x=> !x.1)&&(backToKw cpos (keywordEach [] X.env)).all (fun x=>x.1.isSome)&&decide ([e].length+([]:List Keyword).length+(if ([]:List Keyword).isEmpty then 0 else 1)<30))=true:=by rfl)
 (hline:(apos.endLine==cpos.line)=true:=by rfl) (hs:starEach [e] X.env=(false,eval e X.env)::starEach [] X.env:=by rfl) (hplain:(backTo cpos (starEach [] X.env)).any (·.1)=false:=by rfl):
 QE X (.Call (.Attribute o "append" apos) [e] [] cpos) (jfo to te):=
 (jlk G2K PySem.F.slot_list_append PySem.F.type_list_append jjB ho (jbm he pa_nil hs) hbase hfew hline hs hplain).imp
  fun σ H Q ⟨σd,h,Qd,rs,rh,t,p⟩=>LE.bind rs rh t fun d v h1 H1 k1 rs1 rh1 r1 ⟨a,e,q⟩=>by
   subst e
   obtain⟨e1,vs,hH⟩:=(show v= .ref a∧ ∃vs,H1 a=some (.lst vs) from r1)
   subst e1
   refine⟨.inl ⟨rfl,vs,SqL.of hH⟩,?_⟩
   refine LE.bind rs1 rh1 q fun y u h2 H2 k2 rs2 rh2 r2 ⟨xs,hx,hz,q2⟩=> ?_
   obtain⟨ws,hW,r3⟩:=rh2 a xs hx
   refine⟨a,ws,u,rfl,rfl,hW,by rw [←r3.length];exact hz,p .non _ _ _ (k1.trans (k2.trans (.put hW))) (rh2.put hW (r3.append (.cons r2 .nil))) rfl q2⟩
def jcd (to ti:TED):TGD:=fun d σ h Q=>to σ h fun o h1=>ti σ h1 fun i h2=> ∃a k xs j,o= .lst a∧i= .int k∧h2 a=some xs∧ixN xs.length k=some j∧Q σ (jbi h2 a (xs.set j d))
theorem jpZ (ho:QE X o to) (hi:QE X i ti)
 (ha: ∀v,assign (.Subscript o i pos) X.env v=(do
  let ov ←holding [v] (eval o X.env)
  let iv ←holding [v,ov] (eval i X.env)
  standAt pos
  holding [v,ov,iv] (setItem ov iv v)
  release [v,ov,iv] []):=by intro _;rfl):QG X (.Subscript o i pos) (jcd to ti):=
 (jo6 ho hi jlj ha).imp fun v σ H Q ⟨d,σd,h,Qd,r,rs,rh,q,p⟩=>
  LE.bind rs rh q fun d1 v1 h1 H1 k1 rs1 rh1 r1 q1=>LE.bind rs1 rh1 q1 fun d2 v2 h2 H2 k2 rs2 rh2 r2 ⟨a,k,xs,j,e1,e2,hx,hj,q2⟩=>by
   subst e1 e2
   have e3:v1= .ref a:=(r1.mono k2).1
   obtain⟨ws,hW,r3⟩:=rh2 a xs hx
   refine⟨a,ws,k,j,e3,r2,hW,by rw [←r3.length];exact hj,p _ _ _ _ (k1.trans (k2.trans (.put hW))) (rs2.mono (.put hW)) (rh2.put hW (RelDs.set ((r.mono k1).mono k2) j r3)) q2⟩
end
def jmq (N:List Str) (sc:List (Str×NameKind)) (scope:Scope) (js:List Nat):Bool:=
 scope.kind== .function&&scope.names.all (fun p=>p.2 != .cell||scope.names.lookup p.1==some .cell)&&scope.names.all (fun p=>p.2 != .local||scope.names.lookup p.1==some .local)&&
 scope.names.all (fun p=>p.2 != .free||sc.lookup p.1==some .cell||sc.lookup p.1==some .free)&&
 (List.range N.length).all fun i=>(scope.names.lookup (N.getD i Str.empty) !=some .local&&scope.names.lookup (N.getD i Str.empty) !=some .cell)||js.contains i
theorem jao {X:Cx} {scope:Scope} {js:List Nat} (h:jmq X.N X.env.scope.names scope js=true):BlockOk X scope js:=by
 unfold jmq at h
 simp only [G0Z] at h
 obtain⟨⟨⟨⟨h1,h2⟩,h3⟩,h4⟩,h5⟩:=h
 refine⟨eq_of_beq h1,fun p hp e=> ?_,fun p hp e=> ?_,fun p hp e=> ?_,fun i x e1 e2=> ?_⟩
 ·have:=G1f.mp h3 p hp;rw [e] at this;simpa using this
 ·have:=G1f.mp h2 p hp;rw [e] at this;simpa using this
 ·have:=G1f.mp h4 p hp;rw [e] at this;simpa using this
 ·have hi:i<X.N.length:=(G0k.mp e1).1
  have:=G1f.mp h5 i (G0z.mpr hi)
  rw [G0M,e1,Option.getD_some] at this
  rcases e2 with e2|e2<;>(rw [e2] at this;simpa using this)
theorem qpt {X:Cx} {e:Expr} {t:TTD} (h:QW X e t):QT X e t:=h.pt
theorem jjR {i:Nat} {js:List Nat} {ti:TID} {te:TED} {σ:SD} {h h1:HD} {Q:KD} {ds:List D} {j:ItD} (f:D→D) (hz:ds.length≤sizeLine) (hj:j h1=some ds)
 (ht: ∀R:ItD→HD→Prop,R j h1→ti σ h R) (he: ∀d∈ds,∀Q' :KD,Q' (f d) h1→te ((jaH js σ).set i (some d)) h1 Q') (hq: ∀p,h1 p=none→Q (.lst p) (jbi h1 p (ds.map f))):jev (bN i) js ti jht te σ h Q:=by
 refine ht _ ⟨ds.length,fun k ys h' =>h' =h1∧ys=(ds.take k).map f,⟨rfl,by simp⟩,?_⟩
 rintro k ys h' ⟨rfl,rfl⟩
 refine⟨by simp only [G0a,G0B];omega,ds,hj,G0f _,fun hl p hp=> ?_,fun d hd=>⟨_,rfl,?_⟩⟩
 ·rw [G0F hl];exact hq p hp
 ·unfold jht
  dsimp only
  rw [if_pos rfl]
  refine he d (G0i hd) _ ⟨h',Sub.refl _,rfl,?_⟩
  rw [G1E,hd]
  simp
end L2
namespace HT
open PySem PySem.Spec PyProof.Rows
section
variable {prog:Program} {w:World} {A:Around} {E:Value→Shared→Prop} {s:Shared}
theorem jc8 {t sl:Addr} {items:Array Value} {vl vu:Value} {lo hi:Option Int} {Q:Value→Shared→Prop} (ht:IsTup s.heap t items) (hs:s.heap.IsSliceOf sl vl vu .none) (pl:IsPart vl lo) (pu:IsPart vu hi)
 (hw:sIx items.size 0 lo=0∧sIx items.size items.size hi=items.size) (h:Q (.ref t) s):wpAny (model prog w) A (getItem (.ref t) (.ref sl)) Q E s:=by
 obtain⟨os,hos,hcs,hds⟩:=id hs
 have hTs:s.TypeIs (.ref sl) "slice" :=⟨os,hos,hcs⟩
 unfold getItem
 try with_reducible refine G1g ?_
 first|refine wpAny_bind (G0e ?_)|skip
 refine wpAny_bind (wpAny_sequenceKey ht.typeIs (by decide) ?_)
 refine wpAny_bind (G1P (name:=Str.ofString "__getitem__") ht.typeIs G15
  (G1C G15 ht.typeIs entry_tuple_getitem ?_ (args_tuple_getitem _ _)))
 show wpAny _ _ (Builtin.Tuple.tupleItemsOf (.ref t) >>= _) _ _ s
 refine wpAny_bind (tupleItemsOf_ ht ?_)
 refine wpAny_bind (G4t hTs ?_)
 rw [if_pos (by decide)]
 refine wpAny_bind (jcx hs pl pu ?_)
 have hyes:((((sIx items.size 0 lo:Nat):Int)==0&&(1:Int)==1&&(sIx items.size items.size hi-sIx items.size 0 lo)==items.size)=true):=by
  rw [hw.1,hw.2];simp
 show wpAny _ _ (if (((sIx items.size 0 lo:Nat):Int)==0&&(1:Int)==1&&(sIx items.size items.size hi-sIx items.size 0 lo)==items.size)=true then _ else _) _ _ s
 rw [if_pos hyes]
 refine wpAny_bind (m:=Builtin.Tuple.tupleIsExact (.ref t)) ?_
 unfold Builtin.Tuple.tupleIsExact
 refine wpAny_bind (G4t ht.typeIs (G0e ?_))
 rw [if_pos (by decide)]
 exact wpAny_bind (G3L (G0e ⟨_,rfl,G0e h⟩))
end
end HT
namespace L2
open PySem PySem.Spec PyProof.Rows
def js1 (K:PySem.W.Frag):V→Option Int→Option Int→Hp→VK→Prop:=fun x lo hi H Q=> ∃a xs,x= .ref a∧SqT K H a xs∧(HT.sIx xs.length 0 lo=0∧HT.sIx xs.length xs.length hi=xs.length)∧Q (.ref a) H
theorem sl_whole {X:Cx}:SlR X (js1 X.K):=by
 intro pins s σ H x v vl vu lo hi sl Q I rx hs pl pu h
 obtain⟨a,xs,rfl,hx,hw,q⟩:=h
 cases rx
 obtain⟨its,r,ht,hz⟩:=I.tuple hx
 have hlen:its.toArray.size=xs.length:=by rw [G0w];exact r.length.symm
 refine⟨"tuple",_,PyProof.Rows.slot_tuple_getitem.lookup,ht.typeIs,?_⟩
 exact HT.jc8 ht hs pl pu (by rw [hlen];exact hw) ⟨.ref a,H,I,rfl,q⟩
def jiJ {α:Type} (xs:List α) (lo hi:Option Int):List α:=(xs.drop (HT.sIx xs.length 0 lo)).take (HT.sIx xs.length xs.length hi-HT.sIx xs.length 0 lo)
abbrev TOD:=SD→HD→(Option Int→HD→Prop)→Prop
def jaT:TOD:=fun _ h Q=>Q none h
def jce (t:TED):TOD:=fun σ h Q=>t σ h fun x h1=> ∃i,x= .int i∧Q (some i) h1
def LO (K:PySem.W.Frag) (t:TOD):TO:=fun σ H Q=> ∃σd h Qd,RelS K H σd σ∧RelH K h H∧t σd h Qd∧ ∀o h' H',Kept H H' →RelH K h' H' →Qd o h' →Q o H'
theorem LO.bind {K:PySem.W.Frag} {ta:TOD} {σ:St} {H:Hp} {σd:SD} {h:HD} {kd:Option Int→HD→Prop} {k:Option Int→Hp→Prop} (rs:RelS K H σd σ) (rh:RelH K h H) (t:ta σd h kd) (f: ∀o h' H',Kept H H' →RelS K H' σd σ→RelH K h' H' →kd o h' →k o H'):LO K ta σ H k:=
 ⟨σd,h,kd,rs,rh,t,fun o h' H' kp r1 q=>f o h' H' kp (rs.mono kp) r1 q⟩
theorem PO.imp {X:Cx} {e:Option Expr} {t t' :TO} (h:PO X e t) (i: ∀σ H Q,t' σ H Q→t σ H Q):PO X e t' :=fun pins s σ H Q I q=>h pins s σ H Q I (i σ H Q q)
abbrev QO (X:Cx) (e:Option Expr) (t:TOD):Prop:=PO X e (LO X.K t)
theorem jnv {X:Cx} {e:Expr} {te:TED} (he:QE X e te):QO X (some e) (jce te):=(jm3 he).imp fun σ H Q ⟨σd,h,Qd,rs,rh,q,p⟩=>
 LE.bind rs rh q fun d v h1 H1 k1 rs1 rh1 r1 ⟨i,e,q1⟩=>by subst e;exact⟨i,r1,p _ _ _ k1 rh1 q1⟩
def slD:D→Option Int→Option Int→HD→KD→Prop:=fun x lo hi h Q=>match x with
 | .tup ds=>Q (.tup (jiJ ds lo hi)) h
 | .scr ns=> ∀p,h p=none→Q (.lst p) (jbi h p ((jiJ ns lo hi).map D.int))
 | .lst a=> ∃ds,h a=some ds∧ ∀p,h p=none→Q (.lst p) (jbi h p (jiJ ds lo hi))
 |_=>False
def dSl (te:TED) (tl th:TOD):TED:=fun σ h Q=>te σ h fun x h1=>tl σ h1 fun l h2=>th σ h2 fun u h3=>slD x l u h3 Q
theorem jfV {K:PySem.W.Frag} {H:Hp} {ds:List D} {vs:List V} (r:RelDs K H ds vs) (lo hi:Option Int):RelDs K H (jiJ ds lo hi) (jk4 vs lo hi):=by
 unfold jiJ jk4
 rw [r.length]
 exact(r.drop _).take _
theorem jnw {α β:Type} (f:α→β) (xs:List α) (lo hi:Option Int):jiJ (xs.map f) lo hi=(jiJ xs lo hi).map f:=by
 unfold jiJ
 rw [G0a,G4I,G4J]
theorem jp0 {X:Cx} {e:Expr} {te:TED} {lo hi:Option Expr} {tl th:TOD} {pos p2:Pos} (he:QE X e te) (hl:QO X lo tl) (hu:QO X hi th):QE X (.Subscript e (.Slice lo hi none p2) pos) (dSl te tl th):=
 (jli (sl_tup.or (sl_whole.or jm4)) he hl hu).imp fun σ H Q ⟨σd,h,Qd,rs,rh,q,p⟩=>
  LE.bind rs rh q fun d v h1 H1 k1 rs1 rh1 r1 q1=>LO.bind rs1 rh1 q1 fun l h2 H2 k2 rs2 rh2 q2=>LO.bind rs2 rh2 q2 fun u h3 H3 k3 rs3 rh3 q3=>by
   have rv:=(r1.mono k2).mono k3
   have kk:=k1.trans (k2.trans k3)
   cases d<;>first
    |exact False.elim q3
    |skip
   ·rename_i ds
    obtain⟨a,vs,e1,hH,r⟩:=(show ∃a vs,v= .ref a∧H3 a=some (.tup vs)∧RelDs X.K H3 ds vs from rv)
    by_cases hw:HT.sIx vs.length 0 l=0∧HT.sIx vs.length vs.length u=vs.length
    ·refine .inr (.inl ⟨a,vs,e1,SqT.of hH,hw,p (.tup (jiJ ds l u)) _ _ _ kk rh3 ⟨a,vs,rfl,hH,?_⟩ q3⟩)
     have z:=jfV r l u
     have e:jk4 vs l u=vs:=by unfold jk4;rw [hw.1,hw.2];simp
     rwa [e] at z
    ·exact .inl ⟨a,vs,e1,SqT.of hH,hw,fun c hc=>p (.tup (jiJ ds l u)) _ _ _ (kk.trans (.new hc)) (rh3.new hc) ⟨c,_,rfl,jam,(jfV r l u).mono (.new hc)⟩ q3⟩
   ·rename_i a
    obtain⟨ds,hd,q3⟩:=q3
    obtain⟨vs,hH,r⟩:=rh3 a ds hd
    exact .inr (.inr ⟨a,vs,rv.1,SqL.of hH,fun c hc=>p (.lst c) _ _ _ (kk.trans (.new hc)) (rh3.newL hc (jfV r l u)) ⟨rfl,_,jam⟩ (q3 c (rh3.free hc))⟩)
   ·rename_i ns
    obtain⟨a,e1,hS⟩:=(show ∃a,v= .ref a∧Scr X.K H3 a ns from rv)
    refine .inr (.inr ⟨a,_,e1,hS.sq,fun c hc=>p (.lst c) _ _ _ (kk.trans (.new hc)) (rh3.newL hc ?_) ⟨rfl,_,jam⟩ (q3 c (rh3.free hc))⟩)
    have z:=jfV (jcc (K:=X.K) (H:=H3) ns) l u
    rwa [jnw] at z
end L2
namespace HT
open PySem PySem.Spec PyProof.Rows
open Sem (wp)
open Builtin
theorem jd2:fillsNumberSlot (.type "tuple") "mul" =pure false:=
 PySem.fillsNumberSlot_seq (id:= "tuple.__mul__") (r:=some (.builtin "tuple.__rmul__")) F.slot_tuple_mul.lookup (by decide +kernel) F.slot_tuple_rmul.lookup (by decide +kernel)
theorem jgH:seqRepeat? (.type "tuple")=pure (some (.builtin "tuple.__mul__")):=by
 unfold seqRepeat?
 rw [PySem.seqSlot_of (T:= "tuple") (name:= "__mul__") (id:= "tuple.__mul__") F.slot_tuple_mul.lookup (by decide +kernel),PySem.seqSlot_of (T:= "tuple") (name:= "__rmul__") (id:= "tuple.__rmul__") F.slot_tuple_rmul.lookup (by decide +kernel)]
 rfl
section
variable {prog:Program} {w:World} {A:Around} {E:Value→Shared→Prop} {s:Shared}
theorem jfW {k:Int} {t:Tok} {l:Addr} {o:Obj} {its:Array Value} {n:Nat} {P:PySem.Fin→Shared→Prop} (at_:s.heap.get? l=some o) (tup:o.cls= .type "tuple") (dat:o.data= .seq its n) (h:P (.done (.ret .notImplemented)) s):wpAny (model prog w) A (Builtin.«int.__rmul__» ⟨[.int k t,.ref l],[]⟩) P E s:=by
 obtain⟨c,dd,dt,sl⟩:=o
 cases tup;cases dat
 obtain⟨hp,g,d,tk,os⟩:=s
 wp_walk
 exact h
theorem jhv {l:Addr} {its:Array Value} {n:Nat} {x:Int} {u:Tok} {dd:Option Addr} {sl:Array (Option Value)} {P:PySem.Fin→Shared→Prop} (at_:s.heap.get? l=some {cls:= .type "tuple",dict:=dd,data:= .seq its n,slots:=sl}) (fits: -(2^63)≤x∧x<2^63)
 (same:(its.isEmpty||x==1)=true→P (.done (.ret (.ref l))) s)
 (gone:(its.isEmpty||x==1)=false→(decide (x≤0)||its.isEmpty)=true→P (.done (.ret (.ref s.heap.objs.size))) {s with heap:=s.heap.push {cls:= .type "tuple",data:= .seq #[]}})
 (more:(its.isEmpty||x==1)=false→(decide (x≤0)||its.isEmpty)=false→ ¬ (its.size:Int)*x>(2^63-1) / 8∧Builtin.Tuple.tupleTooMany ((its.size:Int)*x)=false∧((List.replicate x.toNat its).foldl (· ++ ·) #[]).size≤sizeLine∧
  P (.done (.ret (.ref s.heap.objs.size))) {s with heap:=s.heap.push {cls:= .type "tuple",data:= .seq ((List.replicate x.toNat its).foldl (· ++ ·) #[])}}):
 wpAny (model prog w) A (Builtin.«tuple.__mul__» ⟨[.ref l,.int x u],[]⟩) P E s:=by
 obtain⟨hp,g,d,tk,os⟩:=s
 wp_walk
 rw [if_neg (by simp only [G2F,G17];omega)]
 wp_walk
 cases c1:(its.isEmpty||x==1) with
 |true=>
  rw [if_pos rfl]
  wp_walk
  exact same c1
 |false=>
  rw [if_neg G0q]
  cases c2:(decide (x≤0)||its.isEmpty) with
  |true=>
   rw [if_pos rfl]
   wp_walk
   exact gone c1 c2
  |false=>
   obtain⟨m1,m2,m3,m4⟩:=more c1 c2
   rw [if_neg G0q]
   dsimp only
   rw [if_neg m1,m2,if_neg G0q]
   wp_walk
   exact m4
end
end HT
namespace L2
open PySem PySem.Spec PyProof.Rows
def jrK (K:PySem.W.Frag):R2:=fun x y H Q=> ∃ (a:Addr) (k:Int) (xs:List V),x= .ref a∧y= .int k∧SqT K H a xs∧ -(2^63)≤k∧k<2^63∧xs.length*k.toNat≤sizeLine∧
 ((xs= []∨k=1)→Q (.ref a) H)∧(¬ (xs= []∨k=1)→ ∀p,H p=none→Q (.ref p) (upd H p (.tup (List.replicate k.toNat xs).flatten)))
theorem jd7 {l:List Value}:l.toArray= #[]↔l= []:=by cases l<;>simp
theorem jnx {X:Cx}:OpR X (binaryOp .Mult) (jrK X.K):=by
 intro pins s σ H x y v u Q I rx ry h
 obtain⟨a,k,xs,rfl,rfl,hH,h1,h2,hz,q1,q2⟩:=h
 cases rx
 obtain⟨t,rfl⟩:=ry
 obtain⟨its,r,ht,_⟩:=I.tuple hH
 obtain⟨⟨cls,dd,data,sl⟩,ho,hc,n,hd⟩:=id ht
 simp only at hc hd
 subst hc hd
 have hl:=r.length
 have hnew:(List.replicate k.toNat its.toArray).foldl (· ++ ·) #[]=(List.replicate k.toNat its).flatten.toArray:=by
  have:=jem its k.toNat []
  rw [G0Q] at this
  exact this
 have few:its.length*k.toNat≤sizeLine:=by rw [←hl];exact hz
 have free:=I.hok.fresh (G0f _)
 refine wpAny_binaryOp_repeat_ref (T:= "tuple") (U:= "int") (by decide) ⟨_,ho,rfl⟩ (fun s' =>G4A s' k t) HT.jd2 F.fills_int_mul G3Q HT.jgH F.slot_int_index.lookup
  (G1C G3Q (G4A s k t) F.entry_int_rmul (HT.jfW ho rfl rfl ⟨_,rfl,rfl,⟨_,ho,rfl⟩,G1C F.slot_tuple_mul ⟨_,ho,rfl⟩ F.entry_tuple_mul (HT.jhv ho ⟨h1,h2⟩ (fun c=> ?_) (fun c c0=> ?_) (fun c c0=> ?_)) (F.args_tuple_mul_2 _ _)⟩) (F.args_int_rmul_2 _ _))
 ·refine⟨_,rfl,.ref a,H,I,rfl,q1 ?_⟩
  simp only [G2F,G28,Array.isEmpty_iff,jd7] at c
  exact c.imp (fun e=>r.nil_iff.mp e) id
 ·simp only [Bool.or_eq_false_iff,G3N,G3V,ne_eq,jd7] at c
  have k0:k.toNat=0:=by
   simp only [G2F,G17,Array.isEmpty_iff,jd7] at c0
   have:=c0.resolve_right c.1;omega
  have last:=q2 (fun z=>z.elim (fun e=>c.1 (r.nil_iff.mpr e)) c.2) _ free
  rw [k0] at last
  exact⟨_,rfl,.ref s.heap.objs.size,_,I.laid (t' :=s.toks) (o:= .tup []) (fun b ob q=>G0b _ q) (G0f _) ⟨by decide,[],.nil,IsTupN.new _ _⟩,rfl,last⟩
 ·simp only [Bool.or_eq_false_iff,G3N,G3V,ne_eq,jd7,G3l] at c c0
  have em:((its.toArray.size:Nat):Int)*k=((its.length*k.toNat:Nat):Int):=by rw [Int.natCast_mul,G0w,show ((k.toNat:Nat):Int)=k by omega]
  have cap:(sizeLine:Nat)≤(2^63-1) / 8:=by decide
  rw [em,hnew]
  refine⟨by omega,by unfold Builtin.Tuple.tupleTooMany;exact decide_eq_false (by omega),by rw [List.size_toArray,jhs,Nat.mul_comm];exact few,_,rfl,.ref s.heap.objs.size,_,I.laid (t' :=s.toks) (o:= .tup (List.replicate k.toNat xs).flatten) (fun b ob q=>Heap.get?_push_of_some _ q) (Nat.le_refl _) ⟨by rw [jhs,Nat.mul_comm];exact hz,_,r.rep k.toNat,IsTupN.new _ _⟩,rfl,q2 (fun z=>z.elim (fun e=>c.1 (r.nil_iff.mpr e)) c.2) _ free⟩
def jfp:RD2:=fun x y h Q=>match x,y with
 | .tup ds,.int k=> -(2^63)≤k∧k<2^63∧ds.length*k.toNat≤sizeLine∧Q (.tup (List.replicate k.toNat ds).flatten) h
 |x,y=>jfk x y h Q
theorem jfX {X:Cx}:OpQ X (binaryOp .Mult) jfp:=(oq_mul.or jnx).imp fun x y H Q ⟨dx,dy,h,Qd,rx,ry,rh,q,p⟩=>by
 by_cases ht: ∃ds k,dx= .tup ds∧dy= .int k
 ·obtain⟨ds,k,e1,e2⟩:=ht
  subst e1 e2
  obtain⟨b1,b2,hz,q⟩:=q
  obtain⟨a,vs,e,hH,r⟩:=(show ∃a vs,x= .ref a∧H a=some (.tup vs)∧RelDs X.K H ds vs from rx)
  refine .inr ⟨a,k,vs,e,ry,SqT.of hH,b1,b2,by rw [←r.length];exact hz,fun hs=> ?_,fun _ c hc=>p (.tup _) _ _ _ (.new hc) (rh.new hc) ⟨c,_,rfl,jam,(r.flat _).mono (.new hc)⟩ q⟩
  refine p (.tup _) _ _ _ (.refl H) rh ⟨a,vs,rfl,hH,?_⟩ q
  rcases hs with e0|e1
  ·subst e0
   have:ds= []:=G2J.mp r.length
   subst this;simpa using r
  ·subst e1;simpa using r
 ·refine .inl ⟨dx,dy,h,Qd,rx,ry,rh,?_,p⟩
  unfold jfp at q
  split at q
  ·exact absurd ⟨_,_,rfl,rfl⟩ ht
  ·exact q
def jfq:D→HD→KD→Prop:=fun x h Q=>match x with
 | .int i=>Q (.int (-i)) h
 |_=>False
def dUn (f:D→HD→KD→Prop) (ta:TED):TED:=fun σ h Q=>ta σ h fun x h1=>f x h1 Q
theorem js2 {X:Cx} {a:Expr} {ta:TED} {pos:Pos} (ha:QE X a ta):QE X (.UnaryOp .USub a pos) (dUn jfq ta):=
 (jrf jph ha).imp fun σ H Q ⟨σd,h,Qd,rs,rh,t,p⟩=>LE.bind rs rh t fun d v h1 H1 k1 rs1 rh1 r1 q=>by
  cases d<;>first
   |exact False.elim q
   |exact⟨_,r1,p (.int _) _ _ _ k1 rh1 rfl q⟩
def jgs (te:TED):TED:=fun σ h Q=>te σ h fun x h1=> ∃ds,x= .tup ds∧Q (.tup ds.reverse) h1
def jbp (x:Str) (i:Int):TED:=fun _ h Q=>Q (.dic x i) h
def jp1 (K:PySem.W.Frag) (tl:TE):TI:=fun σ H R=>tl σ H fun x H1=> ∃a,x= .ref a∧((∃xs,SqL K H1 a xs∧R (Itl K a) H1)∨ ∃xs,SqT K H1 a xs∧R (Itt K a) H1)
theorem jp2 {X:Cx} {tg l:Expr} {tl:TE} (hl:PE X l tl):PI X tg l (jp1 X.K tl):=by
 intro pins s σ H R I h
 refine thn (hl pins s σ H _ I h) fun v s1 ⟨x,H1,I1,r1,q1⟩=> ?_
 obtain⟨a,e,q⟩:=q1
 subst e
 cases r1
 rcases q with ⟨xs,hq,q⟩|⟨xs,hq,q⟩
 ·obtain⟨its,rv,p,hz⟩:=I1.list hq
  refine G2C p.isList ?_
  refine⟨s1.heap.objs.size,[s1.heap.objs.size],_,_,H1,rfl,I1.kept (t' :=s1.toks) fun b o e=>G0b _ e,jgx a _,⟨_,G0x _ rfl,rfl,rfl⟩,fun b hb=> ?_,q⟩
  have e:b=s1.heap.objs.size:=by simpa using hb
  subst e
  exact I1.fpOk (G0f _) (I1.hok.fresh (G0f _))
 ·obtain⟨its,rv,p,hz⟩:=I1.tuple hq
  refine G2R (show s1.heap.IsTuple a its.toArray from p) ?_
  refine⟨s1.heap.objs.size,[s1.heap.objs.size],_,_,H1,rfl,I1.kept (t' :=s1.toks) fun b o e=>G0b _ e,jiB a _,⟨_,G0x _ rfl,rfl,rfl⟩,fun b hb=> ?_,q⟩
  have e:b=s1.heap.objs.size:=by simpa using hb
  subst e
  exact I1.fpOk (G0f _) (I1.hok.fresh (G0f _))
def iS (te:TED):TID:=fun σ h R=>te σ h fun x h1=>match x with
 | .lst a=>R (fun h=>h a) h1
 | .tup ds=>R (fun _=>some ds) h1
 | .scr ns=>R (fun _=>some (ns.map D.int)) h1
 |_=>False
theorem jlr {K:PySem.W.Frag} {H:Hp} {a:Addr} {ns:List Int} (hs:Scr K H a ns):joG K H (fun _=>some (ns.map D.int)) (Itl K a):=fun H' h' k rh ds' e i=>by
 cases e
 have hs' :Scr K H' a ns:=hs.elim (fun ⟨o,z⟩=> .inl ⟨o,k.frz _ _ _ z⟩) .inr
 refine⟨fun d hd=> ?_,fun hl=>⟨_,hs'.sq,by simpa using hl⟩⟩
 obtain⟨v,e1,e2⟩:=(jcc (K:=K) (H:=H') ns).get hd
 refine⟨⟨_,v,hs'.sq,e1⟩,fun x H'' ⟨eH,hx⟩=> ?_⟩
 subst eH
 have:=hx _ hs'.sq
 rw [e1] at this;cases this
 exact⟨.refl _,rh,e2⟩
theorem jp3 {K:PySem.W.Frag} {te:TED}: ∀σ H R,LI K (iS te) σ H R→jp1 K (LE K te) σ H R:=fun σ H R ⟨σd,h,Rd,rs,rh,q,p⟩=>
 LE.bind rs rh q fun d v h1 H1 k1 rs1 rh1 r1 q1=>by
  cases d<;>first
   |exact False.elim q1
   |skip
  ·rename_i ds
   obtain⟨a,vs,e,hv,r⟩:=(show ∃a vs,v= .ref a∧H1 a=some (.tup vs)∧RelDs K H1 ds vs from r1)
   exact⟨a,e,.inr ⟨vs,SqT.of hv,p _ _ _ _ k1 rh1 (jlp hv r) q1⟩⟩
  ·rename_i a
   obtain⟨e,vs,hv⟩:=(show v= .ref a∧ ∃vs,H1 a=some (.lst vs) from r1)
   exact⟨a,e,.inl ⟨vs,SqL.of hv,p _ _ _ _ k1 rh1 (jgF H1 a) q1⟩⟩
  ·rename_i ns
   obtain⟨a,e,hS⟩:=(show ∃a,v= .ref a∧Scr K H1 a ns from r1)
   exact⟨a,e,.inl ⟨_,hS.sq,p _ _ _ _ k1 rh1 (jlr hS) q1⟩⟩
theorem jp4 {X:Cx} {tg e:Expr} {te:TED} (he:QE X e te):QI X tg e (iS te):=(jp2 he).imp jp3
def jbb:TSD:=fun _ _ _=>False
theorem jp5 {X:Cx} {st:Stmt}:QS X st jbb:=fun _ _ _ _ _ _ ⟨_,_,_,_,_,z,_⟩=>z.elim
structure Zs (mg:Str→Option Value):Prop where
 len:mg "len" =none
 max:mg "max" =none
 min:mg "min" =none
 divmod:mg "divmod" =none
 all:mg "all" =none
 any:mg "any" =none
 repr:mg "repr" =none
 sum:mg "sum" =none
 sorted:mg "sorted" =none
 int:mg "int" =none
 tuple:mg "tuple" =none
 list:mg "list" =none
 set:mg "set" =none
 bool:mg "bool" =none
 isinstance:mg "isinstance" =none
 range:mg "range" =none
 zip:mg "zip" =none
 enumerate:mg "enumerate" =none
 reversed:mg "reversed" =none
def jak (P:Program) (w:World) (K:PySem.W.Frag) (mg:Str→Option Value) (base:Heap) (n:Nat) (x:Str) (ps:List Str) (sp:RDn):Prop:=
 ∃ (g:Addr) (gd:FuncData),FnOk P w K mg base CX0 n g gd ps (LSp K sp)∧Binds K gd ps []∧PySem.W.keepIn K (.ref g)=true∧mg x=some (.ref g)
def jjS:RDn:=fun ds h Q=> ∃ns,ds= [.scr ns]∧(∀a,h a=none)∧ns.length≤63∧ ∀h',Q (.bl true) h'
def Bm (mg:Str→Option Value) (base:Heap):Prop:= ∃bm ob,mg "__builtins__" =some (.ref bm)∧bm≠builtinsNs∧base.get? bm=some ob∧ob.cls= .type "module" ∧ob.dict=some builtinsNs∧ob.data= .plain
def jbX (K:PySem.W.Frag):List (Addr×Addr):=LN.filterMap (PySem.W.tabIn K)
theorem TabK.mem {K:PySem.W.Frag} {P:Addr} (h:TabK K P): ∃c,(c,P)∈jbX K:=let ⟨x,hx,c,e⟩:=h;⟨c,G2s.mpr ⟨x,hx,e⟩⟩
theorem jjT {P:Program} {w:World} {K:PySem.W.Frag} {mg mb:Str→Option Value} {k:Nat} {fa a:Addr} {fd:FuncData} {x:Str} {s₁:Shared} {vs:List Value} {ns:List Int}
 (KX:K.In s₁.heap) (hns:s₁.heap.Ns mainGlobals mg) (hb:s₁.heap.Ns builtinsNs mb) (hbb: ∀x:Str,x≠ "__name__" →mb x=bootBuiltins x) (hlim:s₁.heap.NoLimit) (hg:s₁.gens= #[])
 (ha:s₁.heap.get? a=some {cls:= .type "list",data:= .seq vs.toArray}) (hi:IntsAre vs ns) (hl:ns.length≤63) (hr:Room k callerA)
 (hbm:Bm mg s₁.heap) (F: ∀base:Heap,K.In base→base.Ns mainGlobals mg→Bm mg base→FnOk P w K mg base CX0 k fa fd [x] (LSp K jjS)) (hbind: ∀ (s:Shared) (u:Value),BindsTo s fd ⟨[u],[]⟩ [(x,u)])
 (hT: ∀p∈jbX K,PySem.W.CodeHd s₁.heap p.1 p.2∧s₁.heap.get? p.2=some (PySem.W.tabObj #[])∧K.lookup p.2=none):
 codeAny (model P w) callerA (.call (.ref fa) ⟨[.ref a],[]⟩) (fun r s' =>r= .ok (.ret (.bool true))∧OldK s₁.heap s'.heap∧s'.os=s₁.os∧AllBare s'.gens) s₁:=by
 have rv:=jgD hi
 have lenV:=hi.length
 have hz:ns.length≤sizeLine:=G0C hl (by decide)
 have hT' : ∀b,b∈(jbX K).map (·.2)→ ∃c,PySem.W.CodeHd s₁.heap c b∧s₁.heap.get? b=some (PySem.W.tabObj #[])∧K.lookup b=none:=fun b hb=>by
  obtain⟨p,hp,rfl⟩:=G0N.mp hb
  exact⟨p.1,hT p hp⟩
 have core: ∀H:Hp,Scr K H a ns→HOk P w H s₁.heap→(∀b u,H b=some u→(b=a∧K.lookup a=none∧ ∃o xs,u= .frz o (.lst xs))∨(b∈(jbX K).map (·.2)∧u= .tbl #[]))→(∀b,b∈(jbX K).map (·.2)→H b=some (.tbl #[]))→
  codeAny (model P w) callerA (.call (.ref fa) ⟨[.ref a],[]⟩) (fun r s' =>r= .ok (.ret (.bool true))∧OldK s₁.heap s'.heap∧s'.os=s₁.os∧AllBare s'.gens) s₁:=by
  intro H hS hok hA hTt
  have noA: ∀ {b:Addr} {o:Obj} {es:Array DictEntry} {ep:Nat},s₁.heap.get? b=some o→o.data= .dict es ep→H b=none:=fun {b o es ep} e d=>by
   cases q:H b with
   |none=>rfl
   |some u=>
    rcases hA b u q with ⟨rfl,_,_⟩|⟨z,_⟩
    ·rw [ha] at e;cases e
     have d' :Data.seq vs.toArray _=Data.dict es ep:=d
     cases d'
    ·obtain⟨c,_,e2,_⟩:=hT' b z
     rw [e2] at e;cases e
     have d' :Data.fields _=Data.dict es ep:=d
     cases d'
  have nsK: ∀ {b:Addr} {m:Str→Option Value},s₁.heap.Ns b m→(jk8 s₁.heap H).Ns b m:=fun {b m} ⟨o,es,ep,e,d,r⟩=>⟨o,es,ep,jfG e (noA e d),d,r⟩
  have hKb:K.In (jk8 s₁.heap H):=fun b o e=>jfG (KX b o e) (by
   cases q:H b with
   |none=>rfl
   |some u=>
    rcases hA b u q with ⟨rfl,z,_⟩|⟨z,_⟩
    ·rw [z] at e;cases e
    ·obtain⟨c,_,_,z2⟩:=hT' b z
     rw [z2] at e;cases e)
  have hM:Mod K mg (jk8 s₁.heap H):=⟨hKb,nsK hns,⟨mb,nsK hb,hbb⟩,let ⟨mc,h1,h2⟩:=hlim;⟨mc,nsK h1,h2⟩⟩
  have e0:Env0 P w K mg (jk8 s₁.heap H) callerA [] s₁ H:=⟨rfl,hM,fun b o e=>jmO e,G4u (jjj _ _),trivial,fun b hb=>absurd (show b∈([]:List Addr) from hb) (by simp),hok,.of_eq hg⟩
  have hsp:LSp K jjS [.ref a] H (fun v _=>v= .bl true) (fun _ _ _=>False):=by
   refine⟨[.scr ns],fun _=>none,fun d _=>d= .bl true,⟨.ref a,[],rfl,⟨a,rfl,hS⟩,rfl⟩,⟨fun b ds e=>(by cases e),fun p hp=> ?_⟩,⟨ns,rfl,fun _=>rfl,hl,fun _=>rfl⟩,?_⟩
   ·obtain⟨c,hc⟩:=hp.mem
    exact⟨#[],hTt p (G26 (f:=(·.2)) hc),trivial,fun pos cv e=>(by cases e)⟩
   ·intro d v h' H' _ _ r e
    subst e;exact r
  have hBm:Bm mg (jk8 s₁.heap H):=by
   obtain⟨bm,ob,b1,b2,b3,b4,r⟩:=hbm
   refine⟨bm,ob,b1,b2,jfG b3 ?_,b4,r⟩
   cases q:H bm with
   |none=>rfl
   |some u=>
    rcases hA bm u q with ⟨rfl,_,_⟩|⟨z,_⟩
    ·rw [ha] at b3;cases b3;exact absurd (Value.type.inj b4) (by decide)
    ·obtain⟨c,_,e2,_⟩:=hT' bm z
     rw [e2] at b3;cases b3;cases b4
  refine G2V ((F _ hKb (nsK hns) hBm).run callerA [] s₁ H ⟨[.ref a],[]⟩ [.ref a] [.ref a] _ _ hr e0 (hbind s₁ (.ref a)) (.cons rfl .nil) hsp) fun r s' h=> ?_
  cases r with
  |error e=>exact False.elim h
  |ok fl=>
   cases fl with
   |next=>exact False.elim h
   |brk=>exact False.elim h
   |cont=>exact False.elim h
   |ret u=>
    obtain⟨v,H',os,bare,un,hok',r',q⟩:=h
    have q' :v= .bl true:=q
    subst q'
    obtain rfl:u=Value.bool true:=r'
    have one: ∀b o,s₁.heap.get? b=some o→s'.heap.get? b=some o∨(b∈(jbX K).map (·.2)∧ ∃more,s'.heap.get? b=some (PySem.W.tabObj more)):=fun b o e=>by
     cases q:H b with
     |none=>exact .inl (un.keep b o e q (by intro z;exact absurd (show b∈([]:List Addr) from z) (by simp)) (by simp))
     |some u=>
      rcases hA b u q with ⟨rfl,_,ob,xs,rfl⟩|⟨z,rfl⟩
      ·have z2:=un.frzs _ ob _ q
       obtain⟨e1,_⟩:=hok _ _ q
       obtain⟨e2,_⟩:=hok' _ _ z2
       rw [e] at e1;cases e1
       exact .inl e2
      ·obtain⟨more,z2⟩:=un.tbls b _ q
       exact .inr ⟨z,_,(show s'.heap.get? b=some _ from hok' b _ z2)⟩
    refine⟨rfl,⟨fun b o e=> ?_,fun b o e=> ?_⟩,os,bare⟩
    ·rcases one b o e with z|⟨z,more,z2⟩
     ·exact .inl z
     ·obtain⟨c,hc,e2,_⟩:=hT' b z
      rw [e] at e2;cases e2
      refine .inr (.inl ⟨(hc.tab e).isCodeTable,rfl,#[],more,rfl,?_⟩)
      rw [z2]
      simp
    ·rcases one b o e with z|⟨z,more,z2⟩
     ·exact⟨_,z⟩
     ·exact⟨_,z2⟩
 have nT:a ∉ (jbX K).map (·.2):=fun z=>by
  obtain⟨c,_,e2,_⟩:=hT' a z
  rw [ha] at e2;cases e2
 have okT: ∀ {H:Hp} (b:Addr),b∈(jbX K).map (·.2)→ObjOk P w H s₁.heap b (.tbl #[]):=fun b hb=>let ⟨_,_,e,_⟩:=hT' b hb;e
 cases hk:K.lookup a with
 |some o=>
  have e:=KX a o hk
  rw [ha] at e
  cases e
  refine core (fun b=>if b∈(jbX K).map (·.2) then some (.tbl #[]) else none) (.inr ⟨_,vs.toArray,_,hk,rfl,rfl,rfl,by rw [G0w,lenV];exact hz,by simpa using rv⟩) (fun b u z=> ?_) (fun b u z=> ?_) fun b hb=>if_pos hb
  ·by_cases hb:b∈(jbX K).map (·.2)
   ·have z' :=(if_pos hb).symm.trans z
    cases z'
    exact okT b hb
   ·have z' :=(if_neg hb).symm.trans z
    cases z'
  ·by_cases hb:b∈(jbX K).map (·.2)
   ·have z' :=(if_pos hb).symm.trans z
    cases z'
    exact .inr ⟨hb,rfl⟩
   ·have z' :=(if_neg hb).symm.trans z
    cases z'
 |none=>
  refine core (fun b=>if b=a then some (.frz {cls:= .type "list",data:= .seq vs.toArray} (.lst (ns.map V.int))) else if b∈(jbX K).map (·.2) then some (.tbl #[]) else none) (.inl ⟨{cls:= .type "list",data:= .seq vs.toArray},if_pos rfl⟩) (fun b u z=> ?_) (fun b u z=> ?_) fun b hb=> ?_
  ·by_cases hb:b=a
   ·have z' :=(if_pos hb).symm.trans z
    cases z'
    subst hb
    exact⟨ha,by rw [G0a];exact hz,vs,_,rv,ha⟩
   ·have z' :=(if_neg hb).symm.trans z
    by_cases hb2:b∈(jbX K).map (·.2)
    ·have z2:=(if_pos hb2).symm.trans z'
     cases z2
     exact okT b hb2
    ·have z2:=(if_neg hb2).symm.trans z'
     cases z2
  ·by_cases hb:b=a
   ·have z' :=(if_pos hb).symm.trans z
    cases z'
    exact .inl ⟨hb,hk,_,_,rfl⟩
   ·have z' :=(if_neg hb).symm.trans z
    by_cases hb2:b∈(jbX K).map (·.2)
    ·have z2:=(if_pos hb2).symm.trans z'
     cases z2
     exact .inr ⟨hb2,rfl⟩
    ·have z2:=(if_neg hb2).symm.trans z'
     cases z2
  ·have:b≠a:=fun z=>nT (z ▸ hb)
   show (if b=a then _ else _)=_
   rw [if_neg this,if_pos hb]
def jrL (q:Program) (K:PySem.W.Frag):Bool:=LN.all fun x=>match PySem.W.tabIn K x with
 |some p=>(K.lookup p.2).isNone&&((PyProof.Rows.recsOf q).find? (fun e=>e.name==x)).isSome
 |none=>true
theorem jls {l:PySem.W.OpenLaw} {k:Nat} {q:Program} {loose:List Str} {XP:(Str→Option Value)→Heap→Prop} {YP:World→Heap→Prop} {d:DefRec} {K:Params→PySem.W.Frag} {x:Str} (hn:l.most=some 63) (hdf:d.params.defaults= []) (hr:Room k callerA)
 (hY: ∀ (w:World) (h:Heap),YP w h→(K w.params).In h) (hB: ∀w:World,jrL q (K w.params)=true)
 (F: ∀ (w:World) (mg:Str→Option Value) (fa:Addr) (h:Heap),(K w.params).In h→h.Ns mainGlobals mg→mg d.name=some (.ref fa)→
  ∃fd:FuncData,(∀ (s:Shared) (u:Value),BindsTo s fd ⟨[u],[]⟩ [(x,u)])∧ ∀base:Heap,(K w.params).In base→base.Ns mainGlobals mg→Bm mg base→FnOk l.prog w (K w.params) mg base CX0 k fa fd [x] (LSp (K w.params) jjS)):
 PySem.W.WalkO q loose XP YP l.row.toRowW d [] (fun f vs=>PySem.call f vs):=by
 refine Att.attach_call hn hdf fun w s₀ s₁ mg mb fa o pm cd doc a vs ns G Y ho hd hcd hmg hobj hints hlen hg=> ?_
 have KX:=hY w _ Y
 obtain⟨fd,hb,hF⟩:=F w mg fa _ KX G.T.g hmg
 refine jjT KX G.T.g G.T.b G.T.builtins G.T.nolimit hg hobj hints hlen hr G.T.bmain hF hb fun p hp=> ?_
 obtain⟨x,hx,e⟩:=G2s.mp hp
 have z:=G1f.mp (hB w) x hx
 rw [e] at z
 simp only [G0Z,Option.isNone_iff_eq_none] at z
 obtain⟨dd,hdd⟩:=G1V.mp z.2
 have t:=PySem.W.tab_of (c:=p.1) (P:=p.2) G.T KX hdd e
 exact⟨t.1,t.2,z.1⟩
def jhw:Expr→Bool
 | .Starred .. =>false
 |_=>true
theorem jhx {e:Expr} {es:List Expr} {env:Env} (h:jhw e=true):starEach (e::es) env=(false,eval e env)::starEach es env:=by
 cases e<;>first|rfl|cases h
theorem qac {X:Cx} {e:Expr} {es:List Expr} {te:TED} {t:TAD} (ha:QE X e te) (hr:QA X es t) (h:jhw e=true:=by rfl):QA X (e::es) (jbq te t):=jne ha hr (jhx h)
theorem jdH {α:Type} {xs:List α} {i:Int} (h0:0≤i) (h1:i<xs.length): ∃x∈xs,atI xs i=some x:=by
 have hk:i.toNat<xs.length:=by omega
 have ek:i=((i.toNat:Nat):Int):=by omega
 have z:=jbQ (G0c hk)
 rw [←ek] at z
 exact⟨xs[i.toNat],G1i hk,z⟩
theorem Sub.both {h h' :HD} {p:Addr} {L:List D} (s:Sub h h'):Sub (jbi h p L) (jbi h' p L):=fun a ds e=>by
 by_cases q:a=p
 ·subst q;rw [jaa] at e ⊢;exact e
 ·rw [jbR q] at e ⊢;exact s a ds e
theorem Sub.newAt {h h' :HD} {p:Addr} {L:List D} (s:Sub h h') (e:h' p=none):Sub h (jbi h' p L):=s.trans (.new e)
def But (p:Addr) (h h' :HD):Prop:= ∀a ds,a≠p→h a=some ds→h' a=some ds
theorem But.refl (p:Addr) (h:HD):But p h h:=fun _ _ _ e=>e
theorem But.new {p q:Addr} {h h' :HD} {L:List D} (s:But p h h') (e:h' q=none):But p h (jbi h' q L):=fun a ds n z=>by
 have:=s a ds n z
 rw [jbR (fun w=>by subst w;rw [e] at this;cases this)];exact this
theorem But.put {p:Addr} {h h' :HD} {L:List D} (s:But p h h'):But p h (jbi h' p L):=fun a ds n z=>by rw [jbR n];exact s a ds n z
theorem But.putNew {p q:Addr} {h h' :HD} {L:List D} (s:But p h h') (e:h q=none):But p h (jbi h' q L):=fun a ds n z=>by
 rw [jbR (fun w=>by subst w;rw [e] at z;cases z)];exact s a ds n z
theorem But.sub {p:Addr} {h h' :HD} {L:List D} (s:But p h h') (e:h' p=some L):Sub (jbi h p L) h' :=fun a ds z=>by
 by_cases q:a=p
 ·subst q;rw [jaa] at z;cases z;exact e
 ·rw [jbR q] at z;exact s a ds q z
theorem But.upd {p:Addr} {h:HD} {L:List D}:But p h (jbi h p L):=fun a ds n z=>by rw [jbR n];exact z
theorem jap {h:HD} {p q:Addr} {L:List D} (e:h p=some L) (f:h q=none):q≠p:=fun z=>by subst z;rw [e] at f;cases f
theorem jaf {h:HD} {p q:Addr} {L M:List D} (e:h p=some L) (f:h q=none):jbi h q M p=some L:=by rw [jbR (fun z=>by subst z;rw [e] at f;cases f)];exact e
theorem jah {h:HD} {a b:Addr} {L M:List D} (n:b≠a) (e:h b=some M):jbi h a L b=some M:=by rw [jbR n];exact e
theorem jey {n:Nat} {i:Nat} {d:D} (h:((List.range n).map fun (k:Nat)=>D.int (k:Int))[i]? =some d):i<n∧d= .int i:=by
 rw [G0o] at h
 by_cases hi:i<n
 ·rw [G1U hi] at h;cases h;exact⟨hi,rfl⟩
 ·rw [G1j (by simpa using hi)] at h;cases h
theorem jai {t u:TSD} {E:EndsD} {σ:SD} {h:HD} (V:SD→HD→Prop) (first: ∀K:SD→HD→Prop,(∀σ' h',V σ' h' →K σ' h')→t {E with nx:=K} σ h) (rest: ∀σ' h',V σ' h' →u E σ' h'):jd1 t u E σ h:=first (u E) rest
theorem jfY {p q:Addr} {h h' :HD} (b:But p h h') (e:h' q=none) (n:q≠p):h q=none:=by
 cases z:h q with
 |none=>rfl
 |some ds=>rw [b q ds n z] at e;cases e
def Nxt (E:EndsD) (V:SD→HD→Prop):EndsD:= {E with nx:=fun σ3 h3=> ∃h4,Sub h4 h3∧V σ3 h4,ct:=fun σ3 h3=> ∃h4,Sub h4 h3∧V σ3 h4,bk:=E.nx}
theorem jbD {ta:TAD} {g:TGD} {tb:TSD} {E:EndsD} {σ:SD} {h h1:HD} (n:Nat) (W:Nat→SD→HD→Prop) (hn:n<1000000)
 (ht: ∀R:List D→HD→Prop,R [.int (n:Int)] h1→ta σ h R) (w0:W 0 σ h1) (done: ∀σ' h',W n σ' h' →E.nx σ' h')
 (turn: ∀i σ' h',i<n→W i σ' h' →g (.int (i:Int)) σ' h' fun σ2 h2=>tb (Nxt E fun σ3 h4=>i+1≤n∧W (i+1) σ3 h4) σ2 h2):jpM (iR1 ta) g tb E σ h:=by
 refine ht _ ⟨(n:Int),rfl,by omega,by omega,n,fun i σ' h' =>i≤n∧W i σ' h',⟨G06 _,w0⟩,?_⟩
 rintro i σ' h' ⟨hi,w⟩
 refine⟨_,rfl,by simp,fun hl=> ?_,fun d hd=> ?_⟩
 ·have:i=n:=by simp at hl;omega
  subst this;exact done _ _ w
 ·obtain⟨hi',e⟩:=jey hd
  have hi2:i<n:=by omega
  subst e
  exact turn i σ' h' hi2 w
theorem jfZ {ti:TID} {g:TGD} {tb:TSD} {E:EndsD} {σ:SD} {h h1:HD} {j:ItD} (ds:List D) (W:Nat→SD→HD→Prop)
 (ht: ∀R:ItD→HD→Prop,R j h1→ti σ h R) (hj: ∀i σ' h',W i σ' h' →j h' =some ds) (w0:W 0 σ h1) (done: ∀σ' h',W ds.length σ' h' →E.nx σ' h')
 (turn: ∀i d σ' h',ds[i]? =some d→W i σ' h' →g d σ' h' fun σ2 h2=>tb (Nxt E fun σ3 h4=>i+1≤ds.length∧W (i+1) σ3 h4) σ2 h2):jpM ti g tb E σ h:=by
 refine ht _ ⟨ds.length,fun i σ' h' =>i≤ds.length∧W i σ' h',⟨G06 _,w0⟩,?_⟩
 rintro i σ' h' ⟨hi,w⟩
 refine⟨ds,hj i σ' h' w,G0f _,fun hl=> ?_,fun d hd=>turn i d σ' h' hd w⟩
 have:i=ds.length:=by omega
 subst this;exact done _ _ w
theorem jgI {g:TGD} {tb:TSD} {E:EndsD} {σ:SD} {h1:HD} {j:ItD} (ds:List D) (W:Nat→SD→HD→Prop)
 (hj: ∀i σ' h',W i σ' h' →j h' =some ds) (w0:W 0 σ h1) (done: ∀σ' h',W ds.length σ' h' →E.nx σ' h')
 (turn: ∀i d σ' h',ds[i]? =some d→W i σ' h' →g d σ' h' fun σ2 h2=>tb (Nxt E fun σ3 h4=>i+1≤ds.length∧W (i+1) σ3 h4) σ2 h2):
 ∃ (n:Nat) (W:Nat→SD→HD→Prop),W 0 σ h1∧ ∀i σ' h',W i σ' h' → ∃ds,j h' =some ds∧ds.length≤n∧(ds.length≤i→E.nx σ' h')∧
  ∀d,ds[i]? =some d→g d σ' h' fun σ2 h2=>tb {E with nx:=fun σ3 h3=> ∃h4,Sub h4 h3∧W (i+1) σ3 h4,ct:=fun σ3 h3=> ∃h4,Sub h4 h3∧W (i+1) σ3 h4,bk:=E.nx} σ2 h2:=by
 refine⟨ds.length,fun i σ' h' =>i≤ds.length∧W i σ' h',⟨G06 _,w0⟩,?_⟩
 rintro i σ' h' ⟨hi,w⟩
 refine⟨ds,hj i σ' h' w,G0f _,fun hl=> ?_,fun d hd=>turn i d σ' h' hd w⟩
 have:i=ds.length:=by omega
 subst this;exact done _ _ w
theorem jp6 {i:Nat} {js:List Nat} {ta:TAD} {te:TED} {σ:SD} {h h1:HD} {Q:KD} (n:Nat) (W:Nat→List D→HD→Prop) (hn:n≤1000) (ht: ∀R:List D→HD→Prop,R [.int (n:Int)] h1→ta σ h R)
 (w0:W 0 [] h1) (wl: ∀k ys h',W k ys h' →ys.length=k) (turn: ∀k ys h',k<n→W k ys h' →te ((jaH js σ).set i (some (.int (k:Int)))) h' fun y h4=> ∃h5,Sub h5 h4∧(k+1≤n∧W (k+1) (ys++ [y]) h5))
 (done: ∀ys h',W n ys h' → ∀p,h' p=none→Q (.lst p) (jbi h' p ys)):jev (bN i) js (iR1 ta) jht te σ h Q:=by
 refine ht _ ⟨(n:Int),rfl,by omega,by omega,n,fun k ys h' =>k≤n∧W k ys h',⟨G06 _,w0⟩,?_⟩
 rintro k ys h' ⟨hk,w⟩
 refine⟨by rw [wl k ys h' w];exact G0T (jar (by omega)),_,rfl,by simp,fun hl p hp=> ?_,fun d hd=>⟨_,rfl,?_⟩⟩
 ·have:k=n:=by simp at hl;omega
  subst this;exact done ys h' w p hp
 ·obtain⟨hi',e⟩:=jey hd
  subst e
  unfold jht
  dsimp only
  rw [if_pos rfl]
  exact turn k ys h' (by omega) w
end L2
namespace L2
open PySem PySem.Spec PyProof.Rows PySem.SeqAt
mutual
def ToP (h:HD):D→PyData→Prop
 |d,.none=>d= .non
 |d,.bool b=>d= .bl b
 |d,.int i=>d= .int i
 |d,.str x=>d= .str x
 |d,.tuple ps=> ∃ds,d= .tup ds∧ToPs h ds ps
 |d,.list ps=> ∃a ds,d= .lst a∧h a=some ds∧ToPs h ds ps
 |_,.dict _=>False
def ToPs (h:HD):List D→List PyData→Prop
 |ds,[]=>ds= []
 |ds,p::ps=> ∃d r,ds=d::r∧ToP h d p∧ToPs h r ps
end
section
variable {X:Cx} {pins:List (Addr×Obj)} {σ:St} {H:Hp} {s:Shared} {h:HD}
mutual
theorem ja4 (I:Inv X pins σ H s) (rh:RelH X.K h H): ∀ {p:PyData} {d:D} {v:V} {u:Value},ToP h d p→RelD X.K H d v→RelV v u→ ∃as,Reads s.heap u p as
 | .none,d,v,u,t,r,ru=>by cases (show d= .non from t);cases (show v= .non from r);cases (show u= .none from ru);exact⟨[],.none⟩
 | .bool b,d,v,u,t,r,ru=>by cases (show d= .bl b from t);cases (show v= .bl b from r);cases (show u= .bool b from ru);exact⟨[],.bool b⟩
 | .int i,d,v,u,t,r,ru=>by cases (show d= .int i from t);cases (show v= .int i from r);obtain⟨k,rfl⟩:=(show ∃t,u=Value.int i t from ru);exact⟨[],.int i k⟩
 | .str x,d,v,u,t,r,ru=>by cases (show d= .str x from t);cases (show v= .str x from r);obtain⟨k,rfl⟩:=(show ∃t,u=Value.str x t from ru);exact⟨[],.str x k⟩
 | .tuple ps,d,v,u,t,r,ru=>by
  obtain⟨ds,e,ts⟩:=(show ∃ds,d= .tup ds∧ToPs h ds ps from t)
  subst e
  obtain⟨a,vs,e,hH,rs⟩:=(show ∃a vs,v= .ref a∧H a=some (.tup vs)∧RelDs X.K H ds vs from r)
  subst e
  cases (show u= .ref a from ru)
  obtain⟨its,rv,ht,_⟩:=I.tuple (SqT.of hH)
  obtain⟨o,ho,hc,n,hd⟩:=ht
  obtain⟨as,q⟩:=reads_Ds I rh ts rs rv
  exact⟨as,.tuple ho hc hd q⟩
 | .list ps,d,v,u,t,r,ru=>by
  obtain⟨a,ds,e,ha,ts⟩:=(show ∃a ds,d= .lst a∧h a=some ds∧ToPs h ds ps from t)
  subst e
  obtain⟨vs,hH,rs⟩:=rh a ds ha
  have e:v= .ref a:=r.1
  subst e
  cases (show u= .ref a from ru)
  obtain⟨its,rv,pl,_⟩:=I.list (SqL.of hH)
  obtain⟨o,ho,hc,n,hd⟩:=pl.isList
  obtain⟨as,q⟩:=reads_Ds I rh ts rs rv
  exact⟨a::as,.list ho hc hd q⟩
 | .dict _,_,_,_,t,_,_=>(show False from t).elim
theorem reads_Ds (I:Inv X pins σ H s) (rh:RelH X.K h H): ∀ {ps:List PyData} {ds:List D} {vs:List V} {us:List Value},ToPs h ds ps→RelDs X.K H ds vs→Vals vs us→ ∃as,ReadsAll s.heap us ps as
 | [],ds,vs,us,t,r,rv=>by
  cases (show ds= [] from t);cases (show vs= [] from r);cases rv;exact⟨[],.nil⟩
 |p::ps,ds,vs,us,t,r,rv=>by
  obtain⟨d,dr,e,t1,t2⟩:=(show ∃d r,ds=d::r∧ToP h d p∧ToPs h r ps from t)
  subst e
  obtain⟨v,vr,e,r1,r2⟩:=(show ∃v r,vs=v::r∧RelD X.K H d v∧RelDs X.K H dr r from r)
  subst e
  cases rv with
  |cons ru rt=>
   obtain⟨as,q1⟩:=ja4 I rh t1 r1 ru
   obtain⟨bs,q2⟩:=reads_Ds I rh t2 r2 rt
   exact⟨as++bs,.cons q1 q2⟩
end
end
def eqE:RD2:=fun x y h Q=>match x,y with
 | .int i,.int j=>Q (.bl (decide (i=j))) h
 | .bl i,.bl j=>Q (.bl (decide (i=j))) h
 | .str i,.str j=>Q (.bl (decide (i=j))) h
 |x,y=> ∃p q,ToP h x p∧ToP h y q∧shaped p=true∧shaped q=true∧Q (.bl (PyData.eqv p q)) h
def neE:RD2:=fun x y h Q=>match x,y with
 | .int i,.int j=>Q (.bl (!decide (i=j))) h
 | .bl i,.bl j=>Q (.bl (!decide (i=j))) h
 | .str i,.str j=>Q (.bl (!decide (i=j))) h
 |x,y=> ∃p q,ToP h x p∧ToP h y q∧shaped p=true∧shaped q=true∧Q (.bl (!PyData.eqv p q)) h
section
variable {X:Cx}
def eqG:RD2:=fun x y h Q=> ∃p q,ToP h x p∧ToP h y q∧shaped p=true∧shaped q=true∧Q (.bl (PyData.eqv p q)) h
def neG:RD2:=fun x y h Q=> ∃p q,ToP h x p∧ToP h y q∧shaped p=true∧shaped q=true∧Q (.bl (!PyData.eqv p q)) h
theorem jp7 (hu:X.A.units+64<cLine):OpQ X (compareOp .Eq) eqG:=by
 intro pins s σ H x y v u Q I rx ry h
 obtain⟨dx,dy,h,Qd,r1,r2,rh,⟨p,q,t1,t2,s1,s2,qq⟩,post⟩:=h
 obtain⟨as,a1⟩:=ja4 I rh t1 r1 rx
 obtain⟨bs,b1⟩:=ja4 I rh t2 r2 ry
 exact compareEq_shaped a1 b1 s1 s2 hu ⟨.bl _,H,I,rfl,post (.bl _) _ _ _ (.refl H) rh rfl qq⟩
theorem jp8 (hu:X.A.units+64<cLine):OpQ X (compareOp .NotEq) neG:=by
 intro pins s σ H x y v u Q I rx ry h
 obtain⟨dx,dy,h,Qd,r1,r2,rh,⟨p,q,t1,t2,s1,s2,qq⟩,post⟩:=h
 obtain⟨as,a1⟩:=ja4 I rh t1 r1 rx
 obtain⟨bs,b1⟩:=ja4 I rh t2 r2 ry
 exact compareNe_shaped a1 b1 s1 s2 hu ⟨.bl _,H,I,rfl,post (.bl _) _ _ _ (.refl H) rh rfl qq⟩
theorem OpQ.or' {f:Value→Value→Sem Value} {r r' r2:RD2} (h:OpQ X f r) (h' :OpQ X f r') (i: ∀x y hh Q,r2 x y hh Q→r x y hh Q∨r' x y hh Q):OpQ X f r2:=fun pins s σ H x y v u Q I rx ry ⟨dx,dy,hd,Qd,r1,r2',rh,q,p⟩=>
 (i dx dy hd Qd q).elim (fun z=>h pins s σ H x y v u Q I rx ry ⟨dx,dy,hd,Qd,r1,r2',rh,z,p⟩) fun z=>h' pins s σ H x y v u Q I rx ry ⟨dx,dy,hd,Qd,r1,r2',rh,z,p⟩
theorem jgJ (hu:X.A.units+64<cLine):OpQ X (compareOp .Eq) eqE:=oq_eq.or' (jp7 hu) fun x y h Q q=>by
 unfold eqE at q
 split at q
 ·exact .inl q
 ·exact .inl q
 ·exact .inl q
 ·exact .inr q
theorem jmr (hu:X.A.units+64<cLine):OpQ X (compareOp .NotEq) neE:=oq_ne.or' (jp8 hu) fun x y h Q q=>by
 unfold neE at q
 split at q
 ·exact .inl q
 ·exact .inl q
 ·exact .inl q
 ·exact .inr q
def isN:D→Bool
 | .non=>true
 |_=>false
def isV (neg:Bool):RD2:=fun x y h Q=>match y with
 | .non=>Q (.bl (neg !=isN x)) h
 | .bl c=>match x with
  | .bl b=>Q (.bl (neg !=(b==c))) h
  | .non=>Q (.bl neg) h
  |_=>False
 |_=>False
end
end L2
namespace L2
open PySem PySem.Spec PyProof.Rows
theorem jdX: ∀ {ns:List Int} {us:List Value},Vals (ns.map V.int) us→IntsAre us ns
 | [],_,r=>by cases r;exact .nil
 |n::ns,_,r=>by
  cases r with
  |cons r t=>obtain⟨k,rfl⟩:=r;exact .cons n k (jdX t)
theorem jgK: ∀ {ns:List Int} {us:List Value},IntsAre us ns→Vals (ns.map V.int) us
 |_,_,.nil=> .nil
 |_,_,.cons n t r=> .cons ⟨t,rfl⟩ (jgK r)
theorem jaX {K:PySem.W.Frag} {H:Hp}: ∀ {ns:List Int} {vs:List V},RelDs K H (ns.map D.int) vs→vs=ns.map V.int
 | [],_,h=>h
 |n::ns,vs,h=>by
  obtain⟨v,r,e,h1,h2⟩:=(show ∃v r,vs=v::r∧RelD K H (.int n) v∧RelDs K H (ns.map D.int) r from h)
  rw [e,jaX h2,(show v= .int n from h1)];rfl
def jgt:RDn:=fun ds h Q=> ∃ (a:Addr) (ns:List Int),ds= [.lst a]∧h a=some (ns.map D.int)∧Q (.int ns.sum) (jeu h a)
def jaU:RDn:=fun ds h Q=> ∃ns:List Int,(ds= [.tup (ns.map D.int)]∨ ∃a,ds= [.lst a]∧h a=some (ns.map D.int))∧ns.length<64∧ ∀ (p:Addr) (ns' :List Int),h p=none→ns'.Perm ns→ns'.Pairwise (· ≤ ·)→Q (.lst p) (jbi h p (ns'.map D.int))
def jgu (to te:TED):TED:=fun σ h Q=>to σ h fun x h1=> ∃ns:List Int,x= .tup (ns.map D.int)∧te σ h1 fun y h2=> ∃k:Int,y= .int k∧k∈ns∧Q (.int (ns.idxOf k:Nat)) h2
def jfr (to ti te:TED):TED:=fun σ h Q=>to σ h fun x h1=> ∃a,x= .lst a∧ti σ h1 fun i h2=>te σ h2 fun y h3=> ∃ (k:Nat) (xs:List D),i= .int (k:Int)∧k≤1000∧h3 a=some xs∧xs.length<sizeLine∧Q .non (jbi h3 a (xs.take k++y::xs.drop k))
theorem jjU {X:Cx}:MtM X "list.insert" (fun x vs H Q=> ∃ (l:Addr) (xs:List V) (k:Nat) (y:V),x= .ref l∧vs= [.int (k:Int),y]∧H l=some (.lst xs)∧k≤1000∧xs.length<sizeLine∧Q .non (upd H l (.lst (xs.take k++y::xs.drop k)))):=by
 intro pins s σ H x vs v us Q I rx rv h
 obtain⟨l,xs,k,y,rfl,rfl,hH,hk,hz,q⟩:=h
 cases rx
 obtain⟨u,w',rfl,⟨t,rfl⟩,ry⟩:=jju rv
 obtain⟨z,its,n,r,hl,e⟩:=I.lstM hH
 have hfit: ¬ (!Builtin.List.listFitsIndex (k:Int))=true:=by rw [fitsIndex_both (by omega) (by omega)];exact G0q
 have hsz:its.toArray.size≤sizeLine:=by rw [G0w];omega
 generalize har:its.toArray=ar at e hsz
 obtain⟨kk,hkk⟩: ∃kk:Int,kk=(k:Int):=⟨_,rfl⟩
 rw [←hkk] at hfit ⊢
 refine G3M F.slot_list_insert ⟨_,e,rfl⟩ F.entry_list_insert (F.args_list_insert_3 _ _ _) (AutoListH.list_insert_list_int_val_1 l ar n kk t w' hfit hsz) ⟨e,?_⟩
 subst har hkk
 refine⟨.non,_,I.lset (its' :=its.take k++w' ::its.drop k) hH e ?_ ((r.take k).append (.cons ry (r.drop k))) ?_,rfl,q⟩
 ·have hk0: ¬ ((k:Int)<0):=by omega
  simp only [hk0,G4z,G18,G0w]
  have e1:its.take (min k its.length)=its.take k:=by
   by_cases hh:k≤its.length
   ·rw [G3m hh]
   ·rw [Nat.min_eq_right (by omega),G3G,G0F (by omega)]
  have e2:its.drop (min k its.length)=its.drop k:=by
   by_cases hh:k≤its.length
   ·rw [G3m hh]
   ·rw [Nat.min_eq_right (by omega),List.drop_length,List.drop_of_length_le (by omega)]
  have e3:(its.drop k).take (its.length-min k its.length)=its.drop k:=G0F (by rw [G0X];omega)
  apply Array.ext'
  simp only [G07,G1F,List.extract_toArray,List.extract_eq_drop_take,G4B,Nat.sub_zero]
  rw [e1,e2,e3,G0j];rfl
 ·rw [G0d,G0h,G0B,G0X];omega
section
variable {X:Cx} {o e i:Expr} {to te ti:TED} {apos cpos:Pos}
theorem js3 (ho:QE X o to) (hi:QE X i ti) (he:QE X e te) (hbase:attributeBase o "insert" X.env (eval o X.env)=eval o X.env:=by rfl)
 (hfew:((backTo cpos (starEach [i,e] X.env)).all (fun x=> !x.1)&&(backToKw cpos (keywordEach [] X.env)).all (fun x=>x.1.isSome)&&decide ([i,e].length+([]:List Keyword).length+(if ([]:List Keyword).isEmpty then 0 else 1)<30))=true:=by rfl)
 (hline:(apos.endLine==cpos.line)=true:=by rfl) (hs:starEach [i,e] X.env=(false,eval i X.env)::starEach [e] X.env:=by rfl) (hs2:starEach [e] X.env=(false,eval e X.env)::starEach [] X.env:=by rfl) (hplain:(backTo cpos (starEach [e] X.env)).any (·.1)=false:=by rfl):
 QE X (.Call (.Attribute o "insert" apos) [i,e] [] cpos) (jfr to ti te):=
 (jlk G2K PySem.F.slot_list_insert PySem.F.type_list_insert jjU ho (jbm hi (jbm he pa_nil hs2) hs) hbase hfew hline hs hplain).imp
  fun σ H Q ⟨σd,h,Qd,rs,rh,t,p⟩=>LE.bind rs rh t fun d v h1 H1 k1 rs1 rh1 r1 ⟨a,e,q⟩=>by
   subst e
   obtain⟨e1,vs,hH⟩:=(show v= .ref a∧ ∃vs,H1 a=some (.lst vs) from r1)
   subst e1
   refine⟨.inl ⟨rfl,vs,SqL.of hH⟩,?_⟩
   refine LE.bind rs1 rh1 q fun di vi h2 H2 k2 rs2 rh2 r2 q2=>LE.bind rs2 rh2 q2 fun y u h3 H3 k3 rs3 rh3 r3 ⟨k,xs,ei,hk,hx,hz,q3⟩=> ?_
   subst ei
   have ev:vi= .int (k:Int):=r2
   obtain⟨ws,hW,r4⟩:=rh3 a xs hx
   refine⟨a,ws,k,u,rfl,by rw [ev],hW,hk,by rw [←r4.length];exact hz,p .non _ _ _ (k1.trans (k2.trans (k3.trans (.put hW)))) (rh3.put hW ((r4.take k).append (.cons r3 (r4.drop k)))) rfl q3⟩
end
def jcE (ta:TAD):TED:=fun σ h Q=>ta σ h fun ds h1=> ∃n:Nat,ds= [.int (n:Int)]∧n≤1000∧ ∀p,h1 p=none→Q (.lst p) (jbi h1 p ((List.range n).map fun (k:Nat)=>D.int (k:Int)))
structure JE (X:Cx) (e:Expr) (t:TED):Prop where
 to:QE X e t
structure JT (X:Cx) (e:Expr) (t:TTD):Prop where
 to:QT X e t
structure JW (X:Cx) (e:Expr) (t:TTD):Prop where
 to:QW X e t
structure JA (X:Cx) (e:List Expr) (t:TAD):Prop where
 to:QA X e t
structure JS (X:Cx) (e:Stmt) (t:TSD):Prop where
 to:QS X e t
structure JSs (X:Cx) (e:List Stmt) (t:TSD):Prop where
 to:QSs X e t
structure JG (X:Cx) (e:Expr) (t:TGD):Prop where
 to:QG X e t
structure JI (X:Cx) (tg e:Expr) (t:TID):Prop where
 to:QI X tg e t
structure JO (X:Cx) (e:Option Expr) (t:TOD):Prop where
 to:QO X e t
section
variable {X:Cx} {a b c e:Expr} {es rest:List Expr} {ta tb tc te:TED} {t u:TAD} {tt tu:TTD} {pos:Pos} {f r r' :RD2}
theorem jv (i:Nat) {x:Str} (hN:X.N[i]? =some x:=by rfl) (hv:Vis X.env.scope x:=by first|exact Or.inl rfl|exact Or.inr (Or.inl rfl)|exact Or.inr (Or.inr rfl)) (hd:(x==("__debug__" :Str))=false:=by decide) (hcd:(x==("__classdict__" :Str))=false:=by decide):JE X (.Name x pos) (jeU i):=⟨qv (i:=i) (hN:=hN) (hv:=hv) (hd:=hd) (hcd:=hcd)⟩
theorem jau {i:Int} {j:Nat}:JE X (.Constant (.int i) j pos) (dC (.int i)):=⟨jsI⟩
theorem jbl {i:Bool} {j:Nat}:JE X (.Constant (.bool i) j pos) (dC (.bl i)):=⟨qbl⟩
theorem jfs {x:Str} {j:Nat}:JE X (.Constant (.str x) j pos) (dC (.str x)):=⟨jsJ⟩
theorem jrM {x:Str} {i:Int} {tk:Tok} (hg:Gl X x) (hm:X.mg x=some (.int i tk)) (hd:(x==("__debug__" :Str))=false:=by decide):JE X (.Name x pos) (dC (.int i)):=⟨jrt (hg:=hg) (hm:=hm) (hd:=hd)⟩
theorem jop {op:Operator} (ho:OpQ X (binaryOp op) f) (ha:JE X a ta) (hb:JE X b tb):JE X (.BinOp a op b pos) (dOp f ta tb):=⟨qop (ho:=ho) (ha:=ha.to) (hb:=hb.to)⟩
theorem jjg {op:CmpOp} (ho:OpQ X (compareOp op) f) (ha:JE X a ta) (hb:JE X b tb) (hm:behindInMarks op b=false):JE X (.Compare a [op] [b] pos) (dOp f ta tb):=⟨jsK (ho:=ho) (ha:=ha.to) (hb:=hb.to) (hm:=hm)⟩
theorem jbo {op:CmpOp} (ho:OpQ X (compareOp op) f) (ha:JE X a ta) (hb:JE X b tb) (hm:behindInMarks op b=false):JT X (.Compare a [op] [b] pos) (jbr (dOp f ta tb)):=⟨jru (ho:=ho) (ha:=ha.to) (hb:=hb.to) (hm:=hm)⟩
theorem jny {op op' :CmpOp} (ho:OpQ X (compareOp op) r) (ho' :OpQ X (compareOp op') r') (ha:JE X a ta) (hb:JE X b tb) (hc:JE X c tc) (hm:lastMarks [op,op'] [b,c]=false:=by with_unfolding_all rfl):JT X (.Compare a [op,op'] [b,c] pos) (jbr (ja2 r r' ta tb tc)):=⟨jnd (ho:=ho) (ho' :=ho') (ha:=ha.to) (hb:=hb.to) (hc:=hc.to) (hm:=hm)⟩
theorem jcJ (ha:JE X a ta) (he: ∀whole,isTrue a X.env whole=(do let v ←whole;standAt a.pos;holding [v] (truthy v)):=by intro _;rfl):JT X a (jbr ta):=⟨jrv (ha:=ha.to) (he:=he)⟩
theorem jjV (ha:JT X a tt):JW X (.BoolOp .And [a] pos) tt:=⟨jrw (ha:=ha.to)⟩
theorem jp9 (ha:JT X a tt):JW X (.BoolOp .Or [a] pos) tt:=⟨jsL (ha:=ha.to)⟩
theorem jiK (ha:JT X a tt) (hb:JW X (.BoolOp .And (b::rest) pos) tu):JW X (.BoolOp .And (a::b::rest) pos) (jb1 tt tu):=⟨jrx (ha:=ha.to) (hb:=hb.to)⟩
theorem joI (ha:JT X a tt) (hb:JW X (.BoolOp .Or (b::rest) pos) tu):JW X (.BoolOp .Or (a::b::rest) pos) (je0 tt tu):=⟨jsM (ha:=ha.to) (hb:=hb.to)⟩
theorem jdl (ha:JT X a tt):JT X (.UnaryOp .Not a pos) (jb2 tt):=⟨jry (ha:=ha.to)⟩
theorem jms {op:BoolOp} (ha:JE X a ta):JE X (.BoolOp op [a] pos) ta:=⟨jsN (ha:=ha.to)⟩
theorem jqa (ha:JE X a ta) (hb:JE X (.BoolOp .And (b::rest) pos) tb):JE X (.BoolOp .And (a::b::rest) pos) (jb3 ta tb):=⟨jsO (ha:=ha.to) (hb:=hb.to)⟩
theorem jor (ha:JE X a ta) (hb:JE X (.BoolOp .Or (b::rest) pos) tb):JE X (.BoolOp .Or (a::b::rest) pos) (je1 ta tb):=⟨qor (ha:=ha.to) (hb:=hb.to)⟩
theorem js4 (ha:JE X a ta):JE X (.UnaryOp .Not a pos) (jb4 ta):=⟨jsP (ha:=ha.to)⟩
theorem jif {c:Expr} (hc:JT X c tt) (ha:JE X a ta) (hb:JE X b tb):JE X (.IfExp c a b pos) (dIf tt ta tb):=⟨qif (hc:=hc.to) (ha:=ha.to) (hb:=hb.to)⟩
theorem jad:JA X [] jd0:=⟨jpD⟩
theorem jgL {k:Nat} (h:JA X es t):JE X (.Tuple es k pos) (jeV t):=⟨jsQ (h:=h.to)⟩
theorem jdI (h:JA X es t):JE X (.List es pos) (jeZ t):=⟨jsR (h:=h.to)⟩
end
section
variable {X:Cx} {st:Stmt} {sts:List Stmt} {t u:TSD} {e:Expr} {te:TED} {pos:Pos}
theorem jbc:JSs X [] jb5:=⟨jpJ⟩
theorem jae (h1:JS X st t) (h2:JSs X sts u):JSs X (st::sts) (jd1 t u):=⟨jni (h1:=h1.to) (h2:=h2.to)⟩
theorem jag (h1:JS X st t):JSs X [st] t:=⟨jpK (h1:=h1.to)⟩
theorem jf0 (he:JE X e te) (hs:swapsWith e none pos.line X.env=pure false:=by rfl):JS X (.Expr e pos) (jb6 te):=⟨jrA (he:=he.to) (hs:=hs)⟩
theorem jcz (he:JE X e te):JS X (.Return (some e) pos) (jeW te):=⟨jsS (he:=he.to)⟩
theorem jft {c:Expr} {a b:List Stmt} {tc:TTD} (hc:JT X c tc) (ha:JSs X a t) (hb:JSs X b u):JS X (.If c a b pos) (je2 tc t u):=⟨jsT (hc:=hc.to) (ha:=ha.to) (hb:=hb.to)⟩
theorem jb7 {i:Nat} {x:Str} {pos' :Pos} (hN:X.N.Nodup) (hi:X.N[i]? =some x) (hx:Loc X.env.scope x) (he:JE X e te) (hs:swapsWith e (some (.Name x pos')) pos.line X.env=pure false:=by rfl) (hf:X.fn x=true∨X.env.scope.names.lookup x=some .local:=by first|exact .inl rfl|exact .inr rfl|assumption):JS X (.Assign [.Name x pos'] e pos) (jd6 i te):=⟨jsU (hN:=hN) (hi:=hi) (hx:=hx) (he:=he.to) (hs:=hs) (hf:=hf)⟩
theorem ja7 {i:Nat} {x:Str} (hN:X.N.Nodup) (hi:X.N[i]? =some x) (hx:Loc X.env.scope x) (hf:X.fn x=true∨X.env.scope.names.lookup x=some .local:=by first|exact .inl rfl|exact .inr rfl|assumption):JG X (.Name x pos) (gN i):=⟨jnj (hN:=hN) (hi:=hi) (hx:=hx) (hf:=hf)⟩
theorem jjW {i j:Nat} {x y:Str} {p1 p2:Pos} {k:Nat} (hc:X.calm=true) (hN:X.N.Nodup) (hi:X.N[i]? =some x) (hj:X.N[j]? =some y) (hx:Loc X.env.scope x) (hy:Loc X.env.scope y) (hf:X.fn x=true∨X.env.scope.names.lookup x=some .local:=by first|exact .inl rfl|exact .inr rfl|assumption) (hf2:X.fn y=true∨X.env.scope.names.lookup y=some .local:=by first|exact .inl rfl|exact .inr rfl|assumption):JG X (.Tuple [.Name x p1,.Name y p2] k pos) (gT2 i j):=⟨jpL (hc:=hc) (hN:=hN) (hi:=hi) (hj:=hj) (hx:=hx) (hy:=hy) (hf:=hf) (hf2:=hf2)⟩
theorem joJ {tg:Expr} {g:TGD} (he:JE X e te) (hg:JG X tg g) (hs:swapsWithSole [tg] e pos.line X.env=pure false:=by rfl) (hsw:swappedStores [tg] e X.env=pure none:=by rfl) (h1:(assignEach [tg] X.env).map (·.2)= [assign tg X.env]:=by rfl):JS X (.Assign [tg] e pos) (je3 te g):=⟨jsV (he:=he.to) (hg:=hg.to) (hs:=hs) (hsw:=hsw) (h1:=h1)⟩
theorem jsp {i j:Nat} {x y:Str} {a b:Expr} {ta:TAD} {px py pt:Pos} {kt k2 pt2} (hc:X.calm=true) (hN:X.N.Nodup) (hi:X.N[i]? =some x) (hj:X.N[j]? =some y) (hij:i≠j) (hx:X.env.scope.names.lookup x=some .local) (hy:X.env.scope.names.lookup y=some .local) (ha:JA X [a,b] ta) (hw:swappedStores [.Tuple [.Name x px,.Name y py] kt pt] (.Tuple [a,b] k2 pt2) X.env=pure (some [x,y])) (hs:swapsWithSole [.Tuple [.Name x px,.Name y py] kt pt] (.Tuple [a,b] k2 pt2) pos.line X.env=pure false:=by rfl):JS X (.Assign [.Tuple [.Name x px,.Name y py] kt pt] (.Tuple [a,b] k2 pt2) pos) (je4 i j ta):=⟨jsW (hc:=hc) (hN:=hN) (hi:=hi) (hj:=hj) (hij:=hij) (hx:=hx) (hy:=hy) (ha:=ha.to) (hw:=hw) (hs:=hs)⟩
end
section
variable {X:Cx} {tg e iter elt:Expr} {te:TED} {ti:TID} {g:TGD} {tb:TSD} {tt:TTD} {pos:Pos} {ta:TAD} {scope:Scope} {js:List Nat} {ifs:List Expr}
theorem jnz (he:JE X e te):JI X tg e (iL te):=⟨jnm (he:=he.to)⟩
theorem jcF {p:Pos} {a:Expr} (hg:Gl X "range") (hm:X.mg "range" =none) (ha:JA X [a] ta) (hs:starEach [a] X.env= [(false,eval a X.env)]:=by rfl):JI X tg (.Call (.Name "range" p) [a] [] pos) (iR1 ta):=⟨jrE (hg:=hg) (hm:=hm) (ha:=ha.to) (hs:=hs)⟩
theorem jgM {body:List Stmt} (hp:PassesOwn (model X.prog X.w) X.A X.env X.xe) (hc:X.calm=true) (hi:JI X tg iter ti) (hg:JG X tg g) (hb:JSs X body tb) (hs: ∀x,foldedSetIterable iter X.env x=pure x:=by intro _;rfl):JS X (.For tg iter body [] pos) (jpM ti g tb):=⟨jsX (hp:=hp) (hc:=hc) (hi:=hi.to) (hg:=hg.to) (hb:=hb.to) (hs:=hs)⟩
theorem jbE:PTs X [] (LT X.K jht):=jnn
theorem jcm {c:Expr} (hc:JT X c tt):PTs X [c] (LT X.K tt):=jno (hc:=hc.to)
theorem jlc {i:Nat} {x:Str} {p:Pos} (hc:X.calm=true) (S:BlockOk X scope js) (hi:JI X (.Name x p) iter ti) (hj:i∈js) (hN:X.N.Nodup) (hx:X.N[i]? =some x) (hl:scope.names.lookup x=some .local∨scope.names.lookup x=some .cell) (ht: ∀X',jat X scope X' →PTs X' ifs (LT X'.K tt)) (he: ∀X',jat X scope X' →JE X' elt te) (hs: ∀x,foldedSetIterable iter X.env x=pure x:=by intro _;rfl):JE X (.ListComp elt [⟨.Name x p,iter,ifs,0⟩] scope pos) (jev (bN i) js ti tt te):=⟨qlc (hc:=hc) (S:=S) (hi:=hi.to) (hj:=hj) (hN:=hN) (hx:=hx) (hl:=hl) (ht:=ht) (he:=fun X' hX=>(he X' hX).to) (hs:=hs)⟩
theorem js5 {i j:Nat} {x y:Str} {p1 p2 p3:Pos} {k:Nat} (hc:X.calm=true) (S:BlockOk X scope js) (hi:JI X (.Tuple [.Name x p1,.Name y p2] k p3) iter ti) (hj:i∈js) (hj2:j∈js) (hij:i≠j) (hN:X.N.Nodup) (hx:X.N[i]? =some x) (hy:X.N[j]? =some y) (hl:scope.names.lookup x=some .local∨scope.names.lookup x=some .cell) (hl2:scope.names.lookup y=some .local∨scope.names.lookup y=some .cell) (ht: ∀X',jat X scope X' →PTs X' ifs (LT X'.K tt)) (he: ∀X',jat X scope X' →JE X' elt te) (hs: ∀x,foldedSetIterable iter X.env x=pure x:=by intro _;rfl):JE X (.ListComp elt [⟨.Tuple [.Name x p1,.Name y p2] k p3,iter,ifs,0⟩] scope pos) (jev (b2 i j) js ti tt te):=⟨jsY (hc:=hc) (S:=S) (hi:=hi.to) (hj:=hj) (hj2:=hj2) (hij:=hij) (hN:=hN) (hx:=hx) (hy:=hy) (hl:=hl) (hl2:=hl2) (ht:=ht) (he:=fun X' hX=>(he X' hX).to) (hs:=hs)⟩
end
section
variable {X:Cx} {k:Nat} {f:Addr} {fd:FuncData} {ps:List Str} {spd:RDn} {x:Str} {p pos:Pos} {e:Expr} {es:List Expr} {t:TAD}
theorem jaC (F:FnOk X.prog X.w X.K X.mg X.base CX0 k f fd ps (LSp X.K spd)) (hr:Room k X.A) (hg:Gl X x) (hm:X.mg x=some (.ref f)) (hk:PySem.W.keepIn X.K (.ref f)=true) (hb:Binds X.K fd ps []) (ha:JA X (e::es) t) (hdb:(x==("__debug__" :Str))=false:=by decide) (he:starEach (e::es) X.env=(false,eval e X.env)::starEach es X.env:=by rfl) (hpl:(backTo pos (starEach es X.env)).any (·.1)=false:=by rfl):JE X (.Call (.Name x p) (e::es) [] pos) (dCB spd t):=⟨jrF (F:=F) (hr:=hr) (hg:=hg) (hm:=hm) (hk:=hk) (hb:=hb) (ha:=ha.to) (hdb:=hdb) (he:=he) (hpl:=hpl)⟩
theorem jaJ {id:String} {r:RDn} (hc:jc7 X (.builtin id) r) (hg:Gl X x) (hm:X.mg x=none) (hv:bootBuiltins x=some (.builtin id)) (ha:JA X (e::es) t) (hn:x≠ "__name__" :=by decide) (hdb:(x==("__debug__" :Str))=false:=by decide) (he:starEach (e::es) X.env=(false,eval e X.env)::starEach es X.env:=by rfl) (hpl:(backTo pos (starEach es X.env)).any (·.1)=false:=by rfl):JE X (.Call (.Name x p) (e::es) [] pos) (dCB r t):=⟨jpQ (hc:=hc) (hg:=hg) (hm:=hm) (hv:=hv) (ha:=ha.to) (hn:=hn) (hdb:=hdb) (he:=he) (hpl:=hpl)⟩
theorem jbS {T:String} {r:RDn} (hc:jc7 X (.type T) r) (hg:Gl X x) (hm:X.mg x=none) (hv:bootBuiltins x=some (.type T)) (ha:JA X (e::es) t) (hn:x≠ "__name__" :=by decide) (hdb:(x==("__debug__" :Str))=false:=by decide) (he:starEach (e::es) X.env=(false,eval e X.env)::starEach es X.env:=by rfl) (hpl:(backTo pos (starEach es X.env)).any (·.1)=false:=by rfl):JE X (.Call (.Name x p) (e::es) [] pos) (dCB r t):=⟨jnp (hc:=hc) (hg:=hg) (hm:=hm) (hv:=hv) (ha:=ha.to) (hn:=hn) (hdb:=hdb) (he:=he) (hpl:=hpl)⟩
end
section
variable {X:Cx} {iter elt:Expr} {te:TED} {ti:TID} {tt:TTD} {pos spos:Pos} {scope:Scope} {js:List Nat} {ifs:List Expr}
theorem jgN {i k:Nat} {x y:Str} {p py:Pos} (hc:X.calm=true) (hN:X.N.Nodup) (hk:X.N[k]? =some y) (hy:Loc X.env.scope y) (S:BlockOk X scope js) (hi:JI X (.Name x p) iter ti) (hj:i∈js) (hx:X.N[i]? =some x) (hl:scope.names.lookup x=some .local∨scope.names.lookup x=some .cell) (ht: ∀X',jat X scope X' →PTs X' ifs (LT X'.K tt)) (he: ∀X',jat X scope X' →JE X' elt te) (hsw:swapsWith (.ListComp elt [⟨.Name x p,iter,ifs,0⟩] scope pos) (some (.Name y py)) spos.line X.env=pure true:=by rfl) (hf:X.fn y=true∨X.env.scope.names.lookup y=some .local:=by first|exact .inl rfl|exact .inr rfl|assumption) (hs: ∀x,foldedSetIterable iter X.env x=pure x:=by intro _;rfl):JS X (.Assign [.Name y py] (.ListComp elt [⟨.Name x p,iter,ifs,0⟩] scope pos) spos) (jd6 k (jev (bN i) js ti tt te)):=⟨jpR (hc:=hc) (hN:=hN) (hk:=hk) (hy:=hy) (S:=S) (hi:=hi.to) (hj:=hj) (hx:=hx) (hl:=hl) (ht:=ht) (he:=fun X' hX=>(he X' hX).to) (hsw:=hsw) (hf:=hf) (hs:=hs)⟩
end
section
variable {X:Cx} {a b e:Expr} {ta tb te:TED} {pos p2:Pos}
theorem jix (ha:JE X a ta) (hb:JE X b tb) (hs:jhr b):JE X (.Subscript a b pos) (dOp ixD ta tb):=⟨qix (ha:=ha.to) (hb:=hb.to) (hs:=hs)⟩
end
theorem jlu {X:Cx} {a:Expr} {ta:TED} {T:String} {t:Str} {p p2 pos:Pos} (hT:T∈ ["tuple","int","bool","list","str"]) (hg:Gl X "isinstance") (hm:X.mg "isinstance" =none) (hg2:Gl X t) (hm2:X.mg t=none) (hv:bootBuiltins t=some (.type T)) (ha:JE X a ta) (hn:t≠ "__name__" :=by decide) (hd:(t==("__debug__" :Str))=false:=by decide) (h1:starEach [a,.Name t p2] X.env=(false,eval a X.env)::starEach [.Name t p2] X.env:=by rfl) (h2:(backTo pos (starEach [.Name t p2] X.env)).any (·.1)=false:=by rfl):JE X (.Call (.Name "isinstance" p) [a,.Name t p2] [] pos) (dIs T ta):=⟨jrJ (hT:=hT) (hg:=hg) (hm:=hm) (hg2:=hg2) (hm2:=hm2) (hv:=hv) (ha:=ha.to) (hn:=hn) (hd:=hd) (h1:=h1) (h2:=h2)⟩
section
variable {X:Cx} {o e i:Expr} {to te ti:TED} {apos cpos pos:Pos}
theorem joK (ho:JE X o to) (he:JE X e te) (hbase:attributeBase o "append" X.env (eval o X.env)=eval o X.env:=by rfl) (hfew:((backTo cpos (starEach [e] X.env)).all (fun x=> !x.1)&&(backToKw cpos (keywordEach [] X.env)).all (fun x=>x.1.isSome)&&decide ([e].length+([]:List Keyword).length+(if ([]:List Keyword).isEmpty then 0 else 1)<30))=true:=by rfl) (hline:(apos.endLine==cpos.line)=true:=by rfl) (hs:starEach [e] X.env=(false,eval e X.env)::starEach [] X.env:=by rfl) (hplain:(backTo cpos (starEach [] X.env)).any (·.1)=false:=by rfl):JE X (.Call (.Attribute o "append" apos) [e] [] cpos) (jfo to te):=⟨js0 (ho:=ho.to) (he:=he.to) (hbase:=hbase) (hfew:=hfew) (hline:=hline) (hs:=hs) (hplain:=hplain)⟩
theorem jgO (ho:JE X o to) (hi:JE X i ti) (ha: ∀v,assign (.Subscript o i pos) X.env v=(do
 let ov ←holding [v] (eval o X.env)
 let iv ←holding [v,ov] (eval i X.env)
 standAt pos
 holding [v,ov,iv] (setItem ov iv v)
 release [v,ov,iv] []):=by intro _;rfl):JG X (.Subscript o i pos) (jcd to ti):=⟨jpZ (ho:=ho.to) (hi:=hi.to) (ha:=ha)⟩
end
theorem jpt {X:Cx} {e:Expr} {t:TTD} (h:JW X e t):JT X e t:=⟨qpt (h:=h.to)⟩
theorem jjX {X:Cx} {e:Expr} {te:TED} (he:JE X e te):JO X (some e) (jce te):=⟨jnv (he:=he.to)⟩
theorem jqb {X:Cx} {e:Expr} {te:TED} {lo hi:Option Expr} {tl th:TOD} {pos p2:Pos} (he:JE X e te) (hl:JO X lo tl) (hu:JO X hi th):JE X (.Subscript e (.Slice lo hi none p2) pos) (dSl te tl th):=⟨jp0 (he:=he.to) (hl:=hl.to) (hu:=hu.to)⟩
theorem jrN {X:Cx} {a:Expr} {ta:TED} {pos:Pos} (ha:JE X a ta):JE X (.UnaryOp .USub a pos) (dUn jfq ta):=⟨js2 (ha:=ha.to)⟩
theorem jbY {X:Cx} {tg e:Expr} {te:TED} (he:JE X e te):JI X tg e (iS te):=⟨jp4 (he:=he.to)⟩
theorem jh4 {X:Cx} {st:Stmt}:JS X st jbb:=⟨jp5⟩
theorem jac {X:Cx} {e:Expr} {es:List Expr} {te:TED} {t:TAD} (ha:JE X e te) (hr:JA X es t) (h:jhw e=true:=by rfl):JA X (e::es) (jbq te t):=⟨qac (ha:=ha.to) (hr:=hr.to) (h:=h)⟩
section
variable {X:Cx} {o e i:Expr} {to te ti:TED} {apos cpos:Pos}
theorem js6 (ho:JE X o to) (hi:JE X i ti) (he:JE X e te) (hbase:attributeBase o "insert" X.env (eval o X.env)=eval o X.env:=by rfl) (hfew:((backTo cpos (starEach [i,e] X.env)).all (fun x=> !x.1)&&(backToKw cpos (keywordEach [] X.env)).all (fun x=>x.1.isSome)&&decide ([i,e].length+([]:List Keyword).length+(if ([]:List Keyword).isEmpty then 0 else 1)<30))=true:=by rfl) (hline:(apos.endLine==cpos.line)=true:=by rfl) (hs:starEach [i,e] X.env=(false,eval i X.env)::starEach [e] X.env:=by rfl) (hs2:starEach [e] X.env=(false,eval e X.env)::starEach [] X.env:=by rfl) (hplain:(backTo cpos (starEach [e] X.env)).any (·.1)=false:=by rfl):JE X (.Call (.Attribute o "insert" apos) [i,e] [] cpos) (jfr to ti te):=⟨js3 (ho:=ho.to) (hi:=hi.to) (he:=he.to) (hbase:=hbase) (hfew:=hfew) (hline:=hline) (hs:=hs) (hs2:=hs2) (hplain:=hplain)⟩
end
section
variable {P:Program} {w:World} {K:PySem.W.Frag} {mg:Str→Option Value} {base:Heap}
theorem Fun.okJ {x qual:Str} {st:Stmt} {f:Addr} {fd:FuncData} {N ps:List Str} {k:Nat} {spd:RDn} (F:Fun K x qual st f fd) (S:FnScope N ps (jab st)) (len: ∀ds h Q,spd ds h Q→ds.length=ps.length)
 (tb:TSD) (hbody: ∀ (cdv:Value) (A:Around) (outer:List Env) (s:Shared) (H:Hp) (E:XK),Room k (A.deeper (envOfC qual (jab st) s.heap.objs.size f cdv))→JSs (jfI CX0 P w K mg base N qual (jab st) f cdv A outer s H E).nox (jal st) tb)
 (read: ∀ds h Q,spd ds h Q→tb (jdW Q) (jaB N ds) h):FnOk P w K mg base CX0 (k+1) f fd ps (LSp K spd):=F.okD S len tb (fun cdv A outer s H E hr=>(hbody cdv A outer s H E hr).to) read
end
def je5 (r:List Int):D:= .tup (r.map D.int)
def jbj (T:List (List Int)):D:= .tup (T.map je5)
def jcn (n:Nat) (r:List Int):Prop:=r.length=n∧ ∀x∈r,0≤x∧x≤1000000
def GoodTab (n:Nat) (T:List (List Int)):Prop:=T.length=n∧ ∀r∈T,jcn n r
structure Sq (n e:Nat) (T:List (List Int)):Prop where
 len:T.length=n
 row: ∀r∈T,r.length=n
 nn: ∀r∈T,∀x∈r,0≤x
 bit: ∀r∈T,∀x∈r,x<2^e
theorem GoodTab.sq {n:Nat} {T:List (List Int)} (g:GoodTab n T):Sq n 20 T:=⟨g.1,fun r hr=>(g.2 r hr).1,fun r hr x hx=>((g.2 r hr).2 x hx).1,fun r hr x hx=>Int.lt_of_le_of_lt ((g.2 r hr).2 x hx).2 (by decide)⟩
def ent (T:List (List Int)) (i j:Nat):Int:=(T.getD i []).getD j 0
def mkT (n:Nat) (f:Nat→Nat→Int):List (List Int):=(List.range n).map fun i=>(List.range n).map fun j=>f i j
theorem jdm {α:Type} (xs:List α) (d:α):xs=(List.range xs.length).map fun i=>xs.getD i d:=by
 apply List.ext_getElem (by simp)
 intro i h1 h2
 simp [G0M,h1]
theorem Sq.ent_nn {n e:Nat} {T:List (List Int)} (h:Sq n e T) {i j:Nat} (hi:i<n) (hj:j<n):0≤ent T i j∧ent T i j<2^e:=by
 have hi' :i<T.length:=by rw [h.len];exact hi
 have hr:T.getD i []=T[i]:=by rw [G0M,G0c hi'];rfl
 have hm:T[i]∈T:=G1i hi'
 have hj' :j<T[i].length:=by rw [h.row _ hm];exact hj
 have he:ent T i j=T[i][j]:=by unfold ent;rw [hr,List.getD_eq_getElem?_getD,List.getElem?_eq_getElem hj'];rfl
 rw [he]
 exact⟨h.nn _ hm _ (G1i hj'),h.bit _ hm _ (G1i hj')⟩
def jrO (n:Nat) (f:Nat→Int):Int:=((List.range n).map f).sum
def jsq (n:Nat) (T U:List (List Int)):List (List Int):=mkT n fun i j=>jrO n fun k=>ent T i k*ent U k j
def js7 (n:Nat):List (List Int):=mkT n fun i j=>if i=j then 1 else 0
def jrP (n:Nat) (T:List (List Int)):Nat→List (List Int)
 |0=>js7 n
 |k+1=>jsq n (jrP n T k) T
def jqc (n:Nat) (T:List (List Int)):List (List Int):=mkT n fun i j=>if ent T i j=0 then 0 else 1
structure Ord (n:Nat) (o:List Nat):Prop where
 len:o.length=n
 all: ∀i,i<n→i∈o
def jrQ (i j:Int):Prop:= ∃m n:Nat,i.natAbs<2^m∧j.natAbs<2^n∧m+n≤134217728
def jgv:RD2:=fun x y h Q=>match x,y with
 | .int i,.int j=>jrQ i j∧Q (.int (i*j)) h
 |_,_=>False
theorem jjY {x:Int} {e:Nat} (h0:0≤x) (h1:x<2^e):x.natAbs<2^e:=by
 have:((2^e:Nat):Int)=2^e:=by simp
 omega
section
variable {α β:Type} {i i' :Nat} {js:List Nat} {ti ti' :TID} {te:TED} {σ:SD} {h:HD} {Q:KD} {j:ItD}
theorem lcA (xs:List α) (c g:α→D) (hz:xs.length≤1000) (hj:j h=some (xs.map c)) (ht: ∀R:ItD→HD→Prop,R j h→ti σ h R)
 (he: ∀x∈xs,∀Q' :KD,Q' (g x) h→te ((jaH js σ).set i (some (c x))) h Q') (hq: ∀p,h p=none→Q (.lst p) (jbi h p (xs.map g))):jev (bN i) js ti jht te σ h Q:=by
 refine ht _ ⟨xs.length,fun k ys h' =>h' =h∧ys=(xs.take k).map g,⟨rfl,by simp⟩,?_⟩
 rintro k ys h' ⟨rfl,rfl⟩
 refine⟨by simp only [G0a,G0B];exact G0T (jar (by omega)),xs.map c,hj,by simp,fun hl p hp=> ?_,fun d hd=>⟨_,rfl,?_⟩⟩
 ·rw [G0F (by simpa using hl)];exact hq p hp
 ·unfold jht
  dsimp only
  rw [if_pos rfl]
  rw [G0o] at hd
  cases hx:xs[k]? with
  |none=>rw [hx] at hd;cases hd
  |some x=>
   rw [hx] at hd;cases hd
   refine he x (G0i hx) _ ⟨h',Sub.refl _,rfl,?_⟩
   rw [G1E,hx]
   simp
theorem lcF (xs:List α) (c g:α→D) (p:α→Bool) {tt:TTD} (hz:xs.length≤1000) (hj:j h=some (xs.map c)) (ht: ∀R:ItD→HD→Prop,R j h→ti σ h R)
 (hp: ∀x∈xs,∀Q' :Bool→HD→Prop,Q' (p x) h→tt ((jaH js σ).set i (some (c x))) h Q') (he: ∀x∈xs,p x=true→ ∀Q' :KD,Q' (g x) h→te ((jaH js σ).set i (some (c x))) h Q') (hq: ∀a,h a=none→Q (.lst a) (jbi h a ((xs.filter p).map g))):jev (bN i) js ti tt te σ h Q:=by
 refine ht _ ⟨xs.length,fun k ys h' =>h' =h∧ys=((xs.take k).filter p).map g,⟨rfl,by simp⟩,?_⟩
 rintro k ys h' ⟨rfl,rfl⟩
 refine⟨?_,xs.map c,hj,by simp,fun hl a ha=> ?_,fun d hd=>⟨_,rfl,?_⟩⟩
 ·have:=G1N p (xs.take k)
  simp only [G0a,G0B] at this ⊢
  exact G0T (jar (by omega))
 ·rw [G0F (by simpa using hl)];exact hq a ha
 ·rw [G0o] at hd
  cases hx:xs[k]? with
  |none=>rw [hx] at hd;cases hd
  |some x=>
   rw [hx] at hd;cases hd
   refine hp x (G0i hx) _ ?_
   cases hb:p x with
   |true=>
    rw [if_pos rfl]
    refine he x (G0i hx) hb _ ⟨h',Sub.refl _,rfl,?_⟩
    rw [G1E,hx]
    simp [hb]
   |false=>
    rw [if_neg G0q]
    refine⟨h',Sub.refl _,rfl,?_⟩
    rw [G1E,hx]
    simp [hb]
theorem js8 (xs:List α) (c g:α→D) (hz:xs.length≤1000) (hj:j h=some (xs.map c)) (ht: ∀R:ItD→HD→Prop,R j h→ti σ h R)
 (he: ∀x∈xs,∀Q' :KD,Q' (g x) h→te ((jaH js σ).set i (some (c x))) h Q') (hq:Q (.tup (xs.map g)) h):dCB jaN (jbq (jev (bN i) js ti jht te) jd0) σ h Q:=by
 show jev (bN i) js ti jht te σ h (fun x h1=>jaN [x] h1 Q)
 exact lcA xs c g hz hj ht he fun p hp=>(show ∃ys,jbi h p (xs.map g) p=some ys∧Q (.tup ys) (jeu (jbi h p (xs.map g)) p) from ⟨_,jaa,by rw [jcH hp];exact hq⟩)
theorem jqd (xs:List α) (c g:α→D) (p:α→Bool) {tt:TTD} (hz:xs.length≤1000) (hj:j h=some (xs.map c)) (ht: ∀R:ItD→HD→Prop,R j h→ti σ h R)
 (hp: ∀x∈xs,∀Q' :Bool→HD→Prop,Q' (p x) h→tt ((jaH js σ).set i (some (c x))) h Q') (he: ∀x∈xs,p x=true→ ∀Q' :KD,Q' (g x) h→te ((jaH js σ).set i (some (c x))) h Q') (hq:Q (.tup ((xs.filter p).map g)) h):dCB jaN (jbq (jev (bN i) js ti tt te) jd0) σ h Q:=by
 show jev (bN i) js ti tt te σ h (fun x h1=>jaN [x] h1 Q)
 exact lcF xs c g p hz hj ht hp he fun a ha=>(show ∃ys,jbi h a ((xs.filter p).map g) a=some ys∧Q (.tup ys) (jeu (jbi h a ((xs.filter p).map g)) a) from ⟨_,jaa,by rw [jcH ha];exact hq⟩)
end
end L2
namespace L2
open PySem PySem.Spec PyProof.Rows PySem.SeqAt
def jrR (j:ItD):TID:=fun _ h R=>R j h
theorem jlv {b:D→SD→SD→Prop} {js:List Nat} {ti:TID} {tt:TTD} {te:TED} {σ:SD} {h:HD} {Q:KD} (x:ti σ h fun j h1=>jev b js (jrR j) tt te σ h1 Q):jev b js ti tt te σ h Q:=x
def jaA (o:List Nat):D:= .tup (o.map fun (k:Nat)=>D.int (k:Int))
def Ordr (n:Nat) (o:List Nat):Prop:=o.Perm (List.range n)
theorem Ordr.ord {n:Nat} {o:List Nat} (h:Ordr n o):Ord n o:=⟨by rw [h.length_eq,G0L],fun i hi=>h.mem_iff.mpr (G0z.mpr hi)⟩
def je6 (o:List Nat):List Int:=o.map fun (k:Nat)=>(k:Int)
theorem jnA (o:List Nat):jaA o= .tup ((je6 o).map D.int):=by unfold jaA je6;rw [List.map_map];rfl
theorem Ordr.insert {n:Nat} {o:List Nat} (h:Ordr n o) (k:Nat):Ordr (n+1) (o.take k++n::o.drop k):=by
 unfold Ordr
 rw [G1D]
 refine G4n.trans ?_
 rw [G0O]
 exact(List.Perm.cons n h).trans (List.perm_append_singleton n _).symm
theorem jdn (h:HD): ∀ns:List Int,ToPs h (ns.map D.int) (ns.map PyData.int)
 | []=>rfl
 |n::ns=>⟨_,_,rfl,rfl,jdn h ns⟩
theorem jc9: ∀ns:List Int,PyData.canLayAll0 (ns.map PyData.int)=true
 | []=>rfl
 |n::ns=>by show (PyData.canLay0 (.int n)&&_)=true;rw [jc9 ns];rfl
theorem jdJ: ∀ns:List Int,PyData.depthAll (ns.map PyData.int)≤1
 | []=>by simp [PyData.depthAll]
 |n::ns=>by
  have:=jdJ ns
  simp only [G0G,PyData.depthAll,PyData.depth];omega
theorem jez (ns:List Int):shaped (.list (ns.map .int))=true:=by
 unfold shaped
 have h1:PyData.canLay0 (.list (ns.map .int))=true:=by simp only [PyData.canLay0];exact jc9 ns
 have h2:=jdJ ns
 have h3:PyData.depth (.list (ns.map .int))≤64:=by simp only [PyData.depth];omega
 rw [h1,G0I h3];rfl
def jmt (r:List Int):PyData:= .tuple (r.map .int)
def jsr (T:List (List Int)):PyData:= .tuple (T.map jmt)
theorem jeA {n e:Nat} {T:List (List Int)} (h:Sq n e T) {i:Nat} (hi:i<n):atI (T.map je5) (i:Int)=some (je5 (T.getD i [])):=by
 have hi' :i<T.length:=by rw [h.len];exact hi
 exact jbQ (by rw [G0o,G0M,G0c hi'];rfl)
theorem Sq.getRow {n e:Nat} {T:List (List Int)} (h:Sq n e T) {i:Nat} (hi:i<n):T.getD i []∈T:=by
 have hi' :i<T.length:=by rw [h.len];exact hi
 rw [G0M,G0c hi'];exact G1i hi'
theorem jeB {n:Nat} {r:List Int} (h:r.length=n) {j:Nat} (hj:j<n):atI (r.map D.int) (j:Int)=some (.int (r.getD j 0)):=by
 have hj' :j<r.length:=by rw [h];exact hj
 exact jbQ (by rw [G0o,G0M,G0c hj'];rfl)
section
variable {prog:Program} {w:World} {A:Around} {E:Value→Shared→Prop} {s:Shared}
theorem jjZ {it t:Addr} {i n:Nat} {items:Array Value} {d1 d2:Option Addr} {s1 s2:Array (Option Value)} {P:PySem.Fin→Shared→Prop} (a1:s.heap.get? it=some {cls:= .type "tuple_iterator",dict:=d1,data:= .fields #[.ref t,.int i 0],slots:=s1}) (a2:s.heap.get? t=some {cls:= .type "tuple",dict:=d2,data:= .seq items n,slots:=s2})
 (more: ∀x h',items[i]? =some x→h'.IsTupleIter it t (i+1)→Heap.SameBut it s.heap h' →P (.done (.ret x)) {s with heap:=h'})
 (none_:items[i]? =none→wpAny (model prog w) A (do setField (.ref it) 0 .none;Builtin.SmallTypes.stopIteration) P E s):wpAny (model prog w) A (Builtin.«tuple_iterator.__next__» ⟨[.ref it],[]⟩) P E s:=by
 obtain⟨hp,g,d,tk,os⟩:=s
 wp_walk
 rw [G18]
 cases hx:items[i]? with
 |none=>exact wpAny_bind (G3L (none_ hx))
 |some x=>
  refine wpAny_bind (wpAny_setField a1 rfl (by simp) (G0e (more x _ hx ⟨_,G02 _ a1 ?_,rfl,?_⟩ (G08 ..))))
  ·rfl
  ·simp [Obj.mapFields,rawInt]
theorem jeC {Q:PySem.Fin→Shared→Prop} (hh:A.handled=none) (hE: ∀h' e,(∀b o,s.heap.get? b=some o→h'.get? b=some o)→(∃o,h'.get? e=some o∧o.cls= .type "StopIteration")→E (.ref e) {s with heap:=h'}):wpAny (model prog w) A Builtin.SmallTypes.stopIteration Q E s:=by
 obtain⟨hp,g,d,tk,os⟩:=s
 unfold Builtin.SmallTypes.stopIteration
 wp_walk
 unfold raiseNew
 refine wpAny_bind (wpAny_handled ?_)
 rw [hh]
 exact wpAny_bind (G0e (wpAny_throw (hE _ _ (fun b o q=>G0b _ (G0b _ q)) ⟨_,G0x _ rfl,rfl⟩)))
theorem jiL {it t:Addr} {i:Nat} {items:Array Value} {x:Value} {Q:Value→Shared→Prop} (hit:s.heap.IsTupleIter it t i) (ht:s.heap.IsTuple t items) (hx:items[i]? =some x)
 (hQ: ∀h',h'.IsTupleIter it t (i+1)→Heap.SameBut it s.heap h' →Q x {s with heap:=h'}):wpAny (model prog w) A (Builtin.SmallTypes.nextOf (.ref it)) Q E s:=by
 obtain⟨⟨c,d1,dt,s1⟩,ho,rfl,rfl⟩:=id hit
 obtain⟨⟨c2,d2,dt2,s2⟩,hol,rfl,nl,rfl⟩:=ht
 exact wpAny_bind (G1P hit.typeIs G2q (G1C G2q hit.typeIs G3R (jjZ ho hol (fun y h' e b1 b2=>⟨y,rfl,G0e (by rw [hx] at e;cases e;exact hQ h' b1 b2)⟩) fun e=>by rw [hx] at e;cases e) (G3K _)))
theorem jc3 {it t:Addr} {i:Nat} {items:Array Value} {Q:Value→Shared→Prop} (hh:A.handled=none) (hit:s.heap.IsTupleIter it t i) (ht:s.heap.IsTuple t items) (hx:items[i]? =none)
 (hE: ∀h' e,Heap.ExtBut it s.heap h' →(∃o,h'.get? e=some o∧o.cls= .type "StopIteration")→E (.ref e) {s with heap:=h'}):wpAny (model prog w) A (Builtin.SmallTypes.nextOf (.ref it)) Q E s:=by
 obtain⟨⟨c,d1,dt,s1⟩,ho,rfl,rfl⟩:=id hit
 obtain⟨⟨c2,d2,dt2,s2⟩,hol,rfl,nl,rfl⟩:=ht
 refine wpAny_bind (G1P hit.typeIs G2q (G1C G2q hit.typeIs G3R (jjZ ho hol (fun y h' e b1 b2=>by rw [hx] at e;cases e) fun _=>wpAny_bind (wpAny_setField ho rfl (by simp) ?_)) (G3K _)))
 exact jeC (s:= {s with heap:=_}) hh fun h' e grown stop=>hE h' e (fun b o ne q=>grown b o ((G08 ..).extBut b o ne q)) stop
end
theorem jj0 {prog:Program} {w:World} {A:Around} (hh:A.handled=none) (it t:Addr) (hne:t≠it) (items:Array Value):
 Draws prog w A it [it,t] items.size (fun i v=>items[i]? =some v) (fun i h=>h.IsTupleIter it t i∧h.IsTuple t items) where
 live:=fun _ _ st=>let ⟨o,ho,_⟩:=st.1;⟨o,ho⟩
 frame:=fun _ _ _ st hk=>⟨st.1.at fun o e=>hk it (by simp) o e,st.2.at fun o e=>hk t (by simp) o e⟩
 item:=fun i s Q E hi st hQ=>jiL st.1 st.2 (x:=items[i]) (by simp [hi]) fun h' hit' hs' =>hQ _ h' s.toks (by simp [hi]) ⟨hit',st.2.extBut hs'.extBut hne⟩ hs'
 done:=fun s Q E st hE=>jc3 hh st.1 st.2 (by simp) hE
theorem jj1 {prog:Program} {w:World} {A:Around} (hh:A.handled=none) (it t:Addr) (items:Array Value) (n:Nat) (hn:items.size≤n):
 Draws prog w A it [it,t] n (fun _ _=>False) (fun i h=>i=n∧h.IsTupleIter it t n∧h.IsTuple t items) where
 live:=fun _ _ st=>let ⟨o,ho,_⟩:=st.2.1;⟨o,ho⟩
 frame:=fun _ _ _ st hk=>⟨st.1,st.2.1.at fun o e=>hk it (by simp) o e,st.2.2.at fun o e=>hk t (by simp) o e⟩
 item:=fun i s Q E hi st hQ=>absurd st.1 (G0J hi)
 done:=fun s Q E st hE=>jc3 hh st.2.1 st.2.2 (G4r hn) hE
set_option maxHeartbeats 1000000 in
section
variable {prog:Program} {w:World} {A:Around} {E:Value→Shared→Prop} {s:Shared}
theorem jj2 {l:Addr} {its:Array Value} {P:PySem.Fin→Shared→Prop} (at_:s.heap.IsTuple l its)
 (h: ∀h',IsEnum h' (s.heap.objs.size+1) s.heap.objs.size 0 .none→h'.IsTupleIter s.heap.objs.size l 0→(∀b o,s.heap.get? b=some o→h'.get? b=some o)→P (.done (.ret (.ref (s.heap.objs.size+1)))) {s with heap:=h'}):
 wpAny (model prog w) A (Builtin.«enumerate.__new__» ⟨[.type "enumerate",.ref l],[]⟩) P E s:=by
 have fine:=sub_enumerate
 obtain⟨⟨c,dd,dt,sl⟩,there,rfl,n,rfl⟩:=id at_
 obtain⟨hp,g,d,tk,os⟩:=s
 have size: ∀o,(hp.push o).objs.size=hp.objs.size+1:=fun o=>G3x ..
 have made:=G0x (hp.push {cls:= .type "tuple_iterator",data:= .fields #[.ref l,.int 0 0]}) (o:= {cls:= .type "enumerate",data:= .fields #[.none,.bool false,.ref hp.objs.size,rawInt 0,.none,.none]}) rfl
 have fin:=h _ (by rw [←size];exact made) ⟨_,G0b _ (G0x _ rfl),rfl,rfl⟩ fun b o old=>G0b _ (G0b _ old)
 rw [←size {cls:= .type "tuple_iterator",data:= .fields #[.ref l,.int 0 0]}] at fin
 wp_walk using G3a there
 refine wpAny_stack_any fun calls=>G0e ?_
 split
 case h_1 c _ _ _ _ _=>cases c==Value.type "enumerate" <;>(wp_walk using G3a there,G2R at_;exact fin)
 case h_2=>wp_walk using G3a there,G2R at_;exact fin
theorem jf1 {l:Addr} {items:Array Value} {Q:Value→Shared→Prop} (hL:s.heap.IsTuple l items)
 (h: ∀h',IsEnum h' (s.heap.objs.size+1) s.heap.objs.size 0 .none→h'.IsTupleIter s.heap.objs.size l 0→(∀b o,s.heap.get? b=some o→h'.get? b=some o)→Q (.ref (s.heap.objs.size+1)) {s with heap:=h'}):
 wpAny (model prog w) A (call (.type "enumerate") [.ref l]) Q E s:=
 callType_new F.called_enumerate (by decide) (F.typeCall_enumerate_1 _) (F.newCall_enumerate_1 _) (fun _=>F.args_object_init_2 _ _) F.entry_enumerate_new
  (S:=fun _ R s=>s.heap.IsTuple l items∧ ∀h',IsEnum h' (s.heap.objs.size+1) s.heap.objs.size 0 .none→h'.IsTupleIter s.heap.objs.size l 0→(∀b o,s.heap.get? b=some o→h'.get? b=some o)→R (.ok (.ret (.ref (s.heap.objs.size+1)))) {s with heap:=h'})
  (.of_wp fun _ _ _ _ _ ⟨tup,k⟩=>jj2 tup fun h' e i old=>⟨_,rfl,k h' e i old⟩) ⟨hL,fun h' e i old=>⟨⟨_,e,rfl⟩,h h' e i old⟩⟩
end
section
variable {X:Cx} {pins:List (Addr×Obj)} {σ:List (Option V)} {H:Hp} {s:Shared} {h' :Heap}
theorem Inv.turnL {t' :Nat} {ch:List Addr} (I:Inv X pins σ H s) (k: ∀b o,b ∉ ch→s.heap.get? b=some o→h'.get? b=some o) (hc: ∀b∈ch,jjf X pins H b):Inv X pins σ H {s with heap:=h',toks:=t'}:=by
 refine I.step (g' :=s.gens) (d' :=s.drawn) (ch:=ch) (fun b hb=>let ⟨_,f1,_,f3,f4,f5⟩:=hc b hb;⟨f3,f1,f4,f5⟩) (fun b o _ _ nb e _=>k b o nb e) (fun b o _ _ nb e _=>⟨o.slots,k b o nb e⟩) (fun _ _ _ _ n=>n)
  (fun b o nb e=>⟨o,k b o nb e⟩) (fun _ _ e=>e) (fun _ _ _ e=>e) (fun b ps e=>⟨#[],by rw [e];simp⟩) (fun m hm=> ?_) (fun b u e=> ?_) I.bare
 ·obtain⟨o,es,ep,ho,r⟩:=hm
  exact⟨o,es,ep,k _ o (fun z=>(hc _ z).2.1 rfl) ho,r⟩
 ·refine(I.hok b u e).stay (fun c v hb q=>k c v (fun z=> ?_) q) (fun _ q=>q) fun _ _ q=>q
  have f:=(hc c z).1
  rcases hb with w|w
  ·rw [w,e] at f;cases f
  ·rw [w] at f;cases f
theorem Inv.turnLaid {t' :Nat} {ch:List Addr} {a:Addr} {o:HO} (I:Inv X pins σ H s) (k: ∀b u,b ∉ ch→s.heap.get? b=some u→h'.get? b=some u) (hc: ∀b∈ch,jjf X pins H b) (hp:s.heap.objs.size≤a)
 (new:ObjOk X.prog X.w (upd H a o) h' a o):Inv X pins σ (upd H a o) {s with heap:=h',toks:=t'}:=by
 have hn:=I.hok.fresh hp
 refine I.step (g' :=s.gens) (d' :=s.drawn) (ch:=ch) (fun b hb=>let ⟨_,f1,_,f3,f4,f5⟩:=hc b hb;⟨f3,f1,f4,f5⟩) (fun b u _ _ nb e _=>k b u nb e) (fun b u _ _ nb e _=>⟨u.slots,k b u nb e⟩)
  (fun b u _ e n=>by rw [jaj (G0J (G0D (G0l e) hp))];exact n) (fun b u nb e=>⟨u,k b u nb e⟩) (fun b xs q=>by rw [jaj (jan q hn)];exact q) (fun b u xs q=>by rw [jaj (jan q hn)];exact q)
  (fun b ps q=>⟨#[],by rw [jaj (jan q hn),q];simp⟩) (fun m hm=> ?_) (fun b u e=> ?_) I.bare
 ·obtain⟨u,es,ep,ho,r⟩:=hm
  exact⟨u,es,ep,k _ u (fun z=>(hc _ z).2.1 rfl) ho,r⟩
 ·by_cases hb:b=a
  ·subst hb;rw [jam] at e;cases e;exact new
  ·rw [jaj hb] at e
   refine(I.hok b u e).stay (fun c v hb q=>k c v (fun z=> ?_) q) (fun c q=>by rw [jaj (jan q hn)];exact q) fun c xs q=>by rw [jaj (jan q hn)];exact q
   have f:=(hc c z).1
   rcases hb with w|w
   ·rw [w,e] at f;cases f
   ·rw [w] at f;cases f
end
def Ite (K:PySem.W.Frag) (a:Addr):It:=
 ⟨fun i H=> ∃xs x,SqT K H a xs∧xs[i]? =some x,fun i H x H' => ∃p v,H p=none∧(∀xs,SqT K H a xs→xs[i]? =some v)∧x= .ref p∧H' =upd H p (.tup [.int i,v]),fun i H=> ∃xs,SqT K H a xs∧xs.length≤i⟩
theorem jj3 {P:Program} {w:World} {K:PySem.W.Frag} {es:List Expr} {k:Nat} {pos:Pos} (a it e:Addr) (hei:e≠it) (hae:a≠e) (hai:a≠it):Turn P w K (.Tuple es k pos) (Ite K a) [e,it] e (fun i h=>(∃old,IsEnum h e it i old)∧h.IsTupleIter it a i) where
 mem:=by simp
 obj:=fun i h st b hb=>by
  rcases G0n.mp hb with z|z
  ·subst z;obtain⟨old,q⟩:=st.1;exact⟨_,q,fun v z=>by cases z⟩
  ·have z:=G0g.mp z
   subst z;obtain⟨o,q,c,d⟩:=st.2;exact⟨o,q,fun v z=>by rw [d] at z;cases z⟩
 keep:=fun i h h' st k=>⟨let ⟨old,q⟩:=st.1;⟨old,k e (by simp) _ q⟩,st.2.at fun o q=>k it (by simp) o q⟩
 item:=by
  intro X hP hw hK hc i pins s σ H E I hf st hg
  subst hP hw hK
  obtain⟨xs,x,hq,hx⟩:=hg
  obtain⟨its,rv,p,hz⟩:=I.tuple hq
  obtain⟨u,hu,ru⟩:=rv.get hx
  have hi:i<its.toArray.size:=by have:=(G0k.mp hu).1;simpa using this
  obtain⟨old,he⟩:=st.1
  have helt:e<s.heap.objs.size:=G0l he
  refine wpAny_pyNext_enum_itemD (jj0 (prog:=X.prog) (w:=X.w) (A:=X.A.in1) (I.ok.hd hc) it a hai its.toArray) he ⟨st.2,p⟩ hi hei (by simp [hei,Ne.symm hae]) fun x' h' tk hx' ho hs' hT hsz hk=> ?_
  have ex:x' =u:=G1y (hx'.symm.trans (show its.toArray[i]? =some u by simpa using hu))
  subst ex
  refine⟨_,rfl,wpAny_letOwnedTupleGo_enum ho fun h2 he2 hs2=> ?_⟩
  have hn:H s.heap.objs.size=none:=I.hok.fresh (G0f _)
  have hT2:h2.get? s.heap.objs.size=some {cls:= .type "tuple",data:= .seq #[.int i tk,x']}:=(hs2.2 _ (G2j helt)).trans hT
  refine⟨.ref s.heap.objs.size,upd H s.heap.objs.size (.tup [.int i,x]),?_,rfl,⟨_,x,hn,fun ys hy=>by rw [I.tuple_inj hy hq];exact hx,rfl,rfl⟩,⟨⟨x',by simpa using he2⟩,hs'.1.at fun o y=>(hs2.2 it (Ne.symm hei)).trans y⟩,fun b hb=> ?_⟩
  ·refine I.turnLaid (h' :=h2) (t' :=tk+1) (ch:= [e,it]) (fun b u hb q=> ?_) hf (G0f _) ⟨by show 2≤sizeLine;decide,[.int i tk,x'],.cons ⟨tk,rfl⟩ (.cons ru .nil),⟨_,hT2,rfl,rfl,_,rfl⟩⟩
   have b1:b≠e:=fun z=>hb (by simp [z])
   have b2:b≠it:=fun z=>hb (by simp [z])
   exact(hs2.2 b b1).trans (hk b u b1 b2 q)
  ·have f:=(hf b hb).1
   have:b≠s.heap.objs.size:=fun z=>by
    rcases G0n.mp hb with w|w
    ·rw [←w,z] at helt;exact absurd helt (G0W _)
    ·have w:=G0g.mp w
     obtain⟨o,ho',_⟩:=st.2
     have:=G0l ho'
     rw [←w,z] at this;exact absurd this (G0W _)
   rw [jaj this];exact f
 done:=by
  intro X hP hw hK hc i pins s σ H E I hf st hg
  subst hP hw hK
  obtain⟨xs,hq,hx⟩:=hg
  obtain⟨its,rv,p,hz⟩:=I.tuple hq
  obtain⟨old,he⟩:=st.1
  have hl:=rv.length
  refine wpAny_pyNext_enum_endD (jj1 (prog:=X.prog) (w:=X.w) (A:=X.A.in1) (I.ok.hd hc) it a its.toArray i (by simp;omega)) he ⟨rfl,st.2,p⟩ fun h' hx' =>⟨rfl,I.turnL (t' :=s.toks) (ch:= [it]) (fun b o hb q=>hx' b o (fun z=>hb (by simp [z])) q) fun b hb=>hf b (G0y _ hb)⟩
 self:=fun _ _ _ _ _ st h=>let ⟨_,q⟩:=st.1;wpAny_pyIter_enum q h
section
variable {X:Cx}
def jsu (K:PySem.W.Frag) (ta:TA):TI:=fun σ H R=>ta σ H fun vs H1=> ∃a,vs= [.ref a]∧(∃xs,SqT K H1 a xs)∧R (Ite K a) H1
theorem jnB {es:List Expr} {k:Nat} {tp:Pos} {a:Expr} {ta:TA} {p pos:Pos} (hg:Gl X "enumerate") (hm:X.mg "enumerate" =none) (ha:PA X [a] ta) (hs:starEach [a] X.env= [(false,eval a X.env)]:=by rfl):
 PI X (.Tuple es k tp) (.Call (.Name "enumerate" p) [a] [] pos) (jsu X.K ta):=by
 intro pins s σ H R I h
 refine Call_ (jef I hg hm (show bootBuiltins "enumerate" =some (.type "enumerate") by decide +kernel) (G2k (thn (ha pos pins s σ H _ I h) fun us s1 ⟨vs,H1,I1,r1,q1⟩=> ?_) hs rfl))
 obtain⟨a,e,⟨xs,hq⟩,q⟩:=q1
 subst e
 cases r1 with
 |cons r rr=>
  cases rr
  cases r
  obtain⟨its,rv,p,hz⟩:=I1.tuple hq
  have hlt:a<s1.heap.objs.size:=by obtain⟨o,ho,_⟩:=p;exact G0l ho
  refine jf1 (show s1.heap.IsTuple a its.toArray from p) fun h' he hit hk=> ?_
  refine wpAny_pyIter_enum he ?_
  refine⟨s1.heap.objs.size+1,[s1.heap.objs.size+1,s1.heap.objs.size],_,_,H1,rfl,I1.kept (t' :=s1.toks) hk,jj3 a s1.heap.objs.size (s1.heap.objs.size+1) (G2j (G11 _)) (G0J (G3v hlt)) (G0J hlt),⟨⟨_,he⟩,hit⟩,fun b hb=> ?_,q⟩
  have hb' :s1.heap.objs.size≤b:=by
   rcases G0n.mp hb with w|w
   ·rw [w];exact Nat.le_succ _
   ·rw [G0g.mp w];exact G0f _
  exact I1.fpOk hb' (I1.hok.fresh hb')
end
def jhy (ds:List D):List D:=ds.zipIdx.map fun p=> .tup [.int (p.2:Int),p.1]
def iE (ta:TAD):TID:=fun σ h R=>ta σ h fun xs h1=> ∃ds,xs= [.tup ds]∧R (fun _=>some (jhy ds)) h1
theorem jf2 {ds:List D} {i:Nat} {d:D} (h:(jhy ds)[i]? =some d): ∃x,ds[i]? =some x∧d= .tup [.int (i:Int),x]:=by
 unfold jhy at h
 rw [G0o,List.getElem?_zipIdx] at h
 cases q:ds[i]? with
 |none=>rw [q] at h;cases h
 |some x=>
  rw [q] at h
  refine⟨x,rfl,?_⟩
  have h' :some (D.tup [.int ((0+i:Nat):Int),x])=some d:=h
  rw [G1W] at h'
  exact(G1y h').symm
theorem jco (ds:List D):(jhy ds).length=ds.length:=by simp [jhy]
section
variable {K:PySem.W.Frag}
theorem jj4 {H:Hp} {a:Addr} {vs:List V} {ds:List D} (hv:H a=some (.tup vs)) (r:RelDs K H ds vs):joG K H (fun _=>some (jhy ds)) (Ite K a):=fun H' h' k rh ds' e i=>by
 cases e
 have hv' :=k.tup _ _ hv
 have r' :=r.mono k
 refine⟨fun d hd=> ?_,fun hl=>⟨vs,SqT.of hv',by rw [←r.length,←jco];exact hl⟩⟩
 obtain⟨x,hx,ed⟩:=jf2 hd
 subst ed
 obtain⟨v,e1,e2⟩:=r'.get hx
 refine⟨⟨vs,v,SqT.of hv',e1⟩,fun x' H'' ⟨p,v',hp,hx',ex,eH⟩=> ?_⟩
 subst ex eH
 have ev:v' =v:=by have:=hx' vs (SqT.of hv');rw [e1] at this;exact(G1y this).symm
 subst ev
 have k2:Kept H' (upd H' p (.tup [.int i,v'])):= .new hp
 exact⟨k2,RelH.new rh hp,p,[.int i,v'],rfl,jam,_,_,rfl,rfl,_,_,rfl,e2.mono k2,rfl⟩
theorem jnC {ta:TAD}: ∀σ H R,LI K (iE ta) σ H R→jsu K (LA K ta) σ H R:=fun σ H R ⟨σd,h,Rd,rs,rh,q,p⟩=>
 LA.bind rs rh q fun ds vs h1 H1 k1 rs1 rh1 r1 ⟨es,e,q1⟩=>by
  subst e
  obtain⟨v,e,r2⟩:=jay r1
  obtain⟨a,ws,e',hv,r⟩:=(show ∃a vs,v= .ref a∧H1 a=some (.tup vs)∧RelDs K H1 es vs from r2)
  subst e'
  exact⟨a,e,⟨ws,SqT.of hv⟩,p _ _ _ _ k1 rh1 (jj4 hv r) q1⟩
end
section
variable {X:Cx}
theorem jhz {es:List Expr} {k:Nat} {tp:Pos} {a:Expr} {ta:TAD} {p pos:Pos} (hg:Gl X "enumerate") (hm:X.mg "enumerate" =none) (ha:JA X [a] ta) (hs:starEach [a] X.env= [(false,eval a X.env)]:=by rfl):
 JI X (.Tuple es k tp) (.Call (.Name "enumerate" p) [a] [] pos) (iE ta):=⟨(jnB hg hm ha.to hs).imp jnC⟩
end
def jj5 (c:TTD) (tb:TSD):TSD:=fun D σ h=> ∃W:Nat→SD→HD→Prop,(∃m,W m σ h)∧ ∀m σ' h',W m σ' h' →c σ' h' fun b h1=>
 if b=true then tb {D with nx:=fun σ2 h2=> ∃m' h3,m' <m∧Sub h3 h2∧W m' σ2 h3,ct:=fun σ2 h2=> ∃m' h3,m' <m∧Sub h3 h2∧W m' σ2 h3,bk:=D.nx} σ' h1 else D.nx σ' h1
theorem jlw {K:PySem.W.Frag} {c:TTD} {tb:TSD}: ∀D σ H,LS K (jj5 c tb) D σ H→jmi (LT K c) (LS K tb) D σ H:=fun D σ H ⟨σd,h,Dd,rs,rh,⟨W,⟨m0,w0⟩,turn⟩,nx,rt,bk,ct⟩=>by
 refine⟨fun m σ' H' =>Kept H H' ∧ ∃σd' h',RelS K H' σd' σ' ∧RelH K h' H' ∧W m σd' h',⟨m0,.refl _,σd,h,rs,rh,w0⟩,?_⟩
 rintro m σ' H' ⟨kp,σd',h',rs',rh',w⟩
 refine LT.bind rs' rh' (turn m σd' h' w) fun b h1 H1 k1 rs1 rh1 q1=> ?_
 cases b with
 |false=>
  rw [if_neg G0q] at q1 ⊢
  exact nx _ _ _ _ (kp.trans k1) rs1 rh1 q1
 |true=>
  rw [if_pos rfl] at q1 ⊢
  have kk:Kept H H1:=kp.trans k1
  refine⟨fun σ2 H2=>Kept H H2∧ ∃m',m' <m∧ ∃σd2 h2,RelS K H2 σd2 σ2∧RelH K h2 H2∧W m' σd2 h2,fun σ2 H2 ⟨k2,m',hm,a,b,c,d,e⟩=>⟨m',hm,k2,a,b,c,d,e⟩,?_⟩
  exact⟨σd',h1,_,rs1,rh1,q1,fun a b c d k4 rs4 rh4 ⟨m',h4,hm,sb,w4⟩=>⟨kk.trans k4,m',hm,a,h4,rs4,rh4.sub sb,w4⟩,jaw rt kk,fun a b c d k4 rs4 rh4 q4=>nx a b c d (kk.trans k4) rs4 rh4 q4,fun a b c d k4 rs4 rh4 ⟨m',h4,hm,sb,w4⟩=>⟨kk.trans k4,m',hm,a,h4,rs4,rh4.sub sb,w4⟩⟩
section
variable {X:Cx} {pos:Pos}
theorem jj6 {c:Expr} {body:List Stmt} {tc:TTD} {tb:TSD} (hp:PassesOwn (model X.prog X.w) X.A X.env X.xe) (hc:JT X c tc) (hb:JSs X body tb):JS X (.While c body [] pos) (jj5 tc tb):=⟨(jld hp hc.to hb.to).imp jlw⟩
end
theorem jf3 {c:TTD} {tb:TSD} {E:EndsD} {σ:SD} {h:HD} (W:Nat→SD→HD→Prop) (m:Nat) (w0:W m σ h)
 (turn: ∀m σ' h',W m σ' h' →c σ' h' fun b h1=>if b=true then tb {E with nx:=fun σ2 h2=> ∃m' h3,m' <m∧Sub h3 h2∧W m' σ2 h3,ct:=fun σ2 h2=> ∃m' h3,m' <m∧Sub h3 h2∧W m' σ2 h3,bk:=E.nx} σ' h1 else E.nx σ' h1):jj5 c tb E σ h:=⟨W,⟨m,w0⟩,turn⟩
section
variable {prog:Program} {w:World} {A:Around} {E:Value→Shared→Prop} {s:Shared} {z TI TO i1 i2:Addr}
structure ZApart (z TI TO i1 i2:Addr):Prop where
 z1:z≠i1
 z2:z≠i2
 zO:z≠TO
 zI:z≠TI
 O1:TO≠i1
 O2:TO≠i2
 OI:TO≠TI
 I1:TI≠i1
 I2:TI≠i2
theorem jeD {T newId initId:String} {pos:List Value} {kw:List (Str×Value)} {Made:Value→Shared→Prop} {Q:Value→Shared→Prop} (ft:TypeCalled T newId initId) (fits:checkTypeCall T ⟨pos,kw⟩=pure ())
 (made:wpAny (model prog w) A.in1 (call (.builtin newId) (.type T::pos) kw) Made E s)
 (begun: ∀o s₁,Made o s₁→s₁.TypeIs o T∧wpAny (model prog w) A.in1 (callSpecial? o "__init__" pos kw) (fun r s₂=>r=some .none∧Q o s₂) E s₁):
 wpAny (model prog w) A (call (.type T) pos kw) Q E s:=by
 have f1:=ft.notType
 have f2:=ft.canCreate
 have f3:=ft.made
 have f4:=ft.sub
 obtain⟨_,_,f5⟩:=ft.mro
 have first:=fun {Q' :Value→Shared→Prop} (k: ∀o s₁,Made o s₁→Q' o s₁)=>G0H (E' :=E) made k fun _ _ z=>z
 refine G2M (G4v (G0e ⟨Code.quiet_builtin _ (by decide +kernel),G2l F.entry_type_call ?_⟩))
 rw [Around.under_plain (weight_type_call_type T pos kw) (units_type_call_type T pos kw)]
 wp_walk using first
 intro o s₁ m
 obtain⟨ty,then_⟩:=begun o s₁ m
 refine wpAny_bind (wpAny_isInstance (b:=true) ty f4 (wpAny_bind (G1g (G0H then_ (fun r s₂ q=> ?_) fun _ _ z=>z))))
 obtain⟨rfl,q⟩:=q
 exact G0e q
end
def inE (neg:Bool):RD2:=fun x y h Q=> ∃ (p:PyData) (ps:List PyData),ToP h x p∧(ToP h y (.list ps)∨ToP h y (.tuple ps))∧p.canLay0=true∧PyData.canLayAll0 ps=true∧p.depth≤60∧Q (.bl (neg !=ps.any fun z=>PyData.eqv z p)) h
section
variable {X:Cx}
theorem jqe (hu:X.A.units+64<cLine):OpQ X (compareOp .In) (inE false):=by
 intro pins s σ H x y v u Q I rx ry h
 obtain⟨dx,dy,h,Qd,r1,r2,rh,⟨p,ps,t1,t2,c1,c2,c3,qq⟩,post⟩:=h
 obtain⟨as,a1⟩:=ja4 I rh t1 r1 rx
 have hu' :X.A.units+1+min (PyData.depthAll ps) p.depth<cLine:=by have:=G24 (PyData.depthAll ps) p.depth;omega
 have q' :Qd (.bl (ps.any fun z=>PyData.eqv z p)) h:=by simpa using qq
 rcases t2 with t2|t2
 ·obtain⟨bs,b1⟩:=ja4 I rh t2 r2 ry
  exact in_list_reads b1 a1 c2 c1 hu' ⟨.bl _,H,I,rfl,post (.bl _) _ _ _ (.refl H) rh rfl q'⟩
 ·obtain⟨bs,b1⟩:=ja4 I rh t2 r2 ry
  exact in_tuple_reads b1 a1 c2 c1 hu' ⟨.bl _,H,I,rfl,post (.bl _) _ _ _ (.refl H) rh rfl q'⟩
theorem jh5 (hu:X.A.units+64<cLine):OpQ X (compareOp .NotIn) (inE true):=by
 intro pins s σ H x y v u Q I rx ry h
 obtain⟨dx,dy,h,Qd,r1,r2,rh,⟨p,ps,t1,t2,c1,c2,c3,qq⟩,post⟩:=h
 obtain⟨as,a1⟩:=ja4 I rh t1 r1 rx
 have hu' :X.A.units+1+min (PyData.depthAll ps) p.depth<cLine:=by have:=G24 (PyData.depthAll ps) p.depth;omega
 have q' :Qd (.bl (!ps.any fun z=>PyData.eqv z p)) h:=by simpa using qq
 rcases t2 with t2|t2
 ·obtain⟨bs,b1⟩:=ja4 I rh t2 r2 ry
  exact notIn_list_reads b1 a1 c2 c1 hu' ⟨.bl _,H,I,rfl,post (.bl _) _ _ _ (.refl H) rh rfl q'⟩
 ·obtain⟨bs,b1⟩:=ja4 I rh t2 r2 ry
  exact notIn_tuple_reads b1 a1 c2 c1 hu' ⟨.bl _,H,I,rfl,post (.bl _) _ _ _ (.refl H) rh rfl q'⟩
theorem jqf {tg:Expr} {p pos:Pos} {a b:Expr} {ta:TAD} (hg:Gl X "range") (hm:X.mg "range" =none) (ha:JA X [a,b] ta) (hs:starEach [a,b] X.env= [(false,eval a X.env),(false,eval b X.env)]:=by rfl) (hs2:starEach [b] X.env= [(false,eval b X.env)]:=by rfl):JI X tg (.Call (.Name "range" p) [a,b] [] pos) (iR2 ta):=⟨(jjq hg hm ha.to hs hs2).imp jrC⟩
end
end L2
namespace L2
open PySem PySem.Spec PyProof.Rows
section
variable {prog:Program} {w:World} {A:Around} {E:Value→Shared→Prop} {s:Shared}
theorem jcK: ∀ {vs:List Value} {ns:List Int},IntsAre vs ns→ ∀ {i:Nat} {v:Value},vs[i]? =some v→ ∃t,v= .int (ns.getD i 0) t∧i<ns.length
 |_,_,.nil,_,_,hv=>by simp at hv
 |_,_,.cons _ t _,0,_,hv=>⟨t,by simpa using hv.symm,by simp⟩
 |_,_,.cons _ _ r,i+1,_,hv=>by
  obtain⟨t,e,lt⟩:=jcK r (i:=i) (by simpa using hv)
  exact⟨t,by simpa using e,by simpa using lt⟩
theorem jgP {l:Addr} {o:Obj} (here:l<s.heap.objs.size): ∀b∈ [s.heap.objs.size,l],b<(s.heap.push o).objs.size:=fun b hb=>by
 rw [G3x]
 simp only [G0n,G05,G25] at hb
 rcases hb with e|e<;>subst e
 ·exact G11 _
 ·exact G3v here
theorem jgQ {o:Obj} {h' :Heap} (k: ∀b u,b ∉ [s.heap.objs.size]→(s.heap.push o).get? b=some u→h'.get? b=some u): ∀b u,s.heap.get? b=some u→h'.get? b=some u:=fun b u e=>
 k b u (fun m=>absurd (G0l e) (by rw [G0g.mp m];exact G0W _)) (G0b _ e)
end
section
variable {X:Cx}
theorem jj7 (hc:X.calm=true):CallR X (.builtin "max") (fun xs H Q=> ∃ (a:Addr) (ns:List Int),xs= [.ref a]∧ns≠ []∧(SqL X.K H a (ns.map V.int)∨SqT X.K H a (ns.map V.int))∧ ∀m∈ns,(∀x∈ns,x≤m)→Q (.int m) H):=by
 intro pins s σ H xs us Q I r h
 obtain⟨a,ns,rfl,hne,hS,q⟩:=h
 obtain⟨u,rfl,ru⟩:=jdg r
 cases ru
 have fin: ∀ {its:List Value} (hi:IntsAre its ns) (v:Value) (h' :Heap) (tk:Nat),its.toArray[argBest (fun i j=>decide (ns.getD i 0>ns.getD j 0)) (its.toArray.size-1)]? =some v→(∀b o,s.heap.get? b=some o→h'.get? b=some o)→EP X pins σ Q v {s with heap:=h',toks:=tk}:=fun {its} hi v h' tk hv kept=>by
  obtain⟨t,rfl,lt⟩:=jcK hi (show its[_]? =some v by simpa using hv)
  refine⟨.int _,H,I.kept kept,⟨t,rfl⟩,q _ (getD_mem lt) fun x hx=> ?_⟩
  obtain⟨j,hj,rfl⟩:=mem_getD hx
  exact(argBest_gt (fun i=>ns.getD i 0) (its.toArray.size-1)).2 j (by rw [G0w,hi.length];omega)
 refine call_max_walk ?_
 rcases hS with hS|hS
 ·obtain⟨its,rv,pl,_⟩:=I.list hS
  have hi:=jdX rv
  obtain⟨o,e,r⟩:=id pl.isList
  have W:=Walks.list (prog:=X.prog) (w:=X.w) (A:=X.A.in1) (I.ok.hd hc) s.heap.objs.size a (G0J (G0l e)) its.toArray
  exact G2C pl.isList ⟨_,_,_,_,_,_,_,rfl,W,⟨⟨_,G0x _ rfl,rfl,rfl⟩,⟨o,G0b _ e,r⟩⟩,jgP (G0l e),by rw [G0w,hi.length];exact List.length_pos_iff.mpr hne,CmpOf.ints_gt (fun i=>ns.getD i 0) (fun i v hv=>(jcK hi (by simpa using hv)).imp fun _ z=>z.1),fun v h' tk hv k=>fin hi v h' tk hv (jgQ k)⟩
 ·obtain⟨its,rv,pl,_⟩:=I.tuple hS
  have hi:=jdX rv
  obtain⟨o,e,r⟩:=id pl
  have W:=Walks.tuple (prog:=X.prog) (w:=X.w) (A:=X.A.in1) (I.ok.hd hc) s.heap.objs.size a (G0J (G0l e)) its.toArray
  exact G2R (show s.heap.IsTuple a its.toArray from pl) ⟨_,_,_,_,_,_,_,rfl,W,⟨⟨_,G0x _ rfl,rfl,rfl⟩,⟨o,G0b _ e,r⟩⟩,jgP (G0l e),by rw [G0w,hi.length];exact List.length_pos_iff.mpr hne,CmpOf.ints_gt (fun i=>ns.getD i 0) (fun i v hv=>(jcK hi (by simpa using hv)).imp fun _ z=>z.1),fun v h' tk hv k=>fin hi v h' tk hv (jgQ k)⟩
def jqg (B:List Int→Int→Prop):RDn:=fun ds h Q=> ∃ (ns:List Int) (h' :HD),ns≠ []∧Sub h' h∧(ds= [.tup (ns.map D.int)]∨ ∃a,ds= [.lst a]∧h a=some (ns.map D.int))∧ ∀m∈ns,B ns m→Q (.int m) h'
abbrev js9:RDn:=jqg fun ns m=> ∀x∈ns,x≤m
theorem jlx {B:List Int→Int→Prop} {f:Value} (c:CallR X f (fun xs H Q=> ∃ (a:Addr) (ns:List Int),xs= [.ref a]∧ns≠ []∧(SqL X.K H a (ns.map V.int)∨SqT X.K H a (ns.map V.int))∧ ∀m∈ns,B ns m→Q (.int m) H)):jc7 X f (jqg B):=
 c.imp fun xs H Q ⟨ds,h,Qd,r,rh,⟨ns,h',hne,hs,e,q⟩,p⟩=>by
  rcases e with e|⟨a,e,ha⟩
  ·subst e
   obtain⟨v,e,r1⟩:=jay r
   obtain⟨a,vs,e1,hH,r2⟩:=(show ∃a vs,v= .ref a∧H a=some (.tup vs)∧RelDs X.K H (ns.map D.int) vs from r1)
   rw [jaX r2] at hH
   subst e e1
   exact⟨a,ns,rfl,hne,.inr (SqT.of hH),fun m m1 m2=>p (.int m) _ _ _ (.refl H) (rh.sub hs) rfl (q m m1 m2)⟩
  ·subst e
   obtain⟨v,e,r1⟩:=jay r
   obtain⟨vs,hH,r2⟩:=rh a _ ha
   have e1:v= .ref a:=r1.1
   rw [jaX r2] at hH
   subst e e1
   exact⟨a,ns,rfl,hne,.inl (SqL.of hH),fun m m1 m2=>p (.int m) _ _ _ (.refl H) (rh.sub hs) rfl (q m m1 m2)⟩
theorem jj8 (hc:X.calm=true):jc7 X (.builtin "max") js9:=jlx (jj7 hc)
end
structure ShowOk (p:PyData):Prop where
 sh:p.showable=true
 dp:p.depth≤60
 ln:p.shown.length≤sizeLine
mutual
theorem jfu {h:HD}: ∀ {p:PyData} {d:D},ToP h d p→p.hasDict=false
 | .none,_,_=>rfl
 | .bool _,_,_=>rfl
 | .int _,_,_=>rfl
 | .str _,_,_=>rfl
 | .tuple ps,d,t=>by
  obtain⟨ds,_,ts⟩:=(show ∃ds,d= .tup ds∧ToPs h ds ps from t)
  simpa only [PyData.hasDict] using noDict_ToPs ts
 | .list ps,d,t=>by
  obtain⟨a,ds,_,_,ts⟩:=(show ∃a ds,d= .lst a∧h a=some ds∧ToPs h ds ps from t)
  simpa only [PyData.hasDict] using noDict_ToPs ts
 | .dict _,_,t=>(show False from t).elim
theorem noDict_ToPs {h:HD}: ∀ {ps:List PyData} {ds:List D},ToPs h ds ps→PyData.hasDictAll ps=false
 | [],_,_=>rfl
 |p::ps,ds,t=>by
  obtain⟨d,r,_,t1,t2⟩:=(show ∃d r,ds=d::r∧ToP h d p∧ToPs h r ps from t)
  simp only [PyData.hasDictAll,jfu t1,noDict_ToPs t2,Bool.or_self]
end
def jrS:RDn:=fun ds h Q=> ∃d p,ds= [d]∧ToP h d p∧ShowOk p∧Q (.str p.shown) h
theorem jh6 {X:Cx} {k:Nat} (hr:Room k X.A):jc7 X (.builtin "repr") jrS:=by
 intro pins s σ H xs us Q I r h
 obtain⟨ds,h,Qd,rs,rh,⟨d,p,e,t,so,q⟩,post⟩:=h
 subst e
 obtain⟨v,e,r1⟩:=jay rs
 subst e
 obtain⟨u,rfl,ru⟩:=jdg r
 have fin: ∀t',EP X pins σ Q (.str p.shown t') {s with toks:=s.toks+1}:=fun t' =>⟨.str p.shown,H,I.tok _,⟨_,rfl⟩,post (.str _) _ _ _ (.refl H) rh rfl q⟩
 have fin0: ∀t',EP X pins σ Q (.str p.shown t') s:=fun t' =>⟨.str p.shown,H,I,⟨_,rfl⟩,post (.str _) _ _ _ (.refl H) rh rfl q⟩
 have big: ∀a,u= .ref a→wpAny (model X.prog X.w) X.A (call (.builtin "repr") [.ref a]) (EP X pins σ Q) X.xe s:=fun a e=>by
  obtain⟨as,rd⟩:=ja4 I rh t r1 ru
  subst e
  exact repr_of_reads' rd so.sh (PyData.noDict_hsm (jfu t)) hr.gd (by have:=hr.units;have:=so.dp;omega) (fun _ _ e=>e)
   (fun h' u' tk hk=>⟨.str p.shown,H,I.kept hk,⟨_,rfl⟩,post (.str _) _ _ _ (.refl H) rh rfl q⟩) so.ln
 cases p with
 |none=>
  cases (show d= .non from t);cases (show v= .non from r1);cases (show u= .none from ru)
  exact PySem.P.repr_of_none (fin _)
 |bool b=>
  cases (show d= .bl b from t);cases (show v= .bl b from r1);cases (show u= .bool b from ru)
  exact PySem.P.repr_of_bool (fin _)
 |int i=>
  cases (show d= .int i from t);cases (show v= .int i from r1);obtain⟨k,rfl⟩:=(show ∃t,u=Value.int i t from ru)
  exact PySem.P.repr_of_int (by simpa [PyData.showable] using so.sh) (fin _)
 |str x=>
  cases (show d= .str x from t);cases (show v= .str x from r1);obtain⟨k,rfl⟩:=(show ∃t,u=Value.str x t from ru)
  exact PySem.P.repr_of_str (fin _) so.ln
 |tuple ps=>
  obtain⟨ds,e,ts⟩:=(show ∃ds,d= .tup ds∧ToPs h ds ps from t)
  subst e
  obtain⟨a,vs,e,hH,rs⟩:=(show ∃a vs,v= .ref a∧H a=some (.tup vs)∧RelDs X.K H ds vs from r1)
  subst e
  cases (show u= .ref a from ru)
  exact big a rfl
 |list ps=>
  obtain⟨a,ds,e,ha,ts⟩:=(show ∃a ds,d= .lst a∧h a=some ds∧ToPs h ds ps from t)
  subst e
  have e:v= .ref a:=r1.1
  subst e
  cases (show u= .ref a from ru)
  exact big a rfl
 |dict _=>exact(show False from t).elim
structure ShowB (p:PyData) (k b:Nat):Prop where
 sh:p.showable=true
 dp:p.depth≤k
 ln:p.shown.length≤b
def jj9:RDn:=fun ds h Q=> ∃x y p,ds= [x,y]∧ToP h x p∧ToP h y p∧ShowOk p∧Q (.bl true) h
end L2
namespace HT
open PySem PySem.Spec PyProof.Rows
open AutoSeq1 (wpAny_loadPart')
section
variable {prog:Program} {w:World} {A:Around} {E:Value→Shared→Prop} {s:Shared}
structure RangeOf (h:Heap) (r:Addr) (a b c:Int) (n:Nat):Prop where
 at_: ∃t u v,IsRange h r a b c t u v
 small:Builtin.Range.small a b c=true
 many:Builtin.Range.rangeSize a b c=n
 fits:n≤2^24
end
end HT
namespace L2
open PySem PySem.Spec PyProof.Rows PySem.SeqAt
theorem jly {X:Cx} (hu:X.A.units+64<cLine):MtM X "list.index" (fun x vs H Q=> ∃ (a:Addr) (y:V) (dy:D) (h:HD) (p:PyData) (ps:List PyData) (j:Nat) (z:PyData),x= .ref a∧vs= [y]∧RelD X.K H dy y∧RelH X.K h H∧ToP h (.lst a) (.list ps)∧ToP h dy p∧p.canLay0=true∧PyData.canLayAll0 ps=true∧p.depth≤60∧j<1000000∧ps[j]? =some z∧PyData.eqv z p=true∧(∀m y,m<j→ps[m]? =some y→PyData.eqv y p=false)∧Q (.int (j:Int)) H):=by
 intro pins s σ H x vs v us Q I rx rv h
 obtain⟨a,y,dy,h,p,ps,j,z,rfl,rfl,rd,rh,t1,t2,c1,c2,c3,hj,hz,hit,hno,q⟩:=h
 cases rx
 obtain⟨u,rfl,ru⟩:=jdg rv
 obtain⟨a',ds,ea,ha,ts⟩:=(show ∃a' ds,D.lst a= .lst a' ∧h a' =some ds∧ToPs h ds ps from t1)
 cases ea
 obtain⟨ws,hH,_⟩:=rh a ds ha
 obtain⟨as,r1⟩:=ja4 I rh t1 (show RelD X.K H (.lst a) (.ref a) from ⟨rfl,ws,hH⟩) (show RelV (.ref a) (.ref a) from rfl)
 obtain⟨bs,r2⟩:=ja4 I rh t2 rd ru
 cases r1 with
 |list h1 h2 h3 h4=>
  rename_i o its n cs
  have em:=readsAll_map ps _ _ c2 h4
  have gm: ∀m (hm:m<its.size),ps[m]? =some (readOf s.heap its[m]):=fun m hm=>by
   rw [←em,G0o,G0K,G19 hm];rfl
  have hlen:its.size=ps.length:=by rw [←em,G0a,G0m]
  have hjs:j<its.size:=by rw [hlen];exact(G0k.mp hz).1
  have hu' :X.A.units+1+min (PyData.depthAll ps) p.depth<cLine:=by have:=G24 (PyData.depthAll ps) p.depth;omega
  obtain⟨oc,od,odt,osl⟩:=o
  simp only at h2 h3
  subst h2 h3
  refine G3M F.slot_list_index ⟨_,h1,rfl⟩ F.entry_list_index (F.args_list_index_2 _ _) (list_indexAt a its n od osl u (fun y=>PyData.eqv (readOf s.heap y) p) j hjs (by omega) ?_ ?_) ⟨h1,items_eqAt h4 r2 c2 c1 hu',?_⟩
  ·have:=gm j hjs
   rw [hz] at this;injection this with this
   rw [←this];exact hit
  ·intro m hm hmj;exact hno m _ hmj (gm m hm)
  ·exact⟨.int (j:Int),H,I.tok _,⟨_,rfl⟩,q⟩
def jta (to te:TED):TED:=fun σ h Q=>to σ h fun x h1=> ∃a,x= .lst a∧te σ h1 fun y h2=> ∃ (p:PyData) (ps:List PyData) (j:Nat) (z:PyData),ToP h2 (.lst a) (.list ps)∧ToP h2 y p∧p.canLay0=true∧PyData.canLayAll0 ps=true∧p.depth≤60∧j<1000000∧ps[j]? =some z∧PyData.eqv z p=true∧(∀m y,m<j→ps[m]? =some y→PyData.eqv y p=false)∧Q (.int (j:Int)) h2
section
variable {X:Cx} {o e i:Expr} {to te ti:TED} {apos cpos:Pos}
theorem jtb (hu : X.A.units + 64 < cLine) (ho : JE X o to) (he : JE X e te) (hbase : attributeBase o "index" X.env (eval o X.env) = eval o X.env := by rfl)
    (hfew : ((backTo cpos (starEach [e] X.env)).all (fun x => !x.1) && (backToKw cpos (keywordEach [] X.env)).all (fun x => x.1.isSome) && decide ([e].length + ([] : List Keyword).length + (if ([] : List Keyword).isEmpty then 0 else 1) < 30)) = true := by rfl)
    (hline : (apos.endLine == cpos.line) = true := by rfl) (hs : starEach [e] X.env = (false, eval e X.env) :: starEach [] X.env := by rfl) (hplain : (backTo cpos (starEach [] X.env)).any (·.1) = false := by rfl) :
    JE X (.Call (.Attribute o "index" apos) [e] [] cpos) (jta to te) :=
  ⟨(jlk G2K PySem.F.slot_list_index PySem.F.type_list_index (jly hu) ho.to (jbm he.to pa_nil hs) hbase hfew hline hs hplain).imp
    fun σ H Q ⟨σd, h, Qd, rs, rh, t, p⟩ => LE.bind rs rh t fun d v h1 H1 k1 rs1 rh1 r1 ⟨a, e, q⟩ => by
      subst e
      obtain ⟨e1, vs, hH⟩ := (show v = .ref a ∧ ∃ vs, H1 a = some (.lst vs) from r1)
      subst e1
      refine ⟨.inl ⟨rfl, vs, SqL.of hH⟩, ?_⟩
      refine LE.bind rs1 rh1 q fun y u h2 H2 k2 rs2 rh2 r2 ⟨pd, ps, j, z, t1, t2, c1, c2, c3, hj, hz, hit, hno, q2⟩ => ?_
      exact ⟨a, u, y, h2, pd, ps, j, z, rfl, rfl, r2, rh2, t1, t2, c1, c2, c3, hj, hz, hit, hno, p (.int _) _ _ _ (k1.trans k2) rh2 rfl q2⟩⟩
end
theorem jnD {i:Nat} {js:List Nat} {ta:TAD} {tt:TTD} {te:TED} {σ:SD} {h h1:HD} {Q:KD} (n:Nat) (W:Nat→List D→HD→Prop) (hn:n≤1000) (ht: ∀R:List D→HD→Prop,R [.int (n:Int)] h1→ta σ h R)
 (w0:W 0 [] h1) (wl: ∀k ys h',W k ys h' →ys.length≤k) (turn: ∀k ys h',k<n→W k ys h' →tt ((jaH js σ).set i (some (.int (k:Int)))) h' fun b h3=>if b=true then te ((jaH js σ).set i (some (.int (k:Int)))) h3 fun y h4=> ∃h5,Sub h5 h4∧(k+1≤n∧W (k+1) (ys++ [y]) h5) else ∃h5,Sub h5 h3∧(k+1≤n∧W (k+1) ys h5))
 (done: ∀ys h',W n ys h' → ∀p,h' p=none→Q (.lst p) (jbi h' p ys)):jev (bN i) js (iR1 ta) tt te σ h Q:=by
 refine ht _ ⟨(n:Int),rfl,by omega,by omega,n,fun k ys h' =>k≤n∧W k ys h',⟨G06 _,w0⟩,?_⟩
 rintro k ys h' ⟨hk,w⟩
 refine⟨G0C (wl k ys h' w) (G0T (jar (by omega))),_,rfl,by simp,fun hl p hp=> ?_,fun d hd=>⟨_,rfl,?_⟩⟩
 ·have:k=n:=by simp at hl;omega
  subst this;exact done _ _ w p hp
 ·obtain⟨hi',e⟩:=jey hd
  have hk2:k<n:=by omega
  subst e
  exact turn k ys h' hk2 w
def IsS (n:Nat) (S:List Nat):Prop:= ∃p:Nat→Bool,S=(List.range n).filter p
theorem IsS.lt {n:Nat} {S:List Nat} (h:IsS n S) {i:Nat} (hi:i∈S):i<n:=by
 obtain⟨p,rfl⟩:=h
 exact G0z.mp (G1e.mp hi).1
theorem IsS.len {n:Nat} {S:List Nat} (h:IsS n S):S.length≤n:=by
 obtain⟨p,rfl⟩:=h
 have:=G1N p (List.range n)
 rwa [G0L] at this
theorem IsS.rise {n:Nat} {S:List Nat} (h:IsS n S):S.Pairwise (· < ·):=by
 obtain⟨p,rfl⟩:=h
 exact List.pairwise_lt_range.filter p
def jhA (n:Nat) (T:List (List Int)) (S:List Nat):List Nat:=(List.range n).filter fun j=>S.any fun i=>decide (ent T i j≠0)
theorem IsS.step {n:Nat} (T:List (List Int)) (S:List Nat):IsS n (jhA n T S):=⟨_,rfl⟩
def itF {α:Type} (f:α→α) (x:α):Nat→α
 |0=>x
 |k+1=>f (itF f x k)
theorem jgR {α:Type} [DecidableEq α]: ∀ {l m:List α},l.Nodup→(∀x∈l,x∈m)→l.length≤m.length
 | [],_,_,_=>G06 _
 |a::l,m,nd,h=>by
  have hm:=h a G0t
  have h2:l.length≤(m.erase a).length:=jgR (G1M.mp nd).2 fun x hx=>by
   have hxa:x≠a:=fun e=>(G1M.mp nd).1 (e ▸ hx)
   exact(G2x hxa).mpr (h x (G0y _ hx))
  rw [G2c hm] at h2
  have:=G2p hm
  simp only [G0h];omega
def jiM (S:List Nat):PyData:=jmt (je6 S)
theorem jhB (h:HD) (S:List Nat):ToP h (jaA S) (jiM S):=by rw [jnA];exact⟨_,rfl,jdn h _⟩
theorem jgS (h:HD): ∀Ss:List (List Nat),ToPs h (Ss.map jaA) (Ss.map jiM)
 | []=>rfl
 |S::Ss=>⟨_,_,rfl,jhB h S,jgS h Ss⟩
theorem jiN (r:List Int):(jmt r).canLay0=true:=by unfold jmt;simp only [PyData.canLay0];exact jc9 r
theorem jgT (r:List Int):(jmt r).depth≤2:=by unfold jmt;simp only [PyData.depth];have:=jdJ r;omega
theorem jfv: ∀a b:List Int,PyData.eqvAll (a.map PyData.int) (b.map PyData.int)=decide (a=b)
 | [],[]=>by simp [PyData.eqvAll]
 | [],_::_=>by simp [PyData.eqvAll]
 |_::_,[]=>by simp [PyData.eqvAll]
 |x::a,y::b=>by
  show ((x==y)&&PyData.eqvAll (a.map .int) (b.map .int))=_
  rw [jfv a b,G1z]
  simp
theorem jnE (a b:List Int):PyData.eqv (jmt a) (jmt b)=decide (a=b):=jfv a b
theorem jka {a b:List Nat} (h:je6 a=je6 b):a=b:=by
 have:=congrArg (List.map Int.toNat) h
 unfold je6 at this
 simpa [G1d,G38] using this
theorem jnF (a b:List Nat):PyData.eqv (jiM a) (jiM b)=decide (a=b):=by
 unfold jiM
 rw [jnE,G1z,G17,G17]
 exact⟨jka,fun e=>by rw [e]⟩
theorem jnG {α:Type} {f:Nat→α} {L i:Nat} (h:i<L):atI ((List.range L).map f) (i:Int)=some (f i):=
 jbQ (by rw [G0o,G1U h];rfl)
theorem jiO {n e:Nat} {T:List (List Int)} {S:List Nat} (hT:Sq n e T) (hS:IsS n S) {j:Nat} (hj:j<n) {m:Int} (m1:m∈0::S.map fun i=>ent T i j) (m2: ∀x∈0::S.map fun i=>ent T i j,x≤m):decide (m>0)=S.any fun i=>decide (ent T i j≠0):=by
 rw [G1z,G17,G3H]
 constructor
 ·intro z
  rcases G0n.mp m1 with e|e
  ·omega
  ·obtain⟨i,hi,rfl⟩:=G0N.mp e
   exact⟨i,hi,G0I (by omega)⟩
 ·rintro ⟨i,hi,z⟩
  have z' :=G1l z
  have a:=(hT.ent_nn (hS.lt hi) hj).1
  have b:=m2 _ (G0y _ (G0N.mpr ⟨i,hi,rfl⟩))
  omega
theorem jlz {i:Nat} {js:List Nat} {ta:TAD} {tt:TTD} {te:TED} {σ:SD} {h h1:HD} {Q:KD} (n:Nat) (W:Nat→List D→HD→Prop) (hn:n≤1000) (ht: ∀R:List D→HD→Prop,R [.int (n:Int)] h1→ta σ h R)
 (w0:W 0 [] h1) (wl: ∀k ys h',W k ys h' →ys.length≤k) (turn: ∀k ys h',k<n→W k ys h' →tt ((jaH js σ).set i (some (.int (k:Int)))) h' fun b h3=>if b=true then te ((jaH js σ).set i (some (.int (k:Int)))) h3 fun y h4=> ∃h5,Sub h5 h4∧(k+1≤n∧W (k+1) (ys++ [y]) h5) else ∃h5,Sub h5 h3∧(k+1≤n∧W (k+1) ys h5))
 (done: ∀ys h',W n ys h' →Q (.tup ys) h'):dCB jaN (jbq (jev (bN i) js (iR1 ta) tt te) jd0) σ h Q:=by
 show jev (bN i) js (iR1 ta) tt te σ h (fun x h1=>jaN [x] h1 Q)
 exact jnD n W hn ht w0 wl turn fun ys h' w p hp=>(show ∃zs,jbi h' p ys p=some zs∧Q (.tup zs) (jeu (jbi h' p ys) p) from ⟨_,jaa,by rw [jcH hp];exact done ys h' w⟩)
structure Enc {α:Type} [DecidableEq α] (e:α→D) (p:α→PyData):Prop where
 to: ∀ (h:HD) a,ToP h (e a) (p a)
 lay: ∀a,(p a).canLay0=true
 dp: ∀a,(p a).depth≤60
 eq: ∀a b,PyData.eqv (p a) (p b)=decide (a=b)
section
variable {α:Type} [DecidableEq α] {e:α→D} {p:α→PyData}
theorem Enc.lays (E:Enc e p): ∀as:List α,PyData.canLayAll0 (as.map p)=true
 | []=>rfl
 |a::as=>by show (PyData.canLay0 (p a)&&_)=true;rw [E.lays as,E.lay a];rfl
end
def mk1 (n:Nat) (T:List (List Int)) (M:List (List Int)):List (List Int):=jqc n (jsq n M T)
def jrT (n:Nat) (T:List (List Int)) (i:Nat):List (List Int):=itF (mk1 n T) (jqc n T) i
def RP (n:Nat) (T:List (List Int)) (k i j:Nat):Prop:=ent (jrP n T k) i j≠0
section
variable {n e:Nat} {T:List (List Int)}
structure Course (n:Nat) (T:List (List Int)) (L J:Nat):Prop where
 nd:((List.range L).map (jrT n T)).Nodup
 lt:J<L
 eq:jrT n T L=jrT n T J
end
structure Grid (n:Nat) (h0 h:HD) (p R:Addr) (rs:List Addr):Prop where
 at_:h R=some (rs.map D.lst)
 len:rs.length=n
 nR:R ∉ rs
 fR:h0 R=none
 np:p ∉ rs
 nRp:R≠p
 row: ∀a∈rs,h0 a=none∧ ∃r,h a=some (r.map D.int)∧jcn n r
section
variable {n:Nat} {h0 h:HD} {p R:Addr} {rs:List Addr}
theorem Grid.pen (g:Grid n h0 h p R rs) (ds:List D):Grid n h0 (jbi h p ds) p R rs:=
 ⟨jah g.nRp g.at_,g.len,g.nR,g.fR,g.np,g.nRp,fun a ha=>⟨(g.row a ha).1,let ⟨r,e,gr⟩:=(g.row a ha).2;⟨r,jah (fun z=>g.np (z ▸ ha)) e,gr⟩⟩⟩
theorem Grid.pick (g:Grid n h0 h p R rs) {i:Nat} (hi:i<n): ∃a r,atI (rs.map D.lst) (i:Int)=some (.lst a)∧a∈rs∧h a=some (r.map D.int)∧jcn n r∧h0 a=none∧a≠p:=by
 have hi' :i<rs.length:=by rw [g.len];exact hi
 have hm:=G1i hi'
 obtain⟨f,r,e,gr⟩:=g.row _ hm
 exact⟨rs[i],r,jbQ (by rw [G0o,G0c hi'];rfl),hm,e,gr,f,fun z=>g.np (z ▸ hm)⟩
theorem Grid.set (g:Grid n h0 h p R rs) {a:Addr} {r:List Int} (ha:a∈rs) (e:h a=some (r.map D.int)) (gr:jcn n r) {j:Nat} {v:Int} (v0:0≤v) (v1:v≤1000000):Grid n h0 (jbi h a ((r.map D.int).set j (.int v))) p R rs:=by
 refine⟨jah (fun z=>g.nR (z ▸ ha)) g.at_,g.len,g.nR,g.fR,g.np,g.nRp,fun b hb=>⟨(g.row b hb).1,?_⟩⟩
 by_cases z:b=a
 ·subst z
  refine⟨r.set j v,by rw [jaa,List.map_set],by rw [List.length_set];exact gr.1,fun x hx=> ?_⟩
  rcases List.mem_or_eq_of_mem_set hx with y|y
  ·exact gr.2 x y
  ·subst y;exact⟨v0,v1⟩
 ·obtain⟨r',e',gr'⟩:=(g.row b hb).2
  exact⟨r',jah z e',gr'⟩
theorem Grid.tab (g:Grid n h0 h p R rs): ∃T,GoodTab n T∧(rs.map fun a=>D.tup ((h a).getD []))=T.map je5:=by
 have key: ∀l:List Addr,(∀a∈l,∃r,h a=some (r.map D.int)∧jcn n r)→ ∃T:List (List Int),T.length=l.length∧(∀r∈T,jcn n r)∧(l.map fun a=>D.tup ((h a).getD []))=T.map je5:=by
  intro l
  induction l with
  |nil=>intro _;exact⟨[],rfl,by simp,rfl⟩
  |cons a l ih=>
   intro hl
   obtain⟨T,a1,a2,a3⟩:=ih fun b hb=>hl b (G0y _ hb)
   obtain⟨r,e,gr⟩:=hl a G0t
   refine⟨r::T,by simp [a1],fun x hx=> ?_,?_⟩
   ·rcases G0n.mp hx with z|z
    ·subst z;exact gr
    ·exact a2 x z
   ·rw [G0G,G0G,a3,e];rfl
 obtain⟨T,a1,a2,a3⟩:=key rs fun a ha=>(g.row a ha).2
 exact⟨T,⟨by rw [a1,g.len],a2⟩,a3⟩
end
theorem jnH {i:Nat} {js:List Nat} {ti:TID} {te:TED} {σ:SD} {h h1:HD} {Q:KD} (ds:List D) (W:Nat→List D→HD→Prop) (hn:ds.length≤1000) (ht: ∀R:ItD→HD→Prop,R (fun _=>some ds) h1→ti σ h R)
 (w0:W 0 [] h1) (wl: ∀k ys h',W k ys h' →ys.length≤k) (turn: ∀k ys h' d,ds[k]? =some d→W k ys h' →te ((jaH js σ).set i (some d)) h' fun y h4=> ∃h5,Sub h5 h4∧(k+1≤ds.length∧W (k+1) (ys++ [y]) h5))
 (done: ∀ys h',W ds.length ys h' → ∀p,h' p=none→Q (.lst p) (jbi h' p ys)):jev (bN i) js ti jht te σ h Q:=by
 refine ht _ ⟨ds.length,fun k ys h' =>k≤ds.length∧W k ys h',⟨G06 _,w0⟩,?_⟩
 rintro k ys h' ⟨hk,w⟩
 refine⟨G0C (wl k ys h' w) (G0T (jar (by omega))),ds,rfl,G0f _,fun hl p hp=> ?_,fun d hd=>⟨_,rfl,?_⟩⟩
 ·have:k=ds.length:=by omega
  subst this;exact done _ _ w p hp
 ·unfold jht
  dsimp only
  rw [if_pos rfl]
  exact turn k ys h' d hd w
theorem jnI {n:Nat} {o:List Nat} (ho:Ordr n o) {i:Nat} (hi:i<n): ∃k,k<n∧atI (o.map fun (k:Nat)=>D.int (k:Int)) (i:Int)=some (.int (k:Int)):=by
 have hi' :i<o.length:=by rw [ho.ord.len];exact hi
 refine⟨o[i],G0z.mp (ho.mem_iff.mp (G1i hi')),jbQ (by rw [G0o,G0c hi'];rfl)⟩
theorem jf4 {n i:Nat} (h:i<n):ixN n (i:Int)=some i:=by
 unfold ixN;simp;omega
theorem call_divmodB {X:Cx}:CallR X (.builtin "divmod") (fun xs H Q=> ∃i j,xs= [.int i,.int j]∧(0<j∧j<2^200)∧ ∀p,H p=none→Q (.ref p) (upd H p (.tup [.int (i / j),.int (i%j)]))):=by
 intro pins s σ H xs us Q I r h
 obtain⟨i,j,rfl,⟨h1,h2⟩,q⟩:=h
 obtain⟨u,w',rfl,⟨t,rfl⟩,⟨t',rfl⟩⟩:=jju r
 refine divmod_int (by omega) ?_ (.inl (PyProof.noPylong_of_log2 ?_))
 ·rw [G3T i (by omega),G3U i (by omega)]
  have hn:H s.heap.objs.size=none:=I.hok.fresh (G0f _)
  refine⟨.ref s.heap.objs.size,_,?_,rfl,q _ hn⟩
  refine I.laid (fun b o e=>G0b _ e) (G0f _) ⟨by simp only [G0h,G0A];rw [sizeLine_eq];decide,[.int (i / j) s.toks,.int (i%j) (s.toks+1)],.cons ⟨_,rfl⟩ (.cons ⟨_,rfl⟩ .nil),?_⟩
  exact⟨_,G0x s.heap rfl,rfl,rfl,0,rfl⟩
 ·have h3:j.natAbs<2^200:=jjY (by omega) h2
  have h4:=(Nat.log2_lt (by omega:j.natAbs≠0)).mpr h3
  omega
def jnJ:RDn:=fun ds h Q=> ∃i j:Int,ds= [.int i,.int j]∧(0<j∧j<2^200)∧Q (.tup [.int (i / j),.int (i%j)]) h
theorem jiP {X:Cx}:jc7 X (.builtin "divmod") jnJ:=call_divmodB.imp fun xs H Q ⟨ds,h,Qd,r,rh,⟨i,j,e,c,q⟩,p⟩=>by
 subst e
 obtain⟨v,w,e,r1,r2⟩:=jcI r
 cases (show v= .int i from r1)
 cases (show w= .int j from r2)
 exact⟨i,j,e,c,fun a ha=>p (.tup [.int (i / j),.int (i%j)]) _ _ _ (.new ha) (rh.new ha) ⟨a,_,rfl,jam,.cons rfl (.cons rfl .nil)⟩ q⟩
structure TabsOk (n:Nat) (Ts:List (List (List Int))):Prop where
 n1:1≤n
 n3:n≤3
 l1:1≤Ts.length
 l3:Ts.length≤3
 sq: ∀T∈Ts,Sq n 20 T
end L2
set_option maxRecDepth 35000
namespace L2
open PySem PySem.Spec PyProof.Rows PySem.SeqAt
def Sm (k b:Nat) (d:D):Prop:= ∃p:PyData,(∀h,ToP h d p)∧ShowB p k b∧p.canLay0=true
def bnd:Nat→Nat
 |0=>200
 |k+1=>(bnd k+2)*155+3
def SmK (k:Nat) (d:D):Prop:=Sm k (bnd k) d
structure SmN (n:Nat) (ds:List D):Prop where
 len:ds.length≤n
 sm: ∀d∈ds,SmK 1 d
section
variable {α:Type} {i i' :Nat} {js:List Nat} {ti:TID} {te:TED} {σ:SD} {h:HD} {Q:KD} {j:ItD}
theorem jtc (xs:List α) (c c' g:α→D) (p:α→Bool) {tt:TTD} (hz:xs.length≤1000) (hj:j h=some (xs.map fun x=> .tup [c x,c' x])) (ht: ∀R:ItD→HD→Prop,R j h→ti σ h R)
 (hp: ∀x∈xs,∀Q' :Bool→HD→Prop,Q' (p x) h→tt (((jaH js σ).set i (some (c x))).set i' (some (c' x))) h Q') (he: ∀x∈xs,p x=true→ ∀Q' :KD,Q' (g x) h→te (((jaH js σ).set i (some (c x))).set i' (some (c' x))) h Q') (hq: ∀a,h a=none→Q (.lst a) (jbi h a ((xs.filter p).map g))):jev (b2 i i') js ti tt te σ h Q:=by
 refine ht _ ⟨xs.length,fun k ys h' =>h' =h∧ys=((xs.take k).filter p).map g,⟨rfl,by simp⟩,?_⟩
 rintro k ys h' ⟨rfl,rfl⟩
 refine⟨?_,_,hj,by simp,fun hl a ha=> ?_,fun d hd=> ?_⟩
 ·have:=G1N p (xs.take k)
  simp only [G0a,G0B] at this ⊢
  exact G0T (jar (by omega))
 ·rw [G0F (by simpa using hl)];exact hq a ha
 ·rw [G0o] at hd
  cases hx:xs[k]? with
  |none=>rw [hx] at hd;cases hd
  |some x=>
   rw [hx] at hd;cases hd
   refine⟨_,⟨_,_,rfl,rfl⟩,?_⟩
   refine hp x (G0i hx) _ ?_
   cases hb:p x with
   |true=>
    rw [if_pos rfl]
    refine he x (G0i hx) hb _ ⟨_,Sub.refl _,rfl,?_⟩
    rw [G1E,hx];simp [hb]
   |false=>
    rw [if_neg (by decide)]
    refine⟨_,Sub.refl _,rfl,?_⟩
    rw [G1E,hx];simp [hb]
end
def jmu (T:List (List Int)) (n p:Nat):List Nat:=(List.range n).filter fun j=>decide (ent T p j>0)
def cnt (T:List (List Int)) (n o:Nat):Nat→Nat→Int
 |0,p=>if p=o then 1 else 0
 |t+1,p=>((jmu T n p).map (cnt T n o t)).sum
section
variable {T:List (List Int)} {n o:Nat}
def jtd (T:List (List Int)) (n o t p:Nat):Nat:=(jmu T n p).findIdx fun j=>decide (cnt T n o t j>0)
def nxt (T:List (List Int)) (n o t p:Nat):Nat:=(jmu T n p).getD (jtd T n o t p) 0
end
theorem jlA {α:Type} {xs:List α} {x:α} (h1:1≤xs.length) (h:xs[xs.length-1]? =some x):atI xs (-1)=some x:=by
 unfold atI ixN
 rw [if_neg (by decide),if_pos (by omega)]
 show xs[(-1+(xs.length:Int)).toNat]? =_
 rw [show (-1+(xs.length:Int)).toNat=xs.length-1 by omega];exact h
end L2
namespace L2
open PySem PySem.Spec PyProof.Rows
theorem ObjOk.there {P:Program} {w:World} {H:Hp} {h:Heap} {a:Addr} {o:HO} (x:ObjOk P w H h a o): ∃u,h.get? a=some u:=by
 cases o with
 |lst xs=>obtain⟨_,_,_,_,e⟩:=x;exact⟨_,e⟩
 |tup xs=>obtain⟨_,_,_,p⟩:=x;obtain⟨o,e,_⟩:=p;exact⟨_,e⟩
 |dK kvs=>obtain⟨_,_,_,_,o,_,_,e,_⟩:=x;exact⟨_,e⟩
 |dT kvs=>obtain⟨_,_,_,_,o,_,_,e,_⟩:=x;exact⟨_,e⟩
 |set S n=>obtain⟨o,_,_,_,e,_⟩:=x;exact⟨_,e⟩
 |ins C dx fs=>obtain⟨_,_,_,e,_⟩:=x;exact⟨_,e⟩
 |own y=>obtain⟨_,e⟩:=x;exact⟨_,e⟩
 |xd fs=>obtain⟨_,⟨_,_,_,e,_⟩,_⟩:=x;exact⟨_,e⟩
 |rng lo hi=>obtain⟨_,_,_,e⟩:=x;exact⟨_,e⟩
 |frz ob u=>obtain⟨e,_⟩:=x;exact⟨_,e⟩
 |tbl ps=>exact⟨_,(show h.get? a=some _ from x)⟩
 |met f y=>exact⟨_,(show h.get? a=some _ from x)⟩
 |ext φ=>obtain⟨_,⟨_,e⟩,_⟩:=x;exact⟨_,e⟩
theorem ja5 {h b b' :Heap}: ∀ {l:List Env},h.FunFrames b l→(∀a∈frs l,b'.get? a=none)→h.FunFrames b' l
 | [],_,_=>trivial
 |env::r,⟨hk,⟨L,o,hf,_,ho,hd⟩,hr⟩,n=>by
  refine⟨hk,⟨L,o,hf,n L ?_,ho,hd⟩,ja5 hr fun a ha=>n a ?_⟩
  ·unfold frs;rw [List.filterMap_cons,hf];exact .head _
  ·unfold frs;rw [List.filterMap_cons,hf];exact .tail _ ha
structure Fly (h0:Heap) (H:Hp) (h:Heap) (x C:Addr):Prop where
 ex: ∃ (oe:Obj) (vs:Array Value) (a0:Value) (T:Addr) (oT:Obj) (ts:Array Value),h.get? x=some oe∧oe.cls= .ref C∧oe.data= .fields vs∧vs[0]? =some a0∧vs[1]? =some (.ref T)∧T≠x∧
  h.get? T=some oT∧oT.data= .fields ts∧ts[3]? =some .none∧H T=none∧h0.get? T=none
 nx:H x=none
 n0:h0.get? x=none
def CXR (P:Program) (w:World):CXT:=fun outer H s E e s' => ∃x C H',e= .ref x∧s'.os=s.os∧AllBare s'.gens∧Un (frs outer) [] H H' s.heap s'.heap∧HOk P w H' s'.heap∧Fly s.heap H' s'.heap x C∧E (.ref C) none H'
structure Rz0 (X:Cx):Prop where
 stk:X.stack=X.env::X.outer
 fr:X.env.frame=some X.env.locals
 ex:X.ex= []
structure Rz (X:Cx) (E:XK):Prop extends Rz0 X where
 xe: ∀e s',wpAny (model X.prog X.w) X.A (leaving X.env e) (fun _ s'' =>CXR X.prog X.w X.outer X.H₀ X.s₀ E e s'') (fun e' s'' =>CXR X.prog X.w X.outer X.H₀ X.s₀ E e' s'') s' →X.xe e s'
section
variable {X:Cx} {pins:List (Addr×Obj)} {σ:St} {H:Hp} {s:Shared} {E:XK} {x C:Addr}
theorem jkb (I:Inv X pins σ H s) (Z:Rz0 X) {ys:List Addr} (hy: ∀y∈ys,H y=none∧X.s₀.heap.get? y=none) {h' :Heap}
 (kb: ∀b o,s.heap.get? b=some o→b ∉ ys→b ∉ frs (X.env::X.outer)→h'.get? b=some o)
 (up: ∀b o,s.heap.get? b=some o→b∈frs (X.env::X.outer)→ ∃sl,h'.get? b=some {o with slots:=sl}):
 Un X.fs [] X.H₀ H X.s₀.heap h' ∧HOk X.prog X.w H h' ∧
  ∀T oT ts,h'.get? T=some oT→oT.data= .fields ts→(∀o,s.heap.get? T=some o→T∈ys∨T∈frs (X.env::X.outer))→H T=none∧X.s₀.heap.get? T=none:=by
 have nex: ∀b,b ∉ X.ex:=fun b=>by rw [Z.ex];simp
 have neL: ∀b o,X.s₀.heap.get? b=some o→b≠X.env.locals:=fun b o e=>G0J (G0D (G0l e) I.ok.above)
 have mem: ∀b,b∈frs (X.env::X.outer)↔b=X.env.locals∨b∈X.fs:=fun b=>by
  show b∈List.filterMap _ _↔_
  rw [G3O,Z.fr]
  exact G0n
 have nys: ∀b o,X.s₀.heap.get? b=some o→b ∉ ys:=fun b o e z=>by rw [(hy b z).2] at e;cases e
 have trf: ∀b u,H b=some u→b ∉ ys∧b ∉ frs (X.env::X.outer):=fun b u e=>by
  refine⟨fun z=> ?_,fun z=> ?_⟩
  ·rw [(hy b z).1] at e;cases e
  ·have:=I.stkFree b (by rw [Z.stk];exact z)
   rw [this] at e;cases e
 refine⟨⟨fun b o e n hb hx=> ?_,fun b o e n hb hx=> ?_,fun b o e n hx=>I.base.free b o e n (nex b),fun b o e hx=> ?_,I.base.tups,I.base.frzs,I.base.tbls⟩,fun a o e=> ?_,fun T oT ts hT hd hn=>⟨?_,?_⟩⟩
 ·exact kb b o (I.base.keep b o e n hb (nex b)) (nys b o e) fun z=>((mem b).mp z).elim (neL b o e) hb
 ·obtain⟨sl,e1⟩:=I.base.slot b o e n hb (nex b)
  obtain⟨sl',e2⟩:=up b _ e1 ((mem b).mpr (.inr hb))
  exact⟨sl',e2⟩
 ·obtain⟨o',e1⟩:=I.base.there b o e (nex b)
  by_cases hb:b∈frs (X.env::X.outer)
  ·obtain⟨sl,e2⟩:=up b o' e1 hb;exact⟨_,e2⟩
  ·exact⟨_,kb b o' e1 (nys b o e) hb⟩
 ·refine(I.hok a o e).stay (fun b u hb q=> ?_) (fun _ q=>q) fun _ _ q=>q
  rcases hb with rfl|hb
  ·exact kb b u q (trf b _ e).1 (trf b _ e).2
  ·exact kb b u q (trf b _ hb).1 (trf b _ hb).2
 ·cases q:H T with
  |none=>rfl
  |some u=>
   obtain⟨o,e⟩:=(I.hok T u q).there
   exact absurd (hn o e) fun z=>z.elim (trf T u q).1 (trf T u q).2
 ·cases q:X.s₀.heap.get? T with
  |none=>rfl
  |some o=>
   exfalso
   obtain⟨o',e1⟩:=I.base.there T o q (nex T)
   rcases hn o' e1 with z|z
   ·exact nys T o q z
   ·rcases (mem T).mp z with z' |z'
    ·exact neL T o q z'
    ·obtain⟨_,o2,e2,nd⟩:=(show s.heap.FunFrames X.base (X.env::X.outer) from Z.stk ▸ I.stack).mem z
     obtain⟨sl,e3⟩:=up T o2 e2 z
     rw [hT] at e3;cases e3
     exact nd ts hd
theorem jkc {Q:Unit→Shared→Prop} {M:Model} {EE:Value→Shared→Prop} (I:Inv X pins σ H s) (Z:Rz X E) (fl:Fly X.s₀.heap H s.heap x C)
 (k: ∀h',Un X.fs [] X.H₀ H X.s₀.heap h' →HOk X.prog X.w H h' →Fly X.s₀.heap H h' x C→Q () {s with heap:=h'}):wpAny M X.A (leaving X.env (.ref x)) Q EE s:=by
 obtain⟨oe,vs,a0,T,oT,ts,he,hc,hd,h0,h1,hTx,hT,hTd,h3,hHT,h0T⟩:=fl.ex
 have hfr:X.A.frames=some (X.env::X.outer):=by rw [I.ok.frames,Z.stk]
 have stk:s.heap.FunFrames X.base (X.env::X.outer):=Z.stk ▸ I.stack
 have ff:s.heap.FunFrames (PySem.W.hideAll s.heap (x::T::frs (X.env::X.outer))) (X.env::X.outer):=ja5 stk fun a ha=>G2w _ (.tail _ (.tail _ ha))
 refine wpAny_leaves_onW (base:=PySem.W.hideAll s.heap (x::T::frs (X.env::X.outer))) (cls:= .ref C) (a0:=a0) hfr Z.fr
  ⟨fun b o e=>G3Y _ e,G2w _ (.head _),ff,oe,vs,T,oT,ts,he,⟨hc,h0⟩,hd,h1,G2w _ (.tail _ (.head _)),hTx,hT,hTd,h3⟩ fun h' hfl' hup=> ?_
 obtain⟨st,_,_,oe',vs',T',oT',ts',he',⟨hc',h0'⟩,hd',h1',hTB,hTx',hT',hTd',h3'⟩:=hfl'
 obtain⟨r1,r2,r3⟩:=jkb (ys:= [x,T]) (h' :=h') I Z.toRz0 (fun y hy=>by
  rcases G0n.mp hy with rfl|hy
  ·exact⟨fl.nx,fl.n0⟩
  ·rcases G0n.mp hy with rfl|hy
   ·exact⟨hHT,h0T⟩
   ·cases hy) (fun b o e n1 n2=>st b o (G2I _ e fun z=>by
    rcases G0n.mp z with rfl|z
    ·exact n1 (.head _)
    ·rcases G0n.mp z with rfl|z
     ·exact n1 (.tail _ (.head _))
     ·exact n2 z)) fun b o e hb=>by
  obtain⟨_,o2,e2,nd⟩:=stk.mem hb
  rw [e] at e2;cases e2
  exact hup b o e nd
 obtain⟨q1,q2⟩:=r3 T' oT' ts' hT' hTd' fun o e=>by
  by_cases z:T' ∈frs (X.env::X.outer)
  ·exact .inr z
  ·refine .inl ?_
   by_cases z1:T' =x
   ·rw [z1];exact .head _
   ·by_cases z2:T' =T
    ·rw [z2];exact .tail _ (.head _)
    ·rw [G2I _ e (by simp only [G0n,not_or];exact⟨z1,z2,z⟩)] at hTB;cases hTB
 exact k h' r1 r2 ⟨⟨oe',vs',a0,T',oT',ts',he',hc',hd',h0',h1',hTx',hT',hTd',h3',q1,q2⟩,fl.nx,fl.n0⟩
theorem jiQ {Q:Unit→Shared→Prop} {M:Model} {EE:Value→Shared→Prop} {h1:Heap} {args:List Value} (I:Inv X pins σ H s) (Z:Rz X E) (hm:Heap.MadeExcOf s.heap h1 x (.ref C) args)
 (k: ∀h',Un X.fs [] X.H₀ H X.s₀.heap h' →HOk X.prog X.w H h' →Fly X.s₀.heap H h' x C→Q () {s with heap:=h'}):wpAny M X.A (leaving X.env (.ref x)) Q EE {s with heap:=h1}:=by
 have hfr:X.A.frames=some (X.env::X.outer):=by rw [I.ok.frames,Z.stk]
 have stk:s.heap.FunFrames X.base (X.env::X.outer):=Z.stk ▸ I.stack
 have ff:s.heap.FunFrames (PySem.W.hideAll s.heap (frs (X.env::X.outer))) (X.env::X.outer):=ja5 stk fun a ha=>G2w _ ha
 refine wpAny_leaves_madeW (base:=PySem.W.hideAll s.heap (frs (X.env::X.outer))) (h:=s.heap) (s:= {s with heap:=h1}) hfr Z.fr (fun b o e=>G3Y _ e) ff hm fun h' t hfl' _ _ hup=> ?_
 obtain⟨st,_,_,oe',vs',T',oT',ts',he',⟨hc',h0'⟩,hd',h1',hTB,hTx',hT',hTd',h3'⟩:=hfl'
 obtain⟨r1,r2,r3⟩:=jkb (ys:= []) (h' :=h') I Z.toRz0 (fun y hy=>nomatch hy) (fun b o e _ n2=>st b o (G2I _ e n2)) fun b o e hb=>by
  obtain⟨_,o2,e2,nd⟩:=stk.mem hb
  rw [e] at e2;cases e2
  exact hup b o (hm.keeps b o e) nd
 obtain⟨q1,q2⟩:=r3 T' oT' ts' hT' hTd' fun o e=>by
  by_cases z:T' ∈frs (X.env::X.outer)
  ·exact .inr z
  ·rw [G2I _ e z] at hTB;cases hTB
 obtain⟨p1,p2⟩:=r3 x oe' vs' he' hd' fun o e=>by rw [hm.new] at e;cases e
 exact k h' r1 r2 ⟨⟨oe',vs',_,T',oT',ts',he',hc',hd',h0',h1',hTx',hT',hTd',h3',q1,q2⟩,p1,p2⟩
theorem jrU (Z:Rz X E):jeh (CXR X.prog X.w) X E:=by
 intro pins σ H s e s' I ⟨x,C,H',he,os,bare,un,hok,fl,q⟩
 subst he
 obtain⟨hh,g,d,t,os'⟩:=s'
 obtain rfl:os' =s.os:=os
 have I' :=I.call (h' :=hh) (g' :=g) (d' :=d) (t' :=t) (ch:= []) un hok bare (fun b z=>absurd z (by simp))
 have nex: ∀b,b ∉ X.ex:=fun b=>by rw [Z.ex];simp
 have f0: ∀b,s.heap.get? b=none→X.s₀.heap.get? b=none:=fun b n=>by
  cases q:X.s₀.heap.get? b with
  |none=>rfl
  |some o=>obtain⟨o',e⟩:=I.base.there b o q (nex b);rw [n] at e;cases e
 have fl' :Fly X.s₀.heap H' hh x C:=by
  obtain⟨⟨oe,vs,a0,T,oT,ts,a1,a2,a3,a4,a5,a6,a7,a8,a9,a10,a11⟩,nx,n0⟩:=fl
  exact⟨⟨oe,vs,a0,T,oT,ts,a1,a2,a3,a4,a5,a6,a7,a8,a9,a10,f0 _ a11⟩,nx,f0 _ n0⟩
 exact Z.xe _ _ (jkc I' Z fl' fun h' u hk f=>⟨x,C,H',rfl,I'.os,I'.bare,u,hk,f,q⟩)
end
end L2
namespace L2
open PySem PySem.Spec PyProof.Rows PySem.W
def jd3 (cells:List (Str×Addr)):List (Str×NameKind)→List (Str×Addr)→List (Str×Addr)
 | [],cs=>cs
 |(n,k)::r,cs=>jd3 cells r (if k== .free then (match cells.lookup n with|some c=>(n,c)::cs|none=>cs) else cs)
theorem jcp {env:Env}: ∀ (names:List (Str×NameKind)) (cs:List (Str×Addr)),(∀n,(n,NameKind.free)∈names→ ∃c,env.cells.lookup n=some c)→
 (forIn names cs (fun (x:Str×NameKind) (r:List (Str×Addr))=>do
  let (name,kind):=x
  if kind== .free then
   let c ←cellOf env name
   pure (ForInStep.yield ((name,c)::r))
  else pure (ForInStep.yield r)):Sem (List (Str×Addr)))=pure (jd3 env.cells names cs)
 | [],cs,_=>rfl
 |(n,k)::r,cs,h=>by
  rw [G3k]
  by_cases hk:(k==NameKind.free)=true
  ·have hk' :k= .free:=eq_of_beq hk
   subst hk'
   obtain⟨c,hc⟩:=h n (.head _)
   unfold jd3
   simp only [G2d,if_true,cellOf,hc,pure_bind]
   exact jcp r _ fun n hn=>h n (.tail _ hn)
  ·unfold jd3
   simp only [hk,G4z,pure_bind]
   exact jcp r _ fun n hn=>h n (.tail _ hn)
theorem jeE {scope:Scope} {env:Env} (h: ∀n,(n,NameKind.free)∈scope.names→ ∃c,env.cells.lookup n=some c):closureFor scope env=pure (jd3 env.cells scope.names []):=by
 have:=jcp (env:=env) scope.names [] h
 unfold closureFor
 first
  |exact this
  |simpa using this
theorem jcf {cells:List (Str×Addr)}: ∀ (names:List (Str×NameKind)) (cs:List (Str×Addr)),(∀x c,cs.lookup x=some c→cells.lookup x=some c)→ ∀x c,(jd3 cells names cs).lookup x=some c→cells.lookup x=some c
 | [],_,h,x,c,e=>h x c e
 |(n,k)::r,cs,h,x,c,e=>by
  unfold jd3 at e
  refine jcf r _ (fun y d hy=> ?_) x c e
  split at hy
  ·split at hy
   ·rename_i c' hc'
    rw [G1w] at hy
    by_cases q:(y==n)=true
    ·rw [q] at hy;cases hy;rw [eq_of_beq q];exact hc'
    ·simp only [q] at hy;exact h y d hy
   ·exact h y d hy
  ·exact h y d hy
theorem jeF {cells:List (Str×Addr)}: ∀ (names:List (Str×NameKind)) (cs:List (Str×Addr)) (x:Str),((x,NameKind.free)∈names∧(∃c,cells.lookup x=some c)∨ ∃c,cs.lookup x=some c)→ ∃c,(jd3 cells names cs).lookup x=some c
 | [],_,x,h=>h.elim (fun z=>nomatch z.1) id
 |(n,k)::r,cs,x,h=>by
  unfold jd3
  refine jeF r _ x ?_
  rcases h with ⟨hm,c,hc⟩|⟨c,hc⟩
  ·rcases G0n.mp hm with q|q
   ·cases q
    right
    simp only [G2d,if_true,hc]
    exact⟨c,by simp⟩
   ·exact .inl ⟨q,c,hc⟩
  ·right
   split
   ·split
    ·rename_i c' hc'
     by_cases q:(x==n)=true
     ·exact⟨c',by rw [G1w,q]⟩
     ·exact⟨c,by rw [G1w];simp only [q];exact hc⟩
    ·exact⟨c,hc⟩
   ·exact⟨c,hc⟩
structure LamOk (sc:Scope):Prop where
 kind:sc.kind= .function
 co:sc.isCoroutine=false
 gen:sc.isGenerator=false
 nocell: ∀y∈sc.names,y.2≠ .cell∧y.2≠ .local
def je7:Arguments:= {posonlyargs:= [],args:= [],vararg:=none,kwonlyargs:= [],kw_defaults:= [],kwarg:=none,defaults:= []}
theorem jgU {a0 b0:Nat} {c:Value}: ∀l:List Value,TriplesOk l→TriplesOk (l++ [rawInt a0,rawInt b0,c]):=by
 intro l h
 fun_induction TriplesOk l with
 |case1=>simp [TriplesOk,rawInt]
 |case2 a t b u x rest ih=>simp only [G00,TriplesOk];exact ih h
 |case3 l h1 h2=>exact h.elim
theorem jiR {p:Pos} {a0 b0:Nat} {c cv:Value}: ∀l:List Value,TriplesOk l→codeAmong p (l++ [rawInt a0,rawInt b0,c])=some cv→codeAmong p l=some cv∨cv=c:=by
 intro l h e
 fun_induction TriplesOk l with
 |case1=>
  right
  simp only [G0Q,codeAmong,rawInt] at e
  split at e
  ·exact(G1y e).symm
  ·cases e
 |case2 a t b u x rest ih=>
  simp only [G00,codeAmong] at e ⊢
  split at e
  ·rename_i hc;left;rw [if_pos hc];exact e
  ·rename_i hc;rw [if_neg hc];exact ih h e
 |case3 l h1 h2=>exact h.elim
def CodeF (H:Hp) (cv:Value) (q:Str):Prop:= ∃ (c:Addr) (o:Obj) (vs:Array Value) (t:Tok),cv= .ref c∧H c=some (.frz o (.own 0))∧o.data= .fields vs∧vs[1]? =some (.str q t)
theorem CodeF.rec {P:Program} {w:World} {H:Hp} {h:Heap} {cv:Value} {q:Str} (x:CodeF H cv q) (ok:HOk P w H h):h.CodeRec cv q:=let ⟨c,o,vs,t,e,e2,r⟩:=x;⟨c,o,vs,t,e,(ok c _ e2).1,r⟩
section
variable {X:Cx} {pins:List (Addr×Obj)} {σ:St} {H:Hp} {s:Shared}
theorem jlB {M:Model} {A:Around} {E:Value→Shared→Prop} {Q:Value→Shared→Prop} {body:Expr} {scope:Scope} {pos:Pos} {c P:Addr} {ps:Array Value} {clos:List (Str×Addr)} (I:Inv X pins σ H s) (B:Bm X.mg X.base)
 (hcode:X.env.code= .ref c) (hc:codeHdIn X.K c P=true) (hP:H P=some (.tbl ps)) (hps:CodesOk H ps) (hcl:closureFor scope X.env=pure clos)
 (k: ∀ (f:Addr) (q qual:Str) (pm cv ctv:Value) (H' :Hp) (h' :Heap) (tk:Tok),Inv X pins σ H' {s with heap:=h',toks:=tk}→Kept H H' →(∀a xs,H a=some (.lst xs)→H' a=some (.lst xs))→
  (∀a ps',H a=some (.tbl ps')→a≠P→H' a=some (.tbl ps'))→(∃ps',H' P=some (.tbl ps')∧CodesOk H' ps')→
  h'.get? f=some {cls:= .type "function",data:= .func (kla_fn "<lambda>" qual je7 body scope clos pm cv ctv)}→CodeF H' cv q→H' f=none→(∀x d,X.env.cells.lookup x=some d→d≠f)→f≠X.env.locals→f ∉ X.fs→Q (.ref f) {s with heap:=h',toks:=tk}):
 wpAny M A (eval (.Lambda je7 body scope pos) X.env) Q E s:=by
 have hPg:s.heap.get? P=some (tabObj ps):=I.hok P _ hP
 have C:CodeHd s.heap c P:=codeHd_of_K I.kIn hc
 have hgs:s.heap.Ns mainGlobals X.mg:=I.mod.glob.keeps I.bk
 obtain⟨bm,ob,b1,b2,b3,b4,b5,b6⟩:=B
 have bb:=I.bs _ _ b3
 have hgP:mainGlobals≠P:=fun q=>by
  obtain⟨o,es,ep,e,hd,_⟩:=hgs
  rw [q,hPg] at e;cases e;cases hd
 have hbP:bm≠P:=fun q=>by rw [q,hP] at bb;cases bb.2
 have hbG:bm≠mainGlobals:=fun q=>by
  obtain⟨o,es,ep,e,hd,_⟩:=hgs
  rw [q,e] at bb;cases bb.1;rw [hd] at b6;cases b6
 have BA:s.heap.BuiltinsAt X.mg P:=⟨bm,ob,b1,b2,hbG,hbP,bb.1,b4,b5,b6⟩
 have away: ∀f,s.heap.objs.size≤f→(∀x d,X.env.cells.lookup x=some d→d≠f)∧f≠X.env.locals∧f ∉ X.fs:=fun f hf=>⟨fun x d e z=>by
  obtain⟨v,o,ho,_⟩:=I.cell x d e
  exact absurd (G0D (G0l ho) (z ▸ hf)) (G0W _),fun z=>absurd (G0D I.lt (z ▸ hf)) (G0W _),I.nofs hf⟩
 refine kla_eval rfl ?_
 cases hf:codeAmong pos ps.toList with
 |none=>
  refine kla_makeFunction (mg:=X.mg) hcl I.ok.glob hgs hcode C hPg hps.1 hf hgP BA fun c' ctv h' tk hx hge hlt hrec htb=> ?_
  have hP' :P<s.heap.objs.size:=G0l hPg
  have hcP:c' ≠P:=G2j (G0D hP' hge)
  have hcn:H c' =none:=I.hok.fresh hge
  obtain⟨c₂,oc,vs,t,e2,hoc,hd,hv⟩:=hrec
  cases e2
  have szle:s.heap.objs.size≤h'.objs.size:=G0T (G1Z hge hlt)
  have kp: ∀ (o2:Obj) b o,b≠P→s.heap.get? b=some o→(h'.push o2).get? b=some o:=fun o2 b o nb e=>G0b _ (hx b o nb e)
  have hnP: ∀b u,H b=some u→(∀ps',u≠ .tbl ps')→b≠P:=fun b u e n z=>by rw [z,hP] at e;cases e;exact n _ rfl
  have look: ∀b,b≠P→b≠c' →upd (upd H c' (.frz oc (.own 0))) P (.tbl (ps++ #[rawInt pos.line,rawInt pos.col,.ref c'])) b=H b:=fun b n1 n2=>by rw [jaj n1,jaj n2]
  have ncs: ∀b u,H b=some u→b≠c' :=fun b u e z=>by rw [z,hcn] at e;cases e
  have frzs: ∀b o u,H b=some (.frz o u)→upd (upd H c' (.frz oc (.own 0))) P (.tbl (ps++ #[rawInt pos.line,rawInt pos.col,.ref c'])) b=some (.frz o u):=fun b o u e=>by
   rw [look b (hnP b _ e (by intro _ z;cases z)) (ncs b _ e)];exact e
  refine k h'.objs.size (X.env.qual++ "<lambda>") (X.env.qual++ "<lambda>") _ (.ref c') ctv (upd (upd H c' (.frz oc (.own 0))) P (.tbl (ps++ #[rawInt pos.line,rawInt pos.col,.ref c']))) _ tk ?_ ?_ ?_ ?_ ?_ (G0x _ rfl) ⟨c',oc,vs,t,rfl,by rw [jaj hcP,jam],hd,hv⟩ ?_ (away _ szle).1 (away _ szle).2.1 (away _ szle).2.2
  ·refine I.un (t' :=tk) ⟨fun b o e n hb hx' =>kp _ b o (fun z=>by rw [z,hP] at n;cases n) e,fun b o e n hb hx' =>⟨o.slots,kp _ b o (fun z=>by rw [z,hP] at n;cases n) e⟩,fun b o e n hx' => ?_,fun b o e hx' => ?_,fun b xs e=> ?_,frzs,fun b ps' e=> ?_⟩ fun a o e=> ?_
   ·rw [look b (fun z=>by rw [z,hP] at n;cases n) (G0J (G0D (G0l e) hge))];exact n
   ·by_cases z:b=P
    ·rw [z];exact⟨_,G0b _ htb⟩
    ·exact⟨_,kp _ b o z e⟩
   ·rw [look b (hnP b _ e (by intro _ z;cases z)) (ncs b _ e)];exact e
   ·by_cases z:b=P
    ·subst z;rw [hP] at e;cases e;exact⟨_,jam⟩
    ·exact⟨#[],by rw [look b z (ncs b _ e),e];simp⟩
   ·by_cases z:a=P
    ·subst z;rw [jam] at e;cases e
     exact G0b _ htb
    ·rw [jaj z] at e
     by_cases z2:a=c'
     ·subst z2;rw [jam] at e;cases e
      exact⟨G0b _ hoc,⟨oc,G0b _ hoc⟩⟩
     ·rw [jaj z2] at e
      refine(I.hok a o e).stay (fun b u hb q=> ?_) (fun b q=> ?_) fun b xs q=> ?_
      ·rcases hb with rfl|hb
       ·exact kp _ b u z q
       ·exact kp _ b u (hnP b _ hb (by intro _ z;cases z)) q
      ·rw [look b (hnP b _ q (by intro _ z;cases z)) (ncs b _ q)];exact q
      ·rw [look b (hnP b _ q (by intro _ z;cases z)) (ncs b _ q)];exact q
  ·refine⟨fun a xs e=> ?_,fun a xs e=>⟨xs,?_⟩,fun a kk e=> ?_,frzs⟩<;>(rw [look a (hnP a _ e (by intro _ z;cases z)) (ncs a _ e)];exact e)
  ·intro a xs e;rw [look a (hnP a _ e (by intro _ z;cases z)) (ncs a _ e)];exact e
  ·intro a ps' e n;rw [look a n (ncs a _ e)];exact e
  ·refine⟨_,jam,?_,fun p cv e=> ?_⟩
   ·simp only [G07]
    exact jgU _ hps.1
   ·simp only [G07] at e
    rcases jiR ps.toList hps.1 e with e|e
    ·obtain⟨c1,o,vs',q',t',e1,e2,r⟩:=hps.2 p cv e
     exact⟨c1,o,vs',q',t',e1,frzs _ _ _ e2,r⟩
    ·exact⟨c',oc,vs,_,t,e,by rw [jaj hcP,jam],hd,hv⟩
  ·have:H h'.objs.size=none:=I.hok.fresh szle
   rw [look _ (G2j (G0D hP' szle)) (G2j hlt)];exact this
 |some cv=>
  obtain⟨c1,o,vs,q,t,rfl,e2,hd,hv⟩:=hps.2 pos cv hf
  obtain⟨ho,_⟩:=I.hok c1 _ e2
  refine kla_makeFunctionHit (mg:=X.mg) hcl I.ok.glob hgs hcode C hPg hps.1 hf BA fun ctv h' tk hk hsz=> ?_
  exact k h'.objs.size q (X.env.qual++ "<lambda>") _ (.ref c1) ctv H _ tk (I.kept (t' :=tk) fun b u e=>G0b _ (hk b u e)) (.refl H) (fun _ _ e=>e) (fun _ _ e _=>e) ⟨ps,hP,hps⟩ (G0x _ rfl) ⟨c1,o,vs,t,rfl,e2,hd,hv⟩
   (I.hok.fresh hsz) (away _ hsz).1 (away _ hsz).2.1 (away _ hsz).2.2
end
structure Cap (N:List Str) (σ:St) (sc:Scope) (cl:List (Str×Addr)) (h:Heap) (H:Hp):Prop where
 len:σ.length=N.length
 inj: ∀x y c,cl.lookup x=some c→cl.lookup y=some c→x=y
 has: ∀x,sc.names.lookup x=some .free→ ∃c,cl.lookup x=some c
 cell: ∀x c,cl.lookup x=some c→(∃v,h.IsCell c v)∧H c=none
 loc: ∀ (i:Nat) (x:Str) (v:V),N[i]? =some x→σ[i]? =some (some v)→sc.names.lookup x=some .free→ ∃u c,RelV v u∧cl.lookup x=some c∧h.IsCell c (some u)
theorem jbT {α β:Type} [BEq α] [LawfulBEq α]: ∀ {l:List (α×β)} {x:α} {y:β},l.lookup x=some y→(x,y)∈l
 | [],_,_,h=>by cases h
 |(a,b)::r,x,y,h=>by
  rw [G1w] at h
  by_cases q:(x==a)=true
  ·rw [q] at h;cases h;rw [eq_of_beq q];exact .head _
  ·simp only [q] at h;exact .tail _ (jbT h)
def jkd (sc:Scope) (env:Env):Prop:= ∀n,(n,NameKind.free)∈sc.names→env.kindOf n=some .cell∨env.kindOf n=some .free
theorem Cap.of {X:Cx} {pins:List (Addr×Obj)} {σ:St} {H:Hp} {s:Shared} {sc:Scope} (I:Inv X pins σ H s) (hf:jkd sc X.env):Cap X.N σ sc (jd3 X.env.cells sc.names []) s.heap H where
 len:=I.len
 inj:=fun x y c h1 h2=>I.ok.inj x y c (jcf _ _ (fun _ _ z=>by cases z) _ _ h1) (jcf _ _ (fun _ _ z=>by cases z) _ _ h2)
 has:=fun x h=>jeF _ _ _ (.inl ⟨jbT h,I.ok.has x (hf x (jbT h))⟩)
 cell:=fun x c h=>⟨I.cell x c (jcf _ _ (fun _ _ z=>by cases z) _ _ h),I.freeC x c (jcf _ _ (fun _ _ z=>by cases z) _ _ h)⟩
 loc:=fun i x v h1 h2 h3=>by
  obtain⟨m,hn,hl⟩:=I.loc
  have hk:=hf x (jbT h3)
  obtain⟨u,r,l⟩:=hl i x v h1 h2 (.inr hk)
  obtain⟨c,hc⟩:=jeF (cells:=X.env.cells) sc.names [] x (.inl ⟨jbT h3,I.ok.has x hk⟩)
  refine⟨u,c,r,hc,?_⟩
  have hc' :=jcf _ _ (fun _ _ z=>by cases z) _ _ hc
  rcases l with ⟨k,_⟩|⟨_,c2,e,z⟩
  ·rcases hk with k2|k2<;>(rw [k] at k2;cases k2)
  ·rw [hc'] at e;cases e;exact z
theorem Cap.step {N:List Str} {σ:St} {sc:Scope} {cl:List (Str×Addr)} {h h' :Heap} {H H' :Hp} {fs:List Addr} (C:Cap N σ sc cl h H) (u:Un fs [] H H' h h'):Cap N σ sc cl h' H' :=by
 have k: ∀x c v,cl.lookup x=some c→h.IsCell c v→h'.IsCell c v:=fun x c v e ⟨o,ho,hd⟩=>by
  obtain⟨sl,q⟩:=u.any ho (C.cell x c e).2 (by simp)
  exact⟨_,q,hd⟩
 exact⟨C.len,C.inj,C.has,fun x c e=>by
  obtain⟨⟨v,z⟩,n⟩:=C.cell x c e
  obtain⟨o,ho,_⟩:=id z
  exact⟨⟨v,k x c v e z⟩,u.free c o ho n (by simp)⟩,fun i x v h1 h2 h3=>let ⟨uu,c,r,e,z⟩:=C.loc i x v h1 h2 h3;⟨uu,c,r,e,k x c _ e z⟩⟩
def cxL (CX:CXT) (P:Program) (w:World) (K:PySem.W.Frag) (mg:Str→Option Value) (base:Heap) (N:List Str) (q:Str) (scope:Scope) (f:Addr) (cd:Value) (cl:List (Str×Addr)) (A:Around) (outer:List Env) (s:Shared) (H:Hp) (E:XK):Cx where
 prog:=P
 w:=w
 K:=K
 mg:=mg
 base:=base
 A:=A.deeper (envX q scope s.heap.objs.size f cd cl)
 N:=N
 s₀:=s
 H₀:=H
 env:=envX q scope s.heap.objs.size f cd cl
 outer:=outer
 stack:=envX q scope s.heap.objs.size f cd cl::outer
 ex:= []
 calm:=true
 fn:=fun _=>false
 pn:= []
 xe:=fun e s' =>wpAny (model P w) (A.deeper (envX q scope s.heap.objs.size f cd cl)) (leaving (envX q scope s.heap.objs.size f cd cl) e) (fun _ s'' =>CX outer H s E e s'') (fun e' s'' =>CX outer H s E e' s'') s'
theorem jnK {CX:CXT} {P:Program} {w:World} {K:PySem.W.Frag} {mg:Str→Option Value} {base:Heap} {N:List Str} {q:Str} {scope:Scope} {f:Addr} {cd:Value} {cl:List (Str×Addr)} {A:Around} {outer:List Env} {s:Shared} {H:Hp} {E:XK} {σ:St} {h₁:Heap} {tk:Tok}
 (L:LamOk scope) (hd:A.handled=none) (e0:Env0 P w K mg base A outer s H) (C:Cap N σ scope cl s.heap H) (hns:h₁.Ns s.heap.objs.size (fun _=>none)) (hk: ∀b o,s.heap.get? b=some o→h₁.get? b=some o):
 Inv (cxL CX P w K mg base N q scope f cd cl A outer s H E) [] σ H {s with heap:=h₁,toks:=tk}:=by
 have noA: ∀b:Addr,b ∉ (cxL CX P w K mg base N q scope f cd cl A outer s H E).ex:=fun b z=>absurd (show b∈([]:List Addr) from z) (by simp)
 have nofr: ∀y,scope.names.lookup y=some .cell∨scope.names.lookup y=some .free→scope.names.lookup y=some .free:=fun y hy=>hy.elim (fun z=>absurd rfl (L.nocell _ (jbT z)).1) id
 refine⟨⟨e0.mod,L.kind,rfl,rfl,G0f _,fun y z c h1 h2=>C.inj y z c h1 h2,fun y hy=>C.has y (nofr y hy),fun y c z=>(by cases z),fun _=>hd,G3I e0.frames,.inr ⟨rfl,rfl⟩,fun b z=>absurd z (noA b),e0.bs,e0.bsz,fun b _ _=>noA b,fun b z=>absurd z (noA b),e0.funs,e0.frf⟩,
  rfl,e0.bare,Un.kept hk,⟨_,hns,fun i y v h1 h2 h3=> ?_⟩,fun y c h=> ?_,e0.hok.fresh (G0f _),fun y c h=>(C.cell y c h).2,fun p hp=>absurd (show p∈([]:List (Addr×Obj)) from hp) (by simp),e0.hok.kept hk,C.len⟩
 ·have h3' :scope.names.lookup y=some .free:=by
   rcases h3 with z|z
   ·exact absurd rfl (L.nocell _ (jbT z)).2
   ·exact nofr y z
  obtain⟨u,c,r,e,o,ho,hd'⟩:=C.loc i y v h1 h2 h3'
  exact⟨u,r,.inr ⟨.inr h3',c,e,o,hk _ _ ho,hd'⟩⟩
 ·obtain⟨⟨v,o,ho,hd'⟩,_⟩:=C.cell y c h
  exact⟨v,o,hk _ _ ho,hd'⟩
theorem jke {prog:Program} {w:World} {A:Around} {R:Result→Shared→Prop} {s:Shared} {f:Addr} {o:Obj} {qual q:Str} {body:Expr} {scope:Scope} {cl:List (Str×Addr)} {pm cd ctv:Value} (L:LamOk scope) (deep:A.depth<recursionLimit)
 (there:s.heap.get? f=some o) (lam:o.data= .func (kla_fn "<lambda>" qual je7 body scope cl pm cd ctv)) (named:s.heap.CodeRec cd q) (lim:s.heap.NoLimit)
 (go: ∀h₁,h₁.Ns s.heap.objs.size (fun _=>none)→(∀b o,s.heap.get? b=some o→h₁.get? b=some o)→
  codeAny (model prog w) A (.expr body (envX q scope s.heap.objs.size f cd cl)) R {s with heap:=h₁,toks:=s.toks+0}):
 codeAny (model prog w) A (.call (.ref f) ⟨[],[]⟩) R s:=by
 obtain⟨c,oc,vs,t,rfl,hoc,hdc,hq⟩:=named
 obtain⟨h,g,d,tk,os⟩:=s
 have frame:=fun {A' :Around} {Q:Env→Shared→Prop} {E:Value→Shared→Prop} (k: ∀h₁,_→_→Q _ _)=>wpAny_newFunctionEnv (M:=model prog w) (A:=A') (s:=⟨h,g,d,tk,os⟩) (E:=E) (scope:=scope) (globals:=mainGlobals) (closure:=cl) (binds:= []) (qual:=q++ ".<locals>.") (func:=some f) (code:= .ref c) (around:=none) (builtins:=builtinsNs) (Q:=Q) (fun x hx=>(L.nocell x hx).1) (fun x hx=>nomatch hx) k L.kind
 refine G4v ?_
 show wpAny _ A.in1 (callAny (.ref f) ⟨[],[]⟩) _ _ _
 wp_walk using wpAny_load there
 rw [lam]
 have nothing:bindArgs (kla_fn "<lambda>" qual je7 body scope cl pm (.ref c) ctv) ⟨[],[]⟩=pure []:=rfl
 show wpAny _ _ (callFunction f (kla_fn "<lambda>" qual je7 body scope cl pm (.ref c) ctv) ⟨[],[]⟩) _ _ _
 unfold callFunction
 rw [nothing]
 show wpAny _ _ (field (.ref c) 1 >>= _) _ _ _
 refine wpAny_bind (G4E hoc hdc hq ?_)
 repeat refine wpAny_bind (G0e ?_)
 refine wpAny_bind (frame fun h₁ empty same=>wpAny_bind (wpAny_enterFrame (lim.fresh _ same) deep ?_))
 simp only [kla_fn,L.co,L.gen]
 exact G0e ⟨rfl,go h₁ empty fun b o old=>same.extBut _ _ (fun z=>absurd (G0l old) (by rw [z];exact G0W _)) (G0b _ old)⟩
theorem jnL {CX:CXT} {P:Program} {w:World} {K:PySem.W.Frag} {mg:Str→Option Value} {base:Heap} {N:List Str} {q qual:Str} {scope:Scope} {f:Addr} {cd pm ctv:Value} {cl:List (Str×Addr)} {A:Around} {outer:List Env} {s:Shared} {H:Hp} {E:XK} {σ:St} {o:Obj} {body:Expr} {t:TE} {Q:VK} {k:Nat}
 (L:LamOk scope) (hr:Room (k+1) A) (e0:Env0 P w K mg base A outer s H) (C:Cap N σ scope cl s.heap H) (ho:s.heap.get? f=some o) (hd:o.data= .func (kla_fn "<lambda>" qual je7 body scope cl pm cd ctv)) (hc:CodeF H cd q)
 (hb:PE (cxL CX P w K mg base N q scope f cd cl A outer s H E) body t) (ht:t σ H Q):codeAny (model P w) A (.call (.ref f) ⟨[],[]⟩) (CR CX outer P w H s Q E) s:=by
 have lim:s.heap.NoLimit:=e0.mod.nolimit.keeps fun b o e=>(e0.bs b o e).1
 refine jke L hr.depth ho hd (hc.rec e0.hok) lim fun h₁ hns hk₁=> ?_
 have I:=jnK (CX:=CX) (q:=q) (f:=f) (cd:=cd) (E:=E) (tk:=s.toks+0) L hr.hd e0 C hns hk₁
 refine kla_codeExpr (G0H (hb [] _ σ H Q I ht) (fun v s' hs=> ?_) fun _ _ y=>y)
 obtain⟨v',H',J,rv,q'⟩:=hs
 exact⟨v',H',J.os,J.bare,J.base,J.hok,rv,q'⟩
abbrev TXD:=SD→HD→(Str→HD→Prop)→Prop
def WX (X:Cx) (E:XK) (H:Hp) (R:Str→HD→Prop):Prop:= ∀c C h' H',Kept H H' →RelH X.K h' H' →X.mg c=some (.ref C)→R c h' →E (.ref C) none H'
theorem WX.mono {X:Cx} {E:XK} {H H' :Hp} {R:Str→HD→Prop} (w:WX X E H R) (k:Kept H H'):WX X E H' R:=fun c C h2 H2 k2=>w c C h2 H2 (k.trans k2)
structure JX (X:Cx) (sts:List Stmt) (t:TXD):Prop where
 to: ∀ (E:XK),Rz X E→ ∀ (pins:List (Addr×Obj)) (s:Shared) (σ:St) (H:Hp) (σd:SD) (h:HD) (R:Str→HD→Prop),Inv X pins σ H s→RelS X.K H σd σ→RelH X.K h H→t σd h R→WX X E H R→
  wpAny (model X.prog X.w) X.A (execs sts X.env) (fun _ _=>False) X.xe s
structure JXE (X:Cx) (e:Expr) (t:TXD):Prop where
 to: ∀ (E:XK),Rz X E→ ∀ (pins:List (Addr×Obj)) (s:Shared) (σ:St) (H:Hp) (σd:SD) (h:HD) (R:Str→HD→Prop),Inv X pins σ H s→RelS X.K H σd σ→RelH X.K h H→t σd h R→WX X E H R→
  wpAny (model X.prog X.w) X.A (eval e X.env) (fun _ _=>False) X.xe s
def xIf (t:TTD) (u:TXD):TXD:=fun σ h R=>t σ h fun k h' =>k=true∧u σ h' R
def xRz (c:Str):TXD:=fun _ h R=>R c h
abbrev RDx:=List D→HD→(Str→HD→Prop)→Prop
def jrV (spr:RDx) (t:TAD):TXD:=fun σ h R=>t σ h fun ds h1=>spr ds h1 R
def jmv (mg:Str→Option Value) (K:PySem.W.Frag) (spr:RDx):Sp:=fun vs H _ E=> ∃ds h R,RelDs K H ds vs∧RelH K h H∧spr ds h R∧ ∀c C h' H',Kept H H' →RelH K h' H' →mg c=some (.ref C)→R c h' →E (.ref C) none H'
def bmV:List Value:= [.type "ValueError",.type "Exception",.type "BaseException",.type "object"]
theorem jlC {K:Frag} {mg:Str→Option Value} {base:Heap} (P:Program) (M:Mod K mg base): ∃loose mb,TopRead P loose mg mb base:=by
 obtain⟨mb,laid,boot⟩:=M.blt
 obtain⟨o,es,ep,at_,isd,texts,finds⟩:=id M.glob
 refine⟨es.toList.filterMap fun e=>match e.key with| .str n _=>some n|_=>none,mb,M.glob,laid,M.nolimit,boot,fun x _ out _ _ _=> ?_⟩
 rw [←finds x]
 cases hit:nsFind es x with
 |none=>rfl
 |some v=>
  refine absurd ?_ out
  unfold nsFind findBy at hit
  obtain⟨e,hf,_⟩:=G1I.mp hit
  have isx:e.key.isStr x=true:=Array.find?_some (p:=fun (e:DictEntry)=>e.key.isStr x) hf
  have mem:=Array.mem_of_find?_eq_some hf
  obtain⟨n,t,ek⟩:=texts e mem
  rw [ek] at isx
  have nx:n=x:=by simpa [Value.isStr] using isx
  exact G2s.mpr ⟨e,by simpa using mem,by rw [ek,nx]⟩
def OwnX (K:PySem.W.Frag) (mg:Str→Option Value) (c:Str):Prop:= ∃C,mg c=some (.ref C)∧nsIn K mainGlobals c=some (some (.ref C))∧excIn K C bmV "ValueError.__new__" =true
theorem OwnX.at {K:Frag} {mg:Str→Option Value} {base h:Heap} {c:Str} (P:Program) (O:OwnX K mg c) (M:Mod K mg base) (kept: ∀b o,base.get? b=some o→h.get? b=some o): ∃C,mg c=some (.ref C)∧OwnCls c C bmV "ValueError.__new__" mg h:=
 let ⟨C,hm,hn,hx⟩:=O
 let ⟨_,_,T⟩:=jlC P M
 ⟨C,hm,(own_of_in M.kin T hn hx).keeps kept⟩
section
variable {X:Cx} {c:Expr} {e:Expr} {es:List Expr} {st:Stmt} {a b rest:List Stmt} {t:TSD} {tt:TTD} {u:TXD} {ta:TAD} {pos p:Pos}
theorem jqh (hc:JT X c tt) (ha:JX X a u):JX X (.If c a b pos::rest) (xIf tt u):=⟨fun E Z pins s σ H σd h R I rs rh ht w=>by
 refine G10 (G0H (wpAny_If (Q:=fun _ _=>False) (thn (hc.to pins s σ H (fun k H' =>k=true∧ ∃h',Kept H H' ∧RelS X.K H' σd σ∧RelH X.K h' H' ∧u σd h' R) I
  ⟨σd,h,_,rs,rh,ht,fun k h' H' kp rh' q=>⟨q.1,h',kp,rs.mono kp,rh',q.2⟩⟩) fun d s1 q=> ?_)) (fun _ _ z=>z.elim) fun _ _ z=>z)
 obtain⟨H',I',rfl,h',kp,rs',rh',q⟩:=q
 exact ha.to E Z pins s1 σ H' σd h' R I' rs' rh' q (w.mono kp)⟩
theorem jnM (he:JXE X e u) (hs:swapsWith e none pos.line X.env=pure false:=by rfl):JX X (.Expr e pos::rest) u:=⟨fun E Z pins s σ H σd h R I rs rh ht w=>
 G10 (wpAny_Expr_any (G0H (he.to E Z pins s σ H σd h R I rs rh ht w) (fun _ _ z=>z.elim) fun _ _ z=>z) I.quiet hs)⟩
theorem jqi (he:JXE X e u):JX X (.Return (some e) pos::rest) u:=⟨fun E Z pins s σ H σd h R I rs rh ht w=>
 G10 (wpAny_Return_some (G0H (he.to E Z pins s σ H σd h R I rs rh ht w) (fun _ _ z=>z.elim) fun _ _ z=>z))⟩
theorem jh7 {x:Str} {np cpos p2:Pos} {m:Str} {j:Nat} (hg:Gl X x) (O:OwnX X.K X.mg x) (hcalm:X.calm=true) (hd:(x==("__debug__" :Str))=false:=by decide)
 (he:starEach [Expr.Constant (.str m) j p2] X.env=(false,eval (.Constant (.str m) j p2) X.env)::starEach [] X.env:=by rfl):
 JX X (.Raise (some (.Call (.Name x np) [.Constant (.str m) j p2] [] cpos)) none pos::rest) (xRz x):=⟨fun E Z pins s σ H σd h R I rs rh ht w=>by
 obtain⟨C,hm,own⟩:=O.at X.prog I.mod I.bk
 refine G10 (G0H (?_:wpAny _ _ _ (fun _ _=>False) _ _) (fun _ _ z=>z.elim) fun _ _ z=>z)
 obtain⟨_,_,_,_,_,_,_,_,_,_,_,_,_,_,_,_,_,isC,laid,noInit,tail⟩:=own.obj
 refine' wpAny_Raise_call_subT PySem.F.excBase_ValueError (tail.hasType PySem.F.excBase_ValueError.hasBase) (I.ok.hd hcalm) (by rw [he];rfl) noInit (jdD I hg hm ⟨rfl,?_⟩ hd)
 rotate_right 1
 rw [he]
 refine Calls.evalArgs_plain (G3f (PySem.Calls.Constant_str (k:=j) (pos:=p2) (G36 ⟨rfl,(by show 1≤sizeLine;decide),isC,laid,tail,fun h' e hme=> ?_⟩)))
 refine Z.xe _ _ (jiQ (s:= {s with toks:=s.toks+1}) (I.tok _) Z hme fun h2 un hok fl=> ?_)
 exact⟨e,C,H,rfl,I.os,I.bare,un,hok,fl,w x C h H (.refl H) rh hm ht⟩⟩
theorem jf5 {k:Nat} {f:Addr} {fd:FuncData} {ps:List Str} {spr:RDx} {x:Str} (F:FnOk X.prog X.w X.K X.mg X.base (CXR X.prog X.w) k f fd ps (jmv X.mg X.K spr)) (hr:Room k X.A) (hg:Gl X x) (hm:X.mg x=some (.ref f)) (hk:PySem.W.keepIn X.K (.ref f)=true) (hb:Binds X.K fd ps [])
 (ha:JA X (e::es) ta) (hdb:(x==("__debug__" :Str))=false:=by decide) (he:starEach (e::es) X.env=(false,eval e X.env)::starEach es X.env:=by rfl) (hpl:(backTo pos (starEach es X.env)).any (·.1)=false:=by rfl):
 JXE X (.Call (.Name x p) (e::es) [] pos) (jrV spr ta):=⟨fun E Z pins s σ H σd h R I rs rh ht w=>by
 refine thn (jjy F hr hg hm hk hb .nil (jrU Z) ha.to hdb he hpl pins s σ H (fun _ _=>False) I
  ⟨σd,h,_,rs,rh,ht,fun ds vs h' H' kp rh' r q=>by show jmv X.mg X.K spr (vs++ []) H' (fun _ _=>False) E;rw [G1s];exact⟨ds,h',R,r,rh',q,fun c C h2 H2 k2=>w c C h2 H2 (kp.trans k2)⟩⟩) fun _ _ ⟨_,_,_,_,z⟩=>z⟩
end
section
variable {P:Program} {w:World} {K:PySem.W.Frag} {mg:Str→Option Value} {base:Heap}
theorem jnN {N:List Str} {qual:Str} {scope:Scope} {f:Addr} {cd:Value} {A:Around} {outer:List Env} {s:Shared} {H:Hp} {E:XK}:Rz (jfI (CXR P w) P w K mg base N qual scope f cd A outer s H E) E:=⟨⟨rfl,rfl,rfl⟩,fun _ _ h=>h⟩
theorem jqj {N:List Str} {q:Str} {scope:Scope} {f:Addr} {cd:Value} {cl:List (Str×Addr)} {A:Around} {outer:List Env} {s:Shared} {H:Hp} {E:XK}:Rz (cxL (CXR P w) P w K mg base N q scope f cd cl A outer s H E) E:=⟨⟨rfl,rfl,rfl⟩,fun _ _ h=>h⟩
theorem Fun.okX {x qual:Str} {st:Stmt} {f:Addr} {fd:FuncData} {N ps:List Str} {k:Nat} {spr:RDx} (F:Fun K x qual st f fd) (S:FnScope N ps (jab st)) (len: ∀ds h R,spr ds h R→ds.length=ps.length)
 (tb:TXD) (hbody: ∀ (cdv:Value) (A:Around) (outer:List Env) (s:Shared) (H:Hp) (E:XK),Room k (A.deeper (envOfC qual (jab st) s.heap.objs.size f cdv))→JX (jfI (CXR P w) P w K mg base N qual (jab st) f cdv A outer s H E) (jal st) tb)
 (read: ∀ds h R,spr ds h R→tb (jaB N ds) h R):FnOk P w K mg base (CXR P w) (k+1) f fd ps (jmv mg K spr):=by
 obtain⟨oc,od,kV,doc,pm,an,cdv,ct,osl,rfl,lk,hcd⟩:=F.ex
 refine jm1 lk hcd S (fun vs H Q E h=> ?_) fun A outer s H vs Q E hr hsp=> ?_
 ·obtain⟨ds,h,R,r,rh,q,p⟩:=h
  rw [←r.length];exact len _ _ _ q
 ·obtain⟨ds,h,R,r,rh,q,p⟩:=hsp
  refine⟨fun _ σ H' =>σ=start N vs∧H' =H,fun pins s' σ H' D I ⟨e1,e2⟩=> ?_,rfl,rfl⟩
  subst e1;subst e2
  exact G0H ((hbody cdv A outer s H' E hr).to E jnN pins s' _ H' (jaB N ds) h R I (jcW r) rh (read ds h R q) p) (fun _ _ z=>z.elim) fun _ _ z=>z
end
def jcL (P:Program) (w:World) (K:PySem.W.Frag) (mg:Str→Option Value) (base:Heap) (n:Nat) (x:Str) (ps:List Str) (spr:RDx):Prop:=
 ∃ (g:Addr) (gd:FuncData),FnOk P w K mg base (CXR P w) n g gd ps (jmv mg K spr)∧Binds K gd ps []∧PySem.W.keepIn K (.ref g)=true∧mg x=some (.ref g)
end L2
namespace L2
open PySem PySem.Spec PyProof.Rows
structure RoomU (k:Nat) (A:Around):Prop where
 dp:A.depth+3*k+5<recursionLimit
 un:A.units+16*k+200<cLine
 gd:A.guards=some []
theorem Room.u {k:Nat} {A:Around} (r:Room k A):RoomU k A:=⟨r.dp,r.un,r.gd⟩
theorem RoomU.deeper {k:Nat} {A:Around} (r:RoomU (k+1) A) (env:Env):RoomU k (A.deeper env):=
 ⟨by have:=r.dp;show A.depth+1+3*k+5<_;omega,by have:=r.un;show A.units+3+16*k+200<_;omega,r.gd⟩
theorem RoomU.depth {k:Nat} {A:Around} (r:RoomU k A):A.depth<recursionLimit:=by have:=r.dp;omega
theorem RoomU.units {k:Nat} {A:Around} (r:RoomU k A):A.units+64<cLine:=by have:=r.un;omega
structure FnOkU (P:Program) (w:World) (K:PySem.W.Frag) (mg:Str→Option Value) (base:Heap) (CX:CXT) (k:Nat) (f:Addr) (fd:FuncData) (ps:List Str) (sp:Sp):Prop where
 len: ∀vs H Q E,sp vs H Q E→vs.length=ps.length
 run: ∀ (A:Around) (outer:List Env) (s:Shared) (H:Hp) (args:Args) (us:List Value) (vs:List V) (Q:VK) (E:XK),RoomU k A→Env0 P w K mg base A outer s H→BindsTo s fd args (ps.zip us)→Vals vs us→sp vs H Q E→
  codeAny (model P w) A (.call (.ref f) args) (CR CX outer P w H s Q E) s
section
variable {X:Cx} {CX:CXT} {k:Nat} {f C:Addr} {fd:FuncData} {ps:List Str} {sp:Sp} {dvs:List V} {ds:List Value} {E:XK} {x m:Str} {p pos apos:Pos} {e o:Expr} {es:List Expr} {ta:TE} {t:TA}
theorem jnO {pins:List (Addr×Obj)} {σ:St} {H:Hp} {s:Shared} {Q:VK} {us:List Value} {vs:List V} (F:FnOkU X.prog X.w X.K X.mg X.base CX k f fd ps sp) (hr:RoomU k X.A) (hb:Binds X.K fd ps ds) (hd:Vals dvs ds) (hx:jeh CX X E)
 (I:Inv X pins σ H s) (r:Vals vs us) (h:sp (vs++dvs) H Q E):wpAny (model X.prog X.w) X.A (call (.ref f) us) (EP X pins σ Q) X.xe s:=by
 have r2:Vals (vs++dvs) (us++ds):=r.append hd
 have hl:(us++ds).length=ps.length:=by rw [←r2.length];exact F.len _ _ _ _ h
 refine G2M (G2V (F.run X.A X.stack s H ⟨us,[]⟩ (us++ds) (vs++dvs) Q E hr I.env0 (hb s us I.kIn hl) r2 h) fun r s' hq=> ?_)
 cases r with
 |error e=>exact hx pins σ H s e s' I hq
 |ok fl=>
  cases fl with
  |ret u=>exact I.after hq
  |next=>exact False.elim hq
  |brk=>exact False.elim hq
  |cont=>exact False.elim hq
theorem jlD (F:FnOkU X.prog X.w X.K X.mg X.base CX k f fd ps sp) (hr:RoomU k X.A) (hg:Gl X x) (hm:X.mg x=some (.ref f)) (hk:PySem.W.keepIn X.K (.ref f)=true) (hb:Binds X.K fd ps ds) (hd:Vals dvs ds) (hx:jeh CX X E)
 (ha:PA X (e::es) t) (hdb:(x==("__debug__" :Str))=false:=by decide) (he:starEach (e::es) X.env=(false,eval e X.env)::starEach es X.env:=by rfl) (hpl:(backTo pos (starEach es X.env)).any (·.1)=false:=by rfl):
 PE X (.Call (.Name x p) (e::es) [] pos) (jm0 sp dvs E t):=by
 intro pins s σ H Q I h
 refine G2b (jdD I hg hm ?_ hdb)
 refine G3Z (h₀:=X.base) I.ok.mod.kin hk (thn (ha pos pins s σ H _ I h) fun us s1 ⟨vs,H1,I1,r,q⟩=>⟨I1.kIn,?_⟩) he hpl
 exact jnO F hr hb hd hx I1 r q
end
def jgV (CX:CXT) (P:Program) (w:World) (K:PySem.W.Frag) (mg:Str→Option Value) (base:Heap) (N:List Str) (qual:Str) (scope:Scope) (f:Addr) (cd:Value) (A:Around) (outer:List Env) (s:Shared) (H:Hp) (E:XK):Cx where
 prog:=P
 w:=w
 K:=K
 mg:=mg
 base:=base
 A:=A.deeper (envOfC qual scope s.heap.objs.size f cd)
 N:=N
 s₀:=s
 H₀:=H
 env:=envOfC qual scope s.heap.objs.size f cd
 outer:=outer
 stack:=envOfC qual scope s.heap.objs.size f cd::outer
 ex:= []
 calm:=false
 fn:=fun _=>true
 pn:= []
 xe:=fun e s' =>wpAny (model P w) (A.deeper (envOfC qual scope s.heap.objs.size f cd)) (leaving (envOfC qual scope s.heap.objs.size f cd) e) (fun _ s'' =>CX outer H s E e s'') (fun e' s'' =>CX outer H s E e' s'') s'
theorem jiS {CX:CXT} {P:Program} {w:World} {K:PySem.W.Frag} {mg:Str→Option Value} {base:Heap} {N ps:List Str} {qual:Str} {scope:Scope} {f:Addr} {cd:Value} {A:Around} {outer:List Env} {s s1:Shared} {H:Hp} {E:XK} {us:List Value} {vs:List V}
 (S:FnScope N ps scope) (e0:Env0 P w K mg base A outer s H) (hl:vs.length=ps.length) (r:Vals vs us)
 (x:InCallC s s.heap.objs.size (bindL (envOfC qual scope s.heap.objs.size f cd).kindOf (ps.zip us) fun _=>none) (cellsFrom (s.heap.objs.size+1) scope.names []) (bindC (envOfC qual scope s.heap.objs.size f cd).kindOf (ps.zip us) fun _=>none) s1):
 Inv (jgV CX P w K mg base N qual scope f cd A outer s H E) [] (start N vs) H s1:=by
 have hpl:ps.length≤N.length:=by have:=congrArg List.length S.pre;rw [G0B] at this;omega
 obtain⟨h1,tk,rfl,hk⟩:=x.done
 have noA: ∀b:Addr,b ∉ (jgV CX P w K mg base N qual scope f cd A outer s H E).ex:=fun b z=>absurd (show b∈([]:List Addr) from z) (by simp)
 refine⟨⟨e0.mod,S.kind,rfl,rfl,G0f _,fun y z c h1 h2=> ?_,fun y hy=> ?_,fun y c _ h=> ?_,fun z=>(by cases z),G3I e0.frames,.inr ⟨rfl,rfl⟩,fun b z=>absurd z (noA b),e0.bs,e0.bsz,fun b _ _=>noA b,fun b z=>absurd z (noA b),e0.funs,e0.frf⟩,
  rfl,e0.bare,Un.kept hk,⟨_,x.toInCall.ns,fun i y v h1 h2 h3=> ?_⟩,fun y c h=>⟨_,x.cell y c h⟩,e0.hok.fresh (G0f _),fun y c h=> ?_,fun p hp=>absurd (show p∈([]:List (Addr×Obj)) from hp) (by simp),e0.hok.kept hk,?_⟩
 ·exact name_of_addr x.apart (G1B h1) (G1B h2)
 ·have hy:scope.names.lookup y=some .cell∨scope.names.lookup y=some .free:=hy
  rcases hy with hy|hy
  ·exact jcT hy
  ·exact absurd rfl (S.nofree _ (G1B hy))
 ·exact G0T (x.above y c (G1B h))
 ·have hi:i<vs.length:=by
   unfold start at h2
   by_cases hi:i<vs.length
   ·exact hi
   ·rw [G0s (by simpa using hi)] at h2
    rw [G3h] at h2
    split at h2<;>cases h2
  have ha:vs[i]? =some v:=by
   unfold start at h2
   rw [G0R (by simpa using hi),G0o] at h2
   cases e:vs[i]? with
   |none=>rw [e] at h2;cases h2
   |some a=>rw [e] at h2;cases h2;rfl
  obtain⟨u,hu,rv⟩:=r.get ha
  have hp:ps[i]? =some y:=by
   rw [←S.pre,G1L (by omega)];exact h1
  have ndP:ps.Nodup:=by rw [←S.pre];exact S.nd.sublist (G14 _ _)
  refine⟨u,rv,?_⟩
  rcases S.par y (G0i hp) with k|k
  ·exact .inl ⟨k,jei ndP hp hu k⟩
  ·obtain⟨c,e⟩:=jcT (n:=s.heap.objs.size+1) k
   refine .inr ⟨.inl k,c,e,?_⟩
   have q:=x.cell y c e
   rw [jej ndP hp hu (by show scope.names.lookup y≠_;rw [k];decide)] at q
   exact q
 ·exact e0.hok.fresh (G0T (x.above y c (G1B h)))
 ·unfold start
  show _=N.length
  rw [G0d,G0a,G4s]
  omega
theorem jqk {CX:CXT} {P:Program} {w:World} {K:PySem.W.Frag} {mg:Str→Option Value} {base:Heap} {k:Nat} {f:Addr} {name qual:Str} {params:Arguments} {body:List Stmt} {scope:Scope} {dV kV doc pm cdv ct oc:Value} {an od:Option Addr}
 {osl:Array (Option Value)} {N ps:List Str} {sp:Sp} (lk:K.lookup f=some ⟨oc,od,.func (PySem.W.fnOf name qual params body scope dV kV doc pm an cdv ct),osl⟩) (hcd:PySem.W.codeIn K cdv qual=true) (S:FnScope N ps scope)
 (len: ∀vs H Q E,sp vs H Q E→vs.length=ps.length)
 (hbody: ∀ (A:Around) (outer:List Env) (s:Shared) (H:Hp) (vs:List V) (Q:VK) (E:XK),RoomU k (A.deeper (envOfC qual scope s.heap.objs.size f cdv))→sp vs H Q E→
  ∃t,PSs (jgV CX P w K mg base N qual scope f cdv A outer s H E) body t∧t {nx:=fun _ H' =>Q .non H',rt:=Q} (start N vs) H):
 FnOkU P w K mg base CX (k+1) f (PySem.W.fnOf name qual params body scope dV kV doc pm an cdv ct) ps sp:=by
 refine⟨len,fun A outer s H args us vs Q E hr e0 hb r hsp=> ?_⟩
 have hl:=len _ _ _ _ hsp
 have KX:K.In s.heap:=e0.mod.kin.keeps fun b o e=>(e0.bs b o e).1
 have lim:s.heap.NoLimit:=e0.mod.nolimit.keeps fun b o e=>(e0.bs b o e).1
 have hkind: ∀y∈ps.zip us,scope.names.lookup y.1=some .local∨(scope.names.lookup y.1=some .cell∧((cellsFrom (s.heap.objs.size+1) scope.names []).lookup y.1).isSome=true):=fun ⟨n,v⟩ hy=>by
  rcases S.par n (G3g hy).1 with q|q
  ·exact .inl q
  ·exact .inr ⟨q,G2O _ _ _ (.inl q)⟩
 refine G3z hr.depth (KX _ _ lk) rfl S.co S.gen rfl (G30 KX hcd) (hb _ _ _ _ ?_)
 refine G20 S.kind hkind fun env he s1 x=> ?_
 subst he
 refine⟨lim.keeps x.toInCall.keep,codeAny_func ?_⟩
 obtain⟨t,ht,hq⟩:=hbody A outer s H vs Q E (hr.deeper _) hsp
 have I:Inv (jgV CX P w K mg base N qual scope f cdv A outer s H E) [] (start N vs) H s1:=jiS S e0 hl r x
 refine G0H (ht [] s1 (start N vs) H _ I hq) (fun fl s' hs=> ?_) fun e s' hs=>hs
 have fin: ∀ {σ' :St} {H' :Hp} {v:V} {u:Value},Inv (jgV CX P w K mg base N qual scope f cdv A outer s H E) [] σ' H' s' →RelV v u→Q v H' →CE outer P w H s Q u s' :=
  fun {σ' H' v u} J rv q=>⟨v,H',J.os,J.bare,J.base,J.hok,rv,q⟩
 cases fl with
 |ret u=>
  obtain⟨v,σ',H',J,rv,q⟩:=hs
  exact fin J rv q
 |next=>
  obtain⟨σ',H',J,q⟩:=hs
  exact fin (v:=V.non) (u:=Value.none) J rfl q
 |brk=>
  obtain⟨_,_,_,q⟩:=hs
  exact False.elim q
 |cont=>
  obtain⟨_,_,_,q⟩:=hs
  exact False.elim q
section
variable {P:Program} {w:World} {K:PySem.W.Frag} {mg:Str→Option Value} {base:Heap}
theorem Fun.okU {x qual:Str} {st:Stmt} {f:Addr} {fd:FuncData} {N ps:List Str} {k:Nat} {sp:Sp} (F:Fun K x qual st f fd) (S:FnScope N ps (jab st)) (len: ∀vs H Q E,sp vs H Q E→vs.length=ps.length)
 (hbody: ∀ (cdv:Value) (A:Around) (outer:List Env) (s:Shared) (H:Hp) (vs:List V) (Q:VK) (E:XK),RoomU k (A.deeper (envOfC qual (jab st) s.heap.objs.size f cdv))→sp vs H Q E→
  ∃t,PSs (jgV CX0 P w K mg base N qual (jab st) f cdv A outer s H E).nox (jal st) t∧t {nx:=fun _ H' =>Q .non H',rt:=Q} (start N vs) H):FnOkU P w K mg base CX0 (k+1) f fd ps sp:=by
 obtain⟨oc,od,kV,doc,pm,an,cdv,ct,osl,rfl,lk,hcd⟩:=F.ex
 refine jqk lk hcd S len fun A outer s H vs Q E hr hsp=> ?_
 obtain⟨t,h,q⟩:=hbody cdv A outer s H vs Q E hr hsp
 exact⟨t,h.nox,q⟩
theorem Fun.okDU {x qual:Str} {st:Stmt} {f:Addr} {fd:FuncData} {N ps:List Str} {k:Nat} {spd:RDn} (F:Fun K x qual st f fd) (S:FnScope N ps (jab st)) (len: ∀ds h Q,spd ds h Q→ds.length=ps.length)
 (tb:TSD) (hbody: ∀ (cdv:Value) (A:Around) (outer:List Env) (s:Shared) (H:Hp) (E:XK),RoomU k (A.deeper (envOfC qual (jab st) s.heap.objs.size f cdv))→QSs (jgV CX0 P w K mg base N qual (jab st) f cdv A outer s H E).nox (jal st) tb)
 (read: ∀ds h Q,spd ds h Q→tb (jdW Q) (jaB N ds) h):FnOkU P w K mg base CX0 (k+1) f fd ps (LSp K spd):=by
 refine F.okU S (fun vs H Q E h=> ?_) (fun cdv A outer s H vs Q E hr h=> ?_)
 ·obtain⟨ds,h,Qd,r,rh,q,p⟩:=h
  rw [←r.length];exact len _ _ _ q
 ·obtain⟨ds,h,Qd,r,rh,q,p⟩:=h
  refine⟨_,hbody cdv A outer s H E hr,jaB N ds,h,jdW Qd,jcW r,rh,read ds h Qd q,fun σd' h' σ' H' k rs' rh' ⟨h2,sb,q'⟩=>p .non .non h2 H' k (rh'.sub sb) rfl q',fun d v h' H' k rh' r' ⟨h2,sb,q'⟩=>p d v h2 H' k (rh'.sub sb) r' q',fun _ _ _ _ _ _ _ z=>z.elim,fun _ _ _ _ _ _ _ z=>z.elim⟩
theorem Fun.okJU {x qual:Str} {st:Stmt} {f:Addr} {fd:FuncData} {N ps:List Str} {k:Nat} {spd:RDn} (F:Fun K x qual st f fd) (S:FnScope N ps (jab st)) (len: ∀ds h Q,spd ds h Q→ds.length=ps.length)
 (tb:TSD) (hbody: ∀ (cdv:Value) (A:Around) (outer:List Env) (s:Shared) (H:Hp) (E:XK),RoomU k (A.deeper (envOfC qual (jab st) s.heap.objs.size f cdv))→JSs (jgV CX0 P w K mg base N qual (jab st) f cdv A outer s H E).nox (jal st) tb)
 (read: ∀ds h Q,spd ds h Q→tb (jdW Q) (jaB N ds) h):FnOkU P w K mg base CX0 (k+1) f fd ps (LSp K spd):=F.okDU S len tb (fun cdv A outer s H E hr=>(hbody cdv A outer s H E hr).to) read
end
structure FnOkS (P:Program) (w:World) (K:PySem.W.Frag) (mg:Str→Option Value) (base:Heap) (CX:CXT) (k:Nat) (f:Addr) (fd:FuncData) (ps:List Str) (sp:Shared→Sp):Prop where
 len: ∀s vs H Q E,sp s vs H Q E→vs.length=ps.length
 run: ∀ (A:Around) (outer:List Env) (s:Shared) (H:Hp) (args:Args) (us:List Value) (vs:List V) (Q:VK) (E:XK),Room k A→Env0 P w K mg base A outer s H→BindsTo s fd args (ps.zip us)→Vals vs us→sp s vs H Q E→
  codeAny (model P w) A (.call (.ref f) args) (CR CX outer P w H s Q E) s
section
variable {X:Cx} {CX:CXT} {k:Nat} {f C:Addr} {fd:FuncData} {ps:List Str} {sp:Sp} {dvs:List V} {ds:List Value} {E:XK} {x m:Str} {p pos apos:Pos} {e o:Expr} {es:List Expr} {ta:TE} {t:TA}
theorem jnP {pins:List (Addr×Obj)} {σ:St} {H:Hp} {s:Shared} {Q:VK} {us:List Value} {vs:List V} {sp:Shared→Sp} (F:FnOkS X.prog X.w X.K X.mg X.base CX k f fd ps sp) (hr:Room k X.A) (hb:Binds X.K fd ps ds) (hd:Vals dvs ds) (hx:jeh CX X E)
 (I:Inv X pins σ H s) (r:Vals vs us) (h:sp s (vs++dvs) H Q E):wpAny (model X.prog X.w) X.A (call (.ref f) us) (EP X pins σ Q) X.xe s:=by
 have r2:Vals (vs++dvs) (us++ds):=r.append hd
 have hl:(us++ds).length=ps.length:=by rw [←r2.length];exact F.len _ _ _ _ _ h
 refine G2M (G2V (F.run X.A X.stack s H ⟨us,[]⟩ (us++ds) (vs++dvs) Q E hr I.env0 (hb s us I.kIn hl) r2 h) fun r s' hq=> ?_)
 cases r with
 |error e=>exact hx pins σ H s e s' I hq
 |ok fl=>
  cases fl with
  |ret u=>exact I.after hq
  |next=>exact False.elim hq
  |brk=>exact False.elim hq
  |cont=>exact False.elim hq
end
theorem jql {CX:CXT} {P:Program} {w:World} {K:PySem.W.Frag} {mg:Str→Option Value} {base:Heap} {k:Nat} {f:Addr} {name qual:Str} {params:Arguments} {body:List Stmt} {scope:Scope} {dV kV doc pm cdv ct oc:Value} {an od:Option Addr}
 {osl:Array (Option Value)} {N ps:List Str} {sp:Shared→Sp} (lk:K.lookup f=some ⟨oc,od,.func (PySem.W.fnOf name qual params body scope dV kV doc pm an cdv ct),osl⟩) (hcd:PySem.W.codeIn K cdv qual=true) (S:FnScope N ps scope)
 (len: ∀s vs H Q E,sp s vs H Q E→vs.length=ps.length)
 (hbody: ∀ (A:Around) (outer:List Env) (s:Shared) (H:Hp) (vs:List V) (Q:VK) (E:XK),Room k (A.deeper (envOfC qual scope s.heap.objs.size f cdv))→sp s vs H Q E→
  ∀s1,Inv (jfI CX P w K mg base N qual scope f cdv A outer s H E) [] (start N vs) H s1→wpAny (model P w) (A.deeper (envOfC qual scope s.heap.objs.size f cdv)) (execs body (envOfC qual scope s.heap.objs.size f cdv)) (SP (jfI CX P w K mg base N qual scope f cdv A outer s H E) [] {nx:=fun _ H' =>Q .non H',rt:=Q}) (jfI CX P w K mg base N qual scope f cdv A outer s H E).xe s1):
 FnOkS P w K mg base CX (k+1) f (PySem.W.fnOf name qual params body scope dV kV doc pm an cdv ct) ps sp:=by
 refine⟨len,fun A outer s H args us vs Q E hr e0 hb r hsp=> ?_⟩
 have hl:=len _ _ _ _ _ hsp
 have KX:K.In s.heap:=e0.mod.kin.keeps fun b o e=>(e0.bs b o e).1
 have lim:s.heap.NoLimit:=e0.mod.nolimit.keeps fun b o e=>(e0.bs b o e).1
 have hkind: ∀y∈ps.zip us,scope.names.lookup y.1=some .local∨(scope.names.lookup y.1=some .cell∧((cellsFrom (s.heap.objs.size+1) scope.names []).lookup y.1).isSome=true):=fun ⟨n,v⟩ hy=>by
  rcases S.par n (G3g hy).1 with q|q
  ·exact .inl q
  ·exact .inr ⟨q,G2O _ _ _ (.inl q)⟩
 refine G3z hr.depth (KX _ _ lk) rfl S.co S.gen rfl (G30 KX hcd) (hb _ _ _ _ ?_)
 refine G20 S.kind hkind fun env he s1 x=> ?_
 subst he
 refine⟨lim.keeps x.toInCall.keep,codeAny_func ?_⟩
 have ht:=hbody A outer s H vs Q E (hr.deeper _) hsp
 have I:Inv (jfI CX P w K mg base N qual scope f cdv A outer s H E) [] (start N vs) H s1:=jgB S hr.hd e0 hl r x
 refine G0H (ht s1 I) (fun fl s' hs=> ?_) fun e s' hs=>hs
 have fin: ∀ {σ' :St} {H' :Hp} {v:V} {u:Value},Inv (jfI CX P w K mg base N qual scope f cdv A outer s H E) [] σ' H' s' →RelV v u→Q v H' →CE outer P w H s Q u s' :=
  fun {σ' H' v u} J rv q=>⟨v,H',J.os,J.bare,J.base,J.hok,rv,q⟩
 cases fl with
 |ret u=>
  obtain⟨v,σ',H',J,rv,q⟩:=hs
  exact fin J rv q
 |next=>
  obtain⟨σ',H',J,q⟩:=hs
  exact fin (v:=V.non) (u:=Value.none) J rfl q
 |brk=>
  obtain⟨_,_,_,q⟩:=hs
  exact False.elim q
 |cont=>
  obtain⟨_,_,_,q⟩:=hs
  exact False.elim q
section
variable {X:Cx} {k:Nat} {f:Addr} {fd:FuncData} {ps:List Str} {spd:RDn} {x:Str} {p pos:Pos} {e:Expr} {es:List Expr} {t:TAD}
theorem jqm (F:FnOkU X.prog X.w X.K X.mg X.base CX0 k f fd ps (LSp X.K spd)) (hr:RoomU k X.A) (hg:Gl X x) (hm:X.mg x=some (.ref f)) (hk:PySem.W.keepIn X.K (.ref f)=true) (hb:Binds X.K fd ps [])
 (ha:JA X (e::es) t) (hdb:(x==("__debug__" :Str))=false:=by decide) (he:starEach (e::es) X.env=(false,eval e X.env)::starEach es X.env:=by rfl) (hpl:(backTo pos (starEach es X.env)).any (·.1)=false:=by rfl):
 JE X (.Call (.Name x p) (e::es) [] pos) (dCB spd t):=⟨(jlD F hr hg hm hk hb .nil jm6 ha.to hdb he hpl).imp jjK⟩
end
def jkf (P:Program) (w:World) (K:PySem.W.Frag) (mg:Str→Option Value) (base:Heap) (n:Nat) (x:Str) (ps:List Str) (sp:RDn):Prop:=
 ∃ (g:Addr) (gd:FuncData),FnOkU P w K mg base CX0 n g gd ps (LSp K sp)∧Binds K gd ps []∧PySem.W.keepIn K (.ref g)=true∧mg x=some (.ref g)
end L2
namespace L2
open PySem PySem.Spec PyProof.Rows PySem.W PySem.Calls PySem.Builtin PySem.Builtin.ObjectAttr PySem.Builtin.Getset_descriptor
section
variable {prog:Program} {w:World} {A:Around} {E:Value→Shared→Prop} {s:Shared} {K:Frag} {x D:Addr}
structure ExcK (K:Frag) (D:Addr):Prop where
 cls:(clsIn K D).isSome=true
 ga:findIn K (.ref D) "__getattribute__" =some (some (.builtin "BaseException.__getattribute__"))
 hk:findIn K (.ref D) "__getattr__" =some none
 ca:findIn K (.ref D) "__class__" =some (some (.builtin "object.__class__"))
 gt:specialIn K (.builtin "object.__class__") "__get__" =some (some (.builtin "getset_descriptor.__get__"))
 tk:takesIn K (.builtin "object.__class__")=some true
 ob:mroIn K D (.type "object")=some true
 be:mroIn K D (.type "BaseException")=some true
def ExcAt (x D:Addr) (h:Heap):Prop:= ∃o,h.get? x=some o∧o.cls= .ref D
theorem ExcAt.type {M:Model} {h:Heap} (I:ExcAt x D h):Looks M h (typeOf (.ref x)) (.ref D):=let ⟨o,h1,h2⟩:=I;h2 ▸ (Looks.ld h1).andThen .now
theorem jiT {tp:Value} {R:Result→Shared→Prop} (X:K.In s.heap) (I:ExcAt x D s.heap) (ob:mroIn K D (.type "object")=some true)
 (h:R (.ok (.ret (.ref D))) s):codeAny (model prog w) A (.call (.builtin "getset_descriptor.__get__") ⟨[.builtin "object.__class__",.ref x,tp],[]⟩) R s:=by
 obtain⟨hp,g,dr,t,os⟩:=s
 have known:Looks (model prog w) hp (isInstance (.ref x) (.type "object")) true:=I.type.andThen (looks_mroIn X ob)
 have passed:Looks (model prog w) hp (descrCheckInstance (.builtin "object.__class__") (.ref x)) ():=
  Looks.andThen (a:=(("__class__" :Str),Value.type "object")) (Looks.of_pure (congrArg (fun p:String×String=>(pure (Str.ofString p.2,Value.type p.1):Sem (Str×Value))) KF.owner_class)) (known.andThen .now)
 have shown:Looks (model prog w) hp (shownTypeOf (.ref x)) (.ref D):=I.type.andThen .now
 have asked:=KF.slot_gs.check (model prog w) A.in1 (fun e s' =>R (.error e) s') ⟨hp,g,dr,t,os⟩ (.builtin "object.__class__") [.ref x,tp] []
 refine G2h KF.slot_gs.plain KF.entry_gs (asked _ KF.type_class (KF.args_gs _ _ _) ?_)
 show wpAny _ _ (descrGetArgs _ >>= _) _ _ _
 rw [dga_obj]
 refine wpAny_bind (G0e (wpAny_bind (passed.at (G0e ⟨Code.quiet_builtin _ (by decide +kernel),G2l KF.entry_class ?_⟩))))
 exact wpAny_bind (shown.at (G0e h))
theorem jlE {M:Model} {h:Heap} (X:K.In h) (Z:ExcK K D):Looks M h (find (.ref x) (.ref D) "__class__") (.bind (.builtin "getset_descriptor.__get__") (.builtin "object.__class__")):=by
 have L1:=looks_findIn (M:=M) X Z.ca
 have L2:Looks M h (getOf (some (.builtin "object.__class__"))) (some (.builtin "getset_descriptor.__get__")):=looks_specialIn X Z.gt
 have L3:=looks_takesIn (M:=M) X Z.tk
 exact L1.andThen (L2.andThen ((show Looks M h (dataDescriptor? (some (.builtin "object.__class__")) (some (.builtin "getset_descriptor.__get__"))) (some (.builtin "getset_descriptor.__get__",.builtin "object.__class__")) from L3.andThen .now).andThen (Looks.tag .now)))
theorem jnQ {M:Model} {h:Heap} (X:K.In h) (I:ExcAt x D h) (Z:ExcK K D) (n:Value):Looks M h (checkBuiltinCall "BaseException.__getattribute__" ⟨[.ref x,n],[]⟩) ():=by
 have known:Looks M h (isInstance (.ref x) (.type "BaseException")) true:=I.type.andThen (looks_mroIn X Z.be)
 have fits:=PySem.F.args_bexc_ga (.ref x) n
 unfold checkBuiltinCall
 rw [show builtinKind "BaseException.__getattribute__" =some .slot by decide +kernel,show splitId "BaseException.__getattribute__" =some ("BaseException","__getattribute__") by decide +kernel]
 exact known.andThen (Looks.of_pure fits)
theorem je8 {tk:Tok} {R:Result→Shared→Prop} (X:K.In s.heap) (I:ExcAt x D s.heap) (Z:ExcK K D) (h:R (.ok (.ret (.ref D))) s):
 codeAny (model prog w) A (.call (.builtin "BaseException.__getattribute__") ⟨[.ref x,.str "__class__" tk],[]⟩) R s:=
 G2h PySem.F.attr_ValueError.ga.plain PySem.F.entry_bexc_ga (G39 (jnQ X I Z _) (wpAny_bind (G0e (wpAny_bind (G0e (wpAny_bind (G39 I.type (wpAny_bind (G39 (jlE X Z) (wpAny_bind (G1g (G2M (jiT X I Z.ob (G0e h))))))))))))))
theorem jiU {Q:Option Value→Shared→Prop} (X:K.In s.heap) (I:ExcAt x D s.heap) (Z:ExcK K D) (h:Q (some (.ref D)) {s with toks:=s.toks+1}):wpAny (model prog w) A (getAttr? (.ref x) "__class__") Q E s:=by
 have byReader:=PySem.F.attr_ValueError.ga.bind (.ref x)
 have asked: ∀ {A' :Around} {P:Value→Shared→Prop} {E' :Value→Shared→Prop},P (.ref D) {s with toks:=s.toks+1}→wpAny (model prog w) A' (boundAndCalled (.builtin "BaseException.__getattribute__") (.ref x) (.str "__class__" s.toks)) P E' {s with toks:=s.toks+1}:=fun p=>by
  unfold boundAndCalled
  rw [byReader]
  exact wpAny_bind (G0e (G2M (je8 (s:= {s with toks:=s.toks+1}) X I Z p)))
 have own: ∀ {A' :Around} {P:Value→Shared→Prop} {E' :Value→Shared→Prop},P (.ref D) {s with toks:=s.toks+1}→wpAny (model prog w) A' (getAttrByItsOwn (.ref x) (.str "__class__" s.toks) (.ref D) (.builtin "BaseException.__getattribute__") false false) P E' {s with toks:=s.toks+1}:=fun p=>
  wpAny_bind (G39 (s:= {s with toks:=s.toks+1}) (looks_findIn X Z.hk) (wpAny_bind (G4g (G1g (asked (G0e p))))))
 exact wpAny_bind (wpAny_mkText (wpAny_bind (G4g (G1g (wpAny_bind (G39 (s:= {s with toks:=s.toks+1}) I.type (wpAny_bind (G39 (s:= {s with toks:=s.toks+1}) (looks_findIn X Z.ga) (own (G0e h))))))))))
theorem jlF (Z:ExcK K D):KitX K (.ref x) (.ref D) (ExcAt x D):=by
 have isClass: ∀ {h:Heap},K.In h→ ∃o c,h.get? D=some o∧o.data= .cls c:=fun X=>by
  obtain⟨c,hc⟩:=G1V.mp Z.cls
  revert hc
  unfold clsIn
  split
  ·rename_i ho;exact fun _=>⟨_,_,X _ _ ho,rfl⟩
  ·exact fun z=>nomatch z
 refine⟨fun _ _ _ I=>I.type,fun M h X _=> ?_,fun h tp dd its n sl X htp=> ?_,fun X I k=>jiU X I Z k⟩
 ·obtain⟨o,c,ho,hd⟩:=isClass X
  exact(Looks.ld ho).andThen (Looks.of_pure (by rw [hd]))
 ·obtain⟨o,c,ho,hd⟩:=isClass X
  cases hq:(Value.ref D==Value.ref tp) with
  |false=>rfl
  |true=>
   cases (G28.mp hq)
   rw [htp] at ho
   cases ho;cases hd
end
end L2
namespace L2
open PySem PySem.Spec PyProof.Rows PySem.SeqAt PySem.W
theorem jlG {X:Cx} (hu:X.A.units+64<cLine):MtM X "list.count" (fun x vs H Q=> ∃ (a:Addr) (y:V) (dy:D) (h:HD) (p:PyData) (ps:List PyData),x= .ref a∧vs= [y]∧RelD X.K H dy y∧RelH X.K h H∧ToP h (.lst a) (.list ps)∧ToP h dy p∧p.canLay0=true∧PyData.canLayAll0 ps=true∧p.depth≤60∧Q (.int ((ps.countP fun z=>PyData.eqv z p:Nat):Int)) H):=by
 intro pins s σ H x vs v us Q I rx rv h
 obtain⟨a,y,dy,h,p,ps,rfl,rfl,rd,rh,t1,t2,c1,c2,c3,q⟩:=h
 cases rx
 obtain⟨u,rfl,ru⟩:=jdg rv
 obtain⟨a',ds,ea,ha,ts⟩:=(show ∃a' ds,D.lst a= .lst a' ∧h a' =some ds∧ToPs h ds ps from t1)
 cases ea
 obtain⟨ws,hH,_⟩:=rh a ds ha
 obtain⟨as,r1⟩:=ja4 I rh t1 (show RelD X.K H (.lst a) (.ref a) from ⟨rfl,ws,hH⟩) (show RelV (.ref a) (.ref a) from rfl)
 obtain⟨bs,r2⟩:=ja4 I rh t2 rd ru
 cases r1 with
 |list h1 h2 h3 h4=>
  rename_i o its n cs
  have em:=readsAll_map ps _ _ c2 h4
  have hu' :X.A.units+1+min (PyData.depthAll ps) p.depth<cLine:=by have:=G24 (PyData.depthAll ps) p.depth;omega
  obtain⟨oc,od,odt,osl⟩:=o
  simp only at h2 h3
  subst h2 h3
  refine G3M G4h ⟨_,h1,rfl⟩ PySem.F.entry_list_count (PySem.F.args_list_count_2 _ _) (list_countAt a its n od osl u (fun y=>PyData.eqv (readOf s.heap y) p)) ⟨h1,items_eqAt h4 r2 c2 c1 hu',?_⟩
  have e:its.toList.countP (fun y=>PyData.eqv (readOf s.heap y) p)=ps.countP fun z=>PyData.eqv z p:=by
   rw [←em,List.countP_map];rfl
  exact⟨.int _,H,I.tok _,⟨_,by rw [e]⟩,q⟩
def jte (to te:TED):TED:=fun σ h Q=>to σ h fun x h1=> ∃a,x= .lst a∧te σ h1 fun y h2=> ∃ (p:PyData) (ps:List PyData),ToP h2 (.lst a) (.list ps)∧ToP h2 y p∧p.canLay0=true∧PyData.canLayAll0 ps=true∧p.depth≤60∧Q (.int ((ps.countP fun z=>PyData.eqv z p:Nat):Int)) h2
section
variable {X:Cx} {o e i:Expr} {to te ti:TED} {apos cpos:Pos}
theorem jtf (hu : X.A.units + 64 < cLine) (ho : JE X o to) (he : JE X e te) (hbase : attributeBase o "count" X.env (eval o X.env) = eval o X.env := by rfl)
    (hfew : ((backTo cpos (starEach [e] X.env)).all (fun x => !x.1) && (backToKw cpos (keywordEach [] X.env)).all (fun x => x.1.isSome) && decide ([e].length + ([] : List Keyword).length + (if ([] : List Keyword).isEmpty then 0 else 1) < 30)) = true := by rfl)
    (hline : (apos.endLine == cpos.line) = true := by rfl) (hs : starEach [e] X.env = (false, eval e X.env) :: starEach [] X.env := by rfl) (hplain : (backTo cpos (starEach [] X.env)).any (·.1) = false := by rfl) :
    JE X (.Call (.Attribute o "count" apos) [e] [] cpos) (jte to te) :=
  ⟨(jlk G2K G4h PySem.F.type_list_count (jlG hu) ho.to (jbm he.to pa_nil hs) hbase hfew hline hs hplain).imp
    fun σ H Q ⟨σd, h, Qd, rs, rh, t, p⟩ => LE.bind rs rh t fun d v h1 H1 k1 rs1 rh1 r1 ⟨a, e, q⟩ => by
      subst e
      obtain ⟨e1, vs, hH⟩ := (show v = .ref a ∧ ∃ vs, H1 a = some (.lst vs) from r1)
      subst e1
      refine ⟨.inl ⟨rfl, vs, SqL.of hH⟩, ?_⟩
      refine LE.bind rs1 rh1 q fun y u h2 H2 k2 rs2 rh2 r2 ⟨pd, ps, t1, t2, c1, c2, c3, q2⟩ => ?_
      exact ⟨a, u, y, h2, pd, ps, rfl, rfl, r2, rh2, t1, t2, c1, c2, c3, p (.int _) _ _ _ (k1.trans k2) rh2 rfl q2⟩⟩
end
def jrW (K:Frag) (c:Value) (ta:TED):TED:=fun σ h Q=>ta σ h fun x h1=> ∃C b,x= .exc C∧ExcK K C∧kitOne K (.ref C) c=some b∧Q (.bl b) h1
theorem jfw {X:Cx} {v:V} {c:Value} (rc: ∀u,RelV v u→u=c):CallR X (.builtin "isinstance") (fun xs H Q=> ∃x C o b,xs= [.ref x,v]∧H x=some (.frz o (.own 0))∧o.cls= .ref C∧ExcK X.K C∧kitOne X.K (.ref C) c=some b∧Q (.bl b) H):=by
 intro pins s σ H xs us Q I r h
 obtain⟨x,C,o,b,rfl,hx,hc,Z,e,q⟩:=h
 obtain⟨u,w',rfl,rx,rt⟩:=jju r
 cases rx
 cases rc _ rt
 exact kia_one (jlF Z) I.kIn ⟨o,(I.hok x _ hx).1,hc⟩ e (fun z=>nomatch z) fun tk=>⟨.bl b,H,I.tok tk,rfl,q⟩
section
variable {X:Cx} {a:Expr} {ta:TED} {t:Str} {p p2 pos:Pos}
theorem jkg {v:V} {c:Value}: ∀σ H Q,LE X.K (jrW X.K c ta) σ H Q→tCB (fun xs H Q=> ∃x C o b,xs= [.ref x,v]∧H x=some (.frz o (.own 0))∧o.cls= .ref C∧ExcK X.K C∧kitOne X.K (.ref C) c=some b∧Q (.bl b) H) (jlf (LE X.K ta) (jlf (tC v) jrl)) σ H Q:=
 fun σ H Q ⟨σd,h,Qd,rs,rh,t,p⟩=>LE.bind rs rh t fun d u h1 H1 k1 rs1 rh1 r1 ⟨C,b,e,Z,k,q⟩=>by
  subst e
  obtain⟨x,o,vs,e1,hx,hc,_⟩:=(show ∃x o vs,u= .ref x∧H1 x=some (.frz o (.own 0))∧o.cls= .ref C∧o.data= .fields vs from r1)
  subst e1
  exact⟨x,C,o,b,rfl,hx,hc,Z,k,p (.bl b) _ _ _ k1 rh1 rfl q⟩
theorem jiV {KK:Frag} {D:Addr} (hg:Gl X "isinstance") (hm:X.mg "isinstance" =none) (hg2:Gl X t) (hm2:X.mg t=some (.ref D)) (ha:JE X a ta) (hd:(t==("__debug__" :Str))=false:=by decide)
 (h1:starEach [a,.Name t p2] X.env=(false,eval a X.env)::starEach [.Name t p2] X.env:=by rfl) (h2:(backTo pos (starEach [.Name t p2] X.env)).any (·.1)=false:=by rfl) (hK:X.K=KK:=by rfl):
 JE X (.Call (.Name "isinstance" p) [a,.Name t p2] [] pos) (jrW KK (.ref D) ta):=
 hK ▸ ⟨(jcU (jfw (v:= .ref D) fun u r=>r) hg hm G2Q (jbm ha.to (jbm (jjl (v:= .ref D) hg2 hm2 rfl hd) pa_nil (by rfl)) h1) (by decide) (by decide) h1 h2).imp jkg⟩
theorem jtg {KK:Frag} {T:String} (hg:Gl X "isinstance") (hm:X.mg "isinstance" =none) (hg2:Gl X t) (hm2:X.mg t=none) (hv:bootBuiltins t=some (.type T)) (ha:JE X a ta) (hn:t≠ "__name__" :=by decide) (hd:(t==("__debug__" :Str))=false:=by decide)
 (h1:starEach [a,.Name t p2] X.env=(false,eval a X.env)::starEach [.Name t p2] X.env:=by rfl) (h2:(backTo pos (starEach [.Name t p2] X.env)).any (·.1)=false:=by rfl) (hK:X.K=KK:=by rfl):
 JE X (.Call (.Name "isinstance" p) [a,.Name t p2] [] pos) (jrW KK (.type T) ta):=
 hK ▸ ⟨(jcU (jfw (v:= .ty T) fun u r=>r) hg hm G2Q (jbm ha.to (jbm (jjm (v:= .ty T) hg2 hm2 hv rfl hn hd) pa_nil (by rfl)) h1) (by decide) (by decide) h1 h2).imp jkg⟩
end
end L2
namespace L2
open PySem PySem.Spec PyProof.Rows PySem.W
section
variable {X:Cx} {σ:St} {H:Hp} {s:Shared} {x C:Addr}
theorem Inv.relaid {B h' :Heap} {T:Addr} {a0:Value} (I:Inv X [] σ H s) (Z:Rz0 X) (hpn:X.pn= []) (hx:H x=none∧X.s₀.heap.get? x=none) (hT:H T=none∧X.s₀.heap.get? T=none)
 (hB:B=hideAll s.heap (x::T::frs (X.env::X.outer))) (fl:Heap.FlyingW B (X.env::X.outer) x (.ref C) a0 h') (up:s.heap.UpToSlots h'):Inv X [] σ H {s with heap:=h'}∧Fly X.s₀.heap H h' x C:=by
 subst hB
 have stk:s.heap.FunFrames X.base (X.env::X.outer):=Z.stk ▸ I.stack
 obtain⟨st,_,_,oe',vs',T',oT',ts',he',⟨hc',h0'⟩,hd',h1',hTB,hTx',hT',hTd',h3'⟩:=fl
 obtain⟨r1,r2,r3⟩:=jkb (ys:= [x,T]) (h' :=h') I Z (fun y hy=>by
  rcases G0n.mp hy with rfl|hy
  ·exact hx
  ·rcases G0n.mp hy with rfl|hy
   ·exact hT
   ·cases hy) (fun b o e n1 n2=>st b o (hideAll_get _ e fun z=>by
    rcases G0n.mp z with rfl|z
    ·exact n1 (.head _)
    ·rcases G0n.mp z with rfl|z
     ·exact n1 (.tail _ (.head _))
     ·exact n2 z)) fun b o e hb=>by
  obtain⟨_,o2,e2,nd⟩:=stk.mem hb
  rw [e] at e2;cases e2
  exact up b o e nd
 obtain⟨q1,q2⟩:=r3 T' oT' ts' hT' hTd' fun o e=>by
  by_cases z:T' ∈frs (X.env::X.outer)
  ·exact .inr z
  ·refine .inl ?_
   by_cases z1:T' =x
   ·rw [z1];exact .head _
   ·by_cases z2:T' =T
    ·rw [z2];exact .tail _ (.head _)
    ·rw [hideAll_get _ e (by simp only [G0n,not_or];exact⟨z1,z2,z⟩)] at hTB;cases hTB
 have cellK: ∀c v,s.heap.IsCell c v→h'.IsCell c v:=fun c v ⟨o,ho,hd⟩=>by
  obtain⟨sl,e⟩:=up c o ho fun ws q=>by rw [hd] at q;cases q
  exact⟨_,e,hd⟩
 refine⟨⟨I.ok,I.os,I.bare,by rw [Z.ex];exact r1,?_,fun y c e=> ?_,I.free,I.freeC,fun p hp=> ?_,r2,I.len⟩,⟨⟨oe',vs',a0,T',oT',ts',he',hc',hd',h0',h1',hTx',hT',hTd',h3',q1,q2⟩,hx.1,hx.2⟩⟩
 ·obtain⟨m,hn,hl⟩:=I.loc
  refine⟨m,up.ns hn,fun i y v e1 e2 e3=> ?_⟩
  obtain⟨u,r,l⟩:=hl i y v e1 e2 e3
  exact⟨u,r,l.imp id fun ⟨k,c,e,z⟩=>⟨k,c,e,cellK c _ z⟩⟩
 ·obtain⟨v,z⟩:=I.cell y c e
  exact⟨v,cellK c v z⟩
 ·rw [hpn] at hp;cases hp
theorem Inv.track {oe:Obj} {vs:Array Value} (I:Inv X [] σ H s) (hpn:X.pn= []) (hn:H x=none) (h0:X.s₀.heap.get? x=none) (hx:s.heap.get? x=some oe) (hd:oe.data= .fields vs):Inv X [] σ (upd H x (.frz oe (.own 0))) s:=by
 have ne: ∀b u,H b=some u→b≠x:=fun b u e z=>by rw [z,hn] at e;cases e
 have ne0: ∀b o,X.s₀.heap.get? b=some o→b≠x:=fun b o e z=>by rw [z,h0] at e;cases e
 have cn: ∀y c,X.env.cells.lookup y=some c→c≠x:=fun y c e z=>by
  obtain⟨v,o,ho,hc⟩:=I.cell y c e
  rw [z,hx] at ho;cases ho;rw [hd] at hc;cases hc
 refine⟨I.ok,I.os,I.bare,⟨I.base.keep,I.base.slot,fun b o e n hx=> ?_,I.base.there,fun b xs e=> ?_,fun b o u e=> ?_,fun b ps e=> ?_⟩,I.loc,I.cell,?_,fun y c e=> ?_,fun p hp=> ?_,fun a o e=> ?_,I.len⟩
 ·rw [jaj (ne0 b o e)];exact I.base.free b o e n hx
 ·have:=I.base.tups b xs e;rw [jaj (ne b _ this)];exact this
 ·have:=I.base.frzs b o u e;rw [jaj (ne b _ this)];exact this
 ·obtain⟨more,this⟩:=I.base.tbls b ps e;exact⟨more,by rw [jaj (ne b _ this)];exact this⟩
 ·rw [jaj (fun z=> ?_)]
  ·exact I.free
  ·obtain⟨m,⟨o,es,ep,e,d,_⟩,_⟩:=I.loc
   rw [z,hx] at e;cases e;rw [hd] at d;cases d
 ·rw [jaj (cn y c e)];exact I.freeC y c e
 ·rw [hpn] at hp;cases hp
 ·by_cases z:a=x
  ·subst z;rw [jam] at e;cases e
   exact⟨hx,⟨oe,hx⟩⟩
  ·rw [jaj z] at e
   exact(I.hok a o e).stay (fun _ _ _ q=>q) (fun b q=>by rw [jaj (ne b _ q)];exact q) fun b xs q=>by rw [jaj (ne b _ q)];exact q
theorem jkh {M:Model} {A:Around} {E:Value→Shared→Prop} {i:Nat} {y:Str} {v:V} {Q:Unit→Shared→Prop} (I:Inv X [] σ H s) (hpn:X.pn= []) (hN:X.N.Nodup) (hi:X.N[i]? =some y) (hk:X.env.scope.names.lookup y=some .local) (hv:σ[i]? =some (some v))
 (h: ∀s',Inv X [] (σ.set i none) H s' →Q () s'):wpAny M A (unbindName X.env y) Q E s:=by
 obtain⟨m,hn,hl⟩:=id I.loc
 have hcls:(X.env.scope.kind== .class||(X.env.scope.kind== .module&&X.env.locals !=X.env.globals))=false:=by rw [I.ok.kind];rfl
 have hiσ:i<σ.length:=by rw [I.len];exact(G0k.mp hi).1
 obtain⟨u,r,l⟩:=hl i y v hi hv (.inl hk)
 have hm:m y=some u:=by
  rcases l with ⟨_,e⟩|⟨k,_⟩
  ·exact e
  ·rcases k with k|k<;>(have k' :X.env.scope.names.lookup y=_:=k;rw [hk] at k';cases k')
 refine wpAny_unbindName_local hk hn hm hcls fun h' u' hn' hs=> ?_
 obtain⟨oL,_,_,hoL,_⟩:=id hn
 have cne:=I.cne
 refine h _ ⟨I.ok,I.os,I.bare,⟨fun b o e n hb hx=> ?_,fun b o e n hb hx=> ?_,I.base.free,fun b o e hx=> ?_,I.base.tups,I.base.frzs,I.base.tbls⟩,⟨_,hn',fun j z v' e1 e2 e3=> ?_⟩,fun z c e=> ?_,I.free,I.freeC,fun p hp=> ?_,fun b ob e=> ?_,by simpa using I.len⟩
 ·exact(hs.2 b (G0J (G0D (G0l e) I.ok.above))).trans (I.base.keep b o e n hb hx)
 ·obtain⟨sl,e1⟩:=I.base.slot b o e n hb hx
  exact⟨sl,(hs.2 b (G0J (G0D (G0l e) I.ok.above))).trans e1⟩
 ·obtain⟨o',e1⟩:=I.base.there b o e hx
  exact⟨o',(hs.2 b (G0J (G0D (G0l e) I.ok.above))).trans e1⟩
 ·by_cases hj:j=i
  ·subst hj
   rw [G2o hiσ] at e2
   cases e2
  ·rw [G1H (Ne.symm hj)] at e2
   obtain⟨u2,r',q⟩:=hl j z v' e1 e2 e3
   refine⟨u2,r',?_⟩
   rcases q with ⟨k,e⟩|⟨k,c,e,q⟩
   ·refine .inl ⟨k,?_⟩
    have:z≠y:=fun e=>hj (jfH hN e1 (e ▸ hi))
    simp [this,e]
   ·exact .inr ⟨k,c,e,q.sameBut hs (cne z c e)⟩
 ·obtain⟨w',q⟩:=I.cell z c e
  exact⟨w',q.sameBut hs (cne z c e)⟩
 ·rw [hpn] at hp;cases hp
 ·refine(I.hok b ob e).stay (fun c w' hc q=>(hs.2 c ?_).trans q) (fun _ q=>q) fun _ _ q=>q
  rintro rfl
  rcases hc with rfl|hc
  ·rw [I.free] at e;cases e
  ·rw [I.free] at hc;cases hc
end
def cxH (X:Cx) (x:Addr):Cx:= {X with A:=X.A.mark (some (.ref x)),calm:=false,xe:=fun _ _=>False}
section
variable {X:Cx} {pins:List (Addr×Obj)} {σ:St} {H:Hp} {s:Shared} {x C:Addr}
theorem Inv.suite (I:Inv X pins σ H s) (x:Addr):Inv (cxH X x) pins σ H s:=
 ⟨⟨I.ok.mod,I.ok.kind,I.ok.glob,I.ok.blt,I.ok.above,I.ok.inj,I.ok.has,I.ok.cab,fun z=>(by cases z),I.ok.frames,I.ok.stk,I.ok.exf,I.ok.bs,I.ok.bsz,I.ok.noex,I.ok.exfs,I.ok.funs,I.ok.frf⟩,I.os,I.bare,I.base,I.loc,I.cell,I.free,I.freeC,I.pin,I.hok,I.len⟩
theorem Inv.unsuite (I:Inv (cxH X x) pins σ H s) (ok:X.Ok):Inv X pins σ H s:=⟨ok,I.os,I.bare,I.base,I.loc,I.cell,I.free,I.freeC,I.pin,I.hok,I.len⟩
theorem jlH {E:Value→Shared→Prop} {n:Str} {i:Nat} {PE:Addr} {b0:Stmt} {suite:List Stmt} {t:TS} {D:Ends} {np pos:Pos} (Z:Rz0 X) (hpn:X.pn= []) (hN:X.N.Nodup) (hi:X.N[i]? =some n) (hl:X.env.scope.names.lookup n=some .local)
 (hg:Gl X "PowerError") (hm:X.mg "PowerError" =some (.ref PE)) (hex:exmOne X.K (.ref C) (.ref PE)=some true) (I:Inv X [] σ H s) (fl:Fly X.s₀.heap H s.heap x C) (hs:PSs (cxH X x) (b0::suite) t)
 (ht: ∀oe vs,oe.cls= .ref C→oe.data= .fields vs→t {nx:=fun _ _=>False,rt:=D.rt} (σ.set i (some (.ref x))) (upd H x (.frz oe (.own 0)))):
 wpAny (model X.prog X.w) X.A (noteFrame (.ref x) X.env) (fun _ s₂=>wpAny (model X.prog X.w) X.A (setFlight (.ref x) none) (fun _ s₃=>wpAny (model X.prog X.w) X.A (handleBy (.ref x) X.env [.ExceptHandler (some (.Name "PowerError" np)) (some n) (b0::suite) pos]) (SP X [] D) E s₃) E s₂) E s:=by
 obtain⟨oe0,vs0,a0,T,oT,ts,he,hc,hd,h0,h1,hTx,hT,hTd,h3,hHT,h0T⟩:=fl.ex
 have hfr:X.A.frames=some (X.env::X.outer):=by rw [I.ok.frames,Z.stk]
 have stk:s.heap.FunFrames X.base (X.env::X.outer):=Z.stk ▸ I.stack
 have ff:s.heap.FunFrames (hideAll s.heap (x::T::frs (X.env::X.outer))) (X.env::X.outer):=ja5 stk fun a ha=>hideAll_none _ (.tail _ (.tail _ ha))
 refine wpAny_looks_onW (base:=hideAll s.heap (x::T::frs (X.env::X.outer))) (cls:= .ref C) (a0:=a0) hfr Z.fr
  ⟨fun b o e=>of_hideAll _ e,hideAll_none _ (.head _),ff,oe0,vs0,T,oT,ts,he,⟨hc,h0⟩,hd,h1,hideAll_none _ (.tail _ (.head _)),hTx,hT,hTd,h3⟩ fun h₄ hheld₄ hup₄=> ?_
 refine wpAny_landsW hheld₄ fun h₅ hfl₅ hup₅=> ?_
 obtain⟨I5,F5⟩:=I.relaid Z hpn ⟨fl.nx,fl.n0⟩ ⟨hHT,h0T⟩ rfl hfl₅ (hup₄.trans hup₅)
 refine wpAny_handleBy_cons (codeAny_handlers_test (jdD (X:=cxH X x) (I5.suite x) hg hm ?_)) (by intro q;cases q)
 have at5:ExcAt x C h₅:=let ⟨oe,_,_,_,_,_,e,c,_⟩:=F5.ex;⟨oe,e,c⟩
 refine(exm_one (M:=model X.prog X.w) (h:=h₅) I5.kIn at5.type hex).here ?_
 refine codeAny_handlers_suite_as ?_
 refine lands_againW hfl₅ fun h₆ hfl₆ hup₆=> ?_
 obtain⟨I6,F6⟩:=I.relaid Z hpn ⟨fl.nx,fl.n0⟩ ⟨hHT,h0T⟩ rfl hfl₆ (hup₄.trans (hup₅.trans hup₆))
 obtain⟨oe,vs,_,_,_,_,e6,c6,d6,_⟩:=F6.ex
 have I7:=I6.track hpn F6.nx F6.n0 e6 d6
 refine jcj I7 hN hi (.inl hl) (v:= .ref x) rfl (fun s8 I8=> ?_) (.inr hl)
 refine G0H (hs [] s8 _ _ _ (I8.suite x) (ht oe vs c6 d6)) (fun f s9 q=> ?_) fun _ _ z=>z.elim
 cases f with
 |next=>obtain⟨_,_,_,z⟩:=q;exact z.elim
 |brk=>obtain⟨_,_,_,z⟩:=q;exact z.elim
 |cont=>obtain⟨_,_,_,z⟩:=q;exact z.elim
 |ret u=>
  obtain⟨v,σ',H3,J,rv,qq⟩:=q
  have J1:Inv X [] σ' H3 s9:=J.unsuite I.ok
  refine wpAny_bind (wpAny_bindName (jcj J1 hN hi (.inl hl) (v:= .non) rfl (fun s10 J2=> ?_) (.inr hl)))
  unfold unbindBehindTheSuite
  have hlt:i<σ'.length:=by rw [J1.len];exact(G0k.mp hi).1
  exact wpAny_onRaise (jkh J2 hpn hN hi hl (v:= .non) (by rw [G2o hlt]) fun s11 J3=>⟨v,_,H3,J3,rv,qq⟩)
end
def CW:List (Str×Str):= [("NoTable","table"),("NoPlace","place"),("NoNumber","number"),("NoOrder","order"),("NoSet","set"),("NoWalk","walk"),("NoLengths","lengths"),("NoWay","way"),("Apart","apart"),("NoRow","row")]
def CN:List Str:= ["NoTable","NoPlace","NoNumber","NoOrder","NoSet","NoWalk","NoLengths","NoWay","Apart","NoRow"]
def jdo (c:Str):Str:=(CW.lookup c).getD "other"
def jh8 (P:Program) (w:World) (K:PySem.W.Frag) (mg:Str→Option Value) (base:Heap) (n:Nat):Shared→Sp:=fun s vs H Q _=>
 ∃ (f:Addr) (o:Obj) (qual:Str) (pm cv ctv:Value) (cl:List (Str×Addr)) (q:Str) (N:List Str) (σ:St) (scope:Scope) (body:Expr) (h:HD) (Qd:KD),vs= [.ref f]∧s.heap.get? f=some o∧o.data= .func (kla_fn "<lambda>" qual je7 body scope cl pm cv ctv)∧CodeF H cv q∧H f=none∧LamOk scope∧Cap N σ scope cl s.heap H∧RelH K h H∧jmm K H Qd Q∧
 ((∃QT:VK,(∀ (A' :Around) (outer' :List Env) (s' :Shared) (E' :XK),Room n (A'.deeper (envX q scope s'.heap.objs.size f cv cl))→ ∃t,PE (cxL CX0 P w K mg base N q scope f cv cl A' outer' s' H E') body t∧t σ H QT)∧
  ∀v H',QT v H' → ∃d h',Kept H H' ∧RelH K h' H' ∧RelD K H' d v∧Qd (.tup [.str "told",d]) h')∨
  (∃RT:Addr→Hp→Prop,(∀ (A' :Around) (outer' :List Env) (s' :Shared),Room n (A'.deeper (envX q scope s'.heap.objs.size f cv cl))→ ∀pins s2,Inv (cxL (CXR P w) P w K mg base N q scope f cv cl A' outer' s' H (fun c _ H' => ∃C,c= .ref C∧RT C H')) pins σ H s2→
   wpAny (model P w) (A'.deeper (envX q scope s'.heap.objs.size f cv cl)) (eval body (envX q scope s'.heap.objs.size f cv cl)) (fun _ _=>False) (cxL (CXR P w) P w K mg base N q scope f cv cl A' outer' s' H (fun c _ H' => ∃C,c= .ref C∧RT C H')).xe s2)∧
   ∀C H',RT C H' → ∃c h',mg c=some (.ref C)∧c∈CN∧Kept H H' ∧RelH K h' H' ∧Qd (.tup [.str (jdo c)]) h'))
abbrev N1:List Str:= ["_law_call","_law_found","_law_e","_law_word"]
theorem RoomU.mark {k:Nat} {A:Around} {v:Option Value} (r:RoomU k A):RoomU k (A.mark v):=⟨r.dp,r.un,r.gd⟩
theorem jki {M:Model} {f:Addr} (h:Heap) (X: ∃o fd,h.get? f=some o∧o.data= .func fd): ∃k,(k=Keeper.frame∨k=Keeper.machine∨k=Keeper.boundFrame)∧Looks M h (keeperOf (.ref f)) k:=by
 obtain⟨o,fd,e,d⟩:=X
 refine⟨.frame,.inl rfl,(Looks.ld (part:=none) e).andThen ?_⟩
 rw [d]
 exact .now
theorem jnR {P:Program} {w:World} {K:PySem.W.Frag} {mg:Str→Option Value} {base:Heap} {st:Stmt} {fs:Addr} {fds:FuncData} {n:Nat} {pe:Addr} {p1 p2 p3 p4 p5 p6 p7 p8 p9 p10 p11:Pos} {j k:Nat} {b0:Stmt} {suite:List Stmt}
 (F:Fun K "_law_said" "_law_said" st fs fds) (S:FnScope N1 ["_law_call"] (jab st))
 (hb:jal st= [.Try [.Assign [.Name "_law_found" p1] (.Call (.Name "_law_call" p2) [] [] p3) p4] [.ExceptHandler (some (.Name "PowerError" p5)) (some "_law_e") (b0::suite) p6] [] [] p7,.Return (some (.Tuple [.Constant (.str "told") j p8,.Name "_law_found" p9] k p10)) p11])
 (l0:(jab st).names.lookup ("_law_call" :Str)=some .local) (l1:(jab st).names.lookup ("_law_found" :Str)=some .local) (l2:(jab st).names.lookup ("_law_e" :Str)=some .local) (lp:(jab st).names.lookup ("PowerError" :Str)=some .globalImplicit)
 (hm:mg "PowerError" =some (.ref pe)) (hex: ∀c∈CN,∀C,mg c=some (.ref C)→exmOne K (.ref C) (.ref pe)=some true) (tS:TSD)
 (hsuite: ∀ (cdv:Value) (A:Around) (outer:List Env) (s:Shared) (H:Hp) (E:XK) (x:Addr),RoomU n ((A.deeper (envOfC "_law_said" (jab st) s.heap.objs.size fs cdv)).mark (some (.ref x)))→JSs (cxH (jfI CX0 P w K mg base N1 "_law_said" (jab st) fs cdv A outer s H E) x) (b0::suite) tS)
 (hread: ∀c∈CN,∀ (C:Addr) (h:HD) (Qd:KD),mg c=some (.ref C)→Qd (.tup [.str (jdo c)]) h→tS {nx:=fun _ _=>False,rt:=fun d h' => ∃h2,Sub h2 h' ∧Qd d h2} [none,none,some (.exc C),none] h):
 FnOkS P w K mg base CX0 (n+2) fs fds ["_law_call"] (jh8 P w K mg base n):=by
 obtain⟨oc,od,kV,doc,pm,an,cdv,ct,osl,rfl,lk,hcd⟩:=F.ex
 refine jql lk hcd S (fun s vs H Q E h=> ?_) fun A outer s H vs Q E hr hsp s1 I=> ?_
 ·obtain⟨f,_,_,_,_,_,_,_,_,_,_,_,_,_,rfl,_⟩:=h;rfl
 obtain⟨f,o,qual,pmv,cv,ctv,cl,q,N,σ,scope,body,h,Qd,rfl,ho,hod,hcf,hHf,L,C,rh,post,alt⟩:=hsp
 have un:=I.base
 obtain⟨sl,ho1⟩:=un.any ho hHf (by intro z;cases z)
 have C1:Cap N σ scope cl s1.heap H:=C.step un
 have hr0:Room (n+1) (A.deeper (envOfC "_law_said" (jab st) s.heap.objs.size fs cdv)):=hr
 rw [hb]
 have callee: ∀ {CX:CXT} {E' :XK} {QT:VK} {t:TE} {Q2:Value→Shared→Prop} {EE:Value→Shared→Prop},PE (cxL CX P w K mg base N q scope f cv cl (A.deeper (envOfC "_law_said" (jab st) s.heap.objs.size fs cdv)) (envOfC "_law_said" (jab st) s.heap.objs.size fs cdv::outer) s1 H E') body t→t σ H QT→
  (∀r s2,CR CX (envOfC "_law_said" (jab st) s.heap.objs.size fs cdv::outer) P w H s1 QT E' r s2→match r with| .ok (.ret v)=>Q2 v s2| .ok _=>False| .error e=>EE e s2)→
  wpAny (model P w) (A.deeper (envOfC "_law_said" (jab st) s.heap.objs.size fs cdv)) (eval (.Call (.Name "_law_call" p2) [] [] p3) (envOfC "_law_said" (jab st) s.heap.objs.size fs cdv)) Q2 EE s1:=by
  intro CX E' QT t Q2 EE hbt ht hk
  refine G2b ?_
  obtain⟨m,hn,hl⟩:=I.loc
  obtain⟨u,ru,l⟩:=hl 0 "_law_call" (.ref f) rfl rfl (.inl l0)
  cases ru
  have hmm:m "_law_call" =some (.ref f):=by
   rcases l with ⟨_,e⟩|⟨kk,_⟩
   ·exact e
   ·rcases kk with kk|kk<;>(have k' :(jab st).names.lookup ("_law_call" :Str)=_:=kk;rw [l0] at k';cases k')
  refine wpAny_Name (wpAny_loadName_local S.kind l0 hn hmm ?_) (by decide)
  refine callWith_of (P:=fun h=> ∃o fd,h.get? f=some o∧o.data= .func fd) rfl jki (evalArgs_nil3 ⟨⟨_,_,ho1,hod⟩,?_⟩)
  exact G2M (G2V (jnL (CX:=CX) (k:=n) L hr0 I.env0 C1 ho1 hod hcf hbt ht) hk)
 refine G10 (wpAny_Try_except ?_)
 refine G10 (wpAny_Assign_Name ?_ rfl)
 rcases alt with ⟨QT,hT,hQ⟩|⟨RT,hR,hQ⟩
 ·obtain⟨t,hbt,ht⟩:=hT (A.deeper (envOfC "_law_said" (jab st) s.heap.objs.size fs cdv)) (envOfC "_law_said" (jab st) s.heap.objs.size fs cdv::outer) s1 E0 (hr0.deeper _)
  refine callee hbt ht fun r s2 hq=> ?_
  cases r with
  |error e=>exact False.elim hq
  |ok fl=>
   cases fl with
   |next=>exact False.elim hq
   |brk=>exact False.elim hq
   |cont=>exact False.elim hq
   |ret u=>
    obtain⟨v,H',I2,rv,qt⟩:=I.after hq
    obtain⟨d,h',kp,rh',rd,qd⟩:=hQ v H' qt
    refine jcj I2 (i:=1) (x:= "_law_found") S.nd rfl (.inl l1) rv (fun s3 I3=> ?_) (.inr l1)
    refine G2U (G2U ?_)
    have hret:JSs (jfI CX0 P w K mg base N1 "_law_said" (jab st) fs cdv A outer s H E) [.Return (some (.Tuple [.Constant (.str "told") j p8,.Name "_law_found" p9] k p10)) p11] (jeW (jeV (jbq (dC (.str "told")) (jbq (jeU 1) jd0)))):=
     jag (jcz (jgL (jac jfs (jac (jv 1 rfl (.inl l1)) jad))))
    exact hret.to [] s3 _ H' _ I3 ⟨[none,some d,none,none],h',{nx:=fun _ _=>False,rt:=Qd},⟨rfl,fun i d' e=>by
     match i,e with
     |0,e=>cases e
     |1,e=>cases e;exact⟨v,rfl,rd⟩
     |2,e=>cases e
     |3,e=>cases e
     |i+4,e=>simp at e⟩,rh',⟨_,rfl,(by show 2≤sizeLine;decide),qd⟩,fun _ _ _ _ _ _ _ z=>z.elim,jaw post kp,fun _ _ _ _ _ _ _ z=>z.elim,fun _ _ _ _ _ _ _ z=>z.elim⟩
 ·refine callee (CX:=CXR P w) (E' :=fun c _ H' => ∃C,c= .ref C∧RT C H') (QT:=fun _ _=>False) (t:=fun σ' H' _=>σ' =σ∧H' =H)
   (fun pins s2 σ' H' Q' I' ⟨e1,e2⟩=> ?_) ⟨rfl,rfl⟩ fun r s2 hq=> ?_
  ·subst e1;subst e2
   exact G0H (hR _ _ s1 (hr0.deeper _) pins s2 I') (fun _ _ z=>z.elim) fun _ _ z=>z
  cases r with
  |ok fl=>
   cases fl with
   |next=>exact False.elim hq
   |brk=>exact False.elim hq
   |cont=>exact False.elim hq
   |ret u=>obtain⟨_,_,_,_,_,_,_,z⟩:=hq;exact z.elim
  |error e=>
   obtain⟨x,C',H',rfl,os,bare,un2,hok,fl,C2,eC,rt⟩:=hq
   cases eC
   obtain⟨c,h',hmc,hcn,kp,rh',qd⟩:=hQ C' H' rt
   have I2:=I.call' (ch:= []) os un2 hok bare (fun b z=>absurd z (by simp))
   have f0: ∀b,s1.heap.get? b=none→s.heap.get? b=none:=fun b nb=>by
    cases qq:s.heap.get? b with
    |none=>rfl
    |some o=>obtain⟨o',e⟩:=I.base.there b o qq (by intro z;cases z);rw [nb] at e;cases e
   have fl' :Fly s.heap H' s2.heap x C' :=by
    obtain⟨⟨oe,vs,a0,T,oT,ts,a1,a2,a3,a4,a5,a6,a7,a8,a9,a10,a11⟩,nx,n0⟩:=fl
    exact⟨⟨oe,vs,a0,T,oT,ts,a1,a2,a3,a4,a5,a6,a7,a8,a9,a10,f0 _ a11⟩,nx,f0 _ n0⟩
   have hsu:=hsuite cdv A outer s H E x (RoomU.mark ((hr0.mono (Nat.le_succ n)).u))
   refine G0H (jlH (X:=jfI CX0 P w K mg base N1 "_law_said" (jab st) fs cdv A outer s H E) (σ:=start N1 [V.ref f]) (i:=2) (n:= "_law_e") (C:=C') (t:=LS K tS) (D:= {nx:=fun _ _=>False,rt:=Q}) ⟨rfl,rfl,rfl⟩ rfl S.nd rfl l2 lp hm (hex c hcn C' hmc) I2 fl' hsu.to fun oe vs hc hd=> ?_) (fun _ s3 h3=>G0H h3 (fun _ s4 h4=>G0H h4 (fun fl s5 h5=> ?_) fun _ _ z=>z) fun _ _ z=>z) fun _ _ z=>z
   ·refine⟨[none,none,some (.exc C'),none],h',_,⟨rfl,fun i d' e=> ?_⟩,rh'.new fl'.nx,hread c hcn C' h' Qd hmc qd,fun _ _ _ _ _ _ _ z=>z.elim,fun d v h2 H2 k2 rh2 rd ⟨h3,sb,q3⟩=>post d v h3 H2 ((kp.trans (.new fl'.nx)).trans k2) (rh2.sub sb) rd q3,fun _ _ _ _ _ _ _ z=>z.elim,fun _ _ _ _ _ _ _ z=>z.elim⟩
    match i,e with
    |0,e=>cases e
    |1,e=>cases e
    |3,e=>cases e
    |i+4,e=>simp at e
    |2,e=>cases e;exact⟨.ref x,rfl,x,oe,vs,rfl,jam,hc,hd⟩
   ·cases fl with
    |next=>obtain⟨_,_,_,z⟩:=h5;exact z.elim
    |brk=>obtain⟨_,_,_,z⟩:=h5;exact z.elim
    |cont=>obtain⟨_,_,_,z⟩:=h5;exact z.elim
    |ret u=>exact h5
def jrX (tT:TED) (tR:TXD):TED:=fun σ h Q=>tT σ h (fun d h' =>Q (.tup [.str "told",d]) h')∨tR σ h (fun c h' =>c∈CN∧Q (.tup [.str (jdo c)]) h')
def jsv (sc:Scope):Bool:=sc.kind== .function&& !sc.isCoroutine&& !sc.isGenerator&&sc.names.all fun y=>y.2 != .cell&&y.2 != .local
theorem jqn {sc:Scope} (hk:sc.kind= .function) (h:jsv sc=true):LamOk sc:=by
 unfold jsv at h
 simp only [G0Z,G4a,G1f,bne_iff_ne,ne_eq] at h
 exact⟨hk,h.1.1.2,h.1.2,fun y hy=>h.2 y hy⟩
def jqo (sc sc' :Scope):Bool:=sc.names.all fun y=>y.2 != .free||(sc'.names.lookup y.1==some .cell||sc'.names.lookup y.1==some .free)
theorem jnS {sc:Scope} {env:Env} (h:jqo sc env.scope=true):jkd sc env:=fun n hn=>by
 have:=G1f.mp h _ hn
 simp only [bne_self_eq_false,Bool.false_or,G2F,G28] at this
 exact this
theorem jrY {X:Cx} {n:Nat} {fs:Addr} {fds:FuncData} {scope:Scope} {body:Expr} {lpos p pos:Pos} {tT:TED} {tR:TXD} {c P:Addr}
 (F:FnOkS X.prog X.w X.K X.mg X.base CX0 (n+2) fs fds ["_law_call"] (jh8 X.prog X.w X.K X.mg X.base n)) (hr:Room (n+2) X.A) (hg:Gl X "_law_said") (hm:X.mg "_law_said" =some (.ref fs)) (hk:keepIn X.K (.ref fs)=true) (hb:Binds X.K fds ["_law_call"] [])
 (B:Bm X.mg X.base) (hcode:X.env.code= .ref c) (hc:codeHdIn X.K c P=true) (hTK:TabK X.K P) (L:LamOk scope) (hfr:jkd scope X.env)
 (hT: ∀ (q:Str) (cv:Value) (cl:List (Str×Addr)) (f:Addr) (A:Around) (outer:List Env) (s:Shared) (H:Hp) (E:XK),Room n (A.deeper (envX q scope s.heap.objs.size f cv cl))→JE (cxL CX0 X.prog X.w X.K X.mg X.base X.N q scope f cv cl A outer s H E) body tT)
 (hR: ∀ (q:Str) (cv:Value) (cl:List (Str×Addr)) (f:Addr) (A:Around) (outer:List Env) (s:Shared) (H:Hp) (E:XK),Room n (A.deeper (envX q scope s.heap.objs.size f cv cl))→JXE (cxL (CXR X.prog X.w) X.prog X.w X.K X.mg X.base X.N q scope f cv cl A outer s H E) body tR)
 (he:starEach [Expr.Lambda je7 body scope lpos] X.env=(false,eval (.Lambda je7 body scope lpos) X.env)::starEach [] X.env:=by rfl) (hpl:(backTo pos (starEach [] X.env)).any (·.1)=false:=by rfl):
 JE X (.Call (.Name "_law_said" p) [.Lambda je7 body scope lpos] [] pos) (jrX tT tR):=⟨fun pins s σ H Q I ⟨σd,h,Qd,rs,rh,alt,post⟩=>by
 refine G2b (jdD I hg hm ?_ (by decide))
 refine G3Z (h₀:=X.base) I.ok.mod.kin hk ?_ he hpl
 rw [he]
 obtain⟨ps,hP,hps⟩:=rh.tb P hTK
 have hcl:closureFor scope X.env=pure (jd3 X.env.cells scope.names []):=jeE fun n hn=>I.ok.has n (hfr n hn)
 refine G3f (jlB I B hcode hc hP hps hcl fun f q qual pm cv ctv H1 h1 tk I1 kp lsts tbls jsr hf hcf hHf _ _ _=>G36 ⟨I1.kIn,?_⟩)
 have rh1:RelH X.K h H1:=⟨fun a ds e=>by
  obtain⟨vs,e1,e2⟩:=rh a ds e
  exact⟨vs,lsts _ _ e1,e2.mono kp⟩,fun P' hP' =>by
  by_cases z:P' =P
  ·subst z;exact jsr
  ·obtain⟨ps',e1,e2⟩:=rh.tb P' hP'
   exact⟨ps',tbls _ _ e1 z,e2.mono kp.frz⟩⟩
 have rs1:RelS X.K H1 σd σ:=rs.mono kp
 refine jnP (us:= [.ref f]) (vs:= [.ref f]) (dvs:= []) (ds:= []) (E:=E0) F hr hb .nil jm6 I1 (.cons rfl .nil) ?_
 refine⟨f,_,qual,pm,cv,ctv,jd3 X.env.cells scope.names [],q,X.N,σ,scope,body,h,Qd,rfl,hf,rfl,hcf,hHf,L,Cap.of I1 hfr,rh1,jaw post kp,?_⟩
 rcases alt with t|t
 ·refine .inl ⟨fun v H' => ∃d h',Kept H1 H' ∧RelH X.K h' H' ∧RelD X.K H' d v∧Qd (.tup [.str "told",d]) h',fun A' outer' s' E' hr' =>⟨_,(hT q cv _ f A' outer' s' H1 E' hr').to,σd,h,_,rs1,rh1,t,fun d v h' H' k r1 r2 q=>⟨d,h',k,r1,r2,q⟩⟩,fun v H' q=>q⟩
 ·refine .inr ⟨fun C H' => ∃c h',X.mg c=some (.ref C)∧c∈CN∧Kept H1 H' ∧RelH X.K h' H' ∧Qd (.tup [.str (jdo c)]) h',fun A' outer' s' hr' pins2 s2 I2=> ?_,fun C H' q=>q⟩
  exact(hR q cv _ f A' outer' s' H1 _ hr').to _ jqj pins2 s2 σ H1 σd h _ I2 rs1 rh1 t fun c C h' H' k rh' hmc ⟨hcn,qq⟩=>⟨C,rfl,c,h',hmc,hcn,k,rh',qq⟩⟩
theorem jlI {K:Frag} {x:Str} {f c P:Addr} {oc:Value} {od:Option Addr} {fd:FuncData} {osl:Array (Option Value)} (a:nsIn K mainGlobals x=some (some (.ref f))) (l:K.lookup f=some ⟨oc,od,.func fd,osl⟩) (t:tabIn K x=some (c,P)):fd.code= .ref c:=by
 unfold tabIn at t
 rw [a] at t
 simp only [l] at t
 split at t
 ·rename_i c' hc'
  split at t
  ·split at t
   ·cases t;exact hc'
   ·cases t
  ·cases t
 ·cases t
def CN13:List Str:= ["NoTable","NoPlace","NoNumber","NoOrder","NoSet","NoWalk","NoLengths","NoWay","Apart","NoRow","NoTables","NoText","TooGreat"]
def adr (K:Frag) (x:Str):Option Addr:=match nsIn K mainGlobals x with
 |some (some (.ref a))=>some a
 |_=>none
def jlJ (K:Frag) (C:Addr):Bool:=(clsIn K C).isSome&&findIn K (.ref C) "__getattribute__" ==some (some (.builtin "BaseException.__getattribute__"))&&findIn K (.ref C) "__getattr__" ==some none
 &&findIn K (.ref C) "__class__" ==some (some (.builtin "object.__class__"))&&specialIn K (.builtin "object.__class__") "__get__" ==some (some (.builtin "getset_descriptor.__get__"))
 &&takesIn K (.builtin "object.__class__")==some true&&mroIn K C (.type "object")==some true&&mroIn K C (.type "BaseException")==some true
theorem jnT {K:Frag} {C:Addr} (h:jlJ K C=true):ExcK K C:=by
 unfold jlJ at h
 simp only [G0Z,G28] at h
 obtain⟨⟨⟨⟨⟨⟨⟨a,b⟩,c⟩,d⟩,e⟩,f⟩,g⟩,i⟩:=h
 exact⟨a,b,c,d,e,f,g,i⟩
def jmw (K:Frag) (c:Str):Bool:=match adr K c,adr K "PowerError" with
 |some C,some pe=>excIn K C bmV "ValueError.__new__" &&jlJ K C&&kitOne K (.ref C) (.type "ValueError")==some true&&exmOne K (.ref C) (.ref pe)==some true&&CN13.all fun d=>match adr K d with
  |some D=>kitOne K (.ref C) (.ref D)==some (c==d)
  |none=>false
 |_,_=>false
def jrZ (K:Frag):Bool:=CN.all (jmw K)&&CN13.all (fun d=>(adr K d).isSome)&&(adr K "PowerError").isSome&&nsIn K mainGlobals "ValueError" ==some none
structure Exc (K:Frag) (mg:Str→Option Value):Prop where
 own: ∀c∈CN,OwnX K mg c
 ek: ∀c∈CN,∀C,mg c=some (.ref C)→ExcK K C
 kit: ∀c∈CN,∀d∈CN13,∀C D,mg c=some (.ref C)→mg d=some (.ref D)→kitOne K (.ref C) (.ref D)=some (c==d)
 val: ∀c∈CN,∀C,mg c=some (.ref C)→kitOne K (.ref C) (.type "ValueError")=some true
 pe: ∃pe,mg "PowerError" =some (.ref pe)∧ ∀c∈CN,∀C,mg c=some (.ref C)→exmOne K (.ref C) (.ref pe)=some true
 cls: ∀d∈CN13,∃D,mg d=some (.ref D)
 ve:mg "ValueError" =none
theorem jh9 {K:Frag} {h:Heap} {mg:Str→Option Value} {x:Str} {a:Addr} (X:K.In h) (G:h.Ns mainGlobals mg) (e:adr K x=some a):mg x=some (.ref a):=by
 unfold adr at e
 split at e
 ·rename_i q;cases e;exact mg_of X G q
 ·cases e
theorem jqp {K:Frag} {x:Str} {a:Addr} (e:adr K x=some a):nsIn K mainGlobals x=some (some (.ref a)):=by
 unfold adr at e
 split at e
 ·rename_i q;cases e;exact q
 ·cases e
theorem jqq {K:Frag} {h:Heap} {mg:Str→Option Value} (X:K.In h) (G:h.Ns mainGlobals mg) (e:jrZ K=true):Exc K mg:=by
 unfold jrZ at e
 simp only [G0Z,G1f,G28] at e
 obtain⟨⟨⟨e1,e2⟩,e3⟩,e4⟩:=e
 obtain⟨pe,hpe⟩:=G1V.mp e3
 have A: ∀c∈CN,∃C,adr K c=some C∧mg c=some (.ref C)∧excIn K C bmV "ValueError.__new__" =true∧jlJ K C=true∧kitOne K (.ref C) (.type "ValueError")=some true∧exmOne K (.ref C) (.ref pe)=some true∧ ∀d∈CN13,∀D,adr K d=some D→kitOne K (.ref C) (.ref D)=some (c==d):=fun c hc=>by
  have q:=e1 c hc
  unfold jmw at q
  rw [hpe] at q
  split at q
  ·rename_i C pe' h1 h2
   cases h2
   simp only [G0Z,G1f,G28] at q
   obtain⟨⟨⟨⟨q1,q2⟩,q3⟩,q4⟩,q5⟩:=q
   refine⟨C,h1,jh9 X G h1,q1,q2,q3,q4,fun d hd D hD=> ?_⟩
   have:=q5 d hd
   rw [hD] at this
   simpa using this
  ·cases q
 have same: ∀ {c:Str} {C C' :Addr},mg c=some (.ref C)→mg c=some (.ref C')→C=C' :=fun a b=>by rw [a] at b;cases b;rfl
 refine⟨fun c hc=> ?_,fun c hc C h=> ?_,fun c hc d hd C D h1 h2=> ?_,fun c hc C h=> ?_,⟨pe,jh9 X G hpe,fun c hc C h=> ?_⟩,fun d hd=> ?_,mg_none_of X G e4⟩
 ·obtain⟨C,a,m,q,_⟩:=A c hc;exact⟨C,m,jqp a,q⟩
 ·obtain⟨C',_,m,_,q,_⟩:=A c hc;cases same h m;exact jnT q
 ·obtain⟨C',_,m,_,_,_,_,q⟩:=A c hc;cases same h1 m
  obtain⟨D',hD⟩:=G1V.mp (e2 d hd)
  cases same h2 (jh9 X G hD)
  exact q d hd D hD
 ·obtain⟨C',_,m,_,_,q,_⟩:=A c hc;cases same h m;exact q
 ·obtain⟨C',_,m,_,_,_,q,_⟩:=A c hc;cases same h m;exact q
 ·obtain⟨D',hD⟩:=G1V.mp (e2 d hd)
  exact⟨D',jh9 X G hD⟩
def xOr (t u:TXD):TXD:=fun σ h R=>t σ h R∨u σ h R
theorem jr0 {X:Cx} {sts:List Stmt} {t u:TXD} (a:JX X sts t) (b:JX X sts u):JX X sts (xOr t u):=⟨fun E Z pins s σ H σd h R I rs rh ht w=>ht.elim (fun q=>a.to E Z pins s σ H σd h R I rs rh q w) fun q=>b.to E Z pins s σ H σd h R I rs rh q w⟩
section
variable {P:Program} {w:World} {K:PySem.W.Frag} {mg:Str→Option Value} {base:Heap}
theorem Fun.okJL {x qual:Str} {st:Stmt} {f c Pt:Addr} {fd:FuncData} {N ps:List Str} {k:Nat} {spd:RDn} (F:Fun K x qual st f fd) (a:nsIn K mainGlobals x=some (some (.ref f))) (T:tabIn K x=some (c,Pt)) (S:FnScope N ps (jab st)) (len: ∀ds h Q,spd ds h Q→ds.length=ps.length)
 (tb:TSD) (hbody: ∀ (A:Around) (outer:List Env) (s:Shared) (H:Hp) (E:XK),Room k (A.deeper (envOfC qual (jab st) s.heap.objs.size f (.ref c)))→JSs (jfI CX0 P w K mg base N qual (jab st) f (.ref c) A outer s H E).nox (jal st) tb)
 (read: ∀ds h Q,spd ds h Q→tb (jdW Q) (jaB N ds) h):FnOk P w K mg base CX0 (k+1) f fd ps (LSp K spd):=by
 obtain⟨oc,od,kV,doc,pm,an,cdv,ct,osl,rfl,lk,hcd⟩:=F.ex
 have e:cdv= .ref c:=jlI a lk T
 subst e
 refine jm1 lk hcd S (fun vs H Q E h=> ?_) fun A outer s H vs Q E hr h=> ?_
 ·obtain⟨ds,h,Qd,r,rh,q,p⟩:=h
  rw [←r.length];exact len _ _ _ q
 ·obtain⟨ds,h,Qd,r,rh,q,p⟩:=h
  refine⟨_,((hbody A outer s H E hr).to).nox,jaB N ds,h,jdW Qd,jcW r,rh,read ds h Qd q,fun σd' h' σ' H' k rs' rh' ⟨h2,sb,q'⟩=>p .non .non h2 H' k (rh'.sub sb) rfl q',fun d v h' H' k rh' r' ⟨h2,sb,q'⟩=>p d v h2 H' k (rh'.sub sb) r' q',fun _ _ _ _ _ _ _ z=>z.elim,fun _ _ _ _ _ _ _ z=>z.elim⟩
end
def jqr (P:Program) (w:World) (K:PySem.W.Frag) (mg:Str→Option Value) (base:Heap) (n:Nat):Prop:=
 ∃ (g:Addr) (gd:FuncData),FnOkS P w K mg base CX0 (n+2) g gd ["_law_call"] (jh8 P w K mg base n)∧Binds K gd ["_law_call"] []∧PySem.W.keepIn K (.ref g)=true∧mg "_law_said" =some (.ref g)
def jnU (K:Frag) (x:Str):Bool:=match tabIn K x with
 |some p=>codeHdIn K p.1 p.2
 |none=>false
theorem jnV {K:Frag} {x:Str} (h:jnU K x=true): ∃c P,tabIn K x=some (c,P)∧codeHdIn K c P=true:=by
 unfold jnU at h
 split at h
 ·rename_i p e;exact⟨p.1,p.2,e,h⟩
 ·cases h
def jkj (mg:Str→Option Value):RDn:=fun ds h Q=> ∃c C,ds= [.exc C]∧c∈CN∧mg c=some (.ref C)∧ ∀h',Sub h h' →Q (.str (jdo c)) h'
end L2
namespace L2
open PySem PySem.Spec PyProof.Rows PySem.SeqAt
section
variable {n e:Nat} {T:List (List Int)}
instance (k i j:Nat):Decidable (RP n T k i j):=inferInstanceAs (Decidable (ent (jrP n T k) i j≠0))
end
end L2
namespace L2
open PySem PySem.Spec PyProof.Rows PySem.W
section
variable {X:Cx} {e a b iter:Expr} {es:List Expr} {u:TXD} {pos p:Pos} {rest:List Stmt}
theorem jkk (he:JXE X e u) (hs:starEach (e::es) X.env=(false,eval e X.env)::starEach es X.env) (E:XK) (Z:Rz X E) (pins:List (Addr×Obj)) (s:Shared) (σ:St) (H:Hp) (σd:SD) (h:HD) (R:Str→HD→Prop) (I:Inv X pins σ H s) (rs:RelS X.K H σd σ) (rh:RelH X.K h H) (ht:u σd h R) (w:WX X E H R):
 wpAny (model X.prog X.w) X.A (spliced (backTo pos (starEach (e::es) X.env))) (fun _ _=>False) X.xe s:=by
 rw [hs]
 show wpAny _ _ (spliced ((false,eval e X.env)::backTo pos (starEach es X.env))) _ _ s
 exact G3f (G0H (he.to E Z pins s σ H σd h R I rs rh ht w) (fun _ _ z=>z.elim) fun _ _ z=>z)
theorem jnW {x:Str} {id:String} (hg:Gl X x) (hm:X.mg x=none) (hv:bootBuiltins x=some (.builtin id)) (ha:JXE X e u) (hn:x≠ "__name__" :=by decide) (hdb:(x==("__debug__" :Str))=false:=by decide)
 (he:starEach (e::es) X.env=(false,eval e X.env)::starEach es X.env:=by rfl) (hpl:(backTo pos (starEach es X.env)).any (·.1)=false:=by rfl):JXE X (.Call (.Name x p) (e::es) [] pos) u:=⟨fun E Z pins s σ H σd h R I rs rh ht w=>
 G2b (jef I hg hm hv (G3A (G0H (jkk ha he E Z pins s σ H σd h R I rs rh ht w) (fun _ _ z=>z.elim) fun _ _ z=>z) he hpl) hn hdb)⟩
end
end L2
namespace L2
open PySem PySem.Spec PyProof.Rows
def TrV (K:PySem.W.Frag) (H:Hp):V→Bool→Prop
 | .bl b,c=>c=b
 | .int i,c=>c=(i !=0)
 | .non,c=>c=false
 | .ref a,c=> ∃xs,SqL K H a xs∧c= !xs.isEmpty
 |_,_=>False
def TrD (h:HD):D→Bool→Prop
 | .bl b,c=>c=b
 | .int i,c=>c=(i !=0)
 | .non,c=>c=false
 | .lst a,c=> ∃ds,h a=some ds∧c= !ds.isEmpty
 |_,_=>False
theorem TrD.to {K:PySem.W.Frag} {H:Hp} {h:HD} {d:D} {v:V} {c:Bool} (t:TrD h d c) (r:RelD K H d v) (rh:RelH K h H):TrV K H v c:=by
 cases d<;>try exact t.elim
 ·have e:v= .non:=r;subst e;exact t
 ·have e:v= .bl _:=r;subst e;exact t
 ·have e:v= .int _:=r;subst e;exact t
 ·obtain⟨e,_⟩:=r
  subst e
  obtain⟨ds,hd,e⟩:=t
  obtain⟨vs,hv,r'⟩:=rh _ ds hd
  refine⟨vs,SqL.of hv,?_⟩
  rw [e]
  have:=r'.length
  cases ds<;>cases vs<;>first|rfl|(simp at this)
section
variable {X:Cx} {pins:List (Addr×Obj)} {σ:St} {H:Hp} {s:Shared} {E:Value→Shared→Prop}
theorem Inv.trv {v:V} {u:Value} {c:Bool} {Q:Bool→Shared→Prop} (I:Inv X pins σ H s) (r:RelV v u) (t:TrV X.K H v c) (q: ∀s',Inv X pins σ H s' →Q c s'):wpAny (model X.prog X.w) X.A (truthy u) Q E s:=by
 cases v<;>try exact t.elim
 ·have e:u=Value.none:=r;subst e;have e:c=false:=t;subst e;exact truthy_none (q _ I)
 ·have e:u=Value.bool _:=r;subst e;have e:c=_:=t;subst e;exact G1O (q _ I)
 ·obtain⟨t',e⟩:=r;subst e;have e:c=_:=t;subst e;exact truthy_int (q _ I)
 ·have e:u=Value.ref _:=r
  subst e
  obtain⟨xs,hx,e⟩:=t
  obtain⟨its,rv,p,hz⟩:=I.list hx
  have hl:=rv.length
  have e2:c= !its.toArray.isEmpty:=by
   rw [e]
   cases xs<;>cases its<;>first|rfl|(simp at hl)
  refine wpAny_truthy_list p.isList ?_ ?_
  ·have:xs.length≤16777216:=G0C hz (by decide)
   simp only [G0w]
   have e3:((2:Int)^63)=9223372036854775808:=by decide
   rw [e3];omega
  ·rw [←e2];exact q _ (I.tok _)
end
section
variable {X:Cx} {a b:Expr} {rest:List Expr} {pos:Pos}
def jsw (K:PySem.W.Frag) (t:TE):TT:=fun σ H Q=>t σ H fun x H1=> ∃c,TrV K H1 x c∧Q c H1
theorem jqs {e:Expr} {t:TE} (h:PE X e t) (he: ∀whole,isTrue e X.env whole=(do let v ←whole;standAt e.pos;holding [v] (truthy v)):=by intro _;rfl):PT X e (jsw X.K t):=by
 intro pins s σ H Q I hw
 refine isTrue_plain (thn (h pins s σ H _ I hw) fun v s1 ⟨x,H1,I1,r1,q1⟩=> ?_) (he _)
 obtain⟨c,t1,q⟩:=q1
 exact I1.trv r1 t1 fun s' I' =>⟨H1,I',q⟩
def jsx (t:TED):TTD:=fun σ h Q=>t σ h fun x h1=> ∃c,TrD h1 x c∧Q c h1
variable {K:PySem.W.Frag}
theorem jqt {t:TED}: ∀σ H Q,LT K (jsx t) σ H Q→jsw K (LE K t) σ H Q:=fun σ H Q ⟨σd,h,Qd,rs,rh,t,p⟩=>
 LE.bind rs rh t fun d v h1 H1 k1 rs1 rh1 r1 ⟨k,e,q⟩=>⟨k,e.to r1 rh1,p k h1 H1 k1 rh1 q⟩
theorem jr1 {ta:TED} (ha:JE X a ta) (he: ∀whole,isTrue a X.env whole=(do let v ←whole;standAt a.pos;holding [v] (truthy v)):=by intro _;rfl):JT X a (jsx ta):=⟨(jqs ha.to he).imp jqt⟩
end
end L2
namespace L2
open PySem PySem.Spec PyProof.Rows PySem.SeqAt
structure GQ (n:Nat) (h0 h:HD) (p R:Addr) (rs:List Addr) (f:Nat→Nat→Int):Prop where
 at_:h R=some (rs.map D.lst)
 len:rs.length=n
 nR:R ∉ rs
 nd:rs.Nodup
 fR:h0 R=none
 np:p ∉ rs
 Rp:R≠p
 row: ∀i a,rs[i]? =some a→h0 a=none∧h a=some ((List.range n).map fun j=>D.int (f i j))
 nn: ∀i j,0≤f i j∧f i j≤1000000
end L2
namespace HT
open PySem PySem.Spec PyProof.Rows
theorem jf6 {xs:Array Nat} {j:Nat} (r:xs.toList.Pairwise (· < ·)): ∀ (fuel lo hi:Nat),hi-lo≤fuel→hi≤xs.size→lo≤hi→(∀i,i<lo→ ∀v,xs[i]? =some v→v<j)→(∀i,hi≤i→ ∀v,xs[i]? =some v→j≤v)→
 (∀i,i<SetTable.below.go xs j fuel lo hi→ ∀v,xs[i]? =some v→v<j)∧(∀i,SetTable.below.go xs j fuel lo hi≤i→ ∀v,xs[i]? =some v→j≤v)∧SetTable.below.go xs j fuel lo hi≤xs.size
 |0,lo,hi,f,hs,lh,a,b=>by
  have:lo=hi:=by omega
  subst this
  exact⟨a,b,hs⟩
 |fuel+1,lo,hi,f,hs,lh,a,b=>by
  unfold SetTable.below.go
  by_cases c:lo<hi
  ·rw [if_pos c]
   have hm:(lo+hi) / 2<xs.size:=by omega
   have mono: ∀ (i k u v:Nat),i≤k→xs[i]? =some u→xs[k]? =some v→u≤v:=fun i k u v ik e1 e2=>by
    rcases G12 i k with z|z
    ·have i1:=(G1A.mp e1)
     have i2:=(G1A.mp e2)
     obtain⟨h1,e1'⟩:=i1
     obtain⟨h2,e2'⟩:=i2
     have:=G1k.mp r i k (by simpa using h1) (by simpa using h2) z
     simp only [G22] at this
     omega
    ·have:i=k:=by omega
     subst this;rw [e1] at e2;cases e2;exact G0f _
   have em:xs.getD ((lo+hi) / 2) j=xs[(lo+hi) / 2]:=by simp [Array.getD,hm]
   dsimp only
   by_cases d:xs.getD ((lo+hi) / 2) j<j
   ·rw [if_pos d]
    refine jf6 r fuel _ hi (by omega) hs (by omega) (fun i hi' v hv=> ?_) b
    have:=mono i ((lo+hi) / 2) v xs[(lo+hi) / 2] (by omega) hv (by simp [hm])
    omega
   ·rw [if_neg d]
    refine jf6 r fuel lo _ (by omega) (by omega) (by omega) a (fun i hi' v hv=> ?_)
    have:=mono ((lo+hi) / 2) i xs[(lo+hi) / 2] v hi' (by simp [hm]) hv
    omega
  ·rw [if_neg c]
   have:lo=hi:=by omega
   subst this
   exact⟨a,b,hs⟩
theorem jdp {xs:Array Nat} (r:xs.toList.Pairwise (· < ·)) (j:Nat):(∀i,i<SetTable.below xs j→ ∀v,xs[i]? =some v→v<j)∧(∀i,SetTable.below xs j≤i→ ∀v,xs[i]? =some v→j≤v)∧SetTable.below xs j≤xs.size:=
 jf6 r xs.size 0 xs.size (by omega) (G0f _) (G06 _) (fun i h=>absurd h (G2G _)) (fun i h v e=>by rw [G4r h] at e;cases e)
theorem jeG {xs:Array Nat} {j:Nat} (r:xs.toList.Pairwise (· < ·)) (no:xs[SetTable.below xs j]? ≠some j):(SetTable.insertAt xs (SetTable.below xs j) j).toList.Pairwise (· < ·):=by
 obtain⟨a,b,hs⟩:=jdp r j
 rw [G3b,G0V,G1S]
 have low: ∀v∈xs.toList.take (SetTable.below xs j),v<j:=fun v hv=>by
  obtain⟨i,hi⟩:=G2i hv
  rw [List.getElem?_take] at hi
  split at hi
  ·rename_i c;exact a i c v (by simpa using hi)
  ·cases hi
 have high: ∀v∈xs.toList.drop (SetTable.below xs j),j<v:=fun v hv=>by
  obtain⟨i,hi⟩:=G2i hv
  rw [G1p] at hi
  have hi' :xs[SetTable.below xs j+i]? =some v:=by simpa using hi
  have le:=b _ (Nat.le_add_right _ _) v hi'
  rcases G12 j v with z|z
  ·exact z
  ·have ev:v=j:=by omega
   subst ev
   cases i with
   |zero=>exact(no hi').elim
   |succ i=>
    obtain⟨h1,e1⟩:=G1A.mp hi'
    have h0:SetTable.below xs v<xs.size:=by omega
    have le0:=b _ (G0f _) xs[SetTable.below xs v] (by simp [h0])
    have lt:=G1k.mp r (SetTable.below xs v) (SetTable.below xs v+(i+1)) (by simpa using h0) (by simpa using h1) (by omega)
    simp only [G22] at lt
    omega
 exact⟨r.sublist (G14 _ _),⟨high,r.sublist (G1X _ _)⟩,fun u hu v hv=>by
  rcases G0n.mp hv with e|e
  ·rw [e];exact low u hu
  ·exact G29 (low u hu) (high v e)⟩
structure Tab (L:Bool) (n:Nat) (t:SetTable):Prop where
 fits:t.fits n=true
 led:t.led=L
 dum:t.dummies= #[]
 rise:t.plain=true∨n≤1→t.place.toList.Pairwise (· < ·)
theorem jlK {xs:List Nat} (h:xs.length≤1):xs.Pairwise (· < ·):=by
 match xs,h with
 | [],_=>exact .nil
 | [x],_=>exact G09 _ _
theorem jfx {t:SetTable} {n:Nat} (h:t.fits n=true):t.place.size=n:=by
 simp only [SetTable.fits,G0Z,G28] at h;exact h.1
theorem Tab.mk' {L:Bool} {n:Nat} {t:SetTable} (f:t.fits n=true) (l:t.led=L) (d:t.dummies= #[]) (r:t.plain=true→t.place.toList.Pairwise (· < ·)):Tab L n t:=
 ⟨f,l,d,fun h=>h.elim r fun z=>jlK (by have:=jfx f;simpa [this] using z)⟩
theorem jfy {t:SetTable} {j:Nat} (h:t.slot j= .empty):t.place[SetTable.below t.place j]? ≠some j:=fun e=>by
 unfold SetTable.slot at h
 dsimp only at h
 rw [if_pos (by rw [e];exact G2d _)] at h
 cases h
theorem jdK {t:SetTable} {j:Nat} (d:t.dummies= #[]):t.slot j≠ .dummy:=fun h=>by
 unfold SetTable.slot at h
 dsimp only at h
 split at h
 ·cases h
 ·rw [d] at h
  have:SetTable.has #[] j=false:=by unfold SetTable.has;simp
  rw [this] at h
  cases h
theorem jeH {t:SetTable} {f:Nat→Int} {h:Int} (d:t.dummies= #[]): ∀ (fuel:Nat) (p:SetTable.Probe) {j:Nat} {dm:Option Nat},p.dummy=none→SetTable.probe.go t f h fuel p=some (.empty j dm)→t.slot j= .empty∧dm=none
 |0,p,j,dm,_,e=>by cases e
 |fuel+1,p,j,dm,hp,e=>by
  unfold SetTable.probe.go at e
  have adv:(t.advance p).dummy=none:=by
   unfold SetTable.advance
   split
   ·exact hp
   ·exact hp
  split at e
  ·rename_i hs;injection e with e;injection e with e1 e2;subst e1;exact⟨hs,by rw [←e2];exact hp⟩
  ·rename_i hs;exact(jdK d hs).elim
  ·split at e
   ·cases e
   ·exact jeH d fuel _ adv e
theorem jiW {L:Bool} {t:SetTable} {es:Array (Int×Value)} (T:Tab L es.size t) (h:Int) (x:Value):Tab L (layNew t es h x).1.size (layNew t es h x).2.1:=by
 have fit:=layNew_fits t es h x
 revert fit
 unfold layNew
 cases e:t.freeSlot h with
 |none=>intro fit;exact .mk' fit T.led rfl fun z=>by cases z
 |some q=>
  obtain⟨slot,wd⟩:=q
  intro fit
  have ne:t.place[SetTable.below t.place slot]? ≠some slot:=by
   unfold SetTable.freeSlot at e
   split at e
   ·rename_i j dm hp
    obtain⟨he,hd⟩:=jeH T.dum _ _ rfl hp
    injection e with e;injection e with e1 e2
    subst hd
    rw [←e1];exact jfy he
   ·cases e
  refine .mk' fit ?_ ?_ ?_
  ·show (SetTable.orStandIn _ _).led=L
   unfold SetTable.orStandIn
   split
   ·exact T.led
   ·exact T.led
  ·show (SetTable.orStandIn _ _).dummies= #[]
   unfold SetTable.orStandIn
   split
   ·show (if SetTable.has t.dummies slot then _ else t.dummies)= #[]
    rw [T.dum]
    have:SetTable.has #[] slot=false:=by unfold SetTable.has;simp
    rw [this];rfl
   ·rfl
  ·show (SetTable.orStandIn _ _).plain=true→(SetTable.orStandIn _ _).place.toList.Pairwise (· < ·)
   unfold SetTable.orStandIn
   split
   ·intro z;exact jeG (T.rise (.inl z)) ne
   ·intro z;cases z
theorem jd8 (f:Nat→Option Nat): ∀l:List Nat,((l.filterMap fun j=>(f j).map (j,·)).map (·.1)).Sublist l
 | []=> .slnil
 |j::l=>by
  rw [G3O]
  cases e:(f j).map (j,·) with
  |none=>exact(jd8 f l).cons _
  |some q=>
   obtain⟨v,_,rfl⟩:=G1I.mp e
   exact(jd8 f l).cons₂ _
theorem jgW {L:Bool} {t:SetTable} {es:Array (Int×Value)} (T:Tab L es.size t) (wanted:Nat):Tab L (relayAll t es wanted).1.size (relayAll t es wanted).2.1:=by
 have fit:=relayAll_fits t es wanted
 revert fit
 unfold relayAll
 cases e:t.relaid (es.map (·.1)) wanted with
 |none=>intro fit;exact .mk' fit T.led rfl fun z=>by cases z
 |some q=>
  obtain⟨t',order⟩:=q
  dsimp only
  split
  ·intro fit
   unfold SetTable.relaid SetTable.laid at e
   cases ho:SetTable.layClean (SetTable.sizeAbove wanted-1) (es.map (·.1)) with
   |none=>rw [ho] at e;cases e
   |some owner=>
    rw [ho] at e
    injection e with e;injection e with e1 e2
    subst e1
    refine .mk' fit T.led rfl fun _=> ?_
    show List.Pairwise (· < ·) (List.map _ _).toArray.toList
    rw [List.toList_toArray]
    exact List.pairwise_lt_range.sublist (jd8 (fun j=>owner.getD j none) _)
  ·intro fit;exact .mk' fit T.led rfl fun z=>by cases z
abbrev jbA (es:Array (Int×Value)) (ep:Nat) (t:SetTable):Obj:= {cls:= .type "set",dict:=none,data:= .set es ep t,slots:= #[]}
def jlL (e:Int×Value):Int:=match e.2 with
 | .int n _=>n
 |_=>0
structure SetI (L:Bool) (es:Array (Int×Value)) (t:SetTable) (ns:List Int):Prop where
 tab:Tab L es.size t
 nums: ∀e∈es.toList,∃n tk,e=(hashInt n,.int n tk)
 nd:(es.toList.map jlL).Nodup
 mem: ∀n,n∈es.toList.map jlL↔n∈ns
theorem jd9: ∀ {xs ys:List Int},xs.Nodup→(∀x∈xs,x∈ys)→xs.length≤ys.length
 | [],_,_,_=>G06 _
 |x::xs,ys,nd,h=>by
  have hx:=h x (.head _)
  obtain⟨n1,n2⟩:=G1M.mp nd
  have:=jd9 (ys:=ys.erase x) n2 fun y hy=>(G2x (fun (e:y=x)=>n1 (by rw [←e];exact hy))).mpr (h y (.tail _ hy))
  rw [G2c hx] at this
  have:=G2p hx
  rw [G0h]
  omega
theorem SetI.size {L:Bool} {es:Array (Int×Value)} {t:SetTable} {ns:List Int} (S:SetI L es t ns):es.size≤ns.length:=by
 have h:=jd9 S.nd fun n hn=>(S.mem n).mp hn
 simpa using h
theorem SetI.els {L:Bool} {es:Array (Int×Value)} {t:SetTable} {ns:List Int} (S:SetI L es t ns) (prog:Program) (w:World):ElemsOf (intKind prog w) es.toList:=fun e he=>by
 obtain⟨n,tk,rfl⟩:=S.nums e he
 exact⟨⟨n,by simp [intKind,Value.isInt],rfl⟩,rfl⟩
theorem SetI.perm {L:Bool} {es es' :Array (Int×Value)} {t t' :SetTable} {ns:List Int} (S:SetI L es t ns) (p:es'.toList.Perm es.toList) (T:Tab L es'.size t'):SetI L es' t' ns:=
 ⟨T,fun e he=>S.nums e (p.mem_iff.mp he),(p.map jlL).nodup_iff.mpr S.nd,fun n=>((p.map jlL).mem_iff).trans (S.mem n)⟩
theorem SetI.push {L:Bool} {es es' :Array (Int×Value)} {t t' :SetTable} {ns:List Int} {n:Int} {tk:Tok} (S:SetI L es t ns) (hn:n ∉ ns) (p:es'.toList.Perm (es.push (hashInt n,.int n tk)).toList) (T:Tab L es'.size t'):SetI L es' t' (n::ns):=by
 have pk:=p.map jlL
 rw [G1F,G0S] at pk
 refine⟨T,fun e he=> ?_,pk.nodup_iff.mpr ?_,fun m=>(pk.mem_iff).trans ?_⟩
 ·have:=p.mem_iff.mp he
  rw [G1F] at this
  rcases G0u.mp this with z|z
  ·exact S.nums e z
  ·exact⟨n,tk,G0g.mp z⟩
 ·rw [G3w]
  refine⟨S.nd,by simp,fun x hx y hy e=> ?_⟩
  have:y=n:=by simpa [jlL] using hy
  subst this;subst e
  exact hn ((S.mem _).mp hx)
 ·rw [G0u,S.mem m]
  simp [jlL,or_comm]
section
variable {prog:Program} {w:World} {A:Around} {E:Value→Shared→Prop} {s:Shared} {a:Addr} {L:Bool} {es:Array (Int×Value)} {ep:Nat} {t:SetTable} {ns:List Int} {n:Int} {tk:Tok}
set_option maxHeartbeats 4000000 in
theorem jkl {Q:Bool→Shared→Prop} (S:SetI L es t ns) (ho:s.heap.get? a=some (jbA es ep t)) (few:ns.length<1000)
 (k: ∀b es' ep' t' h',SetI L es' t' (n::ns)→h'.get? a=some (jbA es' ep' t')→Heap.SameBut a s.heap h' →Q b {s with heap:=h',toks:=s.toks+1}):wpAny (model prog w) A (setAdd a (.int n tk)) Q E s:=by
 have sz:=S.size
 have is:(intKind prog w).is n (.int n tk)=true:=by simp [intKind,Value.isInt]
 have scan:byScan (.int n tk) es=true:=byScan_of (knd:=intKind prog w) rfl (G1Z sz (G29 few (by decide))) (S.els prog w)
 refine G1g (wpAny_bind (wpAny_pyHash_int (G1g ?_)))
 show wpAny _ _ (setAddHashedIn a (.int n tk) (hashInt n) (99999+1)) _ _ _
 unfold setAddHashedIn
 refine wpAny_bind (G1m (s:= {s with toks:=s.toks+1}) ho rfl S.tab.fits ?_)
 dsimp only
 rw [if_pos scan]
 refine wpAny_bind ?_
 unfold setAddByScan
 refine wpAny_bind (G3L (wpAny_bind (wpAny_setScan_of (s:= {s with toks:=s.toks+1}) (knd:=intKind prog w) is ho rfl S.tab.fits (S.els prog w) ?_)))
 have none_iff:es.toList.findIdx? (fun e=>(intKind prog w).is n e.2)=none↔n ∉ ns:=by
  rw [List.findIdx?_eq_none_iff,←S.mem n]
  constructor
  ·intro z hn
   obtain⟨e,he,ek⟩:=G0N.mp hn
   obtain⟨m,tk',rfl⟩:=S.nums e he
   have:m=n:=ek
   subst this
   have:=z _ he
   simp [intKind,Value.isInt] at this
  ·intro z e he
   obtain⟨m,tk',rfl⟩:=S.nums e he
   have:m≠n:=fun q=>z (G0N.mpr ⟨_,he,q⟩)
   simp [intKind,Value.isInt,this]
 cases hf:es.toList.findIdx? (fun e=>(intKind prog w).is n e.2) with
 |some j=>
  have hin:n∈ns:=G2t fun z=>by rw [none_iff.mpr z] at hf;cases hf
  refine G0e (G0e (k false es ep t s.heap ⟨S.tab,S.nums,S.nd,fun m=>(S.mem m).trans ?_⟩ ho (G2E _ _)))
  constructor
  ·exact fun z=> .tail _ z
  ·intro z
   rcases G0n.mp z with e|e
   ·rw [e];exact hin
   ·exact e
 |none=>
  have hn:=none_iff.mp hf
  have p1:=layNew_perm t es (hashInt n) (.int n tk)
  have T1:=jiW S.tab (hashInt n) (.int n tk)
  cases hl:layNew t es (hashInt n) (.int n tk) with
  |mk es1 r1=>
   obtain⟨t1,wd,gave⟩:=r1
   rw [hl] at p1 T1
   have S1:=S.push hn p1 T1
   have z1:es1.size≤sizeLine:=G0C S1.size (G0C (show (n::ns).length≤1000 by simp;omega) (by decide))
   have hb:hashByValue 8 (.int n tk)=pure true:=rfl
   have put:=fun {P:Unit→Shared→Prop} {E' :Value→Shared→Prop} (k' : ∀h',h'.get? a=some (jbA es1 (ep+1) t1)→Heap.SameBut a s.heap h' →P () {s with heap:=h',toks:=s.toks+1})=>
    G4b (prog:=prog) (w:=w) (A:=A) (E:=E') (s:= {s with toks:=s.toks+1}) (es' :=es1) (t' :=t1) ho rfl (k' _ (G02 _ ho rfl) (G08 ..)) z1
   have p2:=relayAll_perm t1 es1 (SetTable.grown es1.size)
   have T2:=jgW (es:=es1) S1.tab (SetTable.grown es1.size)
   cases hr:relayAll t1 es1 (SetTable.grown es1.size) with
   |mk es2 r2=>
    obtain⟨t2,gave2⟩:=r2
    rw [hr] at p2 T2
    have S2:=S1.perm p2 T2
    have z2:es2.size≤sizeLine:=G0C S2.size (G0C (show (n::ns).length≤1000 by simp;omega) (by decide))
    have e1:(s.heap.update a (Obj.putSet es1 t1)).get? a=some (jbA es1 (ep+1) t1):=G02 _ ho rfl
    have same1:Heap.SameBut a s.heap (s.heap.update a (Obj.putSet es1 t1)):=G08 ..
    have ho' :({s with toks:=s.toks+1}:Shared).heap.get? a=some (jbA es ep t):=ho
    have big:(es1.size>sizeLine)=False:=eq_false (G2r.mpr z1)
    have big2:(es2.size>sizeLine)=False:=eq_false (G2r.mpr z2)
    cases gave<;>cases hp:t1.plain<;>wp_walk
    all_goals
     simp only [↓reduceIte,hr]
     cases hc:(!wd&&t1.tooFull) with
     |false=>exact G0e (G0e (k true es1 (ep+1) t1 _ S1 e1 same1))
     |true=>
      have e2:((s.heap.update a (Obj.putSet es1 t1)).update a (Obj.putSet es2 t2)).get? a=some (jbA es2 (ep+1+1) t2):=G02 _ e1 rfl
      have same2:Heap.SameBut a s.heap ((s.heap.update a (Obj.putSet es1 t1)).update a (Obj.putSet es2 t2)):=same1.trans (G08 ..)
      have fin:=k true es2 (ep+1+1) t2 _ S2 e2 same2
      simp only [↓reduceIte]
      cases gave2<;>wp_walk
      all_goals exact fin
end
theorem jcg:plainId "set.update.loop" =true:=by decide +kernel
theorem jdq:entryFor table "set.update.loop" =some Builtin.«set.update.loop» :=entryFor_of_fast (by kernel_rfl)
section
variable {prog:Program} {w:World} {A:Around} {E:Value→Shared→Prop} {a I:Addr} {L:Bool} {fp wr:List Addr} {n:Nat} {P:Nat→Value→Prop} {St:Nat→Heap→Prop} {f:Nat→Int}
theorem jdL {R:Result→Shared→Prop} (W:Walks prog w A.in1 I fp wr n P St) (num: ∀i v,P i v→ ∃tk,v= .int (f i) tk) (na:a ∉ fp) (few:n<1000):
 ∀ (k i:Nat) (s:Shared) (es:Array (Int×Value)) (ep:Nat) (t:SetTable),i+k=n→St i s.heap→s.heap.get? a=some (jbA es ep t)→SetI L es t ((List.range i).map f).reverse→
  (∀h' tk es' ep' t',h'.get? a=some (jbA es' ep' t')→SetI L es' t' ((List.range n).map f).reverse→(∀b o,b≠a→b ∉ wr→s.heap.get? b=some o→h'.get? b=some o)→R (.ok (.ret .none)) {s with heap:=h',toks:=tk})→
  codeAny (model prog w) A (.builtin "set.update.loop" ⟨[.ref a,.ref I],[]⟩) R s
 |0,i,s,es,ep,t,hk,st,ha,S,q=>by
  have e:i=n:=by omega
  subst e
  refine G2l jdq ?_
  rw [G2y jcg]
  refine wpAny_bind (W.done s _ _ st fun h' tk kept=>G0e ?_)
  exact q h' tk es ep t (kept _ _ (fun z=>na (W.sub _ z)) ha) S fun b o _ nb e=>kept b o nb e
 |k+1,i,s,es,ep,t,hk,st,ha,S,q=>by
  refine G2l jdq ?_
  rw [G2y jcg]
  refine wpAny_bind (W.item i s _ _ (by omega) st fun v h1 tk1 pv st1 kept1=> ?_)
  obtain⟨tk,rfl⟩:=num i v pv
  have ha1:=kept1 _ _ (fun z=>na (W.sub _ z)) ha
  refine wpAny_bind (G1g (jkl (s:= {s with heap:=h1,toks:=tk1}) S ha1 (by simp;omega) fun b es2 ep2 t2 h2 S2 ha2 same2=>G0e ⟨G4i jcg _,?_⟩))
  have S3:SetI L es2 t2 ((List.range (i+1)).map f).reverse:=by
   rw [G1D,G0S,List.reverse_append];exact S2
  refine jdL W num na few k (i+1) {s with heap:=h2,toks:=tk1+1} es2 ep2 t2 (by omega) (W.frame _ _ _ st1 fun b hb o e=>same2.extBut _ _ (fun z=>na (z ▸ hb)) e) ha2 S3 fun h' tk' es' ep' t' ha' S' kept' => ?_
  exact q h' tk' es' ep' t' ha' S' fun b o ba bw e=>kept' b o ba bw (same2.extBut _ _ ba (kept1 b o bw e))
end
theorem jc4:entryFor table "set.__init__" =some Builtin.«set.__init__» :=entryFor_of_fast (by kernel_rfl)
abbrev ja8 (w:World):Bool:= !(w.params.followText "set-order")
theorem jea (L:Bool):SetI L #[] (.fresh 0 0 L) []:=⟨⟨rfl,rfl,rfl,fun _=> .nil⟩,fun e he=>by simp at he,by simp,fun n=>by simp⟩
theorem jda:isSubtype (.type "set") (.type "set")=pure true:=by rw [G2N];kernel_rfl
theorem jdY:isSubtype (.type "list") (.type "set")=pure false:=by rw [G2N];kernel_rfl
theorem jdZ:isSubtype (.type "list") (.type "frozenset")=pure false:=by rw [G2N];kernel_rfl
theorem jhC:isSubtype (.type "tuple") (.type "set")=pure false:=by rw [G2N];kernel_rfl
theorem jhD:isSubtype (.type "tuple") (.type "frozenset")=pure false:=by rw [G2N];kernel_rfl
section
variable {prog:Program} {w:World} {A:Around} {E:Value→Shared→Prop} {s:Shared}
theorem jia {x:Value} {P:PySem.Fin→Shared→Prop} (h:P (.done (.ret (.ref s.heap.objs.size))) {s with heap:=s.heap.push (jbA #[] 0 (.fresh 0 0 (ja8 w)))}):
 wpAny (model prog w) A (Builtin.«set.__new__» ⟨[.type "set",x],[]⟩) P E s:=by
 have fine:=jda
 obtain⟨hp,g,d,tk,os⟩:=s
 have told: ∀ {Q:Setting→Shared→Prop} {E' :Value→Shared→Prop} {A' :Around} {s' :Shared},Q ⟨prog,w.params⟩ s' →wpAny (model prog w) A' ask Q E' s' :=fun q=>G2L q
 wp_walk using told
 exact h
theorem jdr {M:Model} {o x:Value} {Q:Unit→Shared→Prop} (ty:s.TypeIs o "set") (q:Q () s):wpAny M A (checkBuiltinCall "set.__init__" ⟨[o,x],[]⟩) Q E s:=by
 have fine:=jda
 unfold checkBuiltinCall
 rw [kind_set_init,split_set_init,sig_set_init]
 wp_walk using PyProof.Rows.printed_name (n:= "set") (by decide),PyProof.Rows.printed_star (self:=o) rfl ty
 exact q
theorem jkm {l a:Addr} {vs:List Value} {ns:List Int} {T:String} {ep:Nat} {Q:Option Value→Shared→Prop} (calm:A.handled=none) (hT:T= "list" ∨T= "tuple")
 (hl: ∃o,s.heap.get? l=some o∧o.cls= .type T∧ ∃c,o.data= .seq vs.toArray c) (hI:IntsAre vs ns) (few:ns.length<1000) (ha:s.heap.get? a=some (jbA #[] ep (.fresh 0 0 (ja8 w)))) (la:l≠a)
 (k: ∀h' tk es' ep' t',h'.get? a=some (jbA es' ep' t')→SetI (ja8 w) es' t' ns.reverse→(∀b o,b≠a→s.heap.get? b=some o→h'.get? b=some o)→Q (some .none) {s with heap:=h',toks:=tk}):
 wpAny (model prog w) A (callSpecial? (.ref a) "__init__" [.ref l]) Q E s:=by
 have ty:s.TypeIs (.ref a) "set" :=⟨_,ha,rfl⟩
 refine G1P ty F.called_set.init (G2M (G2h F.called_set.init.plain jc4 (jdr ty ?_)))
 have f1:=jdY
 have f2:=jdZ
 have f3:=jhC
 have f4:=jhD
 obtain⟨⟨oc,od,odt,osl⟩,hol,hc,c,hd⟩:=hl
 simp only at hc hd
 subst hc hd
 have state:=fun {P:Array (Int×Value)×Nat×SetTable→Shared→Prop} {E' :Value→Shared→Prop} {A' :Around}=>G1m (prog:=prog) (w:=w) (A:=A') (E:=E') (Q:=P) (s:=s) ha rfl (jea (ja8 w)).tab.fits
 have pick: ∀ (i:Nat) (v:Value),vs.toArray[i]? =some v→ ∃tk,v=Value.int (ns.getD i 0) tk:=fun i v hv=>(L2.jcK hI (by simpa using hv)).imp fun _ z=>z.1
 have len:vs.toArray.size=ns.length:=by rw [G0w,hI.length]
 have rng:(List.range ns.length).map (fun i=>ns.getD i 0)=ns:=by
  refine G2H fun i=> ?_
  rw [G0o]
  by_cases hi:i<ns.length
  ·rw [G1U hi,G0c hi];simp [hi]
  ·rw [G1j (by simpa using hi),G1j (by simpa using hi)];rfl
 have far:a≠s.heap.objs.size:=fun z=>G0W _ (z ▸ G0l ha)
 have lfar:l≠s.heap.objs.size:=fun z=>G0W _ (z ▸ G0l hol)
 have na:a ∉ [s.heap.objs.size,l]:=by simp [far,la.symm]
 have fin: ∀ {o:Obj} h' tk es' ep' t',h'.get? a=some (jbA es' ep' t')→SetI (ja8 w) es' t' ((List.range vs.toArray.size).map fun i=>ns.getD i 0).reverse→(∀b ob,b≠a→b ∉ [s.heap.objs.size]→(s.heap.push o).get? b=some ob→h'.get? b=some ob)→Q (some .none) {s with heap:=h',toks:=tk}:=fun h' tk es' ep' t' e S kept=>by
  rw [len,rng] at S
  exact k h' tk es' ep' t' e S fun b ob nb q=>kept b ob nb (fun z=>G0W _ (G0g.mp z ▸ G0l q)) (G0b _ q)
 rcases hT with rfl|rfl
 ·have tl:s.TypeIs (.ref l) "list" :=⟨_,hol,rfl⟩
  have isl:s.heap.IsList l vs.toArray:=⟨_,hol,rfl,c,rfl⟩
  wp_walk using state,G2C isl
  have W:=Walks.list (prog:=prog) (w:=w) (A:=A.in1.in1) calm s.heap.objs.size l lfar vs.toArray
  refine jdL W pick na (by rw [len];exact few) vs.toArray.size 0 _ #[] ep _ (G1W _) ⟨⟨_,G0x _ rfl,rfl,rfl⟩,⟨_,G0b _ hol,rfl,c,rfl⟩⟩ (G0b _ ha) (jea _) fun h' tk es' ep' t' e S kept=> ?_
  exact G0e (G0e (fin h' tk es' ep' t' e S kept))
 ·have tl:s.TypeIs (.ref l) "tuple" :=⟨_,hol,rfl⟩
  have isl:s.heap.IsTuple l vs.toArray:=⟨_,hol,rfl,c,rfl⟩
  wp_walk using state,G2R isl
  have W:=Walks.tuple (prog:=prog) (w:=w) (A:=A.in1.in1) calm s.heap.objs.size l lfar vs.toArray
  refine jdL W pick na (by rw [len];exact few) vs.toArray.size 0 _ #[] ep _ (G1W _) ⟨⟨_,G0x _ rfl,rfl,rfl⟩,⟨_,G0b _ hol,rfl,c,rfl⟩⟩ (G0b _ ha) (jea _) fun h' tk es' ep' t' e S kept=> ?_
  exact G0e (G0e (fin h' tk es' ep' t' e S kept))
theorem jib {l:Addr} {vs:List Value} {ns:List Int} {T:String} {Q:Value→Shared→Prop} (calm:A.handled=none) (hT:T= "list" ∨T= "tuple")
 (hl: ∃o,s.heap.get? l=some o∧o.cls= .type T∧ ∃c,o.data= .seq vs.toArray c) (hI:IntsAre vs ns) (few:ns.length<1000)
 (k: ∀h' tk es' ep' t',h'.get? s.heap.objs.size=some (jbA es' ep' t')→SetI (ja8 w) es' t' ns.reverse→(∀b o,s.heap.get? b=some o→h'.get? b=some o)→Q (.ref s.heap.objs.size) {s with heap:=h',toks:=tk}):
 wpAny (model prog w) A (call (.type "set") [.ref l]) Q E s:=by
 have fits:checkTypeCall "set" ⟨[.ref l],[]⟩=pure ():=by kernel_rfl
 have newFits:checkBuiltinCall "set.__new__" ⟨[.type "set",.ref l],[]⟩=pure ():=by kernel_rfl
 obtain⟨o,hol,r⟩:=hl
 refine L2.jeD (Made:=fun v s₁=>v= .ref s.heap.objs.size∧s₁= {s with heap:=s.heap.push (jbA #[] 0 (.fresh 0 0 (ja8 w)))}) F.called_set fits
  (G2M (G2h F.called_set.plain F.entry_set_new (wpAny_of_eq newFits (jia ⟨rfl,rfl⟩)))) fun v s₁ ⟨ev,es⟩=> ?_
 subst ev es
 have at_:(s.heap.push (jbA #[] 0 (.fresh 0 0 (ja8 w)))).get? s.heap.objs.size=some (jbA #[] 0 (.fresh 0 0 (ja8 w))):=G0x _ rfl
 refine⟨⟨_,at_,rfl⟩,jkm (s:= {s with heap:=s.heap.push (jbA #[] 0 (.fresh 0 0 (ja8 w)))}) calm hT ⟨o,G0b _ hol,r⟩ hI few at_ (fun z=>G0W _ (z ▸ G0l hol)) fun h' tk es' ep' t' e S kept=>⟨rfl,k h' tk es' ep' t' e S fun b ob q=>kept b ob (fun z=>G0W _ (z ▸ G0l q)) (G0b _ q)⟩⟩
end
theorem slot_si_next:Slot "set_iterator" "__next__" "set_iterator.__next__" :=
 .of (owner:= "set_iterator") (n:= "__next__") (by rw [typeLookup_type,builtinLookup_eq_fast];kernel_rfl) (by decide +kernel) (by decide +kernel) (by decide +kernel) (.inl (by kernel_rfl)) (by rw [G2N];kernel_rfl)
theorem jf7:entryFor table "set_iterator.__next__" =some Builtin.«set_iterator.__next__» :=entryFor_of_tree (by kernel_rfl)
theorem jgX (a:Value):argsOk "set_iterator.__next__" ⟨[a],[]⟩:=by unfold argsOk;kernel_rfl
theorem je9:entryFor table "set.__iter__" =some Builtin.«frozenset.__iter__» :=entryFor_alias (id' := "frozenset.__iter__") (by kernel_rfl) rfl (by decide +kernel) (by kernel_rfl)
abbrev itO (first:Value) (i:Nat) (a:Addr) (n ep:Nat):Obj:= {cls:= .type "set_iterator",data:= .fields #[first,rawInt i,.ref a,rawInt n,rawInt ep]}
inductive Mode (w:World) (a:Addr) (es:Array (Int×Value)) (ep:Nat) (t:SetTable):List Value→(Value→Nat→Heap→Prop)→Addr→Prop
 |text (b:w.params.followText "set-order" =true):Mode w a es ep t ((pickOrder (w.params.setOrder a ep) es).toList.map (·.2)) (fun f _ _=>f=rawInt 0) a
 |drawn (b:w.params.followText "set-order" =false) (d:t.plain=false) (two:1<es.size) (ord:List Nat) (p:ord.Perm (List.range es.size)) (tp:Addr):
  Mode w a es ep t (ord.map fun j=>(es.getD j (0,.none)).2) (fun f _ h=>f= .ref tp∧h.IsTuple tp (ord.map fun j=>rawInt (j:Nat)).toArray) tp
 |table (b:w.params.followText "set-order" =false) (d:t.plain=true∨es.size≤1):Mode w a es ep t (es.toList.map (·.2)) (fun f i _=> ∃slot:Nat,f=rawInt slot∧SetTable.below t.place slot=i) a
section
variable {prog:Program} {w:World} {A:Around} {E:Value→Shared→Prop} {s:Shared} {a I tp:Addr} {es:Array (Int×Value)} {ep n i:Nat} {t:SetTable} {ns:List Int} {first:Value}
theorem jkn {Q:Value→Shared→Prop} (S:Tab (ja8 w) es.size t) (b:w.params.followText "set-order" =true) (ha:s.heap.get? a=some (jbA es ep t)) (hI:s.heap.get? I=some (itO (rawInt 0) i a es.size ep)) (aI:a≠I)
 {x:Value} (hx:((pickOrder (w.params.setOrder a ep) es).toList.map (·.2))[i]? =some x) (q: ∀h',h'.get? I=some (itO (rawInt 0) (i+1) a es.size ep)→Heap.SameBut I s.heap h' →Q x {s with heap:=h'}):
 wpAny (model prog w) A (Builtin.«set_iterator.__next__» ⟨[.ref I],[]⟩) (fun fin s' => ∃v,fin= .done (.ret v)∧Q v s') E s:=by
 have told: ∀ {Q:Setting→Shared→Prop} {E' :Value→Shared→Prop} {A' :Around} {s' :Shared},Q ⟨prog,w.params⟩ s' →wpAny (model prog w) A' ask Q E' s' :=fun q=>G2L q
 have state:=fun {P:Array (Int×Value)×Nat×SetTable→Shared→Prop} {E' :Value→Shared→Prop} {A' :Around}=>G1m (prog:=prog) (w:=w) (A:=A') (E:=E') (Q:=P) (s:=s) ha rfl S.fits
 obtain⟨hp,g,d,tk,os⟩:=s
 rw [G0o] at hx
 obtain⟨⟨k,x'⟩,hx1,rfl⟩:=G1I.mp hx
 have hx' :(pickOrder (w.params.setOrder a ep) es)[((i:Nat):Int).toNat]? =some (k,x'):=by rw [G18,←G0K];exact hx1
 have z1:=G02 (Obj.mapFields fun v=>v.setIfInBounds 0 (rawInt ((Int.toNat 0:Nat):Int))) hI rfl
 have z2:=G02 (Obj.mapFields fun v=>v.setIfInBounds 1 (rawInt ((i:Int)+1))) z1 rfl
 have fin:=q _ z2 ((G08 ..).trans (G08 ..))
 wp_walk using state,told
 rw [hx']
 wp_walk
 exact⟨_,rfl,fin⟩
theorem jiX {Q:Value→Shared→Prop} {ord:List Nat} (S:Tab (ja8 w) es.size t) (ha:s.heap.get? a=some (jbA es ep t)) (hI:s.heap.get? I=some (itO (.ref tp) i a es.size ep)) (aI:a≠I) (ht:s.heap.IsTuple tp (ord.map fun j=>rawInt (j:Nat)).toArray) (p:ord.Perm (List.range es.size))
 {x:Value} (hx:(ord.map fun j=>(es.getD j (0,.none)).2)[i]? =some x) (q: ∀h',h'.get? I=some (itO (.ref tp) (i+1) a es.size ep)→Heap.SameBut I s.heap h' →Q x {s with heap:=h'}):
 wpAny (model prog w) A (Builtin.«set_iterator.__next__» ⟨[.ref I],[]⟩) (fun fin s' => ∃v,fin= .done (.ret v)∧Q v s') E s:=by
 have state:=fun {P:Array (Int×Value)×Nat×SetTable→Shared→Prop} {E' :Value→Shared→Prop} {A' :Around}=>G1m (prog:=prog) (w:=w) (A:=A') (E:=E') (Q:=P) (s:=s) ha rfl S.fits
 obtain⟨⟨oc,od,odt,osl⟩,hol,hc,c,hd⟩:=ht
 simp only at hc hd
 subst hc hd
 obtain⟨hp,g,d,tk,os⟩:=s
 rw [G0o] at hx
 obtain⟨j,hj,rfl⟩:=G1I.mp hx
 have jlt:j<es.size:=G0z.mp (p.mem_iff.mp (G0i hj))
 have hj' :((ord.map fun j=>rawInt (j:Nat)).toArray)[((i:Nat):Int).toNat]? =some (rawInt (j:Nat)):=by simp [hj]
 have ej:es[((j:Nat):Int).toNat]? =some (es.getD j (0,.none)):=by simp [jlt,Array.getD]
 have z1:=G02 (Obj.mapFields fun v=>v.setIfInBounds 1 (rawInt ((i:Int)+1))) hI rfl
 have fin:=q _ z1 (G08 ..)
 wp_walk using state
 rw [hj']
 show wpAny _ _ (setNextDrawn a ((j:Nat):Int).toNat ((ep:Nat):Int).toNat >>= _) _ _ _
 wp_walk using state
 rw [ej]
 wp_walk
 exact⟨_,rfl,fin⟩
theorem jiY {Q:Value→Shared→Prop} {slot:Nat} (S:Tab (ja8 w) es.size t) (b:w.params.followText "set-order" =false) (pl:t.plain=true∨es.size≤1) (ha:s.heap.get? a=some (jbA es ep t)) (hI:s.heap.get? I=some (itO (rawInt slot) i a es.size ep)) (aI:a≠I) (hs:SetTable.below t.place slot=i)
 {x:Value} (hx:(es.toList.map (·.2))[i]? =some x) (q: ∀h' (slot' :Nat),SetTable.below t.place slot' =i+1→h'.get? I=some (itO (rawInt slot') (i+1) a es.size ep)→Heap.SameBut I s.heap h' →Q x {s with heap:=h'}):
 wpAny (model prog w) A (Builtin.«set_iterator.__next__» ⟨[.ref I],[]⟩) (fun fin s' => ∃v,fin= .done (.ret v)∧Q v s') E s:=by
 have told: ∀ {Q:Setting→Shared→Prop} {E' :Value→Shared→Prop} {A' :Around} {s' :Shared},Q ⟨prog,w.params⟩ s' →wpAny (model prog w) A' ask Q E' s' :=fun q=>G2L q
 have state:=fun {P:Array (Int×Value)×Nat×SetTable→Shared→Prop} {E' :Value→Shared→Prop} {A' :Around}=>G1m (prog:=prog) (w:=w) (A:=A') (E:=E') (Q:=P) (s:=s) ha rfl S.fits
 have led:t.led=true:=by rw [S.led];show (!(w.params.followText "set-order"))=true;rw [b];rfl
 have nd:(!t.plain&&decide (es.size>1))=false:=by
  rcases pl with z|z
  ·rw [z];rfl
  ·rw [G0P (by omega),G3y]
 obtain⟨hp,g,d,tk,os⟩:=s
 rw [G0o] at hx
 obtain⟨⟨k,x'⟩,hx1,rfl⟩:=G1I.mp hx
 have lt:i<es.size:=by have:=(G0k.mp hx1).1;simpa using this
 have ps:=jfx S.fits
 have ltp:i<t.place.size:=by omega
 have ex:es[i]? =some (k,x'):=by rw [←G0K];exact hx1
 have ep' :t.place[i]? =some t.place[i]:=by simp [ltp]
 have rise:=S.rise pl
 have next:SetTable.below t.place (t.place[i]+1)=i+1:=by
  obtain⟨b1,b2,b3⟩:=jdp rise (t.place[i]+1)
  have mono:=fun (u v:Nat) (hu:u<t.place.size) (hv:v<t.place.size) (uv:u<v)=>G1k.mp rise u v (by simpa using hu) (by simpa using hv) uv
  simp only [G22] at mono
  rcases G4c (SetTable.below t.place (t.place[i]+1)) (i+1) with z|z|z
  ·have:=b2 i (by omega) _ ep'
   omega
  ·exact z
  ·have h1:i+1<t.place.size:=by omega
   have:=b1 (i+1) z _ (by simp [h1]:t.place[i+1]? =some t.place[i+1])
   have:=mono i (i+1) ltp h1 (by omega)
   omega
 have z1:=G02 (Obj.mapFields fun v=>v.setIfInBounds 0 (rawInt ((t.place[i]+1:Nat):Int))) hI rfl
 have z2:=G02 (Obj.mapFields fun v=>v.setIfInBounds 1 (rawInt ((i:Int)+1))) z1 rfl
 have fin:=q _ _ next z2 ((G08 ..).trans (G08 ..))
 wp_walk using state,told
 split
 ·rename_i z
  have z' :(!t.plain&&decide (es.size>1))=true:=z
  rw [nd] at z';cases z'
 wp_walk
 rw [show ((slot:Nat):Int).toNat=slot from G18 _,hs,ex,ep']
 wp_walk
 exact⟨_,rfl,fin⟩
theorem jiZ {vals:List Value} {md:Value→Nat→Heap→Prop} {Q:PySem.Fin→Shared→Prop} (calm:A.handled=none) (S:Tab (ja8 w) es.size t) (M:Mode w a es ep t vals md tp) (ha:s.heap.get? a=some (jbA es ep t)) (hI:s.heap.get? I=some (itO first i a es.size ep)) (aI:a≠I) (hm:md first i s.heap) (hx:vals[i]? =none)
 (q: ∀h' e,(∀b o,b≠I→s.heap.get? b=some o→h'.get? b=some o)→(∃o,h'.get? e=some o∧o.cls= .type "StopIteration")→E (.ref e) {s with heap:=h'}):
 wpAny (model prog w) A (Builtin.«set_iterator.__next__» ⟨[.ref I],[]⟩) Q E s:=by
 have told: ∀ {Q:Setting→Shared→Prop} {E' :Value→Shared→Prop} {A' :Around} {s' :Shared},Q ⟨prog,w.params⟩ s' →wpAny (model prog w) A' ask Q E' s' :=fun q=>G2L q
 have state:=fun {P:Array (Int×Value)×Nat×SetTable→Shared→Prop} {E' :Value→Shared→Prop} {A' :Around}=>G1m (prog:=prog) (w:=w) (A:=A') (E:=E') (Q:=P) (s:=s) ha rfl S.fits
 have stop:=fun {h1:Heap} {Q' :PySem.Fin→Shared→Prop} (same:Heap.SameBut I s.heap h1)=>L2.jeC (prog:=prog) (w:=w) (A:=A) (E:=E) (s:= {s with heap:=h1}) (Q:=Q') calm fun h' e grown st=>q h' e (fun b o nb x=>grown b o (same.extBut b o nb x)) st
 obtain⟨hp,g,d,tk,os⟩:=s
 have put: ∀ {P:Unit→Shared→Prop} {E' :Value→Shared→Prop} {k:Nat} {v:Value} {h1:Heap},k<5→Heap.SameBut I hp h1→(∃fs:Array Value,fs.size=5∧h1.get? I=some {cls:= .type "set_iterator",data:= .fields fs})→(∀h',Heap.SameBut I hp h' →(∃fs:Array Value,fs.size=5∧h'.get? I=some {cls:= .type "set_iterator",data:= .fields fs})→P () ⟨h',g,d,tk,os⟩)→wpAny (model prog w) A (setField (.ref I) k v) P E' ⟨h1,g,d,tk,os⟩:=fun hk same ⟨fs,hfs,e⟩ q' =>wpAny_setField_rec (s:=⟨_,g,d,tk,os⟩) e (by omega) fun h' z' same' =>q' h' (same.trans same') ⟨_,by simpa using hfs,z'⟩
 cases M with
 |text b=>
  subst hm
  have e:(pickOrder (w.params.setOrder a ep) es)[((i:Nat):Int).toNat]? =none:=by
   rw [G0o] at hx
   rw [G18,←G0K];exact G3q.mp hx
  wp_walk using state,told
  rw [e]
  show wpAny _ _ (setField (.ref I) 2 .none >>= _) _ _ _
  exact wpAny_bind (put (by decide) (G2E _ _) ⟨_,rfl,hI⟩ fun h' same _=>stop same)
 |drawn b dp two ord p tp=>
  obtain⟨rfl,⟨oc,od,odt,osl⟩,hol,hc,c,hd⟩:=hm
  simp only at hc hd
  subst hc hd
  have e:((ord.map fun j=>rawInt (j:Nat)).toArray)[((i:Nat):Int).toNat]? =none:=by
   rw [G0o] at hx
   simp [G3q.mp hx]
  wp_walk using state
  rw [e]
  show wpAny _ _ (setField (.ref I) 0 (rawInt 0) >>= fun _=>setField (.ref I) 2 .none >>= _) _ _ _
  exact wpAny_bind (put (by decide) (G2E _ _) ⟨_,rfl,hI⟩ fun h1 same1 there1=>wpAny_bind (put (by decide) same1 there1 fun h' same _=>stop same))
 |table b pl=>
  obtain⟨slot,rfl,hs⟩:=hm
  have led:t.led=true:=by rw [S.led];show (!(w.params.followText "set-order"))=true;rw [b];rfl
  have nd:(!t.plain&&decide (es.size>1))=false:=by
   rcases pl with z|z
   ·rw [z];rfl
   ·rw [G0P (by omega),G3y]
  have e:es[i]? =none:=by
   rw [G0o] at hx
   rw [←G0K];exact G3q.mp hx
  wp_walk using state,told
  split
  ·rename_i z
   have z' :(!t.plain&&decide (es.size>1))=true:=z
   rw [nd] at z';cases z'
  wp_walk
  rw [show ((slot:Nat):Int).toNat=slot from G18 _,hs,e]
  show wpAny _ _ (setField (.ref I) 2 .none >>= _) _ _ _
  exact wpAny_bind (put (by decide) (G2E _ _) ⟨_,rfl,hI⟩ fun h' same _=>stop same)
end
theorem jf8:entryFor table "set_iterator.__iter__" =some Builtin.«dict_keyiterator.__iter__» :=entryFor_alias (id' := "dict_keyiterator.__iter__") (by kernel_rfl) (by first|rfl|decide +kernel|(unfold String.splitOn;simp +decide [String.splitOnAux])) (by decide +kernel) (by kernel_rfl)
theorem jds:Slot "set_iterator" "__iter__" "set_iterator.__iter__" := .of (owner:= "set_iterator") (n:= "__iter__") (by rw [typeLookup_type,builtinLookup_eq_fast];kernel_rfl) (by decide +kernel) (by decide +kernel) (by decide +kernel) (.inl (by kernel_rfl)) (by rw [G2N];kernel_rfl)
theorem jgY (a:Value):argsOk "set_iterator.__iter__" ⟨[a],[]⟩:=by unfold argsOk;kernel_rfl
section
variable {prog:Program} {w:World} {A:Around} {E:Value→Shared→Prop} {s:Shared} {a I tp:Addr} {es:Array (Int×Value)} {ep n i:Nat} {t:SetTable} {ns:List Int} {first:Value} {vals:List Value} {md:Value→Nat→Heap→Prop}
theorem Mode.keep {f:Value} {h h' :Heap} (M:Mode w a es ep t vals md tp) (m:md f i h) (k: ∀o,h.get? tp=some o→h'.get? tp=some o):md f i h' :=by
 cases M with
 |text b=>exact m
 |drawn b dp two ord p tp=>exact⟨m.1,m.2.at fun o e=>k o e⟩
 |table b pl=>exact m
theorem jko {Q:Option Value→Shared→Prop} (ty:s.TypeIs (.ref I) "set_iterator")
 (h:wpAny (model prog w) A.in1 (Builtin.«set_iterator.__next__» ⟨[.ref I],[]⟩) (fun fin s' => ∃v,fin= .done (.ret v)∧Q (some v) s') (fun e s' =>s'.TypeIs e "StopIteration" ∧Q none s') s):wpAny (model prog w) A (pyNext (.ref I)) Q E s:=
 wpAny_bind (G4g (G1P (name:= "__next__") ty slot_si_next (G0H (G1C slot_si_next ty jf7 h (jgX _)) (fun _ _ q=>G0e q) fun e s' q=>wpAny_bind (wpAny_isInstance (b:=true) q.1 isSubtype_stop (G0e q.2)))))
theorem jkp (calm:A.handled=none) (S:Tab (ja8 w) es.size t) (M:Mode w a es ep t vals md tp) (aI:a≠I) (tI:tp≠I):
 Walks prog w A I [I,a,tp] [I] vals.length (fun i v=>vals[i]? =some v) (fun i h=>h.get? a=some (jbA es ep t)∧ ∃first,h.get? I=some (itO first i a es.size ep)∧md first i h) where
 sub:=fun b hb=>by simp only [G0g] at hb;simp [hb]
 frame:=fun i h h' ⟨ha,f,hI,m⟩ k=>⟨k a (by simp) _ ha,f,k I (by simp) _ hI,M.keep m fun o e=>k tp (by simp) o e⟩
 item:=fun i s Q E hi ⟨ha,f,hI,m⟩ q=>by
  have hx:vals[i]? =some vals[i]:=by simp [hi]
  refine jko ⟨_,hI,rfl⟩ ?_
  have fin: ∀ {f' :Value} h',md f' (i+1) s.heap→h'.get? I=some (itO f' (i+1) a es.size ep)→Heap.SameBut I s.heap h' →Q (some vals[i]) {s with heap:=h'}:=fun h' m' e same=>
   q vals[i] h' s.toks hx ⟨same.extBut _ _ aI ha,_,e,M.keep m' fun o x=>same.extBut _ _ tI x⟩ fun b o nb x=>same.extBut _ _ (by simpa using nb) x
  cases M with
  |text b=>
   subst m
   exact jkn S b ha hI aI hx fun h' e same=>fin h' rfl e same
  |drawn b dp two ord p tp=>
   obtain⟨rfl,ht⟩:=m
   exact jiX S ha hI aI ht p hx fun h' e same=>fin h' ⟨rfl,ht⟩ e same
  |table b pl=>
   obtain⟨slot,rfl,hs⟩:=m
   exact jiY S b pl ha hI aI hs hx fun h' slot' hs' e same=>fin h' ⟨slot',rfl,hs'⟩ e same
 done:=fun s Q E ⟨ha,f,hI,m⟩ q=>by
  refine jko ⟨_,hI,rfl⟩ (jiZ calm S M ha hI aI m (by simp) fun h' e kept ⟨o,ho,hc⟩=>⟨⟨o,ho,hc⟩,q h' s.toks fun b ob nb x=>kept b ob (by simpa using nb) x⟩)
 self:=fun i s Q E ⟨ha,f,hI,m⟩ q=>wpAny_pyIter_slot ⟨_,hI,rfl⟩ jds (G1C jds ⟨_,hI,rfl⟩ jf8 (G0e ⟨_,rfl,_,_,⟨_,hI,rfl⟩,slot_si_next.lookup,q⟩) (jgY _))
end
theorem jdM {α:Type}: ∀ (l:List α) (i:Nat) {x:α},l[i]? =some x→(x::l.eraseIdx i).Perm l
 | [],i,x,h=>by cases h
 |y::l,0,x,h=>by cases h;exact .refl _
 |y::l,i+1,x,h=>(List.Perm.swap y x _).trans ((jdM l i h).cons y)
theorem jkq {α:Type} (next:Nat→Nat): ∀ (fuel k:Nat) (left:List α) (out:Array α),left.length=fuel→(pickOrder.go next fuel k left out).toList.Perm (out.toList++left)
 |0,k,left,out,h=>by
  rw [G2e h,G1s]
  exact .refl _
 |fuel+1,k,left,out,h=>by
  unfold pickOrder.go
  have lt:next k%left.length<left.length:=G3c _ (by omega)
  have hx:left[next k%left.length]? =some left[next k%left.length]:=by simp [lt]
  rw [hx]
  refine(jkq next fuel (k+1) _ _ (by rw [G3W lt];omega)).trans ?_
  rw [G1F,G0j]
  exact(jdM left _ hx).append_left _
theorem jkr {α:Type} (next:Nat→Nat) (xs:Array α):(pickOrder next xs).toList.Perm xs.toList:=by
 have:=jkq next xs.size 0 xs.toList #[] (by simp)
 rw [Array.toList_empty,G0Q] at this
 exact this
section
variable {prog:Program} {w:World} {A:Around} {E:Value→Shared→Prop} {s:Shared} {a I tp:Addr} {es:Array (Int×Value)} {ep n i:Nat} {t:SetTable} {ns:List Int} {first:Value} {vals:List Value} {md:Value→Nat→Heap→Prop}
theorem Mode.perm (M:Mode w a es ep t vals md tp):vals.Perm (es.toList.map (·.2)):=by
 cases M with
 |text b=>exact(jkr _ es).map _
 |drawn b dp two ord p tp=>
  refine(p.map _).trans ?_
  have:(List.range es.size).map (fun j=>(es.getD j (0,.none)).2)=es.toList.map (·.2):=by
   refine G2H fun j=> ?_
   rw [G0o,G0o]
   by_cases hj:j<es.size
   ·rw [G1U hj];simp [hj,Array.getD]
   ·rw [G1j (by simpa using hj),G1j (by simpa using hj)];rfl
  rw [this]
 |table b pl=>exact .refl _
theorem jic {α:Type} {Q:List α→Shared→Prop}: ∀ (n:Nat) (xs:List α) (s:Shared),xs.length=n→(∀ys d,ys.Perm xs→Q ys {s with drawn:=d})→wpAny (model prog w) A (drawOrder n xs) Q E s
 |0,xs,s,h,q=>by
  rw [G2e h] at q
  exact G0e (q [] s.drawn (.refl _))
 |n+1,[],s,h,q=>by cases h
 |n+1,x::r,s,h,q=>by
  have pickd: ∀ {P:Nat→Shared→Prop} {E' :Value→Shared→Prop},(∀i d,i<(x::r).length→P i {s with drawn:=d})→wpAny (model prog w) A (choose .order (x::r).length) P E' s:=fun p _ _ _=>⟨by simp,p _ _ (G3c _ (by simp))⟩
  refine wpAny_bind (pickd fun i d hi=> ?_)
  have hx:(x::r)[i]? =some (x::r)[i]:=by rw [G0c hi]
  rw [hx]
  refine wpAny_bind (jic n _ {s with drawn:=d} (by rw [G3W hi];simp at h ⊢;omega) fun ys d' p=>G0e (q _ d' ?_))
  exact(p.cons _).trans (jdM _ _ hx)
theorem jlM {Q:Value→Shared→Prop} (S:Tab (ja8 w) es.size t) (ha:s.heap.get? a=some (jbA es ep t)) (few:es.size<1000)
 (k: ∀h' d I tp vals md first,Mode w a es ep t vals md tp→(∀b o,s.heap.get? b=some o→h'.get? b=some o)→s.heap.objs.size≤I→tp≠I→(tp=a∨s.heap.objs.size≤tp)→tp<h'.objs.size→h'.get? I=some (itO first 0 a es.size ep)→md first 0 h' →Q (.ref I) {s with heap:=h',drawn:=d}):
 wpAny (model prog w) A (pyIter (.ref a)) Q E s:=by
 have ty:s.TypeIs (.ref a) "set" :=⟨_,ha,rfl⟩
 have told: ∀ {Q:Setting→Shared→Prop} {E' :Value→Shared→Prop} {A' :Around} {s' :Shared},Q ⟨prog,w.params⟩ s' →wpAny (model prog w) A' ask Q E' s' :=fun q=>G2L q
 have state:=fun {P:Array (Int×Value)×Nat×SetTable→Shared→Prop} {E' :Value→Shared→Prop} {A' :Around} {s' :Shared} (e:s'.heap.get? a=some (jbA es ep t))=>G1m (prog:=prog) (w:=w) (A:=A') (E:=E') (Q:=P) (s:=s') e rfl S.fits
 refine wpAny_pyIter_slot ty F.slot_set_iter (G1C F.slot_set_iter ty je9 ?_ (F.args_set_iter_1 _))
 have state0:=fun {P:Array (Int×Value)×Nat×SetTable→Shared→Prop} {E' :Value→Shared→Prop} {A' :Around}=>state (P:=P) (E' :=E') (A' :=A') (s' :=s) ha
 cases b:w.params.followText "set-order" with
 |true=>
  wp_walk using state0,told
  have at_:(s.heap.push (itO (rawInt 0) 0 a es.size ep)).get? s.heap.objs.size=some (itO (rawInt 0) 0 a es.size ep):=G0x _ rfl
  have nI:a≠s.heap.objs.size:=fun z=>G0W _ (z ▸ G0l ha)
  refine⟨_,rfl,"set_iterator",_,⟨_,at_,rfl⟩,slot_si_next.lookup,?_⟩
  exact k _ s.drawn s.heap.objs.size a _ _ (rawInt 0) (.text b) (fun b o e=>G0b _ e) (G0f _) nI (.inl rfl) (G0l (G0b _ ha)) at_ rfl
 |false=>
  cases dd:(!t.plain&&decide (es.size>1)) with
  |false=>
   have pl:t.plain=true∨es.size≤1:=by
    cases hp:t.plain with
    |true=>exact .inl rfl
    |false=>rw [hp] at dd;have:=G31 (show decide (es.size>1)=false from dd);exact .inr (by omega)
   have at_:(s.heap.push (itO (rawInt 0) 0 a es.size ep)).get? s.heap.objs.size=some (itO (rawInt 0) 0 a es.size ep):=G0x _ rfl
   have nI:a≠s.heap.objs.size:=fun z=>G0W _ (z ▸ G0l ha)
   have zero:SetTable.below t.place 0=0:=by
    obtain⟨b1,_,b3⟩:=jdp (S.rise pl) 0
    rcases Nat.eq_zero_or_pos (SetTable.below t.place 0) with z|z
    ·exact z
    ·have h0:0<t.place.size:=by omega
     exact absurd (b1 0 z _ (by simp [h0]:t.place[0]? =some t.place[0])) (G2G _)
   have fin:=k _ s.drawn s.heap.objs.size a _ _ (rawInt 0) (.table b pl) (fun b o e=>G0b _ e) (G0f _) nI (.inl rfl) (G0l (G0b _ ha)) at_ ⟨0,rfl,zero⟩
   wp_walk using state0,told
   split
   ·rename_i z
    have z' :(!w.params.followText "set-order" &&(!t.plain&&decide (es.size>1)))=true:=z
    rw [b,dd] at z';cases z'
   wp_walk using state0
   exact⟨_,rfl,"set_iterator",_,⟨_,at_,rfl⟩,slot_si_next.lookup,fin⟩
  |true=>
   have pf:t.plain=false∧1<es.size:=by
    rw [G0Z] at dd
    exact⟨by simpa using dd.1,G1l dd.2⟩
   wp_walk using state0,told
   split
   rotate_left
   ·rename_i z
    exact(z (show (!w.params.followText "set-order" &&(!t.plain&&decide (es.size>1)))=true by rw [b,dd];rfl)).elim
   refine wpAny_bind (jic es.size (List.range es.size) s (by simp) fun ord d p=> ?_)
   have len:ord.length=es.size:=by rw [p.length_eq];simp
   have t0:(s.heap.push {cls:= .type "tuple",data:= .seq (ord.map fun (i:Nat)=>rawInt i).toArray}).get? s.heap.objs.size=some {cls:= .type "tuple",data:= .seq (ord.map fun (i:Nat)=>rawInt i).toArray}:=G0x _ rfl
   refine wpAny_bind (wpAny_newTuple ?_ (by rw [G0a,len];exact G0C (G0T few) (by decide)))
   have ha1:(s.heap.push {cls:= .type "tuple",data:= .seq (ord.map fun (i:Nat)=>rawInt i).toArray}).get? a=some (jbA es ep t):=G0b _ ha
   have state1:=fun {P:Array (Int×Value)×Nat×SetTable→Shared→Prop} {E' :Value→Shared→Prop} {A' :Around}=>state (P:=P) (E' :=E') (A' :=A') (s' := {s with heap:=s.heap.push {cls:= .type "tuple",data:= .seq (ord.map fun (i:Nat)=>rawInt i).toArray},drawn:=d}) ha1
   wp_walk using state1
   have at_:=G0x (s.heap.push {cls:= .type "tuple",data:= .seq (ord.map fun (i:Nat)=>rawInt i).toArray}) (o:=itO (.ref s.heap.objs.size) 0 a es.size ep) rfl
   have lt1:s.heap.objs.size<(s.heap.push {cls:= .type "tuple",data:= .seq (ord.map fun (i:Nat)=>rawInt i).toArray}).objs.size:=G0l t0
   refine⟨_,rfl,"set_iterator",_,⟨_,at_,rfl⟩,slot_si_next.lookup,?_⟩
   exact k _ d _ s.heap.objs.size _ _ (.ref s.heap.objs.size) (.drawn b pf.1 pf.2 ord p s.heap.objs.size) (fun b o e=>G0b _ (G0b _ e)) (G0T lt1) (G0J lt1) (.inr (G0f _)) (G0l (G0b _ t0)) at_ ⟨rfl,⟨_,G0b _ t0,rfl,0,rfl⟩⟩
end
section
variable {prog:Program} {w:World} {A:Around} {E:Value→Shared→Prop} {s:Shared} {a:Addr} {es:Array (Int×Value)} {ep:Nat} {t:SetTable} {ns:List Int}
theorem jlN {Q:Bool→Shared→Prop} (ty:s.TypeIs (.ref a) "set") (q:Q false s):wpAny (model prog w) A (Builtin.List.listLengthHint (.ref a)) Q E s:=by
 have parts:splitId "set.__len__" =some ("set","__len__"):=by decide +kernel
 have f2:=jda
 unfold Builtin.List.listLengthHint
 refine wpAny_bind (wpAny_specialOf ty F.slot_set_len.lookup ?_)
 dsimp only
 rw [parts]
 dsimp only
 wp_walk
 exact q
def jqu (s:Shared) (es:Array (Int×Value)) (r:Result) (s' :Shared):Prop:=
 ∃h' d tk acc c,r= .ok (.ret (.ref s.heap.objs.size))∧s' = {s with heap:=h',drawn:=d,toks:=tk}∧h'.get? s.heap.objs.size=some {cls:= .type "list",dict:=none,data:= .seq acc c,slots:= #[]}∧(∀b o,s.heap.get? b=some o→h'.get? b=some o)∧acc.toList.Perm (es.toList.map (·.2))
theorem jfz (calm:A.handled=none) (S:Tab (ja8 w) es.size t) (ha:s.heap.get? a=some (jbA es ep t)) (few:es.size<1000):
 codeAny (model prog w) A (.builtin "proto.collect" ⟨[.ref a],[]⟩) (jqu s es) s:=by
 have nS:s.heap.objs.size≠a:=fun z=>G0W _ (z ▸ G0l ha)
 have old: ∀ {b o o'},s.heap.get? b=some o→(s.heap.push o').get? b=some o:=fun e=>G0b _ e
 refine G2l F.entry_proto_collect ?_
 wp_walk
 refine⟨G4i F.plain_list_iadd _,G2l F.entry_list_iadd ?_⟩
 rw [G2y F.plain_list_iadd]
 have ha1:(s.heap.push {cls:= .type "list",data:= .seq #[]}).get? a=some (jbA es ep t):=old ha
 have hS:(s.heap.push {cls:= .type "list",data:= .seq #[]}).get? s.heap.objs.size=some {cls:= .type "list",data:= .seq #[]}:=G0x _ rfl
 have ty:Shared.TypeIs {s with heap:=s.heap.push {cls:= .type "list",data:= .seq #[]}} (.ref a) "set" :=⟨_,ha1,rfl⟩
 have other:Builtin.List.listSameRef (.ref s.heap.objs.size) (.ref a)=false:=by simp [Builtin.List.listSameRef,nS]
 have iter:=fun {P:Value→Shared→Prop} {E' :Value→Shared→Prop} {A' :Around}=>jlM (prog:=prog) (w:=w) (A:=A') (E:=E') (Q:=P) (s:= {s with heap:=s.heap.push {cls:= .type "list",data:= .seq #[]}}) S ha1 (by omega)
 show wpAny _ A.in1 (Builtin.List.listExtendWith (.ref s.heap.objs.size) (.ref a) (.ref s.heap.objs.size)) _ _ _
 wp_walk using iter
 intro h1 d I tp vals md first M kept lo tI tpo tpl hI hm
 have ha2:h1.get? a=some (jbA es ep t):=kept _ _ ha1
 have hS2:h1.get? s.heap.objs.size=some {cls:= .type "list",data:= .seq #[]}:=kept _ _ hS
 have ty2:Shared.TypeIs {s with heap:=h1,drawn:=d} (.ref a) "set" :=⟨_,ha2,rfl⟩
 refine wpAny_bind (G1g (jlN ty2 ?_))
 wp_walk
 have lt:a<s.heap.objs.size:=G0l ha
 have e1:(s.heap.push {cls:= .type "list",data:= .seq #[]}).objs.size=s.heap.objs.size+1:=G3x ..
 have lo' :s.heap.objs.size+1≤I:=by rw [←e1];exact lo
 have aI:a≠I:=fun z=>by subst z;exact absurd lt (G2r.mpr (Nat.le_of_succ_le lo'))
 have SI:s.heap.objs.size≠I:=G0J lo'
 have Stp:s.heap.objs.size≠tp:=by
  rcases tpo with z|z
  ·rw [z];exact nS
  ·exact G0J (G0D (by rw [e1];exact G11 _) z)
 have hS3:=G02 (Obj.mapSeq fun x=>x.push Value.none) hS2 rfl
 have hS4:=G02 (Obj.mapSeq fun x=>x.pop) hS3 rfl
 have same:Heap.SameBut s.heap.objs.size h1 ((h1.update s.heap.objs.size (Obj.mapSeq fun x=>x.push Value.none)).update s.heap.objs.size (Obj.mapSeq fun x=>x.pop)):=(G08 ..).trans (G08 ..)
 have W:=jkp (prog:=prog) (A:=A.in1) calm S M aI tI
 refine⟨G4i F.plain_extend_loop _,codeAny_extend_loopS W.toS ?_ s.heap.objs.size (by simp [SI,nS,Stp]) _ vals.length 0 _ #[] _ rfl (G06 _) ⟨same.extBut _ _ nS.symm ha2,first,same.extBut _ _ SI.symm hI,M.keep hm fun o e=>same.extBut _ _ Stp.symm e⟩ hS4 (ItemsOf.nil _) fun s' acc c' moved hS' items=> ?_⟩
 ·rw [M.perm.length_eq,G0a,G0m];exact G0C (G0T few) (by decide)
 have same_vals:acc.toList=vals:=by
  refine G2H fun i=> ?_
  rw [G0K]
  cases e:acc[i]? with
  |some v=>exact(items.2 i v e).symm
  |none=>
   have:vals.length≤i:=by rw [←items.1];exact G21.mp e
   exact(G1j this).symm
 obtain⟨h',g',d',tk',os'⟩:=s'
 have mg:g' =s.gens:=moved.gens
 have md' :d' =d:=moved.drawn
 have mo:os' =s.os:=moved.os
 subst mg md' mo
 refine⟨h',d',tk',acc,c',rfl,rfl,hS',fun b o e=> ?_,by rw [same_vals];exact M.perm⟩
 have lb:=G0l e
 have nb:b≠s.heap.objs.size:=G0J lb
 have nbI:b≠I:=fun z=>by subst z;exact absurd lb (G2r.mpr (Nat.le_of_succ_le lo'))
 exact moved.heap b o (by simp [nb,nbI]) (same.extBut _ _ nb (kept _ _ (old e)))
theorem jhE (S:SetI (ja8 w) es t ns) {vs:List Value} (p:vs.Perm (es.toList.map (·.2))): ∃ks,IntsAre vs ks∧ks.Nodup∧ ∀n,n∈ks↔n∈ns:=by
 have isint: ∀v∈vs,∃n t,v=Value.int n t:=fun v hv=>by
  obtain⟨e,he,rfl⟩:=G0N.mp (p.mem_iff.mp hv)
  obtain⟨n,tk,rfl⟩:=S.nums e he
  exact⟨n,tk,rfl⟩
 have hI:=intsAre_map vs isint
 have pk:(vs.map numOf).Perm (es.toList.map jlL):=by
  refine(p.map numOf).trans ?_
  rw [G1d]
  have:es.toList.map (numOf∘fun x=>x.2)=es.toList.map jlL:=G1u fun e he=>by
   obtain⟨n,tk,rfl⟩:=S.nums e he
   rfl
  rw [this]
 exact⟨_,hI,pk.nodup_iff.mpr S.nd,fun n=>pk.mem_iff.trans (S.mem n)⟩
theorem ji0 {Q:Value→Shared→Prop} (calm:A.handled=none) (S:SetI (ja8 w) es t ns) (ha:s.heap.get? a=some (jbA es ep t)) (few:ns.length<64)
 (k: ∀ (h1 h' :Heap) d tk (out:Array Value) (ks:List Int) (c:Nat),(∀b o,s.heap.get? b=some o→h1.get? b=some o)→(∀b o,h1.get? b=some o→h'.get? b=some o)→h'.get? h1.objs.size=some (seqObj "list" out c)→IntsAre out.toList ks→ks.Pairwise (· < ·)→(∀n,n∈ks↔n∈ns)→
  Q (.ref h1.objs.size) {s with heap:=h',drawn:=d,toks:=tk}):wpAny (model prog w) A (call (.builtin "sorted") [.ref a]) Q E s:=by
 refine G23 kind_sorted plain_sorted entry_sorted (args_sorted1 _) (wpAny_bind (G0e (wpAny_bind (wpAny_bind (wpAny_runValue (G2V (jfz calm S.tab ha (G1Z S.size (by omega))) fun res s' listed=> ?_))))))
 obtain⟨h1,d,tk,acc,c0,rfl,rfl,made,kept,p⟩:=listed
 refine wpAny_bind (wpAny_load made (G0e ?_))
 obtain⟨ks,hI,nd,mem⟩:=jhE S p
 have lk:ks.length≤ns.length:=jd9 nd fun n hn=>(mem n).mp hn
 have len:acc.toList.length=ks.length:=hI.length
 have few' :acc.toList.length<64:=by omega
 have fresh:(h1.push (seqObj "list" acc.toList.toArray 0)).get? h1.objs.size=some (seqObj "list" acc.toList.toArray 0):=G0x _ rfl
 refine wpAny_bind (G4j (wpAny_bind (G1g (G1C slot_list_sort ⟨_,fresh,rfl⟩ entry_list_sort (list_sort_tree fresh hI few' fun out ns' i1 i2 i3=>⟨_,rfl,?_⟩) (args_list_sort _)))) (G0C (G0T few') (by decide)))
 obtain⟨c,lies⟩:=sortedHeap_at (vs:=acc.toList) (out:=out) fresh
 refine G0e ⟨_,rfl,k h1 _ d tk out ns' c kept (fun b ob e=> ?_) lies i1 ?_ fun n=>(i2.mem_iff).trans (mem n)⟩
 ·have lt:=G0l e
  rw [sortedHeap_old (G0J lt) (by rw [size_push'];exact G3v lt)]
  exact G0b _ e
 ·have nd' :ns'.Nodup:=i2.nodup_iff.mpr nd
  unfold List.Nodup at nd'
  exact(i3.and nd').imp fun ⟨x,y⟩=>by omega
end
end HT
namespace L2
open PySem PySem.Spec PyProof.Rows PySem.SeqAt
theorem Inv.drew {X:Cx} {pins:List (Addr×Obj)} {σ:St} {H:Hp} {s:Shared} (I:Inv X pins σ H s) (d:Drawn):Inv X pins σ H {s with drawn:=d}:=⟨I.ok,I.os,I.bare,I.base,I.loc,I.cell,I.free,I.freeC,I.pin,I.hok,I.len⟩
def jid (w:World) (o:Obj) (ns:List Int):Prop:= ∃es ep t,o=HT.jbA es ep t∧HT.SetI (HT.ja8 w) es t ns
theorem jks {X:Cx} (hc:X.calm=true):CallR X (.type "set") (fun xs H Q=> ∃ (a:Addr) (ns:List Int),xs= [.ref a]∧(SqL X.K H a (ns.map V.int)∨SqT X.K H a (ns.map V.int))∧ns.length<64∧ ∀ (p:Addr) (o:Obj),H p=none→jid X.w o ns.reverse→Q (.ref p) (upd H p (.frz o (.own 0)))):=by
 intro pins s σ H xs us Q I r h
 obtain⟨a,ns,rfl,hS,few,q⟩:=h
 obtain⟨u,rfl,ru⟩:=jdg r
 cases ru
 have fin: ∀h' tk es ep t,h'.get? s.heap.objs.size=some (HT.jbA es ep t)→HT.SetI (HT.ja8 X.w) es t ns.reverse→(∀b o,s.heap.get? b=some o→h'.get? b=some o)→EP X pins σ Q (.ref s.heap.objs.size) {s with heap:=h',toks:=tk}:=fun h' tk es ep t e S kept=>
  ⟨.ref _,_,I.laid (t' :=tk) (o:= .frz (HT.jbA es ep t) (.own 0)) kept (G0f _) ⟨e,⟨_,e⟩⟩,rfl,q _ _ (I.hok.fresh (G0f _)) ⟨es,ep,t,rfl,S⟩⟩
 rcases hS with hS|hS
 ·obtain⟨its,rv,pl,hz⟩:=I.list hS
  have hi:=jdX rv
  obtain⟨o,e1,e2,c,e3⟩:=pl.isList
  exact HT.jib (I.ok.hd hc) (.inl rfl) ⟨o,e1,e2,c,e3⟩ hi (by omega) fin
 ·obtain⟨its,rv,pl,hz⟩:=I.tuple hS
  have hi:=jdX rv
  obtain⟨o,e1,e2,c,e3⟩:=pl
  exact HT.jib (I.ok.hd hc) (.inr rfl) ⟨o,e1,e2,c,e3⟩ hi (by omega) fin
theorem jgZ {X:Cx} (hc:X.calm=true):CallR X (.builtin "sorted") (fun xs H Q=> ∃ (p:Addr) (o:Obj) (ns:List Int),xs= [.ref p]∧H p=some (.frz o (.own 0))∧jid X.w o ns∧ns.length<64∧ ∀ (q:Addr) (ks:List Int),H q=none→ks.Pairwise (· < ·)→(∀n,n∈ks↔n∈ns)→Q (.ref q) (upd H q (.lst (ks.map V.int)))):=by
 intro pins s σ H xs us Q I r h
 obtain⟨p,o,ns,rfl,hp,⟨es,ep,t,rfl,S⟩,few,q⟩:=h
 obtain⟨u,rfl,ru⟩:=jdg r
 cases ru
 refine HT.ji0 (I.ok.hd hc) S (I.hok p _ hp).1 few fun h1 h' d tk out ks c k1 k2 lies a1 a2 a3=> ?_
 have I1:=(I.kept (t' :=s.toks) k1).drew d
 have lk:ks.length≤ns.length:=HT.jd9 (a2.imp fun z=>by omega) fun n hn=>(a3 n).mp hn
 refine⟨.ref _,_,I1.laid (t' :=tk) (o:= .lst (ks.map V.int)) k2 (G0f _) ⟨?_,out.toList,c,jgK a1,lies⟩,rfl,q _ ks (I1.hok.fresh (G0f _)) a2 a3⟩
 rw [G0a]
 exact G0C lk (G0C (G0T few) (by decide))
def dSS (ta:TAD):TED:=fun σ h Q=>ta σ h fun ds h1=> ∃ns:List Int,(ds= [.tup (ns.map D.int)]∨ ∃a,ds= [.lst a]∧h1 a=some (ns.map D.int))∧ns.length<64∧ ∀ (p:Addr) (ks:List Int),h1 p=none→ks.Pairwise (· < ·)→(∀n,n∈ks↔n∈ns)→Q (.lst p) (jbi h1 p (ks.map D.int))
theorem jss {X : Cx} {a : Expr} {ta : TAD} {p p2 pos pos2 : Pos} (hc : X.calm = true) (hg : Gl X "sorted") (hm : X.mg "sorted" = none) (hg2 : Gl X "set") (hm2 : X.mg "set" = none) (ha : JA X [a] ta) (hs : starEach [a] X.env = [(false, eval a X.env)] := by rfl)
    (h1 : starEach [.Call (.Name "set" p2) [a] [] pos2] X.env = (false, eval (.Call (.Name "set" p2) [a] [] pos2) X.env) :: starEach [] X.env := by rfl) (h2 : (backTo pos (starEach [] X.env)).any (·.1) = false := by rfl) (h3 : (backTo pos2 (starEach [] X.env)).any (·.1) = false := by rfl) :
    JE X (.Call (.Name "sorted" p) [.Call (.Name "set" p2) [a] [] pos2] [] pos) (dSS ta) :=
  ⟨(jcU (jgZ hc) hg hm (by decide +kernel) (jbm (jek (jks hc) hg2 hm2 (by decide +kernel) ha.to (by decide) (by decide) hs h3) pa_nil h1) (by decide) (by decide) h1 h2).imp
    fun σ H Q ⟨σd, h, Qd, rs, rh, t, post⟩ => LA.bind rs rh t fun ds vs h1 H1 k1 rs1 rh1 r1 ⟨ns, hd, few, q⟩ => by
      have fin : ∀ c o, H1 c = none → jid X.w o ns.reverse → ∃ (p : Addr) (o' : Obj) (ms : List Int), [V.ref c] = [.ref p] ∧ upd H1 c (.frz o (.own 0)) p = some (.frz o' (.own 0)) ∧ jid X.w o' ms ∧ ms.length < 64 ∧ ∀ (l : Addr) (ks : List Int), upd H1 c (.frz o (.own 0)) l = none → ks.Pairwise (· < ·) → (∀ n, n ∈ ks ↔ n ∈ ms) → Q (.ref l) (upd (upd H1 c (.frz o (.own 0))) l (.lst (ks.map V.int))) := fun c o hcn S =>
        ⟨c, o, ns.reverse, rfl, jam, S, by simpa using few, fun l ks hl a b => by
          have rh2 := rh1.new (o := .frz o (.own 0)) hcn
          exact post (.lst l) (.ref l) _ _ (k1.trans ((Kept.new hcn).trans (.new hl))) (rh2.newL hl (jcc ks)) ⟨rfl, _, jam⟩ (q l ks (rh2.free hl) a fun n => by rw [b n, G1x])⟩
      rcases hd with e | ⟨a, e, ha⟩
      · subst e
        obtain ⟨v, e, r2⟩ := jay r1
        obtain ⟨a, ws, e1, hH, r3⟩ := (show ∃ a vs, v = .ref a ∧ H1 a = some (.tup vs) ∧ RelDs X.K H1 (ns.map D.int) vs from r2)
        rw [jaX r3] at hH
        subst e e1
        exact ⟨a, ns, rfl, .inr (SqT.of hH), few, fin⟩
      · subst e
        obtain ⟨v, e, r2⟩ := jay r1
        obtain ⟨ws, hH, r3⟩ := rh1 a _ ha
        have e1 : v = .ref a := r2.1
        rw [jaX r3] at hH
        subst e e1
        exact ⟨a, ns, rfl, .inl (SqL.of hH), few, fin⟩⟩
end L2
namespace L2
theorem IsS.ext {n:Nat} {S S' :List Nat} (h:IsS n S) (h' :IsS n S') (m: ∀j,j∈S↔j∈S'):S=S' :=by
 obtain⟨p,rfl⟩:=h
 obtain⟨q,rfl⟩:=h'
 refine List.filter_congr fun j hj=> ?_
 have:=m j
 rw [G1e,G1e] at this
 have e:p j=true↔q j=true:=⟨fun z=>(this.mp ⟨hj,z⟩).2,fun z=>(this.mpr ⟨hj,z⟩).2⟩
 cases hp:p j<;>cases hq:q j<;>simp_all
def unS (n:Nat) (A B:List Nat):List Nat:=(List.range n).filter fun j=>decide (j∈A)||decide (j∈B)
theorem jmx (n:Nat) (A B:List Nat):IsS n (unS n A B):=⟨_,rfl⟩
theorem jhF {n:Nat} {A B:List Nat} (hA:IsS n A) (hB:IsS n B) (j:Nat):j∈unS n A B↔j∈A∨j∈B:=by
 unfold unS
 rw [G1e,G0z]
 simp only [G2F,G17]
 exact⟨fun z=>z.2,fun z=>⟨z.elim hA.lt hB.lt,z⟩⟩
theorem jie: ∀ {xs ys:List Int},xs.Pairwise (· < ·)→ys.Pairwise (· < ·)→(∀n,n∈xs↔n∈ys)→xs=ys
 | [],[],_,_,_=>rfl
 | [],y::ys,_,_,m=>by have:=(m y).mpr (.head _);cases this
 |x::xs,[],_,_,m=>by have:=(m x).mp (.head _);cases this
 |x::xs,y::ys,hx,hy,m=>by
  obtain⟨hx1,hx2⟩:=G1S.mp hx
  obtain⟨hy1,hy2⟩:=G1S.mp hy
  have a:x=y:=by
   rcases G0n.mp ((m x).mp (.head _)) with z|z
   ·exact z
   ·rcases G0n.mp ((m y).mpr (.head _)) with w|w
    ·exact w.symm
    ·have:=hy1 x z;have:=hx1 y w;omega
  subst a
  refine congrArg _ (jie hx2 hy2 fun n=> ?_)
  constructor
  ·intro z
   rcases G0n.mp ((m n).mp (.tail _ z)) with w|w
   ·have:=hx1 n z;omega
   ·exact w
  ·intro z
   rcases G0n.mp ((m n).mpr (.tail _ z)) with w|w
   ·have:=hy1 n z;omega
   ·exact w
theorem jnX {n:Nat} {A B:List Nat} (hA:IsS n A) (hB:IsS n B) {ks:List Int} (r:ks.Pairwise (· < ·)) (m: ∀x,x∈ks↔x∈(A++B).map fun (j:Nat)=>(j:Int)):ks=(unS n A B).map fun (j:Nat)=>(j:Int):=by
 refine jie r ?_ fun x=> ?_
 ·rw [G1n]
  exact(jmx n A B).rise.imp fun z=>by omega
 ·rw [m x,G0N,G0N]
  constructor
  ·rintro ⟨j,hj,e⟩;exact⟨j,(jhF hA hB j).mpr (G0u.mp hj),e⟩
  ·rintro ⟨j,hj,e⟩;exact⟨j,G0u.mpr ((jhF hA hB j).mp hj),e⟩
inductive Made (L:List Nat):Nat→Prop
 |z:Made L 0
 |s {n l:Nat}:Made L n→l∈L→Made L (n+l)
structure Lens (L:List Nat):Prop where
 rise:L.Pairwise (· < ·)
 lo: ∀l∈L,1≤l
 hi: ∀l∈L,l≤12
 some:1≤L.length
 few:L.length≤6
end L2
namespace HT
open PySem PyProof.Rows
section
variable {prog:Program} {w:World} {A:Around} {E:Value→Shared→Prop} {σ α β:Type} {J:Shared→Prop}
def Tm (prog:Program) (w:World) (A:Around) (E:Value→Shared→Prop) (J:Shared→Prop) {σ α:Type} (m:StateT σ Sem α) (Q:α→σ→Prop) (st:σ):Prop:=
 ∀s,J s→wpAny (model prog w) A (m.run st) (fun r s' =>Q r.1 r.2∧J s') E s
theorem Tm.pure {a:α} {Q:α→σ→Prop} {st:σ} (h:Q a st):Tm prog w A E J (Pure.pure a:StateT σ Sem α) Q st:=fun s j=>by
 rw [StateT.run_pure];exact G0e ⟨h,j⟩
theorem Tm.bind {m:StateT σ Sem α} {f:α→StateT σ Sem β} {Q:β→σ→Prop} {st:σ} (h:Tm prog w A E J m (fun a st' =>Tm prog w A E J (f a) Q st') st):Tm prog w A E J (m >>= f) Q st:=fun s j=>by
 rw [StateT.run_bind]
 exact wpAny_bind (G0H (h s j) (fun r s' x=>x.1 s' x.2) fun _ _ e=>e)
theorem Tm.get {Q:σ→σ→Prop} {st:σ} (h:Q st st):Tm prog w A E J (MonadState.get:StateT σ Sem σ) Q st:=fun s j=>by
 show wpAny _ _ ((StateT.get:StateT σ Sem σ).run st) _ _ _
 exact G0e ⟨h,j⟩
theorem Tm.mono {m:StateT σ Sem α} {Q Q' :α→σ→Prop} {st:σ} (h:Tm prog w A E J m Q st) (q: ∀a st',Q a st' →Q' a st'):Tm prog w A E J m Q' st:=fun s j=>
 G0H (h s j) (fun r s' x=>⟨q _ _ x.1,x.2⟩) fun _ _ e=>e
theorem Tm.range' {f:Nat→β→StateT σ Sem (ForInStep β)} (I:Nat→β→σ→Prop) {Q:β→σ→Prop} {b:Nat} (step: ∀i c st,i<b→I i c st→Tm prog w A E J (f i c) (fun r st' =>match r with| .done c' =>Q c' st' | .yield c' =>I (i+1) c' st') st) (fin: ∀c st,I b c st→Q c st):
 ∀ (k i:Nat) (c:β) (st:σ),i+k=b→I i c st→Tm prog w A E J (forIn (List.range' i k) c f) Q st
 |0,i,c,st,e,h=>by
  rw [List.range'_zero,List.forIn_nil]
  exact .pure (fin c st (by rw [←e];exact h))
 |k+1,i,c,st,e,h=>by
  rw [List.range'_succ,G3k]
  refine .bind ((step i c st (by omega) h).mono fun r st' x=> ?_)
  cases r with
  |done c' =>exact .pure x
  |yield c' =>exact Tm.range' I step fin k (i+1) c' st' (by omega) x
theorem Tm.range {f:Nat→β→StateT σ Sem (ForInStep β)} (I:Nat→β→σ→Prop) {Q:β→σ→Prop} {a b:Nat} {c:β} {st:σ} (hab:a≤b) (h:I a c st) (step: ∀i c st,i<b→I i c st→Tm prog w A E J (f i c) (fun r st' =>match r with| .done c' =>Q c' st' | .yield c' =>I (i+1) c' st') st) (fin: ∀c st,I b c st→Q c st):
 Tm prog w A E J (forIn [a:b] c f) Q st:=fun s j=>by
 rw [Std.Legacy.Range.forIn_eq_forIn_range']
 have e:([a:b]:Std.Legacy.Range).size=b-a:=by simp [Std.Legacy.Range.size]
 rw [e]
 exact Tm.range' I step fin (b-a) a c st (by omega) h s j
end
section
variable {prog:Program} {w:World} {A:Around} {E:Value→Shared→Prop} {J:Shared→Prop} {κ:SortKind} {U:Keyed→Prop} {R:Keyed→Keyed→Bool}
def jhp (prog:Program) (w:World) (A:Around) (J:Shared→Prop) (κ:SortKind) (U:Keyed→Prop) (R:Keyed→Keyed→Bool):Prop:=
 ∀x y,U x→U y→ ∀s,J s→wpAny (model prog w) A (keyLt' κ x.1 y.1) (fun b s' =>b=R x y∧J s') (fun _ _=>False) s
theorem Tm.lt {x y:Keyed} {st:SortSt} {Q:Option Bool→SortSt→Prop} (a:jhp prog w A J κ U R) (k:kindOf st=κ) (hx:U x) (hy:U y) (q:Q (some (R x y)) st):Tm prog w A E J (lt' x y) Q st:=by
 rw [lt'_eq]
 refine .bind (.get ?_)
 rw [k]
 intro s j
 rw [StateT.run_bind]
 refine wpAny_bind ?_
 show wpAny _ _ ((StateT.lift _:StateT SortSt Sem _).run st) _ _ _
 rw [StateT.run_lift]
 refine wpAny_bind (G4g (G0H (a x y hx hy s j) (fun b s' x=> ?_) fun _ _ e=>e.elim))
 obtain⟨rfl,j'⟩:=x
 exact G0e (Tm.pure (prog:=prog) (w:=w) (A:=A) (E:=E) (J:=J) q s' j')
theorem Tm.elem {arr:Array Keyed} {i:Nat} {x:Keyed} {st:SortSt} {Q:Keyed→SortSt→Prop} (e:arr[i]? =some x) (q:Q x st):Tm prog w A E J (elem' arr i) Q st:=by
 rw [elem'_eq,e]
 exact .pure q
theorem jqv {n lo hi:Nat} {g:Nat→Bool} {st:SortSt} {f:Nat→Option (Option Nat)×Nat×Nat→StateT SortSt Sem (ForInStep (Option (Option Nat)×Nat×Nat))} (anti: ∀i j,i≤j→j<n→g j=true→g i=true)
 (h1:lo≤hi) (h2:hi≤n) (a1: ∀i,i<lo→g i=true) (a2: ∀i,hi≤i→i<n→g i=false)
 (stop: ∀i l,Tm prog w A E J (f i (none,l,l)) (fun r st' =>st' =st∧r= .done (none,l,l)) st)
 (step: ∀i l u,l<u→u≤n→Tm prog w A E J (f i (none,l,u)) (fun r st' =>st' =st∧r=if g (l+(u-l) / 2)=true then .yield (none,l+(u-l) / 2+1,u) else .yield (none,l,l+(u-l) / 2)) st):
 Tm prog w A E J (forIn [0:n] (none,lo,hi) f) (fun c st' =>st' =st∧c.1=none∧c.2.2≤n∧(∀i,i<c.2.2→g i=true)∧ ∀i,c.2.2≤i→i<n→g i=false) st:=by
 have no: ∀i j,i≤j→j<n→g i=false→g j=false:=fun i j hij hj z=>by
  cases hb:g j with
  |false=>rfl
  |true=>rw [anti i j hij hj hb] at z;cases z
 refine Tm.range (fun i c st' =>st' =st∧c.1=none∧c.2.1≤c.2.2∧c.2.2≤n∧(∀i,i<c.2.1→g i=true)∧(∀i,c.2.2≤i→i<n→g i=false)∧c.2.2-c.2.1+i≤n) (Nat.zero_le _) ⟨rfl,rfl,h1,h2,a1,a2,by dsimp only;omega⟩ ?_ ?_
 ·rintro i ⟨r,l,u⟩ _ hi ⟨rfl,hr,b1,b2,b3,b4,b5⟩
  dsimp only at hr b1 b2 b3 b4 b5
  subst hr
  by_cases z:l=u
  ·subst z
   refine(stop i l).mono ?_
   rintro _ _ ⟨rfl,rfl⟩
   exact⟨rfl,rfl,b2,b3,b4⟩
  ·refine(step i l u (by omega) b2).mono ?_
   rintro _ _ ⟨rfl,rfl⟩
   cases hg:g (l+(u-l) / 2) with
   |true=>
    rw [if_pos rfl]
    exact⟨rfl,rfl,by dsimp only;omega,b2,fun j hj=>anti j _ (by dsimp only at hj;omega) (by omega) hg,b4,by dsimp only;omega⟩
   |false=>
    rw [if_neg (by decide)]
    exact⟨rfl,rfl,by dsimp only;omega,by dsimp only;omega,b3,fun j hj hn=>no _ j hj hn hg,by dsimp only;omega⟩
 ·rintro ⟨r,l,u⟩ _ ⟨rfl,hr,b1,b2,b3,b4,b5⟩
  dsimp only at hr b1 b2 b3 b4 b5 ⊢
  exact⟨rfl,hr,b2,fun j hj=>b3 j (by omega),b4⟩
def gal:Bool→Keyed→Array Keyed→Nat→Nat→Nat→StateT SortSt Sem (Option Nat):=sortPriv% PySem.Builtin.gallop
def byd (R:Keyed→Keyed→Bool) (left:Bool) (key:Keyed) (arr:Array Keyed) (base i:Nat):Bool:=
 match arr[base+i]? with
 |some x=>if left=true then R x key else !R key x
 |none=>false
theorem jkt {left:Bool} {key:Keyed} {arr:Array Keyed} {base n hint:Nat} {st:SortSt} {Q:Option Nat→SortSt→Prop} (a:jhp prog w A J κ U R) (k:kindOf st=κ) (uk:U key) (ua: ∀i,i<n→ ∃x,arr[base+i]? =some x∧U x)
 (anti: ∀i j,i≤j→j<n→byd R left key arr base j=true→byd R left key arr base i=true) (hh:hint<n)
 (q: ∀m,m≤n→(∀i,i<m→byd R left key arr base i=true)→(∀i,m≤i→i<n→byd R left key arr base i=false)→Q (some m) st):Tm prog w A E J (gal left key arr base n hint) Q st:=by
 have ask: ∀i (Q' :Option Bool→SortSt→Prop),i<n→Q' (some (byd R left key arr base i)) st→Tm prog w A E J (do let x ←elem' arr (base+i);if left=true then lt' x key else do let b ←lt' key x;Pure.pure (b.map fun z=> !z)) Q' st:=fun i Q' hi q' =>by
  obtain⟨x,ex,ux⟩:=ua i hi
  refine .bind (.elem ex ?_)
  unfold byd at q'
  rw [ex] at q'
  cases left with
  |true=>exact .lt a k ux uk q'
  |false=>exact .bind (.lt a k uk ux (.pure q'))
 have no: ∀i j,i≤j→j<n→byd R left key arr base i=false→byd R left key arr base j=false:=fun i j hij hj z=>by
  cases hb:byd R left key arr base j with
  |false=>rfl
  |true=>rw [anti i j hij hj hb] at z;cases z
 unfold gal
 refine .bind (ask hint _ hh ?_)
 dsimp only
 cases hb:byd R left key arr base hint with
 |true=>
  rw [if_pos rfl]
  refine .bind (Tm.mono (Tm.range (fun i c st' =>st' =st∧c.1=none∧c.2.1<c.2.2∧hint+c.2.1<n∧byd R left key arr base (hint+c.2.1)=true∧i+1≤c.2.2)
   (Q:=fun c st' =>st' =st∧c.1=none∧c.2.1<c.2.2∧hint+c.2.1<n∧byd R left key arr base (hint+c.2.1)=true∧(n-hint≤c.2.2∨byd R left key arr base (hint+c.2.2)=false)) (G06 _) ⟨rfl,rfl,by decide,by omega,by simpa using hb,by decide⟩ ?_ ?_) ?_)
  ·rintro i ⟨r,lo,of⟩ _ hi ⟨rfl,hr,h1,h2,h3,h4⟩
   dsimp only at hr h1 h2 h3 h4 ⊢
   subst hr
   by_cases z:of≥n-hint
   ·rw [if_pos z]
    exact .pure ⟨rfl,rfl,h1,h2,h3,.inl z⟩
   ·rw [if_neg z]
    refine .bind (ask (hint+of) _ (by omega) ?_)
    dsimp only
    cases hc:byd R left key arr base (hint+of) with
    |true=>exact .pure ⟨rfl,rfl,by dsimp only;omega,by dsimp only;omega,hc,by dsimp only;omega⟩
    |false=>exact .pure ⟨rfl,rfl,h1,h2,h3,.inr hc⟩
  ·rintro ⟨r,lo,of⟩ _ ⟨rfl,hr,h1,h2,h3,h4⟩
   exact⟨rfl,hr,h1,h2,h3,.inl (by dsimp only at h4 ⊢;omega)⟩
  ·rintro ⟨r,lo,of⟩ _ ⟨rfl,hr,h1,h2,h3,h4⟩
   dsimp only at hr h1 h2 h3 h4 ⊢
   subst hr
   dsimp only
   refine .bind (Tm.mono (jqv (g:=byd R left key arr base) anti (by omega) (by omega) (fun i hi=>anti i _ (by omega) h2 h3) (fun i hi hn=> ?_) (fun i l=> ?_) (fun i l u hl hu=> ?_)) ?_)
   ·rcases h4 with z|z
    ·omega
    ·exact no (hint+of) i (by omega) hn z
   ·rw [if_pos (G0f l)]
    exact .pure ⟨rfl,rfl⟩
   ·rw [if_neg (show ¬l≥u by omega)]
    refine .bind (ask (l+(u-l) / 2) _ (by omega) ?_)
    dsimp only
    cases byd R left key arr base (l+(u-l) / 2)<;>exact .pure ⟨rfl,rfl⟩
   ·rintro ⟨r,l,u⟩ _ ⟨rfl,hr,b2,b3,b4⟩
    dsimp only at hr b2 b3 b4 ⊢
    subst hr
    exact .pure (q u b2 b3 b4)
 |false=>
  rw [if_neg (by decide)]
  refine .bind (Tm.mono (Tm.range (fun i c st' =>st' =st∧c.1=none∧c.2.1<c.2.2∧c.2.1≤hint∧byd R left key arr base (hint-c.2.1)=false∧i+1≤c.2.2)
   (Q:=fun c st' =>st' =st∧c.1=none∧c.2.1<c.2.2∧c.2.1≤hint∧byd R left key arr base (hint-c.2.1)=false∧(hint+1≤c.2.2∨byd R left key arr base (hint-c.2.2)=true)) (Nat.zero_le _) ⟨rfl,rfl,by decide,by dsimp only;omega,by simpa using hb,by decide⟩ ?_ ?_) ?_)
  ·rintro i ⟨r,lo,of⟩ _ hi ⟨rfl,hr,h1,h2,h3,h4⟩
   dsimp only at hr h1 h2 h3 h4 ⊢
   subst hr
   by_cases z:of≥hint+1
   ·rw [if_pos z]
    exact .pure ⟨rfl,rfl,h1,h2,h3,.inl z⟩
   ·rw [if_neg z]
    refine .bind (ask (hint-of) _ (by omega) ?_)
    dsimp only
    cases hc:byd R left key arr base (hint-of) with
    |false=>exact .pure ⟨rfl,rfl,by dsimp only;omega,by dsimp only;omega,hc,by dsimp only;omega⟩
    |true=>exact .pure ⟨rfl,rfl,h1,h2,h3,.inr hc⟩
  ·rintro ⟨r,lo,of⟩ _ ⟨rfl,hr,h1,h2,h3,h4⟩
   exact⟨rfl,hr,h1,h2,h3,.inl (by dsimp only at h4 ⊢;omega)⟩
  ·rintro ⟨r,lo,of⟩ _ ⟨rfl,hr,h1,h2,h3,h4⟩
   dsimp only at hr h1 h2 h3 h4 ⊢
   subst hr
   dsimp only
   refine .bind (Tm.mono (jqv (g:=byd R left key arr base) anti (by omega) (by omega) (fun i hi=> ?_) (fun i hi hn=>no _ i hi hn h3) (fun i l=> ?_) (fun i l u hl hu=> ?_)) ?_)
   ·rcases h4 with z|z
    ·omega
    ·exact anti i (hint-of) (by omega) (by omega) z
   ·rw [if_pos (G0f l)]
    exact .pure ⟨rfl,rfl⟩
   ·rw [if_neg (show ¬l≥u by omega)]
    refine .bind (ask (l+(u-l) / 2) _ (by omega) ?_)
    dsimp only
    cases byd R left key arr base (l+(u-l) / 2)<;>exact .pure ⟨rfl,rfl⟩
   ·rintro ⟨r,l,u⟩ _ ⟨rfl,hr,b2,b3,b4⟩
    dsimp only at hr b2 b3 b4 ⊢
    subst hr
    exact .pure (q u b2 b3 b4)
end
section
variable {κ:Type} {U:κ→Prop} {R:κ→κ→Bool} {al bl:List κ}
structure Ordd (U:κ→Prop) (R:κ→κ→Bool):Prop where
 asym: ∀x y,U x→U y→R x y=true→R y x=false
 neg: ∀x y z,U x→U y→U z→R x z=true→R x y=true∨R y z=true
theorem Ordd.refl (o:Ordd U R) {x:κ} (u:U x):R x x=false:=by
 cases h:R x x with
 |false=>rfl
 |true=>have:=o.asym x x u u h;rw [h] at this;exact this
theorem Ordd.trans (o:Ordd U R) {x y z:κ} (ux:U x) (uy:U y) (uz:U z) (a:R y x=false) (b:R z y=false):R z x=false:=by
 cases h:R z x with
 |false=>rfl
 |true=>
  rcases o.neg z y x uz uy ux h with z|z
  ·rw [b] at z;cases z
  ·rw [a] at z;cases z
abbrev Srt (R:κ→κ→Bool) (l:List κ):Prop:=l.Pairwise fun x y=>R y x=false
structure MI (R:κ→κ→Bool) (al bl:List κ) (ia ib:Nat) (out:List κ):Prop where
 perm:out.Perm (al.take ia++bl.take ib)
 srt:Srt R out
 ra: ∀x∈out,∀y∈al.drop ia,R y x=false
 rb: ∀x∈out,∀y∈bl.drop ib,R y x=false
theorem jas {l:List κ} {i:Nat} {y:κ} (h:l[i]? =some y):l.drop i=y::l.drop (i+1):=by
 obtain⟨hi,e⟩:=G0k.mp h
 rw [List.drop_eq_getElem_cons hi,e]
theorem jch {l:List κ} {i:Nat} {y:κ} (h:l[i]? =some y):l.take (i+1)=l.take i++ [y]:=by
 rw [G1E,h];rfl
theorem MI.start (al bl:List κ):MI R al bl 0 0 []:=⟨.refl _,.nil,fun x hx=>(G05 hx).elim,fun x hx=>(G05 hx).elim⟩
theorem MI.pushB {ia ib:Nat} {out:List κ} {y:κ} (m:MI R al bl ia ib out) (o:Ordd U R) (ua: ∀x∈al,U x) (ub: ∀x∈bl,U x) (sa:Srt R al) (sb:Srt R bl) (hy:bl[ib]? =some y) (lt: ∀z,al[ia]? =some z→R y z=true):MI R al bl ia (ib+1) (out++ [y]):=by
 have dy:=jas hy
 have uy:=ub y (G0i hy)
 have sdb:Srt R (bl.drop ib):=sb.sublist (G1X _ _)
 rw [dy] at sdb
 refine⟨?_,?_,fun x hx z hz=> ?_,fun x hx z hz=> ?_⟩
 ·rw [jch hy,←G0j]
  exact m.perm.append_right _
 ·refine G0V.mpr ⟨m.srt,G09 _ _,fun x hx z hz=> ?_⟩
  rw [G0g.mp hz]
  exact m.rb x hx y (by rw [dy];exact G0t ..)
 ·rcases G0u.mp hx with w|w
  ·exact m.ra x w z hz
  ·rw [G0g.mp w]
   cases e:al[ia]? with
   |none=>rw [G1J (G32.mp e)] at hz;cases hz
   |some a0=>
    have da:=jas e
    have ua0:=ua a0 (G0i e)
    have sda:Srt R (al.drop ia):=sa.sublist (G1X _ _)
    rw [da] at sda hz
    have l0:=o.asym y a0 uy ua0 (lt a0 e)
    rcases G0n.mp hz with v|v
    ·rw [v];exact l0
    ·exact o.trans uy ua0 (ua z (G1q v)) l0 ((G1S.mp sda).1 z v)
 ·rcases G0u.mp hx with w|w
  ·exact m.rb x w z (by rw [dy];exact G0y _ hz)
  ·rw [G0g.mp w]
   exact(G1S.mp sdb).1 z hz
theorem MI.pushA {ia ib:Nat} {out:List κ} {y:κ} (m:MI R al bl ia ib out) (o:Ordd U R) (ua: ∀x∈al,U x) (ub: ∀x∈bl,U x) (sa:Srt R al) (sb:Srt R bl) (hy:al[ia]? =some y) (ge: ∀z,bl[ib]? =some z→R z y=false):MI R al bl (ia+1) ib (out++ [y]):=by
 have dy:=jas hy
 have uy:=ua y (G0i hy)
 have sda:Srt R (al.drop ia):=sa.sublist (G1X _ _)
 rw [dy] at sda
 refine⟨?_,?_,fun x hx z hz=> ?_,fun x hx z hz=> ?_⟩
 ·rw [jch hy]
  refine(m.perm.append_right [y]).trans ?_
  rw [G0j,G0j]
  exact(G2X).append_left _
 ·refine G0V.mpr ⟨m.srt,G09 _ _,fun x hx z hz=> ?_⟩
  rw [G0g.mp hz]
  exact m.ra x hx y (by rw [dy];exact G0t ..)
 ·rcases G0u.mp hx with w|w
  ·exact m.ra x w z (by rw [dy];exact G0y _ hz)
  ·rw [G0g.mp w]
   exact(G1S.mp sda).1 z hz
 ·rcases G0u.mp hx with w|w
  ·exact m.rb x w z hz
  ·rw [G0g.mp w]
   cases e:bl[ib]? with
   |none=>rw [G1J (G32.mp e)] at hz;cases hz
   |some b0=>
    have db:=jas e
    have ub0:=ub b0 (G0i e)
    have sdb:Srt R (bl.drop ib):=sb.sublist (G1X _ _)
    rw [db] at sdb hz
    have l0:=ge b0 e
    rcases G0n.mp hz with v|v
    ·rw [v];exact l0
    ·exact o.trans uy ub0 (ub z (G1q v)) l0 ((G1S.mp sdb).1 z v)
theorem MI.manyA {ib:Nat} (o:Ordd U R) (ua: ∀x∈al,U x) (ub: ∀x∈bl,U x) (sa:Srt R al) (sb:Srt R bl): ∀ (k:Nat) {ia:Nat} {out:List κ},MI R al bl ia ib out→ia+k≤al.length→(∀i,i<k→ ∀y,al[ia+i]? =some y→ ∀z,bl[ib]? =some z→R z y=false)→MI R al bl (ia+k) ib (out++(al.drop ia).take k)
 |0,ia,out,m,_,_=>by rw [G33,G1s];exact m
 |k+1,ia,out,m,hk,h=>by
  obtain⟨y,hy⟩: ∃y,al[ia]? =some y:=⟨_,G0c (by omega)⟩
  have m1:=m.pushA o ua ub sa sb hy (h 0 (by omega) y hy)
  have:=MI.manyA o ua ub sa sb k m1 (by omega) (fun i hi y hy=>h (i+1) (by omega) y (by rw [show ia+(i+1)=ia+1+i by omega];exact hy))
  rw [show ia+(k+1)=ia+1+k by omega,jas hy,List.take_succ_cons,List.append_cons]
  exact this
theorem MI.manyB {ia:Nat} (o:Ordd U R) (ua: ∀x∈al,U x) (ub: ∀x∈bl,U x) (sa:Srt R al) (sb:Srt R bl): ∀ (k:Nat) {ib:Nat} {out:List κ},MI R al bl ia ib out→ib+k≤bl.length→(∀i,i<k→ ∀y,bl[ib+i]? =some y→ ∀z,al[ia]? =some z→R y z=true)→MI R al bl ia (ib+k) (out++(bl.drop ib).take k)
 |0,ib,out,m,_,_=>by rw [G33,G1s];exact m
 |k+1,ib,out,m,hk,h=>by
  obtain⟨y,hy⟩: ∃y,bl[ib]? =some y:=⟨_,G0c (by omega)⟩
  have m1:=m.pushB o ua ub sa sb hy (h 0 (by omega) y hy)
  have:=MI.manyB o ua ub sa sb k m1 (by omega) (fun i hi y hy=>h (i+1) (by omega) y (by rw [show ib+(i+1)=ib+1+i by omega];exact hy))
  rw [show ib+(k+1)=ib+1+k by omega,jas hy,List.take_succ_cons,List.append_cons]
  exact this
theorem MI.all {out:List κ} (m:MI R al bl al.length bl.length out):out.Perm (al++bl)∧Srt R out:=by
 have:=m.perm
 rw [G3G,G3G] at this
 exact⟨this,m.srt⟩
theorem MI.done {ia ib:Nat} {out:List κ} (m:MI R al bl ia ib out) (o:Ordd U R) (ua: ∀x∈al,U x) (ub: ∀x∈bl,U x) (sa:Srt R al) (sb:Srt R bl) (ha:ia≤al.length) (hb:ib≤bl.length) (h:ia=al.length∨ib=bl.length):(out++al.drop ia++bl.drop ib).Perm (al++bl)∧Srt R (out++al.drop ia++bl.drop ib):=by
 have m1:=MI.manyA o ua ub sa sb (al.length-ia) m (by omega) (fun i hi y hy z hz=>by
  have:=(G0k.mp hz).1
  omega)
 rw [show ia+(al.length-ia)=al.length by omega,G0F (by rw [G0X];exact G0f _)] at m1
 have m2:=MI.manyB o ua ub sa sb (bl.length-ib) m1 (by omega) (fun i hi y hy z hz=>by
  have:=(G0k.mp hz).1
  omega)
 rw [show ib+(bl.length-ib)=bl.length by omega,G0F (l:=bl.drop ib) (by rw [G0X];exact G0f _)] at m2
 exact m2.all
theorem MI.lastA {ia ib:Nat} {out:List κ} (m:MI R al bl ia ib out) (o:Ordd U R) (ua: ∀x∈al,U x) (ub: ∀x∈bl,U x) (sa:Srt R al) (sb:Srt R bl) (ha:ia+1=al.length) (hb:ib≤bl.length) (h: ∀y∈bl,∀z,al[al.length-1]? =some z→R y z=true):(out++bl.drop ib++al.drop ia).Perm (al++bl)∧Srt R (out++bl.drop ib++al.drop ia):=by
 have m2:=MI.manyB o ua ub sa sb (bl.length-ib) m (by omega) (fun i hi y hy z hz=>h y (G0i hy) z (by rw [←ha];exact hz))
 rw [show ib+(bl.length-ib)=bl.length by omega,G0F (by rw [G0X];exact G0f _)] at m2
 have m1:=MI.manyA o ua ub sa sb (al.length-ia) m2 (by omega) (fun i hi y hy z hz=>by
  have:=(G0k.mp hz).1
  omega)
 rw [show ia+(al.length-ia)=al.length by omega,G0F (l:=al.drop ia) (by rw [G0X];exact G0f _)] at m1
 exact m1.all
end
section
variable {prog:Program} {w:World} {A:Around} {E:Value→Shared→Prop} {J:Shared→Prop} {κ:SortKind} {U:Keyed→Prop} {R:Keyed→Keyed→Bool}
theorem Tm.rule {σ:Type} {x:String} {Q:Unit→σ→Prop} {st:σ} (q:Q () st):Tm prog w A E J (liftM (PySem.rule x):StateT σ Sem Unit) Q st:=fun s j=>by
 show wpAny _ _ ((StateT.lift _:StateT σ Sem _).run st) _ _ _
 rw [StateT.run_lift]
 exact wpAny_bind (G3L (G0e ⟨q,j⟩))
theorem Tm.modify {σ:Type} {f:σ→σ} {Q:Unit→σ→Prop} {st:σ} (q:Q () (f st)):Tm prog w A E J (_root_.modify f:StateT σ Sem PUnit) Q st:=fun s j=>by
 rw [StateT.run_modify]
 exact G0e ⟨q,j⟩
def mLo:Array Keyed→Array Keyed→StateT SortSt Sem (Array Keyed):=sortPriv% PySem.Builtin.mergeLo
def Gal (st st' :SortSt):Prop:=kindOf st' =kindOf st∧arrOf st' =arrOf st∧pendingOf st' =pendingOf st∧failedOf st' =failedOf st
theorem Gal.refl (st:SortSt):Gal st st:=⟨rfl,rfl,rfl,rfl⟩
theorem jeb (a:Array Keyed) (i:Nat):(a.extract i).toList=a.toList.drop i:=by
 rw [G2z,List.extract_eq_drop_take]
 exact G0F (by simp)
theorem jig (a:Array Keyed) (i k:Nat):(a.extract i (i+k)).toList=(a.toList.drop i).take k:=by
 rw [G2z,List.extract_eq_drop_take,G4k]
def jcG (R:Keyed→Keyed→Bool) (a b c:Array Keyed):Prop:=c.toList.Perm (a.toList++b.toList)∧Srt R c.toList
structure Two (U:Keyed→Prop) (R:Keyed→Keyed→Bool) (a b:Array Keyed):Prop where
 o:Ordd U R
 ua: ∀x∈a.toList,U x
 ub: ∀x∈b.toList,U x
 sa:Srt R a.toList
 sb:Srt R b.toList
 last: ∀y∈b.toList,∀z,a.toList[a.toList.length-1]? =some z→R y z=true
abbrev MA (R:Keyed→Keyed→Bool) (a b:Array Keyed) (ia ib:Nat) (out:Array Keyed):Prop:=MI R a.toList b.toList ia ib out.toList
section
variable {a b out:Array Keyed} {ia ib:Nat}
theorem MA.done (t:Two U R a b) (m:MA R a b ia ib out) (ha:ia≤a.size) (hb:ib≤b.size) (h:ia=a.size∨ib=b.size):jcG R a b (out++a.extract ia++b.extract ib):=by
 have:=MI.done m t.o t.ua t.ub t.sa t.sb (by simpa using ha) (by simpa using hb) (by simpa using h)
 unfold jcG
 rw [G07,G07,jeb,jeb]
 exact this
theorem MA.lastA (t:Two U R a b) (m:MA R a b ia ib out) (ha:ia+1=a.size) (hb:ib≤b.size):jcG R a b (out++b.extract ib++a.extract ia):=by
 have:=MI.lastA m t.o t.ua t.ub t.sa t.sb (by simpa using ha) (by simpa using hb) t.last
 unfold jcG
 rw [G07,G07,jeb,jeb]
 exact this
theorem MA.pushB (t:Two U R a b) {y:Keyed} (m:MA R a b ia ib out) (hy:b.toList[ib]? =some y) (lt: ∀z,a.toList[ia]? =some z→R y z=true):MA R a b ia (ib+1) (out.push y):=by
 have:=MI.pushB m t.o t.ua t.ub t.sa t.sb hy lt
 show MI R _ _ _ _ (out.push y).toList
 rw [G1F];exact this
theorem MA.pushA (t:Two U R a b) {y:Keyed} (m:MA R a b ia ib out) (hy:a.toList[ia]? =some y) (ge: ∀z,b.toList[ib]? =some z→R z y=false):MA R a b (ia+1) ib (out.push y):=by
 have:=MI.pushA m t.o t.ua t.ub t.sa t.sb hy ge
 show MI R _ _ _ _ (out.push y).toList
 rw [G1F];exact this
theorem MA.manyA (t:Two U R a b) (m:MA R a b ia ib out) (k:Nat) (hk:ia+k≤a.size) (h: ∀i,i<k→ ∀y,a.toList[ia+i]? =some y→ ∀z,b.toList[ib]? =some z→R z y=false):MA R a b (ia+k) ib (out++a.extract ia (ia+k)):=by
 have:=MI.manyA t.o t.ua t.ub t.sa t.sb k m (by simpa using hk) h
 show MI R _ _ _ _ (out++a.extract ia (ia+k)).toList
 rw [G07,jig];exact this
theorem MA.manyB (t:Two U R a b) (m:MA R a b ia ib out) (k:Nat) (hk:ib+k≤b.size) (h: ∀i,i<k→ ∀y,b.toList[ib+i]? =some y→ ∀z,a.toList[ia]? =some z→R y z=true):MA R a b ia (ib+k) (out++b.extract ib (ib+k)):=by
 have:=MI.manyB t.o t.ua t.ub t.sa t.sb k m (by simpa using hk) h
 show MI R _ _ _ _ (out++b.extract ib (ib+k)).toList
 rw [G07,jig];exact this
end
theorem jcA {left:Bool} {key x:Keyed} {arr:Array Keyed} {base i:Nat} (h:arr.toList[base+i]? =some x):byd R left key arr base i=if left=true then R x key else !R key x:=by
 unfold byd
 rw [←G0K,h]
theorem jeI {l:List Keyed} (s:Srt R l) (o:Ordd U R) (u: ∀x∈l,U x) {i j:Nat} {x y:Keyed} (hij:i≤j) (hx:l[i]? =some x) (hy:l[j]? =some y):R y x=false:=by
 by_cases z:i=j
 ·subst z
  rw [hx] at hy;injection hy with hy;subst hy
  exact o.refl (u x (G0i hx))
 ·obtain⟨h1,e1⟩:=G0k.mp hx
  obtain⟨h2,e2⟩:=G0k.mp hy
  have:=G1k.mp s i j h1 h2 (by omega)
  rw [e1,e2] at this;exact this
theorem jeJ {arr:Array Keyed} {i:Nat} (h:i<arr.size): ∃x,arr.toList[i]? =some x∧arr[i]? =some x:=⟨arr[i],by simp [h],by simp [h]⟩
theorem jsy {arr:Array Keyed} {y:Keyed} {base n hint:Nat} {st:SortSt} {Q:Option Nat→SortSt→Prop} (ak:jhp prog w A J κ U R) (kd:kindOf st=κ) (o:Ordd U R) (u: ∀x∈arr.toList,U x) (s:Srt R arr.toList) (uy:U y) (hn:base+n≤arr.size) (hh:hint<n)
 (q: ∀k,k≤n→(∀i,i<k→ ∀x,arr.toList[base+i]? =some x→R y x=false)→(∀i,k≤i→i<n→ ∀x,arr.toList[base+i]? =some x→R y x=true)→Q (some k) st):Tm prog w A E J (gal false y arr base n hint) Q st:=by
 refine jkt ak kd uy (fun i hi=> ?_) (fun i j hij hj h=> ?_) hh (fun k k1 k2 k3=>q k k1 (fun i hi x hx=> ?_) (fun i h1 h2 x hx=> ?_))
 ·obtain⟨x,lx,ex⟩:=jeJ (show base+i<arr.size by omega)
  exact⟨x,ex,u x (G0i lx)⟩
 ·obtain⟨x,lx,_⟩:=jeJ (show base+i<arr.size by omega)
  obtain⟨z,lz,_⟩:=jeJ (show base+j<arr.size by omega)
  rw [jcA lz] at h
  rw [jcA lx]
  have hz:R y z=false:=by simpa using h
  have:=o.trans (u x (G0i lx)) (u z (G0i lz)) uy (jeI s o u (by omega) lx lz) hz
  simp [this]
 ·have:=k2 i hi
  rw [jcA hx] at this
  simpa using this
 ·have:=k3 i h1 h2
  rw [jcA hx] at this
  simpa using this
theorem jq2 {arr:Array Keyed} {y:Keyed} {base n hint:Nat} {st:SortSt} {Q:Option Nat→SortSt→Prop} (ak:jhp prog w A J κ U R) (kd:kindOf st=κ) (o:Ordd U R) (u: ∀x∈arr.toList,U x) (s:Srt R arr.toList) (uy:U y) (hn:base+n≤arr.size) (hh:hint<n)
 (q: ∀k,k≤n→(∀i,i<k→ ∀x,arr.toList[base+i]? =some x→R x y=true)→(∀i,k≤i→i<n→ ∀x,arr.toList[base+i]? =some x→R x y=false)→Q (some k) st):Tm prog w A E J (gal true y arr base n hint) Q st:=by
 refine jkt ak kd uy (fun i hi=> ?_) (fun i j hij hj h=> ?_) hh (fun k k1 k2 k3=>q k k1 (fun i hi x hx=> ?_) (fun i h1 h2 x hx=> ?_))
 ·obtain⟨x,lx,ex⟩:=jeJ (show base+i<arr.size by omega)
  exact⟨x,ex,u x (G0i lx)⟩
 ·obtain⟨x,lx,_⟩:=jeJ (show base+i<arr.size by omega)
  obtain⟨z,lz,_⟩:=jeJ (show base+j<arr.size by omega)
  rw [jcA lz] at h
  rw [jcA lx]
  have hz:R z y=true:=by simpa using h
  rcases o.neg z x y (u z (G0i lz)) (u x (G0i lx)) uy hz with v|v
  ·rw [jeI s o u (by omega) lx lz] at v;cases v
  ·simp [v]
 ·have:=k2 i hi
  rw [jcA hx] at this
  simpa using this
 ·have:=k3 i h1 h2
  rw [jcA hx] at this
  simpa using this
theorem jqw {a b:Array Keyed} {st:SortSt} {Q:Array Keyed→SortSt→Prop} (ak:jhp prog w A J κ U R) (kd:kindOf st=κ) (t:Two U R a b)
 (na:1≤a.size) (nb:1≤b.size) (first: ∀y z,b.toList[0]? =some y→a.toList[0]? =some z→R y z=true)
 (q: ∀c st',Gal st st' →jcG R a b c→Q c st'):Tm prog w A E J (mLo a b) Q st:=by
 have gb: ∀i,i<b.size→ ∃y,b[i]? =some y∧b.toList[i]? =some y∧U y:=fun i hi=>⟨b[i],by simp [hi],by simp [hi],t.ub _ (by simp)⟩
 have ga: ∀i,i<a.size→ ∃y,a[i]? =some y∧a.toList[i]? =some y∧U y:=fun i hi=>⟨a[i],by simp [hi],by simp [hi],t.ua _ (by simp)⟩
 unfold mLo
 refine .bind (.rule ?_)
 obtain⟨b0,eb0,lb0,ub0⟩:=gb 0 (by omega)
 refine .bind (.elem eb0 ?_)
 have m0:MA R a b 0 1 #[b0]:=MA.pushB t (out:= #[]) (MI.start _ _) lb0 (fun z hz=>first _ z lb0 hz)
 dsimp only
 by_cases z1:1=b.size
 ·rw [if_pos (by simpa using z1)]
  exact .pure (q _ _ (Gal.refl st) (MA.done t m0 (G06 _) (by omega) (.inr z1)))
 rw [if_neg (by simpa using z1)]
 by_cases z2:0+1=a.size
 ·rw [if_pos (by simpa using z2)]
  exact .pure (q _ _ (Gal.refl st) (MA.lastA t m0 z2 (by omega)))
 rw [if_neg (by simpa using z2)]
 refine .bind (.get ?_)
 refine .bind (Tm.mono (Tm.range (fun i c st' =>Gal st st' ∧c.1=none∧MA R a b c.2.2.1 c.2.2.2.1 c.2.1∧c.2.2.1+1<a.size∧c.2.2.2.1<b.size∧i+1≤c.2.2.1+c.2.2.2.1)
  (Q:=fun c st' =>Gal st st' ∧ ∃r,c.1=some r∧jcG R a b r) (Nat.zero_le _) ⟨Gal.refl st,rfl,m0,by dsimp only;omega,by dsimp only;omega,by dsimp only;omega⟩ ?_ ?_) ?_)
 ·rintro i ⟨r,out,ia,ib,mg⟩ st1 hi ⟨gl,hr,m,h1,h2,h3⟩
  dsimp only at hr m h1 h2 h3 ⊢
  subst hr
  refine .bind (Tm.mono (Tm.range (fun j c st' =>Gal st st' ∧c.1=none∧MA R a b c.2.2.1 c.2.2.2.1 c.2.1∧c.2.2.1+1<a.size∧c.2.2.2.1<b.size∧ia+ib+j≤c.2.2.1+c.2.2.2.1)
   (Q:=fun c st' =>Gal st st' ∧((∃r,c.1=some r∧jcG R a b r)∨(c.1=none∧MA R a b c.2.2.1 c.2.2.2.1 c.2.1∧c.2.2.1+1<a.size∧c.2.2.2.1<b.size∧ia+ib+1≤c.2.2.1+c.2.2.2.1))) (Nat.zero_le _) ⟨gl,rfl,m,h1,h2,by dsimp only;omega⟩ ?_ ?_) ?_)
  ·clear m h1 h2
   rintro j ⟨r,out,ja,jb,ac,bc⟩ st2 hj ⟨gl2,hr,m,h1,h2,h4⟩
   dsimp only at hr m h1 h2 h4 ⊢
   subst hr
   obtain⟨y,ey,ly,uy⟩:=gb jb h2
   obtain⟨x,ex,lx,ux⟩:=ga ja (by omega)
   refine .bind (.elem ey (.bind (.elem ex (.bind (.lt ak (gl2.1.trans kd) uy ux ?_)))))
   dsimp only
   cases hb:R y x with
   |true=>
    rw [if_pos rfl]
    refine .bind (.elem ey ?_)
    have m1:=MA.pushB t m ly (fun z hz=>by rw [lx] at hz;injection hz with hz;rw [←hz];exact hb)
    by_cases c1:jb+1=b.size
    ·rw [if_pos (by simpa using c1)]
     exact .pure ⟨gl2,.inl ⟨_,rfl,MA.done t m1 (by omega) (by omega) (.inr c1)⟩⟩
    rw [if_neg (by simpa using c1)]
    split
    ·exact .pure ⟨gl2,.inr ⟨rfl,m1,h1,by dsimp only;omega,by dsimp only;omega⟩⟩
    ·exact .pure ⟨gl2,rfl,m1,h1,by dsimp only;omega,by dsimp only;omega⟩
   |false=>
    rw [if_neg (by decide)]
    refine .bind (.elem ex ?_)
    have m1:=MA.pushA t m lx (fun z hz=>by rw [ly] at hz;injection hz with hz;rw [←hz];exact hb)
    by_cases c1:ja+1+1=a.size
    ·rw [if_pos (by simpa using c1)]
     exact .pure ⟨gl2,.inl ⟨_,rfl,MA.lastA t m1 c1 (by omega)⟩⟩
    rw [if_neg (by simpa using c1)]
    split
    ·exact .pure ⟨gl2,.inr ⟨rfl,m1,by dsimp only;omega,h2,by dsimp only;omega⟩⟩
    ·exact .pure ⟨gl2,rfl,m1,by dsimp only;omega,h2,by dsimp only;omega⟩
  ·rintro ⟨r,out,ja,jb,ac,bc⟩ st2 ⟨gl2,hr,m,h1,h2,h4⟩
   dsimp only at h1 h2 h4
   omega
  ·clear m h1 h2
   rintro ⟨r,out,ja,jb,ac,bc⟩ st2 ⟨gl2,⟨c,hr,wh⟩|⟨hr,m,h1,h2,h4⟩⟩
   ·dsimp only at hr ⊢
    subst hr
    exact .pure ⟨gl2,c,rfl,wh⟩
   dsimp only at hr m h1 h2 h4 ⊢
   subst hr
   refine .bind (.rule ?_)
   refine .bind (Tm.mono (Tm.range (fun j c st' =>Gal st st' ∧c.1=none∧MA R a b c.2.2.1 c.2.2.2.1 c.2.1∧c.2.2.1+1<a.size∧c.2.2.2.1<b.size∧ja+jb+j≤c.2.2.1+c.2.2.2.1)
    (Q:=fun c st' =>Gal st st' ∧((∃r,c.1=some r∧jcG R a b r)∨(c.1=none∧MA R a b c.2.2.1 c.2.2.2.1 c.2.1∧c.2.2.1+1<a.size∧c.2.2.2.1<b.size∧ja+jb≤c.2.2.1+c.2.2.2.1))) (Nat.zero_le _) ⟨gl2,rfl,m,h1,h2,by dsimp only;omega⟩ ?_ ?_) ?_)
   ·clear m h1 h2 gl2
    rintro j ⟨r,out,pa,pb,mg,ac,bc⟩ st2 hj ⟨gl2,hr,m,h1,h2,h5⟩
    dsimp only at hr m h1 h2 h5 ⊢
    subst hr
    obtain⟨y,ey,ly,uy⟩:=gb pb h2
    by_cases zg:mg>1
    all_goals
     first|rw [if_pos zg]|rw [if_neg zg]
     refine .bind (Tm.modify ?_)
     refine .bind (.elem ey (.bind (jsy ak (gl2.1.trans kd) t.o t.ua t.sa uy (by omega) (by omega) fun k k1 k2 k3=> ?_)))
     dsimp only
     have m1:=MA.manyA t m k (by omega) (fun i hi x hx z hz=>by rw [ly] at hz;injection hz with hz;rw [←hz];exact k2 i hi x hx)
     by_cases kz:k>0
     ·rw [if_pos kz]
      by_cases c1:pa+k+1=a.size
      ·rw [if_pos (by simpa using c1)]
       exact .pure ⟨gl2,.inl ⟨_,rfl,MA.lastA t m1 c1 (by omega)⟩⟩
      rw [if_neg (by simpa using c1)]
      by_cases c2:pa+k=a.size
      ·rw [if_pos (by simpa using c2)]
       exact .pure ⟨gl2,.inl ⟨_,rfl,MA.done t m1 (by omega) (by omega) (.inl c2)⟩⟩
      rw [if_neg (by simpa using c2)]
      have P1:pa+k+1<a.size:=by omega
      have M2:=MA.pushB t m1 ly (fun x hx=>k3 k (G0f _) (by omega) x hx)
      refine .bind (.elem ey ?_)
      by_cases c3:pb+1=b.size
      ·rw [if_pos (by simpa using c3)]
       exact .pure ⟨gl2,.inl ⟨_,rfl,MA.done t M2 (by omega) (by omega) (.inr c3)⟩⟩
      rw [if_neg (by simpa using c3)]
      obtain⟨x,ex,lx,ux⟩:=ga (pa+k) (by omega)
      refine .bind (.elem ex (.bind (jq2 ak (gl2.1.trans kd) t.o t.ub t.sb ux (by omega) (by omega) fun k' q1 q2 q3=> ?_)))
      dsimp only
      have M3:=MA.manyB t M2 k' (by omega) (fun i hi y' hy z hz=>by rw [lx] at hz;injection hz with hz;rw [←hz];exact q2 i hi y' hy)
      by_cases kz' :k' >0
      ·rw [if_pos kz']
       by_cases c4:pb+1+k' =b.size
       ·rw [if_pos (by simpa using c4)]
        exact .pure ⟨gl2,.inl ⟨_,rfl,MA.done t M3 (by omega) (by omega) (.inr c4)⟩⟩
       rw [if_neg (by simpa using c4)]
       refine .bind (.elem ex ?_)
       have M4:=MA.pushA t M3 lx (fun z hz=>q3 k' (G0f _) (by omega) z hz)
       by_cases c5:pa+k+1+1=a.size
       ·rw [if_pos (by simpa using c5)]
        exact .pure ⟨gl2,.inl ⟨_,rfl,MA.lastA t M4 c5 (by omega)⟩⟩
       rw [if_neg (by simpa using c5)]
       by_cases c6:(decide (k<7)&&decide (k' <7))=true
       ·rw [if_pos c6]
        exact .pure ⟨gl2,.inr ⟨rfl,M4,by dsimp only;omega,by dsimp only;omega,by dsimp only;omega⟩⟩
       ·rw [if_neg c6]
        exact .pure ⟨gl2,rfl,M4,by dsimp only;omega,by dsimp only;omega,by dsimp only;omega⟩
      ·rw [if_neg kz']
       refine .bind (.elem ex ?_)
       have M4:=MA.pushA t M2 lx (fun z hz=>q3 0 (by omega) (by omega) z hz)
       by_cases c5:pa+k+1+1=a.size
       ·rw [if_pos (by simpa using c5)]
        exact .pure ⟨gl2,.inl ⟨_,rfl,MA.lastA t M4 c5 (by omega)⟩⟩
       rw [if_neg (by simpa using c5)]
       by_cases c6:(decide (k<7)&&decide (k' <7))=true
       ·rw [if_pos c6]
        exact .pure ⟨gl2,.inr ⟨rfl,M4,by dsimp only;omega,by dsimp only;omega,by dsimp only;omega⟩⟩
       ·rw [if_neg c6]
        exact .pure ⟨gl2,rfl,M4,by dsimp only;omega,by dsimp only;omega,by dsimp only;omega⟩
     ·rw [if_neg kz]
      have k0:k=0:=by omega
      have P1:pa+1<a.size:=h1
      have M2:=MA.pushB t m ly (fun x hx=>k3 0 (by omega) (by omega) x hx)
      refine .bind (.elem ey ?_)
      by_cases c3:pb+1=b.size
      ·rw [if_pos (by simpa using c3)]
       exact .pure ⟨gl2,.inl ⟨_,rfl,MA.done t M2 (by omega) (by omega) (.inr c3)⟩⟩
      rw [if_neg (by simpa using c3)]
      obtain⟨x,ex,lx,ux⟩:=ga (pa) (by omega)
      refine .bind (.elem ex (.bind (jq2 ak (gl2.1.trans kd) t.o t.ub t.sb ux (by omega) (by omega) fun k' q1 q2 q3=> ?_)))
      dsimp only
      have M3:=MA.manyB t M2 k' (by omega) (fun i hi y' hy z hz=>by rw [lx] at hz;injection hz with hz;rw [←hz];exact q2 i hi y' hy)
      by_cases kz' :k' >0
      ·rw [if_pos kz']
       by_cases c4:pb+1+k' =b.size
       ·rw [if_pos (by simpa using c4)]
        exact .pure ⟨gl2,.inl ⟨_,rfl,MA.done t M3 (by omega) (by omega) (.inr c4)⟩⟩
       rw [if_neg (by simpa using c4)]
       refine .bind (.elem ex ?_)
       have M4:=MA.pushA t M3 lx (fun z hz=>q3 k' (G0f _) (by omega) z hz)
       by_cases c5:pa+1+1=a.size
       ·rw [if_pos (by simpa using c5)]
        exact .pure ⟨gl2,.inl ⟨_,rfl,MA.lastA t M4 c5 (by omega)⟩⟩
       rw [if_neg (by simpa using c5)]
       by_cases c6:(decide (k<7)&&decide (k' <7))=true
       ·rw [if_pos c6]
        exact .pure ⟨gl2,.inr ⟨rfl,M4,by dsimp only;omega,by dsimp only;omega,by dsimp only;omega⟩⟩
       ·rw [if_neg c6]
        exact .pure ⟨gl2,rfl,M4,by dsimp only;omega,by dsimp only;omega,by dsimp only;omega⟩
      ·rw [if_neg kz']
       refine .bind (.elem ex ?_)
       have M4:=MA.pushA t M2 lx (fun z hz=>q3 0 (by omega) (by omega) z hz)
       by_cases c5:pa+1+1=a.size
       ·rw [if_pos (by simpa using c5)]
        exact .pure ⟨gl2,.inl ⟨_,rfl,MA.lastA t M4 c5 (by omega)⟩⟩
       rw [if_neg (by simpa using c5)]
       by_cases c6:(decide (k<7)&&decide (k' <7))=true
       ·rw [if_pos c6]
        exact .pure ⟨gl2,.inr ⟨rfl,M4,by dsimp only;omega,by dsimp only;omega,by dsimp only;omega⟩⟩
       ·rw [if_neg c6]
        exact .pure ⟨gl2,rfl,M4,by dsimp only;omega,by dsimp only;omega,by dsimp only;omega⟩
   ·rintro ⟨r,out,pa,pb,mg,ac,bc⟩ st3 ⟨gl3,hr,m,h1,h2,h5⟩
    dsimp only at h1 h2 h5
    omega
   ·clear m h1 h2
    rintro ⟨r,out,pa,pb,mg,ac,bc⟩ st3 ⟨gl3,⟨c,hr,wh⟩|⟨hr,m,h1,h2,h5⟩⟩
    ·dsimp only at hr ⊢
     subst hr
     exact .pure ⟨gl3,c,rfl,wh⟩
    dsimp only at hr m h1 h2 h5 ⊢
    subst hr
    refine .bind (Tm.modify ?_)
    exact .pure ⟨gl3,rfl,m,h1,h2,by dsimp only;omega⟩
 ·rintro ⟨r,out,ia,ib,mg⟩ st1 ⟨gl,hr,m,h1,h2,h3⟩
  dsimp only at h1 h2 h3
  omega
 ·rintro ⟨r,out,ia,ib,mg⟩ st1 ⟨gl,c,hr,wh⟩
  dsimp only at hr ⊢
  subst hr
  exact .pure (q c st1 gl wh)
end
section
variable {prog:Program} {w:World} {A:Around} {E:Value→Shared→Prop} {J:Shared→Prop} {κ:SortKind} {U:Keyed→Prop} {R:Keyed→Keyed→Bool}
abbrev Flp (R:Keyed→Keyed→Bool):Keyed→Keyed→Bool:=fun x y=>R y x
theorem Ordd.flip (o:Ordd U R):Ordd U (Flp R):=⟨fun x y ux uy h=>o.asym y x uy ux h,fun x y z ux uy uz h=>(o.neg z y x uz uy ux h).symm⟩
theorem ja6 {l:List Keyed} (s:Srt R l):Srt (Flp R) l.reverse:=G3D.mpr s
theorem jih {l:List Keyed} (s:Srt (Flp R) l):Srt R l.reverse:=G3D.mpr s
theorem jku {l:List Keyed} {n:Nat} (h1:1≤n) (hn:n≤l.length):l.reverse[l.length-n]? =l[n-1]? :=by
 rw [G2Y (by omega)]
 congr 1;omega
theorem jbI {l:List Keyed} {z:Keyed} {n:Nat} (hn:n≤l.length) (h:l.reverse[l.length-n]? =some z):1≤n∧l[n-1]? =some z:=by
 have:=(G0k.mp h).1
 rw [G1a] at this
 have n1:1≤n:=by omega
 exact⟨n1,by rw [←jku n1 hn];exact h⟩
theorem jdt (l:List Keyed) {n:Nat} (hn:n≤l.length):l.reverse.drop (l.length-n)=(l.take n).reverse:=by
 rw [List.drop_reverse]
 congr 2;omega
def MH (R:Keyed→Keyed→Bool) (a b:Array Keyed) (na nb:Nat) (out:Array Keyed):Prop:=MI (Flp R) b.toList.reverse a.toList.reverse (b.toList.length-nb) (a.toList.length-na) out.toList
structure TwoH (U:Keyed→Prop) (R:Keyed→Keyed→Bool) (a b:Array Keyed):Prop where
 o:Ordd U R
 ua: ∀x∈a.toList,U x
 ub: ∀x∈b.toList,U x
 sa:Srt R a.toList
 sb:Srt R b.toList
 first: ∀z∈a.toList,∀y,b.toList[0]? =some y→R y z=true
section
variable {a b out:Array Keyed} {na nb:Nat}
theorem TwoH.fa (t:TwoH U R a b): ∀x∈a.toList.reverse,U x:=fun x hx=>t.ua x (G1x.mp hx)
theorem TwoH.fb (t:TwoH U R a b): ∀x∈b.toList.reverse,U x:=fun x hx=>t.ub x (G1x.mp hx)
theorem MH.start (a b:Array Keyed):MH R a b a.toList.length b.toList.length #[]:=by
 unfold MH;rw [Nat.sub_self,Nat.sub_self];exact MI.start _ _
theorem MH.pushA (t:TwoH U R a b) {y:Keyed} (m:MH R a b na nb out) (h1:1≤na) (hn:na≤a.toList.length) (hb:nb≤b.toList.length) (hy:a.toList[na-1]? =some y) (lt: ∀z,1≤nb→b.toList[nb-1]? =some z→R z y=true):MH R a b (na-1) nb (out.push y):=by
 have:=MI.pushB m t.o.flip t.fb t.fa (ja6 t.sb) (ja6 t.sa) (by rw [jku h1 hn];exact hy) (fun z hz=>lt z (jbI hb hz).1 (jbI hb hz).2)
 unfold MH
 rw [G1F,show a.toList.length-(na-1)=a.toList.length-na+1 by omega];exact this
theorem MH.pushB (t:TwoH U R a b) {y:Keyed} (m:MH R a b na nb out) (h1:1≤nb) (hn:nb≤b.toList.length) (ha:na≤a.toList.length) (hy:b.toList[nb-1]? =some y) (ge: ∀z,1≤na→a.toList[na-1]? =some z→R y z=false):MH R a b na (nb-1) (out.push y):=by
 have:=MI.pushA m t.o.flip t.fb t.fa (ja6 t.sb) (ja6 t.sa) (by rw [jku h1 hn];exact hy) (fun z hz=>ge z (jbI ha hz).1 (jbI ha hz).2)
 unfold MH
 rw [G1F,show b.toList.length-(nb-1)=b.toList.length-nb+1 by omega];exact this
theorem jdu (a:Array Keyed) (n:Nat):(a.extract 0 n).toList=a.toList.take n:=by
 rw [G2z,List.extract_eq_drop_take,G4B,Nat.sub_zero]
theorem MH.done (t:TwoH U R a b) (m:MH R a b na nb out) (ha:na≤a.toList.length) (hb:nb≤b.toList.length) (h:na=0∨nb=0):jcG R a b (a.extract 0 na++b.extract 0 nb++out.reverse):=by
 have:=MI.done m t.o.flip t.fb t.fa (ja6 t.sb) (ja6 t.sa) (by rw [G1a];omega) (by rw [G1a];omega) (by rw [G1a,G1a];omega)
 rw [jdt _ ha,jdt _ hb] at this
 have e:(a.extract 0 na++b.extract 0 nb++out.reverse).toList=(out.toList++(b.toList.take nb).reverse++(a.toList.take na).reverse).reverse:=by
  rw [G07,G07,jdu,jdu,G3J]
  simp [G0j]
 unfold jcG
 rw [e]
 refine⟨(G1G _).trans (this.1.trans ?_),jih this.2⟩
 exact(List.Perm.append (G1G _) (G1G _)).trans G2X
theorem MH.firstB (t:TwoH U R a b) (m:MH R a b na nb out) (ha:na≤a.toList.length) (hb:nb=1) (hb' :1≤b.toList.length):jcG R a b (b.extract 0 nb++a.extract 0 na++out.reverse):=by
 subst hb
 have:=MI.lastA m t.o.flip t.fb t.fa (ja6 t.sb) (ja6 t.sa) (by rw [G1a];omega) (by rw [G1a];omega) (fun z hz y hy=>by
  rw [G1a] at hy
  have:=(jbI hb' hy).2
  exact t.first z (G1x.mp hz) y (by simpa using this))
 rw [jdt _ ha,jdt _ hb'] at this
 have e:(b.extract 0 1++a.extract 0 na++out.reverse).toList=(out.toList++(a.toList.take na).reverse++(b.toList.take 1).reverse).reverse:=by
  rw [G07,G07,jdu,jdu,G3J]
  simp [G0j]
 unfold jcG
 rw [e]
 refine⟨(G1G _).trans (this.1.trans ?_),jih this.2⟩
 exact(List.Perm.append (G1G _) (G1G _)).trans G2X
theorem jii (l:List Keyed) {p n:Nat} (h1:p≤n) (hn:n≤l.length):(l.reverse.drop (l.length-n)).take (n-p)=((l.drop p).take (n-p)).reverse:=by
 rw [jdt l hn,List.take_reverse,G0B,G4C,G3m hn,show n-(n-p)=p by omega]
theorem jkv (a:Array Keyed) {p n:Nat} (h:p≤n):(a.extract p n).reverse.toList=((a.toList.drop p).take (n-p)).reverse:=by
 rw [G3J,G2z,List.extract_eq_drop_take]
theorem MH.manyA (t:TwoH U R a b) (m:MH R a b na nb out) (p:Nat) (hp:p≤na) (hn:na≤a.toList.length) (hb:nb≤b.toList.length) (h: ∀i,p≤i→i<na→ ∀y,a.toList[i]? =some y→ ∀z,1≤nb→b.toList[nb-1]? =some z→R z y=true):MH R a b p nb (out++(a.extract p na).reverse):=by
 have:=MI.manyB t.o.flip t.fb t.fa (ja6 t.sb) (ja6 t.sa) (na-p) m (by rw [G1a];omega) (fun i hi y hy z hz=>by
  rw [G2Y (by omega)] at hy
  exact h _ (by omega) (by omega) y hy z (jbI hb hz).1 (jbI hb hz).2)
 rw [jii _ hp hn] at this
 unfold MH
 rw [G07,jkv _ hp,show a.toList.length-p=a.toList.length-na+(na-p) by omega]
 exact this
theorem MH.manyB (t:TwoH U R a b) (m:MH R a b na nb out) (p:Nat) (hp:p≤nb) (hn:nb≤b.toList.length) (ha:na≤a.toList.length) (h: ∀i,p≤i→i<nb→ ∀y,b.toList[i]? =some y→ ∀z,1≤na→a.toList[na-1]? =some z→R y z=false):MH R a b na p (out++(b.extract p nb).reverse):=by
 have:=MI.manyA t.o.flip t.fb t.fa (ja6 t.sb) (ja6 t.sa) (nb-p) m (by rw [G1a];omega) (fun i hi y hy z hz=>by
  rw [G2Y (by omega)] at hy
  exact h _ (by omega) (by omega) y hy z (jbI ha hz).1 (jbI ha hz).2)
 rw [jii _ hp hn] at this
 unfold MH
 rw [G07,jkv _ hp,show b.toList.length-p=b.toList.length-nb+(nb-p) by omega]
 exact this
end
def mHi:Array Keyed→Array Keyed→StateT SortSt Sem (Array Keyed):=sortPriv% PySem.Builtin.mergeHi
theorem jqx {a b:Array Keyed} {st:SortSt} {Q:Array Keyed→SortSt→Prop} (ak:jhp prog w A J κ U R) (kd:kindOf st=κ) (t:TwoH U R a b)
 (na:1≤a.size) (nb:1≤b.size) (last: ∀y z,b.toList[b.size-1]? =some y→a.toList[a.size-1]? =some z→R y z=true)
 (q: ∀c st',Gal st st' →jcG R a b c→Q c st'):Tm prog w A E J (mHi a b) Q st:=by
 have gb: ∀i,i<b.size→ ∃y,b[i]? =some y∧b.toList[i]? =some y∧U y:=fun i hi=>⟨b[i],by simp [hi],by simp [hi],t.ub _ (by simp)⟩
 have ga: ∀i,i<a.size→ ∃y,a[i]? =some y∧a.toList[i]? =some y∧U y:=fun i hi=>⟨a[i],by simp [hi],by simp [hi],t.ua _ (by simp)⟩
 have la:a.toList.length=a.size:=by simp
 have lb:b.toList.length=b.size:=by simp
 unfold mHi
 refine .bind (.rule ?_)
 obtain⟨a0,ea0,la0,ua0⟩:=ga (a.size-1) (by omega)
 refine .bind (.elem ea0 ?_)
 have m0:MH R a b (a.size-1) b.size #[a0]:=by
  have m:=MH.start (R:=R) a b
  rw [la,lb] at m
  exact MH.pushA t m na (by omega) (by omega) la0 (fun z _ hz=>last z a0 hz la0)
 dsimp only
 by_cases z1:a.size-1=0
 ·rw [if_pos (by simpa using z1)]
  exact .pure (q _ _ (Gal.refl st) (MH.done t m0 (by omega) (by omega) (.inl z1)))
 rw [if_neg (by simpa using z1)]
 by_cases z2:b.size=1
 ·rw [if_pos (by simpa using z2)]
  exact .pure (q _ _ (Gal.refl st) (MH.firstB t m0 (by omega) z2 (by omega)))
 rw [if_neg (by simpa using z2)]
 refine .bind (.get ?_)
 refine .bind (Tm.mono (Tm.range (fun i c st' =>Gal st st' ∧c.1=none∧MH R a b c.2.1 c.2.2.1 c.2.2.2.1∧1≤c.2.1∧c.2.1≤a.size∧2≤c.2.2.1∧c.2.2.1≤b.size∧i+1+c.2.1+c.2.2.1≤a.size+b.size)
  (Q:=fun c st' =>Gal st st' ∧ ∃r,c.1=some r∧jcG R a b r) (Nat.zero_le _) ⟨Gal.refl st,rfl,m0,by dsimp only;omega,by dsimp only;omega,by dsimp only;omega,by dsimp only;omega,by dsimp only;omega⟩ ?_ ?_) ?_)
 ·rintro i ⟨r,ia,ib,out,mg⟩ st1 hi ⟨gl,hr,m,h1,g1,h2,g2,h3⟩
  dsimp only at hr m h1 g1 h2 g2 h3 ⊢
  subst hr
  refine .bind (Tm.mono (Tm.range (fun j c st' =>Gal st st' ∧c.1=none∧MH R a b c.2.1 c.2.2.1 c.2.2.2.1∧1≤c.2.1∧c.2.1≤a.size∧2≤c.2.2.1∧c.2.2.1≤b.size∧j+c.2.1+c.2.2.1≤ia+ib)
   (Q:=fun c st' =>Gal st st' ∧((∃r,c.1=some r∧jcG R a b r)∨(c.1=none∧MH R a b c.2.1 c.2.2.1 c.2.2.2.1∧1≤c.2.1∧c.2.1≤a.size∧2≤c.2.2.1∧c.2.2.1≤b.size∧1+c.2.1+c.2.2.1≤ia+ib))) (Nat.zero_le _) ⟨gl,rfl,m,h1,g1,h2,g2,by dsimp only;omega⟩ ?_ ?_) ?_)
  ·clear m h1 h2
   rintro j ⟨r,ja,jb,out,ac,bc⟩ st2 hj ⟨gl2,hr,m,h1,f1,h2,f2,h4⟩
   dsimp only at hr m h1 f1 h2 f2 h4 ⊢
   subst hr
   obtain⟨y,ey,ly,uy⟩:=gb (jb-1) (by omega)
   obtain⟨x,ex,lx,ux⟩:=ga (ja-1) (by omega)
   refine .bind (.elem ey (.bind (.elem ex (.bind (.lt ak (gl2.1.trans kd) uy ux ?_)))))
   dsimp only
   cases hb:R y x with
   |true=>
    rw [if_pos rfl]
    refine .bind (.elem ex ?_)
    have m1:=MH.pushA t m h1 (by omega) (by omega) lx (fun z _ hz=>by rw [ly] at hz;injection hz with hz;rw [←hz];exact hb)
    by_cases c1:ja-1=0
    ·rw [if_pos (by simpa using c1)]
     exact .pure ⟨gl2,.inl ⟨_,rfl,MH.done t m1 (by omega) (by omega) (.inl c1)⟩⟩
    rw [if_neg (by simpa using c1)]
    split
    ·exact .pure ⟨gl2,.inr ⟨rfl,m1,by dsimp only;omega,by dsimp only;omega,h2,f2,by dsimp only;omega⟩⟩
    ·exact .pure ⟨gl2,rfl,m1,by dsimp only;omega,by dsimp only;omega,h2,f2,by dsimp only;omega⟩
   |false=>
    rw [if_neg (by decide)]
    refine .bind (.elem ey ?_)
    have m1:=MH.pushB t m (by omega) (by omega) (by omega) ly (fun z _ hz=>by rw [lx] at hz;injection hz with hz;rw [←hz];exact hb)
    by_cases c1:jb-1=1
    ·rw [if_pos (by simpa using c1)]
     exact .pure ⟨gl2,.inl ⟨_,rfl,MH.firstB t m1 (by omega) c1 (by omega)⟩⟩
    rw [if_neg (by simpa using c1)]
    split
    ·exact .pure ⟨gl2,.inr ⟨rfl,m1,h1,f1,by dsimp only;omega,by dsimp only;omega,by dsimp only;omega⟩⟩
    ·exact .pure ⟨gl2,rfl,m1,h1,f1,by dsimp only;omega,by dsimp only;omega,by dsimp only;omega⟩
  ·rintro ⟨r,ja,jb,out,ac,bc⟩ st2 ⟨gl2,hr,m,h1,f1,h2,f2,h4⟩
   dsimp only at h1 h2 h4
   omega
  ·clear m h1 h2
   rintro ⟨r,ja,jb,out,ac,bc⟩ st2 ⟨gl2,⟨c,hr,wh⟩|⟨hr,m,h1,f1,h2,f2,h4⟩⟩
   ·dsimp only at hr ⊢
    subst hr
    exact .pure ⟨gl2,c,rfl,wh⟩
   dsimp only at hr m h1 f1 h2 f2 h4 ⊢
   subst hr
   refine .bind (.rule ?_)
   refine .bind (Tm.mono (Tm.range (fun j c st' =>Gal st st' ∧c.1=none∧MH R a b c.2.1 c.2.2.1 c.2.2.2.1∧1≤c.2.1∧c.2.1≤a.size∧2≤c.2.2.1∧c.2.2.1≤b.size∧j+c.2.1+c.2.2.1≤ja+jb)
    (Q:=fun c st' =>Gal st st' ∧((∃r,c.1=some r∧jcG R a b r)∨(c.1=none∧MH R a b c.2.1 c.2.2.1 c.2.2.2.1∧1≤c.2.1∧c.2.1≤a.size∧2≤c.2.2.1∧c.2.2.1≤b.size∧c.2.1+c.2.2.1≤ja+jb))) (Nat.zero_le _) ⟨gl2,rfl,m,h1,f1,h2,f2,by dsimp only;omega⟩ ?_ ?_) ?_)
   ·clear m gl2
    rintro j ⟨r,pa,pb,out,mg,ac,bc⟩ st2 hj ⟨gl2,hr,m,h1,f1,h2,f2,h5⟩
    dsimp only at hr m h1 f1 h2 f2 h5 ⊢
    subst hr
    obtain⟨y,ey,ly,uy⟩:=gb (pb-1) (by omega)
    by_cases zg:mg>1
    all_goals
     first|rw [if_pos zg]|rw [if_neg zg]
     refine .bind (Tm.modify ?_)
     refine .bind (.elem ey (.bind (jsy ak (gl2.1.trans kd) t.o t.ua t.sa uy (by omega) (by omega) fun k k1 k2 k3=> ?_)))
     dsimp only
     have m1:=MH.manyA t m k (by omega) (by omega) (by omega) (fun i hi1 hi2 x hx z hz1 hz=>by rw [ly] at hz;injection hz with hz;rw [←hz];exact k3 i hi1 hi2 x (by rw [G1W];exact hx))
     by_cases kz:pa-k>0
     ·rw [if_pos kz]
      by_cases c1:k=0
      ·rw [if_pos (by simpa using c1)]
       exact .pure ⟨gl2,.inl ⟨_,rfl,MH.done t m1 (by omega) (by omega) (.inl c1)⟩⟩
      rw [if_neg (by simpa using c1)]
      refine .bind (.elem ey ?_)
      have M2:=MH.pushB t m1 (by omega) (by omega) (by omega) ly (fun z hz1 hz=>k2 (k-1) (by omega) z (by rw [G1W];exact hz))
      by_cases c3:pb-1=1
      ·rw [if_pos (by simpa using c3)]
       exact .pure ⟨gl2,.inl ⟨_,rfl,MH.firstB t M2 (by omega) c3 (by omega)⟩⟩
      rw [if_neg (by simpa using c3)]
      obtain⟨x,ex,lx,ux⟩:=ga (k-1) (by omega)
      refine .bind (.elem ex (.bind (jq2 ak (gl2.1.trans kd) t.o t.ub t.sb ux (by omega) (by omega) fun k' q1 q2 q3=> ?_)))
      dsimp only
      have M3:=MH.manyB t M2 k' (by omega) (by omega) (by omega) (fun i hi1 hi2 y' hy z hz1 hz=>by rw [lx] at hz;injection hz with hz;rw [←hz];exact q3 i hi1 hi2 y' (by rw [G1W];exact hy))
      by_cases kz' :pb-1-k' >0
      ·rw [if_pos kz']
       by_cases c4:k' =1
       ·rw [if_pos (by simpa using c4)]
        exact .pure ⟨gl2,.inl ⟨_,rfl,MH.firstB t M3 (by omega) c4 (by omega)⟩⟩
       rw [if_neg (by simpa using c4)]
       by_cases c7:k' =0
       ·rw [if_pos (by simpa using c7)]
        exact .pure ⟨gl2,.inl ⟨_,rfl,MH.done t M3 (by omega) (by omega) (.inr c7)⟩⟩
       rw [if_neg (by simpa using c7)]
       refine .bind (.elem ex ?_)
       have M4:=MH.pushA t M3 (by omega) (by omega) (by omega) lx (fun z hz1 hz=>q2 (k' -1) (by omega) z (by rw [G1W];exact hz))
       by_cases c5:k-1=0
       ·rw [if_pos (by simpa using c5)]
        exact .pure ⟨gl2,.inl ⟨_,rfl,MH.done t M4 (by omega) (by omega) (.inl c5)⟩⟩
       rw [if_neg (by simpa using c5)]
       by_cases c6:(decide (pa-k<7)&&decide (pb-1-k' <7))=true
       ·rw [if_pos c6]
        exact .pure ⟨gl2,.inr ⟨rfl,M4,by dsimp only;omega,by dsimp only;omega,by dsimp only;omega,by dsimp only;omega,by dsimp only;omega⟩⟩
       ·rw [if_neg c6]
        exact .pure ⟨gl2,rfl,M4,by dsimp only;omega,by dsimp only;omega,by dsimp only;omega,by dsimp only;omega,by dsimp only;omega⟩
      ·rw [if_neg kz']
       refine .bind (.elem ex ?_)
       have M4:=MH.pushA t M2 (by omega) (by omega) (by omega) lx (fun z hz1 hz=>q2 ((pb-1)-1) (by omega) z (by rw [G1W];exact hz))
       by_cases c5:k-1=0
       ·rw [if_pos (by simpa using c5)]
        exact .pure ⟨gl2,.inl ⟨_,rfl,MH.done t M4 (by omega) (by omega) (.inl c5)⟩⟩
       rw [if_neg (by simpa using c5)]
       by_cases c6:(decide (pa-k<7)&&decide (pb-1-k' <7))=true
       ·rw [if_pos c6]
        exact .pure ⟨gl2,.inr ⟨rfl,M4,by dsimp only;omega,by dsimp only;omega,by dsimp only;omega,by dsimp only;omega,by dsimp only;omega⟩⟩
       ·rw [if_neg c6]
        exact .pure ⟨gl2,rfl,M4,by dsimp only;omega,by dsimp only;omega,by dsimp only;omega,by dsimp only;omega,by dsimp only;omega⟩
     ·rw [if_neg kz]
      refine .bind (.elem ey ?_)
      have M2:=MH.pushB t m (by omega) (by omega) (by omega) ly (fun z hz1 hz=>k2 (pa-1) (by omega) z (by rw [G1W];exact hz))
      by_cases c3:pb-1=1
      ·rw [if_pos (by simpa using c3)]
       exact .pure ⟨gl2,.inl ⟨_,rfl,MH.firstB t M2 (by omega) c3 (by omega)⟩⟩
      rw [if_neg (by simpa using c3)]
      obtain⟨x,ex,lx,ux⟩:=ga (pa-1) (by omega)
      refine .bind (.elem ex (.bind (jq2 ak (gl2.1.trans kd) t.o t.ub t.sb ux (by omega) (by omega) fun k' q1 q2 q3=> ?_)))
      dsimp only
      have M3:=MH.manyB t M2 k' (by omega) (by omega) (by omega) (fun i hi1 hi2 y' hy z hz1 hz=>by rw [lx] at hz;injection hz with hz;rw [←hz];exact q3 i hi1 hi2 y' (by rw [G1W];exact hy))
      by_cases kz' :pb-1-k' >0
      ·rw [if_pos kz']
       by_cases c4:k' =1
       ·rw [if_pos (by simpa using c4)]
        exact .pure ⟨gl2,.inl ⟨_,rfl,MH.firstB t M3 (by omega) c4 (by omega)⟩⟩
       rw [if_neg (by simpa using c4)]
       by_cases c7:k' =0
       ·rw [if_pos (by simpa using c7)]
        exact .pure ⟨gl2,.inl ⟨_,rfl,MH.done t M3 (by omega) (by omega) (.inr c7)⟩⟩
       rw [if_neg (by simpa using c7)]
       refine .bind (.elem ex ?_)
       have M4:=MH.pushA t M3 (by omega) (by omega) (by omega) lx (fun z hz1 hz=>q2 (k' -1) (by omega) z (by rw [G1W];exact hz))
       by_cases c5:pa-1=0
       ·rw [if_pos (by simpa using c5)]
        exact .pure ⟨gl2,.inl ⟨_,rfl,MH.done t M4 (by omega) (by omega) (.inl c5)⟩⟩
       rw [if_neg (by simpa using c5)]
       by_cases c6:(decide (pa-k<7)&&decide (pb-1-k' <7))=true
       ·rw [if_pos c6]
        exact .pure ⟨gl2,.inr ⟨rfl,M4,by dsimp only;omega,by dsimp only;omega,by dsimp only;omega,by dsimp only;omega,by dsimp only;omega⟩⟩
       ·rw [if_neg c6]
        exact .pure ⟨gl2,rfl,M4,by dsimp only;omega,by dsimp only;omega,by dsimp only;omega,by dsimp only;omega,by dsimp only;omega⟩
      ·rw [if_neg kz']
       refine .bind (.elem ex ?_)
       have M4:=MH.pushA t M2 (by omega) (by omega) (by omega) lx (fun z hz1 hz=>q2 ((pb-1)-1) (by omega) z (by rw [G1W];exact hz))
       by_cases c5:pa-1=0
       ·rw [if_pos (by simpa using c5)]
        exact .pure ⟨gl2,.inl ⟨_,rfl,MH.done t M4 (by omega) (by omega) (.inl c5)⟩⟩
       rw [if_neg (by simpa using c5)]
       by_cases c6:(decide (pa-k<7)&&decide (pb-1-k' <7))=true
       ·rw [if_pos c6]
        exact .pure ⟨gl2,.inr ⟨rfl,M4,by dsimp only;omega,by dsimp only;omega,by dsimp only;omega,by dsimp only;omega,by dsimp only;omega⟩⟩
       ·rw [if_neg c6]
        exact .pure ⟨gl2,rfl,M4,by dsimp only;omega,by dsimp only;omega,by dsimp only;omega,by dsimp only;omega,by dsimp only;omega⟩
   ·rintro ⟨r,pa,pb,out,mg,ac,bc⟩ st3 ⟨gl3,hr,m,h1,f1,h2,f2,h5⟩
    dsimp only at h1 h2 h5
    omega
   ·clear m
    rintro ⟨r,pa,pb,out,mg,ac,bc⟩ st3 ⟨gl3,⟨c,hr,wh⟩|⟨hr,m,h1,f1,h2,f2,h5⟩⟩
    ·dsimp only at hr ⊢
     subst hr
     exact .pure ⟨gl3,c,rfl,wh⟩
    dsimp only at hr m h1 f1 h2 f2 h5 ⊢
    subst hr
    refine .bind (Tm.modify ?_)
    exact .pure ⟨gl3,rfl,m,h1,f1,h2,f2,by dsimp only;omega⟩
 ·rintro ⟨r,ia,ib,out,mg⟩ st1 ⟨gl,hr,m,h1,g1,h2,g2,h3⟩
  dsimp only at h1 h2 h3
  omega
 ·rintro ⟨r,ia,ib,out,mg⟩ st1 ⟨gl,c,hr,wh⟩
  dsimp only at hr ⊢
  subst hr
  exact .pure (q c st1 gl wh)
end
section
variable {prog:Program} {w:World} {A:Around} {E:Value→Shared→Prop} {J:Shared→Prop} {κ:SortKind} {U:Keyed→Prop} {R:Keyed→Keyed→Bool}
def seg (l:List Keyed) (p n:Nat):List Keyed:=(l.drop p).take n
theorem jfA {l:List Keyed} {p n i:Nat} (hi:i<n):(seg l p n)[i]? =l[p+i]? :=by
 unfold seg
 rw [G1L hi,G1p]
theorem jeK {l:List Keyed} {p n:Nat} (h:p+n≤l.length):(seg l p n).length=n:=by
 unfold seg
 rw [G0B,G0X];omega
theorem jhG {l:List Keyed} {p n:Nat} {x:Keyed} (h:x∈seg l p n):x∈l:=G1q (G01 h)
theorem jsz {left:Bool} {arr:Array Keyed} {y:Keyed} {base n hint:Nat} {st:SortSt} {Q:Option Nat→SortSt→Prop} (ak:jhp prog w A J κ U R) (kd:kindOf st=κ) (o:Ordd U R) (u: ∀x∈arr.toList,U x) (s:Srt R (seg arr.toList base n)) (uy:U y) (hn:base+n≤arr.size) (hh:hint<n)
 (q: ∀k,k≤n→(∀x∈(seg arr.toList base n).take k,(if left=true then R x y else !R y x)=true)→(∀x∈(seg arr.toList base n).drop k,(if left=true then R x y else !R y x)=false)→Q (some k) st):Tm prog w A E J (gal left y arr base n hint) Q st:=by
 have ln:arr.toList.length=arr.size:=by simp
 have sl:(seg arr.toList base n).length=n:=jeK (by omega)
 have us: ∀x∈seg arr.toList base n,U x:=fun x hx=>u x (jhG hx)
 refine jkt ak kd uy (fun i hi=> ?_) (fun i j hij hj h=> ?_) hh (fun k k1 k2 k3=>q k k1 (fun x hx=> ?_) (fun x hx=> ?_))
 ·obtain⟨x,lx,ex⟩:=jeJ (show base+i<arr.size by omega)
  exact⟨x,ex,u x (G0i lx)⟩
 ·obtain⟨x,lx,_⟩:=jeJ (show base+i<arr.size by omega)
  obtain⟨z,lz,_⟩:=jeJ (show base+j<arr.size by omega)
  have ux:=u x (G0i lx)
  have uz:=u z (G0i lz)
  have le:=jeI s o us hij (by rw [jfA (by omega)];exact lx) (by rw [jfA hj];exact lz)
  rw [jcA lz] at h
  rw [jcA lx]
  cases left with
  |true=>
   have hz:R z y=true:=by simpa using h
   rcases o.neg z x y uz ux uy hz with v|v
   ·rw [le] at v;cases v
   ·simp [v]
  |false=>
   have hz:R y z=false:=by simpa using h
   have:=o.trans ux uz uy le hz
   simp [this]
 ·obtain⟨i,hi,e⟩:=G2m hx
  rw [G0B,sl] at hi
  have lx:arr.toList[base+i]? =some x:=by
   rw [←jfA (n:=n) (by omega),G0c (by omega),←e,List.getElem_take]
  have:=k2 i (by omega)
  rw [jcA lx] at this;exact this
 ·obtain⟨i,hi,e⟩:=G2m hx
  rw [G0X,sl] at hi
  have lx:arr.toList[base+(k+i)]? =some x:=by
   rw [←jfA (n:=n) (by omega),G0c (by omega),←e,List.getElem_drop]
  have:=k3 (k+i) (by omega) (by omega)
  rw [jcA lx] at this;exact this
theorem jij: ∀ (m:List Keyed) (arr:Array Keyed) (p d:Nat),p+d+m.length≤arr.size→((m.zipIdx d).foldl (fun (c:Array Keyed) (x:Keyed×Nat)=>c.setIfInBounds (p+x.2) x.1) arr).toList=arr.toList.take (p+d)++m++arr.toList.drop (p+d+m.length)
 | [],arr,p,d,_=>by simp
 |x::m,arr,p,d,h=>by
  rw [G0h] at h
  rw [List.zipIdx_cons,G3P]
  rw [jij m _ p (d+1) (by rw [G3d];omega)]
  have hl:arr.toList.length=arr.size:=by simp
  rw [G3X]
  have e1:(arr.toList.set (p+d) x).take (p+(d+1))=arr.toList.take (p+d)++ [x]:=by
   rw [show p+(d+1)=p+d+1 by omega,G1E,G2o (by omega)]
   rw [List.take_set_of_le (G0f _)]
   rfl
  have e2:(arr.toList.set (p+d) x).drop (p+(d+1)+m.length)=arr.toList.drop (p+d+(m.length+1)):=by
   rw [List.drop_set_of_lt (by omega),show p+(d+1)+m.length=p+d+(m.length+1) by omega]
  rw [e1,e2,G0h]
  simp [G0j]
end
section
variable {prog:Program} {w:World} {A:Around} {E:Value→Shared→Prop} {J:Shared→Prop} {κ:SortKind} {U:Keyed→Prop} {R:Keyed→Keyed→Bool}
theorem Tm.set {σ:Type} {st st' :σ} {Q:PUnit→σ→Prop} (q:Q ⟨⟩ st'):Tm prog w A E J (MonadStateOf.set st' :StateT σ Sem PUnit) Q st:=fun s j=>by
 show wpAny _ _ ((StateT.set st' :StateT σ Sem PUnit).run st) _ _ _
 exact G0e ⟨q,j⟩
theorem jkw (a:Array Keyed) {p n:Nat} (h:p≤n):(a.extract p n).toList=seg a.toList p (n-p):=by
 rw [G2z,List.extract_eq_drop_take];rfl
theorem jhH (o:Ordd U R) {l:List Keyed} (u: ∀x∈l,U x) (s:Srt R l) {z:Keyed} (hz:l[l.length-1]? =some z) {x:Keyed} (hx:x∈l):R z x=false:=by
 obtain⟨i,hi,e⟩:=G2m hx
 exact jeI s o u (show i≤l.length-1 by omega) (by rw [G0c hi,e]) hz
theorem jik (o:Ordd U R) {l:List Keyed} (u: ∀x∈l,U x) (s:Srt R l) {z:Keyed} (hz:l[0]? =some z) {x:Keyed} (hx:x∈l):R x z=false:=by
 obtain⟨i,hi,e⟩:=G2m hx
 exact jeI s o u (G06 _) hz (by rw [G0c hi,e])
theorem jeL (o:Ordd U R) {X Y c:List Keyed} {k k2:Nat} {y0 x9:Keyed} (uX: ∀x∈X,U x) (uY: ∀x∈Y,U x) (sX:Srt R X) (sY:Srt R Y) (hy:Y[0]? =some y0) (hx:X[X.length-1]? =some x9)
 (f1: ∀x∈X.take k,R y0 x=false) (g2: ∀y∈Y.drop k2,R y x9=false) (hp:c.Perm (X.drop k++Y.take k2)) (sc:Srt R c):(X.take k++c++Y.drop k2).Perm (X++Y)∧Srt R (X.take k++c++Y.drop k2):=by
 have uy0:=uY y0 (G0i hy)
 have ux9:=uX x9 (G0i hx)
 constructor
 ·have e:X++Y=X.take k++(X.drop k++Y.take k2)++Y.drop k2:=by
   rw [←G0j,G0O,G0j,G0O]
  rw [e]
  exact(hp.append_left _).append_right _
 ·have inX: ∀x∈X.take k,∀z∈X.drop k,R z x=false:=fun x hx z hz=>by
   have:Srt R (X.take k++X.drop k):=by rw [G0O];exact sX
   exact(G0V.mp this).2.2 x hx z hz
  have inY: ∀x∈Y.take k2,∀z∈Y.drop k2,R z x=false:=fun x hx z hz=>by
   have:Srt R (Y.take k2++Y.drop k2):=by rw [G0O];exact sY
   exact(G0V.mp this).2.2 x hx z hz
  have xy: ∀x∈X.take k,∀y∈Y,R y x=false:=fun x hx y hy' =>o.trans (uX x (G01 hx)) uy0 (uY y hy') (f1 x hx) (jik o uY sY hy hy')
  have yx: ∀x∈X,∀y∈Y.drop k2,R y x=false:=fun x hx' y hy' =>o.trans (uX x hx') ux9 (uY y (G1q hy')) (jhH o uX sX hx hx') (g2 y hy')
  have xc: ∀x∈X.take k,∀z∈c,R z x=false:=fun x hx z hz=>by
   rcases G0u.mp (hp.mem_iff.mp hz) with v|v
   ·exact inX x hx z v
   ·exact xy x hx z (G01 v)
  refine G0V.mpr ⟨G0V.mpr ⟨sX.sublist (G14 _ _),sc,xc⟩,sY.sublist (G1X _ _),fun x hx y hy=> ?_⟩
  rcases G0u.mp hx with v|v
  ·exact xy x v y (G1q hy)
  ·rcases G0u.mp (hp.mem_iff.mp v) with v|v
   ·exact yx x (G1q v) y hy
   ·exact inY x v y hy
theorem jg0 (l:List Keyed) {p n m:Nat}:l=l.take p++(seg l p n++seg l (p+n) m)++l.drop (p+n+m):=by
 unfold seg
 have e1:(l.drop (p+n)).take m++l.drop (p+n+m)=l.drop (p+n):=by
  rw [show l.drop (p+n+m)=(l.drop (p+n)).drop m by rw [G2u],G0O]
 have e2:(l.drop p).take n++l.drop (p+n)=l.drop p:=by
  rw [show l.drop (p+n)=(l.drop p).drop n by rw [G2u],G0O]
 rw [G0j,G0j,e1,e2,G0O]
theorem jqy {st:SortSt} {Q:Bool→SortSt→Prop} {i sa na pw sb nb pw2:Nat} (ak:jhp prog w A J κ U R) (kd:kindOf st=κ) (o:Ordd U R) (u: ∀x∈(arrOf st).toList,U x) (p1:(pendingOf st)[i]? =some (sa,na,pw)) (p2:(pendingOf st)[i+1]? =some (sb,nb,pw2))
 (hs:sa+na=sb) (n1:1≤na) (n2:1≤nb) (hz:sb+nb≤(arrOf st).size) (s1:Srt R (seg (arrOf st).toList sa na)) (s2:Srt R (seg (arrOf st).toList sb nb)) (hf:failedOf st=none)
 (q: ∀st' Z,kindOf st' =κ→failedOf st' =none→pendingOf st' =((pendingOf st).setIfInBounds i (sa,na+nb,pw)).eraseIdxIfInBounds (i+1)→(arrOf st').toList=(arrOf st).toList.take sa++Z++(arrOf st).toList.drop (sb+nb)→Z.Perm (seg (arrOf st).toList sa na++seg (arrOf st).toList sb nb)→Srt R Z→Q true st'):
 Tm prog w A E J (mergeAt' i) Q st:=by
 have ln:(arrOf st).toList.length=(arrOf st).size:=by simp
 unfold mergeAt'
 refine .bind (.get ?_)
 dsimp only
 rw [p1,p2]
 dsimp only
 refine .bind (Tm.set ?_)
 subst hs
 have lX:(seg (arrOf st).toList sa na).length=na:=jeK (by omega)
 have lY:(seg (arrOf st).toList (sa+na) nb).length=nb:=jeK (by omega)
 have uX: ∀x∈seg (arrOf st).toList sa na,U x:=fun x hx=>u x (jhG hx)
 have uY: ∀x∈seg (arrOf st).toList (sa+na) nb,U x:=fun x hx=>u x (jhG hx)
 obtain⟨y0,ly0,ey0⟩:=jeJ (arr:=arrOf st) (show sa+na<(arrOf st).size by omega)
 obtain⟨x9,lx9,ex9⟩:=jeJ (arr:=arrOf st) (show sa+(na-1)<(arrOf st).size by omega)
 have hy:(seg (arrOf st).toList (sa+na) nb)[0]? =some y0:=by rw [jfA (by omega)];exact ly0
 have hx:(seg (arrOf st).toList sa na)[(seg (arrOf st).toList sa na).length-1]? =some x9:=by rw [lX,jfA (by omega)];exact lx9
 have uy0:=u y0 (G0i ly0)
 have ux9:=u x9 (G0i lx9)
 have c3:=jg0 (arrOf st).toList (p:=sa) (n:=na) (m:=nb)
 have same: ∀ (st' :SortSt),arrOf st' =arrOf st→ ∀k k2,(∀x∈(seg (arrOf st).toList sa na).take k,R y0 x=false)→(∀y∈(seg (arrOf st).toList (sa+na) nb).drop k2,R y x9=false)→(na≤k∨k2=0)→Srt R (seg (arrOf st).toList sa na++seg (arrOf st).toList (sa+na) nb):=fun st' e k k2 f1 g2 h=>by
  have pl:(((seg (arrOf st).toList sa na).drop k++(seg (arrOf st).toList (sa+na) nb).take k2)).Perm ((seg (arrOf st).toList sa na).drop k++(seg (arrOf st).toList (sa+na) nb).take k2):= .refl _
  have sc:Srt R ((seg (arrOf st).toList sa na).drop k++(seg (arrOf st).toList (sa+na) nb).take k2):=by
   rcases h with h|h
   ·rw [G1J (by omega),G0Q];exact s2.sublist (G14 _ _)
   ·rw [h,G33,G1s];exact s1.sublist (G1X _ _)
  have:=(jeL o uX uY s1 s2 hy hx f1 g2 pl sc).2
  rw [←G0j,G0O,G0j,G0O] at this
  exact this
 refine .bind (.elem ey0 (.bind (jsz (left:=false) ak kd o u s1 uy0 (show sa+na≤(arrOf st).size by omega) (by omega) fun k k1 f1 f2=> ?_)))
 have f1: ∀x∈(seg (arrOf st).toList sa na).take k,R y0 x=false:=fun x hx=>by simpa using f1 x hx
 have f2: ∀x∈(seg (arrOf st).toList sa na).drop k,R y0 x=true:=fun x hx=>by simpa using f2 x hx
 dsimp only
 by_cases z1:na-k=0
 ·rw [if_pos (by simpa using z1)]
  refine .pure (q _ (seg (arrOf st).toList sa na++seg (arrOf st).toList (sa+na) nb) kd hf rfl c3 (.refl _) (same st rfl k nb f1 (fun y hy=> ?_) (.inl (by omega))))
  rw [G1J (by omega)] at hy;cases hy
 rw [if_neg (by simpa using z1)]
 refine .bind (.elem (show _=some x9 by rw [show sa+k+(na-k)-1=sa+(na-1) by omega];exact ex9) (.bind (jsz (left:=true) ak kd o u s2 ux9 (show sa+na+nb≤(arrOf st).size by omega) (by omega) fun k2 j1 g1 g2=> ?_)))
 have g1: ∀y∈(seg (arrOf st).toList (sa+na) nb).take k2,R y x9=true:=fun x hx=>by simpa using g1 x hx
 have g2: ∀y∈(seg (arrOf st).toList (sa+na) nb).drop k2,R y x9=false:=fun x hx=>by simpa using g2 x hx
 dsimp only
 by_cases z2:k2=0
 ·rw [if_pos (by simpa using z2)]
  exact .pure (q _ _ kd hf rfl c3 (.refl _) (same st rfl k k2 f1 g2 (.inr z2)))
 rw [if_neg (by simpa using z2)]
 have eX:((arrOf st).extract (sa+k) (sa+na)).toList=(seg (arrOf st).toList sa na).drop k:=by
  rw [jkw _ (by omega)];unfold seg
  rw [G4C,G2u,show sa+na-(sa+k)=na-k by omega]
 have eY:((arrOf st).extract (sa+na) (sa+na+k2)).toList=(seg (arrOf st).toList (sa+na) nb).take k2:=by
  rw [jkw _ (by omega)];unfold seg
  rw [G4D,show sa+na+k2-(sa+na)=min k2 nb by omega]
 have sx:((arrOf st).extract (sa+k) (sa+na)).size=na-k:=by rw [←G0m,eX,G0X,lX]
 have sy:((arrOf st).extract (sa+na) (sa+na+k2)).size=k2:=by rw [←G0m,eY,G0B,lY];omega
 have hx2: ∀z,((seg (arrOf st).toList sa na).drop k)[((seg (arrOf st).toList sa na).drop k).length-1]? =some z→z=x9:=fun z hz' =>by
  rw [G0X,G1p,lX,show k+(na-k-1)=na-1 by omega] at hz'
  rw [lX] at hx
  rw [hx] at hz';injection hz' with hz';exact hz'.symm
 have hy2: ∀z,((seg (arrOf st).toList (sa+na) nb).take k2)[0]? =some z→z=y0:=fun z hz' =>by
  rw [G1L (by omega),hy] at hz';injection hz' with hz';exact hz'.symm
 have put: ∀c:Array Keyed,jcG R ((arrOf st).extract (sa+k) (sa+na)) ((arrOf st).extract (sa+na) (sa+na+k2)) c→(c.toList.zipIdx.foldl (fun (d:Array Keyed) (x:Keyed×Nat)=>d.setIfInBounds (sa+k+x.2) x.1) (arrOf st)).toList=(arrOf st).toList.take sa++((seg (arrOf st).toList sa na).take k++c.toList++(seg (arrOf st).toList (sa+na) nb).drop k2)++(arrOf st).toList.drop (sa+na+nb):=fun c wh=>by
  have lc:c.toList.length=na-k+k2:=by
   rw [wh.1.length_eq,G0d,G0m,G0m,sx,sy]
  have:=jij c.toList (arrOf st) (sa+k) 0 (by omega)
  rw [this,lc,G13,show sa+k+(na-k+k2)=sa+na+k2 by omega]
  have e1:(arrOf st).toList.take (sa+k)=(arrOf st).toList.take sa++(seg (arrOf st).toList sa na).take k:=by
   unfold seg
   rw [G4D,G3m k1,List.take_add]
  have e2:(arrOf st).toList.drop (sa+na+k2)=(seg (arrOf st).toList (sa+na) nb).drop k2++(arrOf st).toList.drop (sa+na+nb):=by
   unfold seg
   have h1:((arrOf st).toList.drop (sa+na)).drop k2=(((arrOf st).toList.drop (sa+na)).take nb++((arrOf st).toList.drop (sa+na)).drop nb).drop k2:=by rw [G0O]
   rw [G2f (by rw [G0B,G0X];omega),G2u,G2u] at h1
   exact h1
  rw [e1,e2]
  simp [G0j]
 have jr: ∀c:Array Keyed,jcG R ((arrOf st).extract (sa+k) (sa+na)) ((arrOf st).extract (sa+na) (sa+na+k2)) c→_:=fun c wh=>jeL o (c:=c.toList) uX uY s1 s2 hy hx f1 g2 (by have:=wh.1;rw [eX,eY] at this;exact this) wh.2
 by_cases z3:na-k≤k2
 ·rw [if_pos z3]
  refine .bind (jqw ak kd ⟨o,fun x hx=> ?_,fun x hx=> ?_,?_,?_,fun y hy z hz' => ?_⟩ (by rw [sx];omega) (by rw [sy];omega) (fun y z hy' hz' => ?_) fun c st' gl wh=> .bind (Tm.modify (.bind (.get (.pure ?_)))))
  ·rw [eX] at hx;exact uX x (G1q hx)
  ·rw [eY] at hx;exact uY x (G01 hx)
  ·rw [eX];exact s1.sublist (G1X _ _)
  ·rw [eY];exact s2.sublist (G14 _ _)
  ·rw [eY] at hy
   rw [eX] at hz'
   rw [hx2 z hz'];exact g1 y hy
  ·rw [eY] at hy'
   rw [eX] at hz'
   rw [hy2 y hy'];exact f2 z (G0i hz')
  ·have e:failedOf st' =none:=gl.2.2.2.trans hf
   show Q (failedOf st').isNone _
   rw [e]
   refine q _ _ (gl.1.trans kd) e gl.2.2.1 ?_ (jr c wh).1 (jr c wh).2
   have ea:arrOf st' =arrOf st:=gl.2.1
   show (c.toList.zipIdx.foldl _ (arrOf st')).toList=_
   rw [ea];exact put c wh
 ·rw [if_neg z3]
  refine .bind (jqx ak kd ⟨o,fun x hx=> ?_,fun x hx=> ?_,?_,?_,fun z hz' y hy' => ?_⟩ (by rw [sx];omega) (by rw [sy];omega) (fun y z hy' hz' => ?_) fun c st' gl wh=> .bind (Tm.modify (.bind (.get (.pure ?_)))))
  ·rw [eX] at hx;exact uX x (G1q hx)
  ·rw [eY] at hx;exact uY x (G01 hx)
  ·rw [eX];exact s1.sublist (G1X _ _)
  ·rw [eY];exact s2.sublist (G14 _ _)
  ·rw [eY] at hy'
   rw [eX] at hz'
   rw [hy2 y hy'];exact f2 z hz'
  ·rw [eY] at hy'
   rw [eX,sx] at hz'
   have:=hx2 z (by rw [G0X,lX];exact hz')
   rw [this];exact g1 y (G0i hy')
  ·have e:failedOf st' =none:=gl.2.2.2.trans hf
   show Q (failedOf st').isNone _
   rw [e]
   refine q _ _ (gl.1.trans kd) e gl.2.2.1 ?_ (jr c wh).1 (jr c wh).2
   have ea:arrOf st' =arrOf st:=gl.2.1
   show (c.toList.zipIdx.foldl _ (arrOf st')).toList=_
   rw [ea];exact put c wh
end
section
variable {prog:Program} {w:World} {A:Around} {E:Value→Shared→Prop} {J:Shared→Prop} {κ:SortKind} {U:Keyed→Prop} {R:Keyed→Keyed→Bool}
def Lies (st:SortSt) (P Z S:List Keyed):Prop:=(arrOf st).toList=P++Z++S
def Arr (st st' :SortSt):Prop:=kindOf st' =kindOf st∧pendingOf st' =pendingOf st∧failedOf st' =failedOf st∧gallopOf st' =gallopOf st
theorem Arr.refl (st:SortSt):Arr st st:=⟨rfl,rfl,rfl,rfl⟩
theorem jlO (xs:Array Keyed) (P Z S:List Keyed) (h:xs.toList=P++Z++S):(mirror xs P.length (P.length+Z.length) ((P.length+Z.length-P.length) / 2)).toList=P++Z.reverse++S:=by
 have hl:xs.size=P.length+Z.length+S.length:=by rw [←G0m,h];simp [G4l]
 refine G2H fun k=> ?_
 rw [G0K,getElem?_mirror_all (by omega)]
 by_cases c:P.length≤k∧k<P.length+Z.length
 ·rw [if_pos c,←G0K,h,G0j,G0j]
  have e1:(P++(Z++S))[P.length+(P.length+Z.length)-1-k]? =Z[P.length+Z.length-1-k]? :=by
   rw [G0s (by omega),G0R (by omega)]
   congr 1;omega
  have e2:(P++(Z.reverse++S))[k]? =Z[P.length+Z.length-1-k]? :=by
   rw [G0s (by omega),G0R (by rw [G1a];omega),G2Y (by omega)]
   congr 1;omega
  rw [e1,e2]
 ·rw [if_neg c,←G0K,h,G0j,G0j]
  by_cases d:k<P.length
  ·rw [G0R d,G0R d]
  ·have e1:(P++(Z++S))[k]? =S[k-P.length-Z.length]? :=by
    rw [G0s (by omega),G0s (by omega)]
   have e2:(P++(Z.reverse++S))[k]? =S[k-P.length-Z.length]? :=by
    rw [G0s (by omega),G0s (by rw [G1a];omega),G1a]
   rw [e1,e2]
theorem Tm.rev {st:SortSt} {P Z S:List Keyed} {i j:Nat} {Q:Unit→SortSt→Prop} (h:Lies st P Z S) (hi:i=P.length) (hj:j=P.length+Z.length) (q: ∀st',Arr st st' →Lies st' P Z.reverse S→Q () st'):Tm prog w A E J (reverseSlice' i j) Q st:=by
 rw [reverseSlice'_eq]
 subst hi hj
 exact .modify (q _ ⟨rfl,rfl,rfl,rfl⟩ (jlO _ P Z S h))
theorem Tm.ltAt {st:SortSt} {x y:Keyed} {i j:Nat} {Q:Option Bool→SortSt→Prop} (ak:jhp prog w A J κ U R) (kd:kindOf st=κ) (hx:(arrOf st).toList[i]? =some x) (hy:(arrOf st).toList[j]? =some y) (ux:U x) (uy:U y) (q:Q (some (R x y)) st):Tm prog w A E J (ltAt' i j) Q st:=by
 rw [ltAt'_eq]
 exact .bind (.get (.bind (.elem (by rw [←G0K];exact hx) (.bind (.elem (by rw [←G0K];exact hy) (.lt ak kd ux uy q))))))
abbrev Dsc (R:Keyed→Keyed→Bool) (l:List Keyed):Prop:=l.Pairwise fun x y=>R x y=false
theorem jf9 {l:List Keyed} (d:Dsc R l):Srt R l.reverse:=G3D.mpr d
theorem jdv (o:Ordd U R) {l:List Keyed} {x y:Keyed} (u: ∀z∈l++ [x],U z) (uy:U y) (s:Srt R (l++ [x])) (h:R y x=false):Srt R (l++ [x]++ [y]):=by
 refine G0V.mpr ⟨s,G09 _ _,fun z hz v hv=> ?_⟩
 rw [G0g.mp hv]
 have ux:=u x (by simp)
 rcases G0u.mp hz with w|w
 ·exact o.trans (u z hz) ux uy ((G0V.mp s).2.2 z w x (by simp)) h
 ·rw [G0g.mp w];exact h
theorem jlP {l m:List Keyed} (s:Dsc R (l++m)) (alike: ∀x∈m,∀y∈m,R x y=false):Dsc R (l++m.reverse):=by
 obtain⟨a,b,c⟩:=G0V.mp s
 refine G0V.mpr ⟨a,?_,fun x hx y hy=>c x hx y (G1x.mp hy)⟩
 rw [G1k]
 intro i j hi hj _
 exact alike _ (G1x.mp (G1i hi)) _ (G1x.mp (G1i hj))
end
section
variable {prog:Program} {w:World} {A:Around} {E:Value→Shared→Prop} {J:Shared→Prop} {κ:SortKind} {U:Keyed→Prop} {R:Keyed→Keyed→Bool}
theorem Arr.trans {a b c:SortSt} (x:Arr a b) (y:Arr b c):Arr a c:=⟨y.1.trans x.1,y.2.1.trans x.2.1,y.2.2.1.trans x.2.2.1,y.2.2.2.trans x.2.2.2⟩
theorem Lies.rest {st:SortSt} {P Z S:List Keyed} (h:Lies st P Z S) {i:Nat}:(arrOf st).toList[P.length+Z.length+i]? =S[i]? :=by
 rw [h,G0s (by rw [G0d];omega),G0d]
 congr 1;omega
theorem Lies.end {st:SortSt} {P W S:List Keyed} {x:Keyed} (h:Lies st P (W++ [x]) S):(arrOf st).toList[P.length+W.length]? =some x:=by
 rw [h,G0j,G0s (by omega),G0j,G0s (by omega)]
 simp
theorem jbM {l:List Keyed} (h:1≤l.length): ∃W x,l=W++ [x]:=by
 rcases List.eq_nil_or_concat l with e|⟨W,x,e⟩
 ·subst e;simp at h
 ·exact⟨W,x,by rw [e,List.concat_eq_append]⟩
structure Fall (R:Keyed→Keyed→Bool) (T Z1 Z2:List Keyed) (n:Nat):Prop where
 len:(Z1++Z2).length=n
 perm:(Z1++Z2).Perm (T.take n)
 dsc:Dsc R (Z1++Z2)
 alike: ∀x∈Z2,∀y∈Z2,R x y=false
 ne:1≤Z2.length
theorem Fall.turn {T Z1 Z2:List Keyed} {n:Nat} (f:Fall R T Z1 Z2 n):Fall R T Z1 Z2.reverse n:=
 ⟨by have:=f.len;simp only [G0d,G1a] at this ⊢;exact this,((G1G Z2).append_left Z1).trans f.perm,jlP f.dsc f.alike,fun x hx y hy=>f.alike x (G1x.mp hx) y (G1x.mp hy),by rw [G1a];exact f.ne⟩
theorem Fall.mem {T Z1 Z2:List Keyed} {n:Nat} (f:Fall R T Z1 Z2 n) {x:Keyed} (h:x∈Z1++Z2):x∈T:=G01 (f.perm.mem_iff.mp h)
theorem jbU {T Z:List Keyed} {n:Nat} {y:Keyed} (h:Z.Perm (T.take n)) (hy:T[n]? =some y):(Z++ [y]).Perm (T.take (n+1)):=by
 rw [jch hy];exact h.append_right _
theorem Fall.below (o:Ordd U R) {T Z1 Z2:List Keyed} {n:Nat} {x y:Keyed} (u: ∀x∈T,U x) (f:Fall R T Z1 Z2 n) (hx:x∈Z2) (hy:T[n]? =some y) (h:R y x=true):Fall R T (Z1++Z2) [y] (n+1):=by
 have uy:=u y (G0i hy)
 have ux:=u x (f.mem (G0u.mpr (.inr hx)))
 have xy:=o.asym y x uy ux h
 refine⟨by rw [G0d,f.len];rfl,jbU f.perm hy,?_,fun a ha b hb=> ?_,by simp⟩
 ·refine G0V.mpr ⟨f.dsc,G09 _ _,fun z hz v hv=> ?_⟩
  rw [G0g.mp hv]
  have uz:=u z (f.mem hz)
  have zx:R z x=false:=by
   rcases G0u.mp hz with w|w
   ·exact(G0V.mp f.dsc).2.2 z w x hx
   ·exact f.alike z w x hx
  exact o.trans uy ux uz xy zx
 ·rw [G0g.mp ha,G0g.mp hb];exact o.refl uy
theorem Fall.like (o:Ordd U R) {T Z1 Z2:List Keyed} {n:Nat} {x y:Keyed} (u: ∀x∈T,U x) (f:Fall R T Z1 Z2 n) (hx:x∈Z2) (hy:T[n]? =some y) (h:R y x=false) (h' :R x y=false):Fall R T Z1 (Z2++ [y]) (n+1):=by
 have uy:=u y (G0i hy)
 have ux:=u x (f.mem (G0u.mpr (.inr hx)))
 have zy: ∀z∈Z1++Z2,R z y=false:=fun z hz=>by
  have uz:=u z (f.mem hz)
  have zx:R z x=false:=by
   rcases G0u.mp hz with w|w
   ·exact(G0V.mp f.dsc).2.2 z w x hx
   ·exact f.alike z w x hx
  exact o.trans uy ux uz h' zx
 have yz: ∀z∈Z2,R y z=false:=fun z hz=>o.trans (u z (f.mem (G0u.mpr (.inr hz)))) ux uy (f.alike x hx z hz) h
 refine⟨by rw [←G0j,G0d,f.len];rfl,by rw [←G0j];exact jbU f.perm hy,?_,fun a ha b hb=> ?_,by simp⟩
 ·rw [←G0j]
  refine G0V.mpr ⟨f.dsc,G09 _ _,fun z hz v hv=> ?_⟩
  rw [G0g.mp hv];exact zy z hz
 ·rcases G0u.mp ha with p|p<;>rcases G0u.mp hb with r|r
  ·exact f.alike a p b r
  ·rw [G0g.mp r];exact zy a (G0u.mpr (.inr p))
  ·rw [G0g.mp p];exact yz b r
  ·rw [G0g.mp p,G0g.mp r];exact o.refl uy
theorem jlQ {st:SortSt} {Q:Option Nat→SortSt→Prop} {P T:List Keyed} (ak:jhp prog w A J κ U R) (kd:kindOf st=κ) (o:Ordd U R) (u: ∀x∈T,U x) (h:Lies st P [] T) (h1:1≤T.length)
 (q: ∀n st' Z,1≤n→n≤T.length→Arr st st' →Lies st' P Z (T.drop n)→Z.Perm (T.take n)→Srt R Z→Q (some n) st'):Tm prog w A E J (countRun' P.length T.length) Q st:=by
 have at0: ∀ {i:Nat} {j:Nat},j=P.length+i→(arrOf st).toList[j]? =T[i]? :=fun {i j} e=>by
  have:=h.rest (i:=i)
  rw [G0A,G13] at this
  rw [e];exact this
 have tl: ∀n,n<T.length→ ∃y,T[n]? =some y∧U y:=fun n hn=>⟨T[n],G0c hn,u _ (G1i hn)⟩
 unfold countRun'
 refine .bind (Tm.mono (Tm.range (fun i c st' =>st' =st∧c=(none,i)∧Srt R (T.take i)∧1≤i) (Q:=fun c st' =>st' =st∧c.1=none∧1≤c.2∧c.2≤T.length∧Srt R (T.take c.2)∧(c.2<T.length→ ∀x y,T[c.2-1]? =some x→T[c.2]? =some y→R y x=true)) h1 ⟨rfl,rfl,?_,G0f _⟩ ?_ ?_) ?_)
 ·obtain⟨W,x,e⟩: ∃x r,T=x::r:=by cases T with|nil=>simp at h1|cons x r=>exact⟨x,r,rfl⟩
  rw [e];exact G09 _ _
 ·rintro i ⟨r,m⟩ _ hi ⟨rfl,hc,sr,i1⟩
  injection hc with hr hm
  subst hr hm
  dsimp only
  obtain⟨y,hy,uy⟩:=tl m hi
  obtain⟨x,hx,ux⟩:=tl (m-1) (by omega)
  refine .bind (.ltAt ak kd (show _=some y by rw [at0 rfl];exact hy) (show _=some x by rw [at0 (i:=m-1) (by omega)];exact hx) uy ux ?_)
  dsimp only
  cases hb:R y x with
  |true=>
   rw [if_pos rfl]
   refine .pure ⟨rfl,rfl,i1,by dsimp only;omega,sr,fun _ a b ha hb' => ?_⟩
   dsimp only at ha hb'
   rw [hx] at ha;rw [hy] at hb'
   injection ha with ha;injection hb' with hb'
   rw [←ha,←hb'];exact hb
  |false=>
   rw [if_neg (by decide)]
   refine .pure ⟨rfl,rfl,?_,by omega⟩
   have e1:T.take m=T.take (m-1)++ [x]:=by
    have:=jch hx
    rw [show m-1+1=m by omega] at this;exact this
   rw [jch hy]
   rw [e1] at sr ⊢
   exact jdv o (fun z hz=>u z (G01 (i:=m) (by rw [e1];exact hz))) uy sr hb
 ·rintro ⟨r,m⟩ _ ⟨rfl,hc,sr,i1⟩
  injection hc with hr hm
  subst hr hm
  exact⟨rfl,rfl,i1,G0f _,sr,fun z=>absurd z (G0W _)⟩
 ·rintro ⟨r,n⟩ st' ⟨rfl,hr,n1,n2,sr,br⟩
  dsimp only at hr n1 n2 sr br ⊢
  subst hr
  dsimp only
  have LT: ∀m,Lies st' P (T.take m) (T.drop m):=fun m=>by
   have:=h
   unfold Lies at this ⊢
   rw [this,G1s,G0j,G0O]
  by_cases z1:n=T.length
  ·rw [if_pos (by simpa using z1)]
   exact .pure (q n _ _ n1 n2 (Arr.refl _) (LT n) (.refl _) sr)
  rw [if_neg (by simpa using z1)]
  obtain⟨y,hy,uy⟩:=tl n (by omega)
  obtain⟨x,hx,ux⟩:=tl (n-1) (by omega)
  have yx:=br (by omega) x y hx hy
  have ex:T.take n=T.take (n-1)++ [x]:=by
   have:=jch hx
   rw [show n-1+1=n by omega] at this;exact this
  have lt:(T.take n).length=n:=by rw [G0B];omega
  have dy:T.drop n=y::T.drop (n+1):=jas hy
  by_cases z2:n>1
  ·rw [if_pos z2]
   obtain⟨x0,hx0,ux0⟩:=tl 0 (by omega)
   refine .bind (.ltAt ak kd (show _=some x0 by rw [at0 (i:=0) (j:=P.length) (by omega)];exact hx0) (show _=some x by rw [at0 (i:=n-1) (by omega)];exact hx) ux0 ux ?_)
   dsimp only
   cases hr0:R x0 x with
   |true=>
    rw [if_pos rfl]
    exact .pure (q n _ _ n1 n2 (Arr.refl _) (LT n) (.refl _) sr)
   |false=>
    rw [if_neg (by decide)]
    have alike: ∀p∈T.take n,∀r∈T.take n,R p r=false:=fun p hp r hr=>by
     have up:=u p (G01 hp)
     have ur:=u r (G01 hr)
     have us: ∀z∈T.take n,U z:=fun z hz=>u z (G01 hz)
     have a1:R p x0=false:=jik o us sr (z:=x0) (by rw [G1L (by omega)];exact hx0) hp
     have a2:R x r=false:=jhH o us sr (z:=x) (by rw [lt,G1L (by omega)];exact hx) hr
     have a3:R p x=false:=by
      have:=jhH o us sr (z:=x) (by rw [lt,G1L (by omega)];exact hx) hp
      cases hpx:R p x with
      |false=>rfl
      |true=>
       rcases o.neg p x0 x up ux0 ux hpx with v|v
       ·rw [a1] at v;cases v
       ·rw [hr0] at v;cases v
     exact o.trans ur ux up a2 a3
    have F0:Fall R T [] (T.take n).reverse n:=Fall.turn ⟨lt,.refl _,G1k.mpr fun i j hi hj _=>alike _ (G1i hi) _ (G1i hj),alike,by rw [lt];exact n1⟩
    have F1:=F0.below o u (x:=x) (G1x.mpr (by rw [ex];simp)) hy yx
    refine .bind (.rev (LT n) rfl (by rw [lt]) fun st1 ar1 L0=> .bind (.rule ?_))
    have L1:Lies st1 P (([]++(T.take n).reverse)++ [y]) (T.drop (n+1)):=by
     have:=L0
     unfold Lies at this ⊢
     rw [this,dy];simp
    generalize []++(T.take n).reverse=Zr at F1 L1
    refine .bind (Tm.mono (Tm.range (fun i c s2=>Arr st' s2∧c.1=none∧c.2.1=i∧ ∃Z1 Z2,Lies s2 P (Z1++Z2) (T.drop i)∧Fall R T Z1 Z2 i∧Z2.length=c.2.2+1) (Q:=fun c s2=>Arr st' s2∧c.1=none∧1≤c.2.1∧c.2.1≤T.length∧ ∃Z1 Z2,Lies s2 P (Z1++Z2) (T.drop c.2.1)∧Fall R T Z1 Z2 c.2.1∧Z2.length=c.2.2+1) (by omega) ⟨ar1,rfl,rfl,Zr,[y],L1,F1,rfl⟩ ?_ ?_) ?_)
    ·rintro i ⟨r,m,neq⟩ s2 hi ⟨ar2,hr,hm,Z1,Z2,L2,F2,l2⟩
     dsimp only at hr hm L2 F2 l2 ⊢
     subst hr hm
     have l12:=F2.len
     obtain⟨W,x2,eW⟩:=jbM F2.ne
     have m1:1≤m:=by
      have p:=F2.len
      have r:=F2.ne
      rw [G0d] at p
      omega
     obtain⟨y2,hy2,uy2⟩:=tl m hi
     have xin:x2∈Z2:=by rw [eW];simp
     have ux2:=u x2 (F2.mem (G0u.mpr (.inr xin)))
     have ay:(arrOf s2).toList[P.length+m]? =some y2:=by
      have:=L2.rest (i:=0)
      rw [G1p,l12] at this
      rw [G13] at this
      rw [this];exact hy2
     have ax:(arrOf s2).toList[P.length+m-1]? =some x2:=by
      have L3:Lies s2 P ((Z1++W)++ [x2]) (T.drop m):=by
       have:=L2
       unfold Lies at this ⊢
       rw [this,eW];simp
      have:=L3.end
      rw [←this]
      congr 1
      rw [eW] at l12
      simp only [G0d,G2a] at l12 ⊢
      omega
     refine .bind (.ltAt ak (ar2.1.trans kd) ay ax uy2 ux2 ?_)
     dsimp only
     cases hb:R y2 x2 with
     |true=>
      rw [if_pos rfl]
      by_cases zq:neq>0
      ·rw [if_pos zq]
       have L2' :Lies s2 (P++Z1) Z2 (T.drop m):=by
        have:=L2
        unfold Lies at this ⊢
        rw [this];simp
       refine .bind (.rev L2' (by rw [G0d] at l12 ⊢;omega) (by rw [G0d] at l12 ⊢;omega) fun s3 ar3 L3=> .pure ⟨ar2.trans ar3,rfl,rfl,Z1++Z2.reverse,[y2],?_,F2.turn.below o u (G1x.mpr xin) hy2 hb,rfl⟩)
       have:=L3
       unfold Lies at this ⊢
       rw [this,jas hy2];simp
      ·rw [if_neg zq]
       refine .pure ⟨ar2,rfl,rfl,Z1++Z2,[y2],?_,F2.below o u xin hy2 hb,rfl⟩
       have:=L2
       unfold Lies at this ⊢
       rw [this,jas hy2];simp
     |false=>
      rw [if_neg (by decide)]
      refine .bind (.ltAt ak (ar2.1.trans kd) ax ay ux2 uy2 ?_)
      dsimp only
      cases hc:R x2 y2 with
      |true=>
       rw [if_pos rfl]
       exact .pure ⟨ar2,rfl,by dsimp only;omega,by dsimp only;omega,Z1,Z2,L2,F2,l2⟩
      |false=>
       rw [if_neg (by decide)]
       refine .pure ⟨ar2,rfl,rfl,Z1,Z2++ [y2],?_,F2.like o u xin hy2 hb hc,by rw [G0d,l2];rfl⟩
       have:=L2
       unfold Lies at this ⊢
       rw [this,jas hy2];simp
    ·rintro ⟨r,m,neq⟩ s2 ⟨ar2,hr,hm,Z1,Z2,L2,F2,l2⟩
     dsimp only at hr hm L2 F2 l2
     subst hr hm
     exact⟨ar2,rfl,h1,G0f _,Z1,Z2,L2,F2,l2⟩
    ·rintro ⟨r,m,neq⟩ s2 ⟨ar2,hr,m1,m2,Z1,Z2,L2,F2,l2⟩
     dsimp only at hr m1 m2 L2 F2 l2 ⊢
     subst hr
     have l12:=F2.len
     dsimp only
     by_cases zq:neq>0
     ·rw [if_pos zq]
      have L2' :Lies s2 (P++Z1) Z2 (T.drop m):=by
       have:=L2
       unfold Lies at this ⊢
       rw [this];simp
      refine .bind (.rev L2' (by rw [G0d] at l12 ⊢;omega) (by rw [G0d] at l12 ⊢;omega) fun s3 ar3 L3=> ?_)
      have L3' :Lies s3 P (Z1++Z2.reverse) (T.drop m):=by
       have:=L3
       unfold Lies at this ⊢
       rw [this];simp
      have F3:=F2.turn
      refine .bind (.rev L3' rfl (by rw [F3.len]) fun s4 ar4 L4=> ?_)
      have ar4:=(ar2.trans ar3).trans ar4
      have pm:=(G1G (Z1++Z2.reverse)).trans F3.perm
      have sz:=jf9 F3.dsc
      refine .bind (Tm.mono (Tm.range (fun i c s5=>Arr st' s5∧c=(none,i)∧1≤i∧ ∃Z,Lies s5 P Z (T.drop i)∧Z.Perm (T.take i)∧Srt R Z) (Q:=fun c s5=>Arr st' s5∧c.1=none∧1≤c.2∧c.2≤T.length∧ ∃Z,Lies s5 P Z (T.drop c.2)∧Z.Perm (T.take c.2)∧Srt R Z) m2 ⟨ar4,rfl,m1,_,L4,pm,sz⟩ ?_ ?_) ?_)
      ·rintro i ⟨r,m'⟩ s5 hi ⟨ar5,hc,i1,Z,L5,p5,s5'⟩
       injection hc with hr hm
       subst hr hm
       dsimp only
       have lz:Z.length=m' :=by rw [p5.length_eq,G0B];omega
       obtain⟨W,x5,eW⟩:=jbM (l:=Z) (by omega)
       subst eW
       have lw:W.length+1=m' :=by rw [G0d] at lz;exact lz
       obtain⟨y5,hy5,uy5⟩:=tl m' hi
       have uZ: ∀z∈W++ [x5],U z:=fun z hz=>u z (G01 (p5.mem_iff.mp hz))
       refine .bind (.ltAt ak (ar5.1.trans kd) (show _=some y5 by have:=L5.rest (i:=0);rw [G1p,lz] at this;rw [G13] at this;rw [this];exact hy5) (show _=some x5 by rw [show P.length+m' -1=P.length+W.length by omega];exact L5.end) uy5 (uZ x5 (by simp)) ?_)
       dsimp only
       cases hb:R y5 x5 with
       |true=>
        rw [if_pos rfl]
        exact .pure ⟨ar5,rfl,i1,by dsimp only;omega,_,L5,p5,s5'⟩
       |false=>
        rw [if_neg (by decide)]
        refine .pure ⟨ar5,rfl,by omega,W++ [x5]++ [y5],?_,jbU p5 hy5,jdv o uZ uy5 s5' hb⟩
        have:=L5
        unfold Lies at this ⊢
        rw [this,jas hy5];simp
      ·rintro ⟨r,m'⟩ s5 ⟨ar5,hc,i1,Z,L5,p5,s5'⟩
       injection hc with hr hm
       subst hr hm
       exact⟨ar5,rfl,i1,G0f _,Z,L5,p5,s5'⟩
      ·rintro ⟨r,m'⟩ s5 ⟨ar5,hr,i1,i2,Z,L5,p5,s5'⟩
       dsimp only at hr i1 i2 L5 p5 ⊢
       subst hr
       exact .pure (q m' s5 Z i1 i2 ar5 L5 p5 s5')
     ·rw [if_neg zq]
      refine .bind (.rev L2 rfl (by rw [l12]) fun s4 ar4 L4=> ?_)
      have ar4:=ar2.trans ar4
      have pm:=(G1G (Z1++Z2)).trans F2.perm
      have sz:=jf9 F2.dsc
      refine .bind (Tm.mono (Tm.range (fun i c s5=>Arr st' s5∧c=(none,i)∧1≤i∧ ∃Z,Lies s5 P Z (T.drop i)∧Z.Perm (T.take i)∧Srt R Z) (Q:=fun c s5=>Arr st' s5∧c.1=none∧1≤c.2∧c.2≤T.length∧ ∃Z,Lies s5 P Z (T.drop c.2)∧Z.Perm (T.take c.2)∧Srt R Z) m2 ⟨ar4,rfl,m1,_,L4,pm,sz⟩ ?_ ?_) ?_)
      ·rintro i ⟨r,m'⟩ s5 hi ⟨ar5,hc,i1,Z,L5,p5,s5'⟩
       injection hc with hr hm
       subst hr hm
       dsimp only
       have lz:Z.length=m' :=by rw [p5.length_eq,G0B];omega
       obtain⟨W,x5,eW⟩:=jbM (l:=Z) (by omega)
       subst eW
       have lw:W.length+1=m' :=by rw [G0d] at lz;exact lz
       obtain⟨y5,hy5,uy5⟩:=tl m' hi
       have uZ: ∀z∈W++ [x5],U z:=fun z hz=>u z (G01 (p5.mem_iff.mp hz))
       refine .bind (.ltAt ak (ar5.1.trans kd) (show _=some y5 by have:=L5.rest (i:=0);rw [G1p,lz] at this;rw [G13] at this;rw [this];exact hy5) (show _=some x5 by rw [show P.length+m' -1=P.length+W.length by omega];exact L5.end) uy5 (uZ x5 (by simp)) ?_)
       dsimp only
       cases hb:R y5 x5 with
       |true=>
        rw [if_pos rfl]
        exact .pure ⟨ar5,rfl,i1,by dsimp only;omega,_,L5,p5,s5'⟩
       |false=>
        rw [if_neg (by decide)]
        refine .pure ⟨ar5,rfl,by omega,W++ [x5]++ [y5],?_,jbU p5 hy5,jdv o uZ uy5 s5' hb⟩
        have:=L5
        unfold Lies at this ⊢
        rw [this,jas hy5];simp
      ·rintro ⟨r,m'⟩ s5 ⟨ar5,hc,i1,Z,L5,p5,s5'⟩
       injection hc with hr hm
       subst hr hm
       exact⟨ar5,rfl,i1,G0f _,Z,L5,p5,s5'⟩
      ·rintro ⟨r,m'⟩ s5 ⟨ar5,hr,i1,i2,Z,L5,p5,s5'⟩
       dsimp only at hr i1 i2 L5 p5 ⊢
       subst hr
       exact .pure (q m' s5 Z i1 i2 ar5 L5 p5 s5')
  ·rw [if_neg z2]
   refine .bind (.rule ?_)
   have n0:n=1:=by omega
   have F0:Fall R T [] (T.take n) n:=⟨lt,.refl _,by subst n0;rw [ex];exact G09 _ _,fun p hp r hr=>by
    subst n0
    rw [ex] at hp hr
    have hp' :p=x:=by simpa using hp
    have hr' :r=x:=by simpa using hr
    rw [hp',hr'];exact o.refl ux,by rw [lt];exact n1⟩
   have F1:=F0.below o u (x:=x) (by rw [ex];simp) hy yx
   have ar1:=Arr.refl st'
   have L1:Lies st' P (([]++T.take n)++ [y]) (T.drop (n+1)):=by
    have:=LT n
    unfold Lies at this ⊢
    rw [this,dy];simp
   generalize []++T.take n=Zr at F1 L1
   refine .bind (Tm.mono (Tm.range (fun i c s2=>Arr st' s2∧c.1=none∧c.2.1=i∧ ∃Z1 Z2,Lies s2 P (Z1++Z2) (T.drop i)∧Fall R T Z1 Z2 i∧Z2.length=c.2.2+1) (Q:=fun c s2=>Arr st' s2∧c.1=none∧1≤c.2.1∧c.2.1≤T.length∧ ∃Z1 Z2,Lies s2 P (Z1++Z2) (T.drop c.2.1)∧Fall R T Z1 Z2 c.2.1∧Z2.length=c.2.2+1) (by omega) ⟨ar1,rfl,rfl,Zr,[y],L1,F1,rfl⟩ ?_ ?_) ?_)
   ·rintro i ⟨r,m,neq⟩ s2 hi ⟨ar2,hr,hm,Z1,Z2,L2,F2,l2⟩
    dsimp only at hr hm L2 F2 l2 ⊢
    subst hr hm
    have l12:=F2.len
    obtain⟨W,x2,eW⟩:=jbM F2.ne
    have m1:1≤m:=by
     have p:=F2.len
     have r:=F2.ne
     rw [G0d] at p
     omega
    obtain⟨y2,hy2,uy2⟩:=tl m hi
    have xin:x2∈Z2:=by rw [eW];simp
    have ux2:=u x2 (F2.mem (G0u.mpr (.inr xin)))
    have ay:(arrOf s2).toList[P.length+m]? =some y2:=by
     have:=L2.rest (i:=0)
     rw [G1p,l12] at this
     rw [G13] at this
     rw [this];exact hy2
    have ax:(arrOf s2).toList[P.length+m-1]? =some x2:=by
     have L3:Lies s2 P ((Z1++W)++ [x2]) (T.drop m):=by
      have:=L2
      unfold Lies at this ⊢
      rw [this,eW];simp
     have:=L3.end
     rw [←this]
     congr 1
     rw [eW] at l12
     simp only [G0d,G2a] at l12 ⊢
     omega
    refine .bind (.ltAt ak (ar2.1.trans kd) ay ax uy2 ux2 ?_)
    dsimp only
    cases hb:R y2 x2 with
    |true=>
     rw [if_pos rfl]
     by_cases zq:neq>0
     ·rw [if_pos zq]
      have L2' :Lies s2 (P++Z1) Z2 (T.drop m):=by
       have:=L2
       unfold Lies at this ⊢
       rw [this];simp
      refine .bind (.rev L2' (by rw [G0d] at l12 ⊢;omega) (by rw [G0d] at l12 ⊢;omega) fun s3 ar3 L3=> .pure ⟨ar2.trans ar3,rfl,rfl,Z1++Z2.reverse,[y2],?_,F2.turn.below o u (G1x.mpr xin) hy2 hb,rfl⟩)
      have:=L3
      unfold Lies at this ⊢
      rw [this,jas hy2];simp
     ·rw [if_neg zq]
      refine .pure ⟨ar2,rfl,rfl,Z1++Z2,[y2],?_,F2.below o u xin hy2 hb,rfl⟩
      have:=L2
      unfold Lies at this ⊢
      rw [this,jas hy2];simp
    |false=>
     rw [if_neg (by decide)]
     refine .bind (.ltAt ak (ar2.1.trans kd) ax ay ux2 uy2 ?_)
     dsimp only
     cases hc:R x2 y2 with
     |true=>
      rw [if_pos rfl]
      exact .pure ⟨ar2,rfl,by dsimp only;omega,by dsimp only;omega,Z1,Z2,L2,F2,l2⟩
     |false=>
      rw [if_neg (by decide)]
      refine .pure ⟨ar2,rfl,rfl,Z1,Z2++ [y2],?_,F2.like o u xin hy2 hb hc,by rw [G0d,l2];rfl⟩
      have:=L2
      unfold Lies at this ⊢
      rw [this,jas hy2];simp
   ·rintro ⟨r,m,neq⟩ s2 ⟨ar2,hr,hm,Z1,Z2,L2,F2,l2⟩
    dsimp only at hr hm L2 F2 l2
    subst hr hm
    exact⟨ar2,rfl,h1,G0f _,Z1,Z2,L2,F2,l2⟩
   ·rintro ⟨r,m,neq⟩ s2 ⟨ar2,hr,m1,m2,Z1,Z2,L2,F2,l2⟩
    dsimp only at hr m1 m2 L2 F2 l2 ⊢
    subst hr
    have l12:=F2.len
    dsimp only
    by_cases zq:neq>0
    ·rw [if_pos zq]
     have L2' :Lies s2 (P++Z1) Z2 (T.drop m):=by
      have:=L2
      unfold Lies at this ⊢
      rw [this];simp
     refine .bind (.rev L2' (by rw [G0d] at l12 ⊢;omega) (by rw [G0d] at l12 ⊢;omega) fun s3 ar3 L3=> ?_)
     have L3' :Lies s3 P (Z1++Z2.reverse) (T.drop m):=by
      have:=L3
      unfold Lies at this ⊢
      rw [this];simp
     have F3:=F2.turn
     refine .bind (.rev L3' rfl (by rw [F3.len]) fun s4 ar4 L4=> ?_)
     have ar4:=(ar2.trans ar3).trans ar4
     have pm:=(G1G (Z1++Z2.reverse)).trans F3.perm
     have sz:=jf9 F3.dsc
     refine .bind (Tm.mono (Tm.range (fun i c s5=>Arr st' s5∧c=(none,i)∧1≤i∧ ∃Z,Lies s5 P Z (T.drop i)∧Z.Perm (T.take i)∧Srt R Z) (Q:=fun c s5=>Arr st' s5∧c.1=none∧1≤c.2∧c.2≤T.length∧ ∃Z,Lies s5 P Z (T.drop c.2)∧Z.Perm (T.take c.2)∧Srt R Z) m2 ⟨ar4,rfl,m1,_,L4,pm,sz⟩ ?_ ?_) ?_)
     ·rintro i ⟨r,m'⟩ s5 hi ⟨ar5,hc,i1,Z,L5,p5,s5'⟩
      injection hc with hr hm
      subst hr hm
      dsimp only
      have lz:Z.length=m' :=by rw [p5.length_eq,G0B];omega
      obtain⟨W,x5,eW⟩:=jbM (l:=Z) (by omega)
      subst eW
      have lw:W.length+1=m' :=by rw [G0d] at lz;exact lz
      obtain⟨y5,hy5,uy5⟩:=tl m' hi
      have uZ: ∀z∈W++ [x5],U z:=fun z hz=>u z (G01 (p5.mem_iff.mp hz))
      refine .bind (.ltAt ak (ar5.1.trans kd) (show _=some y5 by have:=L5.rest (i:=0);rw [G1p,lz] at this;rw [G13] at this;rw [this];exact hy5) (show _=some x5 by rw [show P.length+m' -1=P.length+W.length by omega];exact L5.end) uy5 (uZ x5 (by simp)) ?_)
      dsimp only
      cases hb:R y5 x5 with
      |true=>
       rw [if_pos rfl]
       exact .pure ⟨ar5,rfl,i1,by dsimp only;omega,_,L5,p5,s5'⟩
      |false=>
       rw [if_neg (by decide)]
       refine .pure ⟨ar5,rfl,by omega,W++ [x5]++ [y5],?_,jbU p5 hy5,jdv o uZ uy5 s5' hb⟩
       have:=L5
       unfold Lies at this ⊢
       rw [this,jas hy5];simp
     ·rintro ⟨r,m'⟩ s5 ⟨ar5,hc,i1,Z,L5,p5,s5'⟩
      injection hc with hr hm
      subst hr hm
      exact⟨ar5,rfl,i1,G0f _,Z,L5,p5,s5'⟩
     ·rintro ⟨r,m'⟩ s5 ⟨ar5,hr,i1,i2,Z,L5,p5,s5'⟩
      dsimp only at hr i1 i2 L5 p5 ⊢
      subst hr
      exact .pure (q m' s5 Z i1 i2 ar5 L5 p5 s5')
    ·rw [if_neg zq]
     refine .bind (.rev L2 rfl (by rw [l12]) fun s4 ar4 L4=> ?_)
     have ar4:=ar2.trans ar4
     have pm:=(G1G (Z1++Z2)).trans F2.perm
     have sz:=jf9 F2.dsc
     refine .bind (Tm.mono (Tm.range (fun i c s5=>Arr st' s5∧c=(none,i)∧1≤i∧ ∃Z,Lies s5 P Z (T.drop i)∧Z.Perm (T.take i)∧Srt R Z) (Q:=fun c s5=>Arr st' s5∧c.1=none∧1≤c.2∧c.2≤T.length∧ ∃Z,Lies s5 P Z (T.drop c.2)∧Z.Perm (T.take c.2)∧Srt R Z) m2 ⟨ar4,rfl,m1,_,L4,pm,sz⟩ ?_ ?_) ?_)
     ·rintro i ⟨r,m'⟩ s5 hi ⟨ar5,hc,i1,Z,L5,p5,s5'⟩
      injection hc with hr hm
      subst hr hm
      dsimp only
      have lz:Z.length=m' :=by rw [p5.length_eq,G0B];omega
      obtain⟨W,x5,eW⟩:=jbM (l:=Z) (by omega)
      subst eW
      have lw:W.length+1=m' :=by rw [G0d] at lz;exact lz
      obtain⟨y5,hy5,uy5⟩:=tl m' hi
      have uZ: ∀z∈W++ [x5],U z:=fun z hz=>u z (G01 (p5.mem_iff.mp hz))
      refine .bind (.ltAt ak (ar5.1.trans kd) (show _=some y5 by have:=L5.rest (i:=0);rw [G1p,lz] at this;rw [G13] at this;rw [this];exact hy5) (show _=some x5 by rw [show P.length+m' -1=P.length+W.length by omega];exact L5.end) uy5 (uZ x5 (by simp)) ?_)
      dsimp only
      cases hb:R y5 x5 with
      |true=>
       rw [if_pos rfl]
       exact .pure ⟨ar5,rfl,i1,by dsimp only;omega,_,L5,p5,s5'⟩
      |false=>
       rw [if_neg (by decide)]
       refine .pure ⟨ar5,rfl,by omega,W++ [x5]++ [y5],?_,jbU p5 hy5,jdv o uZ uy5 s5' hb⟩
       have:=L5
       unfold Lies at this ⊢
       rw [this,jas hy5];simp
     ·rintro ⟨r,m'⟩ s5 ⟨ar5,hc,i1,Z,L5,p5,s5'⟩
      injection hc with hr hm
      subst hr hm
      exact⟨ar5,rfl,i1,G0f _,Z,L5,p5,s5'⟩
     ·rintro ⟨r,m'⟩ s5 ⟨ar5,hr,i1,i2,Z,L5,p5,s5'⟩
      dsimp only at hr i1 i2 L5 p5 ⊢
      subst hr
      exact .pure (q m' s5 Z i1 i2 ar5 L5 p5 s5')
end
section
variable {prog:Program} {w:World} {A:Around} {E:Value→Shared→Prop} {J:Shared→Prop} {κ:SortKind} {U:Keyed→Prop} {R:Keyed→Keyed→Bool}
theorem jlR (xs:Array Keyed) (P Z S:List Keyed) (y:Keyed) (l:Nat) (hl:l≤Z.length) (h:xs.toList=P++Z++y::S):(bubble xs (P.length+Z.length) (Z.length-l)).toList=P++(Z.take l++ [y]++Z.drop l)++S:=by
 have hz:xs.size=P.length+Z.length+(S.length+1):=by rw [←G0m,h];simp [G4l]
 have at_: ∀k,xs[k]? =(P++Z++y::S)[k]? :=fun k=>by rw [←G0K,h]
 refine G2H fun k=> ?_
 rw [G0K,getElem?_bubble (by omega) _ (by omega)]
 have lt:(Z.take l).length=l:=by rw [G0B];omega
 by_cases c:k=P.length+Z.length-(Z.length-l)
 ·rw [if_pos c,at_]
  have e1:(P++Z++y::S)[P.length+Z.length]? =some y:=by
   rw [G0s (by rw [G0d];omega),G0d,Nat.sub_self];rfl
  have e2:(P++(Z.take l++ [y]++Z.drop l)++S)[k]? =some y:=by
   rw [G0j,G0s (by omega),G0j,G0j,G0s (by rw [lt];omega),lt,show k-P.length-l=0 by omega];rfl
  rw [e1,e2]
 ·rw [if_neg c]
  by_cases d:P.length+Z.length-(Z.length-l)<k∧k≤P.length+Z.length
  ·rw [if_pos d,at_]
   have e1:(P++Z++y::S)[k-1]? =Z[k-1-P.length]? :=by
    rw [G0j,G0s (by omega),G0R (by omega)]
   have e2:(P++(Z.take l++ [y]++Z.drop l)++S)[k]? =Z[k-1-P.length]? :=by
    rw [G0j,G0s (by omega),G0R (by simp only [G0d,G0B,G0X,G2a];omega),G0s (by rw [G0d,lt];simp;omega),G0d,lt,G1p]
    congr 1;simp;omega
   rw [e1,e2]
  ·rw [if_neg d,at_]
   by_cases f:k<P.length+l
   ·have e1:(P++Z++y::S)[k]? =(P++Z.take l)[k]? :=by
     have:P++Z++y::S=P++Z.take l++(Z.drop l++y::S):=by
      rw [G0j,G0j,←G0j (Z.take l),G0O]
     rw [this,G0R (by rw [G0d,lt];omega)]
    have e2:(P++(Z.take l++ [y]++Z.drop l)++S)[k]? =(P++Z.take l)[k]? :=by
     have:P++(Z.take l++ [y]++Z.drop l)++S=P++Z.take l++([y]++Z.drop l++S):=by simp [G0j]
     rw [this,G0R (by rw [G0d,lt];omega)]
    rw [e1,e2]
   ·have e1:(P++Z++y::S)[k]? =S[k-P.length-Z.length-1]? :=by
     rw [G0s (by rw [G0d];omega),G0d,List.getElem?_cons,if_neg (by omega)]
     congr 1;omega
    have e2:(P++(Z.take l++ [y]++Z.drop l)++S)[k]? =S[k-P.length-Z.length-1]? :=by
     rw [G0s (by simp only [G0d,G0B,G0X,G2a];omega)]
     congr 1;simp only [G0d,G0B,G0X,G2a];omega
    rw [e1,e2]
theorem jnY (o:Ordd U R) {Z:List Keyed} {y:Keyed} {l:Nat} (u: ∀z∈Z,U z) (uy:U y) (s:Srt R Z) (a: ∀z∈Z.take l,R y z=false) (b: ∀z∈Z.drop l,R y z=true):Srt R (Z.take l++ [y]++Z.drop l):=by
 have s' :Srt R (Z.take l++Z.drop l):=by rw [G0O];exact s
 obtain⟨s1,s2,s3⟩:=G0V.mp s'
 refine G0V.mpr ⟨G0V.mpr ⟨s1,G09 _ _,fun x hx z hz=> ?_⟩,s2,fun x hx z hz=> ?_⟩
 ·rw [G0g.mp hz];exact a x hx
 ·rcases G0u.mp hx with v|v
  ·exact s3 x v z hz
  ·rw [G0g.mp v]
   exact o.asym y z uy (u z (G1q hz)) (b z hz)
theorem jqz {st:SortSt} {Q:Bool→SortSt→Prop} {P T Z:List Keyed} {n k:Nat} (ak:jhp prog w A J κ U R) (kd:kindOf st=κ) (o:Ordd U R) (u: ∀x∈T,U x) (h:Lies st P Z (T.drop k)) (hp:Z.Perm (T.take k)) (hs:Srt R Z) (k1:1≤k) (kn:k≤n) (hn:n≤T.length)
 (q: ∀st' Z',Arr st st' →Lies st' P Z' (T.drop n)→Z'.Perm (T.take n)→Srt R Z' →Q true st'):Tm prog w A E J (binarySort' P.length n k) Q st:=by
 unfold binarySort'
 refine .bind (Tm.mono (Tm.range (fun i c s1=>Arr st s1∧c.1=none∧1≤i∧ ∃Z,Lies s1 P Z (T.drop i)∧Z.Perm (T.take i)∧Srt R Z) (Q:=fun c s1=>Arr st s1∧c.1=none∧ ∃Z,Lies s1 P Z (T.drop n)∧Z.Perm (T.take n)∧Srt R Z) (by omega) ⟨Arr.refl st,rfl,by omega,Z,by rw [Nat.max_eq_left k1];exact h,by rw [Nat.max_eq_left k1];exact hp,hs⟩ ?_ ?_) ?_)
 ·rintro i ⟨r,c2⟩ s1 hi ⟨ar,hr,i1,Z,L,p,s⟩
  dsimp only at hr ⊢
  subst hr
  obtain⟨y,hy⟩: ∃y,T[i]? =some y:=⟨_,G0c (by omega)⟩
  have uy:=u y (G0i hy)
  have lz:Z.length=i:=by rw [p.length_eq,G0B];omega
  have uZ: ∀z∈Z,U z:=fun z hz=>u z (G01 (p.mem_iff.mp hz))
  have ay:(arrOf s1).toList[P.length+i]? =some y:=by
   have:=L.rest (i:=0)
   rw [G1p,lz] at this
   rw [G13] at this
   rw [this];exact hy
  have az: ∀m,m<i→ ∃z,Z[m]? =some z∧(arrOf s1).toList[P.length+m]? =some z:=fun m hm=>by
   refine⟨Z[m],G0c (by omega),?_⟩
   rw [L,G0j,G0s (by omega),G0R (by omega),G4k,G0c (by omega)]
  refine .bind (Tm.mono (Tm.range (fun j c s2=>s2=s1∧c.1=none∧c.2.1≤c.2.2∧c.2.2≤i∧(∀z∈Z.take c.2.1,R y z=false)∧(∀z∈Z.drop c.2.2,R y z=true)∧c.2.2-c.2.1+j≤i) (Q:=fun c s2=>s2=s1∧c.1=none∧c.2.1≤i∧(∀z∈Z.take c.2.1,R y z=false)∧(∀z∈Z.drop c.2.1,R y z=true)) (Nat.zero_le _) ⟨rfl,rfl,Nat.zero_le _,Nat.le_refl _,fun z hz=> ?_,fun z hz=> ?_,by dsimp only;omega⟩ ?_ ?_) ?_)
  ·dsimp only at hz;rw [List.take_zero] at hz;cases hz
  ·dsimp only at hz;rw [List.drop_eq_nil_of_le (by omega)] at hz;cases hz
  ·rintro j ⟨r,l,v⟩ _ hj ⟨rfl,hr,b1,b2,b3,b4,b5⟩
   dsimp only at hr b1 b2 b3 b4 b5 ⊢
   subst hr
   by_cases c1:l≥v
   ·rw [if_pos c1]
    have:l=v:=by omega
    subst this
    exact .pure ⟨rfl,rfl,b2,b3,b4⟩
   rw [if_neg c1]
   obtain⟨z,hz,ez⟩:=az ((l+v) / 2) (by omega)
   have uz:=uZ z (G0i hz)
   refine .bind (.ltAt ak (ar.1.trans kd) ay ez uy uz ?_)
   dsimp only
   cases hb:R y z with
   |true=>
    rw [if_pos rfl]
    refine .pure ⟨rfl,rfl,by dsimp only;omega,by dsimp only;omega,b3,fun x hx=> ?_,by dsimp only;omega⟩
    dsimp only at hx
    have zx:R x z=false:=by
     obtain⟨t,ht,e⟩:=G2m hx
     rw [G0X] at ht
     exact jeI s o uZ (show (l+v) / 2≤(l+v) / 2+t by omega) hz (by rw [G0c (by omega),←e,List.getElem_drop])
    rcases o.neg y x z uy (uZ x (G1q hx)) uz hb with w|w
    ·exact w
    ·rw [zx] at w;cases w
   |false=>
    rw [if_neg (by decide)]
    refine .pure ⟨rfl,rfl,by dsimp only;omega,b2,fun x hx=> ?_,b4,by dsimp only;omega⟩
    dsimp only at hx
    have xz:R z x=false:=by
     obtain⟨t,ht,e⟩:=G2m hx
     rw [G0B] at ht
     exact jeI s o uZ (show t≤(l+v) / 2 by omega) (by rw [G0c (by omega),←e,List.getElem_take]) hz
    exact o.trans (uZ x (G01 hx)) uz uy xz hb
  ·rintro ⟨r,l,v⟩ _ ⟨rfl,hr,b1,b2,b3,b4,b5⟩
   dsimp only at hr b1 b2 b3 b4 b5 ⊢
   have:l=v:=by omega
   subst this
   exact⟨rfl,hr,b2,b3,b4⟩
  ·rintro ⟨r,l,v⟩ s2 ⟨rfl,hr,b2,b3,b4⟩
   dsimp only at hr b2 b3 b4 ⊢
   subst hr
   dsimp only
   refine .bind ?_
   show Tm prog w A E J (moveDown' (P.length+i) (P.length+l)) _ _
   rw [moveDown'_eq]
   refine .modify (.pure ⟨ar.trans ⟨rfl,rfl,rfl,rfl⟩,rfl,by omega,Z.take l++ [y]++Z.drop l,?_,?_,jnY o uZ uy s b3 b4⟩)
   ·have:=jlR (arrOf s2) P Z (T.drop (i+1)) y l (by omega) (by rw [←jas hy];exact L)
    rw [lz] at this
    rw [show P.length+i-(P.length+l)=i-l by omega]
    exact this
   ·refine List.Perm.trans ?_ (jbU p hy)
    rw [G0j]
    have e:Z++ [y]=Z.take l++(Z.drop l++ [y]):=by rw [←G0j,G0O]
    rw [e]
    exact(G2X).append_left _
 ·rintro ⟨r,c2⟩ s1 ⟨ar,hr,i1,Z,L,p,s⟩
  exact⟨ar,hr,Z,L,p,s⟩
 ·rintro ⟨r,c2⟩ s1 ⟨ar,hr,Z,L,p,s⟩
  dsimp only at hr ⊢
  subst hr
  exact .pure (q s1 Z ar L p s)
end
section
variable {prog:Program} {w:World} {A:Around} {E:Value→Shared→Prop} {J:Shared→Prop} {κ:SortKind} {U:Keyed→Prop} {R:Keyed→Keyed→Bool}
def Stk (R:Keyed→Keyed→Bool) (l:List Keyed):List (Nat×Nat×Nat)→Nat→Nat→Prop
 | [],s,e=>s=e
 |(p,n,_)::rest,s,e=>p=s∧1≤n∧Srt R (seg l p n)∧Stk R l rest (s+n) e
theorem Stk.le {l:List Keyed}: ∀ {pl:List (Nat×Nat×Nat)} {s e:Nat},Stk R l pl s e→s+pl.length≤e
 | [],s,e,h=>by cases h;simp
 |(p,n,_)::rest,s,e,⟨_,n1,_,h⟩=>by have:=Stk.le h;simp only [G0h];omega
theorem jlS {l l' :List Keyed} {p n e:Nat} (h:l.take e=l'.take e) (he:p+n≤e):seg l p n=seg l' p n:=by
 have cut: ∀k:List Keyed,seg k p n=seg (k.take e) p n:=fun k=>by
  unfold seg
  rw [G4C,G4D,G3m (by omega)]
 rw [cut l,cut l',h]
theorem Stk.same {l l' :List Keyed}: ∀ {pl:List (Nat×Nat×Nat)} {s e:Nat},Stk R l pl s e→l.take e=l'.take e→Stk R l' pl s e
 | [],s,e,h,_=>h
 |(p,n,_)::rest,s,e,⟨a,b,c,d⟩,h=>by
  have:=d.le
  exact⟨a,b,by rw [←jlS h (by omega)];exact c,d.same h⟩
theorem Stk.shift {l l' :List Keyed}: ∀ {pl:List (Nat×Nat×Nat)} {s e:Nat},Stk R l pl s e→l.drop s=l'.drop s→Stk R l' pl s e
 | [],s,e,h,_=>h
 |(p,n,_)::rest,s,e,⟨a,b,c,d⟩,h=>by
  subst a
  refine⟨rfl,b,by unfold seg at c ⊢;rw [←h];exact c,d.shift ?_⟩
  rw [←G2u,←G2u,h]
theorem Stk.append {l:List Keyed}: ∀ {a b:List (Nat×Nat×Nat)} {s e:Nat},Stk R l (a++b) s e↔ ∃m,Stk R l a s m∧Stk R l b m e
 | [],b,s,e=>⟨fun h=>⟨s,rfl,h⟩,fun ⟨m,h,h'⟩=>by cases h;exact h'⟩
 |(p,n,w)::a,b,s,e=>by
  constructor
  ·rintro ⟨x,y,z,h⟩
   obtain⟨m,h1,h2⟩:=Stk.append.mp h
   exact⟨m,⟨x,y,z,h1⟩,h2⟩
  ·rintro ⟨m,⟨x,y,z,h1⟩,h2⟩
   exact⟨x,y,z,Stk.append.mpr ⟨m,h1,h2⟩⟩
structure Bt (R:Keyed→Keyed→Bool) (κ:SortKind) (l0:List Keyed) (lo:Nat) (st:SortSt):Prop where
 kind:kindOf st=κ
 failed:failedOf st=none
 perm:(arrOf st).toList.Perm l0
 stk:Stk R (arrOf st).toList (pendingOf st).toList 0 lo
theorem Bt.size {l0:List Keyed} {lo:Nat} {st:SortSt} (b:Bt R κ l0 lo st):(arrOf st).size=l0.length:=by rw [←G0m,b.perm.length_eq]
theorem Bt.merge {l0:List Keyed} {lo:Nat} {st:SortSt} {Q:Bool→SortSt→Prop} {i:Nat} (ak:jhp prog w A J κ U R) (o:Ordd U R) (u: ∀x∈l0,U x) (b:Bt R κ l0 lo st) (hlo:lo≤l0.length) (hi:i+1<(pendingOf st).size)
 (q: ∀st',Bt R κ l0 lo st' →(pendingOf st').size+1=(pendingOf st).size→(arrOf st').toList.drop lo=(arrOf st).toList.drop lo→Q true st'):Tm prog w A E J (mergeAt' i) Q st:=by
 have lp:(pendingOf st).toList.length=(pendingOf st).size:=by simp
 obtain⟨⟨sa,na,pw⟩,hx⟩: ∃x,(pendingOf st).toList[i]? =some x:=⟨_,G0c (by omega)⟩
 obtain⟨⟨sb,nb,pw2⟩,hy⟩: ∃y,(pendingOf st).toList[i+1]? =some y:=⟨_,G0c (by omega)⟩
 have e:(pendingOf st).toList=(pendingOf st).toList.take i++(sa,na,pw)::(sb,nb,pw2)::(pendingOf st).toList.drop (i+2):=by
  rw [←jas hy,←jas hx,G0O]
 have stk:=b.stk
 rw [e] at stk
 obtain⟨m,k1,em,n1,s1,eb,n2,s2,k2⟩:=Stk.append.mp stk
 subst em
 subst eb
 have le:=k2.le
 have sz:=b.size
 have hz:sa+na+nb≤(arrOf st).size:=by omega
 have ln:(arrOf st).toList.length=(arrOf st).size:=by simp
 refine jqy ak b.kind o (fun x hx=>u x (b.perm.mem_iff.mp hx)) (by rw [←G0K];exact hx) (by rw [←G0K];exact hy) rfl n1 n2 hz s1 s2 b.failed fun st' Z kd hf hp ha pz sz' => ?_
 have hpl:(pendingOf st').toList=(pendingOf st).toList.take i++(sa,na+nb,pw)::(pendingOf st).toList.drop (i+2):=by
  rw [hp,Array.eraseIdxIfInBounds_eq,dif_pos (by rw [G3d];exact hi),Array.toList_eraseIdx,G3X]
  generalize (pendingOf st).toList.drop (i+2)=B at e ⊢
  have li:((pendingOf st).toList.take i).length=i:=by rw [G0B];omega
  generalize (pendingOf st).toList.take i=A at e li ⊢
  rw [e]
  subst li
  simp [List.set_append,List.eraseIdx_append]
  intro z;omega
 have lZ:Z.length=na+nb:=by rw [pz.length_eq,G0d,jeK (by omega),jeK (by omega)]
 have lt:((arrOf st).toList.take sa).length=sa:=by rw [G0B];omega
 refine q st' ⟨kd,hf,?_,?_⟩ ?_ ?_
 ·rw [ha]
  refine List.Perm.trans ?_ b.perm
  have c3:=jg0 (arrOf st).toList (p:=sa) (n:=na) (m:=nb)
  have pp:=(pz.append_left ((arrOf st).toList.take sa)).append_right ((arrOf st).toList.drop (sa+na+nb))
  rw [←c3] at pp
  exact pp
 ·rw [hpl,ha]
  refine Stk.append.mpr ⟨sa,k1.same ?_,rfl,by omega,?_,?_⟩
  ·rw [G0j,G2g (by omega),G0F (l:=(arrOf st).toList.take sa) (by omega)]
  ·unfold seg
   rw [G0j,G2f (by omega),G1J (by omega),G0Q,G2g (by omega),G0F (by omega)]
   exact sz'
  ·rw [←G4l]
   refine k2.shift ?_
   have:((arrOf st).toList.take sa++Z).length=sa+na+nb:=by rw [G0d,lt,lZ];omega
   rw [G2f (by omega),G1J (as:=(arrOf st).toList.take sa++Z) (by omega),G0Q]
 ·rw [←G0m,←G0m,hpl]
  have:(pendingOf st).toList.length=((pendingOf st).toList.take i++(sa,na,pw)::(sa+na,nb,pw2)::(pendingOf st).toList.drop (i+2)).length:=congrArg List.length e
  rw [this]
  simp only [G0d,G0h]
  omega
 ·rw [ha]
  have c1:((arrOf st).toList.take sa++Z).length=sa+na+nb:=by rw [G0d,lt,lZ];omega
  have c2:sa+na+nb≤lo:=by omega
  rw [List.drop_append,G1J (as:=(arrOf st).toList.take sa++Z) (by omega),G0Q,G2u,c1]
  congr 1;omega
theorem Bt.run {l0 Z:List Keyed} {lo n:Nat} {s1 s2:SortSt} (b:Bt R κ l0 lo s1) (hlo:lo≤l0.length) (ar:Arr s1 s2) (L:Lies s2 ((arrOf s1).toList.take lo) Z (((arrOf s1).toList.drop lo).drop n)) (p:Z.Perm (((arrOf s1).toList.drop lo).take n)) (sr:Srt R Z) (hn:n≤l0.length-lo):Bt R κ l0 lo s2∧Srt R (seg (arrOf s2).toList lo n):=by
 have ln:(arrOf s1).toList.length=l0.length:=b.perm.length_eq
 have lP:((arrOf s1).toList.take lo).length=lo:=by rw [G0B];omega
 have lZ:Z.length=n:=by rw [p.length_eq,G0B,G0X];omega
 have e:(arrOf s2).toList=(arrOf s1).toList.take lo++Z++((arrOf s1).toList.drop lo).drop n:=L
 refine⟨⟨ar.1.trans b.kind,ar.2.2.1.trans b.failed,?_,?_⟩,?_⟩
 ·rw [e]
  refine List.Perm.trans ?_ b.perm
  have pp:=(p.append_left ((arrOf s1).toList.take lo)).append_right (((arrOf s1).toList.drop lo).drop n)
  rw [G0j _ (((arrOf s1).toList.drop lo).take n),G0O,G0O] at pp
  exact pp
 ·rw [ar.2.1]
  refine b.stk.same ?_
  rw [e,G0j,G2g (by omega),G0F (l:=(arrOf s1).toList.take lo) (by omega)]
 ·rw [e]
  unfold seg
  rw [G0j,G2f (by omega),G1J (by omega),G0Q,G2g (by omega),G0F (by omega)]
  exact sr
theorem Bt.push {l0:List Keyed} {lo n:Nat} {s:SortSt} (b:Bt R κ l0 lo s) (n1:1≤n) (g:Srt R (seg (arrOf s).toList lo n)):Bt R κ l0 (lo+n) (setPending s ((pendingOf s).push (lo,n,0))):=by
 refine⟨b.kind,b.failed,b.perm,?_⟩
 show Stk R (arrOf s).toList ((pendingOf s).push (lo,n,0)).toList 0 (lo+n)
 rw [G1F]
 exact Stk.append.mpr ⟨lo,b.stk,rfl,n1,g,rfl⟩
theorem Stk.mod {l:List Keyed} {f:Nat×Nat×Nat→Nat×Nat×Nat} (hf: ∀x,(f x).1=x.1∧(f x).2.1=x.2.1): ∀ {pl:List (Nat×Nat×Nat)} {k s e:Nat},Stk R l pl s e→Stk R l (pl.modify k f) s e
 | [],k,s,e,h=>by rw [List.modify_nil];exact h
 |(p,n,w)::rest,0,s,e,⟨a,b,c,d⟩=>by
  rw [List.modify_zero_cons]
  have e1:=(hf (p,n,w)).1
  have e2:=(hf (p,n,w)).2
  generalize f (p,n,w)=x at e1 e2
  obtain⟨p',n',w'⟩:=x
  dsimp only at e1 e2
  subst e1 e2
  exact⟨a,b,c,d⟩
 |(p,n,w)::rest,k+1,s,e,⟨a,b,c,d⟩=>by
  rw [List.modify_succ_cons]
  exact⟨a,b,c,d.mod hf⟩
theorem Bt.mod {l0:List Keyed} {lo k:Nat} {s:SortSt} {f:Nat×Nat×Nat→Nat×Nat×Nat} (b:Bt R κ l0 lo s) (hf: ∀x,(f x).1=x.1∧(f x).2.1=x.2.1):Bt R κ l0 lo (setPending s ((pendingOf s).modify k f)):=by
 refine⟨b.kind,b.failed,b.perm,?_⟩
 show Stk R (arrOf s).toList ((pendingOf s).modify k f).toList 0 lo
 rw [Array.toList_modify]
 exact b.stk.mod hf
theorem jlT (c:Bool) (x:Nat):(if c=true then x-1 else x)≤x:=by cases c<;>simp
theorem jnZ {l0:List Keyed} {st:SortSt} {Q:Unit→SortSt→Prop} (ak:jhp prog w A J κ U R) (o:Ordd U R) (u: ∀x∈l0,U x) (kd:kindOf st=κ) (hf:failedOf st=none) (hp:pendingOf st= #[]) (hl:(arrOf st).toList=l0)
 (q: ∀st',failedOf st' =none→(arrOf st').toList.Perm l0→Srt R (arrOf st').toList→Q () st'):Tm prog w A E J sortRuns' Q st:=by
 have b0:Bt R κ l0 0 st:=⟨kd,hf,by rw [hl],by rw [hp];rfl⟩
 rw [sortRuns'_eq]
 refine .bind (.get ?_)
 dsimp only
 rw [b0.size]
 generalize minRun' l0.length l0.length 0=mr
 refine .bind (Tm.mono (Tm.range (fun i c s1=>c.1=none∧c.2≤l0.length∧i≤c.2∧Bt R κ l0 c.2 s1) (Q:=fun c s1=>c.1=none∧Bt R κ l0 l0.length s1) (G06 _) ⟨rfl,G06 _,G06 _,b0⟩ ?_ ?_) ?_)
 ·rintro i ⟨r,lo⟩ s1 hi ⟨hr,h1,h2,b⟩
  dsimp only at hr h1 h2 b ⊢
  subst hr
  by_cases z1:lo≥l0.length
  ·rw [if_pos z1]
   have:lo=l0.length:=by omega
   subst this
   exact .pure ⟨rfl,b⟩
  rw [if_neg z1]
  have ln:(arrOf s1).toList.length=l0.length:=b.perm.length_eq
  have lP:((arrOf s1).toList.take lo).length=lo:=by rw [G0B];omega
  have lT:((arrOf s1).toList.drop lo).length=l0.length-lo:=by rw [G0X,ln]
  have uT: ∀x∈(arrOf s1).toList.drop lo,U x:=fun x hx=>u x (b.perm.mem_iff.mp (G1q hx))
  have ct:=fun {Q}=>jlQ (prog:=prog) (w:=w) (A:=A) (E:=E) (J:=J) (Q:=Q) (st:=s1) (P:=(arrOf s1).toList.take lo) (T:=(arrOf s1).toList.drop lo) ak b.kind o uT (by unfold Lies;rw [List.append_nil,List.take_append_drop]) (by omega)
  rw [lP,lT] at ct
  refine .bind (ct fun n s2 Z n1 n2 ar L p sr=> ?_)
  dsimp only
  by_cases z2:n<mr
  ·rw [if_pos z2]
   have bn:=fun {Q}=>jqz (prog:=prog) (w:=w) (A:=A) (E:=E) (J:=J) (Q:=Q) (st:=s2) (P:=(arrOf s1).toList.take lo) (T:=(arrOf s1).toList.drop lo) (n:=min (l0.length-lo) mr) ak (ar.1.trans b.kind) o uT L p sr n1 (by omega) (by omega)
   rw [lP] at bn
   refine .bind (.rule (.bind (bn fun s3 Z3 ar3 L3 p3 sr3=> ?_)))
   obtain⟨B,G⟩:=b.run h1 (ar.trans ar3) L3 p3 sr3 (by omega)
   have N1:1≤min (l0.length-lo) mr:=by omega
   rw [if_neg (by decide)]
   refine .bind (.get ?_)
   split
   ·refine .bind (Tm.mono (Tm.range (fun j c s4=>c.1=none∧Bt R κ l0 lo s4∧Srt R (seg (arrOf s4).toList lo (min (l0.length-lo) mr))) (Q:=fun c s4=>c.1=none∧Bt R κ l0 lo s4∧Srt R (seg (arrOf s4).toList lo (min (l0.length-lo) mr))) (G06 _) ⟨rfl,B,G⟩ ?_ (fun _ _ h=>h)) ?_)
    ·rintro j ⟨r,c⟩ s4 hj ⟨hr,B4,G4⟩
     dsimp only at hr ⊢
     subst hr
     refine .bind (.get ?_)
     split
     ·rename_i older heq
      split
      ·exact .pure ⟨rfl,B4,G4⟩
      ·have two:(pendingOf s4).size>1:=G2t fun z=>by rw [if_neg z] at heq;cases heq
       refine .bind (Bt.merge ak o u B4 h1 (by omega) fun s5 B5 _ dr=> ?_)
       refine .pure ⟨rfl,B5,?_⟩
       unfold seg at G4 ⊢
       rw [dr];exact G4
     ·exact .pure ⟨rfl,B4,G4⟩
    ·rintro ⟨r,c⟩ s4 ⟨hr,B4,G4⟩
     dsimp only at hr ⊢
     subst hr
     dsimp only
     refine .bind (.modify (.bind (.modify (.pure ⟨rfl,?_,?_,Bt.push (Bt.mod B4 fun x=>⟨rfl,rfl⟩) N1 G4⟩))))
     ·dsimp only;omega
     ·dsimp only;omega
   ·refine .bind (.modify (.pure ⟨rfl,?_,?_,Bt.push B N1 G⟩))
    ·dsimp only;omega
    ·dsimp only;omega
  ·rw [if_neg z2]
   obtain⟨B,G⟩:=b.run h1 ar L p sr n2
   have N1:=n1
   refine .bind (.get ?_)
   split
   ·refine .bind (Tm.mono (Tm.range (fun j c s4=>c.1=none∧Bt R κ l0 lo s4∧Srt R (seg (arrOf s4).toList lo (n))) (Q:=fun c s4=>c.1=none∧Bt R κ l0 lo s4∧Srt R (seg (arrOf s4).toList lo (n))) (G06 _) ⟨rfl,B,G⟩ ?_ (fun _ _ h=>h)) ?_)
    ·rintro j ⟨r,c⟩ s4 hj ⟨hr,B4,G4⟩
     dsimp only at hr ⊢
     subst hr
     refine .bind (.get ?_)
     split
     ·rename_i older heq
      split
      ·exact .pure ⟨rfl,B4,G4⟩
      ·have two:(pendingOf s4).size>1:=G2t fun z=>by rw [if_neg z] at heq;cases heq
       refine .bind (Bt.merge ak o u B4 h1 (by omega) fun s5 B5 _ dr=> ?_)
       refine .pure ⟨rfl,B5,?_⟩
       unfold seg at G4 ⊢
       rw [dr];exact G4
     ·exact .pure ⟨rfl,B4,G4⟩
    ·rintro ⟨r,c⟩ s4 ⟨hr,B4,G4⟩
     dsimp only at hr ⊢
     subst hr
     dsimp only
     refine .bind (.modify (.bind (.modify (.pure ⟨rfl,?_,?_,Bt.push (Bt.mod B4 fun x=>⟨rfl,rfl⟩) N1 G4⟩))))
     ·dsimp only;omega
     ·dsimp only;omega
   ·refine .bind (.modify (.pure ⟨rfl,?_,?_,Bt.push B N1 G⟩))
    ·dsimp only;omega
    ·dsimp only;omega
 ·rintro ⟨r,lo⟩ s1 ⟨hr,h1,h2,b⟩
  dsimp only at hr h1 h2 b
  have:lo=l0.length:=by omega
  subst this
  exact⟨hr,b⟩
 ·rintro ⟨r,lo⟩ s1 ⟨hr,b⟩
  dsimp only at hr ⊢
  subst hr
  dsimp only
  have le0:=b.stk.le
  have lp0:(pendingOf s1).toList.length=(pendingOf s1).size:=by simp
  refine .bind (Tm.mono (Tm.range (fun j c s4=>c.1=none∧Bt R κ l0 l0.length s4∧(pendingOf s4).size+j≤l0.length) (Q:=fun c s4=>c.1=none∧Bt R κ l0 l0.length s4∧(pendingOf s4).size≤1) (G06 _) ⟨rfl,b,by omega⟩ ?_ (fun c s4 ⟨x,y,z⟩=>⟨x,y,by omega⟩)) ?_)
  ·rintro j ⟨r,c⟩ s4 hj ⟨hr,B4,z4⟩
   dsimp only at hr ⊢
   subst hr
   refine .bind (.get ?_)
   by_cases c1:(pendingOf s4).size≤1
   ·rw [if_pos c1]
    exact .pure ⟨rfl,B4,c1⟩
   rw [if_neg c1]
   refine .bind (Bt.merge ak o u B4 (G0f _) (G1Z (Nat.add_le_add_right (jlT _ _) 1) (by omega)) fun s5 B5 z5 _=> ?_)
   exact .pure ⟨rfl,B5,by omega⟩
  ·rintro ⟨r,c⟩ s4 ⟨hr,B4,z4⟩
   dsimp only at hr ⊢
   subst hr
   refine .pure (q s4 B4.failed B4.perm ?_)
   have stk:=B4.stk
   have ln:(arrOf s4).toList.length=l0.length:=B4.perm.length_eq
   have lp:(pendingOf s4).toList.length=(pendingOf s4).size:=by simp
   generalize (pendingOf s4).toList=pl at stk lp
   match pl,stk,lp with
   | [],e,_=>
    have:l0.length=0:=e.symm
    have:(arrOf s4).toList= []:=G2J.mp (by omega)
    rw [this];exact .nil
   | [(p,n,_)],⟨e1,_,sr,e2⟩,_=>
    subst e1
    have en:n=l0.length:=by have:0+n=l0.length:=e2;omega
    unfold seg at sr
    rw [G4B,G0F (by omega)] at sr
    exact sr
   |_::_::_,_,h=>simp only [G0h] at h;omega
end
section
variable {prog:Program} {w:World} {A:Around} {E:Value→Shared→Prop} {s:Shared} {κ:SortKind} {U:Keyed→Prop} {R:Keyed→Keyed→Bool}
def jn0 (s:Shared) (a:Addr) (h' :Heap):Prop:= ∀b o,b≠a→s.heap.get? b=some o→h'.get? b=some o
def Only (s:Shared) (h' :Heap):Shared→Prop:=fun s' => ∃tk,s' = {s with heap:=h',toks:=tk}
theorem jlU {M:Model} {α β:Type} {c:Prop} [Decidable c] {m m' :Sem α} {F:α→Sem β} {Q:β→Shared→Prop} (h:wpAny M A ((if c then m else m') >>= F) Q E s):wpAny M A (if c then m >>= F else m' >>= F) Q E s:=by
 by_cases z:c
 ·rw [if_pos z] at h ⊢;exact h
 ·rw [if_neg z] at h ⊢;exact h
theorem jdN (vs:List Value):(vs.toArray.zip vs.toArray).toList=vs.map fun v=>(v,v):=by
 rw [Array.toList_zip]
 show vs.zip vs=_
 induction vs with
 |nil=>rfl
 |cons v vs ih=>rw [G3i,ih,G0G]
theorem jil {a:Addr} {vs:List Value} {n:Nat} {P:Fin→Shared→Prop} (ho:s.heap.get? a=some (seqObj "list" vs.toArray n)) (hz:vs.length≤sizeLine)
 (hk:2≤vs.length→ ∀h',jn0 s a h' →wpAny (model prog w) A (keyKind' vs.toArray) (fun k s' =>k=κ∧Only s h' s') (fun _ _=>False) {s with heap:=h'}) (ak: ∀h',jn0 s a h' →jhp prog w A (Only s h') κ U R) (o:Ordd U R) (u: ∀v∈vs,U (v,v))
 (q: ∀ (out:List Value) (c tk:Nat) (h' :Heap),jn0 s a h' →h'.get? a=some (seqObj "list" out.toArray c)→out.Perm vs→(out.map fun v=>(v,v)).Pairwise (fun x y=>R y x=false)→P (.done (.ret .none)) {s with heap:=h',toks:=tk}):
 wpAny (model prog w) A (Builtin.«list.sort» ⟨[.ref a],[]⟩) P E s:=by
 have alt:=G0l ho
 have sv:vs.toArray.size=vs.length:=G0w ..
 rw [list_sort_plain]
 refine wpAny_bind (listItems_at ho rfl ?_)
 obtain⟨c1,ho1⟩: ∃c,(s.heap.update a (Obj.mapSeq fun _=>(#[]:Array Value))).get? a=some (seqObj "list" #[] c):=⟨_,get?_update_seq ho fun _=> #[]⟩
 refine wpAny_bind (listUpdate_at ho rfl ?_ (by rw [sv];exact hz) (G06 _))
 refine wpAny_bind (seqEpoch_at ho1 rfl ?_)
 refine wpAny_bind (wpAny_newTuple ?_ hz)
 refine wpAny_bind (G4j ?_ (G06 _))
 refine G1g ?_
 have past:jn0 s a (((s.heap.update a (Obj.mapSeq fun _=>(#[]:Array Value))).push {cls:= .type "tuple",data:= .seq vs.toArray.toList.toArray}).push {cls:= .type "list",data:= .seq ([]:List Value).toArray}):=fun b x ne e=>by
  refine G0b _ (G0b _ ?_)
  rw [G3S _ _ _ _ ne];exact e
 have ho3:=G0b ({cls:= .type "list",data:= .seq ([]:List Value).toArray}:Obj) (G0b ({cls:= .type "tuple",data:= .seq vs.toArray.toList.toArray}:Obj) ho1)
 revert past ho3
 generalize ((s.heap.update a (Obj.mapSeq fun _=>(#[]:Array Value))).push ({cls:= .type "tuple",data:= .seq vs.toArray.toList.toArray}:Obj)).push ({cls:= .type "list",data:= .seq ([]:List Value).toArray}:Obj)=H3
 intro past ho3
 have kd:wpAny (model prog w) A (if vs.toArray.size<2 then pure general' else keyKind' vs.toArray) (fun k s0=>(2≤vs.length→k=κ)∧Only s H3 s0) (fun _ _=>False) {s with heap:=H3}:=by
  by_cases c:vs.toArray.size<2
  ·rw [if_pos c]
   exact G0e ⟨fun z=>by omega,s.toks,rfl⟩
  ·rw [if_neg c]
   exact G0H (hk (by omega) H3 past) (fun k s0 x=>⟨fun _=>x.1,x.2⟩) fun _ _ e=>e
 have rn: ∀k s0,(2≤vs.length→k=κ)→Only s H3 s0→wpAny (model prog w) A ((if vs.toArray.size<2 then pure () else sortRuns' :StateT SortSt Sem Unit).run (SortSt.mk' k (vs.toArray.zip vs.toArray) #[] 7 none)) (fun r s' =>(failedOf r.2=none∧(arrOf r.2).toList.Perm (vs.map fun v=>(v,v))∧Srt R (arrOf r.2).toList)∧Only s H3 s') E s0:=by
  intro k s0 ek j
  by_cases c:vs.toArray.size<2
  ·rw [if_pos c,StateT.run_pure]
   refine G0e ⟨⟨rfl,?_,?_⟩,j⟩
   ·show (vs.toArray.zip vs.toArray).toList.Perm _
    rw [jdN]
   ·show Srt R (vs.toArray.zip vs.toArray).toList
    rw [jdN]
    rw [sv] at c
    match vs,c with
    | [],_=>exact List.Pairwise.nil
    | [v],_=>exact G09 _ _
  ·rw [if_neg c]
   have ek:=ek (by omega)
   subst ek
   refine jnZ (E:=E) (ak H3 past) o (l0:=vs.map fun v=>(v,v)) (st:=SortSt.mk' k (vs.toArray.zip vs.toArray) #[] 7 none) (fun x hx=> ?_) rfl rfl rfl (jdN vs) (Q:=fun _ st' =>failedOf st' =none∧(arrOf st').toList.Perm (vs.map fun v=>(v,v))∧Srt R (arrOf st').toList) (fun st' a1 a2 a3=>⟨a1,a2,a3⟩) s0 j
   obtain⟨v,hv,rfl⟩:=G0N.mp hx
   exact u v hv
 dsimp only
 refine jlU (wpAny_bind (G0H kd (fun k s0 x=> ?_) fun _ _ e=>e.elim))
 refine wpAny_bind (G0H (rn k s0 x.1 x.2) ?_ fun _ _ e=>e)
 rintro ⟨⟨⟩,st'⟩ s1 ⟨⟨hf,hp,hs⟩,tk,rfl⟩
 dsimp only
 have eo:((arrOf st').map fun x=>x.2)=((arrOf st').toList.map fun x=>x.2).toArray:=by
  rw [←Array.toList_map,Array.toArray_toList]
 have two:(arrOf st').toList=((arrOf st').toList.map fun x=>x.2).map fun v=>(v,v):=by
  rw [G1d]
  refine(G4F _).symm.trans (G1u fun x hx=> ?_)
  obtain⟨v,_,rfl⟩:=G0N.mp (hp.mem_iff.mp hx)
  rfl
 have po:((arrOf st').toList.map fun x=>x.2).Perm vs:=by
  have:=hp.map fun x=>x.2
  rw [G1d] at this
  refine this.trans ?_
  rw [show ((fun x:Keyed=>x.2)∘fun v:Value=>(v,v))=id from rfl,G4F]
 rw [two] at hs
 rw [eo]
 generalize (arrOf st').toList.map (fun x=>x.2)=out at hs po
 obtain⟨c2,ho4⟩: ∃c,(H3.update a (Obj.mapSeq fun _=>out.toArray)).get? a=some (seqObj "list" out.toArray c):=⟨_,get?_update_seq ho3 fun _=>out.toArray⟩
 refine wpAny_bind (seqEpoch_at (s:= {s with heap:=H3,toks:=tk}) ho3 rfl ?_)
 refine wpAny_bind (listUpdate_at (s:= {s with heap:=H3,toks:=tk}) ho3 rfl ?_ (G06 _) (by rw [G0w,po.length_eq];exact Nat.le_succ_of_le hz))
 rw [hf]
 simp only [bne_self_eq_false,G1o,G4z]
 refine G0e (q out c2 tk _ (fun b x ne e=> ?_) ho4 po hs)
 rw [G3S _ _ _ _ ne];exact past b x ne e
abbrev jc0 (h h' :Heap):Prop:= ∀b o,h.get? b=some o→h'.get? b=some o
theorem ji1 {l:Addr} {vs:List Value} {Q:Value→Shared→Prop} (hl:s.heap.IsList l vs.toArray) (hz:vs.length<sizeLine)
 (hk:2≤vs.length→ ∀h',jc0 s.heap h' →wpAny (model prog w) A.in1.in1 (keyKind' vs.toArray) (fun k s' =>k=κ∧Only s h' s') (fun _ _=>False) {s with heap:=h'}) (ak: ∀h',jc0 s.heap h' →jhp prog w A.in1.in1 (Only s h') κ U R) (o:Ordd U R) (u: ∀v∈vs,U (v,v))
 (q: ∀ (h1 h' :Heap) (tk c:Nat) (out:List Value),jc0 s.heap h1→jc0 h1 h' →h'.get? h1.objs.size=some (seqObj "list" out.toArray c)→out.Perm vs→(out.map fun v=>(v,v)).Pairwise (fun x y=>R y x=false)→Q (.ref h1.objs.size) {s with heap:=h',toks:=tk}):
 wpAny (model prog w) A (call (.builtin "sorted") [.ref l]) Q E s:=by
 refine G23 kind_sorted plain_sorted entry_sorted (args_sorted1 _) (wpAny_bind (G0e (wpAny_bind (collect_list hl ?_ (by omega)))))
 have k1:jc0 s.heap ((s.heap.push (seqObj "list" #[] 0)).update s.heap.objs.size (Obj.mapSeq (· ++vs.toArray))):=fun b x e=>by
  rw [G3S _ _ _ _ (G0J (G0l e))]
  exact G0b _ e
 revert k1
 generalize (s.heap.push (seqObj "list" #[] 0)).update s.heap.objs.size (Obj.mapSeq (· ++vs.toArray))=H1
 intro k1
 have fresh:(H1.push (seqObj "list" vs.toArray 0)).get? H1.objs.size=some (seqObj "list" vs.toArray 0):=G0x _ rfl
 have kp: ∀h',jn0 {s with heap:=H1.push (seqObj "list" vs.toArray 0)} H1.objs.size h' →jc0 H1 h' :=fun h' p b x e=>p b x (G0J (G0l e)) (G0b _ e)
 refine wpAny_bind (G4j (wpAny_bind (G1g (G1C slot_list_sort ⟨_,fresh,rfl⟩ entry_list_sort (jil (s:= {s with heap:=H1.push (seqObj "list" vs.toArray 0)}) (κ:=κ) (U:=U) (R:=R) fresh (G0T hz) (fun h2 h' p=>hk h2 h' fun b x e=>kp h' p b x (k1 b x e)) (fun h' p=>ak h' fun b x e=>kp h' p b x (k1 b x e)) o u fun out c tk h' p e1 e2 e3=>⟨_,rfl,?_⟩) (args_list_sort _)))) (G0T hz))
 exact G0e ⟨_,rfl,q H1 h' tk c out k1 (kp h' p) e1 e2 e3⟩
end
theorem jcX: ∀a b:List Int,jaz a b=true→jaz b a=false
 | [],[],h=>rfl
 | [],_::_,_=>rfl
 |_::_,[],h=>by cases h
 |x::xs,y::ys,h=>by
  unfold jaz at h ⊢
  by_cases e:x=y
  ·subst e
   rw [if_pos rfl] at h ⊢
   exact jcX xs ys h
  ·rw [if_neg e] at h
   rw [if_neg (Ne.symm e)]
   have:=G1l h
   exact G0P (by omega)
theorem jeM: ∀a b c:List Int,jaz a c=true→jaz a b=true∨jaz b c=true
 | [],[],c,h=> .inr h
 | [],_::_,_,_=> .inl rfl
 |_::_,_,[],h=>by cases h
 |x::xs,[],z::zs,h=> .inr rfl
 |x::xs,y::ys,z::zs,h=>by
  unfold jaz at h ⊢
  by_cases e:x=z
  ·subst e
   rw [if_pos rfl] at h
   by_cases f:x=y
   ·subst f
    rw [if_pos rfl,if_pos rfl]
    exact jeM xs ys zs h
   ·rw [if_neg f,if_neg (Ne.symm f)]
    by_cases g:x<y
    ·exact .inl (G0I g)
    ·exact .inr (G0I (by omega))
  ·rw [if_neg e] at h
   have lt:=G1l h
   by_cases f:x=y
   ·subst f
    rw [if_neg e]
    exact .inr h
   ·rw [if_neg f]
    by_cases g:x<y
    ·exact .inl (G0I g)
    ·refine .inr ?_
     rw [if_neg (by omega)]
     exact G0I (by omega)
theorem jdb: ∀a b:List Int,jaz a b=false→jaz b a=false→a=b
 | [],[],_,_=>rfl
 | [],_::_,h,_=>by cases h
 |_::_,[],_,h=>by cases h
 |x::xs,y::ys,h,h' =>by
  unfold jaz at h h'
  by_cases e:x=y
  ·subst e
   rw [if_pos rfl] at h h'
   rw [jdb xs ys h h']
  ·rw [if_neg e] at h
   rw [if_neg (Ne.symm e)] at h'
   have:=G31 h
   have:=G31 h'
   omega
theorem jg1 {U:Keyed→Prop} (key:Value→List Int):Ordd U (fun x y=>jaz (key x.1) (key y.1)):=⟨fun x y _ _ h=>jcX _ _ h,fun x y z _ _ _ h=>jeM _ _ _ h⟩
def IT (h:Heap) (v:Value) (ns:List Int):Prop:= ∃a its,v= .ref a∧IsTup h a its∧IntsAre its.toList ns
theorem IT.keeps {h h' :Heap} {v:Value} {ns:List Int} (x:IT h v ns) (k:jc0 h h'):IT h' v ns:=let ⟨a,its,e,t,i⟩:=x;⟨a,its,e,t.keeps k,i⟩
theorem jim: ∀ {vs:List Value} {ns ms:List Int},IntsAre vs ns→IntsAre vs ms→ns=ms
 |_,_,_,.nil,.nil=>rfl
 |_,_,_,.cons n t a,.cons _ _ b=>by rw [jim a b]
theorem IT.one {h:Heap} {v:Value} {ns ms:List Int} (x:IT h v ns) (y:IT h v ms):ns=ms:=by
 obtain⟨a,its,rfl,⟨o,e,c,n,d⟩,i⟩:=x
 obtain⟨a',its',e2,⟨o',e',c',n',d'⟩,i'⟩:=y
 cases e2
 rw [e] at e'
 cases e'
 rw [d] at d'
 cases d'
 exact jim i i'
open Classical in
noncomputable def jaP (h:Heap) (v:Value):List Int:=if e: ∃ns,IT h v ns then e.choose else []
theorem IT.nums {h:Heap} {v:Value} {ns:List Int} (x:IT h v ns):jaP h v=ns:=by
 have e: ∃ns,IT h v ns:=⟨ns,x⟩
 unfold jaP
 rw [dif_pos e]
 exact e.choose_spec.one x
section
variable {prog:Program} {w:World} {A:Around} {E:Value→Shared→Prop} {s:Shared}
theorem jdw {α β:Type} {M:Model} {f:α→Sem β} (r:α→β): ∀ (l:List α) {Q:List β→Shared→Prop},(∀v∈l,∀Q' :β→Shared→Prop,Q' (r v) s→wpAny M A (f v) Q' E s)→Q (l.map r) s→wpAny M A (l.mapM f) Q E s
 | [],_,_,q=>by
  rw [List.mapM_nil];exact G0e q
 |v::l,Q,hf,q=>by
  rw [List.mapM_cons]
  refine wpAny_bind (hf v G0t _ (wpAny_bind ?_))
  exact jdw r l (fun u hu=>hf u (G0y _ hu)) (G0e q)
def ja9 (h:Heap):Value→Option Value
 | .ref a=>match h.get? a with
  |some o=>match o.data with
   | .seq xs _=>xs[0]?
   |_=>none
  |none=>none
 |_=>none
theorem jlV {v:Value} {ns:List Int} {Q:Option Value→Shared→Prop} (x:IT s.heap v ns) (q:Q (ja9 s.heap v) s):wpAny (model prog w) A (firstOfTuple' v) Q E s:=by
 obtain⟨a,its,rfl,⟨o,e,c,n,d⟩,i⟩:=x
 have fe:ja9 s.heap (.ref a)=its[0]? :=by
  unfold ja9;dsimp only;rw [e];dsimp only;rw [d]
 rw [PySem.W.kas_first_eq]
 refine wpAny_bind (PySem.W.Looks.here (show PySem.W.Looks (model prog w) s.heap (typeOf (.ref a)) o.cls from (PySem.W.Looks.ld e).andThen .now) ?_)
 rw [c,if_neg (by decide)]
 refine wpAny_bind (listItems_at e d (G0e ?_))
 rw [←fe];exact q
theorem ji2 {h:Heap} {v:Value} (x:IT h v []):ja9 h v=none:=by
 obtain⟨a,its,rfl,⟨o,e,c,n,d⟩,i⟩:=x
 unfold ja9;dsimp only;rw [e];dsimp only;rw [d];dsimp only
 obtain⟨l⟩:=its
 cases i
 rfl
theorem jfB {h:Heap} {v:Value} {n:Int} {ns:List Int} (x:IT h v (n::ns)): ∃t,ja9 h v=some (.int n t):=by
 obtain⟨a,its,rfl,⟨o,e,c,k,d⟩,i⟩:=x
 obtain⟨l⟩:=its
 cases i with
 |cons _ t i=>exact⟨t,by unfold ja9;dsimp only;rw [e];dsimp only;rw [d];rfl⟩
theorem jlW {h:Heap} {v:Value} {ns:List Int} (x:IT h v ns):(ja9 h v).isSome= !ns.isEmpty:=by
 cases ns with
 |nil=>rw [ji2 x];rfl
 |cons n ns=>obtain⟨t,e⟩:=jfB x;rw [e];rfl
noncomputable def ji3 (h:Heap) (vs:List Value):SortKind:=
 if (vs.all fun v=> !(jaP h v).isEmpty)=true then tuples' true else if ((vs[0]?.map fun v=> !(jaP h v).isEmpty)=some true) then general' else oneType'
theorem jg2 {h:Heap} {vs:List Value} (h2:2≤vs.length) (x: ∀v∈vs,∃ns,IT h v ns) {Q:SortKind→Shared→Prop} (e:jc0 h s.heap) (q:Q (ji3 h vs) s):wpAny (model prog w) A (keyKind' vs.toArray) Q E s:=by
 have fr: ∀v∈vs,(ja9 s.heap v).isSome= !(jaP h v).isEmpty:=fun v hv=>by
  obtain⟨ns,t⟩:=x v hv
  rw [t.nums,jlW (t.keeps e)]
 rw [keyKind'_eq,G4d,map_eq_pure_bind]
 refine wpAny_bind (wpAny_bind (jdw (ja9 s.heap) vs (fun v hv Q' q' => ?_) (G0e ?_)))
 ·obtain⟨ns,t⟩:=x v hv
  exact jlV (t.keeps e) q'
 have all_:((vs.map (ja9 s.heap)).toArray.all fun o=>o.isSome)=vs.all fun v=> !(jaP h v).isEmpty:=by
  rw [G4o,G2W]
  rw [G1z,G1f,G1f]
  exact⟨fun z v hv=>by rw [←fr v hv];exact z v hv,fun z v hv=>by show (ja9 s.heap v).isSome=true;rw [fr v hv];exact z v hv⟩
 rw [all_]
 unfold ji3 at q
 by_cases a1:(vs.all fun v=> !(jaP h v).isEmpty)=true
 ·rw [if_pos a1] at q
  rw [if_pos a1]
  refine wpAny_bind (G3L ?_)
  obtain⟨fs,efs,nums,ne⟩: ∃fs:List Value,vs.map (ja9 s.heap)=fs.map some∧(∀f∈fs,∃n t,f=Value.int n t)∧fs.length=vs.length:=by
   have go: ∀l:List Value,(∀v∈l,v∈vs)→ ∃fs:List Value,l.map (ja9 s.heap)=fs.map some∧(∀f∈fs,∃n t,f=Value.int n t)∧fs.length=l.length:=by
    intro l
    induction l with
    |nil=>exact fun _=>⟨[],rfl,fun f hf=>absurd hf G05,rfl⟩
    |cons v l ih=>
     intro sub
     obtain⟨fs,e1,e2,e3⟩:=ih fun u hu=>sub u (G0y _ hu)
     have hv:=sub v G0t
     obtain⟨ns,t⟩:=x v hv
     have ne:=G1f.mp a1 v hv
     rw [t.nums] at ne
     cases ns with
     |nil=>cases ne
     |cons n ns=>
      obtain⟨tk,ef⟩:=jfB (t.keeps e)
      refine⟨.int n tk::fs,by rw [G0G,G0G,ef,e1],fun f hf=> ?_,by rw [G0h,G0h,e3]⟩
      rcases G0n.mp hf with rfl|hf
      ·exact⟨n,tk,rfl⟩
      ·exact e2 f hf
   exact go vs fun _ hv=>hv
  rw [efs]
  have fm:((fs.map some).toArray.filterMap id)=fs.toArray:=by simp
  rw [fm,oneTypeOnly'_eq,G4d,map_eq_pure_bind]
  refine wpAny_bind (wpAny_bind (wpAny_bind (jdw (fun _=>Value.type "int") fs (fun f hf Q' q' => ?_) (G0e ?_))))
  ·obtain⟨n,t,rfl⟩:=nums f hf
   exact G0e q'
  ·match fs,ne with
   | [],ne=>rw [G0A] at ne;omega
   |f::fs,_=>
    have h0:(List.map (fun _=>Value.type "int") (f::fs)).toArray[0]? =some (Value.type "int"):=by simp
    have h1:((List.map (fun _=>Value.type "int") (f::fs)).toArray.all fun y=>y==Value.type "int")=true:=by
     rw [G4o,G2W,G1f]
     exact fun _ _=>rfl
    rw [h0]
    simp only [h1,if_true]
    exact G0e (G0e q)
 rw [if_neg a1] at q
 rw [if_neg a1]
 match vs,h2,x,fr,q with
 |v::vs,h2,x,fr,q=>
  have h0:((List.map (ja9 s.heap) (v::vs)).toArray[0]?.bind id).isSome= !(jaP h v).isEmpty:=by
   rw [←fr v G0t];simp
  rw [h0]
  have h0' :(((v::vs)[0]?.map fun v=> !(jaP h v).isEmpty)=some true)↔(!(jaP h v).isEmpty)=true:=by simp
  by_cases a2:(!(jaP h v).isEmpty)=true
  ·rw [if_pos (h0'.mpr a2)] at q
   rw [if_pos a2]
   exact G0e q
  rw [if_neg fun z=>a2 (h0'.mp z)] at q
  rw [if_neg a2]
  rw [oneTypeOnly'_eq,G4d,map_eq_pure_bind]
  refine wpAny_bind (wpAny_bind (wpAny_bind (jdw (fun _=>Value.type "tuple") (v::vs) (fun f hf Q' q' => ?_) (G0e ?_))))
  ·obtain⟨ns,t⟩:=x f hf
   obtain⟨a,its,rfl,⟨o,e1,c,n,d⟩,i⟩:=t.keeps e
   refine PySem.W.Looks.here (show PySem.W.Looks (model prog w) s.heap (typeOf (.ref a)) o.cls from (PySem.W.Looks.ld e1).andThen .now) ?_
   rw [c];exact q'
  ·have h3:(List.map (fun _=>Value.type "tuple") (v::vs)).toArray[0]? =some (Value.type "tuple"):=by simp
   have h1:((List.map (fun _=>Value.type "tuple") (v::vs)).toArray.all fun y=>y==Value.type "tuple")=true:=by
    rw [G4o,G2W,G1f]
    exact fun _ _=>rfl
   rw [h3]
   simp only [h1,if_true]
   exact G0e (G0e q)
theorem jin {fin:Bool} {Q:Bool→Shared→Prop} {m n:Nat} (ef:fin=decide (m<n)): ∀ {vs us:List Value} {ns ms:List Int} (i:Nat),IntsAre vs ns→IntsAre us ms→ns.length+n=ms.length+m→Q (jaz ns ms) s→PySem.W.KatLex prog w A true fin Q (vs.zip us) i s
 |_,_,_,_,i,.nil,.nil,l,q=>by
  subst ef
  rw [G37]
  refine G4w ?_
  rw [G0P (by rw [G0A] at l;omega)];exact q
 |_,_,_,_,i,.nil,.cons c u y,l,q=>by
  subst ef
  rw [G37]
  refine G4w ?_
  rw [G0I (by rw [G0A,G0h] at l;omega)];exact q
 |_,_,_,_,i,.cons a t x,.nil,l,q=>by
  subst ef
  rw [List.zip_nil_right]
  refine G4w ?_
  rw [G0P (by rw [G0A,G0h] at l;omega)];exact q
 |_,_,_,_,i,.cons a t x,.cons c u y,l,q=>by
  rw [G3i]
  rw [jdE] at q
  obtain⟨e,he,hiff⟩:=jh1 A s a t c u
  refine PySem.W.kat_cons (he prog w _ _ ?_)
  refine PySem.W.kat_go (fun z=>PySem.W.kat_yes ?_) fun z=>PySem.W.kat_no ?_
  ·rw [if_pos (hiff.mp z)] at q
   exact jin ef (i+1) x y (by rw [G0h,G0h] at l;omega) q
  ·rw [if_neg fun z' =>by rw [hiff.mpr z'] at z;cases z] at q
   cases (true&&i==0) with
   |true=>exact oneLt_int q
   |false=>exact PySem.W.kat_one _ _ (PyProof.Rows.lt_int q)
theorem jqA {v u:Value} {ns ms:List Int} {Q:Bool→Shared→Prop} (hu:A.units<cLine) (x:IT s.heap v ns) (y:IT s.heap u ms) (q:Q (jaz ns ms) s):wpAny (model prog w) A (oneLt' true v u) Q E s:=by
 obtain⟨a,its,rfl,⟨⟨cls,dd,data,sl⟩,e1,c,n,d⟩,i⟩:=x
 obtain⟨b,its2,rfl,⟨⟨cls2,dd2,data2,sl2⟩,e2,c2,n2,d2⟩,i2⟩:=y
 simp only at c d c2 d2
 subst c d c2 d2
 rw [oneLt'_eq]
 simp only [if_true]
 refine wpAny_bind (wpAny_cRoomFor hu (wpAny_bind (wpAny_callSpecialIfBound?_slot ⟨_,e1,rfl⟩ G3B (G3M G3B ⟨_,e1,rfl⟩ G4q (G4f _ _) (jdh a b its its2 n n2 dd dd2 sl sl2 ns ms i i2) ⟨e1,e2,?_⟩))))
 exact G1O q
theorem jqB {v u:Value} {ns ms:List Int} {Q:Bool→Shared→Prop} (hu:A.units<cLine) (x:IT s.heap v ns) (y:IT s.heap u ms) (q:Q (jaz ns ms) s):wpAny (model prog w) A (oneLt' false v u) Q E s:=by
 obtain⟨a,its,rfl,t,i⟩:=x
 obtain⟨b,its2,rfl,t2,i2⟩:=y
 exact PySem.W.kat_one _ _ (jiD t t2 i i2 hu q)
theorem jg3 {vs:List Value} (hu:A.units<cLine) {h' :Heap} (k:jc0 s.heap h'):jhp prog w A (Only s h') (ji3 s.heap vs) (fun x=> ∃ns,IT s.heap x.1 ns) (fun x y=>jaz (jaP s.heap x.1) (jaP s.heap y.1)):=by
 rintro ⟨x,x'⟩ ⟨y,y'⟩ ⟨ns,tx⟩ ⟨ms,ty⟩ s1 ⟨tk,rfl⟩
 dsimp only at tx ty ⊢
 have q:(jaz ns ms=jaz (jaP s.heap x) (jaP s.heap y)∧Only s h' {s with heap:=h',toks:=tk}):=⟨by rw [tx.nums,ty.nums],tk,rfl⟩
 have kx:=tx.keeps k
 have ky:=ty.keeps k
 unfold ji3
 by_cases a1:(vs.all fun v=> !(jaP s.heap v).isEmpty)=true
 ·rw [if_pos a1]
  obtain⟨a,its,rfl,⟨o,e1,c,n,d⟩,i⟩:=kx
  obtain⟨b,its2,rfl,⟨o2,e2,c2,n2,d2⟩,i2⟩:=ky
  refine PySem.W.kat_lt e1 d e2 d2 (jin rfl 0 i i2 ?_ q)
  have z1:=i.length
  have z2:=i2.length
  rw [G0m] at z1 z2
  omega
 rw [if_neg a1]
 by_cases a2:(vs[0]?.map fun v=> !(jaP s.heap v).isEmpty)=some true
 ·rw [if_pos a2]
  show wpAny _ _ (oneLt' false x y) _ _ _
  exact jqB hu kx ky q
 ·rw [if_neg a2,keyLt'_oneType]
  exact jqA hu kx ky q
theorem jhI {l:Addr} {vs:List Value} {Q:Value→Shared→Prop} (hu:A.in1.in1.units<cLine) (hl:s.heap.IsList l vs.toArray) (hz:vs.length<sizeLine) (x: ∀v∈vs,∃ns,IT s.heap v ns)
 (q: ∀ (h1 h' :Heap) (tk c:Nat) (out:List Value),jc0 s.heap h1→jc0 h1 h' →h'.get? h1.objs.size=some (seqObj "list" out.toArray c)→out.Perm vs→out.Pairwise (fun x y=>jaz (jaP s.heap y) (jaP s.heap x)=false)→Q (.ref h1.objs.size) {s with heap:=h',toks:=tk}):
 wpAny (model prog w) A (call (.builtin "sorted") [.ref l]) Q E s:=by
 refine ji1 (κ:=ji3 s.heap vs) (U:=fun x=> ∃ns,IT s.heap x.1 ns) (R:=fun x y=>jaz (jaP s.heap x.1) (jaP s.heap y.1)) hl hz (fun h2 h' k=> ?_) (fun h' k=>jg3 hu k) (jg1 _) x fun h1 h' tk c out k1 k2 e1 e2 e3=>q h1 h' tk c out k1 k2 e1 e2 ?_
 ·exact jg2 (s:= {s with heap:=h'}) h2 x k ⟨rfl,s.toks,rfl⟩
 ·rw [G1n] at e3
  exact e3
end
end HT
namespace L2
open PySem PySem.Spec PyProof.Rows PySem.SeqAt HT
theorem jdx {α β:Type} {f:α→β}: ∀ {out:List β} {l:List α},out.Perm (l.map f)→ ∃l' :List α,l'.Perm l∧l'.map f=out
 | [],l,p=>by
  have e:=p.length_eq
  rw [G0a,G0A] at e
  exact⟨[],by rw [G2e e.symm],rfl⟩
 |x::out,l,p=>by
  obtain⟨y,hy,rfl⟩:=G0N.mp (p.mem_iff.mp G0t)
  obtain⟨l1,l2,rfl⟩:=List.append_of_mem hy
  have p2:out.Perm ((l1++l2).map f):=by
   refine List.Perm.cons_inv (a:=f y) (p.trans ?_)
   rw [G0S,G0S,G0G]
   exact G4n
  obtain⟨l',a,b⟩:=jdx p2
  exact⟨y::l',(a.cons y).trans G4n.symm,by rw [G0G,b]⟩
def joL (H:Hp) (v:V) (ns:List Int):Prop:= ∃a,v= .ref a∧H a=some (.tup (ns.map V.int))
theorem jg4 {X:Cx} {k:Nat} (hr:Room k X.A):CallR X (.builtin "sorted") (fun xs H Q=> ∃ (a:Addr) (ps:List (V×List Int)),xs= [.ref a]∧SqL X.K H a (ps.map (·.1))∧ps.length<sizeLine∧(∀p∈ps,joL H p.1 p.2)∧ ∀ (q:Addr) (ps' :List (V×List Int)),H q=none→ps'.Perm ps→(ps'.map (·.2)).Pairwise (fun x y=>HT.jaz y x=false)→Q (.ref q) (upd H q (.lst (ps'.map (·.1))))):=by
 intro pins s σ H xs us Q I r h
 obtain⟨a,ps,rfl,hS,hz,ht,q⟩:=h
 obtain⟨u,rfl,ru⟩:=jdg r
 cases ru
 obtain⟨its,rv,pl,hz'⟩:=I.list hS
 obtain⟨zs,e1,e2,e3⟩: ∃zs:List (Value×V×List Int),its=zs.map (·.1)∧ps=zs.map (·.2)∧ ∀z∈zs,RelV z.2.1 z.1:=by
  clear hS q hz ht hz' pl
  induction ps generalizing its with
  |nil=>cases rv;exact⟨[],rfl,rfl,fun z hz=>by cases hz⟩
  |cons p ps ih=>
   rw [G0G] at rv
   cases rv with
   |cons r1 r2=>
    obtain⟨zs,e1,e2,e3⟩:=ih _ r2
    exact⟨(_,p)::zs,by rw [G0G,←e1],by rw [G0G,←e2],fun z hz=>by
     rcases G0n.mp hz with rfl|hz
     ·exact r1
     ·exact e3 z hz⟩
 subst e1 e2
 have it: ∀z∈zs,IT s.heap z.1 z.2.2:=fun z hm=>by
  obtain⟨b,eb,hb⟩:=ht z.2 (G26 hm)
  have rz:=e3 z hm
  rw [eb] at rz
  have rz:z.1= .ref b:=rz
  obtain⟨_,us,r2,p⟩:=I.hok b _ hb
  exact⟨b,us.toArray,rz,p.tup,jdX r2⟩
 have hu:X.A.in1.in1.units<cLine:=by
  have:=hr.un
  show X.A.units+1+1<cLine
  omega
 rw [G0a] at hz
 refine HT.jhI hu pl.isList (by rw [G0a];exact hz) (fun v hv=> ?_) fun h1 h' tk c out k1 k2 e4 pm srt=> ?_
 ·obtain⟨z,hm,rfl⟩:=G0N.mp hv
  exact⟨_,it z hm⟩
 obtain⟨zs',pz,rfl⟩:=jdx pm
 have I1:=I.kept (t' :=s.toks) k1
 have vv: ∀l:List (Value×V×List Int),(∀z∈l,z∈zs)→Vals ((l.map (·.2)).map (·.1)) (l.map (·.1)):=fun l=>by
  induction l with
  |nil=>exact fun _=> .nil
  |cons z l ih=>exact fun sub=> .cons (e3 z (sub z G0t)) (ih fun y hy=>sub y (G0y _ hy))
 refine⟨.ref _,_,I1.laid (t' :=tk) (o:= .lst ((zs'.map (·.2)).map (·.1))) k2 (G0f _) ⟨?_,_,c,vv zs' fun z hm=>pz.mem_iff.mp hm,e4⟩,rfl,q _ (zs'.map (·.2)) (I1.hok.fresh (G0f _)) (pz.map _) ?_⟩
 ·rw [G0a,G0a,pz.length_eq];exact G0T hz
 ·rw [G1n,G1n]
  rw [G1n] at srt
  refine srt.imp_of_mem fun {y z} hy hz e=> ?_
  rw [← (it y (pz.mem_iff.mp hy)).nums,← (it z (pz.mem_iff.mp hz)).nums]
  exact e
abbrev tI (ns:List Int):D:= .tup (ns.map D.int)
def jn1:RDn:=fun ds h Q=> ∃ (a:Addr) (nss:List (List Int)),ds= [.lst a]∧h a=some (nss.map tI)∧nss.length<sizeLine∧ ∀ (p:Addr) (mss:List (List Int)),h p=none→mss.Perm nss→mss.Pairwise (fun x y=>HT.jaz y x=false)→Q (.lst p) (jbi h p (mss.map tI))
theorem jhJ {K:PySem.W.Frag} {H:Hp}: ∀ {nss:List (List Int)} {vs:List V},RelDs K H (nss.map tI) vs→ ∃ps:List (V×List Int),vs=ps.map (·.1)∧nss=ps.map (·.2)∧ ∀p∈ps,joL H p.1 p.2
 | [],vs,r=>⟨[],r,rfl,fun p hp=>by cases hp⟩
 |ns::nss,vs,r=>by
  obtain⟨v,us,e,r1,r2⟩:=(show ∃v r,vs=v::r∧RelD K H (tI ns) v∧RelDs K H (nss.map tI) r from r)
  obtain⟨ps,e1,e2,e3⟩:=jhJ r2
  obtain⟨a,ws,e4,hH,r4⟩:=(show ∃a vs,v= .ref a∧H a=some (.tup vs)∧RelDs K H (ns.map D.int) vs from r1)
  rw [jaX r4] at hH
  exact⟨(v,ns)::ps,by rw [e,e1];rfl,by rw [e2];rfl,fun p hp=>by
   rcases G0n.mp hp with rfl|hp
   ·exact⟨a,e4,hH⟩
   ·exact e3 p hp⟩
theorem jhK {K:PySem.W.Frag} {H:Hp}: ∀ {ps:List (V×List Int)},(∀p∈ps,joL H p.1 p.2)→RelDs K H ((ps.map (·.2)).map tI) (ps.map (·.1))
 | [],_=> .nil
 |p::ps,h=> .cons (by
  obtain⟨a,e,hH⟩:=h p G0t
  exact⟨a,_,e,hH,jcc _⟩) (jhK fun q hq=>h q (G0y _ hq))
theorem jfC {X:Cx} {k:Nat} (hr:Room k X.A):jc7 X (.builtin "sorted") jn1:=(jg4 hr).imp fun xs H Q ⟨ds,h,Qd,r,rh,⟨a,nss,e,hd,hz,q⟩,p⟩=>by
 subst e
 obtain⟨v,e,r1⟩:=jay r
 obtain⟨vs,hH,r2⟩:=rh a _ hd
 have e1:v= .ref a:=r1.1
 subst e e1
 obtain⟨ps,rfl,rfl,ht⟩:=jhJ r2
 refine⟨a,ps,rfl,SqL.of hH,by rw [G0a] at hz;exact hz,ht,fun c ps' hc pm srt=> ?_⟩
 exact p (.lst c) _ _ _ (.new hc) (rh.newL hc (jhK fun x hx=>ht x (pm.mem_iff.mp hx))) ⟨rfl,_,jam⟩ (q c _ (rh.free hc) (pm.map _) srt)
abbrev toI (S:List Nat):List Int:=S.map fun (k:Nat)=>(k:Int)
theorem jn2 {S S' :List Nat} (h:toI S=toI S'):S=S' :=by
 have:=congrArg (List.map Int.toNat) h
 rw [G1d,G1d] at this
 have e:(Int.toNat∘fun (k:Nat)=>(k:Int))=id:=by funext k;exact G18 k
 rw [e,G4F,G4F] at this
 exact this
theorem jg5 (S:List Nat):tI (toI S)=jaA S:=by
 show D.tup _=D.tup _
 rw [G1d];rfl
def leS (a b:List Nat):Bool:= !HT.jaz (toI b) (toI a)
theorem jkx (a b c:List Nat) (h:leS a b=true) (h' :leS b c=true):leS a c=true:=by
 unfold leS at*
 cases e:HT.jaz (toI c) (toI a) with
 |false=>rfl
 |true=>
  rcases jeM _ (toI b) _ e with z|z
  ·rw [z] at h';cases h'
  ·rw [z] at h;cases h
theorem jky (a b:List Nat):(leS a b||leS b a)=true:=by
 unfold leS
 cases e:HT.jaz (toI b) (toI a) with
 |false=>rfl
 |true=>rw [jcX _ _ e];rfl
theorem jlX {a b:List Nat} (h:leS a b=true) (h' :leS b a=true):a=b:=by
 unfold leS at*
 refine jn2 (jdb _ _ ?_ ?_)
 ·cases e:HT.jaz (toI a) (toI b) with
  |false=>rfl
  |true=>rw [e] at h';cases h'
 ·cases e:HT.jaz (toI b) (toI a) with
  |false=>rfl
  |true=>rw [e] at h;cases h
def jkz (l:List (List Nat)):List (List Nat):=l.mergeSort leS
theorem jdO (l:List (List Nat)):(jkz l).Perm l:=List.mergeSort_perm _ _
theorem ji4 (l:List (List Nat)):(jkz l).Pairwise fun a b=>leS a b=true:=List.pairwise_mergeSort jkx jky l
theorem jkA {l P:List (List Nat)} (p:P.Perm l) (r:P.Pairwise fun a b=>leS a b=true):P=jkz l:=
 List.Perm.eq_of_pairwise (fun a b _ _ x y=>jlX x y) r (ji4 l) (p.trans (jdO l).symm)
theorem jg6 {l:List (List Nat)} {mss:List (List Int)} (p:mss.Perm (l.map toI)) (r:mss.Pairwise fun x y=>HT.jaz y x=false):mss.map tI=(jkz l).map jaA:=by
 obtain⟨P,pP,rfl⟩:=jdx p
 rw [G1n] at r
 rw [←jkA pP (r.imp fun e=>by unfold leS;rw [e];rfl),List.map_map]
 exact G1u fun S _=>jg5 S
end L2
namespace L2
open PySem PySem.Spec PyProof.Rows PySem.SeqAt
theorem jio: ∀l:List Int,PyData.canLayAll0 (l.map PyData.int)=true
 | []=>rfl
 |x::l=>by show (PyData.canLay0 (.int x)&&_)=true;rw [jio l];rfl
theorem jkB {neg:Bool} {x:Nat} {S:List Nat} {h:HD} {Q:KD} (q: ∀b:Bool,(b=true↔x∈S)→Q (.bl (neg !=b)) h):inE neg (.int (x:Int)) (jaA S) h Q:=by
 refine⟨.int x,(je6 S).map PyData.int,rfl,.inr (jhB h S),rfl,jio _,(by show (0:Nat)≤60;decide),q _ ?_⟩
 rw [G3H]
 constructor
 ·rintro ⟨z,hz,e⟩
  obtain⟨m,hm,rfl⟩:=G0N.mp hz
  obtain⟨y,hy,rfl⟩:=G0N.mp (show m∈S.map fun (k:Nat)=>(k:Int) from hm)
  have:(y:Int)=x:=by simpa [PyData.eqv] using e
  have:y=x:=by omega
  exact this ▸ hy
 ·intro z
  exact⟨.int x,G0N.mpr ⟨_,G0N.mpr ⟨x,z,rfl⟩,rfl⟩,by simp [PyData.eqv]⟩
theorem jn3 {x:Nat} {S:List Nat} {h:HD} {Q:KD} (q:Q (.bl (decide (x∈S))) h):inE false (.int (x:Int)) (jaA S) h Q:=jkB fun bo hb=>by
 have:(false !=bo)=decide (x∈S):=by
  cases bo with
  |true=>rw [G0I (hb.mp rfl)];rfl
  |false=>rw [G0P fun z=>by have:=hb.mpr z;cases this];rfl
 rw [this];exact q
def jn4 (n:Nat) (T:List (List Int)) (S:List Nat):Bool:=(jhA n T S).all fun j=>decide (j∈S)
theorem jlY {h:HD} {A:Addr} {P:List (List Nat)} (k:h A=some (P.map jaA)):ToP h (.lst A) (.list (P.map jiM)):=⟨A,_,rfl,k,jgS h P⟩
theorem jcY {h h' :HD} {a:Addr} (sb:Sub h h') (e:h' a=none):h a=none:=by
 cases z:h a with
 |none=>rfl
 |some ds=>rw [sb a ds z] at e;cases e
theorem Sub.over {h h' :HD} {a:Addr} {ds:List D} (sb:Sub h h') (e:h a=none):Sub h (jbi h' a ds):=fun b xs k=>jah (fun z=>by subst z;rw [e] at k;cases k) (sb b xs k)
theorem jn5 {h:HD} {A B:Addr} {S:List Nat} {Q:KD} (k:h A=some (S.map fun (k:Nat)=>D.int (k:Int))) (k' :h B=some []) (q:Q (.bl (decide (S= []))) h):eqE (.lst A) (.lst B) h Q:=by
 refine⟨.list ((je6 S).map .int),.list [],⟨A,_,rfl,k,?_⟩,⟨B,_,rfl,k',rfl⟩,jez _,by decide +kernel,?_⟩
 ·have:=jdn h (je6 S)
  unfold je6 at this ⊢
  rw [G1d (f:=fun (k:Nat)=>(k:Int)) (g:=D.int)] at this
  exact this
 ·cases S with
  |nil=>exact q
  |cons x S=>exact q
theorem jkC {x:Nat} {S:List Nat} {h:HD} {Q:KD} (q:Q (.bl (!decide (x∈S))) h):inE true (.int (x:Int)) (jaA S) h Q:=jkB fun bo hb=>by
 have:(true !=bo)= !decide (x∈S):=by
  cases bo with
  |true=>rw [G0I (hb.mp rfl)];rfl
  |false=>rw [G0P fun z=>by have:=hb.mpr z;cases this];rfl
 rw [this];exact q
structure GB (n:Nat) (h0 h:HD) (R:Addr) (rs:List Addr) (f:Nat→Nat→Bool):Prop where
 at_:h R=some (rs.map D.lst)
 len:rs.length=n
 nR:R ∉ rs
 nd:rs.Nodup
 sb:Sub h0 h
 row: ∀i a,rs[i]? =some a→h0 a=none∧h a=some ((List.range n).map fun j=>D.bl (f i j))
section
variable {n:Nat} {h0 h:HD} {R:Addr} {rs:List Addr} {f g:Nat→Nat→Bool}
theorem GB.put (G:GB n h0 h R rs f) {i j:Nat} {a:Addr} {v:Bool} (ha:rs[i]? =some a):GB n h0 (jbi h a (((List.range n).map fun j=>D.bl (f i j)).set j (.bl v))) R rs (fun x y=>if x=i∧y=j then v else f x y):=by
 have hm:=G0i ha
 have il:=(G0k.mp ha).1
 refine⟨jah (fun z=>G.nR (z ▸ hm)) G.at_,G.len,G.nR,G.nd,G.sb.over (G.row i a ha).1,fun x b hb=>⟨(G.row x b hb).1,?_⟩⟩
 by_cases z:x=i
 ·subst z
  have eb:b=a:=by rw [ha] at hb;injection hb with hb;exact hb.symm
  subst eb
  rw [jaa]
  refine congrArg some (List.ext_getElem (by simp) fun m h1 h2=> ?_)
  rw [List.getElem_set]
  simp only [List.getElem_map,G2S]
  by_cases e:j=m
  ·subst e;simp
  ·rw [if_neg e,if_neg fun w=>e w.2.symm]
 ·have ne:b≠a:=fun w=>z ((List.getElem?_inj (G0k.mp hb).1 G.nd).mp (hb.trans (by rw [w];exact ha.symm)))
  rw [jah ne (G.row x b hb).2]
  exact congrArg some (G1u fun y _=>by rw [if_neg fun w=>z w.1])
theorem GB.pick (G:GB n h0 h R rs f) {i:Nat} (hi:i<n): ∃a,rs[i]? =some a∧atI (rs.map D.lst) (i:Int)=some (.lst a)∧h a=some ((List.range n).map fun j=>D.bl (f i j)):=by
 have hi' :i<rs.length:=by rw [G.len];exact hi
 exact⟨rs[i],G0c hi',jbQ (by rw [G0o,G0c hi'];rfl),(G.row i _ (G0c hi')).2⟩
theorem GB.as (G:GB n h0 h R rs f) (e: ∀i j,i<n→j<n→f i j=g i j):GB n h0 h R rs g:=
 ⟨G.at_,G.len,G.nR,G.nd,G.sb,fun i a ha=>⟨(G.row i a ha).1,by
  have hi:i<n:=by rw [←G.len];exact(G0k.mp ha).1
  rw [(G.row i a ha).2]
  exact congrArg some (G1u fun j hj=>by rw [e i j hi (G0z.mp hj)])⟩⟩
theorem GB.up (G:GB n h0 h R rs f) {h' :HD} (s:Sub h h'):GB n h0 h' R rs f:=⟨s _ _ G.at_,G.len,G.nR,G.nd,fun a ds e=>s _ _ (G.sb _ _ e),fun i a ha=>⟨(G.row i a ha).1,s _ _ (G.row i a ha).2⟩⟩
end
theorem jip {n:Nat} {f:Nat→Bool} {j:Nat} (hj:j<n):atI ((List.range n).map fun j=>D.bl (f j)) (j:Int)=some (.bl (f j)):=jnG hj
def wk (T:List (List Int)):Nat→Nat→Nat→Bool
 |0,i,j=>decide (i=j)|| !decide (ent T i j=0)
 |b+1,i,j=>wk T b i j||(wk T b i b&&wk T b b j)
theorem jga (T:List (List Int)): ∀b i,wk T b i i=true
 |0,i=>by unfold wk;rw [decide_eq_true rfl];rfl
 |b+1,i=>by unfold wk;rw [jga T b i];rfl
theorem jmy (T:List (List Int)) (b i:Nat):wk T (b+1) i b=wk T b i b:=by
 show (wk T b i b||(wk T b i b&&wk T b b b))=_
 cases wk T b i b<;>rfl
theorem jmz (T:List (List Int)) (b j:Nat):wk T (b+1) b j=wk T b b j:=by
 show (wk T b b j||(wk T b b b&&wk T b b j))=_
 cases wk T b b j<;>cases wk T b b b<;>rfl
theorem jiq {T:List (List Int)} {i j:Nat} (h:ent T i j≠0): ∀b,wk T b i j=true
 |0=>by unfold wk;rw [decide_eq_false h];simp
 |b+1=>by unfold wk;rw [jiq h b];rfl
theorem wk_by {T:List (List Int)} {b i j:Nat}:wk T (b+1) i j=true↔wk T b i j=true∨(wk T b i b=true∧wk T b b j=true):=by
 show (wk T b i j||(wk T b i b&&wk T b b j))=true↔_
 rw [G2F,G0Z]
theorem jbZ {T:List (List Int)}: ∀ {b i k j:Nat},k<b→wk T b i k=true→wk T b k j=true→wk T b i j=true
 |b+1,i,k,j,hk,x,y=>by
  by_cases e:k=b
  ·subst e
   rw [jmy] at x
   rw [jmz] at y
   exact wk_by.mpr (.inr ⟨x,y⟩)
  ·have lt:k<b:=by omega
   rcases wk_by.mp x with x|⟨x1,x2⟩
   ·rcases wk_by.mp y with y|⟨y1,y2⟩
    ·exact wk_by.mpr (.inl (jbZ lt x y))
    ·exact wk_by.mpr (.inr ⟨jbZ lt x y1,y2⟩)
   ·rcases wk_by.mp y with y|⟨y1,y2⟩
    ·exact wk_by.mpr (.inr ⟨x1,jbZ lt x2 y⟩)
    ·exact wk_by.mpr (.inr ⟨x1,y2⟩)
theorem jec {T:List (List Int)} {P:Nat→Nat→Prop} (r: ∀i,P i i) (a: ∀i j,ent T i j≠0→P i j) (t: ∀i k j,P i k→P k j→P i j): ∀ {b i j:Nat},wk T b i j=true→P i j
 |0,i,j,h=>by
  have h:(decide (i=j)|| !decide (ent T i j=0))=true:=h
  rw [G2F] at h
  rcases h with h|h
  ·rw [G1l h];exact r j
  ·exact a i j fun z=>by rw [G0I z] at h;cases h
 |b+1,i,j,h=>by
  rcases wk_by.mp h with h|⟨h1,h2⟩
  ·exact jec r a t h
  ·exact t _ _ _ (jec r a t h1) (jec r a t h2)
def clS (n:Nat) (T:List (List Int)) (S:List Nat):List Nat:=(List.range n).filter fun j=>S.any fun i=>wk T n i j
theorem jkD (n:Nat) (T:List (List Int)) (S:List Nat):IsS n (clS n T S):=⟨_,rfl⟩
theorem mem_cl {n:Nat} {T:List (List Int)} {S:List Nat} {j:Nat}:j∈clS n T S↔j<n∧ ∃i∈S,wk T n i j=true:=by
 unfold clS
 rw [G1e,G0z,G3H]
theorem jqC {n:Nat} {T:List (List Int)} {S:List Nat} (hS:IsS n S) {j:Nat} (hj:j∈S):j∈clS n T S:=mem_cl.mpr ⟨hS.lt hj,j,hj,jga T n j⟩
theorem mem_stepS {n:Nat} {T:List (List Int)} {S:List Nat} {j:Nat}:j∈jhA n T S↔j<n∧ ∃i∈S,ent T i j≠0:=by
 unfold jhA
 rw [G1e,G0z,G3H]
 exact⟨fun ⟨a,i,hi,z⟩=>⟨a,i,hi,by simpa using z⟩,fun ⟨a,i,hi,z⟩=>⟨a,i,hi,by simpa using z⟩⟩
theorem shut_iff {n:Nat} {T:List (List Int)} {S:List Nat}:jn4 n T S=true↔ ∀i∈S,∀j,j<n→ent T i j≠0→j∈S:=by
 unfold jn4
 rw [G1f]
 constructor
 ·intro h i hi j hj e
  exact G1l (h j (mem_stepS.mpr ⟨hj,i,hi,e⟩))
 ·intro h j hj
  obtain⟨a,i,hi,e⟩:=mem_stepS.mp hj
  exact G0I (h i hi j a e)
theorem jr2 {n:Nat} {T:List (List Int)} {S U:List Nat} (hU:jn4 n T U=true) (out: ∀i j,ent T i j≠0→j<n) (sub: ∀i∈S,i∈U) {j:Nat} (hj:j∈clS n T S):j∈U:=by
 obtain⟨_,s,hs,w⟩:=mem_cl.mp hj
 exact jec (P:=fun i j=>i∈U→j∈U) (fun _ x=>x) (fun i j e x=>shut_iff.mp hU i x j (out i j e) e) (fun i k j x y z=>y (x z)) w (sub s hs)
theorem jn6 {n e:Nat} {T:List (List Int)} (h:Sq n e T) (i j:Nat) (z:ent T i j≠0):j<n:=by
 by_cases hj:j<n
 ·exact hj
 ·exfalso
  apply z
  unfold ent
  by_cases hi:i<T.length
  ·have hr:=h.row (T.getD i []) (by rw [G0M,G0c hi];exact G1i hi)
   rw [G0M,G1j (by rw [hr];omega)];rfl
  ·rw [G0M (l:=T),G1j (by omega)];rfl
def fW (T:List (List Int)) (b i j x y:Nat):Bool:=if x<i∨(x=i∧y<j) then wk T (b+1) x y else wk T b x y
theorem jqD (T:List (List Int)) (b i j x:Nat):fW T b i j x b=wk T b x b:=by
 unfold fW
 rw [jmy]
 by_cases c:x<i∨(x=i∧b<j)
 ·rw [if_pos c]
 ·rw [if_neg c]
theorem jqE (T:List (List Int)) (b i j y:Nat):fW T b i j b y=wk T b b y:=by
 unfold fW
 rw [jmz]
 by_cases c:b<i∨(b=i∧y<j)
 ·rw [if_pos c]
 ·rw [if_neg c]
theorem jqF {T:List (List Int)} {b i j:Nat} (h1:wk T b i b=true) (h2:wk T b b j=true) (x y:Nat):(if x=i∧y=j then true else fW T b i j x y)=fW T b i (j+1) x y:=by
 by_cases e:x=i∧y=j
 ·obtain⟨rfl,rfl⟩:=e
  unfold fW
  rw [if_pos ⟨rfl,rfl⟩,if_pos (.inr ⟨rfl,G11 _⟩)]
  exact(wk_by.mpr (.inr ⟨h1,h2⟩)).symm
 ·rw [if_neg e]
  unfold fW
  by_cases c:x<i∨(x=i∧y<j)
  ·rw [if_pos c,if_pos (by omega)]
  ·rw [if_neg c,if_neg (by omega)]
theorem jkE {T:List (List Int)} {b i j:Nat} (h: ¬ (wk T b i b=true∧wk T b b j=true)) (x y:Nat):fW T b i j x y=fW T b i (j+1) x y:=by
 unfold fW
 by_cases c:x<i∨(x=i∧y<j)
 ·rw [if_pos c,if_pos (by omega)]
 ·rw [if_neg c]
  by_cases e:x=i∧y=j
  ·obtain⟨rfl,rfl⟩:=e
   rw [if_pos (by omega),G1z,wk_by]
   exact⟨.inl,fun z=>z.resolve_right h⟩
  ·rw [if_neg (by omega)]
theorem jn7 {n:Nat} (T:List (List Int)) (b i x y:Nat) (hy:y<n):fW T b i n x y=fW T b (i+1) 0 x y:=by
 unfold fW
 by_cases c:x<i∨(x=i∧y<n)
 ·rw [if_pos c,if_pos (by omega)]
 ·rw [if_neg c,if_neg (by omega)]
theorem jqG {n:Nat} (T:List (List Int)) (b x y:Nat) (hx:x<n):fW T b n 0 x y=wk T (b+1) x y:=by
 unfold fW
 rw [if_pos (.inl hx)]
theorem jn8 (T:List (List Int)) (b x y:Nat):wk T b x y=fW T b 0 0 x y:=by
 unfold fW
 rw [if_neg (by omega)]
section
variable {X:Cx} {iter iter' elt:Expr} {te:TED} {ti ti' :TID} {tt tt' :TTD} {pos spos:Pos} {scope:Scope} {js:List Nat} {ifs ifs' :List Expr}
theorem jn9 {i i' k:Nat} {x z y:Str} {p pz py:Pos} (hc:X.calm=true) (hN:X.N.Nodup) (hk:X.N[k]? =some y) (hy:Loc X.env.scope y) (S:BlockOk X scope js) (hi:JI X (.Name x p) iter ti) (hj:i∈js) (hj' :i' ∈js) (hne:i≠i') (hx:X.N[i]? =some x) (hz:X.N[i']? =some z)
 (hl:scope.names.lookup x=some .local∨scope.names.lookup x=some .cell) (hl' :scope.names.lookup z=some .local∨scope.names.lookup z=some .cell)
 (ht: ∀X',jat X scope X' →PTs X' ifs (LT X'.K tt)) (hi' : ∀X',jat X scope X' →JI X' (.Name z pz) iter' ti') (ht' : ∀X',jat X scope X' →PTs X' ifs' (LT X'.K tt')) (he: ∀X',jat X scope X' →JE X' elt te)
 (hsw:swapsWith (.ListComp elt [⟨.Name x p,iter,ifs,0⟩,⟨.Name z pz,iter',ifs',0⟩] scope pos) (some (.Name y py)) spos.line X.env=pure true:=by rfl)
 (hf:X.fn y=true∨X.env.scope.names.lookup y=some .local:=by first|exact .inl rfl|exact .inr rfl|assumption) (hs: ∀x,foldedSetIterable iter X.env x=pure x:=by intro _;rfl) (hs' : ∀env x,foldedSetIterable iter' env x=pure x:=by intro _ _;rfl):
 JS X (.Assign [.Name y py] (.ListComp elt [⟨.Name x p,iter,ifs,0⟩,⟨.Name z pz,iter',ifs',0⟩] scope pos) spos) (jd6 k (jrG (bN i) js ti tt i' ti' tt' te)):=by
 have base:PS X (.Assign [.Name y py] (.ListComp elt [⟨.Name x p,iter,ifs,0⟩,⟨.Name z pz,iter',ifs',0⟩] scope pos) spos) (jmh (jso js (LI X.K ti) (jcB i) (LT X.K tt) (LI X.K ti') (jcB i') (LT X.K tt') (LE X.K te)) (jcB k)):=
  jjF hc S hi.to rfl (fun X' hX=>by obtain⟨C,s₀,H₀,ex,rfl⟩:=hX;exact jcV hN hx hl) (fun X' hX=>by have:=ht X' hX;obtain⟨C,s₀,H₀,ex,rfl⟩:=hX;exact this)
   (fun env acc=>jjG (.ListComp elt [⟨.Name x p,iter,ifs,0⟩,⟨.Name z pz,iter',ifs',0⟩] scope pos) iter' env acc) (fun _ _ _=>jna ..)
   (fun X' hX D=>by
    have a:=(hi' X' hX).to
    have b:=ht' X' hX
    have c:=(he X' hX).to
    obtain⟨C,s₀,H₀,ex,rfl⟩:=hX
    exact jm9 (g:=jcB i') hc rfl a (jcV hN hz hl') b c (hs' _))
   (jc5 hN hk hy hf) hsw hs
 exact⟨base.imp fun D σ H h=>by
  obtain⟨σd,hd,Qd,rs,rh,t,p⟩:=jjI (K:=X.K) D σ H h
  exact jpT (jpS hj hj' hne) σ H _ ⟨σd,hd,Qd,rs,rh,t,p⟩⟩
end
def joa (g:Nat→Nat→Bool) (w:List Nat) (j:Nat):Bool:=g (w.getLastD 0) j&&(decide (w.headD 0<j)&& !decide (j∈w))
def jk6 (g:Nat→Nat→Bool) (n:Nat) (w:List Nat):List (List Nat):=((List.range n).filter (joa g w)).map fun j=>w++ [j]
def lev (g:Nat→Nat→Bool) (n:Nat):Nat→List (List Nat)
 |0=>(List.range n).map fun i=> [i]
 |t+1=>(lev g n t).flatMap (jk6 g n)
theorem jbV {α:Type} {p q:α→Bool} (h: ∀a,p a=true→q a=true): ∀l:List α,(l.filter p).Sublist (l.filter q)
 | []=> .slnil
 |a::l=>by
  cases e:p a with
  |true=>rw [G1Q e,G1Q (h a e)];exact(jbV h l).cons₂ a
  |false=>
   rw [G1R (by rw [e];exact G0q)]
   cases e' :q a with
   |true=>rw [G1Q e'];exact(jbV h l).cons a
   |false=>rw [G1R (by rw [e'];exact G0q)];exact jbV h l
theorem jeN {α β:Type} {f g:α→List β} (h: ∀a,(f a).Sublist (g a)): ∀ {l m:List α},l.Sublist m→(l.flatMap f).Sublist (m.flatMap g)
 |_,_,.slnil=> .slnil
 |_,_,.cons a s=>by rw [G4e];exact(jeN h s).trans (List.sublist_append_right _ _)
 |_,_,.cons₂ a s=>by rw [G4e,G4e];exact(h a).append (jeN h s)
theorem jed {g g' :Nat→Nat→Bool} (h: ∀i j,g i j=true→g' i j=true) (n:Nat): ∀t,(lev g n t).Sublist (lev g' n t)
 |0=>List.Sublist.refl _
 |t+1=>jeN (fun w=>(jbV (fun j e=>by
  unfold joa at*
  rw [G0Z] at*
  exact⟨h _ _ e.1,e.2⟩) (List.range n)).map _) (jed h n t)
def jq3:Nat→Nat→Bool:=fun _ _=>true
theorem job: ∀n,n≤6→ ∀t,t≤6→(lev jq3 n t).length≤144:=by decide +kernel
theorem jgb {g:Nat→Nat→Bool} {n t:Nat} (h6:n≤6) (ht:t≤6):(lev g n t).length≤144:=G0C (jed (fun _ _ _=>rfl) n t).length_le (job n h6 t ht)
theorem jlZ (n:Nat) (h6:n≤6):lev jq3 n n= []:=by
 have: ∀n,n≤6→lev jq3 n n= []:=by decide +kernel
 exact this n h6
theorem jkF {g:Nat→Nat→Bool} {n:Nat} (h6:n≤6):lev g n n= []:=G2e (Nat.le_zero.mp (by rw [←G0A (α:=List Nat),←jlZ n h6];exact(jed (fun _ _ _=>rfl) n n).length_le))
theorem jqH {g:Nat→Nat→Bool} {n t:Nat} (h:lev g n t= []):lev g n (t+1)= []:=by
 show (lev g n t).flatMap _= []
 rw [h];rfl
structure LevOk (n t:Nat) (w:List Nat):Prop where
 len:w.length=t+1
 lt: ∀i∈w,i<n
 nd:w.Nodup
 low: ∀i∈w,w.headD 0≤i
theorem jeO {g:Nat→Nat→Bool} {n:Nat}: ∀ {t:Nat} {w:List Nat},w∈lev g n t→LevOk n t w
 |0,w,h=>by
  obtain⟨i,hi,rfl⟩:=G0N.mp h
  exact⟨rfl,fun j hj=>by rw [G0g.mp hj];exact G0z.mp hi,G09 _ _,fun j hj=>by rw [G0g.mp hj];exact G0f _⟩
 |t+1,w,h=>by
  obtain⟨v,hv,hw⟩:=List.mem_flatMap.mp h
  have o:=jeO hv
  obtain⟨j,hj,rfl⟩:=G0N.mp hw
  obtain⟨hj1,hj2⟩:=G1e.mp hj
  unfold joa at hj2
  rw [G0Z,G0Z] at hj2
  obtain⟨_,h3,h4⟩:=hj2
  have h3:=G1l h3
  have h4:j ∉ v:=fun z=>by rw [G0I z] at h4;cases h4
  have hd:(v++ [j]).headD 0=v.headD 0:=by
   cases v with
   |nil=>have:=o.len;cases this
   |cons a v=>rfl
  refine⟨by rw [G0d,o.len];rfl,fun i hi=> ?_,?_,fun i hi=> ?_⟩
  ·rcases G0u.mp hi with z|z
   ·exact o.lt i z
   ·rw [G0g.mp z];exact G0z.mp hj1
  ·exact G3w.mpr ⟨o.nd,G09 _ _,fun a ha b hb e=>by rw [G0g.mp hb] at e;subst e;exact h4 ha⟩
  ·rw [hd]
   rcases G0u.mp hi with z|z
   ·exact o.low i z
   ·rw [G0g.mp z];exact G0T h3
def jdP (g:Nat→Nat→Bool) (n:Nat):Nat→List (List Nat)
 |0=> []
 |t+1=>jdP g n t++(lev g n t).filter fun w=>g (w.getLastD 0) (w.headD 0)
def jaM (T:List (List Int)) (i j:Nat):Bool:=decide (ent T i j>0)
def jaK (T:List (List Int)) (n:Nat):List (List Nat):=jkz (jdP (jaM T) n n)
theorem jg7 {g g' :Nat→Nat→Bool} (h: ∀i j,g i j=true→g' i j=true) (n:Nat): ∀t,(jdP g n t).length≤(jdP g' n t).length
 |0=>G0f _
 |t+1=>by
  show (jdP g n t++_).length≤(jdP g' n t++_).length
  rw [G0d,G0d]
  exact Nat.add_le_add (jg7 h n t) (((jed h n t).filter _).trans (jbV (fun w e=>h _ _ e) _)).length_le
theorem joc: ∀n,n≤6→ ∀t,t≤6→(jdP jq3 n t).length≤415:=by decide +kernel
theorem jdy {g:Nat→Nat→Bool} {n t:Nat} (h6:n≤6) (ht:t≤6):(jdP g n t).length≤415:=G0C (jg7 (fun _ _ _=>rfl) n t) (joc n h6 t ht)
theorem jeP {g:Nat→Nat→Bool} {n:Nat}: ∀ {t:Nat} (k:Nat),lev g n t= []→jdP g n (t+k)=jdP g n t∧lev g n (t+k)= []
 |t,0,h=>⟨rfl,h⟩
 |t,k+1,h=>by
  obtain⟨a,b⟩:=jeP k h
  refine⟨?_,jqH b⟩
  show jdP g n (t+k)++(lev g n (t+k)).filter _=_
  rw [b,a,G3n,G1s]
theorem jkG {g:Nat→Nat→Bool} {n:Nat}: ∀ {t:Nat} {w:List Nat},w∈jdP g n t→ ∃s,s<t∧LevOk n s w∧g (w.getLastD 0) (w.headD 0)=true
 |t+1,w,h=>by
  rcases G0u.mp (show w∈jdP g n t++(lev g n t).filter _ from h) with z|z
  ·obtain⟨s,a,b⟩:=jkG z
   exact⟨s,by omega,b⟩
  ·obtain⟨z1,z2⟩:=G1e.mp z
   exact⟨t,G11 t,jeO z1,z2⟩
theorem jkH {T:List (List Int)} {n:Nat} {w:List Nat} (h:w∈jaK T n): ∃s,s<n∧LevOk n s w∧ent T (w.getLastD 0) (w.headD 0)>0:=by
 obtain⟨s,a,b,c⟩:=jkG ((jdO _).mem_iff.mp h)
 exact⟨s,a,b,G1l c⟩
theorem ji5 {T:List (List Int)} {n:Nat} (h6:n≤6):(jaK T n).length≤415:=by
 unfold jaK
 rw [(jdO _).length_eq]
 exact jdy h6 h6
theorem jee {w:List Nat} {t:Nat} (h:w.length=t+1):atI (w.map fun (k:Nat)=>D.int (k:Int)) 0=some (.int ((w.headD 0:Nat):Int)):=by
 cases w with
 |nil=>cases h
 |cons a w=>exact jbQ (j:=0) rfl
theorem jkI {w:List Nat} {t:Nat} (h:w.length=t+1):atI (w.map fun (k:Nat)=>D.int (k:Int)) (-1)=some (.int ((w.getLastD 0:Nat):Int)):=by
 refine jlA (by rw [G0a];omega) ?_
 rw [G0a,G0o,G34,G35,G0c (by omega)]
 rfl
theorem jhL {w:List Nat} {t:Nat} (h:w.length=t+1):w.getLastD 0∈w:=by
 rw [G34,G35,G0c (by omega)]
 exact G1i _
theorem jir {w:List Nat} {t:Nat} (h:w.length=t+1):w.headD 0∈w:=by
 cases w with
 |nil=>cases h
 |cons a w=>exact G0t
theorem jg8 {α β:Type} (f:α→List β) {xs:List α} {k:Nat} {x:α} (h:xs[k]? =some x):(xs.take (k+1)).flatMap f=(xs.take k).flatMap f++f x:=by
 rw [G1E,h,List.flatMap_append];simp
theorem jg9 {α β:Type} (p:α→Bool) (g:α→β) {xs:List α} {k:Nat} {x:α} (h:xs[k]? =some x):((xs.take (k+1)).filter p).map g=((xs.take k).filter p).map g++if p x=true then [g x] else []:=by
 rw [G1E,h,G1K,G0S]
 congr 1
 by_cases c:p x=true
 ·rw [if_pos c];simp [c]
 ·rw [if_neg c];simp [c]
theorem jcM {α β:Type} (f:α→List β) (xs:List α) (k:Nat):((xs.take k).flatMap f).length≤(xs.flatMap f).length:=by
 conv=>rhs;rw [←G0O k xs,List.flatMap_append,G0d]
 omega
section
variable {α β:Type} {i i' :Nat} {js:List Nat} {ti ti' :TID} {tt' :TTD} {te:TED} {σ:SD} {h:HD} {Q:KD} {j:ItD}
theorem jqI (xs:List α) (c:α→D) (ys:α→List β) (c' :β→D) (p:α→β→Bool) (g:α→β→D) (hz:(xs.flatMap fun x=>((ys x).filter (p x)).map (g x)).length≤sizeLine) (hj: ∀h',Sub h h' →j h' =some (xs.map c)) (ht: ∀R:ItD→HD→Prop,R j h→ti σ h R)
 (hin: ∀x∈xs,∀h',Sub h h' → ∀R:ItD→HD→Prop,(∀j' h2,Sub h' h2→(∀h3,Sub h2 h3→j' h3=some ((ys x).map c'))→R j' h2)→ti' ((jaH js σ).set i (some (c x))) h' R)
 (hp: ∀x∈xs,∀y∈ys x,∀h',Sub h h' → ∀Q' :Bool→HD→Prop,Q' (p x y) h' →tt' (((jaH js σ).set i (some (c x))).set i' (some (c' y))) h' Q')
 (he: ∀x∈xs,∀y∈ys x,p x y=true→ ∀h',Sub h h' → ∀Q' :KD,Q' (g x y) h' →te (((jaH js σ).set i (some (c x))).set i' (some (c' y))) h' Q')
 (hq: ∀a h',Sub h h' →h' a=none→Q (.lst a) (jbi h' a (xs.flatMap fun x=>((ys x).filter (p x)).map (g x)))):jrG (bN i) js ti jht i' ti' tt' te σ h Q:=by
 refine ht _ ⟨xs.length,fun k zs h' =>Sub h h' ∧zs=(xs.take k).flatMap fun x=>((ys x).filter (p x)).map (g x),⟨Sub.refl h,rfl⟩,?_⟩
 rintro k zs h1 ⟨s1,rfl⟩
 refine⟨G0C (jcM _ xs k) hz,xs.map c,hj h1 s1,by rw [G0a];exact G0f _,fun hl a ha=> ?_,fun d hd=> ?_⟩
 ·rw [G0a] at hl
  rw [G0F hl]
  exact hq a h1 s1 ha
 rw [G0o] at hd
 cases ex:xs[k]? with
 |none=>rw [ex] at hd;cases hd
 |some x=>
  rw [ex] at hd
  injection hd with hd
  subst hd
  have mx:=G0i ex
  refine⟨_,rfl,?_⟩
  unfold jht
  refine jk5 ?_
  refine hin x mx h1 s1 _ fun j' h2 s2 hj' =>⟨(ys x).length,fun m zs h' =>Sub h2 h' ∧zs=((xs.take k).flatMap fun x=>((ys x).filter (p x)).map (g x))++(((ys x).take m).filter (p x)).map (g x),⟨Sub.refl h2,by simp⟩,?_⟩
  rintro m zs h3 ⟨s3,rfl⟩
  have s03:Sub h h3:=fun a ds e=>s3 _ _ (s2 _ _ (s1 _ _ e))
  have tk:=jg8 (fun x=>((ys x).filter (p x)).map (g x)) ex
  refine⟨?_,(ys x).map c',hj' h3 s3,by rw [G0a];exact G0f _,fun hl=> ?_,fun d hd=> ?_⟩
  ·refine G0C ?_ (G0C (jcM (fun x=>((ys x).filter (p x)).map (g x)) xs (k+1)) hz)
   rw [tk,G0d,G0d,G0a,G0a]
   have:=(G14 m (ys x)).filter (p x) |>.length_le
   omega
  ·rw [G0a] at hl
   refine⟨h3,Sub.refl _,s03,?_⟩
   rw [tk,G0F hl]
  ·rw [G0o] at hd
   cases ey:(ys x)[m]? with
   |none=>rw [ey] at hd;cases hd
   |some y=>
    rw [ey] at hd
    injection hd with hd
    subst hd
    have my:=G0i ey
    have tf:=jg9 (p x) (g x) ey
    refine hp x mx y my h3 s03 _ ?_
    by_cases cp:p x y=true
    ·rw [if_pos cp] at tf ⊢
     refine he x mx y my cp h3 s03 _ ⟨h3,Sub.refl _,s3,?_⟩
     rw [tf,G0j]
    ·rw [if_neg cp] at tf ⊢
     refine⟨h3,Sub.refl _,s3,?_⟩
     rw [tf,G1s]
end
theorem encO:Enc jaA jiM:=⟨jhB,fun S=>jiN _,fun S=>G0C (jgT _) (by decide),jnF⟩
theorem jfD: ∀P:List (List Nat),PyData.depthAll (P.map jiM)≤3
 | []=>by simp [PyData.depthAll]
 |S::P=>by
  have:=jfD P
  have h2:PyData.depth (jiM S)≤2:=jgT _
  simp only [G0G,PyData.depthAll];omega
theorem jhM (P:List (List Nat)):shaped (.list (P.map jiM))=true:=by
 unfold shaped
 have h1:PyData.canLay0 (.list (P.map jiM))=true:=by simp only [PyData.canLay0];exact encO.lays P
 have h2:=jfD P
 have h3:PyData.depth (.list (P.map jiM))≤64:=by simp only [PyData.depth];omega
 rw [h1,G0I h3];rfl
theorem jod {h:HD} {A B:Addr} {P:List (List Nat)} {Q:KD} (k:h A=some (P.map jaA)) (k' :h B=some []) (q:Q (.bl (!P.isEmpty)) h):neE (.lst A) (.lst B) h Q:=by
 refine⟨.list (P.map jiM),.list [],jlY k,⟨B,_,rfl,k',rfl⟩,jhM P,by decide +kernel,?_⟩
 cases P with
 |nil=>exact q
 |cons S P=>exact q
theorem jl0 {n a:Nat} (h:a<n) (q:Nat→Bool):(List.range n).filter (fun j=>decide (a<j)&&q j)=((List.range (n-(a+1))).map fun k=>a+1+k).filter q:=by
 have e:List.range n=List.range (a+1)++(List.range (n-(a+1))).map fun k=>a+1+k:=by
  conv=>lhs;rw [show n=(a+1)+(n-(a+1)) by omega,List.range_add]
 rw [e,G1K]
 have e1:(List.range (a+1)).filter (fun j=>decide (a<j)&&q j)= []:=G3r.mpr fun j hj=>by
  have:=G0z.mp hj
  rw [G0P (show ¬a<j by omega)];exact G0q
 rw [e1,G0Q]
 exact List.filter_congr fun j hj=>by
  obtain⟨k,_,rfl⟩:=G0N.mp hj
  rw [G0I (show a<a+1+k by omega)];rfl
theorem joe {T:List (List Int)} {n:Nat} {w:List Nat} (h:w.headD 0<n):((List.range (n-(w.headD 0+1))).filter fun k=>jaM T (w.getLastD 0) (w.headD 0+1+k)&& !decide (w.headD 0+1+k∈w)).map (fun k=>jaA (w++ [w.headD 0+1+k]))=(jk6 (jaM T) n w).map jaA:=by
 unfold jk6
 have:joa (jaM T) w=fun j=>decide (w.headD 0<j)&&(jaM T (w.getLastD 0) j&& !decide (j∈w)):=by
  funext j
  unfold joa
  cases jaM T (w.getLastD 0) j<;>cases decide (w.headD 0<j)<;>rfl
 rw [this,jl0 h,List.filter_map,G1d,G1d]
 rfl
end L2
namespace HT
open PySem PySem.Spec PyProof.Rows
section
variable {prog:Program} {w:World} {A:Around} {E:Value→Shared→Prop} {s:Shared} {h0:Heap} {l I S:Addr} {vs:List Value} {lt:Value→Value→Bool}
structure At (h0:Heap) (l I S:Addr) (vs:List Value) (i:Nat) (st:Array Value) (h:Heap):Prop where
 kept:jc0 h0 h
 it:h.IsListIter I l i
 lst:h.IsList l vs.toArray
 store: ∃c,h.get? S=some (seqObj "list" st c)
end
end HT
namespace HT
open PySem PySem.Spec PyProof.Rows PySem.SeqAt
open PySem.AutoSeq1 (wpAny_loadPart')
open PySem.MeetsSeq PySem.MeetsSeq2 PySem.MeetsSeq3
inductive Lx (prog:Program) (w:World) (A:Around) (s:Shared):List Value→List Value→Bool→Prop
 |nn:Lx prog w A s [] [] false
 |nc (u:Value) (us:List Value):Lx prog w A s [] (u::us) true
 |cn (v:Value) (vs:List Value):Lx prog w A s (v::vs) [] false
 |same {v u:Value} {vs us:List Value} {b:Bool} (e:EqAt A s v u true) (t:Lx prog w A s vs us b):Lx prog w A s (v::vs) (u::us) b
 |unlike {v u:Value} {vs us:List Value} {b:Bool} (e:EqAt A s v u false) (t: ∀ (Q E:Value→Shared→Prop),Q (.bool b) s→wpAny (model prog w) A (richCompare .Lt v u) Q E s):Lx prog w A s (v::vs) (u::us) b
end HT
namespace L2
open PySem PySem.Spec PyProof.Rows PySem.SeqAt HT
open Classical in
noncomputable def readOf (h:Heap) (v:Value):PyData:=if e: ∃p as,p.canLay0=true∧Reads h v p as then e.choose else .none
end L2
namespace L2
open PySem PySem.Spec PyProof.Rows PySem.SeqAt
structure LensE (L:List Nat):Prop where
 rise:L.Pairwise (· < ·)
 lo: ∀l∈L,1≤l
 hi: ∀l∈L,l≤12
 few:L.length≤6
end L2
namespace L2
open PySem PySem.Spec PyProof.Rows
def s5:Nat→Nat
 |0=>0
 |d+1=>5*s5 d+1
theorem jkJ: ∀d,4*s5 d+1=5^d
 |0=>rfl
 |d+1=>by have:=jkJ d;rw [G1Y];show 4*(5*s5 d+1)+1=_;omega
theorem jmA (a:Nat): ∀b,s5 (a+b)=5^b*s5 a+s5 b
 |0=>by show s5 a=1*s5 a+0;omega
 |b+1=>by
  show 5*s5 (a+b)+1=5^(b+1)*s5 a+(5*s5 b+1)
  rw [jmA a b,G1Y,G4G,G3C (5^b) 5,G4K];omega
theorem jmB: ∀d,s5 d%2=d%2
 |0=>rfl
 |d+1=>by have:=jmB d;show (5*s5 d+1)%2=_;omega
theorem jqJ (m:Nat):s5 (2*m)=2*(s5 m*(2*s5 m+1)):=by
 rw [Nat.two_mul,jmA,←jkJ m]
 have:(4*s5 m+1)*s5 m+s5 m=2*(s5 m*(2*s5 m+1)):=by
  rw [Nat.add_mul,G4G,G4G]
  have e1:4*s5 m*s5 m=4*(s5 m*s5 m):=G4K ..
  have e2:s5 m*(2*s5 m)=2*(s5 m*s5 m):=by rw [Nat.mul_left_comm]
  rw [e1,e2];omega
 exact this
theorem jmC (k x:Nat):Nat.Coprime (2^k) (2*x+1):=by
 refine Nat.Coprime.pow_left k ?_
 show Nat.gcd 2 (2*x+1)=1
 rw [Nat.gcd_rec,show (2*x+1)%2=1 by omega];rfl
theorem jmD: ∀ (k d:Nat),2^k∣s5 d→2^k∣d
 |0,d,_=>by rw [G3E];exact Nat.one_dvd _
 |k+1,d,h=>by
  have ev:d%2=0:=by
   rw [←jmB d]
   exact Nat.mod_eq_zero_of_dvd (Nat.dvd_trans ⟨2^k,by rw [G1Y,G3C]⟩ h)
  obtain⟨m,rfl⟩: ∃m,d=2*m:=⟨d / 2,by omega⟩
  rw [jqJ,G1Y,G3C] at h
  have h1:2^k∣s5 m*(2*s5 m+1):=Nat.dvd_of_mul_dvd_mul_left (by decide) h
  have h2:=jmD k m ((jmC k (s5 m)).dvd_of_dvd_mul_right h1)
  rw [G1Y,G3C]
  exact Nat.mul_dvd_mul_left 2 h2
def f5 (N:Nat):Nat→Nat→Nat
 |0,a=>a
 |d+1,a=>(f5 N d a*5+1)%N
theorem jqK {N:Nat} (a:Nat): ∀d,f5 N d a%N=(5^d*a+s5 d)%N
 |0=>by show a%N=(1*a+0)%N;rw [Nat.one_mul,G13]
 |d+1=>by
  show (f5 N d a*5+1)%N%N=(5^(d+1)*a+(5*s5 d+1))%N
  rw [Nat.mod_mod,Nat.add_mod,Nat.mul_mod,jqK a d,←Nat.mul_mod,←Nat.add_mod,Nat.add_mul,G1Y]
  congr 1
  have:5^d*a*5=5^d*5*a:=by rw [Nat.mul_right_comm]
  omega
theorem jqL {N:Nat} (hN:0<N) {a:Nat} (ha:a<N): ∀d,f5 N d a<N
 |0=>ha
 |d+1=>G3c _ hN
theorem jmE {N:Nat} (a:Nat) (b:Nat): ∀d,f5 N (b+d) a=f5 N d (f5 N b a)
 |0=>rfl
 |d+1=>by show (f5 N (b+d) a*5+1)%N=_;rw [jmE a b d];rfl
theorem jl1 {k a d:Nat} (ha:a<2^k) (d0:0<d) (hd:d<2^k):f5 (2^k) d a≠a:=fun e=>by
 have e1:=jqK (N:=2^k) a d
 rw [e] at e1
 have le:a≤5^d*a+s5 d:=G0C (Nat.le_mul_of_pos_left a (Nat.pow_pos (by decide))) (Nat.le_add_right _ _)
 have dv:2^k∣5^d*a+s5 d-a:=Nat.dvd_of_mod_eq_zero (Nat.sub_mod_eq_zero_of_mod_eq e1.symm)
 have e2:5^d*a+s5 d-a=s5 d*(2*(2*a)+1):=by
  rw [←jkJ d,Nat.add_mul,G4G]
  have:4*s5 d*a=s5 d*(2*(2*a)):=by
   rw [G3C 4,G4K];congr 1;omega
  omega
 rw [e2] at dv
 have:=G4L d0 (jmD k d ((jmC k (2*a)).dvd_of_dvd_mul_right dv))
 omega
theorem jof {N:Nat} {a:Nat} {k:Nat} (hN:N=2^k) (ha:a<N): ∀ {i j:Nat},i<j→j<N→f5 N i a≠f5 N j a:=fun {i j} ij jN e=>by
 subst hN
 have:=jmE (N:=2^k) a i (j-i)
 rw [G2n (G0T ij)] at this
 exact jl1 (jqL (Nat.pow_pos (by decide)) ha i) (by omega) (by omega) ((this.symm.trans e.symm))
theorem jog {N:Nat}: ∀ {xs:List Nat},xs.Nodup→(∀x∈xs,x<N)→N≤xs.length→ ∀e,e<N→e∈xs:=fun {xs} nd lt le e he=>by
 have p:(List.range N).length≤(xs.filter fun x=>decide (x<N)).length:=by
  rw [G0L,List.filter_eq_self.mpr fun x hx=>G0I (lt x hx)];exact le
 refine G2v fun no=> ?_
 have key: ∀ (ys zs:List Nat),ys.Nodup→(∀y∈ys,y∈zs)→ys.length≤zs.length:=by
  intro ys
  induction ys with
  |nil=>intro zs _ _;exact G06 _
  |cons y ys ih=>
   intro zs d s
   obtain⟨d1,d2⟩:=G1M.mp d
   have hy:=s y G0t
   have:=ih (zs.erase y) d2 fun x hx=>(G2x (show x≠y from fun q=>d1 (by rw [←q];exact hx))).mpr (s x (G0y _ hx))
   rw [G2c hy] at this
   have:0<zs.length:=G2p hy
   rw [G0h];omega
 have:=key (e::xs) (List.range N) (G1M.mpr ⟨no,nd⟩) fun y hy=>by
  rcases G0n.mp hy with q|q
  ·rw [q];exact G0z.mpr he
  ·exact G0z.mpr (lt y q)
 rw [G0h,G0L] at this
 omega
theorem jmF {N k a e:Nat} (hN:N=2^k) (ha:a<N) (he:e<N): ∃m,m<N∧f5 N m a=e:=by
 have nd:((List.range N).map fun m=>f5 N m a).Nodup:=by
  rw [List.Nodup,G1n]
  refine G1k.mpr fun i j hi hj ij=> ?_
  rw [G2S,G2S]
  rw [G0L] at hj
  exact jof hN ha ij hj
 have:=jog nd (fun x hx=>by
  obtain⟨m,_,rfl⟩:=G0N.mp hx
  exact jqL (by rw [hN];exact Nat.pow_pos (by decide)) ha m) (by rw [G0a,G0L];exact G0f _) e he
 obtain⟨m,hm,e⟩:=G0N.mp this
 exact⟨m,G0z.mp hm,e⟩
def jbk (t:SetTable):Nat→SetTable.Probe→SetTable.Probe
 |0,p=>p
 |n+1,p=>jbk t n (t.advance p)
theorem jdz (t:SetTable): ∀ (a b:Nat) (p:SetTable.Probe),jbk t (a+b) p=jbk t b (jbk t a p)
 |0,b,p=>by rw [G1W];rfl
 |a+1,b,p=>by rw [Nat.add_right_comm];exact jdz t a b _
def jhN (t:SetTable) (i q:Nat) (d:Option Nat):SetTable.Probe:= {j:=i,more:=SetTable.runEnd t.mask i-i,i:=i,perturb:=q,dummy:=d}
theorem jdc (t:SetTable): ∀ (m:Nat) (p:SetTable.Probe),p.more=m→jbk t (m+1) p=jhN t ((p.i*5+1+p.perturb / 32)%(t.mask+1)) (p.perturb / 32) p.dummy
 |0,p,e=>by
  show t.advance p=_
  unfold SetTable.advance
  rw [if_neg (by omega)]
  rfl
 |m+1,p,e=>by
  have a:t.advance p= {p with j:=p.j+1,more:=p.more-1}:=by unfold SetTable.advance;rw [if_pos (by omega)]
  show jbk t (m+1) (t.advance p)=_
  rw [a,jdc t m _ (by show p.more-1=m;omega)]
theorem jkK (mask i:Nat):SetTable.runEnd mask i-i≤9:=by unfold SetTable.runEnd;split<;>omega
def jgw (N:Nat) (b:Nat):Nat→Nat
 |0=>b%N
 |L+1=>(jgw N b L*5+1+b / 32^(L+1))%N
theorem jkL (t:SetTable) (h:Int): ∀L,∃n,n≤10*L∧jbk t n (t.probeStart h)=jhN t (jgw (t.mask+1) (SetTable.bits h) L) (SetTable.bits h / 32^L) none
 |0=>⟨0,G0f _,by rw [G3E,G4H];rfl⟩
 |L+1=>by
  obtain⟨n,hn,e⟩:=jkL t h L
  have s:=jkK t.mask (jgw (t.mask+1) (SetTable.bits h) L)
  refine⟨n+(SetTable.runEnd t.mask (jgw (t.mask+1) (SetTable.bits h) L)-jgw (t.mask+1) (SetTable.bits h) L+1),by omega,?_⟩
  rw [jdz,e]
  refine(jdc t _ (jhN t _ _ none) rfl).trans ?_
  show jhN t ((jgw (t.mask+1) (SetTable.bits h) L*5+1+SetTable.bits h / 32^L / 32)%(t.mask+1)) (SetTable.bits h / 32^L / 32) none=_
  rw [G2P,←G1Y];rfl
theorem joh (h:Int):SetTable.bits h<2^64:=by unfold SetTable.bits;omega
theorem jgc {N:Nat} (h:Int): ∀m,jgw N (SetTable.bits h) (13+m)=f5 N m (jgw N (SetTable.bits h) 13)
 |0=>rfl
 |m+1=>by
  show (jgw N (SetTable.bits h) (13+m)*5+1+SetTable.bits h / 32^(13+m+1))%N=(f5 N m (jgw N (SetTable.bits h) 13)*5+1)%N
  rw [jgc h m,Nat.div_eq_of_lt (G0D (joh h) ?_),G13]
  exact G0C (show 2^64≤32^13 by decide) (Nat.pow_le_pow_right (by decide) (by omega))
theorem jl2 {t:SetTable} {k:Nat} (hN:t.mask+1=2^k) (h:Int) {e:Nat} (he:e≤t.mask): ∃n,n<10*SetTable.turns t.mask∧(jbk t n (t.probeStart h)).j=e:=by
 obtain⟨m,hm,em⟩:=jmF hN (a:=jgw (t.mask+1) (SetTable.bits h) 13) (G3c _ (G3F _)) (show e<t.mask+1 by omega)
 obtain⟨n,hn,en⟩:=jkL t h (13+m)
 refine⟨n,by unfold SetTable.turns;omega,?_⟩
 rw [en,←em,←jgc h m];rfl
theorem jkM {P:Nat→Prop}: ∀n,P n→ ∃m,m≤n∧P m∧ ∀k,k<m→ ¬P k:=fun n=>by
 induction n using Nat.strongRecOn with
 |ind n ih=>
  intro h
  rcases G4x (∃k,k<n∧P k) with ⟨k,lt,pk⟩|no
  ·obtain⟨m,a,b,c⟩:=ih k lt pk
   exact⟨m,by omega,b,c⟩
  ·exact⟨n,G0f _,h,fun k lt pk=>no ⟨k,lt,pk⟩⟩
theorem jmG {t:SetTable} {f:Nat→Int} {h:Int} (d:t.dummies= #[]): ∀ (n fuel:Nat) (p:SetTable.Probe),n<fuel→t.slot (jbk t n p).j= .empty→(∀k,k<n→t.slot (jbk t k p).j≠ .empty)→p.dummy=none→
 (SetTable.probe.go t f h fuel p=some (.empty (jbk t n p).j none)∧ ∀k,k<n→ ∀i,t.slot (jbk t k p).j= .live i→f i≠h)∨
 (∃k i,k<n∧t.slot (jbk t k p).j= .live i∧f i=h∧(∀k',k' <k→ ∀i',t.slot (jbk t k' p).j= .live i' →f i' ≠h)∧SetTable.probe.go t f h fuel p=some (.candidate (jbk t k p).j i (jbk t (k+1) p)))
 |_,0,_,lt,_,_,_=>absurd lt (G2G _)
 |0,fuel+1,p,_,he,_,hd=>by
  refine .inl ⟨?_,fun k hk=>absurd hk (G2G _)⟩
  have he:t.slot p.j= .empty:=he
  unfold SetTable.probe.go
  rw [he,hd];rfl
 |n+1,fuel+1,p,lt,he,ne,hd=>by
  have h0:t.slot p.j≠ .empty:=ne 0 (G3F _)
  cases hs:t.slot p.j with
  |empty=>exact absurd hs h0
  |dummy=>exact absurd hs (HT.jdK d)
  |live i=>
   by_cases e:f i=h
   ·refine .inr ⟨0,i,G3F _,hs,e,fun k' hk=>absurd hk (G2G _),?_⟩
    unfold SetTable.probe.go
    rw [hs]
    show (if (f i==h)=true then _ else _)=_
    rw [if_pos (by rw [e];exact G2d h)];rfl
   ·have ad:(t.advance p).dummy=none:=by unfold SetTable.advance;split<;>exact hd
    have step:SetTable.probe.go t f h (fuel+1) p=SetTable.probe.go t f h fuel (t.advance p):=by
     conv=>lhs;unfold SetTable.probe.go
     rw [hs]
     show (if (f i==h)=true then _ else _)=_
     rw [if_neg (by simpa using e)]
    rcases jmG d n fuel (t.advance p) (by omega) he (fun k hk=>ne (k+1) (by omega)) ad with ⟨a,b⟩|⟨k,i',hk,a,b,c,g⟩
    ·refine .inl ⟨by rw [step];exact a,fun k hk i2 hi=> ?_⟩
     cases k with
     |zero=>rw [show t.slot (jbk t 0 p).j= .live i from hs] at hi;cases hi;exact e
     |succ k=>exact b k (by omega) i2 hi
    ·refine .inr ⟨k+1,i',by omega,a,b,fun k' hk' i2 hi=> ?_,by rw [step];exact g⟩
     cases k' with
     |zero=>rw [show t.slot (jbk t 0 p).j= .live i from hs] at hi;cases hi;exact e
     |succ k' =>exact c k' (by omega) i2 hi
theorem jhO {t:SetTable} {k:Nat} (hN:t.mask+1=2^k) (h:Int) {e:Nat} (he:e≤t.mask) (em:t.slot e= .empty): ∃n,n<10*SetTable.turns t.mask∧t.slot (jbk t n (t.probeStart h)).j= .empty∧ ∀m,m<n→t.slot (jbk t m (t.probeStart h)).j≠ .empty:=by
 obtain⟨n,hn,ej⟩:=jl2 hN h he
 obtain⟨m,a,b,c⟩:=jkM (P:=fun n=>t.slot (jbk t n (t.probeStart h)).j= .empty) n (by rw [ej];exact em)
 exact⟨m,by omega,b,c⟩
theorem jkN {t:SetTable} (r:t.place.toList.Pairwise (· < ·)) {i j:Nat} (h:t.place[i]? =some j):t.slot j= .live i:=by
 obtain⟨lo,hi,_⟩:=HT.jdp r j
 have e:SetTable.below t.place j=i:=by
  rcases G4c (SetTable.below t.place j) i with z|z|z
  ·obtain⟨hlt,ev⟩:=G1A.mp h
   have hb:SetTable.below t.place j<t.place.size:=by omega
   have a:=hi (SetTable.below t.place j) (G0f _) t.place[SetTable.below t.place j] (G19 hb)
   have b:=G1k.mp r (SetTable.below t.place j) i (by simpa using hb) (by simpa using hlt) z
   simp only [G22] at b
   omega
  ·exact z
  ·exact absurd (lo i z j h) (G0W _)
 unfold SetTable.slot
 dsimp only
 rw [e,h,if_pos (G2d _)]
theorem jkO {t:SetTable} {i j:Nat} (h:t.slot j= .live i):t.place[i]? =some j:=by
 unfold SetTable.slot at h
 dsimp only at h
 split at h
 ·rename_i c
  injection h with h
  subst h
  exact eq_of_beq c
 ·split at h<;>cases h
theorem jdA {t:SetTable} (d:t.dummies= #[]) (r:t.place.toList.Pairwise (· < ·)) {j:Nat}:t.slot j= .empty↔ ∀i:Nat,t.place[i]? ≠some j:=by
 constructor
 ·intro h i e
  rw [jkN r e] at h;cases h
 ·intro h
  cases e:t.slot j with
  |empty=>rfl
  |dummy=>exact absurd e (HT.jdK d)
  |live i=>exact absurd (jkO e) (h i)
theorem jl3 {t u:SetTable} (e:t.mask=u.mask) (p:SetTable.Probe):t.advance p=u.advance p:=by
 unfold SetTable.advance
 rw [e]
theorem jcN {t u:SetTable} (e:t.mask=u.mask): ∀ (n:Nat) (p:SetTable.Probe),jbk t n p=jbk u n p
 |0,_=>rfl
 |n+1,p=>by show jbk t n (t.advance p)=jbk u n (u.advance p);rw [jl3 e,jcN e n]
theorem jcZ {t u:SetTable} (e:t.mask=u.mask) (h:Int):t.probeStart h=u.probeStart h:=by
 unfold SetTable.probeStart
 rw [e]
def Way (t:SetTable) (h:Int) (j:Nat):Prop:= ∃n,(jbk t n (t.probeStart h)).j=j∧ ∀m,m<n→t.slot (jbk t m (t.probeStart h)).j≠ .empty
theorem Way.more {t u:SetTable} (e:t.mask=u.mask) (f: ∀j,u.slot j= .empty→t.slot j= .empty) {h:Int} {j:Nat} (w:Way t h j):Way u h j:=by
 obtain⟨n,a,b⟩:=w
 refine⟨n,by rw [←jcZ e,←jcN e];exact a,fun m hm z=>b m hm ?_⟩
 rw [←jcZ e,←jcN e] at z
 exact f _ z
theorem jmH {α:Type} (xs:List α) (x:α) {p:Nat} (hp:p≤xs.length) (i:Nat):(xs.take p++x::xs.drop p)[i]? =if i<p then xs[i]? else if i=p then some x else xs[i-1]? :=by
 have tl:(xs.take p).length=p:=by rw [G0B];omega
 by_cases a:i<p
 ·rw [if_pos a,G0R (by omega),List.getElem?_take,if_pos a]
 ·rw [if_neg a,G0s (by omega),tl]
  by_cases b:i=p
  ·rw [if_pos b,b,Nat.sub_self];rfl
  ·rw [if_neg b,show i-p=(i-p-1)+1 by omega,G0p,G1p]
   congr 1;omega
structure Laid (t:SetTable) (hs:List Int):Prop where
 pow: ∃k,t.mask+1=2^k
 big:7≤t.mask
 dum:t.dummies= #[]
 rise:t.place.toList.Pairwise (· < ·)
 size:t.place.size=hs.length
 room:hs.length≤t.mask
 low: ∀ (i j:Nat),t.place[i]? =some j→j≤t.mask
 way: ∀ (i:Nat) (h:Int) (j:Nat),hs[i]? =some h→t.place[i]? =some j→Way t h j
theorem Laid.free {t:SetTable} {hs:List Int} (l:Laid t hs): ∃e,e≤t.mask∧t.slot e= .empty:=by
 refine G2v fun no=> ?_
 have nd:t.place.toList.Nodup:=l.rise.imp fun {a b} z=>G0J z
 have all: ∀e,e<t.mask+1→e∈t.place.toList:=fun e he=>by
  refine G2v fun z=>no ⟨e,by omega,(jdA l.dum l.rise).mpr fun i q=>z ?_⟩
  exact Array.mem_toList_iff.mpr (Array.mem_of_getElem? q)
 have key: ∀ (ys zs:List Nat),ys.Nodup→(∀y∈ys,y∈zs)→ys.length≤zs.length:=by
  intro ys
  induction ys with
  |nil=>intro zs _ _;exact G06 _
  |cons y ys ih=>
   intro zs d s
   obtain⟨d1,d2⟩:=G1M.mp d
   have hy:=s y G0t
   have:=ih (zs.erase y) d2 fun x hx=>(G2x (show x≠y from fun q=>d1 (by rw [←q];exact hx))).mpr (s x (G0y _ hx))
   rw [G2c hy] at this
   have:0<zs.length:=G2p hy
   rw [G0h];omega
 have:=key (List.range (t.mask+1)) t.place.toList List.nodup_range fun y hy=>all y (G0z.mp hy)
 rw [G0L,G0m,l.size] at this
 have:=l.room
 omega
theorem Laid.search {t:SetTable} {hs:List Int} (l:Laid t hs) (h:Int): ∃n,n<10*SetTable.turns t.mask∧t.slot (jbk t n (t.probeStart h)).j= .empty∧(∀m,m<n→t.slot (jbk t m (t.probeStart h)).j≠ .empty)∧ ∀i:Nat,hs[i]? =some h→ ∃m,m<n∧t.slot (jbk t m (t.probeStart h)).j= .live i:=by
 obtain⟨k,hk⟩:=l.pow
 obtain⟨e,he,em⟩:=l.free
 obtain⟨n,a,b,c⟩:=jhO hk h he em
 refine⟨n,a,b,c,fun i hi=> ?_⟩
 obtain⟨j,hj⟩: ∃j,t.place[i]? =some j:=⟨t.place[i]'(by rw [l.size];exact(G0k.mp hi).1),G19 _⟩
 obtain⟨m,x,y⟩:=l.way i h j hi hj
 have lv:t.slot (jbk t m (t.probeStart h)).j= .live i:=by rw [x];exact jkN l.rise hj
 refine⟨m,?_,lv⟩
 rcases G4c m n with z|z|z
 ·exact z
 ·rw [z,b] at lv;cases lv
 ·exact absurd b (y n z)
theorem jkP (t:SetTable) (j:Nat):(t.put j).1.place.toList=t.place.toList.take (SetTable.below t.place j)++j::t.place.toList.drop (SetTable.below t.place j):=G3b ..
theorem jkQ {t:SetTable} (d:t.dummies= #[]) (j:Nat):(t.put j).1.dummies= #[]:=by
 show (if SetTable.has t.dummies j then _ else t.dummies)= #[]
 rw [d,if_neg (by simp [SetTable.has])]
theorem Laid.put {t:SetTable} {hs:List Int} (l:Laid t hs) {h:Int} {j:Nat} (em:t.slot j= .empty) (jm:j≤t.mask) (w:Way t h j) (room:hs.length+1≤t.mask):Laid (t.put j).1 (hs.take (t.put j).2++h::hs.drop (t.put j).2):=by
 have pe:(t.put j).2=SetTable.below t.place j:=rfl
 have me:t.mask=(t.put j).1.mask:=rfl
 have pl:=jkP t j
 have hp:SetTable.below t.place j≤t.place.size:=(HT.jdp l.rise j).2.2
 have hp1:SetTable.below t.place j≤t.place.toList.length:=by rw [G0m];exact hp
 have hp2:SetTable.below t.place j≤hs.length:=by rw [←l.size];exact hp
 have rise:(t.put j).1.place.toList.Pairwise (· < ·):=HT.jeG l.rise (HT.jfy em)
 have at1: ∀i:Nat,(t.put j).1.place[i]? =if i<SetTable.below t.place j then t.place[i]? else if i=SetTable.below t.place j then some j else t.place[i-1]? :=fun i=>by
  have:=jmH t.place.toList j hp1 i
  rw [←pl] at this
  simpa using this
 have sl: ∀x,(t.put j).1.slot x= .empty→t.slot x= .empty:=fun x hx=>by
  rw [jdA (jkQ l.dum j) rise] at hx
  rw [jdA l.dum l.rise]
  intro i e
  by_cases c:i<SetTable.below t.place j
  ·exact hx i (by rw [at1,if_pos c];exact e)
  ·exact hx (i+1) (by rw [at1,if_neg (by omega),if_neg (by omega)];exact e)
 rw [pe]
 refine⟨l.pow,l.big,jkQ l.dum j,rise,?_,?_,fun i x hx=> ?_,fun i g x hg hx=> ?_⟩
 ·rw [←G0m,pl]
  simp only [G0d,G0h,G0B,G0X,G0m]
  have:=l.size
  omega
 ·show _≤t.mask
  simp only [G0d,G0h,G0B,G0X]
  omega
 ·rw [at1] at hx
  split at hx
  ·exact l.low _ _ hx
  ·split at hx
   ·injection hx with hx;subst hx;exact jm
   ·exact l.low _ _ hx
 ·rw [at1] at hx
  rw [jmH hs h hp2] at hg
  by_cases c:i<SetTable.below t.place j
  ·rw [if_pos c] at hg hx
   exact(l.way i g x hg hx).more me sl
  ·rw [if_neg c] at hg hx
   by_cases b:i=SetTable.below t.place j
   ·rw [if_pos b] at hg hx
    injection hg with hg;injection hx with hx
    subst hg hx
    exact w.more me sl
   ·rw [if_neg b] at hg hx
    exact(l.way (i-1) g x hg hx).more me sl
theorem ji6 (a b:Nat) (led:Bool):Laid (.fresh a b led) []:=⟨⟨3,rfl⟩,G0f 7,rfl,List.Pairwise.nil,rfl,G06 _,fun i j h=>by simp [SetTable.fresh] at h,fun i h j e=>by simp at e⟩
theorem jmI (t:SetTable): ∀ (k i q m j:Nat) (d:Option Nat),k≤m→jbk t k ⟨j,m,i,q,d⟩=⟨j+k,m-k,i,q,d⟩
 |0,i,q,m,j,d,_=>rfl
 |k+1,i,q,m,j,d,h=>by
  have a:t.advance ⟨j,m,i,q,d⟩=⟨j+1,m-1,i,q,d⟩:=by unfold SetTable.advance;rw [if_pos (show m>0 by omega)]
  show jbk t k (t.advance ⟨j,m,i,q,d⟩)=_
  rw [a,jmI t k i q (m-1) (j+1) d (by omega)]
  congr 1<;>omega
def jr3 (t:SetTable) (E:Nat→Bool) (h:Int) (j:Nat):Prop:= ∃n,(jbk t n (t.probeStart h)).j=j∧ ∀m,m<n→E (jbk t m (t.probeStart h)).j=false
theorem jis {t:SetTable} {owner:Array (Option Nat)} {h:Int}: ∀ (fuel L n:Nat) {j:Nat},jbk t n (t.probeStart h)=jhN t (jgw (t.mask+1) (SetTable.bits h) L) (SetTable.bits h / 32^L) none→(∀m,m<n→(owner.getD (jbk t m (t.probeStart h)).j (some 0)).isNone=false)→
 SetTable.layClean.free t.mask owner fuel (jgw (t.mask+1) (SetTable.bits h) L) (SetTable.bits h / 32^L)=some j→(owner.getD j (some 0)).isNone=true∧jr3 t (fun x=>(owner.getD x (some 0)).isNone) h j
 |0,_,_,_,_,_,e=>by cases e
 |fuel+1,L,n,j,hn,ne,e=>by
  unfold SetTable.layClean.free at e
  generalize hI:jgw (t.mask+1) (SetTable.bits h) L=I at hn e
  have run: ∀k,k≤SetTable.runEnd t.mask I-I→(jbk t (n+k) (t.probeStart h)).j=I+k:=fun k hk=>by
   rw [jdz,hn]
   exact congrArg SetTable.Probe.j (jmI t k I _ _ I none hk)
  have re:I≤SetTable.runEnd t.mask I:=by unfold SetTable.runEnd;split<;>omega
  split at e
  ·rename_i k hk
   injection e with e
   subst e
   obtain⟨a,b,c⟩:=List.find?_range_eq_some.mp hk
   have kl:=G0z.mp b
   refine⟨a,n+k,run k (by omega),fun m hm=> ?_⟩
   rcases G12 m n with z|z
   ·exact ne m z
   ·have:=c (m-n) (by omega)
    have r:=run (m-n) (by omega)
    rw [G2n z] at r
    show (owner.getD (jbk t m (t.probeStart h)).j (some 0)).isNone=false
    rw [r];simpa using this
  ·rename_i hk
   have none:=List.find?_eq_none.mp hk
   have nx:=jdc t _ (jhN t I (SetTable.bits h / 32^L) .none) rfl
   refine jis fuel (L+1) (n+(SetTable.runEnd t.mask I-I+1)) (j:=j) ?_ (fun m hm=> ?_) ?_
   ·rw [jdz,hn]
    refine nx.trans ?_
    show jhN t ((I*5+1+SetTable.bits h / 32^L / 32)%(t.mask+1)) (SetTable.bits h / 32^L / 32) .none=_
    rw [G2P,←G1Y,←hI];rfl
   ·rcases G12 m n with z|z
    ·exact ne m z
    ·have:=none (m-n) (G0z.mpr (by omega))
     have r:=run (m-n) (by omega)
     rw [G2n z] at r
     rw [r];exact Bool.eq_false_iff.mpr this
   ·rw [show SetTable.leap t.mask I (SetTable.bits h / 32^L)=((I*5+1+SetTable.bits h / 32^L / 32)%(t.mask+1),SetTable.bits h / 32^L / 32) from rfl] at e
    dsimp only at e
    rw [G2P,←G1Y,←hI] at e
    exact e
theorem jkR {t:SetTable} {owner:Array (Option Nat)} {h:Int} {k:Nat} (hN:t.mask+1=2^k) {e:Nat} (he:e≤t.mask) (em:(owner.getD e (some 0)).isNone=true): ∃j,SetTable.layClean.free t.mask owner (SetTable.turns t.mask) (SetTable.bits h%(t.mask+1)) (SetTable.bits h)=some j:=by
 obtain⟨m,hm,e1⟩:=jmF hN (a:=jgw (t.mask+1) (SetTable.bits h) 13) (G3c _ (G3F _)) (show e<t.mask+1 by omega)
 rw [←jgc h m] at e1
 have go: ∀ (fuel L:Nat),(∃L',L≤L' ∧L' <L+fuel∧jgw (t.mask+1) (SetTable.bits h) L' =e)→ ∃j,SetTable.layClean.free t.mask owner fuel (jgw (t.mask+1) (SetTable.bits h) L) (SetTable.bits h / 32^L)=some j:=by
  intro fuel
  induction fuel with
  |zero=>rintro L ⟨L',a,b,_⟩;omega
  |succ fuel ih=>
   rintro L ⟨L',a,b,c⟩
   unfold SetTable.layClean.free
   generalize hI:jgw (t.mask+1) (SetTable.bits h) L=I
   split
   ·rename_i k hk;exact⟨_,rfl⟩
   ·rename_i hk
    have none:=List.find?_eq_none.mp hk
    have ne:I≠e:=fun z=>by
     have re:I≤SetTable.runEnd t.mask I:=by unfold SetTable.runEnd;split<;>omega
     have:=none 0 (G0z.mpr (by omega))
     rw [G13,z] at this
     exact this em
    have lt:L+1≤L' :=by
     rcases G12 L L' with z|z
     ·exact z
     ·have:L=L' :=by omega
      subst this
      exact absurd (hI.symm.trans c) ne
    obtain⟨j,hj⟩:=ih (L+1) ⟨L',lt,by omega,c⟩
    refine⟨j,?_⟩
    rw [show SetTable.leap t.mask I (SetTable.bits h / 32^L)=((I*5+1+SetTable.bits h / 32^L / 32)%(t.mask+1),SetTable.bits h / 32^L / 32) from rfl]
    dsimp only
    rw [G2P,←G1Y,←hI]
    exact hj
 have:=go (SetTable.turns t.mask) 0 ⟨13+m,Nat.zero_le _,by unfold SetTable.turns;omega,e1⟩
 rw [G3E,G4H] at this
 exact this
def emO (owner:Array (Option Nat)) (x:Nat):Bool:=(owner.getD x (some 0)).isNone
theorem emO_iff {owner:Array (Option Nat)} {x:Nat}:emO owner x=true↔owner[x]? =some none:=by
 unfold emO
 rw [G2Z]
 cases owner[x]? with
 |none=>simp
 |some o=>cases o<;>simp
structure Own (t:SetTable) (hs:List Int) (owner:Array (Option Nat)) (k:Nat):Prop where
 size:owner.size=t.mask+1
 lt: ∀x i:Nat,owner[x]? =some (some i)→i<k
 inj: ∀x y i:Nat,owner[x]? =some (some i)→owner[y]? =some (some i)→x=y
 all: ∀i,i<k→ ∃x:Nat,owner[x]? =some (some i)
 way: ∀ (x i:Nat) (h:Int),owner[x]? =some (some i)→hs[i]? =some h→jr3 t (emO owner) h x
theorem Own.free {t:SetTable} {hs:List Int} {owner:Array (Option Nat)} {k:Nat} (o:Own t hs owner k) (room:k≤t.mask): ∃e,e≤t.mask∧emO owner e=true:=by
 refine G2v fun no=> ?_
 have got: ∀x,x<t.mask+1→ ∃i,owner[x]? =some (some i):=fun x hx=>by
  have hs' :x<owner.size:=by rw [o.size];exact hx
  cases e:owner[x]? with
  |none=>rw [G21] at e;omega
  |some v=>
   cases v with
   |none=>exact absurd ⟨x,by omega,emO_iff.mpr e⟩ no
   |some i=>exact⟨i,rfl⟩
 have gi: ∀x,x<t.mask+1→owner[x]? =some (some (((owner[x]?).getD none).getD 0)):=fun x hx=>by
  obtain⟨i,e⟩:=got x hx
  rw [e];rfl
 have nd:((List.range (t.mask+1)).map fun x=>((owner[x]?).getD none).getD 0).Nodup:=by
  rw [List.Nodup,G1n]
  refine G1k.mpr fun a b ha hb ab e=> ?_
  rw [G2S,G2S] at e
  rw [G0L] at ha hb
  have x1:=gi a ha
  have x2:=gi b hb
  rw [e] at x1
  have:=o.inj a b _ x1 x2
  omega
 have:=jgR (m:=List.range k) nd fun y hy=>by
  obtain⟨x,hx,rfl⟩:=G0N.mp hy
  exact G0z.mpr (o.lt x _ (gi x (G0z.mp hx)))
 rw [G0a,G0L,G0L] at this
 omega
theorem Own.step {t:SetTable} {hs:List Int} {owner:Array (Option Nat)} {k n:Nat} {h:Int} (hN:t.mask+1=2^n) (o:Own t hs owner k) (room:k≤t.mask) (hk:hs[k]? =some h): ∃j,SetTable.layClean.free t.mask owner (SetTable.turns t.mask) (SetTable.bits h%(t.mask+1)) (SetTable.bits h)=some j∧Own t hs (owner.setIfInBounds j (some k)) (k+1):=by
 obtain⟨e,he,em⟩:=o.free room
 obtain⟨j,hj⟩:=jkR (h:=h) hN he em
 have w:=jis (t:=t) (owner:=owner) (h:=h) (SetTable.turns t.mask) 0 0 (j:=j) (by rw [G3E,G4H];rfl) (fun m hm=>absurd hm (G2G _)) (by rw [G3E,G4H];exact hj)
 have jn:owner[j]? =some none:=emO_iff.mp w.1
 have js:j<owner.size:=(G1A.mp jn).1
 have at1: ∀x:Nat,(owner.setIfInBounds j (some k))[x]? =if j=x then some (some k) else owner[x]? :=fun x=>by
  rw [Array.getElem?_setIfInBounds]
  by_cases c:j=x
  ·rw [if_pos c,if_pos c,if_pos js]
  ·rw [if_neg c,if_neg c]
 have old: ∀x i:Nat,(owner.setIfInBounds j (some k))[x]? =some (some i)→(x=j∧i=k)∨(x≠j∧owner[x]? =some (some i)):=fun x i hx=>by
  rw [at1] at hx
  split at hx
  ·rename_i c;injection hx with hx;injection hx with hx;exact .inl ⟨c.symm,hx.symm⟩
  ·rename_i c;exact .inr ⟨Ne.symm c,hx⟩
 have emm: ∀x,emO owner x=false→emO (owner.setIfInBounds j (some k)) x=false:=fun x hx=>by
  refine Bool.eq_false_iff.mpr fun z=> ?_
  rw [emO_iff,at1] at z
  split at z
  ·cases z
  ·rw [emO_iff.mpr z] at hx;cases hx
 refine⟨j,hj,by rw [G3d];exact o.size,fun x i hx=> ?_,fun x y i hx hy=> ?_,fun i hi=> ?_,fun x i g hx hg=> ?_⟩
 ·rcases old x i hx with ⟨_,e⟩|⟨_,e⟩
  ·omega
  ·have:=o.lt x i e;omega
 ·rcases old x i hx with ⟨a,b⟩|⟨a,b⟩<;>rcases old y i hy with ⟨c,d⟩|⟨c,d⟩
  ·rw [a,c]
  ·have:=o.lt y i d;omega
  ·have:=o.lt x i b;omega
  ·exact o.inj x y i b d
 ·by_cases c:i=k
  ·exact⟨j,by rw [at1,if_pos rfl,c]⟩
  ·obtain⟨x,hx⟩:=o.all i (by omega)
   have ne: ¬j=x:=fun z=>by rw [←z,jn] at hx;cases hx
   exact⟨x,by rw [at1,if_neg ne];exact hx⟩
 ·rcases old x i hx with ⟨a,b⟩|⟨a,b⟩
  ·rw [b,hk] at hg
   injection hg with hg
   rw [a,←hg]
   obtain⟨m,p,q⟩:=w.2
   exact⟨m,p,fun m' hm=>emm _ (q m' hm)⟩
  ·obtain⟨m,p,q⟩:=o.way x i g b hg
   exact⟨m,p,fun m' hm=>emm _ (q m' hm)⟩
theorem jl4 (t:SetTable) (hs:List Int):Own t hs (Array.replicate (t.mask+1) none) 0:=by
 have no: ∀x i:Nat,(Array.replicate (t.mask+1) (none:Option Nat))[x]? ≠some (some i):=fun x i e=>by
  rw [Array.getElem?_replicate] at e
  split at e<;>cases e
 exact⟨Array.size_replicate,fun x i e=>absurd e (no x i),fun x y i e=>absurd e (no x i),fun i hi=>absurd hi (G2G _),fun x i h e=>absurd e (no x i)⟩
theorem jit {t:SetTable} {hs:List Int} {n:Nat} (hN:t.mask+1=2^n) (room:hs.length≤t.mask) {F:Option (Array (Option Nat)×Nat)→Int→Option (Array (Option Nat)×Nat)}
 (hF: ∀owner k h j,SetTable.layClean.free t.mask owner (SetTable.turns t.mask) (SetTable.bits h%(t.mask+1)) (SetTable.bits h)=some j→F (some (owner,k)) h=some (owner.setIfInBounds j (some k),k+1)): ∀ (rest:List Int) (k:Nat) (owner:Array (Option Nat)),Own t hs owner k→k≤hs.length→hs.drop k=rest→ ∃owner',rest.foldl F (some (owner,k))=some (owner',hs.length)∧Own t hs owner' hs.length
 | [],k,owner,o,kl,e=>by
  have:k=hs.length:=by have:=List.drop_eq_nil_iff.mp e;omega
  subst this
  exact⟨owner,rfl,o⟩
 |h::rest,k,owner,o,kl,e=>by
  have hk:hs[k]? =some h:=by
   have:(hs.drop k)[0]? =some h:=by rw [e];rfl
   rwa [G1p,G13] at this
  have lt:k<hs.length:=(G0k.mp hk).1
  obtain⟨j,hj,o'⟩:=o.step hN (by omega) hk
  have e2:hs.drop (k+1)=rest:=by rw [←List.tail_drop,e];rfl
  obtain⟨owner',a,b⟩:=jit hN room hF rest (k+1) _ o' lt e2
  exact⟨owner',by rw [G3P,hF _ _ _ _ hj];exact a,b⟩
theorem jl5 {t:SetTable} {hs:List Int} {n:Nat} (hN:t.mask+1=2^n) (room:hs.length≤t.mask) {F:Option (Array (Option Nat)×Nat)→Int→Option (Array (Option Nat)×Nat)}
 (hF: ∀owner k h j,SetTable.layClean.free t.mask owner (SetTable.turns t.mask) (SetTable.bits h%(t.mask+1)) (SetTable.bits h)=some j→F (some (owner,k)) h=some (owner.setIfInBounds j (some k),k+1)): ∃owner,(hs.foldl F (some (Array.replicate (t.mask+1) none,0))).map (·.1)=some owner∧Own t hs owner hs.length:=by
 obtain⟨owner,a,b⟩:=jit hN room hF hs 0 _ (jl4 t hs) (G06 _) rfl
 exact⟨owner,by rw [a];rfl,b⟩
theorem joi {t:SetTable} {hashes:Array Int} {n:Nat} (hN:t.mask+1=2^n) (room:hashes.size≤t.mask): ∃owner,SetTable.layClean t.mask hashes=some owner∧Own t hashes.toList owner hashes.toList.length:=by
 unfold SetTable.layClean
 rw [←Array.foldl_toList]
 refine jl5 hN (by rw [G0m];exact room) fun owner k h j hj=> ?_
 show (SetTable.layClean.free t.mask owner _ _ _).bind _=_
 rw [hj];rfl
theorem jhP {t:SetTable}: ∀ (n:Nat) (p:SetTable.Probe),p.j+p.more≤t.mask→(jbk t n p).j≤t.mask
 |0,p,h=>by show p.j≤t.mask;omega
 |n+1,p,h=>by
  refine jhP n (t.advance p) ?_
  unfold SetTable.advance
  split
  ·show p.j+1+(p.more-1)≤t.mask;omega
  ·have:(p.i*5+1+p.perturb / 32)%(t.mask+1)<t.mask+1:=G3c _ (G3F _)
   show (p.i*5+1+p.perturb / 32)%(t.mask+1)+(SetTable.runEnd t.mask ((p.i*5+1+p.perturb / 32)%(t.mask+1))-(p.i*5+1+p.perturb / 32)%(t.mask+1))≤t.mask
   unfold SetTable.runEnd
   split<;>omega
theorem jha (t:SetTable) (h:Int):(t.probeStart h).j+(t.probeStart h).more≤t.mask:=by
 have:SetTable.bits h%(t.mask+1)<t.mask+1:=G3c _ (G3F _)
 show SetTable.bits h%(t.mask+1)+(SetTable.runEnd t.mask (SetTable.bits h%(t.mask+1))-SetTable.bits h%(t.mask+1))≤t.mask
 unfold SetTable.runEnd
 split<;>omega
theorem jqM {T0 T' :SetTable} {E:Nat→Bool} {h:Int} {j:Nat} (em:T0.mask=T'.mask) (f: ∀y,y≤T0.mask→E y=false→T'.slot y≠ .empty) (w:jr3 T0 E h j):Way T' h j:=by
 obtain⟨n,a,b⟩:=w
 refine⟨n,by rw [←jcZ em,←jcN em];exact a,fun m hm=> ?_⟩
 rw [←jcZ em,←jcN em]
 exact f _ (jhP m _ (jha T0 h)) (b m hm)
theorem joj {mask finger moves n:Nat} {led plain:Bool} {hashes:Array Int} (hN:mask+1=2^n) (h7:7≤mask) (room:hashes.size≤mask): ∃t' order,SetTable.laid mask finger moves led plain hashes=some (t',order)∧t'.mask=mask∧t'.led=led∧t'.plain=plain∧order.toList.Perm (List.range hashes.size)∧Laid t' (order.toList.map fun i=>hashes.toList.getD i 0):=by
 obtain⟨T0,hm⟩: ∃T0:SetTable,T0.mask=mask:=⟨{SetTable.fresh 0 0 true with mask:=mask},rfl⟩
 subst hm
 obtain⟨owner,ho,own⟩:=joi (t:=T0) (hashes:=hashes) hN room
 unfold SetTable.laid
 rw [ho]
 refine⟨_,_,rfl,rfl,rfl,rfl,?_⟩
 generalize hl:((List.range (T0.mask+1)).filterMap fun j=>(owner.getD j none).map (j,·))=live
 have osz:owner.size=T0.mask+1:=own.size
 have mem: ∀x i:Nat,(x,i)∈live↔owner[x]? =some (some i):=fun x i=>by
  rw [←hl,G2s]
  constructor
  ·rintro ⟨j,hj,e⟩
   rw [G2Z] at e
   cases z:owner[j]? with
   |none=>rw [z] at e;cases e
   |some v=>
    rw [z] at e
    cases v with
    |none=>cases e
    |some w=>cases e;exact z
  ·intro e
   have lt:x<owner.size:=(G1A.mp e).1
   refine⟨x,G0z.mpr (by omega),?_⟩
   rw [G2Z,e];rfl
 have sub:(live.map (·.1)).Sublist (List.range (T0.mask+1)):=by rw [←hl];exact HT.jd8 _ _
 have rise:(live.map (·.1)).Pairwise (· < ·):=List.pairwise_lt_range.sublist sub
 have nd:(live.map (·.2)).Nodup:=by
  rw [List.Nodup,G1n]
  rw [G1n] at rise
  refine rise.imp_of_mem fun {a b} ha hb lt e=> ?_
  have:=own.inj a.1 b.1 a.2 ((mem _ _).mp ha) (by rw [e];exact(mem _ _).mp hb)
  omega
 have len0:hashes.toList.length=hashes.size:=G0m
 have pm:(live.map (·.2)).Perm (List.range hashes.size):=by
  refine(List.perm_ext_iff_of_nodup nd List.nodup_range).mpr fun i=> ?_
  rw [G0z]
  constructor
  ·intro h
   obtain⟨⟨x,i'⟩,a,rfl⟩:=G0N.mp h
   have:=own.lt x i' ((mem _ _).mp a)
   omega
  ·intro h
   obtain⟨x,hx⟩:=own.all i (by omega)
   exact G0N.mpr ⟨(x,i),(mem _ _).mpr hx,rfl⟩
 have ll:live.length=hashes.size:=by have:=pm.length_eq;rwa [G0a,G0L] at this
 refine⟨pm,⟨n,hN⟩,h7,rfl,rise,?_,?_,fun i j hj=> ?_,fun i h x hh hx=> ?_⟩
 ·simp
 ·show _≤T0.mask
  simp only [G0a]
  omega
 ·have hj:(live.map (·.1))[i]? =some j:=by simpa using hj
  have:=G0z.mp (sub.subset (G0i hj))
  show j≤T0.mask
  omega
 ·have hx:(live.map (·.1))[i]? =some x:=by simpa using hx
  have hh:((live.map (·.2)).map fun i=>hashes.toList.getD i 0)[i]? =some h:=hh
  rw [G0o] at hx
  obtain⟨⟨x',i'⟩,e1,e2⟩:=G1I.mp hx
  have e2:x' =x:=e2
  subst e2
  rw [G0o,G0o,e1] at hh
  have hh:hashes.toList.getD i' 0=h:=by injection hh
  have ow:=(mem _ _).mp (G0i e1)
  have lt:=own.lt _ _ ow
  have hg:hashes.toList[i']? =some h:=by
   rw [←hh,G0M,G0c lt];rfl
  refine jqM (T0:=T0) rfl (fun y hy hb z=> ?_) (own.way _ _ _ ow hg)
  rw [jdA rfl rise] at z
  cases e:owner[y]? with
  |none=>rw [G21] at e;omega
  |some v=>
   cases v with
   |none=>rw [emO_iff.mpr e] at hb;cases hb
   |some w=>
    obtain⟨i2,h2⟩:=G2i (G0N.mpr ⟨(y,w),(mem _ _).mpr e,rfl⟩:y∈live.map (·.1))
    exact z i2 (by simpa using h2)
theorem Laid.stands {t:SetTable} {hs:List Int} (l:Laid t hs):t.gaveWay=false:=by
 obtain⟨k,hk⟩:=l.pow
 have b:=l.big
 cases k with
 |zero=>rw [G3E] at hk;omega
 |succ k=>
  rw [G1Y] at hk
  unfold SetTable.gaveWay
  refine beq_false_of_ne ?_
  omega
theorem jiu: ∀ (fuel k n:Nat),3≤k→ ∃m,3≤m∧SetTable.sizeAbove.go n fuel (2^k)=2^m∧(n<2^(k+fuel)→n<2^m)
 |0,k,n,h=>⟨k,h,rfl,fun z=>z⟩
 |fuel+1,k,n,h=>by
  unfold SetTable.sizeAbove.go
  by_cases c:2^k≤n
  ·rw [if_pos c,←G1Y]
   obtain⟨m,a,b,d⟩:=jiu fuel (k+1) n (by omega)
   exact⟨m,a,b,fun z=>d (by rw [Nat.add_right_comm,G4l];exact z)⟩
  ·rw [if_neg c]
   exact⟨k,h,rfl,fun _=>by omega⟩
theorem above {n:Nat} (h:n<2^67): ∃m,SetTable.sizeAbove n=2^m∧n<SetTable.sizeAbove n∧8≤SetTable.sizeAbove n:=by
 obtain⟨m,a,b,c⟩:=jiu 64 3 n (by decide)
 have b:SetTable.sizeAbove n=2^m:=b
 refine⟨m,b,by rw [b];exact c h,?_⟩
 rw [b]
 exact Nat.pow_le_pow_right (show 0<2 by decide) a
end L2
namespace L2
open PySem PySem.Spec PyProof.Rows HT
variable {prog:Program} {w:World} {A:Around} {E:Value→Shared→Prop} {s:Shared} {a:Addr} {es:Array (Int×Value)} {ep:Nat} {t:SetTable}
theorem Laid.fits {hs:List Int} (l:Laid t hs) {n:Nat} (e:hs.length=n):t.fits n=true:=by
 have a:=l.size
 have b:=l.room
 have c:=l.dum
 simp only [SetTable.fits,SetTable.fill,G0Z,G28,G17,c]
 simp
 omega
theorem jiv (t:SetTable):t.sameMemory t.moves t.mask=some true:=by
 unfold SetTable.sameMemory
 rw [if_pos (G2d _)]
theorem jiw {b:Addr} {Q:Bool→Shared→Prop} (q:Q true s):wpAny (model prog w) A (isSame (.ref b) (.ref b)) Q E s:=by
 unfold isSame
 dsimp only
 rw [if_pos (G2d _)]
 exact G0e q
set_option maxHeartbeats 4000000 in
theorem jhQ {Q:SetFound→Shared→Prop} {x:Value} {h:Int} {n:Nat} {eqk:Nat→Bool} (l:Laid t (es.toList.map (·.1))) (ho:s.heap.get? a=some (jbA es ep t))
 (refs: ∀ (i:Nat) (y:Value),es[i]? =some (h,y)→ ∃b,y= .ref b)
 (seen: ∀Q' :Bool→Shared→Prop,Q' false s→wpAny (model prog w) A (searchCouldBeSeen x ((es.filter (·.1==h)).toList.map (·.2))) Q' E s)
 (cmp: ∀ (i:Nat) (y:Value),es[i]? =some (h,y)→ ∀Q' :Bool→Shared→Prop,Q' (eqk i) s→wpAny (model prog w) A (holding [y] (eqBool y x)) Q' E s)
 (em:t.slot (jbk t n (t.probeStart h)).j= .empty) (nb:n<10*SetTable.turns t.mask) (ne: ∀m,m<n→t.slot (jbk t m (t.probeStart h)).j≠ .empty)
 (free:(∀m i,m<n→t.slot (jbk t m (t.probeStart h)).j= .live i→(es[i]?.map (·.1)).getD 0=h→eqk i=false)→Q (.free (jbk t n (t.probeStart h)).j false) s)
 (there: ∀ (i:Nat) (y:Value),es[i]? =some (h,y)→eqk i=true→Q (.there none) s):
 ∀ (r k fuel:Nat) (stand:Option SetTable.Probe),k+r=n→r<fuel→stand.getD (t.probeStart h)=jbk t k (t.probeStart h)→(∀m i,m<k→t.slot (jbk t m (t.probeStart h)).j= .live i→(es[i]?.map (·.1)).getD 0=h→eqk i=false)→
  wpAny (model prog w) A (setSearchFrom a x h true fuel stand) Q E s:=by
 intro r
 induction r using Nat.strongRecOn with
 |ind r ih=>
 intro k fuel stand kr rf st old
 obtain⟨fuel,rfl⟩: ∃f,fuel=f+1:=⟨fuel-1,by omega⟩
 have fit:t.fits es.size=true:=l.fits (by rw [G0a,G0m])
 unfold setSearchFrom
 refine wpAny_bind (G1m ho rfl fit ?_)
 dsimp only
 rw [l.stands]
 simp only [G1o,↓reduceIte]
 have ad: ∀m,jbk t m (jbk t k (t.probeStart h))=jbk t (k+m) (t.probeStart h):=fun m=>(jdz t k m _).symm
 have dn: ∀ (m:Nat) (p:SetTable.Probe),p.dummy=none→(jbk t m p).dummy=none:=fun m=>by
  induction m with
  |zero=>exact fun p hp=>hp
  |succ m ihm=>exact fun p hp=>ihm _ (by unfold SetTable.advance;split<;>exact hp)
 have out:=jmG (f:=fun i=>(es[i]?.map (·.1)).getD 0) (h:=h) l.dum r (10*SetTable.turns t.mask) (jbk t k (t.probeStart h)) (by omega) (by rw [ad,kr];exact em) (fun m hm=>by rw [ad];exact ne _ (by omega)) (dn _ _ rfl)
 have e0:t.probe (fun i=>(es[i]?.map (·.1)).getD 0) h (stand.getD (t.probeStart h))=SetTable.probe.go t (fun i=>(es[i]?.map (·.1)).getD 0) h (10*SetTable.turns t.mask) (jbk t k (t.probeStart h)):=by rw [st];rfl
 rw [←e0] at out
 split
 ·rename_i met hmet
  have hmet:t.probe (fun i=>(es[i]?.map (·.1)).getD 0) h (stand.getD (t.probeStart h))=some met:=hmet
  rw [hmet] at out
  rcases out with ⟨e,no⟩|⟨m,i,mr,sl,hi,no,e⟩
  ·injection e with e
   subst e
   dsimp only
   refine G0e ?_
   rw [ad,kr]
   refine free fun m i hm sl hi=> ?_
   rcases G12 m k with z|z
   ·exact old m i z sl hi
   ·refine absurd hi (no (m-k) (by omega) i ?_)
    rw [ad,G2n z];exact sl
  ·injection e with e
   subst e
   dsimp only
   obtain⟨y,ei⟩: ∃y,es[i]? =some (h,y):=by
    obtain⟨lt,_⟩:=G1A.mp (jkO sl)
    have sz:i<es.size:=by have:=l.size;rw [G0a,G0m] at this;omega
    rw [G19 sz] at hi ⊢
    have hi:es[i].1=h:=hi
    exact⟨es[i].2,by rw [←hi]⟩
   cases hl:t.led
   ·simp only [Bool.not_false,↓reduceIte]
    refine wpAny_bind (seen _ ?_)
    simp only [G1o,↓reduceIte]
    rw [ei]
    dsimp only
    refine wpAny_bind (cmp i y ei _ ?_)
    refine wpAny_bind (G1m ho rfl fit ?_)
    dsimp only
    cases ek:eqk i with
    |true=>simp only [G4M,↓reduceIte];exact G0e (there i y ei ek)
    |false=>
     simp only [G3y,G1o,↓reduceIte,jiv,sl,ei]
     obtain⟨b,rfl⟩:=refs i y ei
     refine wpAny_bind (jiw ?_)
     refine wpAny_bind (G0e ?_)
     simp only [↓reduceIte]
     refine ih (r-(m+1)) (by omega) (k+(m+1)) fuel (some _) (by omega) (by omega) (by show jbk t (m+1) _=_;rw [ad]) (fun m' i' hm' sl' hi' => ?_)
     rcases G12 m' k with z|z
     ·exact old m' i' z sl' hi'
     ·have e1:jbk t m' (t.probeStart h)=jbk t (m' -k) (jbk t k (t.probeStart h)):=by rw [ad,G2n z]
      rw [e1] at sl'
      rcases G12 (m' -k) m with y|y
      ·exact absurd hi' (no (m' -k) y i' sl')
      ·have e2:m' -k=m:=by omega
       rw [e2,sl] at sl'
       injection sl' with sl'
       rw [←sl'];exact ek
   ·simp only [Bool.not_true,G1o,↓reduceIte]
    rw [ei]
    dsimp only
    refine wpAny_bind (cmp i y ei _ ?_)
    refine wpAny_bind (G1m ho rfl fit ?_)
    dsimp only
    cases ek:eqk i with
    |true=>simp only [G4M,↓reduceIte];exact G0e (there i y ei ek)
    |false=>
     simp only [G3y,G1o,↓reduceIte,jiv,sl,ei]
     obtain⟨b,rfl⟩:=refs i y ei
     refine wpAny_bind (jiw ?_)
     refine wpAny_bind (G0e ?_)
     simp only [↓reduceIte]
     refine ih (r-(m+1)) (by omega) (k+(m+1)) fuel (some _) (by omega) (by omega) (by show jbk t (m+1) _=_;rw [ad]) (fun m' i' hm' sl' hi' => ?_)
     rcases G12 m' k with z|z
     ·exact old m' i' z sl' hi'
     ·have e1:jbk t m' (t.probeStart h)=jbk t (m' -k) (jbk t k (t.probeStart h)):=by rw [ad,G2n z]
      rw [e1] at sl'
      rcases G12 (m' -k) m with y|y
      ·exact absurd hi' (no (m' -k) y i' sl')
      ·have e2:m' -k=m:=by omega
       rw [e2,sl] at sl'
       injection sl' with sl'
       rw [←sl'];exact ek
 ·rename_i hmet
  rcases out with ⟨e,_⟩|⟨_,_,_,_,_,_,e⟩<;>exact(hmet _ e).elim
theorem ji7 {Q:SetFound→Shared→Prop} {x:Value} {h:Int} {eqk:Nat→Bool} (l:Laid t (es.toList.map (·.1))) (few:t.mask≤9000) (ho:s.heap.get? a=some (jbA es ep t))
 (refs: ∀ (i:Nat) (y:Value),es[i]? =some (h,y)→ ∃b,y= .ref b)
 (seen: ∀Q' :Bool→Shared→Prop,Q' false s→wpAny (model prog w) A (searchCouldBeSeen x ((es.filter (·.1==h)).toList.map (·.2))) Q' E s)
 (cmp: ∀ (i:Nat) (y:Value),es[i]? =some (h,y)→ ∀Q' :Bool→Shared→Prop,Q' (eqk i) s→wpAny (model prog w) A (holding [y] (eqBool y x)) Q' E s)
 (free: ∀j,(∀ (i:Nat) (y:Value),es[i]? =some (h,y)→eqk i=false)→t.slot j= .empty→j≤t.mask→Way t h j→Q (.free j false) s)
 (there: ∀ (i:Nat) (y:Value),es[i]? =some (h,y)→eqk i=true→Q (.there none) s):wpAny (model prog w) A (setSearch a x h true) Q E s:=by
 obtain⟨n,nb,em,ne,met⟩:=l.search h
 refine jhQ l ho refs seen cmp em nb ne (fun al=>free _ (fun i y e=> ?_) em (jhP n _ (jha t h)) ⟨n,rfl,ne⟩) there n 0 100000 none (Nat.zero_add n) (by unfold SetTable.turns at nb;omega) rfl (fun m i hm=>absurd hm (Nat.not_lt_zero _))
 have e1:(es.toList.map (·.1))[i]? =some h:=by
  rw [G0o,G0K,e];rfl
 obtain⟨m,hm,sl⟩:=met i e1
 exact al m i hm sl (by rw [e];rfl)
theorem Laid.plain {hs:List Int} (l:Laid t hs) (b:Bool):Laid {t with plain:=b} hs:=
 ⟨l.pow,l.big,l.dum,l.rise,l.size,l.room,l.low,fun i h j x y=>Way.more (t:=t) (u:= {t with plain:=b}) rfl (fun _ z=>z) (l.way i h j x y)⟩
theorem ji8 (es:Array (Int×Value)) (h:Int) (x:Value) (p:Nat):(SetTable.insertAt es p (h,x)).toList.map (·.1)=(es.toList.map (·.1)).take p++h::(es.toList.map (·.1)).drop p:=by
 rw [G3b,G0S,G0G,G4I,G4J]
theorem jiy: ∀ (fuel k n:Nat),SetTable.sizeAbove.go n fuel (2^k)≤2^k∨SetTable.sizeAbove.go n fuel (2^k)≤2*n
 |0,k,n=> .inl (G0f _)
 |fuel+1,k,n=>by
  unfold SetTable.sizeAbove.go
  by_cases c:2^k≤n
  ·rw [if_pos c,←G1Y]
   rcases jiy fuel (k+1) n with z|z
   ·refine .inr (G0C z ?_)
    rw [G1Y];omega
   ·exact .inr z
  ·rw [if_neg c];exact .inl (G0f _)
theorem jhR {hashes:Array Int} {w:Nat} (hw:hashes.size≤w) (few:w≤40000):SetTable.sizeAbove w≤80008∧ ∃t' order,t.relaid hashes w=some (t',order)∧t'.led=t.led∧w≤t'.mask∧t'.mask≤2*w+8∧order.toList.Perm (List.range hashes.size)∧Laid t' (order.toList.map fun i=>hashes.toList.getD i 0):=by
 obtain⟨m,a,b,c⟩:=above (n:=w) (by omega)
 have u:SetTable.sizeAbove w≤8∨SetTable.sizeAbove w≤2*w:=jiy 64 3 w
 refine⟨by omega,?_⟩
 obtain⟨t',order,x,mk,y,z,p,q⟩:=joj (mask:=SetTable.sizeAbove w-1) (finger:=t.finger) (moves:=t.movedTo (SetTable.sizeAbove w-1)) (led:=t.led) (plain:=t.plain) (hashes:=hashes) (n:=m) (by rw [←a];omega) (by omega) (by omega)
 exact⟨t',order,x,y,by rw [mk];omega,by rw [mk];omega,p,q⟩
set_option maxHeartbeats 4000000 in
theorem jkS {Q:Unit→Shared→Prop} {wd:Nat} (l:Laid t (es.toList.map (·.1))) (ho:s.heap.get? a=some (jbA es ep t)) (hw:es.size≤wd) (few:wd≤40000)
 (k: ∀es' t' h',es'.toList.Perm es.toList→Laid t' (es'.toList.map (·.1))→t'.led=t.led→wd≤t'.mask→t'.mask≤2*wd+8→h'.get? a=some (jbA es' (ep+1) t')→Heap.SameBut a s.heap h' →Q () {s with heap:=h'}):wpAny (model prog w) A (setRelay a wd) Q E s:=by
 have fit:t.fits es.size=true:=l.fits (by rw [G0a,G0m])
 obtain⟨up,t',order,er,ld,m1,m2,pm,l'⟩:=jhR (t:=t) (hashes:=es.map (·.1)) (w:=wd) (by rw [Array.size_map];exact hw) few
 unfold setRelay
 refine wpAny_bind (G1m ho rfl fit ?_)
 dsimp only
 rw [er]
 have sl: ¬SetTable.sizeAbove wd>sizeLine:=G2r.mpr (G0C up (by decide))
 simp only [sl,↓reduceIte]
 have fe: ∀l:List Nat,(∀i∈l,i<es.size)→l.filterMap (fun i=>es[i]?)=l.map (fun i=>es.toList.getD i (0,.none)):=fun l=>by
  induction l with
  |nil=>exact fun _=>rfl
  |cons i l ih=>
   intro h
   have hi:=h i G0t
   have e:es[i]? =some (es.toList.getD i (0,.none)):=by
    rw [G0M,G0K,G19 hi];rfl
   rw [List.filterMap_cons_some e,G0G,ih fun x hx=>h x (G0y _ hx)]
 rw [Array.size_map] at pm
 have lt: ∀i∈order.toList,i<es.size:=fun i hi=>G0z.mp (pm.mem_iff.mp hi)
 have e1:(order.filterMap (es[·]?)).toList=order.toList.map (fun i=>es.toList.getD i (0,.none)):=by
  rw [Array.toList_filterMap];exact fe _ lt
 have e2:es.toList=(List.range es.size).map (fun i=>es.toList.getD i (0,.none)):=by
  have:=jdm es.toList (0,(.none:Value))
  rwa [G0m] at this
 have pe:(order.filterMap (es[·]?)).toList.Perm es.toList:=by
  have:=pm.map (fun i=>es.toList.getD i (0,.none))
  rw [←e2] at this
  rw [e1];exact this
 have sz:(order.filterMap (es[·]?)).size=es.size:=by have:=pe.length_eq;rwa [G0m,G0m] at this
 have hh:(order.filterMap (es[·]?)).toList.map (·.1)=order.toList.map fun i=>(es.map (·.1)).toList.getD i 0:=by
  rw [e1,G1d]
  refine G1u fun i hi=> ?_
  show (es.toList.getD i (0,.none)).1=(es.map (·.1)).toList.getD i 0
  have z:i<es.toList.length:=by rw [G0m];exact lt i hi
  rw [Array.toList_map,G0M,G0M,G0o,G0c z];rfl
 rw [←hh] at l'
 refine wpAny_bind ?_
 show wpAny _ _ (ite _ _ _) _ _ _
 rw [if_neg (by rw [sz];simp)]
 refine G0e ?_
 dsimp only
 exact G4b (s:=s) ho rfl (k _ t' _ pe l' ld m1 m2 (G02 _ ho rfl) (G08 ..)) (by rw [sz];exact G0C (show es.size≤40000 by omega) (by decide))
set_option maxHeartbeats 4000000 in
theorem jok {Q:Bool→Shared→Prop} {b:Addr} {h:Int} {eqk:Nat→Bool} {bv:Bool} {fuel:Nat} (l:Laid t (es.toList.map (·.1))) (few:t.mask≤9000) (lean:es.size*5<t.mask*3) (ho:s.heap.get? a=some (jbA es ep t))
 (refs: ∀ (i:Nat) (y:Value),es[i]? =some (h,y)→ ∃b,y= .ref b)
 (seen: ∀Q' :Bool→Shared→Prop,Q' false s→wpAny (model prog w) A (searchCouldBeSeen (.ref b) ((es.filter (·.1==h)).toList.map (·.2))) Q' E s)
 (cmp: ∀ (i:Nat) (y:Value),es[i]? =some (h,y)→ ∀Q' :Bool→Shared→Prop,Q' (eqk i) s→wpAny (model prog w) A (holding [y] (eqBool y (.ref b))) Q' E s)
 (byv: ∀Q' :Bool→Shared→Prop,Q' bv s→wpAny (model prog w) A (hashByValue 8 (.ref b)) Q' E s)
 (new:(∀ (i:Nat) (y:Value),es[i]? =some (h,y)→eqk i=false)→ ∀es' ep' t' h',es'.toList.Perm (es.push (h,.ref b)).toList→Laid t' (es'.toList.map (·.1))→t'.mask≤max t.mask (8*es.size+16)→es'.size*5<t'.mask*3→t'.led=t.led→h'.get? a=some (jbA es' ep' t')→Heap.SameBut a s.heap h' →Q true {s with heap:=h'})
 (there: ∀ (i:Nat) (y:Value),es[i]? =some (h,y)→eqk i=true→Q false s):wpAny (model prog w) A (setAddHashedIn a (.ref b) h (fuel+1)) Q E s:=by
 have fit:t.fits es.size=true:=l.fits (by rw [G0a,G0m])
 have sz:(es.toList.map (·.1)).length=es.size:=by rw [G0a,G0m]
 unfold setAddHashedIn
 refine wpAny_bind (G1m ho rfl fit ?_)
 dsimp only
 rw [show byScan (.ref b) es=false from rfl]
 simp only [G1o,↓reduceIte]
 refine wpAny_bind (ji7 (eqk:=eqk) l few ho refs seen cmp (fun j no em jm wy=> ?_) (fun i y e ek=> ?_))
 ·dsimp only
  refine wpAny_bind (G1m ho rfl fit ?_)
  dsimp only
  have l1:=l.put em jm wy (by rw [sz];have:=l.big;omega)
  have l1:=(congrArg (Laid (t.put j).1) (ji8 es h (.ref b) (t.put j).2)).mpr l1
  have z0:(SetTable.insertAt es (t.put j).2 (h,.ref b)).size=es.size+1:=by
   have:=(G3s es (t.put j).2 (h,(.ref b:Value))).length_eq
   rw [G0m,G0m,Array.size_push] at this
   exact this
  have z1:(SetTable.insertAt es (t.put j).2 (h,.ref b)).size≤sizeLine:=by
   rw [z0];exact G0C (show es.size+1≤10000 by omega) (by decide)
  have rest: ∀t2:SetTable,Laid t2 ((SetTable.insertAt es (t.put j).2 (h,.ref b)).toList.map (·.1))→t2.led=t.led→t2.mask=t.mask→wpAny (model prog w) A (do storeSet a (SetTable.insertAt es (t.put j).2 (h,.ref b)) t2;if (!false&&t2.tooFull)=true then (do setRelay a (SetTable.grown (es.size+1));pure true) else pure true) Q E s:=fun t2 l2 ld mk=>by
   refine wpAny_bind (G4b (s:=s) ho rfl ?_ z1)
   have o1:(s.heap.update a (Obj.putSet (SetTable.insertAt es (t.put j).2 (h,.ref b)) t2)).get? a=some (jbA (SetTable.insertAt es (t.put j).2 (h,.ref b)) (ep+1) t2):=G02 _ ho rfl
   cases tf:t2.tooFull with
   |true=>
    simp only [Bool.not_false,G4M,↓reduceIte]
    refine wpAny_bind (jkS (wd:=SetTable.grown (es.size+1)) (ep:=ep+1) l2 o1 (by rw [z0];unfold SetTable.grown;split<;>omega) (by unfold SetTable.grown;split<;>omega) fun es' t' h' pe l' ld' m1 m2 o2 sb=> ?_)
    refine G0e (new no es' (ep+1+1) t' h' (pe.trans (G3s ..)) l' ?_ ?_ (ld'.trans ld) o2 (Heap.SameBut.trans (G08 ..) sb))
    ·unfold SetTable.grown at m2;split at m2<;>omega
    ·have:=pe.length_eq
     rw [G0m,G0m,z0] at this
     unfold SetTable.grown at m1;split at m1<;>omega
   |false=>
   simp only [G3y,G1o,↓reduceIte]
   refine G0e (new no _ (ep+1) t2 _ (G3s ..) l2 (by omega) ?_ ld (G02 _ ho rfl) (G08 ..))
   rw [z0]
   have s2:=l2.size
   rw [G0a,G0m,z0] at s2
   have: ¬ (t2.fill*5≥t2.mask*3):=by simpa [SetTable.tooFull] using tf
   have f2:t2.fill=es.size+1:=by unfold SetTable.fill;rw [l2.dum,s2];rfl
   omega
  cases hp:(t.put j).1.plain
  ·simp only [G1o,↓reduceIte]
   refine wpAny_bind (G0e ?_)
   simp only [↓reduceIte]
   exact rest (t.put j).1 l1 rfl rfl
  ·simp only [↓reduceIte]
   refine wpAny_bind (byv _ ?_)
   cases bv
   ·simp only [G1o,↓reduceIte]
    exact rest _ (l1.plain false) rfl rfl
   ·simp only [↓reduceIte]
    exact rest (t.put j).1 l1 rfl rfl
 ·exact G0e (there i y e ek)
end L2
namespace L2
open PySem PySem.Spec PyProof.Rows HT
def jol (h h' :Heap):Prop:= ∀ (b:Addr) (o:Obj),o.cls= .type "tuple" →h.get? b=some o→h'.get? b=some o
theorem jgd {α β:Type} {M:Model} {A:Around} {E:Value→Shared→Prop} {s:Shared} {f:α→β→Sem (ForInStep β)} {r:β} {Q:β→Shared→Prop}: ∀ (l:List α),(∀x∈l,∀Q' :ForInStep β→Shared→Prop,Q' (.yield r) s→wpAny M A (f x r) Q' E s)→Q r s→wpAny M A (forIn l r f) Q E s
 | [],_,q=>G0e q
 |x::l,h,q=>by
  rw [G3k]
  exact wpAny_bind (h x (.head _) _ (jgd l (fun y hy=>h y (.tail _ hy)) q))
structure MemK (prog:Program) (w:World) (K:Type) [DecidableEq K] where
 is:Heap→K→Addr→Prop
 hash:K→Int
 inj: ∀ {h:Heap} {x y:K} {a:Addr},is h x a→is h y a→x=y
 keep: ∀ {h h' :Heap} {x:K} {a:Addr},jol h h' →is h x a→is h' x a
 hashed: ∀ {A:Around} {E:Value→Shared→Prop} {s:Shared} {x:K} {a:Addr} {Q:Int→Shared→Prop},A.units+8<cLine→is s.heap x a→(∀tk,Q (hash x) {s with toks:=tk})→wpAny (model prog w) A (pyHash (.ref a)) Q E s
 same: ∀ {A:Around} {E:Value→Shared→Prop} {s:Shared} {x y:K} {a b:Addr} {Q:Bool→Shared→Prop},A.units+8<cLine→is s.heap x a→is s.heap y b→Q (decide (x=y)) s→wpAny (model prog w) A (eqBool (.ref a) (.ref b)) Q E s
 quiet: ∀ {A:Around} {E:Value→Shared→Prop} {s:Shared} {x:K} {a:Addr} {Q:Bool→Shared→Prop},is s.heap x a→Q true s→wpAny (model prog w) A (eqIsQuiet 8 (.ref a)) Q E s
 cls: ∀ {A:Around} {E:Value→Shared→Prop} {s:Shared} {x:K} {a:Addr} {Q:Bool→Shared→Prop},is s.heap x a→Q false s→wpAny (model prog w) A (ofAClassStatement 8 (.ref a)) Q E s
 byv: ∀ {A:Around} {E:Value→Shared→Prop} {s:Shared} {x:K} {a:Addr} {Q:Bool→Shared→Prop},is s.heap x a→Q true s→wpAny (model prog w) A (hashByValue 8 (.ref a)) Q E s
section
variable {prog:Program} {w:World} {A:Around} {E:Value→Shared→Prop} {s:Shared} {K:Type} [DecidableEq K]
theorem jom (M:MemK prog w K) {x:K} {a:Addr} {stored:List Value} {Q:Bool→Shared→Prop} (hx:M.is s.heap x a) (hs: ∀y∈stored,∃k b,y= .ref b∧M.is s.heap k b) (q:Q false s):wpAny (model prog w) A (searchCouldBeSeen (.ref a) stored) Q E s:=by
 unfold searchCouldBeSeen
 refine wpAny_bind (jgd stored (fun y hy Q' q' => ?_) (G0e q))
 obtain⟨k,b,rfl,hk⟩:=hs y hy
 by_cases c:(a==b)=true
 ·simp only [c,Bool.true_or,↓reduceIte]
  exact G0e q'
 ·simp only [c,show carriedByValue (.ref a)=false from rfl,Bool.false_and,Bool.or_false,G1o,↓reduceIte]
  refine wpAny_bind (M.quiet hx (wpAny_bind (M.quiet hk (wpAny_bind (M.cls hx (wpAny_bind (M.cls hk ?_)))))))
  exact G0e q'
structure SetT (M:MemK prog w K) (L:Bool) (is:K→Addr→Prop) (f:Int×Value→K) (es:Array (Int×Value)) (t:SetTable) (ks:List K):Prop where
 laid:Laid t (es.toList.map (·.1))
 led:t.led=L
 lean:es.size*5<t.mask*3
 mask:t.mask≤8*ks.length+16
 each: ∀e∈es.toList,e.1=M.hash (f e)∧ ∃b,e.2= .ref b∧is (f e) b
 nd:(es.toList.map f).Nodup
 mem: ∀k,k∈es.toList.map f↔k∈ks
theorem jeQ: ∀ {xs ys:List K},xs.Nodup→(∀x∈xs,x∈ys)→xs.length≤ys.length
 | [],_,_,_=>G06 _
 |x::xs,ys,nd,h=>by
  obtain⟨n1,n2⟩:=G1M.mp nd
  have le:=jeQ (ys:=ys.erase x) n2 fun y hy=>(G2x (fun (e:y=x)=>n1 (by rw [←e];exact hy))).mpr (h y (.tail _ hy))
  rw [G2c (h x (.head _))] at le
  have pos:=G2p (h x (.head _))
  rw [G0h]
  omega
theorem SetT.size {M:MemK prog w K} {L:Bool} {is:K→Addr→Prop} {f:Int×Value→K} {es:Array (Int×Value)} {t:SetTable} {ks:List K} (S:SetT M L is f es t ks):es.size≤ks.length:=by
 have:=jeQ S.nd fun k hk=>(S.mem k).mp hk
 rwa [G0a,G0m] at this
theorem SetT.tab {M:MemK prog w K} {L:Bool} {is:K→Addr→Prop} {f:Int×Value→K} {es:Array (Int×Value)} {t:SetTable} {ks:List K} (S:SetT M L is f es t ks):Tab L es.size t:=
 ⟨S.laid.fits (by rw [G0a,G0m]),S.led,S.laid.dum,fun _=>S.laid.rise⟩
theorem SetT.imp {M:MemK prog w K} {L:Bool} {is is' :K→Addr→Prop} {f:Int×Value→K} {es:Array (Int×Value)} {t:SetTable} {ks:List K} (S:SetT M L is f es t ks) (h: ∀k b,is k b→is' k b):SetT M L is' f es t ks:=
 ⟨S.laid,S.led,S.lean,S.mask,fun e he=>by
  obtain⟨a,b,c,d⟩:=S.each e he
  exact⟨a,b,c,h _ _ d⟩,S.nd,S.mem⟩
set_option maxHeartbeats 1000000 in
theorem jkT {M:MemK prog w K} {L:Bool} {is:K→Addr→Prop} {f:Int×Value→K} {es:Array (Int×Value)} {ep:Nat} {t:SetTable} {ks:List K} {a b:Addr} {k:K} {Q:Bool→Shared→Prop} (hu:A.units+8<cLine) (S:SetT M L is f es t ks) (ho:s.heap.get? a=some (jbA es ep t)) (few:ks.length<1000) (to: ∀k b,is k b→M.is s.heap k b) (hk:is k b)
 (q: ∀r f' es' ep' t' h' tk,SetT M L is f' es' t' (k::ks)→h'.get? a=some (jbA es' ep' t')→Heap.SameBut a s.heap h' →Q r {s with heap:=h',toks:=tk}):wpAny (model prog w) A (setAdd a (.ref b)) Q E s:=by
 refine G1g (wpAny_bind (M.hashed hu (to _ _ hk) fun tk=>G1g ?_))
 show wpAny _ _ (setAddHashedIn a (.ref b) (M.hash k) (99999+1)) _ _ _
 have at_: ∀ (i:Nat) (y:Value),es[i]? =some (M.hash k,y)→(M.hash k,y)∈es.toList:=fun i y e=>by
  rw [←G0K] at e;exact G0i e
 refine jok (s:= {s with toks:=tk}) (eqk:=fun i=>match es[i]? with
  |some e=>decide (f e=k)
  |none=>false) (bv:=true) S.laid (G0C S.mask (by omega)) S.lean ho (fun i y e=> ?_) (fun Q' q' => ?_) (fun i y e Q' q' => ?_) (fun Q' q' =>M.byv (to _ _ hk) q') (fun no es' ep' t' h' pe l' mk ln ld o' sb=> ?_) (fun i y e ek=> ?_)
 ·obtain⟨_,c,d,_⟩:=S.each _ (at_ i y e);exact⟨c,d⟩
 ·refine jom M (to _ _ hk) (fun y hy=> ?_) q'
  obtain⟨e,he,rfl⟩:=G0N.mp hy
  obtain⟨_,c,d,i⟩:=S.each e (by rw [Array.toList_filter] at he;exact(G1e.mp he).1)
  exact⟨_,c,d,to _ _ i⟩
 ·obtain⟨_,c,d,i'⟩:=S.each _ (at_ i y e)
  have d:y= .ref c:=d
  subst d
  simp only [e] at q'
  exact G1g (M.same hu (to _ _ i') (to _ _ hk) q')
 ·have kn:k ∉ ks:=fun z=>by
   obtain⟨e,he,fe⟩:=G0N.mp ((S.mem k).mpr z)
   obtain⟨i,hi⟩:=G2i he
   obtain⟨e1,e2⟩:=e
   have h1:=(S.each _ he).1
   rw [fe] at h1
   have h1:e1=M.hash k:=h1
   subst h1
   have hi:es[i]? =some (M.hash k,e2):=by rw [←G0K];exact hi
   have:=no i e2 hi
   simp only [hi,fe,decide_true] at this
   cases this
  have same: ∀e∈es.toList,(if e=(M.hash k,.ref b) then k else f e)=f e:=fun e he=>by
   by_cases c:e=(M.hash k,.ref b)
   ·rw [if_pos c]
    obtain⟨_,c',d,i⟩:=S.each e he
    rw [c] at d
    cases d
    exact M.inj (to _ _ hk) (to _ _ i)
   ·rw [if_neg c]
  have me:(es.toList.map fun e=>if e=(M.hash k,.ref b) then k else f e)=es.toList.map f:=G1u same
  have pk:=pe.map fun e=>if e=(M.hash k,.ref b) then k else f e
  rw [G1F,G0S,me] at pk
  have one:(List.map (fun e=>if e=(M.hash k,.ref b) then k else f e) [(M.hash k,.ref b)])= [k]:=by simp
  rw [one] at pk
  have sz:=S.size
  refine q true (fun e=>if e=(M.hash k,.ref b) then k else f e) es' ep' t' h' tk ⟨l',ld.trans S.led,ln,?_,fun e he=> ?_,pk.nodup_iff.mpr ?_,fun m=>pk.mem_iff.trans ?_⟩ o' sb
  ·have:=S.mask
   rw [G0h]
   omega
  ·have z:=pe.mem_iff.mp he
   rw [G1F] at z
   rcases G0u.mp z with z|z
   ·rw [same e z];exact S.each e z
   ·have z:=G0g.mp z
    subst z
    rw [if_pos rfl]
    exact⟨rfl,b,rfl,hk⟩
  ·rw [G3w]
   refine⟨S.nd,by simp,fun x hx y hy e=> ?_⟩
   have:y=k:=by simpa using hy
   subst this;subst e
   exact kn ((S.mem _).mp hx)
  ·rw [G0u,S.mem m,G0g,G0n,or_comm]
 ·have hin:k∈ks:=by
   simp only [e,G17] at ek
   rw [←ek]
   exact(S.mem _).mp (G26 (at_ i y e))
  refine q false f es ep t s.heap tk ⟨S.laid,S.led,S.lean,?_,S.each,S.nd,fun m=>(S.mem m).trans ?_⟩ ho (G2E _ _)
  ·have:=S.mask
   rw [G0h]
   omega
  ·rw [G0n]
   exact⟨.inr,fun z=>z.elim (fun e=>e ▸ hin) id⟩
end
section
variable {prog:Program} {w:World} {A:Around} {E:Value→Shared→Prop} {s:Shared}
theorem jon (n:Nat) {v:Value} (h:carriedByValue v=true):ofAClassStatement n v=pure false:=by
 cases v<;>first|(cases h;done)|simp [ofAClassStatement]
theorem jqN {n:Int} {v:Value} (h:(intKind prog w).is n v=true): ∃tk,v= .int n tk:=by
 cases v<;>simp [intKind,Value.isInt] at h
 exact⟨_,by rw [h]⟩
theorem ji9 {ks:List Int} {vs:List Value} (h:ItemsAre (intKind prog w) ks vs): ∀v∈vs,∃n tk,v= .int n tk:=by
 induction h with
 |nil=>exact fun v hv=>absurd hv G05
 |cons h1 _ ih=>
  intro v hv
  rcases G0n.mp hv with rfl|hv
  ·obtain⟨tk,e⟩:=jqN h1;exact⟨_,tk,e⟩
  ·exact ih v hv
theorem joo {x:List Int} {a:Addr} {Q:Bool→Shared→Prop}:IsTupleKey (intKind prog w) s.heap x a→Q false s→wpAny (model prog w) A (ofAClassStatement 8 (.ref a)) Q E s
 |⟨_,_,_,ho,hc,hd,hi⟩,q=>by
  unfold ofAClassStatement
  refine wpAny_bind (G4t (T:= "tuple") ⟨_,ho,hc⟩ ?_)
  simp only [G2d,↓reduceIte,pure_bind,Bool.not_true,G1o]
  refine wpAny_bind (wpAny_seqItems ho hd (wpAny_bind ?_))
  simp only [←Array.forIn_toList]
  refine jgd _ (fun v hv Q' q' => ?_) (G0e q)
  rw [jon 7 (hi.byValue v hv)]
  exact G0e q'
theorem joq {x:List Int} {a:Addr} {Q:Bool→Shared→Prop}:IsTupleKey (intKind prog w) s.heap x a→Q true s→wpAny (model prog w) A (hashByValue 8 (.ref a)) Q E s
 |⟨_,_,_,ho,hc,hd,hi⟩,q=>by
  unfold hashByValue
  refine wpAny_bind (wpAny_specialOf (T:= "tuple") ⟨_,ho,hc⟩ F.slot_tuple_hash.lookup ?_)
  refine wpAny_bind (wpAny_seqItems ho hd (wpAny_bind ?_))
  simp only [Option.getD_some,←Array.forIn_toList]
  refine jgd _ (fun v hv Q' q' => ?_) (G0e q)
  obtain⟨m,tk,rfl⟩:=ji9 hi v hv
  exact G0e q'
def jr4 (prog:Program) (w:World):MemK prog w (List Int) where
 is:=fun h x a=>IsTupleKey (intKind prog w) h x a
 hash:=tupleKeyHash (intKind prog w)
 inj:=fun hx hy=>hx.inj hy
 keep:=fun k ⟨o,items,n,ho,hc,hd,hi⟩=>⟨o,items,n,k _ o hc ho,hc,hd,hi⟩
 hashed:=fun hu hk q=>wpAny_pyHash_tuple (by omega) hk (q _)
 same:=fun hu hx hy q=>wpAny_eqBool_tuple (by omega) hx hy q
 quiet:=fun hk q=>wpAny_eqIsQuiet_tuple hk q
 cls:=fun hk q=>joo hk q
 byv:=fun hk q=>joq hk q
end
end L2
namespace L2
open PySem PySem.Spec PyProof.Rows HT PySem.SeqAt
section
variable {prog:Program} {w:World} {A:Around} {E:Value→Shared→Prop} {a I:Addr} {fp wr:List Addr} {n:Nat} {P:Nat→Value→Prop} {St:Nat→Heap→Prop} {K:Type} [DecidableEq K] {M:MemK prog w K} {L:Bool} {is:K→Addr→Prop} {key:Nat→K}
theorem jfE {R:Result→Shared→Prop} (hu:A.units+16<cLine) (W:Walks prog w A.in1 I fp wr n P St) (num: ∀i v,P i v→ ∃b,v= .ref b∧is (key i) b) (na:a ∉ fp) (few:n<1000) (nt: ∀i h,St i h→ ∀b∈wr,∀o,h.get? b=some o→o.cls≠ .type "tuple"):
 ∀ (k i:Nat) (s:Shared) (f:Int×Value→K) (es:Array (Int×Value)) (ep:Nat) (t:SetTable),i+k=n→St i s.heap→s.heap.get? a=some (jbA es ep t)→(∀k b,is k b→M.is s.heap k b)→SetT M L is f es t ((List.range i).map key).reverse→
  (∀h' tk f' es' ep' t',h'.get? a=some (jbA es' ep' t')→SetT M L is f' es' t' ((List.range n).map key).reverse→(∀b o,b≠a→b ∉ wr→s.heap.get? b=some o→h'.get? b=some o)→R (.ok (.ret .none)) {s with heap:=h',toks:=tk})→
  codeAny (model prog w) A (.builtin "set.update.loop" ⟨[.ref a,.ref I],[]⟩) R s
 |0,i,s,f,es,ep,t,hk,st,ha,to,S,q=>by
  obtain rfl:i=n:=by omega
  refine G2l jdq ?_
  rw [G2y jcg]
  exact wpAny_bind (W.done s _ _ st fun h' tk kept=>G0e (q h' tk f es ep t (kept _ _ (fun z=>na (W.sub _ z)) ha) S fun b o _ nb e=>kept b o nb e))
 |k+1,i,s,f,es,ep,t,hk,st,ha,to,S,q=>by
  refine G2l jdq ?_
  rw [G2y jcg]
  refine wpAny_bind (W.item i s _ _ (by omega) st fun v h1 tk1 pv st1 kept1=> ?_)
  obtain⟨b,rfl,hb⟩:=num i v pv
  have ha1:=kept1 _ _ (fun z=>na (W.sub _ z)) ha
  have to1: ∀k b,is k b→M.is h1 k b:=fun k b z=>M.keep (fun c o hc e=>kept1 c o (fun m=>nt i _ st c m o e hc) e) (to k b z)
  refine wpAny_bind (G1g (jkT (s:= {s with heap:=h1,toks:=tk1}) (show A.units+1+8<cLine by omega) S ha1 (by simp;omega) to1 hb fun r f2 es2 ep2 t2 h2 tk2 S2 ha2 same2=>G0e ⟨G4i jcg _,?_⟩))
  have S3:SetT M L is f2 es2 t2 ((List.range (i+1)).map key).reverse:=by
   rw [G1D,G0S,List.reverse_append];exact S2
  have kep: ∀c o,o.cls= .type "tuple" →h1.get? c=some o→h2.get? c=some o:=fun c o hc e=>same2.extBut _ _ (fun z=>by
   subst z
   rw [show h1.get? c=some (jbA es ep t) from ha1] at e
   cases e
   exact absurd (show Value.type "set" =Value.type "tuple" from hc) (by decide)) e
  refine jfE hu W num na few nt k (i+1) {s with heap:=h2,toks:=tk2} f2 es2 ep2 t2 (by omega) (W.frame _ _ _ st1 fun b hb o e=>same2.extBut _ _ (fun z=>na (z ▸ hb)) e) ha2 (fun k b z=>M.keep kep (to1 k b z)) S3 fun h' tk' f' es' ep' t' ha' S' kept' => ?_
  exact q h' tk' f' es' ep' t' ha' S' fun b o ba bw e=>kept' b o ba bw (same2.extBut _ _ ba (kept1 b o bw e))
theorem jl6 (L:Bool) (f:Int×Value→K):SetT M L is f #[] (.fresh 0 0 L) []:=⟨ji6 0 0 L,rfl,(by show 0*5<7*3;decide),(by show 7≤8*0+16;decide),fun e he=>absurd he (by simp),by simp,fun k=>by simp⟩
variable {s:Shared}
theorem jkU {l:Addr} {vs:List Value} {ep:Nat} {Q:Option Value→Shared→Prop} (hu:A.units+32<cLine) (calm:A.handled=none)
 (hl:s.heap.IsList l vs.toArray) (hM: ∀i v,vs[i]? =some v→ ∃b,v= .ref b∧is (key i) b) (to: ∀k b,is k b→M.is s.heap k b) (few:vs.length<1000) (ha:s.heap.get? a=some (jbA #[] ep (.fresh 0 0 (ja8 w)))) (la:l≠a)
 (k: ∀h' tk f' es' ep' t',h'.get? a=some (jbA es' ep' t')→SetT M (ja8 w) is f' es' t' ((List.range vs.length).map key).reverse→(∀b o,b≠a→s.heap.get? b=some o→h'.get? b=some o)→Q (some .none) {s with heap:=h',toks:=tk}):
 wpAny (model prog w) A (callSpecial? (.ref a) "__init__" [.ref l]) Q E s:=by
 have ty:s.TypeIs (.ref a) "set" :=⟨_,ha,rfl⟩
 refine G1P ty F.called_set.init (G2M (G2h F.called_set.init.plain jc4 (jdr ty ?_)))
 have f1:=jdY
 have f2:=jdZ
 have isl:=hl
 obtain⟨⟨oc,od,odt,osl⟩,hol,hc,c,hd⟩:=hl
 simp only at hc hd
 subst hc hd
 have state:=fun {P:Array (Int×Value)×Nat×SetTable→Shared→Prop} {E' :Value→Shared→Prop} {A' :Around}=>G1m (prog:=prog) (w:=w) (A:=A') (E:=E') (Q:=P) (s:=s) ha rfl (jea (ja8 w)).tab.fits
 have far:a≠s.heap.objs.size:=fun z=>G0W _ (z ▸ G0l ha)
 have lfar:l≠s.heap.objs.size:=fun z=>G0W _ (z ▸ G0l hol)
 have na:a ∉ [s.heap.objs.size,l]:=by simp [far,la.symm]
 have tl:s.TypeIs (.ref l) "list" :=⟨_,hol,rfl⟩
 have sv:vs.toArray.size=vs.length:=G0w ..
 wp_walk using state,G2C isl
 have W:=Walks.list (prog:=prog) (w:=w) (A:=A.in1.in1) calm s.heap.objs.size l lfar vs.toArray
 refine jfE (f:=fun _=>key 0) (M:=M) (is:=is) (key:=key) (show A.units+1+16<cLine by omega) W (fun i v hv=>hM i v (by simpa using hv)) na (by rw [sv];exact few) (fun i h st b hb o e=> ?_) vs.toArray.size 0 _ #[] ep _ (G1W _) ⟨⟨_,G0x _ rfl,rfl,rfl⟩,⟨_,G0b _ hol,rfl,c,rfl⟩⟩ (G0b _ ha) (fun k b z=>M.keep (fun c o hc e=>G0b _ e) (to k b z)) (jl6 _ _) fun h' tk f' es' ep' t' e S kept=> ?_
 ·obtain⟨⟨o',e',c',_⟩,_⟩:=st
  rw [G0g.mp hb,e'] at e
  cases e
  rw [c'];decide
 ·rw [sv] at S
  exact G0e (G0e (k h' tk f' es' ep' t' e S fun b ob nb q=>kept b ob nb (fun z=>G0W _ (G0g.mp z ▸ G0l q)) (G0b _ q)))
theorem jl7 {l:Addr} {vs:List Value} {Q:Value→Shared→Prop} (hu:A.units+40<cLine) (calm:A.handled=none)
 (hl:s.heap.IsList l vs.toArray) (hM: ∀i v,vs[i]? =some v→ ∃b,v= .ref b∧is (key i) b) (to: ∀k b,is k b→M.is s.heap k b) (few:vs.length<1000)
 (k: ∀h' tk f' es' ep' t',h'.get? s.heap.objs.size=some (jbA es' ep' t')→SetT M (ja8 w) is f' es' t' ((List.range vs.length).map key).reverse→(∀b o,s.heap.get? b=some o→h'.get? b=some o)→Q (.ref s.heap.objs.size) {s with heap:=h',toks:=tk}):
 wpAny (model prog w) A (call (.type "set") [.ref l]) Q E s:=by
 have fits:checkTypeCall "set" ⟨[.ref l],[]⟩=pure ():=by kernel_rfl
 have newFits:checkBuiltinCall "set.__new__" ⟨[.type "set",.ref l],[]⟩=pure ():=by kernel_rfl
 obtain⟨o,hol,r⟩:=hl
 refine L2.jeD (Made:=fun v s₁=>v= .ref s.heap.objs.size∧s₁= {s with heap:=s.heap.push (jbA #[] 0 (.fresh 0 0 (ja8 w)))}) F.called_set fits
  (G2M (G2h F.called_set.plain F.entry_set_new (wpAny_of_eq newFits (jia ⟨rfl,rfl⟩)))) fun v s₁ ⟨ev,es⟩=> ?_
 subst ev es
 have at_:(s.heap.push (jbA #[] 0 (.fresh 0 0 (ja8 w)))).get? s.heap.objs.size=some (jbA #[] 0 (.fresh 0 0 (ja8 w))):=G0x _ rfl
 refine⟨⟨_,at_,rfl⟩,jkU (s:= {s with heap:=s.heap.push (jbA #[] 0 (.fresh 0 0 (ja8 w)))}) (M:=M) (is:=is) (key:=key) (show A.units+1+32<cLine by omega) calm ⟨o,G0b _ hol,r⟩ hM (fun k b z=>M.keep (fun c o hc e=>G0b _ e) (to k b z)) few at_ (fun z=>G0W _ (z ▸ G0l hol)) fun h' tk f' es' ep' t' e S kept=>⟨rfl,k h' tk f' es' ep' t' e S fun b ob q=>kept b ob (fun z=>G0W _ (z ▸ G0l q)) (G0b _ q)⟩⟩
theorem jhS {es:Array (Int×Value)} {ep:Nat} {t:SetTable} {Q:Value→Shared→Prop} (hu:A.in1.in1.units<cLine) (calm:A.handled=none) (S:Tab (ja8 w) es.size t) (ha:s.heap.get? a=some (jbA es ep t)) (few:es.size<1000) (x: ∀e∈es.toList,∃ns,IT s.heap e.2 ns)
 (k: ∀ (h1 h' :Heap) d (tk c:Nat) (out:List Value),jc0 s.heap h1→jc0 h1 h' →h'.get? h1.objs.size=some (seqObj "list" out.toArray c)→out.Perm (es.toList.map (·.2))→out.Pairwise (fun x y=>HT.jaz (jaP s.heap y) (jaP s.heap x)=false)→
  Q (.ref h1.objs.size) {s with heap:=h',drawn:=d,toks:=tk}):wpAny (model prog w) A (call (.builtin "sorted") [.ref a]) Q E s:=by
 refine G23 kind_sorted plain_sorted entry_sorted (args_sorted1 _) (wpAny_bind (G0e (wpAny_bind (wpAny_bind (wpAny_runValue (G2V (jfz calm S ha few) fun res s' listed=> ?_))))))
 obtain⟨h1,d,tk,acc,c0,rfl,rfl,made,kept,p⟩:=listed
 refine wpAny_bind (wpAny_load made (G0e ?_))
 have len:acc.toList.length=es.size:=by rw [p.length_eq,G0a,G0m]
 have hz:acc.toList.length≤sizeLine:=by rw [len];exact G0C (G0T few) (by decide)
 have fresh:(h1.push (seqObj "list" acc.toList.toArray 0)).get? h1.objs.size=some (seqObj "list" acc.toList.toArray 0):=G0x _ rfl
 have kp: ∀h',jn0 {s with heap:=h1.push (seqObj "list" acc.toList.toArray 0),drawn:=d,toks:=tk} h1.objs.size h' →jc0 h1 h' :=fun h' p b x e=>p b x (G0J (G0l e)) (G0b _ e)
 have ks: ∀h',jn0 {s with heap:=h1.push (seqObj "list" acc.toList.toArray 0),drawn:=d,toks:=tk} h1.objs.size h' →jc0 s.heap h' :=fun h' p b x e=>kp h' p b x (kept b x e)
 have it: ∀v∈acc.toList,∃ns,IT s.heap v ns:=fun v hv=>by
  obtain⟨e,he,rfl⟩:=G0N.mp (p.mem_iff.mp hv)
  exact x e he
 refine wpAny_bind (G4j (wpAny_bind (G1g (G1C slot_list_sort ⟨_,fresh,rfl⟩ entry_list_sort (jil (s:= {s with heap:=h1.push (seqObj "list" acc.toList.toArray 0),drawn:=d,toks:=tk}) (κ:=ji3 s.heap acc.toList) (U:=fun x=> ∃ns,IT s.heap x.1 ns) (R:=fun x y=>HT.jaz (jaP s.heap x.1) (jaP s.heap y.1)) fresh hz
  (fun h2 h' p=>jg2 (s:= {s with heap:=h',drawn:=d,toks:=tk}) h2 it (ks h' p) ⟨rfl,tk,rfl⟩) (fun h' p=>jg3 (s:= {s with drawn:=d}) hu (ks h' p)) (jg1 _) it fun out c tk' h' p' e1 e2 e3=>⟨_,rfl,?_⟩) (args_list_sort _)))) hz)
 refine G0e ⟨_,rfl,k h1 h' d tk' c out kept (kp h' p') e1 (e2.trans p) ?_⟩
 rw [G1n] at e3
 exact e3
end
theorem jfF {prog:Program} {w:World}: ∀ {vs:List Value} {ns:List Int},IntsAre vs ns→ItemsAre (intKind prog w) ns vs
 |_,_,.nil=> .nil
 |_,_,.cons n t a=> .cons (by simp [intKind,Value.isInt]) (jfF a)
def jmJ (prog:Program) (w:World) (H:Hp) (o:Obj) (ks:List (List Int)):Prop:= ∃es ep t f,o=jbA es ep t∧SetT (jr4 prog w) (ja8 w) (fun k b=>H b=some (.tup (k.map V.int))) f es t ks
theorem jqO {X:Cx} {pins:List (Addr×Obj)} {σ:St} {H:Hp} {s:Shared} (I:Inv X pins σ H s) (k:List Int) (b:Addr) (h:H b=some (.tup (k.map V.int))):(jr4 X.prog X.w).is s.heap k b:=by
 obtain⟨_,us,r2,o,e,c,_,n,d⟩:=I.hok b _ h
 exact⟨o,us.toArray,n,e,c,d,jfF (jdX r2)⟩
theorem jqP {X:Cx} {pins:List (Addr×Obj)} {σ:St} {H:Hp} {s:Shared} (I:Inv X pins σ H s) (k:List Int) (b:Addr) (h:H b=some (.tup (k.map V.int))):IT s.heap (.ref b) k:=by
 obtain⟨_,us,r2,p⟩:=I.hok b _ h
 exact⟨b,us.toArray,rfl,p.tup,jdX r2⟩
theorem jkV {X:Cx} {k:Nat} (hc:X.calm=true) (hr:Room k X.A):CallR X (.type "set") (fun xs H Q=> ∃ (a:Addr) (ps:List (V×List Int)),xs= [.ref a]∧SqL X.K H a (ps.map (·.1))∧ps.length<1000∧(∀p∈ps,joL H p.1 p.2)∧ ∀ (p:Addr) (o:Obj),H p=none→jmJ X.prog X.w H o (ps.map (·.2)).reverse→Q (.ref p) (upd H p (.frz o (.own 0)))):=by
 intro pins s σ H xs us Q I r h
 obtain⟨a,ps,rfl,hS,few,ht,q⟩:=h
 obtain⟨u,rfl,ru⟩:=jdg r
 cases ru
 obtain⟨its,rv,pl,hz⟩:=I.list hS
 have len:its.length=ps.length:=by have:=rv.length;rw [G0a] at this;exact this.symm
 have hu:X.A.units+40<cLine:=by have:=hr.un;omega
 have at_: ∀i v,its[i]? =some v→ ∃b,v= .ref b∧H b=some (.tup (((ps.map (·.2)).getD i []).map V.int)):=by
  clear hS q few hz pl len
  induction ps generalizing its with
  |nil=>cases rv;exact fun i v e=>by cases e
  |cons p ps ih=>
   rw [G0G] at rv
   cases rv with
   |cons r1 r2=>
    intro i v e
    cases i with
    |zero=>
     obtain⟨b,eb,hb⟩:=ht p G0t
     rw [eb] at r1
     cases e
     exact⟨b,r1,hb⟩
    |succ i=>exact ih (fun p hp=>ht p (G0y _ hp)) _ r2 i v e
 have rng:(List.range its.length).map (fun i=>(ps.map (·.2)).getD i [])=ps.map (·.2):=by
  have:=jdm (ps.map (·.2)) ([]:List Int)
  rw [G0a] at this
  rw [len];exact this.symm
 refine jl7 (M:=jr4 X.prog X.w) (is:=fun k b=>H b=some (.tup (k.map V.int))) hu (I.ok.hd hc) pl.isList at_ (jqO I) (by omega) fun h' tk f es ep t e S kept=> ?_
 rw [rng] at S
 exact⟨.ref _,_,I.laid (t' :=tk) (o:= .frz (jbA es ep t) (.own 0)) kept (G0f _) ⟨e,⟨_,e⟩⟩,rfl,q _ _ (I.hok.fresh (G0f _)) ⟨es,ep,t,f,rfl,S⟩⟩
def joM:Value→V
 | .ref b=> .ref b
 |_=> .int 0
theorem jja {x y:List Int} (h:HT.jaz y x=false) (ne:x≠y):HT.jaz x y=true:=by
 cases e:HT.jaz x y with
 |true=>rfl
 |false=>exact absurd (jdb _ _ e h) ne
theorem jge {X:Cx} {k:Nat} (hc:X.calm=true) (hr:Room k X.A):CallR X (.builtin "sorted") (fun xs H Q=> ∃ (p:Addr) (o:Obj) (ks:List (List Int)),xs= [.ref p]∧H p=some (.frz o (.own 0))∧jmJ X.prog X.w H o ks∧ks.length<1000∧ ∀ (q:Addr) (ps:List (V×List Int)),H q=none→(∀x∈ps,joL H x.1 x.2)→(ps.map (·.2)).Pairwise (fun x y=>HT.jaz x y=true)→(∀k,k∈ps.map (·.2)↔k∈ks)→Q (.ref q) (upd H q (.lst (ps.map (·.1))))):=by
 intro pins s σ H xs us Q I r h
 obtain⟨p,o,ks,rfl,hp,⟨es,ep,t,f,rfl,S⟩,few,q⟩:=h
 obtain⟨u,rfl,ru⟩:=jdg r
 cases ru
 have hu:X.A.in1.in1.units<cLine:=by
  have:=hr.un
  show X.A.units+1+1<cLine
  omega
 have it: ∀e∈es.toList,IT s.heap e.2 (f e)∧joL H (joM e.2) (f e)∧RelV (joM e.2) e.2:=fun e he=>by
  obtain⟨_,b,eb,hb⟩:=S.each e he
  rw [eb]
  exact⟨jqP I _ _ hb,⟨b,rfl,hb⟩,rfl⟩
 have sz:=S.size
 refine jhS hu (I.ok.hd hc) S.tab (I.hok p _ hp).1 (by omega) (fun e he=>⟨_,(it e he).1⟩) fun h1 h' d tk c out k1 k2 lies pm srt=> ?_
 obtain⟨zs,pz,rfl⟩:=jdx pm
 have I1:=(I.kept (t' :=s.toks) k1).drew d
 have vv: ∀l:List (Int×Value),(∀z∈l,z∈es.toList)→Vals ((l.map fun e=>(joM e.2,f e)).map (·.1)) (l.map (·.2)):=fun l=>by
  induction l with
  |nil=>exact fun _=> .nil
  |cons z l ih=>exact fun sub=> .cons (it z (sub z G0t)).2.2 (ih fun y hy=>sub y (G0y _ hy))
 have m2:(zs.map fun e=>(joM e.2,f e)).map (·.2)=zs.map f:=by rw [G1d];rfl
 refine⟨.ref _,_,I1.laid (t' :=tk) (o:= .lst ((zs.map fun e=>(joM e.2,f e)).map (·.1))) k2 (G0f _) ⟨?_,_,c,vv zs fun z hm=>pz.mem_iff.mp hm,lies⟩,rfl,q _ (zs.map fun e=>(joM e.2,f e)) (I1.hok.fresh (G0f _)) (fun x hx=> ?_) ?_ fun k=> ?_⟩
 ·rw [G0a,G0a,pz.length_eq,G0m];exact G0C (show es.size≤1000 by omega) (by decide)
 ·obtain⟨e,he,rfl⟩:=G0N.mp hx
  exact(it e (pz.mem_iff.mp he)).2.1
 ·rw [m2]
  have nd:(zs.map f).Nodup:=(pz.map f).nodup_iff.mpr S.nd
  unfold List.Nodup at nd
  rw [G1n] at srt nd ⊢
  refine(srt.and nd).imp_of_mem fun {y z} hy hz ⟨e,ne⟩=> ?_
  rw [(it y (pz.mem_iff.mp hy)).1.nums,(it z (pz.mem_iff.mp hz)).1.nums] at e
  exact jja e ne
 ·rw [m2]
  exact(pz.map f).mem_iff.trans (S.mem k)
def dST (ta:TAD):TED:=fun σ h Q=>ta σ h fun ds h1=> ∃ (a:Addr) (nss:List (List Int)),ds= [.lst a]∧h1 a=some (nss.map tI)∧nss.length<1000∧ ∀ (p:Addr) (kss:List (List Int)),h1 p=none→kss.Pairwise (fun x y=>HT.jaz x y=true)→(∀k,k∈kss↔k∈nss)→Q (.lst p) (jbi h1 p (kss.map tI))
theorem jst {X : Cx} {k : Nat} {a : Expr} {ta : TAD} {p p2 pos pos2 : Pos} (hr : Room k X.A) (hc : X.calm = true) (hg : Gl X "sorted") (hm : X.mg "sorted" = none) (hg2 : Gl X "set") (hm2 : X.mg "set" = none) (ha : JA X [a] ta) (hs : starEach [a] X.env = [(false, eval a X.env)] := by rfl)
    (h1 : starEach [.Call (.Name "set" p2) [a] [] pos2] X.env = (false, eval (.Call (.Name "set" p2) [a] [] pos2) X.env) :: starEach [] X.env := by rfl) (h2 : (backTo pos (starEach [] X.env)).any (·.1) = false := by rfl) (h3 : (backTo pos2 (starEach [] X.env)).any (·.1) = false := by rfl) :
    JE X (.Call (.Name "sorted" p) [.Call (.Name "set" p2) [a] [] pos2] [] pos) (dST ta) :=
  ⟨(jcU (jge hc hr) hg hm (by decide +kernel) (jbm (jek (jkV hc hr) hg2 hm2 (by decide +kernel) ha.to (by decide) (by decide) hs h3) pa_nil h1) (by decide) (by decide) h1 h2).imp
    fun σ H Q ⟨σd, h, Qd, rs, rh, t, post⟩ => LA.bind rs rh t fun ds vs h1 H1 k1 rs1 rh1 r1 ⟨a, nss, e, hd, few, q⟩ => by
      subst e
      obtain ⟨v, e, r2⟩ := jay r1
      obtain ⟨ws, hH, r3⟩ := rh1 a _ hd
      have e1 : v = .ref a := r2.1
      subst e e1
      obtain ⟨ps, rfl, rfl, ht⟩ := jhJ r3
      rw [G0a] at few
      refine ⟨a, ps, rfl, SqL.of hH, few, ht, fun c o hcn S => ?_⟩
      have rh2 := rh1.new (o := .frz o (.own 0)) hcn
      have up : ∀ {b : Addr} {ob : _}, H1 b = some ob → upd H1 c (.frz o (.own 0)) b = some ob := fun {b ob} e => by
        rw [jaj (fun z => by subst z; rw [hcn] at e; cases e)]; exact e
      obtain ⟨es, ep, t, f, eo, S⟩ := S
      refine ⟨c, o, (ps.map (·.2)).reverse, rfl, jam, ⟨es, ep, t, f, eo, S.imp fun k b z => up z⟩, by simpa using few, fun l ps' hl ht' srt mem => ?_⟩
      exact post (.lst l) (.ref l) _ _ (k1.trans ((Kept.new hcn).trans (.new hl))) (rh2.newL hl (jhK ht')) ⟨rfl, _, jam⟩ (q l (ps'.map (·.2)) (rh2.free hl) srt fun k => by rw [mem k, G1x])⟩
end L2
namespace L2
open PySem PySem.Spec PyProof.Rows PySem.SeqAt HT
theorem jmK {α:Type} {R:α→α→Prop} (no: ∀x y,R x y→ ¬R y x): ∀ {xs ys:List α},xs.Pairwise R→ys.Pairwise R→(∀a,a∈xs↔a∈ys)→xs=ys
 | [],[],_,_,_=>rfl
 | [],y::ys,_,_,m=>absurd ((m y).mpr G0t) G05
 |x::xs,[],_,_,m=>absurd ((m x).mp G0t) G05
 |x::xs,y::ys,px,py,m=>by
  obtain⟨p1,p2⟩:=G1S.mp px
  obtain⟨q1,q2⟩:=G1S.mp py
  have e:x=y:=by
   rcases G0n.mp ((m x).mp G0t) with e|e
   ·exact e
   rcases G0n.mp ((m y).mpr G0t) with e' |e'
   ·exact e'.symm
   exact absurd (p1 y e') (no _ _ (q1 x e))
  subst e
  rw [jmK no p2 q2 fun a=>⟨fun h=> ?_,fun h=> ?_⟩]
  ·rcases G0n.mp ((m a).mp (G0y _ h)) with e|e
   ·subst e;exact absurd (p1 _ h) (no _ _ (p1 _ h))
   ·exact e
  ·rcases G0n.mp ((m a).mpr (G0y _ h)) with e|e
   ·subst e;exact absurd (q1 _ h) (no _ _ (q1 _ h))
   ·exact e
theorem jqQ (x y:List Int) (h:HT.jaz x y=true): ¬HT.jaz y x=true:=fun z=>by rw [jcX _ _ h] at z;cases z
section
variable {X:Cx} {e r:Expr} {op:CmpOp} {u:TXD} {pos p:Pos} {a b rest:List Stmt}
theorem jqR (he:JXE X e u) (hm:behindInMarks op r=false:=by first|exact jk9 _ (by decide) (by decide)|rfl):JXE X (.Compare e [op] [r] pos) u:=⟨fun E Z pins s σ H σd h R I rs rh ht w=>
 wpAny_Compare1 (G0H (he.to E Z pins s σ H σd h R I rs rh ht w) (fun _ _ z=>z.elim) fun _ _ z=>z) hm⟩
theorem jqS (he:JXE X e u) (hv: ∀whole,isTrue e X.env whole=(do let v ←whole;standAt e.pos;holding [v] (truthy v)):=by intro _;rfl):JX X (.If (.UnaryOp .Not e p) a b pos::rest) u:=⟨fun E Z pins s σ H σd h R I rs rh ht w=>
 G10 (wpAny_If (wpAny_isTrue_Not (wpAny_isTrue_value (G0H (he.to E Z pins s σ H σd h R I rs rh ht w) (fun _ _ z=>z.elim) fun _ _ z=>z) (hv _))))⟩
end
def pcS (T:List (List Int)) (n p:Nat):List Nat:=(List.range n).filter fun j=>wk T n p j&&wk T n j p
def jgf (T:List (List Int)) (n:Nat):List (List Nat):=((List.range n).filter fun p=>decide ((pcS T n p).headD 0=p)).map (pcS T n)
section
variable {T:List (List Int)} {n e:Nat}
theorem jos (p:Nat):IsS n (pcS T n p):=⟨_,rfl⟩
theorem mem_pc {p j:Nat}:j∈pcS T n p↔j<n∧wk T n p j=true∧wk T n j p=true:=by
 unfold pcS
 rw [G1e,G0z,G0Z]
theorem jot {p:Nat} (hp:p<n):p∈pcS T n p:=mem_pc.mpr ⟨hp,jga T n p,jga T n p⟩
theorem jou {p q:Nat} (hp:p<n) (h:q∈pcS T n p):pcS T n q=pcS T n p:=by
 obtain⟨hq,h1,h2⟩:=mem_pc.mp h
 refine(jos q).ext (jos p) fun j=> ?_
 rw [mem_pc,mem_pc]
 exact⟨fun ⟨a,b,c⟩=>⟨a,jbZ hq h1 b,jbZ hq c h2⟩,fun ⟨a,b,c⟩=>⟨a,jbZ hp h2 b,jbZ hp c h1⟩⟩
theorem jgg {p:Nat} (hp:p<n): ∃r,pcS T n p=(pcS T n p).headD 0::r:=by
 cases h:pcS T n p with
 |nil=>have:=jot (T:=T) hp;rw [h] at this;cases this
 |cons x r=>exact⟨r,rfl⟩
theorem jov {p:Nat} (hp:p<n):(pcS T n p).headD 0<n∧pcS T n ((pcS T n p).headD 0)=pcS T n p:=by
 obtain⟨r,h⟩:=jgg (T:=T) hp
 have m:(pcS T n p).headD 0∈pcS T n p:=by
  generalize (pcS T n p).headD 0=x at h
  rw [h];exact G0t
 exact⟨(mem_pc.mp m).1,jou hp m⟩
theorem mem_pcs {S:List Nat}:S∈jgf T n↔ ∃p,p<n∧S=pcS T n p:=by
 unfold jgf
 rw [G0N]
 constructor
 ·rintro ⟨p,hp,rfl⟩
  exact⟨p,G0z.mp (G1e.mp hp).1,rfl⟩
 ·rintro ⟨p,hp,rfl⟩
  obtain⟨a,b⟩:=jov (T:=T) hp
  exact⟨(pcS T n p).headD 0,G1e.mpr ⟨G0z.mpr a,G0I (by rw [b])⟩,b⟩
theorem jl8:(jgf T n).Pairwise fun x y=>HT.jaz (toI x) (toI y)=true:=by
 unfold jgf
 rw [G1n]
 refine(List.Pairwise.filter _ List.pairwise_lt_range).imp_of_mem fun {p q} hp hq lt=> ?_
 obtain⟨p1,p2⟩:=G1e.mp hp
 obtain⟨q1,q2⟩:=G1e.mp hq
 obtain⟨r,e1⟩:=jgg (T:=T) (G0z.mp p1)
 obtain⟨r',e2⟩:=jgg (T:=T) (G0z.mp q1)
 rw [G1l p2] at e1
 rw [G1l q2] at e2
 rw [e1,e2]
 show HT.jaz ((p:Int)::toI r) ((q:Int)::toI r')=true
 rw [jdE,if_neg (by omega)]
 exact G0I (by omega)
def upS (n:Nat) (T:List (List Int)) (S:List Nat):List Nat:=unS n S (jhA n T S)
theorem jqT (S:List Nat):IsS n (upS n T S):=jmx n _ _
theorem jcq {S:List Nat} (h:IsS n S): ∀k,IsS n (itF (upS n T) S k)
 |0=>h
 |k+1=>jqT _
theorem jhb {S:List Nat} (h:IsS n S) {j:Nat}:j∈upS n T S↔j∈S∨j∈jhA n T S:=jhF h (IsS.step T S) j
theorem jkW {S:List Nat} (h:IsS n S) (ne:upS n T S≠S):S.length+1≤(upS n T S).length:=by
 rcases G12 S.length (upS n T S).length with z|z
 ·exact z
 ·exfalso
  refine ne (h.ext (jqT S) fun j=>⟨fun hj=>(jhb h).mpr (.inl hj),fun hj=> ?_⟩).symm
  rcases G4x (j∈S) with c|c
  ·exact c
  ·exfalso
   have nd:(j::S).Nodup:=G1M.mpr ⟨c,h.rise.imp fun z=>G0J z⟩
   have:=jeQ nd (ys:=upS n T S) fun x hx=>by
    rcases G0n.mp hx with rfl|hx
    ·exact hj
    ·exact(jhb h).mpr (.inl hx)
   rw [G0h] at this
   omega
theorem jhc {S:List Nat} (h:IsS n S): ∀k,upS n T (itF (upS n T) S k)=itF (upS n T) S k∨S.length+k+1≤(itF (upS n T) S (k+1)).length
 |0=>by
  rcases G4x (upS n T S=S) with z|z
  ·exact .inl z
  ·exact .inr (jkW h z)
 |k+1=>by
  rcases jhc h k with z|z
  ·refine .inl ?_
   show upS n T (upS n T (itF (upS n T) S k))=upS n T (itF (upS n T) S k)
   rw [z,z]
  ·rcases G4x (upS n T (itF (upS n T) S (k+1))=itF (upS n T) S (k+1)) with y|y
   ·exact .inl y
   ·have m:=jkW (jcq h (k+1)) y
    refine .inr ?_
    show _≤(upS n T (itF (upS n T) S (k+1))).length
    omega
theorem jow (hT:Sq n e T) {S:List Nat} (h:IsS n S):itF (upS n T) S n=clS n T S:=by
 have st:upS n T (itF (upS n T) S n)=itF (upS n T) S n:=by
  rcases jhc (T:=T) h n with z|z
  ·exact z
  ·have:=(jcq (T:=T) h (n+1)).len
   omega
 have inn: ∀k,∀j∈itF (upS n T) S k,j∈clS n T S:=fun k=>by
  induction k with
  |zero=>exact fun j hj=>jqC h hj
  |succ k ih=>
   intro j hj
   rcases (jhb (jcq h k)).mp hj with z|z
   ·exact ih j z
   ·obtain⟨hj,i,hi,a⟩:=mem_stepS.mp z
    obtain⟨hi',q,hq,wq⟩:=mem_cl.mp (ih i hi)
    exact mem_cl.mpr ⟨hj,q,hq,jbZ hi' wq (jiq a n)⟩
 have sub: ∀k,∀j∈S,j∈itF (upS n T) S k:=fun k=>by
  induction k with
  |zero=>exact fun j hj=>hj
  |succ k ih=>exact fun j hj=>(jhb (jcq h k)).mpr (.inl (ih j hj))
 refine(jcq h n).ext (jkD n T S) fun j=>⟨inn n j,fun hj=> ?_⟩
 refine jr2 (shut_iff.mpr fun i hi j hj a=> ?_) (jn6 hT) (sub n) hj
 rw [←st]
 exact(jhb (jcq h n)).mpr (.inr (mem_stepS.mpr ⟨hj,i,hi,a⟩))
theorem jkX {p j:Nat}:j∈clS n T [p]↔j<n∧wk T n p j=true:=by
 rw [mem_cl]
 exact⟨fun ⟨a,i,hi,b⟩=>⟨a,by rw [G0g.mp hi] at b;exact b⟩,fun ⟨a,b⟩=>⟨a,p,G0g.mpr rfl,b⟩⟩
theorem jqU {p:Nat} (hp:p<n):(clS n T [p]).filter (fun i=>decide (p∈clS n T [i]))=pcS T n p:=by
 have is:IsS n ((clS n T [p]).filter (fun i=>decide (p∈clS n T [i]))):=by
  unfold clS
  rw [List.filter_filter]
  exact⟨_,rfl⟩
 refine is.ext (jos p) fun j=> ?_
 rw [G1e,mem_pc,jkX,G1b,jkX]
 exact⟨fun ⟨⟨a,b⟩,_,c⟩=>⟨a,b,c⟩,fun ⟨a,b,c⟩=>⟨⟨a,b⟩,hp,c⟩⟩
theorem jjb {kss:List (List Int)} (r:kss.Pairwise fun x y=>HT.jaz x y=true) (m: ∀k,k∈kss↔k∈(List.range n).map fun p=>toI (pcS T n p)):kss=(jgf T n).map toI:=by
 refine jmK jqQ r (by rw [G1n];exact jl8) fun k=> ?_
 rw [m k,G0N,G0N]
 constructor
 ·rintro ⟨p,hp,rfl⟩
  exact⟨_,mem_pcs.mpr ⟨p,G0z.mp hp,rfl⟩,rfl⟩
 ·rintro ⟨S,hS,rfl⟩
  obtain⟨p,hp,rfl⟩:=mem_pcs.mp hS
  exact⟨p,G0z.mpr hp,rfl⟩
end
end L2
namespace My
open PySem L2
def top (i:Nat):Stmt:=PySem.Challenge.pw_firstpowers_k27_the_beat.main.body.getD i (.Pass ⟨0,0,0,0⟩)
abbrev jbN:Stmt:=top 17
theorem jhT:FnScope ["thing"] ["thing"] (jab jbN):=⟨rfl,rfl,rfl,by decide +kernel,rfl,by decide +kernel,by decide +kernel⟩
abbrev jaR:Stmt:=top 18
theorem sc_is_table_row:FnScope ["thing","size","number"] ["thing","size"] (jab jaR):=⟨rfl,rfl,rfl,by decide +kernel,rfl,by decide +kernel,by decide +kernel⟩
abbrev jaF:Stmt:=top 19
theorem sc_has_table_form:FnScope ["thing","row"] ["thing"] (jab jaF):=⟨rfl,rfl,rfl,by decide +kernel,rfl,by decide +kernel,by decide +kernel⟩
abbrev jaV:Stmt:=top 20
theorem jdB:FnScope ["thing"] ["thing"] (jab jaV):=⟨rfl,rfl,rfl,by decide +kernel,rfl,by decide +kernel,by decide +kernel⟩
abbrev jci:Stmt:=top 22
theorem sc_reaches:FnScope ["table","size","come","by","one","other"] ["table"] (jab jci):=⟨rfl,rfl,rfl,by decide +kernel,rfl,by decide +kernel,by decide +kernel⟩
abbrev jbs:Stmt:=top 23
theorem sc_pieces_by:FnScope ["come","size","told","place","piece","other"] ["come"] (jab jbs):=⟨rfl,rfl,rfl,by decide +kernel,rfl,by decide +kernel,by decide +kernel⟩
abbrev jcr:Stmt:=top 24
theorem jhd:FnScope ["table"] ["table"] (jab jcr):=⟨rfl,rfl,rfl,by decide +kernel,rfl,by decide +kernel,by decide +kernel⟩
abbrev jcs:Stmt:=top 25
theorem jhe:FnScope ["table"] ["table"] (jab jcs):=⟨rfl,rfl,rfl,by decide +kernel,rfl,by decide +kernel,by decide +kernel⟩
abbrev jdQ:Stmt:=top 27
theorem sc_heads:FnScope ["table","place","head","number"] ["table","place"] (jab jdQ):=⟨rfl,rfl,rfl,by decide +kernel,rfl,by decide +kernel,by decide +kernel⟩
abbrev jaL:Stmt:=top 29
theorem sc_greatest_into:FnScope ["one","other"] ["one","other"] (jab jaL):=⟨rfl,rfl,rfl,by decide +kernel,rfl,by decide +kernel,by decide +kernel⟩
abbrev jbd:Stmt:=top 30
theorem sc_all_rounds:FnScope ["table","told","paths","place","path","head"] ["table"] (jab jbd):=⟨rfl,rfl,rfl,by decide +kernel,rfl,by decide +kernel,by decide +kernel⟩
abbrev jeR:Stmt:=top 31
theorem sc_beat:FnScope ["table","told","each"] ["table"] (jab jeR):=⟨rfl,rfl,rfl,by decide +kernel,rfl,by decide +kernel,by decide +kernel⟩
abbrev jbt:Stmt:=top 33
theorem jhf:FnScope ["_law_script","_law_k"] ["_law_script","_law_k"] (jab jbt):=⟨rfl,rfl,rfl,by decide +kernel,rfl,by decide +kernel,by decide +kernel⟩
abbrev jbO:Stmt:=top 34
theorem sc__law_pen:FnScope ["_law_cell_here","_law_left"] ["_law_cell_here"] (jab jbO):=⟨rfl,rfl,rfl,by decide +kernel,rfl,by decide +kernel,by decide +kernel⟩
abbrev jbu:Stmt:=top 35
theorem sc__law_draw:FnScope ["_law_pen_here","_law_many","_law_left","_law_found","_law_stir"] ["_law_pen_here","_law_many"] (jab jbu):=⟨rfl,rfl,rfl,by decide +kernel,rfl,by decide +kernel,by decide +kernel⟩
abbrev jbv:Stmt:=top 37
theorem sc__law_kind:FnScope ["_law_e","_law_seen","_law_words"] ["_law_e"] (jab jbv):=⟨rfl,rfl,rfl,by decide +kernel,rfl,by decide +kernel,by decide +kernel⟩
abbrev jbw:Stmt:=top 38
theorem sc__law_said:FnScope ["_law_call","_law_found","_law_e","_law_word"] ["_law_call"] (jab jbw):=⟨rfl,rfl,rfl,by decide +kernel,rfl,by decide +kernel,by decide +kernel⟩
abbrev jbx:Stmt:=top 39
theorem jhg:FnScope ["_law_found","_law_due"] ["_law_found","_law_due"] (jab jbx):=⟨rfl,rfl,rfl,by decide +kernel,rfl,by decide +kernel,by decide +kernel⟩
abbrev jby:Stmt:=top 40
theorem jhh:FnScope ["_law_pen_here"] ["_law_pen_here"] (jab jby):=⟨rfl,rfl,rfl,by decide +kernel,rfl,by decide +kernel,by decide +kernel⟩
abbrev jbe:Stmt:=top 41
theorem sc__law_table:FnScope ["_law_pen_here","_law_size_here","_law_way","_law_often","_law_most","_law_rows","_law_one","_law_row","_law_other","_law_goes"] ["_law_pen_here","_law_size_here"] (jab jbe):=⟨rfl,rfl,rfl,by decide +kernel,rfl,by decide +kernel,by decide +kernel⟩
abbrev jbf:Stmt:=top 42
theorem sc__law_after:FnScope ["_law_table_here","_law_some","_law_size_here","_law_place","_law_one"] ["_law_table_here","_law_some"] (jab jbf):=⟨rfl,rfl,rfl,by decide +kernel,rfl,by decide +kernel,by decide +kernel⟩
abbrev jbg:Stmt:=top 43
theorem sc__law_order:FnScope ["_law_pen_here","_law_many","_law_found","_law_what"] ["_law_pen_here","_law_many"] (jab jbg):=⟨rfl,rfl,rfl,by decide +kernel,rfl,by decide +kernel,by decide +kernel⟩
abbrev jbP:Stmt:=top 44
theorem sc__law_far:FnScope ["_law_table_here","_law_found","_law_place","_law_some","_law_turn"] ["_law_table_here"] (jab jbP):=⟨rfl,rfl,rfl,by decide +kernel,rfl,by decide +kernel,by decide +kernel⟩
abbrev jaY:Stmt:=top 45
theorem sc__law_pieces:FnScope ["_law_table_here","_law_far_here","_law_found","_law_place","_law_one"] ["_law_table_here"] (jab jaY):=⟨rfl,rfl,rfl,by decide +kernel,rfl,by decide +kernel,by decide +kernel⟩
abbrev jax:Stmt:=top 46
theorem sc__law_joined_table:FnScope ["_law_pen_here","_law_size_here","_law_order_here","_law_d","_law_often","_law_most","_law_found","_law_at","_law_one","_law_to","_law_other","_law_row","_law_place"] ["_law_pen_here","_law_size_here"] (jab jax):=⟨rfl,rfl,rfl,by decide +kernel,rfl,by decide +kernel,by decide +kernel⟩
abbrev jaZ:Stmt:=top 47
theorem sc__law_rounds:FnScope ["_law_table_here","_law_found","_law_walks","_law_later","_law_walk","_law_row","_law_place","_law_to"] ["_law_table_here"] (jab jaZ):=⟨rfl,rfl,rfl,by decide +kernel,rfl,by decide +kernel,by decide +kernel⟩
abbrev jbz:Stmt:=top 48
theorem sc__law_beat:FnScope ["_law_table_here","_law_sizes","_law_good","_law_some","_law_d","_law_size_here"] ["_law_table_here"] (jab jbz):=⟨rfl,rfl,rfl,by decide +kernel,rfl,by decide +kernel,by decide +kernel⟩
abbrev jaW:Stmt:=top 49
theorem sc__law_right:FnScope ["_law_table_here","_law_due","_law_turn"] ["_law_table_here"] (jab jaW):=⟨rfl,rfl,rfl,by decide +kernel,rfl,by decide +kernel,by decide +kernel⟩
abbrev jgh:Stmt:=top 50
theorem sc_law:FnScope ["_law_script","_law_cell_here","_law_pen_here","_law_turn"] ["_law_script"] (jab jgh):=⟨rfl,rfl,rfl,by decide +kernel,rfl,by decide +kernel,by decide +kernel⟩
section
variable {P:Program} {w:World} {K:PySem.W.Frag} {mg:Str→Option Value} {base:Heap}
/-- no def is asked of the script's list: a thing -/
def jmL:D→Bool
 | .int _=>true
 |_=>false
/-- a row of so many numbers from 0 on -/
def jq4:D→Bool
 | .int i=>decide (0≤i)
 |_=>false
def jmM (d:D) (k:Int):Bool:=match d with
 | .tup ds=>decide ((ds.length:Int)=k)&&ds.all jq4
 |_=>false
/-! every part has a kind that is told,and no tuple is long -/
mutual
def okD:D→Bool
 | .scr _=>false| .exc _=>false| .fn _=>false
 | .tup ds=>decide (ds.length≤1000)&&okDs ds
 |_=>true
def okDs:List D→Bool
 | []=>true
 |d::ds=>okD d&&okDs ds
end
theorem jiz: ∀ {ds:List D},okDs ds=true→ ∀d∈ds,okD d=true
 |d::ds,h,x,hx=>by
  have h' :(okD d&&okDs ds)=true:=h
  rw [G0Z] at h'
  rcases G0n.mp hx with e|e
  ·subst e;exact h'.1
  ·exact jiz h'.2 x e
theorem jkY: ∀ {ds:List D},(∀d∈ds,okD d=true)→okDs ds=true
 | [],_=>rfl
 |d::ds,h=>by
  show (okD d&&okDs ds)=true
  rw [h d G0t,jkY fun x hx=>h x (G0y _ hx)];rfl
theorem jkZ {ds:List D} (h:okD (.tup ds)=true):ds.length≤1000∧ ∀d∈ds,okD d=true:=by
 have h' :(decide (ds.length≤1000)&&okDs ds)=true:=h
 rw [G0Z] at h'
 exact⟨G1l h'.1,jiz h'.2⟩
theorem jmN {ds:List D} (h:ds.length≤1000) (h2: ∀d∈ds,okD d=true):okD (.tup ds)=true:=by
 show (decide (ds.length≤1000)&&okDs ds)=true
 rw [G0I h,jkY h2];rfl
theorem jgi {d:D} (h:okD d=true): ∃n,jgG d=some n:=by
 cases d<;>first|exact⟨_,rfl⟩|cases h
/-- a table -/
def jk7:D→Bool
 | .tup rs=>decide (1≤rs.length)&&decide (rs.length≤6)&&rs.all fun r=>jmM r rs.length
 |_=>false
def jdd:RDn:=fun ds h Q=> ∃d n,ds= [d]∧jgG d=some n∧Q (.bl (jmL d)) h
set_option maxHeartbeats 2000000 in
theorem jhU {n:Nat} {f:Addr} {fd:FuncData} (Z:Zs mg) (F:Fun K "is_whole" "is_whole" jbN f fd):FnOk P w K mg base CX0 (n+1) f fd ["thing"] (LSp K jdd):=by
 refine F.okJ jhT (fun ds h Q q=>by obtain⟨d,nm,e,hn,q⟩:=q;subst e;rfl) _ (fun cdv A outer s H E hr=>(jag (jcz (jqa (jlu (T:= "int") (by decide) rfl Z.isinstance rfl Z.int (by decide +kernel) (jv 0)) (jms (js4 (jlu (T:= "bool") (by decide) rfl Z.isinstance rfl Z.bool (by decide +kernel) (jv 0)))))))) ?_
 intro ds h Q q
 obtain⟨d,nm,e,hn,q⟩:=q
 subst e
 simp only [jd1,Nxt,je2,je0,jb1,jb2,jbr,dOp,ja2,dIs,jeU,dCB,jbq,jd0,jeW,jcC,dC,jb5,jbb,jd6,je3,je4,jb6,jeV,jeZ,jb3,je1,jb4,dIf,dUn,jgs,dSl,jaT,jce,jfo,jbp,gN,gT2,jcd,jfP,jfQ,jfp,jfk,jgv,jfR,jcl,jfS,jew,eqD,neD,eqE,neE,isV,isN,jgt,jaU,jgu,jfr,jcE,ixD,jfl,jfm,jfn,jaS,jba,jaN,jcD,jfq,slD,jdW,jaB,G0G,G1t,G0h,G0A,List.replicate,G00,G0Q,G03,G04,G0r,G0p,G0E,G1h,D.bl.injEq,D.lst.injEq,hn]
 cases d<;>cases hn<;>exact⟨h,Sub.refl h,q⟩
def jbW:RDn:=fun ds h Q=> ∃d k,ds= [d,.int k]∧okD d=true∧Q (.bl (jmM d k)) h
set_option maxHeartbeats 2000000 in
theorem jeS {n:Nat} {f:Addr} {fd:FuncData} (Z:Zs mg) (F:Fun K "is_table_row" "is_table_row" jaR f fd) (C_is_whole:jak P w K mg base n "is_whole" ["thing"] jdd):FnOk P w K mg base CX0 (n+1) f fd ["thing","size"] (LSp K jbW):=by
 obtain⟨g_G_is_whole,gd_G_is_whole,G_is_whole,bG_is_whole,kG_is_whole,mG_is_whole⟩:=C_is_whole
 refine F.okJ sc_is_table_row (fun ds h Q q=>by obtain⟨d,k,e,ok,q⟩:=q;subst e;rfl) _ (fun cdv A outer s H E hr=>(jae (jft (jpt (joI (jdl (jcJ (jlu (T:= "tuple") (by decide) rfl Z.isinstance rfl Z.tuple (by decide +kernel) (jv 0)))) (jp9 (jbo oq_ne (jaJ jbC rfl Z.len G1r (jac (jv 0) jad)) (jv 1) (jav _))))) (jag (jcz jbl)) jbc) (by exact(jag (jcz (jaJ (jmp rfl) rfl Z.all G4y (jac (jlc (i:=2) (js:= [2]) rfl (jao (by rfl)) (jbY (jv 0)) (by decide) sc_is_table_row.nd rfl (by first|exact Or.inl rfl|exact Or.inr rfl) (fun X' hX=>jbE) (fun X' hX=>by obtain⟨C,s₀,H₀,ex,rfl⟩:=hX;exact(jqa (jaC G_is_whole hr rfl mG_is_whole kG_is_whole bG_is_whole (jac (jv 2) jad)) (jms (jjg jnr (jv 2) jau (jav _)))))) jad))))))) ?_
 intro ds h Q q
 obtain⟨d,k,e,ok,q⟩:=q
 subst e
 obtain⟨nm,hn⟩:=jgi ok
 simp only [jd1,Nxt,je2,je0,jb1,jb2,jbr,dOp,ja2,dIs,jeU,dCB,jbq,jd0,jeW,jcC,dC,jb5,jbb,jd6,je3,je4,jb6,jeV,jeZ,jb3,je1,jb4,dIf,dUn,jgs,dSl,jaT,jce,jfo,jbp,gN,gT2,jcd,jfP,jfQ,jfp,jfk,jgv,jfR,jcl,jfS,jew,eqD,neD,eqE,neE,isV,isN,jgt,jaU,jgu,jfr,jcE,ixD,jfl,jfm,jfn,jaS,jba,jaN,jcD,jfq,slD,jdW,jaB,G0G,G1t,G0h,G0A,List.replicate,G00,G0Q,G03,G04,G0r,G0p,G0E,G1h,D.bl.injEq,D.lst.injEq,hn]
 cases d with
 |tup es=>
  cases hn
  obtain⟨hl,ht⟩:=jkZ ok
  simp only [jpY]
  by_cases hk:(es.length:Int)=k
  ·simp only [hk]
   simp
   refine jjR (ds:=es) (h1:=h) (j:=fun _=>some es) (fun x=> .bl (jq4 x)) (G0T (jar hl)) rfl (fun R r=>⟨.tup es,rfl,r⟩) (fun d hd Q' q' => ?_) (fun p hp=> ?_)
   ·obtain⟨nn,hnn⟩:=jgi (ht d hd)
    refine⟨d,rfl,d,nn,rfl,hnn,jmL d,rfl,?_⟩
    cases d with
    |int i=>exact jk5 ⟨.int i,rfl,q'⟩
    |_=>exact jeo q'
   ·refine⟨p,es.map jq4,rfl,by rw [jaa];simp,h,?_,?_⟩
    ·rw [jcH hp];exact Sub.refl h
    ·simpa [jmM,hk,G2W,G38] using q
  ·simp [hk]
   exact⟨h,Sub.refl h,by simpa [jmM,hk] using q⟩
 |_=>cases hn<;>exact⟨h,Sub.refl h,q⟩
def ja0:RDn:=fun ds h Q=> ∃d,ds= [d]∧okD d=true∧Q (.bl (jk7 d)) h
set_option maxHeartbeats 2000000 in
theorem jdR {n:Nat} {f:Addr} {fd:FuncData} (Z:Zs mg) (F:Fun K "has_table_form" "has_table_form" jaF f fd) (C_is_table_row:jak P w K mg base n "is_table_row" ["thing","size"] jbW) (M_MOST_ROWS: ∃tk,mg "MOST_ROWS" =some (.int 6 tk)):FnOk P w K mg base CX0 (n+1) f fd ["thing"] (LSp K ja0):=by
 obtain⟨g_G_is_table_row,gd_G_is_table_row,G_is_table_row,bG_is_table_row,kG_is_table_row,mG_is_table_row⟩:=C_is_table_row
 obtain⟨tk_MOST_ROWS,m_MOST_ROWS⟩:=M_MOST_ROWS
 refine F.okJ sc_has_table_form (fun ds h Q q=>by obtain⟨d,e,ok,q⟩:=q;subst e;rfl) _ (fun cdv A outer s H E hr=>(jae (jft (jpt (joI (jdl (jcJ (jlu (T:= "tuple") (by decide) rfl Z.isinstance rfl Z.tuple (by decide +kernel) (jv 0)))) (jp9 (jdl (jny jpV jpV jau (jaJ jbC rfl Z.len G1r (jac (jv 0) jad)) (jrM rfl m_MOST_ROWS)))))) (jag (jcz jbl)) jbc) (by exact(jag (jcz (jaJ (jmp rfl) rfl Z.all G4y (jac (jlc (i:=1) (js:= [1]) rfl (jao (by rfl)) (jbY (jv 0)) (by decide) sc_has_table_form.nd rfl (by first|exact Or.inl rfl|exact Or.inr rfl) (fun X' hX=>jbE) (fun X' hX=>by obtain⟨C,s₀,H₀,ex,rfl⟩:=hX;exact(jaC G_is_table_row hr rfl mG_is_table_row kG_is_table_row bG_is_table_row (jac (jv 1) (by exact(jac (jaJ jbC rfl Z.len G1r (jac (jv 0) jad)) jad)))))) jad))))))) ?_
 intro ds h Q q
 obtain⟨d,e,ok,q⟩:=q
 subst e
 obtain⟨nm,hn⟩:=jgi ok
 simp only [jd1,Nxt,je2,je0,jb1,jb2,jbr,dOp,ja2,dIs,jeU,dCB,jbq,jd0,jeW,jcC,dC,jb5,jbb,jd6,je3,je4,jb6,jeV,jeZ,jb3,je1,jb4,dIf,dUn,jgs,dSl,jaT,jce,jfo,jbp,gN,gT2,jcd,jfP,jfQ,jfp,jfk,jgv,jfR,jcl,jfS,jew,eqD,neD,eqE,neE,isV,isN,jgt,jaU,jgu,jfr,jcE,ixD,jfl,jfm,jfn,jaS,jba,jaN,jcD,jfq,slD,jdW,jaB,G0G,G1t,G0h,G0A,List.replicate,G00,G0Q,G03,G04,G0r,G0p,G0E,G1h,D.bl.injEq,D.lst.injEq,hn]
 cases d with
 |tup es=>
  cases hn
  obtain⟨hl,ht⟩:=jkZ ok
  simp only [jpY]
  by_cases h1:1≤es.length
  ·by_cases h6:es.length≤6
   ·have h1' :(1:Int)≤es.length:=by omega
    have h6' :(es.length:Int)≤6:=by omega
    simp [h1',h6']
    refine jjR (ds:=es) (h1:=h) (j:=fun _=>some es) (fun x=> .bl (jmM x es.length)) (G0T (jar hl)) rfl (fun R r=>⟨.tup es,rfl,r⟩) (fun d hd Q' q' => ?_) (fun p hp=> ?_)
    ·exact⟨d,rfl,.tup es,rfl,d,es.length,rfl,ht d hd,q'⟩
    ·refine⟨p,es.map fun x=>jmM x es.length,rfl,by rw [jaa];simp,h,?_,?_⟩
     ·rw [jcH hp];exact Sub.refl h
     ·simpa [jk7,h1,h6,G2W,G38] using q
   ·have h1' :(1:Int)≤es.length:=by omega
    have h6' : ¬ (es.length:Int)≤6:=by omega
    simp [h1',h6']
    exact⟨h,Sub.refl h,by simpa [jk7,h1,h6] using q⟩
  ·have h1' : ¬ (1:Int)≤es.length:=by omega
   simp [h1']
   exact⟨h,Sub.refl h,by simpa [jk7,h1] using q⟩
 |_=>cases hn<;>exact⟨h,Sub.refl h,q⟩
theorem jox {x:Int} (h:0≤x):jq4 (.int x)=true:=G0I h
theorem joy {n e:Nat} {T:List (List Int)} (h:Sq n e T) {r:List Int} (hr:r∈T):jmM (je5 r) n=true:=by
 simp only [jmM,je5,G0a,h.row r hr,decide_true,Bool.true_and,G2W,G1f,Function.comp_apply]
 intro x hx;exact jox (h.nn r hr x hx)
theorem joz {n e:Nat} {T:List (List Int)} (h:Sq n e T) (h1:1≤n) (h6:n≤6):jk7 (jbj T)=true:=by
 simp only [jk7,jbj,G0a,h.len,G0I h1,G0I h6,Bool.true_and,G2W,G1f,Function.comp_apply]
 intro r hr;exact joy h hr
theorem jqV {n e:Nat} {T:List (List Int)} (h:Sq n e T) (h6:n≤6):okD (jbj T)=true:=
 jmN (by rw [G0a,h.len];omega) fun d hd=>by
  obtain⟨r,hr,rfl⟩:=G0N.mp hd
  exact jmN (by rw [G0a,h.row r hr];omega) fun d hd=>by obtain⟨x,_,rfl⟩:=G0N.mp hd;rfl
def jbJ:RDn:=fun ds h Q=> ∃T,∃n e:Nat,ds= [jbj T]∧Sq n e T∧1≤n∧n≤6∧Q .non h
set_option maxHeartbeats 2000000 in
theorem jgj {n:Nat} {f:Addr} {fd:FuncData} (Z:Zs mg) (F:Fun K "want_table" "want_table" jaV f fd) (C_has_table_form:jak P w K mg base n "has_table_form" ["thing"] ja0):FnOk P w K mg base CX0 (n+1) f fd ["thing"] (LSp K jbJ):=by
 obtain⟨g_G_has_table_form,gd_G_has_table_form,G_has_table_form,bG_has_table_form,kG_has_table_form,mG_has_table_form⟩:=C_has_table_form
 refine F.okJ jdB (fun ds h Q q=>by obtain⟨T,k,b,e,hT,h1,h6,q⟩:=q;subst e;rfl) _ (fun cdv A outer s H E hr=>(jag (jft (jdl (jcJ (jaC G_has_table_form hr rfl mG_has_table_form kG_has_table_form bG_has_table_form (jac (jv 0) jad)))) (jag jh4) jbc))) ?_
 intro ds h Q q
 obtain⟨T,k,b,e,hT,h1,h6,q⟩:=q
 subst e
 refine⟨_,rfl,jbj T,rfl,jqV hT h6,_,rfl,?_⟩
 rw [joz hT h1 h6]
 exact jeo ⟨h,Sub.refl h,q⟩
def jb8:RDx:=fun ds h R=> ∃d,ds= [d]∧okD d=true∧jk7 d=false∧R "NoTable" h
set_option maxHeartbeats 2000000 in
theorem jfa {n:Nat} {f:Addr} {fd:FuncData} (Z:Zs mg) (Ex:Exc K mg) (F:Fun K "want_table" "want_table" jaV f fd) (C_has_table_form:jak P w K mg base n "has_table_form" ["thing"] ja0):FnOk P w K mg base (CXR P w) (n+1) f fd ["thing"] (jmv mg K jb8):=by
 obtain⟨g_G_has_table_form,gd_G_has_table_form,G_has_table_form,bG_has_table_form,kG_has_table_form,mG_has_table_form⟩:=C_has_table_form
 refine F.okX jdB (fun ds h R q=>by obtain⟨d,e,ok,bad,q⟩:=q;subst e;rfl) _ (fun cdv A outer s H E hr=>(jqh (jdl (jcJ (jaC G_has_table_form hr rfl mG_has_table_form kG_has_table_form bG_has_table_form (jac (jv 0) jad)))) (jh7 rfl (Ex.own "NoTable" (by decide)) rfl))) ?_
 intro ds h R q
 obtain⟨d,e,ok,bad,q⟩:=q
 subst e
 refine⟨_,rfl,d,rfl,ok,_,rfl,?_⟩
 rw [bad]
 exact⟨rfl,q⟩
def jdS:RDn:=fun ds h Q=> ∃T,∃n e:Nat,ds= [jbj T]∧Sq n e T∧n≤6∧ ∀R rs h',GB n h h' R rs (wk T n)→Q (.lst R) h'
set_option maxHeartbeats 2000000 in
theorem jjc {n:Nat} {f:Addr} {fd:FuncData} (Z:Zs mg) (F:Fun K "reaches" "reaches" jci f fd):FnOk P w K mg base CX0 (n+1) f fd ["table"] (LSp K jdS):=by
 refine F.okJ sc_reaches (fun ds h Q q=>by obtain⟨T,n,b,e,hT,h6,q⟩:=q;subst e;rfl) _ (fun cdv A outer s H E hr=>(jae (jb7 (i:=1) sc_reaches.nd rfl (by first|exact Or.inr rfl|exact Or.inl rfl) (jaJ jbC rfl Z.len G1r (jac (jv 0) jad))) (by exact(jae (jgN (i:=4) (k:=2) (js:= [4]) rfl sc_reaches.nd rfl (Or.inl rfl) (jao (by rfl)) (jcF rfl Z.range (jac (jv 1) jad)) (by decide) rfl (by first|exact Or.inl rfl|exact Or.inr rfl) (fun X' hX=>jbE) (fun X' hX=>by obtain⟨C,s₀,H₀,ex,rfl⟩:=hX;exact(jlc (i:=5) (js:= [5]) rfl (jao (by rfl)) (jcF rfl Z.range (jac (jv 1) jad)) (by decide) sc_reaches.nd rfl (by first|exact Or.inl rfl|exact Or.inr rfl) (fun X' hX=>jbE) (fun X' hX=>by obtain⟨C,s₀,H₀,ex,rfl⟩:=hX;exact(jor (jjg (jgJ hr.units) (jv 4) (jv 5) (jav _)) (jms (jjg oq_ne (jix (jix (jv 0) (jv 4) (fun _ _=>rfl)) (jv 5) (fun _ _=>rfl)) jau (jav _)))))))) (by exact(jae (jgM G1c rfl (jcF rfl Z.range (jac (jv 1) jad)) (ja7 (i:=3) sc_reaches.nd rfl (Or.inl rfl)) (jag (jgM G1c rfl (jcF rfl Z.range (jac (jv 1) jad)) (ja7 (i:=4) sc_reaches.nd rfl (by first|exact Or.inr rfl|exact Or.inl rfl)) (jag (jgM G1c rfl (jcF rfl Z.range (jac (jv 1) jad)) (ja7 (i:=5) sc_reaches.nd rfl (by first|exact Or.inr rfl|exact Or.inl rfl)) (jag (jft (jpt (jiK (jcJ (jix (jix (jv 2) (jv 4) (fun _ _=>rfl)) (jv 3) (fun _ _=>rfl))) (jjV (jcJ (jix (jix (jv 2) (jv 3) (fun _ _=>rfl)) (jv 5) (fun _ _=>rfl)))))) (jag (joJ jbl (jgO (jix (jv 2) (jv 4) (fun _ _=>rfl)) (jv 5)))) jbc))))))) (by exact(jag (jcz (jv 2)))))))))) ?_
 intro ds h Q q
 obtain⟨T,n,b,e,hT,h6,q⟩:=q
 subst e
 refine jai (fun σ' h' =>σ' = [some (jbj T),some (.int (n:Int)),none,none,none,none]∧h=h') (fun C hC=>⟨_,rfl,hC _ _ ⟨by rw [G0a,hT.len];rfl,rfl⟩⟩) ?_
 rintro _ _ ⟨rfl,rfl⟩
 refine jai (fun σ' h' => ∃R rs u v w,σ' = [some (jbj T),some (.int (n:Int)),some (.lst R),u,v,w]∧GB n h h' R rs (wk T 0)) (fun C hC=> ?_) ?_
 ·refine jp6 (h1:=h) n (fun i ys h' => ∃rs,ys=rs.map D.lst∧rs.length=i∧Sub h h' ∧rs.Nodup∧ ∀m a,rs[m]? =some a→h a=none∧h' a=some ((List.range n).map fun j=>D.bl (wk T 0 m j))) (by omega) (fun R r=>⟨_,rfl,r⟩) ⟨[],rfl,rfl,Sub.refl h,List.nodup_nil,by simp⟩ (fun i ys h' ⟨rs,e,el,_⟩=>by rw [e,G0a];exact el) ?_ ?_
  ·rintro i ys h3 hi ⟨rs,rfl,lrs,sb3,nd3,rows3⟩
   refine lcA (List.range n) (fun j=> .int (j:Int)) (fun j=> .bl (wk T 0 i j)) (by rw [G0L];omega) rfl (fun R r=>⟨_,rfl,(n:Int),rfl,by omega,by omega,r⟩) (fun j hj Q' q' =>⟨_,rfl,_,rfl,_,rfl,?_⟩) (fun p5 e5=> ?_)
   ·have hj:=G0z.mp hj
    have q' :Q' (.bl (decide (i=j)|| !decide (ent T i j=0))) h3:=q'
    have ed:decide ((i:Int)=(j:Int))=decide (i=j):=by rw [G1z,G1b,G1b];omega
    rw [ed]
    by_cases c:i=j
    ·rw [G0I c] at q' ⊢
     exact jk5 q'
    ·rw [G0P c] at q' ⊢
     exact jeo ⟨_,rfl,_,rfl,_,jeA hT hi,_,rfl,_,jeB (hT.row _ (Sq.getRow hT hi)) hj,q'⟩
   ·refine⟨_,Sub.refl _,by omega,rs++ [p5],by rw [G0S];rfl,by rw [G0d,lrs];rfl,Sub.newAt sb3 e5,?_,fun m a ha=> ?_⟩
    ·rw [G3w]
     refine⟨nd3,by simp,fun a ha b hb z=> ?_⟩
     rw [G0g.mp hb] at z;subst z
     obtain⟨m,hm⟩:=G2i ha
     rw [(rows3 m _ hm).2] at e5;cases e5
    ·by_cases hm:m<rs.length
     ·rw [G0R hm] at ha
      exact⟨(rows3 m a ha).1,jaf (rows3 m a ha).2 e5⟩
     ·rw [G0s (by omega)] at ha
      have em:m-rs.length=0:=by
       have:=(G0k.mp ha).1
       simp at this;omega
      rw [em] at ha
      have ea:p5=a:=by simpa using ha
      subst ea
      have:m=i:=by omega
      subst this
      exact⟨jcY sb3 e5,jaa⟩
  ·rintro ys h3 ⟨rs,rfl,lrs,sb3,nd3,rows3⟩ R eR
   refine hC _ _ ⟨R,rs,_,_,_,rfl,jaa,lrs,fun hR=> ?_,nd3,Sub.newAt sb3 eR,fun i a ha=>⟨(rows3 i a ha).1,jaf (rows3 i a ha).2 eR⟩⟩
   obtain⟨m,hm⟩:=G2i hR
   rw [(rows3 m _ hm).2] at eR;cases eR
 rintro _ h3 ⟨R,rs,u,v,w,rfl,G⟩
 refine jai (fun σ' h' => ∃u v w,σ' = [some (jbj T),some (.int (n:Int)),some (.lst R),u,v,w]∧GB n h h' R rs (wk T n)) (fun C hC=> ?_) ?_
 ·refine jbD n (fun k σ' h' => ∃u v w,σ' = [some (jbj T),some (.int (n:Int)),some (.lst R),u,v,w]∧GB n h h' R rs (wk T k)) (by omega) (fun R r=>⟨_,rfl,r⟩) ⟨u,v,w,rfl,G⟩ (fun σ' h' z=>hC _ _ z) ?_
  clear G
  rintro k _ h4 hk ⟨u,v,w,rfl,G⟩
  refine jbD n (fun i σ' h' => ∃v w,σ' = [some (jbj T),some (.int (n:Int)),some (.lst R),some (.int (k:Int)),v,w]∧GB n h h' R rs (fW T k i 0)) (by omega) (fun R r=>⟨_,rfl,r⟩) ⟨v,w,rfl,G.as fun x y _ _=>jn8 T k x y⟩ (fun σ' h' ⟨v,w,e,G⟩=>⟨_,Sub.refl _,by omega,_,v,w,e,G.as fun x y hx _=>jqG T k x y hx⟩) ?_
  clear G
  rintro i _ h5 hi ⟨v,w,rfl,G⟩
  refine jbD n (fun j σ' h' => ∃w,σ' = [some (jbj T),some (.int (n:Int)),some (.lst R),some (.int (k:Int)),some (.int (i:Int)),w]∧GB n h h' R rs (fW T k i j)) (by omega) (fun R r=>⟨_,rfl,r⟩) ⟨w,rfl,G⟩ (fun σ' h' ⟨w,e,G⟩=>⟨_,Sub.refl _,by omega,_,w,e,G.as fun x y _ hy=>jn7 T k i x y hy⟩) ?_
  clear G
  rintro j _ h6' hj ⟨w,rfl,G⟩
  obtain⟨a,ha,a1,a2⟩:=G.pick hi
  obtain⟨c,hc,c1,c2⟩:=G.pick hk
  refine⟨_,rfl,_,rfl,_,_,G.at_,a1,_,rfl,_,_,a2,jip hk,_,rfl,?_⟩
  rw [jqD]
  refine jfL (fun z1=> ?_) fun z1=> ?_
  ·refine⟨_,rfl,_,rfl,_,_,G.at_,c1,_,rfl,_,_,c2,jip hj,_,rfl,?_⟩
   rw [jqE]
   refine jfL (fun z2=> ?_) fun z2=> ?_
   ·exact⟨_,rfl,_,rfl,_,_,G.at_,a1,_,rfl,a,(j:Int),_,j,rfl,rfl,a2,jf4 (by rw [G0a,G0L];exact hj),_,Sub.refl _,by omega,_,rfl,(G.put ha).as fun x y _ _=>jqF z1 z2 x y⟩
   ·exact⟨_,Sub.refl _,by omega,_,rfl,G.as fun x y _ _=>jkE (fun z=>z2 z.2) x y⟩
  ·exact⟨_,Sub.refl _,by omega,_,rfl,G.as fun x y _ _=>jkE (fun z=>z1 z.1) x y⟩
 rintro _ h4 ⟨u,v,w,rfl,G⟩
 exact⟨_,rfl,_,Sub.refl _,q R rs h4 G⟩
def jcO:RDn:=fun ds h Q=> ∃R rs h0 T,∃n:Nat,ds= [.lst R]∧GB n h0 h R rs (wk T n)∧n≤6∧ ∀A h',h A=none→h' A=some ((jgf T n).map jaA)→Sub h h' →Q (.lst A) h'
set_option maxHeartbeats 2000000 in
theorem jhi {n:Nat} {f:Addr} {fd:FuncData} (Z:Zs mg) (F:Fun K "pieces_by" "pieces_by" jbs f fd):FnOk P w K mg base CX0 (n+1) f fd ["come"] (LSp K jcO):=by
 refine F.okJ sc_pieces_by (fun ds h Q q=>by obtain⟨R,rs,h0,T,n,e,G,h6,q⟩:=q;subst e;rfl) _ (fun cdv A outer s H E hr=>(jae (jb7 (i:=1) sc_pieces_by.nd rfl (Or.inl rfl) (jaJ jbC rfl Z.len G1r (jac (jv 0) jad))) (by exact(jae (jb7 (i:=2) sc_pieces_by.nd rfl (Or.inl rfl) (jdI jad)) (by exact(jae (jgM G1c rfl (jcF rfl Z.range (jac (jv 1) jad)) (ja7 (i:=3) sc_pieces_by.nd rfl (by first|exact Or.inr rfl|exact Or.inl rfl)) (jae (jb7 (i:=4) sc_pieces_by.nd rfl (Or.inl rfl) (jbS jdk rfl Z.tuple (by decide +kernel) (jac (jlc (i:=5) (js:= [5]) rfl (jao (by rfl)) (jcF rfl Z.range (jac (jv 1) jad)) (by decide) sc_pieces_by.nd rfl (by first|exact Or.inl rfl|exact Or.inr rfl) (fun X' hX=>by obtain⟨C,s₀,H₀,ex,rfl⟩:=hX;exact jcm (jpt (jiK (jcJ (jix (jix (jv 0) (jv 3) (fun _ _=>rfl)) (jv 5) (fun _ _=>rfl))) (jjV (jcJ (jix (jix (jv 0) (jv 5) (fun _ _=>rfl)) (jv 3) (fun _ _=>rfl))))))) (fun X' hX=>by obtain⟨C,s₀,H₀,ex,rfl⟩:=hX;exact(jv 5))) jad))) (by exact(jag (jft (jbo (jgJ hr.units) (jix (jv 4) jau (fun _ _=>rfl)) (jv 3) (jav _)) (jag (jf0 (joK (jv 2) (jv 4)))) jbc))))) (by exact(jag (jcz (jv 2)))))))))) ?_
 intro ds h Q q
 obtain⟨R,rs,h0,T,n,e,G,h6,q⟩:=q
 subst e
 refine jai (fun σ' h' =>σ' = [some (.lst R),some (.int (n:Int)),none,none,none,none]∧h=h') (fun C hC=> ?_) ?_
 ·exact⟨_,rfl,_,G.at_,hC _ _ ⟨by rw [G0a,G.len];rfl,rfl⟩⟩
 rintro _ _ ⟨rfl,rfl⟩
 refine jai (fun σ' h' => ∃A,σ' = [some (.lst R),some (.int (n:Int)),some (.lst A),none,none,none]∧h A=none∧Sub h h' ∧h' A=some []) (fun C hC=>⟨(by show 0≤sizeLine;decide),fun A eA=>hC _ _ ⟨A,rfl,eA,Sub.newAt (Sub.refl h) eA,jaa⟩⟩) ?_
 rintro _ h1 ⟨A,rfl,nA,sb,kA⟩
 refine jai (fun σ' h' => ∃u v w,σ' = [some (.lst R),some (.int (n:Int)),some (.lst A),u,v,w]∧Sub h h' ∧h' A=some ((jgf T n).map jaA)) (fun C hC=> ?_) ?_
 ·refine jbD n (fun k σ' h' => ∃u v w,σ' = [some (.lst R),some (.int (n:Int)),some (.lst A),u,v,w]∧Sub h h' ∧h' A=some (((((List.range k).filter (fun p=>decide ((pcS T n p).headD 0=p))).map (pcS T n))).map jaA)) (by omega) (fun R r=>⟨_,rfl,r⟩) ⟨_,_,_,rfl,sb,kA⟩ (fun σ' h' z=>hC _ _ z) ?_
  clear sb kA
  rintro k _ h2 hk ⟨u,v,w,rfl,sb,kA⟩
  have GG:=G.up sb
  obtain⟨a,ha,a1,a2⟩:=GG.pick hk
  refine jai (fun σ' h' => ∃w,σ' = [some (.lst R),some (.int (n:Int)),some (.lst A),some (.int (k:Int)),some (jaA (pcS T n k)),w]∧h2=h') (fun C hC=> ?_) ?_
  ·refine jlz n (fun j ys h' =>h' =h2∧ys=((List.range j).filter fun i=>wk T n k i&&wk T n i k).map fun (i:Nat)=>D.int (i:Int)) (by omega) (fun R r=>⟨_,rfl,r⟩) ⟨rfl,rfl⟩ (fun j ys h' w=> ?_) (fun j ys h' hj w=> ?_) (fun ys h' w=> ?_)
   ·rw [w.2,G0a]
    exact G0C (G1N _ _) (by rw [G0L];exact G0f _)
   ·obtain⟨rfl,rfl⟩:=w
    obtain⟨c,hc,c1,c2⟩:=GG.pick hj
    refine⟨_,rfl,_,rfl,_,_,GG.at_,a1,_,rfl,_,_,a2,jip hj,_,rfl,jfL (fun z1=> ?_) fun z1=> ?_⟩
    ·refine⟨_,rfl,_,rfl,_,_,GG.at_,c1,_,rfl,_,_,c2,jip hk,_,rfl,jfL (fun z2=> ?_) fun z2=> ?_⟩
     ·refine⟨_,rfl,_,Sub.refl _,by omega,rfl,?_⟩
      rw [G1D,G1K,G0S,G1Q (by rw [z1,z2];rfl)];rfl
     ·refine⟨_,Sub.refl _,by omega,rfl,?_⟩
      rw [G1D,G1K,G0S,G1R (by rw [G0Z];exact fun z=>z2 z.2)];simp
    ·refine⟨_,Sub.refl _,by omega,rfl,?_⟩
     rw [G1D,G1K,G0S,G1R (by rw [G0Z];exact fun z=>z1 z.1)];simp
   ·obtain⟨rfl,rfl⟩:=w
    exact hC _ _ ⟨_,rfl,rfl⟩
  rintro _ _ ⟨w',rfl,rfl⟩
  obtain⟨r,er⟩:=jgg (T:=T) hk
  have a0:((pcS T n k).map fun (i:Nat)=>D.int (i:Int))[0]? =some (.int (((pcS T n k).headD 0:Nat):Int)):=by
   cases z:pcS T n k with
   |nil=>rw [z] at er;cases er
   |cons x r=>rfl
  refine⟨_,rfl,_,jbQ (j:=0) a0,_,rfl,?_⟩
  show ∃k_1,D.bl (decide ((((pcS T n k).headD 0:Nat):Int)=(k:Int)))= .bl k_1∧_
  refine⟨_,rfl,jfL (fun z=> ?_) fun z=> ?_⟩
  ·have z:(pcS T n k).headD 0=k:=by have:=G1l z;omega
   refine⟨_,rfl,A,rfl,_,rfl,_,kA,?_,_,Sub.refl _,by omega,_,_,_,rfl,sb.over nA,?_⟩
   ·rw [G0a,G0a]
    exact jar (G0C (G1N _ _) (by rw [G0L];omega))
   ·rw [jaa,G1D,G1K,G1Q (by rw [G1b];exact z),G3n,G0S,G0S];rfl
  ·have z: ¬ (pcS T n k).headD 0=k:=fun e=>z (G0I (by omega))
   refine⟨_,Sub.refl _,by omega,_,_,_,rfl,sb,?_⟩
   rw [kA,G1D,G1K,G1R (by rw [G1b];exact z),G3n,G1s]
 rintro _ h4 ⟨u,v,w,rfl,sb4,k4⟩
 exact⟨_,rfl,_,Sub.refl _,q A h4 nA k4 sb4⟩
def jeT:RDn:=fun ds h Q=> ∃T,∃n e:Nat,ds= [jbj T]∧Sq n e T∧1≤n∧n≤6∧ ∀A h',h A=none→h' A=some ((jgf T n).map jaA)→Sub h h' →Q (.lst A) h'
set_option maxHeartbeats 2000000 in
theorem jk0 {n:Nat} {f:Addr} {fd:FuncData} (Z:Zs mg) (F:Fun K "pieces" "pieces" jcr f fd) (C_want_table:jak P w K mg base n "want_table" ["thing"] jbJ) (C_pieces_by:jak P w K mg base n "pieces_by" ["come"] jcO) (C_reaches:jak P w K mg base n "reaches" ["table"] jdS):FnOk P w K mg base CX0 (n+1) f fd ["table"] (LSp K jeT):=by
 obtain⟨g_G_want_table,gd_G_want_table,G_want_table,bG_want_table,kG_want_table,mG_want_table⟩:=C_want_table
 obtain⟨g_G_pieces_by,gd_G_pieces_by,G_pieces_by,bG_pieces_by,kG_pieces_by,mG_pieces_by⟩:=C_pieces_by
 obtain⟨g_G_reaches,gd_G_reaches,G_reaches,bG_reaches,kG_reaches,mG_reaches⟩:=C_reaches
 refine F.okJ jhd (fun ds h Q q=>by obtain⟨T,n,b,e,hT,h1,h6,q⟩:=q;subst e;rfl) _ (fun cdv A outer s H E hr=>(jae (jf0 (jaC G_want_table hr rfl mG_want_table kG_want_table bG_want_table (jac (jv 0) jad))) (by exact(jag (jcz (jaC G_pieces_by hr rfl mG_pieces_by kG_pieces_by bG_pieces_by (jac (jaC G_reaches hr rfl mG_reaches kG_reaches bG_reaches (jac (jv 0) jad)) jad))))))) ?_
 intro ds h Q q
 obtain⟨T,n,b,e,hT,h1,h6,q⟩:=q
 subst e
 refine jai (fun σ' h' =>σ' = [some (jbj T)]∧h=h') (fun C hC=>⟨_,rfl,T,n,b,rfl,hT,h1,h6,hC _ _ ⟨rfl,rfl⟩⟩) ?_
 rintro _ _ ⟨rfl,rfl⟩
 exact⟨_,rfl,T,n,b,rfl,hT,h6,fun R rs h2 G=>⟨R,rs,h,T,n,rfl,G,h6,fun A h3 nA kA sb=>⟨_,Sub.refl _,q A h3 (jcY G.sb nA) kA fun x y z=>sb _ _ (G.sb _ _ z)⟩⟩⟩
def jdT:RDx:=fun ds h R=> ∃d,ds= [d]∧okD d=true∧jk7 d=false∧R "NoTable" h
set_option maxHeartbeats 2000000 in
theorem jjd {n:Nat} {f:Addr} {fd:FuncData} (Z:Zs mg) (Ex:Exc K mg) (F:Fun K "pieces" "pieces" jcr f fd) (CR_want_table:jcL P w K mg base n "want_table" ["thing"] jb8):FnOk P w K mg base (CXR P w) (n+1) f fd ["table"] (jmv mg K jdT):=by
 obtain⟨g_GR_want_table,gd_GR_want_table,GR_want_table,bGR_want_table,kGR_want_table,mGR_want_table⟩:=CR_want_table
 refine F.okX jhd (fun ds h R q=>by obtain⟨d,e,ok,bad,q⟩:=q;subst e;rfl) _ (fun cdv A outer s H E hr=>(jnM (jf5 GR_want_table hr rfl mGR_want_table kGR_want_table bGR_want_table (jac (jv 0) jad)))) ?_
 intro ds h R q
 obtain⟨d,e,ok,bad,q⟩:=q
 subst e
 exact⟨_,rfl,d,rfl,ok,bad,q⟩
def jdC:RDn:=fun ds h Q=> ∃T,∃n e:Nat,ds= [jbj T]∧Sq n e T∧1≤n∧n≤6∧Q (.bl (decide ((jgf T n).length=1))) h
set_option maxHeartbeats 2000000 in
theorem jk1 {n:Nat} {f:Addr} {fd:FuncData} (Z:Zs mg) (F:Fun K "joined" "joined" jcs f fd) (C_pieces:jak P w K mg base n "pieces" ["table"] jeT):FnOk P w K mg base CX0 (n+1) f fd ["table"] (LSp K jdC):=by
 obtain⟨g_G_pieces,gd_G_pieces,G_pieces,bG_pieces,kG_pieces,mG_pieces⟩:=C_pieces
 refine F.okJ jhe (fun ds h Q q=>by obtain⟨T,n,b,e,hT,h1,h6,q⟩:=q;subst e;rfl) _ (fun cdv A outer s H E hr=>(jag (jcz (jjg oq_eq (jaJ jbC rfl Z.len G1r (jac (jaC G_pieces hr rfl mG_pieces kG_pieces bG_pieces (jac (jv 0) jad)) jad)) jau (jav _))))) ?_
 intro ds h Q q
 obtain⟨T,n,b,e,hT,h1,h6,q⟩:=q
 subst e
 refine⟨_,rfl,T,n,b,rfl,hT,h1,h6,fun A h2 nA kA sb=>⟨_,kA,?_⟩⟩
 show ∃h0,Sub h0 h2∧Q (.bl (decide (((((jgf T n).map jaA).length:Nat):Int)=1))) h0
 refine⟨h,sb,?_⟩
 rw [G0a,show decide ((((jgf T n).length:Nat):Int)=1)=decide ((jgf T n).length=1) from by rw [G1z,G1b,G1b];omega]
 exact q
def jdU:RDx:=fun ds h R=> ∃d,ds= [d]∧okD d=true∧jk7 d=false∧R "NoTable" h
set_option maxHeartbeats 2000000 in
theorem jje {n:Nat} {f:Addr} {fd:FuncData} (Z:Zs mg) (Ex:Exc K mg) (F:Fun K "joined" "joined" jcs f fd) (CR_pieces:jcL P w K mg base n "pieces" ["table"] jdT):FnOk P w K mg base (CXR P w) (n+1) f fd ["table"] (jmv mg K jdU):=by
 obtain⟨g_GR_pieces,gd_GR_pieces,GR_pieces,bGR_pieces,kGR_pieces,mGR_pieces⟩:=CR_pieces
 refine F.okX jhe (fun ds h R q=>by obtain⟨d,e,ok,bad,q⟩:=q;subst e;rfl) _ (fun cdv A outer s H E hr=>(jqi (jqR (jnW (id:= "len") rfl Z.len (by decide +kernel) (jf5 GR_pieces hr rfl mGR_pieces kGR_pieces bGR_pieces (jac (jv 0) jad)))))) ?_
 intro ds h R q
 obtain⟨d,e,ok,bad,q⟩:=q
 subst e
 exact⟨_,rfl,d,rfl,ok,bad,q⟩
theorem joA {n:Nat} {r:List Int} (h:r.length=n):jhy (r.map D.int)=(List.range n).map fun (j:Nat)=>D.tup [.int (j:Int),.int (r.getD j 0)]:=by
 apply G2H
 intro i
 by_cases hi:i<n
 ·have hi' :i<(jhy (r.map D.int)).length:=by rw [jco,G0a,h];exact hi
  obtain⟨x,hx,ed⟩:=jf2 (G0c hi')
  rw [G0c hi',ed]
  rw [G0o,G1U hi]
  rw [G0o,G0c (by omega)] at hx
  injection hx with hx
  rw [←hx]
  show some (D.tup [D.int (i:Int),D.int r[i]])=some (D.tup [D.int (i:Int),D.int (r.getD i 0)])
  rw [G0M,G0c (show i<r.length by omega)]
  rfl
 ·rw [G1j (by rw [jco,G0a];omega),G1j (by simp;omega)]
def jgk:RDn:=fun ds h Q=> ∃T,∃n e p:Nat,ds= [jbj T,.int (p:Int)]∧Sq n e T∧n≤6∧p<n∧ ∀F,h F=none→Q (.lst F) (jbi h F ((jmu T n p).map fun (k:Nat)=>D.int (k:Int)))
set_option maxHeartbeats 2000000 in
theorem jl9 {n:Nat} {f:Addr} {fd:FuncData} (Z:Zs mg) (F:Fun K "heads" "heads" jdQ f fd):FnOk P w K mg base CX0 (n+1) f fd ["table","place"] (LSp K jgk):=by
 refine F.okJ sc_heads (fun ds h Q q=>by obtain⟨T,n,bb,p,e,hT,n6,hp,q⟩:=q;subst e;rfl) _ (fun cdv A outer s H E hr=>(jag (jcz (js5 (i:=2) (j:=3) (js:= [2,3]) rfl (jao (by rfl)) (jhz rfl Z.enumerate (jac (jix (jv 0) (jv 1) (fun _ _=>rfl)) jad)) (by decide) (by decide) (by decide) sc_heads.nd rfl rfl (by first|exact Or.inl rfl|exact Or.inr rfl) (by first|exact Or.inl rfl|exact Or.inr rfl) (fun X' hX=>by obtain⟨C,s₀,H₀,ex,rfl⟩:=hX;exact jcm (jbo oq_ne (jv 3) jau (jav _))) (fun X' hX=>by obtain⟨C,s₀,H₀,ex,rfl⟩:=hX;exact(jv 2)))))) ?_
 intro ds h Q q
 obtain⟨T,n,bb,p,e,hT,n6,hp,q⟩:=q
 subst e
 refine jtc (j:=fun _=>some (jhy ((T.getD p []).map D.int))) (List.range n) (fun j=> .int (j:Int)) (fun j=> .int ((T.getD p []).getD j 0)) (fun j=> .int (j:Int)) (fun j=>decide (ent T p j>0)) (by rw [G0L];omega) (congrArg some (joA (hT.row _ (Sq.getRow hT hp)))) (fun R r=>⟨_,rfl,_,rfl,_,jeA hT hp,_,rfl,r⟩) (fun x hx Q' q' =>⟨_,rfl,_,rfl,?_⟩) (fun x hx _ Q' q' =>⟨_,rfl,q'⟩) (fun F eF=>⟨_,Sub.refl _,q F eF⟩)
 have hnn:=(hT.ent_nn hp (G0z.mp hx)).1
 have e4:(!decide (((T.getD p []).getD x 0)=0))=decide (ent T p x>0):=by
  show (!decide (ent T p x=0))=_
  by_cases z:ent T p x=0
  ·rw [z];rfl
  ·rw [G0P z,G0I (by omega)];rfl
 rw [←e4] at q';exact q'
theorem ifT {c:Bool} {A B:Prop} (e:c=true) (a:A):if c=true then A else B:=by rw [if_pos e];exact a
theorem ifF {c:Bool} {A B:Prop} (e:c=false) (b:B):if c=true then A else B:=by subst e;exact b
def jbF:RDn:=fun ds h Q=> ∃a b:Nat,ds= [.int (a:Int),.int (b:Int)]∧Q (.int ((Nat.gcd a b:Nat):Int)) h
set_option maxHeartbeats 2000000 in
theorem jd4 {n:Nat} {f:Addr} {fd:FuncData} (Z:Zs mg) (F:Fun K "greatest_into" "greatest_into" jaL f fd):FnOk P w K mg base CX0 (n+1) f fd ["one","other"] (LSp K jbF):=by
 refine F.okJ sc_greatest_into (fun ds h Q q=>by obtain⟨a,b,e,q⟩:=q;subst e;rfl) _ (fun cdv A outer s H E hr=>(jae (jj6 G1c (jbo oq_ne (jv 1) jau (jav _)) (jag (jsp (i:=0) (j:=1) rfl sc_greatest_into.nd rfl rfl (by decide) rfl rfl (jac (jv 1) (by exact(jac (jop jcy (jv 0) (jv 1)) jad))) rfl))) (by exact(jag (jcz (jv 0)))))) ?_
 intro ds h Q q
 obtain⟨a,b,e,q⟩:=q
 subst e
 refine jai (fun σ' h' => ∃d,σ' = [some (.int ((Nat.gcd a b:Nat):Int)),d]∧h=h') (fun C hC=> ?_) ?_
 ·refine jf3 (fun m σ' h' => ∃x:Nat,σ' = [some (.int (x:Int)),some (.int (m:Int))]∧h=h' ∧Nat.gcd x m=Nat.gcd a b) b ⟨a,rfl,rfl,rfl⟩ ?_
  rintro m _ _ ⟨x,rfl,rfl,hg⟩
  refine⟨_,rfl,_,rfl,?_⟩
  by_cases z:m=0
  ·subst z
   rw [Nat.gcd_zero_right] at hg
   subst hg
   exact ifF (by decide) (hC _ _ ⟨_,rfl,rfl⟩)
  ·refine ifT (congrArg not (G0P (show ¬ (m:Int)=0 by omega))) ⟨_,rfl,_,rfl,_,rfl,(by omega:(0:Int)<(m:Int)),_,_,rfl,x%m,_,G3c _ (by omega),Sub.refl _,m,?_,rfl,?_⟩
   ·rw [G4p];rfl
   ·rw [Nat.gcd_comm,←Nat.gcd_rec,Nat.gcd_comm];exact hg
 rintro _ _ ⟨d,rfl,rfl⟩
 exact⟨_,rfl,h,Sub.refl h,q⟩
theorem jk2 {T:List (List Int)} {n:Nat} (w:List Nat):((jmu T n (w.getLastD 0)).filter fun j=>decide (w.headD 0<j)&& !decide (j∈w)).map (fun j=>jaA (w++ [j]))=(jk6 (jaM T) n w).map jaA:=by
 unfold jk6 jmu
 rw [List.filter_filter,G1d]
 have:(fun j=>(decide (w.headD 0<j)&& !decide (j∈w))&&decide (ent T (w.getLastD 0) j>0))=joa (jaM T) w:=by
  funext j
  unfold joa jaM
  rw [Bool.and_comm]
 rw [this];rfl
theorem jiA {T:List (List Int)} {n t:Nat}:((lev (jaM T) n t).flatMap fun w=>((jmu T n (w.getLastD 0)).filter fun j=>decide (w.headD 0<j)&& !decide (j∈w)).map fun j=>jaA (w++ [j]))=(lev (jaM T) n (t+1)).map jaA:=by
 show _=((lev (jaM T) n t).flatMap (jk6 (jaM T) n)).map jaA
 rw [List.map_flatMap]
 exact congrArg (fun f=>(lev (jaM T) n t).flatMap f) (funext fun w=>jk2 w)
def jct:RDn:=fun ds h Q=> ∃T,∃n e:Nat,ds= [jbj T]∧Sq n e T∧1≤n∧n≤6∧ ∀A h',h A=none→h' A=some ((jaK T n).map jaA)→Sub h h' →Q (.lst A) h'
set_option maxHeartbeats 2000000 in
theorem jgl {n:Nat} {f:Addr} {fd:FuncData} (Z:Zs mg) (F:Fun K "all_rounds" "all_rounds" jbd f fd) (C_want_table:jak P w K mg base n "want_table" ["thing"] jbJ) (C_heads:jak P w K mg base n "heads" ["table","place"] jgk):FnOk P w K mg base CX0 (n+1) f fd ["table"] (LSp K jct):=by
 obtain⟨g_G_want_table,gd_G_want_table,G_want_table,bG_want_table,kG_want_table,mG_want_table⟩:=C_want_table
 obtain⟨g_G_heads,gd_G_heads,G_heads,bG_heads,kG_heads,mG_heads⟩:=C_heads
 refine F.okJ sc_all_rounds (fun ds h Q q=>by obtain⟨T,n,b,e,hT,h1,h6,q⟩:=q;subst e;rfl) _ (fun cdv A outer s H E hr=>(jae (jf0 (jaC G_want_table hr rfl mG_want_table kG_want_table bG_want_table (jac (jv 0) jad))) (by exact(jae (jb7 (i:=1) sc_all_rounds.nd rfl (Or.inl rfl) (jdI jad)) (by exact(jae (jgN (i:=3) (k:=2) (js:= [3]) rfl sc_all_rounds.nd rfl (Or.inl rfl) (jao (by rfl)) (jcF rfl Z.range (jac (jaJ jbC rfl Z.len G1r (jac (jv 0) jad)) jad)) (by decide) rfl (by first|exact Or.inl rfl|exact Or.inr rfl) (fun X' hX=>jbE) (fun X' hX=>by obtain⟨C,s₀,H₀,ex,rfl⟩:=hX;exact(jgL (jac (jv 3) jad)))) (by exact(jae (jj6 G1c (jr1 (jv 2)) (jae (jb7 (i:=1) sc_all_rounds.nd rfl (Or.inl rfl) (jop ja3 (jv 1) (jlc (i:=4) (js:= [4]) rfl (jao (by rfl)) (jbY (jv 2)) (by decide) sc_all_rounds.nd rfl (by first|exact Or.inl rfl|exact Or.inr rfl) (fun X' hX=>by obtain⟨C,s₀,H₀,ex,rfl⟩:=hX;exact jcm (jbo oq_ne (jix (jix (jv 0) (jix (jv 4) (jrN jau) (fun _ _=>rfl)) (fun _ _=>rfl)) (jix (jv 4) jau (fun _ _=>rfl)) (fun _ _=>rfl)) jau (jav _))) (fun X' hX=>by obtain⟨C,s₀,H₀,ex,rfl⟩:=hX;exact(jv 4))))) (by exact(jag (jn9 (i:=4) (i' :=5) (k:=2) (js:= [4,5]) rfl sc_all_rounds.nd rfl (Or.inl rfl) (jao (by rfl)) (jbY (jv 2)) (by decide) (by decide) (by decide) rfl rfl (by first|exact Or.inl rfl|exact Or.inr rfl) (by first|exact Or.inl rfl|exact Or.inr rfl) (fun X' hX=>jbE) (fun X' hX=>by obtain⟨C,s₀,H₀,ex,rfl⟩:=hX;exact(jbY (jaC G_heads hr rfl mG_heads kG_heads bG_heads (jac (jv 0) (by exact(jac (jix (jv 4) (jrN jau) (fun _ _=>rfl)) jad)))))) (fun X' hX=>by obtain⟨C,s₀,H₀,ex,rfl⟩:=hX;exact jcm (jpt (jiK (jbo jjM (jv 5) (jix (jv 4) jau (fun _ _=>rfl)) (jav _)) (jjV (jbo (jh5 hr.units) (jv 5) (jv 4) (by with_unfolding_all rfl)))))) (fun X' hX=>by obtain⟨C,s₀,H₀,ex,rfl⟩:=hX;exact(jop ja3 (jv 4) (jgL (jac (jv 5) jad))))))))) (by exact(jag (jcz (jaJ (jfC hr) rfl Z.sorted (by decide +kernel) (jac (jv 1) jad))))))))))))) ?_
 intro ds h Q q
 obtain⟨T,n,b,e,hT,h1,h6,q⟩:=q
 subst e
 refine jai (fun σ' h' =>σ' = [some (jbj T),none,none,none,none,none]∧h=h') (fun C hC=>⟨_,rfl,T,n,b,rfl,hT,h1,h6,hC _ _ ⟨rfl,rfl⟩⟩) ?_
 rintro _ _ ⟨rfl,rfl⟩
 refine jai (fun σ' h' => ∃A,σ' = [some (jbj T),some (.lst A),none,none,none,none]∧h' A=some []∧Sub h h') (fun C hC=>⟨(by show 0≤sizeLine;decide),fun A eA=>hC _ _ ⟨A,rfl,jaa,Sub.newAt (Sub.refl h) eA⟩⟩) ?_
 rintro _ h2 ⟨A,rfl,kA,sA⟩
 refine jai (fun σ' h' => ∃B c,σ' = [some (jbj T),some (.lst A),some (.lst B),c,none,none]∧h' A=some ((jdP (jaM T) n 0).map jaA)∧h' B=some ((lev (jaM T) n 0).map jaA)∧Sub h h') (fun C hC=> ?_) ?_
 ·refine lcA (List.range n) (fun j=> .int (j:Int)) (fun i=>jaA [i]) (by rw [G0L];omega) rfl (fun R r=>⟨_,rfl,(n:Int),by rw [G0a,hT.len],by omega,by omega,r⟩) (fun j hj Q' q' =>⟨_,rfl,(by show 1≤sizeLine;decide),q'⟩) (fun B eB=>hC _ _ ⟨B,_,rfl,jaf kA eB,?_,Sub.newAt sA eB⟩)
  rw [jaa]
  show _=some (((List.range n).map fun i=> [i]).map jaA)
  rw [G1d];rfl
 rintro _ h3 ⟨B,c,rfl,kA,kB,sb⟩
 refine jai (fun σ' h' => ∃A B c,σ' = [some (jbj T),some (.lst A),some (.lst B),c,none,none]∧h' A=some ((jdP (jaM T) n n).map jaA)∧Sub h h') (fun C hC=> ?_) ?_
 ·refine jf3 (fun m σ' h' => ∃ (t:Nat) (A B:Addr) (c:Option D),σ' = [some (jbj T),some (.lst A),some (.lst B),c,none,none]∧m=n-t∧t≤n∧h' A=some ((jdP (jaM T) n t).map jaA)∧h' B=some ((lev (jaM T) n t).map jaA)∧Sub h h') n ⟨0,A,B,c,rfl,rfl,G06 _,kA,kB,sb⟩ ?_
  clear kA kB sb
  rintro m _ h4 ⟨t,A,B,c,rfl,rfl,tn,kA,kB,sb⟩
  refine⟨_,rfl,!((lev (jaM T) n t).map jaA).isEmpty,⟨_,kB,rfl⟩,?_⟩
  by_cases z:(lev (jaM T) n t)= []
  ·rw [z]
   refine jeo (hC _ _ ⟨A,B,c,rfl,?_,sb⟩)
   have:=(jeP (n-t) z).1
   rw [show t+(n-t)=n by omega] at this
   rw [this];exact kA
  ·have tl:t<n:=by
    rcases G12 t n with w|w
    ·exact w
    ·have:t=n:=by omega
     subst this
     exact absurd (jkF h6) z
   have ll:=jgb (g:=jaM T) h6 (show t≤6 by omega)
   have rl:=jdy (g:=jaM T) h6 (show t≤6 by omega)
   have l2:=jgb (g:=jaM T) h6 (show t+1≤6 by omega)
   rw [show (!((lev (jaM T) n t).map jaA).isEmpty)=true from by cases e:(lev (jaM T) n t) with|nil=>exact absurd e z|cons _ _=>rfl]
   refine jk5 ?_
   refine jai (fun σ' h' => ∃A,σ' = [some (jbj T),some (.lst A),some (.lst B),c,none,none]∧h' A=some ((jdP (jaM T) n (t+1)).map jaA)∧h' B=some ((lev (jaM T) n t).map jaA)∧Sub h h') (fun C hC=>⟨_,rfl,?_⟩) ?_
   ·refine lcF (j:=fun h=>h B) (lev (jaM T) n t) jaA jaA (fun w=>jaM T (w.getLastD 0) (w.headD 0)) (by omega) kB (fun R r=>⟨_,rfl,r⟩) (fun w hw Q' q' => ?_) (fun w hw _ Q' q' =>⟨_,rfl,q'⟩) (fun F eF=>⟨_,_,jaf kA eF,jaa,?_,fun p e=>hC _ _ ⟨p,rfl,?_,jaf (jaf kB eF) e,fun a ds x=>jaf (jaf (sb a ds x) eF) e⟩⟩)
    ·have o:=jeO hw
     have he:=o.lt _ (jhL o.len)
     have hh:=o.lt _ (jir o.len)
     refine⟨_,rfl,_,rfl,_,jkI o.len,_,jeA hT he,_,rfl,_,jee o.len,_,jeB (hT.row _ (Sq.getRow hT he)) hh,?_⟩
     have nn:=(hT.ent_nn he hh).1
     have:(!decide (ent T (w.getLastD 0) (w.headD 0)=0))=jaM T (w.getLastD 0) (w.headD 0):=by
      unfold jaM
      rw [G1z,G1b,G4a,G3l];omega
     rw [←this] at q'
     exact⟨_,rfl,q'⟩
    ·have:=G1N (fun w=>jaM T (w.getLastD 0) (w.headD 0)) (lev (jaM T) n t)
     rw [G0a,G0a]
     exact G0T (jar (by omega))
    ·rw [jaa]
     show _=some (((jdP (jaM T) n t)++(lev (jaM T) n t).filter fun w=>jaM T (w.getLastD 0) (w.headD 0)).map jaA)
     rw [G0S]
   clear kA kB sb
   rintro _ h5 ⟨A,rfl,kA,kB,sb⟩
   refine jqI (j:=fun h=>h B) (lev (jaM T) n t) jaA (fun w=>jmu T n (w.getLastD 0)) (fun (j:Nat)=> .int (j:Int)) (fun w j=>decide (w.headD 0<j)&& !decide (j∈w)) (fun w j=>jaA (w++ [j])) ?_ (fun h' s=>s _ _ kB) (fun R r=>⟨_,rfl,r⟩) (fun w hw h' s R r=> ?_) (fun w hw j hj h' s Q' q' => ?_) (fun w hw j hj _ h' s Q' q' => ?_) (fun a h' s ea=> ?_)
   ·rw [jiA,G0a]
    exact G0T (jar (by omega))
   ·have o:=jeO hw
    exact⟨_,rfl,_,rfl,_,jkI o.len,T,n,b,w.getLastD 0,rfl,hT,h6,o.lt _ (jhL o.len),fun F eF=>r _ _ (Sub.newAt (Sub.refl _) eF) fun h3 s3=>s3 _ _ jaa⟩
   ·have o:=jeO hw
    refine⟨_,rfl,_,rfl,_,jee o.len,?_⟩
    show ∃k,D.bl (decide (((w.headD 0:Nat):Int)<(j:Int)))=D.bl k∧_
    rw [show decide (((w.headD 0:Nat):Int)<(j:Int))=decide (w.headD 0<j) from by rw [G1z,G1b,G1b];omega]
    refine⟨_,rfl,?_⟩
    by_cases c:w.headD 0<j
    ·rw [G0I c] at q' ⊢
     exact jk5 ⟨_,rfl,_,rfl,jkC ⟨_,rfl,q'⟩⟩
    ·rw [G0P c] at q' ⊢
     exact jeo q'
   ·have o:=jeO hw
    have e:jaA (w++ [j])= .tup ((w.map fun (k:Nat)=>D.int (k:Int))++ [.int (j:Int)]):=by unfold jaA;rw [List.map_append];rfl
    rw [e] at q'
    refine⟨_,rfl,_,rfl,(by show 1≤sizeLine;decide),?_,q'⟩
    rw [G0a,o.len]
    exact G0T (jar (by simp only [G0h,G0A];omega))
   ·rw [jiA]
    exact⟨n-(t+1),_,by omega,Sub.refl _,t+1,A,a,_,rfl,rfl,by omega,jaf (s _ _ kA) ea,jaa,fun x ds e=>jaf (s _ _ (sb _ _ e)) ea⟩
 clear kA kB sb
 rintro _ h4 ⟨A,B,c,rfl,kA,sb⟩
 refine⟨_,rfl,A,(jdP (jaM T) n n).map toI,rfl,?_,?_,fun p mss hp pm sr=>⟨_,Sub.refl _,q p _ (jcY sb hp) (by rw [jaa,jg6 pm sr];rfl) (Sub.newAt sb hp)⟩⟩
 ·rw [kA,G1d]
  exact congrArg some (G1u fun S _=>(jg5 S).symm)
 ·rw [G0a]
  have:=jdy (g:=jaM T) h6 h6
  exact jar (by omega)
/-- the greatest number that goes into the lengths of all jaK -/
def jcP (T:List (List Int)) (n:Nat):Nat:=((jaK T n).map List.length).foldl Nat.gcd 0
def jhV:RDn:=fun ds h Q=> ∃T,∃n e:Nat,ds= [jbj T]∧Sq n e T∧1≤n∧n≤6∧(jgf T n).length=1∧Q (.int ((jcP T n:Nat):Int)) h
set_option maxHeartbeats 2000000 in
theorem joB {n:Nat} {f:Addr} {fd:FuncData} (Z:Zs mg) (F:Fun K "beat" "beat" jeR f fd) (C_joined:jak P w K mg base n "joined" ["table"] jdC) (C_all_rounds:jak P w K mg base n "all_rounds" ["table"] jct) (C_greatest_into:jak P w K mg base n "greatest_into" ["one","other"] jbF):FnOk P w K mg base CX0 (n+1) f fd ["table"] (LSp K jhV):=by
 obtain⟨g_G_joined,gd_G_joined,G_joined,bG_joined,kG_joined,mG_joined⟩:=C_joined
 obtain⟨g_G_all_rounds,gd_G_all_rounds,G_all_rounds,bG_all_rounds,kG_all_rounds,mG_all_rounds⟩:=C_all_rounds
 obtain⟨g_G_greatest_into,gd_G_greatest_into,G_greatest_into,bG_greatest_into,kG_greatest_into,mG_greatest_into⟩:=C_greatest_into
 refine F.okJ sc_beat (fun ds h Q q=>by obtain⟨T,n,b,e,hT,h1,h6,one,q⟩:=q;subst e;rfl) _ (fun cdv A outer s H E hr=>(jae (jft (jdl (jcJ (jaC G_joined hr rfl mG_joined kG_joined bG_joined (jac (jv 0) jad)))) (jag jh4) jbc) (by exact(jae (jb7 (i:=1) sc_beat.nd rfl (Or.inl rfl) jau) (by exact(jae (jgM G1c rfl (jbY (jaC G_all_rounds hr rfl mG_all_rounds kG_all_rounds bG_all_rounds (jac (jv 0) jad))) (ja7 (i:=2) sc_beat.nd rfl (Or.inl rfl)) (jag (jb7 (i:=1) sc_beat.nd rfl (Or.inl rfl) (jaC G_greatest_into hr rfl mG_greatest_into kG_greatest_into bG_greatest_into (jac (jv 1) (by exact(jac (jaJ jbC rfl Z.len G1r (jac (jv 2) jad)) jad))))))) (by exact(jag (jcz (jv 1)))))))))) ?_
 intro ds h Q q
 obtain⟨T,n,b,e,hT,h1,h6,one,q⟩:=q
 subst e
 refine jai (fun σ' h' =>σ' = [some (jbj T),none,none]∧h=h') (fun C hC=>⟨_,rfl,T,n,b,rfl,hT,h1,h6,_,rfl,?_⟩) ?_
 ·rw [G0I one]
  exact jeo (hC _ _ ⟨rfl,rfl⟩)
 rintro _ _ ⟨rfl,rfl⟩
 refine jai (fun σ' h' =>σ' = [some (jbj T),some (.int 0),none]∧h=h') (fun C hC=>hC _ _ ⟨rfl,rfl⟩) ?_
 rintro _ _ ⟨rfl,rfl⟩
 refine jai (fun σ' h' => ∃v,σ' = [some (jbj T),some (.int ((jcP T n:Nat):Int)),v]∧Sub h h') (fun C hC=>⟨_,rfl,T,n,b,rfl,hT,h1,h6,fun A h2 nA kA sb=> ?_⟩) (fun _ h' ⟨v,e,sb⟩=>by subst e;exact⟨_,rfl,_,sb,q⟩)
 refine jgI (j:=fun h=>h A) ((jaK T n).map jaA) (fun i σ' h' => ∃v,σ' = [some (jbj T),some (.int (((((jaK T n).take i).map List.length).foldl Nat.gcd 0:Nat):Int)),v]∧h2=h') (fun i σ' h' ⟨_,_,z⟩=>by rw [←z];exact kA) ⟨_,rfl,rfl⟩ (fun σ' h' ⟨v,e,z⟩=>hC _ _ ⟨v,by rw [e,G0a,G3G];rfl,by rw [←z];exact sb⟩) ?_
 rintro i d _ _ hi ⟨v,rfl,rfl⟩
 rw [G0o] at hi
 obtain⟨W,hW,rfl⟩:=G1I.mp hi
 have hil:=(G0k.mp hW).1
 refine⟨_,rfl,_,rfl,_,_,rfl,_,Sub.refl _,by rw [G0a];omega,some (jaA W),?_,rfl⟩
 rw [G1E,hW,G0S,List.foldl_append,G0a]
 rfl
def jgm:RDx:=fun ds h R=> ∃d,ds= [d]∧((okD d=true∧jk7 d=false∧R "NoTable" h)∨ ∃T,∃n e:Nat,d=jbj T∧Sq n e T∧1≤n∧n≤6∧(jgf T n).length≠1∧R "Apart" h)
set_option maxHeartbeats 2000000 in
theorem jma {n:Nat} {f:Addr} {fd:FuncData} (Z:Zs mg) (Ex:Exc K mg) (F:Fun K "beat" "beat" jeR f fd) (C_joined:jak P w K mg base n "joined" ["table"] jdC) (CR_joined:jcL P w K mg base n "joined" ["table"] jdU):FnOk P w K mg base (CXR P w) (n+1) f fd ["table"] (jmv mg K jgm):=by
 obtain⟨g_G_joined,gd_G_joined,G_joined,bG_joined,kG_joined,mG_joined⟩:=C_joined
 obtain⟨g_GR_joined,gd_GR_joined,GR_joined,bGR_joined,kGR_joined,mGR_joined⟩:=CR_joined
 refine F.okX sc_beat (fun ds h R q=>by obtain⟨d,e,q⟩:=q;subst e;rfl) _ (fun cdv A outer s H E hr=>(jr0 (jqS (jf5 GR_joined hr rfl mGR_joined kGR_joined bGR_joined (jac (jv 0) jad))) (jqh (jdl (jcJ (jaC G_joined hr rfl mG_joined kG_joined bG_joined (jac (jv 0) jad)))) (jh7 rfl (Ex.own "Apart" (by decide)) rfl)))) ?_
 intro ds h R q
 obtain⟨d,e,q⟩:=q
 subst e
 rcases q with ⟨ok,bad,q⟩|⟨T,n,b,rfl,hT,h1,h6,no,q⟩
 ·exact .inl ⟨_,rfl,d,rfl,ok,bad,q⟩
 ·refine .inr ⟨_,rfl,T,n,b,rfl,hT,h1,h6,_,rfl,?_⟩
  rw [G0P no]
  exact⟨rfl,q⟩
def jcQ:RDn:=fun ds h Q=> ∃ns k,ds= [.scr ns,.int k]∧0≤k∧ ∀n,Q (.int n) h
set_option maxHeartbeats 2000000 in
theorem jhj {n:Nat} {f:Addr} {fd:FuncData} (Z:Zs mg) (F:Fun K "_law_cell" "_law_cell" jbt f fd):FnOk P w K mg base CX0 (n+1) f fd ["_law_script","_law_k"] (LSp K jcQ):=by
 refine F.okJ jhf (fun ds h Q q=>by obtain⟨ns,k,e,h0,q⟩:=q;subst e;rfl) _ (fun cdv A outer s H E hr=>(jae (jft (jbo jpU (jv 1) (jaJ jbC rfl Z.len G1r (jac (jv 0) jad)) (jav _)) (jag (jcz (jix (jv 0) (jv 1) (fun _ _=>rfl)))) jbc) (by exact(jag (jcz jau))))) ?_
 intro ds h Q q
 obtain⟨ns,k,e,h0,q⟩:=q
 subst e
 simp only [jd1,Nxt,je2,je0,jb1,jb2,jbr,dOp,ja2,dIs,jeU,dCB,jbq,jd0,jeW,jcC,dC,jb5,jbb,jd6,je3,je4,jb6,jeV,jeZ,jb3,je1,jb4,dIf,dUn,jgs,dSl,jaT,jce,jfo,jbp,gN,gT2,jcd,jfP,jfQ,jfp,jfk,jgv,jfR,jcl,jfS,jew,eqD,neD,eqE,neE,isV,isN,jgt,jaU,jgu,jfr,jcE,ixD,jfl,jfm,jfn,jaS,jba,jaN,jcD,jfq,slD,jdW,jaB,G0G,G1t,G0h,G0A,List.replicate,G00,G0Q,G03,G04,G0r,G0p,G0E,G1h,D.bl.injEq,D.lst.injEq]
 refine jfL (fun c=> ?_) (fun _=>⟨h,Sub.refl h,q 0⟩)
 have c' :k<(ns.length:Int):=G1l c
 have hk:k.toNat<ns.length:=by omega
 have ek:k=((k.toNat:Nat):Int):=by omega
 have z:=jbQ (G0c hk)
 rw [←ek] at z
 exact⟨ns[k.toNat],z,h,Sub.refl h,q _⟩
def jde:RDn:=fun ds h Q=> ∃c,ds= [.int c]∧ ∀p l fl,h p=none→0≤l→(fl=0∨fl=1)→Q (.lst p) (jbi h p [.int l,.int fl])
set_option maxHeartbeats 2000000 in
theorem jhW {n:Nat} {f:Addr} {fd:FuncData} (Z:Zs mg) (F:Fun K "_law_pen" "_law_pen" jbO f fd):FnOk P w K mg base CX0 (n+1) f fd ["_law_cell_here"] (LSp K jde):=by
 refine F.okJ sc__law_pen (fun ds h Q q=>by obtain⟨c,e,q⟩:=q;subst e;rfl) _ (fun cdv A outer s H E hr=>(jae (jb7 (i:=1) sc__law_pen.nd rfl (Or.inl rfl) (jaJ (jpX rfl) rfl Z.max (by decide +kernel) (jac (jv 0) (by exact(jac (jop jh3 jau (jv 0)) jad))))) (by exact(jag (jcz (jdI (jac (jv 1) (by exact(jac (jbS jmo rfl Z.int (by decide +kernel) (jac (jjg jnr (jv 1) (jop jmn jau jau) (jav _)) jad)) jad))))))))) ?_
 intro ds h Q q
 obtain⟨c,e,q⟩:=q
 subst e
 simp only [jd1,Nxt,je2,je0,jb1,jb2,jbr,dOp,ja2,dIs,jeU,dCB,jbq,jd0,jeW,jcC,dC,jb5,jbb,jd6,je3,je4,jb6,jeV,jeZ,jb3,je1,jb4,dIf,dUn,jgs,dSl,jaT,jce,jfo,jbp,gN,gT2,jcd,jfP,jfQ,jfp,jfk,jgv,jfR,jcl,jfS,jew,eqD,neD,eqE,neE,isV,isN,jgt,jaU,jgu,jfr,jcE,ixD,jfl,jfm,jfn,jaS,jba,jaN,jcD,jfq,slD,jdW,jaB,G0G,G1t,G0h,G0A,List.replicate,G00,G0Q,G03,G04,G0r,G0p,G0E,G1h,D.bl.injEq,D.lst.injEq]
 refine⟨⟨by decide,by decide,by decide⟩,by decide,fun p hp=>⟨_,Sub.refl _,q p _ _ hp ?_ ?_⟩⟩
 ·split<;>omega
 ·split<;>simp<;>omega
def jbh:RDn:=fun ds h Q=> ∃p l fl m,ds= [.lst p,.int m]∧h p=some [.int l,.int fl]∧0≤l∧0<m∧m<2^200∧ ∀r l',0≤r→r<m→0≤l' →Q (.int r) (jbi h p [.int l',.int fl])
set_option maxHeartbeats 2000000 in
theorem jhk {n:Nat} {f:Addr} {fd:FuncData} (Z:Zs mg) (F:Fun K "_law_draw" "_law_draw" jbu f fd):FnOk P w K mg base CX0 (n+1) f fd ["_law_pen_here","_law_many"] (LSp K jbh):=by
 refine F.okJ sc__law_draw (fun ds h Q q=>by obtain⟨p,l,fl,m,e,hp,h0,hm,hm2,q⟩:=q;subst e;rfl) _ (fun cdv A outer s H E hr=>(jae (jft (jbo oq_eq (jix (jv 0) jau (fun _ _=>rfl)) jau (jav _)) (jae (joJ (jaJ jiP rfl Z.divmod (by decide +kernel) (jac (jix (jv 0) jau (fun _ _=>rfl)) (by exact(jac (jv 1) jad)))) (jjW (i:=2) (j:=3) rfl sc__law_draw.nd rfl rfl (Or.inl rfl) (Or.inl rfl))) (by exact(jae (joJ (jv 2) (jgO (jv 0) jau)) (by exact(jag (jcz (jv 3))))))) jbc) (by exact(jae (jb7 (i:=4) sc__law_draw.nd rfl (Or.inl rfl) (jop jcy (jop jfX (jop ja3 (jop jcy (jix (jv 0) jau (fun _ _=>rfl)) jau) jau) jau) jau)) (by exact(jae (jb7 (i:=4) sc__law_draw.nd rfl (Or.inl rfl) (jop jcy (jop ja3 (jop jfX (jv 4) (jv 4)) jau) jau)) (by exact(jae (joJ (jop jcy (jop ja3 (jop jfX (jv 4) jau) jau) jau) (jgO (jv 0) jau)) (by exact(jag (jcz (jop jcy (jop jnq (jix (jv 0) jau (fun _ _=>rfl)) jau) (jv 1))))))))))))) ?_
 intro ds h Q q
 obtain⟨p,l,fl,m,e,hp,h0,hm,hm2,q⟩:=q
 subst e
 simp only [jd1,Nxt,je2,je0,jb1,jb2,jbr,dOp,ja2,dIs,jeU,dCB,jbq,jd0,jeW,jcC,dC,jb5,jbb,jd6,je3,je4,jb6,jeV,jeZ,jb3,je1,jb4,dIf,dUn,jgs,dSl,jaT,jce,jfo,jbp,gN,gT2,jcd,jfP,jfQ,jfp,jfk,jgv,jfR,jcl,jfS,jew,eqD,neD,eqE,neE,isV,isN,jgt,jaU,jgu,jfr,jcE,ixD,jfl,jfm,jfn,jaS,jba,jaN,jcD,jfq,slD,jdW,jaB,G0G,G1t,G0h,G0A,List.replicate,G00,G0Q,G03,G04,G0r,G0p,G0E,G1h,D.bl.injEq,D.lst.injEq,hp]
 refine⟨_,_,rfl,rfl,?_⟩
 show if decide (fl=1)=true then _ else _
 refine jfL (fun _=> ?_) (fun _=> ?_)
 ·exact⟨_,_,rfl,rfl,_,_,rfl,⟨hm,hm2⟩,_,_,rfl,p,0,_,0,rfl,rfl,hp,rfl,_,Sub.refl _,q (l%m) (l / m) (G3o _ (by omega)) (G2T _ hm) (Int.ediv_nonneg h0 (by omega))⟩
 ·have b1:0≤l%2147483647∧l%2147483647<2147483647:=⟨G3o _ (by decide),G2T _ (by decide)⟩
  refine⟨_,_,rfl,rfl,by decide,.inr ⟨by decide,by decide⟩,by decide,?_⟩
  have b2: ∀z:Int,0≤z%2147483629∧z%2147483629<2147483629:=fun z=>⟨G3o _ (by decide),G2T _ (by decide)⟩
  have b3: ∀z:Int,0≤z%2147483587∧z%2147483587<2147483587:=fun z=>⟨G3o _ (by decide),G2T _ (by decide)⟩
  generalize (l%2147483647+40503)*69621=z1
  have c1:CMul (z1%2147483629) (z1%2147483629):=by
   have z:=b2 z1
   exact .inl ⟨by omega,by omega⟩
  generalize (z1%2147483629*(z1%2147483629)+7817)=z2
  generalize ((z2%2147483587)*48271+11)=z3
  have z:=b2 z3
  refine⟨c1,by decide,.inr ⟨by decide,by decide⟩,by decide,p,0,_,0,rfl,rfl,hp,rfl,_,_,jaa,rfl,⟨by decide,by decide⟩,hm,_,Sub.refl _,?_⟩
  exact q (z3%2147483629 / 32%m) (z3%2147483629) (G3o _ (by omega)) (G2T _ hm) z.1
set_option maxHeartbeats 8000000 in
theorem jgn {n:Nat} {f:Addr} {fd:FuncData} (Z:Zs mg) (Ex:Exc K mg) (F:Fun K "_law_kind" "_law_kind" jbv f fd):FnOkU P w K mg base CX0 (n+1) f fd ["_law_e"] (LSp K (jkj mg)):=by
 obtain⟨D_NoOrder,m_NoOrder⟩:=Ex.cls "NoOrder" (by decide)
 obtain⟨D_NoNumber,m_NoNumber⟩:=Ex.cls "NoNumber" (by decide)
 obtain⟨D_NoPlace,m_NoPlace⟩:=Ex.cls "NoPlace" (by decide)
 obtain⟨D_NoTable,m_NoTable⟩:=Ex.cls "NoTable" (by decide)
 obtain⟨D_NoLengths,m_NoLengths⟩:=Ex.cls "NoLengths" (by decide)
 obtain⟨D_NoWalk,m_NoWalk⟩:=Ex.cls "NoWalk" (by decide)
 obtain⟨D_NoSet,m_NoSet⟩:=Ex.cls "NoSet" (by decide)
 obtain⟨D_NoRow,m_NoRow⟩:=Ex.cls "NoRow" (by decide)
 obtain⟨D_Apart,m_Apart⟩:=Ex.cls "Apart" (by decide)
 obtain⟨D_NoWay,m_NoWay⟩:=Ex.cls "NoWay" (by decide)
 obtain⟨D_TooGreat,m_TooGreat⟩:=Ex.cls "TooGreat" (by decide)
 obtain⟨D_NoText,m_NoText⟩:=Ex.cls "NoText" (by decide)
 obtain⟨D_NoTables,m_NoTables⟩:=Ex.cls "NoTables" (by decide)
 refine F.okJU sc__law_kind (fun ds h Q q=>by obtain⟨c,C,e,hc,hm,q⟩:=q;subst e;rfl) _ (fun cdv A outer s H E hr=>(jae (jb7 (i:=1) sc__law_kind.nd rfl (Or.inl rfl) (jdI (jac (jiV rfl Z.isinstance rfl m_NoTable (jv 0)) (by exact(jac (jiV rfl Z.isinstance rfl m_NoPlace (jv 0)) (by exact(jac (jiV rfl Z.isinstance rfl m_NoNumber (jv 0)) (by exact(jac (jiV rfl Z.isinstance rfl m_NoOrder (jv 0)) jad))))))))) (by exact(jae (jb7 (i:=1) sc__law_kind.nd rfl (Or.inl rfl) (jop ja3 (jv 1) (jdI (jac (jiV rfl Z.isinstance rfl m_NoSet (jv 0)) (by exact(jac (jiV rfl Z.isinstance rfl m_NoWalk (jv 0)) (by exact(jac (jiV rfl Z.isinstance rfl m_NoLengths (jv 0)) jad)))))))) (by exact(jae (jb7 (i:=1) sc__law_kind.nd rfl (Or.inl rfl) (jop ja3 (jv 1) (jdI (jac (jiV rfl Z.isinstance rfl m_NoWay (jv 0)) (by exact(jac (jiV rfl Z.isinstance rfl m_Apart (jv 0)) (by exact(jac (jiV rfl Z.isinstance rfl m_NoRow (jv 0)) jad)))))))) (by exact(jae (jb7 (i:=1) sc__law_kind.nd rfl (Or.inl rfl) (jop ja3 (jv 1) (jdI (jac (jiV rfl Z.isinstance rfl m_NoTables (jv 0)) (by exact(jac (jiV rfl Z.isinstance rfl m_NoText (jv 0)) (by exact(jac (jiV rfl Z.isinstance rfl m_TooGreat (jv 0)) jad)))))))) (by exact(jae (jft (jpt (joI (jdl (jcJ (jtg (T:= "ValueError") rfl Z.isinstance rfl Ex.ve (by decide +kernel) (jv 0)))) (jp9 (jbo oq_ne (jtf hr.units (jv 1) jbl) jau (jav _))))) (jag (jcz jfs)) jbc) (by exact(jae (jb7 (i:=2) sc__law_kind.nd rfl (Or.inl rfl) (jdI (jac jfs (by exact(jac jfs (by exact(jac jfs (by exact(jac jfs (by exact(jac jfs (by exact(jac jfs (by exact(jac jfs (by exact(jac jfs (by exact(jac jfs (by exact(jac jfs jad))))))))))))))))))))) (by exact(jag (jcz (jix (jop ja3 (jv 2) (jdI (jac jfs (by exact(jac jfs (by exact(jac jfs jad))))))) (jtb hr.units (jv 1) jbl) (fun _ _=>rfl))))))))))))))))) ?_
 intro ds h Q q
 obtain⟨c,C,e,hc,hm,q⟩:=q
 subst e
 have kit: ∀d∈CN13,∀D,mg d=some (.ref D)→PySem.W.kitOne K (.ref C) (.ref D)=some (c==d):=fun d hd D hD=>Ex.kit c hc d hd C D hm hD
 have ek:=Ex.ek c hc C hm
 have kv:=Ex.val c hc C hm
 refine jai (fun σ' h' => ∃p,σ' = [some (.exc C),some (.lst p),none]∧Sub h h' ∧h' p=some [.bl (c== "NoTable"),.bl (c== "NoPlace"),.bl (c== "NoNumber"),.bl (c== "NoOrder")]) (fun C2 hC=> ?_) ?_
 ·refine⟨_,rfl,C,_,rfl,ek,kit _ (by decide) _ m_NoTable,_,rfl,C,_,rfl,ek,kit _ (by decide) _ m_NoPlace,_,rfl,C,_,rfl,ek,kit _ (by decide) _ m_NoNumber,_,rfl,C,_,rfl,ek,kit _ (by decide) _ m_NoOrder,(by show 4≤sizeLine;decide),fun p e=>hC _ _ ⟨p,rfl,Sub.newAt (Sub.refl h) e,jaa⟩⟩
 rintro _ h1 ⟨p,rfl,sb,k1⟩
 refine jai (fun σ' h' => ∃p,σ' = [some (.exc C),some (.lst p),none]∧Sub h h' ∧h' p=some [.bl (c== "NoTable"),.bl (c== "NoPlace"),.bl (c== "NoNumber"),.bl (c== "NoOrder"),.bl (c== "NoSet"),.bl (c== "NoWalk"),.bl (c== "NoLengths")]) (fun C2 hC=> ?_) ?_
 ·refine⟨_,rfl,_,rfl,C,_,rfl,ek,kit _ (by decide) _ m_NoSet,_,rfl,C,_,rfl,ek,kit _ (by decide) _ m_NoWalk,_,rfl,C,_,rfl,ek,kit _ (by decide) _ m_NoLengths,(by show 3≤sizeLine;decide),fun p2 e2=>⟨_,_,jaf k1 e2,jaa,(by simp only [G0h,G0A];decide),fun p3 e3=>hC _ _ ⟨p3,rfl,Sub.newAt (Sub.newAt sb e2) e3,jaa⟩⟩⟩
 rintro _ h1 ⟨p,rfl,sb,k1⟩
 refine jai (fun σ' h' => ∃p,σ' = [some (.exc C),some (.lst p),none]∧Sub h h' ∧h' p=some [.bl (c== "NoTable"),.bl (c== "NoPlace"),.bl (c== "NoNumber"),.bl (c== "NoOrder"),.bl (c== "NoSet"),.bl (c== "NoWalk"),.bl (c== "NoLengths"),.bl (c== "NoWay"),.bl (c== "Apart"),.bl (c== "NoRow")]) (fun C2 hC=> ?_) ?_
 ·refine⟨_,rfl,_,rfl,C,_,rfl,ek,kit _ (by decide) _ m_NoWay,_,rfl,C,_,rfl,ek,kit _ (by decide) _ m_Apart,_,rfl,C,_,rfl,ek,kit _ (by decide) _ m_NoRow,(by show 3≤sizeLine;decide),fun p2 e2=>⟨_,_,jaf k1 e2,jaa,(by simp only [G0h,G0A];decide),fun p3 e3=>hC _ _ ⟨p3,rfl,Sub.newAt (Sub.newAt sb e2) e3,jaa⟩⟩⟩
 rintro _ h1 ⟨p,rfl,sb,k1⟩
 refine jai (fun σ' h' => ∃p,σ' = [some (.exc C),some (.lst p),none]∧Sub h h' ∧h' p=some [.bl (c== "NoTable"),.bl (c== "NoPlace"),.bl (c== "NoNumber"),.bl (c== "NoOrder"),.bl (c== "NoSet"),.bl (c== "NoWalk"),.bl (c== "NoLengths"),.bl (c== "NoWay"),.bl (c== "Apart"),.bl (c== "NoRow"),.bl (c== "NoTables"),.bl (c== "NoText"),.bl (c== "TooGreat")]) (fun C2 hC=> ?_) ?_
 ·refine⟨_,rfl,_,rfl,C,_,rfl,ek,kit _ (by decide) _ m_NoTables,_,rfl,C,_,rfl,ek,kit _ (by decide) _ m_NoText,_,rfl,C,_,rfl,ek,kit _ (by decide) _ m_TooGreat,(by show 3≤sizeLine;decide),fun p2 e2=>⟨_,_,jaf k1 e2,jaa,(by simp only [G0h,G0A];decide),fun p3 e3=>hC _ _ ⟨p3,rfl,Sub.newAt (Sub.newAt sb e2) e3,jaa⟩⟩⟩
 rintro _ h1 ⟨p,rfl,sb,k1⟩
 have hpG: ∀h' :HD,h' p=some [.bl (c== "NoTable"),.bl (c== "NoPlace"),.bl (c== "NoNumber"),.bl (c== "NoOrder"),.bl (c== "NoSet"),.bl (c== "NoWalk"),.bl (c== "NoLengths"),.bl (c== "NoWay"),.bl (c== "Apart"),.bl (c== "NoRow"),.bl (c== "NoTables"),.bl (c== "NoText"),.bl (c== "TooGreat")]→ToP h' (.lst p) (.list [.bool (c== "NoTable"),.bool (c== "NoPlace"),.bool (c== "NoNumber"),.bool (c== "NoOrder"),.bool (c== "NoSet"),.bool (c== "NoWalk"),.bool (c== "NoLengths"),.bool (c== "NoWay"),.bool (c== "Apart"),.bool (c== "NoRow"),.bool (c== "NoTables"),.bool (c== "NoText"),.bool (c== "TooGreat")]):=fun h' k=>⟨p,_,rfl,k,⟨_,_,rfl,rfl,⟨_,_,rfl,rfl,⟨_,_,rfl,rfl,⟨_,_,rfl,rfl,⟨_,_,rfl,rfl,⟨_,_,rfl,rfl,⟨_,_,rfl,rfl,⟨_,_,rfl,rfl,⟨_,_,rfl,rfl,⟨_,_,rfl,rfl,⟨_,_,rfl,rfl,⟨_,_,rfl,rfl,⟨_,_,rfl,rfl,rfl⟩⟩⟩⟩⟩⟩⟩⟩⟩⟩⟩⟩⟩⟩
 have hpd:=hpG h1 k1
 obtain⟨j,hj,hz,hno,hw⟩: ∃j:Nat,j<10∧ [PyData.bool (c== "NoTable"),PyData.bool (c== "NoPlace"),PyData.bool (c== "NoNumber"),PyData.bool (c== "NoOrder"),PyData.bool (c== "NoSet"),PyData.bool (c== "NoWalk"),PyData.bool (c== "NoLengths"),PyData.bool (c== "NoWay"),PyData.bool (c== "Apart"),PyData.bool (c== "NoRow"),PyData.bool (c== "NoTables"),PyData.bool (c== "NoText"),PyData.bool (c== "TooGreat")][j]? =some (PyData.bool true)∧(∀m y,m<j→ [PyData.bool (c== "NoTable"),PyData.bool (c== "NoPlace"),PyData.bool (c== "NoNumber"),PyData.bool (c== "NoOrder"),PyData.bool (c== "NoSet"),PyData.bool (c== "NoWalk"),PyData.bool (c== "NoLengths"),PyData.bool (c== "NoWay"),PyData.bool (c== "Apart"),PyData.bool (c== "NoRow"),PyData.bool (c== "NoTables"),PyData.bool (c== "NoText"),PyData.bool (c== "TooGreat")][m]? =some y→PyData.eqv y (.bool true)=false)∧atI ([D.str "table",D.str "place",D.str "number",D.str "order",D.str "set",D.str "walk",D.str "lengths",D.str "way",D.str "apart",D.str "row",D.str "tables",D.str "text",D.str "great"]) (j:Int)=some (D.str (jdo c)):=by
  simp only [CN,G0n,G05,G25] at hc
  rcases hc with rfl|rfl|rfl|rfl|rfl|rfl|rfl|rfl|rfl|rfl
  ·exact⟨0,by decide,rfl,by intro m y hm e;rcases m with _|m;all_goals first|(simp only [G0r,G0p,G0E] at e;subst e;rfl)|omega,rfl⟩
  ·exact⟨1,by decide,rfl,by intro m y hm e;rcases m with _|_|m;all_goals first|(simp only [G0r,G0p,G0E] at e;subst e;rfl)|omega,rfl⟩
  ·exact⟨2,by decide,rfl,by intro m y hm e;rcases m with _|_|_|m;all_goals first|(simp only [G0r,G0p,G0E] at e;subst e;rfl)|omega,rfl⟩
  ·exact⟨3,by decide,rfl,by intro m y hm e;rcases m with _|_|_|_|m;all_goals first|(simp only [G0r,G0p,G0E] at e;subst e;rfl)|omega,rfl⟩
  ·exact⟨4,by decide,rfl,by intro m y hm e;rcases m with _|_|_|_|_|m;all_goals first|(simp only [G0r,G0p,G0E] at e;subst e;rfl)|omega,rfl⟩
  ·exact⟨5,by decide,rfl,by intro m y hm e;rcases m with _|_|_|_|_|_|m;all_goals first|(simp only [G0r,G0p,G0E] at e;subst e;rfl)|omega,rfl⟩
  ·exact⟨6,by decide,rfl,by intro m y hm e;rcases m with _|_|_|_|_|_|_|m;all_goals first|(simp only [G0r,G0p,G0E] at e;subst e;rfl)|omega,rfl⟩
  ·exact⟨7,by decide,rfl,by intro m y hm e;rcases m with _|_|_|_|_|_|_|_|m;all_goals first|(simp only [G0r,G0p,G0E] at e;subst e;rfl)|omega,rfl⟩
  ·exact⟨8,by decide,rfl,by intro m y hm e;rcases m with _|_|_|_|_|_|_|_|_|m;all_goals first|(simp only [G0r,G0p,G0E] at e;subst e;rfl)|omega,rfl⟩
  ·exact⟨9,by decide,rfl,by intro m y hm e;rcases m with _|_|_|_|_|_|_|_|_|_|m;all_goals first|(simp only [G0r,G0p,G0E] at e;subst e;rfl)|omega,rfl⟩
 have hcnt:([PyData.bool (c== "NoTable"),PyData.bool (c== "NoPlace"),PyData.bool (c== "NoNumber"),PyData.bool (c== "NoOrder"),PyData.bool (c== "NoSet"),PyData.bool (c== "NoWalk"),PyData.bool (c== "NoLengths"),PyData.bool (c== "NoWay"),PyData.bool (c== "Apart"),PyData.bool (c== "NoRow"),PyData.bool (c== "NoTables"),PyData.bool (c== "NoText"),PyData.bool (c== "TooGreat")].countP fun z=>PyData.eqv z (.bool true))=1:=by
  simp only [CN,G0n,G05,G25] at hc
  rcases hc with rfl|rfl|rfl|rfl|rfl|rfl|rfl|rfl|rfl|rfl<;>rfl
 refine jai (fun σ' h' =>σ' = [some (.exc C),some (.lst p),none]∧h1=h') (fun C2 hC=> ?_) ?_
 ·refine⟨_,rfl,C,_,rfl,ek,kv,_,rfl,jeo ⟨_,rfl,p,rfl,.bool true,_,hpd,rfl,rfl,rfl,by simp [PyData.depth],_,rfl,?_⟩⟩
  rw [hcnt]
  exact jeo (hC _ _ ⟨rfl,rfl⟩)
 rintro _ _ ⟨rfl,rfl⟩
 refine jai (fun σ' h' => ∃w,σ' = [some (.exc C),some (.lst p),some (.lst w)]∧Sub h1 h' ∧h' p=h1 p∧h' w=some [D.str "table",D.str "place",D.str "number",D.str "order",D.str "set",D.str "walk",D.str "lengths",D.str "way",D.str "apart",D.str "row"]) (fun C2 hC=>⟨(by show 10≤sizeLine;decide),fun w e=>hC _ _ ⟨w,rfl,Sub.newAt (Sub.refl h1) e,by rw [k1];exact jaf k1 e,jaa⟩⟩) ?_
 rintro _ h2 ⟨w,rfl,sb2,kp2,kw⟩
 rw [k1] at kp2
 refine⟨_,rfl,(by show 3≤sizeLine;decide),fun p4 e4=>⟨_,_,jaf kw e4,jaa,(by simp only [G0d,G0h,G0A];decide),fun p5 e5=> ?_⟩⟩
 refine⟨_,rfl,p,rfl,.bool true,_,j,_,hpG _ (jaf (jaf kp2 e4) e5),rfl,rfl,rfl,by simp [PyData.depth],by omega,hz,rfl,hno,_,_,jaa,hw,?_⟩
 exact⟨_,Sub.refl _,q _ (Sub.newAt (Sub.newAt (sb.trans sb2) e4) e5)⟩
set_option maxHeartbeats 2000000 in
theorem joC {n:Nat} {f:Addr} {fd:FuncData} (Z:Zs mg) (Ex:Exc K mg) (F:Fun K "_law_said" "_law_said" jbw f fd) (CU:jkf P w K mg base n "_law_kind" ["_law_e"] (jkj mg)):FnOkS P w K mg base CX0 (n+2) f fd ["_law_call"] (jh8 P w K mg base n):=by
 obtain⟨gU,gdU,GU,bGU,kGU,mGU⟩:=CU
 obtain⟨pe,hpe,hex⟩:=Ex.pe
 refine jnR F sc__law_said rfl rfl rfl rfl rfl hpe hex _ (fun cdv A outer s H E x hr=>jae (jb7 (i:=3) sc__law_said.nd rfl (Or.inl rfl) (jqm GU hr rfl mGU kGU bGU (jac (jv 2) jad))) (jae (jft (jbo (jqe hr.units) (jv 3) (jgL (jac jfs (jac jfs jad))) (by with_unfolding_all rfl)) (jag jh4) jbc) (jae (jft (jbo oq_eq (jv 3) jfs (jav _)) (jag jh4) jbc) (jag (jcz (jgL (jac (jv 3) jad))))))) ?_
 intro c hc C h Qd hm q
 refine⟨_,rfl,c,C,rfl,hc,hm,fun h' sb=> ?_⟩
 refine⟨_,rfl,(by show 2≤sizeLine;decide),.str (jdo c),[.str "tables",.str "text"],rfl,.inr ⟨_,rfl,⟨_,_,rfl,rfl,_,_,rfl,rfl,rfl⟩⟩,?_,by decide +kernel,by simp [PyData.depth],_,rfl,?_⟩
 ·simp only [CN,G0n,G05,G25] at hc
  rcases hc with rfl|rfl|rfl|rfl|rfl|rfl|rfl|rfl|rfl|rfl<;>decide +kernel
 have e1:((false !=List.any [PyData.str "tables",PyData.str "text"] fun z=>PyData.eqv z (.str (jdo c))))=false:=by
  simp only [CN,G0n,G05,G25] at hc
  rcases hc with rfl|rfl|rfl|rfl|rfl|rfl|rfl|rfl|rfl|rfl<;>rfl
 rw [e1]
 refine jeo ⟨_,rfl,_,rfl,?_⟩
 have e2:decide (jdo c= "great")=false:=by
  simp only [CN,G0n,G05,G25] at hc
  rcases hc with rfl|rfl|rfl|rfl|rfl|rfl|rfl|rfl|rfl|rfl<;>rfl
 rw [e2]
 exact jeo ⟨_,rfl,(by show 1≤sizeLine;decide),h,sb,q⟩
set_option maxHeartbeats 2000000 in
theorem jhl {n:Nat} {f:Addr} {fd:FuncData} (Z:Zs mg) (F:Fun K "_law_same" "_law_same" jbx f fd):FnOk P w K mg base CX0 (n+1) f fd ["_law_found","_law_due"] (LSp K jj9):=by
 refine F.okJ jhg (fun ds h Q q=>by obtain⟨x,y,pd,e,t1,t2,so,q⟩:=q;subst e;rfl) _ (fun cdv A outer s H E hr=>(jag (jcz (jjg oq_eq (jaJ (jh6 hr) rfl Z.repr (by decide +kernel) (jac (jv 0) jad)) (jaJ (jh6 hr) rfl Z.repr (by decide +kernel) (jac (jv 1) jad)) (jav _))))) ?_
 intro ds h Q q
 obtain⟨x,y,pd,e,t1,t2,so,q⟩:=q
 subst e
 refine⟨_,rfl,x,pd,rfl,t1,so,_,rfl,y,pd,rfl,t2,so,h,Sub.refl h,?_⟩
 rw [G0I rfl];exact q
def jcR:RDn:=fun ds h Q=> ∃p l fl,ds= [.lst p]∧h p=some [.int l,.int fl]∧0≤l∧ ∀ (k:Nat) l',1≤k→k≤6→0≤l' →Q (.int (k:Int)) (jbi h p [.int l',.int fl])
set_option maxHeartbeats 2000000 in
theorem jhm {n:Nat} {f:Addr} {fd:FuncData} (Z:Zs mg) (F:Fun K "_law_size" "_law_size" jby f fd) (C__law_draw:jak P w K mg base n "_law_draw" ["_law_pen_here","_law_many"] jbh):FnOk P w K mg base CX0 (n+1) f fd ["_law_pen_here"] (LSp K jcR):=by
 obtain⟨g_G__law_draw,gd_G__law_draw,G__law_draw,bG__law_draw,kG__law_draw,mG__law_draw⟩:=C__law_draw
 refine F.okJ jhh (fun ds h Q q=>by obtain⟨p,l,fl,e,hp,h0,q⟩:=q;subst e;rfl) _ (fun cdv A outer s H E hr=>(jag (jcz (jix (jdI (jac jau (by exact(jac jau (by exact(jac jau (by exact(jac jau (by exact(jac jau (by exact(jac jau (by exact(jac jau (by exact(jac jau (by exact(jac jau (by exact(jac jau (by exact(jac jau (by exact(jac jau jad)))))))))))))))))))))))) (jaC G__law_draw hr rfl mG__law_draw kG__law_draw bG__law_draw (jac (jv 0) (by exact(jac jau jad)))) (fun _ _=>rfl))))) ?_
 intro ds h Q q
 obtain⟨p,l,fl,e,hp,h0,q⟩:=q
 subst e
 simp only [jd1,Nxt,je2,je0,jb1,jb2,jbr,dOp,ja2,dIs,jeU,dCB,jbq,jd0,jeW,jcC,dC,jb5,jbb,jd6,je3,je4,jb6,jeV,jeZ,jb3,je1,jb4,dIf,dUn,jgs,dSl,jaT,jce,jfo,jbp,gN,gT2,jcd,jfP,jfQ,jfp,jfk,jgv,jfR,jcl,jfS,jew,eqD,neD,eqE,neE,isV,isN,jgt,jaU,jgu,jfr,jcE,ixD,jfl,jfm,jfn,jaS,jba,jaN,jcD,jfq,slD,jdW,jaB,G0G,G1t,G0h,G0A,List.replicate,G00,G0Q,G03,G04,G0r,G0p,G0E,G1h,D.bl.injEq,D.lst.injEq,hp]
 refine⟨by decide,fun p1 e1=>⟨p,l,fl,12,rfl,jaf hp e1,h0,by decide,by decide,fun r l' r0 r1 l0=> ?_⟩⟩
 obtain⟨d,hd,ed⟩:=jdH (xs:= [D.int 1,D.int 2,D.int 3,D.int 4,D.int 5,D.int 3,D.int 4,D.int 2,D.int 6,D.int 5,D.int 4,D.int 3]) r0 r1
 refine⟨_,d,jah (jap hp e1) jaa,ed,_,Sub.both (Sub.newAt (Sub.refl h) e1),?_⟩
 have q' : ∀k:Nat,1≤k→k≤6→Q (.int (k:Int)) (jbi h p [.int l',.int fl]):=fun k a b=>q k l' a b l0
 simp only [G0n,G05,G25] at hd
 rcases hd with e|e|e|e|e|e|e|e|e|e|e|e<;>subst e
 ·exact q' 1 (by decide) (by decide)
 ·exact q' 2 (by decide) (by decide)
 ·exact q' 3 (by decide) (by decide)
 ·exact q' 4 (by decide) (by decide)
 ·exact q' 5 (by decide) (by decide)
 ·exact q' 3 (by decide) (by decide)
 ·exact q' 4 (by decide) (by decide)
 ·exact q' 2 (by decide) (by decide)
 ·exact q' 6 (by decide) (by decide)
 ·exact q' 5 (by decide) (by decide)
 ·exact q' 4 (by decide) (by decide)
 ·exact q' 3 (by decide) (by decide)
def ja1:RDn:=fun ds h Q=> ∃p l fl,∃k:Nat,ds= [.lst p,.int (k:Int)]∧h p=some [.int l,.int fl]∧0≤l∧1≤k∧k≤6∧ ∀T l',GoodTab k T→0≤l' →Q (jbj T) (jbi h p [.int l',.int fl])
set_option maxHeartbeats 2000000 in
theorem jgo {n:Nat} {f:Addr} {fd:FuncData} (Z:Zs mg) (F:Fun K "_law_table" "_law_table" jbe f fd) (C__law_draw:jak P w K mg base n "_law_draw" ["_law_pen_here","_law_many"] jbh):FnOk P w K mg base CX0 (n+1) f fd ["_law_pen_here","_law_size_here"] (LSp K ja1):=by
 obtain⟨g_G__law_draw,gd_G__law_draw,G__law_draw,bG__law_draw,kG__law_draw,mG__law_draw⟩:=C__law_draw
 refine F.okJ sc__law_table (fun ds h Q q=>by obtain⟨p,l,fl,k,e,hp,h0,hk1,hk6,q⟩:=q;subst e;rfl) _ (fun cdv A outer s H E hr=>(jae (jsp (i:=2) (j:=3) rfl sc__law_table.nd rfl rfl (by decide) rfl rfl (jac (jaC G__law_draw hr rfl mG__law_draw kG__law_draw bG__law_draw (jac (jv 0) (by exact(jac jau jad)))) (by exact(jac (jix (jdI (jac jau (by exact(jac jau (by exact(jac jau jad)))))) (jaC G__law_draw hr rfl mG__law_draw kG__law_draw bG__law_draw (jac (jv 0) (by exact(jac jau jad)))) (fun _ _=>rfl)) jad))) rfl) (by exact(jae (jb7 (i:=4) sc__law_table.nd rfl (Or.inl rfl) (jix (jdI (jac jau (by exact(jac jau (by exact(jac jau (by exact(jac (jop jmn jau jau) jad)))))))) (jaC G__law_draw hr rfl mG__law_draw kG__law_draw bG__law_draw (jac (jv 0) (by exact(jac jau jad)))) (fun _ _=>rfl))) (by exact(jae (jb7 (i:=5) sc__law_table.nd rfl (Or.inl rfl) (jdI jad)) (by exact(jae (jgM G1c rfl (jcF rfl Z.range (jac (jv 1) jad)) (ja7 (i:=6) sc__law_table.nd rfl (Or.inl rfl)) (jae (jb7 (i:=7) sc__law_table.nd rfl (Or.inl rfl) (jdI jad)) (by exact(jae (jgM G1c rfl (jcF rfl Z.range (jac (jv 1) jad)) (ja7 (i:=8) sc__law_table.nd rfl (Or.inl rfl)) (jae (jb7 (i:=9) sc__law_table.nd rfl (Or.inl rfl) (jjg oq_eq (jaC G__law_draw hr rfl mG__law_draw kG__law_draw bG__law_draw (jac (jv 0) (by exact(jac (jv 3) jad)))) jau (jav _))) (by exact(jae (jft (jbo jpU (jv 2) jau (jav _)) (jag (jb7 (i:=9) sc__law_table.nd rfl (Or.inl rfl) (jor (jjg oq_eq (jv 8) (jop jcy (jop ja3 (jv 6) jau) (jv 1)) (jav _)) (jms (jqa (jv 9) (jms (jjg (jgJ hr.units) (jaC G__law_draw hr rfl mG__law_draw kG__law_draw bG__law_draw (jac (jv 0) (by exact(jac jau jad)))) (jv 2) (jav _)))))))) jbc) (by exact(jae (jft (jbo oq_eq (jv 2) jau (jav _)) (jag (jb7 (i:=9) sc__law_table.nd rfl (Or.inl rfl) (jor (jqa (jv 9) (jms (jjg oq_eq (jop jcy (jop jh3 (jv 8) (jv 6)) jau) jau (jav _)))) (jms (jjg (jgJ hr.units) (jv 8) (jop ja3 (jv 6) jau) (jav _)))))) jbc) (by exact(jae (jft (jbo oq_eq (jv 2) jau (jav _)) (jag (jb7 (i:=9) sc__law_table.nd rfl (Or.inl rfl) (jqa (jv 9) (jms (jjg jnr (jv 8) (jv 6) (jav _)))))) jbc) (by exact(jag (jf0 (joK (jv 7) (jop jfX (jbS jmo rfl Z.int (by decide +kernel) (jac (jv 9) jad)) (jop ja3 jau (jaC G__law_draw hr rfl mG__law_draw kG__law_draw bG__law_draw (jac (jv 0) (by exact(jac (jv 4) jad)))))))))))))))))) (by exact(jag (jf0 (joK (jv 5) (jbS cq_tuple rfl Z.tuple (by decide +kernel) (jac (jv 7) jad)))))))))) (by exact(jag (jcz (jbS cq_tuple rfl Z.tuple (by decide +kernel) (jac (jv 5) jad))))))))))))) ?_
 intro ds h Q q
 obtain⟨p,l,fl,k,e,hp,h0,hk1,hk6,q⟩:=q
 subst e
 refine jai (fun σ' h' => ∃way o l2,σ' = [some (.lst p),some (.int (k:Int)),some (.int way),some (.int o),none,none,none,none,none,none]∧0<o∧o<1000∧0≤l2∧h' p=some [.int l2,.int fl]∧But p h h') (fun C hC=> ?_) (fun σ' h' hV=> ?_)
 ·simp only [jd1,Nxt,je2,je0,jb1,jb2,jbr,dOp,ja2,dIs,jeU,dCB,jbq,jd0,jeW,jcC,dC,jb5,jbb,jd6,je3,je4,jb6,jeV,jeZ,jb3,je1,jb4,dIf,dUn,jgs,dSl,jaT,jce,jfo,jbp,gN,gT2,jcd,jfP,jfQ,jfp,jfk,jgv,jfR,jcl,jfS,jew,eqD,neD,eqE,neE,isV,isN,jgt,jaU,jgu,jfr,jcE,ixD,jfl,jfm,jfn,jaS,jba,jaN,jcD,jfq,slD,jdW,jaB,G0G,G1t,G0h,G0A,List.replicate,G00,G0Q,G03,G04,G0r,G0p,G0E,G1h,D.bl.injEq,D.lst.injEq,hp]
  refine⟨p,l,fl,6,rfl,hp,h0,by decide,by decide,fun way l1 w0 w1 l10=> ?_⟩
  refine⟨by decide,fun p1 e1=>⟨p,l1,fl,3,rfl,jaf jaa e1,l10,by decide,by decide,fun r l2 r0 r1 l20=> ?_⟩⟩
  obtain⟨oft,ho,eo⟩:=jdH (xs:= [D.int 2,D.int 3,D.int 5]) r0 r1
  refine⟨_,oft,jah (jap jaa e1) jaa,eo,?_⟩
  obtain⟨o,e,o1,o2⟩: ∃o:Int,oft= .int o∧0<o∧o<1000:=by
   simp only [G0n,G05,G25] at ho
   rcases ho with e|e|e<;>exact⟨_,e,by decide,by decide⟩
  subst e
  exact⟨_,_,rfl,hC _ _ ⟨way,o,l2,rfl,o1,o2,l20,jaa,((But.upd).new e1).put⟩⟩
 obtain⟨way,o,l2,e,o1,o2,l20,kA,bA⟩:=hV
 subst e
 refine jai (fun σ' h' => ∃m l3,σ' = [some (.lst p),some (.int (k:Int)),some (.int way),some (.int o),some (.int m),none,none,none,none,none]∧0<m∧m≤1000000∧0≤l3∧h' p=some [.int l3,.int fl]∧But p h h') (fun C hC=> ?_) (fun σ' h' hV=> ?_)
 ·simp only [jd1,Nxt,je2,je0,jb1,jb2,jbr,dOp,ja2,dIs,jeU,dCB,jbq,jd0,jeW,jcC,dC,jb5,jbb,jd6,je3,je4,jb6,jeV,jeZ,jb3,je1,jb4,dIf,dUn,jgs,dSl,jaT,jce,jfo,jbp,gN,gT2,jcd,jfP,jfQ,jfp,jfk,jgv,jfR,jcl,jfS,jew,eqD,neD,eqE,neE,isV,isN,jgt,jaU,jgu,jfr,jcE,ixD,jfl,jfm,jfn,jaS,jba,jaN,jcD,jfq,slD,jdW,jaB,G0G,G1t,G0h,G0A,List.replicate,G00,G0Q,G03,G04,G0r,G0p,G0E,G1h,D.bl.injEq,D.lst.injEq]
  refine⟨⟨by decide,by decide,by decide⟩,by decide,fun p1 e1=>⟨p,l2,fl,4,rfl,jaf kA e1,l20,by decide,by decide,fun r l3 r0 r1 l30=> ?_⟩⟩
  obtain⟨most,ho,eo⟩:=jdH (xs:= [D.int 1,D.int 1,D.int 3,D.int (10^Int.toNat 6)]) r0 r1
  refine⟨_,most,jah (jap kA e1) jaa,eo,?_⟩
  obtain⟨m,e,o1,o2⟩: ∃o:Int,most= .int o∧0<o∧o≤1000000:=by
   simp only [G0n,G05,G25] at ho
   rcases ho with e|e|e|e<;>exact⟨_,e,by decide,by decide⟩
  subst e
  exact hC _ _ ⟨m,l3,rfl,o1,o2,l30,jaa,(bA.new e1).put⟩
 obtain⟨m,l3,e,m1,m2,l30,kB,bB⟩:=hV
 subst e
 refine jai (fun σ' h' => ∃R,σ' = [some (.lst p),some (.int (k:Int)),some (.int way),some (.int o),some (.int m),some (.lst R),none,none,none,none]∧R≠p∧h R=none∧h' R=some []∧h' p=some [.int l3,.int fl]∧But p h h') (fun C hC=> ?_) (fun σ' h' hV=> ?_)
 ·simp only [jd1,Nxt,je2,je0,jb1,jb2,jbr,dOp,ja2,dIs,jeU,dCB,jbq,jd0,jeW,jcC,dC,jb5,jbb,jd6,je3,je4,jb6,jeV,jeZ,jb3,je1,jb4,dIf,dUn,jgs,dSl,jaT,jce,jfo,jbp,gN,gT2,jcd,jfP,jfQ,jfp,jfk,jgv,jfR,jcl,jfS,jew,eqD,neD,eqE,neE,isV,isN,jgt,jaU,jgu,jfr,jcE,ixD,jfl,jfm,jfn,jaS,jba,jaN,jcD,jfq,slD,jdW,jaB,G0G,G1t,G0h,G0A,List.replicate,G00,G0Q,G03,G04,G0r,G0p,G0E,G1h,D.bl.injEq,D.lst.injEq]
  exact⟨by decide,fun R eR=>hC _ _ ⟨R,rfl,jap kB eR,jfY bB eR (jap kB eR),jaa,jaf kB eR,bB.new eR⟩⟩
 obtain⟨R,e,nR,fR,kR,kC,bC⟩:=hV
 subst e
 refine jai (fun σ' h' => ∃a b c d l4 rows,σ' = [some (.lst p),some (.int (k:Int)),some (.int way),some (.int o),some (.int m),some (.lst R),a,b,c,d]∧0≤l4∧h' p=some [.int l4,.int fl]∧h' R=some (rows.map je5)∧But p h h' ∧GoodTab k rows) (fun C hC=> ?_) (fun σ' h' hV=> ?_)
 rotate_left
 ·obtain⟨a,b,c,d,l4,rows,e,l40,kD,kE,bD,g⟩:=hV
  subst e
  simp only [jd1,Nxt,je2,je0,jb1,jb2,jbr,dOp,ja2,dIs,jeU,dCB,jbq,jd0,jeW,jcC,dC,jb5,jbb,jd6,je3,je4,jb6,jeV,jeZ,jb3,je1,jb4,dIf,dUn,jgs,dSl,jaT,jce,jfo,jbp,gN,gT2,jcd,jfP,jfQ,jfp,jfk,jgv,jfR,jcl,jfS,jew,eqD,neD,eqE,neE,isV,isN,jgt,jaU,jgu,jfr,jcE,ixD,jfl,jfm,jfn,jaS,jba,jaN,jcD,jfq,slD,jdW,jaB,G0G,G1t,G0h,G0A,List.replicate,G00,G0Q,G03,G04,G0r,G0p,G0E,G1h,D.bl.injEq,D.lst.injEq]
  exact⟨_,kE,_,bD.sub kD,q rows l4 g l40⟩
 refine jbD k (fun i σ' h' => ∃a b c d l4 rows,σ' = [some (.lst p),some (.int (k:Int)),some (.int way),some (.int o),some (.int m),some (.lst R),a,b,c,d]∧0≤l4∧h' p=some [.int l4,.int fl]∧h' R=some (rows.map je5)∧But p h h' ∧rows.length=i∧ ∀r∈rows,jcn k r) (by omega) (fun R' r=>⟨_,rfl,r⟩)
  ⟨none,none,none,none,l3,[],rfl,l30,kC,kR,bC,rfl,fun r hr=>nomatch hr⟩ (fun σ' h' ⟨a,b,c,d,l4,rows,e,l40,kD,kE,bD,g1,g2⟩=>hC _ _ ⟨a,b,c,d,l4,rows,e,l40,kD,kE,bD,g1,g2⟩) ?_
 rintro i σ' h' hi ⟨a,b,c,d,l4,rows,e,l40,kD,kE,bD,g1,g2⟩
 subst e
 show jd1 _ _ _ [some (.lst p),some (.int (k:Int)),some (.int way),some (.int o),some (.int m),some (.lst R),some (.int (i:Int)),b,c,d] h'
 refine jai (fun σ' h' => ∃S,σ' = [some (.lst p),some (.int (k:Int)),some (.int way),some (.int o),some (.int m),some (.lst R),some (.int (i:Int)),some (.lst S),c,d]∧S≠p∧S≠R∧h S=none∧h' S=some []∧h' p=some [.int l4,.int fl]∧h' R=some (rows.map je5)∧But p h h') (fun C hC=> ?_) (fun σ' h' hV=> ?_)
 ·simp only [jd1,Nxt,je2,je0,jb1,jb2,jbr,dOp,ja2,dIs,jeU,dCB,jbq,jd0,jeW,jcC,dC,jb5,jbb,jd6,je3,je4,jb6,jeV,jeZ,jb3,je1,jb4,dIf,dUn,jgs,dSl,jaT,jce,jfo,jbp,gN,gT2,jcd,jfP,jfQ,jfp,jfk,jgv,jfR,jcl,jfS,jew,eqD,neD,eqE,neE,isV,isN,jgt,jaU,jgu,jfr,jcE,ixD,jfl,jfm,jfn,jaS,jba,jaN,jcD,jfq,slD,jdW,jaB,G0G,G1t,G0h,G0A,List.replicate,G00,G0Q,G03,G04,G0r,G0p,G0E,G1h,D.bl.injEq,D.lst.injEq]
  exact⟨by decide,fun S eS=>hC _ _ ⟨S,rfl,jap kD eS,jap kE eS,jfY bD eS (jap kD eS),jaa,jaf kD eS,jaf kE eS,bD.new eS⟩⟩
 obtain⟨S,e,nS,nSR,fS,kS,kD,kE,bD⟩:=hV
 subst e
 refine jai (fun σ' h' => ∃c d l5 row,σ' = [some (.lst p),some (.int (k:Int)),some (.int way),some (.int o),some (.int m),some (.lst R),some (.int (i:Int)),some (.lst S),c,d]∧0≤l5∧h' p=some [.int l5,.int fl]∧h' R=some (rows.map je5)∧h' S=some (row.map D.int)∧But p h h' ∧jcn k row) (fun C hC=> ?_) (fun σ' h' hV=> ?_)
 rotate_left
 ·obtain⟨c,d,l5,row,e,l50,kD,kE,kF,bD,g⟩:=hV
  subst e
  simp only [jd1,Nxt,je2,je0,jb1,jb2,jbr,dOp,ja2,dIs,jeU,dCB,jbq,jd0,jeW,jcC,dC,jb5,jbb,jd6,je3,je4,jb6,jeV,jeZ,jb3,je1,jb4,dIf,dUn,jgs,dSl,jaT,jce,jfo,jbp,gN,gT2,jcd,jfP,jfQ,jfp,jfk,jgv,jfR,jcl,jfS,jew,eqD,neD,eqE,neE,isV,isN,jgt,jaU,jgu,jfr,jcE,ixD,jfl,jfm,jfn,jaS,jba,jaN,jcD,jfq,slD,jdW,jaB,G0G,G1t,G0h,G0A,List.replicate,G00,G0Q,G03,G04,G0r,G0p,G0E,G1h,D.bl.injEq,D.lst.injEq]
  refine⟨_,kF,_,kE,?_,_,Sub.refl _,by omega,_,_,_,_,l5,rows++ [row],rfl,l50,jah (Ne.symm nR) kD,?_,bD.putNew fR,by simp [g1],?_⟩
  ·rw [G0a];exact G1Z (show rows.length≤1000 by omega) (by decide)
  ·rw [jaa,G0S];rfl
  ·intro r hr
   rcases G0u.mp hr with z|z
   ·exact g2 r z
   ·rw [G0g.mp z];exact g
 refine jbD k (fun j σ' h' => ∃c d l5 row,σ' = [some (.lst p),some (.int (k:Int)),some (.int way),some (.int o),some (.int m),some (.lst R),some (.int (i:Int)),some (.lst S),c,d]∧0≤l5∧h' p=some [.int l5,.int fl]∧h' R=some (rows.map je5)∧h' S=some (row.map D.int)∧But p h h' ∧row.length=j∧ ∀x∈row,0≤x∧x≤1000000) (by omega) (fun R' r=>⟨_,rfl,r⟩)
  ⟨_,_,l4,[],rfl,l40,kD,kE,kS,bD,rfl,fun r hr=>nomatch hr⟩ (fun σ' h' ⟨c,d,l5,row,e,l50,kD,kE,kF,bD,g1,g2⟩=>hC _ _ ⟨c,d,l5,row,e,l50,kD,kE,kF,bD,g1,g2⟩) ?_
 rintro j σ' h' hj ⟨c,d,l5,row,e,l50,kD,kE,kF,bD,g1',g2'⟩
 subst e
 show jd1 _ _ _ [some (.lst p),some (.int (k:Int)),some (.int way),some (.int o),some (.int m),some (.lst R),some (.int (i:Int)),some (.lst S),some (.int (j:Int)),d] h'
 refine jai (fun σ' h' => ∃ (g:Bool) (l6:Int),σ' = [some (.lst p),some (.int (k:Int)),some (.int way),some (.int o),some (.int m),some (.lst R),some (.int (i:Int)),some (.lst S),some (.int (j:Int)),some (.bl g)]∧0≤l6∧h' p=some [.int l6,.int fl]∧h' R=some (rows.map je5)∧h' S=some (row.map D.int)∧But p h h') (fun C hC=> ?_) (fun σ' h' hV=> ?_)
 ·simp only [jd1,Nxt,je2,je0,jb1,jb2,jbr,dOp,ja2,dIs,jeU,dCB,jbq,jd0,jeW,jcC,dC,jb5,jbb,jd6,je3,je4,jb6,jeV,jeZ,jb3,je1,jb4,dIf,dUn,jgs,dSl,jaT,jce,jfo,jbp,gN,gT2,jcd,jfP,jfQ,jfp,jfk,jgv,jfR,jcl,jfS,jew,eqD,neD,eqE,neE,isV,isN,jgt,jaU,jgu,jfr,jcE,ixD,jfl,jfm,jfn,jaS,jba,jaN,jcD,jfq,slD,jdW,jaB,G0G,G1t,G0h,G0A,List.replicate,G00,G0Q,G03,G04,G0r,G0p,G0E,G1h,D.bl.injEq,D.lst.injEq]
  exact⟨p,l5,fl,o,rfl,kD,l50,o1,by omega,fun r l6 r0 r1 l60=>hC _ _ ⟨_,l6,rfl,l60,jaa,jah nR kE,jah nS kF,bD.put⟩⟩
 obtain⟨g,l6,e,l60,kD,kE,kF,bD⟩:=hV
 subst e
 refine jai (fun σ' h' => ∃ (g:Bool) (l6:Int),σ' = [some (.lst p),some (.int (k:Int)),some (.int way),some (.int o),some (.int m),some (.lst R),some (.int (i:Int)),some (.lst S),some (.int (j:Int)),some (.bl g)]∧0≤l6∧h' p=some [.int l6,.int fl]∧h' R=some (rows.map je5)∧h' S=some (row.map D.int)∧But p h h') (fun C hC=> ?_) (fun σ' h' hV=> ?_)
 ·simp only [jd1,Nxt,je2,je0,jb1,jb2,jbr,dOp,ja2,dIs,jeU,dCB,jbq,jd0,jeW,jcC,dC,jb5,jbb,jd6,je3,je4,jb6,jeV,jeZ,jb3,je1,jb4,dIf,dUn,jgs,dSl,jaT,jce,jfo,jbp,gN,gT2,jcd,jfP,jfQ,jfp,jfk,jgv,jfR,jcl,jfS,jew,eqD,neD,eqE,neE,isV,isN,jgt,jaU,jgu,jfr,jcE,ixD,jfl,jfm,jfn,jaS,jba,jaN,jcD,jfq,slD,jdW,jaB,G0G,G1t,G0h,G0A,List.replicate,G00,G0Q,G03,G04,G0r,G0p,G0E,G1h,D.bl.injEq,D.lst.injEq]
  refine jfL (fun _=> ?_) (fun _=>hC _ _ ⟨g,l6,rfl,l60,kD,kE,kF,bD⟩)
  refine⟨by omega,?_⟩
  refine jfL (fun _=>hC _ _ ⟨_,l6,rfl,l60,kD,kE,kF,bD⟩) (fun _=> ?_)
  refine jfL (fun _=> ?_) (fun _=>hC _ _ ⟨_,l6,rfl,l60,kD,kE,kF,bD⟩)
  exact⟨p,l6,fl,2,rfl,kD,l60,by decide,by decide,fun r l7 r0 r1 l70=>hC _ _ ⟨_,l7,rfl,l70,jaa,jah nR kE,jah nS kF,bD.put⟩⟩
 obtain⟨g,l6,e,l60,kD,kE,kF,bD⟩:=hV
 subst e
 refine jai (fun σ' h' => ∃ (g:Bool) (l6:Int),σ' = [some (.lst p),some (.int (k:Int)),some (.int way),some (.int o),some (.int m),some (.lst R),some (.int (i:Int)),some (.lst S),some (.int (j:Int)),some (.bl g)]∧0≤l6∧h' p=some [.int l6,.int fl]∧h' R=some (rows.map je5)∧h' S=some (row.map D.int)∧But p h h') (fun C hC=> ?_) (fun σ' h' hV=> ?_)
 ·simp only [jd1,Nxt,je2,je0,jb1,jb2,jbr,dOp,ja2,dIs,jeU,dCB,jbq,jd0,jeW,jcC,dC,jb5,jbb,jd6,je3,je4,jb6,jeV,jeZ,jb3,je1,jb4,dIf,dUn,jgs,dSl,jaT,jce,jfo,jbp,gN,gT2,jcd,jfP,jfQ,jfp,jfk,jgv,jfR,jcl,jfS,jew,eqD,neD,eqE,neE,isV,isN,jgt,jaU,jgu,jfr,jcE,ixD,jfl,jfm,jfn,jaS,jba,jaN,jcD,jfq,slD,jdW,jaB,G0G,G1t,G0h,G0A,List.replicate,G00,G0Q,G03,G04,G0r,G0p,G0E,G1h,D.bl.injEq,D.lst.injEq]
  refine jfL (fun _=> ?_) (fun _=>hC _ _ ⟨g,l6,rfl,l60,kD,kE,kF,bD⟩)
  cases g
  ·exact hC _ _ ⟨_,l6,rfl,l60,kD,kE,kF,bD⟩
  ·refine⟨by decide,?_⟩
   refine jfL (fun _=>hC _ _ ⟨_,l6,rfl,l60,kD,kE,kF,bD⟩) (fun _=>hC _ _ ⟨_,l6,rfl,l60,kD,kE,kF,bD⟩)
 obtain⟨g,l6,e,l60,kD,kE,kF,bD⟩:=hV
 subst e
 refine jai (fun σ' h' => ∃ (g:Bool) (l6:Int),σ' = [some (.lst p),some (.int (k:Int)),some (.int way),some (.int o),some (.int m),some (.lst R),some (.int (i:Int)),some (.lst S),some (.int (j:Int)),some (.bl g)]∧0≤l6∧h' p=some [.int l6,.int fl]∧h' R=some (rows.map je5)∧h' S=some (row.map D.int)∧But p h h') (fun C hC=> ?_) (fun σ' h' hV=> ?_)
 ·simp only [jd1,Nxt,je2,je0,jb1,jb2,jbr,dOp,ja2,dIs,jeU,dCB,jbq,jd0,jeW,jcC,dC,jb5,jbb,jd6,je3,je4,jb6,jeV,jeZ,jb3,je1,jb4,dIf,dUn,jgs,dSl,jaT,jce,jfo,jbp,gN,gT2,jcd,jfP,jfQ,jfp,jfk,jgv,jfR,jcl,jfS,jew,eqD,neD,eqE,neE,isV,isN,jgt,jaU,jgu,jfr,jcE,ixD,jfl,jfm,jfn,jaS,jba,jaN,jcD,jfq,slD,jdW,jaB,G0G,G1t,G0h,G0A,List.replicate,G00,G0Q,G03,G04,G0r,G0p,G0E,G1h,D.bl.injEq,D.lst.injEq]
  refine jfL (fun _=> ?_) (fun _=>hC _ _ ⟨g,l6,rfl,l60,kD,kE,kF,bD⟩)
  cases g
  ·exact hC _ _ ⟨_,l6,rfl,l60,kD,kE,kF,bD⟩
  ·exact hC _ _ ⟨_,l6,rfl,l60,kD,kE,kF,bD⟩
 obtain⟨g,l6,e,l60,kD,kE,kF,bD⟩:=hV
 subst e
 simp only [jd1,Nxt,je2,je0,jb1,jb2,jbr,dOp,ja2,dIs,jeU,dCB,jbq,jd0,jeW,jcC,dC,jb5,jbb,jd6,je3,je4,jb6,jeV,jeZ,jb3,je1,jb4,dIf,dUn,jgs,dSl,jaT,jce,jfo,jbp,gN,gT2,jcd,jfP,jfQ,jfp,jfk,jgv,jfR,jcl,jfS,jew,eqD,neD,eqE,neE,isV,isN,jgt,jaU,jgu,jfr,jcE,ixD,jfl,jfm,jfn,jaS,jba,jaN,jcD,jfq,slD,jdW,jaB,G0G,G1t,G0h,G0A,List.replicate,G00,G0Q,G03,G04,G0r,G0p,G0E,G1h,D.bl.injEq,D.lst.injEq]
 refine⟨p,l6,fl,m,rfl,kD,l60,m1,by omega,fun r l7 r0 r1 l70=> ?_⟩
 have gi: ∀x:Int,(0≤x∧x≤1)→CMul x (1+r)∧0≤x*(1+r)∧x*(1+r)≤1000000:=fun x hx=>by
  have:x=0∨x=1:=by omega
  rcases this with e|e<;>subst e
  ·exact⟨.inl ⟨by decide,by decide⟩,by omega,by omega⟩
  ·exact⟨.inl ⟨by decide,by decide⟩,by omega,by omega⟩
 have gg:=gi (if g=true then 1 else 0) (by cases g<;>decide)
 refine⟨gg.1,_,jah nS kF,?_,_,Sub.refl _,by omega,_,_,l7,row++ [(if g=true then 1 else 0)*(1+r)],rfl,l70,jah (Ne.symm nS) jaa,jah (Ne.symm nSR) (jah nR kE),?_,(bD.put).putNew fS,by simp [g1'],?_⟩
 ·rw [G0a];exact G1Z (show row.length≤1000 by omega) (by decide)
 ·rw [jaa,G0S];rfl
 ·intro x hx
  rcases G0u.mp hx with z|z
  ·exact g2' x z
  ·rw [G0g.mp z];exact gg.2
def jcu:RDn:=fun ds h Q=> ∃T S,∃n e:Nat,ds= [jbj T,jaA S]∧Sq n e T∧IsS n S∧n≤6∧Q (jaA (jhA n T S)) h
set_option maxHeartbeats 2000000 in
theorem jgp {n:Nat} {f:Addr} {fd:FuncData} (Z:Zs mg) (F:Fun K "_law_after" "_law_after" jbf f fd):FnOk P w K mg base CX0 (n+1) f fd ["_law_table_here","_law_some"] (LSp K jcu):=by
 refine F.okJ sc__law_after (fun ds h Q q=>by obtain⟨T,S,k,b,e,hT,hS,h6,q⟩:=q;subst e;rfl) _ (fun cdv A outer s H E hr=>(jae (jb7 (i:=2) sc__law_after.nd rfl (Or.inl rfl) (jaJ jbC rfl Z.len G1r (jac (jv 0) jad))) (by exact(jag (jcz (jbS jdk rfl Z.tuple (by decide +kernel) (jac (jlc (i:=3) (js:= [3]) rfl (jao (by rfl)) (jcF rfl Z.range (jac (jv 2) jad)) (by decide) sc__law_after.nd rfl (by first|exact Or.inl rfl|exact Or.inr rfl) (fun X' hX=>by obtain⟨C,s₀,H₀,ex,rfl⟩:=hX;exact jcm (jbo jjM (jaJ (jj8 rfl) rfl Z.max (by decide +kernel) (jac (jop ja3 (jdI (jac jau jad)) (jlc (i:=4) (js:= [4]) rfl (jao (by rfl)) (jbY (jv 1)) (by decide) sc__law_after.nd rfl (by first|exact Or.inl rfl|exact Or.inr rfl) (fun X' hX=>jbE) (fun X' hX=>by obtain⟨C,s₀,H₀,ex,rfl⟩:=hX;exact(jix (jix (jv 0) (jv 4) (fun _ _=>rfl)) (jv 3) (fun _ _=>rfl))))) jad)) jau (jav _))) (fun X' hX=>by obtain⟨C,s₀,H₀,ex,rfl⟩:=hX;exact(jv 3))) jad))))))) ?_
 intro ds h Q q
 obtain⟨T,S,k,b,e,hT,hS,h6,q⟩:=q
 subst e
 have hlen:=hS.len
 refine jai (fun σ' h' =>σ' = [some (jbj T),some (jaA S),some (.int (k:Int)),none,none]∧h=h') (fun C hC=>⟨_,rfl,hC _ _ ⟨by rw [G0a,hT.len];rfl,rfl⟩⟩) ?_
 rintro _ _ ⟨rfl,rfl⟩
 refine jqd (List.range k) (fun j=> .int (j:Int)) (fun j=> .int (j:Int)) (fun j=>S.any fun i=>decide (ent T i j≠0)) (by rw [G0L];omega) rfl (fun R r=>⟨_,rfl,(k:Int),rfl,by omega,by omega,r⟩) (fun j hj Q' q' => ?_) (fun j hj hp Q' q' =>⟨_,rfl,q'⟩) ⟨h,Sub.refl h,q⟩
 refine⟨(by show 1≤sizeLine;decide),fun p1 e1=> ?_⟩
 refine lcA S (fun i=> .int (i:Int)) (fun i=> .int (ent T i j)) (by omega) rfl (fun R r=>⟨_,rfl,r⟩) (fun i hi Q'' q'' => ?_) (fun p2 e2=> ?_)
 ·have hi' :=hS.lt hi
  exact⟨_,rfl,_,rfl,_,jeA hT hi',_,rfl,_,jeB (hT.row _ (Sq.getRow hT hi')) (G0z.mp hj),q''⟩
 ·refine⟨_,_,jaf jaa e2,jaa,?_,fun p3 e3=> ?_⟩
  ·simp only [G0a,G0h,G0A]
   exact G0T (jar (by omega))
  refine⟨0::S.map (fun i=>ent T i j),h,by simp,Sub.newAt (Sub.newAt (Sub.newAt (Sub.refl h) e1) e2) e3,.inr ⟨p3,rfl,?_⟩,fun m m1 m2=>⟨_,rfl,?_⟩⟩
  ·rw [jaa,G0G,G1d];rfl
  ·show Q' (decide (m>0)) h
   rw [jiO hT hS (G0z.mp hj) m1 m2];exact q'
def jcv:RDn:=fun ds h Q=> ∃p l fl,∃k:Nat,ds= [.lst p,.int (k:Int)]∧h p=some [.int l,.int fl]∧0≤l∧k≤6∧ ∀o l',Ordr k o→0≤l' →Q (jaA o) (jbi h p [.int l',.int fl])
set_option maxHeartbeats 2000000 in
theorem jgq {n:Nat} {f:Addr} {fd:FuncData} (Z:Zs mg) (F:Fun K "_law_order" "_law_order" jbg f fd) (C__law_draw:jak P w K mg base n "_law_draw" ["_law_pen_here","_law_many"] jbh):FnOk P w K mg base CX0 (n+1) f fd ["_law_pen_here","_law_many"] (LSp K jcv):=by
 obtain⟨g_G__law_draw,gd_G__law_draw,G__law_draw,bG__law_draw,kG__law_draw,mG__law_draw⟩:=C__law_draw
 refine F.okJ sc__law_order (fun ds h Q q=>by obtain⟨p,l,fl,k,e,hp,h0,hk,q⟩:=q;subst e;rfl) _ (fun cdv A outer s H E hr=>(jae (jb7 (i:=2) sc__law_order.nd rfl (Or.inl rfl) (jdI jad)) (by exact(jae (jgM G1c rfl (jcF rfl Z.range (jac (jv 1) jad)) (ja7 (i:=3) sc__law_order.nd rfl (Or.inl rfl)) (jag (jf0 (js6 (jv 2) (jaC G__law_draw hr rfl mG__law_draw kG__law_draw bG__law_draw (jac (jv 0) (by exact(jac (jop ja3 (jv 3) jau) jad)))) (jv 3))))) (by exact(jag (jcz (jbS cq_tuple rfl Z.tuple (by decide +kernel) (jac (jv 2) jad))))))))) ?_
 intro ds h Q q
 obtain⟨p,l,fl,k,e,hp,h0,hk,q⟩:=q
 subst e
 refine jai (fun σ' h' => ∃R,σ' = [some (.lst p),some (.int (k:Int)),some (.lst R),none]∧R≠p∧h R=none∧h' R=some []∧h' p=some [.int l,.int fl]∧But p h h') (fun C hC=> ?_) ?_
 ·exact⟨(by show 0≤sizeLine;decide),fun R eR=>hC _ _ ⟨R,rfl,jap hp eR,eR,jaa,jaf hp eR,(But.refl p h).new eR⟩⟩
 rintro σ' h1 ⟨R,rfl,nR,fR,kR,kp,bt⟩
 refine jai (fun σ' h' => ∃a l2 o,σ' = [some (.lst p),some (.int (k:Int)),some (.lst R),a]∧0≤l2∧Ordr k o∧h' R=some (o.map fun (i:Nat)=>D.int (i:Int))∧h' p=some [.int l2,.int fl]∧But p h h') (fun C hC=> ?_) ?_
 ·refine jbD k (fun i σ' h' => ∃a l2 o,σ' = [some (.lst p),some (.int (k:Int)),some (.lst R),a]∧0≤l2∧Ordr i o∧h' R=some (o.map fun (i:Nat)=>D.int (i:Int))∧h' p=some [.int l2,.int fl]∧But p h h') (by omega) (fun R' r=>⟨_,rfl,r⟩) ⟨none,l,[],rfl,h0,List.Perm.nil,kR,kp,bt⟩ (fun σ' h' z=>hC _ _ z) ?_
  rintro i _ h2 hi ⟨a,l2,o,rfl,l20,ho,kR2,kp2,bt2⟩
  refine⟨_,rfl,R,rfl,_,rfl,_,rfl,p,l2,fl,(i:Int)+1,rfl,kp2,l20,by omega,by omega,fun r l3 r0 r1 l30=> ?_⟩
  have lo:o.length=i:=ho.ord.len
  refine⟨_,rfl,r.toNat,_,by rw [Int.toNat_of_nonneg r0],by omega,jah nR kR2,?_,_,Sub.refl _,by omega,_,l3,o.take r.toNat++i::o.drop r.toNat,rfl,l30,ho.insert r.toNat,?_,jah (Ne.symm nR) jaa,(bt2.put).putNew fR⟩
  ·rw [G0a];exact G1Z (show o.length≤1000 by omega) (by decide)
  ·rw [jaa,G0S,G0G,G4I,G4J]
 rintro _ h3 ⟨a,l2,o,rfl,l20,ho,kR3,kp3,bt3⟩
 exact⟨_,rfl,_,kR3,_,bt3.sub kp3,q o l2 ho l20⟩
theorem jr5 {n i:Nat} (hi:i<n):IsS n [i]:=by
 refine⟨fun j=>decide (j=i),?_⟩
 have e:(List.range n).filter (fun j=>decide (j=i))= [i]:=by
  induction n with
  |zero=>omega
  |succ n ih=>
   rw [G1D,G1K]
   by_cases z:i<n
   ·rw [ih z,G1R (by rw [G1b];omega)];rfl
   ·have e:i=n:=by omega
    subst e
    rw [G3r.mpr fun j hj=>by have:=G0z.mp hj;rw [G1b];omega,G1Q (by rw [G1b])];rfl
 exact e.symm
def jdf:RDn:=fun ds h Q=> ∃T,∃n e:Nat,ds= [jbj T]∧Sq n e T∧n≤6∧ ∀A h',h A=none→h' A=some ((List.range n).map fun p=>jaA (clS n T [p]))→Sub h h' →Q (.lst A) h'
set_option maxHeartbeats 2000000 in
theorem jhX {n:Nat} {f:Addr} {fd:FuncData} (Z:Zs mg) (F:Fun K "_law_far" "_law_far" jbP f fd) (C__law_after:jak P w K mg base n "_law_after" ["_law_table_here","_law_some"] jcu):FnOk P w K mg base CX0 (n+1) f fd ["_law_table_here"] (LSp K jdf):=by
 obtain⟨g_G__law_after,gd_G__law_after,G__law_after,bG__law_after,kG__law_after,mG__law_after⟩:=C__law_after
 refine F.okJ sc__law_far (fun ds h Q q=>by obtain⟨T,n,b,e,hT,h6,q⟩:=q;subst e;rfl) _ (fun cdv A outer s H E hr=>(jae (jb7 (i:=1) sc__law_far.nd rfl (Or.inl rfl) (jdI jad)) (by exact(jae (jgM G1c rfl (jcF rfl Z.range (jac (jaJ jbC rfl Z.len G1r (jac (jv 0) jad)) jad)) (ja7 (i:=2) sc__law_far.nd rfl (Or.inl rfl)) (jae (jb7 (i:=3) sc__law_far.nd rfl (Or.inl rfl) (jgL (jac (jv 2) jad))) (by exact(jae (jgM G1c rfl (jcF rfl Z.range (jac (jaJ jbC rfl Z.len G1r (jac (jv 0) jad)) jad)) (ja7 (i:=4) sc__law_far.nd rfl (Or.inl rfl)) (jag (jb7 (i:=3) sc__law_far.nd rfl (Or.inl rfl) (jbS cq_tuple rfl Z.tuple (by decide +kernel) (jac (jss rfl rfl Z.sorted rfl Z.set (jac (jop ja3 (jv 3) (jaC G__law_after hr rfl mG__law_after kG__law_after bG__law_after (jac (jv 0) (by exact(jac (jv 3) jad))))) jad)) jad))))) (by exact(jag (jf0 (joK (jv 1) (jv 3))))))))) (by exact(jag (jcz (jv 1)))))))) ?_
 intro ds h Q q
 obtain⟨T,n,b,e,hT,h6,q⟩:=q
 subst e
 have two: ∀X Y:List Nat,(X.map fun (k:Nat)=>D.int (k:Int))++(Y.map fun (k:Nat)=>D.int (k:Int))=((X++Y).map fun (j:Nat)=>(j:Int)).map D.int:=fun X Y=>by rw [G1d,G0S];rfl
 refine jai (fun σ' h' => ∃A,σ' = [some (jbj T),some (.lst A),none,none,none]∧h A=none∧Sub h h' ∧h' A=some []) (fun C hC=>⟨(by show 0≤sizeLine;decide),fun A eA=>hC _ _ ⟨A,rfl,eA,Sub.newAt (Sub.refl h) eA,jaa⟩⟩) ?_
 rintro _ h1 ⟨A,rfl,nA,sb,kA⟩
 refine jai (fun σ' h' => ∃u v w,σ' = [some (jbj T),some (.lst A),u,v,w]∧Sub h h' ∧h' A=some ((List.range n).map fun p=>jaA (clS n T [p]))) (fun C hC=> ?_) ?_
 ·refine jbD n (fun k σ' h' => ∃u v w,σ' = [some (jbj T),some (.lst A),u,v,w]∧Sub h h' ∧h' A=some ((List.range k).map fun p=>jaA (clS n T [p]))) (by omega) (fun R r=>⟨_,rfl,by show R [.int (((T.map je5).length:Nat):Int)] _;rw [G0a,hT.len];exact r⟩) ⟨_,_,_,rfl,sb,kA⟩ (fun σ' h' z=>hC _ _ z) ?_
  clear sb kA
  rintro k _ h2 hk ⟨u,v,w,rfl,sb,kA⟩
  refine jai (fun σ' h' =>σ' = [some (jbj T),some (.lst A),some (.int (k:Int)),some (jaA [k]),w]∧h2=h') (fun C hC=>⟨_,rfl,(by show 1≤sizeLine;decide),hC _ _ ⟨rfl,rfl⟩⟩) ?_
  rintro _ _ ⟨rfl,rfl⟩
  have iS:=jr5 hk
  refine jai (fun σ' h' => ∃w,σ' = [some (jbj T),some (.lst A),some (.int (k:Int)),some (jaA (clS n T [k])),w]∧Sub h h' ∧h' A=some ((List.range k).map fun p=>jaA (clS n T [p]))) (fun C hC=> ?_) ?_
  ·refine jbD n (fun i σ' h' => ∃w,σ' = [some (jbj T),some (.lst A),some (.int (k:Int)),some (jaA (itF (upS n T) [k] i)),w]∧Sub h h' ∧h' A=some ((List.range k).map fun p=>jaA (clS n T [p]))) (by omega) (fun R r=>⟨_,rfl,by show R [.int (((T.map je5).length:Nat):Int)] _;rw [G0a,hT.len];exact r⟩) ⟨_,rfl,sb,kA⟩ (fun σ' h' ⟨w,e,s,z⟩=>hC _ _ ⟨w,by rw [e,jow hT iS],s,z⟩) ?_
   clear sb kA
   rintro i _ h3 hi ⟨w,rfl,sb,kA⟩
   have hS:=jcq (T:=T) iS i
   have hS' :=IsS.step (n:=n) T (itF (upS n T) [k] i)
   have l1:=hS.len
   have l2:=hS'.len
   refine⟨_,rfl,_,rfl,_,rfl,T,itF (upS n T) [k] i,n,b,rfl,hT,hS,h6,?_,_,.inl (congrArg (fun x=> [D.tup x]) (two _ _)),?_,fun p ks hp r m=>⟨_,jaa,?_⟩⟩
   ·rw [G0a,G0a]
    exact G0T (jar (by omega))
   ·rw [G0a,G0d];omega
   ·rw [jnX hS hS' r m]
    exact⟨_,Sub.refl _,by omega,_,by rw [G1d];rfl,sb.newAt hp,jaf kA hp⟩
  clear sb kA
  rintro _ h4 ⟨w,rfl,sb,kA⟩
  refine⟨_,rfl,A,rfl,_,rfl,_,kA,?_,_,Sub.refl _,by omega,_,_,_,rfl,sb.over nA,?_⟩
  ·rw [G0a,G0L]
   exact jar (by omega)
  ·rw [jaa,G1D,G0S];rfl
 rintro _ h4 ⟨u,v,w,rfl,sb4,k4⟩
 exact⟨_,rfl,_,Sub.refl _,q A h4 nA k4 sb4⟩
def jb9:RDn:=fun ds h Q=> ∃T,∃n e:Nat,ds= [jbj T]∧Sq n e T∧n≤6∧ ∀A h',h A=none→h' A=some ((jgf T n).map jaA)→Sub h h' →Q (.lst A) h'
set_option maxHeartbeats 2000000 in
theorem jfb {n:Nat} {f:Addr} {fd:FuncData} (Z:Zs mg) (F:Fun K "_law_pieces" "_law_pieces" jaY f fd) (C__law_far:jak P w K mg base n "_law_far" ["_law_table_here"] jdf):FnOk P w K mg base CX0 (n+1) f fd ["_law_table_here"] (LSp K jb9):=by
 obtain⟨g_G__law_far,gd_G__law_far,G__law_far,bG__law_far,kG__law_far,mG__law_far⟩:=C__law_far
 refine F.okJ sc__law_pieces (fun ds h Q q=>by obtain⟨T,n,b,e,hT,h6,q⟩:=q;subst e;rfl) _ (fun cdv A outer s H E hr=>(jae (jb7 (i:=1) sc__law_pieces.nd rfl (by first|exact Or.inr rfl|exact Or.inl rfl) (jaC G__law_far hr rfl mG__law_far kG__law_far bG__law_far (jac (jv 0) jad))) (by exact(jae (jb7 (i:=2) sc__law_pieces.nd rfl (Or.inl rfl) (jdI jad)) (by exact(jae (jgM G1c rfl (jcF rfl Z.range (jac (jaJ jbC rfl Z.len G1r (jac (jv 0) jad)) jad)) (ja7 (i:=3) sc__law_pieces.nd rfl (by first|exact Or.inr rfl|exact Or.inl rfl)) (jag (jf0 (joK (jv 2) (jbS jdk rfl Z.tuple (by decide +kernel) (jac (jlc (i:=4) (js:= [4]) rfl (jao (by rfl)) (jbY (jix (jv 1) (jv 3) (fun _ _=>rfl))) (by decide) sc__law_pieces.nd rfl (by first|exact Or.inl rfl|exact Or.inr rfl) (fun X' hX=>by obtain⟨C,s₀,H₀,ex,rfl⟩:=hX;exact jcm (jbo (jqe hr.units) (jv 3) (jix (jv 1) (jv 4) (fun _ _=>rfl)) (by with_unfolding_all rfl))) (fun X' hX=>by obtain⟨C,s₀,H₀,ex,rfl⟩:=hX;exact(jv 4))) jad)))))) (by exact(jag (jcz (jst hr rfl rfl Z.sorted rfl Z.set (jac (jv 2) jad))))))))))) ?_
 intro ds h Q q
 obtain⟨T,n,b,e,hT,h6,q⟩:=q
 subst e
 refine jai (fun σ' h' => ∃F,σ' = [some (jbj T),some (.lst F),none,none,none]∧Sub h h' ∧h' F=some ((List.range n).map fun p=>jaA (clS n T [p]))) (fun C hC=>⟨_,rfl,T,n,b,rfl,hT,h6,fun F h' nF kF sb=>hC _ _ ⟨F,rfl,sb,kF⟩⟩) ?_
 rintro _ h1 ⟨F,rfl,sb,kF⟩
 refine jai (fun σ' h' => ∃A,σ' = [some (jbj T),some (.lst F),some (.lst A),none,none]∧h1 A=none∧Sub h1 h' ∧h' A=some []) (fun C hC=>⟨(by show 0≤sizeLine;decide),fun A eA=>hC _ _ ⟨A,rfl,eA,Sub.newAt (Sub.refl h1) eA,jaa⟩⟩) ?_
 rintro _ h2 ⟨A,rfl,nA,sb2,kA⟩
 have atF: ∀k,k<n→atI ((List.range n).map fun p=>jaA (clS n T [p])) (k:Int)=some (jaA (clS n T [k])):=fun k hk=>jbQ (by rw [G0o,G1U hk];rfl)
 refine jai (fun σ' h' => ∃u v,σ' = [some (jbj T),some (.lst F),some (.lst A),u,v]∧Sub h1 h' ∧h' A=some ((List.range n).map fun p=>jaA (pcS T n p))) (fun C hC=> ?_) ?_
 ·refine jbD n (fun k σ' h' => ∃u v,σ' = [some (jbj T),some (.lst F),some (.lst A),u,v]∧Sub h1 h' ∧h' A=some ((List.range k).map fun p=>jaA (pcS T n p))) (by omega) (fun R r=>⟨_,rfl,by show R [.int (((T.map je5).length:Nat):Int)] _;rw [G0a,hT.len];exact r⟩) ⟨_,_,rfl,sb2,kA⟩ (fun σ' h' z=>hC _ _ z) ?_
  clear sb2 kA
  rintro k _ h3 hk ⟨u,v,rfl,sb2,kA⟩
  have kF3:=sb2 _ _ kF
  refine⟨_,rfl,A,rfl,jqd (j:=fun _=>some ((clS n T [k]).map fun (i:Nat)=>D.int (i:Int))) (clS n T [k]) (fun (i:Nat)=> .int (i:Int)) (fun (i:Nat)=> .int (i:Int)) (fun i=>decide (k∈clS n T [i])) (by have:=(jkD n T [k]).len;omega) rfl (fun R r=>⟨_,rfl,_,rfl,_,_,kF3,atF k hk,r⟩) (fun i hi Q' q' =>⟨_,rfl,_,rfl,_,rfl,_,_,kF3,atF i ((jkD n T [k]).lt hi),jn3 ⟨_,rfl,q'⟩⟩) (fun i hi z Q' q' =>⟨_,rfl,q'⟩) ?_⟩
  rw [jqU hk]
  refine⟨_,kA,?_,_,Sub.refl _,by omega,_,_,rfl,sb2.over nA,?_⟩
  ·rw [G0a,G0L]
   exact jar (by omega)
  ·rw [jaa,G1D,G0S];rfl
 rintro _ h4 ⟨u,v,rfl,sb4,k4⟩
 refine⟨_,rfl,A,(List.range n).map (fun p=>toI (pcS T n p)),rfl,?_,by rw [G0a,G0L];omega,fun p kss hp r m=>⟨_,Sub.refl _,q p _ ?_ ?_ ?_⟩⟩
 ·rw [k4,G1d]
  exact congrArg some (G1u fun S _=>(jg5 _).symm)
 ·exact jcY sb (jcY sb4 hp)
 ·rw [jaa,jjb r m,G1d]
  exact congrArg some (G1u fun S _=>jg5 S)
 ·exact fun x y z=>jaf (sb4 _ _ (sb _ _ z)) hp
set_option maxHeartbeats 2000000 in
theorem jc1 {n:Nat} {f:Addr} {fd:FuncData} (Z:Zs mg) (F:Fun K "_law_joined_table" "_law_joined_table" jax f fd) (C__law_order:jak P w K mg base n "_law_order" ["_law_pen_here","_law_many"] jcv) (C__law_draw:jak P w K mg base n "_law_draw" ["_law_pen_here","_law_many"] jbh):FnOk P w K mg base CX0 (n+1) f fd ["_law_pen_here","_law_size_here"] (LSp K ja1):=by
 obtain⟨g_G__law_order,gd_G__law_order,G__law_order,bG__law_order,kG__law_order,mG__law_order⟩:=C__law_order
 obtain⟨g_G__law_draw,gd_G__law_draw,G__law_draw,bG__law_draw,kG__law_draw,mG__law_draw⟩:=C__law_draw
 refine F.okJ sc__law_joined_table (fun ds h Q q=>by obtain⟨p,l,fl,k,e,hp,h0,hk1,hk6,q⟩:=q;subst e;rfl) _ (fun cdv A outer s H E hr=>(jae (jb7 (i:=2) sc__law_joined_table.nd rfl (by first|exact Or.inr rfl|exact Or.inl rfl) (jaC G__law_order hr rfl mG__law_order kG__law_order bG__law_order (jac (jv 0) (by exact(jac (jv 1) jad))))) (by exact(jae (jb7 (i:=3) sc__law_joined_table.nd rfl (Or.inl rfl) (jix (jdI (jac jau (by exact(jac jau (by exact(jac jau (by exact(jac (jv 1) (by exact(jac jau jad)))))))))) (jaC G__law_draw hr rfl mG__law_draw kG__law_draw bG__law_draw (jac (jv 0) (by exact(jac jau jad)))) (fun _ _=>rfl))) (by exact(jae (jb7 (i:=4) sc__law_joined_table.nd rfl (Or.inl rfl) (jix (jdI (jac jau (by exact(jac jau (by exact(jac jau jad)))))) (jaC G__law_draw hr rfl mG__law_draw kG__law_draw bG__law_draw (jac (jv 0) (by exact(jac jau jad)))) (fun _ _=>rfl))) (by exact(jae (jb7 (i:=5) sc__law_joined_table.nd rfl (Or.inl rfl) (jix (jdI (jac jau (by exact(jac jau (by exact(jac jau jad)))))) (jaC G__law_draw hr rfl mG__law_draw kG__law_draw bG__law_draw (jac (jv 0) (by exact(jac jau jad)))) (fun _ _=>rfl))) (by exact(jae (jgN (i:=11) (k:=6) (js:= [11]) rfl sc__law_joined_table.nd rfl (Or.inl rfl) (jao (by rfl)) (jbY (jv 2)) (by decide) rfl (by first|exact Or.inl rfl|exact Or.inr rfl) (fun X' hX=>jbE) (fun X' hX=>by obtain⟨C,s₀,H₀,ex,rfl⟩:=hX;exact(jlc (i:=12) (js:= [12]) rfl (jao (by rfl)) (jbY (jv 2)) (by decide) sc__law_joined_table.nd rfl (by first|exact Or.inl rfl|exact Or.inr rfl) (fun X' hX=>jbE) (fun X' hX=>by obtain⟨C,s₀,H₀,ex,rfl⟩:=hX;exact jau)))) (by exact(jae (jgM G1c rfl (jhz rfl Z.enumerate (jac (jv 2) jad)) (jjW (i:=7) (j:=8) rfl sc__law_joined_table.nd rfl rfl (Or.inl rfl) (Or.inl rfl)) (jae (joJ (jop ja3 jau (jaC G__law_draw hr rfl mG__law_draw kG__law_draw bG__law_draw (jac (jv 0) (by exact(jac (jv 5) jad))))) (jgO (jix (jv 6) (jv 8) (fun _ _=>rfl)) (jix (jv 2) (jop jcy (jop ja3 (jv 7) jau) (jv 1)) (fun _ _=>rfl)))) (by exact(jag (jgM G1c rfl (jhz rfl Z.enumerate (jac (jv 2) jad)) (jjW (i:=9) (j:=10) rfl sc__law_joined_table.nd rfl rfl (Or.inl rfl) (Or.inl rfl)) (jag (jft (jpt (jiK (jbo oq_eq (jaC G__law_draw hr rfl mG__law_draw kG__law_draw bG__law_draw (jac (jv 0) (by exact(jac (jv 4) jad)))) jau (jav _)) (jiK (jbo oq_eq (jop jcy (jop jh3 (jop jh3 (jv 9) (jv 7)) jau) (jv 3)) jau (jav _)) (jjV (jpt (joI (jbo oq_eq (jop jcy (jv 1) (jv 3)) jau (jav _)) (jp9 (jbo jjM (jv 9) (jv 7) (jav _))))))))) (jag (joJ (jop ja3 jau (jaC G__law_draw hr rfl mG__law_draw kG__law_draw bG__law_draw (jac (jv 0) (by exact(jac (jv 5) jad))))) (jgO (jix (jv 6) (jv 8) (fun _ _=>rfl)) (jv 10)))) jbc))))))) (by exact(jag (jcz (jbS jdk rfl Z.tuple (by decide +kernel) (jac (jlc (i:=11) (js:= [11]) rfl (jao (by rfl)) (jbY (jv 6)) (by decide) sc__law_joined_table.nd rfl (by first|exact Or.inl rfl|exact Or.inr rfl) (fun X' hX=>jbE) (fun X' hX=>by obtain⟨C,s₀,H₀,ex,rfl⟩:=hX;exact(jbS cq_tuple rfl Z.tuple (by decide +kernel) (jac (jv 11) jad)))) jad))))))))))))))))) ?_
 intro ds h Q q
 obtain⟨p,l,fl,k,e,hp,h0,hk1,hk6,q⟩:=q
 subst e
 refine jai (fun σ' h' => ∃o l2,σ' = [some (.lst p),some (.int (k:Int)),some (jaA o),none,none,none,none,none,none,none,none,none,none]∧Ordr k o∧0≤l2∧h' p=some [.int l2,.int fl]∧But p h h') (fun C hC=>⟨_,rfl,_,rfl,p,l,fl,k,rfl,hp,h0,hk6,fun o l2 ho l20=>hC _ _ ⟨o,l2,rfl,ho,l20,jaa,But.upd⟩⟩) ?_
 rintro _ h1 ⟨o,l2,rfl,ho,l20,kp,bt⟩
 have hlo:o.length=k:=ho.ord.len
 refine jai (fun σ' h' => ∃dv l3,σ' = [some (.lst p),some (.int (k:Int)),some (jaA o),some (.int dv),none,none,none,none,none,none,none,none,none]∧0<dv∧dv<1000∧0≤l3∧h' p=some [.int l3,.int fl]∧But p h h') (fun C hC=> ?_) ?_
 ·refine⟨_,rfl,(by show 5≤sizeLine;decide),fun p1 e1=>⟨_,rfl,p,l2,fl,5,rfl,jaf kp e1,l20,by decide,by decide,fun r l3 r0 r1 l30=> ?_⟩⟩
  obtain⟨oft',ho',eo⟩:=jdH (xs:= [D.int 1,D.int 2,D.int 3,D.int (k:Int),D.int 1]) r0 r1
  refine⟨_,oft',jah (jap kp e1) jaa,eo,?_⟩
  obtain⟨x,rfl,x1,x2⟩: ∃x:Int,oft' = .int x∧0<x∧x<1000:=by
   simp only [G0n,G05,G25] at ho'
   rcases ho' with e|e|e|e|e<;>exact⟨_,e,by omega,by omega⟩
  exact hC _ _ ⟨x,l3,rfl,x1,x2,l30,jaa,(bt.new e1).put⟩
 rintro _ h2 ⟨dv,l3,rfl,dv1,dv2,l30,kp,bt⟩
 refine jai (fun σ' h' => ∃oft l4,σ' = [some (.lst p),some (.int (k:Int)),some (jaA o),some (.int dv),some (.int oft),none,none,none,none,none,none,none,none]∧0<oft∧oft<1000∧0≤l4∧h' p=some [.int l4,.int fl]∧But p h h') (fun C hC=> ?_) ?_
 ·refine⟨(by show 3≤sizeLine;decide),fun p1 e1=>⟨_,rfl,p,l3,fl,3,rfl,jaf kp e1,l30,by decide,by decide,fun r l4 r0 r1 l40=> ?_⟩⟩
  obtain⟨oft',ho',eo⟩:=jdH (xs:= [D.int 2,D.int 3,D.int 6]) r0 r1
  refine⟨_,oft',jah (jap kp e1) jaa,eo,?_⟩
  obtain⟨x,rfl,x1,x2⟩: ∃x:Int,oft' = .int x∧0<x∧x<1000:=by
   simp only [G0n,G05,G25] at ho'
   rcases ho' with e|e|e<;>exact⟨_,e,by omega,by omega⟩
  exact hC _ _ ⟨x,l4,rfl,x1,x2,l40,jaa,(bt.new e1).put⟩
 rintro _ h2 ⟨oft,l4,rfl,of1,of2,l40,kp,bt⟩
 refine jai (fun σ' h' => ∃mo l5,σ' = [some (.lst p),some (.int (k:Int)),some (jaA o),some (.int dv),some (.int oft),some (.int mo),none,none,none,none,none,none,none]∧0<mo∧mo<1000∧0≤l5∧h' p=some [.int l5,.int fl]∧But p h h') (fun C hC=> ?_) ?_
 ·refine⟨(by show 3≤sizeLine;decide),fun p1 e1=>⟨_,rfl,p,l4,fl,3,rfl,jaf kp e1,l40,by decide,by decide,fun r l5 r0 r1 l50=> ?_⟩⟩
  obtain⟨oft',ho',eo⟩:=jdH (xs:= [D.int 1,D.int 1,D.int 5]) r0 r1
  refine⟨_,oft',jah (jap kp e1) jaa,eo,?_⟩
  obtain⟨x,rfl,x1,x2⟩: ∃x:Int,oft' = .int x∧0<x∧x<1000:=by
   simp only [G0n,G05,G25] at ho'
   rcases ho' with e|e|e<;>exact⟨_,e,by omega,by omega⟩
  exact hC _ _ ⟨x,l5,rfl,x1,x2,l50,jaa,(bt.new e1).put⟩
 rintro _ h2 ⟨mo,l5,rfl,mo1,mo2,l50,kp,bt⟩
 refine jai (fun σ' h' => ∃R rs,σ' = [some (.lst p),some (.int (k:Int)),some (jaA o),some (.int dv),some (.int oft),some (.int mo),some (.lst R),none,none,none,none,none,none]∧h' p=some [.int l5,.int fl]∧But p h h' ∧Grid k h h' p R rs) (fun C hC=> ?_) ?_
 ·refine jnH (h1:=h2) (o.map fun (k:Nat)=>D.int (k:Int)) (fun i ys h' => ∃rs,ys=rs.map D.lst∧rs.length=i∧h' p=some [.int l5,.int fl]∧But p h h' ∧p ∉ rs∧ ∀a∈rs,h a=none∧ ∃r,h' a=some (r.map D.int)∧jcn k r) (by rw [G0a];omega) (fun R r=>⟨_,rfl,r⟩) ⟨[],rfl,rfl,kp,bt,by simp,by simp⟩ (fun i ys h' ⟨rs,e,el,_⟩=>by rw [e,G0a];omega) ?_ ?_
  ·rintro i ys h3 d hd ⟨rs,rfl,lrs,kp3,bt3,nprs,rows3⟩
   have hi:i<k:=by have:=(G0k.mp hd).1;rw [G0a] at this;omega
   refine lcA o (fun (k:Nat)=>D.int (k:Int)) (fun _=>D.int 0) (by omega) rfl (fun R r=>⟨_,rfl,r⟩) (fun x hx Q' q' =>q') (fun q4 e4=> ?_)
   refine⟨_,Sub.refl _,by rw [G0a];omega,rs++ [q4],by rw [G0S];rfl,by simp [lrs],jaf kp3 e4,bt3.new e4,?_,fun a ha=> ?_⟩
   ·intro z
    rcases G0u.mp z with y|y
    ·exact nprs y
    ·exact jap kp3 e4 (G0g.mp y).symm
   ·rcases G0u.mp ha with z|z
    ·obtain⟨f',r',e',g'⟩:=rows3 a z
     exact⟨f',r',jaf e' e4,g'⟩
    ·have:=G0g.mp z
     subst this
     refine⟨jfY bt3 e4 (jap kp3 e4),o.map fun _=>(0:Int),by rw [jaa,G1d];rfl,by rw [G0a];exact hlo,fun x hx=> ?_⟩
     obtain⟨_,_,rfl⟩:=G0N.mp hx
     exact⟨by decide,by decide⟩
  ·rintro ys h3 ⟨rs,rfl,lrs,kp3,bt3,nprs,rows3⟩ R eR
   rw [G0a] at lrs
   refine hC _ _ ⟨R,rs,rfl,jaf kp3 eR,bt3.new eR,⟨jaa,by rw [lrs];exact hlo,?_,jfY bt3 eR (jap kp3 eR),nprs,jap kp3 eR,fun a ha=>⟨(rows3 a ha).1,?_⟩⟩⟩
   ·intro hR
    obtain⟨_,r,e',_⟩:=rows3 R hR
    rw [e'] at eR;cases eR
   ·obtain⟨r,e',g'⟩:=(rows3 a ha).2
    exact⟨r,jaf e' eR,g'⟩
 rintro _ h3 ⟨R,rs,rfl,kp,bt,g⟩
 have hen:(jhy (o.map fun (k:Nat)=>D.int (k:Int))).length=k:=by rw [jco,G0a];exact hlo
 have hel: ∀i d,(jhy (o.map fun (k:Nat)=>D.int (k:Int)))[i]? =some d→i<k∧ ∃y,y<k∧d= .tup [.int (i:Int),.int (y:Int)]:=fun i d hd=>by
  have hi:i<k:=by have:=(G0k.mp hd).1;omega
  obtain⟨x,hx,ed⟩:=jf2 hd
  have hi' :i<o.length:=by omega
  rw [G0o,G0c hi'] at hx
  injection hx with hx
  exact⟨hi,o[i],G0z.mp (ho.mem_iff.mp (G1i hi')),by rw [ed,←hx]⟩
 refine jai (fun σ' h' => ∃a b c d l6,σ' = [some (.lst p),some (.int (k:Int)),some (jaA o),some (.int dv),some (.int oft),some (.int mo),some (.lst R),a,b,c,d,none,none]∧0≤l6∧h' p=some [.int l6,.int fl]∧But p h h' ∧Grid k h h' p R rs) (fun C hC=> ?_) ?_
 ·refine jfZ (h1:=h3) (j:=fun _=>some (jhy (o.map fun (k:Nat)=>D.int (k:Int)))) (jhy (o.map fun (k:Nat)=>D.int (k:Int))) (fun i σ' h' => ∃a b c d l6,σ' = [some (.lst p),some (.int (k:Int)),some (jaA o),some (.int dv),some (.int oft),some (.int mo),some (.lst R),a,b,c,d,none,none]∧0≤l6∧h' p=some [.int l6,.int fl]∧But p h h' ∧Grid k h h' p R rs) (fun R r=>⟨_,rfl,_,rfl,r⟩) (fun _ _ _ _=>rfl) ⟨none,none,none,none,l5,rfl,l50,kp,bt,g⟩ (fun σ' h' z=>hC _ _ z) ?_
  rintro i dd _ h4 hdd ⟨a,b,c,d,l6,rfl,l60,kp4,bt4,g4⟩
  obtain⟨hi,y1,hy1,rfl⟩:=hel i dd hdd
  refine⟨_,_,rfl,?_⟩
  obtain⟨y3,hy3,ey3⟩:=jnI ho (G3c (i+1) (by omega:0<k))
  have em:((i:Int)+1)%(k:Int)=(((i+1)%k:Nat):Int):=by rw [G4p,Int.natCast_add];rfl
  rw [←em] at ey3
  refine jai (fun σ' h' => ∃l6,σ' = [some (.lst p),some (.int (k:Int)),some (jaA o),some (.int dv),some (.int oft),some (.int mo),some (.lst R),some (.int (i:Int)),some (.int (y1:Int)),c,d,none,none]∧0≤l6∧h' p=some [.int l6,.int fl]∧But p h h' ∧Grid k h h' p R rs) (fun C2 hC2=> ?_) ?_
  ·refine⟨_,rfl,_,rfl,p,l6,fl,mo,rfl,kp4,l60,mo1,by omega,fun v l7 v0 v1 l70=> ?_⟩
   have g5:=g4.pen [.int l7,.int fl]
   obtain⟨a',r',at',ha',er',gr',fa',na'⟩:=g5.pick hy1
   exact⟨_,rfl,_,rfl,_,_,g5.at_,at',_,rfl,_,rfl,_,rfl,(by omega:(0:Int)<(k:Int)),_,ey3,a',(y3:Int),_,y3,rfl,rfl,er',jf4 (by rw [G0a,gr'.1];exact hy3),hC2 _ _ ⟨l7,rfl,l70,jah (Ne.symm na') jaa,(bt4.put).putNew fa',g5.set ha' er' gr' (by omega) (by omega)⟩⟩
  rintro _ h5 ⟨l6,rfl,l60,kp5,bt5,g5⟩
  refine jfZ (h1:=h5) (j:=fun _=>some (jhy (o.map fun (k:Nat)=>D.int (k:Int)))) (jhy (o.map fun (k:Nat)=>D.int (k:Int))) (fun _ σ' h' => ∃c d l6,σ' = [some (.lst p),some (.int (k:Int)),some (jaA o),some (.int dv),some (.int oft),some (.int mo),some (.lst R),some (.int (i:Int)),some (.int (y1:Int)),c,d,none,none]∧0≤l6∧h' p=some [.int l6,.int fl]∧But p h h' ∧Grid k h h' p R rs) (fun R r=>⟨_,rfl,_,rfl,r⟩) (fun _ _ _ _=>rfl) ⟨c,d,l6,rfl,l60,kp5,bt5,g5⟩ ?_ ?_
  ·rintro _ h6 ⟨c,d,l6,rfl,l60,kp6,bt6,g6⟩
   exact⟨_,Sub.refl _,by omega,_,_,_,_,l6,rfl,l60,kp6,bt6,g6⟩
  rintro i2 dd _ h6 hdd2 ⟨c,d,l6,rfl,l60,kp6,bt6,g6⟩
  obtain⟨hi2,y2,hy2,rfl⟩:=hel i2 dd hdd2
  refine⟨_,_,rfl,?_⟩
  refine⟨_,rfl,_,rfl,p,l6,fl,oft,rfl,kp6,l60,of1,by omega,fun w l7 w0 w1 l70=>⟨_,rfl,jfL (fun _=> ?_) (fun _=>jeo ⟨_,Sub.refl _,by omega,_,_,l7,rfl,l70,jaa,bt6.put,g6.pen _⟩)⟩⟩
  refine⟨_,rfl,_,rfl,_,rfl,dv1,_,rfl,jfL (fun _=> ?_) (fun _=>jeo ⟨_,Sub.refl _,by omega,_,_,l7,rfl,l70,jaa,bt6.put,g6.pen _⟩)⟩
  refine⟨_,rfl,_,rfl,dv1,_,rfl,jfL (fun _=>jk5 ?_) (fun _=> ?_)⟩
  ·refine⟨_,rfl,_,rfl,p,l7,fl,mo,rfl,jaa,l70,mo1,by omega,fun v l8 v0 v1 l80=> ?_⟩
   have g8:=(g6.pen [.int l7,.int fl]).pen [.int l8,.int fl]
   obtain⟨a',r',at',ha',er',gr',fa',na'⟩:=g8.pick hy1
   exact⟨_,rfl,_,rfl,_,_,g8.at_,at',_,rfl,a',(y2:Int),_,y2,rfl,rfl,er',jf4 (by rw [G0a,gr'.1];exact hy2),_,Sub.refl _,by omega,_,_,l8,rfl,l80,jah (Ne.symm na') jaa,((bt6.put).put).putNew fa',g8.set ha' er' gr' (by omega) (by omega)⟩
  ·refine⟨_,rfl,_,rfl,_,rfl,jfL (fun _=> ?_) (fun _=>⟨_,Sub.refl _,by omega,_,_,l7,rfl,l70,jaa,bt6.put,g6.pen _⟩)⟩
   refine⟨_,rfl,_,rfl,p,l7,fl,mo,rfl,jaa,l70,mo1,by omega,fun v l8 v0 v1 l80=> ?_⟩
   have g8:=(g6.pen [.int l7,.int fl]).pen [.int l8,.int fl]
   obtain⟨a',r',at',ha',er',gr',fa',na'⟩:=g8.pick hy1
   exact⟨_,rfl,_,rfl,_,_,g8.at_,at',_,rfl,a',(y2:Int),_,y2,rfl,rfl,er',jf4 (by rw [G0a,gr'.1];exact hy2),_,Sub.refl _,by omega,_,_,l8,rfl,l80,jah (Ne.symm na') jaa,((bt6.put).put).putNew fa',g8.set ha' er' gr' (by omega) (by omega)⟩
 rintro _ h6 ⟨a,b,c,d,l6,rfl,l60,kp,bt,g⟩
 obtain⟨T,gT,eT⟩:=g.tab
 refine js8 (j:=fun h=>h R) rs D.lst (fun a=> .tup ((h6 a).getD [])) (by rw [g.len];omega) g.at_ (fun R r=>⟨_,rfl,r⟩) (fun a ha Q' q' => ?_) ⟨_,bt.sub kp,?_⟩
 ·obtain⟨_,r,er,_⟩:=g.row a ha
  rw [er] at q'
  exact⟨_,rfl,_,er,q'⟩
 ·rw [eT];exact q T l6 gT l60
def jca:RDn:=fun ds h Q=> ∃T,∃n e:Nat,ds= [jbj T]∧Sq n e T∧1≤n∧n≤6∧ ∀A h',h A=none→h' A=some ((jaK T n).map jaA)→Sub h h' →Q (.lst A) h'
set_option maxHeartbeats 2000000 in
theorem jfc {n:Nat} {f:Addr} {fd:FuncData} (Z:Zs mg) (F:Fun K "_law_rounds" "_law_rounds" jaZ f fd):FnOk P w K mg base CX0 (n+1) f fd ["_law_table_here"] (LSp K jca):=by
 refine F.okJ sc__law_rounds (fun ds h Q q=>by obtain⟨T,n,b,e,hT,h1,h6,q⟩:=q;subst e;rfl) _ (fun cdv A outer s H E hr=>(jae (jb7 (i:=1) sc__law_rounds.nd rfl (Or.inl rfl) (jdI jad)) (by exact(jae (jgN (i:=6) (k:=2) (js:= [6]) rfl sc__law_rounds.nd rfl (Or.inl rfl) (jao (by rfl)) (jcF rfl Z.range (jac (jaJ jbC rfl Z.len G1r (jac (jv 0) jad)) jad)) (by decide) rfl (by first|exact Or.inl rfl|exact Or.inr rfl) (fun X' hX=>jbE) (fun X' hX=>by obtain⟨C,s₀,H₀,ex,rfl⟩:=hX;exact(jgL (jac (jv 6) jad)))) (by exact(jae (jj6 G1c (jbo (jmr hr.units) (jv 2) (jdI jad) (jav _)) (jae (jb7 (i:=3) sc__law_rounds.nd rfl (Or.inl rfl) (jdI jad)) (by exact(jae (jgM G1c rfl (jbY (jv 2)) (ja7 (i:=4) sc__law_rounds.nd rfl (by first|exact Or.inr rfl|exact Or.inl rfl)) (jae (jb7 (i:=5) sc__law_rounds.nd rfl (by first|exact Or.inr rfl|exact Or.inl rfl) (jix (jv 0) (jix (jv 4) (jrN jau) (fun _ _=>rfl)) (fun _ _=>rfl))) (by exact(jae (jft (jbo jjM (jix (jv 5) (jix (jv 4) jau (fun _ _=>rfl)) (fun _ _=>rfl)) jau (jav _)) (jag (jf0 (joK (jv 1) (jv 4)))) jbc) (by exact(jag (jb7 (i:=3) sc__law_rounds.nd rfl (Or.inl rfl) (jop ja3 (jv 3) (jlc (i:=7) (js:= [7]) rfl (jao (by rfl)) (jqf rfl Z.range (jac (jop ja3 (jix (jv 4) jau (fun _ _=>rfl)) jau) (by exact(jac (jaJ jbC rfl Z.len G1r (jac (jv 0) jad)) jad)))) (by decide) sc__law_rounds.nd rfl (by first|exact Or.inl rfl|exact Or.inr rfl) (fun X' hX=>by obtain⟨C,s₀,H₀,ex,rfl⟩:=hX;exact jcm (jpt (jiK (jbo jjM (jix (jv 5) (jv 7) (fun _ _=>rfl)) jau (jav _)) (jjV (jbo (jh5 hr.units) (jv 7) (jv 4) (by with_unfolding_all rfl)))))) (fun X' hX=>by obtain⟨C,s₀,H₀,ex,rfl⟩:=hX;exact(jop ja3 (jv 4) (jgL (jac (jv 7) jad))))))))))))) (by exact(jag (jb7 (i:=2) sc__law_rounds.nd rfl (Or.inl rfl) (jv 3)))))))) (by exact(jag (jcz (jaJ (jfC hr) rfl Z.sorted (by decide +kernel) (jac (jv 1) jad))))))))))) ?_
 intro ds h Q q
 obtain⟨T,n,b,e,hT,h1,h6,q⟩:=q
 subst e
 refine jai (fun σ' h' => ∃A,σ' = [some (jbj T),some (.lst A),none,none,none,none,none,none]∧h A=none∧h' A=some []∧Sub h h') (fun C hC=>⟨(by show 0≤sizeLine;decide),fun A eA=>hC _ _ ⟨A,rfl,eA,jaa,Sub.newAt (Sub.refl h) eA⟩⟩) ?_
 rintro _ h2 ⟨A,rfl,fA,kA,sA⟩
 refine jai (fun σ' h' => ∃B c,σ' = [some (jbj T),some (.lst A),some (.lst B),none,none,none,c,none]∧B≠A∧h' A=some ((jdP (jaM T) n 0).map jaA)∧h' B=some ((lev (jaM T) n 0).map jaA)∧Sub h h') (fun C hC=> ?_) ?_
 ·refine lcA (List.range n) (fun j=> .int (j:Int)) (fun i=>jaA [i]) (by rw [G0L];omega) rfl (fun R r=>⟨_,rfl,(n:Int),by rw [G0a,hT.len],by omega,by omega,r⟩) (fun j hj Q' q' =>⟨_,rfl,(by show 1≤sizeLine;decide),q'⟩) (fun B eB=>hC _ _ ⟨B,_,rfl,jap kA eB,jaf kA eB,?_,Sub.newAt sA eB⟩)
  rw [jaa]
  show _=some (((List.range n).map fun i=> [i]).map jaA)
  rw [G1d];rfl
 rintro _ h3 ⟨B,c,rfl,nB,kA,kB,sb⟩
 refine jai (fun σ' h' => ∃B c d e f,σ' = [some (jbj T),some (.lst A),some (.lst B),c,d,e,f,none]∧h' A=some ((jdP (jaM T) n n).map jaA)∧Sub h h') (fun C hC=> ?_) ?_
 ·refine jf3 (fun m σ' h' => ∃ (t:Nat) (B:Addr) (c d e f:Option D),σ' = [some (jbj T),some (.lst A),some (.lst B),c,d,e,f,none]∧m=n-t∧t≤n∧B≠A∧h' A=some ((jdP (jaM T) n t).map jaA)∧h' B=some ((lev (jaM T) n t).map jaA)∧Sub h h') n ⟨0,B,none,none,none,c,rfl,rfl,G06 _,nB,kA,kB,sb⟩ ?_
  clear kA kB sb nB
  rintro m _ h4 ⟨t,B,c,d,e,f,rfl,rfl,tn,nB,kA,kB,sb⟩
  refine⟨_,rfl,(by show 0≤sizeLine;decide),fun Z eZ=>jod (jaf kB eZ) jaa ⟨_,rfl,?_⟩⟩
  by_cases z:(lev (jaM T) n t)= []
  ·rw [z]
   refine jeo (hC _ _ ⟨B,c,d,e,f,rfl,?_,Sub.newAt sb eZ⟩)
   have:=(jeP (n-t) z).1
   rw [show t+(n-t)=n by omega] at this
   rw [this];exact jaf kA eZ
  ·have tl:t<n:=by
    rcases G12 t n with w|w
    ·exact w
    ·have:t=n:=by omega
     subst this
     exact absurd (jkF h6) z
   have ll:=jgb (g:=jaM T) h6 (show t≤6 by omega)
   have rl:=jdy (g:=jaM T) h6 (show t≤6 by omega)
   have l2:=jgb (g:=jaM T) h6 (show t+1≤6 by omega)
   have kA:=jaf (M:= []) kA eZ
   have kB:=jaf (M:= []) kB eZ
   have sb:=Sub.newAt (L:= []) sb eZ
   revert kA kB sb
   generalize jbi h4 Z []=h4
   intro kA kB sb
   rw [show (!((lev (jaM T) n t)).isEmpty)=true from by cases e:(lev (jaM T) n t) with|nil=>exact absurd e z|cons _ _=>rfl]
   refine jk5 ?_
   refine jai (fun σ' h' => ∃G,σ' = [some (jbj T),some (.lst A),some (.lst B),some (.lst G),d,e,f,none]∧G≠A∧h' G=some []∧h' A=some ((jdP (jaM T) n t).map jaA)∧h' B=some ((lev (jaM T) n t).map jaA)∧Sub h h') (fun C hC=>⟨(by show 0≤sizeLine;decide),fun G eG=>hC _ _ ⟨G,rfl,jap kA eG,jaa,jaf kA eG,jaf kB eG,Sub.newAt sb eG⟩⟩) ?_
   clear kA kB sb
   rintro _ h5 ⟨G,rfl,nG,kG,kA,kB,sb⟩
   refine jai (fun σ' h' => ∃G d e f,σ' = [some (jbj T),some (.lst A),some (.lst B),some (.lst G),d,e,f,none]∧G≠A∧h' G=some ((lev (jaM T) n (t+1)).map jaA)∧h' A=some ((jdP (jaM T) n (t+1)).map jaA)∧Sub h h') (fun C hC=> ?_) ?_
   ·refine jfZ (h1:=h5) (j:=fun h=>h B) ((lev (jaM T) n t).map jaA) (fun i σ' h' => ∃G d e f,σ' = [some (jbj T),some (.lst A),some (.lst B),some (.lst G),d,e,f,none]∧G≠A∧h' G=some ((((lev (jaM T) n t).take i).flatMap (jk6 (jaM T) n)).map jaA)∧h' A=some (((jdP (jaM T) n t)++(((lev (jaM T) n t).take i).filter fun w=>jaM T (w.getLastD 0) (w.headD 0))).map jaA)∧h' B=some ((lev (jaM T) n t).map jaA)∧Sub h h') (fun R r=>⟨_,rfl,r⟩) (fun _ _ _ ⟨_,_,_,_,_,_,_,_,k,_⟩=>k) ⟨G,d,e,f,rfl,nG,kG,by rw [G33,G3n,G1s];exact kA,kB,sb⟩ (fun σ' h' ⟨G,d,e,f,es,nG,kG,kA,_,s⟩=>hC _ _ ⟨G,d,e,f,es,nG,by rw [G0a,G0F (G0f _)] at kG;exact kG,by rw [G0a,G0F (G0f _)] at kA;exact kA,s⟩) ?_
    clear kA kB sb kG nG
    rintro i dd _ h6' hd ⟨G,d,e,f,rfl,nG,kG,kA,kB,sb⟩
    have hil:=(G0k.mp hd).1
    rw [G0a] at hil
    rw [G0o,G0c hil] at hd
    injection hd with hd
    subst hd
    have hw:=G1i hil
    have etk:=jg8 (jk6 (jaM T) n) (G0c hil)
    have etf:=jg9 (fun w=>jaM T (w.getLastD 0) (w.headD 0)) (fun w=>w) (G0c hil)
    have lel:(((lev (jaM T) n t).take (i+1)).flatMap (jk6 (jaM T) n)).length≤144:=G0C (jcM _ _ _) l2
    have lfl:(((lev (jaM T) n t).take i).filter fun w=>jaM T (w.getLastD 0) (w.headD 0)).length≤144:=G0C (G1N ..) (G0C (by rw [G0B];omega) ll)
    rw [List.map_id',List.map_id'] at etf
    generalize (lev (jaM T) n t)[i]=w at hw etk etf
    have o:=jeO hw
    have he:=o.lt _ (jhL o.len)
    have hh:=o.lt _ (jir o.len)
    refine jai (fun σ' h' =>σ' = [some (jbj T),some (.lst A),some (.lst B),some (.lst G),some (jaA w),some (je5 (T.getD (w.getLastD 0) [])),f,none]∧h6' =h') (fun C hC=>⟨_,rfl,_,rfl,_,jkI o.len,_,jeA hT he,hC _ _ ⟨rfl,rfl⟩⟩) ?_
    rintro _ _ ⟨rfl,rfl⟩
    refine jai (fun σ' h' =>σ' = [some (jbj T),some (.lst A),some (.lst B),some (.lst G),some (jaA w),some (je5 (T.getD (w.getLastD 0) [])),f,none]∧h' G=some ((((lev (jaM T) n t).take i).flatMap (jk6 (jaM T) n)).map jaA)∧h' A=some (((jdP (jaM T) n t)++(((lev (jaM T) n t).take (i+1)).filter fun w=>jaM T (w.getLastD 0) (w.headD 0))).map jaA)∧h' B=some ((lev (jaM T) n t).map jaA)∧Sub h h') (fun C hC=>⟨_,rfl,_,rfl,_,jee o.len,_,jeB (hT.row _ (Sq.getRow hT he)) hh,?_⟩) ?_
    ·show ∃k,D.bl (decide (ent T (w.getLastD 0) (w.headD 0)>0))=D.bl k∧_
     by_cases c:ent T (w.getLastD 0) (w.headD 0)>0
     ·rw [G0I c]
      refine⟨_,rfl,jk5 ⟨_,rfl,_,rfl,_,rfl,_,kA,?_,hC _ _ ⟨rfl,jah nG kG,?_,jah nB kB,sb.over fA⟩⟩⟩
      ·rw [G0a,G0d];exact jar (by omega)
      ·rw [jaa,etf,show jaM T (w.getLastD 0) (w.headD 0)=true from G0I c,if_pos rfl,←G0j,G0S (l₂:= [w])]
       rfl
     ·rw [G0P c]
      refine⟨_,rfl,jeo (hC _ _ ⟨rfl,kG,?_,kB,sb⟩)⟩
      rw [etf,show jaM T (w.getLastD 0) (w.headD 0)=false from G0P c,if_neg G0q,G1s]
      exact kA
    clear kA kB sb kG
    rintro _ h7 ⟨rfl,kG,kA,kB,sb⟩
    refine⟨_,rfl,?_⟩
    have ew:(n:Int)-(((w.headD 0:Nat):Int)+1)=((n-(w.headD 0+1):Nat):Int):=by omega
    refine lcF (j:=fun _=>some ((List.range ((n:Int)-(((w.headD 0:Nat):Int)+1)).toNat).map fun (k:Nat)=>D.int (((w.headD 0:Nat):Int)+1+(k:Int)))) (List.range (n-(w.headD 0+1))) (fun (k:Nat)=> .int (((w.headD 0:Nat):Int)+1+(k:Int))) (fun k=>jaA (w++ [w.headD 0+1+k])) (fun k=>jaM T (w.getLastD 0) (w.headD 0+1+k)&& !decide (w.headD 0+1+k∈w)) (by rw [G0L];omega) (by rw [ew,G18]) (fun R r=>⟨_,rfl,_,jee o.len,_,rfl,_,_,by rw [G0a,hT.len],⟨by omega,by omega,by omega,by omega⟩,r⟩) (fun k hk Q' q' => ?_) (fun k hk _ Q' q' => ?_) (fun F eF=> ?_)
    ·have hk:=G0z.mp hk
     have ek:((w.headD 0:Nat):Int)+1+(k:Int)=((w.headD 0+1+k:Nat):Int):=by omega
     rw [ek]
     refine⟨_,rfl,_,rfl,_,jeB (hT.row _ (Sq.getRow hT he)) (show w.headD 0+1+k<n by omega),?_⟩
     show ∃c,D.bl (jaM T (w.getLastD 0) (w.headD 0+1+k))=D.bl c∧_
     refine⟨_,rfl,?_⟩
     cases c:jaM T (w.getLastD 0) (w.headD 0+1+k) with
     |true=>
      rw [c] at q'
      exact jk5 ⟨_,rfl,_,rfl,jkC ⟨_,rfl,q'⟩⟩
     |false=>
      rw [c] at q'
      exact jeo q'
    ·have ek:((w.headD 0:Nat):Int)+1+(k:Int)=((w.headD 0+1+k:Nat):Int):=by omega
     rw [ek]
     have e:jaA (w++ [w.headD 0+1+k])= .tup ((w.map fun (k:Nat)=>D.int (k:Int))++ [.int ((w.headD 0+1+k:Nat):Int)]):=by unfold jaA;rw [List.map_append];rfl
     rw [e] at q'
     refine⟨_,rfl,_,rfl,(by show 1≤sizeLine;decide),?_,q'⟩
     rw [G0a,o.len]
     exact G0T (jar (by simp only [G0h,G0A];omega))
    ·rw [joe hh]
     refine⟨_,_,jaf kG eF,jaa,?_,fun p e=>⟨_,Sub.refl _,by rw [G0a];omega,p,_,_,_,rfl,jap (jaf kA eF) e,?_,jaf (jaf kA eF) e,jaf (jaf kB eF) e,fun a ds x=>jaf (jaf (sb a ds x) eF) e⟩⟩
     ·rw [etk,G0d] at lel
      rw [G0a,G0a]
      exact G0C lel (by decide)
     ·rw [jaa,etk,G0S]
   clear kA kB sb kG nG
   rintro _ h6' ⟨G,d,e,f,rfl,nG,kG,kA,sb⟩
   exact⟨_,rfl,n-(t+1),_,by omega,Sub.refl _,t+1,G,_,_,_,_,rfl,rfl,by omega,nG,kA,kG,sb⟩
 clear kA kB sb
 rintro _ h4 ⟨B,c,d,e,f,rfl,kA,sb⟩
 refine⟨_,rfl,A,(jdP (jaM T) n n).map toI,rfl,?_,?_,fun p mss hp pm sr=>⟨_,Sub.refl _,q p _ (jcY sb hp) (by rw [jaa,jg6 pm sr];rfl) (Sub.newAt sb hp)⟩⟩
 ·rw [kA,G1d]
  exact congrArg some (G1u fun S _=>(jg5 S).symm)
 ·rw [G0a]
  have:=jdy (g:=jaM T) h6 h6
  exact jar (by omega)
theorem joD {h:HD} {A B:Addr} {S:List Nat} {Q:KD} (k:h A=some (S.map fun (l:Nat)=>D.int (l:Int))) (k' :h B=some []) (q:Q (.bl (!decide (S= []))) h):neE (.lst A) (.lst B) h Q:=by
 have e:S.map (fun (l:Nat)=>D.int (l:Int))=(S.map fun (l:Nat)=>(l:Int)).map D.int:=by rw [G1d];rfl
 rw [e] at k
 refine⟨.list ((S.map fun (l:Nat)=>(l:Int)).map .int),.list [],⟨_,_,rfl,k,jdn _ _⟩,⟨_,_,rfl,k',rfl⟩,jez _,rfl,?_⟩
 cases S<;>exact q
theorem jmb {i:Nat} {js:List Nat} {ti:TID} {tt:TTD} {te:TED} {σ:SD} {h h1:HD} {Q:KD} (ds:List D) (W:Nat→List D→HD→Prop) (hn:ds.length≤1000) (ht: ∀R:ItD→HD→Prop,R (fun _=>some ds) h1→ti σ h R)
 (w0:W 0 [] h1) (wl: ∀k ys h',W k ys h' →ys.length≤k) (turn: ∀k d ys h',ds[k]? =some d→W k ys h' →tt ((jaH js σ).set i (some d)) h' fun b h3=>if b=true then te ((jaH js σ).set i (some d)) h3 fun y h4=> ∃h5,Sub h5 h4∧(k+1≤ds.length∧W (k+1) (ys++ [y]) h5) else ∃h5,Sub h5 h3∧(k+1≤ds.length∧W (k+1) ys h5))
 (done: ∀ys h',W ds.length ys h' → ∀p,h' p=none→Q (.lst p) (jbi h' p ys)):jev (bN i) js ti tt te σ h Q:=by
 refine ht _ ⟨ds.length,fun k ys h' =>k≤ds.length∧W k ys h',⟨G06 _,w0⟩,?_⟩
 rintro k ys h' ⟨hk,w⟩
 refine⟨G0C (wl k ys h' w) (G0T (jar (by omega))),ds,rfl,G0f _,fun hl p hp=> ?_,fun d hd=>⟨_,rfl,turn k d ys h' hd w⟩⟩
 have:k=ds.length:=by omega
 subst this;exact done _ _ w p hp
theorem joE {r:RD2} {te tu:TED} {σ:SD} {h:HD} {Q:Bool→HD→Prop} (x:te σ h fun a h1=>tu σ h1 fun b h2=>r a b h2 fun v h3=> ∃k,v= .bl k∧Q k h3):jbr (dOp r te tu) σ h Q:=x
theorem jhY: ∀ (S:List Nat) (a d:Nat),d∣S.foldl Nat.gcd a↔d∣a∧ ∀l∈S,d∣l
 | [],a,d=>⟨fun h=>⟨h,fun l hl=>absurd hl G05⟩,fun h=>h.1⟩
 |x::S,a,d=>by
  rw [G3P,jhY S _ d,Nat.dvd_gcd_iff]
  constructor
  ·rintro ⟨⟨p,q⟩,r⟩
   exact⟨p,fun l hl=>by rcases G0n.mp hl with rfl|hl;exact q;exact r l hl⟩
  ·rintro ⟨p,q⟩
   exact⟨⟨p,q x G0t⟩,fun l hl=>q l (G0y _ hl)⟩
/-- the number 1+i goes into all -/
def jhZ (S:List Nat) (i:Nat):Bool:=decide ((S.filter fun (l:Nat)=> !decide ((l:Int)%(1+(i:Int))=0))= [])
theorem goes_iff {S:List Nat} {i:Nat}:jhZ S i=true↔(1+i)∣S.foldl Nat.gcd 0:=by
 unfold jhZ
 rw [G1b,G3r,jhY]
 have e: ∀l:Nat,(!decide ((l:Int)%(1+(i:Int))=0))=true↔ ¬ (1+i)∣l:=fun l=>by
  rw [G4a,G3l,Nat.dvd_iff_mod_eq_zero,show (1:Int)+(i:Int)=((1+i:Nat):Int) by omega,←G4p]
  omega
 exact⟨fun h=>⟨Nat.dvd_zero _,fun l hl=>G2t fun z=>h l hl ((e l).mpr z)⟩,fun h l hl z=>(e l).mp z (h.2 l hl)⟩
theorem jk3 {T:List (List Int)} {n:Nat} (h6:n≤6) (ne:((jaK T n).map List.length)≠ []):1≤jcP T n∧jcP T n≤6:=by
 obtain⟨l,hl⟩:=List.exists_mem_of_ne_nil _ ne
 obtain⟨W,hW,rfl⟩:=G0N.mp hl
 obtain⟨s,hs,ok,_⟩:=jkH hW
 have d:=((jhY ((jaK T n).map List.length) 0 _).mp (Nat.dvd_refl _)).2 _ hl
 have w1:1≤W.length:=by rw [ok.len];omega
 have w6:W.length≤6:=by rw [ok.len];omega
 have le:=G4L (by omega) d
 refine⟨?_,G0C le w6⟩
 rcases Nat.eq_zero_or_pos (jcP T n) with z|z
 ·exfalso
  have z:((jaK T n).map List.length).foldl Nat.gcd 0=0:=z
  rw [z,Nat.zero_dvd] at d
  omega
 ·exact z
theorem jhn {T:List (List Int)} {n:Nat} (g1:1≤jcP T n) (g6:jcP T n≤6):jcP T n-1∈(List.range 6).filter (jhZ ((jaK T n).map List.length)):=by
 rw [G1e,G0z]
 refine⟨by omega,goes_iff.mpr ?_⟩
 rw [show 1+(jcP T n-1)=jcP T n by omega]
 exact Nat.dvd_refl _
def jcS:RDn:=fun ds h Q=> ∃T,∃n e:Nat,ds= [jbj T]∧Sq n e T∧1≤n∧n≤6∧ ∀h',Sub h h' →Q (.int ((jcP T n:Nat):Int)) h'
set_option maxHeartbeats 2000000 in
theorem jho {n:Nat} {f:Addr} {fd:FuncData} (Z:Zs mg) (F:Fun K "_law_beat" "_law_beat" jbz f fd) (C__law_rounds:jak P w K mg base n "_law_rounds" ["_law_table_here"] jca):FnOk P w K mg base CX0 (n+1) f fd ["_law_table_here"] (LSp K jcS):=by
 obtain⟨g_G__law_rounds,gd_G__law_rounds,G__law_rounds,bG__law_rounds,kG__law_rounds,mG__law_rounds⟩:=C__law_rounds
 refine F.okJ sc__law_beat (fun ds h Q q=>by obtain⟨T,n,b,e,hT,h1,h6,q⟩:=q;subst e;rfl) _ (fun cdv A outer s H E hr=>(jae (jb7 (i:=1) sc__law_beat.nd rfl (by first|exact Or.inr rfl|exact Or.inl rfl) (jlc (i:=3) (js:= [3]) rfl (jao (by rfl)) (jbY (jaC G__law_rounds hr rfl mG__law_rounds kG__law_rounds bG__law_rounds (jac (jv 0) jad))) (by decide) sc__law_beat.nd rfl (by first|exact Or.inl rfl|exact Or.inr rfl) (fun X' hX=>jbE) (fun X' hX=>by obtain⟨C,s₀,H₀,ex,rfl⟩:=hX;exact(jaJ jbC rfl Z.len G1r (jac (jv 3) jad))))) (by exact(jae (jgN (i:=4) (k:=2) (js:= [4]) rfl sc__law_beat.nd rfl (Or.inl rfl) (jao (by rfl)) (jqf rfl Z.range (jac jau (by exact(jac jau jad)))) (by decide) rfl (by first|exact Or.inl rfl|exact Or.inr rfl) (fun X' hX=>by obtain⟨C,s₀,H₀,ex,rfl⟩:=hX;exact jcm (jbo (jgJ hr.units) (jlc (i:=5) (js:= [5]) rfl (jao (by rfl)) (jbY (jv 1)) (by decide) sc__law_beat.nd rfl (by first|exact Or.inl rfl|exact Or.inr rfl) (fun X' hX=>by obtain⟨C,s₀,H₀,ex,rfl⟩:=hX;exact jcm (jbo oq_ne (jop jcy (jv 5) (jv 4)) jau (jav _))) (fun X' hX=>by obtain⟨C,s₀,H₀,ex,rfl⟩:=hX;exact(jv 5))) (jdI jad) (jav _))) (fun X' hX=>by obtain⟨C,s₀,H₀,ex,rfl⟩:=hX;exact(jv 4))) (by exact(jag (jcz (jif (jbo (jmr hr.units) (jv 1) (jdI jad) (jav _)) (jaJ (jj8 rfl) rfl Z.max (by decide +kernel) (jac (jv 2) jad)) jau)))))))) ?_
 intro ds h Q q
 obtain⟨T,n,b,e,hT,h1,h6,q⟩:=q
 subst e
 have ll:(jaK T n).length≤1000:=G0C (ji5 h6) (by decide)
 refine jai (fun σ' h' => ∃A v,σ' = [some (jbj T),some (.lst A),none,v,none,none]∧Sub h h' ∧h' A=some (((jaK T n).map List.length).map fun (l:Nat)=>D.int (l:Int))) (fun C hC=>jlv ⟨_,rfl,T,n,b,rfl,hT,h1,h6,fun A h2 nA kA sb=> ?_⟩) ?_
 ·refine lcA (j:=fun h=>h A) (jaK T n) jaA (fun W=> .int ((W.length:Nat):Int)) ll kA (fun R r=>r) (fun W hW Q' q' =>⟨_,rfl,?_⟩) (fun p hp=>hC _ _ ⟨p,_,rfl,sb.newAt hp,?_⟩)
  ·show Q' (.int (((W.map fun (k:Nat)=>D.int (k:Int)).length:Nat):Int)) _
   rw [G0a];exact q'
  ·rw [jaa,G1d];rfl
 rintro _ h2 ⟨A,v,rfl,sb,kA⟩
 refine jai (fun σ' h' => ∃B u v w,σ' = [some (jbj T),some (.lst A),some (.lst B),u,v,w]∧Sub h h' ∧h' A=some (((jaK T n).map List.length).map fun (l:Nat)=>D.int (l:Int))∧h' B=some (((List.range 6).filter (jhZ ((jaK T n).map List.length))).map fun (i:Nat)=>D.int (1+(i:Int)))) (fun C hC=> ?_) ?_
 ·refine jmb (h1:=h2) ((List.range 6).map fun (k:Nat)=>D.int (1+(k:Int))) (fun k ys h' =>h' =h2∧ys=(((List.range k).filter (jhZ ((jaK T n).map List.length))).map fun (i:Nat)=>D.int (1+(i:Int)))) (by decide) (fun R r=>⟨1,7,rfl,by decide,r⟩) ⟨rfl,rfl⟩ (fun k ys h' w=> ?_) (fun k d ys h' hd w=> ?_) (fun ys h' w p hp=> ?_)
  ·rw [w.2,G0a]
   exact G0C (G1N _ _) (by rw [G0L];exact G0f _)
  ·obtain⟨rfl,rfl⟩:=w
   have hkl:=(G0k.mp hd).1
   have hk:k<6:=by rw [G0a,G0L] at hkl;exact hkl
   rw [G0o,G1U hk] at hd
   injection hd with hd
   subst hd
   refine joE (lcF (j:=fun h=>h A) ((jaK T n).map List.length) (fun (l:Nat)=> .int (l:Int)) (fun (l:Nat)=> .int (l:Int)) (fun l=> !decide ((l:Int)%(1+(k:Int))=0)) (by rw [G0a];exact ll) kA (fun R r=>⟨_,rfl,r⟩) (fun l hl Q' q' =>⟨_,rfl,_,rfl,by omega,_,rfl,q'⟩) (fun l hl _ Q' q' =>⟨_,rfl,q'⟩) (fun F eF=>⟨(by show 0≤sizeLine;decide),fun G eG=>jn5 (jaf jaa eG) jaa ⟨_,rfl,?_⟩⟩))
   have sb3:=Sub.newAt (L:=([]:List D)) (Sub.newAt (Sub.refl h') eF) eG
   show if jhZ ((jaK T n).map List.length) k=true then _ else _
   refine jfL (fun z=> ?_) fun z=> ?_
   ·refine⟨_,rfl,h',sb3,hkl,rfl,?_⟩
    rw [G1D,G1K,G0S,G1Q z];rfl
   ·refine⟨h',sb3,hkl,rfl,?_⟩
    rw [G1D,G1K,G0S,G1R z,G3n,G1t,G1s]
  ·obtain⟨rfl,rfl⟩:=w
   exact hC _ _ ⟨p,_,_,_,rfl,sb.newAt hp,jaf kA hp,jaa⟩
 clear sb kA
 rintro _ h3 ⟨B,u,v,w,rfl,sb,kA,kB⟩
 refine⟨_,rfl,(by show 0≤sizeLine;decide),fun p e=>joD (jaf kA e) jaa ⟨_,rfl,?_⟩⟩
 have sb2:=Sub.newAt (L:=([]:List D)) sb e
 by_cases z:((jaK T n).map List.length)= []
 ·rw [G0I z]
  refine jeo ⟨_,Sub.refl _,?_⟩
  have q0:=q _ sb2
  unfold jcP at q0
  rw [z] at q0
  exact q0
 ·rw [G0P z]
  obtain⟨g1,g6⟩:=jk3 h6 z
  refine jk5 ⟨_,rfl,((List.range 6).filter (jhZ ((jaK T n).map List.length))).map (fun (i:Nat)=>1+(i:Int)),_,?_,Sub.refl _,.inr ⟨B,rfl,jaf (by rw [kB,G1d];rfl) e⟩,fun m m1 m2=>⟨_,Sub.refl _,?_⟩⟩
  ·intro w
   have:=jhn g1 g6
   rw [List.map_eq_nil_iff] at w
   rw [w] at this
   cases this
  ·have em:m=((jcP T n:Nat):Int):=by
    obtain⟨i,hi,rfl⟩:=G0N.mp m1
    have d:=goes_iff.mp (G1e.mp hi).2
    have le:=G4L (by exact g1) d
    have ge:=m2 _ (G26 (jhn g1 g6))
    show (1:Int)+(i:Int)=((((jaK T n).map List.length).foldl Nat.gcd 0:Nat):Int)
    have ge:(1:Int)+(((((jaK T n).map List.length).foldl Nat.gcd 0-1:Nat)):Int)≤1+(i:Int):=ge
    have g1:1≤((jaK T n).map List.length).foldl Nat.gcd 0:=g1
    omega
   rw [em]
   exact q _ sb2
theorem jmc {a b:Int} {c:Bool} {h:HD} {Q:KD} (e:decide (a=b)=c) (q:Q (.bl c) h):eqD (.int a) (.int b) h Q:=by
 subst e;exact q
theorem jmd {m:Nat} (h:m≤6):ShowOk (.tuple [.str (Str.ofString "told"),.int (m:Int)]):=by
 have s: ∀k:Nat,k<7→(PyData.tuple [.str (Str.ofString "told"),.int (k:Int)]).showable=true∧(PyData.tuple [.str (Str.ofString "told"),.int (k:Int)]).depth≤60∧(PyData.tuple [.str (Str.ofString "told"),.int (k:Int)]).shown.length≤1000:=by decide +kernel
 obtain⟨a,b,c⟩:=s m (by omega)
 exact⟨a,b,G0C c (by decide)⟩
theorem jme:ShowOk (.tuple [.str (Str.ofString "apart")]):=⟨by decide +kernel,by decide +kernel,by decide +kernel⟩
theorem joF {T:List (List Int)} {n:Nat} (h6:n≤6):jcP T n≤6:=by
 by_cases z:((jaK T n).map List.length)= []
 ·unfold jcP;rw [z];decide
 ·exact(jk3 h6 z).2
def jcw:RDn:=fun ds h Q=> ∃T,∃n e:Nat,ds= [jbj T]∧Sq n e T∧1≤n∧n≤6∧ ∀h',Sub h h' →Q (.bl true) h'
set_option maxHeartbeats 2000000 in
theorem jgr {n:Nat} {f:Addr} {fd:FuncData} (Z:Zs mg) (B:Bm mg base) (a:PySem.W.nsIn K mainGlobals "_law_right" =some (some (.ref f))) (TX: ∃c P,PySem.W.tabIn K "_law_right" =some (c,P)∧PySem.W.codeHdIn K c P=true) (F:Fun K "_law_right" "_law_right" jaW f fd) (C__law_pieces:jak P w K mg base (n+2) "_law_pieces" ["_law_table_here"] jb9) (C__law_beat:jak P w K mg base (n+2) "_law_beat" ["_law_table_here"] jcS) (C__law_same:jak P w K mg base (n+2) "_law_same" ["_law_found","_law_due"] jj9) (CT_beat:jak P w K mg base n "beat" ["table"] jhV) (CR_beat:jcL P w K mg base n "beat" ["table"] jgm) (CS:jqr P w K mg base n):FnOk P w K mg base CX0 ((n+2)+1) f fd ["_law_table_here"] (LSp K jcw):=by
 obtain⟨g_G__law_pieces,gd_G__law_pieces,G__law_pieces,bG__law_pieces,kG__law_pieces,mG__law_pieces⟩:=C__law_pieces
 obtain⟨g_G__law_beat,gd_G__law_beat,G__law_beat,bG__law_beat,kG__law_beat,mG__law_beat⟩:=C__law_beat
 obtain⟨g_G__law_same,gd_G__law_same,G__law_same,bG__law_same,kG__law_same,mG__law_same⟩:=C__law_same
 obtain⟨g_GL_beat,gd_GL_beat,GL_beat,bGL_beat,kGL_beat,mGL_beat⟩:=CT_beat
 obtain⟨g_GR_beat,gd_GR_beat,GR_beat,bGR_beat,kGR_beat,mGR_beat⟩:=CR_beat
 obtain⟨gS,gdS,GS,bGS,kGS,mGS⟩:=CS
 obtain⟨tc,tP,T,tH⟩:=TX
 have hTK:TabK K tP:=⟨"_law_right",by decide,tc,T⟩
 refine F.okJL a T sc__law_right (fun ds h Q q=>by obtain⟨T,n,b,e,hT,h1,h6,q⟩:=q;subst e;rfl) _ (fun A outer s H E hr=>(jae (jb7 (i:=1) sc__law_right.nd rfl (Or.inl rfl) (jif (jbo oq_eq (jaJ jbC rfl Z.len G1r (jac (jaC G__law_pieces hr rfl mG__law_pieces kG__law_pieces bG__law_pieces (jac (jv 0) jad)) jad)) jau (jav _)) (jgL (jac jfs (by exact(jac (jaC G__law_beat hr rfl mG__law_beat kG__law_beat bG__law_beat (jac (jv 0) jad)) jad)))) (jgL (jac jfs jad)))) (by exact(jae (jgM G1c rfl (jcF rfl Z.range (jac jau jad)) (ja7 (i:=2) sc__law_right.nd rfl (Or.inl rfl)) (jag (jft (jdl (jcJ (jaC G__law_same hr rfl mG__law_same kG__law_same bG__law_same (jac (jrY GS hr rfl mGS kGS bGS B rfl tH hTK (jqn rfl (by decide +kernel)) (jnS (by show jqo _ (jab jaW)=true;decide +kernel)) (fun _ _ _ _ _ _ _ _ _ hr=>(jaC GL_beat hr rfl mGL_beat kGL_beat bGL_beat (jac (jv 0) jad))) (fun _ _ _ _ _ _ _ _ _ hr=>(jf5 GR_beat hr rfl mGR_beat kGR_beat bGR_beat (jac (jv 0) jad)))) (by exact(jac (jv 1) jad)))))) (jag (jcz jbl)) jbc))) (by exact(jag (jcz jbl))))))) ?_
 intro ds h Q q
 obtain⟨T,n,b,e,hT,h1,h6,q⟩:=q
 subst e
 refine jai (fun σ' h' => ∃due,σ' = [some (jbj T),some due,none]∧Sub h h' ∧(((jgf T n).length=1∧due= .tup [.str (Str.ofString "told"),.int ((jcP T n:Nat):Int)])∨((jgf T n).length≠1∧due= .tup [.str (Str.ofString "apart")]))) (fun C hC=>⟨_,rfl,T,n,b,rfl,hT,h6,fun A h2 nA kA sb=>⟨_,kA,?_⟩⟩) ?_
 ·rw [G0a]
  have e:decide (((((jgf T n).length:Nat):Int))=1)=decide ((jgf T n).length=1):=by rw [G1z,G1b,G1b];omega
  dsimp only [dC]
  refine jmc e ⟨_,rfl,jfL (fun z=> ?_) fun z=> ?_⟩
  ·exact⟨_,rfl,T,n,b,rfl,hT,h1,h6,fun h3 sb3=>⟨(by show 2≤sizeLine;decide),hC _ _ ⟨_,rfl,fun x y w=>sb3 _ _ (sb _ _ w),.inl ⟨G1l z,rfl⟩⟩⟩⟩
  ·exact⟨(by show 1≤sizeLine;decide),hC _ _ ⟨_,rfl,sb,.inr ⟨fun w=>z (G0I w),rfl⟩⟩⟩
 rintro _ h2 ⟨due,rfl,sb,hd⟩
 refine jai (fun σ' h' =>Sub h h') (fun C hC=> ?_) (fun _ h' sb=>⟨_,Sub.refl _,q h' sb⟩)
 refine jbD 2 (fun i σ' h' => ∃u,σ' = [some (jbj T),some due,u]∧Sub h h') (by decide) (fun R r=>r) ⟨_,rfl,sb⟩ (fun σ' h' ⟨_,_,z⟩=>hC _ _ z) ?_
 clear sb
 rintro i _ h3 hi ⟨u,rfl,sb⟩
 rcases hd with ⟨one,rfl⟩|⟨no,rfl⟩
 ·refine .inl ⟨_,rfl,T,n,b,rfl,hT,h1,h6,one,?_⟩
  exact⟨_,rfl,_,_,.tuple [.str (Str.ofString "told"),.int ((jcP T n:Nat):Int)],rfl,⟨_,rfl,⟨_,_,rfl,rfl,⟨_,_,rfl,rfl,rfl⟩⟩⟩,⟨_,rfl,⟨_,_,rfl,rfl,⟨_,_,rfl,rfl,rfl⟩⟩⟩,jmd (joF h6),_,rfl,jeo ⟨_,Sub.refl _,by omega,_,rfl,sb⟩⟩
 ·refine .inr ⟨_,rfl,_,rfl,.inr ⟨T,n,b,rfl,hT,h1,h6,no,by decide,?_⟩⟩
  exact⟨_,rfl,_,_,.tuple [.str (Str.ofString "apart")],rfl,⟨_,rfl,⟨_,_,rfl,rfl,rfl⟩⟩,⟨_,rfl,⟨_,_,rfl,rfl,rfl⟩⟩,jme,_,rfl,jeo ⟨_,Sub.refl _,by omega,_,rfl,sb⟩⟩
set_option maxHeartbeats 2000000 in
theorem jqW {n:Nat} {f:Addr} {fd:FuncData} (Z:Zs mg) (F:Fun K "law" "law" jgh f fd) (C__law_right:jak P w K mg base n "_law_right" ["_law_table_here"] jcw) (C__law_cell:jak P w K mg base n "_law_cell" ["_law_script","_law_k"] jcQ) (C__law_pen:jak P w K mg base n "_law_pen" ["_law_cell_here"] jde) (C__law_joined_table:jak P w K mg base n "_law_joined_table" ["_law_pen_here","_law_size_here"] ja1) (C__law_size:jak P w K mg base n "_law_size" ["_law_pen_here"] jcR) (C__law_table:jak P w K mg base n "_law_table" ["_law_pen_here","_law_size_here"] ja1):FnOk P w K mg base CX0 (n+1) f fd ["_law_script"] (LSp K jjS):=by
 obtain⟨g_G__law_right,gd_G__law_right,G__law_right,bG__law_right,kG__law_right,mG__law_right⟩:=C__law_right
 obtain⟨g_G__law_cell,gd_G__law_cell,G__law_cell,bG__law_cell,kG__law_cell,mG__law_cell⟩:=C__law_cell
 obtain⟨g_G__law_pen,gd_G__law_pen,G__law_pen,bG__law_pen,kG__law_pen,mG__law_pen⟩:=C__law_pen
 obtain⟨g_G__law_joined_table,gd_G__law_joined_table,G__law_joined_table,bG__law_joined_table,kG__law_joined_table,mG__law_joined_table⟩:=C__law_joined_table
 obtain⟨g_G__law_size,gd_G__law_size,G__law_size,bG__law_size,kG__law_size,mG__law_size⟩:=C__law_size
 obtain⟨g_G__law_table,gd_G__law_table,G__law_table,bG__law_table,kG__law_table,mG__law_table⟩:=C__law_table
 refine F.okJ sc_law (fun ds h Q q=>by obtain⟨ns,e,hh,hns,q⟩:=q;subst e;rfl) _ (fun cdv A outer s H E hr=>(jae (jft (jpt (joI (jdl (jcJ (jaC G__law_right hr rfl mG__law_right kG__law_right bG__law_right (jac (jgL (jac (jgL (jac jau jad)) jad)) jad)))) (joI (jdl (jcJ (jaC G__law_right hr rfl mG__law_right kG__law_right bG__law_right (jac (jgL (jac (jgL (jac jau jad)) jad)) jad)))) (jp9 (jdl (jcJ (jaC G__law_right hr rfl mG__law_right kG__law_right bG__law_right (jac (jgL (jac (jgL (jac jau (by exact(jac jau jad)))) (by exact(jac (jgL (jac jau (by exact(jac jau jad)))) jad)))) jad)))))))) (jag (jcz jbl)) jbc) (by exact(jae (jgM G1c rfl (jnz (jop ja3 (jdI (jac (jaC G__law_cell hr rfl mG__law_cell kG__law_cell bG__law_cell (jac (jv 0) (by exact(jac jau jad)))) jad)) (jqb (jv 0) (jjX jau) (jjX jau)))) (ja7 (i:=1) sc_law.nd rfl (Or.inl rfl)) (jae (jb7 (i:=2) sc_law.nd rfl (Or.inl rfl) (jaC G__law_pen hr rfl mG__law_pen kG__law_pen bG__law_pen (jac (jv 1) jad))) (by exact(jae (jgM G1c rfl (jcF rfl Z.range (jac jau jad)) (ja7 (i:=3) sc_law.nd rfl (Or.inl rfl)) (jag (jft (jdl (jcJ (jaC G__law_right hr rfl mG__law_right kG__law_right bG__law_right (jac (jaC G__law_joined_table hr rfl mG__law_joined_table kG__law_joined_table bG__law_joined_table (jac (jv 2) (by exact(jac (jaC G__law_size hr rfl mG__law_size kG__law_size bG__law_size (jac (jv 2) jad)) jad)))) jad)))) (jag (jcz jbl)) jbc))) (by exact(jag (jft (jdl (jcJ (jaC G__law_right hr rfl mG__law_right kG__law_right bG__law_right (jac (jaC G__law_table hr rfl mG__law_table kG__law_table bG__law_table (jac (jv 2) (by exact(jac (jaC G__law_size hr rfl mG__law_size kG__law_size bG__law_size (jac (jv 2) jad)) jad)))) jad)))) (jag (jcz jbl)) jbc))))))) (by exact(jag (jcz jbl))))))) ?_
 intro ds h Q q
 obtain⟨ns,e,hh,hns,q⟩:=q
 subst e
 have hA:Sq 1 3 [[(0:Int)]]:=⟨by decide,by decide,by decide,by decide⟩
 have hA4:Sq 1 3 [[(4:Int)]]:=⟨by decide,by decide,by decide,by decide⟩
 have hB:Sq 2 3 [[(0:Int),1],[0,0]]:=⟨by decide,by decide,by decide,by decide⟩
 refine jai (fun σ' h' =>σ' = [some (.scr ns),none,none,none]∧True) (fun C hC=>⟨(by show 1≤sizeLine;decide),(by show 1≤sizeLine;decide),[[0]],1,3,rfl,hA,by decide,by decide,fun h' sb=>⟨_,rfl,jeo ⟨(by show 1≤sizeLine;decide),(by show 1≤sizeLine;decide),[[4]],1,3,rfl,hA4,by decide,by decide,fun h' sb=>⟨_,rfl,jeo ⟨(by show 2≤sizeLine;decide),(by show 2≤sizeLine;decide),(by show 2≤sizeLine;decide),[[0,1],[0,0]],2,3,rfl,hB,by decide,by decide,fun h' sb=>⟨_,rfl,jeo (hC _ _ ⟨rfl,True.intro⟩)⟩⟩⟩⟩⟩⟩) ?_
 rintro _ h ⟨rfl,_⟩
 refine jai (fun σ' h' =>True) (fun C hC=> ?_) (fun σ' h3 hV=>⟨h3,Sub.refl _,q h3⟩)
 refine⟨_,rfl,ns,0,rfl,(by decide),fun n0=>⟨(by show 1≤sizeLine;decide),fun p1 e1=>⟨_,rfl,_,rfl,_,rfl,fun p2 e2=>⟨_,_,jaf jaa e2,jaa,?_,fun p3 e3=>⟨p3,rfl,?_⟩⟩⟩⟩⟩
 ·have:(jiJ ns (some 1) (some 5)).length≤ns.length:=by unfold jiJ;rw [List.length_take,List.length_drop];omega
  rw [G0a]
  exact G0T (jar (by simp only [G0h,G0A];omega))
 generalize hcs:([D.int n0]++(jiJ ns (some 1) (some 5)).map D.int)=cs
 have hint: ∀d∈cs,∃c,d= .int c:=fun d hd=>by
  rw [←hcs] at hd
  rcases G0u.mp hd with z|z
  ·exact⟨n0,G0g.mp z⟩
  ·obtain⟨x,_,e⟩:=G0N.mp z;exact⟨x,e.symm⟩
 refine jgI cs (fun i σ' h' => ∃a1 a2 a3,σ' = [some (.scr ns),a1,a2,a3]∧h' p3=some cs) (fun i σ' h' ⟨_,_,_,_,k⟩=>k) ⟨_,_,_,rfl,jaa⟩ (fun σ' h' _=>hC _ _ True.intro) ?_
 rintro i d _ h4 hi ⟨b1,b2,b3,rfl,k3⟩
 obtain⟨c,rfl⟩:=hint d (G0i hi)
 have hil:i<cs.length:=(G0k.mp hi).1
 show jd1 _ _ _ [some (.scr ns),some (.int c),b2,b3] h4
 refine jai (fun σ' h' => ∃p l fl,σ' = [some (.scr ns),some (.int c),some (.lst p),b3]∧h' p=some [.int l,.int fl]∧0≤l∧h' p3=some cs∧p3≠p) (fun C hC=> ?_) ?_
 ·refine⟨_,rfl,c,rfl,fun p l fl ep l0 _=>hC _ _ ⟨p,l,fl,rfl,jaa,l0,jaf k3 ep,Ne.symm (jap k3 ep)⟩⟩
 rintro _ h5 ⟨p,l,fl,rfl,kp,l0,k3,n3⟩
 refine jai (fun σ' h' => ∃b3 l2,σ' = [some (.scr ns),some (.int c),some (.lst p),b3]∧h' p=some [.int l2,.int fl]∧0≤l2∧h' p3=some cs) (fun C hC=> ?_) ?_
 ·refine jbD 3 (fun i σ' h' => ∃b3 l2,σ' = [some (.scr ns),some (.int c),some (.lst p),b3]∧h' p=some [.int l2,.int fl]∧0≤l2∧h' p3=some cs) (by decide) (fun R r=>r) ⟨_,l,rfl,kp,l0,k3⟩ (fun σ' h' z=>hC _ _ z) ?_
  clear kp l0 k3
  rintro t _ h6 ht ⟨b3',l2,rfl,kp,l20,k3⟩
  exact⟨_,rfl,_,rfl,p,l2,fl,rfl,kp,l20,fun n l3 n1 n6 l30=>⟨p,l3,fl,n,rfl,jaa,l30,n1,n6,fun T l4 gT l40=>⟨T,n,20,rfl,gT.sq,n1,n6,fun h' sb=>⟨_,rfl,jeo ⟨_,Sub.refl _,by omega,_,l4,rfl,sb _ _ jaa,l40,sb _ _ (jah n3 (jah n3 k3))⟩⟩⟩⟩⟩
 clear kp l0 k3
 rintro _ h7 ⟨c3,l2,rfl,kp,l20,k3⟩
 exact⟨_,rfl,_,rfl,p,l2,fl,rfl,kp,l20,fun n l3 n1 n6 l30=>⟨p,l3,fl,n,rfl,jaa,l30,n1,n6,fun T l4 gT l40=>⟨T,n,20,rfl,gT.sq,n1,n6,fun h' sb=>⟨_,rfl,jeo ⟨_,Sub.refl _,by omega,_,_,_,rfl,sb _ _ (jah n3 (jah n3 k3))⟩⟩⟩⟩⟩
end
set_option maxHeartbeats 8000000 in
theorem jqX {l:PySem.W.OpenLaw} {w:World} {K:PySem.W.Frag} {h:Heap} {mg:Str→Option Value} {fa:Addr} (X:K.In h) (G:h.Ns mainGlobals mg) (hfa:mg "law" =some (.ref fa))
 {f0:Addr} {od0 an0:Option Addr} {sl0:Array (Option Value)} {oc0 kV0 dc0 pm0 cd0 ct0:Value}
 (a0:PySem.W.nsIn K mainGlobals "is_whole" =some (some (.ref f0))) (l0:K.lookup f0=some ⟨oc0,od0,.func (PySem.W.fnOf "is_whole" "is_whole" (jaq jbN) (jal jbN) (jab jbN) .none kV0 dc0 pm0 an0 cd0 ct0),sl0⟩) (c0:PySem.W.codeIn K cd0 "is_whole" =true) (k0:PySem.W.keepIn K (.ref f0)=true)
 {f1:Addr} {od1 an1:Option Addr} {sl1:Array (Option Value)} {oc1 kV1 dc1 pm1 cd1 ct1:Value}
 (a1:PySem.W.nsIn K mainGlobals "is_table_row" =some (some (.ref f1))) (l1:K.lookup f1=some ⟨oc1,od1,.func (PySem.W.fnOf "is_table_row" "is_table_row" (jaq jaR) (jal jaR) (jab jaR) .none kV1 dc1 pm1 an1 cd1 ct1),sl1⟩) (c1:PySem.W.codeIn K cd1 "is_table_row" =true) (k1:PySem.W.keepIn K (.ref f1)=true)
 {f2:Addr} {od2 an2:Option Addr} {sl2:Array (Option Value)} {oc2 kV2 dc2 pm2 cd2 ct2:Value}
 (a2:PySem.W.nsIn K mainGlobals "has_table_form" =some (some (.ref f2))) (l2:K.lookup f2=some ⟨oc2,od2,.func (PySem.W.fnOf "has_table_form" "has_table_form" (jaq jaF) (jal jaF) (jab jaF) .none kV2 dc2 pm2 an2 cd2 ct2),sl2⟩) (c2:PySem.W.codeIn K cd2 "has_table_form" =true) (k2:PySem.W.keepIn K (.ref f2)=true)
 {f3:Addr} {od3 an3:Option Addr} {sl3:Array (Option Value)} {oc3 kV3 dc3 pm3 cd3 ct3:Value}
 (a3:PySem.W.nsIn K mainGlobals "want_table" =some (some (.ref f3))) (l3:K.lookup f3=some ⟨oc3,od3,.func (PySem.W.fnOf "want_table" "want_table" (jaq jaV) (jal jaV) (jab jaV) .none kV3 dc3 pm3 an3 cd3 ct3),sl3⟩) (c3:PySem.W.codeIn K cd3 "want_table" =true) (k3:PySem.W.keepIn K (.ref f3)=true)
 {f4:Addr} {od4 an4:Option Addr} {sl4:Array (Option Value)} {oc4 kV4 dc4 pm4 cd4 ct4:Value}
 (a4:PySem.W.nsIn K mainGlobals "reaches" =some (some (.ref f4))) (l4:K.lookup f4=some ⟨oc4,od4,.func (PySem.W.fnOf "reaches" "reaches" (jaq jci) (jal jci) (jab jci) .none kV4 dc4 pm4 an4 cd4 ct4),sl4⟩) (c4:PySem.W.codeIn K cd4 "reaches" =true) (k4:PySem.W.keepIn K (.ref f4)=true)
 {f5:Addr} {od5 an5:Option Addr} {sl5:Array (Option Value)} {oc5 kV5 dc5 pm5 cd5 ct5:Value}
 (a5:PySem.W.nsIn K mainGlobals "pieces_by" =some (some (.ref f5))) (l5:K.lookup f5=some ⟨oc5,od5,.func (PySem.W.fnOf "pieces_by" "pieces_by" (jaq jbs) (jal jbs) (jab jbs) .none kV5 dc5 pm5 an5 cd5 ct5),sl5⟩) (c5:PySem.W.codeIn K cd5 "pieces_by" =true) (k5:PySem.W.keepIn K (.ref f5)=true)
 {f6:Addr} {od6 an6:Option Addr} {sl6:Array (Option Value)} {oc6 kV6 dc6 pm6 cd6 ct6:Value}
 (a6:PySem.W.nsIn K mainGlobals "pieces" =some (some (.ref f6))) (l6:K.lookup f6=some ⟨oc6,od6,.func (PySem.W.fnOf "pieces" "pieces" (jaq jcr) (jal jcr) (jab jcr) .none kV6 dc6 pm6 an6 cd6 ct6),sl6⟩) (c6:PySem.W.codeIn K cd6 "pieces" =true) (k6:PySem.W.keepIn K (.ref f6)=true)
 {f7:Addr} {od7 an7:Option Addr} {sl7:Array (Option Value)} {oc7 kV7 dc7 pm7 cd7 ct7:Value}
 (a7:PySem.W.nsIn K mainGlobals "joined" =some (some (.ref f7))) (l7:K.lookup f7=some ⟨oc7,od7,.func (PySem.W.fnOf "joined" "joined" (jaq jcs) (jal jcs) (jab jcs) .none kV7 dc7 pm7 an7 cd7 ct7),sl7⟩) (c7:PySem.W.codeIn K cd7 "joined" =true) (k7:PySem.W.keepIn K (.ref f7)=true)
 {f8:Addr} {od8 an8:Option Addr} {sl8:Array (Option Value)} {oc8 kV8 dc8 pm8 cd8 ct8:Value}
 (a8:PySem.W.nsIn K mainGlobals "heads" =some (some (.ref f8))) (l8:K.lookup f8=some ⟨oc8,od8,.func (PySem.W.fnOf "heads" "heads" (jaq jdQ) (jal jdQ) (jab jdQ) .none kV8 dc8 pm8 an8 cd8 ct8),sl8⟩) (c8:PySem.W.codeIn K cd8 "heads" =true) (k8:PySem.W.keepIn K (.ref f8)=true)
 {f9:Addr} {od9 an9:Option Addr} {sl9:Array (Option Value)} {oc9 kV9 dc9 pm9 cd9 ct9:Value}
 (a9:PySem.W.nsIn K mainGlobals "greatest_into" =some (some (.ref f9))) (l9:K.lookup f9=some ⟨oc9,od9,.func (PySem.W.fnOf "greatest_into" "greatest_into" (jaq jaL) (jal jaL) (jab jaL) .none kV9 dc9 pm9 an9 cd9 ct9),sl9⟩) (c9:PySem.W.codeIn K cd9 "greatest_into" =true) (k9:PySem.W.keepIn K (.ref f9)=true)
 {f10:Addr} {od10 an10:Option Addr} {sl10:Array (Option Value)} {oc10 kV10 dc10 pm10 cd10 ct10:Value}
 (a10:PySem.W.nsIn K mainGlobals "all_rounds" =some (some (.ref f10))) (l10:K.lookup f10=some ⟨oc10,od10,.func (PySem.W.fnOf "all_rounds" "all_rounds" (jaq jbd) (jal jbd) (jab jbd) .none kV10 dc10 pm10 an10 cd10 ct10),sl10⟩) (c10:PySem.W.codeIn K cd10 "all_rounds" =true) (k10:PySem.W.keepIn K (.ref f10)=true)
 {f11:Addr} {od11 an11:Option Addr} {sl11:Array (Option Value)} {oc11 kV11 dc11 pm11 cd11 ct11:Value}
 (a11:PySem.W.nsIn K mainGlobals "beat" =some (some (.ref f11))) (l11:K.lookup f11=some ⟨oc11,od11,.func (PySem.W.fnOf "beat" "beat" (jaq jeR) (jal jeR) (jab jeR) .none kV11 dc11 pm11 an11 cd11 ct11),sl11⟩) (c11:PySem.W.codeIn K cd11 "beat" =true) (k11:PySem.W.keepIn K (.ref f11)=true)
 {f12:Addr} {od12 an12:Option Addr} {sl12:Array (Option Value)} {oc12 kV12 dc12 pm12 cd12 ct12:Value}
 (a12:PySem.W.nsIn K mainGlobals "_law_cell" =some (some (.ref f12))) (l12:K.lookup f12=some ⟨oc12,od12,.func (PySem.W.fnOf "_law_cell" "_law_cell" (jaq jbt) (jal jbt) (jab jbt) .none kV12 dc12 pm12 an12 cd12 ct12),sl12⟩) (c12:PySem.W.codeIn K cd12 "_law_cell" =true) (k12:PySem.W.keepIn K (.ref f12)=true)
 {f13:Addr} {od13 an13:Option Addr} {sl13:Array (Option Value)} {oc13 kV13 dc13 pm13 cd13 ct13:Value}
 (a13:PySem.W.nsIn K mainGlobals "_law_pen" =some (some (.ref f13))) (l13:K.lookup f13=some ⟨oc13,od13,.func (PySem.W.fnOf "_law_pen" "_law_pen" (jaq jbO) (jal jbO) (jab jbO) .none kV13 dc13 pm13 an13 cd13 ct13),sl13⟩) (c13:PySem.W.codeIn K cd13 "_law_pen" =true) (k13:PySem.W.keepIn K (.ref f13)=true)
 {f14:Addr} {od14 an14:Option Addr} {sl14:Array (Option Value)} {oc14 kV14 dc14 pm14 cd14 ct14:Value}
 (a14:PySem.W.nsIn K mainGlobals "_law_draw" =some (some (.ref f14))) (l14:K.lookup f14=some ⟨oc14,od14,.func (PySem.W.fnOf "_law_draw" "_law_draw" (jaq jbu) (jal jbu) (jab jbu) .none kV14 dc14 pm14 an14 cd14 ct14),sl14⟩) (c14:PySem.W.codeIn K cd14 "_law_draw" =true) (k14:PySem.W.keepIn K (.ref f14)=true)
 {f15:Addr} {od15 an15:Option Addr} {sl15:Array (Option Value)} {oc15 kV15 dc15 pm15 cd15 ct15:Value}
 (a15:PySem.W.nsIn K mainGlobals "_law_kind" =some (some (.ref f15))) (l15:K.lookup f15=some ⟨oc15,od15,.func (PySem.W.fnOf "_law_kind" "_law_kind" (jaq jbv) (jal jbv) (jab jbv) .none kV15 dc15 pm15 an15 cd15 ct15),sl15⟩) (c15:PySem.W.codeIn K cd15 "_law_kind" =true) (k15:PySem.W.keepIn K (.ref f15)=true)
 {f16:Addr} {od16 an16:Option Addr} {sl16:Array (Option Value)} {oc16 kV16 dc16 pm16 cd16 ct16:Value}
 (a16:PySem.W.nsIn K mainGlobals "_law_said" =some (some (.ref f16))) (l16:K.lookup f16=some ⟨oc16,od16,.func (PySem.W.fnOf "_law_said" "_law_said" (jaq jbw) (jal jbw) (jab jbw) .none kV16 dc16 pm16 an16 cd16 ct16),sl16⟩) (c16:PySem.W.codeIn K cd16 "_law_said" =true) (k16:PySem.W.keepIn K (.ref f16)=true)
 {f17:Addr} {od17 an17:Option Addr} {sl17:Array (Option Value)} {oc17 kV17 dc17 pm17 cd17 ct17:Value}
 (a17:PySem.W.nsIn K mainGlobals "_law_same" =some (some (.ref f17))) (l17:K.lookup f17=some ⟨oc17,od17,.func (PySem.W.fnOf "_law_same" "_law_same" (jaq jbx) (jal jbx) (jab jbx) .none kV17 dc17 pm17 an17 cd17 ct17),sl17⟩) (c17:PySem.W.codeIn K cd17 "_law_same" =true) (k17:PySem.W.keepIn K (.ref f17)=true)
 {f18:Addr} {od18 an18:Option Addr} {sl18:Array (Option Value)} {oc18 kV18 dc18 pm18 cd18 ct18:Value}
 (a18:PySem.W.nsIn K mainGlobals "_law_size" =some (some (.ref f18))) (l18:K.lookup f18=some ⟨oc18,od18,.func (PySem.W.fnOf "_law_size" "_law_size" (jaq jby) (jal jby) (jab jby) .none kV18 dc18 pm18 an18 cd18 ct18),sl18⟩) (c18:PySem.W.codeIn K cd18 "_law_size" =true) (k18:PySem.W.keepIn K (.ref f18)=true)
 {f19:Addr} {od19 an19:Option Addr} {sl19:Array (Option Value)} {oc19 kV19 dc19 pm19 cd19 ct19:Value}
 (a19:PySem.W.nsIn K mainGlobals "_law_table" =some (some (.ref f19))) (l19:K.lookup f19=some ⟨oc19,od19,.func (PySem.W.fnOf "_law_table" "_law_table" (jaq jbe) (jal jbe) (jab jbe) .none kV19 dc19 pm19 an19 cd19 ct19),sl19⟩) (c19:PySem.W.codeIn K cd19 "_law_table" =true) (k19:PySem.W.keepIn K (.ref f19)=true)
 {f20:Addr} {od20 an20:Option Addr} {sl20:Array (Option Value)} {oc20 kV20 dc20 pm20 cd20 ct20:Value}
 (a20:PySem.W.nsIn K mainGlobals "_law_after" =some (some (.ref f20))) (l20:K.lookup f20=some ⟨oc20,od20,.func (PySem.W.fnOf "_law_after" "_law_after" (jaq jbf) (jal jbf) (jab jbf) .none kV20 dc20 pm20 an20 cd20 ct20),sl20⟩) (c20:PySem.W.codeIn K cd20 "_law_after" =true) (k20:PySem.W.keepIn K (.ref f20)=true)
 {f21:Addr} {od21 an21:Option Addr} {sl21:Array (Option Value)} {oc21 kV21 dc21 pm21 cd21 ct21:Value}
 (a21:PySem.W.nsIn K mainGlobals "_law_order" =some (some (.ref f21))) (l21:K.lookup f21=some ⟨oc21,od21,.func (PySem.W.fnOf "_law_order" "_law_order" (jaq jbg) (jal jbg) (jab jbg) .none kV21 dc21 pm21 an21 cd21 ct21),sl21⟩) (c21:PySem.W.codeIn K cd21 "_law_order" =true) (k21:PySem.W.keepIn K (.ref f21)=true)
 {f22:Addr} {od22 an22:Option Addr} {sl22:Array (Option Value)} {oc22 kV22 dc22 pm22 cd22 ct22:Value}
 (a22:PySem.W.nsIn K mainGlobals "_law_far" =some (some (.ref f22))) (l22:K.lookup f22=some ⟨oc22,od22,.func (PySem.W.fnOf "_law_far" "_law_far" (jaq jbP) (jal jbP) (jab jbP) .none kV22 dc22 pm22 an22 cd22 ct22),sl22⟩) (c22:PySem.W.codeIn K cd22 "_law_far" =true) (k22:PySem.W.keepIn K (.ref f22)=true)
 {f23:Addr} {od23 an23:Option Addr} {sl23:Array (Option Value)} {oc23 kV23 dc23 pm23 cd23 ct23:Value}
 (a23:PySem.W.nsIn K mainGlobals "_law_pieces" =some (some (.ref f23))) (l23:K.lookup f23=some ⟨oc23,od23,.func (PySem.W.fnOf "_law_pieces" "_law_pieces" (jaq jaY) (jal jaY) (jab jaY) .none kV23 dc23 pm23 an23 cd23 ct23),sl23⟩) (c23:PySem.W.codeIn K cd23 "_law_pieces" =true) (k23:PySem.W.keepIn K (.ref f23)=true)
 {f24:Addr} {od24 an24:Option Addr} {sl24:Array (Option Value)} {oc24 kV24 dc24 pm24 cd24 ct24:Value}
 (a24:PySem.W.nsIn K mainGlobals "_law_joined_table" =some (some (.ref f24))) (l24:K.lookup f24=some ⟨oc24,od24,.func (PySem.W.fnOf "_law_joined_table" "_law_joined_table" (jaq jax) (jal jax) (jab jax) .none kV24 dc24 pm24 an24 cd24 ct24),sl24⟩) (c24:PySem.W.codeIn K cd24 "_law_joined_table" =true) (k24:PySem.W.keepIn K (.ref f24)=true)
 {f25:Addr} {od25 an25:Option Addr} {sl25:Array (Option Value)} {oc25 kV25 dc25 pm25 cd25 ct25:Value}
 (a25:PySem.W.nsIn K mainGlobals "_law_rounds" =some (some (.ref f25))) (l25:K.lookup f25=some ⟨oc25,od25,.func (PySem.W.fnOf "_law_rounds" "_law_rounds" (jaq jaZ) (jal jaZ) (jab jaZ) .none kV25 dc25 pm25 an25 cd25 ct25),sl25⟩) (c25:PySem.W.codeIn K cd25 "_law_rounds" =true) (k25:PySem.W.keepIn K (.ref f25)=true)
 {f26:Addr} {od26 an26:Option Addr} {sl26:Array (Option Value)} {oc26 kV26 dc26 pm26 cd26 ct26:Value}
 (a26:PySem.W.nsIn K mainGlobals "_law_beat" =some (some (.ref f26))) (l26:K.lookup f26=some ⟨oc26,od26,.func (PySem.W.fnOf "_law_beat" "_law_beat" (jaq jbz) (jal jbz) (jab jbz) .none kV26 dc26 pm26 an26 cd26 ct26),sl26⟩) (c26:PySem.W.codeIn K cd26 "_law_beat" =true) (k26:PySem.W.keepIn K (.ref f26)=true)
 {f27:Addr} {od27 an27:Option Addr} {sl27:Array (Option Value)} {oc27 kV27 dc27 pm27 cd27 ct27:Value}
 (a27:PySem.W.nsIn K mainGlobals "_law_right" =some (some (.ref f27))) (l27:K.lookup f27=some ⟨oc27,od27,.func (PySem.W.fnOf "_law_right" "_law_right" (jaq jaW) (jal jaW) (jab jaW) .none kV27 dc27 pm27 an27 cd27 ct27),sl27⟩) (c27:PySem.W.codeIn K cd27 "_law_right" =true) (k27:PySem.W.keepIn K (.ref f27)=true)
 {f28:Addr} {od28 an28:Option Addr} {sl28:Array (Option Value)} {oc28 kV28 dc28 pm28 cd28 ct28:Value}
 (a28:PySem.W.nsIn K mainGlobals "law" =some (some (.ref f28))) (l28:K.lookup f28=some ⟨oc28,od28,.func (PySem.W.fnOf "law" "law" (jaq jgh) (jal jgh) (jab jgh) .none kV28 dc28 pm28 an28 cd28 ct28),sl28⟩) (c28:PySem.W.codeIn K cd28 "law" =true) (k28:PySem.W.keepIn K (.ref f28)=true)
 {tk0:Tok} (v0:PySem.W.nsIn K mainGlobals "MOST_ROWS" =some (some (.int 6 tk0)))
 (z0:PySem.W.nsIn K mainGlobals "len" =some none)
 (z1:PySem.W.nsIn K mainGlobals "max" =some none)
 (z2:PySem.W.nsIn K mainGlobals "min" =some none)
 (z3:PySem.W.nsIn K mainGlobals "divmod" =some none)
 (z4:PySem.W.nsIn K mainGlobals "all" =some none)
 (z5:PySem.W.nsIn K mainGlobals "any" =some none)
 (z6:PySem.W.nsIn K mainGlobals "repr" =some none)
 (z7:PySem.W.nsIn K mainGlobals "sum" =some none)
 (z8:PySem.W.nsIn K mainGlobals "sorted" =some none)
 (z9:PySem.W.nsIn K mainGlobals "int" =some none)
 (z10:PySem.W.nsIn K mainGlobals "tuple" =some none)
 (z11:PySem.W.nsIn K mainGlobals "list" =some none)
 (z12:PySem.W.nsIn K mainGlobals "set" =some none)
 (z13:PySem.W.nsIn K mainGlobals "bool" =some none)
 (z14:PySem.W.nsIn K mainGlobals "isinstance" =some none)
 (z15:PySem.W.nsIn K mainGlobals "range" =some none)
 (z16:PySem.W.nsIn K mainGlobals "zip" =some none)
 (z17:PySem.W.nsIn K mainGlobals "enumerate" =some none)
 (z18:PySem.W.nsIn K mainGlobals "reversed" =some none)
 (ex:jrZ K=true)
 (tb0:jnU K "_law_right" =true)
 : ∃fd:FuncData,(∀ (s:Shared) (v:Value),BindsTo s fd ⟨[v],[]⟩ [("_law_script",v)])∧ ∀base:Heap,K.In base→base.Ns mainGlobals mg→Bm mg base→FnOk l.prog w K mg base CX0 11 fa fd ["_law_script"] (LSp K jjS):=by
 have e:=hfa.symm.trans (G0U X G a28)
 cases e
 have F0:=jaG (st:=jbN) l0 c0 k0
 have b0:=F0.binds (ps:= ["thing"]) fun _ _ _ _ _ _ us hl=>match us,hl with| [_],_=>rfl
 have m0:=G0U X G a0
 have F1:=jaG (st:=jaR) l1 c1 k1
 have b1:=F1.binds (ps:= ["thing","size"]) fun _ _ _ _ _ _ us hl=>match us,hl with| [_,_],_=>rfl
 have m1:=G0U X G a1
 have F2:=jaG (st:=jaF) l2 c2 k2
 have b2:=F2.binds (ps:= ["thing"]) fun _ _ _ _ _ _ us hl=>match us,hl with| [_],_=>rfl
 have m2:=G0U X G a2
 have F3:=jaG (st:=jaV) l3 c3 k3
 have b3:=F3.binds (ps:= ["thing"]) fun _ _ _ _ _ _ us hl=>match us,hl with| [_],_=>rfl
 have m3:=G0U X G a3
 have F4:=jaG (st:=jci) l4 c4 k4
 have b4:=F4.binds (ps:= ["table"]) fun _ _ _ _ _ _ us hl=>match us,hl with| [_],_=>rfl
 have m4:=G0U X G a4
 have F5:=jaG (st:=jbs) l5 c5 k5
 have b5:=F5.binds (ps:= ["come"]) fun _ _ _ _ _ _ us hl=>match us,hl with| [_],_=>rfl
 have m5:=G0U X G a5
 have F6:=jaG (st:=jcr) l6 c6 k6
 have b6:=F6.binds (ps:= ["table"]) fun _ _ _ _ _ _ us hl=>match us,hl with| [_],_=>rfl
 have m6:=G0U X G a6
 have F7:=jaG (st:=jcs) l7 c7 k7
 have b7:=F7.binds (ps:= ["table"]) fun _ _ _ _ _ _ us hl=>match us,hl with| [_],_=>rfl
 have m7:=G0U X G a7
 have F8:=jaG (st:=jdQ) l8 c8 k8
 have b8:=F8.binds (ps:= ["table","place"]) fun _ _ _ _ _ _ us hl=>match us,hl with| [_,_],_=>rfl
 have m8:=G0U X G a8
 have F9:=jaG (st:=jaL) l9 c9 k9
 have b9:=F9.binds (ps:= ["one","other"]) fun _ _ _ _ _ _ us hl=>match us,hl with| [_,_],_=>rfl
 have m9:=G0U X G a9
 have F10:=jaG (st:=jbd) l10 c10 k10
 have b10:=F10.binds (ps:= ["table"]) fun _ _ _ _ _ _ us hl=>match us,hl with| [_],_=>rfl
 have m10:=G0U X G a10
 have F11:=jaG (st:=jeR) l11 c11 k11
 have b11:=F11.binds (ps:= ["table"]) fun _ _ _ _ _ _ us hl=>match us,hl with| [_],_=>rfl
 have m11:=G0U X G a11
 have F12:=jaG (st:=jbt) l12 c12 k12
 have b12:=F12.binds (ps:= ["_law_script","_law_k"]) fun _ _ _ _ _ _ us hl=>match us,hl with| [_,_],_=>rfl
 have m12:=G0U X G a12
 have F13:=jaG (st:=jbO) l13 c13 k13
 have b13:=F13.binds (ps:= ["_law_cell_here"]) fun _ _ _ _ _ _ us hl=>match us,hl with| [_],_=>rfl
 have m13:=G0U X G a13
 have F14:=jaG (st:=jbu) l14 c14 k14
 have b14:=F14.binds (ps:= ["_law_pen_here","_law_many"]) fun _ _ _ _ _ _ us hl=>match us,hl with| [_,_],_=>rfl
 have m14:=G0U X G a14
 have F15:=jaG (st:=jbv) l15 c15 k15
 have b15:=F15.binds (ps:= ["_law_e"]) fun _ _ _ _ _ _ us hl=>match us,hl with| [_],_=>rfl
 have m15:=G0U X G a15
 have F16:=jaG (st:=jbw) l16 c16 k16
 have b16:=F16.binds (ps:= ["_law_call"]) fun _ _ _ _ _ _ us hl=>match us,hl with| [_],_=>rfl
 have m16:=G0U X G a16
 have F17:=jaG (st:=jbx) l17 c17 k17
 have b17:=F17.binds (ps:= ["_law_found","_law_due"]) fun _ _ _ _ _ _ us hl=>match us,hl with| [_,_],_=>rfl
 have m17:=G0U X G a17
 have F18:=jaG (st:=jby) l18 c18 k18
 have b18:=F18.binds (ps:= ["_law_pen_here"]) fun _ _ _ _ _ _ us hl=>match us,hl with| [_],_=>rfl
 have m18:=G0U X G a18
 have F19:=jaG (st:=jbe) l19 c19 k19
 have b19:=F19.binds (ps:= ["_law_pen_here","_law_size_here"]) fun _ _ _ _ _ _ us hl=>match us,hl with| [_,_],_=>rfl
 have m19:=G0U X G a19
 have F20:=jaG (st:=jbf) l20 c20 k20
 have b20:=F20.binds (ps:= ["_law_table_here","_law_some"]) fun _ _ _ _ _ _ us hl=>match us,hl with| [_,_],_=>rfl
 have m20:=G0U X G a20
 have F21:=jaG (st:=jbg) l21 c21 k21
 have b21:=F21.binds (ps:= ["_law_pen_here","_law_many"]) fun _ _ _ _ _ _ us hl=>match us,hl with| [_,_],_=>rfl
 have m21:=G0U X G a21
 have F22:=jaG (st:=jbP) l22 c22 k22
 have b22:=F22.binds (ps:= ["_law_table_here"]) fun _ _ _ _ _ _ us hl=>match us,hl with| [_],_=>rfl
 have m22:=G0U X G a22
 have F23:=jaG (st:=jaY) l23 c23 k23
 have b23:=F23.binds (ps:= ["_law_table_here"]) fun _ _ _ _ _ _ us hl=>match us,hl with| [_],_=>rfl
 have m23:=G0U X G a23
 have F24:=jaG (st:=jax) l24 c24 k24
 have b24:=F24.binds (ps:= ["_law_pen_here","_law_size_here"]) fun _ _ _ _ _ _ us hl=>match us,hl with| [_,_],_=>rfl
 have m24:=G0U X G a24
 have F25:=jaG (st:=jaZ) l25 c25 k25
 have b25:=F25.binds (ps:= ["_law_table_here"]) fun _ _ _ _ _ _ us hl=>match us,hl with| [_],_=>rfl
 have m25:=G0U X G a25
 have F26:=jaG (st:=jbz) l26 c26 k26
 have b26:=F26.binds (ps:= ["_law_table_here"]) fun _ _ _ _ _ _ us hl=>match us,hl with| [_],_=>rfl
 have m26:=G0U X G a26
 have F27:=jaG (st:=jaW) l27 c27 k27
 have b27:=F27.binds (ps:= ["_law_table_here"]) fun _ _ _ _ _ _ us hl=>match us,hl with| [_],_=>rfl
 have m27:=G0U X G a27
 have F28:=jaG (st:=jgh) l28 c28 k28
 have b28:=F28.binds (ps:= ["_law_script"]) fun _ _ _ _ _ _ us hl=>match us,hl with| [_],_=>rfl
 have m28:=G0U X G a28
 have M_MOST_ROWS: ∃tk,mg "MOST_ROWS" =some (.int 6 tk):=⟨_,G0U X G v0⟩
 have Z:Zs mg:=⟨G0Y X G z0,G0Y X G z1,G0Y X G z2,G0Y X G z3,G0Y X G z4,G0Y X G z5,G0Y X G z6,G0Y X G z7,G0Y X G z8,G0Y X G z9,G0Y X G z10,G0Y X G z11,G0Y X G z12,G0Y X G z13,G0Y X G z14,G0Y X G z15,G0Y X G z16,G0Y X G z17,G0Y X G z18⟩
 have Ex:Exc K mg:=jqq X G ex
 have TX__law_right:=jnV tb0
 refine⟨PySem.W.fnOf "law" "law" (jaq jgh) (jal jgh) (jab jgh) .none kV28 dc28 pm28 an28 cd28 ct28,fun s v=> .of_eq rfl,fun base _ _ B=> ?_⟩
 have c_is_whole: ∀n,jak l.prog w K mg base (n+1) "is_whole" ["thing"] jdd:=fun n=>⟨_,_,jhU (n:=n+0) Z F0,b0,k0,m0⟩
 have c_is_table_row: ∀n,jak l.prog w K mg base (n+2) "is_table_row" ["thing","size"] jbW:=fun n=>⟨_,_,jeS (n:=n+1) Z F1 (c_is_whole (n+0)),b1,k1,m1⟩
 have c_has_table_form: ∀n,jak l.prog w K mg base (n+3) "has_table_form" ["thing"] ja0:=fun n=>⟨_,_,jdR (n:=n+2) Z F2 (c_is_table_row (n+0)) M_MOST_ROWS,b2,k2,m2⟩
 have c_want_table: ∀n,jak l.prog w K mg base (n+4) "want_table" ["thing"] jbJ:=fun n=>⟨_,_,jgj (n:=n+3) Z F3 (c_has_table_form (n+0)),b3,k3,m3⟩
 have r_want_table: ∀n,jcL l.prog w K mg base (n+4) "want_table" ["thing"] jb8:=fun n=>⟨_,_,jfa (n:=n+3) Z Ex F3 (c_has_table_form (n+0)),b3,k3,m3⟩
 have c_reaches: ∀n,jak l.prog w K mg base (n+1) "reaches" ["table"] jdS:=fun n=>⟨_,_,jjc (n:=n+0) Z F4,b4,k4,m4⟩
 have c_pieces_by: ∀n,jak l.prog w K mg base (n+1) "pieces_by" ["come"] jcO:=fun n=>⟨_,_,jhi (n:=n+0) Z F5,b5,k5,m5⟩
 have c_pieces: ∀n,jak l.prog w K mg base (n+5) "pieces" ["table"] jeT:=fun n=>⟨_,_,jk0 (n:=n+4) Z F6 (c_want_table (n+0)) (c_pieces_by (n+3)) (c_reaches (n+3)),b6,k6,m6⟩
 have r_pieces: ∀n,jcL l.prog w K mg base (n+5) "pieces" ["table"] jdT:=fun n=>⟨_,_,jjd (n:=n+4) Z Ex F6 (r_want_table (n+0)),b6,k6,m6⟩
 have c_joined: ∀n,jak l.prog w K mg base (n+6) "joined" ["table"] jdC:=fun n=>⟨_,_,jk1 (n:=n+5) Z F7 (c_pieces (n+0)),b7,k7,m7⟩
 have r_joined: ∀n,jcL l.prog w K mg base (n+6) "joined" ["table"] jdU:=fun n=>⟨_,_,jje (n:=n+5) Z Ex F7 (r_pieces (n+0)),b7,k7,m7⟩
 have c_heads: ∀n,jak l.prog w K mg base (n+1) "heads" ["table","place"] jgk:=fun n=>⟨_,_,jl9 (n:=n+0) Z F8,b8,k8,m8⟩
 have c_greatest_into: ∀n,jak l.prog w K mg base (n+1) "greatest_into" ["one","other"] jbF:=fun n=>⟨_,_,jd4 (n:=n+0) Z F9,b9,k9,m9⟩
 have c_all_rounds: ∀n,jak l.prog w K mg base (n+5) "all_rounds" ["table"] jct:=fun n=>⟨_,_,jgl (n:=n+4) Z F10 (c_want_table (n+0)) (c_heads (n+3)),b10,k10,m10⟩
 have c_beat: ∀n,jak l.prog w K mg base (n+7) "beat" ["table"] jhV:=fun n=>⟨_,_,joB (n:=n+6) Z F11 (c_joined (n+0)) (c_all_rounds (n+1)) (c_greatest_into (n+5)),b11,k11,m11⟩
 have r_beat: ∀n,jcL l.prog w K mg base (n+7) "beat" ["table"] jgm:=fun n=>⟨_,_,jma (n:=n+6) Z Ex F11 (c_joined (n+0)) (r_joined (n+0)),b11,k11,m11⟩
 have c__law_cell: ∀n,jak l.prog w K mg base (n+1) "_law_cell" ["_law_script","_law_k"] jcQ:=fun n=>⟨_,_,jhj (n:=n+0) Z F12,b12,k12,m12⟩
 have c__law_pen: ∀n,jak l.prog w K mg base (n+1) "_law_pen" ["_law_cell_here"] jde:=fun n=>⟨_,_,jhW (n:=n+0) Z F13,b13,k13,m13⟩
 have c__law_draw: ∀n,jak l.prog w K mg base (n+1) "_law_draw" ["_law_pen_here","_law_many"] jbh:=fun n=>⟨_,_,jhk (n:=n+0) Z F14,b14,k14,m14⟩
 have u_kind: ∀n,jkf l.prog w K mg base (n+1) "_law_kind" ["_law_e"] (jkj mg):=fun n=>⟨_,_,jgn (n:=n) Z Ex F15,b15,k15,m15⟩
 have s_said: ∀n,jqr l.prog w K mg base (n+1):=fun n=>⟨_,_,joC (n:=n+1) Z Ex F16 (u_kind n),b16,k16,m16⟩
 have c__law_same: ∀n,jak l.prog w K mg base (n+1) "_law_same" ["_law_found","_law_due"] jj9:=fun n=>⟨_,_,jhl (n:=n+0) Z F17,b17,k17,m17⟩
 have c__law_size: ∀n,jak l.prog w K mg base (n+2) "_law_size" ["_law_pen_here"] jcR:=fun n=>⟨_,_,jhm (n:=n+1) Z F18 (c__law_draw (n+0)),b18,k18,m18⟩
 have c__law_table: ∀n,jak l.prog w K mg base (n+2) "_law_table" ["_law_pen_here","_law_size_here"] ja1:=fun n=>⟨_,_,jgo (n:=n+1) Z F19 (c__law_draw (n+0)),b19,k19,m19⟩
 have c__law_after: ∀n,jak l.prog w K mg base (n+1) "_law_after" ["_law_table_here","_law_some"] jcu:=fun n=>⟨_,_,jgp (n:=n+0) Z F20,b20,k20,m20⟩
 have c__law_order: ∀n,jak l.prog w K mg base (n+2) "_law_order" ["_law_pen_here","_law_many"] jcv:=fun n=>⟨_,_,jgq (n:=n+1) Z F21 (c__law_draw (n+0)),b21,k21,m21⟩
 have c__law_far: ∀n,jak l.prog w K mg base (n+2) "_law_far" ["_law_table_here"] jdf:=fun n=>⟨_,_,jhX (n:=n+1) Z F22 (c__law_after (n+0)),b22,k22,m22⟩
 have c__law_pieces: ∀n,jak l.prog w K mg base (n+3) "_law_pieces" ["_law_table_here"] jb9:=fun n=>⟨_,_,jfb (n:=n+2) Z F23 (c__law_far (n+0)),b23,k23,m23⟩
 have c__law_joined_table: ∀n,jak l.prog w K mg base (n+3) "_law_joined_table" ["_law_pen_here","_law_size_here"] ja1:=fun n=>⟨_,_,jc1 (n:=n+2) Z F24 (c__law_order (n+0)) (c__law_draw (n+1)),b24,k24,m24⟩
 have c__law_rounds: ∀n,jak l.prog w K mg base (n+1) "_law_rounds" ["_law_table_here"] jca:=fun n=>⟨_,_,jfc (n:=n+0) Z F25,b25,k25,m25⟩
 have c__law_beat: ∀n,jak l.prog w K mg base (n+2) "_law_beat" ["_law_table_here"] jcS:=fun n=>⟨_,_,jho (n:=n+1) Z F26 (c__law_rounds (n+0)),b26,k26,m26⟩
 have c__law_right: ∀n,jak l.prog w K mg base (n+10) "_law_right" ["_law_table_here"] jcw:=fun n=>⟨_,_,jgr (n:=n+7) Z B a27 TX__law_right F27 (c__law_pieces (n+6)) (c__law_beat (n+7)) (c__law_same (n+8)) (c_beat (n+0)) (r_beat (n+0)) (s_said (n+6)),b27,k27,m27⟩
 exact jqW (n:=10) Z F28 (c__law_right 0) (c__law_cell 9) (c__law_pen 9) (c__law_joined_table 7) (c__law_size 8) (c__law_table 8)
end My
def PySem.W.Fast.tw1229813937969114817 : Unit := ()
def PySem.W.Fast.tw17618650882706561612 : Unit := ()
def PySem.W.Fast.tw3373635323016420803 : Unit := ()
def PySem.W.Fast.tw16571870340070275408 : Unit := ()
def PySem.W.Fast.tw13914757498707675783 : Unit := ()
def PySem.W.Fast.tw406727905857066313 : Unit := ()
def PySem.W.Fast.tw11730703547304155185 : Unit := ()
def PySem.W.Fast.tw16478353483256539287 : Unit := ()
def PySem.W.Fast.tw16929250241038559926 : Unit := ()
def PySem.W.Fast.tw9596854289126193609 : Unit := ()
def PySem.W.Fast.tw18377156483138837655 : Unit := ()
def PySem.W.Fast.tw6162295277176636771 : Unit := ()
def PySem.W.Fast.tw16006426116068030837 : Unit := ()
def PySem.W.Fast.tw5418500878892958052 : Unit := ()
def PySem.W.Fast.tw10069797850140908870 : Unit := ()
def PySem.W.Fast.tw1190482500172041413 : Unit := ()
def PySem.W.Fast.tw18369506224109625750 : Unit := ()
def PySem.W.Fast.tw15571307312934451692 : Unit := ()
def PySem.W.Fast.tw14061905407223487147 : Unit := ()
def PySem.W.Fast.tw16897711336642678542 : Unit := ()
def PySem.W.Fast.tw9127186573855428506 : Unit := ()
def PySem.W.Fast.tw7543869000971303294 : Unit := ()
def PySem.W.Fast.tw7266565787254991957 : Unit := ()
def PySem.W.Fast.tw16384580470718376501 : Unit := ()
def PySem.W.Fast.tw15975389330690715735 : Unit := ()
def PySem.W.Fast.tw7994106983678512467 : Unit := ()
def PySem.W.Fast.tw3152743764955168714 : Unit := ()
def PySem.W.Fast.tw10793662148060102064 : Unit := ()
def PySem.W.Fast.tw732773709607765639 : Unit := ()
def PySem.W.Fast.tw18248958615954743058 : Unit := ()
def PySem.W.Fast.tw16908544244024027278 : Unit := ()
def PySem.W.Fast.tw7259914162698034238 : Unit := ()
def PySem.W.Fast.tw13646628774646493892 : Unit := ()
def PySem.W.Fast.tw9332414072220181073 : Unit := ()
def PySem.W.Fast.tw2918002271125005513 : Unit := ()
def PySem.W.Fast.tw11391315112280922728 : Unit := ()
def PySem.W.Fast.tw14426956381540971353 : Unit := ()
def PySem.W.Fast.tw15517547618672716548 : Unit := ()
def PySem.W.Fast.tw4082566081399058966 : Unit := ()
def PySem.W.Fast.tw17491379005421665860 : Unit := ()
def PySem.W.Fast.tw10868635086887443117 : Unit := ()
def PySem.W.Fast.tw2399709564186512530 : Unit := ()
def PySem.W.Fast.tw6307936287644585801 : Unit := ()
def PySem.W.Fast.tw9148684774481886315 : Unit := ()
def PySem.W.Fast.tw8021052662276055938 : Unit := ()
def PySem.W.Fast.tw3939810494267648680 : Unit := ()
def PySem.W.Fast.tw14100666465512545747 : Unit := ()
def PySem.W.Fast.tw9824232173972388227 : Unit := ()
def PySem.W.Fast.tw17319100360297317272 : Unit := ()
def PySem.W.Fast.tw3611506399382187395 : Unit := ()
def PySem.W.Fast.tw3419685006304607453 : Unit := ()
def PySem.W.Fast.tw12324913650031535541 : Unit := ()
def PySem.W.Fast.tw3180727086257452192 : Unit := ()
def PySem.W.Fast.tw6503432167131069380 : Unit := ()
def PySem.W.Fast.tw2137441314285669827 : Unit := ()
def PySem.W.Fast.tw13053254917884357440 : Unit := ()
def PySem.W.Fast.tw8141348841001026752 : Unit := ()
def PySem.W.Fast.tw11969141138718328734 : Unit := ()
def PySem.W.Fast.tw16343038720186395732 : Unit := ()
def PySem.W.Fast.tw222273451235123885 : Unit := ()
def PySem.W.Fast.tw12446597323528226308 : Unit := ()
def PySem.W.Fast.tw500746729100792677 : Unit := ()
def PySem.W.Fast.tw13515183091250292183 : Unit := ()
def PySem.W.Fast.tw6852304645983266186 : Unit := ()
def PySem.W.Fast.tw1300031219047486256 : Unit := ()
def PySem.W.Fast.tw3939718910752719481 : Unit := ()
def PySem.W.Fast.tw10089361126443940384 : Unit := ()
def PySem.W.Fast.tw15124597195268219971 : Unit := ()
def PySem.W.Fast.tw11648327681976393280 : Unit := ()
def PySem.W.Fast.tw390167145501216664 : Unit := ()
def PySem.W.Fast.tw15438253860965224863 : Unit := ()
def PySem.W.Fast.tw6300027298135108405 : Unit := ()
def PySem.W.Fast.tw134693226276345246 : Unit := ()
def PySem.W.Fast.tw10919096384420778437 : Unit := ()
def PySem.W.Fast.tw6684007568988990025 : Unit := ()
def PySem.W.Fast.tw844440191694833595 : Unit := ()
def PySem.W.Fast.tw6889350523649085222 : Unit := ()
def PySem.W.Fast.tw12749372271983765068 : Unit := ()
def PySem.W.Fast.tw7110909983465569281 : Unit := ()
def PySem.W.Fast.tw16447745357354565449 : Unit := ()
def PySem.W.Fast.tw15966218472963559691 : Unit := ()
def PySem.W.Fast.tw2667700599207933454 : Unit := ()
def PySem.W.Fast.tw15701638552981035448 : Unit := ()
def PySem.W.Fast.tw12710328466661734845 : Unit := ()
def PySem.W.Fast.tw5054606383729346591 : Unit := ()
def PySem.W.Fast.tw15707146324693882930 : Unit := ()
def PySem.W.Fast.tw10925442324957578563 : Unit := ()
def PySem.W.Fast.tw12148713451522483015 : Unit := ()
def PySem.W.Fast.tw16700811612904648755 : Unit := ()
def PySem.W.Fast.tw14696785428565191299 : Unit := ()
def PySem.W.Fast.tw4987729478649474883 : Unit := ()
def PySem.W.Fast.tw3492596113650833908 : Unit := ()
def PySem.W.Fast.tw7294978478132418997 : Unit := ()
def PySem.W.Fast.tw15480283362052220862 : Unit := ()
def PySem.W.Fast.tw6312847831281652105 : Unit := ()
def PySem.W.Fast.tw15500390168592036509 : Unit := ()
def PySem.W.Fast.tw12166687712392474413 : Unit := ()
def PySem.W.Fast.tw1090351061315029775 : Unit := ()
def PySem.W.Fast.tw5265368089177164890 : Unit := ()
open PySem PySem.W PyProof.Rows
set_option maxRecDepth 100000 in
set_option maxHeartbeats 0 in
theorem PySem.Challenge.cw_firstpowers_k27_the_beat_holds : PySem.Challenge.rw_firstpowers_k27_the_beat.Holds := by
  w_on; o_law; k_head; (case hw => w_witness2)
  k_fill
  refine L2.jls (l := PySem.Challenge.rw_firstpowers_k27_the_beat) (k := 11) (x := "_law_script") rfl rfl ⟨rfl, by decide, by decide, rfl⟩ (fun w h Y => PySem.W.km_in_of Y) ?B ?F
  case B => intro w; kernel_rfl
  case F =>
    intro w mg fa h KX G hmg
    refine' My.jqX KX G hmg ?a0 ?l0 ?c0 ?k0 ?a1 ?l1 ?c1 ?k1 ?a2 ?l2 ?c2 ?k2 ?a3 ?l3 ?c3 ?k3 ?a4 ?l4 ?c4 ?k4 ?a5 ?l5 ?c5 ?k5 ?a6 ?l6 ?c6 ?k6 ?a7 ?l7 ?c7 ?k7 ?a8 ?l8 ?c8 ?k8 ?a9 ?l9 ?c9 ?k9 ?a10 ?l10 ?c10 ?k10 ?a11 ?l11 ?c11 ?k11 ?a12 ?l12 ?c12 ?k12 ?a13 ?l13 ?c13 ?k13 ?a14 ?l14 ?c14 ?k14 ?a15 ?l15 ?c15 ?k15 ?a16 ?l16 ?c16 ?k16 ?a17 ?l17 ?c17 ?k17 ?a18 ?l18 ?c18 ?k18 ?a19 ?l19 ?c19 ?k19 ?a20 ?l20 ?c20 ?k20 ?a21 ?l21 ?c21 ?k21 ?a22 ?l22 ?c22 ?k22 ?a23 ?l23 ?c23 ?k23 ?a24 ?l24 ?c24 ?k24 ?a25 ?l25 ?c25 ?k25 ?a26 ?l26 ?c26 ?k26 ?a27 ?l27 ?c27 ?k27 ?a28 ?l28 ?c28 ?k28 ?v0 ?z0 ?z1 ?z2 ?z3 ?z4 ?z5 ?z6 ?z7 ?z8 ?z9 ?z10 ?z11 ?z12 ?z13 ?z14 ?z15 ?z16 ?z17 ?z18 ?ex ?tb0
    (case a0 => k_is)
    (case l0 => k_is)
    (case c0 => k_is)
    (case k0 => k_is)
    (case a1 => k_is)
    (case l1 => k_is)
    (case c1 => k_is)
    (case k1 => k_is)
    (case a2 => k_is)
    (case l2 => k_is)
    (case c2 => k_is)
    (case k2 => k_is)
    (case a3 => k_is)
    (case l3 => k_is)
    (case c3 => k_is)
    (case k3 => k_is)
    (case a4 => k_is)
    (case l4 => k_is)
    (case c4 => k_is)
    (case k4 => k_is)
    (case a5 => k_is)
    (case l5 => k_is)
    (case c5 => k_is)
    (case k5 => k_is)
    (case a6 => k_is)
    (case l6 => k_is)
    (case c6 => k_is)
    (case k6 => k_is)
    (case a7 => k_is)
    (case l7 => k_is)
    (case c7 => k_is)
    (case k7 => k_is)
    (case a8 => k_is)
    (case l8 => k_is)
    (case c8 => k_is)
    (case k8 => k_is)
    (case a9 => k_is)
    (case l9 => k_is)
    (case c9 => k_is)
    (case k9 => k_is)
    (case a10 => k_is)
    (case l10 => k_is)
    (case c10 => k_is)
    (case k10 => k_is)
    (case a11 => k_is)
    (case l11 => k_is)
    (case c11 => k_is)
    (case k11 => k_is)
    (case a12 => k_is)
    (case l12 => k_is)
    (case c12 => k_is)
    (case k12 => k_is)
    (case a13 => k_is)
    (case l13 => k_is)
    (case c13 => k_is)
    (case k13 => k_is)
    (case a14 => k_is)
    (case l14 => k_is)
    (case c14 => k_is)
    (case k14 => k_is)
    (case a15 => k_is)
    (case l15 => k_is)
    (case c15 => k_is)
    (case k15 => k_is)
    (case a16 => k_is)
    (case l16 => k_is)
    (case c16 => k_is)
    (case k16 => k_is)
    (case a17 => k_is)
    (case l17 => k_is)
    (case c17 => k_is)
    (case k17 => k_is)
    (case a18 => k_is)
    (case l18 => k_is)
    (case c18 => k_is)
    (case k18 => k_is)
    (case a19 => k_is)
    (case l19 => k_is)
    (case c19 => k_is)
    (case k19 => k_is)
    (case a20 => k_is)
    (case l20 => k_is)
    (case c20 => k_is)
    (case k20 => k_is)
    (case a21 => k_is)
    (case l21 => k_is)
    (case c21 => k_is)
    (case k21 => k_is)
    (case a22 => k_is)
    (case l22 => k_is)
    (case c22 => k_is)
    (case k22 => k_is)
    (case a23 => k_is)
    (case l23 => k_is)
    (case c23 => k_is)
    (case k23 => k_is)
    (case a24 => k_is)
    (case l24 => k_is)
    (case c24 => k_is)
    (case k24 => k_is)
    (case a25 => k_is)
    (case l25 => k_is)
    (case c25 => k_is)
    (case k25 => k_is)
    (case a26 => k_is)
    (case l26 => k_is)
    (case c26 => k_is)
    (case k26 => k_is)
    (case a27 => k_is)
    (case l27 => k_is)
    (case c27 => k_is)
    (case k27 => k_is)
    (case a28 => k_is)
    (case l28 => k_is)
    (case c28 => k_is)
    (case k28 => k_is)
    (case v0 => k_is)
    (case z0 => k_is)
    (case z1 => k_is)
    (case z2 => k_is)
    (case z3 => k_is)
    (case z4 => k_is)
    (case z5 => k_is)
    (case z6 => k_is)
    (case z7 => k_is)
    (case z8 => k_is)
    (case z9 => k_is)
    (case z10 => k_is)
    (case z11 => k_is)
    (case z12 => k_is)
    (case z13 => k_is)
    (case z14 => k_is)
    (case z15 => k_is)
    (case z16 => k_is)
    (case z17 => k_is)
    (case z18 => k_is)
    (case ex => kernel_rfl)
    (case tb0 => kernel_rfl)
