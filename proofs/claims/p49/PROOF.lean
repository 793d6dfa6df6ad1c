import PyProof.Rows.All
import Wide.All
import OpenK.AllK
import Wide.FinOn
import Lean
import PyProof.EqAt
import PyProof.EqKinds
import PyProof.TupleCall
import PyProof.Rows.TopTwo
import KE.KIsAll
import PyProof.ExcAttrAll.ValueError
import KE.KTryMore
import KE.KRevIter
import PyProof.SetRoads
import PySem.Challenge.RW_firstpowers_k49_whole_calendars
set_option Elab.async false
set_option linter.all false
set_option maxRecDepth 100000
abbrev G0a:= @List.length_map
abbrev G0b:= @PySem.Heap.get?_push_of_some
abbrev G0c:= @PySem.wpAny_pure
abbrev G0d:= @Nat.le_refl
abbrev G0e:= @List.length_cons
abbrev G0f:= @List.size_toArray
abbrev G0g:= @Bool.false_ne_true
abbrev G0h:= @List.length_range
abbrev G0i:= @List.getElem?_eq_getElem
abbrev G0j:= @Array.length_toList
abbrev G0k:= @PySem.Heap.lt_size
abbrev G0l:= @List.getElem?_cons_succ
abbrev G0m:= @PySem.Heap.get?_push_size
abbrev G0n:= @List.getD_eq_getElem?_getD
abbrev G0o:= @List.getElem?_map
abbrev G0p:= @List.getElem?_cons_zero
abbrev G0q:= @List.mem_range
abbrev G0r:= @decide_eq_true
abbrev G0s:= @List.getElem?_eq_some_iff
abbrev G0t:= @List.mem_append_right
abbrev G0u:= @List.mem_cons
abbrev G0v:= @List.map_cons
abbrev G0w:= @List.mem_cons_of_mem
abbrev G0x:= @List.mem_singleton
abbrev G0y:= @List.set_cons_succ
abbrev G0z:= @List.set_cons_zero
abbrev G0A:= @Nat.lt_of_lt_of_le
abbrev G0B:= @List.mem_cons_self
abbrev G0C:= @Option.some.injEq
abbrev G0D:= @List.cons_append
abbrev G0E:= @List.nil_append
abbrev G0F:= @List.length_nil
abbrev G0G:= @Nat.ne_of_lt
abbrev G0H:= @Bool.false_eq_true
abbrev G0I:= @exists_eq_left'
abbrev G0J:= @Array.getElem?_eq_some_iff
abbrev G0K:= @List.mem_map
abbrev G0L:= @List.map_map
abbrev G0M:= @PySem.boot_len
abbrev G0N:= @List.map_congr_left
abbrev G0O:= @List.map_nil
abbrev G0P:= @Nat.lt_irrefl
abbrev G0Q:= @decide_eq_false
abbrev G0R:= @Nat.le_trans
abbrev G0S:= @PySem.wpAny_mono
abbrev G0T:= @Option.some.inj
abbrev G0U:= @List.all_eq_true
abbrev G0V:= @List.pairwise_iff_getElem
abbrev G0W:= @List.mem_of_getElem?
abbrev G0X:= @Nat.le_of_lt
abbrev G0Y:= @PySem.wpAny_call_entry
abbrev G0Z:= @PySem.wpAny_callSpecial?_slot
abbrev G00:= @PySem.W.kia_one
abbrev G01:= @List.nodup_cons
abbrev G02:= @PySem.wpAny_holding
abbrev G03:= @List.length_take
abbrev G04:= @List.not_mem_nil
abbrev G05:= @List.getElem?_range
abbrev G06:= @PySem.wpAny_truthy_bool
abbrev G07:= @PySem.Heap.get?_update_self
abbrev G08:= @List.pairwise_map
abbrev G09:= @Nat.pow_succ
abbrev G1a:= @List.mem_append
abbrev G1b:= @List.length_append
abbrev G1c:= @Array.forIn_toList
abbrev G1d:= @List.mem_append_left
abbrev G1e:= @List.getElem?_set_ne
abbrev G1f:= @List.lookup_cons
abbrev G1g:= @List.getElem_mem
abbrev G1h:= @PyProof.Rows.slot_tuple_getitem
abbrev G1i:= @List.replicate_succ
abbrev G1j:= @Function.comp_apply
abbrev G1k:= @PySem.Heap.SameBut.update
abbrev G1l:= @Array.getElem?_eq_getElem
abbrev G1m:= @List.map_append
abbrev G1n:= @List.getElem_range
abbrev G1o:= @Bool.and_eq_true
abbrev G1p:= @PySem.wpAny_setState_of
abbrev G1q:= @PyProof.Rows.callWith_type1
abbrev G1r:= @Nat.add_sub_cancel'
abbrev G1s:= @List.take_of_length_le
abbrev G1t:= @PySem.F.slot_tuple_iterator_next
abbrev G1u:= @Array.getElem?_eq_none_iff
abbrev G1v:= @List.length_drop
abbrev G1w:= @beq_self_eq_true
abbrev G1x:= @Array.getElem?_toList
abbrev G1y:= @Nat.lt_or_ge
abbrev G1z:= @PyProof.Rows.boot_all
abbrev G1A:= @List.getElem?_append_left
abbrev G1B:= @Nat.zero_le
abbrev G1C:= @Classical.byContradiction
abbrev G1D:= @PySem.wpAny_newObj_type
abbrev G1E:= @PySem.wpAny_passesOwn
abbrev G1F:= @List.flatten_cons
abbrev G1G:= @List.idxOf_lt_length_iff
abbrev G1H:= @List.length_erase_of_mem
abbrev G1I:= @Nat.lt_trans
abbrev G1J:= @PySem.mem_of_lookup
abbrev G1K:= @Nat.lt_succ_self
abbrev G1L:= @List.length_pos_of_mem
abbrev G1M:= @Nat.div_div_eq_div_mul
abbrev G1N:= @List.mem_filterMap
abbrev G1O:= @Nat.lt_of_le_of_lt
abbrev G1P:= @Int.emod_lt_of_pos
abbrev G1Q:= @Bool.eq_iff_iff
abbrev G1R:= @Nat.not_lt_zero
abbrev G1S:= @Array.getD_eq_getD_getElem?
abbrev G1T:= @PySem.PassesOwn.never
abbrev G1U:= @PySem.wpAny_pyIter_list
abbrev G1V:= @List.getElem?_append_right
abbrev G1W:= @List.mem_erase_of_ne
abbrev G1X:= @List.getElem?_of_mem
abbrev G1Y:= @Decidable.byContradiction
abbrev G1Z:= @PySem.wpAny_seqItems
abbrev G10:= @Option.getD_some
abbrev G11:= @PySem.F.args_tuple_add_2
abbrev G12:= @List.all_map
abbrev G13:= @PySem.SetTable.toList_insertAt
abbrev G14:= @List.of_mem_zip
abbrev G15:= @PySem.F.entry_tuple_add
abbrev G16:= @List.forIn_cons
abbrev G17:= @List.length_eq_zero_iff
abbrev G18:= @PySem.F.plainAttrs_list
abbrev G19:= @PySem.wpAny_pyIter_tuple
abbrev G2a:= @List.getElem_idxOf
abbrev G2b:= @List.range_succ
abbrev G2c:= @PySem.wpAny_specialOf
abbrev G2d:= @Int.emod_nonneg
abbrev G2e:= @PySem.F.slot_tuple_add
abbrev G2f:= @Option.map_eq_some_iff
abbrev G2g:= @PySem.SetTable.insertAt_perm
abbrev G2h:= @List.getElem?_set
abbrev G2i:= @Nat.lt_of_succ_le
abbrev G2j:= @List.take_add_one
abbrev G2k:= @decide_eq_true_eq
abbrev G2l:= @Function.comp_def
abbrev G2m:= @Nat.lt_trichotomy
abbrev G2n:= @PySem.isSubtype_type
abbrev G2o:= @Nat.ne_of_gt
abbrev G2p:= @Nat.mul_comm
abbrev G2q:= @List.getElem?_eq_none
abbrev G2r:= @Nat.pow_zero
abbrev G2s:= @Nat.succ_pos
abbrev G2t:= @List.nodup_range
abbrev G2u:= @PySem.wpAny_isInstance
abbrev G2v:= @Nat.pow_le_pow_right
abbrev G2w:= @PySem.codeAny_call_builtin
abbrev G2x:= @Array.getElem_toList
abbrev G2y:= @PySem.F.args_tuple_iterator_next_1
abbrev G2z:= @Bool.not_true
abbrev G2A:= @beq_eq_false_iff_ne
abbrev G2B:= @PySem.wpAny_execs_nil
abbrev G2C:= @PySem.F.slot_int_rmul
abbrev G2D:= @PySem.F.entry_tuple_iterator_next
abbrev G2E:= @Int.fdiv_eq_ediv_of_nonneg
abbrev G2F:= @Int.fmod_eq_emod_of_nonneg
abbrev G2G:= @Array.isEmpty_eq_false_iff
abbrev G2H:= @PySem.wpAny_Call_Name_kw
abbrev G2I:= @PySem.wpAny_typeOf
abbrev G2J:= @Nat.zero_add
abbrev G2K:= @List.getElem?_drop
abbrev G2L:= @PySem.Heap.size_push
abbrev G2M:= @Option.isSome_iff_exists
abbrev G2N:= @List.append_assoc
abbrev G2O:= @Nat.lt_succ_of_lt
abbrev G2P:= @PySem.F.slot_tuple_index
abbrev G2Q:= @Array.toList_push
abbrev G2R:= @Nat.mod_lt
abbrev G2S:= @of_decide_eq_true
abbrev G2T:= @List.getElem?_replicate
abbrev G2U:= @or_false
abbrev G2V:= @List.map_drop
abbrev G2W:= @PySem.noFill_tuple_add
abbrev G2X:= @Nat.min_le_right
abbrev G2Y:= @List.getElem?_set_self
abbrev G2Z:= @PySem.W.cellsFrom_some
abbrev G20:= @List.mem_filter
abbrev G21:= @List.append_nil
abbrev G22:= @Nat.le_of_eq
abbrev G23:= @Bool.or_eq_true
abbrev G24:= @Int.mul_comm
abbrev G25:= @PySem.codeAny_builtin
abbrev G26:= @List.getElem?_toArray
abbrev G27:= @List.length_zip
abbrev G28:= @Nat.add_zero
abbrev G29:= @PySem.wpAny_rule
abbrev G3a:= @PySem.wpAny_call
abbrev G3b:= @PySem.typeIs_int
abbrev G3c:= @PySem.call_meets
abbrev G3d:= @Nat.not_lt
abbrev G3e:= @Bool.false_and
abbrev G3f:= @Bool.and_false
abbrev G3g:= @Int.le_refl
abbrev G3h:= @Nat.mul_add
abbrev G3i:= @Nat.div_one
abbrev G3j:= @List.map_take
abbrev G3k:= @Nat.add_assoc
abbrev G3l:= @Nat.mul_assoc
abbrev G3m:= @Bool.and_true
abbrev G3n:= @Bool.true_and
abbrev G3o:= @beq_iff_eq
abbrev G3p:= @Nat.add_comm
abbrev G3q:= @if_false
namespace L2
open PySem PySem.Spec PyProof.Rows
abbrev Key:=Sum Int Str
def jmk:Key->Value->Bool
 | .inl k,v=>Value.isInt k v
 | .inr x,v=>Value.isStrOf x v
def jpo (w:World):Key->Int
 | .inl k=>hashInt k
 | .inr x=>hashStr w x
theorem jaB: ∀ {k:Key} {v:Value},jmk k v=true->(∃i t,k=Sum.inl i/\v=Value.int i t)\/(∃x t,k=Sum.inr x/\v=Value.str x t)
 | .inl i,v,h=>by
  obtain⟨t,e⟩:=Value.isInt_shape (k:=i) (v:=v) h
  exact .inl ⟨i,t,rfl,e⟩
 | .inr x,v,h=>by
  obtain⟨t,e⟩:=Value.isStrOf_shape (x:=x) (v:=v) h
  exact .inr ⟨x,t,rfl,e⟩
theorem jml (a b:Int):decide ((Sum.inl a:Key)=Sum.inl b)=(a==b):=by
 by_cases e:a=b
 ·subst e;simp
 ·have h: ¬ (Sum.inl a:Key)=Sum.inl b:=λq=>e (Sum.inl.inj q)
  rw [G0Q h]
  exact(G2A.mpr e).symm
theorem jmm (a b:Str):decide ((Sum.inr a:Key)=Sum.inr b)=decide (a=b):=by
 by_cases e:a=b
 ·subst e;simp
 ·have h: ¬ (Sum.inr a:Key)=Sum.inr b:=λq=>e (Sum.inr.inj q)
  rw [G0Q h,G0Q e]
theorem jmn (a:Int) (b:Str):decide ((Sum.inl a:Key)=Sum.inr b)=false:=G0Q (λq=>nomatch q)
theorem jmo (a:Str) (b:Int):decide ((Sum.inr a:Key)=Sum.inl b)=false:=G0Q (λq=>nomatch q)
def jhT (prog:Program) (w:World):PySem.KeyKind prog w Key where
 is:=jmk
 hash:=jpo w
 inj:=λv a b ha hb=>by
  rcases jaB ha with ⟨i,t,rfl,rfl⟩|⟨x,t,rfl,rfl⟩
  ·rcases jaB hb with ⟨j,u,rfl,e⟩|⟨y,u,rfl,e⟩
   ·injection e with e1 _;rw [e1]
   ·exact nomatch e
  ·rcases jaB hb with ⟨j,u,rfl,e⟩|⟨y,u,rfl,e⟩
   ·exact nomatch e
   ·injection e with e1 _;rw [e1]
 byValue:=λk v h=>by
  rcases jaB h with ⟨i,t,rfl,rfl⟩|⟨x,t,rfl,rfl⟩<;>rfl
 pyHash:=λhv h=>by
  rcases jaB hv with ⟨i,t,rfl,rfl⟩|⟨x,t,rfl,rfl⟩
  ·exact wpAny_pyHash_int h
  ·exact wpAny_pyHash_str h
 eqBool:=λhu hv h=>by
  rcases jaB hu with ⟨i,t,rfl,rfl⟩|⟨x,t,rfl,rfl⟩
  ·rcases jaB hv with ⟨j,u,rfl,rfl⟩|⟨y,u,rfl,rfl⟩
   ·rw [jml] at h;exact wpAny_eqBool_int h
   ·rw [jmn] at h;exact SeqAt.EqAt.int_str i t y u _ _ _ _ h
  ·rcases jaB hv with ⟨j,u,rfl,rfl⟩|⟨y,u,rfl,rfl⟩
   ·rw [jmo] at h;exact SeqAt.EqAt.str_int x t j u _ _ _ _ h
   ·rw [jmm] at h;exact wpAny_eqBool_str h
 «strs» :=λk x t v h=>by
  rcases jaB h with ⟨i,u,rfl,e⟩|⟨y,u,rfl,e⟩
  ·exact nomatch e
  ·injection e with e1 _
   subst e1
   cases v<;>rfl
inductive V where
 |non|bl (b:Bool)|int (i:Int)|str (x:Str)|byt (b:Array UInt8)|flt (b:UInt64)|ref (a:Addr)|ty (n:String)
 deriving DecidableEq
def RelV:V->Value->Prop
 | .non,u=>u=Value.none
 | .bl b,u=>u=Value.bool b
 | .int i,u=> ∃t,u=Value.int i t
 | .str x,u=> ∃t,u=Value.str x t
 | .byt b,u=> ∃t,u=Value.bytes b t
 | .flt b,u=> ∃t,u=Value.float b t
 | .ref a,u=>u=Value.ref a
 | .ty n,u=>u=Value.type n
abbrev Vals:List V->List Value->Prop:=Paired RelV
theorem Vals.length {xs:List V} {us:List Value} (r:Vals xs us):xs.length=us.length:=Paired.length r
theorem Vals.get: ∀ {xs:List V} {us:List Value} {i:Nat} {x:V},Vals xs us->xs[i]? =some x-> ∃u,us[i]? =some u/\RelV x u
 |_,_,_,_,.nil,e=>by simp at e
 |_,_,0,_,.cons r _,e=>by simp at e;subst e;exact⟨_,rfl,r⟩
 |_,_,i+1,x,.cons _ t,e=>by
  obtain⟨u,h1,h2⟩:=Vals.get (i:=i) (x:=x) t (by simpa using e)
  exact⟨u,by simpa using h1,h2⟩
theorem Vals.set {x:V} {u:Value} (r:RelV x u): ∀ {xs:List V} {us:List Value} (i:Nat),Vals xs us->Vals (xs.set i x) (us.set i u)
 |_,_,_,.nil=> .nil
 |_,_,0,.cons _ t=> .cons r t
 |_,_,i+1,.cons q t=> .cons q (Vals.set r i t)
theorem Vals.append: ∀ {xs ys:List V} {us ws:List Value},Vals xs us->Vals ys ws->Vals (xs++ys) (us++ws)
 |_,_,_,_,.nil,s=>s
 |_,_,_,_,.cons r t,s=> .cons r (Vals.append t s)
theorem Vals.take: ∀ {xs:List V} {us:List Value} (n:Nat),Vals xs us->Vals (xs.take n) (us.take n)
 |_,_,0,_=> .nil
 |_,_,_+1,.nil=> .nil
 |_,_,n+1,.cons r t=> .cons r (Vals.take n t)
theorem Vals.drop: ∀ {xs:List V} {us:List Value} (n:Nat),Vals xs us->Vals (xs.drop n) (us.drop n)
 |_,_,0,r=>r
 |_,_,_+1,.nil=> .nil
 |_,_,n+1,.cons _ t=>Vals.drop n t
def jn6:Option V->Option Value->Prop
 |some v,some u=>RelV v u
 |none,none=>True
 |_,_=>False
def KV {κ:Type}:List (κ×V)->List (κ×Value)->Prop:=Paired λ(p:κ×V) (q:κ×Value)=>p.1=q.1/\RelV p.2 q.2
def kV:Key->V
 | .inl i=> .int i
 | .inr x=> .str x
inductive HO where
 /-- a list -/
 |lst (xs:List V)
 /-- a tuple (never changes) -/
 |tup (xs:List V)
 /-- a dict whose keys are ints and texts;one whose keys are tuples of ints and texts (the empty one is both) -/
 |dK (kvs:List (Key×V))|dT (kvs:List (List Key×V))
 /-- a set of ints: its members,its size -/
 |set (S:Int->Bool) (n:Nat)
 /-- an instance of the class at C,its dict at dx,its attributes -/
 |ins (C dx:Addr) (fs:List (Str×V))
 /-- the dict of the instance at x -/
 |own (x:Addr)
 /-- the dict of an exception -/
 |xd (fs:List (Str×V))
 /-- a bound method,f of x -/
 |met (f x:Addr)
 /-- a range object lo,lo+1,.. below hi -/
 |rng (lo hi:Int)
 /-- a thing that is known to the object (the script;a dict while a loop walks it):read,never written while it is so -/
 |frz (o:Obj) (u:HO)
 /-- a code object's table -/
 |tbl (ps:Array Value)
 /-- any other thing,by what is true of its one object (a def of one's own: SetO a S n:=HO.ext λh=> ..) -/
 |ext (φ:Heap->Prop)
abbrev Hp:=Addr->Option HO
def upd (H:Hp) (a:Addr) (o:HO):Hp:=λb=>if b=a then some o else H b
theorem jam {H:Hp} {a:Addr} {o:HO}:upd H a o a=some o:=by unfold upd;rw [if_pos rfl]
theorem jal {H:Hp} {a b:Addr} {o:HO} (h:b≠a):upd H a o b=H b:=by unfold upd;rw [if_neg h]
theorem jhU {H:Hp} {a b:Addr} {o u:HO} (h:H a=some o) (h' :H b=some u) (d:o≠u):a≠b:=by
 intro e;subst e;rw [h] at h';exact d (G0T h')
theorem jag {H:Hp} {a b:Addr} {o:HO} (h:H a=some o) (h' :H b=none):a≠b:=by
 intro e;subst e;rw [h] at h';cases h'
def IsTupN (h:Heap) (a:Addr) (items:Array Value):Prop:= ∃o,h.get? a=some o/\o.cls= .type "tuple" /\o.dict=none/\ ∃n,o.data= .seq items n
theorem IsTupN.tup {h:Heap} {a:Addr} {items:Array Value} (x:IsTupN h a items):IsTup h a items:=let ⟨o,e,c,_,n,d⟩:=x;⟨o,e,c,n,d⟩
theorem IsTupN.new (h:Heap) (items:Array Value):IsTupN (h.push {cls:= .type "tuple",data:= .seq items}) h.objs.size items:=⟨_,G0m _ rfl,rfl,rfl,_,rfl⟩
section
variable (P:Program) (w:World)
def ObjOk (H:Hp) (h:Heap) (a:Addr):HO->Prop
 | .lst xs=>xs.length<=sizeLine/\ ∃ (its:List Value) (n:Nat),Vals xs its/\h.get? a=some {cls:= .type "list",data:= .seq its.toArray n}
 | .tup xs=>xs.length<=sizeLine/\ ∃its:List Value,Vals xs its/\IsTupN h a its.toArray
 | .dK kvs=>kvs.length<=sizeLine/\(a==sysModules)=false/\ ∃vs,KV kvs vs/\h.DictOf (jhT P w) a vs
 | .dT kvs=>kvs.length<=sizeLine/\(a==sysModules)=false/\ ∃xs:List (List Key×Addr×Value),
  Paired (λ(p:List Key×V) (q:List Key×Addr×Value)=>p.1=q.1/\H q.2.1=some (.tup (p.1.map kV))/\RelV p.2 q.2.2) kvs xs/\
  ∃o es ep,h.get? a=some o/\o.ExactDict/\o.data= .dict es ep/\es.toList=xs.map (entryOfKey (tupleKind (jhT P w)))/\(xs.map (·.1)).Nodup
 | .set S n=>h.SetOf (intKind P w) a S n
 | .ins C dx fs=>H dx=some (.own a)/\fs.length<=1000/\dx≠a/\h.get? a=some (PySem.W.instObj C dx)/\
  ∃mA,h.Ns1 dx mA/\(∀f,jn6 (fs.lookup f) (mA f))/\PySem.Within mA (fs.map (·.1))
 | .own _=> ∃o,h.get? a=some o
 | .xd fs=> ∃mA,h.Ns1 a mA/\ ∀f,jn6 (fs.lookup f) (mA f)
 | .rng lo hi=> ∃t u v,h.get? a=some {cls:= .type "range",data:= .fields #[.int lo t,.int hi u,.int 1 v]}
 | .frz o u=>h.get? a=some o/\ObjOk H h a u
 | .tbl ps=>h.get? a=some {cls:= .none,data:= .fields ps}
 | .met f x=>h.get? a=some (PySem.W.methodObj (.ref f) (.ref x))
 | .ext φ=>φ h/\(∃o,h.get? a=some o)/\ ∀h1 h2:Heap,φ h1->(∀o,h1.get? a=some o->h2.get? a=some o)->φ h2
def HOk (H:Hp) (h:Heap):Prop:= ∀a o,H a=some o->ObjOk P w H h a o
end
section
variable {P:Program} {w:World} {H H' :Hp} {h h' :Heap} {a:Addr} {o:HO}
theorem ObjOk.lt (x:ObjOk P w H h a o):a<h.objs.size:=by
 cases o with
 |lst xs=>obtain⟨_,_,_,_,e⟩:=x;exact G0k e
 |tup xs=>obtain⟨_,_,_,p⟩:=x;exact p.tup.lt
 |dK kvs=>obtain⟨_,_,_,_,o,_,_,e,_⟩:=x;exact G0k e
 |dT kvs=>obtain⟨_,_,_,_,o,_,_,e,_⟩:=x;exact G0k e
 |set S n=>obtain⟨o,_,_,_,e,_⟩:=x;exact G0k e
 |ins C dx fs=>obtain⟨_,_,_,e,_⟩:=x;exact G0k e
 |own y=>obtain⟨_,e⟩:=x;exact G0k e
 |xd fs=>obtain⟨_,⟨_,_,_,e,_⟩,_⟩:=x;exact G0k e
 |rng lo hi=>obtain⟨_,_,_,e⟩:=x;exact G0k e
 |frz ob u=>obtain⟨e,_⟩:=x;exact G0k e
 |tbl ps=>exact G0k (show h.get? a=some _ from x)
 |met f y=>exact G0k (show h.get? a=some _ from x)
 |ext φ=>obtain⟨_,⟨_,e⟩,_⟩:=x;exact G0k e
theorem Paired.mapP {α β:Type} {F G:α->β->Prop}: ∀ {l₁:List α} {l₂:List β},Paired F l₁ l₂->(∀a b,F a b->G a b)->Paired G l₁ l₂
 |_,_,.nil,_=> .nil
 |_,_,.cons r t,f=> .cons (f _ _ r) (Paired.mapP t f)
theorem ObjOk.stay (x:ObjOk P w H h a o) (k: ∀b u,(b=a\/H b=some (.own a))->h.get? b=some u->h'.get? b=some u)
 (ho: ∀b,H b=some (.own a)->H' b=some (.own a)) (ht: ∀b xs,H b=some (.tup xs)->H' b=some (.tup xs)):ObjOk P w H' h' a o:=by
 induction o with
 |lst xs=>obtain⟨z,its,n,r,e⟩:=x;exact⟨z,its,n,r,k _ _ (.inl rfl) e⟩
 |tup xs=>obtain⟨z,its,r,ob,e,c⟩:=x;exact⟨z,its,r,ob,k _ _ (.inl rfl) e,c⟩
 |dK kvs=>obtain⟨z,y,vs,r,ob,es,ep,e,c⟩:=x;exact⟨z,y,vs,r,ob,es,ep,k _ _ (.inl rfl) e,c⟩
 |dT kvs=>
  obtain⟨z,y,xs,r,ob,es,ep,e,c⟩:=x
  exact⟨z,y,xs,Paired.mapP r λp q z=>⟨z.1,ht _ _ z.2.1,z.2.2⟩,ob,es,ep,k _ _ (.inl rfl) e,c⟩
 |set S n=>obtain⟨ob,es,ep,t,e,c⟩:=x;exact⟨ob,es,ep,t,k _ _ (.inl rfl) e,c⟩
 |ins C dx fs=>
  obtain⟨d,z,ne,e,mA,⟨od,es,ep,e2,c⟩,r⟩:=x
  exact⟨ho _ d,z,ne,k _ _ (.inl rfl) e,mA,⟨od,es,ep,k _ _ (.inr d) e2,c⟩,r⟩
 |own y=>obtain⟨ob,e⟩:=x;exact⟨ob,k _ _ (.inl rfl) e⟩
 |xd fs=>obtain⟨mA,⟨od,es,ep,e,c⟩,r⟩:=x;exact⟨mA,⟨od,es,ep,k _ _ (.inl rfl) e,c⟩,r⟩
 |rng lo hi=>obtain⟨t,u,v,e⟩:=x;exact⟨t,u,v,k _ _ (.inl rfl) e⟩
 |frz ob u ih=>obtain⟨e,q⟩:=x;exact⟨k _ _ (.inl rfl) e,ih q⟩
 |tbl ps=>
  have e:h.get? a=some {cls:= .none,data:= .fields ps}:=x
  show h'.get? a=some {cls:= .none,data:= .fields ps}
  exact k a _ (.inl rfl) e
 |met f y=>
  have e:h.get? a=some (PySem.W.methodObj (.ref f) (.ref y)):=x
  show h'.get? a=some (PySem.W.methodObj (.ref f) (.ref y))
  exact k a _ (.inl rfl) e
 |ext φ=>obtain⟨p,⟨o,e⟩,st⟩:=x;exact⟨st _ _ p λo q=>k _ _ (.inl rfl) q,⟨o,k _ _ (.inl rfl) e⟩,st⟩
theorem HOk.lt (x:HOk P w H h) (e:H a=some o):a<h.objs.size:=(x a o e).lt
theorem HOk.fresh (x:HOk P w H h) (e:h.objs.size<=a):H a=none:=by
 cases q:H a with
 |none=>rfl
 |some u=>exact absurd (G0A (x.lt q) e) (G0P _)
theorem HOk.kept (x:HOk P w H h) (k: ∀b u,h.get? b=some u->h'.get? b=some u):HOk P w H h' :=λa o e=>
 (x a o e).stay (λb u _ q=>k b u q) (λ_ q=>q) λ_ _ q=>q
theorem HOk.laid (x:HOk P w H h) (k: ∀b u,h.get? b=some u->h'.get? b=some u) (hp:h.objs.size<=a) (new:ObjOk P w (upd H a o) h' a o):HOk P w (upd H a o) h' :=λb u e=>by
 have hn:=x.fresh hp
 by_cases hb:b=a
 ·subst hb;rw [jam] at e;cases e;exact new
 ·rw [jal hb] at e
  exact(x b u e).stay (λc v _ q=>k c v q) (λc q=>by rw [jal (jag q hn)];exact q) λc xs q=>by rw [jal (jag q hn)];exact q
end
def Rd (H:Hp) (a:Addr) (u:HO):Prop:=H a=some u\/ ∃o,H a=some (.frz o u)
theorem Rd.ok {P:Program} {w:World} {H:Hp} {h:Heap} {a:Addr} {u:HO} (r:Rd H a u) (x:HOk P w H h):ObjOk P w H h a u:=by
 rcases r with r|⟨o,r⟩
 ·exact x a u r
 ·obtain⟨_,q⟩:=x a _ r
  exact q
def Mut:Option HO->Prop
 |some (.lst _)=>True
 |some (.dK _)=>True
 |some (.dT _)=>True
 |some (.set _ _)=>True
 |some (.ins _ _ _)=>True
 |some (.ext _)=>True
 |_=>False
section
variable {P:Program} {w:World} {H:Hp} {h h' :Heap} {x e:Addr} {o' :HO}
theorem HOk.write (ok:HOk P w H h) (mu:Mut (H x)) (he:e=x\/H e=some (.own x)) (k: ∀b u,b≠e->h.get? b=some u->h'.get? b=some u) (heo: ∃u,h'.get? e=some u)
 (new:ObjOk P w (upd H x o') h' x o'):HOk P w (upd H x o') h' :=λb u q=>by
 have nown: ∀c y,H c=some (.own y)->c≠x:=λc y r z=>by subst z;rw [r] at mu;exact mu
 have ntup: ∀c xs,H c=some (.tup xs)->c≠x:=λc xs r z=>by subst z;rw [r] at mu;exact mu
 by_cases hb:b=x
 ·subst hb;rw [jam] at q;cases q;exact new
 ·rw [jal hb] at q
  by_cases hbe:b=e
  ·have q' :H b=some (.own x):=by
    rcases he with z|z
    ·exact absurd (hbe.trans z) hb
    ·rw [hbe];exact z
   rw [q] at q';cases q'
   obtain⟨v,hv⟩:=heo
   exact⟨v,by rw [hbe];exact hv⟩
  ·refine(ok b u q).stay (λc v hc r=>k c v ?_ r) (λc r=>by rw [jal (nown c b r)];exact r) λc xs r=>by rw [jal (ntup c xs r)];exact r
   rcases hc with rfl|hc
   ·exact hbe
   ·rintro rfl
    rcases he with z|z
    ·exact nown c b hc z
    ·rw [hc] at z;cases z;exact hb rfl
end
structure Un (fs ex:List Addr) (H H' :Hp) (h h' :Heap):Prop where
 keep: ∀b o,h.get? b=some o->H b=none->b ∉ fs->b ∉ ex->h'.get? b=some o
 slot: ∀b o,h.get? b=some o->H b=none->b∈fs->b ∉ ex-> ∃sl,h'.get? b=some {o with slots:=sl}
 free: ∀b o,h.get? b=some o->H b=none->b ∉ ex->H' b=none
 there: ∀b o,h.get? b=some o->b ∉ ex-> ∃o',h'.get? b=some o'
 tups: ∀b xs,H b=some (.tup xs)->H' b=some (.tup xs)
 frzs: ∀b o u,H b=some (.frz o u)->H' b=some (.frz o u)
 tbls: ∀b ps,H b=some (.tbl ps)-> ∃more,H' b=some (.tbl (ps++more))
section
variable {fs fs' ex ex' :List Addr} {H H1 H2:Hp} {h h1 h2 h' :Heap} {a x e:Addr} {o:HO}
theorem Un.any (u:Un fs ex H H1 h h1) {b:Addr} {ob:Obj} (q:h.get? b=some ob) (n:H b=none) (hx:b ∉ ex): ∃sl,h1.get? b=some {ob with slots:=sl}:=by
 by_cases hb:b∈fs
 ·exact u.slot b ob q n hb hx
 ·exact⟨ob.slots,u.keep b ob q n hb hx⟩
theorem Un.kept (k: ∀b u,h.get? b=some u->h'.get? b=some u):Un fs ex H H h h' :=
 ⟨λb ob q _ _ _=>k b ob q,λb ob q _ _ _=>⟨ob.slots,k b ob q⟩,λ_ _ _ n _=>n,λb ob q _=>⟨ob,k b ob q⟩,λ_ _ q=>q,λ_ _ _ q=>q,λ_ ps q=>⟨#[],by rw [q];simp⟩⟩
theorem Un.refl:Un fs ex H H h h:=Un.kept λ_ _ q=>q
theorem Un.laid (k: ∀b u,h.get? b=some u->h'.get? b=some u) (hp:h.objs.size<=a) (hn:H a=none):Un fs ex H (upd H a o) h h' where
 keep:=λb u q _ _ _=>k b u q
 slot:=λb u q _ _ _=>⟨u.slots,k b u q⟩
 free:=λb u q n _=>by rw [jal (G0G (G0A (G0k q) hp))];exact n
 there:=λb u q _=>⟨u,k b u q⟩
 tups:=λb xs q=>by rw [jal (jag q hn)];exact q
 frzs:=λb u xs q=>by rw [jal (jag q hn)];exact q
 tbls:=λb ps q=>⟨#[],by rw [jal (jag q hn),q];simp⟩
theorem Un.write (mu:Mut (H x)) (he:e=x\/H e=some (.own x)) (k: ∀b u,b≠e->h.get? b=some u->h'.get? b=some u) (heo: ∃u,h'.get? e=some u):Un fs ex H (upd H x o) h h' :=by
 have hx: ∀b,H b=none->b≠x:=λb n z=>by subst z;rw [n] at mu;exact mu
 have hb: ∀b,H b=none->b≠e:=λb n z=>by
  subst z
  rcases he with r|r
  ·exact hx b n r
  ·rw [n] at r;cases r
 have hm: ∀b u,H b=some u-> ¬Mut (some u)->b≠x:=λb u q nm z=>by subst z;rw [q] at mu;exact nm mu
 refine⟨λb u q n _ _=>k b u (hb b n) q,λb u q n _ _=>⟨u.slots,k b u (hb b n) q⟩,λb u q n _=>by rw [jal (hx b n)];exact n,λb u q _=> ?_,
  λb xs q=>by rw [jal (hm b _ q λz=>z)];exact q,λb u xs q=>by rw [jal (hm b _ q λz=>z)];exact q,λb ps q=>⟨#[],by rw [jal (hm b _ q λz=>z),q];simp⟩⟩
 by_cases hbe:b=e
 ·subst hbe;exact heo
 ·exact⟨u,k b u hbe q⟩
end
def trk (h:Heap) (H:Hp):List Addr:=(List.range h.objs.size).filter λa=>(H a).isSome
def jjr (h:Heap) (H:Hp):Heap:=PySem.W.hideAll h (trk h H)
theorem jhV (h:Heap) (H:Hp):(jjr h H).objs.size=h.objs.size:=PySem.W.hideAll_size _ _
theorem jeS {h:Heap} {H:Hp} {b:Addr} {o:Obj} (e:h.get? b=some o) (n:H b=none):(jjr h H).get? b=some o:=
 PySem.W.hideAll_get _ e λhm=>by
  have q:(H b).isSome=true:=(G20.mp hm).2
  rw [n] at q;simp at q
theorem jkT {h:Heap} {H:Hp} {b:Addr} {o:Obj} (e:(jjr h H).get? b=some o):h.get? b=some o/\H b=none:=by
 have e' :h.get? b=some o:=PySem.W.of_hideAll (trk h H) e
 refine⟨e',?_⟩
 cases q:H b with
 |none=>rfl
 |some x=>
  have hm:b∈trk h H:=G20.mpr ⟨G0q.mpr (G0k e'),by simp [q]⟩
  have z:(jjr h H).get? b=none:=PySem.W.hideAll_none (trk h H) hm
  rw [z] at e;cases e
def jkU (g h:Heap) (L:Addr):List (Addr×Obj):=(List.range h.objs.size).filterMap λa=>if a=L\/(g.get? a).isSome=true then none else (h.get? a).map λo=>(a,o)
def rest (g h:Heap) (L d:Addr):List (Addr×Obj):=(jkU g h L).filter λp=>decide (p.1≠d)
structure Mod (K:PySem.W.Frag) (mg:Str->Option Value) (base:Heap):Prop where
 kin:K.In base
 glob:base.Ns mainGlobals mg
 blt: ∃mb,base.Ns builtinsNs mb/\ ∀x:Str,x≠ "__name__" ->mb x=bootBuiltins x
 nolimit:base.NoLimit
structure Cx where
 prog:Program
 w:World
 K:PySem.W.Frag
 mg:Str->Option Value
 base:Heap
 A:Around
 N:List Str
 s₀:Shared
 H₀:Hp
 env:Env
 outer:List Env
 stack:List Env
 ex:List Addr
 fn:Str->Bool
 calm:Bool
 pn:List (Addr×Obj)
 xe:Value->Shared->Prop
def frs (l:List Env):List Addr:=l.filterMap (·.frame)
abbrev Cx.fs (X:Cx):List Addr:=frs X.outer
def Vis (sc:Scope) (x:Str):Prop:=sc.names.lookup x=some .local\/sc.names.lookup x=some .cell\/sc.names.lookup x=some .free
def Loc (sc:Scope) (x:Str):Prop:=sc.names.lookup x=some .local\/sc.names.lookup x=some .cell
def jpp (env:Env) (h:Heap) (m:Str->Option Value) (x:Str) (u:Value):Prop:=
 (env.kindOf x=some .local/\m x=some u)\/((env.kindOf x=some .cell\/env.kindOf x=some .free)/\ ∃c,env.cells.lookup x=some c/\h.IsCell c (some u))
structure Cx.Ok (X:Cx):Prop where
 mod:Mod X.K X.mg X.base
 kind:X.env.scope.kind= .function
 glob:X.env.globals=mainGlobals
 blt:X.env.builtins=builtinsNs
 above:X.s₀.heap.objs.size<=X.env.locals
 inj: ∀x y c,X.env.cells.lookup x=some c->X.env.cells.lookup y=some c->x=y
 has: ∀x,(X.env.kindOf x=some .cell\/X.env.kindOf x=some .free)-> ∃c,X.env.cells.lookup x=some c
 cab: ∀x c,X.fn x=true->X.env.cells.lookup x=some c->X.s₀.heap.objs.size<=c
 hd:X.calm=true->X.A.handled=none
 frames:X.A.frames=some X.stack
 stk:X.stack=X.outer\/(X.stack=X.env::X.outer/\X.env.frame=some X.env.locals)
 exf: ∀b∈X.ex,b≠X.env.locals/\ ∀x c,X.env.cells.lookup x=some c->c≠b
 bs: ∀b o,X.base.get? b=some o->X.s₀.heap.get? b=some o/\X.H₀ b=none
 bsz:X.base.objs.size<=X.s₀.heap.objs.size
 noex: ∀b o,X.base.get? b=some o->b ∉ X.ex
 exfs: ∀b∈X.ex,b ∉ X.fs
 funs:X.s₀.heap.FunFrames X.base X.outer
 frf: ∀b∈X.fs,X.H₀ b=none
structure Inv (X:Cx) (pins:List (Addr×Obj)) (σ:List (Option V)) (H:Hp) (s:Shared):Prop where
 ok:X.Ok
 os:s.os=X.s₀.os
 bare:AllBare s.gens
 base:Un X.fs X.ex X.H₀ H X.s₀.heap s.heap
 loc: ∃m,s.heap.Ns X.env.locals m/\ ∀ (i:Nat) (x:Str) (v:V),X.N[i]? =some x->σ[i]? =some (some v)->Vis X.env.scope x-> ∃u,RelV v u/\jpp X.env s.heap m x u
 cell: ∀x c,X.env.cells.lookup x=some c-> ∃v,s.heap.IsCell c v
 free:H X.env.locals=none
 freeC: ∀x c,X.env.cells.lookup x=some c->H c=none
 pin: ∀p∈X.pn++pins,s.heap.get? p.1=some p.2/\H p.1=none/\p.1≠X.env.locals/\p.1 ∉ X.fs/\ ∀v,p.2.data≠ .cell v
 hok:HOk X.prog X.w H s.heap
 len:σ.length=X.N.length
section
variable {X:Cx} {pins:List (Addr×Obj)} {σ:List (Option V)} {H H' :Hp} {s:Shared} {h' :Heap}
theorem Cx.Ok.nofr (ok:X.Ok) {b:Addr} {o:Obj} (e:X.base.get? b=some o):b ∉ X.fs:=λhb=>by
 have:=(ok.funs.mem hb).1
 rw [e] at this;cases this
theorem Inv.bs (I:Inv X pins σ H s): ∀b o,X.base.get? b=some o->s.heap.get? b=some o/\H b=none:=λb o e=>
 ⟨I.base.keep b o (I.ok.bs b o e).1 (I.ok.bs b o e).2 (I.ok.nofr e) (I.ok.noex b o e),I.base.free b o (I.ok.bs b o e).1 (I.ok.bs b o e).2 (I.ok.noex b o e)⟩
theorem Inv.bk (I:Inv X pins σ H s): ∀b o,X.base.get? b=some o->s.heap.get? b=some o:=λb o e=>(I.bs b o e).1
theorem Inv.mod (I:Inv X pins σ H s):Mod X.K X.mg X.base:=I.ok.mod
theorem Inv.kIn (I:Inv X pins σ H s):X.K.In s.heap:=I.ok.mod.kin.keeps I.bk
theorem Inv.lt (I:Inv X pins σ H s):X.env.locals<s.heap.objs.size:=let ⟨_,hn,_⟩:=I.loc;hn.lt
theorem Inv.sz (I:Inv X pins σ H s):X.s₀.heap.objs.size<=s.heap.objs.size:=G0R I.ok.above (G0X I.lt)
theorem Inv.nofs (I:Inv X pins σ H s) {a:Addr} (h:s.heap.objs.size<=a):a ∉ X.fs:=λhb=>by
 obtain⟨_,o,ho,_⟩:=I.ok.funs.mem hb
 exact absurd (G0A (G0k ho) (G0R I.sz h)) (G0P _)
theorem Inv.cne (I:Inv X pins σ H s): ∀x c,X.env.cells.lookup x=some c->c≠X.env.locals:=λx c e z=>by
 obtain⟨v,o,ho,hd⟩:=I.cell x c e
 obtain⟨m,⟨o',es,ep,ho',hd',_⟩,_⟩:=I.loc
 rw [z,ho'] at ho;cases ho;rw [hd'] at hd;cases hd
theorem Inv.funs (I:Inv X pins σ H s):s.heap.FunFrames X.base X.outer:=by
 have all: ∀ (l:List Env),(∀b∈frs l,b∈X.fs)->X.s₀.heap.FunFrames X.base l->s.heap.FunFrames X.base l:=by
  intro l
  induction l with
  |nil=>intro _ _;trivial
  |cons env r ih=>
   intro hs hl
   obtain⟨hk,⟨L,o,hf,hn,ho,hd⟩,hr⟩:=hl
   have hL:L∈X.fs:=hs L (by unfold frs;rw [List.filterMap_cons,hf];exact List.mem_cons_self)
   obtain⟨sl,e⟩:=I.base.slot L o ho (I.ok.frf L hL) hL λz=>I.ok.exfs L z hL
   exact⟨hk,⟨L,_,hf,hn,e,hd⟩,ih (λb hb=>hs b (by unfold frs;rw [List.filterMap_cons,hf];exact List.mem_cons_of_mem _ hb)) hr⟩
 exact all X.outer (λ_ hb=>hb) I.ok.funs
theorem Inv.stack (I:Inv X pins σ H s):s.heap.FunFrames X.base X.stack:=by
 rcases I.ok.stk with e|⟨e,hf⟩
 ·rw [e];exact I.funs
 ·rw [e]
  obtain⟨m,hn,_⟩:=I.loc
  refine .cons (by rw [I.ok.kind];decide) hf hn ?_ I.funs
  exact Heap.get?_none_of_le (G0R I.ok.bsz I.ok.above)
theorem Inv.stkSub (I:Inv X pins σ H s): ∀b∈frs X.stack,b∈X.env.locals::X.fs:=λb hb=>by
 rcases I.ok.stk with e|⟨e,hf⟩
 ·rw [e] at hb;exact G0w _ hb
 ·rw [e] at hb
  unfold frs at hb
  rw [List.filterMap_cons,hf] at hb
  exact hb
theorem Inv.stkFree (I:Inv X pins σ H s): ∀b∈frs X.stack,H b=none:=λb hb=>by
 rcases G0u.mp (I.stkSub b hb) with e|hb
 ·rw [e];exact I.free
 ·obtain⟨_,o,ho,_⟩:=I.ok.funs.mem hb
  exact I.base.free b o ho (I.ok.frf b hb) λz=>I.ok.exfs b z hb
theorem Inv.step {g' :Array GenState} {t' :Nat} {d' :Drawn} {ch:List Addr} (I:Inv X pins σ H s)
 (hch: ∀b∈ch,(b∈X.ex\/X.s₀.heap.objs.size<=b)/\b≠X.env.locals/\(∀x c,X.env.cells.lookup x=some c->c≠b)/\ ∀p∈X.pn++pins,p.1≠b)
 (keep: ∀b o,b≠X.env.locals->b ∉ X.fs->b ∉ ch->s.heap.get? b=some o->H b=none->h'.get? b=some o)
 (slot: ∀b o,b≠X.env.locals->b∈X.fs->b ∉ ch->s.heap.get? b=some o->H b=none-> ∃sl,h'.get? b=some {o with slots:=sl}) (free: ∀b o,b ∉ ch->s.heap.get? b=some o->H b=none->H' b=none)
 (there: ∀b o,b ∉ ch->s.heap.get? b=some o-> ∃o',h'.get? b=some o')
 (tups: ∀b xs,H b=some (.tup xs)->H' b=some (.tup xs)) (frzs: ∀b o u,H b=some (.frz o u)->H' b=some (.frz o u)) (tbls: ∀b ps,H b=some (.tbl ps)-> ∃more,H' b=some (.tbl (ps++more)))
 (ns: ∀m,s.heap.Ns X.env.locals m->h'.Ns X.env.locals m) (hok:HOk X.prog X.w H' h') (hg:AllBare g'):
 Inv X pins σ H' {s with heap:=h',gens:=g',drawn:=d',toks:=t'}:=by
 have neL: ∀b o,X.s₀.heap.get? b=some o->b≠X.env.locals:=λb o e=>G0G (G0A (G0k e) I.ok.above)
 have neC: ∀b o,X.s₀.heap.get? b=some o->b ∉ X.ex->b ∉ ch:=λb o e hx hb=>by
  rcases (hch b hb).1 with z|z
  ·exact hx z
  ·exact absurd (G0A (G0k e) z) (G0P _)
 have cellK: ∀x c,X.env.cells.lookup x=some c-> ∀v,s.heap.IsCell c v->h'.IsCell c v:=λx c e v ⟨o,ho,hd⟩=>by
  have nch:c ∉ ch:=λz=>(hch c z).2.2.1 x c e rfl
  by_cases hc:c∈X.fs
  ·obtain⟨sl,q⟩:=slot c o (I.cne x c e) hc nch ho (I.freeC x c e)
   exact⟨_,q,hd⟩
  ·exact⟨o,keep c o (I.cne x c e) hc nch ho (I.freeC x c e),hd⟩
 refine⟨I.ok,I.os,hg,⟨λb o e n hb hx=> ?_,λb o e n hb hx=> ?_,λb o e n hx=> ?_,λb o e hx=> ?_,λb xs e=>tups b xs (I.base.tups b xs e),λb o xs e=>frzs b o xs (I.base.frzs b o xs e),λb ps e=> ?_⟩,?_,λx c e=> ?_,?_,λx c e=> ?_,λp hp=> ?_,hok,I.len⟩
 ·exact keep b o (neL b o e) hb (neC b o e hx) (I.base.keep b o e n hb hx) (I.base.free b o e n hx)
 ·obtain⟨sl,e1⟩:=I.base.slot b o e n hb hx
  obtain⟨sl',e2⟩:=slot b _ (neL b o e) hb (neC b o e hx) e1 (I.base.free b o e n hx)
  exact⟨sl',e2⟩
 ·obtain⟨o',e1⟩:=I.base.there b o e hx
  exact free b o' (neC b o e hx) e1 (I.base.free b o e n hx)
 ·obtain⟨o',e1⟩:=I.base.there b o e hx
  exact there b o' (neC b o e hx) e1
 ·obtain⟨m1,e1⟩:=I.base.tbls b ps e
  obtain⟨m2,e2⟩:=tbls b _ e1
  exact⟨m1++m2,by rw [e2,Array.append_assoc]⟩
 ·obtain⟨m,hn,hl⟩:=I.loc
  refine⟨m,ns m hn,λi x v e1 e2 e3=> ?_⟩
  obtain⟨u,r,l⟩:=hl i x v e1 e2 e3
  refine⟨u,r,?_⟩
  rcases l with l|⟨k,c,e,z⟩
  ·exact .inl l
  ·exact .inr ⟨k,c,e,cellK x c e _ z⟩
 ·obtain⟨v,z⟩:=I.cell x c e
  exact⟨v,cellK x c e v z⟩
 ·obtain⟨m,⟨o,_,_,ho,_⟩,_⟩:=I.loc
  exact free _ o (λz=>(hch _ z).2.1 rfl) ho I.free
 ·obtain⟨v,o,ho,hd⟩:=I.cell x c e
  exact free c o (λz=>(hch c z).2.2.1 x c e rfl) ho (I.freeC x c e)
 ·obtain⟨e,n,ne,nf,d⟩:=I.pin p hp
  have nch:p.1 ∉ ch:=λz=>(hch p.1 z).2.2.2 p hp rfl
  exact⟨keep p.1 p.2 ne nf nch e n,free p.1 p.2 nch e n,ne,nf,d⟩
theorem Inv.un {t' :Nat} (I:Inv X pins σ H s) (u:Un X.fs [] H H' s.heap h') (hok:HOk X.prog X.w H' h'):Inv X pins σ H' {s with heap:=h',toks:=t'}:=by
 obtain⟨m,⟨o,es,ep,ho,r⟩,_⟩:=id I.loc
 obtain⟨sl,hL⟩:=u.any ho I.free (by simp)
 exact I.step (g' :=s.gens) (d' :=s.drawn) (ch:= []) (λ_ z=>nomatch z) (λb o _ hb _ e n=>u.keep b o e n hb (by simp)) (λb o _ hb _ e n=>u.slot b o e n hb (by simp)) (λb o _ e n=>u.free b o e n (by simp)) (λb o _ e=>u.there b o e (by simp)) u.tups u.frzs u.tbls (λm' hm=>by
  obtain⟨o',es',ep',ho',r'⟩:=hm
  rw [ho] at ho';cases ho'
  exact⟨_,es',ep',hL,r'⟩) hok I.bare
theorem Inv.call {g' :Array GenState} {t' :Nat} {d' :Drawn} {ch:List Addr} (I:Inv X pins σ H s) (u:Un (frs X.stack) ch H H' s.heap h') (hok:HOk X.prog X.w H' h') (hg:AllBare g')
 (hch: ∀b∈ch,(b∈X.ex\/X.s₀.heap.objs.size<=b)/\b≠X.env.locals/\(∀x c,X.env.cells.lookup x=some c->c≠b)/\ ∀p∈X.pn++pins,p.1≠b):
 Inv X pins σ H' {s with heap:=h',gens:=g',drawn:=d',toks:=t'}:=by
 obtain⟨m,⟨o,es,ep,ho,r⟩,_⟩:=id I.loc
 obtain⟨sl,hL⟩:=u.any ho I.free λz=>(hch _ z).2.1 rfl
 exact I.step (ch:=ch) hch (λb o hL hb hc e n=>u.keep b o e n (λz=>(G0u.mp (I.stkSub b z)).elim hL hb) hc) (λb o _ _ hc e n=>u.any e n hc) (λb o hc e n=>u.free b o e n hc) (λb o hc e=>u.there b o e hc) u.tups u.frzs u.tbls (λm' hm=>by
  obtain⟨o',es',ep',ho',r'⟩:=hm
  rw [ho] at ho';cases ho'
  exact⟨_,es',ep',hL,r'⟩) hok hg
theorem Inv.turned {t' :Nat} {it:Addr} (I:Inv X pins σ H s) (k: ∀b o,b≠it->s.heap.get? b=some o->h'.get? b=some o) (hn:H it=none) (hL:it≠X.env.locals)
 (h1:it∈X.ex\/X.s₀.heap.objs.size<=it) (h2: ∀x c,X.env.cells.lookup x=some c->c≠it) (h3: ∀p∈X.pn++pins,p.1≠it):Inv X pins σ H {s with heap:=h',toks:=t'}:=by
 have nit: ∀b u,H b=some u->b≠it:=λb u e z=>by rw [z,hn] at e;cases e
 refine I.step (g' :=s.gens) (d' :=s.drawn) (ch:= [it]) (λb hb=> ?_) (λb o _ _ hc e _=>k b o (λz=>hc (by simp [z])) e) (λb o _ _ hc e _=>⟨o.slots,k b o (λz=>hc (by simp [z])) e⟩) (λ_ _ _ _ n=>n)
  (λb o hc e=>⟨o,k b o (λz=>hc (by simp [z])) e⟩) (λ_ _ e=>e) (λ_ _ _ e=>e) (λb ps e=>⟨#[],by rw [e];simp⟩) (λm hm=> ?_) (λb u e=> ?_) I.bare
 ·have e:b=it:=by simpa using hb
  subst e
  exact⟨h1,hL,h2,h3⟩
 ·obtain⟨o,es,ep,ho,r⟩:=hm
  exact⟨o,es,ep,k _ o (Ne.symm hL) ho,r⟩
 ·refine(I.hok b u e).stay (λc v hc q=>k c v ?_ q) (λ_ q=>q) λ_ _ q=>q
  rcases hc with z|z
  ·rw [z];exact nit b u e
  ·exact nit c _ z
theorem Inv.tok (I:Inv X pins σ H s) (t:Nat):Inv X pins σ H {s with toks:=t}:=I.un (h' :=s.heap) (t' :=t) Un.refl I.hok
theorem Inv.kept {t' :Nat} (I:Inv X pins σ H s) (k: ∀b u,s.heap.get? b=some u->h'.get? b=some u):Inv X pins σ H {s with heap:=h',toks:=t'}:=I.un (Un.kept k) (I.hok.kept k)
theorem Inv.laid {a:Addr} {o:HO} {t' :Nat} (I:Inv X pins σ H s) (k: ∀b u,s.heap.get? b=some u->h'.get? b=some u) (hp:s.heap.objs.size<=a) (new:ObjOk X.prog X.w (upd H a o) h' a o):
 Inv X pins σ (upd H a o) {s with heap:=h',toks:=t'}:=I.un (Un.laid k hp (I.hok.fresh hp)) (I.hok.laid k hp new)
theorem Inv.write {x e:Addr} {o:HO} {t' :Nat} (I:Inv X pins σ H s) (mu:Mut (H x)) (he:e=x\/H e=some (.own x)) (k: ∀b u,b≠e->s.heap.get? b=some u->h'.get? b=some u) (heo: ∃u,h'.get? e=some u)
 (new:ObjOk X.prog X.w (upd H x o) h' x o):Inv X pins σ (upd H x o) {s with heap:=h',toks:=t'}:=I.un (Un.write mu he k heo) (I.hok.write mu he k heo new)
theorem Inv.weak {σ' :List (Option V)} (I:Inv X pins σ H s) (hl:σ'.length=σ.length) (w: ∀ (i:Nat) v,σ'[i]? =some (some v)->σ[i]? =some (some v)):Inv X pins σ' H s:=
 ⟨I.ok,I.os,I.bare,I.base,let ⟨m,hn,hl'⟩:=I.loc;⟨m,hn,λi x v e1 e2 e3=>hl' i x v e1 (w i v e2) e3⟩,I.cell,I.free,I.freeC,I.pin,I.hok,hl.trans I.len⟩
theorem Inv.pins_of {pins' :List (Addr×Obj)} (I:Inv X pins σ H s) (h: ∀p∈pins',s.heap.get? p.1=some p.2/\H p.1=none/\p.1≠X.env.locals/\p.1 ∉ X.fs/\ ∀v,p.2.data≠ .cell v):Inv X pins' σ H s:=
 ⟨I.ok,I.os,I.bare,I.base,I.loc,I.cell,I.free,I.freeC,λp hp=>(G1a.mp hp).elim (λz=>I.pin p (G1d _ z)) (h p),I.hok,I.len⟩
theorem jhc {N:List Str} (hN:N.Nodup) {i j:Nat} {x:Str} (a:N[i]? =some x) (b:N[j]? =some x):i=j:=by
 obtain⟨h1,e1⟩:=G0s.mp a
 obtain⟨h2,e2⟩:=G0s.mp b
 exact(List.getElem_inj hN).mp (e1.trans e2.symm)
theorem jhW {M:Model} {A:Around} {E:Value->Shared->Prop} {i:Nat} {x:Str} {v:V} {u:Value} {Q:Unit->Shared->Prop} (I:Inv X pins σ H s) (hN:X.N.Nodup) (hi:X.N[i]? =some x) (hx:Loc X.env.scope x) (r:RelV v u)
 (h: ∀s',Inv X pins (σ.set i (some v)) H s' ->(∃a,Heap.SameBut a s.heap s'.heap/\(a=X.env.locals\/X.env.cells.lookup x=some a))->Q () s') (hf:X.fn x=true\/X.env.scope.names.lookup x=some .local:=by first|exact .inl rfl|exact .inr rfl|assumption):wpAny M A (storeName X.env x u) Q E s:=by
 obtain⟨m,hn,hl⟩:=id I.loc
 have hcls:(X.env.scope.kind== .class||(X.env.scope.kind== .module&&X.env.locals !=X.env.globals))=false:=by rw [I.ok.kind];rfl
 have hiσ:i<σ.length:=by rw [I.len];exact(G0s.mp hi).1
 have cne:=I.cne
 have tracked: ∀ {a:Addr} {h' :Heap},(∃o,s.heap.get? a=some o/\H a=none)->Heap.SameBut a s.heap h' ->HOk X.prog X.w H h' :=λ{a h'} ha hs b ob e=>by
  obtain⟨_,_,hfree⟩:=ha
  refine(I.hok b ob e).stay (λc w' hc q=>(hs.2 c ?_).trans q) (λ_ q=>q) λ_ _ q=>q
  rintro rfl
  rcases hc with rfl|hc
  ·rw [hfree] at e;cases e
  ·rw [hfree] at hc;cases hc
 rcases hx with hk|hk
 ·refine wpAny_storeName_local hk hn (λh' hn' hs=> ?_) hcls
  obtain⟨oL,_,_,hoL,_⟩:=id hn
  refine h _ ⟨I.ok,I.os,I.bare,⟨λb o e n hb hx=> ?_,λb o e n hb hx=> ?_,I.base.free,λb o e hx=> ?_,I.base.tups,I.base.frzs,I.base.tbls⟩,⟨_,hn',λj y v' e1 e2 e3=> ?_⟩,λy c e=> ?_,I.free,I.freeC,λp hp=> ?_,tracked ⟨oL,hoL,I.free⟩ hs,by simpa using I.len⟩ ⟨_,hs,.inl rfl⟩
  ·exact(hs.2 b (G0G (G0A (G0k e) I.ok.above))).trans (I.base.keep b o e n hb hx)
  ·obtain⟨sl,e1⟩:=I.base.slot b o e n hb hx
   exact⟨sl,(hs.2 b (G0G (G0A (G0k e) I.ok.above))).trans e1⟩
  ·obtain⟨o',e1⟩:=I.base.there b o e hx
   exact⟨o',(hs.2 b (G0G (G0A (G0k e) I.ok.above))).trans e1⟩
  ·by_cases hj:j=i
   ·subst hj
    rw [hi] at e1;cases e1
    rw [G2Y hiσ] at e2
    cases e2
    exact⟨u,r,.inl ⟨hk,by simp⟩⟩
   ·rw [G1e (Ne.symm hj)] at e2
    obtain⟨u',r',q⟩:=hl j y v' e1 e2 e3
    refine⟨u',r',?_⟩
    rcases q with ⟨k,e⟩|⟨k,c,e,z⟩
    ·refine .inl ⟨k,?_⟩
     have:y≠x:=λe=>hj (jhc hN e1 (e ▸ hi))
     simp [this,e]
    ·exact .inr ⟨k,c,e,z.sameBut hs (cne y c e)⟩
  ·obtain⟨w',z⟩:=I.cell y c e
   exact⟨w',z.sameBut hs (cne y c e)⟩
  ·obtain⟨e,n,ne,nf,d⟩:=I.pin p hp
   exact⟨(hs.2 p.1 ne).trans e,n,ne,nf,d⟩
 ·have hfn:X.fn x=true:=by
   rcases hf with z|z
   ·exact z
   ·rw [z] at hk;cases hk
  obtain⟨c,hc⟩:=I.ok.has x (.inl hk)
  obtain⟨w',z⟩:=I.cell x c hc
  refine wpAny_storeName_cell I.ok.kind hk hc z (λh' hc' hs=> ?_)
  obtain⟨oc,hoc,hocd⟩:=id z
  refine h {s with heap:=h'} ⟨I.ok,I.os,I.bare,⟨λb o e n hb hx=> ?_,λb o e n hb hx=> ?_,I.base.free,λb o e hx=> ?_,I.base.tups,I.base.frzs,I.base.tbls⟩,⟨m,hn.sameBut hs (Ne.symm (cne x c hc)),λj y v' e1 e2 e3=> ?_⟩,λy c' e=> ?_,I.free,I.freeC,λp hp=> ?_,tracked ⟨oc,hoc,I.freeC x c hc⟩ hs,by simpa using I.len⟩ ⟨c,hs,.inr hc⟩
  ·exact(hs.2 b (G0G (G0A (G0k e) (I.ok.cab x c hfn hc)))).trans (I.base.keep b o e n hb hx)
  ·obtain⟨sl,e1⟩:=I.base.slot b o e n hb hx
   exact⟨sl,(hs.2 b (G0G (G0A (G0k e) (I.ok.cab x c hfn hc)))).trans e1⟩
  ·obtain⟨o',e1⟩:=I.base.there b o e hx
   exact⟨o',(hs.2 b (G0G (G0A (G0k e) (I.ok.cab x c hfn hc)))).trans e1⟩
  ·by_cases hj:j=i
   ·subst hj
    rw [hi] at e1;cases e1
    rw [G2Y hiσ] at e2
    cases e2
    exact⟨u,r,.inr ⟨.inl hk,c,hc,hc'⟩⟩
   ·rw [G1e (Ne.symm hj)] at e2
    obtain⟨u',r',q⟩:=hl j y v' e1 e2 e3
    refine⟨u',r',?_⟩
    rcases q with q|⟨k,c',e,z'⟩
    ·exact .inl q
    ·refine .inr ⟨k,c',e,z'.sameBut hs ?_⟩
     rintro rfl
     exact hj (jhc hN e1 (I.ok.inj _ _ _ e hc ▸ hi))
  ·by_cases hcc:c' =c
   ·subst hcc;exact⟨_,hc'⟩
   ·obtain⟨w2,z2⟩:=I.cell y c' e
    exact⟨w2,z2.sameBut hs hcc⟩
  ·obtain⟨e,n,ne,nf,d⟩:=I.pin p hp
   refine⟨(hs.2 p.1 ?_).trans e,n,ne,nf,d⟩
   intro q
   rw [q,hoc] at e
   have q' :oc=p.2:=G0T e
   exact d w' (by rw [<-q'];exact hocd)
theorem jdq {M:Model} {A:Around} {E:Value->Shared->Prop} {i:Nat} {x:Str} {v:V} {u:Value} {Q:Unit->Shared->Prop} (I:Inv X pins σ H s) (hN:X.N.Nodup) (hi:X.N[i]? =some x) (hx:Loc X.env.scope x) (r:RelV v u)
 (h: ∀s',Inv X pins (σ.set i (some v)) H s' ->Q () s') (hf:X.fn x=true\/X.env.scope.names.lookup x=some .local:=by first|exact .inl rfl|exact .inr rfl|assumption):wpAny M A (storeName X.env x u) Q E s:=
 jhW I hN hi hx r (λs' I' _=>h s' I') hf
theorem Inv.call' {s' :Shared} {ch:List Addr} (I:Inv X pins σ H s) (ho:s'.os=s.os) (u:Un (frs X.stack) ch H H' s.heap s'.heap) (hok:HOk X.prog X.w H' s'.heap) (hg:AllBare s'.gens)
 (hch: ∀b∈ch,(b∈X.ex\/X.s₀.heap.objs.size<=b)/\b≠X.env.locals/\(∀x c,X.env.cells.lookup x=some c->c≠b)/\ ∀p∈X.pn++pins,p.1≠b):Inv X pins σ H' s' :=by
 obtain⟨h',g',d',t',o'⟩:=s'
 have e:o' =s.os:=ho
 subst e
 exact I.call (g' :=g') (t' :=t') (d' :=d') u hok hg hch
end
abbrev XK:=Value->Option Addr->Hp->Prop
abbrev St:=List (Option V)
abbrev VK:=V->Hp->Prop
abbrev TE:=St->Hp->VK->Prop
abbrev TT:=St->Hp->(Bool->Hp->Prop)->Prop
abbrev TA:=St->Hp->(List V->Hp->Prop)->Prop
structure Ends where
 nx:St->Hp->Prop
 rt:VK
 bk:St->Hp->Prop:=λ_ _=>False
 ct:St->Hp->Prop:=λ_ _=>False
abbrev TS:=Ends->St->Hp->Prop
def EP (X:Cx) (pins:List (Addr×Obj)) (σ:St) (Q:VK) (u:Value) (s' :Shared):Prop:= ∃v H',Inv X pins σ H' s' /\RelV v u/\Q v H'
def TP (X:Cx) (pins:List (Addr×Obj)) (σ:St) (Q:Bool->Hp->Prop) (b:Bool) (s' :Shared):Prop:= ∃H',Inv X pins σ H' s' /\Q b H'
def AP (X:Cx) (pins:List (Addr×Obj)) (σ:St) (Q:List V->Hp->Prop) (us:List Value) (s' :Shared):Prop:= ∃vs H',Inv X pins σ H' s' /\Vals vs us/\Q vs H'
def SP (X:Cx) (pins:List (Addr×Obj)) (D:Ends) (f:Flow) (s' :Shared):Prop:=
 match f with
 | .next=> ∃σ' H',Inv X pins σ' H' s' /\D.nx σ' H'
 | .brk=> ∃σ' H',Inv X pins σ' H' s' /\D.bk σ' H'
 | .cont=> ∃σ' H',Inv X pins σ' H' s' /\D.ct σ' H'
 | .ret u=> ∃v σ' H',Inv X pins σ' H' s' /\RelV v u/\D.rt v H'
def PE (X:Cx) (e:Expr) (t:TE):Prop:=
 ∀ (pins:List (Addr×Obj)) (s:Shared) (σ:St) (H:Hp) (Q:VK),Inv X pins σ H s->t σ H Q->wpAny (model X.prog X.w) X.A (eval e X.env) (EP X pins σ Q) X.xe s
def PT (X:Cx) (e:Expr) (t:TT):Prop:=
 ∀ (pins:List (Addr×Obj)) (s:Shared) (σ:St) (H:Hp) (Q:Bool->Hp->Prop),Inv X pins σ H s->t σ H Q->wpAny (model X.prog X.w) X.A (isTrue e X.env (eval e X.env)) (TP X pins σ Q) X.xe s
def PW (X:Cx) (e:Expr) (t:TT):Prop:=
 ∀ (whole:Sem Value) (pins:List (Addr×Obj)) (s:Shared) (σ:St) (H:Hp) (Q:Bool->Hp->Prop),Inv X pins σ H s->t σ H Q->wpAny (model X.prog X.w) X.A (isTrue e X.env whole) (TP X pins σ Q) X.xe s
theorem PW.pt {X:Cx} {e:Expr} {t:TT} (h:PW X e t):PT X e t:=h _
def PA (X:Cx) (es:List Expr) (t:TA):Prop:=
 ∀ (pos:Pos) (pins:List (Addr×Obj)) (s:Shared) (σ:St) (H:Hp) (Q:List V->Hp->Prop),Inv X pins σ H s->t σ H Q->wpAny (model X.prog X.w) X.A (spliced (backTo pos (starEach es X.env))) (AP X pins σ Q) X.xe s
def PS (X:Cx) (st:Stmt) (t:TS):Prop:=
 ∀ (pins:List (Addr×Obj)) (s:Shared) (σ:St) (H:Hp) (D:Ends),Inv X pins σ H s->t D σ H->wpAny (model X.prog X.w) X.A (exec st X.env) (SP X pins D) X.xe s
def PSs (X:Cx) (st:List Stmt) (t:TS):Prop:=
 ∀ (pins:List (Addr×Obj)) (s:Shared) (σ:St) (H:Hp) (D:Ends),Inv X pins σ H s->t D σ H->wpAny (model X.prog X.w) X.A (execs st X.env) (SP X pins D) X.xe s
theorem thn {α:Type} {t:Sem α} {Q Q' :α->Shared->Prop} {M:Model} {A:Around} {E:Value->Shared->Prop} {s:Shared} (h:wpAny M A t Q E s) (hQ: ∀a s,Q a s->Q' a s):wpAny M A t Q' E s:=G0S h hQ λ_ _ x=>x
section
variable {X:Cx}
def jn7 (i:Nat):TE:=λσ H Q=> ∃v,σ[i]? =some (some v)/\Q v H
def tC (v:V):TE:=λ_ H Q=>Q v H
theorem jkr {i:Nat} {x:Str} {pos:Pos} (hN:X.N[i]? =some x) (hv:Vis X.env.scope x) (hd:(x==("__debug__" :Str))=false:=by decide) (hcd:(x==("__classdict__" :Str))=false:=by decide):PE X (.Name x pos) (jn7 i):=by
 intro pins s σ H Q I h
 obtain⟨v,e,h⟩:=h
 obtain⟨m,hn,hl⟩:=I.loc
 obtain⟨u,r,l⟩:=hl i x v hN e hv
 have fin:EP X pins σ Q u s:=⟨v,H,I,r,h⟩
 rcases l with ⟨hk,hm⟩|⟨hk,c,hc,hcell⟩
 ·exact wpAny_Name (wpAny_loadName_local I.ok.kind hk hn hm fin) hd
 ·rcases hk with hk|hk
  ·exact wpAny_Name (wpAny_loadName_cell I.ok.kind hk hc hcell fin) hd
  ·exact wpAny_Name (wpAny_loadName_free I.ok.kind hk hc hcell fin hcd) hd
theorem pe_int {i j pos}:PE X (.Constant (.int i) j pos) (tC (.int i)):=λ_ _ _ H _ I h=>wpAny_Constant_int ⟨.int i,H,I.tok _,⟨_,rfl⟩,h⟩
theorem pe_bl {b j pos}:PE X (.Constant (.bool b) j pos) (tC (.bl b)):=λ_ _ _ H _ I h=>Constant_bool ⟨.bl b,H,I,rfl,h⟩
def Gl (X:Cx) (x:Str):Prop:=X.env.kindOf x=some .globalImplicit
theorem jhX {E:Value->Shared->Prop} {pins:List (Addr×Obj)} {s:Shared} {σ:St} {H:Hp} {x:Str} {u:Value} {pos:Pos} {Q:Value->Shared->Prop} (I:Inv X pins σ H s) (hg:Gl X x) (hm:X.mg x=some u) (h:Q u s)
 (hd:(x==("__debug__" :Str))=false:=by decide):wpAny (model X.prog X.w) X.A (eval (.Name x pos) X.env) Q E s:=
 Calls.Name_function_global I.ok.kind hg (Calls.loadGlobal_global (by rw [I.ok.glob];exact I.mod.glob.keeps I.bk) hm h) hd
theorem jeq {E:Value->Shared->Prop} {pins:List (Addr×Obj)} {s:Shared} {σ:St} {H:Hp} {x:Str} {u:Value} {pos:Pos} {Q:Value->Shared->Prop} (I:Inv X pins σ H s) (hg:Gl X x) (hm:X.mg x=none) (hv:bootBuiltins x=some u) (h:Q u s)
 (hn:x≠ "__name__" :=by decide) (hd:(x==("__debug__" :Str))=false:=by decide):wpAny (model X.prog X.w) X.A (eval (.Name x pos) X.env) Q E s:=by
 obtain⟨mb,h1,h2⟩:=I.mod.blt
 exact Calls.Name_function_global I.ok.kind hg (Calls.loadGlobal_builtin (by rw [I.ok.glob];exact I.mod.glob.keeps I.bk) hm (by rw [I.ok.blt];exact h1.keeps I.bk) ((h2 x hn).trans hv) h) hd
theorem jkV {x:Str} {v:V} {u:Value} {pos:Pos} (hg:Gl X x) (hm:X.mg x=some u) (r:RelV v u) (hd:(x==("__debug__" :Str))=false:=by decide):PE X (.Name x pos) (tC v):=
 λ_ _ _ H _ I h=>jhX I hg hm ⟨v,H,I,r,h⟩ hd
theorem jkW {x:Str} {v:V} {u:Value} {pos:Pos} (hg:Gl X x) (hm:X.mg x=none) (hv:bootBuiltins x=some u) (r:RelV v u) (hn:x≠ "__name__" :=by decide) (hd:(x==("__debug__" :Str))=false:=by decide):PE X (.Name x pos) (tC v):=
 λ_ _ _ H _ I h=>jeq I hg hm hv ⟨v,H,I,r,h⟩ hn hd
variable {a b:Expr} {ta tb:TE} {pos:Pos}
def tB (t:TE):TT:=λσ H Q=>t σ H λx H1=> ∃c,x= .bl c/\Q c H1
theorem jmp {e:Expr} {t:TE} (h:PE X e t) (he: ∀whole,isTrue e X.env whole=(do let v <-whole;standAt e.pos;holding [v] (truthy v)):=by intro _;rfl):PT X e (tB t):=by
 intro pins s σ H Q I hw
 refine isTrue_plain (thn (h pins s σ H _ I hw) λv s1 ⟨x,H1,I1,r1,q1⟩=> ?_) (he _)
 obtain⟨d,rfl,q⟩:=q1
 cases r1
 exact G06 ⟨H1,I1,q⟩
variable {tA tB' :TT} {rest:List Expr}
def tOr (t u:TT):TT:=λσ H Q=>t σ H λc H1=>if c=true then Q true H1 else u σ H1 Q
def joY (t:TT):TT:=λσ H Q=>t σ H λc H1=>Q (!c) H1
theorem jmq (ha:PT X a tA):PW X (.BoolOp .Or [a] pos) tA:=by
 intro wh pins s σ H Q I h
 refine isTrue_or (thn (ha pins s σ H Q I h) λc s1 e=> ?_)
 cases c with
 |false=>exact isTrue_or_nil e
 |true=>exact e
theorem jn8 (ha:PT X a tA) (hb:PW X (.BoolOp .Or (b::rest) pos) tB'):PW X (.BoolOp .Or (a::b::rest) pos) (tOr tA tB'):=by
 intro wh pins s σ H Q I h
 refine isTrue_or (thn (ha pins s σ H _ I h) λc s1 ⟨H1,I1,q1⟩=> ?_)
 cases c with
 |true=>exact⟨H1,I1,q1⟩
 |false=>exact hb wh pins s1 σ H1 Q I1 q1
theorem jmr (ha:PT X a tA):PT X (.UnaryOp .Not a pos) (joY tA):=by
 intro pins s σ H Q I h
 exact isTrue_not (ha pins s σ H (λc H1=>Q (!c) H1) I h)
def jms (ta tb:TE):TE:=λσ H Q=>ta σ H λx H1=> ∃c,x= .bl c/\if c=true then tb σ H1 Q else Q (.bl false) H1
def joZ (ta tb:TE):TE:=λσ H Q=>ta σ H λx H1=> ∃c,x= .bl c/\if c=true then Q (.bl true) H1 else tb σ H1 Q
def jmt (ta:TE):TE:=λσ H Q=>ta σ H λx H1=> ∃c,x= .bl c/\Q (.bl (!c)) H1
theorem jmu {op} {t:TE} (h:PE X a t):PE X (.BoolOp op [a] pos) t:=λpins s σ H Q I hw=>BoolOp_one (h pins s σ H Q I hw)
theorem jmv (ha:PE X a ta) (hb:PE X (.BoolOp .And (b::rest) pos) tb):PE X (.BoolOp .And (a::b::rest) pos) (jms ta tb):=by
 intro pins s σ H Q I h
 refine BoolOp_and (thn (ha pins s σ H _ I h) λv s1 ⟨x,H1,I1,r1,q1⟩=> ?_)
 obtain⟨c,rfl,q1⟩:=q1
 cases r1
 refine G06 ?_
 cases c with
 |true=>exact hb pins s1 σ H1 Q I1 q1
 |false=>exact⟨.bl false,H1,I1,rfl,q1⟩
theorem jn9 (ha:PE X a ta) (hb:PE X (.BoolOp .Or (b::rest) pos) tb):PE X (.BoolOp .Or (a::b::rest) pos) (joZ ta tb):=by
 intro pins s σ H Q I h
 refine BoolOp_or (thn (ha pins s σ H _ I h) λv s1 ⟨x,H1,I1,r1,q1⟩=> ?_)
 obtain⟨c,rfl,q1⟩:=q1
 cases r1
 refine G06 ?_
 cases c with
 |false=>exact hb pins s1 σ H1 Q I1 q1
 |true=>exact⟨.bl true,H1,I1,rfl,q1⟩
theorem jmw (ha:PE X a ta):PE X (.UnaryOp .Not a pos) (jmt ta):=by
 intro pins s σ H Q I h
 refine UnaryOp_ (thn (ha pins s σ H _ I h) λv s1 ⟨x,H1,I1,r1,q1⟩=> ?_)
 obtain⟨c,rfl,q1⟩:=q1
 cases r1
 exact not_of (G06 ⟨.bl (!c),H1,I1,rfl,q1⟩)
def tIf (t:TT) (ta tb:TE):TE:=λσ H Q=>t σ H λc H1=>if c=true then ta σ H1 Q else tb σ H1 Q
theorem jjs {c:Expr} (hc:PT X c tA) (ha:PE X a ta) (hb:PE X b tb):PE X (.IfExp c a b pos) (tIf tA ta tb):=by
 intro pins s σ H Q I h
 refine wpAny_IfExp (thn (hc pins s σ H _ I h) λd s1 ⟨H1,I1,q1⟩=> ?_)
 cases d with
 |true=>exact ha pins s1 σ H1 Q I1 q1
 |false=>exact hb pins s1 σ H1 Q I1 q1
end
def SqL (K:PySem.W.Frag) (H:Hp) (a:Addr) (xs:List V):Prop:=
 Rd H a (.lst xs)\/
  ∃ (o:Obj) (its:Array Value) (n:Nat),K.lookup a=some o/\o.cls= .type "list" /\o.dict=none/\o.data= .seq its n/\its.size<=sizeLine/\Vals xs its.toList
def SqT (K:PySem.W.Frag) (H:Hp) (a:Addr) (xs:List V):Prop:=
 Rd H a (.tup xs)\/
  ∃ (o:Obj) (its:Array Value) (n:Nat),K.lookup a=some o/\o.cls= .type "tuple" /\o.data= .seq its n/\its.size<=sizeLine/\Vals xs its.toList
def jpq:Value->Option V
 | .none=>some .non
 | .bool b=>some (.bl b)
 | .int i _=>some (.int i)
 | .str x _=>some (.str x)
 | .bytes b _=>some (.byt b)
 | .float b _=>some (.flt b)
 | .ref a=>some (.ref a)
 | .type n=>some (.ty n)
 |_=>none
theorem RelV.abs {x:V} {u:Value} (r:RelV x u):jpq u=some x:=by
 cases x with
 |non=>cases r;rfl
 |bl _=>cases r;rfl
 |int _=>obtain⟨t,rfl⟩:=r;rfl
 |str _=>obtain⟨t,rfl⟩:=r;rfl
 |byt _=>obtain⟨t,rfl⟩:=r;rfl
 |flt _=>obtain⟨t,rfl⟩:=r;rfl
 |ref _=>cases r;rfl
 |ty _=>cases r;rfl
theorem RelV.inj {x y:V} {u:Value} (r:RelV x u) (q:RelV y u):x=y:=G0T (r.abs.symm.trans q.abs)
theorem Vals.inj: ∀ {xs ys:List V} {us:List Value},Vals xs us->Vals ys us->xs=ys
 |_,_,_,.nil,.nil=>rfl
 |_,_,_,.cons r t,.cons r' t' =>by rw [r.inj r',Vals.inj t t']
section
variable {X:Cx} {pins:List (Addr×Obj)} {σ:St} {H:Hp} {s:Shared} {a:Addr} {xs ys:List V}
theorem SqL.of {K:PySem.W.Frag} (h:H a=some (.lst xs)):SqL K H a xs:= .inl (.inl h)
theorem SqT.of {K:PySem.W.Frag} (h:H a=some (.tup xs)):SqT K H a xs:= .inl (.inl h)
theorem Inv.list (I:Inv X pins σ H s) (h:SqL X.K H a xs): ∃its:List Value,Vals xs its/\PlainL s.heap a its.toArray/\xs.length<=sizeLine:=by
 rcases h with h|⟨o,its,n,hk,hc,hd,hs,hz,r⟩
 ·obtain⟨z,its,n,r,e⟩:=h.ok I.hok
  exact⟨its,r,⟨_,n,e,rfl,rfl,rfl⟩,z⟩
 ·refine⟨its.toList,r,⟨o,n,I.kIn a o hk,hc,hd,by simpa using hs⟩,?_⟩
  have e:=r.length
  simp only [G0j] at e
  omega
theorem Inv.tuple (I:Inv X pins σ H s) (h:SqT X.K H a xs): ∃its:List Value,Vals xs its/\IsTup s.heap a its.toArray/\xs.length<=sizeLine:=by
 rcases h with h|⟨o,its,n,hk,hc,hs,hz,r⟩
 ·obtain⟨z,its,r,p⟩:=h.ok I.hok
  exact⟨its,r,p.tup,z⟩
 ·refine⟨its.toList,r,⟨o,I.kIn a o hk,hc,n,by simpa using hs⟩,?_⟩
  have e:=r.length
  simp only [G0j] at e
  omega
theorem Inv.list_inj (I:Inv X pins σ H s) (h:SqL X.K H a xs) (h' :SqL X.K H a ys):xs=ys:=by
 obtain⟨its,r,⟨o,n,e,_,_,d⟩,_⟩:=I.list h
 obtain⟨its',r',⟨o',n',e',_,_,d'⟩,_⟩:=I.list h'
 rw [e] at e';cases e'
 rw [d] at d'
 injection d' with d1 _
 have:its=its' :=by simpa using congrArg Array.toList d1
 subst this
 exact r.inj r'
theorem Inv.tuple_inj (I:Inv X pins σ H s) (h:SqT X.K H a xs) (h' :SqT X.K H a ys):xs=ys:=by
 obtain⟨its,r,⟨o,e,_,n,d⟩,_⟩:=I.tuple h
 obtain⟨its',r',⟨o',e',_,n',d'⟩,_⟩:=I.tuple h'
 rw [e] at e';cases e'
 rw [d] at d'
 injection d' with d1 _
 have:its=its' :=by simpa using congrArg Array.toList d1
 subst this
 exact r.inj r'
end
abbrev Cx.wish (X:Cx) (E:Value->Shared->Prop):Cx:= {X with xe:=E}
abbrev Cx.nox (X:Cx):Cx:=X.wish λ_ _=>False
theorem Cx.Ok.wish {X:Cx} (ok:X.Ok) (E:Value->Shared->Prop):(X.wish E).Ok:=
 ⟨ok.mod,ok.kind,ok.glob,ok.blt,ok.above,ok.inj,ok.has,ok.cab,ok.hd,ok.frames,ok.stk,ok.exf,ok.bs,ok.bsz,ok.noex,ok.exfs,ok.funs,ok.frf⟩
theorem Cx.Ok.unwish {X:Cx} {E:Value->Shared->Prop} (ok:(X.wish E).Ok):X.Ok:=
 ⟨ok.mod,ok.kind,ok.glob,ok.blt,ok.above,ok.inj,ok.has,ok.cab,ok.hd,ok.frames,ok.stk,ok.exf,ok.bs,ok.bsz,ok.noex,ok.exfs,ok.funs,ok.frf⟩
section
variable {X:Cx} {pins:List (Addr×Obj)} {σ:St} {H:Hp} {s:Shared} {E:Value->Shared->Prop}
theorem Inv.wish (I:Inv X pins σ H s) (E:Value->Shared->Prop):Inv (X.wish E) pins σ H s:=⟨I.ok.wish E,I.os,I.bare,I.base,I.loc,I.cell,I.free,I.freeC,I.pin,I.hok,I.len⟩
theorem Inv.unwish (I:Inv (X.wish E) pins σ H s):Inv X pins σ H s:=⟨I.ok.unwish,I.os,I.bare,I.base,I.loc,I.cell,I.free,I.freeC,I.pin,I.hok,I.len⟩
theorem SP.unwish {D:Ends} {f:Flow} {s' :Shared} (h:SP (X.wish E) pins D f s'):SP X pins D f s' :=by
 cases f with
 |next=>obtain⟨σ',H',I,q⟩:=h;exact⟨σ',H',I.unwish,q⟩
 |brk=>obtain⟨σ',H',I,q⟩:=h;exact⟨σ',H',I.unwish,q⟩
 |cont=>obtain⟨σ',H',I,q⟩:=h;exact⟨σ',H',I.unwish,q⟩
 |ret u=>obtain⟨v,σ',H',I,r,q⟩:=h;exact⟨v,σ',H',I.unwish,r,q⟩
theorem PSs.nox {st:List Stmt} {t:TS} (h:PSs X.nox st t):PSs X st t:=λpins s σ H D I hw=>
 G0S (h pins s σ H D (I.wish _) hw) (λ_ _ q=>q.unwish) λ_ _ z=>False.elim z
end
section
variable {X:Cx} {st:Stmt} {rest:List Stmt} {t u:TS} {e:Expr} {te:TE} {pos:Pos}
def jmx:TS:=λD σ H=>D.nx σ H
def jo0 (t u:TS):TS:=λD σ H=>t {D with nx:=u D} σ H
theorem pss_nil:PSs X [] jmx:=λ_ _ σ H _ I h=>G2B ⟨σ,H,I,h⟩
theorem jjt (h1:PS X st t) (h2:PSs X rest u):PSs X (st::rest) (jo0 t u):=by
 intro pins s σ H D I h
 refine wpAny_execs_cons (thn (h1 pins s σ H {D with nx:=u D} I h) λf s1 q=> ?_)
 cases f with
 |next=>
  obtain⟨σ',H',I',q⟩:=q
  exact h2 pins s1 σ' H' D I' q
 |ret v=>exact q
 |brk=>exact q
 |cont=>exact q
theorem jkX (h1:PS X st t):PSs X [st] t:=by
 intro pins s σ H D I h
 refine wpAny_execs_cons (thn (h1 pins s σ H D I h) λf s1 q=> ?_)
 cases f with
 |next=>exact G2B q
 |ret v=>exact q
 |brk=>exact q
 |cont=>exact q
theorem Inv.quiet {pins:List (Addr×Obj)} {σ:St} {H:Hp} {s:Shared} (I:Inv X pins σ H s):interactive X.env=false:=by simp [interactive,I.ok.kind]
def jmy (te:TE):TS:=λD σ H=>te σ H λ_ H1=>D.nx σ H1
theorem jkY (he:PE X e te) (hs:swapsWith e none pos.line X.env=pure false:=by rfl):PS X (.Expr e pos) (jmy te):=by
 intro pins s σ H D I h
 exact wpAny_Expr_any (thn (he pins s σ H _ I h) λv s1 ⟨x,H1,I1,r1,q1⟩=>⟨σ,H1,I1,q1⟩) I.quiet hs
def jo1 (te:TE):TS:=λD σ H=>te σ H D.rt
theorem jmz (he:PE X e te):PS X (.Return (some e) pos) (jo1 te):=by
 intro pins s σ H D I h
 exact wpAny_Return_some (thn (he pins s σ H _ I h) λv s1 ⟨x,H1,I1,r1,q1⟩=>⟨x,σ,H1,I1,r1,q1⟩)
def jo2 (c:TT) (t u:TS):TS:=λD σ H=>c σ H λb H1=>if b=true then t D σ H1 else u D σ H1
theorem joa {c:Expr} {a b:List Stmt} {tc:TT} (hc:PT X c tc) (ha:PSs X a t) (hb:PSs X b u):PS X (.If c a b pos) (jo2 tc t u):=by
 intro pins s σ H D I h
 refine wpAny_If (thn (hc pins s σ H _ I h) λd s1 ⟨H1,I1,q1⟩=> ?_)
 cases d with
 |true=>exact ha pins s1 σ H1 D I1 q1
 |false=>exact hb pins s1 σ H1 D I1 q1
end
abbrev TG:=V->St->Hp->(St->Hp->Prop)->Prop
abbrev TGs:=List V->St->Hp->(St->Hp->Prop)->Prop
def PG (X:Cx) (target:Expr) (t:TG):Prop:=
 ∀ (pins:List (Addr×Obj)) (s:Shared) (σ:St) (H:Hp) (v:V) (u:Value) (Q:St->Hp->Prop),Inv X pins σ H s->RelV v u->t v σ H Q->
  wpAny (model X.prog X.w) X.A (assign target X.env u) (λ_ s' => ∃σ' H',Inv X pins σ' H' s' /\Q σ' H') X.xe s
def PGs (X:Cx) (ts:List Expr) (t:TGs):Prop:=
 ∀ (pins:List (Addr×Obj)) (s:Shared) (σ:St) (H:Hp) (vs:List V) (us:List Value) (Q:St->Hp->Prop),Inv X pins σ H s->Vals vs us->t vs σ H Q->
  wpAny (model X.prog X.w) X.A (assignInOrder ((assignEach ts X.env).map (·.2)) us) (λ_ s' => ∃σ' H',Inv X pins σ' H' s' /\Q σ' H') X.xe s
abbrev job:=V->V->V->Hp->(Hp->Prop)->Prop
def jo3 (X:Cx) (t:job):Prop:=
 ∀ (pins:List (Addr×Obj)) (s:Shared) (σ:St) (H:Hp) (o i v:V) (ov iv u:Value) (Q:Hp->Prop),Inv X pins σ H s->RelV o ov->RelV i iv->RelV v u->t o i v H Q->
  wpAny (model X.prog X.w) X.A (setItem ov iv u) (λ_ s' => ∃H',Inv X pins σ H' s' /\Q H') X.xe s
section
variable {X:Cx} {pos:Pos}
def jcZ (i:Nat):TG:=λv σ H Q=>Q (σ.set i (some v)) H
theorem jb6 {i:Nat} {x:Str} (hN:X.N.Nodup) (hi:X.N[i]? =some x) (hx:Loc X.env.scope x) (hf:X.fn x=true\/X.env.scope.names.lookup x=some .local:=by first|exact .inl rfl|exact .inr rfl|assumption):PG X (.Name x pos) (jcZ i):=by
 intro pins s σ H v u Q I r h
 exact wpAny_assign_Name (jdq I hN hi hx r (λs' I' =>⟨_,H,I',h⟩) hf)
def jn1:TGs:=λvs σ H Q=>vs= []/\Q σ H
def jfB (t:TG) (u:TGs):TGs:=λvs σ H Q=> ∃v r,vs=v::r/\t v σ H λσ' H' =>u r σ' H' Q
theorem jgt:PGs X [] jn1:=by
 intro pins s σ H vs us Q I r h
 obtain⟨e,h⟩:=h
 subst e
 cases r
 exact assignInOrder_nil ⟨σ,H,I,h⟩
theorem jbR {e:Expr} {es:List Expr} {t:TG} {u:TGs} (h1:PG X e t) (h2:PGs X es u)
 (hs:(assignEach (e::es) X.env).map (·.2)=assign e X.env::(assignEach es X.env).map (·.2):=by rfl):PGs X (e::es) (jfB t u):=by
 intro pins s σ H vs us Q I r h
 obtain⟨v,vr,e1,h⟩:=h
 subst e1
 cases r with
 |cons r rr=>
  rw [hs]
  refine assignInOrder_cons (thn (h1 pins s σ H _ _ _ I r h) λ_ s1 ⟨σ1,H1,I1,q1⟩=> ?_)
  exact h2 pins s1 σ1 H1 _ _ Q I1 rr q1
def jn2 (K:PySem.W.Frag) (n:Nat) (t:TGs):TG:=λv σ H Q=> ∃a xs,v= .ref a/\SqT K H a xs/\xs.length=n/\t xs σ H Q
theorem jhY {es:List Expr} {k:Nat} {t:TGs} {n:Nat} (hc:X.calm=true) (h:PGs X es t)
 (hn:(assignEach es X.env).length=n:=by rfl) (hst:(assignEach es X.env).findIdx? (·.1)=none:=by rfl):PG X (.Tuple es k pos) (jn2 X.K n t):=by
 intro pins s σ H v u Q I r hw
 obtain⟨a,xs,e1,hq,hl,hw⟩:=hw
 subst e1
 cases r
 obtain⟨its,rv,ht,hz⟩:=I.tuple hq
 refine assign_Tuple_tuple (I.ok.hd hc) ht (by simp [hn,<-hl,rv.length]) hst λh' hx=> ?_
 have I1:Inv X pins σ H {s with heap:=h'}:=I.kept (t' :=s.toks) λb o e=>hx b o (G0G (G0k e)) e
 exact h pins _ σ H xs _ Q I1 (by simpa using rv) hw
def jpr (to ti:TE) (t:job):TG:=λv σ H Q=>to σ H λo H1=>ti σ H1 λi H2=>t o i v H2 λH3=>Q σ H3
theorem jmA {o i:Expr} {to ti:TE} {t:job} (ho:PE X o to) (hi:PE X i ti) (hs:jo3 X t)
 (ha: ∀v,assign (.Subscript o i pos) X.env v=(do
  let ov <-holding [v] (eval o X.env)
  let iv <-holding [v,ov] (eval i X.env)
  standAt pos
  holding [v,ov,iv] (setItem ov iv v)
  release [v,ov,iv] []):=by intro _;rfl):PG X (.Subscript o i pos) (jpr to ti t):=by
 intro pins s σ H v u Q I r h
 rw [ha]
 refine wpAny_bind (G02 (thn (ho pins s σ H _ I h) λov s1 ⟨x,H1,I1,r1,q1⟩=> ?_))
 refine wpAny_bind (G02 (thn (hi pins s1 σ H1 _ I1 q1) λiv s2 ⟨y,H2,I2,r2,q2⟩=> ?_))
 refine wpAny_bind (wpAny_standAt (wpAny_bind (G02 (thn (hs pins s2 σ H2 x y v ov iv u _ I2 r1 r2 r q2) λ_ s3 ⟨H3,I3,q3⟩=> ?_))))
 exact wpAny_release ⟨σ,H3,I3,q3⟩
def jn3 (te:TE) (g:TG):TS:=λD σ H=>te σ H λx H1=>g x σ H1 D.nx
theorem jmB {tg e:Expr} {te:TE} {g:TG} (he:PE X e te) (hg:PG X tg g) (hs:swapsWithSole [tg] e pos.line X.env=pure false:=by rfl) (hw:swappedStores [tg] e X.env=pure none:=by rfl)
 (h1:(assignEach [tg] X.env).map (·.2)= [assign tg X.env]:=by rfl):PS X (.Assign [tg] e pos) (jn3 te g):=by
 intro pins s σ H D I h
 refine wpAny_Assign_stores (thn (he pins s σ H _ I h) λv s1 ⟨x,H1,I1,r1,q1⟩=> ?_) hs hw
 rw [h1]
 exact thn (hg pins s1 σ H1 x v _ I1 r1 q1) λ_ s2 q=>q
theorem jmC {i:Nat} {x:Str} {e:Expr} {te:TE} {pos' :Pos} (hN:X.N.Nodup) (hi:X.N[i]? =some x) (hx:Loc X.env.scope x) (he:PE X e te) (hs:swapsWith e (some (.Name x pos')) pos.line X.env=pure false:=by rfl) (hf:X.fn x=true\/X.env.scope.names.lookup x=some .local:=by first|exact .inl rfl|exact .inr rfl|assumption):
 PS X (.Assign [.Name x pos'] e pos) (jn3 te (jcZ i)):=by
 intro pins s σ H D I h
 refine wpAny_Assign_Name (thn (he pins s σ H _ I h) λv s1 ⟨y,H1,I1,r1,q1⟩=> ?_) hs
 exact jdq I1 hN hi hx r1 (λs2 I2=>⟨_,H1,I2,q1⟩) hf
def jo4 (i j:Nat) (ta:TA):TS:=λD σ H=>ta σ H λvs H1=> ∃v w,vs= [v,w]/\D.nx ((σ.set i (some v)).set j (some w)) H1
theorem jmD {i j:Nat} {x y:Str} {a b:Expr} {ta:TA} {px py pt:Pos} {kt k2 pt2} (hc:X.calm=true) (hN:X.N.Nodup) (hi:X.N[i]? =some x) (hj:X.N[j]? =some y) (hij:i≠j)
 (hx:X.env.scope.names.lookup x=some .local) (hy:X.env.scope.names.lookup y=some .local) (ha:PA X [a,b] ta)
 (hw:swappedStores [.Tuple [.Name x px,.Name y py] kt pt] (.Tuple [a,b] k2 pt2) X.env=pure (some [x,y]))
 (hs:swapsWithSole [.Tuple [.Name x px,.Name y py] kt pt] (.Tuple [a,b] k2 pt2) pos.line X.env=pure false:=by rfl):
 PS X (.Assign [.Tuple [.Name x px,.Name y py] kt pt] (.Tuple [a,b] k2 pt2) pos) (jo4 i j ta):=by
 intro pins s σ H D I h
 rw [exec_Assign_arm]
 refine wpAny_bind (wpAny_standAt ?_)
 rw [hs]
 refine wpAny_bind (G0c ?_)
 rw [if_neg (by decide)]
 refine wpAny_bind (Tuple_ (thn (ha _ pins s σ H _ I h) λus s1 ⟨vs,H1,I1,r1,q1⟩=> ?_))
 obtain⟨v,w,e1,q1⟩:=q1
 subst e1
 obtain⟨u1,u2,rfl,rv,rw'⟩: ∃u1 u2,us= [u1,u2]/\RelV v u1/\RelV w u2:=by
  cases r1 with
  |cons p q=>
   cases q with
   |cons p' q' =>
    cases q'
    exact⟨_,_,rfl,p,p'⟩
 refine G1D ?_ (by show 2<=sizeLine;decide)
 have I2:Inv X pins σ H1 {s1 with heap:=s1.heap.push {cls:= .type "tuple",data:= .seq [u1,u2].toArray}}:=I1.kept (t' :=s1.toks) λb o e=>G0b _ e
 rw [hw]
 refine wpAny_bind (G0c ?_)
 show wpAny (model X.prog X.w) X.A (do rule "assign.swapped-stores";let items <-unpackItems (.ref s1.heap.objs.size) 2 none;assignInOrder [λv=>bindName X.env y v,λv=>bindName X.env x v] items.reverse;pure Flow.next) _ _ _
 refine wpAny_bind (G29 (wpAny_bind (unpackItems_tuple (items:= #[u1,u2]) (I.ok.hd hc) (IsTup.new s1.heap _) λh' hx' => ?_)))
 have I3:=I2.kept (h' :=h') (t' :=s1.toks) λb o e=>hx' b o (G0G (G0k e)) e
 show wpAny _ _ (assignInOrder [λv=>bindName X.env y v,λv=>bindName X.env x v] [u2,u1] >>= λ_=>pure Flow.next) _ _ _
 refine wpAny_bind (assignInOrder_cons (wpAny_bindName (jdq I3 hN hj (.inl hy) rw' (λs2 I4=> ?_) (.inr hy))))
 refine assignInOrder_cons (wpAny_bindName (jdq I4 hN hi (.inl hx) rv (λs3 I5=>assignInOrder_nil (G0c ?_)) (.inr hx)))
 rw [List.set_comm _ _ (Ne.symm hij)] at I5
 exact⟨_,H1,I5,q1⟩
def jks (c:TT) (tb:TS):TS:=λD σ H=> ∃W:Nat->St->Hp->Prop,(∃m,W m σ H)/\ ∀m σ H,W m σ H->
 c σ H λb H1=>if b=true then ∃N:St->Hp->Prop,(∀σ' H',N σ' H' -> ∃m',m' <m/\W m' σ' H')/\tb {D with nx:=N,ct:=N,bk:=D.nx} σ H1 else D.nx σ H1
theorem jju {c:Expr} {body:List Stmt} {tc:TT} {tb:TS} (hp:PassesOwn (model X.prog X.w) X.A X.env X.xe) (hc:PT X c tc) (hb:PSs X body tb):PS X (.While c body [] pos) (jks tc tb):=by
 intro pins s σ H D I h
 obtain⟨W,⟨m0,w0⟩,turn⟩:=h
 refine wpAny_While (codeAny_whileLoop (λn s' => ∃σ' H',Inv X pins σ' H' s' /\W n σ' H') ?_ m0 ⟨σ,H,I,w0⟩)
 rintro n s1 ⟨σ1,H1,I1,w1⟩
 refine G1E hp (thn (hc pins s1 σ1 H1 _ I1 (turn n σ1 H1 w1)) λb s2 ⟨H2,I2,q2⟩=> ?_)
 cases b with
 |true=>
  obtain⟨N,hN,q2⟩:=q2
  rw [if_pos rfl]
  refine G1E hp (thn (hb pins s2 σ1 H2 _ I2 q2) λf s3 q3=> ?_)
  cases f with
  |next=>
   obtain⟨σ3,H3,I3,n3⟩:=q3
   obtain⟨m',hm,w3⟩:=hN σ3 H3 n3
   exact⟨m',hm,σ3,H3,I3,w3⟩
  |cont=>
   obtain⟨σ3,H3,I3,n3⟩:=q3
   obtain⟨m',hm,w3⟩:=hN σ3 H3 n3
   exact⟨m',hm,σ3,H3,I3,w3⟩
  |brk=>exact q3
  |ret v=>exact q3
 |false=>
  rw [if_neg G0g]
  exact G2B ⟨σ1,H2,I2,q2⟩
end
structure It where
 go:Nat->Hp->Prop
 yld:Nat->Hp->V->Hp->Prop
 stop:Nat->Hp->Prop
def jhZ (X:Cx) (pins:List (Addr×Obj)) (H:Hp) (b:Addr):Prop:=
 H b=none/\b≠X.env.locals/\b ∉ X.fs/\(b∈X.ex\/X.s₀.heap.objs.size<=b)/\(∀x c,X.env.cells.lookup x=some c->c≠b)/\ ∀p∈X.pn++pins,p.1≠b
theorem Inv.fpOk {X:Cx} {pins:List (Addr×Obj)} {σ:St} {H H' :Hp} {s:Shared} {b:Addr} (I:Inv X pins σ H s) (hb:s.heap.objs.size<=b) (hn:H' b=none):jhZ X pins H' b:=by
 refine⟨hn,G2o (G0A I.lt hb),I.nofs hb,.inr (G0R I.sz hb),λx c e z=> ?_,λp hp z=> ?_⟩
 ·obtain⟨v,q⟩:=I.cell x c e
  exact absurd (G0A q.lt (by rw [z];exact hb)) (G0P _)
 ·exact absurd (G0A (G0k (I.pin p hp).1) (by rw [z];exact hb)) (G0P _)
structure Turn (P:Program) (w:World) (K:PySem.W.Frag) (tg:Expr) (J:It) (fp:List Addr) (it:Addr) (tn:Nat->Heap->Prop):Prop where
 mem:it∈fp
 obj: ∀i h,tn i h-> ∀b∈fp,∃o,h.get? b=some o/\ ∀v,o.data≠ .cell v
 keep: ∀i h h',tn i h->(∀b∈fp,∀o,h.get? b=some o->h'.get? b=some o)->tn i h'
 item: ∀ (X:Cx),X.prog=P->X.w=w->X.K=K->X.calm=true-> ∀ (i:Nat) (pins:List (Addr×Obj)) (s:Shared) (σ:St) (H:Hp) (E:Value->Shared->Prop),Inv X pins σ H s->(∀b∈fp,jhZ X pins H b)->tn i s.heap->J.go i H->
  wpAny (model P w) X.A (pyNext (.ref it)) (λr s1=> ∃u,r=some u/\
   wpAny (model P w) X.A (letOwnedTupleGo tg (.ref it) u) (λ_ s2=> ∃x H',Inv X pins σ H' s2/\RelV x u/\J.yld i H x H' /\tn (i+1) s2.heap/\ ∀b∈fp,H' b=none) E s1) E s
 done: ∀ (X:Cx),X.prog=P->X.w=w->X.K=K->X.calm=true-> ∀ (i:Nat) (pins:List (Addr×Obj)) (s:Shared) (σ:St) (H:Hp) (E:Value->Shared->Prop),Inv X pins σ H s->(∀b∈fp,jhZ X pins H b)->tn i s.heap->J.stop i H->
  wpAny (model P w) X.A (pyNext (.ref it)) (λr s1=>r=none/\Inv X pins σ H s1) E s
 self: ∀ (A:Around) (i:Nat) (s:Shared) (Q:Value->Shared->Prop) (E:Value->Shared->Prop),tn i s.heap->Q (.ref it) s->wpAny (model P w) A (pyIter (.ref it)) Q E s
abbrev TI:=St->Hp->(It->Hp->Prop)->Prop
def PIE (X:Cx) (pins:List (Addr×Obj)) (σ:St) (tg:Expr) (R:It->Hp->Prop) (itv:Value) (s2:Shared):Prop:=
 ∃ (it:Addr) (fp:List Addr) (tn:Nat->Heap->Prop) (J:It) (H' :Hp),itv= .ref it/\Inv X pins σ H' s2/\Turn X.prog X.w X.K tg J fp it tn/\tn 0 s2.heap/\(∀b∈fp,jhZ X pins H' b)/\R J H'
def PI (X:Cx) (tg iter:Expr) (wi:TI):Prop:=
 ∀ (pins:List (Addr×Obj)) (s:Shared) (σ:St) (H:Hp) (R:It->Hp->Prop),Inv X pins σ H s->wi σ H R->
  wpAny (model X.prog X.w) X.A (eval iter X.env) (λv s1=>wpAny (model X.prog X.w) X.A (pyIter v) (PIE X pins σ tg R) X.xe s1) X.xe s
theorem jkZ {M : Model} {A : Around} {E : Value → Shared → Prop} {s : Shared} {tg : Expr} {it : Addr} {u : Value} {o : Obj} {n : String} {vs : Array Value} {Q : Unit → Shared → Prop} (ho : s.heap.get? it = some o) (hc : o.cls = .type n) (hd : o.data = .fields vs)
    (hn : ["enumerate", "zip", "dict_itemiterator", "dict_reverseitemiterator", "odict_iterator", "itertools.zip_longest", "itertools.pairwise"].contains n = false) (hQ : Q () s) : wpAny M A (letOwnedTupleGo tg (.ref it) u) Q E s := by
  unfold letOwnedTupleGo
  cases tg <;> first
    | exact G0c hQ
    | (cases u <;> first
        | exact G0c hQ
        | (refine wpAny_bind (wpAny_load ho ?_)
           rw [hc, hd]
           show wpAny M A (if (["enumerate", "zip", "dict_itemiterator", "dict_reverseitemiterator", "odict_iterator", "itertools.zip_longest", "itertools.pairwise"].contains n && vs[0]? == some (rawInt _)) = true then _ else _) Q E s
           rw [if_neg (by intro h; rw [hn, G3e] at h; cases h)]
           exact G0c hQ))
def Itl (K:PySem.W.Frag) (a:Addr):It:=
 ⟨λi H=> ∃xs x,SqL K H a xs/\xs[i]? =some x,λi H x H' =>H' =H/\ ∀xs,SqL K H a xs->xs[i]? =some x,λi H=> ∃xs,SqL K H a xs/\xs.length<=i⟩
def Itt (K:PySem.W.Frag) (a:Addr):It:=
 ⟨λi H=> ∃xs x,SqT K H a xs/\xs[i]? =some x,λi H x H' =>H' =H/\ ∀xs,SqT K H a xs->xs[i]? =some x,λi H=> ∃xs,SqT K H a xs/\xs.length<=i⟩
def Itr (lo:Int) (n:Nat):It:=⟨λi _=>i<n,λi H x H' =>H' =H/\x= .int (lo+i),λi _=>n<=i⟩
theorem jfC {P:Program} {w:World} {K:PySem.W.Frag} {tg:Expr} (a it:Addr):Turn P w K tg (Itl K a) [it] it (λi h=>h.IsListIter it a i) where
 mem:=by simp
 obj:=λi h st b hb=>by
  have e:b=it:=by simpa using hb
  subst e
  obtain⟨o,e,c,d⟩:=st
  exact⟨o,e,λv z=>by rw [d] at z;cases z⟩
 keep:=λi h h' st k=>st.at λo e=>k it (by simp) o e
 item:=by
  intro X hP hw hK hc i pins s σ H E I hf st hg
  subst hP hw hK
  obtain⟨xs,x,hq,hx⟩:=hg
  obtain⟨its,rv,p,hz⟩:=I.list hq
  obtain⟨u,hu,ru⟩:=rv.get hx
  obtain⟨f0,f1,f2,f3,f4,f5⟩:=hf it (by simp)
  refine wpAny_pyNext_list_item st p.isList (x:=u) (by simpa using hu) λh' st' sb=> ?_
  have I1:Inv X pins σ H {s with heap:=h'}:=I.turned (t' :=s.toks) (λb o hb e=>(sb.2 b hb).trans e) f0 f1 f3 f4 f5
  obtain⟨o,e,c,d⟩:=id st'
  exact⟨u,rfl,jkZ (s:= {s with heap:=h'}) e c d (by decide) ⟨x,H,I1,ru,⟨rfl,λys hy=>by rw [I.list_inj hy hq];exact hx⟩,st',λb hb=>(hf b hb).1⟩⟩
 done:=by
  intro X hP hw hK hc i pins s σ H E I hf st hg
  subst hP hw hK
  obtain⟨xs,hq,hx⟩:=hg
  obtain⟨its,rv,p,hz⟩:=I.list hq
  obtain⟨f0,f1,f2,f3,f4,f5⟩:=hf it (by simp)
  have hl:=rv.length
  exact wpAny_pyNext_list_end (I.ok.hd hc) st p.isList (by simp;omega) λh' eb=>⟨rfl,I.turned (t' :=s.toks) (λb o hb e=>eb b o hb e) f0 f1 f3 f4 f5⟩
 self:=λ_ _ _ _ _ st h=>wpAny_pyIter_listiter st h
theorem jhs {P:Program} {w:World} {K:PySem.W.Frag} {tg:Expr} (a it:Addr):Turn P w K tg (Itt K a) [it] it (λi h=>h.IsTupleIter it a i) where
 mem:=by simp
 obj:=λi h st b hb=>by
  have e:b=it:=by simpa using hb
  subst e
  obtain⟨o,e,c,d⟩:=st
  exact⟨o,e,λv z=>by rw [d] at z;cases z⟩
 keep:=λi h h' st k=>st.at λo e=>k it (by simp) o e
 item:=by
  intro X hP hw hK hc i pins s σ H E I hf st hg
  subst hP hw hK
  obtain⟨xs,x,hq,hx⟩:=hg
  obtain⟨its,rv,p,hz⟩:=I.tuple hq
  obtain⟨u,hu,ru⟩:=rv.get hx
  obtain⟨f0,f1,f2,f3,f4,f5⟩:=hf it (by simp)
  refine wpAny_pyNext_tuple_item st (show s.heap.IsTuple a its.toArray from p) (x:=u) (by simpa using hu) λh' st' sb=> ?_
  have I1:Inv X pins σ H {s with heap:=h'}:=I.turned (t' :=s.toks) (λb o hb e=>(sb.2 b hb).trans e) f0 f1 f3 f4 f5
  obtain⟨o,e,c,d⟩:=id st'
  exact⟨u,rfl,jkZ (s:= {s with heap:=h'}) e c d (by decide) ⟨x,H,I1,ru,⟨rfl,λys hy=>by rw [I.tuple_inj hy hq];exact hx⟩,st',λb hb=>(hf b hb).1⟩⟩
 done:=by
  intro X hP hw hK hc i pins s σ H E I hf st hg
  subst hP hw hK
  obtain⟨xs,hq,hx⟩:=hg
  obtain⟨its,rv,p,hz⟩:=I.tuple hq
  obtain⟨f0,f1,f2,f3,f4,f5⟩:=hf it (by simp)
  have hl:=rv.length
  exact wpAny_pyNext_tuple_end (I.ok.hd hc) st (show s.heap.IsTuple a its.toArray from p) (by simp;omega) λh' eb=>⟨rfl,I.turned (t' :=s.toks) (λb o hb e=>eb b o hb e) f0 f1 f3 f4 f5⟩
 self:=λ_ _ _ _ _ st h=>wpAny_pyIter_tupleiter st h
theorem jht {P:Program} {w:World} {K:PySem.W.Frag} {tg:Expr} (it:Addr) (lo:Int) (n:Nat):Turn P w K tg (Itr lo n) [it] it (λi h=>IsRangeIter h it (lo+(i:Nat)*1) ((n:Int)-(i:Nat)) 1) where
 mem:=by simp
 obj:=λi h st b hb=>by
  have e:b=it:=by simpa using hb
  subst e
  exact⟨_,st,λv z=>by
   have z' :Data.fields _=Data.cell v:=z
   cases z'⟩
 keep:=λi h h' st k=>k it (by simp) _ st
 item:=by
  intro X hP hw hK hc i pins s σ H E I hf st hg
  subst hP hw hK
  obtain⟨f0,f1,f2,f3,f4,f5⟩:=hf it (by simp)
  have W:=Walks.range (prog:=X.prog) (w:=X.w) (I.ok.hd hc) it lo 1 n
  refine W.item i s _ _ hg st λv h' tk hv st' kk=> ?_
  obtain⟨t,rfl⟩:=hv
  have I1:Inv X pins σ H {s with heap:=h',toks:=tk}:=I.turned (λb o hb e=>kk b o (by simpa using hb) e) f0 f1 f3 f4 f5
  refine⟨_,rfl,jkZ (s:= {s with heap:=h',toks:=tk}) (n:= "range_iterator") st' rfl rfl (by decide) ⟨.int (lo+i),H,I1,⟨t,?_⟩,⟨rfl,rfl⟩,st',λb hb=>(hf b hb).1⟩⟩
  rw [Int.mul_one]
 done:=by
  intro X hP hw hK hc i pins s σ H E I hf st hg
  subst hP hw hK
  obtain⟨f0,f1,f2,f3,f4,f5⟩:=hf it (by simp)
  exact wpAny_pyNext_range_end (I.ok.hd hc) st (by have:n<=i:=hg;omega) λh' eb=>⟨rfl,I.turned (t' :=s.toks) (λb o hb e=>eb b o hb e) f0 f1 f3 f4 f5⟩
 self:=λ_ _ _ _ _ st h=>wpAny_pyIter_rangeiter st h
section
variable {X:Cx} {tg:Expr}
def jmE (K:PySem.W.Frag) (tl:TE):TI:=λσ H R=>tl σ H λx H1=> ∃a,x= .ref a/\(∃xs,SqL K H1 a xs)/\R (Itl K a) H1
theorem jk0 {l:Expr} {tl:TE} (hl:PE X l tl):PI X tg l (jmE X.K tl):=by
 intro pins s σ H R I h
 refine thn (hl pins s σ H _ I h) λv s1 ⟨x,H1,I1,r1,q1⟩=> ?_
 obtain⟨a,e,⟨xs,hq⟩,q⟩:=q1
 subst e
 cases r1
 obtain⟨its,rv,p,hz⟩:=I1.list hq
 refine G1U p.isList ?_
 refine⟨s1.heap.objs.size,[s1.heap.objs.size],_,_,H1,rfl,I1.kept (t' :=s1.toks) λb o e=>G0b _ e,jfC a _,⟨_,G0m _ rfl,rfl,rfl⟩,λb hb=> ?_,q⟩
 have e:b=s1.heap.objs.size:=by simpa using hb
 subst e
 exact I1.fpOk (G0d _) (I1.hok.fresh (G0d _))
theorem jjv {pins:List (Addr×Obj)} {σ:St} {H:Hp} {s:Shared} {R:It->Hp->Prop} {E:Value->Shared->Prop} {lo hi:Int} {t u v:Tok} {tk:Nat} (I:Inv X pins σ H s) (h1: -(2^62)<=lo) (h2:lo<2^62) (h3: -(2^62)<=hi) (h4:hi<2^62)
 (q:R (Itr lo (hi-lo).toNat) H):wpAny (model X.prog X.w) X.A (pyIter (.ref s.heap.objs.size)) (PIE X pins σ tg R) E {s with heap:=s.heap.push {cls:= .type "range",data:= .fields #[.int lo t,.int hi u,.int 1 v]},toks:=tk}:=by
 refine wpAny_pyIter_range (IsRange.new ..) (small_one h1 h2 h3 h4) ?_
 have I1:Inv X pins σ H {s with heap:=s.heap.push {cls:= .type "range",data:= .fields #[.int lo t,.int hi u,.int 1 v]},toks:=tk}:=I.kept λb o e=>G0b _ e
 refine⟨(s.heap.push {cls:= .type "range",data:= .fields #[.int lo t,.int hi u,.int 1 v]}).objs.size,[(s.heap.push {cls:= .type "range",data:= .fields #[.int lo t,.int hi u,.int 1 v]}).objs.size],_,_,H,rfl,
  I1.kept (t' :=tk) λb o e=>G0b _ e,jht _ lo (hi-lo).toNat,?_,λb hb=> ?_,q⟩
 ·have e1:lo+((0:Nat):Int)*1=lo:=by simp
  have e2:(((hi-lo).toNat:Nat):Int)-((0:Nat):Int)=Builtin.Range.rangeSize lo hi 1:=by rw [rangeSize_one];split<;>omega
  show IsRangeIter _ _ (lo+((0:Nat):Int)*1) ((((hi-lo).toNat:Nat):Int)-((0:Nat):Int)) 1
  rw [e1,e2]
  exact G0m _ rfl
 ·have e:b=(s.heap.push {cls:= .type "range",data:= .fields #[.int lo t,.int hi u,.int 1 v]}).objs.size:=by simpa using hb
  subst e
  exact I1.fpOk (G0d _) (I1.hok.fresh (G0d _))
def jmF (ta:TA):TI:=λσ H R=>ta σ H λvs H1=> ∃j:Int,vs= [.int j]/\ -(2^62)<=j/\j<2^62/\R (Itr 0 j.toNat) H1
theorem jh0 {a:Expr} {ta:TA} {p pos:Pos} (hg:Gl X "range") (hm:X.mg "range" =none) (ha:PA X [a] ta) (hs:starEach [a] X.env= [(false,eval a X.env)]:=by rfl):PI X tg (.Call (.Name "range" p) [a] [] pos) (jmF ta):=by
 intro pins s σ H R I h
 refine Call_ (jeq I hg hm boot_range (G1q (thn (ha pos pins s σ H _ I h) λus s1 ⟨vs,H1,I1,r1,q1⟩=> ?_) hs rfl))
 obtain⟨j,e,q1,q2,q⟩:=q1
 subst e
 cases r1 with
 |cons r rr=>
  cases rr
  obtain⟨t,rfl⟩:=r
  exact call_range_1 (jjv I1 (by omega) (by omega) q1 q2 (by simpa using q))
def jo5 (wi:TI) (g:TG) (tb:TS):TS:=λD σ H=>wi σ H λJ H1=> ∃W:Nat->Nat->St->Hp->Prop,(∃m,W 0 m σ H1)/\ ∀i m σ H,W i m σ H->
 (J.stop i H/\D.nx σ H)\/(J.go i H/\ ∃N:St->Hp->Prop,(∀σ' H',N σ' H' -> ∃m',m' <m/\W (i+1) m' σ' H')/\ ∀x H',J.yld i H x H' ->g x σ H' λσ2 H2=>tb {D with nx:=N,ct:=N,bk:=D.nx} σ2 H2)
def jdx (fp:List Addr) (h:Heap):List (Addr×Obj):=fp.filterMap λb=>(h.get? b).map λo=>(b,o)
theorem jcm {fp:List Addr} {h:Heap} {b:Addr} {o:Obj} (hb:b∈fp) (e:h.get? b=some o):(b,o)∈jdx fp h:=G1N.mpr ⟨b,hb,by rw [e];rfl⟩
theorem jfD {fp:List Addr} {h:Heap} {p:Addr×Obj} (hp:p∈jdx fp h):p.1∈fp/\h.get? p.1=some p.2:=by
 obtain⟨b,hb,e⟩:=G1N.mp hp
 cases q:h.get? b with
 |none=>rw [q] at e;cases e
 |some o=>
  rw [q] at e
  have e' :(b,o)=p:=G0T e
  subst e'
  exact⟨hb,q⟩
theorem Inv.pinned {pins:List (Addr×Obj)} {σ:St} {H:Hp} {s:Shared} {fp:List Addr} (I:Inv X pins σ H s) (hf: ∀b∈fp,jhZ X pins H b) (ho: ∀b∈fp,∃o,s.heap.get? b=some o/\ ∀v,o.data≠ .cell v):Inv X (pins++jdx fp s.heap) σ H s:=
 I.pins_of λp hp=>(G1a.mp hp).elim (λz=>I.pin p (G0t _ z)) λz=>by
  obtain⟨hb,e⟩:=jfD z
  obtain⟨f0,f1,f2,_⟩:=hf p.1 hb
  obtain⟨o,e',d⟩:=ho p.1 hb
  rw [e] at e';cases e'
  exact⟨e,f0,f1,f2,d⟩
theorem Inv.unpinned {pins pl:List (Addr×Obj)} {σ:St} {H:Hp} {s:Shared} (I:Inv X (pins++pl) σ H s):Inv X pins σ H s:=I.pins_of λp hp=>I.pin p (G0t _ (G1d _ hp))
theorem jmG {iter:Expr} {body:List Stmt} {wi:TI} {g:TG} {tb:TS} {pos:Pos} (hp:PassesOwn (model X.prog X.w) X.A X.env X.xe) (hc:X.calm=true) (hi:PI X tg iter wi) (hg:PG X tg g) (hb:PSs X body tb)
 (hs: ∀x,foldedSetIterable iter X.env x=pure x:=by intro _;rfl):PS X (.For tg iter body [] pos) (jo5 wi g tb):=by
 intro pins s σ H D I h
 refine wpAny_For (thn (hi pins s σ H _ I h) λv s1 h1=>thn h1 λitv s2 h2=> ?_) hs
 obtain⟨it,fp,tn,J,H2,e,I2,T,st2,f2,W,⟨m0,w0⟩,turn⟩:=h2
 subst e
 -- what stays true of the iterator's objects through the loop
 have stat: ∀ {H' :Hp},(∀b∈fp,H' b=none)-> ∀b∈fp,jhZ X pins H' b:=λhn b hb=>⟨hn b hb,(f2 b hb).2⟩
 refine codeAny_forLoop_any (λn s' => ∃i σ' H',Inv X pins σ' H' s' /\tn i s'.heap/\(∀b∈fp,H' b=none)/\W i n σ' H') ?_ m0 ⟨0,σ,H2,I2,st2,λb hb=>(f2 b hb).1,w0⟩
 rintro n s3 ⟨i,σ3,H3,I3,st3,fr3,w3⟩
 rcases turn i n σ3 H3 w3 with ⟨stop,qn⟩|⟨go,N,hN,step⟩
 ·refine G1E hp (thn (T.done X rfl rfl rfl hc i pins s3 σ3 H3 X.xe I3 (stat fr3) st3 stop) λr s4 ⟨hr,I4⟩=> ?_)
  subst hr
  exact G2B ⟨σ3,H3,I4,qn⟩
 ·refine G1E hp (thn (T.item X rfl rfl rfl hc i pins s3 σ3 H3 X.xe I3 (stat fr3) st3 go) λr s4 ⟨u,hr,h4⟩=> ?_)
  subst hr
  refine G1E hp (thn h4 λ_ s5 ⟨x,H5,I5,r5,y5,st5,fr5⟩=> ?_)
  have I5' :=I5.pinned (stat fr5) (T.obj _ _ st5)
  refine G1E hp (thn (hg _ s5 σ3 H5 x u _ I5' r5 (step x H5 y5)) λ_ s6 ⟨σ6,H6,I6,q6⟩=> ?_)
  refine G1E hp (thn (hb _ s6 σ6 H6 _ I6 q6) λf s7 q7=> ?_)
  have again: ∀ {σ7:St} {H7:Hp},Inv X (pins++jdx fp s5.heap) σ7 H7 s7->N σ7 H7-> ∃m,m<n/\ ∃i σ' H',Inv X pins σ' H' s7/\tn i s7.heap/\(∀b∈fp,H' b=none)/\W i m σ' H' :=λ{σ7 H7} I7 n7=>by
   obtain⟨m',hm,w7⟩:=hN σ7 H7 n7
   refine⟨m',hm,i+1,σ7,H7,I7.unpinned,T.keep _ _ _ st5 λb hb o e=>(I7.pin (b,o) (G0t _ (G0t _ (jcm hb e)))).1,λb hb=> ?_,w7⟩
   obtain⟨o,e,d⟩:=T.obj _ _ st5 b hb
   exact(I7.pin (b,o) (G0t _ (G0t _ (jcm hb e)))).2.1
  cases f with
  |next=>obtain⟨σ7,H7,I7,n7⟩:=q7;exact again I7 n7
  |cont=>obtain⟨σ7,H7,I7,n7⟩:=q7;exact again I7 n7
  |brk=>obtain⟨σ7,H7,I7,q7⟩:=q7;exact⟨σ7,H7,I7.unpinned,q7⟩
  |ret v=>obtain⟨x7,σ7,H7,I7,r7,q7⟩:=q7;exact⟨x7,σ7,H7,I7.unpinned,r7,q7⟩
end
abbrev R2:=V->V->Hp->VK->Prop
def OpR (X:Cx) (f:Value->Value->Sem Value) (r:R2):Prop:=
 ∀ (pins:List (Addr×Obj)) (s:Shared) (σ:St) (H:Hp) (x y:V) (v u:Value) (Q:VK),Inv X pins σ H s->RelV x v->RelV y u->r x y H Q->
  wpAny (model X.prog X.w) X.A (f v u) (EP X pins σ Q) X.xe s
def UnR (X:Cx) (f:Value->Sem Value) (r:V->Hp->VK->Prop):Prop:=
 ∀ (pins:List (Addr×Obj)) (s:Shared) (σ:St) (H:Hp) (x:V) (v:Value) (Q:VK),Inv X pins σ H s->RelV x v->r x H Q->
  wpAny (model X.prog X.w) X.A (f v) (EP X pins σ Q) X.xe s
def CallR (X:Cx) (f:Value) (r:List V->Hp->VK->Prop):Prop:=
 ∀ (pins:List (Addr×Obj)) (s:Shared) (σ:St) (H:Hp) (xs:List V) (us:List Value) (Q:VK),Inv X pins σ H s->Vals xs us->r xs H Q->
  wpAny (model X.prog X.w) X.A (call f us) (EP X pins σ Q) X.xe s
def tOp (r:R2) (ta tb:TE):TE:=λσ H Q=>ta σ H λx H1=>tb σ H1 λy H2=>r x y H2 Q
def tUn (r:V->Hp->VK->Prop) (ta:TE):TE:=λσ H Q=>ta σ H λx H1=>r x H1 Q
def rI (C:Int->Int->Prop) (g:Int->Int->V):R2:=λx y H Q=> ∃i j,x= .int i/\y= .int j/\C i j/\Q (g i j) H
def rI0 (g:Int->Int->V):R2:=λx y H Q=> ∃i j,x= .int i/\y= .int j/\Q (g i j) H
def rU (g:Int->V):V->Hp->VK->Prop:=λx H Q=> ∃i,x= .int i/\Q (g i) H
section
variable {X:Cx} {a b c:Expr} {ta tb tc:TE} {pos:Pos}
theorem joc (ha:PE X a ta) (hb:PE X b tb) {pins:List (Addr×Obj)} {s:Shared} {σ:St} {H:Hp} {R:V->V->Hp->Prop} (I:Inv X pins σ H s)
 (h:ta σ H λx H1=>tb σ H1 λy H2=>R x y H2) {Q:Value->Shared->Prop} {f:Value->Value->Sem Value}
 (hf: ∀v u s2 x y H2,Inv X pins σ H2 s2->RelV x v->RelV y u->R x y H2->wpAny (model X.prog X.w) X.A (f v u) Q X.xe s2):
 wpAny (model X.prog X.w) X.A (eval a X.env) (λv s₁=>wpAny (model X.prog X.w) X.A (eval b X.env) (λu s₂=>wpAny (model X.prog X.w) X.A (f v u) Q X.xe s₂) X.xe s₁) X.xe s:=by
 refine thn (ha pins s σ H _ I h) λv s1 ⟨x,H1,I1,r1,q1⟩=> ?_
 refine thn (hb pins s1 σ H1 _ I1 q1) λu s2 ⟨y,H2,I2,r2,q2⟩=> ?_
 exact hf v u s2 x y H2 I2 r1 r2 q2
theorem jod {op:Operator} {r:R2} (ho:OpR X (binaryOp op) r) (ha:PE X a ta) (hb:PE X b tb):PE X (.BinOp a op b pos) (tOp r ta tb):=by
 intro pins s σ H Q I h
 exact wpAny_BinOp (joc ha hb I h λv u s2 x y H2 I2 rx ry q=>ho pins s2 σ H2 x y v u Q I2 rx ry q)
theorem joe {op:UnaryOp} {r:V->Hp->VK->Prop} (ho:UnR X (unaryOp op) r) (ha:PE X a ta):PE X (.UnaryOp op a pos) (tUn r ta):=by
 intro pins s σ H Q I h
 exact UnaryOp_ (thn (ha pins s σ H _ I h) λv s1 ⟨x,H1,I1,r1,q1⟩=>ho pins s1 σ H1 x v Q I1 r1 q1)
theorem opI {f:Value->Value->Sem Value} {C:Int->Int->Prop} {g:Int->Int->Int}
 (rule: ∀ (i j:Int) (t u:Tok) (s:Shared) (Q:Value->Shared->Prop) (E:Value->Shared->Prop),C i j->Q (.int (g i j) s.toks) {s with toks:=s.toks+1}->wpAny (model X.prog X.w) X.A (f (.int i t) (.int j u)) Q E s):
 OpR X f (rI C λi j=> .int (g i j)):=by
 intro pins s σ H x y v u Q I rx ry h
 obtain⟨i,j,rfl,rfl,hc,q⟩:=h
 obtain⟨t,rfl⟩:=rx
 obtain⟨t',rfl⟩:=ry
 exact rule i j t t' s _ _ hc ⟨.int (g i j),H,I.tok _,⟨_,rfl⟩,q⟩
theorem jo6 {f:Value->Value->Sem Value} {g:Int->Int->Int}
 (rule: ∀ (i j:Int) (t u:Tok) (s:Shared) (Q:Value->Shared->Prop) (E:Value->Shared->Prop),Q (.int (g i j) s.toks) {s with toks:=s.toks+1}->wpAny (model X.prog X.w) X.A (f (.int i t) (.int j u)) Q E s):
 OpR X f (rI0 λi j=> .int (g i j)):=by
 intro pins s σ H x y v u Q I rx ry h
 obtain⟨i,j,rfl,rfl,q⟩:=h
 obtain⟨t,rfl⟩:=rx
 obtain⟨t',rfl⟩:=ry
 exact rule i j t t' s _ _ ⟨.int (g i j),H,I.tok _,⟨_,rfl⟩,q⟩
theorem jof {f:Value->Value->Sem Value} {g:Int->Int->Bool}
 (rule: ∀ (i j:Int) (t u:Tok) (s:Shared) (Q:Value->Shared->Prop) (E:Value->Shared->Prop),Q (.bool (g i j)) s->wpAny (model X.prog X.w) X.A (f (.int i t) (.int j u)) Q E s):
 OpR X f (rI0 λi j=> .bl (g i j)):=by
 intro pins s σ H x y v u Q I rx ry h
 obtain⟨i,j,rfl,rfl,q⟩:=h
 obtain⟨t,rfl⟩:=rx
 obtain⟨t',rfl⟩:=ry
 exact rule i j t t' s _ _ ⟨.bl (g i j),H,I,rfl,q⟩
def jog (i j:Int):Prop:=0<j/\j<1073741824
def jo7 (i j:Int):Prop:=0<=j/\j<=1000000/\i.natAbs<2^64
def CMul (i j:Int):Prop:=(-(2^64)<i/\i<2^64)\/(-(2^64)<j/\j<2^64)
theorem CMul.ok {i j:Int} (h:CMul i j):IntMulOk i j:=by
 rcases h with ⟨h1,h2⟩|⟨h1,h2⟩
 ·exact .of_left (intBits_le_64 h1 h2)
 ·exact .of_right (intBits_le_64 h1 h2)
theorem op_add:OpR X (binaryOp .Add) (rI0 λi j=> .int (i+j)):=jo6 λ_ _ _ _ _ _ _ q=>add_int q
theorem jmH:OpR X (binaryOp .Sub) (rI0 λi j=> .int (i-j)):=jo6 λ_ _ _ _ _ _ _ q=>sub_int q
theorem op_mul:OpR X (binaryOp .Mult) (rI CMul λi j=> .int (i*j)):=opI λ_ _ _ _ _ _ _ hc q=>mul_int q hc.ok
theorem jk1:OpR X (binaryOp .FloorDiv) (rI jog λi j=> .int (i / j)):=opI λi j _ _ _ _ _ hc q=>by
 have h1:(0:Int)<j:=hc.1
 have h2:j<1073741824:=hc.2
 exact floordiv_int (by omega) (by rw [G2E i (by omega)];exact q) (.inl (PyProof.noPylong_small (by omega)))
theorem jmI:OpR X (binaryOp .Mod) (rI (λ_ j=>0<j) λi j=> .int (i%j)):=opI λi j _ _ _ _ _ hc q=>by
 have h1:(0:Int)<j:=hc
 exact mod_int' (by omega) (by rw [G2F i (by omega)];exact q)
theorem jmJ:OpR X (binaryOp .Pow) (rI jo7 λi j=> .int (i^j.toNat)):=opI λ_ _ _ _ _ _ _ hc q=>pow_int_small hc.1 hc.2.1 hc.2.2 q
theorem unI {f:Value->Sem Value} {g:Int->Int}
 (rule: ∀ (i:Int) (t:Tok) (s:Shared) (Q:Value->Shared->Prop) (E:Value->Shared->Prop),Q (.int (g i) s.toks) {s with toks:=s.toks+1}->wpAny (model X.prog X.w) X.A (f (.int i t)) Q E s):
 UnR X f (rU λi=> .int (g i)):=by
 intro pins s σ H x v Q I rx h
 obtain⟨i,rfl,q⟩:=h
 obtain⟨t,rfl⟩:=rx
 exact rule i t s _ _ ⟨.int (g i),H,I.tok _,⟨_,rfl⟩,q⟩
theorem jmK:UnR X (unaryOp .USub) (rU λi=> .int (-i)):=unI λ_ _ _ _ _ q=>neg_int q
end
def jo8:V->V->Bool
 | .non,.non=>true| .non,.int _=>true| .int _,.non=>true| .non,.bl _=>true| .bl _,.non=>true| .non,.str _=>true| .str _,.non=>true
 | .int _,.int _=>true| .bl _,.bl _=>true| .str _,.str _=>true| .byt _,.byt _=>true
 | .int _,.str _=>true| .str _,.int _=>true| .bl _,.str _=>true| .str _,.bl _=>true
 |_,_=>false
def rEq:R2:=λx y H Q=>jo8 x y=true/\Q (.bl (decide (x=y))) H
def rNe:R2:=λx y H Q=>jo8 x y=true/\Q (.bl (!decide (x=y))) H
theorem jh1 {i j:Int}:decide (V.int i=V.int j)=(i==j):=by
 rw [G1Q]
 simp
theorem jkt {i j:Bool}:decide (V.bl i=V.bl j)=(i==j):=by
 rw [G1Q]
 simp
theorem jh2 {i j:Str}:decide (V.str i=V.str j)=(i==j):=by
 rw [G1Q]
 simp
theorem jh3 {i j:Array UInt8}:decide (V.byt i=V.byt j)=(i.toList==j.toList):=by
 rw [G1Q]
 cases i
 cases j
 simp
section
variable {X:Cx} {a b c:Expr} {ta tb tc:TE} {pos:Pos}
theorem jav {pins:List (Addr×Obj)} {σ:St} {H:Hp} {s:Shared} {Q:VK} {k k' :Bool} (I:Inv X pins σ H s) (q:Q (.bl k) H) (e:k=k'):EP X pins σ Q (.bool k') s:=by
 subst e
 exact⟨.bl k,H,I,rfl,q⟩
theorem op_eq:OpR X (compareOp .Eq) rEq:=by
 intro pins s σ H x y v u Q I rx ry h
 obtain⟨hs,q⟩:=h
 cases x with
 |non=>
  cases rx
  cases y with
  |non=>cases ry;exact PySem.EqNone.eq_none_none (jav I q (by simp))
  |bl j=>cases ry;exact PySem.EqNone.eq_none_bool (jav I q (by simp))
  |int j=>obtain⟨t',rfl⟩:=ry;exact PySem.EqNone.eq_none_int (jav I q (by simp))
  |str j=>obtain⟨t',rfl⟩:=ry;exact PySem.EqNone.eq_none_str (jav I q (by simp))
  |_=>exact absurd (show false=true from hs) G0g
 |bl i=>
  cases rx
  cases y with
  |non=>cases ry;exact PySem.EqNone.eq_bool_none (jav I q (by simp))
  |bl j=>cases ry;exact eq_bool (jav I q jkt)
  |str j=>obtain⟨t',rfl⟩:=ry;exact PySem.EqMixed.eq_bool_str (jav I q (by simp))
  |_=>exact absurd (show false=true from hs) G0g
 |int i=>
  obtain⟨t,rfl⟩:=rx
  cases y with
  |non=>cases ry;exact PySem.EqNone.eq_int_none (jav I q (by simp))
  |int j=>obtain⟨t',rfl⟩:=ry;exact eq_int (jav I q jh1)
  |str j=>obtain⟨t',rfl⟩:=ry;exact PySem.EqMixed.eq_int_str (jav I q (by simp))
  |_=>exact absurd (show false=true from hs) G0g
 |str i=>
  obtain⟨t,rfl⟩:=rx
  cases y with
  |non=>cases ry;exact PySem.EqNone.eq_str_none (jav I q (by simp))
  |bl j=>cases ry;exact PySem.EqMixed.eq_str_bool (jav I q (by simp))
  |int j=>obtain⟨t',rfl⟩:=ry;exact PySem.EqMixed.eq_str_int (jav I q (by simp))
  |str j=>obtain⟨t',rfl⟩:=ry;exact eq_str (jav I q jh2)
  |_=>exact absurd (show false=true from hs) G0g
 |byt i=>
  obtain⟨t,rfl⟩:=rx
  cases y with
  |byt j=>obtain⟨t',rfl⟩:=ry;exact PySem.W.eq_bytes (jav I q jh3)
  |_=>exact absurd (show false=true from hs) G0g
 |_=>cases y<;>exact absurd (show false=true from hs) G0g
theorem op_ne:OpR X (compareOp .NotEq) rNe:=by
 intro pins s σ H x y v u Q I rx ry h
 obtain⟨hs,q⟩:=h
 cases x with
 |non=>
  cases rx
  cases y with
  |non=>cases ry;exact PySem.EqNone.ne_none_none (jav I q (by simp))
  |bl j=>cases ry;exact PySem.EqNone.ne_none_bool (jav I q (by simp))
  |int j=>obtain⟨t',rfl⟩:=ry;exact PySem.EqNone.ne_none_int (jav I q (by simp))
  |str j=>obtain⟨t',rfl⟩:=ry;exact PySem.EqNone.ne_none_str (jav I q (by simp))
  |_=>exact absurd (show false=true from hs) G0g
 |bl i=>
  cases rx
  cases y with
  |non=>cases ry;exact PySem.EqNone.ne_bool_none (jav I q (by simp))
  |bl j=>cases ry;exact ne_bool (jav I q (congrArg not jkt))
  |str j=>obtain⟨t',rfl⟩:=ry;exact PySem.EqMixed.ne_bool_str (jav I q (by simp))
  |_=>exact absurd (show false=true from hs) G0g
 |int i=>
  obtain⟨t,rfl⟩:=rx
  cases y with
  |non=>cases ry;exact PySem.EqNone.ne_int_none (jav I q (by simp))
  |int j=>obtain⟨t',rfl⟩:=ry;exact ne_int (jav I q (congrArg not jh1))
  |str j=>obtain⟨t',rfl⟩:=ry;exact PySem.EqMixed.ne_int_str (jav I q (by simp))
  |_=>exact absurd (show false=true from hs) G0g
 |str i=>
  obtain⟨t,rfl⟩:=rx
  cases y with
  |non=>cases ry;exact PySem.EqNone.ne_str_none (jav I q (by simp))
  |bl j=>cases ry;exact PySem.EqMixed.ne_str_bool (jav I q (by simp))
  |int j=>obtain⟨t',rfl⟩:=ry;exact PySem.EqMixed.ne_str_int (jav I q (by simp))
  |str j=>obtain⟨t',rfl⟩:=ry;exact ne_str (jav I q (congrArg not jh2))
  |_=>exact absurd (show false=true from hs) G0g
 |byt i=>
  obtain⟨t,rfl⟩:=rx
  cases y with
  |byt j=>obtain⟨t',rfl⟩:=ry;exact PySem.W.ne_bytes (jav I q (congrArg not jh3))
  |_=>exact absurd (show false=true from hs) G0g
 |_=>cases y<;>exact absurd (show false=true from hs) G0g
theorem joh:OpR X (compareOp .Lt) (rI0 λi j=> .bl (decide (i<j))):=jof λ_ _ _ _ _ _ _ q=>lt_int q
theorem joi:OpR X (compareOp .LtE) (rI0 λi j=> .bl (decide (i<=j))):=jof λ_ _ _ _ _ _ _ q=>le_int q
theorem joj:OpR X (compareOp .GtE) (rI0 λi j=> .bl (decide (j<=i))):=jof λ_ _ _ _ _ _ _ q=>ge_int q
theorem OpR.or {f:Value->Value->Sem Value} {r r' :R2} (h:OpR X f r) (h' :OpR X f r'):OpR X f (λx y H Q=>r x y H Q\/r' x y H Q):=by
 intro pins s σ H x y v u Q I rx ry q
 rcases q with q|q
 ·exact h pins s σ H x y v u Q I rx ry q
 ·exact h' pins s σ H x y v u Q I rx ry q
theorem jaw (b:Expr) {op:CmpOp} (h:op≠ .In:=by decide) (h2:op≠ .NotIn:=by decide):behindInMarks op b=false:=by
 have e1:(op==CmpOp.In)=false:=by cases op<;>first|rfl|exact absurd rfl h
 have e2:(op==CmpOp.NotIn)=false:=by cases op<;>first|rfl|exact absurd rfl h2
 cases b<;>simp [behindInMarks,e1,e2]
theorem jk2 {op:CmpOp} {r:R2} (ho:OpR X (compareOp op) r) (ha:PE X a ta) (hb:PE X b tb) (hm:behindInMarks op b=false):PE X (.Compare a [op] [b] pos) (tOp r ta tb):=by
 intro pins s σ H Q I h
 exact wpAny_Compare1 (joc ha hb I h λv u s2 x y H2 I2 rx ry q=>ho pins s2 σ H2 x y v u Q I2 rx ry q) hm
def jk3 (t:TE):TT:=λσ H Q=>t σ H λx H' => ∃k,x= .bl k/\Q k H'
theorem jk4 {op:CmpOp} {r:R2} (ho:OpR X (compareOp op) r) (ha:PE X a ta) (hb:PE X b tb) (hm:behindInMarks op b=false):PT X (.Compare a [op] [b] pos) (jk3 (tOp r ta tb)):=by
 intro pins s σ H Q I h
 refine wpAny_isTrue_Compare1 (thn (ha pins s σ H _ I h) λv s1 ⟨x,H1,I1,r1,q1⟩=>thn (hb pins s1 σ H1 _ I1 q1) λu s2 ⟨y,H2,I2,r2,q2⟩=>
  thn (ho pins s2 σ H2 x y v u _ I2 r1 r2 q2) λc s3 ⟨z,H3,I3,r3,k,e,q3⟩=> ?_) hm
 subst e
 cases r3
 exact G06 ⟨H3,I3,q3⟩
def jh4 (r r' :R2) (ta tb tc:TE):TE:=λσ H Q=>ta σ H λx H1=>tb σ H1 λy H2=>r x y H2 λz H3=> ∃k,z= .bl k/\
 (if k=true then tc σ H3 λw' H4=>r' y w' H4 Q else Q (.bl false) H3)
theorem jjw {op op' :CmpOp} {r r' :R2} (ho:OpR X (compareOp op) r) (ho' :OpR X (compareOp op') r') (ha:PE X a ta) (hb:PE X b tb) (hc:PE X c tc)
 (hm:lastMarks [op,op'] [b,c]=false:=by with_unfolding_all rfl):PE X (.Compare a [op,op'] [b,c] pos) (jh4 r r' ta tb tc):=by
 intro pins s σ H Q I h
 refine Compare_chain (thn (ha pins s σ H _ I h) λv s1 ⟨x,H1,I1,r1,q1⟩=>chain_link (thn (hb pins s1 σ H1 _ I1 q1) λu s2 ⟨y,H2,I2,r2,q2⟩=>
  thn (ho pins s2 σ H2 x y v u _ I2 r1 r2 q2) λd s3 ⟨z,H3,I3,r3,k,e,q3⟩=> ?_)) hm
 subst e
 cases r3
 refine G06 ?_
 cases k with
 |false=>exact ite_ff ⟨.bl false,H3,I3,rfl,q3⟩
 |true=>exact ite_tt (chain_last (thn (hc pins s3 σ H3 _ I3 q3) λw' s4 ⟨z',H4,I4,r4,q4⟩=>ho' pins s4 σ H4 y z' u w' Q I4 r2 r4 q4))
theorem jjx {op op' :CmpOp} {r r' :R2} (ho:OpR X (compareOp op) r) (ho' :OpR X (compareOp op') r') (ha:PE X a ta) (hb:PE X b tb) (hc:PE X c tc)
 (hm:lastMarks [op,op'] [b,c]=false:=by with_unfolding_all rfl):PT X (.Compare a [op,op'] [b,c] pos) (jk3 (jh4 r r' ta tb tc)):=by
 intro pins s σ H Q I h
 refine isTrue_chain (thn (ha pins s σ H _ I h) λv s1 ⟨x,H1,I1,r1,q1⟩=>test_link (thn (hb pins s1 σ H1 _ I1 q1) λu s2 ⟨y,H2,I2,r2,q2⟩=>
  thn (ho pins s2 σ H2 x y v u _ I2 r1 r2 q2) λd s3 ⟨z,H3,I3,r3,k,e,q3⟩=> ?_)) hm
 subst e
 cases r3
 refine G06 ?_
 cases k with
 |false=>
  obtain⟨k',e',q'⟩:=q3
  cases e'
  exact ite_ff ⟨H3,I3,q'⟩
 |true=>
  refine ite_tt (test_last (thn (hc pins s3 σ H3 _ I3 q3) λw' s4 ⟨z',H4,I4,r4,q4⟩=>thn (ho' pins s4 σ H4 y z' u w' _ I4 r2 r4 q4) λd' s5 ⟨z2,H5,I5,r5,k2,e2,q5⟩=> ?_))
  subst e2
  cases r5
  exact G06 ⟨H5,I5,q5⟩
theorem jfE:(sizeLine:Nat)<2^63:=by rw [sizeLine_eq];decide
theorem jcN {x:V} {us:List Value} (r:Vals [x] us): ∃u,us= [u]/\RelV x u:=by
 cases r with
 |cons r1 r2=>cases r2;exact⟨_,rfl,r1⟩
theorem jjy {x y:V} {us:List Value} (r:Vals [x,y] us): ∃u w',us= [u,w']/\RelV x u/\RelV y w' :=by
 cases r with
 |cons r1 r2=>
  cases r2 with
  |cons r3 r4=>cases r4;exact⟨_,_,rfl,r1,r3⟩
theorem jh5 (hc:X.calm=true):CallR X (.builtin "max") (λxs H Q=> ∃i j,xs= [.int i,.int j]/\Q (.int (if j>i then j else i)) H):=by
 intro pins s σ H xs us Q I r h
 obtain⟨i,j,rfl,q⟩:=h
 obtain⟨u,w',rfl,⟨t,rfl⟩,⟨t',rfl⟩⟩:=jjy r
 refine max_two_ints (I.ok.hd hc) λh' tk k=>⟨_,H,I.kept k,?_,q⟩
 by_cases hj:j>i
 ·rw [if_pos hj,if_pos hj];exact⟨_,rfl⟩
 ·rw [if_neg hj,if_neg hj];exact⟨_,rfl⟩
theorem call_int1:CallR X (.type "int") (λxs H Q=>(∃i,xs= [.int i]/\Q (.int i) H)\/ ∃k,xs= [.bl k]/\Q (.int (if k then 1 else 0)) H):=by
 intro pins s σ H xs us Q I r h
 rcases h with ⟨i,rfl,q⟩|⟨k,rfl,q⟩
 ·obtain⟨u,rfl,t,rfl⟩:=jcN r
  exact call_int_int ⟨.int i,H,I,⟨_,rfl⟩,q⟩
 ·obtain⟨u,rfl,r1⟩:=jcN r
  cases r1
  exact call_int_bool ⟨.int (if k then 1 else 0),H,I.tok _,⟨_,rfl⟩,q⟩
end
structure ObjM (h:Heap) (x dx C:Addr) (mA:Str->Option Value):Prop where
 obj:h.get? x=some (PySem.W.instObj C dx)
 ns:h.Ns1 dx mA
 ne:dx≠x
theorem jh6 {h:Heap} {dx:Addr} {mA:Str->Option Value} (n:h.Ns1 dx mA): ∃od,h.get? dx=some od/\ ∀name,PySem.W.lookIn name od=some (mA name):=by
 obtain⟨o,es,ep,ho,hd,hk,_,hm⟩:=n
 refine⟨o,ho,λname=> ?_⟩
 have e:=hm name
 unfold nsFind findBy at e
 rw [<-Array.find?_toList] at e
 unfold PySem.W.lookIn
 rw [hd]
 dsimp only
 split
 ·rename_i y q
  rw [q] at e
  exact congrArg some e
 ·rename_i q
  rw [q] at e
  have a:es.toList.any (·.refKey)=false:=by
   rw [List.any_eq_false]
   intro y hy
   obtain⟨z,t,hkey⟩:=hk y (Array.mem_toList_iff.mp hy)
   simp [DictEntry.refKey,hkey]
  have a' : ¬es.toList.any (·.refKey)=true:=by rw [a];exact G0g
  rw [if_neg a']
  exact congrArg some e
theorem ObjM.look {h:Heap} {x dx C:Addr} {mA:Str->Option Value} (I:ObjM h x dx C mA): ∃od,PySem.W.InstAt h x (PySem.W.instObj C dx) C (some od)/\ ∀name,PySem.W.lookIn name od=some (mA name):=
 let ⟨od,ho,hl⟩:=jh6 I.ns
 ⟨od,⟨I.obj,rfl,rfl,ho⟩,hl⟩
section
variable {P:Program} {w:World} {H H' :Hp} {h h' :Heap} {a C dx:Addr} {fs fs' :List (Str×V)}
theorem jk5 (hok:HOk P w H h) (e:H a=some (.ins C dx fs)): ∃mA,ObjM h a dx C mA/\(∀f,jn6 (fs.lookup f) (mA f))/\PySem.Within mA (fs.map (·.1))/\fs.length<=1000/\H dx=some (.own a):=by
 obtain⟨d,z,ne,ob,mA,n,r,q⟩:=(show ObjOk P w H h a (.ins C dx fs) from hok a _ e)
 exact⟨mA,⟨ob,n,ne⟩,r,q,z,d⟩
end
structure Cls (K:PySem.W.Frag) (C:Addr):Prop where
 pg:PySem.W.plainGet K C Str.empty=true
 hd:PySem.W.hasDictIn K C=true
 po:PySem.W.plainOver K C=true
 sa:PySem.W.findIn K (.ref C) "__setattr__" =some (some (.builtin "object.__setattr__"))
theorem Cls.get {K:PySem.W.Frag} {C:Addr} (c:Cls K C) (f:Str):PySem.W.plainGet K C f=true:=c.pg
structure Con (K:PySem.W.Frag) (C:Addr) (f:Str) (v:V) (u:Value):Prop where
 at_:PySem.W.findIn K (.ref C) f=some (some u)
 rel:RelV v u
 get:PySem.W.specialIn K u "__get__" =some none
 cp:PySem.W.copiedNames.contains f=false
structure Meth (K:PySem.W.Frag) (C:Addr) (m:Str) (f:Addr):Prop where
 at_:PySem.W.findIn K (.ref C) m=some (some (.ref f))
 fn:PySem.W.isFn K (.ref f)=true
 kp:PySem.W.keepIn K (.ref f)=true
section
variable {X:Cx} {pins:List (Addr×Obj)} {σ:St} {H:Hp} {s:Shared} {A:Around} {E:Value->Shared->Prop} {Q:Value->Shared->Prop} {c:Value} {b:Bool}
inductive TyOf (K:PySem.W.Frag) (H:Hp):V->Value->Prop where
 |non:TyOf K H .non (.type "NoneType")
 |bl (x:Bool):TyOf K H (.bl x) (.type "bool")
 |int (i:Int):TyOf K H (.int i) (.type "int")
 |str (x:Str):TyOf K H (.str x) (.type "str")
 |flt (x:UInt64):TyOf K H (.flt x) (.type "float")
 |lst {a:Addr} {xs:List V} (e:H a=some (.lst xs)):TyOf K H (.ref a) (.type "list")
 |frz {a:Addr} {o:Obj} {xs:List V} (e:H a=some (.frz o (.lst xs))):TyOf K H (.ref a) (.type "list")
 |tup {a:Addr} {xs:List V} (e:H a=some (.tup xs)):TyOf K H (.ref a) (.type "tuple")
 |dK {a:Addr} {kvs:List (Key×V)} (e:H a=some (.dK kvs)):TyOf K H (.ref a) (.type "dict")
 |dT {a:Addr} {kvs:List (List Key×V)} (e:H a=some (.dT kvs)):TyOf K H (.ref a) (.type "dict")
 |ins {a C dx:Addr} {fs:List (Str×V)} (e:H a=some (.ins C dx fs)) (cl:Cls K C) (ha:PySem.W.findIn K (.ref C) "__class__" =some (some (.builtin "object.__class__")))
  (hn:PySem.W.specialIn K (.builtin "object.__class__") "__get__" =some (some (.builtin "getset_descriptor.__get__"))) (htk:PySem.W.takesIn K (.builtin "object.__class__")=some true)
  (hm:PySem.W.mroIn K C (.type "object")=some true):TyOf K H (.ref a) (.ref C)
theorem jh7 {x:V} {u t:Value} (I:Inv X pins σ H s) (rx:RelV x u) (ty:TyOf X.K H x t) (e:PySem.W.kitOne X.K t c=some b) (h: ∀tk,Q (.bool b) {s with toks:=tk}):
 wpAny (model X.prog X.w) A (call (.builtin "isinstance") [u,c]) Q E s:=by
 cases ty with
 |non=>cases (show u=Value.none from rx);exact G00 PySem.W.kitx_none I.kIn True.intro e (λz=>nomatch z) h
 |bl y=>cases (show u=Value.bool y from rx);exact G00 PySem.W.kitx_bool I.kIn True.intro e (λz=>nomatch z) h
 |int i=>obtain⟨t,q⟩:=(show ∃t,u=Value.int i t from rx);cases q;exact G00 PySem.W.kitx_int I.kIn True.intro e (λz=>nomatch z) h
 |str y=>obtain⟨t,q⟩:=(show ∃t,u=Value.str y t from rx);cases q;exact G00 PySem.W.kitx_str I.kIn True.intro e (λz=>nomatch z) h
 |flt y=>obtain⟨t,q⟩:=(show ∃t,u=Value.float y t from rx);cases q;exact G00 PySem.W.kitx_float I.kIn True.intro e (λz=>nomatch z) h
 | @lst a xs ea=>
  cases (show u=Value.ref a from rx)
  obtain⟨_,_,n,_,h1⟩:=(show ObjOk X.prog X.w H s.heap a (.lst xs) from I.hok a _ ea)
  exact G00 PySem.W.kitx_list I.kIn ⟨_,h1,rfl⟩ e (λz=>nomatch z) h
 | @frz a ob xs ea=>
  cases (show u=Value.ref a from rx)
  obtain⟨_,_,_,n,_,h1⟩:=(show ObjOk X.prog X.w H s.heap a (.frz ob (.lst xs)) from I.hok a _ ea)
  exact G00 PySem.W.kitx_list I.kIn ⟨_,h1,rfl⟩ e (λz=>nomatch z) h
 | @tup a xs ea=>
  cases (show u=Value.ref a from rx)
  obtain⟨_,_,_,p⟩:=(show ObjOk X.prog X.w H s.heap a (.tup xs) from I.hok a _ ea)
  obtain⟨o,h1,h2,_⟩:=p
  exact G00 PySem.W.kitx_tuple I.kIn ⟨o,h1,h2⟩ e (λz=>nomatch z) h
 | @dK a kvs ea=>
  cases (show u=Value.ref a from rx)
  obtain⟨_,_,vs,_,p⟩:=(show ObjOk X.prog X.w H s.heap a (.dK kvs) from I.hok a _ ea)
  obtain⟨o,es,ep,h1,h2,_⟩:=p
  exact G00 PySem.W.kitx_dict I.kIn ⟨o,h1,h2.1⟩ e (λz=>nomatch z) h
 | @dT a kvs ea=>
  cases (show u=Value.ref a from rx)
  obtain⟨_,_,xs,_,o,es,ep,h1,h2,_⟩:=(show ObjOk X.prog X.w H s.heap a (.dT kvs) from I.hok a _ ea)
  exact G00 PySem.W.kitx_dict I.kIn ⟨o,h1,h2.1⟩ e (λz=>nomatch z) h
 | @ins a C dx fs ea cl ha hn htk hm=>
  cases (show u=Value.ref a from rx)
  obtain⟨mA,O,_⟩:=jk5 I.hok ea
  obtain⟨od,J,_⟩:=O.look
  exact G00 (PySem.W.kitx_own (cl.get _) cl.hd ha hn htk hm) I.kIn J e (λz=>nomatch z) h
end
structure Room (k:Nat) (A:Around):Prop where
 hd:A.handled=none
 dp:A.depth+3*k+5<recursionLimit
 un:A.units+16*k+200<cLine
 gd:A.guards=some []
theorem Room.deeper {k:Nat} {A:Around} (r:Room (k+1) A) (env:Env):Room k (A.deeper env):=
 ⟨r.hd,by have:=r.dp;show A.depth+1+3*k+5<_;omega,by have:=r.un;show A.units+3+16*k+200<_;omega,r.gd⟩
theorem Room.depth {k:Nat} {A:Around} (r:Room k A):A.depth<recursionLimit:=by have:=r.dp;omega
theorem Room.units {k:Nat} {A:Around} (r:Room k A):A.units+64<cLine:=by have:=r.un;omega
def jo9:TA:=λ_ H Q=>Q [] H
def jmL (ta:TE) (tr:TA):TA:=λσ H Q=>ta σ H λx H1=>tr σ H1 λxs H2=>Q (x::xs) H2
section
variable {X:Cx} {e:Expr} {es:List Expr} {te:TE} {t:TA} {pos:Pos}
theorem pa_nil:PA X [] jo9:=λ_ _ _ _ H Q I h=>Calls.spliced_nil ⟨[],H,I,.nil,h⟩
theorem jbS (ha:PE X e te) (hr:PA X es t) (hs:starEach (e::es) X.env=(false,eval e X.env)::starEach es X.env:=by rfl):PA X (e::es) (jmL te t):=by
 intro pos pins s σ H Q I h
 rw [hs]
 show wpAny _ _ (spliced ((false,eval e X.env)::backTo pos (starEach es X.env))) _ _ s
 refine Calls.spliced_cons (thn (ha pins s σ H _ I h) λu s1 ⟨x,H1,I1,r1,q1⟩=> ?_)
 exact thn (hr pos pins s1 σ H1 _ I1 q1) λus s2 ⟨xs,H2,I2,r2,q2⟩=>⟨x::xs,H2,I2,.cons r1 r2,q2⟩
def jpa (t:TA):TE:=λσ H Q=>t σ H λxs H1=>xs.length<=sizeLine/\ ∀p,H1 p=none->Q (.ref p) (upd H1 p (.tup xs))
def jpb (t:TA):TE:=λσ H Q=>t σ H λxs H1=>xs.length<=sizeLine/\ ∀p,H1 p=none->Q (.ref p) (upd H1 p (.lst xs))
theorem jmM {x1} (h:PA X es t):PE X (.Tuple es x1 pos) (jpa t):=by
 intro pins s σ H Q I hq
 refine wpAny_Tuple_spliced (thn (h pos pins s σ H _ I hq) λus s1 ⟨xs,H1,I1,r,z,q⟩=>⟨by rw [<-r.length];exact z,?_⟩)
 have hf:H1 s1.heap.objs.size=none:=I1.hok.fresh (G0d _)
 refine⟨.ref s1.heap.objs.size,upd H1 s1.heap.objs.size (.tup xs),I1.laid (t' :=s1.toks) (λb u e=>G0b _ e) (G0d _) ?_,rfl,q _ hf⟩
 exact⟨z,us,r,IsTupN.new _ _⟩
theorem jmN (h:PA X es t):PE X (.List es pos) (jpb t):=by
 intro pins s σ H Q I hq
 refine wpAny_List_spliced (thn (h pos pins s σ H _ I hq) λus s1 ⟨xs,H1,I1,r,z,q⟩=>⟨by rw [<-r.length];exact z,?_⟩)
 have hf:H1 s1.heap.objs.size=none:=I1.hok.fresh (G0d _)
 refine⟨.ref s1.heap.objs.size,upd H1 s1.heap.objs.size (.lst xs),I1.laid (t' :=s1.toks) (λb u e=>G0b _ e) (G0d _) ?_,rfl,q _ hf⟩
 exact⟨z,us,0,r,G0m _ rfl⟩
end
abbrev Sp:=List V->Hp->VK->XK->Prop
abbrev CXT:=List Env->Hp->Shared->XK->Value->Shared->Prop
structure Env0 (P:Program) (w:World) (K:PySem.W.Frag) (mg:Str->Option Value) (base:Heap) (A:Around) (outer:List Env) (s:Shared) (H:Hp):Prop where
 frames:A.frames=some outer
 mod:Mod K mg base
 bs: ∀b o,base.get? b=some o->s.heap.get? b=some o/\H b=none
 bsz:base.objs.size<=s.heap.objs.size
 funs:s.heap.FunFrames base outer
 frf: ∀b∈frs outer,H b=none
 hok:HOk P w H s.heap
 bare:AllBare s.gens
def CE (outer:List Env) (P:Program) (w:World) (H:Hp) (s:Shared) (Q:VK) (u:Value) (s' :Shared):Prop:=
 ∃v H',s'.os=s.os/\AllBare s'.gens/\Un (frs outer) [] H H' s.heap s'.heap/\HOk P w H' s'.heap/\RelV v u/\Q v H'
def CR (CX:CXT) (outer:List Env) (P:Program) (w:World) (H:Hp) (s:Shared) (Q:VK) (E:XK) (r:Result) (s' :Shared):Prop:=
 match r with
 | .ok (.ret u)=>CE outer P w H s Q u s'
 | .ok _=>False
 | .error e=>CX outer H s E e s'
structure FnOk (P:Program) (w:World) (K:PySem.W.Frag) (mg:Str->Option Value) (base:Heap) (CX:CXT) (k:Nat) (f:Addr) (fd:FuncData) (ps:List Str) (sp:Sp):Prop where
 len: ∀vs H Q E,sp vs H Q E->vs.length=ps.length
 run: ∀ (A:Around) (outer:List Env) (s:Shared) (H:Hp) (args:Args) (us:List Value) (vs:List V) (Q:VK) (E:XK),Room k A->Env0 P w K mg base A outer s H->BindsTo s fd args (ps.zip us)->Vals vs us->sp vs H Q E->
  codeAny (model P w) A (.call (.ref f) args) (CR CX outer P w H s Q E) s
section
variable {X:Cx} {pins:List (Addr×Obj)} {σ:St} {H:Hp} {s s' :Shared}
theorem Inv.env0 (I:Inv X pins σ H s):Env0 X.prog X.w X.K X.mg X.base X.A X.stack s H:=
 ⟨I.ok.frames,I.ok.mod,I.bs,G0R I.ok.bsz I.sz,I.stack,I.stkFree,I.hok,I.bare⟩
theorem Inv.after {Q:VK} {u:Value} (I:Inv X pins σ H s) (h:CE X.stack X.prog X.w H s Q u s'):EP X pins σ Q u s' :=by
 obtain⟨v,H',os,bare,un,hok,r,q⟩:=h
 obtain⟨hh,g,d,t,os'⟩:=s'
 obtain rfl:os' =s.os:=os
 exact⟨v,H',I.call (h' :=hh) (g' :=g) (d' :=d) (t' :=t) (ch:= []) un hok bare (λb z=>absurd z (by simp)),r,q⟩
end
def jmO (sp:Sp) (dvs:List V) (E:XK) (t:TA):TE:=λσ H Q=>t σ H λvs H1=>sp (vs++dvs) H1 Q E
def Binds (K:PySem.W.Frag) (fd:FuncData) (ps:List Str) (ds:List Value):Prop:=
 ∀ (s:Shared) (us:List Value),K.In s.heap->(us++ds).length=ps.length->BindsTo s fd ⟨us,[]⟩ (ps.zip (us++ds))
theorem Binds.all {K:PySem.W.Frag} {fd:FuncData} {ps:List Str} (h: ∀us:List Value,us.length=ps.length->bindArgs fd ⟨us,[]⟩=pure (ps.zip us)):Binds K fd ps []:=λs us _ hl=>by
 rw [G21] at hl ⊢
 exact .of_eq (h us hl)
def jh8 (CX:CXT) (X:Cx) (E:XK):Prop:= ∀ (pins:List (Addr×Obj)) (σ:St) (H:Hp) (s:Shared) (e:Value) (s' :Shared),Inv X pins σ H s->CX X.stack H s E e s' ->X.xe e s'
section
variable {X:Cx} {CX:CXT} {k:Nat} {f C:Addr} {fd:FuncData} {ps:List Str} {sp:Sp} {dvs:List V} {ds:List Value} {E:XK} {x m:Str} {p pos apos:Pos} {e o:Expr} {es:List Expr} {ta:TE} {t:TA}
theorem jmP {pins:List (Addr×Obj)} {σ:St} {H:Hp} {s:Shared} {Q:VK} {us:List Value} {vs:List V} (F:FnOk X.prog X.w X.K X.mg X.base CX k f fd ps sp) (hr:Room k X.A) (hb:Binds X.K fd ps ds) (hd:Vals dvs ds) (hx:jh8 CX X E)
 (I:Inv X pins σ H s) (r:Vals vs us) (h:sp (vs++dvs) H Q E):wpAny (model X.prog X.w) X.A (call (.ref f) us) (EP X pins σ Q) X.xe s:=by
 have r2:Vals (vs++dvs) (us++ds):=r.append hd
 have hl:(us++ds).length=ps.length:=by rw [<-r2.length];exact F.len _ _ _ _ h
 refine G3a (codeAny_mono (F.run X.A X.stack s H ⟨us,[]⟩ (us++ds) (vs++dvs) Q E hr I.env0 (hb s us I.kIn hl) r2 h) λr s' hq=> ?_)
 cases r with
 |error e=>exact hx pins σ H s e s' I hq
 |ok fl=>
  cases fl with
  |ret u=>exact I.after hq
  |next=>exact False.elim hq
  |brk=>exact False.elim hq
  |cont=>exact False.elim hq
theorem jk6 (F:FnOk X.prog X.w X.K X.mg X.base CX k f fd ps sp) (hr:Room k X.A) (hg:Gl X x) (hm:X.mg x=some (.ref f)) (hk:PySem.W.keepIn X.K (.ref f)=true) (hb:Binds X.K fd ps ds) (hd:Vals dvs ds) (hx:jh8 CX X E)
 (ha:PA X (e::es) t) (hdb:(x==("__debug__" :Str))=false:=by decide) (he:starEach (e::es) X.env=(false,eval e X.env)::starEach es X.env:=by rfl) (hpl:(backTo pos (starEach es X.env)).any (·.1)=false:=by rfl):
 PE X (.Call (.Name x p) (e::es) [] pos) (jmO sp dvs E t):=by
 intro pins s σ H Q I h
 refine G2H (jhX I hg hm ?_ hdb)
 refine PySem.W.callWith_K (h₀:=X.base) I.ok.mod.kin hk (thn (ha pos pins s σ H _ I h) λus s1 ⟨vs,H1,I1,r,q⟩=>⟨I1.kIn,?_⟩) he hpl
 exact jmP F hr hb hd hx I1 r q
structure Mk (K:PySem.W.Frag) (C f:Addr):Prop where
 makes:PySem.W.makesIn K C=true
 init:PySem.W.findIn K (.ref C) "__init__" =some (some (.ref f))
 fn:PySem.W.isFn K (.ref f)=true
 kp:PySem.W.keepIn K (.ref C)=true
end
section
variable {X:Cx} {CX:CXT} {k:Nat} {f C:Addr} {fd:FuncData} {ps ks:List Str} {sp:Sp} {E:XK} {x m:Str} {p pos apos kpos:Pos} {e o:Expr} {es:List Expr} {kws:List Keyword} {te ta:TE} {t tk:TA} {nm:Option Str}
structure KBinds (K:PySem.W.Frag) (fd:FuncData) (ps ks:List Str) (g:List Value->List Value->List Value) (gV:List V->List V->List V):Prop where
 to: ∀ (s:Shared) (us ws:List Value),K.In s.heap->(g us ws).length=ps.length->BindsTo s fd ⟨us,ks.zip ws⟩ (ps.zip (g us ws))
 rel: ∀ {vs:List V} {us:List Value} {zs:List V} {ws:List Value},Vals vs us->Vals zs ws->Vals (gV vs zs) (g us ws)
variable {g:List Value->List Value->List Value} {gV:List V->List V->List V}
end
structure FnScope (N P:List Str) (sc:Scope):Prop where
 kind:sc.kind= .function
 co:sc.isCoroutine=false
 gen:sc.isGenerator=false
 nd:N.Nodup
 pre:N.take P.length=P
 par: ∀x∈P,sc.names.lookup x=some .local\/sc.names.lookup x=some .cell
 nofree: ∀y∈sc.names,y.2≠ .free
theorem jfF {kindOf:Str->Option NameKind} {x:Str}: ∀ {binds:List (Str×Value)} {m:Str->Option Value},(∀v,(x,v) ∉ binds)->bindL kindOf binds m x=m x
 | [],_,_=>rfl
 |(n,v)::r,m,h=>by
  unfold bindL
  rw [jfF λw hw=>h w (G0w _ hw)]
  split
  ·have:x≠n:=by rintro rfl;exact h v G0B
   simp [this]
  ·rfl
theorem jfG {kindOf:Str->Option NameKind} {x:Str}: ∀ {binds:List (Str×Value)} {m:Str->Option Value},(∀v,(x,v) ∉ binds)->bindC kindOf binds m x=m x
 | [],_,_=>rfl
 |(n,v)::r,m,h=>by
  unfold bindC
  rw [jfG λw hw=>h w (G0w _ hw)]
  split
  ·rfl
  ·have:x≠n:=by rintro rfl;exact h v G0B
   simp [this]
theorem jfH {kindOf:Str->Option NameKind} {x:Str} {v:Value}: ∀ {P:List Str} {vs:List Value} {i:Nat} {m:Str->Option Value},P.Nodup->P[i]? =some x->vs[i]? =some v->kindOf x=some .local->
 bindL kindOf (P.zip vs) m x=some v
 | [],_,_,_,_,h,_,_=>by simp at h
 |_::_,[],_,_,_,_,h,_=>by simp at h
 |p::P,w::vs,0,m,nd,h1,h2,hk=>by
  simp at h1 h2;subst h1;subst h2
  show bindL kindOf ((p,w)::P.zip vs) m p=_
  unfold bindL
  rw [jfF λv hv=>(G01.mp nd).1 (G14 hv).1,if_pos hk]
  simp
 |p::P,w::vs,i+1,m,nd,h1,h2,hk=>by
  show bindL kindOf ((p,w)::P.zip vs) m x=_
  unfold bindL
  exact jfH (i:=i) (G01.mp nd).2 (by simpa using h1) (by simpa using h2) hk
theorem jfI {kindOf:Str->Option NameKind} {x:Str} {v:Value}: ∀ {P:List Str} {vs:List Value} {i:Nat} {m:Str->Option Value},P.Nodup->P[i]? =some x->vs[i]? =some v->kindOf x≠some .local->
 bindC kindOf (P.zip vs) m x=some v
 | [],_,_,_,_,h,_,_=>by simp at h
 |_::_,[],_,_,_,_,h,_=>by simp at h
 |p::P,w::vs,0,m,nd,h1,h2,hk=>by
  simp at h1 h2;subst h1;subst h2
  show bindC kindOf ((p,w)::P.zip vs) m p=_
  unfold bindC
  rw [jfG λv hv=>(G01.mp nd).1 (G14 hv).1,if_neg hk]
  simp
 |p::P,w::vs,i+1,m,nd,h1,h2,hk=>by
  show bindC kindOf ((p,w)::P.zip vs) m x=_
  unfold bindC
  exact jfI (i:=i) (G01.mp nd).2 (by simpa using h1) (by simpa using h2) hk
def jdy (N:List Str) (vs:List V):St:=vs.map some++List.replicate (N.length-vs.length) none
def jku (CX:CXT) (P:Program) (w:World) (K:PySem.W.Frag) (mg:Str->Option Value) (base:Heap) (N:List Str) (qual:Str) (scope:Scope) (f:Addr) (cd:Value) (A:Around) (outer:List Env) (s:Shared) (H:Hp) (E:XK):Cx where
 prog:=P
 w:=w
 K:=K
 mg:=mg
 base:=base
 A:=A.deeper (envOfC qual scope s.heap.objs.size f cd)
 N:=N
 s₀:=s
 H₀:=H
 env:=envOfC qual scope s.heap.objs.size f cd
 outer:=outer
 stack:=envOfC qual scope s.heap.objs.size f cd::outer
 ex:= []
 calm:=true
 fn:=λ_=>true
 pn:= []
 xe:=λe s' =>wpAny (model P w) (A.deeper (envOfC qual scope s.heap.objs.size f cd)) (leaving (envOfC qual scope s.heap.objs.size f cd) e) (λ_ s'' =>CX outer H s E e s'') (λe' s'' =>CX outer H s E e' s'') s'
theorem jdr {sc:Scope} {n:Nat} {x:Str} (h:sc.names.lookup x=some .cell): ∃c,(cellsFrom n sc.names []).lookup x=some c:=by
 have q:=G2Z sc.names n [] (.inl h)
 exact G2M.mp q
theorem jh9 {CX:CXT} {P:Program} {w:World} {K:PySem.W.Frag} {mg:Str->Option Value} {base:Heap} {N ps:List Str} {qual:Str} {scope:Scope} {f:Addr} {cd:Value} {A:Around} {outer:List Env} {s s1:Shared} {H:Hp} {E:XK} {us:List Value} {vs:List V}
 (S:FnScope N ps scope) (hd:A.handled=none) (e0:Env0 P w K mg base A outer s H) (hl:vs.length=ps.length) (r:Vals vs us)
 (x:InCallC s s.heap.objs.size (bindL (envOfC qual scope s.heap.objs.size f cd).kindOf (ps.zip us) λ_=>none) (cellsFrom (s.heap.objs.size+1) scope.names []) (bindC (envOfC qual scope s.heap.objs.size f cd).kindOf (ps.zip us) λ_=>none) s1):
 Inv (jku CX P w K mg base N qual scope f cd A outer s H E) [] (jdy N vs) H s1:=by
 have hpl:ps.length<=N.length:=by have:=congrArg List.length S.pre;rw [G03] at this;omega
 obtain⟨h1,tk,rfl,hk⟩:=x.done
 have noA: ∀b:Addr,b ∉ (jku CX P w K mg base N qual scope f cd A outer s H E).ex:=λb z=>absurd (show b∈([]:List Addr) from z) (by simp)
 refine⟨⟨e0.mod,S.kind,rfl,rfl,G0d _,λy z c h1 h2=> ?_,λy hy=> ?_,λy c _ h=> ?_,λ_=>hd,Around.frames_deeper e0.frames,.inr ⟨rfl,rfl⟩,λb z=>absurd z (noA b),e0.bs,e0.bsz,λb _ _=>noA b,λb z=>absurd z (noA b),e0.funs,e0.frf⟩,
  rfl,e0.bare,Un.kept hk,⟨_,x.toInCall.ns,λi y v h1 h2 h3=> ?_⟩,λy c h=>⟨_,x.cell y c h⟩,e0.hok.fresh (G0d _),λy c h=> ?_,λp hp=>absurd (show p∈([]:List (Addr×Obj)) from hp) (by simp),e0.hok.kept hk,?_⟩
 ·exact name_of_addr x.apart (G1J h1) (G1J h2)
 ·have hy:scope.names.lookup y=some .cell\/scope.names.lookup y=some .free:=hy
  rcases hy with hy|hy
  ·exact jdr hy
  ·exact absurd rfl (S.nofree _ (G1J hy))
 ·exact G0X (x.above y c (G1J h))
 ·have hi:i<vs.length:=by
   unfold jdy at h2
   by_cases hi:i<vs.length
   ·exact hi
   ·rw [G1V (by simpa using hi)] at h2
    rw [G2T] at h2
    split at h2<;>cases h2
  have ha:vs[i]? =some v:=by
   unfold jdy at h2
   rw [G1A (by simpa using hi),G0o] at h2
   cases e:vs[i]? with
   |none=>rw [e] at h2;cases h2
   |some a=>rw [e] at h2;cases h2;rfl
  obtain⟨u,hu,rv⟩:=r.get ha
  have hp:ps[i]? =some y:=by
   rw [<-S.pre,List.getElem?_take_of_lt (by omega)];exact h1
  have ndP:ps.Nodup:=by rw [<-S.pre];exact S.nd.sublist (List.take_sublist _ _)
  refine⟨u,rv,?_⟩
  rcases S.par y (G0W hp) with k|k
  ·exact .inl ⟨k,jfH ndP hp hu k⟩
  ·obtain⟨c,e⟩:=jdr (n:=s.heap.objs.size+1) k
   refine .inr ⟨.inl k,c,e,?_⟩
   have q:=x.cell y c e
   rw [jfI ndP hp hu (by show scope.names.lookup y≠_;rw [k];decide)] at q
   exact q
 ·exact e0.hok.fresh (G0X (x.above y c (G1J h)))
 ·unfold jdy
  show _=N.length
  rw [G1b,G0a,List.length_replicate]
  omega
theorem jok {CX:CXT} {P:Program} {w:World} {K:PySem.W.Frag} {mg:Str->Option Value} {base:Heap} {k:Nat} {f:Addr} {name qual:Str} {params:Arguments} {body:List Stmt} {scope:Scope} {dV kV doc pm cdv ct oc:Value} {an od:Option Addr}
 {osl:Array (Option Value)} {N ps:List Str} {sp:Sp} (lk:K.lookup f=some ⟨oc,od,.func (PySem.W.fnOf name qual params body scope dV kV doc pm an cdv ct),osl⟩) (hcd:PySem.W.codeIn K cdv qual=true) (S:FnScope N ps scope)
 (len: ∀vs H Q E,sp vs H Q E->vs.length=ps.length)
 (hbody: ∀ (A:Around) (outer:List Env) (s:Shared) (H:Hp) (vs:List V) (Q:VK) (E:XK),Room k (A.deeper (envOfC qual scope s.heap.objs.size f cdv))->sp vs H Q E->
  ∃t,PSs (jku CX P w K mg base N qual scope f cdv A outer s H E) body t/\t {nx:=λ_ H' =>Q .non H',rt:=Q} (jdy N vs) H):
 FnOk P w K mg base CX (k+1) f (PySem.W.fnOf name qual params body scope dV kV doc pm an cdv ct) ps sp:=by
 refine⟨len,λA outer s H args us vs Q E hr e0 hb r hsp=> ?_⟩
 have hl:=len _ _ _ _ hsp
 have KX:K.In s.heap:=e0.mod.kin.keeps λb o e=>(e0.bs b o e).1
 have lim:s.heap.NoLimit:=e0.mod.nolimit.keeps λb o e=>(e0.bs b o e).1
 have hkind: ∀y∈ps.zip us,scope.names.lookup y.1=some .local\/(scope.names.lookup y.1=some .cell/\((cellsFrom (s.heap.objs.size+1) scope.names []).lookup y.1).isSome=true):=λ⟨n,v⟩ hy=>by
  rcases S.par n (G14 hy).1 with q|q
  ·exact .inl q
  ·exact .inr ⟨q,G2Z _ _ _ (.inl q)⟩
 refine codeAny_call_function hr.depth (KX _ _ lk) rfl S.co S.gen rfl (PySem.W.codeRec_of KX hcd) (hb _ _ _ _ ?_)
 refine wpAny_newFunctionEnv_cells S.kind hkind λenv he s1 x=> ?_
 subst he
 refine⟨lim.keeps x.toInCall.keep,codeAny_func ?_⟩
 obtain⟨t,ht,hq⟩:=hbody A outer s H vs Q E (hr.deeper _) hsp
 have I:Inv (jku CX P w K mg base N qual scope f cdv A outer s H E) [] (jdy N vs) H s1:=jh9 S hr.hd e0 hl r x
 refine G0S (ht [] s1 (jdy N vs) H _ I hq) (λfl s' hs=> ?_) λe s' hs=>hs
 have fin: ∀ {σ' :St} {H' :Hp} {v:V} {u:Value},Inv (jku CX P w K mg base N qual scope f cdv A outer s H E) [] σ' H' s' ->RelV v u->Q v H' ->CE outer P w H s Q u s' :=
  λ{σ' H' v u} J rv q=>⟨v,H',J.os,J.bare,J.base,J.hok,rv,q⟩
 cases fl with
 |ret u=>
  obtain⟨v,σ',H',J,rv,q⟩:=hs
  exact fin J rv q
 |next=>
  obtain⟨σ',H',J,q⟩:=hs
  exact fin (v:=V.non) (u:=Value.none) J rfl q
 |brk=>
  obtain⟨_,_,_,q⟩:=hs
  exact False.elim q
 |cont=>
  obtain⟨_,_,_,q⟩:=hs
  exact False.elim q
section
variable {X:Cx} {x:Str} {p pos:Pos} {e:Expr} {es:List Expr} {t:TA} {id T:String} {r:List V->Hp->VK->Prop}
def tCB (r:List V->Hp->VK->Prop) (t:TA):TE:=λσ H Q=>t σ H λvs H1=>r vs H1 Q
theorem jeT (hc:CallR X (.builtin id) r) (hg:Gl X x) (hm:X.mg x=none) (hv:bootBuiltins x=some (.builtin id)) (ha:PA X (e::es) t) (hn:x≠ "__name__" :=by decide) (hdb:(x==("__debug__" :Str))=false:=by decide)
 (he:starEach (e::es) X.env=(false,eval e X.env)::starEach es X.env:=by rfl) (hpl:(backTo pos (starEach es X.env)).any (·.1)=false:=by rfl):PE X (.Call (.Name x p) (e::es) [] pos) (tCB r t):=by
 intro pins s σ H Q I h
 refine G2H (jeq I hg hm hv ?_ hn hdb)
 exact PyProof.Rows.callWith_builtin1 (thn (ha pos pins s σ H _ I h) λus s1 ⟨vs,H1,I1,r1,q1⟩=>hc pins s1 σ H1 vs us Q I1 r1 q1) he hpl
theorem jdz (hc:CallR X (.type T) r) (hg:Gl X x) (hm:X.mg x=none) (hv:bootBuiltins x=some (.type T)) (ha:PA X (e::es) t) (hn:x≠ "__name__" :=by decide) (hdb:(x==("__debug__" :Str))=false:=by decide)
 (he:starEach (e::es) X.env=(false,eval e X.env)::starEach es X.env:=by rfl) (hpl:(backTo pos (starEach es X.env)).any (·.1)=false:=by rfl):PE X (.Call (.Name x p) (e::es) [] pos) (tCB r t):=by
 intro pins s σ H Q I h
 refine G2H (jeq I hg hm hv ?_ hn hdb)
 exact G1q (thn (ha pos pins s σ H _ I h) λus s1 ⟨vs,H1,I1,r1,q1⟩=>hc pins s1 σ H1 vs us Q I1 r1 q1) he hpl
end
end L2
namespace HT
open PySem PyProof.Rows
section
variable {prog:Program} {w:World} {A:Around} {E:Value->Shared->Prop} {s:Shared}
theorem jk7 {t b:Addr} {vs ws:List Value} {Q:Value->Shared->Prop} (ht:IsTup s.heap t vs.toArray) (hb:IsTup s.heap b ws.toArray) (hv:vs≠ [])
 (h1:ws= []->Q (.ref t) s) (h2:ws≠ []->Q (.ref s.heap.objs.size) {s with heap:=s.heap.push {cls:= .type "tuple",data:= .seq (vs++ws).toArray}})
 (hsz:vs.length+ws.length<=sizeLine):wpAny (model prog w) A (binaryOp .Add (.ref t) (.ref b)) Q E s:=by
 obtain⟨⟨cls,dd,data,sl⟩,ho,hc,n,hd⟩:=id ht
 obtain⟨⟨cls2,dd2,data2,sl2⟩,ho2,hc2,n2,hd2⟩:=id hb
 simp only at hc hd hc2 hd2
 subst hc hd hc2 hd2
 have e:vs.toArray++ws.toArray=(vs++ws).toArray:=by simp
 by_cases hw:ws= []
 ·exact concat_meets ⟨_,ho,rfl⟩ ⟨_,ho2,rfl⟩ G2W seq_tuple_add G2e G15 (G11 _ _)
   (tuple_addW1 t b vs.toArray ws.toArray n n2 dd dd2 sl sl2 (by simpa using hv) (by simp [hw])) ⟨ho,ho2,h1 hw⟩
 ·refine concat_meets ⟨_,ho,rfl⟩ ⟨_,ho2,rfl⟩ G2W seq_tuple_add G2e G15 (G11 _ _)
   (tuple_addW2 t b vs.toArray ws.toArray n n2 dd dd2 sl sl2 (by simpa using hv) (by simpa using hw) (by rw [G0f,G0f];exact hsz)) ⟨ho,ho2,?_⟩
  rw [e]
  exact h2 hw
def sIx (n d:Nat):Option Int->Nat
 |none=>d
 |some v=>if v<0 then (v+(n:Int)).toNat else min v.toNat n
theorem jmQ (n d:Nat) (hd:d<=n) (o:Option Int):sIx n d o<=n:=by
 cases o with
 |none=>exact hd
 |some v=>
  show (if v<0 then (v+(n:Int)).toNat else min v.toNat n)<=n
  by_cases hv:v<0
  ·rw [if_pos hv];omega
  ·rw [if_neg hv];exact G2X _ _
theorem jia (v:Int) (n d:Nat):(if v<0 then max (v+(n:Int)) 0 else min v (n:Int))=((sIx n d (some v):Nat):Int):=by
 show (if v<0 then max (v+(n:Int)) 0 else min v (n:Int))=(((if v<0 then (v+(n:Int)).toNat else min v.toNat n):Nat):Int)
 by_cases hv:v<0
 ·simp only [if_pos hv];omega
 ·simp only [if_neg hv];omega
theorem jhu (lo hi:Option Int) (n:Nat):Builtin.Slice.sliceAdjust lo hi 1 (n:Int)=(((sIx n 0 lo:Nat):Int),((sIx n n hi:Nat):Int)):=by
 have h1: ¬ ((1:Int)<0):=by omega
 unfold Builtin.Slice.sliceAdjust
 simp only [h1,G3q]
 refine Prod.ext ?_ ?_
 ·cases lo with
  |none=>rfl
  |some v=>exact jia v n 0
 ·cases hi with
  |none=>rfl
  |some v=>exact jia v n n
theorem jhv (i j:Nat):Builtin.Slice.slicePlaces (i:Int) (j:Int) 1=j-i:=by
 unfold Builtin.Slice.slicePlaces
 have h1:(1:Int)>0:=by omega
 simp only [h1,if_true,Int.ediv_one]
 split<;>omega
theorem jer {v:Value} {o:Option Int} {Q:Option Int->Shared->Prop} (p:IsPart v o) (h:Q o s):wpAny (model prog w) A (Builtin.Slice.slicePartIndex v) Q E s:=by
 cases p with
 |none=>exact slicePart_none h
 |int i t=>exact slicePart_int h
theorem jb3 {sl:Addr} {vl vu:Value} {lo hi:Option Int} {n:Nat} {Q:Int×Int×Nat->Shared->Prop} (hs:s.heap.IsSliceOf sl vl vu .none) (pl:IsPart vl lo) (pu:IsPart vu hi)
 (h:Q (((sIx n 0 lo:Nat):Int),1,sIx n n hi-sIx n 0 lo) s):wpAny (model prog w) A (Builtin.Slice.sliceApplied (.ref sl) (pure (n:Int))) Q E s:=by
 obtain⟨os,hos,hcs,hds⟩:=id hs
 unfold Builtin.Slice.sliceApplied Builtin.Slice.sliceFields
 refine wpAny_bind (wpAny_bind (wpAny_field hos hds (x:=vl) rfl (wpAny_bind (wpAny_field hos hds (x:=vu) rfl (wpAny_bind (wpAny_field hos hds (x:= .none) rfl (G0c ?_)))))))
 refine wpAny_bind (slicePart_none ?_)
 show wpAny _ _ (if ((1:Int)==0)=true then _ else _) _ _ s
 rw [if_neg (by decide)]
 refine wpAny_bind (jer pl (wpAny_bind (jer pu (wpAny_bind (G0c ?_)))))
 show wpAny _ _ (match Builtin.Slice.sliceAdjust lo hi 1 (n:Int) with|(lo,hi)=>pure (lo,(1:Int),Builtin.Slice.slicePlaces lo hi 1)) _ _ s
 rw [jhu lo hi n]
 show wpAny _ _ (pure (((sIx n 0 lo:Nat):Int),(1:Int),Builtin.Slice.slicePlaces ((sIx n 0 lo:Nat):Int) ((sIx n n hi:Nat):Int) 1)) _ _ s
 rw [jhv]
 exact G0c h
theorem jjz (xs:Array Value) (i k:Nat):((List.range k).filterMap λ(m:Nat)=>xs[((i:Int)+(m:Int)*1).toNat]?).toArray=((xs.toList.drop i).take k).toArray:=by
 have e:(λ(m:Nat)=>xs[((i:Int)+(m:Int)*1).toNat]?)=λm=>xs[i+m]? :=by
  funext m
  have:((i:Int)+(m:Int)*1).toNat=i+m:=by omega
  rw [this]
 rw [e]
 have:=pick_run xs i k
 rw [List.filterMap_map] at this
 have e2:((λx=>xs[x]?)∘λx=>i+x)=λm=>xs[i+m]? :=rfl
 rw [e2] at this
 rw [this]
theorem jc0 {t sl:Addr} {items:Array Value} {vl vu:Value} {lo hi:Option Int} {Q:Value->Shared->Prop} (ht:IsTup s.heap t items) (hs:s.heap.IsSliceOf sl vl vu .none) (pl:IsPart vl lo) (pu:IsPart vu hi)
 (hw: ¬ (sIx items.size 0 lo=0/\sIx items.size items.size hi=items.size))
 (h:Q (.ref s.heap.objs.size) {s with heap:=s.heap.push {cls:= .type "tuple",data:= .seq ((items.toList.drop (sIx items.size 0 lo)).take (sIx items.size items.size hi-sIx items.size 0 lo)).toArray}})
 (hsz:items.size<=sizeLine):wpAny (model prog w) A (getItem (.ref t) (.ref sl)) Q E s:=by
 have htake:sizeOk (.seq ((items.toList.drop (sIx items.size 0 lo)).take (sIx items.size items.size hi-sIx items.size 0 lo)).toArray):=by
  show ((items.toList.drop (sIx items.size 0 lo)).take (sIx items.size items.size hi-sIx items.size 0 lo)).toArray.size<=sizeLine
  rw [G0f,G03,G1v,G0j]
  omega
 have hj:sIx items.size items.size hi<=items.size:=jmQ _ _ (G0d _) hi
 obtain⟨os,hos,hcs,hds⟩:=id hs
 have hTs:s.TypeIs (.ref sl) "slice" :=⟨os,hos,hcs⟩
 unfold getItem
 try with_reducible refine G02 ?_
 first|refine wpAny_bind (G0c ?_)|skip
 refine wpAny_bind (wpAny_sequenceKey ht.typeIs (by decide) ?_)
 refine wpAny_bind (G0Z (name:=Str.ofString "__getitem__") ht.typeIs G1h
  (G0Y G1h ht.typeIs entry_tuple_getitem ?_ (args_tuple_getitem _ _)))
 show wpAny _ _ (Builtin.Tuple.tupleItemsOf (.ref t) >>= _) _ _ s
 refine wpAny_bind (tupleItemsOf_ ht ?_)
 refine wpAny_bind (G2I hTs ?_)
 rw [if_pos (by decide)]
 refine wpAny_bind (jb3 hs pl pu ?_)
 have hno: ¬ ((((sIx items.size 0 lo:Nat):Int)==0&&(1:Int)==1&&(sIx items.size items.size hi-sIx items.size 0 lo)==items.size)=true):=by
  intro q
  rw [G1o,G1o] at q
  have q1:((sIx items.size 0 lo:Nat):Int)=0:=eq_of_beq q.1.1
  have q2:sIx items.size items.size hi-sIx items.size 0 lo=items.size:=eq_of_beq q.2
  exact hw ⟨by omega,by omega⟩
 show wpAny _ _ (if (((sIx items.size 0 lo:Nat):Int)==0&&(1:Int)==1&&(sIx items.size items.size hi-sIx items.size 0 lo)==items.size)=true then _ else _) _ _ s
 rw [if_neg hno,jjz]
 first
  |exact wpAny_bind (m:=Builtin.Tuple.tupleExact _) (G1D (G0c ⟨_,rfl,G0c h⟩) htake)
  |exact wpAny_bind (m:=Builtin.Tuple.tupleExact _) (G1D (wpAny_bind (G0c (G0c ⟨_,rfl,G0c h⟩))) htake)
  |exact wpAny_bind (wpAny_bind (m:=Builtin.Tuple.tupleExact _) (G1D (G0c (G0c ⟨_,rfl,G0c h⟩)) htake))
  |exact wpAny_bind (wpAny_bind (m:=Builtin.Tuple.tupleExact _) (G1D (G0c ⟨_,rfl,G0c h⟩) htake))
end
end HT
namespace L2
open PySem PySem.Spec PyProof.Rows
abbrev TO:=St->Hp->(Option Int->Hp->Prop)->Prop
def PO (X:Cx) (e:Option Expr) (t:TO):Prop:=
 ∀ (pins:List (Addr×Obj)) (s:Shared) (σ:St) (H:Hp) (Q:Option Int->Hp->Prop),Inv X pins σ H s->t σ H Q->
  wpAny (model X.prog X.w) X.A (evalPart e X.env) (λu s' => ∃o H',Inv X pins σ H' s' /\IsPart u o/\Q o H') X.xe s
def jk8:TO:=λ_ H Q=>Q none H
def jol (t:TE):TO:=λσ H Q=>t σ H λx H1=> ∃i,x= .int i/\Q (some i) H1
section
variable {X:Cx} {e:Expr} {te:TE} {lo hi:Option Expr} {tl th:TO} {pos p2:Pos}
theorem po_none:PO X none jk8:=by
 intro pins s σ H Q I h
 rw [evalPart_none]
 exact G0c ⟨none,H,I,.none,h⟩
theorem jk9 (h:PE X e te):PO X (some e) (jol te):=by
 intro pins s σ H Q I hw
 rw [evalPart_some]
 refine thn (h pins s σ H _ I hw) λu s1 ⟨x,H1,I1,r1,q1⟩=> ?_
 obtain⟨i,rfl,q⟩:=q1
 obtain⟨t,rfl⟩:=r1
 exact⟨some i,H1,I1,.int i t,q⟩
def SlR (X:Cx) (r:V->Option Int->Option Int->Hp->VK->Prop):Prop:=
 ∀ (pins:List (Addr×Obj)) (s:Shared) (σ:St) (H:Hp) (x:V) (v vl vu:Value) (lo hi:Option Int) (sl:Addr) (Q:VK),Inv X pins σ H s->RelV x v->s.heap.IsSliceOf sl vl vu .none->IsPart vl lo->IsPart vu hi->r x lo hi H Q->
  ∃T id,typeLookup (.type T) "__getitem__" =pure (some (.builtin id))/\s.TypeIs v T/\wpAny (model X.prog X.w) X.A (getItem v (.ref sl)) (EP X pins σ Q) X.xe s
theorem SlR.or {r r' :V->Option Int->Option Int->Hp->VK->Prop} (h:SlR X r) (h' :SlR X r'):SlR X (λx lo hi H Q=>r x lo hi H Q\/r' x lo hi H Q):=by
 intro pins s σ H x v vl vu lo hi sl Q I rx hs pl pu q
 rcases q with q|q
 ·exact h pins s σ H x v vl vu lo hi sl Q I rx hs pl pu q
 ·exact h' pins s σ H x v vl vu lo hi sl Q I rx hs pl pu q
def tSl (r:V->Option Int->Option Int->Hp->VK->Prop) (te:TE) (tl th:TO):TE:=λσ H Q=>te σ H λx H1=>tl σ H1 λl H2=>th σ H2 λu H3=>r x l u H3 Q
theorem jjA {r:V->Option Int->Option Int->Hp->VK->Prop} (hr:SlR X r) (he:PE X e te) (hl:PO X lo tl) (hu:PO X hi th):PE X (.Subscript e (.Slice lo hi none p2) pos) (tSl r te tl th):=by
 intro pins s σ H Q I h
 refine Subscript_ (thn (he pins s σ H _ I h) λv s1 ⟨x,H1,I1,r1,q1⟩=> ?_)
 refine wpAny_Slice (thn (hl pins s1 σ H1 _ I1 q1) λvl s2 ⟨l,H2,I2,pl,q2⟩=>thn (hu pins s2 σ H2 _ I2 q2) λvu s3 ⟨u,H3,I3,pu,q3⟩=> ?_)
 rw [evalPart_none]
 refine G0c ?_
 have I4:Inv X pins σ H3 {s3 with heap:=s3.heap.push {cls:= .type "slice",data:= .fields #[vl,vu,.none]}}:=I3.kept (t' :=s3.toks) λb ob q=>G0b _ q
 obtain⟨T,id,hT,ht,hg⟩:=hr pins {s3 with heap:=s3.heap.push {cls:= .type "slice",data:= .fields #[vl,vu,.none]}} σ H3 x v vl vu l u s3.heap.objs.size Q I4 r1 (Heap.IsSliceOf.new ..) pl pu q3
 show wpAny (model X.prog X.w) X.A (subscriptTail e (.Slice lo hi none p2) v (.ref s3.heap.objs.size)) (EP X pins σ Q) X.xe {s3 with heap:=s3.heap.push {cls:= .type "slice",data:= .fields #[vl,vu,.none]}}
 exact tail_any (ops:= [.ref s3.heap.objs.size,v]) ht hT hg (by with_unfolding_all rfl)
def jjm (xs:List V) (lo hi:Option Int):List V:=(xs.drop (HT.sIx xs.length 0 lo)).take (HT.sIx xs.length xs.length hi-HT.sIx xs.length 0 lo)
theorem jdA (xs:List V) (lo hi:Option Int):(jjm xs lo hi).length<=xs.length:=by
 unfold jjm
 rw [G03,G1v]
 omega
def jps (K:PySem.W.Frag):V->Option Int->Option Int->Hp->VK->Prop:=λx lo hi H Q=> ∃a xs,x= .ref a/\SqT K H a xs/\
 ¬ (HT.sIx xs.length 0 lo=0/\HT.sIx xs.length xs.length hi=xs.length)/\ ∀p,H p=none->Q (.ref p) (upd H p (.tup (jjm xs lo hi)))
theorem sl_tup:SlR X (jps X.K):=by
 intro pins s σ H x v vl vu lo hi sl Q I rx hs pl pu h
 obtain⟨a,xs,rfl,hx,hw,q⟩:=h
 cases rx
 obtain⟨its,r,ht,hz⟩:=I.tuple hx
 have hlen:its.toArray.size=xs.length:=by rw [G0f];exact r.length.symm
 refine⟨"tuple",_,PyProof.Rows.slot_tuple_getitem.lookup,ht.typeIs,?_⟩
 refine HT.jc0 ht hs pl pu (by rw [hlen];exact hw) ?_ (by rw [hlen];exact hz)
 rw [hlen]
 refine⟨.ref s.heap.objs.size,_,I.laid (t' :=s.toks) (o:= .tup (jjm xs lo hi)) (λb ob q=>G0b _ q) (G0d _) ?_,rfl,q _ (I.hok.fresh (G0d _))⟩
 exact⟨G0R (jdA xs lo hi) hz,_,(r.drop (HT.sIx xs.length 0 lo)).take (HT.sIx xs.length xs.length hi-HT.sIx xs.length 0 lo),IsTupN.new _ _⟩
def jom (K:PySem.W.Frag):R2:=λx y H Q=> ∃a b xs ys,x= .ref a/\y= .ref b/\SqT K H a xs/\SqT K H b ys/\xs≠ []/\xs.length+ys.length<=sizeLine/\
 (ys= []->Q (.ref a) H)/\(ys≠ []-> ∀p,H p=none->Q (.ref p) (upd H p (.tup (xs++ys))))
theorem Vals.nil_iff {xs:List V} {us:List Value} (r:Vals xs us):us= []↔xs= []:=by
 cases r with
 |nil=>simp
 |cons _ _=>simp
theorem op_catT:OpR X (binaryOp .Add) (jom X.K):=by
 intro pins s σ H x y v u Q I rx ry h
 obtain⟨a,b,xs,ys,rfl,rfl,ha,hb,hx,hz,q1,q2⟩:=h
 cases rx
 cases ry
 obtain⟨its,r1,p1,_⟩:=I.tuple ha
 obtain⟨its2,r2,p2,_⟩:=I.tuple hb
 refine HT.jk7 p1 p2 (λz=>hx (r1.nil_iff.mp z)) (λz=>⟨.ref a,H,I,rfl,q1 (r2.nil_iff.mp z)⟩) (λz=> ?_) (by rw [<-r1.length,<-r2.length];exact hz)
 refine⟨.ref s.heap.objs.size,_,I.laid (t' :=s.toks) (o:= .tup (xs++ys)) (λb ob q=>G0b _ q) (G0d _) ?_,rfl,q2 (λw=>z (r2.nil_iff.mpr w)) _ (I.hok.fresh (G0d _))⟩
 exact⟨by rw [G1b];exact hz,_,r1.append r2,IsTupN.new _ _⟩
end
def ixN (n:Nat) (i:Int):Option Nat:=if 0<=i then (if i<n then some i.toNat else none) else if-(n:Int)<=i then some (i+n).toNat else none
def atI {α:Type} (xs:List α) (i:Int):Option α:=(ixN xs.length i).bind λj=>xs[j]?
theorem jib {n:Nat} {i:Int} {j:Nat} (h:ixN n i=some j):seqIndex? i n=some j/\j<n/\ -(n:Int)<=i/\i<n:=by
 unfold ixN at h
 by_cases h0:0<=i
 ·rw [if_pos h0] at h
  by_cases h1:i<n
  ·rw [if_pos h1] at h
   have e:i.toNat=j:=G0T h
   exact⟨by rw [seqIndex_of h0 h1,e],by omega,by omega,h1⟩
  ·rw [if_neg h1] at h;cases h
 ·rw [if_neg h0] at h
  by_cases h1: -(n:Int)<=i
  ·rw [if_pos h1] at h
   have e:(i+n).toNat=j:=G0T h
   exact⟨by rw [seqIndex_neg (by omega) h1,e],by omega,h1,by omega⟩
  ·rw [if_neg h1] at h;cases h
theorem jgu {α:Type} {xs:List α} {i:Int} {v:α} (h:atI xs i=some v): ∃j,seqIndex? i xs.length=some j/\xs[j]? =some v/\j<xs.length/\ -(xs.length:Int)<=i/\i<xs.length:=by
 unfold atI at h
 cases e:ixN xs.length i with
 |none=>rw [e] at h;cases h
 |some j=>
  rw [e] at h
  obtain⟨h1,h2,h3,h4⟩:=jib e
  exact⟨j,h1,h,h2,h3,h4⟩
theorem jb7 {α:Type} {xs:List α} {j:Nat} {v:α} (h:xs[j]? =some v):atI xs (j:Int)=some v:=by
 have hj:j<xs.length:=(G0s.mp h).1
 have e:ixN xs.length (j:Int)=some j:=by
  unfold ixN
  rw [if_pos (by omega),if_pos (by omega)];simp
 unfold atI;rw [e];exact h
def jgv (b:Expr):Prop:= ∀o i,subscripted b false o i=operate [o,i] (getItem o i)
def IxR (X:Cx) (r:R2):Prop:=
 ∀ (value slice:Expr) (pins:List (Addr×Obj)) (s:Shared) (σ:St) (H:Hp) (x y:V) (v u:Value) (Q:VK),Inv X pins σ H s->RelV x v->RelV y u->r x y H Q->
  subscripted slice false v u=operate [v,u] (getItem v u)->wpAny (model X.prog X.w) X.A (subscriptTail value slice v u) (EP X pins σ Q) X.xe s
def MtR (X:Cx) (id:String) (r:V->List V->Hp->VK->Prop):Prop:=
 ∀ (pins:List (Addr×Obj)) (s:Shared) (σ:St) (H:Hp) (x:V) (xs:List V) (v:Value) (us:List Value) (Q:VK),Inv X pins σ H s->RelV x v->Vals xs us->r x xs H Q->
  wpAny (model X.prog X.w) X.A (call (.builtin id) (v::us)) (EP X pins σ Q) X.xe s
section
variable {X:Cx} {a b:Expr} {ta tb:TE} {pos:Pos}
theorem IxR.or {r r' :R2} (h:IxR X r) (h' :IxR X r'):IxR X (λx y H Q=>r x y H Q\/r' x y H Q):=by
 intro value slice pins s σ H x y v u Q I rx ry q hs
 rcases q with q|q
 ·exact h value slice pins s σ H x y v u Q I rx ry q hs
 ·exact h' value slice pins s σ H x y v u Q I rx ry q hs
theorem jon {r:R2} (hr:IxR X r) (ha:PE X a ta) (hb:PE X b tb) (hs:jgv b):PE X (.Subscript a b pos) (tOp r ta tb):=by
 intro pins s σ H Q I h
 exact Subscript_ (joc ha hb I h λv u s2 x y H2 I2 rx ry q=>hr a b pins s2 σ H2 x y v u Q I2 rx ry q (hs _ _))
def jpc (K:PySem.W.Frag):R2:=λx y H Q=> ∃p xs i v,x= .ref p/\y= .int i/\SqL K H p xs/\atI xs i=some v/\Q v H
def jpd (K:PySem.W.Frag):R2:=λx y H Q=> ∃p xs i v,x= .ref p/\y= .int i/\SqT K H p xs/\atI xs i=some v/\Q v H
def jpe:R2:=λx y H Q=> ∃z i c,x= .str z/\y= .int i/\z.length<=sizeLine/\atI z.cps.toList i=some c/\Q (.str ⟨#[c]⟩) H
theorem ix_list:IxR X (jpc X.K):=by
 intro value slice pins s σ H x y v u Q I rx ry h hs
 obtain⟨p,xs,i,z,rfl,rfl,hq,he,q⟩:=h
 cases rx
 obtain⟨t,rfl⟩:=ry
 obtain⟨its,r,pl,hz⟩:=I.list hq
 obtain⟨j,h1,h2,h3,h4,h5⟩:=jgu he
 obtain⟨w,ew,rw'⟩:=r.get h2
 have hl:=r.length
 have hn:=jfE
 have fin:EP X pins σ Q w s:=⟨z,H,I,rw',q⟩
 by_cases h0:0<=i
 ·have hj:i.toNat=j:=by
   rw [seqIndex_of h0 h5] at h1
   exact G0T h1
  exact item_listR pl.isList h0 (by omega) (by rw [hj];simpa using ew) fin hs
 ·have hj:(i+(its.toArray.size:Int)).toNat=j:=by
   rw [seqIndex_neg (by omega) h4] at h1
   rw [G0f,<-hl]
   exact G0T h1
  exact subscriptTail_builtinR (x:=w) pl.isList.typeIs slot_list_getitem.lookup
   (wpAny_getItem_list_neg (Q:=λr s' =>r=w/\EP X pins σ Q r s') pl.isList (by omega) (by rw [G0f]<;>omega) (by omega) (by rw [hj];simpa using ew) ⟨rfl,fin⟩) hs
theorem ix_tup:IxR X (jpd X.K):=by
 intro value slice pins s σ H x y v u Q I rx ry h hs
 obtain⟨p,xs,i,z,rfl,rfl,hq,he,q⟩:=h
 cases rx
 obtain⟨t,rfl⟩:=ry
 obtain⟨its,r,pl,hz⟩:=I.tuple hq
 obtain⟨j,h1,h2,h3,h4,h5⟩:=jgu he
 obtain⟨w,ew,rw'⟩:=r.get h2
 have hl:=r.length
 have hn:=jfE
 have fin:EP X pins σ Q w s:=⟨z,H,I,rw',q⟩
 exact subscriptTail_builtinR (x:=w) pl.typeIs slot_tuple_getitem.lookup
  (getItem_tuple (j:=j) (Q:=λr s' =>r=w/\EP X pins σ Q r s') pl (by omega) (by omega) (by rw [G0f,<-hl];exact h1) (by simpa using ew) ⟨rfl,fin⟩) hs
theorem jmR:IxR X jpe:=by
 intro value slice pins s σ H x y v u Q I rx ry h hs
 obtain⟨z,i,c,rfl,rfl,hz,he,q⟩:=h
 obtain⟨t,rfl⟩:=rx
 obtain⟨t',rfl⟩:=ry
 obtain⟨j,h1,h2,h3,h4,h5⟩:=jgu he
 have hl:z.cps.toList.length=z.length:=by simp [Str.length]
 rw [hl] at h1 h4 h5
 have hn:=jfE
 exact tail_any (typeIs_str s z t) slot_str_getitem.lookup (getItem_str (c:=c) (by
  have e1:decide (i< -(2^63:Int))=false:=G0Q (by omega)
  have e2:decide (i>=2^63)=false:=G0Q (by omega)
  rw [e1,e2,Bool.or_false]) (by rw [h1];simpa using h2) ⟨.str ⟨#[c]⟩,H,I.tok _,⟨_,rfl⟩,q⟩) hs
def rIx (K:PySem.W.Frag):R2:=λx y H Q=>jpc K x y H Q\/jpd K x y H Q\/jpe x y H Q
theorem jmS:IxR X (rIx X.K):=ix_list.or (ix_tup.or jmR)
theorem jhw (its:List Value) (n j:Nat) (u:Value):Obj.mapSeq (·.setIfInBounds j u) {cls:= .type "list",data:= .seq its.toArray n}= {cls:= .type "list",data:= .seq (its.set j u).toArray n}:=by
 simp [Obj.mapSeq]
theorem Inv.lst {pins:List (Addr×Obj)} {σ:St} {H:Hp} {s:Shared} {p:Addr} {xs:List V} (I:Inv X pins σ H s) (h:H p=some (.lst xs)):
 ∃ (its:List Value) (n:Nat),Vals xs its/\s.heap.get? p=some {cls:= .type "list",data:= .seq its.toArray n}/\xs.length<=sizeLine:=by
 obtain⟨z,its,n,r,e⟩:=I.hok p _ h
 exact⟨its,n,r,e,z⟩
theorem Inv.lstUpd {pins:List (Addr×Obj)} {σ:St} {H:Hp} {s:Shared} {p:Addr} {xs ys:List V} {its its' :List Value} {n n' :Nat} {f:Obj->Obj} (I:Inv X pins σ H s) (h:H p=some (.lst xs))
 (ho:s.heap.get? p=some {cls:= .type "list",data:= .seq its.toArray n}) (hf:f {cls:= .type "list",data:= .seq its.toArray n}= {cls:= .type "list",data:= .seq its'.toArray n'}) (r:Vals ys its') (hz:ys.length<=sizeLine) (t:Nat):
 Inv X pins σ (upd H p (.lst ys)) {s with heap:=s.heap.update p f,toks:=t}:=by
 have e:(s.heap.update p f).get? p=some {cls:= .type "list",data:= .seq its'.toArray n'}:=by
  rw [G07 f ho (by rw [hf]<;>rfl),hf]
 refine I.write (x:=p) (e:=p) (by rw [h];trivial) (.inl rfl) (λb u hb q=>(Heap.get?_update_other _ _ (Ne.symm hb)).trans q) ⟨_,e⟩ ?_
 exact⟨hz,its',n',r,e⟩
def joo:V->V->V->Hp->(Hp->Prop)->Prop:=λo i v H Q=> ∃p xs k j,o= .ref p/\i= .int k/\H p=some (.lst xs)/\ixN xs.length k=some j/\Q (upd H p (.lst (xs.set j v)))
theorem jjB:jo3 X joo:=by
 intro pins s σ H o i v ov iv u Q I ro ri rv h
 obtain⟨p,xs,k,j,rfl,rfl,hp,hj,q⟩:=h
 cases ro
 obtain⟨t,rfl⟩:=ri
 obtain⟨its,n,r,ho,hz⟩:=I.lst hp
 obtain⟨h1,h2,h3,h4⟩:=jib hj
 have hl:=r.length
 have hn:=jfE
 have I' :Inv X pins σ (upd H p (.lst (xs.set j v))) {s with heap:=s.heap.update p (Obj.mapSeq (·.setIfInBounds j u))}:=
  I.lstUpd hp ho (jhw its n j u) (r.set rv j) (by rw [List.length_set];exact hz) s.toks
 by_cases h0:0<=k
 ·have hk:k.toNat=j:=by
   rw [seqIndex_of h0 h4] at h1
   exact G0T h1
  exact PySem.W.ki_setAt ho h0 (by omega) (by rw [G0f,<-hl];exact h4) (by rw [hk];exact⟨_,I',q⟩)
 ·have hk:(k+(its.toArray.size:Int)).toNat=j:=by
   rw [seqIndex_neg (by omega) h3] at h1
   rw [G0f,<-hl]
   exact G0T h1
  exact PySem.W.ki_setBack ho (by omega) (by rw [G0f,<-hl];exact h3) (by omega) (by rw [hk];exact⟨_,I',q⟩)
theorem jfJ (lo hi:Option Int) (n:Nat):(sliceBounds lo hi none n).1=((HT.sIx n 0 lo:Nat):Int)/\(sliceBounds lo hi none n).2.1=((HT.sIx n n hi:Nat):Int)/\(sliceBounds lo hi none n).2.2=1:=by
 refine⟨?_,?_,rfl⟩
 ·cases lo with
  |none=>simp [sliceBounds,HT.sIx]
  |some i=>
   simp only [sliceBounds,HT.sIx,Option.getD_none,show (1:Int)>0 by decide,if_true]
   by_cases h:i<0
   ·simp only [h,if_true]<;>omega
   ·simp only [h,G3q]<;>omega
 ·cases hi with
  |none=>simp [sliceBounds,HT.sIx]
  |some i=>
   simp only [sliceBounds,HT.sIx,Option.getD_none,show (1:Int)>0 by decide,if_true]
   by_cases h:i<0
   ·simp only [h,if_true]<;>omega
   ·simp only [h,G3q]<;>omega
theorem jeU (its:List Value) (lo hi:Option Int):slicePick its.toArray lo hi none=((its.drop (HT.sIx its.length 0 lo)).take (HT.sIx its.length its.length hi-HT.sIx its.length 0 lo)).toArray:=by
 obtain⟨h1,h2,h3⟩:=jfJ lo hi its.toArray.size
 unfold slicePick
 rw [h1,h2,h3]
 simp only [sliceRange_one,pick_run,G0f]<;>rfl
def jpu (K:PySem.W.Frag):V->Option Int->Option Int->Hp->VK->Prop:=λx lo hi H Q=> ∃a xs,x= .ref a/\SqL K H a xs/\ ∀p,H p=none->Q (.ref p) (upd H p (.lst (jjm xs lo hi)))
theorem jla:SlR X (jpu X.K):=by
 intro pins s σ H x v vl vu lo hi sl Q I rx hs pl pu h
 obtain⟨a,xs,rfl,hx,q⟩:=h
 cases rx
 obtain⟨its,r,ht,hz⟩:=I.list hx
 have hlen:=r.length
 refine⟨"list",_,slot_list_getitem.lookup,ht.isList.typeIs,?_⟩
 refine wpAny_getItem_list_slice ht.isList hs pl pu .none (by simp) ?_ (by rw [G0f]<;>omega)
 rw [jeU,<-hlen]
 refine⟨.ref s.heap.objs.size,_,I.laid (t' :=s.toks) (o:= .lst (jjm xs lo hi)) (λb ob q=>G0b _ q) (G0d _) ?_,rfl,q _ (I.hok.fresh (G0d _))⟩
 exact⟨G0R (jdA xs lo hi) hz,_,0,(r.drop (HT.sIx xs.length 0 lo)).take (HT.sIx xs.length xs.length hi-HT.sIx xs.length 0 lo),G0m _ rfl⟩
theorem call_len_seq:CallR X (.builtin "len") (λxs H Q=> ∃p ys,xs= [.ref p]/\(SqL X.K H p ys\/SqT X.K H p ys)/\Q (.int ys.length) H):=by
 intro pins s σ H xs us Q I r h
 obtain⟨p,ys,rfl,hq,q⟩:=h
 obtain⟨u,rfl,rx⟩:=jcN r
 cases rx
 have hn:=jfE
 rcases hq with hq|hq
 ·obtain⟨its,r',pl,hz⟩:=I.list hq
  have hlen:=r'.length
  exact Calls.call_len_list pl.isList (by simp only [G0f]<;>omega) ⟨.int ys.length,H,I.tok _,⟨s.toks+1,by rw [G0f,hlen]⟩,q⟩
 ·obtain⟨its,r',pl,hz⟩:=I.tuple hq
  have hlen:=r'.length
  exact len_tuple pl (by simp only [G0f]<;>omega) ⟨.int ys.length,H,I.tok _,⟨s.toks+1,by rw [G0f,hlen]⟩,q⟩
theorem call_list_of:CallR X (.type "list") (λxs H Q=> ∃p ys,xs= [.ref p]/\(SqL X.K H p ys\/SqT X.K H p ys)/\ ∀l,H l=none->Q (.ref l) (upd H l (.lst ys))):=by
 intro pins s σ H xs us Q I r h
 obtain⟨p,ys,rfl,hq,q⟩:=h
 obtain⟨u,rfl,rx⟩:=jcN r
 cases rx
 have fin: ∀ (its:List Value),Vals ys its->ys.length<=sizeLine-> ∀ (h' :Heap) (c' :Nat),(∀b o',s.heap.get? b=some o' ->h'.get? b=some o')->
  h'.get? s.heap.objs.size=some {cls:= .type "list",dict:=none,data:= .seq its.toArray c',slots:= #[]}->EP X pins σ Q (.ref s.heap.objs.size) {s with heap:=h'}:=λits r' hz h' c' kp e=>
  ⟨.ref s.heap.objs.size,_,I.laid (t' :=s.toks) kp (G0d _) (show ObjOk X.prog X.w _ h' _ (.lst ys) from ⟨hz,its,c',r',e⟩),rfl,q _ (I.hok.fresh (G0d _))⟩
 rcases hq with hq|hq
 ·obtain⟨its,r',pl,hz⟩:=I.list hq
  have hlen:=r'.length
  obtain⟨o,ho,hc,n,hd⟩:=pl.isList
  exact call_list_seq p (.inl rfl) ho hc hd (λh' c' kp e=>fin its r' hz h' c' kp e) (by simp only [G0f]<;>omega)
 ·obtain⟨its,r',pl,hz⟩:=I.tuple hq
  have hlen:=r'.length
  obtain⟨o,ho,hc,n,hd⟩:=pl
  exact call_list_seq p (.inr rfl) ho hc hd (λh' c' kp e=>fin its r' hz h' c' kp e) (by simp only [G0f]<;>omega)
theorem call_tuple_of:CallR X (.type "tuple") (λxs H Q=> ∃p ys,xs= [.ref p]/\((SqL X.K H p ys/\ ∀l,H l=none->Q (.ref l) (upd H l (.tup ys)))\/(SqT X.K H p ys/\Q (.ref p) H))):=by
 intro pins s σ H xs us Q I r h
 obtain⟨p,ys,rfl,h⟩:=h
 obtain⟨u,rfl,rx⟩:=jcN r
 cases rx
 rcases h with ⟨hq,q⟩|⟨hq,q⟩
 ·obtain⟨its,r',pl,hz⟩:=I.list hq
  have hlen:=r'.length
  refine call_tuple_list pl.isList (λh' kp=> ?_) (by simp only [G0f]<;>omega)
  have I1:Inv X pins σ H {s with heap:=h'}:=I.kept (t' :=s.toks) kp
  have I2:Inv X pins σ (upd H h'.objs.size (.tup ys)) {s with heap:=h'.push {cls:= .type "tuple",data:= .seq its.toArray}}:=
   I1.laid (t' :=s.toks) (λb o e=>G0b _ e) (G0d _) (show ObjOk X.prog X.w _ _ _ (.tup ys) from ⟨hz,its,r',IsTupN.new _ _⟩)
  exact⟨.ref h'.objs.size,_,I2,rfl,q _ (I1.hok.fresh (G0d _))⟩
 ·obtain⟨its,r',pl,hz⟩:=I.tuple hq
  exact call_tuple_same pl ⟨.ref p,H,I,rfl,q⟩
def tyV (K:PySem.W.Frag) (T:String) (x:V) (H:Hp):Prop:=match x with
 | .str _=>T= "str"
 | .int _=>T= "int"
 | .ref p=>(T= "list" /\ ∃xs,SqL K H p xs)\/(T= "tuple" /\ ∃o,K.lookup p=some o/\o.cls= .type "tuple" /\o.dict=none)\/
  (T= "dict" /\((∃kvs,H p=some (.dK kvs))\/ ∃kvs,H p=some (.dT kvs)))\/(T= "set" /\ ∃S n,H p=some (.set S n))
 |_=>False
theorem jmT {pins:List (Addr×Obj)} {σ:St} {H:Hp} {s:Shared} {T:String} {x:V} {v:Value} (I:Inv X pins σ H s) (r:RelV x v) (ty:tyV X.K T x H):
 s.TypeIs v T/\ ∀a,v= .ref a-> ∃ob,s.heap.get? a=some ob/\ob.dict=none:=by
 cases x with
 |str z=>
  obtain⟨t,rfl⟩:=r
  cases (show T= "str" from ty)
  exact⟨typeIs_str s z t,λ_ e=>nomatch e⟩
 |int i=>
  obtain⟨t,rfl⟩:=r
  cases (show T= "int" from ty)
  exact⟨G3b s i t,λ_ e=>nomatch e⟩
 |ref p=>
  cases r
  rcases ty with ⟨rfl,xs,hq⟩|⟨rfl,o,hk,hc,hd⟩|⟨rfl,hk⟩|⟨rfl,S,n,hk⟩
  ·obtain⟨its,_,pl,_⟩:=I.list hq
   refine⟨pl.isList.typeIs,λa e=> ?_⟩
   cases e
   obtain⟨o,n,e,c,hd,_⟩:=pl
   exact⟨o,e,hd⟩
  ·refine⟨⟨o,I.kIn p o hk,hc⟩,λa e=> ?_⟩
   cases e
   exact⟨o,I.kIn _ o hk,hd⟩
  ·have z: ∃o,s.heap.get? p=some o/\o.ExactDict:=by
    rcases hk with ⟨kvs,hk⟩|⟨kvs,hk⟩
    ·obtain⟨_,_,_,_,o,_,_,e,ex,_⟩:=I.hok p _ hk
     exact⟨o,e,ex⟩
    ·obtain⟨_,_,_,_,o,_,_,e,ex,_⟩:=I.hok p _ hk
     exact⟨o,e,ex⟩
   obtain⟨o,e,ex⟩:=z
   refine⟨⟨o,e,ex.1⟩,λa e2=> ?_⟩
   cases e2
   exact⟨o,e,ex.2.1⟩
  ·obtain⟨o,_,_,_,e,ex,_⟩:=I.hok p _ hk
   refine⟨⟨o,e,ex.1⟩,λa e2=> ?_⟩
   cases e2
   exact⟨o,e,ex.2.1⟩
 |_=>exact False.elim ty
def tBM (K:PySem.W.Frag) (T:String) (r:V->List V->Hp->VK->Prop) (to:TE) (t:TA):TE:=λσ H Q=>to σ H λx H1=>tyV K T x H1/\t σ H1 λxs H2=>r x xs H2 Q
variable {o e:Expr} {es:List Expr} {to:TE} {t:TA} {name:Str} {apos cpos:Pos} {T id:String} {r:V->List V->Hp->VK->Prop}
theorem jlb (pa:PlainAttrs T) (slot:Slot T name id) (hty:typeOf (.builtin id)=pure (.type "method_descriptor")) (hm:MtR X id r) (ho:PE X o to) (ha:PA X (e::es) t)
 (hbase:attributeBase o name X.env (eval o X.env)=eval o X.env:=by rfl)
 (hfew:((backTo cpos (starEach (e::es) X.env)).all (λx=> !x.1)&&(backToKw cpos (keywordEach [] X.env)).all (λx=>x.1.isSome)
  &&decide ((e::es).length+([]:List Keyword).length+(if ([]:List Keyword).isEmpty then 0 else 1)<30))=true:=by rfl)
 (hline:(apos.endLine==cpos.line)=true:=by rfl) (hs:starEach (e::es) X.env=(false,eval e X.env)::starEach es X.env:=by rfl) (hplain:(backTo cpos (starEach es X.env)).any (·.1)=false:=by rfl):
 PE X (.Call (.Attribute o name apos) (e::es) [] cpos) (tBM X.K T r to t):=by
 intro pins s σ H Q I h
 refine wpAny_Call_method_late hbase hfew hline rfl (thn (ho pins s σ H _ I h) λv s1 ⟨x,H1,I1,r1,ty,q1⟩=> ?_)
 obtain⟨h1,h2⟩:=jmT I1 r1 ty
 refine⟨T,id,pa,slot,hty,h1,h2,?_⟩
 have hA:=ha cpos pins s1 σ H1 _ I1 q1
 rw [hs] at hA ⊢
 refine Calls.callWith_builtin (by show (false||(backTo cpos (starEach es X.env)).any (·.1))=false;rw [hplain]<;>rfl) (Calls.evalArgs_plain ?_)
 exact thn hA λus s2 ⟨vs,H2,I2,r2,q2⟩=>hm pins s2 σ H2 x vs v us Q I2 r1 r2 q2
end
def MtM (X:Cx) (id:String) (r:V->List V->Hp->VK->Prop):Prop:=
 ∀ (pins:List (Addr×Obj)) (s:Shared) (σ:St) (H:Hp) (x:V) (xs:List V) (v:Value) (us:List Value) (Q:VK),Inv X pins σ H s->RelV x v->Vals xs us->r x xs H Q->
  wpAny (model X.prog X.w) X.A (call (.builtin id) (v::us)) (EP X pins σ Q) X.xe s
theorem Vals.one: ∀ {x:V} {us:List Value},Vals [x] us-> ∃u,us= [u]/\RelV x u
 |_,_,.cons r .nil=>⟨_,rfl,r⟩
theorem Vals.rep {xs:List V} {us:List Value} (h:Vals xs us): ∀k:Nat,Vals (List.replicate k xs).flatten (List.replicate k us).flatten
 |0=> .nil
 |k+1=>by
  rw [G1i,G1i,G1F,G1F]
  exact Vals.append h (Vals.rep h k)
theorem jdB (its:List Value): ∀ (k:Nat) (acc:List Value),
 List.foldl (λx1 x2=>x1++x2) acc.toArray (List.replicate k its.toArray)=(acc++(List.replicate k its).flatten).toArray
 |0,acc=>by simp
 |k+1,acc=>by
  have e:acc.toArray++its.toArray=(acc++its).toArray:=by simp
  have e2:(acc++its)++(List.replicate k its).flatten=acc++(List.replicate (k+1) its).flatten:=by
   rw [G1i,G1F,G2N]
  rw [<-e2,<-jdB its k (acc++its),<-e,G1i,List.foldl_cons]
section
variable {X:Cx} {pins:List (Addr×Obj)} {σ:St} {H:Hp} {s:Shared} {l b:Addr} {xs ys zs:List V}
theorem Inv.lset {its its' :List Value} {n:Nat} {f:Array Value->Array Value} {t' :Nat} (I:Inv X pins σ H s) (hH:H l=some (.lst xs))
 (e:s.heap.get? l=some {cls:= .type "list",data:= .seq its.toArray n}) (hf:f its.toArray=its'.toArray) (hv:Vals ys its') (hz:ys.length<=sizeLine):
 Inv X pins σ (upd H l (.lst ys)) {s with heap:=s.heap.update l (Obj.mapSeq f),toks:=t'}:=by
 have q:=PySem.IsL.update e f
 rw [hf] at q
 refine I.write (x:=l) (e:=l) (by rw [hH];exact trivial) (.inl rfl) (λb' u hb hu=>(Heap.get?_update_other s.heap (Obj.mapSeq f) (Ne.symm hb)).trans hu) ⟨_,q⟩ ?_
 exact⟨hz,its',_,hv,q⟩
theorem Inv.lnew {its:List Value} {t' :Nat} (I:Inv X pins σ H s) (hv:Vals ys its) (hz:ys.length<=sizeLine):
 Inv X pins σ (upd H s.heap.objs.size (.lst ys)) {s with heap:=s.heap.push {cls:= .type "list",data:= .seq its.toArray},toks:=t'}:=
 I.laid (λ_ _ q=>G0b _ q) (G0d _) ⟨hz,its,0,hv,G0m _ rfl⟩
theorem Inv.fresh (I:Inv X pins σ H s):H s.heap.objs.size=none:=I.hok.fresh (G0d _)
theorem Inv.lstM (I:Inv X pins σ H s) (hH:H l=some (.lst xs)):xs.length<=sizeLine/\ ∃ (its:List Value) (n:Nat),Vals xs its/\xs.length=its.length/\s.heap.get? l=some {cls:= .type "list",data:= .seq its.toArray n}:=by
 obtain⟨z,its,n,r,e⟩:=I.hok l _ hH
 exact⟨z,its,n,r,r.length,e⟩
theorem jjC {n:Nat} (h:n<=sizeLine):Builtin.List.listTooLong n=false:=by
 unfold Builtin.List.listTooLong
 exact G0Q (by omega)
end
section
variable {X:Cx}
def jld:V->List V->Hp->VK->Prop:=λx vs H Q=> ∃l xs y,x= .ref l/\vs= [y]/\H l=some (.lst xs)/\xs.length<sizeLine/\Q .non (upd H l (.lst (xs++ [y])))
theorem jic:MtM X "list.append" jld:=by
 intro pins s σ H x vs v us Q I rx rv h
 obtain⟨l,xs,y,rfl,rfl,hH,hz,q⟩:=h
 cases rx
 obtain⟨u,rfl,ru⟩:=rv.one
 obtain⟨z,its,n,r,hl,e⟩:=I.lstM hH
 refine G3c F.slot_list_append ⟨_,e,rfl⟩ F.entry_list_append (F.args_list_append_2 _ _) (PySem.list_append l its.toArray n u (by rw [G0f];omega)) ⟨e,?_⟩
 refine⟨.non,_,I.lset (its' :=its++ [u]) hH e (by simp) (r.append (.cons ru .nil)) ?_,rfl,q⟩
 rw [G1b,List.length_singleton]
 omega
def jpv:R2:=λx y H Q=> ∃l b xs zs,x= .ref l/\y= .ref b/\H l=some (.lst xs)/\H b=some (.lst zs)/\xs.length+zs.length<=sizeLine/\ ∀p,H p=none->Q (.ref p) (upd H p (.lst (xs++zs)))
theorem jmU:OpR X (binaryOp .Add) jpv:=by
 intro pins s σ H x y v u Q I rx ry h
 obtain⟨l,b,xs,zs,rfl,rfl,hH,hB,hz,q⟩:=h
 cases rx
 cases ry
 obtain⟨z,its,n,r,hl,e⟩:=I.lstM hH
 obtain⟨z2,its2,n2,r2,hl2,e2⟩:=I.lstM hB
 refine PySem.P.add_list e e2 ?_ (by rw [G0f,G0f];omega)
 have ea:its.toArray++its2.toArray=(its++its2).toArray:=by simp
 rw [ea]
 exact⟨.ref _,_,I.lnew (t' :=s.toks) (r.append r2) (by rw [G1b];omega),rfl,q _ I.fresh⟩
def jpw:R2:=λx y H Q=> ∃l k xs,x= .ref l/\y= .int k/\H l=some (.lst xs)/\ -(2^63)<=k/\k<2^63/\xs.length*k.toNat<=sizeLine/\
 ∀p,H p=none->Q (.ref p) (upd H p (.lst (List.replicate k.toNat xs).flatten))
theorem jgw {α:Type} (xs:List α) (k:Nat):(List.replicate k xs).flatten.length=k*xs.length:=by
 induction k with
 |zero=>simp
 |succ k ih=>rw [G1i,G1F,G1b,ih,Nat.succ_mul,G3p]
theorem jmV:OpR X (binaryOp .Mult) jpw:=by
 intro pins s σ H x y v u Q I rx ry h
 obtain⟨l,k,xs,rfl,rfl,hH,h1,h2,hz,q⟩:=h
 cases rx
 obtain⟨t,rfl⟩:=ry
 obtain⟨z,its,n,r,hl,e⟩:=I.lstM hH
 have hlen:its.toArray.size*k.toNat<=sizeLine:=by rw [G0f,<-hl];exact hz
 have hcap: ¬its.toArray.size*k.toNat>(2^63-1) / 8:=by
  have:(sizeLine:Nat)<=(2^63-1) / 8:=by decide
  omega
 have hfit: ¬ (!Builtin.List.listFitsIndex k)=true:=by
  rw [fitsIndex_both h1 h2]
  exact G0g
 have hlong: ¬Builtin.List.listTooLong (its.toArray.size*k.toNat)=true:=by
  rw [jjC hlen]
  exact G0g
 have hnew:List.foldl (λx1 x2=>x1++x2) #[] (List.replicate (if its.toArray.isEmpty=true then 0 else k.toNat) its.toArray)=(List.replicate k.toNat its).flatten.toArray:=by
  have f0: ∀m:Nat,List.foldl (λx1 x2=>x1++x2) #[] (List.replicate m its.toArray)=(List.replicate m its).flatten.toArray:=λm=>by
   have:=jdB its m []
   rw [G0E] at this
   exact this
  rw [f0]
  cases its with
  |nil=>simp
  |cons a r' =>rw [if_neg (by simp)]
 refine wpAny_binaryOp_repeat_ref (T:= "list") (U:= "int") (by decide) ⟨_,e,rfl⟩ (λs' =>G3b s' k t) noFill_list_mul F.fills_int_mul G2C repeat_list F.slot_int_index.lookup
  (G3c G2C (G3b s k t) F.entry_int_rmul (F.args_int_rmul_2 _ _) (int___rmul___int_list k t l its.toArray n)
   ⟨e,rfl,⟨_,e,rfl⟩,G3c F.slot_list_mul ⟨_,e,rfl⟩ F.entry_list_mul (F.args_list_mul_2 _ _) (AutoListH.list___mul___list_int_3 l its.toArray n k t hfit hcap hlong) ⟨e,?_⟩⟩)
 rw [hnew]
 exact⟨.ref _,_,I.lnew (t' :=s.toks) (r.rep k.toNat) (by rw [jgw,G2p];exact hz),rfl,q _ I.fresh⟩
end
end L2
namespace Att
open PySem PySem.W PySem.Calls PyProof.Rows
theorem jdC {P:Params} {h:Heap}: ∀ (ns:List Int) (vs:List Value),WellAll P h vs (ns.map WData.int)->IntsAre vs ns:=by
 intro ns
 induction ns with
 |nil=>
  intro vs w
  rw [G0O] at w
  cases w
  exact .nil
 |cons n ns ih=>
  intro vs w
  rw [G0v] at w
  cases w with
  |cons a b=>
   cases a
   exact .cons _ _ (ih _ b)
theorem jid {l:OpenLaw} {n:Nat} (hn:l.most=some n) {P:Params} {h:Heap} {args:List WData} {vals:List Value}
 (hpre:l.row.toRowW.claim.pre args=true) (hwl:WellAll P h vals args):
 ∃a vs ns,vals= [Value.ref a]/\args= [WData.list (ns.map WData.int)]/\h.get? a=some {cls:= .type "list",data:= .seq vs.toArray}/\IntsAre vs ns/\ns.length<=n:=by
 have hsh:WShape.hasAll [] args [.list .int]=true:=(pre_splitW hpre).1
 have hc:l.pre.holds [] {args:=args}=true:=(pre_splitW hpre).2
 obtain⟨d,r,rfl,h1,h2⟩:=hasAllW_cons hsh
 obtain rfl:=hasAllW_nil h2
 obtain⟨xs,rfl,h3⟩:=hasW_list h1
 obtain⟨ns,rfl⟩:=items_int h3
 have hlen:ns.length<=n:=by
  unfold OpenLaw.pre at hc
  have h4:(WTm.not (.lt (.lit (.int (n:Int))) (.len (.arg 0)))).holds [] {args:= [.list (ns.map .int)]}=true:=by
   have h4:=(holds_andW hc).1
   rw [hn] at h4
   exact h4
  have h5:=condW_of h4 (w_not (w_lt w_lit (w_len_list (w_arg rfl))))
  rw [G0a] at h5
  refine Nat.le_of_not_lt λq=> ?_
  have q' :(n:Int)<((ns.length:Nat):Int):=by omega
  first
   |(rw [G0r q'] at h5;exact absurd h5 (by decide))
   |(simp at h5;omega)
 cases hwl with
 |cons w1 w2=>
  cases w2
  cases w1 with
  |list ho hall=>exact⟨_,_,ns,rfl,rfl,ho,jdC ns _ hall,hlen⟩
theorem jie (l:OpenLaw) (args:List WData):l.row.toRowW.claim.post args (.bool true) args=true:=
 postW_of (r:=l.row.toRowW) (X:=(true==true))
  (show WShape.has [] (.bool true) .bool=true by first|rfl|decide|simp [WShape.has,WShape.arms,WShape.armsAll])
  (show (WTm.eq .res (.lit (.bool true))).value [] {args:=args,res:=some (.bool true),after:=args}=some (.bool (true==true)) from w_eq_bool (w_res rfl) w_lit) rfl
theorem attach_call {l:OpenLaw} {n:Nat} {q:Program} {loose:List Str} {XP:(Str->Option Value)->Heap->Prop} {YP:World->Heap->Prop} {d:DefRec}
 (hn:l.most=some n) (hdf:d.params.defaults= [])
 (call: ∀ (w:World) (s₀ s₁:Shared) (mg mb:Str->Option Value) (fa:Addr) (o:Obj) (pm cd doc:Value) (a:Addr) (vs:List Value) (ns:List Int),
  Ground q loose [] XP w s₀ mg mb s₁.heap->YP w s₁.heap->
  s₁.heap.get? fa=some o->o.data= .func (docDef d.name d.params d.body d.scope pm cd doc)->s₁.heap.CodeRec cd d.name->mg d.name=some (.ref fa)->
  s₁.heap.get? a=some {cls:= .type "list",data:= .seq vs.toArray}->IntsAre vs ns->ns.length<=n->s₁.gens= #[]->
  codeAny (model l.prog w) callerA (.call (.ref fa) ⟨[.ref a],[]⟩) (λr s' =>r= .ok (.ret (.bool true))/\OldK s₁.heap s'.heap/\s'.os=s₁.os/\AllBare s'.gens) s₁):
 WalkO q loose XP YP l.row.toRowW d [] (λf vs=>PySem.call f vs):=by
 intro w s₀ s₁ mg mb G Y fa o pm cd doc dV kV ho hd hcd hD hmg hg args vals as hpre hlay hrd hwl hlo
 obtain rfl:dV= .none:=Dflts.none hD hdf
 obtain rfl:kV= .none:=Dflts.noKw hD
 obtain⟨a,vs,ns,rfl,rfl,hobj,hints,hlen⟩:=jid hn hpre hwl
 refine enter_call (codeAny_mono (call w s₀ s₁ mg mb fa o pm cd doc a vs ns G Y ho (fd_plain hd) hcd hmg hobj hints hlen hg) λr s' hq=> ?_)
 obtain⟨rfl,h2,h3,h4⟩:=hq
 exact⟨.inl ⟨.bool true,.bool true,[],rfl,λ_=>rfl,.bool true,jie l _,λ_=>⟨List.Pairwise.nil,λ_ hm=>(nomatch hm)⟩⟩,h2,h3,h4⟩
end Att
namespace L2
open PySem PySem.Spec PyProof.Rows
theorem jfK: ∀ {vs:List Value} {ns:List Int},IntsAre vs ns->Vals (ns.map V.int) vs
 |_,_,.nil=> .nil
 |_,_,.cons n t h=> .cons ⟨t,rfl⟩ (jfK h)
def jb8 (s:Stmt):Arguments:=match s with
 | .FunctionDef _ a _ _ _ _ _ _ _ _=>a
 |_=> {posonlyargs:= [],args:= [],vararg:=none,kwonlyargs:= [],kw_defaults:= [],kwarg:=none,defaults:= []}
def jbj (s:Stmt):List Stmt:=match s with
 | .FunctionDef _ _ b _ _ _ _ _ _ _=>b
 |_=> []
def jad (s:Stmt):Scope:=match s with
 | .FunctionDef _ _ _ _ _ _ sc _ _ _=>sc
 |_=> {kind:= .function,names:= [],isGenerator:=false,isCoroutine:=false}
abbrev CX0:CXT:=λ_ _ _ _ _ _=>False
abbrev E0:XK:=λ_ _ _=>False
theorem joq {X:Cx}:jh8 CX0 X E0:=λ_ _ _ _ _ _ _ h=>h.elim
structure Fun (K:PySem.W.Frag) (x qual:Str) (st:Stmt) (f:Addr) (fd:FuncData):Prop where
 ex: ∃ (oc:Value) (od:Option Addr) (kV doc pm:Value) (an:Option Addr) (cdv ct:Value) (osl:Array (Option Value)),
  fd=PySem.W.fnOf x qual (jb8 st) (jbj st) (jad st) .none kV doc pm an cdv ct/\K.lookup f=some ⟨oc,od,.func fd,osl⟩/\PySem.W.codeIn K cdv qual=true
 kp:PySem.W.keepIn K (.ref f)=true
section
variable {P:Program} {w:World} {K:PySem.W.Frag} {mg:Str->Option Value} {base:Heap}
theorem Fun.ok {x qual:Str} {st:Stmt} {f:Addr} {fd:FuncData} {N ps:List Str} {k:Nat} {sp:Sp} (F:Fun K x qual st f fd) (S:FnScope N ps (jad st)) (len: ∀vs H Q E,sp vs H Q E->vs.length=ps.length)
 (hbody: ∀ (cdv:Value) (A:Around) (outer:List Env) (s:Shared) (H:Hp) (vs:List V) (Q:VK) (E:XK),Room k (A.deeper (envOfC qual (jad st) s.heap.objs.size f cdv))->sp vs H Q E->
  ∃t,PSs (jku CX0 P w K mg base N qual (jad st) f cdv A outer s H E).nox (jbj st) t/\t {nx:=λ_ H' =>Q .non H',rt:=Q} (jdy N vs) H):FnOk P w K mg base CX0 (k+1) f fd ps sp:=by
 obtain⟨oc,od,kV,doc,pm,an,cdv,ct,osl,rfl,lk,hcd⟩:=F.ex
 refine jok lk hcd S len λA outer s H vs Q E hr hsp=> ?_
 obtain⟨t,h,q⟩:=hbody cdv A outer s H vs Q E hr hsp
 exact⟨t,h.nox,q⟩
theorem Fun.binds {x qual:Str} {st:Stmt} {f:Addr} {fd:FuncData} {ps:List Str} (F:Fun K x qual st f fd)
 (h: ∀ (kV doc pm:Value) (an:Option Addr) (cdv ct:Value) (us:List Value),us.length=ps.length->bindArgs (PySem.W.fnOf x qual (jb8 st) (jbj st) (jad st) .none kV doc pm an cdv ct) ⟨us,[]⟩=pure (ps.zip us)):Binds K fd ps []:=by
 obtain⟨oc,od,kV,doc,pm,an,cdv,ct,osl,rfl,lk,hcd⟩:=F.ex
 exact .all (h kV doc pm an cdv ct)
theorem jmW {x qual:Str} {st:Stmt} {f:Addr} {oc:Value} {od an:Option Addr} {osl:Array (Option Value)} {kV doc pm cdv ct:Value} (l:K.lookup f=some ⟨oc,od,.func (PySem.W.fnOf x qual (jb8 st) (jbj st) (jad st) .none kV doc pm an cdv ct),osl⟩)
 (c:PySem.W.codeIn K cdv qual=true) (k:PySem.W.keepIn K (.ref f)=true):Fun K x qual st f (PySem.W.fnOf x qual (jb8 st) (jbj st) (jad st) .none kV doc pm an cdv ct):=⟨⟨oc,od,kV,doc,pm,an,cdv,ct,osl,rfl,l,c⟩,k⟩
end
theorem jbk {n:Nat} (h:n<=1000):n<sizeLine:=G1O h (by decide)
section
variable {X:Cx}
theorem pv (i:Nat) {x:Str} {pos:Pos} (hN:X.N[i]? =some x:=by rfl) (hv:Vis X.env.scope x:=by first|exact Or.inl rfl|exact Or.inr (Or.inl rfl)|exact Or.inr (Or.inr rfl)) (hd:(x==("__debug__" :Str))=false:=by decide)
 (hcd:(x==("__classdict__" :Str))=false:=by decide):PE X (.Name x pos) (jn7 i):=jkr hN hv hd hcd
end
theorem jdl {A B:Prop} (h:B):if false=true then A else B:=by
 rw [if_neg G0g]
 exact h
theorem jjn {A B:Prop} (h:A):if true=true then A else B:=by
 rw [if_pos rfl]
 exact h
theorem jjo {c A B:Prop} [Decidable c] (h1:c->A) (h2: ¬c->B):if c then A else B:=by
 by_cases h:c
 ·rw [if_pos h]
  exact h1 h
 ·rw [if_neg h]
  exact h2 h
structure M1 (X:Cx) (o:Expr) (m:Str) (apos:Pos) (e:Expr) (cpos:Pos):Prop where
 base:attributeBase o m X.env (eval o X.env)=eval o X.env
 few:((backTo cpos (starEach [e] X.env)).all (λx=> !x.1)&&(backToKw cpos (keywordEach [] X.env)).all (λx=>x.1.isSome)
  &&decide (([e]:List Expr).length+([]:List Keyword).length+(if ([]:List Keyword).isEmpty then 0 else 1)<30))=true
 line:(apos.endLine==cpos.line)=true
 trees:backTo cpos (starEach [e] X.env)= [(false,eval e X.env)]
structure M2 (X:Cx) (o:Expr) (m:Str) (apos:Pos) (e f:Expr) (cpos:Pos):Prop where
 base:attributeBase o m X.env (eval o X.env)=eval o X.env
 few:((backTo cpos (starEach [e,f] X.env)).all (λx=> !x.1)&&(backToKw cpos (keywordEach [] X.env)).all (λx=>x.1.isSome)
  &&decide (([e,f]:List Expr).length+([]:List Keyword).length+(if ([]:List Keyword).isEmpty then 0 else 1)<30))=true
 line:(apos.endLine==cpos.line)=true
 trees:backTo cpos (starEach [e,f] X.env)= [(false,eval e X.env),(false,eval f X.env)]
def jbr (names:List (Str×NameKind)) (env:Env) (cs:List (Str×Addr)):List (Str×Addr):=
 names.foldl (λcs p=>if p.2= .free then (match env.cells.lookup p.1 with|some c=>(p.1,c)::cs|none=>cs) else cs) cs
theorem ja7 (p:Str×NameKind) (l:List (Str×NameKind)) (env:Env) (cs:List (Str×Addr)):
 jbr (p::l) env cs=jbr l env (if p.2= .free then (match env.cells.lookup p.1 with|some c=>(p.1,c)::cs|none=>cs) else cs):=rfl
theorem jdD {env:Env} {f:Str×NameKind->List (Str×Addr)->Sem (ForInStep (List (Str×Addr)))}
 (h1: ∀p cs,p.2≠ .free->f p cs=pure (.yield cs)) (h2: ∀p cs c,p.2= .free->env.cells.lookup p.1=some c->f p cs=pure (.yield ((p.1,c)::cs))):
 ∀ (l:List (Str×NameKind)) (cs:List (Str×Addr)),(∀p∈l,p.2= .free-> ∃c,env.cells.lookup p.1=some c)->forIn l cs f=pure (jbr l env cs)
 | [],cs,_=>rfl
 |p::l,cs,h=>by
  have ih:=jdD h1 h2 l
  by_cases hp:p.2= .free
  ·obtain⟨c,hc⟩:=h p G0B hp
   rw [G16,h2 p cs c hp hc,pure_bind]
   show forIn l ((p.1,c)::cs) f=_
   rw [ih _ λq hq=>h q (G0w _ hq),ja7,if_pos hp,hc]
  ·rw [G16,h1 p cs hp,pure_bind]
   show forIn l cs f=_
   rw [ih _ λq hq=>h q (G0w _ hq),ja7,if_neg hp]
theorem jeV {scope:Scope} {env:Env} (h: ∀p∈scope.names,p.2= .free-> ∃c,env.cells.lookup p.1=some c):closureFor scope env=pure (jbr scope.names env []):=by
 simp only [closureFor]
 rw [jdD (env:=env) (λp cs hp=> ?_) (λp cs c hp hc=> ?_) _ _ h]
 ·rfl
 ·obtain⟨n,k⟩:=p
  have hb:(k==NameKind.free)=false:=by simpa using hp
  simp only [hb,G0H,G3q]
 ·obtain⟨n,k⟩:=p
  have hb:(k==NameKind.free)=true:=by simpa using hp
  have hc' :env.cells.lookup n=some c:=hc
  simp only [hb,if_true,cellOf,hc',pure_bind]
theorem jdE {env:Env}: ∀ (l:List (Str×NameKind)) (cs:List (Str×Addr)),(∀p∈cs,env.cells.lookup p.1=some p.2)-> ∀p∈jbr l env cs,env.cells.lookup p.1=some p.2
 | [],cs,h,p,hp=>h p hp
 |q::l,cs,h,p,hp=>by
  rw [ja7] at hp
  refine jdE l _ (λr hr=> ?_) p hp
  by_cases hq:q.2= .free
  ·rw [if_pos hq] at hr
   cases e:env.cells.lookup q.1 with
   |none=>rw [e] at hr;exact h r hr
   |some c=>
    rw [e] at hr
    rcases G0u.mp hr with rfl|hr
    ·exact e
    ·exact h r hr
  ·rw [if_neg hq] at hr;exact h r hr
theorem jdF {env:Env}: ∀ (l:List (Str×NameKind)) (cs:List (Str×Addr)),∀p∈cs,p∈jbr l env cs
 | [],cs,p,hp=>hp
 |q::l,cs,p,hp=>by
  rw [ja7]
  refine jdF l _ p ?_
  by_cases hq:q.2= .free
  ·rw [if_pos hq]
   cases e:env.cells.lookup q.1 with
   |none=>exact hp
   |some c=>exact G0w _ hp
  ·rw [if_neg hq];exact hp
theorem jdG {env:Env} {x:Str} {c:Addr} (hc:env.cells.lookup x=some c): ∀ (l:List (Str×NameKind)) (cs:List (Str×Addr)),(x,NameKind.free)∈l->(x,c)∈jbr l env cs
 |q::l,cs,h=>by
  rw [ja7]
  rcases G0u.mp h with e|h
  ·subst e
   rw [if_pos rfl,hc]
   exact jdF l _ _ G0B
  ·exact jdG hc l _ h
theorem jbi {α:Type}: ∀ {l:List (Str×α)} {x:Str} {c:α},l.lookup x=some c->(x,c)∈l
 | [],_,_,h=>by simp at h
 |(n,k)::r,x,c,h=>by
  rw [G1f] at h
  cases hx:x==n with
  |true=>
   rw [hx] at h
   have e:x=n:=eq_of_beq hx
   cases h;subst e
   exact G0B
  |false=>rw [hx] at h;exact G0w _ (jbi h)
theorem jes {α:Type}: ∀ {l:List (Str×α)} {x:Str} {c:α},(x,c)∈l-> ∃c',l.lookup x=some c'
 |(n,k)::r,x,c,h=>by
  rw [G1f]
  cases hx:x==n with
  |true=>exact⟨_,rfl⟩
  |false=>
   rcases G0u.mp h with e|h
   ·cases e;simp at hx
   ·exact jes h
theorem jet {l:List (Str×NameKind)} {env:Env} {x:Str} {c:Addr} (h:(jbr l env []).lookup x=some c):env.cells.lookup x=some c:=
 jdE l [] (λ_ z=>nomatch z) (x,c) (jbi h)
theorem jig {l:List (Str×NameKind)} {env:Env} {x:Str} {c:Addr} (hc:env.cells.lookup x=some c) (h:(x,NameKind.free)∈l):(jbr l env []).lookup x=some c:=by
 obtain⟨c',e⟩:=jes (jdG hc l [] h)
 have:=jet e
 rw [hc] at this;cases this
 exact e
theorem jbT {κ:Type} {f:Str×κ->Str×κ} {g:Str->κ->κ} (hf: ∀n k,f (n,k)=(n,g n k)) (x:Str): ∀l:List (Str×κ),(l.map f).lookup x=(l.lookup x).map (g x)
 | []=>rfl
 |(n,k)::r=>by
  rw [G0v,hf,G1f,G1f,jbT hf x r]
  cases same:x==n with
  |false=>rfl
  |true=>rw [eq_of_beq same];rfl
theorem jaG {env:Env} {names:List (Str×NameKind)} {x:Str} {k:NameKind} (found:
 (names.map λ(n,k)=>if (k==NameKind.free&&env.scope.kind== .function&&env.kindOf n==some .cell) then (n,NameKind.cell) else (n,k)).lookup x=some k):
  names.lookup x=some k\/names.lookup x=some .free:=by
 rw [jbT (g:=λn k=>if (k==NameKind.free&&env.scope.kind== .function&&env.kindOf n==some .cell) then .cell else k) (λn k=>by dsimp only;split<;>rfl)] at found
 obtain⟨k0,was,now⟩:=G2f.mp found
 split at now
 ·rename_i c
  simp only [G1o,G3o] at c
  exact .inr (by rw [was,c.1.1])
 ·exact .inl (by rw [was,now])
theorem jbg: ∀ (names:List (Str×NameKind)) (n:Nat) (acc:List (Str×Addr)) (p:Str×Addr),p∈cellsFrom n names acc->p∈acc\/(n<=p.2/\(p.1,NameKind.cell)∈names)
 | [],_,_,_,h=> .inl h
 |(x,k)::r,n,acc,p,h=>by
  unfold cellsFrom at h
  split at h
  ·rename_i hk
   rcases jbg r (n+1) _ p h with z|⟨z1,z2⟩
   ·rcases G0u.mp z with e|z
    ·subst e
     have:k= .cell:=by simpa using hk
     subst this
     exact .inr ⟨G0d _,G0B⟩
    ·exact .inl z
   ·exact .inr ⟨by omega,G0w _ z2⟩
  ·rcases jbg r n acc p h with z|⟨z1,z2⟩
   ·exact .inl z
   ·exact .inr ⟨z1,G0w _ z2⟩
theorem jay: ∀ (names:List (Str×NameKind)) (n:Nat) (acc:List (Str×Addr)),cellsFrom n names acc=cellsFrom n names []++acc
 | [],_,_=>rfl
 |(x,k)::r,n,acc=>by
  unfold cellsFrom
  split
  ·rw [jay r (n+1) ((x,n)::acc),jay r (n+1) [(x,n)],G2N];rfl
  ·exact jay r n acc
theorem jc1 {α:Type} (l l' :List (Str×α)) (x:Str):(l++l').lookup x=(match l.lookup x with|some c=>some c|none=>l'.lookup x):=by
 induction l with
 |nil=>rfl
 |cons p l ih=>
  obtain⟨n,c⟩:=p
  rw [G0D,G1f,G1f]
  cases x==n with
  |true=>rfl
  |false=>exact ih
theorem jcz {env:Env} {names:List (Str×NameKind)} {x:Str} (here:names.lookup x=some .cell):
 (names.map λ(n,k)=>if (k==NameKind.free&&env.scope.kind== .function&&env.kindOf n==some .cell) then (n,NameKind.cell) else (n,k)).lookup x=some .cell:=by
 rw [jbT (g:=λn k=>if (k==NameKind.free&&env.scope.kind== .function&&env.kindOf n==some .cell) then .cell else k) (λn k=>by dsimp only;split<;>rfl),here]
 simp
section
variable {M:Model} {A:Around} {E:Value->Shared->Prop} {s:Shared}
theorem jhx (h:Heap) (names:List (Str×NameKind)):(∀n c,(n,c)∈cellsFrom h.objs.size names []->(pushCells h names).IsCell c none/\h.objs.size<=c)/\(cellsFrom h.objs.size names []).Pairwise λx y=>x.2≠y.2:=
 have laid:=cellsFrom_ok names h h.objs.size [] ⟨by simp,.nil⟩ (G0d _)
 ⟨laid.empty,laid.apart⟩
theorem jfL {scope:Scope} {globals:Addr} {closure:List (Str×Addr)} {qual:Str} {func:Option Addr} {code:Value} {outer:Env} {builtins:Addr} {Q:Env->Shared->Prop}
 (hQ: ∀h',h'.Ns s.heap.objs.size (λ_=>none)->(∀b o,s.heap.get? b=some o->h'.get? b=some o)->(∀n c,(n,c)∈cellsFrom (s.heap.objs.size+1) scope.names []->h'.IsCell c none/\s.heap.objs.size+1<=c)->
  ((cellsFrom (s.heap.objs.size+1) scope.names []).Pairwise λx y=>x.2≠y.2)->
  Q (newEnv scope s.heap.objs.size globals (cellsFrom (s.heap.objs.size+1) scope.names closure) qual func code (some outer) builtins) {s with heap:=h'}):
 wpAny M A (newFunctionEnv scope globals closure [] qual func code (some outer) builtins) Q E s:=by
 have names:=jhx (s.heap.push {cls:= .type "dict",data:= .dict #[]}) scope.names
 have first:(s.heap.push {cls:= .type "dict",data:= .dict #[]}).objs.size=s.heap.objs.size+1:=G2L ..
 rw [first] at names
 unfold newFunctionEnv
 refine wpAny_bind (wpAny_alloc (wpAny_bind (wpAny_layCells _ (λn k cs=>rfl) _ _ _ _ ?_)))
 simp only [Option.isSome_some,if_true]
 rw [first]
 exact wpAny_bind (G0c (G0c (hQ _ ((Heap.Ns.new _ _).keeps (pushCells_keeps _ _)) (λb o here=>pushCells_keeps _ _ b o (G0b _ here)) names.1 names.2)))
end
def jax (X:Cx) (scope:Scope) (C:Addr):List (Str×Addr):=cellsFrom (C+1) scope.names (jbr scope.names X.env [])
def jeW (X:Cx) (scope:Scope) (C:Addr) (s₀:Shared) (H₀:Hp) (ex:List Addr):Cx:=
 {X with s₀:=s₀,H₀:=H₀,env:=compEnvC scope (jax X scope C) C X.env,outer:=X.stack,ex:=ex,fn:=λx=>scope.names.lookup x==some .cell,pn:= [],xe:=λ_ _=>False}
def jaT (X:Cx) (scope:Scope) (X' :Cx):Prop:= ∃C s₀ H₀ ex,X' =jeW X scope C s₀ H₀ ex
structure BlockOk (X:Cx) (scope:Scope) (js:List Nat):Prop where
 kind:scope.kind= .function
 locs: ∀p∈scope.names,p.2= .local->scope.names.lookup p.1=some .local
 cels: ∀p∈scope.names,p.2= .cell->scope.names.lookup p.1=some .cell
 free: ∀p∈scope.names,p.2= .free->X.env.scope.names.lookup p.1=some .cell\/X.env.scope.names.lookup p.1=some .free
 js: ∀ (i:Nat) (x:Str),X.N[i]? =some x->(scope.names.lookup x=some .local\/scope.names.lookup x=some .cell)->i∈js
theorem jbA {X:Cx} {scope:Scope} {js:List Nat} (S:BlockOk X scope js) {C:Addr} {x:Str} {c:Addr} (h:(jax X scope C).lookup x=some c):
 (scope.names.lookup x≠some .cell/\X.env.cells.lookup x=some c)\/(scope.names.lookup x=some .cell/\(x,c)∈cellsFrom (C+1) scope.names []):=by
 unfold jax at h
 rw [jay,jc1] at h
 cases e:(cellsFrom (C+1) scope.names []).lookup x with
 |some d=>
  rw [e] at h
  cases h
  have m:=jbi e
  rcases jbg _ _ _ _ m with z|⟨_,z⟩
  ·exact absurd z (by simp)
  ·exact .inr ⟨S.cels _ z rfl,m⟩
 |none=>
  rw [e] at h
  refine .inl ⟨λz=> ?_,jet h⟩
  obtain⟨d,hd⟩:=jdr (sc:=scope) (n:=C+1) z
  rw [e] at hd;cases hd
theorem jdg {X:Cx} {scope:Scope} {js:List Nat} (S:BlockOk X scope js) {C:Addr} {x:Str} {c:Addr} (hc:X.env.cells.lookup x=some c) (h:(x,NameKind.free)∈scope.names) (hn:scope.names.lookup x≠some .cell):(jax X scope C).lookup x=some c:=by
 unfold jax
 rw [jay,jc1]
 cases e:(cellsFrom (C+1) scope.names []).lookup x with
 |some d=>
  rcases jbg _ _ _ _ (jbi e) with z|⟨_,z⟩
  ·exact absurd z (by simp)
  ·exact absurd (S.cels _ z rfl) hn
 |none=>exact jig hc h
def jbB:List Nat->St->St
 | [],σ=>σ
 |j::js,σ=>jbB js (σ.set j none)
theorem jeu: ∀ (js:List Nat) (σ:St),(jbB js σ).length=σ.length
 | [],_=>rfl
 |j::js,σ=>by rw [jbB,jeu js];simp
theorem jdH: ∀ (js:List Nat) (σ:St) (i:Nat) (v:V),(jbB js σ)[i]? =some (some v)->σ[i]? =some (some v)
 | [],_,_,_,h=>h
 |j::js,σ,i,v,h=>by
  have h1:=jdH js _ i v h
  by_cases e:i=j
  ·subst e
   rw [G2h] at h1
   simp at h1
  ·rwa [G1e (Ne.symm e)] at h1
theorem jbm: ∀ (js:List Nat) (σ:St) (i:Nat) (v:V),i∈js-> ¬ (jbB js σ)[i]? =some (some v)
 |j::js,σ,i,v,hm,h=>by
  rcases G0u.mp hm with rfl|hm
  ·have h1:=jdH js _ i v h
   rw [G2h] at h1
   simp at h1
  ·exact jbm js _ i v hm h
theorem HOk.track {P:Program} {w:World} {H:Hp} {h:Heap} {a:Addr} {o:HO} (x:HOk P w H h) (hn:H a=none) (new:ObjOk P w (upd H a o) h a o):HOk P w (upd H a o) h:=λb u e=>by
 by_cases hb:b=a
 ·subst hb;rw [jam] at e;cases e;exact new
 ·rw [jal hb] at e
  exact(x b u e).stay (λc v _ q=>q) (λc q=>by rw [jal (jag q hn)];exact q) λc xs q=>by rw [jal (jag q hn)];exact q
def Agree (σ σ' :St):Prop:=σ'.length=σ.length/\ ∀ (i:Nat) (v:V),σ[i]? =some (some v)->σ'[i]? =some (some v)
theorem Agree.set {σ:St} {j:Nat} (v:V) (h: ∀u,¬σ[j]? =some (some u)):Agree σ (σ.set j (some v)):=⟨by simp,λi u q=>by
 by_cases e:j=i
 ·subst e;exact absurd q (h u)
 ·rw [G1e e];exact q⟩
theorem Agree.trans {a b c:St} (x:Agree a b) (y:Agree b c):Agree a c:=⟨y.1.trans x.1,λi v h=>y.2 i v (x.2 i v h)⟩
def PTs (X:Cx) (ifs:List Expr) (t:TT):Prop:=
 ∀ (pins:List (Addr×Obj)) (s:Shared) (σ:St) (H:Hp) (Q:Bool->Hp->Prop),Inv X pins σ H s->t σ H Q->
  wpAny (model X.prog X.w) X.A (forIn ifs true λc r=>if r=true then do let ok <-isTrue c X.env (eval c X.env);pure (ForInStep.yield ok) else pure (ForInStep.yield r)) (TP X pins σ Q) X.xe s
def jpf:TT:=λ_ H Q=>Q true H
theorem jle {X:Cx}:PTs X [] jpf:=λ_ _ _ H _ I h=>wpAny_tests_nil ⟨H,I,h⟩
def jih (iter target:Expr) (ifs:List Expr) (it:Value) (env:Env) (act:Sem Unit) (nxt:Code):Sem PySem.Fin:=do
 standAt iter.pos
 match <-pyNext it with
 |none=>pure (.done .next)
 |some v=>
  letOwnedTupleGo target it v
  assign target env v
  let mut ok:=true
  for c in ifs do
   if ok then ok <-isTrue c env (eval c env)
  if ok then act
  again nxt
theorem jjD {prog:Program} {w:World} {A:Around} {R:Result->Shared->Prop} {s:Shared} {elt target iter:Expr} {gens:List Comprehension} {scope:Scope} {pos:Pos} {ifs:List Expr} {depth:Nat} {it acc:Value} {env:Env} {act:Sem Unit} (I:Nat->Shared->Prop)
 (heq:compTurn (.ListComp elt gens scope pos) depth it acc env=jih iter target ifs it env act (.compLoop (.ListComp elt gens scope pos) depth it acc env))
 (turn: ∀n s,I n s->wpAny (model prog w) A (pyNext it) (λr s₁=>match r with
  |none=>R (.ok .next) s₁
  |some v=>wpAny (model prog w) A (letOwnedTupleGo target it v) (λ_ s₁=>wpAny (model prog w) A (assign target env v) (λ_ s₂=>
   wpAny (model prog w) A (forIn ifs true λc r=>if r=true then do let ok <-PySem.isTrue c env (eval c env);pure (ForInStep.yield ok) else pure (ForInStep.yield r)) (λok s₃=>
    if ok=true then wpAny (model prog w) A act (λ_ s₅=> ∃m,m<n/\I m s₅) (λ_ _=>False) s₃
    else ∃m,m<n/\I m s₃) (λ_ _=>False) s₂) (λ_ _=>False) s₁) (λ_ _=>False) s₁) (λ_ _=>False) s)
 (n:Nat) (h:I n s):
 codeAny (model prog w) A (.compLoop (.ListComp elt gens scope pos) depth it acc env) R s:=by
 refine codeAny_loop rfl I (λn s hI=> ?_) n h
 show wpAny _ A ((compTurn (.ListComp elt gens scope pos) depth it acc env).onRaise (λx=>do noteFrame x env;theTreesLotGoes x)) _ _ s
 refine wpAny_noted ?_
 rw [heq]
 unfold jih
 refine wpAny_bind (wpAny_standAt (wpAny_bind (G0S (turn n s hI) (λr s₁ h₁=> ?_) λ_ _ h' =>h'.elim)))
 cases r with
 |none=>exact G0c h₁
 |some v=>
  refine wpAny_bind (G0S h₁ (λ_ s₁ h₁=> ?_) λ_ _ h' =>h'.elim)
  refine wpAny_bind (G0S h₁ (λ_ s₂ h₂=>wpAny_bind (G0S h₂ (λok s₃ h₃=> ?_) λ_ _ h' =>h'.elim)) λ_ _ h' =>h'.elim)
  cases ok with
  |false=>exact G0c ⟨rfl,h₃⟩
  |true=>exact wpAny_bind (G0S h₃ (λ_ s₅ h₅=>G0c ⟨rfl,h₅⟩) λ_ _ h' =>h'.elim)
abbrev TM:=St->Hp->List V->(List V->Hp->Prop)->Prop
def jpg (X:Cx) (D:Addr) (act:Sem Unit) (t:TM):Prop:=
 ∀ (pins:List (Addr×Obj)) (s:Shared) (σ:St) (H:Hp) (ys:List V) (us:List Value) (Q:List V->Hp->Prop),Inv X ([(D,LCg.lst us)]++pins) σ H s->Vals ys us->ys.length<=sizeLine->D∈X.ex->(∀x c,X.env.cells.lookup x=some c->c≠D)->(∀p∈X.pn++pins,p.1≠D)->t σ H ys Q->
  wpAny (model X.prog X.w) X.A act (λ_ s' => ∃ys' us' H',Vals ys' us' /\Inv X ([(D,LCg.lst us')]++pins) σ H' s' /\Q ys' H') (λ_ _=>False) s
def jph (te:TE):TM:=λσ H ys Q=>te σ H λy H1=>Q (ys++ [y]) H1
def jii (elt:Expr) (env:Env) (acc:Value):Sem Unit:=do let _ <-call (.builtin "list.append") [acc,<-eval elt env]
theorem jjE {X:Cx} {D:Addr} {elt:Expr} {te:TE} (hx:X.xe=λ_ _=>False) (he:PE X elt te):jpg X D (jii elt X.env (.ref D)) (jph te):=by
 intro pins s σ H ys us Q I hv hz DX cD pD h
 have q:=he _ s σ H _ I h
 rw [hx] at q
 unfold jii
 refine wpAny_bind (G0S q (λy s1 ⟨yv,H1,I1,r1,q1⟩=> ?_) λ_ _ z=>z)
 have zD:=I1.pin (D,LCg.lst us) (G0t _ (G1d _ G0B))
 refine wpAny_bind (append_at (its:=us.toArray) (n:=us.length) zD.1 (λh11 hs11 hD11=>G0c ?_) (by rw [G0f,<-hv.length];exact hz))
 have I10u:Inv X pins σ H1 s1:=I1.pins_of λp hp=>I1.pin p (G0t _ (G0t _ hp))
 have I11:Inv X pins σ H1 {s1 with heap:=h11}:=I10u.turned (t' :=s1.toks) (it:=D) (λb o hb e=>hs11.extBut b o hb e) zD.2.1 zD.2.2.1 (.inl DX) cD pD
 have eD:h11.get? D=some (LCg.lst (us++ [y])):=by rw [hD11];exact congrArg some (LCg.lst_snoc us y)
 refine⟨ys++ [yv],us++ [y],H1,hv.append (.cons r1 .nil),I11.pins_of λp hp=> ?_,q1⟩
 rcases G1a.mp hp with z|z
 ·rcases G0x.mp z with rfl
  exact⟨eD,zD.2.1,zD.2.2.1,zD.2.2.2.1,λv z=>by cases z⟩
 ·exact I11.pin p (G0t _ z)
def jpi (js : List Nat) (wi : TI) (g : TG) (tt : TT) (tm : TM) : TE := fun σ H Q => wi σ H fun J H1 =>
  ∃ W : Nat → Nat → List V → Hp → Prop, (∃ m, W 0 m [] H1) ∧ ∀ i m ys H, W i m ys H → ys.length ≤ sizeLine ∧
    ((J.stop i H ∧ ∀ p, H p = none → Q (.ref p) (upd H p (.lst ys))) ∨
     (J.go i H ∧ ∀ x H', J.yld i H x H' → g x (jbB js σ) H' fun σ2 H2 => Agree (jbB js σ) σ2 ∧ tt σ2 H2 fun b H3 =>
        if b = true then tm σ2 H3 ys fun ys' H4 => ∃ m', m' < m ∧ W (i + 1) m' ys' H4 else ∃ m', m' < m ∧ W (i + 1) m' ys H3))
def tLC (js:List Nat) (wi:TI) (g:TG) (tt:TT) (te:TE):TE:=jpi js wi g tt (jph te)
theorem jmX {X:Cx} {e elt iter tg:Expr} {ifs:List Expr} {rest:List Comprehension} {scope:Scope} {pos pos0:Pos} {js:List Nat} {wi:TI} {g:TG} {tt:TT} {tm:TM} {use:Option (Value->Sem Unit)} {Qv:Value->Shared->Prop} (hc:X.calm=true) (S:BlockOk X scope js) (hi:PI X tg iter wi)
 (he0:e= .ListComp elt (⟨tg,iter,ifs,0⟩::rest) scope pos)
 (hg: ∀X',jaT X scope X' ->PG X' tg g) (ht: ∀X',jaT X scope X' ->PTs X' ifs tt)
 (act:Env->Value->Sem Unit) (hturn: ∀it acc env,compTurn e 0 it acc env=jih iter tg ifs it env (act env acc) (.compLoop e 0 it acc env)) (he: ∀X',jaT X scope X' -> ∀D,jpg X' D (act X'.env (.ref D)) tm)
 (hs: ∀x,foldedSetIterable iter X.env x=pure x) {pins:List (Addr×Obj)} {s:Shared} {σ:St} {H:Hp} {Q:VK} (I:Inv X pins σ H s) (h:jpi js wi g tt tm σ H Q)
 (fin: ∀ (D C:Addr) (H' :Hp) (s' :Shared) (m:Str->Option Value),s'.heap.Ns C m->(∀h',Heap.SameBut C s'.heap h' ->Inv X pins σ H' {s' with heap:=h'})->H' C=none->C≠X.env.locals->C ∉ X.fs->X.s₀.heap.objs.size<=C->(∀x c,X.env.cells.lookup x=some c->c≠C)->(∀p∈X.pn++pins,p.1≠C)->
  Q (.ref D) H' ->compPost (model X.prog X.w) X.A X.xe use Qv (.ref D) C (.ok .next) s'):
 wpAny (model X.prog X.w) X.A (comprehension e scope X.env pos0 (newList []) false (eval iter X.env) use) Qv X.xe s:=by
 have hclos:=jeV (scope:=scope) (env:=X.env) (λp hp e=>I.ok.has p.1 (S.free p hp e))
 subst he0
 refine wpAny_comprehension_free (use:=use) rfl hs hclos S.kind S.locs (thn (hi pins s σ H _ I h) λv s1 h1=>thn h1 λitv s2 h2=> ?_)
 obtain⟨it,fp,tn,J,H2,e,I2,T,st2,f2,W,⟨m0,w0⟩,turn⟩:=h2
 subst e
 refine G1D (jfL (λh₁ hns₁ hkp₁ hcl₁ hap₁=> ?_))
 dsimp only at hns₁ hkp₁ hcl₁ hap₁ ⊢
 generalize hD:s2.heap.objs.size=D
 generalize hH3:s2.heap.push {cls:= .type "list",dict:=none,data:= .seq ([]:List Value).toArray}=h3 at hns₁ hkp₁ hcl₁ hap₁ ⊢
 have sz3:h3.objs.size=D+1:=by rw [<-hH3,G2L,hD]
 have up3: ∀b o,s2.heap.get? b=some o->h3.get? b=some o:=λb o e=>hH3 ▸ G0b _ e
 have I3:Inv X pins σ H2 {s2 with heap:=h3}:=I2.kept (t' :=s2.toks) up3
 have hD3:h3.get? D=some (LCg.lst []):=by rw [<-hH3,<-hD];exact G0m _ rfl
 have fD:jhZ X pins H2 D:=I2.fpOk (by rw [hD];exact G0d _) (I2.hok.fresh (by rw [hD];exact G0d _))
 have obf: ∀b∈fp,∃o,s2.heap.get? b=some o/\ ∀v,o.data≠ .cell v:=T.obj _ _ st2
 have ltf: ∀b∈fp,b<D:=λb hb=>by obtain⟨o,e,_⟩:=obf b hb;rw [<-hD];exact G0k e
 generalize hC:h3.objs.size=C at hns₁ hcl₁ hap₁ ⊢
 have CD:C=D+1:=hC.symm.trans sz3
 have upC: ∀b o,h3.get? b=some o->h₁.get? b=some o:=hkp₁
 generalize hX:jeW X scope C {s2 with heap:=h3} H2 (fp++ [D])=X'
 have iX:jaT X scope X' :=⟨C,_,_,_,hX.symm⟩
 have hf: ∀b∈fp++ [D],jhZ X pins H2 b:=λb hb=>(G1a.mp hb).elim (f2 b) λz=>by rw [G0x.mp z];exact fD
 have cl: ∀x c,(jax X scope C).lookup x=some c->X.env.cells.lookup x=some c\/C<c:=λx c e=>by
  rcases jbA S e with ⟨_,z⟩|⟨_,z⟩
  ·exact .inl z
  ·exact .inr (G2i (hcl₁ x c z).2)
 have olt: ∀x c,X.env.cells.lookup x=some c->c<C:=λx c e=>by obtain⟨v,q⟩:=I3.cell x c e;rw [<-hC];exact q.lt
 have ltb: ∀b∈fp++ [D],b<C:=λb hb=>(G1a.mp hb).elim (λz=>by have:=ltf b z;rw [CD];exact G2O this) λz=>by rw [G0x.mp z,CD];exact G1K _
 have okX:X'.Ok:=by
  subst hX
  refine⟨I.ok.mod,S.kind,I.ok.glob,I.ok.blt,G22 hC,λx y c e1 e2=> ?_,λx hx=> ?_,λx c z e=> ?_,I.ok.hd,I.ok.frames,.inl rfl,λb hb=>⟨G0G (ltb b hb),λx c e=>(cl x c e).elim (λz=>(hf b hb).2.2.2.2.1 x c z) λz=>G2o (G1I (ltb b hb) z)⟩,
   I3.bs,G0R I.ok.bsz I3.sz,λb o e hb=> ?_,λb hb z=> ?_,I3.stack,I3.stkFree⟩
  ·rcases jbA S e1 with ⟨_,z1⟩|⟨_,z1⟩<;>rcases jbA S e2 with ⟨_,z2⟩|⟨_,z2⟩
   ·exact I.ok.inj x y c z1 z2
   ·exact absurd (G1I (olt x c z1) (G2i (hcl₁ y c z2).2)) (G0P _)
   ·exact absurd (G1I (olt y c z2) (G2i (hcl₁ x c z1).2)) (G0P _)
   ·exact name_of_addr hap₁ z1 z2
  ·have own:scope.names.lookup x=some .cell-> ∃c,(jax X scope C).lookup x=some c:=λz=>by
    obtain⟨c,hc⟩:=jdr (sc:=scope) (n:=C+1) z
    exact⟨c,by unfold jax;rw [jay,jc1,hc]⟩
   have shr:scope.names.lookup x=some .free-> ∃c,(jax X scope C).lookup x=some c:=λz=>by
    have fm:=jbi z
    obtain⟨c,hc⟩:=I.ok.has x (S.free _ fm rfl)
    exact⟨c,jdg S hc fm (by rw [z];decide)⟩
   rcases hx with hx|hx
   ·rcases jaG (env:=X.env) hx with z|z
    ·exact own z
    ·exact shr z
   ·rcases jaG (env:=X.env) hx with z|z<;>exact shr z
  ·have z' :scope.names.lookup x=some .cell:=by
    have z2:(scope.names.lookup x==some NameKind.cell)=true:=z
    simpa using z2
   rcases jbA S e with ⟨n,_⟩|⟨_,m⟩
   ·exact absurd z' n
   ·show h3.objs.size<=c
    rw [hC];exact G0X (G2i (hcl₁ x c m).2)
  ·rcases (hf b hb).2.2.2.1 with z|z
   ·exact I.ok.noex b o e z
   ·exact absurd (G0A (G0k e) (G0R I.ok.bsz z)) (G0P _)
  ·rcases G0u.mp (I.stkSub b z) with q|q
   ·exact(hf b hb).2.1 q
   ·exact(hf b hb).2.2.1 q
 -- the block's first state
 have I4:Inv X' [(D,LCg.lst [])] (jbB js σ) H2 {s2 with heap:=h₁}:=by
  subst hX
  have hDC:D≠C:=by rw [CD];exact G0G (G1K _)
  refine⟨okX,rfl,I2.bare,Un.kept (λb u e=>upC b u e),⟨_,hns₁,λi x v e1 e2 e3=> ?_⟩,λx c e=> ?_,I3.hok.fresh (G22 hC),λx c e=>(cl x c e).elim (λz=>I2.freeC x c z) (λz=>I3.hok.fresh (by rw [<-hC] at z;exact G0X z)),λp hp=> ?_,I3.hok.kept upC,(jeu js σ).trans I2.len⟩
  ·have fr:scope.names.lookup x=some .free:=by
    rcases e3 with e3|e3|e3
    ·rcases jaG (env:=X.env) e3 with z|z
     ·exact absurd e2 (jbm js σ i v (S.js i x e1 (.inl z)))
     ·exact z
    ·rcases jaG (env:=X.env) e3 with z|z
     ·exact absurd e2 (jbm js σ i v (S.js i x e1 (.inr z)))
     ·exact z
    ·rcases jaG (env:=X.env) e3 with z|z<;>exact z
   have fm:=jbi fr
   obtain⟨m,hm,hl⟩:=I2.loc
   have vis:=S.free _ fm rfl
   obtain⟨u,r,lk⟩:=hl i x v e1 (jdH js σ i v e2) (.inr vis)
   have kd:(relabel scope X.env).names.lookup x=some .cell\/(relabel scope X.env).names.lookup x=some .free:=by
    rcases e3 with e3|e3|e3
    ·rcases jaG (env:=X.env) e3 with z|z
     ·rw [fr] at z;cases z
     ·exfalso
      have z2:=e3
      -- a local's kind stays
      exact absurd e2 (jbm js σ i v (S.js i x e1 (.inl (by
       have q: ∀ (l:List (Str×NameKind)),(l.map λ(n,k)=>if (k==NameKind.free&&X.env.scope.kind== .function&&X.env.kindOf n==some .cell) then (n,NameKind.cell) else (n,k)).lookup x=some .local->l.lookup x=some .local:=by
        intro l
        induction l with
        |nil=>intro h;simp at h
        |cons p l ih=>
         obtain⟨n,k'⟩:=p
         intro h
         have h' :List.lookup x ((if (k' ==NameKind.free&&X.env.scope.kind== .function&&X.env.kindOf n==some .cell)=true then (n,NameKind.cell) else (n,k'))::(l.map λ(n,k)=>if (k==NameKind.free&&X.env.scope.kind== .function&&X.env.kindOf n==some .cell) then (n,NameKind.cell) else (n,k)))=some .local:=h
         rw [G1f]
         by_cases hc:(k' ==NameKind.free&&X.env.scope.kind== .function&&X.env.kindOf n==some .cell)=true
         ·rw [if_pos hc,G1f] at h'
          cases hx:x==n with
          |true=>rw [hx] at h';cases h'
          |false=>rw [hx] at h';exact ih h'
         ·rw [if_neg hc,G1f] at h'
          cases hx:x==n with
          |true=>rw [hx] at h';exact h'
          |false=>rw [hx] at h';exact ih h'
       exact q _ z2))))
    ·exact .inl e3
    ·exact .inr e3
   rcases lk with ⟨k,_⟩|⟨_,c,hc,hcell⟩
   ·have k' :X.env.scope.names.lookup x=some .local:=k
    rcases vis with z|z<;>(rw [k'] at z;cases z)
   ·refine⟨u,r,.inr ⟨kd,c,jdg S hc fm (by rw [fr];decide),?_⟩⟩
    obtain⟨o,ho,hd⟩:=hcell
    exact⟨o,upC _ _ (up3 _ _ ho),hd⟩
  ·rcases jbA S e with ⟨_,z⟩|⟨_,z⟩
   ·obtain⟨v,o,ho,hd⟩:=I2.cell x c z
    exact⟨v,o,upC _ _ (up3 _ _ ho),hd⟩
   ·exact⟨none,(hcl₁ x c z).1⟩
  ·have hp' :p∈ [(D,LCg.lst [])]:=hp
   rcases G0x.mp hp' with rfl
   refine⟨upC _ _ hD3,fD.1,hDC,λz=> ?_,λv z=>by cases z⟩
   rcases G0u.mp (I.stkSub D z) with q|q
   ·exact fD.2.1 q
   ·exact fD.2.2.1 q
 have st4:tn 0 h₁:=T.keep _ _ _ st2 λb _ o e=>upC _ _ (up3 _ _ e)
 have eA:X'.A=X.A:=by rw [<-hX];rfl
 have eP:X'.prog=X.prog:=by rw [<-hX];rfl
 have eW:X'.w=X.w:=by rw [<-hX];rfl
 have eK:X'.K=X.K:=by rw [<-hX];rfl
 have eC:X'.calm=true:=by rw [<-hX];exact hc
 have eV:X'.env=compEnvC scope (jax X scope C) C X.env:=by rw [<-hX];rfl
 have eE:X'.xe=λ_ _=>False:=by rw [<-hX];rfl
 -- what stays true of the iterator's objects
 have stat: ∀ {us:List Value} {H' :Hp},(∀b∈fp,H' b=none)-> ∀b∈fp,jhZ X' [(D,LCg.lst us)] H' b:=λ{us H'} hn b hb=>by
  have q:=hf b (G1d _ hb)
  subst hX
  refine⟨hn b hb,G0G (ltb b (G1d _ hb)),λz=> ?_,.inl (G1d _ hb),λx c e=>(cl x c e).elim (λz=>q.2.2.2.2.1 x c z) (λz=>G2o (G1I (ltb b (G1d _ hb)) z)),λp hp=> ?_⟩
  ·rcases G0u.mp (I.stkSub b z) with r|r
   ·exact q.2.1 r
   ·exact q.2.2.1 r
  ·have hp' :p∈ [(D,LCg.lst us)]:=hp
   rcases G0x.mp hp' with rfl
   exact G2o (ltf b hb)
 have loop: ∀s₃:Shared,s₃= {s2 with heap:=h₁}->
  codeAny (model X.prog X.w) X.A (.compLoop (.ListComp elt (⟨tg,iter,ifs,0⟩::rest) scope pos) 0 (.ref it) (.ref D) (compEnvC scope (jax X scope C) C X.env))
   (compPost (model X.prog X.w) X.A X.xe use Qv (.ref D) C) s₃:=by
  rintro s₃ rfl
  refine jjD (act:=act (compEnvC scope (jax X scope C) C X.env) (.ref D)) (λn s' => ∃i ys us H',Vals ys us/\Inv X' [(D,LCg.lst us)] (jbB js σ) H' s' /\tn i s'.heap/\(∀b∈fp,H' b=none)/\W i n ys H') (hturn _ _ _) ?_ m0
   ⟨0,[],[],H2,.nil,I4,st4,λb hb=>(f2 b hb).1,w0⟩
  rintro n s5 ⟨i,ys,us,H5,hv5,I5,st5,fr5,w5⟩
  obtain⟨hz,tr⟩:=turn i n ys H5 w5
  rcases tr with ⟨stop,qn⟩|⟨go,step⟩
  ·have q:=T.done X' eP eW eK eC i _ s5 _ H5 (λ_ _=>False) I5 (stat fr5) st5 stop
   rw [eA] at q
   refine G0S q (λr s6 ⟨hr,I6⟩=> ?_) λ_ _ z=>z
   subst hr
   obtain⟨m6,hm6,_⟩:=I6.loc
   rw [eV] at hm6
   have zD:=I6.pin (D,LCg.lst us) (G0t _ G0B)
   have HD:H5 D=none:=zD.2.1
   have oD:s6.heap.get? D=some (LCg.lst us):=zD.1
   have hDC:D≠C:=by rw [CD];exact G0G (G1K _)
   have HC:H5 C=none:=by have z:=I6.free;rw [eV] at z;exact z
   have B:=I6.base
   have os6:s6.os=s2.os:=by have z:=I6.os;rw [<-hX] at z;exact z
   have Bu:Un (frs X.stack) (fp++ [D]) H2 H5 h3 s6.heap:=by rw [<-hX] at B;exact B
   have neC: ∀b o,h3.get? b=some o->b≠C:=λb o e=>by rw [<-hC];exact G0G (G0k e)
   refine fin D C (upd H5 D (.lst ys)) s6 m6 hm6 (λh' hs' => ?_) (by rw [jal (Ne.symm hDC)];exact HC) ?_ ?_ ?_ (λx c e=>G0G (olt x c e)) ?_ (qn D HD)
   ·have hk5:HOk X.prog X.w H5 h' :=λb u e=>by
     have z:=I6.hok b u e
     rw [eP,eW] at z
     refine z.stay (λc v hc q=>hs'.extBut c v ?_ q) (λ_ q=>q) λ_ _ q=>q
     rcases hc with rfl|hc
     ·exact jag e HC
     ·exact jag hc HC
    refine I3.call' (ch:=fp++ [D]) os6 ⟨λb o e n hb hx=> ?_,λb o e n hb hx=> ?_,λb o e n hx=> ?_,λb o e hx=> ?_,λb xs e=> ?_,λb o u e=> ?_,λb ps e=> ?_⟩ (hk5.track HD ?_) I6.bare λb hb=> ?_
    ·exact hs'.extBut b o (neC b o e) (Bu.keep b o e n hb hx)
    ·obtain⟨sl,q⟩:=Bu.slot b o e n hb hx
     exact⟨sl,hs'.extBut b _ (neC b o e) q⟩
    ·rw [jal λz=>hx (by rw [z];exact G0t _ G0B)]
     exact Bu.free b o e n hx
    ·obtain⟨o',q⟩:=Bu.there b o e hx
     exact⟨o',hs'.extBut b _ (neC b o e) q⟩
    ·have z:=Bu.tups b xs e
     rw [jal (jag z HD)];exact z
    ·have z:=Bu.frzs b o u e
     rw [jal (jag z HD)];exact z
    ·obtain⟨more,z⟩:=Bu.tbls b ps e
     exact⟨more,by rw [jal (jag z HD)];exact z⟩
    ·exact⟨hz,us,us.length,hv5,hs'.extBut D _ hDC oD⟩
    ·have q:=hf b hb
     exact⟨q.2.2.2.1,q.2.1,q.2.2.2.2.1,q.2.2.2.2.2⟩
   ·rw [<-hC];exact G2o I3.lt
   ·exact I3.nofs (G22 hC)
   ·rw [<-hC];exact I3.sz
   ·intro p hp
    have:=(I3.pin p hp).1
    rw [<-hC];exact G0G (G0k this)
  ·have q:=T.item X' eP eW eK eC i _ s5 _ H5 (λ_ _=>False) I5 (stat fr5) st5 go
   rw [eA] at q
   refine G0S q (λr s6 ⟨u,hr,h6⟩=> ?_) λ_ _ z=>z
   subst hr
   refine G0S h6 (λ_ s7 ⟨x,H7,I7,r7,y7,st7,fr7⟩=> ?_) λ_ _ z=>z
   have I7' :=I7.pinned (stat fr7) (T.obj _ _ st7)
   have q7:=hg X' iX _ s7 _ H7 x u _ I7' r7 (step x H7 y7)
   rw [eP,eW,eA,eV,eE] at q7
   refine G0S q7 (λ_ s8 ⟨σ8,H8,I8,ag8,q8⟩=> ?_) λ_ _ z=>z
   have q9:=ht X' iX _ s8 σ8 H8 _ I8 q8
   rw [eP,eW,eA,eV,eE] at q9
   refine G0S q9 (λok s9 ⟨H9,I9,q9⟩=> ?_) λ_ _ z=>z
   have keepT: ∀ {σ' :St} {H' :Hp} {s' :Shared} {us:List Value},Inv X' ([(D,LCg.lst us)]++jdx fp s7.heap) σ' H' s' ->tn (i+1) s'.heap/\ ∀b∈fp,H' b=none:=λ{σ' H' s' us} I' =>
    ⟨T.keep _ _ _ st7 λb hb o e=>(I'.pin (b,o) (G0t _ (G0t _ (jcm hb e)))).1,λb hb=>by
     obtain⟨o,e,_⟩:=T.obj _ _ st7 b hb
     exact(I'.pin (b,o) (G0t _ (G0t _ (jcm hb e)))).2.1⟩
   cases ok with
   |false=>
    have q9: ∃m',m' <n/\W (i+1) m' ys H9:=q9
    obtain⟨m',hm,w9⟩:=q9
    obtain⟨t9,f9⟩:=keepT I9
    exact⟨m',hm,i+1,ys,us,H9,hv5,(I9.unpinned).weak ag8.1.symm ag8.2,t9,f9,w9⟩
   |true=>
    have q9:tm σ8 H9 ys λys' H4=> ∃m',m' <n/\W (i+1) m' ys' H4:=q9
    have DX:D∈X'.ex:=by rw [<-hX];exact G0t _ G0B
    have pD: ∀p∈X'.pn++jdx fp s7.heap,p.1≠D:=λp hp=>by
     have hp' :p∈jdx fp s7.heap:=by rw [<-hX] at hp;simpa [jeW] using hp
     exact G0G (ltf _ (jfD hp').1)
    have cD: ∀x c,X'.env.cells.lookup x=some c->c≠D:=λx c e=>by
     rw [eV] at e
     exact(cl x c e).elim (λz=>fD.2.2.2.2.1 x c z) λz=>G2o (G1I (by rw [CD];exact G1K _) z)
    have q10:=he X' iX D _ s9 σ8 H9 ys us _ I9 hv5 hz DX cD pD q9
    rw [eP,eW,eA,eV] at q10
    show wpAny _ _ (act _ _) _ _ s9
    refine G0S q10 (λ_ s10 ⟨ys',us',H10,hv10,I10,m',hm,w10⟩=> ?_) λ_ _ z=>z
    obtain⟨t10,f10⟩:=keepT I10
    exact⟨m',hm,i+1,ys',us',H10,hv10,(I10.unpinned).weak ag8.1.symm ag8.2,t10,f10,w10⟩
 exact codeAny_compStart_list (loop _ rfl) (T.self X.A 0 _ _ _ st4 (loop _ rfl))
theorem jmY {X:Cx} {elt iter tg:Expr} {ifs:List Expr} {scope:Scope} {pos:Pos} {js:List Nat} {wi:TI} {g:TG} {tt:TT} {te:TE} (hc:X.calm=true) (S:BlockOk X scope js) (hi:PI X tg iter wi)
 (hg: ∀X',jaT X scope X' ->PG X' tg g) (ht: ∀X',jaT X scope X' ->PTs X' ifs tt) (he: ∀X',jaT X scope X' ->PE X' elt te)
 (hs: ∀x,foldedSetIterable iter X.env x=pure x:=by intro _;rfl):PE X (.ListComp elt [⟨tg,iter,ifs,0⟩] scope pos) (tLC js wi g tt te):=by
 intro pins s σ H Q I h
 rw [eval_ListComp]
 exact jmX (use:=none) hc S hi rfl hg ht (jii elt) (λ_ _ _=>rfl) (λX' hX D=>jjE (by obtain⟨_,_,_,_,rfl⟩:=hX;rfl) (he X' hX)) hs I h
  λD C H' s' m hn hk _ _ _ _ _ _ q=>⟨m,hn,λh' hs' =>⟨.ref D,H',hk h' hs',rfl,q⟩⟩
inductive D where
 |non|bl (b:Bool)|int (i:Int)|str (x:Str)|tup (ds:List D)|lst (a:Addr)|dic (x:Str) (i:Int)|scr (ns:List Int)|exc (C:Addr)|fn (a:Addr)
def Scr (K:PySem.W.Frag) (H:Hp) (a:Addr) (ns:List Int):Prop:=
 (∃o,H a=some (.frz o (.lst (ns.map V.int))))\/
  ∃ (o:Obj) (its:Array Value) (n:Nat),K.lookup a=some o/\o.cls= .type "list" /\o.dict=none/\o.data= .seq its n/\its.size<=sizeLine/\Vals (ns.map V.int) its.toList
theorem Scr.sq {K:PySem.W.Frag} {H:Hp} {a:Addr} {ns:List Int} (h:Scr K H a ns):SqL K H a (ns.map V.int):=h.elim (λz=> .inl (.inr z)) .inr
mutual
def RelD (K:PySem.W.Frag) (H:Hp):D->V->Prop
 | .non,v=>v= .non
 | .bl b,v=>v= .bl b
 | .int i,v=>v= .int i
 | .str x,v=>v= .str x
 | .tup ds,v=> ∃a vs,v= .ref a/\H a=some (.tup vs)/\RelDs K H ds vs
 | .lst a,v=>v= .ref a/\ ∃vs,H a=some (.lst vs)
 | .dic x i,v=> ∃a,v= .ref a/\H a=some (.dK [(Sum.inr x,V.int i)])
 | .scr ns,v=> ∃a,v= .ref a/\Scr K H a ns
 | .exc C,v=> ∃x o vs,v= .ref x/\H x=some (.frz o (.own 0))/\o.cls= .ref C/\o.data= .fields vs
 | .fn a,v=>v= .ref a/\PySem.W.keepIn K (.ref a)=true
def RelDs (K:PySem.W.Frag) (H:Hp):List D->List V->Prop
 | [],vs=>vs= []
 |d::ds,vs=> ∃v r,vs=v::r/\RelD K H d v/\RelDs K H ds r
end
structure Kept (H H' :Hp):Prop where
 tup: ∀a xs,H a=some (.tup xs)->H' a=some (.tup xs)
 lst: ∀a xs,H a=some (.lst xs)-> ∃ys,H' a=some (.lst ys)
 dic: ∀a k,H a=some (.dK k)->H' a=some (.dK k)
 frz: ∀a o u,H a=some (.frz o u)->H' a=some (.frz o u)
theorem Kept.refl (H:Hp):Kept H H:=⟨λ_ _ h=>h,λ_ xs h=>⟨xs,h⟩,λ_ _ h=>h,λ_ _ _ h=>h⟩
theorem Kept.trans {A B C:Hp} (x:Kept A B) (y:Kept B C):Kept A C:=
 ⟨λa xs h=>y.tup a xs (x.tup a xs h),λa xs h=>let ⟨_,e⟩:=x.lst a xs h;y.lst a _ e,λa k h=>y.dic a k (x.dic a k h),λa o u h=>y.frz a o u (x.frz a o u h)⟩
theorem Kept.new {H:Hp} {p:Addr} {o:HO} (h:H p=none):Kept H (upd H p o):=
 ⟨λa xs e=>by rw [jal (jag e h)];exact e,λa xs e=>⟨xs,by rw [jal (jag e h)];exact e⟩,λa k e=>by rw [jal (jag e h)];exact e,λa o u e=>by rw [jal (jag e h)];exact e⟩
theorem Kept.put {H:Hp} {p:Addr} {xs ys:List V} (h:H p=some (.lst xs)):Kept H (upd H p (.lst ys)):=
 ⟨λa zs e=>by rw [jal (jhU e h (by intro z;cases z))];exact e,λa zs e=>by
  by_cases q:a=p
  ·subst q;exact⟨ys,jam⟩
  ·exact⟨zs,by rw [jal q];exact e⟩,
  λa k e=>by rw [jal (jhU e h (by intro z;cases z))];exact e,λa o u e=>by rw [jal (jhU e h (by intro z;cases z))];exact e⟩
mutual
theorem RelD.mono {K:PySem.W.Frag} {H H' :Hp} (k:Kept H H'): ∀ {d:D} {v:V},RelD K H d v->RelD K H' d v
 | .non,_,h=>h
 | .bl _,_,h=>h
 | .int _,_,h=>h
 | .str _,_,h=>h
 | .tup ds,v,h=>by
  obtain⟨a,vs,e,h1,h2⟩:=(show ∃a vs,v= .ref a/\H a=some (.tup vs)/\RelDs K H ds vs from h)
  exact⟨a,vs,e,k.tup _ _ h1,RelDs.mono k h2⟩
 | .lst a,v,h=>by
  obtain⟨e,vs,h1⟩:=(show v= .ref a/\ ∃vs,H a=some (.lst vs) from h)
  exact⟨e,k.lst _ _ h1⟩
 | .dic x i,v,h=>by
  obtain⟨a,e,h1⟩:=(show ∃a,v= .ref a/\H a=some (.dK [(Sum.inr x,V.int i)]) from h)
  exact⟨a,e,k.dic _ _ h1⟩
 | .scr ns,v,h=>by
  obtain⟨a,e,h1⟩:=(show ∃a,v= .ref a/\Scr K H a ns from h)
  exact⟨a,e,h1.elim (λ⟨o,z⟩=> .inl ⟨o,k.frz _ _ _ z⟩) .inr⟩
 | .exc C,v,h=>by
  obtain⟨x,o,vs,e,h1,r⟩:=(show ∃x o vs,v= .ref x/\H x=some (.frz o (.own 0))/\o.cls= .ref C/\o.data= .fields vs from h)
  exact⟨x,o,vs,e,k.frz _ _ _ h1,r⟩
 | .fn a,v,h=>h
theorem RelDs.mono {K:PySem.W.Frag} {H H' :Hp} (k:Kept H H'): ∀ {ds:List D} {vs:List V},RelDs K H ds vs->RelDs K H' ds vs
 | [],_,h=>h
 |d::ds,vs,h=>by
  obtain⟨v,r,e,h1,h2⟩:=(show ∃v r,vs=v::r/\RelD K H d v/\RelDs K H ds r from h)
  exact⟨v,r,e,RelD.mono k h1,RelDs.mono k h2⟩
end
section
variable {K:PySem.W.Frag} {H:Hp}
theorem RelDs.nil:RelDs K H [] []:=rfl
theorem RelDs.cons {d:D} {v:V} {ds:List D} {vs:List V} (h:RelD K H d v) (t:RelDs K H ds vs):RelDs K H (d::ds) (v::vs):=⟨v,vs,rfl,h,t⟩
theorem RelDs.length: ∀ {ds:List D} {vs:List V},RelDs K H ds vs->ds.length=vs.length
 | [],_,h=>by cases (show _= [] from h);rfl
 |d::ds,vs,h=>by
  obtain⟨v,r,e,_,h2⟩:=(show ∃v r,vs=v::r/\RelD K H d v/\RelDs K H ds r from h)
  subst e
  simp [RelDs.length h2]
theorem RelDs.append: ∀ {ds es:List D} {vs us:List V},RelDs K H ds vs->RelDs K H es us->RelDs K H (ds++es) (vs++us)
 | [],_,_,_,h,g=>by cases (show _= [] from h);exact g
 |d::ds,es,vs,us,h,g=>by
  obtain⟨v,r,e,h1,h2⟩:=(show ∃v r,vs=v::r/\RelD K H d v/\RelDs K H ds r from h)
  subst e
  exact .cons h1 (RelDs.append h2 g)
theorem RelDs.get: ∀ {ds:List D} {vs:List V} {i:Nat} {d:D},RelDs K H ds vs->ds[i]? =some d-> ∃v,vs[i]? =some v/\RelD K H d v
 |d' ::ds,vs,i,d,h,e=>by
  obtain⟨v,r,q,h1,h2⟩:=(show ∃v r,vs=v::r/\RelD K H d' v/\RelDs K H ds r from h)
  subst q
  cases i with
  |zero=>simp at e;subst e;exact⟨v,rfl,h1⟩
  |succ i=>
   obtain⟨u,q1,q2⟩:=RelDs.get h2 (i:=i) (d:=d) (by simpa using e)
   exact⟨u,by simpa using q1,q2⟩
theorem RelDs.take (n:Nat): ∀ {ds:List D} {vs:List V},RelDs K H ds vs->RelDs K H (ds.take n) (vs.take n):=by
 induction n with
 |zero=>intro ds vs _;exact(rfl:RelDs K H [] [])
 |succ n ih=>
  intro ds vs h
  cases ds with
  |nil=>cases (show vs= [] from h);exact .nil
  |cons d ds=>
   obtain⟨v,r,e,h1,h2⟩:=(show ∃v r,vs=v::r/\RelD K H d v/\RelDs K H ds r from h)
   subst e;exact .cons h1 (ih h2)
theorem RelDs.drop (n:Nat): ∀ {ds:List D} {vs:List V},RelDs K H ds vs->RelDs K H (ds.drop n) (vs.drop n):=by
 induction n with
 |zero=>intro ds vs h;exact h
 |succ n ih=>
  intro ds vs h
  cases ds with
  |nil=>cases (show vs= [] from h);exact .nil
  |cons d ds=>
   obtain⟨v,r,e,h1,h2⟩:=(show ∃v r,vs=v::r/\RelD K H d v/\RelDs K H ds r from h)
   subst e;exact ih h2
theorem RelDs.set {d:D} {v:V} (q:RelD K H d v): ∀ {ds:List D} {vs:List V} (i:Nat),RelDs K H ds vs->RelDs K H (ds.set i d) (vs.set i v)
 | [],_,_,h=>by cases (show _= [] from h);exact .nil
 |e::ds,vs,i,h=>by
  obtain⟨u,r,z,h1,h2⟩:=(show ∃u r,vs=u::r/\RelD K H e u/\RelDs K H ds r from h)
  subst z
  cases i with
  |zero=>exact .cons q h2
  |succ i=>exact .cons h1 (RelDs.set q i h2)
theorem jcn: ∀ns:List Int,RelDs K H (ns.map D.int) (ns.map V.int)
 | []=> .nil
 |n::ns=> .cons rfl (jcn ns)
end
abbrev HD:=Addr->Option (List D)
def jbs (h:HD) (a:Addr) (ds:List D):HD:=λb=>if b=a then some ds else h b
def jeX (h:HD) (a:Addr):HD:=λb=>if b=a then none else h b
theorem jab {h:HD} {a:Addr} {ds:List D}:jbs h a ds a=some ds:=if_pos rfl
theorem jbb {h:HD} {a b:Addr} {ds:List D} (e:b≠a):jbs h a ds b=h b:=if_neg e
theorem jbC {h:HD} {a:Addr} {ds:List D} (e:h a=none):jeX (jbs h a ds) a=h:=by
 funext b;unfold jeX jbs;by_cases q:b=a
 ·subst q;simp [e]
 ·simp [q]
def LN:List Str:= ["law","_law_right","_law_words","_law_other_words","_law_many_right","_law_all","_law_told_row","_law_all_right","_law_desk_right","_law_signs_right","_law_lists_right","_law_text_right"]
def TabK (K:PySem.W.Frag) (P:Addr):Prop:= ∃x∈LN,∃c,PySem.W.tabIn K x=some (c,P)
def CodesOk (H:Hp) (ps:Array Value):Prop:=TriplesOk ps.toList/\ ∀pos cv,codeAmong pos ps.toList=some cv-> ∃ (c:Addr) (o:Obj) (vs:Array Value) (q:Str) (t:Tok),cv= .ref c/\H c=some (.frz o (.own 0))/\o.data= .fields vs/\vs[1]? =some (.str q t)
def CTabs (K:PySem.W.Frag) (H:Hp):Prop:= ∀P,TabK K P-> ∃ps,H P=some (.tbl ps)/\CodesOk H ps
theorem CodesOk.mono {H H' :Hp} {ps:Array Value} (k: ∀a o u,H a=some (.frz o u)->H' a=some (.frz o u)) (c:CodesOk H ps):CodesOk H' ps:=
 ⟨c.1,λpos cv e=>let ⟨c',o,vs,q,t,e1,e2,r⟩:=c.2 pos cv e;⟨c',o,vs,q,t,e1,k _ _ _ e2,r⟩⟩
theorem CTabs.mono {K:PySem.W.Frag} {H H' :Hp} (x:CTabs K H) (k: ∀a o u,H a=some (.frz o u)->H' a=some (.frz o u)) (kt: ∀a ps,H a=some (.tbl ps)->H' a=some (.tbl ps)):CTabs K H' :=λP hP=>
 let ⟨ps,e,c⟩:=x P hP;⟨ps,kt _ _ e,c.mono k⟩
theorem CTabs.new {K:PySem.W.Frag} {H:Hp} {p:Addr} {o:HO} (x:CTabs K H) (e:H p=none):CTabs K (upd H p o):=
 x.mono (λa o' u h=>by rw [jal (jag h e)];exact h) λa ps h=>by rw [jal (jag h e)];exact h
theorem CTabs.put {K:PySem.W.Frag} {H:Hp} {p:Addr} {o:HO} {xs:List V} (x:CTabs K H) (e:H p=some (.lst xs)):CTabs K (upd H p o):=
 x.mono (λa o' u h=>by rw [jal (jhU h e (by intro z;cases z))];exact h) λa ps h=>by rw [jal (jhU h e (by intro z;cases z))];exact h
structure RelH (K:PySem.W.Frag) (h:HD) (H:Hp):Prop where
 ls: ∀a ds,h a=some ds-> ∃vs,H a=some (.lst vs)/\RelDs K H ds vs
 tb:CTabs K H
instance {K:PySem.W.Frag} {h:HD} {H:Hp}:CoeFun (RelH K h H) λ_=> ∀a ds,h a=some ds-> ∃vs,H a=some (.lst vs)/\RelDs K H ds vs:=⟨RelH.ls⟩
def Sub (h h' :HD):Prop:= ∀a ds,h a=some ds->h' a=some ds
theorem Sub.refl (h:HD):Sub h h:=λ_ _ e=>e
theorem Sub.trans {a b c:HD} (x:Sub a b) (y:Sub b c):Sub a c:=λd ds e=>y d ds (x d ds e)
theorem Sub.drop (h:HD) (a:Addr):Sub (jeX h a) h:=λb ds e=>by
 unfold jeX at e;split at e
 ·cases e
 ·exact e
theorem Sub.new {h:HD} {p:Addr} {ds:List D} (e:h p=none):Sub h (jbs h p ds):=λa es q=>by
 rw [jbb];exact q
 intro z;subst z;rw [e] at q;cases q
section
variable {K:PySem.W.Frag} {h h' :HD} {H:Hp}
theorem RelH.sub (r:RelH K h H) (s:Sub h' h):RelH K h' H:=⟨λa ds e=>r a ds (s a ds e),r.tb⟩
theorem RelH.free (r:RelH K h H) {p:Addr} (e:H p=none):h p=none:=by
 cases q:h p with
 |none=>rfl
 |some ds=>obtain⟨vs,z,_⟩:=r p ds q;rw [e] at z;cases z
theorem RelH.new (r:RelH K h H) {p:Addr} {o:HO} (e:H p=none):RelH K h (upd H p o):=⟨λa ds q=>by
 obtain⟨vs,z,w⟩:=r a ds q
 exact⟨vs,by rw [jal (jag z e)];exact z,w.mono (.new e)⟩,r.tb.new e⟩
theorem RelH.newL (r:RelH K h H) {p:Addr} {ds:List D} {vs:List V} (e:H p=none) (q:RelDs K H ds vs):RelH K (jbs h p ds) (upd H p (.lst vs)):=⟨λa es z=>by
 by_cases w:a=p
 ·subst w;rw [jab] at z;cases z
  exact⟨vs,jam,q.mono (.new e)⟩
 ·rw [jbb w] at z
  obtain⟨us,z1,z2⟩:=r a es z
  exact⟨us,by rw [jal w];exact z1,z2.mono (.new e)⟩,r.tb.new e⟩
theorem RelH.put (r:RelH K h H) {p:Addr} {ds:List D} {vs us:List V} (e:H p=some (.lst us)) (q:RelDs K H ds vs):RelH K (jbs h p ds) (upd H p (.lst vs)):=⟨λa es z=>by
 by_cases w:a=p
 ·subst w;rw [jab] at z;cases z
  exact⟨vs,jam,q.mono (.put e)⟩
 ·rw [jbb w] at z
  obtain⟨us,z1,z2⟩:=r a es z
  exact⟨us,by rw [jal w];exact z1,z2.mono (.put e)⟩,r.tb.put e⟩
end
abbrev SD:=List (Option D)
def RelS (K:PySem.W.Frag) (H:Hp) (σd:SD) (σ:St):Prop:=σd.length=σ.length/\ ∀ (i:Nat) (d:D),σd[i]? =some (some d)-> ∃v,σ[i]? =some (some v)/\RelD K H d v
theorem RelS.mono {K:PySem.W.Frag} {H H' :Hp} {σd:SD} {σ:St} (r:RelS K H σd σ) (k:Kept H H'):RelS K H' σd σ:=⟨r.1,λi d e=>let ⟨v,a,b⟩:=r.2 i d e;⟨v,a,b.mono k⟩⟩
theorem RelS.set {K:PySem.W.Frag} {H:Hp} {σd:SD} {σ:St} {d:D} {v:V} (r:RelS K H σd σ) (q:RelD K H d v) (i:Nat):RelS K H (σd.set i (some d)) (σ.set i (some v)):=⟨by simp [r.1],λj e h=>by
 by_cases z:i=j
 ·subst z
  rw [G2h] at h ⊢
  by_cases hl:i<σd.length
  ·rw [if_pos rfl,if_pos hl] at h
   rw [if_pos rfl,if_pos (by rw [<-r.1];exact hl)]
   cases h;exact⟨v,rfl,q⟩
  ·rw [if_pos rfl,if_neg hl] at h;cases h
 ·rw [G1e z] at h ⊢
  exact r.2 j e h⟩
theorem RelS.clear1 {K:PySem.W.Frag} {H:Hp} {σd:SD} {σ:St} (r:RelS K H σd σ) (i:Nat):RelS K H (σd.set i none) (σ.set i none):=⟨by simp [r.1],λj e h=>by
 by_cases z:i=j
 ·subst z
  rw [G2h] at h
  split at h
  ·split at h<;>cases h
  ·contradiction
 ·rw [G1e z] at h ⊢
  exact r.2 j e h⟩
def jbD:List Nat->SD->SD
 | [],σ=>σ
 |j::js,σ=>jbD js (σ.set j none)
theorem RelS.clear {K:PySem.W.Frag} {H:Hp}: ∀ (js:List Nat) {σd:SD} {σ:St},RelS K H σd σ->RelS K H (jbD js σd) (jbB js σ)
 | [],_,_,r=>r
 |j::js,_,_,r=>RelS.clear js (r.clear1 j)
abbrev KD:=D->HD->Prop
abbrev TED:=SD->HD->KD->Prop
abbrev TTD:=SD->HD->(Bool->HD->Prop)->Prop
abbrev TAD:=SD->HD->(List D->HD->Prop)->Prop
abbrev RD2:=D->D->HD->KD->Prop
abbrev RDn:=List D->HD->KD->Prop
structure EndsD where
 nx:SD->HD->Prop
 rt:KD
 bk:SD->HD->Prop:=λ_ _=>False
 ct:SD->HD->Prop:=λ_ _=>False
abbrev TSD:=EndsD->SD->HD->Prop
abbrev TGD:=D->SD->HD->(SD->HD->Prop)->Prop
def jlf (K:PySem.W.Frag) (H:Hp) (Qd:KD) (Q:VK):Prop:= ∀d v h' H',Kept H H' ->RelH K h' H' ->RelD K H' d v->Qd d h' ->Q v H'
def LE (K:PySem.W.Frag) (t:TED):TE:=λσ H Q=> ∃σd h Qd,RelS K H σd σ/\RelH K h H/\t σd h Qd/\jlf K H Qd Q
def LT (K:PySem.W.Frag) (t:TTD):TT:=λσ H Q=> ∃σd h Qd,RelS K H σd σ/\RelH K h H/\t σd h Qd/\ ∀b h' H',Kept H H' ->RelH K h' H' ->Qd b h' ->Q b H'
def LA (K:PySem.W.Frag) (t:TAD):TA:=λσ H Q=> ∃σd h Qd,RelS K H σd σ/\RelH K h H/\t σd h Qd/\ ∀ds vs h' H',Kept H H' ->RelH K h' H' ->RelDs K H' ds vs->Qd ds h' ->Q vs H'
def LR (K:PySem.W.Frag) (f:RD2):R2:=λx y H Q=> ∃dx dy h Qd,RelD K H dx x/\RelD K H dy y/\RelH K h H/\f dx dy h Qd/\jlf K H Qd Q
def LC (K:PySem.W.Frag) (f:RDn):List V->Hp->VK->Prop:=λxs H Q=> ∃ds h Qd,RelDs K H ds xs/\RelH K h H/\f ds h Qd/\jlf K H Qd Q
def LG (K:PySem.W.Frag) (g:TGD):TG:=λv σ H Q=> ∃d σd h Qd,RelD K H d v/\RelS K H σd σ/\RelH K h H/\g d σd h Qd/\ ∀σd' h' σ' H',Kept H H' ->RelS K H' σd' σ' ->RelH K h' H' ->Qd σd' h' ->Q σ' H'
def LS (K:PySem.W.Frag) (t:TSD):TS:=λD₀ σ H=> ∃σd h Dd,RelS K H σd σ/\RelH K h H/\t Dd σd h/\
 (∀σd' h' σ' H',Kept H H' ->RelS K H' σd' σ' ->RelH K h' H' ->Dd.nx σd' h' ->D₀.nx σ' H')/\jlf K H Dd.rt D₀.rt/\
 (∀σd' h' σ' H',Kept H H' ->RelS K H' σd' σ' ->RelH K h' H' ->Dd.bk σd' h' ->D₀.bk σ' H')/\(∀σd' h' σ' H',Kept H H' ->RelS K H' σd' σ' ->RelH K h' H' ->Dd.ct σd' h' ->D₀.ct σ' H')
theorem PE.imp {X:Cx} {e:Expr} {t t' :TE} (h:PE X e t) (i: ∀σ H Q,t' σ H Q->t σ H Q):PE X e t' :=λpins s σ H Q I q=>h pins s σ H Q I (i σ H Q q)
theorem PT.imp {X:Cx} {e:Expr} {t t' :TT} (h:PT X e t) (i: ∀σ H Q,t' σ H Q->t σ H Q):PT X e t' :=λpins s σ H Q I q=>h pins s σ H Q I (i σ H Q q)
theorem PW.imp {X:Cx} {e:Expr} {t t' :TT} (h:PW X e t) (i: ∀σ H Q,t' σ H Q->t σ H Q):PW X e t' :=λwh pins s σ H Q I q=>h wh pins s σ H Q I (i σ H Q q)
theorem PA.imp {X:Cx} {e:List Expr} {t t' :TA} (h:PA X e t) (i: ∀σ H Q,t' σ H Q->t σ H Q):PA X e t' :=λpos pins s σ H Q I q=>h pos pins s σ H Q I (i σ H Q q)
theorem PS.imp {X:Cx} {e:Stmt} {t t' :TS} (h:PS X e t) (i: ∀D σ H,t' D σ H->t D σ H):PS X e t' :=λpins s σ H D I q=>h pins s σ H D I (i D σ H q)
theorem PSs.imp {X:Cx} {e:List Stmt} {t t' :TS} (h:PSs X e t) (i: ∀D σ H,t' D σ H->t D σ H):PSs X e t' :=λpins s σ H D I q=>h pins s σ H D I (i D σ H q)
theorem PG.imp {X:Cx} {e:Expr} {t t' :TG} (h:PG X e t) (i: ∀v σ H Q,t' v σ H Q->t v σ H Q):PG X e t' :=λpins s σ H v u Q I r q=>h pins s σ H v u Q I r (i v σ H Q q)
theorem OpR.imp {X:Cx} {f:Value->Value->Sem Value} {r r' :R2} (h:OpR X f r) (i: ∀x y H Q,r' x y H Q->r x y H Q):OpR X f r' :=λpins s σ H x y v u Q I a b q=>h pins s σ H x y v u Q I a b (i x y H Q q)
theorem CallR.imp {X:Cx} {f:Value} {r r' :List V->Hp->VK->Prop} (h:CallR X f r) (i: ∀xs H Q,r' xs H Q->r xs H Q):CallR X f r' :=λpins s σ H xs us Q I a q=>h pins s σ H xs us Q I a (i xs H Q q)
def jd9 (i:Nat):TED:=λσ h Q=> ∃d,σ[i]? =some (some d)/\Q d h
def dC (d:D):TED:=λ_ h Q=>Q d h
def dOp (f:RD2) (ta tb:TED):TED:=λσ h Q=>ta σ h λx h1=>tb σ h1 λy h2=>f x y h2 Q
def jc2:TAD:=λ_ h Q=>Q [] h
def ja1 (ta:TED) (tr:TAD):TAD:=λσ h Q=>ta σ h λx h1=>tr σ h1 λxs h2=>Q (x::xs) h2
def jea (t:TAD):TED:=λσ h Q=>t σ h λds h1=>ds.length<=sizeLine/\Q (.tup ds) h1
def jeb (t:TAD):TED:=λσ h Q=>t σ h λds h1=>ds.length<=sizeLine/\ ∀p,h1 p=none->Q (.lst p) (jbs h1 p ds)
def dCB (r:RDn) (t:TAD):TED:=λσ h Q=>t σ h λds h1=>r ds h1 Q
def ja4 (t:TED):TTD:=λσ h Q=>t σ h λx h1=> ∃k,x= .bl k/\Q k h1
def jaJ (r r' :RD2) (ta tb tc:TED):TED:=λσ h Q=>ta σ h λx h1=>tb σ h1 λy h2=>r x y h2 λz h3=> ∃k,z= .bl k/\
 (if k=true then tc σ h3 λw h4=>r' y w h4 Q else Q (.bl false) h3)
def jb4 (t u:TTD):TTD:=λσ h Q=>t σ h λc h1=>if c=true then u σ h1 Q else Q false h1
def jec (t u:TTD):TTD:=λσ h Q=>t σ h λc h1=>if c=true then Q true h1 else u σ h1 Q
def jbt (t:TTD):TTD:=λσ h Q=>t σ h λc h1=>Q (!c) h1
def jbu (ta tb:TED):TED:=λσ h Q=>ta σ h λx h1=> ∃c,x= .bl c/\if c=true then tb σ h1 Q else Q (.bl false) h1
def jed (ta tb:TED):TED:=λσ h Q=>ta σ h λx h1=> ∃c,x= .bl c/\if c=true then Q (.bl true) h1 else tb σ h1 Q
def jbv (ta:TED):TED:=λσ h Q=>ta σ h λx h1=> ∃c,x= .bl c/\Q (.bl (!c)) h1
def dIf (t:TTD) (ta tb:TED):TED:=λσ h Q=>t σ h λc h1=>if c=true then ta σ h1 Q else tb σ h1 Q
section
variable {K:PySem.W.Frag}
theorem jmZ (i:Nat): ∀σ H Q,LE K (jd9 i) σ H Q->jn7 i σ H Q:=λσ H Q ⟨σd,h,Qd,rs,rh,⟨d,e,q⟩,p⟩=>let ⟨v,e1,e2⟩:=rs.2 i d e;⟨v,e1,p d v h H (.refl H) rh e2 q⟩
theorem jos {d:D} {v:V} (r: ∀H,RelD K H d v): ∀σ H Q,LE K (dC d) σ H Q->tC v σ H Q:=λσ H Q ⟨σd,h,Qd,rs,rh,q,p⟩=>p d v h H (.refl H) rh (r H) q
theorem jau {H H1:Hp} {Qd:KD} {Q:VK} (p:jlf K H Qd Q) (k:Kept H H1):jlf K H1 Qd Q:=λd v h' H' k' =>p d v h' H' (k.trans k')
theorem LE.bind {ta:TED} {σ:St} {H:Hp} {σd:SD} {h:HD} {kd:KD} {k:VK} (rs:RelS K H σd σ) (rh:RelH K h H) (t:ta σd h kd) (f: ∀d v h' H',Kept H H' ->RelS K H' σd σ->RelH K h' H' ->RelD K H' d v->kd d h' ->k v H'):LE K ta σ H k:=
 ⟨σd,h,kd,rs,rh,t,λd v h' H' kp r1 r2 q=>f d v h' H' kp (rs.mono kp) r1 r2 q⟩
theorem LT.bind {ta:TTD} {σ:St} {H:Hp} {σd:SD} {h:HD} {kd:Bool->HD->Prop} {k:Bool->Hp->Prop} (rs:RelS K H σd σ) (rh:RelH K h H) (t:ta σd h kd) (f: ∀b h' H',Kept H H' ->RelS K H' σd σ->RelH K h' H' ->kd b h' ->k b H'):LT K ta σ H k:=
 ⟨σd,h,kd,rs,rh,t,λb h' H' kp r1 q=>f b h' H' kp (rs.mono kp) r1 q⟩
theorem LA.bind {ta:TAD} {σ:St} {H:Hp} {σd:SD} {h:HD} {kd:List D->HD->Prop} {k:List V->Hp->Prop} (rs:RelS K H σd σ) (rh:RelH K h H) (t:ta σd h kd) (f: ∀ds vs h' H',Kept H H' ->RelS K H' σd σ->RelH K h' H' ->RelDs K H' ds vs->kd ds h' ->k vs H'):LA K ta σ H k:=
 ⟨σd,h,kd,rs,rh,t,λd v h' H' kp r1 r2 q=>f d v h' H' kp (rs.mono kp) r1 r2 q⟩
theorem jlg {f:RD2} {ta tb:TED}: ∀σ H Q,LE K (dOp f ta tb) σ H Q->tOp (LR K f) (LE K ta) (LE K tb) σ H Q:=λσ H Q ⟨σd,h,Qd,rs,rh,t,p⟩=>
 LE.bind rs rh t λd v h1 H1 k1 rs1 rh1 r1 t1=>LE.bind rs1 rh1 t1 λd2 v2 h2 H2 k2 rs2 rh2 r2 t2=>⟨d,d2,h2,Qd,r1.mono k2,r2,rh2,t2,jau p (k1.trans k2)⟩
theorem jm0: ∀σ H Q,LA K jc2 σ H Q->jo9 σ H Q:=λσ H Q ⟨σd,h,Qd,rs,rh,t,p⟩=>p [] [] h H (.refl H) rh rfl t
theorem jlh {ta:TED} {tr:TAD}: ∀σ H Q,LA K (ja1 ta tr) σ H Q->jmL (LE K ta) (LA K tr) σ H Q:=λσ H Q ⟨σd,h,Qd,rs,rh,t,p⟩=>
 LE.bind rs rh t λd v h1 H1 k1 rs1 rh1 r1 t1=>LA.bind rs1 rh1 t1 λds vs h2 H2 k2 rs2 rh2 r2 t2=>p _ _ h2 H2 (k1.trans k2) rh2 (.cons (r1.mono k2) r2) t2
theorem jm1 {t:TAD}: ∀σ H Q,LE K (jea t) σ H Q->jpa (LA K t) σ H Q:=λσ H Q ⟨σd,h,Qd,rs,rh,t,p⟩=>
 LA.bind rs rh t λds vs h1 H1 k1 rs1 rh1 r1 ⟨z,q⟩=>⟨by rw [<-r1.length];exact z,λa ha=>p (.tup ds) (.ref a) h1 _ (k1.trans (.new ha)) (rh1.new ha) ⟨a,vs,rfl,jam,r1.mono (.new ha)⟩ q⟩
theorem jm2 {t:TAD}: ∀σ H Q,LE K (jeb t) σ H Q->jpb (LA K t) σ H Q:=λσ H Q ⟨σd,h,Qd,rs,rh,t,p⟩=>
 LA.bind rs rh t λds vs h1 H1 k1 rs1 rh1 r1 ⟨z,q⟩=>⟨by rw [<-r1.length];exact z,λa ha=>p (.lst a) (.ref a) _ _ (k1.trans (.new ha)) (rh1.newL ha r1) ⟨rfl,vs,jam⟩ (q a (rh1.free ha))⟩
theorem jm3 {r:RDn} {t:TAD}: ∀σ H Q,LE K (dCB r t) σ H Q->tCB (LC K r) (LA K t) σ H Q:=λσ H Q ⟨σd,h,Qd,rs,rh,t,p⟩=>
 LA.bind rs rh t λds vs h1 H1 k1 rs1 rh1 r1 q=>⟨ds,h1,Qd,r1,rh1,q,jau p k1⟩
theorem jij {t:TED}: ∀σ H Q,LT K (ja4 t) σ H Q->jk3 (LE K t) σ H Q:=λσ H Q ⟨σd,h,Qd,rs,rh,t,p⟩=>
 LE.bind rs rh t λd v h1 H1 k1 rs1 rh1 r1 ⟨k,e,q⟩=>by subst e;exact⟨k,r1,p k h1 H1 k1 rh1 q⟩
theorem jjF {t:TED}: ∀σ H Q,LT K (ja4 t) σ H Q->tB (LE K t) σ H Q:=λσ H Q ⟨σd,h,Qd,rs,rh,t,p⟩=>
 LE.bind rs rh t λd v h1 H1 k1 rs1 rh1 r1 ⟨k,e,q⟩=>by subst e;exact⟨k,r1,p k h1 H1 k1 rh1 q⟩
theorem jhd {r r' :RD2} {ta tb tc:TED}: ∀σ H Q,LE K (jaJ r r' ta tb tc) σ H Q->jh4 (LR K r) (LR K r') (LE K ta) (LE K tb) (LE K tc) σ H Q:=λσ H Q ⟨σd,h,Qd,rs,rh,t,p⟩=>
 LE.bind rs rh t λd v h1 H1 k1 rs1 rh1 r1 t1=>LE.bind rs1 rh1 t1 λd2 v2 h2 H2 k2 rs2 rh2 r2 t2=>⟨d,d2,h2,_,r1.mono k2,r2,rh2,t2,λd3 v3 h3 H3 k3 rh3 r3 ⟨k,e,q⟩=>by
  subst e
  refine⟨k,r3,?_⟩
  cases k with
  |true=>
   rw [if_pos rfl] at q ⊢
   exact LE.bind (rs2.mono k3) rh3 q λd4 v4 h4 H4 k4 rs4 rh4 r4 t4=>⟨d2,d4,h4,Qd,(r2.mono k3).mono k4,r4,rh4,t4,jau p (k1.trans (k2.trans (k3.trans k4)))⟩
  |false=>
   rw [if_neg G0g] at q ⊢
   exact p (.bl false) _ h3 H3 (k1.trans (k2.trans k3)) rh3 rfl q⟩
theorem jot {t u:TTD}: ∀σ H Q,LT K (jec t u) σ H Q->tOr (LT K t) (LT K u) σ H Q:=λσ H Q ⟨σd,h,Qd,rs,rh,t,p⟩=>
 LT.bind rs rh t λb h1 H1 k1 rs1 rh1 q=>by
  cases b with
  |true=>rw [if_pos rfl] at q ⊢;exact p _ _ _ k1 rh1 q
  |false=>rw [if_neg G0g] at q ⊢;exact⟨σd,h1,Qd,rs1,rh1,q,λb h' H' k=>p b h' H' (k1.trans k)⟩
theorem jm4 {t:TTD}: ∀σ H Q,LT K (jbt t) σ H Q->joY (LT K t) σ H Q:=λσ H Q ⟨σd,h,Qd,rs,rh,t,p⟩=>
 LT.bind rs rh t λb h1 H1 k1 rs1 rh1 q=>p _ _ _ k1 rh1 q
theorem jm5 {ta tb:TED}: ∀σ H Q,LE K (jbu ta tb) σ H Q->jms (LE K ta) (LE K tb) σ H Q:=λσ H Q ⟨σd,h,Qd,rs,rh,t,p⟩=>
 LE.bind rs rh t λd v h1 H1 k1 rs1 rh1 r1 ⟨c,e,q⟩=>by
  subst e
  refine⟨c,r1,?_⟩
  cases c with
  |true=>rw [if_pos rfl] at q ⊢;exact⟨σd,h1,Qd,rs1,rh1,q,jau p k1⟩
  |false=>rw [if_neg G0g] at q ⊢;exact p (.bl false) _ _ _ k1 rh1 rfl q
theorem jou {ta tb:TED}: ∀σ H Q,LE K (jed ta tb) σ H Q->joZ (LE K ta) (LE K tb) σ H Q:=λσ H Q ⟨σd,h,Qd,rs,rh,t,p⟩=>
 LE.bind rs rh t λd v h1 H1 k1 rs1 rh1 r1 ⟨c,e,q⟩=>by
  subst e
  refine⟨c,r1,?_⟩
  cases c with
  |true=>rw [if_pos rfl] at q ⊢;exact p (.bl true) _ _ _ k1 rh1 rfl q
  |false=>rw [if_neg G0g] at q ⊢;exact⟨σd,h1,Qd,rs1,rh1,q,jau p k1⟩
theorem jm6 {ta:TED}: ∀σ H Q,LE K (jbv ta) σ H Q->jmt (LE K ta) σ H Q:=λσ H Q ⟨σd,h,Qd,rs,rh,t,p⟩=>
 LE.bind rs rh t λd v h1 H1 k1 rs1 rh1 r1 ⟨c,e,q⟩=>by subst e;exact⟨c,r1,p (.bl (!c)) _ _ _ k1 rh1 rfl q⟩
theorem jov {t:TTD} {ta tb:TED}: ∀σ H Q,LE K (dIf t ta tb) σ H Q->tIf (LT K t) (LE K ta) (LE K tb) σ H Q:=λσ H Q ⟨σd,h,Qd,rs,rh,t,p⟩=>
 LT.bind rs rh t λb h1 H1 k1 rs1 rh1 q=>by
  cases b with
  |true=>rw [if_pos rfl] at q ⊢;exact⟨σd,h1,Qd,rs1,rh1,q,jau p k1⟩
  |false=>rw [if_neg G0g] at q ⊢;exact⟨σd,h1,Qd,rs1,rh1,q,jau p k1⟩
end
abbrev QE (X:Cx) (e:Expr) (t:TED):Prop:=PE X e (LE X.K t)
abbrev QT (X:Cx) (e:Expr) (t:TTD):Prop:=PT X e (LT X.K t)
abbrev QW (X:Cx) (e:Expr) (t:TTD):Prop:=PW X e (LT X.K t)
abbrev QA (X:Cx) (es:List Expr) (t:TAD):Prop:=PA X es (LA X.K t)
abbrev QS (X:Cx) (s:Stmt) (t:TSD):Prop:=PS X s (LS X.K t)
abbrev QSs (X:Cx) (s:List Stmt) (t:TSD):Prop:=PSs X s (LS X.K t)
abbrev QG (X:Cx) (e:Expr) (t:TGD):Prop:=PG X e (LG X.K t)
abbrev OpQ (X:Cx) (f:Value->Value->Sem Value) (r:RD2):Prop:=OpR X f (LR X.K r)
abbrev jcO (X:Cx) (f:Value) (r:RDn):Prop:=CallR X f (LC X.K r)
section
variable {X:Cx} {a b c e:Expr} {es rest:List Expr} {ta tb tc te:TED} {t u:TAD} {tt tu:TTD} {pos:Pos} {f r r' :RD2}
theorem qv (i:Nat) {x:Str} (hN:X.N[i]? =some x:=by rfl) (hv:Vis X.env.scope x:=by first|exact Or.inl rfl|exact Or.inr (Or.inl rfl)|exact Or.inr (Or.inr rfl)) (hd:(x==("__debug__" :Str))=false:=by decide)
 (hcd:(x==("__classdict__" :Str))=false:=by decide):QE X (.Name x pos) (jd9 i):=(jkr hN hv hd hcd).imp (jmZ i)
theorem jpx {i:Int} {j:Nat}:QE X (.Constant (.int i) j pos) (dC (.int i)):=pe_int.imp (jos λ_=>rfl)
theorem qbl {i:Bool} {j:Nat}:QE X (.Constant (.bool i) j pos) (dC (.bl i)):=pe_bl.imp (jos λ_=>rfl)
theorem jow {x:Str} {i:Int} {tk:Tok} (hg:Gl X x) (hm:X.mg x=some (.int i tk)) (hd:(x==("__debug__" :Str))=false:=by decide):QE X (.Name x pos) (dC (.int i)):=
 (jkV (v:= .int i) hg hm ⟨tk,rfl⟩ hd).imp (jos λ_=>rfl)
theorem qop {op:Operator} (ho:OpQ X (binaryOp op) f) (ha:QE X a ta) (hb:QE X b tb):QE X (.BinOp a op b pos) (dOp f ta tb):=(jod ho ha hb).imp jlg
theorem jpy {op:CmpOp} (ho:OpQ X (compareOp op) f) (ha:QE X a ta) (hb:QE X b tb) (hm:behindInMarks op b=false):QE X (.Compare a [op] [b] pos) (dOp f ta tb):=(jk2 ho ha hb hm).imp jlg
theorem jox {op:CmpOp} (ho:OpQ X (compareOp op) f) (ha:QE X a ta) (hb:QE X b tb) (hm:behindInMarks op b=false):QT X (.Compare a [op] [b] pos) (ja4 (dOp f ta tb)):=
 (jk4 ho ha hb hm).imp λσ H Q h=>by
  obtain⟨σd,h,Qd,rs,rh,t,p⟩:=jij (t:=dOp f ta tb) σ H Q h
  exact jlg σ H _ ⟨σd,h,Qd,rs,rh,t,p⟩
theorem jm7 {op op' :CmpOp} (ho:OpQ X (compareOp op) r) (ho' :OpQ X (compareOp op') r') (ha:QE X a ta) (hb:QE X b tb) (hc:QE X c tc) (hm:lastMarks [op,op'] [b,c]=false:=by with_unfolding_all rfl):
 QE X (.Compare a [op,op'] [b,c] pos) (jaJ r r' ta tb tc):=(jjw ho ho' ha hb hc hm).imp jhd
theorem jli {op op' :CmpOp} (ho:OpQ X (compareOp op) r) (ho' :OpQ X (compareOp op') r') (ha:QE X a ta) (hb:QE X b tb) (hc:QE X c tc) (hm:lastMarks [op,op'] [b,c]=false:=by with_unfolding_all rfl):
 QT X (.Compare a [op,op'] [b,c] pos) (ja4 (jaJ r r' ta tb tc)):=(jjx ho ho' ha hb hc hm).imp λσ H Q h=>by
 obtain⟨σd,h,Qd,rs,rh,t,p⟩:=jij (t:=jaJ r r' ta tb tc) σ H Q h
 exact jhd σ H _ ⟨σd,h,Qd,rs,rh,t,p⟩
theorem joy (ha:QE X a ta) (he: ∀whole,isTrue a X.env whole=(do let v <-whole;standAt a.pos;holding [v] (truthy v)):=by intro _;rfl):QT X a (ja4 ta):=(jmp ha he).imp jjF
theorem jpz (ha:QT X a tt):QW X (.BoolOp .Or [a] pos) tt:=jmq ha
theorem jpA (ha:QT X a tt) (hb:QW X (.BoolOp .Or (b::rest) pos) tu):QW X (.BoolOp .Or (a::b::rest) pos) (jec tt tu):=(jn8 ha hb).imp jot
theorem joz (ha:QT X a tt):QT X (.UnaryOp .Not a pos) (jbt tt):=(jmr ha).imp jm4
theorem jpB {op:BoolOp} (ha:QE X a ta):QE X (.BoolOp op [a] pos) ta:=jmu ha
theorem jpC (ha:QE X a ta) (hb:QE X (.BoolOp .And (b::rest) pos) tb):QE X (.BoolOp .And (a::b::rest) pos) (jbu ta tb):=(jmv ha hb).imp jm5
theorem qor (ha:QE X a ta) (hb:QE X (.BoolOp .Or (b::rest) pos) tb):QE X (.BoolOp .Or (a::b::rest) pos) (jed ta tb):=(jn9 ha hb).imp jou
theorem jpD (ha:QE X a ta):QE X (.UnaryOp .Not a pos) (jbv ta):=(jmw ha).imp jm6
theorem qif {c:Expr} (hc:QT X c tt) (ha:QE X a ta) (hb:QE X b tb):QE X (.IfExp c a b pos) (dIf tt ta tb):=(jjs hc ha hb).imp jov
theorem jkv:QA X [] jc2:=pa_nil.imp jm0
theorem jik (ha:QE X e te) (hr:QA X es t) (hs:starEach (e::es) X.env=(false,eval e X.env)::starEach es X.env:=by rfl):QA X (e::es) (ja1 te t):=(jbS ha hr hs).imp jlh
theorem jpE {k:Nat} (h:QA X es t):QE X (.Tuple es k pos) (jea t):=(jmM h).imp jm1
theorem jpF (h:QA X es t):QE X (.List es pos) (jeb t):=(jmN h).imp jm2
end
def jbw:TSD:=λD σ h=>D.nx σ h
def jdm (t u:TSD):TSD:=λD σ h=>t {D with nx:=u D} σ h
def jbx (te:TED):TSD:=λD σ h=>te σ h λ_ h1=>D.nx σ h1
def jee (te:TED):TSD:=λD σ h=>te σ h D.rt
def jb5:TSD:=λD _ h=>D.rt .non h
def jd6 (c:TTD) (t u:TSD):TSD:=λD σ h=>c σ h λb h1=>if b=true then t D σ h1 else u D σ h1
def jef (i:Nat) (te:TED):TSD:=λD σ h=>te σ h λd h1=>D.nx (σ.set i (some d)) h1
def jeg (te:TED) (g:TGD):TSD:=λD σ h=>te σ h λx h1=>g x σ h1 D.nx
def jeh (i j:Nat) (ta:TAD):TSD:=λD σ h=>ta σ h λds h1=> ∃v w,ds= [v,w]/\D.nx ((σ.set i (some v)).set j (some w)) h1
def gN (i:Nat):TGD:=λd σ h Q=>Q (σ.set i (some d)) h
def gT2 (i j:Nat):TGD:=λd σ h Q=> ∃x y,d= .tup [x,y]/\Q ((σ.set i (some x)).set j (some y)) h
section
variable {K:PySem.W.Frag}
theorem LS.of {t:TSD} {D₀:Ends} {σ:St} {H:Hp} {σd:SD} {h:HD} {Dd:EndsD} (rs:RelS K H σd σ) (rh:RelH K h H) (q:t Dd σd h)
 (nx: ∀σd' h' σ' H',Kept H H' ->RelS K H' σd' σ' ->RelH K h' H' ->Dd.nx σd' h' ->D₀.nx σ' H') (rt:jlf K H Dd.rt D₀.rt)
 (bk: ∀σd' h' σ' H',Kept H H' ->RelS K H' σd' σ' ->RelH K h' H' ->Dd.bk σd' h' ->D₀.bk σ' H') (ct: ∀σd' h' σ' H',Kept H H' ->RelS K H' σd' σ' ->RelH K h' H' ->Dd.ct σd' h' ->D₀.ct σ' H'):LS K t D₀ σ H:=⟨σd,h,Dd,rs,rh,q,nx,rt,bk,ct⟩
theorem jlj: ∀D σ H,LS K jbw D σ H->jmx D σ H:=λD σ H ⟨σd,h,Dd,rs,rh,q,nx,_⟩=>nx σd h σ H (.refl H) rs rh q
theorem jm8 {t u:TSD}: ∀D σ H,LS K (jdm t u) D σ H->jo0 (LS K t) (LS K u) D σ H:=λD σ H ⟨σd,h,Dd,rs,rh,q,nx,rt,bk,ct⟩=>
 LS.of rs rh q (λσd' h' σ' H' k rs' rh' q' =>⟨σd',h',Dd,rs',rh',q',λa b c d k' =>nx a b c d (k.trans k'),jau rt k,λa b c d k' =>bk a b c d (k.trans k'),λa b c d k' =>ct a b c d (k.trans k')⟩) rt bk ct
theorem jlk {te:TED}: ∀D σ H,LS K (jbx te) D σ H->jmy (LE K te) D σ H:=λD σ H ⟨σd,h,Dd,rs,rh,q,nx,rt,bk,ct⟩=>
 LE.bind rs rh q λd v h1 H1 k1 rs1 rh1 r1 q1=>nx _ _ _ _ k1 rs1 rh1 q1
theorem jm9 {te:TED}: ∀D σ H,LS K (jee te) D σ H->jo1 (LE K te) D σ H:=λD σ H ⟨σd,h,Dd,rs,rh,q,nx,rt,bk,ct⟩=>⟨σd,h,Dd.rt,rs,rh,q,rt⟩
theorem joA {c:TTD} {t u:TSD}: ∀D σ H,LS K (jd6 c t u) D σ H->jo2 (LT K c) (LS K t) (LS K u) D σ H:=λD σ H ⟨σd,h,Dd,rs,rh,q,nx,rt,bk,ct⟩=>
 LT.bind rs rh q λb h1 H1 k rs1 rh1 q1=>by
  cases b with
  |true=>rw [if_pos rfl] at q1 ⊢;exact⟨σd,h1,Dd,rs1,rh1,q1,λa b c d k' =>nx a b c d (k.trans k'),jau rt k,λa b c d k' =>bk a b c d (k.trans k'),λa b c d k' =>ct a b c d (k.trans k')⟩
  |false=>rw [if_neg G0g] at q1 ⊢;exact⟨σd,h1,Dd,rs1,rh1,q1,λa b c d k' =>nx a b c d (k.trans k'),jau rt k,λa b c d k' =>bk a b c d (k.trans k'),λa b c d k' =>ct a b c d (k.trans k')⟩
theorem jna {i:Nat} {te:TED}: ∀D σ H,LS K (jef i te) D σ H->jn3 (LE K te) (jcZ i) D σ H:=λD σ H ⟨σd,h,Dd,rs,rh,q,nx,rt,bk,ct⟩=>
 LE.bind rs rh q λd v h1 H1 k1 rs1 rh1 r1 q1=>nx _ _ _ _ k1 (rs1.set r1 i) rh1 q1
theorem jnb {te:TED} {g:TGD}: ∀D σ H,LS K (jeg te g) D σ H->jn3 (LE K te) (LG K g) D σ H:=λD σ H ⟨σd,h,Dd,rs,rh,q,nx,rt,bk,ct⟩=>
 LE.bind rs rh q λd v h1 H1 k1 rs1 rh1 r1 q1=>⟨d,σd,h1,_,r1,rs1,rh1,q1,λa b c e k' =>nx a b c e (k1.trans k')⟩
theorem jnc {i j:Nat} {ta:TAD}: ∀D σ H,LS K (jeh i j ta) D σ H->jo4 i j (LA K ta) D σ H:=λD σ H ⟨σd,h,Dd,rs,rh,q,nx,rt,bk,ct⟩=>
 LA.bind rs rh q λds vs h1 H1 k1 rs1 rh1 r1 ⟨x,y,e,q1⟩=>by
  subst e
  obtain⟨v,r,e,r2,r3⟩:=(show ∃v r,vs=v::r/\RelD K H1 x v/\RelDs K H1 [y] r from r1)
  obtain⟨w,r',e',r4,r5⟩:=(show ∃v r',r=v::r' /\RelD K H1 y v/\RelDs K H1 [] r' from r3)
  cases (show r' = [] from r5)
  subst e' e
  exact⟨v,w,rfl,nx _ _ _ _ k1 ((rs1.set r2 i).set r4 j) rh1 q1⟩
theorem jll (i:Nat): ∀v σ H Q,LG K (gN i) v σ H Q->jcZ i v σ H Q:=λv σ H Q ⟨d,σd,h,Qd,r,rs,rh,q,p⟩=>p _ _ _ _ (.refl H) (rs.set r i) rh q
theorem jbE {H:Hp} {x y:D} {vs:List V} (r:RelDs K H [x,y] vs): ∃v w,vs= [v,w]/\RelD K H x v/\RelD K H y w:=by
 obtain⟨v,r1,e,r2,r3⟩:=(show ∃v r,vs=v::r/\RelD K H x v/\RelDs K H [y] r from r)
 obtain⟨w,z,e',r4,r5⟩:=(show ∃v z,r1=v::z/\RelD K H y v/\RelDs K H [] z from r3)
 cases (show z= [] from r5)
 subst e' e
 exact⟨v,w,rfl,r2,r4⟩
theorem jas {H:Hp} {x:D} {vs:List V} (r:RelDs K H [x] vs): ∃v,vs= [v]/\RelD K H x v:=by
 obtain⟨v,r1,e,r2,r3⟩:=(show ∃v r,vs=v::r/\RelD K H x v/\RelDs K H [] r from r)
 cases (show r1= [] from r3)
 exact⟨v,e,r2⟩
theorem jnd (i j:Nat): ∀v σ H Q,LG K (gT2 i j) v σ H Q->jn2 K 2 (jfB (jcZ i) (jfB (jcZ j) jn1)) v σ H Q:=λv σ H Q ⟨d,σd,h,Qd,r,rs,rh,⟨x,y,e,q⟩,p⟩=>by
 subst e
 obtain⟨a,vs,e,hH,r1⟩:=(show ∃a vs,v= .ref a/\H a=some (.tup vs)/\RelDs K H [x,y] vs from r)
 obtain⟨v1,v2,e1,r2,r3⟩:=jbE r1
 subst e e1
 exact⟨a,[v1,v2],rfl,SqT.of hH,rfl,v1,[v2],rfl,v2,[],rfl,rfl,p _ _ _ _ (.refl H) ((rs.set r2 i).set r3 j) rh q⟩
end
section
variable {X:Cx} {st:Stmt} {sts:List Stmt} {t u:TSD} {e:Expr} {te:TED} {pos:Pos}
theorem jne:QSs X [] jbw:=pss_nil.imp jlj
theorem jlm (h1:QS X st t) (h2:QSs X sts u):QSs X (st::sts) (jdm t u):=(jjt h1 h2).imp jm8
theorem jnf (h1:QS X st t):QSs X [st] t:=jkX h1
theorem joB (he:QE X e te) (hs:swapsWith e none pos.line X.env=pure false:=by rfl):QS X (.Expr e pos) (jbx te):=(jkY he hs).imp jlk
theorem jpG (he:QE X e te):QS X (.Return (some e) pos) (jee te):=(jmz he).imp jm9
theorem jpH {c:Expr} {a b:List Stmt} {tc:TTD} (hc:QT X c tc) (ha:QSs X a t) (hb:QSs X b u):QS X (.If c a b pos) (jd6 tc t u):=(joa hc ha hb).imp joA
theorem jpI {i:Nat} {x:Str} {pos' :Pos} (hN:X.N.Nodup) (hi:X.N[i]? =some x) (hx:Loc X.env.scope x) (he:QE X e te) (hs:swapsWith e (some (.Name x pos')) pos.line X.env=pure false:=by rfl)
 (hf:X.fn x=true\/X.env.scope.names.lookup x=some .local:=by first|exact .inl rfl|exact .inr rfl|assumption):QS X (.Assign [.Name x pos'] e pos) (jef i te):=(jmC hN hi hx he hs hf).imp jna
theorem jln {i:Nat} {x:Str} (hN:X.N.Nodup) (hi:X.N[i]? =some x) (hx:Loc X.env.scope x) (hf:X.fn x=true\/X.env.scope.names.lookup x=some .local:=by first|exact .inl rfl|exact .inr rfl|assumption):QG X (.Name x pos) (gN i):=
 (jb6 hN hi hx hf).imp (jll i)
theorem jng {i j:Nat} {x y:Str} {p1 p2:Pos} {k:Nat} (hc:X.calm=true) (hN:X.N.Nodup) (hi:X.N[i]? =some x) (hj:X.N[j]? =some y) (hx:Loc X.env.scope x) (hy:Loc X.env.scope y)
 (hf:X.fn x=true\/X.env.scope.names.lookup x=some .local:=by first|exact .inl rfl|exact .inr rfl|assumption) (hf2:X.fn y=true\/X.env.scope.names.lookup y=some .local:=by first|exact .inl rfl|exact .inr rfl|assumption):
 QG X (.Tuple [.Name x p1,.Name y p2] k pos) (gT2 i j):=(jhY hc (jbR (jb6 hN hi hx hf) (jbR (jb6 hN hj hy hf2) jgt))).imp (jnd i j)
theorem jpJ {tg:Expr} {g:TGD} (he:QE X e te) (hg:QG X tg g) (hs:swapsWithSole [tg] e pos.line X.env=pure false:=by rfl) (hsw:swappedStores [tg] e X.env=pure none:=by rfl)
 (h1:(assignEach [tg] X.env).map (·.2)= [assign tg X.env]:=by rfl):QS X (.Assign [tg] e pos) (jeg te g):=(jmB he hg hs hsw h1).imp jnb
theorem jpK {i j:Nat} {x y:Str} {a b:Expr} {ta:TAD} {px py pt:Pos} {kt k2 pt2} (hc:X.calm=true) (hN:X.N.Nodup) (hi:X.N[i]? =some x) (hj:X.N[j]? =some y) (hij:i≠j)
 (hx:X.env.scope.names.lookup x=some .local) (hy:X.env.scope.names.lookup y=some .local) (ha:QA X [a,b] ta)
 (hw:swappedStores [.Tuple [.Name x px,.Name y py] kt pt] (.Tuple [a,b] k2 pt2) X.env=pure (some [x,y]))
 (hs:swapsWithSole [.Tuple [.Name x px,.Name y py] kt pt] (.Tuple [a,b] k2 pt2) pos.line X.env=pure false:=by rfl):
 QS X (.Assign [.Tuple [.Name x px,.Name y py] kt pt] (.Tuple [a,b] k2 pt2) pos) (jeh i j ta):=(jmD hc hN hi hj hij hx hy ha hw hs).imp jnc
end
abbrev ItD:=HD->Option (List D)
def jmg (K:PySem.W.Frag) (H:Hp) (j:ItD) (J:It):Prop:= ∀H' h',Kept H H' ->RelH K h' H' -> ∀ds,j h' =some ds-> ∀i:Nat,
 (∀d,ds[i]? =some d->J.go i H' /\ ∀x H'',J.yld i H' x H'' ->Kept H' H'' /\RelH K h' H'' /\RelD K H'' d x)/\(ds.length<=i->J.stop i H')
abbrev TID:=SD->HD->(ItD->HD->Prop)->Prop
def LI (K:PySem.W.Frag) (t:TID):TI:=λσ H R=> ∃σd h Rd,RelS K H σd σ/\RelH K h H/\t σd h Rd/\ ∀j J h' H',Kept H H' ->RelH K h' H' ->jmg K H' j J->Rd j h' ->R J H'
abbrev QI (X:Cx) (tg iter:Expr) (t:TID):Prop:=PI X tg iter (LI X.K t)
theorem PI.imp {X:Cx} {tg e:Expr} {t t' :TI} (h:PI X tg e t) (i: ∀σ H R,t' σ H R->t σ H R):PI X tg e t' :=λpins s σ H R I q=>h pins s σ H R I (i σ H R q)
def iL (te:TED):TID:=λσ h R=>te σ h λx h1=> ∃a,x= .lst a/\R (λh=>h a) h1
def iR1 (ta:TAD):TID:=λσ h R=>ta σ h λds h1=> ∃n:Int,ds= [.int n]/\ -(2^62)<=n/\n<2^62/\R (λ_=>some ((List.range n.toNat).map λ(k:Nat)=>D.int (k:Int))) h1
section
variable {K:PySem.W.Frag}
theorem jfM (H:Hp) (a:Addr):jmg K H (λh=>h a) (Itl K a):=λH' h' k rh ds e i=>by
 obtain⟨vs,hv,r⟩:=rh a ds e
 refine⟨λd hd=> ?_,λhl=>⟨vs,SqL.of hv,by rw [<-r.length];exact hl⟩⟩
 obtain⟨v,e1,e2⟩:=r.get hd
 refine⟨⟨vs,v,SqL.of hv,e1⟩,λx H'' ⟨eH,hx⟩=> ?_⟩
 subst eH
 have:=hx vs (SqL.of hv)
 rw [e1] at this;cases this
 exact⟨.refl _,rh,e2⟩
theorem jjG {H:Hp} {a:Addr} {vs:List V} {ds:List D} (hv:H a=some (.tup vs)) (r:RelDs K H ds vs):jmg K H (λ_=>some ds) (Itt K a):=λH' h' k rh ds' e i=>by
 cases e
 have hv' :=k.tup _ _ hv
 have r' :=r.mono k
 refine⟨λd hd=> ?_,λhl=>⟨vs,SqT.of hv',by rw [<-r.length];exact hl⟩⟩
 obtain⟨v,e1,e2⟩:=r'.get hd
 refine⟨⟨vs,v,SqT.of hv',e1⟩,λx H'' ⟨eH,hx⟩=> ?_⟩
 subst eH
 have:=hx vs (SqT.of hv')
 rw [e1] at this;cases this
 exact⟨.refl _,rh,e2⟩
theorem jhy (H:Hp) (lo:Int) (n:Nat) (ds:List D) (hd:ds=(List.range n).map λ(k:Nat)=>D.int (lo+(k:Int))):jmg K H (λ_=>some ds) (Itr lo n):=λH' h' k rh ds' e i=>by
 cases e
 subst hd
 refine⟨λd hd=> ?_,λhl=>(show n<=i by simpa using hl)⟩
 rw [G0o] at hd
 have hi:i<n:=by
  by_cases z:i<n
  ·exact z
  ·rw [G2q (by simpa using z)] at hd;cases hd
 rw [G05 hi] at hd
 cases hd
 refine⟨hi,λx H'' ⟨eH,hx⟩=> ?_⟩
 subst eH hx
 exact⟨.refl _,rh,rfl⟩
theorem jlo {te:TED}: ∀σ H R,LI K (iL te) σ H R->jmE K (LE K te) σ H R:=λσ H R ⟨σd,h,Rd,rs,rh,q,p⟩=>
 LE.bind rs rh q λd v h1 H1 k1 rs1 rh1 r1 ⟨a,e,q1⟩=>by
  subst e
  obtain⟨e,vs,hv⟩:=(show v= .ref a/\ ∃vs,H1 a=some (.lst vs) from r1)
  exact⟨a,e,⟨vs,SqL.of hv⟩,p _ _ _ _ k1 rh1 (jfM H1 a) q1⟩
theorem joC {ta:TAD}: ∀σ H R,LI K (iR1 ta) σ H R->jmF (LA K ta) σ H R:=λσ H R ⟨σd,h,Rd,rs,rh,q,p⟩=>
 LA.bind rs rh q λds vs h1 H1 k1 rs1 rh1 r1 ⟨n,e,b1,b2,q1⟩=>by
  subst e
  obtain⟨v,e,r2⟩:=jas r1
  cases (show v= .int n from r2)
  exact⟨n,e,b1,b2,p _ _ _ _ k1 rh1 (jhy H1 0 n.toNat _ (by simp)) q1⟩
end
def jn4 (ti:TID) (g:TGD) (tb:TSD):TSD:=λD σ h=>ti σ h λj h1=> ∃ (n:Nat) (W:Nat->SD->HD->Prop),W 0 σ h1/\ ∀i σ' h',W i σ' h' -> ∃ds,j h' =some ds/\ds.length<=n/\(ds.length<=i->D.nx σ' h')/\
 ∀d,ds[i]? =some d->g d σ' h' λσ2 h2=>tb {D with nx:=λσ3 h3=> ∃h4,Sub h4 h3/\W (i+1) σ3 h4,ct:=λσ3 h3=> ∃h4,Sub h4 h3/\W (i+1) σ3 h4,bk:=D.nx} σ2 h2
theorem jnh {K:PySem.W.Frag} {ti:TID} {g:TGD} {tb:TSD}: ∀D σ H,LS K (jn4 ti g tb) D σ H->jo5 (LI K ti) (LG K g) (LS K tb) D σ H:=λD σ H ⟨σd,h,Dd,rs,rh,q,nx,rt,bk,ct⟩=>by
 refine⟨σd,h,_,rs,rh,q,λj J h1 H1 k1 rh1 jo ⟨n,W,w0,turn⟩=> ?_⟩
 refine⟨λi m σ' H' =>m=n-i/\Kept H1 H' /\ ∃σd' h',RelS K H' σd' σ' /\RelH K h' H' /\W i σd' h',⟨n-0,rfl,.refl _,σd,h1,rs.mono k1,rh1,w0⟩,?_⟩
 rintro i m σ' H' ⟨rfl,kp,σd',h',rs',rh',w⟩
 obtain⟨ds,ej,hn,stop,go⟩:=turn i σd' h' w
 have jo' :=jo H' h' kp rh' ds ej i
 by_cases hi:i<ds.length
 ·obtain⟨g1,y1⟩:=jo'.1 ds[i] (G0i hi)
  refine .inr ⟨g1,λσ2 H2=>Kept H1 H2/\ ∃σd2 h2,RelS K H2 σd2 σ2/\RelH K h2 H2/\W (i+1) σd2 h2,λσ2 H2 ⟨k2,a,b,c,d,e⟩=>⟨n-(i+1),by omega,rfl,k2,a,b,c,d,e⟩,λx H'' y=> ?_⟩
  obtain⟨k2,rh2,r2⟩:=y1 x H'' y
  refine⟨ds[i],σd',h',_,r2,rs'.mono k2,rh2,go ds[i] (G0i hi),λσd3 h3 σ3 H3 k3 rs3 rh3 q3=> ?_⟩
  have kk:Kept H H3:=k1.trans (kp.trans (k2.trans k3))
  have kk1:Kept H1 H3:=kp.trans (k2.trans k3)
  exact⟨σd3,h3,_,rs3,rh3,q3,λa b c d k4 rs4 rh4 ⟨h4,sb,w4⟩=>⟨kk1.trans k4,a,h4,rs4,rh4.sub sb,w4⟩,jau rt kk,λa b c d k4 rs4 rh4 q4=>nx a b c d (kk.trans k4) rs4 rh4 q4,λa b c d k4 rs4 rh4 ⟨h4,sb,w4⟩=>⟨kk1.trans k4,a,h4,rs4,rh4.sub sb,w4⟩⟩
 ·exact .inl ⟨jo'.2 (G3d.mp hi),nx _ _ _ _ (k1.trans kp) rs' rh' (stop (G3d.mp hi))⟩
def jeY:TTD:=λ_ h Q=>Q true h
def jfN (bind:D->SD->SD->Prop) (js:List Nat) (ti:TID) (tt:TTD) (te:TED):TED:=λσ h Q=>ti σ h λj h1=> ∃ (n:Nat) (W:Nat->List D->HD->Prop),W 0 [] h1/\ ∀i ys h',W i ys h' ->ys.length<=sizeLine/\
 ∃ds,j h' =some ds/\ds.length<=n/\(ds.length<=i-> ∀p,h' p=none->Q (.lst p) (jbs h' p ys))/\
  ∀d,ds[i]? =some d-> ∃σ2,bind d (jbD js σ) σ2/\tt σ2 h' λb h3=>if b=true then te σ2 h3 λy h4=> ∃h5,Sub h5 h4/\W (i+1) (ys++ [y]) h5 else ∃h5,Sub h5 h3/\W (i+1) ys h5
def bN (i:Nat):D->SD->SD->Prop:=λd σ σ2=>σ2=σ.set i (some d)
def b2 (i j:Nat):D->SD->SD->Prop:=λd σ σ2=> ∃x y,d= .tup [x,y]/\σ2=(σ.set i (some x)).set j (some y)
theorem jni {K:PySem.W.Frag}: ∀σ H Q,LT K jeY σ H Q->jpf σ H Q:=λσ H Q ⟨σd,h,Qd,rs,rh,q,p⟩=>p true h H (.refl H) rh q
def jil (K:PySem.W.Frag) (js:List Nat) (bind:D->SD->SD->Prop) (g:TG):Prop:= ∀ (σ:St) (σd σd2:SD) (H:Hp) (d:D) (v:V) (Q:St->Hp->Prop),RelS K H (jbD js σd) (jbB js σ)->RelD K H d v->bind d (jbD js σd) σd2->
 (∀σ2,Agree (jbB js σ) σ2->RelS K H σd2 σ2->Q σ2 H)->g v (jbB js σ) H Q
theorem joD {K:PySem.W.Frag} {js:List Nat} {i:Nat} (hi:i∈js):jil K js (bN i) (jcZ i):=λσ σd σd2 H d v Q rs r b q=>by
 cases (show σd2=_ from b)
 exact q _ (.set v λu=>jbm js σ i u hi) (rs.set r i)
theorem joE {K:PySem.W.Frag} {js:List Nat} {i j:Nat} (hi:i∈js) (hj:j∈js) (hij:i≠j):jil K js (b2 i j) (jn2 K 2 (jfB (jcZ i) (jfB (jcZ j) jn1))):=λσ σd σd2 H d v Q rs r b q=>by
 obtain⟨x,y,e,e2⟩:=b
 subst e e2
 obtain⟨a,vs,e,hH,r1⟩:=(show ∃a vs,v= .ref a/\H a=some (.tup vs)/\RelDs K H [x,y] vs from r)
 obtain⟨v1,v2,e1,r2,r3⟩:=jbE r1
 subst e e1
 refine⟨a,[v1,v2],rfl,SqT.of hH,rfl,v1,[v2],rfl,v2,[],rfl,rfl,q _ (.trans (.set v1 λu=>jbm js σ i u hi) (.set v2 λu z=> ?_)) ((rs.set r2 i).set r3 j)⟩
 rw [G1e hij] at z
 exact jbm js σ j u hj z
theorem jnj {K:PySem.W.Frag} {bind:D->SD->SD->Prop} {js:List Nat} {ti:TID} {tt:TTD} {te:TED} {g:TG} (hb:jil K js bind g): ∀σ H Q,LE K (jfN bind js ti tt te) σ H Q->tLC js (LI K ti) g (LT K tt) (LE K te) σ H Q:=
 λσ H Q ⟨σd,h,Qd,rs,rh,q,p⟩=>by
  refine⟨σd,h,_,rs,rh,q,λj J h1 H1 k1 rh1 jo ⟨n,W,w0,turn⟩=> ?_⟩
  refine⟨λi m ys H' =>m=n-i/\Kept H1 H' /\ ∃ds h',RelDs K H' ds ys/\RelH K h' H' /\W i ds h',⟨n-0,rfl,.refl _,[],h1,rfl,rh1,w0⟩,?_⟩
  rintro i m ys H' ⟨rfl,kp,yd,h',ry,rh',w⟩
  obtain⟨hz,ds,ej,hn,stop,go⟩:=turn i yd h' w
  refine⟨by rw [<-ry.length];exact hz,?_⟩
  have jo' :=jo H' h' kp rh' ds ej i
  have kk:Kept H H' :=k1.trans kp
  by_cases hi:i<ds.length
  ·obtain⟨g1,y1⟩:=jo'.1 ds[i] (G0i hi)
   refine .inr ⟨g1,λx H'' y=> ?_⟩
   obtain⟨k2,rh2,r2⟩:=y1 x H'' y
   obtain⟨σd2,bd,q2⟩:=go ds[i] (G0i hi)
   refine hb σ σd σd2 H'' ds[i] x _ (((rs.mono (kk.trans k2))).clear js) r2 bd λσ2 ag rs2=>⟨ag,?_⟩
   refine LT.bind rs2 rh2 q2 λb h3 H3 k3 rs3 rh3 q3=> ?_
   cases b with
   |true=>
    rw [if_pos rfl] at q3 ⊢
    refine LE.bind rs3 rh3 q3 λd4 v4 h4 H4 k4 rs4 rh4 r4 ⟨h5,sb,w5⟩=>⟨n-(i+1),by omega,rfl,kp.trans (k2.trans (k3.trans k4)),yd++ [d4],h5,(ry.mono (k2.trans (k3.trans k4))).append (.cons r4 .nil),rh4.sub sb,w5⟩
   |false=>
    rw [if_neg G0g] at q3 ⊢
    obtain⟨h5,sb,w5⟩:=q3
    exact⟨n-(i+1),by omega,rfl,kp.trans (k2.trans k3),yd,h5,ry.mono (k2.trans k3),rh3.sub sb,w5⟩
  ·refine .inl ⟨jo'.2 (G3d.mp hi),λa ha=>p (.lst a) (.ref a) _ _ (kk.trans (.new ha)) (rh'.newL ha ry) ⟨rfl,ys,jam⟩ (stop (G3d.mp hi) a (rh'.free ha))⟩
theorem jeZ {X:Cx} {scope:Scope} {C:Addr} {s₀:Shared} {H₀:Hp} {ex:List Addr} {i:Nat} {x:Str} {p:Pos} (hN:X.N.Nodup) (hx:X.N[i]? =some x) (hl:scope.names.lookup x=some .local\/scope.names.lookup x=some .cell):
 PG (jeW X scope C s₀ H₀ ex) (.Name x p) (jcZ i):=by
 rcases hl with z|z
 ·exact jb6 hN hx (.inl (lookup_relabel_local z)) (.inr (lookup_relabel_local z))
 ·exact jb6 hN hx (.inr (jcz z)) (.inl (by show (scope.names.lookup x==some NameKind.cell)=true;rw [z];rfl))
section
variable {X:Cx} {tg e iter elt:Expr} {te:TED} {ti:TID} {g:TGD} {tb:TSD} {tt:TTD} {pos:Pos} {ta:TAD} {scope:Scope} {js:List Nat} {ifs:List Expr}
theorem jlp (he:QE X e te):QI X tg e (iL te):=(jk0 he).imp jlo
theorem joF {p:Pos} {a:Expr} (hg:Gl X "range") (hm:X.mg "range" =none) (ha:QA X [a] ta) (hs:starEach [a] X.env= [(false,eval a X.env)]:=by rfl):QI X tg (.Call (.Name "range" p) [a] [] pos) (iR1 ta):=(jh0 hg hm ha hs).imp joC
theorem jpL {body:List Stmt} (hp:PassesOwn (model X.prog X.w) X.A X.env X.xe) (hc:X.calm=true) (hi:QI X tg iter ti) (hg:QG X tg g) (hb:QSs X body tb) (hs: ∀x,foldedSetIterable iter X.env x=pure x:=by intro _;rfl):
 QS X (.For tg iter body [] pos) (jn4 ti g tb):=(jmG hp hc hi hg hb hs).imp jnh
theorem jlq:PTs X [] (LT X.K jeY):=λpins s σ H Q I h=>jle pins s σ H Q I (jni σ H Q h)
theorem qlc {i:Nat} {x:Str} {p:Pos} (hc:X.calm=true) (S:BlockOk X scope js) (hi:QI X (.Name x p) iter ti) (hj:i∈js) (hN:X.N.Nodup) (hx:X.N[i]? =some x) (hl:scope.names.lookup x=some .local\/scope.names.lookup x=some .cell)
 (ht: ∀X',jaT X scope X' ->PTs X' ifs (LT X'.K tt)) (he: ∀X',jaT X scope X' ->QE X' elt te) (hs: ∀x,foldedSetIterable iter X.env x=pure x:=by intro _;rfl):
 QE X (.ListComp elt [⟨.Name x p,iter,ifs,0⟩] scope pos) (jfN (bN i) js ti tt te):=
 (jmY hc S hi (λX' hX=>by obtain⟨C,s₀,H₀,ex,rfl⟩:=hX;exact jeZ hN hx hl) (λX' hX=>by have:=ht X' hX;obtain⟨C,s₀,H₀,ex,rfl⟩:=hX;exact this)
  (λX' hX=>by have:=he X' hX;obtain⟨C,s₀,H₀,ex,rfl⟩:=hX;exact this) hs).imp (jnj (joD hj))
theorem jpM {i j:Nat} {x y:Str} {p1 p2 p3:Pos} {k:Nat} (hc:X.calm=true) (S:BlockOk X scope js) (hi:QI X (.Tuple [.Name x p1,.Name y p2] k p3) iter ti) (hj:i∈js) (hj2:j∈js) (hij:i≠j) (hN:X.N.Nodup) (hx:X.N[i]? =some x) (hy:X.N[j]? =some y)
 (hl:scope.names.lookup x=some .local\/scope.names.lookup x=some .cell) (hl2:scope.names.lookup y=some .local\/scope.names.lookup y=some .cell)
 (ht: ∀X',jaT X scope X' ->PTs X' ifs (LT X'.K tt)) (he: ∀X',jaT X scope X' ->QE X' elt te) (hs: ∀x,foldedSetIterable iter X.env x=pure x:=by intro _;rfl):
 QE X (.ListComp elt [⟨.Tuple [.Name x p1,.Name y p2] k p3,iter,ifs,0⟩] scope pos) (jfN (b2 i j) js ti tt te):=
 (jmY hc S hi (λX' hX=>by
  obtain⟨C,s₀,H₀,ex,rfl⟩:=hX
  exact jhY hc (jbR (jeZ hN hx hl) (jbR (jeZ hN hy hl2) jgt))) (λX' hX=>by have:=ht X' hX;obtain⟨C,s₀,H₀,ex,rfl⟩:=hX;exact this)
  (λX' hX=>by have:=he X' hX;obtain⟨C,s₀,H₀,ex,rfl⟩:=hX;exact this) hs).imp (jnj (joE hj hj2 hij))
end
def LSp (K:PySem.W.Frag) (spd:RDn):Sp:=λvs H Q _=>LC K spd vs H Q
theorem jlr {K:PySem.W.Frag} {spd:RDn} {t:TAD} {E:XK}: ∀σ H Q,LE K (dCB spd t) σ H Q->jmO (LSp K spd) [] E (LA K t) σ H Q:=λσ H Q ⟨σd,h,Qd,rs,rh,t,p⟩=>
 LA.bind rs rh t λds vs h1 H1 k1 rs1 rh1 r1 q=>by rw [G21];exact⟨ds,h1,Qd,r1,rh1,q,jau p k1⟩
section
variable {X:Cx} {k:Nat} {f:Addr} {fd:FuncData} {ps:List Str} {spd:RDn} {x:Str} {p pos:Pos} {e:Expr} {es:List Expr} {t:TAD}
theorem joG (F:FnOk X.prog X.w X.K X.mg X.base CX0 k f fd ps (LSp X.K spd)) (hr:Room k X.A) (hg:Gl X x) (hm:X.mg x=some (.ref f)) (hk:PySem.W.keepIn X.K (.ref f)=true) (hb:Binds X.K fd ps [])
 (ha:QA X (e::es) t) (hdb:(x==("__debug__" :Str))=false:=by decide) (he:starEach (e::es) X.env=(false,eval e X.env)::starEach es X.env:=by rfl) (hpl:(backTo pos (starEach es X.env)).any (·.1)=false:=by rfl):
 QE X (.Call (.Name x p) (e::es) [] pos) (dCB spd t):=(jk6 F hr hg hm hk hb .nil joq ha hdb he hpl).imp jlr
theorem jnk {id:String} {r:RDn} (hc:jcO X (.builtin id) r) (hg:Gl X x) (hm:X.mg x=none) (hv:bootBuiltins x=some (.builtin id)) (ha:QA X (e::es) t) (hn:x≠ "__name__" :=by decide) (hdb:(x==("__debug__" :Str))=false:=by decide)
 (he:starEach (e::es) X.env=(false,eval e X.env)::starEach es X.env:=by rfl) (hpl:(backTo pos (starEach es X.env)).any (·.1)=false:=by rfl):QE X (.Call (.Name x p) (e::es) [] pos) (dCB r t):=(jeT hc hg hm hv ha hn hdb he hpl).imp jm3
theorem jls {T:String} {r:RDn} (hc:jcO X (.type T) r) (hg:Gl X x) (hm:X.mg x=none) (hv:bootBuiltins x=some (.type T)) (ha:QA X (e::es) t) (hn:x≠ "__name__" :=by decide) (hdb:(x==("__debug__" :Str))=false:=by decide)
 (he:starEach (e::es) X.env=(false,eval e X.env)::starEach es X.env:=by rfl) (hpl:(backTo pos (starEach es X.env)).any (·.1)=false:=by rfl):QE X (.Call (.Name x p) (e::es) [] pos) (dCB r t):=(jdz hc hg hm hv ha hn hdb he hpl).imp jm3
end
def jaK (N:List Str) (ds:List D):SD:=ds.map some++List.replicate (N.length-ds.length) none
theorem jhz {K:PySem.W.Frag} {H:Hp} {N:List Str} {ds:List D} {vs:List V} (r:RelDs K H ds vs):RelS K H (jaK N ds) (jdy N vs):=by
 have hl:=r.length
 refine⟨by unfold jaK jdy;simp [hl],λi d e=> ?_⟩
 unfold jaK at e
 unfold jdy
 by_cases hi:i<ds.length
 ·rw [G1A (by simpa using hi),G0o] at e
  cases q:ds[i]? with
  |none=>rw [q] at e;cases e
  |some d' =>
   rw [q] at e;cases e
   obtain⟨v,e1,e2⟩:=r.get q
   exact⟨v,by rw [G1A (by simpa [<-hl] using hi),G0o,e1];rfl,e2⟩
 ·rw [G1V (by simpa using hi),G2T] at e
  split at e<;>cases e
def jei (Q:KD):EndsD:= {nx:=λ_ h=> ∃h',Sub h' h/\Q .non h',rt:=λd h=> ∃h',Sub h' h/\Q d h'}
section
variable {P:Program} {w:World} {K:PySem.W.Frag} {mg:Str->Option Value} {base:Heap}
theorem Fun.okD {x qual:Str} {st:Stmt} {f:Addr} {fd:FuncData} {N ps:List Str} {k:Nat} {spd:RDn} (F:Fun K x qual st f fd) (S:FnScope N ps (jad st)) (len: ∀ds h Q,spd ds h Q->ds.length=ps.length)
 (tb:TSD) (hbody: ∀ (cdv:Value) (A:Around) (outer:List Env) (s:Shared) (H:Hp) (E:XK),Room k (A.deeper (envOfC qual (jad st) s.heap.objs.size f cdv))->QSs (jku CX0 P w K mg base N qual (jad st) f cdv A outer s H E).nox (jbj st) tb)
 (read: ∀ds h Q,spd ds h Q->tb (jei Q) (jaK N ds) h):FnOk P w K mg base CX0 (k+1) f fd ps (LSp K spd):=by
 refine F.ok S (λvs H Q E h=> ?_) (λcdv A outer s H vs Q E hr h=> ?_)
 ·obtain⟨ds,h,Qd,r,rh,q,p⟩:=h
  rw [<-r.length];exact len _ _ _ q
 ·obtain⟨ds,h,Qd,r,rh,q,p⟩:=h
  refine⟨_,hbody cdv A outer s H E hr,jaK N ds,h,jei Qd,jhz r,rh,read ds h Qd q,λσd' h' σ' H' k rs' rh' ⟨h2,sb,q'⟩=>p .non .non h2 H' k (rh'.sub sb) rfl q',λd v h' H' k rh' r' ⟨h2,sb,q'⟩=>p d v h2 H' k (rh'.sub sb) r' q',λ_ _ _ _ _ _ _ z=>z.elim,λ_ _ _ _ _ _ _ z=>z.elim⟩
end
def je0:RD2:=λx y h Q=>match x,y with
 | .int i,.int j=>Q (.int (i+j)) h
 | .tup a,.tup b=>a.length+b.length<=sizeLine/\Q (.tup (a++b)) h
 | .lst a,.lst b=> ∃xs ys,h a=some xs/\h b=some ys/\xs.length+ys.length<=sizeLine/\ ∀p,h p=none->Q (.lst p) (jbs h p (xs++ys))
 |_,_=>False
def je1:RD2:=λx y h Q=>match x,y with
 | .int i,.int j=>Q (.int (i-j)) h
 |_,_=>False
def jev:RD2:=λx y h Q=>match x,y with
 | .int i,.int j=>CMul i j/\Q (.int (i*j)) h
 | .lst a,.int k=> ∃xs,h a=some xs/\ -(2^63)<=k/\k<2^63/\xs.length*k.toNat<=sizeLine/\ ∀p,h p=none->Q (.lst p) (jbs h p (List.replicate k.toNat xs).flatten)
 |_,_=>False
def je2:RD2:=λx y h Q=>match x,y with
 | .int i,.int j=>0<j/\Q (.int (i%j)) h
 |_,_=>False
def jbU:RD2:=λx y h Q=>match x,y with
 | .int i,.int j=>jog i j/\Q (.int (i / j)) h
 |_,_=>False
def je3:RD2:=λx y h Q=>match x,y with
 | .int i,.int j=>jo7 i j/\Q (.int (i^j.toNat)) h
 |_,_=>False
def jd7 (p:Int->Int->Bool):RD2:=λx y h Q=>match x,y with
 | .int i,.int j=>Q (.bl (p i j)) h
 |_,_=>False
def eqD:RD2:=λx y h Q=>match x,y with
 | .int i,.int j=>Q (.bl (decide (i=j))) h
 | .bl i,.bl j=>Q (.bl (decide (i=j))) h
 | .str i,.str j=>Q (.bl (decide (i=j))) h
 |_,_=>False
def neD:RD2:=λx y h Q=>match x,y with
 | .int i,.int j=>Q (.bl (!decide (i=j))) h
 | .bl i,.bl j=>Q (.bl (!decide (i=j))) h
 | .str i,.str j=>Q (.bl (!decide (i=j))) h
 |_,_=>False
section
variable {X:Cx}
theorem je4 {f:Value->Value->Sem Value} {C:Int->Int->Prop} {g:Int->Int->V} {gd:Int->Int->D} {r:RD2} (ho:OpR X f (rI C g)) (hg: ∀i j H,RelD X.K H (gd i j) (g i j))
 (hr: ∀x y h Q,r x y h Q-> ∃i j,x= .int i/\y= .int j/\C i j/\Q (gd i j) h):OpQ X f r:=ho.imp λx y H Q ⟨dx,dy,h,Qd,rx,ry,rh,q,p⟩=>by
 obtain⟨i,j,e1,e2,c,q'⟩:=hr dx dy h Qd q
 subst e1 e2
 exact⟨i,j,rx,ry,c,p _ _ _ _ (.refl H) rh (hg i j H) q'⟩
theorem jds {f:Value->Value->Sem Value} {g:Int->Int->V} {gd:Int->Int->D} {r:RD2} (ho:OpR X f (rI0 g)) (hg: ∀i j H,RelD X.K H (gd i j) (g i j))
 (hr: ∀x y h Q,r x y h Q-> ∃i j,x= .int i/\y= .int j/\Q (gd i j) h):OpQ X f r:=ho.imp λx y H Q ⟨dx,dy,h,Qd,rx,ry,rh,q,p⟩=>by
 obtain⟨i,j,e1,e2,q'⟩:=hr dx dy h Qd q
 subst e1 e2
 exact⟨i,j,rx,ry,p _ _ _ _ (.refl H) rh (hg i j H) q'⟩
theorem jcv:OpQ X (binaryOp .Sub) je1:=jds (gd:=λi j=> .int (i-j)) jmH (λ_ _ _=>rfl) λx y h Q q=>by
 cases x<;>cases y<;>first|exact False.elim q|exact⟨_,_,rfl,rfl,q⟩
theorem jdh:OpQ X (binaryOp .Mod) je2:=je4 (gd:=λi j=> .int (i%j)) jmI (λ_ _ _=>rfl) λx y h Q q=>by
 cases x<;>cases y<;>first|exact False.elim q|exact⟨_,_,rfl,rfl,q.1,q.2⟩
theorem jlt:OpQ X (binaryOp .FloorDiv) jbU:=je4 (gd:=λi j=> .int (i / j)) jk1 (λ_ _ _=>rfl) λx y h Q q=>by
 cases x<;>cases y<;>first|exact False.elim q|exact⟨_,_,rfl,rfl,q.1,q.2⟩
theorem jkw:OpQ X (binaryOp .Pow) je3:=je4 (gd:=λi j=> .int (i^j.toNat)) jmJ (λ_ _ _=>rfl) λx y h Q q=>by
 cases x<;>cases y<;>first|exact False.elim q|exact⟨_,_,rfl,rfl,q.1,q.2⟩
theorem jgx {p:Int->Int->Bool}: ∀x y h Q,jd7 p x y h Q-> ∃i j,x= .int i/\y= .int j/\Q (.bl (p i j)) h:=λx y h Q q=>by
 cases x<;>cases y<;>first|exact False.elim q|exact⟨_,_,rfl,rfl,q⟩
theorem jlu:OpQ X (compareOp .Lt) (jd7 λi j=>decide (i<j)):=jds (gd:=λi j=> .bl (decide (i<j))) joh (λ_ _ _=>rfl) jgx
theorem jjH:OpQ X (compareOp .LtE) (jd7 λi j=>decide (i<=j)):=jds (gd:=λi j=> .bl (decide (i<=j))) joi (λ_ _ _=>rfl) jgx
theorem jjI:OpQ X (compareOp .GtE) (jd7 λi j=>decide (j<=i)):=jds (gd:=λi j=> .bl (decide (j<=i))) joj (λ_ _ _=>rfl) jgx
theorem jmh {α:Type} [DecidableEq α] {f:α->V} (hf: ∀a b,f a=f b->a=b) (a b:α):decide (f a=f b)=decide (a=b):=by
 by_cases h:a=b
 ·subst h;simp
 ·rw [G0Q h,G0Q (λe=>h (hf a b e))]
theorem oq_eq:OpQ X (compareOp .Eq) eqD:=op_eq.imp λx y H Q ⟨dx,dy,h,Qd,rx,ry,rh,q,p⟩=>by
 cases dx<;>cases dy<;>first
  |exact False.elim q
  |(cases (show x= .int _ from rx);cases (show y= .int _ from ry);refine⟨rfl,p _ _ _ _ (.refl H) rh ?_ q⟩;rw [jmh (f:=V.int) (λa b e=>by cases e;rfl)];rfl)
  |(cases (show x= .bl _ from rx);cases (show y= .bl _ from ry);refine⟨rfl,p _ _ _ _ (.refl H) rh ?_ q⟩;rw [jmh (f:=V.bl) (λa b e=>by cases e;rfl)];rfl)
  |(cases (show x= .str _ from rx);cases (show y= .str _ from ry);refine⟨rfl,p _ _ _ _ (.refl H) rh ?_ q⟩;rw [jmh (f:=V.str) (λa b e=>by cases e;rfl)];rfl)
theorem oq_ne:OpQ X (compareOp .NotEq) neD:=op_ne.imp λx y H Q ⟨dx,dy,h,Qd,rx,ry,rh,q,p⟩=>by
 cases dx<;>cases dy<;>first
  |exact False.elim q
  |(cases (show x= .int _ from rx);cases (show y= .int _ from ry);refine⟨rfl,p _ _ _ _ (.refl H) rh ?_ q⟩;rw [jmh (f:=V.int) (λa b e=>by cases e;rfl)];rfl)
  |(cases (show x= .bl _ from rx);cases (show y= .bl _ from ry);refine⟨rfl,p _ _ _ _ (.refl H) rh ?_ q⟩;rw [jmh (f:=V.bl) (λa b e=>by cases e;rfl)];rfl)
  |(cases (show x= .str _ from rx);cases (show y= .str _ from ry);refine⟨rfl,p _ _ _ _ (.refl H) rh ?_ q⟩;rw [jmh (f:=V.str) (λa b e=>by cases e;rfl)];rfl)
def jnl (K:PySem.W.Frag):R2:=λx y H Q=> ∃a b xs ys,x= .ref a/\y= .ref b/\SqT K H a xs/\SqT K H b ys/\xs= []/\Q (.ref b) H
theorem op_catT0:OpR X (binaryOp .Add) (jnl X.K):=by
 intro pins s σ H x y v u Q I rx ry h
 obtain⟨a,b,xs,ys,rfl,rfl,ha,hb,hx,q⟩:=h
 cases rx
 cases ry
 obtain⟨its,r1,p1,_⟩:=I.tuple ha
 obtain⟨its2,r2,p2,_⟩:=I.tuple hb
 have hv:its= []:=r1.nil_iff.mpr hx
 obtain⟨⟨cls,dd,data,sl⟩,ho,hc,n,hd⟩:=id p1
 obtain⟨⟨cls2,dd2,data2,sl2⟩,ho2,hc2,n2,hd2⟩:=id p2
 simp only at hc hd hc2 hd2
 subst hc hd hc2 hd2
 exact concat_meets ⟨_,ho,rfl⟩ ⟨_,ho2,rfl⟩ G2W seq_tuple_add G2e G15 (G11 _ _)
  (tuple_addW0 a b its.toArray its2.toArray n n2 dd dd2 sl sl2 (by simp [hv])) ⟨ho,ho2,.ref b,H,I,rfl,q⟩
theorem jbF:OpQ X (binaryOp .Add) je0:=(op_add.or (op_catT.or (op_catT0.or jmU))).imp λx y H Q ⟨dx,dy,h,Qd,rx,ry,rh,q,p⟩=>by
 cases dx<;>cases dy<;>first
  |exact False.elim q
  |skip
 ·exact .inl ⟨_,_,rx,ry,p (.int _) _ _ _ (.refl H) rh rfl q⟩
 ·rename_i ds es
  obtain⟨a,vs,e1,h1,r1⟩:=(show ∃a vs,x= .ref a/\H a=some (.tup vs)/\RelDs X.K H ds vs from rx)
  obtain⟨b,us,e2,h2,r2⟩:=(show ∃a vs,y= .ref a/\H a=some (.tup vs)/\RelDs X.K H es vs from ry)
  subst e1 e2
  obtain⟨hz,q⟩:=q
  by_cases hv:vs= []
  ·subst hv
   have e:ds= []:=G17.mp r1.length
   subst e
   exact .inr (.inr (.inl ⟨a,b,[],us,rfl,rfl,SqT.of h1,SqT.of h2,rfl,p (.tup es) _ _ _ (.refl H) rh ⟨b,us,rfl,h2,r2⟩ q⟩))
  ·refine .inr (.inl ⟨a,b,vs,us,rfl,rfl,SqT.of h1,SqT.of h2,hv,by rw [<-r1.length,<-r2.length];exact hz,λe=> ?_,λ_ c hc=> ?_⟩)
   ·subst e
    have e:es= []:=G17.mp r2.length
    subst e
    rw [G21] at q
    exact p (.tup ds) _ _ _ (.refl H) rh ⟨a,vs,rfl,h1,r1⟩ q
   ·exact p (.tup (ds++es)) _ _ _ (.new hc) (rh.new hc) ⟨c,vs++us,rfl,jam,(r1.append r2).mono (.new hc)⟩ q
 ·rename_i a b
  obtain⟨xs,ys,h1,h2,hz,q⟩:=q
  obtain⟨vs,e1,r1⟩:=rh a xs h1
  obtain⟨us,e2,r2⟩:=rh b ys h2
  refine .inr (.inr (.inr ⟨a,b,vs,us,rx.1,ry.1,e1,e2,by rw [<-r1.length,<-r2.length];exact hz,λc hc=> ?_⟩))
  exact p (.lst c) _ _ _ (.new hc) (rh.newL hc (r1.append r2)) ⟨rfl,_,jam⟩ (q c (rh.free hc))
theorem RelDs.flat {K:PySem.W.Frag} {H:Hp} {ds:List D} {vs:List V} (r:RelDs K H ds vs): ∀k:Nat,RelDs K H (List.replicate k ds).flatten (List.replicate k vs).flatten
 |0=>by simp;exact .nil
 |k+1=>by rw [G1i,G1i,G1F,G1F];exact r.append (RelDs.flat r k)
theorem oq_mul:OpQ X (binaryOp .Mult) jev:=(op_mul.or jmV).imp λx y H Q ⟨dx,dy,h,Qd,rx,ry,rh,q,p⟩=>by
 cases dx<;>cases dy<;>first
  |exact False.elim q
  |skip
 ·exact .inl ⟨_,_,rx,ry,q.1,p (.int _) _ _ _ (.refl H) rh rfl q.2⟩
 ·obtain⟨xs,h1,b1,b2,hz,q⟩:=q
  obtain⟨vs,e1,r1⟩:=rh _ xs h1
  refine .inr ⟨_,_,vs,rx.1,ry,e1,b1,b2,by rw [<-r1.length];exact hz,λc hc=> ?_⟩
  exact p (.lst c) _ _ _ (.new hc) (rh.newL hc (r1.flat _)) ⟨rfl,_,jam⟩ (q c (rh.free hc))
end
def ixD:RD2:=λx y h Q=>match x,y with
 | .tup ds,.int i=> ∃d,atI ds i=some d/\Q d h
 | .lst a,.int i=> ∃ds d,h a=some ds/\atI ds i=some d/\Q d h
 | .scr ns,.int i=> ∃n,atI ns i=some n/\Q (.int n) h
 |_,_=>False
theorem jim {K:PySem.W.Frag} {H:Hp} {ds:List D} {vs:List V} (r:RelDs K H ds vs) {i:Int} {d:D} (e:atI ds i=some d): ∃v,atI vs i=some v/\RelD K H d v:=by
 unfold atI at e ⊢
 rw [<-r.length]
 cases q:ixN ds.length i with
 |none=>rw [q] at e;cases e
 |some j=>rw [q] at e;exact r.get e
theorem jlv {α β:Type} (f:α->β) {xs:List α} {i:Int} {x:α} (e:atI xs i=some x):atI (xs.map f) i=some (f x):=by
 unfold atI at e ⊢
 rw [G0a]
 cases q:ixN xs.length i with
 |none=>rw [q] at e;cases e
 |some j=>
  rw [q] at e
  show (xs.map f)[j]? =_
  rw [G0o,(show xs[j]? =some x from e)];rfl
section
variable {X:Cx} {a b e:Expr} {ta tb te:TED} {pos p2:Pos}
theorem joH: ∀σ H Q,LE X.K (dOp ixD ta tb) σ H Q->tOp (rIx X.K) (LE X.K ta) (LE X.K tb) σ H Q:=λσ H Q ⟨σd,h,Qd,rs,rh,t,p⟩=>
 LE.bind rs rh t λdx x h1 H1 k1 rs1 rh1 r1 t1=>LE.bind rs1 rh1 t1 λdy y h2 H2 k2 rs2 rh2 ry q=>by
  have rx:=r1.mono k2
  have kk:=k1.trans k2
  cases dx<;>cases dy<;>first
   |exact False.elim q
   |skip
  ·rename_i ds i
   obtain⟨d,e,q⟩:=q
   obtain⟨a,vs,e1,hH,r⟩:=(show ∃a vs,x= .ref a/\H2 a=some (.tup vs)/\RelDs X.K H2 ds vs from rx)
   obtain⟨v,e2,rv⟩:=jim r e
   exact .inr (.inl ⟨a,vs,i,v,e1,ry,SqT.of hH,e2,p _ _ _ _ kk rh2 rv q⟩)
  ·rename_i a i
   obtain⟨ds,d,hd,e,q⟩:=q
   obtain⟨vs,hH,r⟩:=rh2 a ds hd
   obtain⟨v,e2,rv⟩:=jim r e
   exact .inl ⟨a,vs,i,v,rx.1,ry,SqL.of hH,e2,p _ _ _ _ kk rh2 rv q⟩
  ·rename_i ns i
   obtain⟨n,e,q⟩:=q
   obtain⟨a,e1,hS⟩:=(show ∃a,x= .ref a/\Scr X.K H2 a ns from rx)
   exact .inl ⟨a,_,i,.int n,e1,ry,hS.sq,jlv V.int e,p (.int n) _ _ _ kk rh2 rfl q⟩
theorem qix (ha:QE X a ta) (hb:QE X b tb) (hs:jgv b):QE X (.Subscript a b pos) (dOp ixD ta tb):=(jon jmS ha hb hs).imp joH
end
def jew:RDn:=λds h Q=>match ds with
 | [.tup xs]=>Q (.int xs.length) h
 | [.lst a]=> ∃xs,h a=some xs/\Q (.int xs.length) h
 | [.scr ns]=>Q (.int ns.length) h
 |_=>False
def jex:RDn:=λds h Q=>match ds with
 | [.int i]=>Q (.int i) h
 | [.bl k]=>Q (.int (if k then 1 else 0)) h
 |_=>False
def jey:RDn:=λds h Q=>match ds with
 | [.int i,.int j]=>Q (.int (if j>i then j else i)) h
 |_=>False
def jaI:RDn:=λds h Q=>match ds with
 | [.int i,.int j]=>jog i j/\Q (.tup [.int (i / j),.int (i%j)]) h
 |_=>False
def jaW:RDn:=λds h Q=>match ds with
 | [.tup xs]=>Q (.tup xs) h
 | [.lst a]=> ∃xs,h a=some xs/\Q (.tup xs) h
 |_=>False
def jaQ:RDn:=λds h Q=>match ds with
 | [.lst a]=> ∃xs,h a=some xs/\Q (.tup xs) (jeX h a)
 |_=>False
def jbG:RDn:=λds h Q=>match ds with
 | [.tup xs]=> ∀p,h p=none->Q (.lst p) (jbs h p xs)
 | [.lst a]=> ∃xs,h a=some xs/\ ∀p,h p=none->Q (.lst p) (jbs h p xs)
 |_=>False
section
variable {X:Cx}
theorem jbe:jcO X (.builtin "len") jew:=call_len_seq.imp λxs H Q ⟨ds,h,Qd,r,rh,q,p⟩=>by
 unfold jew at q
 split at q
 ·rename_i es
  obtain⟨v,e,r1⟩:=jas r
  obtain⟨a,vs,e1,hH,r2⟩:=(show ∃a vs,v= .ref a/\H a=some (.tup vs)/\RelDs X.K H es vs from r1)
  subst e e1
  exact⟨a,vs,rfl,.inr (SqT.of hH),by rw [<-r2.length];exact p (.int _) _ _ _ (.refl H) rh rfl q⟩
 ·rename_i a
  obtain⟨es,hd,q⟩:=q
  obtain⟨v,e,r1⟩:=jas r
  obtain⟨vs,hH,r2⟩:=rh a es hd
  have e1:v= .ref a:=r1.1
  subst e e1
  exact⟨a,vs,rfl,.inl (SqL.of hH),by rw [<-r2.length];exact p (.int _) _ _ _ (.refl H) rh rfl q⟩
 ·rename_i ns
  obtain⟨v,e,r1⟩:=jas r
  obtain⟨a,e1,hS⟩:=(show ∃a,v= .ref a/\Scr X.K H a ns from r1)
  subst e e1
  exact⟨a,_,rfl,.inl hS.sq,by rw [G0a];exact p (.int _) _ _ _ (.refl H) rh rfl q⟩
 ·exact q.elim
theorem jkx:jcO X (.type "int") jex:=call_int1.imp λxs H Q ⟨ds,h,Qd,r,rh,q,p⟩=>by
 unfold jex at q
 split at q
 ·rename_i i
  obtain⟨v,e,r1⟩:=jas r
  cases (show v= .int i from r1)
  exact .inl ⟨i,e,p (.int i) _ _ _ (.refl H) rh rfl q⟩
 ·rename_i k
  obtain⟨v,e,r1⟩:=jas r
  cases (show v= .bl k from r1)
  exact .inr ⟨k,e,p (.int _) _ _ _ (.refl H) rh rfl q⟩
 ·exact q.elim
theorem jnm (hc:X.calm=true):jcO X (.builtin "max") jey:=(jh5 hc).imp λxs H Q ⟨ds,h,Qd,r,rh,q,p⟩=>by
 unfold jey at q
 split at q
 ·rename_i i j
  obtain⟨v,w,e,r1,r2⟩:=jbE r
  cases (show v= .int i from r1)
  cases (show w= .int j from r2)
  exact⟨i,j,e,p (.int _) _ _ _ (.refl H) rh rfl q⟩
 ·exact q.elim
theorem cq_tuple:jcO X (.type "tuple") jaW:=call_tuple_of.imp λxs H Q ⟨ds,h,Qd,r,rh,q,p⟩=>by
 unfold jaW at q
 split at q
 ·rename_i es
  obtain⟨v,e,r1⟩:=jas r
  obtain⟨a,vs,e1,hH,r2⟩:=(show ∃a vs,v= .ref a/\H a=some (.tup vs)/\RelDs X.K H es vs from r1)
  subst e e1
  exact⟨a,vs,rfl,.inr ⟨SqT.of hH,p (.tup es) _ _ _ (.refl H) rh ⟨a,vs,rfl,hH,r2⟩ q⟩⟩
 ·rename_i a
  obtain⟨es,hd,q⟩:=q
  obtain⟨v,e,r1⟩:=jas r
  obtain⟨vs,hH,r2⟩:=rh a es hd
  have e1:v= .ref a:=r1.1
  subst e e1
  exact⟨a,vs,rfl,.inl ⟨SqL.of hH,λc hc=>p (.tup es) _ _ _ (.new hc) (rh.new hc) ⟨c,vs,rfl,jam,r2.mono (.new hc)⟩ q⟩⟩
 ·exact q.elim
theorem ja8:jcO X (.type "tuple") jaQ:=cq_tuple.imp λxs H Q ⟨ds,h,Qd,r,rh,q,p⟩=>by
 unfold jaQ at q
 split at q
 ·rename_i a
  obtain⟨es,hd,q⟩:=q
  exact⟨[.lst a],h,λd h' =>Qd d (jeX h' a),r,rh,⟨es,hd,q⟩,λd v h' H' k rh' rd q' =>p d v _ H' k (rh'.sub (Sub.drop h' a)) rd q'⟩
 ·exact q.elim
theorem jlw:jcO X (.type "list") jbG:=call_list_of.imp λxs H Q ⟨ds,h,Qd,r,rh,q,p⟩=>by
 unfold jbG at q
 split at q
 ·rename_i es
  obtain⟨v,e,r1⟩:=jas r
  obtain⟨a,vs,e1,hH,r2⟩:=(show ∃a vs,v= .ref a/\H a=some (.tup vs)/\RelDs X.K H es vs from r1)
  subst e e1
  exact⟨a,vs,rfl,.inr (SqT.of hH),λc hc=>p (.lst c) _ _ _ (.new hc) (rh.newL hc r2) ⟨rfl,_,jam⟩ (q c (rh.free hc))⟩
 ·rename_i a
  obtain⟨es,hd,q⟩:=q
  obtain⟨v,e,r1⟩:=jas r
  obtain⟨vs,hH,r2⟩:=rh a es hd
  have e1:v= .ref a:=r1.1
  subst e e1
  exact⟨a,vs,rfl,.inl (SqL.of hH),λc hc=>p (.lst c) _ _ _ (.new hc) (rh.newL hc r2) ⟨rfl,_,jam⟩ (q c (rh.free hc))⟩
 ·exact q.elim
end
def jfO:D->Option String
 | .non=>some "NoneType" | .bl _=>some "bool" | .int _=>some "int" | .str _=>some "str" | .tup _=>some "tuple" | .lst _=>some "list" | .dic _ _=>some "dict" | .scr _=>none| .exc _=>none| .fn _=>none
def jnn (T:String) (n:String):Bool:=n==T||(T== "int" &&n== "bool")
theorem jjJ {K:PySem.W.Frag} {H:Hp} {d:D} {v:V} {n:String} (r:RelD K H d v) (e:jfO d=some n):TyOf K H v (.type n):=by
 cases d with
 |non=>cases (show v= .non from r);cases e;exact .non
 |bl b=>cases (show v= .bl b from r);cases e;exact .bl b
 |int i=>cases (show v= .int i from r);cases e;exact .int i
 |str x=>cases (show v= .str x from r);cases e;exact .str x
 |tup ds=>
  obtain⟨a,vs,e1,hH,_⟩:=(show ∃a vs,v= .ref a/\H a=some (.tup vs)/\RelDs K H ds vs from r)
  subst e1;cases e;exact .tup hH
 |lst a=>
  obtain⟨e1,vs,hH⟩:=(show v= .ref a/\ ∃vs,H a=some (.lst vs) from r)
  subst e1;cases e;exact .lst hH
 |dic x i=>
  obtain⟨a,e1,hH⟩:=(show ∃a,v= .ref a/\H a=some (.dK [(Sum.inr x,V.int i)]) from r)
  subst e1;cases e;exact .dK hH
 |scr ns=>cases e
 |exc C=>cases e
 |fn a=>cases e
def jlx:List String:= ["NoneType","bool","int","str","tuple","list","dict"]
theorem jhA {d:D} {n:String} (e:jfO d=some n):n∈jlx:=by
 cases d<;>cases e<;>decide
def joI (K:PySem.W.Frag):Prop:= ∀n∈jlx,∀T∈ ["tuple","int","bool","list","str"],PySem.W.kitOne K (.type n) (.type T)=some (jnn T n)
theorem jly (K:PySem.W.Frag):joI K:=by
 intro n hn T hT
 simp only [jlx,G0u,G04,G2U] at hn hT
 rcases hn with rfl|rfl|rfl|rfl|rfl|rfl|rfl<;>rcases hT with rfl|rfl|rfl|rfl|rfl<;>with_unfolding_all rfl
theorem jin {X:Cx} (T:String):CallR X (.builtin "isinstance") (λxs H Q=> ∃x t b,xs= [x,.ty T]/\TyOf X.K H x t/\PySem.W.kitOne X.K t (.type T)=some b/\Q (.bl b) H):=by
 intro pins s σ H xs us Q I r h
 obtain⟨x,t,b,rfl,ty,e,q⟩:=h
 obtain⟨u,w',rfl,rx,rt⟩:=jjy r
 cases (show w' =Value.type T from rt)
 exact jh7 I rx ty e λtk=>⟨.bl b,H,I.tok tk,rfl,q⟩
def dIs (T:String) (ta:TED):TED:=λσ h Q=>ta σ h λx h1=> ∃n,jfO x=some n/\Q (.bl (jnn T n)) h1
theorem joJ {X:Cx} {a:Expr} {ta:TED} {T:String} {t:Str} {p p2 pos:Pos} (hT:T∈ ["tuple","int","bool","list","str"]) (hg:Gl X "isinstance") (hm:X.mg "isinstance" =none) (hg2:Gl X t) (hm2:X.mg t=none) (hv:bootBuiltins t=some (.type T)) (ha:QE X a ta)
 (hn:t≠ "__name__" :=by decide) (hd:(t==("__debug__" :Str))=false:=by decide)
 (h1:starEach [a,.Name t p2] X.env=(false,eval a X.env)::starEach [.Name t p2] X.env:=by rfl) (h2:(backTo pos (starEach [.Name t p2] X.env)).any (·.1)=false:=by rfl):
 QE X (.Call (.Name "isinstance" p) [a,.Name t p2] [] pos) (dIs T ta):=
 (jeT (jin T) hg hm PyProof.Rows.boot_isinstance (jbS ha (jbS (jkW (v:= .ty T) hg2 hm2 hv rfl hn hd) pa_nil (by rfl)) h1) (by decide) (by decide) h1 h2).imp
  λσ H Q ⟨σd,h,Qd,rs,rh,t,p⟩=>LE.bind rs rh t λd v h1 H1 k1 rs1 rh1 r1 ⟨n,e,q⟩=>⟨v,.type n,jnn T n,rfl,jjJ r1 e,jly _ n (jhA e) T hT,p (.bl _) _ _ _ k1 rh1 rfl q⟩
theorem jio (bs:List Bool):(List.range bs.length).all (λi=>bs.getD i false)=bs.all id:=by
 induction bs with
 |nil=>rfl
 |cons b bs ih=>
  rw [G0e,List.range_succ_eq_map,List.all_cons,G12,List.all_cons]
  show (b&&_)=(b&&bs.all id)
  rw [<-ih]
  rfl
theorem jip {bs:List Bool} {its:List Value} (r:Vals (bs.map V.bl) its) {i:Nat} {v:Value} (e:its[i]? =some v):v= .bool (bs.getD i false):=by
 have hl:=r.length
 rw [G0a] at hl
 have hi:i<its.length:=(G0s.mp e).1
 have hb:(bs.map V.bl)[i]? =some (.bl bs[i]):=by rw [G0o,G0i (by omega)];rfl
 obtain⟨u,e1,r1⟩:=r.get hb
 rw [e] at e1;cases e1
 rw [G0n,G0i (by omega)]
 exact r1
section
variable {X:Cx}
theorem je5 (hc:X.calm=true):CallR X (.builtin "all") (λxs H Q=> ∃ (a:Addr) (bs:List Bool),xs= [.ref a]/\SqL X.K H a (bs.map V.bl)/\Q (.bl (bs.all id)) H):=by
 intro pins s σ H xs us Q I r h
 obtain⟨a,bs,rfl,hS,q⟩:=h
 obtain⟨u,rfl,ru⟩:=jcN r
 cases ru
 obtain⟨its,rv,pl,hz⟩:=I.list hS
 have hl:=pl.isList
 have hlt:a<s.heap.objs.size:=by obtain⟨_,e,_⟩:=hl;exact G0k e
 refine call_all_walk (G1U hl ?_)
 refine⟨s.heap.objs.size,_,_,_,_,_,λi=>bs.getD i false,rfl,Walks.list (A:=X.A.in1) (show X.A.in1.handled=none from I.ok.hd hc) s.heap.objs.size a (G0G hlt) its.toArray,⟨⟨_,G0m _ rfl,rfl,rfl⟩,hl.push _⟩,?_,λh' tk hk=> ?_⟩
 ·intro i v s' Q' E' hP hQ
  have e:its[i]? =some v:=by simpa using hP
  rw [jip rv e]
  exact G06 hQ
 ·have hn:its.toArray.size=bs.length:=by rw [G0f,<-rv.length,G0a]
  rw [hn,jio]
  exact⟨.bl _,H,I.kept (t' :=tk) (λb o e=>hk b o (λz=>by rw [G0x.mp z] at e;exact absurd (G0k e) (G0P _)) (G0b _ e)),rfl,q⟩
theorem jdI {K:PySem.W.Frag} {H:Hp}: ∀ {bs:List Bool} {vs:List V},RelDs K H (bs.map D.bl) vs->vs=bs.map V.bl
 | [],_,h=>h
 |b::bs,vs,h=>by
  obtain⟨v,r,e,h1,h2⟩:=(show ∃v r,vs=v::r/\RelD K H (.bl b) v/\RelDs K H (bs.map D.bl) r from h)
  rw [e,jdI h2,(show v= .bl b from h1)];rfl
def jno:RDn:=λds h Q=> ∃ (a:Addr) (bs:List Bool),ds= [.lst a]/\h a=some (bs.map D.bl)/\Q (.bl (bs.all id)) (jeX h a)
theorem jfP (hc:X.calm=true):jcO X (.builtin "all") jno:=(je5 hc).imp λxs H Q ⟨ds,h,Qd,r,rh,⟨a,bs,e,hd,q⟩,p⟩=>by
 subst e
 obtain⟨v,e,r1⟩:=jas r
 obtain⟨vs,hH,r2⟩:=rh a _ hd
 have e1:v= .ref a:=r1.1
 rw [jdI r2] at hH
 subst e e1
 exact⟨a,bs,rfl,SqL.of hH,p (.bl _) _ _ _ (.refl H) (rh.sub (Sub.drop h a)) rfl q⟩
end
def jez (to:TED) (te:TED):TED:=λσ h Q=>to σ h λx h1=> ∃a,x= .lst a/\te σ h1 λy h2=> ∃xs,h2 a=some xs/\xs.length<sizeLine/\Q .non (jbs h2 a (xs++ [y]))
section
variable {X:Cx} {o e i:Expr} {to te ti:TED} {apos cpos pos:Pos}
theorem jpN (ho:QE X o to) (he:QE X e te) (hbase:attributeBase o "append" X.env (eval o X.env)=eval o X.env:=by rfl)
 (hfew:((backTo cpos (starEach [e] X.env)).all (λx=> !x.1)&&(backToKw cpos (keywordEach [] X.env)).all (λx=>x.1.isSome)&&decide ([e].length+([]:List Keyword).length+(if ([]:List Keyword).isEmpty then 0 else 1)<30))=true:=by rfl)
 (hline:(apos.endLine==cpos.line)=true:=by rfl) (hs:starEach [e] X.env=(false,eval e X.env)::starEach [] X.env:=by rfl) (hplain:(backTo cpos (starEach [] X.env)).any (·.1)=false:=by rfl):
 QE X (.Call (.Attribute o "append" apos) [e] [] cpos) (jez to te):=
 (jlb G18 PySem.F.slot_list_append PySem.F.type_list_append jic ho (jbS he pa_nil hs) hbase hfew hline hs hplain).imp
  λσ H Q ⟨σd,h,Qd,rs,rh,t,p⟩=>LE.bind rs rh t λd v h1 H1 k1 rs1 rh1 r1 ⟨a,e,q⟩=>by
   subst e
   obtain⟨e1,vs,hH⟩:=(show v= .ref a/\ ∃vs,H1 a=some (.lst vs) from r1)
   subst e1
   refine⟨.inl ⟨rfl,vs,SqL.of hH⟩,?_⟩
   refine LE.bind rs1 rh1 q λy u h2 H2 k2 rs2 rh2 r2 ⟨xs,hx,hz,q2⟩=> ?_
   obtain⟨ws,hW,r3⟩:=rh2 a xs hx
   refine⟨a,ws,u,rfl,rfl,hW,by rw [<-r3.length];exact hz,p .non _ _ _ (k1.trans (k2.trans (.put hW))) (rh2.put hW (r3.append (.cons r2 .nil))) rfl q2⟩
def jbH (to ti:TED):TGD:=λd σ h Q=>to σ h λo h1=>ti σ h1 λi h2=> ∃a k xs j,o= .lst a/\i= .int k/\h2 a=some xs/\ixN xs.length k=some j/\Q σ (jbs h2 a (xs.set j d))
theorem jnp (ho:QE X o to) (hi:QE X i ti)
 (ha: ∀v,assign (.Subscript o i pos) X.env v=(do
  let ov <-holding [v] (eval o X.env)
  let iv <-holding [v,ov] (eval i X.env)
  standAt pos
  holding [v,ov,iv] (setItem ov iv v)
  release [v,ov,iv] []):=by intro _;rfl):QG X (.Subscript o i pos) (jbH to ti):=
 (jmA ho hi jjB ha).imp λv σ H Q ⟨d,σd,h,Qd,r,rs,rh,q,p⟩=>
  LE.bind rs rh q λd1 v1 h1 H1 k1 rs1 rh1 r1 q1=>LE.bind rs1 rh1 q1 λd2 v2 h2 H2 k2 rs2 rh2 r2 ⟨a,k,xs,j,e1,e2,hx,hj,q2⟩=>by
   subst e1 e2
   have e3:v1= .ref a:=(r1.mono k2).1
   obtain⟨ws,hW,r3⟩:=rh2 a xs hx
   refine⟨a,ws,k,j,e3,r2,hW,by rw [<-r3.length];exact hj,p _ _ _ _ (k1.trans (k2.trans (.put hW))) (rs2.mono (.put hW)) (rh2.put hW (RelDs.set ((r.mono k1).mono k2) j r3)) q2⟩
end
def jky (N:List Str) (sc:List (Str×NameKind)) (scope:Scope) (js:List Nat):Bool:=
 scope.kind== .function&&scope.names.all (λp=>p.2 != .cell||scope.names.lookup p.1==some .cell)&&scope.names.all (λp=>p.2 != .local||scope.names.lookup p.1==some .local)&&
 scope.names.all (λp=>p.2 != .free||sc.lookup p.1==some .cell||sc.lookup p.1==some .free)&&
 (List.range N.length).all λi=>(scope.names.lookup (N.getD i Str.empty) !=some .local&&scope.names.lookup (N.getD i Str.empty) !=some .cell)||js.contains i
theorem jao {X:Cx} {scope:Scope} {js:List Nat} (h:jky X.N X.env.scope.names scope js=true):BlockOk X scope js:=by
 unfold jky at h
 simp only [G1o] at h
 obtain⟨⟨⟨⟨h1,h2⟩,h3⟩,h4⟩,h5⟩:=h
 refine⟨eq_of_beq h1,λp hp e=> ?_,λp hp e=> ?_,λp hp e=> ?_,λi x e1 e2=> ?_⟩
 ·have:=G0U.mp h3 p hp;rw [e] at this;simpa using this
 ·have:=G0U.mp h2 p hp;rw [e] at this;simpa using this
 ·have:=G0U.mp h4 p hp;rw [e] at this;simpa using this
 ·have hi:i<X.N.length:=(G0s.mp e1).1
  have:=G0U.mp h5 i (G0q.mpr hi)
  rw [G0n,e1,G10] at this
  rcases e2 with e2|e2<;>(rw [e2] at this;simpa using this)
theorem qpt {X:Cx} {e:Expr} {t:TTD} (h:QW X e t):QT X e t:=h.pt
theorem jiq {i:Nat} {js:List Nat} {ti:TID} {te:TED} {σ:SD} {h h1:HD} {Q:KD} {ds:List D} {j:ItD} (f:D->D) (hz:ds.length<=sizeLine) (hj:j h1=some ds)
 (ht: ∀R:ItD->HD->Prop,R j h1->ti σ h R) (he: ∀d∈ds,∀Q' :KD,Q' (f d) h1->te ((jbD js σ).set i (some d)) h1 Q') (hq: ∀p,h1 p=none->Q (.lst p) (jbs h1 p (ds.map f))):jfN (bN i) js ti jeY te σ h Q:=by
 refine ht _ ⟨ds.length,λk ys h' =>h' =h1/\ys=(ds.take k).map f,⟨rfl,by simp⟩,?_⟩
 rintro k ys h' ⟨rfl,rfl⟩
 refine⟨by simp only [G0a,G03];omega,ds,hj,G0d _,λhl p hp=> ?_,λd hd=>⟨_,rfl,?_⟩⟩
 ·rw [G1s hl];exact hq p hp
 ·unfold jeY
  dsimp only
  rw [if_pos rfl]
  refine he d (G0W hd) _ ⟨h',Sub.refl _,rfl,?_⟩
  rw [G2j,hd]
  simp
end L2
namespace HT
open PySem PySem.Spec PyProof.Rows
section
variable {prog:Program} {w:World} {A:Around} {E:Value->Shared->Prop} {s:Shared}
theorem jcA {t sl:Addr} {items:Array Value} {vl vu:Value} {lo hi:Option Int} {Q:Value->Shared->Prop} (ht:IsTup s.heap t items) (hs:s.heap.IsSliceOf sl vl vu .none) (pl:IsPart vl lo) (pu:IsPart vu hi)
 (hw:sIx items.size 0 lo=0/\sIx items.size items.size hi=items.size) (h:Q (.ref t) s):wpAny (model prog w) A (getItem (.ref t) (.ref sl)) Q E s:=by
 obtain⟨os,hos,hcs,hds⟩:=id hs
 have hTs:s.TypeIs (.ref sl) "slice" :=⟨os,hos,hcs⟩
 unfold getItem
 try with_reducible refine G02 ?_
 first|refine wpAny_bind (G0c ?_)|skip
 refine wpAny_bind (wpAny_sequenceKey ht.typeIs (by decide) ?_)
 refine wpAny_bind (G0Z (name:=Str.ofString "__getitem__") ht.typeIs G1h
  (G0Y G1h ht.typeIs entry_tuple_getitem ?_ (args_tuple_getitem _ _)))
 show wpAny _ _ (Builtin.Tuple.tupleItemsOf (.ref t) >>= _) _ _ s
 refine wpAny_bind (tupleItemsOf_ ht ?_)
 refine wpAny_bind (G2I hTs ?_)
 rw [if_pos (by decide)]
 refine wpAny_bind (jb3 hs pl pu ?_)
 have hyes:((((sIx items.size 0 lo:Nat):Int)==0&&(1:Int)==1&&(sIx items.size items.size hi-sIx items.size 0 lo)==items.size)=true):=by
  rw [hw.1,hw.2];simp
 show wpAny _ _ (if (((sIx items.size 0 lo:Nat):Int)==0&&(1:Int)==1&&(sIx items.size items.size hi-sIx items.size 0 lo)==items.size)=true then _ else _) _ _ s
 rw [if_pos hyes]
 refine wpAny_bind (m:=Builtin.Tuple.tupleIsExact (.ref t)) ?_
 unfold Builtin.Tuple.tupleIsExact
 refine wpAny_bind (G2I ht.typeIs (G0c ?_))
 rw [if_pos (by decide)]
 exact wpAny_bind (G29 (G0c ⟨_,rfl,G0c h⟩))
end
end HT
namespace L2
open PySem PySem.Spec PyProof.Rows
def jpO (K:PySem.W.Frag):V->Option Int->Option Int->Hp->VK->Prop:=λx lo hi H Q=> ∃a xs,x= .ref a/\SqT K H a xs/\(HT.sIx xs.length 0 lo=0/\HT.sIx xs.length xs.length hi=xs.length)/\Q (.ref a) H
theorem sl_whole {X:Cx}:SlR X (jpO X.K):=by
 intro pins s σ H x v vl vu lo hi sl Q I rx hs pl pu h
 obtain⟨a,xs,rfl,hx,hw,q⟩:=h
 cases rx
 obtain⟨its,r,ht,hz⟩:=I.tuple hx
 have hlen:its.toArray.size=xs.length:=by rw [G0f];exact r.length.symm
 refine⟨"tuple",_,PyProof.Rows.slot_tuple_getitem.lookup,ht.typeIs,?_⟩
 exact HT.jcA ht hs pl pu (by rw [hlen];exact hw) ⟨.ref a,H,I,rfl,q⟩
def jfQ {α:Type} (xs:List α) (lo hi:Option Int):List α:=(xs.drop (HT.sIx xs.length 0 lo)).take (HT.sIx xs.length xs.length hi-HT.sIx xs.length 0 lo)
abbrev TOD:=SD->HD->(Option Int->HD->Prop)->Prop
def jaz:TOD:=λ_ h Q=>Q none h
def jbI (t:TED):TOD:=λσ h Q=>t σ h λx h1=> ∃i,x= .int i/\Q (some i) h1
def LO (K:PySem.W.Frag) (t:TOD):TO:=λσ H Q=> ∃σd h Qd,RelS K H σd σ/\RelH K h H/\t σd h Qd/\ ∀o h' H',Kept H H' ->RelH K h' H' ->Qd o h' ->Q o H'
theorem LO.bind {K:PySem.W.Frag} {ta:TOD} {σ:St} {H:Hp} {σd:SD} {h:HD} {kd:Option Int->HD->Prop} {k:Option Int->Hp->Prop} (rs:RelS K H σd σ) (rh:RelH K h H) (t:ta σd h kd) (f: ∀o h' H',Kept H H' ->RelS K H' σd σ->RelH K h' H' ->kd o h' ->k o H'):LO K ta σ H k:=
 ⟨σd,h,kd,rs,rh,t,λo h' H' kp r1 q=>f o h' H' kp (rs.mono kp) r1 q⟩
theorem PO.imp {X:Cx} {e:Option Expr} {t t' :TO} (h:PO X e t) (i: ∀σ H Q,t' σ H Q->t σ H Q):PO X e t' :=λpins s σ H Q I q=>h pins s σ H Q I (i σ H Q q)
abbrev QO (X:Cx) (e:Option Expr) (t:TOD):Prop:=PO X e (LO X.K t)
theorem jlz {X:Cx}:QO X none jaz:=po_none.imp λσ H Q ⟨σd,h,Qd,rs,rh,q,p⟩=>p none h H (.refl H) rh q
theorem jlA {X:Cx} {e:Expr} {te:TED} (he:QE X e te):QO X (some e) (jbI te):=(jk9 he).imp λσ H Q ⟨σd,h,Qd,rs,rh,q,p⟩=>
 LE.bind rs rh q λd v h1 H1 k1 rs1 rh1 r1 ⟨i,e,q1⟩=>by subst e;exact⟨i,r1,p _ _ _ k1 rh1 q1⟩
def slD:D->Option Int->Option Int->HD->KD->Prop:=λx lo hi h Q=>match x with
 | .tup ds=>Q (.tup (jfQ ds lo hi)) h
 | .scr ns=> ∀p,h p=none->Q (.lst p) (jbs h p ((jfQ ns lo hi).map D.int))
 | .lst a=> ∃ds,h a=some ds/\ ∀p,h p=none->Q (.lst p) (jbs h p (jfQ ds lo hi))
 |_=>False
def dSl (te:TED) (tl th:TOD):TED:=λσ h Q=>te σ h λx h1=>tl σ h1 λl h2=>th σ h2 λu h3=>slD x l u h3 Q
theorem je6 {K:PySem.W.Frag} {H:Hp} {ds:List D} {vs:List V} (r:RelDs K H ds vs) (lo hi:Option Int):RelDs K H (jfQ ds lo hi) (jjm vs lo hi):=by
 unfold jfQ jjm
 rw [r.length]
 exact(r.drop _).take _
theorem jlB {α β:Type} (f:α->β) (xs:List α) (lo hi:Option Int):jfQ (xs.map f) lo hi=(jfQ xs lo hi).map f:=by
 unfold jfQ
 rw [G0a,G3j,G2V]
theorem jnq {X:Cx} {e:Expr} {te:TED} {lo hi:Option Expr} {tl th:TOD} {pos p2:Pos} (he:QE X e te) (hl:QO X lo tl) (hu:QO X hi th):QE X (.Subscript e (.Slice lo hi none p2) pos) (dSl te tl th):=
 (jjA (sl_tup.or (sl_whole.or jla)) he hl hu).imp λσ H Q ⟨σd,h,Qd,rs,rh,q,p⟩=>
  LE.bind rs rh q λd v h1 H1 k1 rs1 rh1 r1 q1=>LO.bind rs1 rh1 q1 λl h2 H2 k2 rs2 rh2 q2=>LO.bind rs2 rh2 q2 λu h3 H3 k3 rs3 rh3 q3=>by
   have rv:=(r1.mono k2).mono k3
   have kk:=k1.trans (k2.trans k3)
   cases d<;>first
    |exact False.elim q3
    |skip
   ·rename_i ds
    obtain⟨a,vs,e1,hH,r⟩:=(show ∃a vs,v= .ref a/\H3 a=some (.tup vs)/\RelDs X.K H3 ds vs from rv)
    by_cases hw:HT.sIx vs.length 0 l=0/\HT.sIx vs.length vs.length u=vs.length
    ·refine .inr (.inl ⟨a,vs,e1,SqT.of hH,hw,p (.tup (jfQ ds l u)) _ _ _ kk rh3 ⟨a,vs,rfl,hH,?_⟩ q3⟩)
     have z:=je6 r l u
     have e:jjm vs l u=vs:=by unfold jjm;rw [hw.1,hw.2];simp
     rwa [e] at z
    ·exact .inl ⟨a,vs,e1,SqT.of hH,hw,λc hc=>p (.tup (jfQ ds l u)) _ _ _ (kk.trans (.new hc)) (rh3.new hc) ⟨c,_,rfl,jam,(je6 r l u).mono (.new hc)⟩ q3⟩
   ·rename_i a
    obtain⟨ds,hd,q3⟩:=q3
    obtain⟨vs,hH,r⟩:=rh3 a ds hd
    exact .inr (.inr ⟨a,vs,rv.1,SqL.of hH,λc hc=>p (.lst c) _ _ _ (kk.trans (.new hc)) (rh3.newL hc (je6 r l u)) ⟨rfl,_,jam⟩ (q3 c (rh3.free hc))⟩)
   ·rename_i ns
    obtain⟨a,e1,hS⟩:=(show ∃a,v= .ref a/\Scr X.K H3 a ns from rv)
    refine .inr (.inr ⟨a,_,e1,hS.sq,λc hc=>p (.lst c) _ _ _ (kk.trans (.new hc)) (rh3.newL hc ?_) ⟨rfl,_,jam⟩ (q3 c (rh3.free hc))⟩)
    have z:=je6 (jcn (K:=X.K) (H:=H3) ns) l u
    rwa [jlB] at z
end L2
namespace HT
open PySem PySem.Spec PyProof.Rows
open Sem (wp)
open Builtin
theorem jdn:fillsNumberSlot (.type "tuple") "mul" =pure false:=
 PySem.fillsNumberSlot_seq (id:= "tuple.__mul__") (r:=some (.builtin "tuple.__rmul__")) F.slot_tuple_mul.lookup (by decide +kernel) F.slot_tuple_rmul.lookup (by decide +kernel)
theorem jfR:seqRepeat? (.type "tuple")=pure (some (.builtin "tuple.__mul__")):=by
 unfold seqRepeat?
 rw [PySem.seqSlot_of (T:= "tuple") (name:= "__mul__") (id:= "tuple.__mul__") F.slot_tuple_mul.lookup (by decide +kernel),PySem.seqSlot_of (T:= "tuple") (name:= "__rmul__") (id:= "tuple.__rmul__") F.slot_tuple_rmul.lookup (by decide +kernel)]
 rfl
section
variable {prog:Program} {w:World} {A:Around} {E:Value->Shared->Prop} {s:Shared}
theorem je7 {k:Int} {t:Tok} {l:Addr} {o:Obj} {its:Array Value} {n:Nat} {P:PySem.Fin->Shared->Prop} (at_:s.heap.get? l=some o) (tup:o.cls= .type "tuple") (dat:o.data= .seq its n) (h:P (.done (.ret .notImplemented)) s):wpAny (model prog w) A (Builtin.«int.__rmul__» ⟨[.int k t,.ref l],[]⟩) P E s:=by
 obtain⟨c,dd,dt,sl⟩:=o
 cases tup;cases dat
 obtain⟨hp,g,d,tk,os⟩:=s
 wp_walk
 exact h
theorem jgy {l:Addr} {its:Array Value} {n:Nat} {x:Int} {u:Tok} {dd:Option Addr} {sl:Array (Option Value)} {P:PySem.Fin->Shared->Prop} (at_:s.heap.get? l=some {cls:= .type "tuple",dict:=dd,data:= .seq its n,slots:=sl}) (fits: -(2^63)<=x/\x<2^63)
 (same:(its.isEmpty||x==1)=true->P (.done (.ret (.ref l))) s)
 (gone:(its.isEmpty||x==1)=false->(decide (x<=0)||its.isEmpty)=true->P (.done (.ret (.ref s.heap.objs.size))) {s with heap:=s.heap.push {cls:= .type "tuple",data:= .seq #[]}})
 (more:(its.isEmpty||x==1)=false->(decide (x<=0)||its.isEmpty)=false-> ¬ (its.size:Int)*x>(2^63-1) / 8/\Builtin.Tuple.tupleTooMany ((its.size:Int)*x)=false/\((List.replicate x.toNat its).foldl (· ++ ·) #[]).size<=sizeLine/\
  P (.done (.ret (.ref s.heap.objs.size))) {s with heap:=s.heap.push {cls:= .type "tuple",data:= .seq ((List.replicate x.toNat its).foldl (· ++ ·) #[])}}):
 wpAny (model prog w) A (Builtin.«tuple.__mul__» ⟨[.ref l,.int x u],[]⟩) P E s:=by
 obtain⟨hp,g,d,tk,os⟩:=s
 wp_walk
 rw [if_neg (by simp only [G23,G2k];omega)]
 wp_walk
 cases c1:(its.isEmpty||x==1) with
 |true=>
  rw [if_pos rfl]
  wp_walk
  exact same c1
 |false=>
  rw [if_neg G0g]
  cases c2:(decide (x<=0)||its.isEmpty) with
  |true=>
   rw [if_pos rfl]
   wp_walk
   exact gone c1 c2
  |false=>
   obtain⟨m1,m2,m3,m4⟩:=more c1 c2
   rw [if_neg G0g]
   dsimp only
   rw [if_neg m1,m2,if_neg G0g]
   wp_walk
   exact m4
end
end HT
namespace L2
open PySem PySem.Spec PyProof.Rows
def joK (K:PySem.W.Frag):R2:=λx y H Q=> ∃ (a:Addr) (k:Int) (xs:List V),x= .ref a/\y= .int k/\SqT K H a xs/\ -(2^63)<=k/\k<2^63/\xs.length*k.toNat<=sizeLine/\
 ((xs= []\/k=1)->Q (.ref a) H)/\(¬ (xs= []\/k=1)-> ∀p,H p=none->Q (.ref p) (upd H p (.tup (List.replicate k.toNat xs).flatten)))
theorem jdt {l:List Value}:l.toArray= #[]↔l= []:=by cases l<;>simp
theorem jlC {X:Cx}:OpR X (binaryOp .Mult) (joK X.K):=by
 intro pins s σ H x y v u Q I rx ry h
 obtain⟨a,k,xs,rfl,rfl,hH,h1,h2,hz,q1,q2⟩:=h
 cases rx
 obtain⟨t,rfl⟩:=ry
 obtain⟨its,r,ht,_⟩:=I.tuple hH
 obtain⟨⟨cls,dd,data,sl⟩,ho,hc,n,hd⟩:=id ht
 simp only at hc hd
 subst hc hd
 have hl:=r.length
 have hnew:(List.replicate k.toNat its.toArray).foldl (· ++ ·) #[]=(List.replicate k.toNat its).flatten.toArray:=by
  have:=jdB its k.toNat []
  rw [G0E] at this
  exact this
 have few:its.length*k.toNat<=sizeLine:=by rw [<-hl];exact hz
 have free:=I.hok.fresh (G0d _)
 refine wpAny_binaryOp_repeat_ref (T:= "tuple") (U:= "int") (by decide) ⟨_,ho,rfl⟩ (λs' =>G3b s' k t) HT.jdn F.fills_int_mul G2C HT.jfR F.slot_int_index.lookup
  (G0Y G2C (G3b s k t) F.entry_int_rmul (HT.je7 ho rfl rfl ⟨_,rfl,rfl,⟨_,ho,rfl⟩,G0Y F.slot_tuple_mul ⟨_,ho,rfl⟩ F.entry_tuple_mul (HT.jgy ho ⟨h1,h2⟩ (λc=> ?_) (λc c0=> ?_) (λc c0=> ?_)) (F.args_tuple_mul_2 _ _)⟩) (F.args_int_rmul_2 _ _))
 ·refine⟨_,rfl,.ref a,H,I,rfl,q1 ?_⟩
  simp only [G23,G3o,Array.isEmpty_iff,jdt] at c
  exact c.imp (λe=>r.nil_iff.mp e) id
 ·simp only [Bool.or_eq_false_iff,G2A,G2G,ne_eq,jdt] at c
  have k0:k.toNat=0:=by
   simp only [G23,G2k,Array.isEmpty_iff,jdt] at c0
   have:=c0.resolve_right c.1;omega
  have last:=q2 (λz=>z.elim (λe=>c.1 (r.nil_iff.mpr e)) c.2) _ free
  rw [k0] at last
  exact⟨_,rfl,.ref s.heap.objs.size,_,I.laid (t' :=s.toks) (o:= .tup []) (λb ob q=>G0b _ q) (G0d _) ⟨by decide,[],.nil,IsTupN.new _ _⟩,rfl,last⟩
 ·simp only [Bool.or_eq_false_iff,G2A,G2G,ne_eq,jdt,decide_eq_false_iff_not] at c c0
  have em:((its.toArray.size:Nat):Int)*k=((its.length*k.toNat:Nat):Int):=by rw [Int.natCast_mul,G0f,show ((k.toNat:Nat):Int)=k by omega]
  have cap:(sizeLine:Nat)<=(2^63-1) / 8:=by decide
  rw [em,hnew]
  refine⟨by omega,by unfold Builtin.Tuple.tupleTooMany;exact decide_eq_false (by omega),by rw [List.size_toArray,jgw,Nat.mul_comm];exact few,_,rfl,.ref s.heap.objs.size,_,I.laid (t' :=s.toks) (o:= .tup (List.replicate k.toNat xs).flatten) (λb ob q=>Heap.get?_push_of_some _ q) (Nat.le_refl _) ⟨by rw [jgw,Nat.mul_comm];exact hz,_,r.rep k.toNat,IsTupN.new _ _⟩,rfl,q2 (λz=>z.elim (λe=>c.1 (r.nil_iff.mpr e)) c.2) _ free⟩
def jeA:RD2:=λx y h Q=>match x,y with
 | .tup ds,.int k=> -(2^63)<=k/\k<2^63/\ds.length*k.toNat<=sizeLine/\Q (.tup (List.replicate k.toNat ds).flatten) h
 |x,y=>jev x y h Q
theorem je8 {X:Cx}:OpQ X (binaryOp .Mult) jeA:=(oq_mul.or jlC).imp λx y H Q ⟨dx,dy,h,Qd,rx,ry,rh,q,p⟩=>by
 by_cases ht: ∃ds k,dx= .tup ds/\dy= .int k
 ·obtain⟨ds,k,e1,e2⟩:=ht
  subst e1 e2
  obtain⟨b1,b2,hz,q⟩:=q
  obtain⟨a,vs,e,hH,r⟩:=(show ∃a vs,x= .ref a/\H a=some (.tup vs)/\RelDs X.K H ds vs from rx)
  refine .inr ⟨a,k,vs,e,ry,SqT.of hH,b1,b2,by rw [<-r.length];exact hz,λhs=> ?_,λ_ c hc=>p (.tup _) _ _ _ (.new hc) (rh.new hc) ⟨c,_,rfl,jam,(r.flat _).mono (.new hc)⟩ q⟩
  refine p (.tup _) _ _ _ (.refl H) rh ⟨a,vs,rfl,hH,?_⟩ q
  rcases hs with e0|e1
  ·subst e0
   have:ds= []:=G17.mp r.length
   subst this;simpa using r
  ·subst e1;simpa using r
 ·refine .inl ⟨dx,dy,h,Qd,rx,ry,rh,?_,p⟩
  unfold jeA at q
  split at q
  ·exact absurd ⟨_,_,rfl,rfl⟩ ht
  ·exact q
def jeB:D->HD->KD->Prop:=λx h Q=>match x with
 | .int i=>Q (.int (-i)) h
 |_=>False
def dUn (f:D->HD->KD->Prop) (ta:TED):TED:=λσ h Q=>ta σ h λx h1=>f x h1 Q
theorem jpP {X:Cx} {a:Expr} {ta:TED} {pos:Pos} (ha:QE X a ta):QE X (.UnaryOp .USub a pos) (dUn jeB ta):=
 (joe jmK ha).imp λσ H Q ⟨σd,h,Qd,rs,rh,t,p⟩=>LE.bind rs rh t λd v h1 H1 k1 rs1 rh1 r1 q=>by
  cases d<;>first
   |exact False.elim q
   |exact⟨_,r1,p (.int _) _ _ _ k1 rh1 rfl q⟩
def jfy (te:TED):TED:=λσ h Q=>te σ h λx h1=> ∃ds,x= .tup ds/\Q (.tup ds.reverse) h1
def ja2 (x:Str) (i:Int):TED:=λ_ h Q=>Q (.dic x i) h
def jnr (K:PySem.W.Frag) (tl:TE):TI:=λσ H R=>tl σ H λx H1=> ∃a,x= .ref a/\((∃xs,SqL K H1 a xs/\R (Itl K a) H1)\/ ∃xs,SqT K H1 a xs/\R (Itt K a) H1)
theorem jns {X:Cx} {tg l:Expr} {tl:TE} (hl:PE X l tl):PI X tg l (jnr X.K tl):=by
 intro pins s σ H R I h
 refine thn (hl pins s σ H _ I h) λv s1 ⟨x,H1,I1,r1,q1⟩=> ?_
 obtain⟨a,e,q⟩:=q1
 subst e
 cases r1
 rcases q with ⟨xs,hq,q⟩|⟨xs,hq,q⟩
 ·obtain⟨its,rv,p,hz⟩:=I1.list hq
  refine G1U p.isList ?_
  refine⟨s1.heap.objs.size,[s1.heap.objs.size],_,_,H1,rfl,I1.kept (t' :=s1.toks) λb o e=>G0b _ e,jfC a _,⟨_,G0m _ rfl,rfl,rfl⟩,λb hb=> ?_,q⟩
  have e:b=s1.heap.objs.size:=by simpa using hb
  subst e
  exact I1.fpOk (G0d _) (I1.hok.fresh (G0d _))
 ·obtain⟨its,rv,p,hz⟩:=I1.tuple hq
  refine G19 (show s1.heap.IsTuple a its.toArray from p) ?_
  refine⟨s1.heap.objs.size,[s1.heap.objs.size],_,_,H1,rfl,I1.kept (t' :=s1.toks) λb o e=>G0b _ e,jhs a _,⟨_,G0m _ rfl,rfl,rfl⟩,λb hb=> ?_,q⟩
  have e:b=s1.heap.objs.size:=by simpa using hb
  subst e
  exact I1.fpOk (G0d _) (I1.hok.fresh (G0d _))
def iS (te:TED):TID:=λσ h R=>te σ h λx h1=>match x with
 | .lst a=>R (λh=>h a) h1
 | .tup ds=>R (λ_=>some ds) h1
 | .scr ns=>R (λ_=>some (ns.map D.int)) h1
 |_=>False
theorem jjK {K:PySem.W.Frag} {H:Hp} {a:Addr} {ns:List Int} (hs:Scr K H a ns):jmg K H (λ_=>some (ns.map D.int)) (Itl K a):=λH' h' k rh ds' e i=>by
 cases e
 have hs' :Scr K H' a ns:=hs.elim (λ⟨o,z⟩=> .inl ⟨o,k.frz _ _ _ z⟩) .inr
 refine⟨λd hd=> ?_,λhl=>⟨_,hs'.sq,by simpa using hl⟩⟩
 obtain⟨v,e1,e2⟩:=(jcn (K:=K) (H:=H') ns).get hd
 refine⟨⟨_,v,hs'.sq,e1⟩,λx H'' ⟨eH,hx⟩=> ?_⟩
 subst eH
 have:=hx _ hs'.sq
 rw [e1] at this;cases this
 exact⟨.refl _,rh,e2⟩
theorem jnt {K:PySem.W.Frag} {te:TED}: ∀σ H R,LI K (iS te) σ H R->jnr K (LE K te) σ H R:=λσ H R ⟨σd,h,Rd,rs,rh,q,p⟩=>
 LE.bind rs rh q λd v h1 H1 k1 rs1 rh1 r1 q1=>by
  cases d<;>first
   |exact False.elim q1
   |skip
  ·rename_i ds
   obtain⟨a,vs,e,hv,r⟩:=(show ∃a vs,v= .ref a/\H1 a=some (.tup vs)/\RelDs K H1 ds vs from r1)
   exact⟨a,e,.inr ⟨vs,SqT.of hv,p _ _ _ _ k1 rh1 (jjG hv r) q1⟩⟩
  ·rename_i a
   obtain⟨e,vs,hv⟩:=(show v= .ref a/\ ∃vs,H1 a=some (.lst vs) from r1)
   exact⟨a,e,.inl ⟨vs,SqL.of hv,p _ _ _ _ k1 rh1 (jfM H1 a) q1⟩⟩
  ·rename_i ns
   obtain⟨a,e,hS⟩:=(show ∃a,v= .ref a/\Scr K H1 a ns from r1)
   exact⟨a,e,.inl ⟨_,hS.sq,p _ _ _ _ k1 rh1 (jjK hS) q1⟩⟩
theorem jnu {X:Cx} {tg e:Expr} {te:TED} (he:QE X e te):QI X tg e (iS te):=(jns he).imp jnt
def jaX:TSD:=λ_ _ _=>False
theorem jnv {X:Cx} {st:Stmt}:QS X st jaX:=λ_ _ _ _ _ _ ⟨_,_,_,_,_,z,_⟩=>z.elim
structure Zs (mg:Str->Option Value):Prop where
 len:mg "len" =none
 max:mg "max" =none
 min:mg "min" =none
 divmod:mg "divmod" =none
 all:mg "all" =none
 any:mg "any" =none
 repr:mg "repr" =none
 sum:mg "sum" =none
 sorted:mg "sorted" =none
 int:mg "int" =none
 tuple:mg "tuple" =none
 list:mg "list" =none
 set:mg "set" =none
 bool:mg "bool" =none
 isinstance:mg "isinstance" =none
 range:mg "range" =none
 zip:mg "zip" =none
 enumerate:mg "enumerate" =none
 reversed:mg "reversed" =none
def jaj (P:Program) (w:World) (K:PySem.W.Frag) (mg:Str->Option Value) (base:Heap) (n:Nat) (x:Str) (ps:List Str) (sp:RDn):Prop:=
 ∃ (g:Addr) (gd:FuncData),FnOk P w K mg base CX0 n g gd ps (LSp K sp)/\Binds K gd ps []/\PySem.W.keepIn K (.ref g)=true/\mg x=some (.ref g)
def jir:RDn:=λds h Q=> ∃ns,ds= [.scr ns]/\(∀a,h a=none)/\ns.length<=63/\ ∀h',Q (.bl true) h'
def Bm (mg:Str->Option Value) (base:Heap):Prop:= ∃bm ob,mg "__builtins__" =some (.ref bm)/\bm≠builtinsNs/\base.get? bm=some ob/\ob.cls= .type "module" /\ob.dict=some builtinsNs/\ob.data= .plain
def jbo (K:PySem.W.Frag):List (Addr×Addr):=LN.filterMap (PySem.W.tabIn K)
theorem TabK.mem {K:PySem.W.Frag} {P:Addr} (h:TabK K P): ∃c,(c,P)∈jbo K:=let ⟨x,hx,c,e⟩:=h;⟨c,G1N.mpr ⟨x,hx,e⟩⟩
theorem jis {P:Program} {w:World} {K:PySem.W.Frag} {mg mb:Str->Option Value} {k:Nat} {fa a:Addr} {fd:FuncData} {x:Str} {s₁:Shared} {vs:List Value} {ns:List Int}
 (KX:K.In s₁.heap) (hns:s₁.heap.Ns mainGlobals mg) (hb:s₁.heap.Ns builtinsNs mb) (hbb: ∀x:Str,x≠ "__name__" ->mb x=bootBuiltins x) (hlim:s₁.heap.NoLimit) (hg:s₁.gens= #[])
 (ha:s₁.heap.get? a=some {cls:= .type "list",data:= .seq vs.toArray}) (hi:IntsAre vs ns) (hl:ns.length<=63) (hr:Room k callerA)
 (hbm:Bm mg s₁.heap) (F: ∀base:Heap,K.In base->base.Ns mainGlobals mg->Bm mg base->FnOk P w K mg base CX0 k fa fd [x] (LSp K jir)) (hbind: ∀ (s:Shared) (u:Value),BindsTo s fd ⟨[u],[]⟩ [(x,u)])
 (hT: ∀p∈jbo K,PySem.W.CodeHd s₁.heap p.1 p.2/\s₁.heap.get? p.2=some (PySem.W.tabObj #[])/\K.lookup p.2=none):
 codeAny (model P w) callerA (.call (.ref fa) ⟨[.ref a],[]⟩) (λr s' =>r= .ok (.ret (.bool true))/\OldK s₁.heap s'.heap/\s'.os=s₁.os/\AllBare s'.gens) s₁:=by
 have rv:=jfK hi
 have lenV:=hi.length
 have hz:ns.length<=sizeLine:=G0R hl (by decide)
 have hT' : ∀b,b∈(jbo K).map (·.2)-> ∃c,PySem.W.CodeHd s₁.heap c b/\s₁.heap.get? b=some (PySem.W.tabObj #[])/\K.lookup b=none:=λb hb=>by
  obtain⟨p,hp,rfl⟩:=G0K.mp hb
  exact⟨p.1,hT p hp⟩
 have core: ∀H:Hp,Scr K H a ns->HOk P w H s₁.heap->(∀b u,H b=some u->(b=a/\K.lookup a=none/\ ∃o xs,u= .frz o (.lst xs))\/(b∈(jbo K).map (·.2)/\u= .tbl #[]))->(∀b,b∈(jbo K).map (·.2)->H b=some (.tbl #[]))->
  codeAny (model P w) callerA (.call (.ref fa) ⟨[.ref a],[]⟩) (λr s' =>r= .ok (.ret (.bool true))/\OldK s₁.heap s'.heap/\s'.os=s₁.os/\AllBare s'.gens) s₁:=by
  intro H hS hok hA hTt
  have noA: ∀ {b:Addr} {o:Obj} {es:Array DictEntry} {ep:Nat},s₁.heap.get? b=some o->o.data= .dict es ep->H b=none:=λ{b o es ep} e d=>by
   cases q:H b with
   |none=>rfl
   |some u=>
    rcases hA b u q with ⟨rfl,_,_⟩|⟨z,_⟩
    ·rw [ha] at e;cases e
     have d' :Data.seq vs.toArray _=Data.dict es ep:=d
     cases d'
    ·obtain⟨c,_,e2,_⟩:=hT' b z
     rw [e2] at e;cases e
     have d' :Data.fields _=Data.dict es ep:=d
     cases d'
  have nsK: ∀ {b:Addr} {m:Str->Option Value},s₁.heap.Ns b m->(jjr s₁.heap H).Ns b m:=λ{b m} ⟨o,es,ep,e,d,r⟩=>⟨o,es,ep,jeS e (noA e d),d,r⟩
  have hKb:K.In (jjr s₁.heap H):=λb o e=>jeS (KX b o e) (by
   cases q:H b with
   |none=>rfl
   |some u=>
    rcases hA b u q with ⟨rfl,z,_⟩|⟨z,_⟩
    ·rw [z] at e;cases e
    ·obtain⟨c,_,_,z2⟩:=hT' b z
     rw [z2] at e;cases e)
  have hM:Mod K mg (jjr s₁.heap H):=⟨hKb,nsK hns,⟨mb,nsK hb,hbb⟩,let ⟨mc,h1,h2⟩:=hlim;⟨mc,nsK h1,h2⟩⟩
  have e0:Env0 P w K mg (jjr s₁.heap H) callerA [] s₁ H:=⟨rfl,hM,λb o e=>jkT e,G22 (jhV _ _),trivial,λb hb=>absurd (show b∈([]:List Addr) from hb) (by simp),hok,.of_eq hg⟩
  have hsp:LSp K jir [.ref a] H (λv _=>v= .bl true) (λ_ _ _=>False):=by
   refine⟨[.scr ns],λ_=>none,λd _=>d= .bl true,⟨.ref a,[],rfl,⟨a,rfl,hS⟩,rfl⟩,⟨λb ds e=>(by cases e),λp hp=> ?_⟩,⟨ns,rfl,λ_=>rfl,hl,λ_=>rfl⟩,?_⟩
   ·obtain⟨c,hc⟩:=hp.mem
    exact⟨#[],hTt p (List.mem_map_of_mem (f:=(·.2)) hc),trivial,λpos cv e=>(by cases e)⟩
   ·intro d v h' H' _ _ r e
    subst e;exact r
  have hBm:Bm mg (jjr s₁.heap H):=by
   obtain⟨bm,ob,b1,b2,b3,b4,r⟩:=hbm
   refine⟨bm,ob,b1,b2,jeS b3 ?_,b4,r⟩
   cases q:H bm with
   |none=>rfl
   |some u=>
    rcases hA bm u q with ⟨rfl,_,_⟩|⟨z,_⟩
    ·rw [ha] at b3;cases b3;exact absurd (Value.type.inj b4) (by decide)
    ·obtain⟨c,_,e2,_⟩:=hT' bm z
     rw [e2] at b3;cases b3;cases b4
  refine codeAny_mono ((F _ hKb (nsK hns) hBm).run callerA [] s₁ H ⟨[.ref a],[]⟩ [.ref a] [.ref a] _ _ hr e0 (hbind s₁ (.ref a)) (.cons rfl .nil) hsp) λr s' h=> ?_
  cases r with
  |error e=>exact False.elim h
  |ok fl=>
   cases fl with
   |next=>exact False.elim h
   |brk=>exact False.elim h
   |cont=>exact False.elim h
   |ret u=>
    obtain⟨v,H',os,bare,un,hok',r',q⟩:=h
    have q' :v= .bl true:=q
    subst q'
    obtain rfl:u=Value.bool true:=r'
    have one: ∀b o,s₁.heap.get? b=some o->s'.heap.get? b=some o\/(b∈(jbo K).map (·.2)/\ ∃more,s'.heap.get? b=some (PySem.W.tabObj more)):=λb o e=>by
     cases q:H b with
     |none=>exact .inl (un.keep b o e q (by intro z;exact absurd (show b∈([]:List Addr) from z) (by simp)) (by simp))
     |some u=>
      rcases hA b u q with ⟨rfl,_,ob,xs,rfl⟩|⟨z,rfl⟩
      ·have z2:=un.frzs _ ob _ q
       obtain⟨e1,_⟩:=hok _ _ q
       obtain⟨e2,_⟩:=hok' _ _ z2
       rw [e] at e1;cases e1
       exact .inl e2
      ·obtain⟨more,z2⟩:=un.tbls b _ q
       exact .inr ⟨z,_,(show s'.heap.get? b=some _ from hok' b _ z2)⟩
    refine⟨rfl,⟨λb o e=> ?_,λb o e=> ?_⟩,os,bare⟩
    ·rcases one b o e with z|⟨z,more,z2⟩
     ·exact .inl z
     ·obtain⟨c,hc,e2,_⟩:=hT' b z
      rw [e] at e2;cases e2
      refine .inr (.inl ⟨(hc.tab e).isCodeTable,rfl,#[],more,rfl,?_⟩)
      rw [z2]
      simp
    ·rcases one b o e with z|⟨z,more,z2⟩
     ·exact⟨_,z⟩
     ·exact⟨_,z2⟩
 have nT:a ∉ (jbo K).map (·.2):=λz=>by
  obtain⟨c,_,e2,_⟩:=hT' a z
  rw [ha] at e2;cases e2
 have okT: ∀ {H:Hp} (b:Addr),b∈(jbo K).map (·.2)->ObjOk P w H s₁.heap b (.tbl #[]):=λb hb=>let ⟨_,_,e,_⟩:=hT' b hb;e
 cases hk:K.lookup a with
 |some o=>
  have e:=KX a o hk
  rw [ha] at e
  cases e
  refine core (λb=>if b∈(jbo K).map (·.2) then some (.tbl #[]) else none) (.inr ⟨_,vs.toArray,_,hk,rfl,rfl,rfl,by rw [G0f,lenV];exact hz,by simpa using rv⟩) (λb u z=> ?_) (λb u z=> ?_) λb hb=>if_pos hb
  ·by_cases hb:b∈(jbo K).map (·.2)
   ·have z' :=(if_pos hb).symm.trans z
    cases z'
    exact okT b hb
   ·have z' :=(if_neg hb).symm.trans z
    cases z'
  ·by_cases hb:b∈(jbo K).map (·.2)
   ·have z' :=(if_pos hb).symm.trans z
    cases z'
    exact .inr ⟨hb,rfl⟩
   ·have z' :=(if_neg hb).symm.trans z
    cases z'
 |none=>
  refine core (λb=>if b=a then some (.frz {cls:= .type "list",data:= .seq vs.toArray} (.lst (ns.map V.int))) else if b∈(jbo K).map (·.2) then some (.tbl #[]) else none) (.inl ⟨{cls:= .type "list",data:= .seq vs.toArray},if_pos rfl⟩) (λb u z=> ?_) (λb u z=> ?_) λb hb=> ?_
  ·by_cases hb:b=a
   ·have z' :=(if_pos hb).symm.trans z
    cases z'
    subst hb
    exact⟨ha,by rw [G0a];exact hz,vs,_,rv,ha⟩
   ·have z' :=(if_neg hb).symm.trans z
    by_cases hb2:b∈(jbo K).map (·.2)
    ·have z2:=(if_pos hb2).symm.trans z'
     cases z2
     exact okT b hb2
    ·have z2:=(if_neg hb2).symm.trans z'
     cases z2
  ·by_cases hb:b=a
   ·have z' :=(if_pos hb).symm.trans z
    cases z'
    exact .inl ⟨hb,hk,_,_,rfl⟩
   ·have z' :=(if_neg hb).symm.trans z
    by_cases hb2:b∈(jbo K).map (·.2)
    ·have z2:=(if_pos hb2).symm.trans z'
     cases z2
     exact .inr ⟨hb2,rfl⟩
    ·have z2:=(if_neg hb2).symm.trans z'
     cases z2
  ·have:b≠a:=λz=>nT (z ▸ hb)
   show (if b=a then _ else _)=_
   rw [if_neg this,if_pos hb]
def joL (q:Program) (K:PySem.W.Frag):Bool:=LN.all λx=>match PySem.W.tabIn K x with
 |some p=>(K.lookup p.2).isNone&&((PyProof.Rows.recsOf q).find? (λe=>e.name==x)).isSome
 |none=>true
theorem jjL {l:PySem.W.OpenLaw} {k:Nat} {q:Program} {loose:List Str} {XP:(Str->Option Value)->Heap->Prop} {YP:World->Heap->Prop} {d:DefRec} {K:Params->PySem.W.Frag} {x:Str} (hn:l.most=some 63) (hdf:d.params.defaults= []) (hr:Room k callerA)
 (hY: ∀ (w:World) (h:Heap),YP w h->(K w.params).In h) (hB: ∀w:World,joL q (K w.params)=true)
 (F: ∀ (w:World) (mg:Str->Option Value) (fa:Addr) (h:Heap),(K w.params).In h->h.Ns mainGlobals mg->mg d.name=some (.ref fa)->
  ∃fd:FuncData,(∀ (s:Shared) (u:Value),BindsTo s fd ⟨[u],[]⟩ [(x,u)])/\ ∀base:Heap,(K w.params).In base->base.Ns mainGlobals mg->Bm mg base->FnOk l.prog w (K w.params) mg base CX0 k fa fd [x] (LSp (K w.params) jir)):
 PySem.W.WalkO q loose XP YP l.row.toRowW d [] (λf vs=>PySem.call f vs):=by
 refine Att.attach_call hn hdf λw s₀ s₁ mg mb fa o pm cd doc a vs ns G Y ho hd hcd hmg hobj hints hlen hg=> ?_
 have KX:=hY w _ Y
 obtain⟨fd,hb,hF⟩:=F w mg fa _ KX G.T.g hmg
 refine jis KX G.T.g G.T.b G.T.builtins G.T.nolimit hg hobj hints hlen hr G.T.bmain hF hb λp hp=> ?_
 obtain⟨x,hx,e⟩:=G1N.mp hp
 have z:=G0U.mp (hB w) x hx
 rw [e] at z
 simp only [G1o,Option.isNone_iff_eq_none] at z
 obtain⟨dd,hdd⟩:=G2M.mp z.2
 have t:=PySem.W.tab_of (c:=p.1) (P:=p.2) G.T KX hdd e
 exact⟨t.1,t.2,z.1⟩
def jgz:Expr->Bool
 | .Starred .. =>false
 |_=>true
theorem jgA {e:Expr} {es:List Expr} {env:Env} (h:jgz e=true):starEach (e::es) env=(false,eval e env)::starEach es env:=by
 cases e<;>first|rfl|cases h
theorem qac {X:Cx} {e:Expr} {es:List Expr} {te:TED} {t:TAD} (ha:QE X e te) (hr:QA X es t) (h:jgz e=true:=by rfl):QA X (e::es) (ja1 te t):=jik ha hr (jgA h)
theorem jgB {α:Type} {xs:List α} {i:Int} (h0:0<=i) (h1:i<xs.length): ∃x∈xs,atI xs i=some x:=by
 have hk:i.toNat<xs.length:=by omega
 have ek:i=((i.toNat:Nat):Int):=by omega
 have z:=jb7 (G0i hk)
 rw [<-ek] at z
 exact⟨xs[i.toNat],G1g hk,z⟩
theorem Sub.both {h h' :HD} {p:Addr} {L:List D} (s:Sub h h'):Sub (jbs h p L) (jbs h' p L):=λa ds e=>by
 by_cases q:a=p
 ·subst q;rw [jab] at e ⊢;exact e
 ·rw [jbb q] at e ⊢;exact s a ds e
theorem Sub.newAt {h h' :HD} {p:Addr} {L:List D} (s:Sub h h') (e:h' p=none):Sub h (jbs h' p L):=s.trans (.new e)
def But (p:Addr) (h h' :HD):Prop:= ∀a ds,a≠p->h a=some ds->h' a=some ds
theorem But.refl (p:Addr) (h:HD):But p h h:=λ_ _ _ e=>e
theorem But.new {p q:Addr} {h h' :HD} {L:List D} (s:But p h h') (e:h' q=none):But p h (jbs h' q L):=λa ds n z=>by
 have:=s a ds n z
 rw [jbb (λw=>by subst w;rw [e] at this;cases this)];exact this
theorem But.put {p:Addr} {h h' :HD} {L:List D} (s:But p h h'):But p h (jbs h' p L):=λa ds n z=>by rw [jbb n];exact s a ds n z
theorem But.putNew {p q:Addr} {h h' :HD} {L:List D} (s:But p h h') (e:h q=none):But p h (jbs h' q L):=λa ds n z=>by
 rw [jbb (λw=>by subst w;rw [e] at z;cases z)];exact s a ds n z
theorem But.sub {p:Addr} {h h' :HD} {L:List D} (s:But p h h') (e:h' p=some L):Sub (jbs h p L) h' :=λa ds z=>by
 by_cases q:a=p
 ·subst q;rw [jab] at z;cases z;exact e
 ·rw [jbb q] at z;exact s a ds q z
theorem But.upd {p:Addr} {h:HD} {L:List D}:But p h (jbs h p L):=λa ds n z=>by rw [jbb n];exact z
theorem jaH {h:HD} {p q:Addr} {L:List D} (e:h p=some L) (f:h q=none):q≠p:=λz=>by subst z;rw [e] at f;cases f
theorem jaM {h:HD} {p q:Addr} {L M:List D} (e:h p=some L) (f:h q=none):jbs h q M p=some L:=by rw [jbb (λz=>by subst z;rw [e] at f;cases f)];exact e
theorem jaq {h:HD} {a b:Addr} {L M:List D} (n:b≠a) (e:h b=some M):jbs h a L b=some M:=by rw [jbb n];exact e
theorem jfS {n:Nat} {i:Nat} {d:D} (h:((List.range n).map λ(k:Nat)=>D.int (k:Int))[i]? =some d):i<n/\d= .int i:=by
 rw [G0o] at h
 by_cases hi:i<n
 ·rw [G05 hi] at h;cases h;exact⟨hi,rfl⟩
 ·rw [G2q (by simpa using hi)] at h;cases h
theorem jak {t u:TSD} {E:EndsD} {σ:SD} {h:HD} (V:SD->HD->Prop) (first: ∀K:SD->HD->Prop,(∀σ' h',V σ' h' ->K σ' h')->t {E with nx:=K} σ h) (rest: ∀σ' h',V σ' h' ->u E σ' h'):jdm t u E σ h:=first (u E) rest
theorem jit {p q:Addr} {h h' :HD} (b:But p h h') (e:h' q=none) (n:q≠p):h q=none:=by
 cases z:h q with
 |none=>rfl
 |some ds=>rw [b q ds n z] at e;cases e
def Nxt (E:EndsD) (V:SD->HD->Prop):EndsD:= {E with nx:=λσ3 h3=> ∃h4,Sub h4 h3/\V σ3 h4,ct:=λσ3 h3=> ∃h4,Sub h4 h3/\V σ3 h4,bk:=E.nx}
theorem jgC {ta:TAD} {g:TGD} {tb:TSD} {E:EndsD} {σ:SD} {h h1:HD} (n:Nat) (W:Nat->SD->HD->Prop) (hn:n<1000000)
 (ht: ∀R:List D->HD->Prop,R [.int (n:Int)] h1->ta σ h R) (w0:W 0 σ h1) (done: ∀σ' h',W n σ' h' ->E.nx σ' h')
 (turn: ∀i σ' h',i<n->W i σ' h' ->g (.int (i:Int)) σ' h' λσ2 h2=>tb (Nxt E λσ3 h4=>i+1<=n/\W (i+1) σ3 h4) σ2 h2):jn4 (iR1 ta) g tb E σ h:=by
 refine ht _ ⟨(n:Int),rfl,by omega,by omega,n,λi σ' h' =>i<=n/\W i σ' h',⟨G1B _,w0⟩,?_⟩
 rintro i σ' h' ⟨hi,w⟩
 refine⟨_,rfl,by simp,λhl=> ?_,λd hd=> ?_⟩
 ·have:i=n:=by simp at hl;omega
  subst this;exact done _ _ w
 ·obtain⟨hi',e⟩:=jfS hd
  have hi2:i<n:=by omega
  subst e
  exact turn i σ' h' hi2 w
theorem jfT {g:TGD} {tb:TSD} {E:EndsD} {σ:SD} {h1:HD} {j:ItD} (ds:List D) (W:Nat->SD->HD->Prop)
 (hj: ∀i σ' h',W i σ' h' ->j h' =some ds) (w0:W 0 σ h1) (done: ∀σ' h',W ds.length σ' h' ->E.nx σ' h')
 (turn: ∀i d σ' h',ds[i]? =some d->W i σ' h' ->g d σ' h' λσ2 h2=>tb (Nxt E λσ3 h4=>i+1<=ds.length/\W (i+1) σ3 h4) σ2 h2):
 ∃ (n:Nat) (W:Nat->SD->HD->Prop),W 0 σ h1/\ ∀i σ' h',W i σ' h' -> ∃ds,j h' =some ds/\ds.length<=n/\(ds.length<=i->E.nx σ' h')/\
  ∀d,ds[i]? =some d->g d σ' h' λσ2 h2=>tb {E with nx:=λσ3 h3=> ∃h4,Sub h4 h3/\W (i+1) σ3 h4,ct:=λσ3 h3=> ∃h4,Sub h4 h3/\W (i+1) σ3 h4,bk:=E.nx} σ2 h2:=by
 refine⟨ds.length,λi σ' h' =>i<=ds.length/\W i σ' h',⟨G1B _,w0⟩,?_⟩
 rintro i σ' h' ⟨hi,w⟩
 refine⟨ds,hj i σ' h' w,G0d _,λhl=> ?_,λd hd=>turn i d σ' h' hd w⟩
 have:i=ds.length:=by omega
 subst this;exact done _ _ w
theorem jnw {i:Nat} {js:List Nat} {ta:TAD} {te:TED} {σ:SD} {h h1:HD} {Q:KD} (n:Nat) (W:Nat->List D->HD->Prop) (hn:n<=1000) (ht: ∀R:List D->HD->Prop,R [.int (n:Int)] h1->ta σ h R)
 (w0:W 0 [] h1) (wl: ∀k ys h',W k ys h' ->ys.length=k) (turn: ∀k ys h',k<n->W k ys h' ->te ((jbD js σ).set i (some (.int (k:Int)))) h' λy h4=> ∃h5,Sub h5 h4/\(k+1<=n/\W (k+1) (ys++ [y]) h5))
 (done: ∀ys h',W n ys h' -> ∀p,h' p=none->Q (.lst p) (jbs h' p ys)):jfN (bN i) js (iR1 ta) jeY te σ h Q:=by
 refine ht _ ⟨(n:Int),rfl,by omega,by omega,n,λk ys h' =>k<=n/\W k ys h',⟨G1B _,w0⟩,?_⟩
 rintro k ys h' ⟨hk,w⟩
 refine⟨by rw [wl k ys h' w];exact G0X (jbk (by omega)),_,rfl,by simp,λhl p hp=> ?_,λd hd=>⟨_,rfl,?_⟩⟩
 ·have:k=n:=by simp at hl;omega
  subst this;exact done ys h' w p hp
 ·obtain⟨hi',e⟩:=jfS hd
  subst e
  unfold jeY
  dsimp only
  rw [if_pos rfl]
  exact turn k ys h' (by omega) w
end L2
namespace L2
open PySem PySem.Spec PyProof.Rows PySem.SeqAt
mutual
def ToP (h:HD):D->PyData->Prop
 |d,.none=>d= .non
 |d,.bool b=>d= .bl b
 |d,.int i=>d= .int i
 |d,.str x=>d= .str x
 |d,.tuple ps=> ∃ds,d= .tup ds/\ToPs h ds ps
 |d,.list ps=> ∃a ds,d= .lst a/\h a=some ds/\ToPs h ds ps
 |_,.dict _=>False
def ToPs (h:HD):List D->List PyData->Prop
 |ds,[]=>ds= []
 |ds,p::ps=> ∃d r,ds=d::r/\ToP h d p/\ToPs h r ps
end
section
variable {X:Cx} {pins:List (Addr×Obj)} {σ:St} {H:Hp} {s:Shared} {h:HD}
mutual
theorem jby (I:Inv X pins σ H s) (rh:RelH X.K h H): ∀ {p:PyData} {d:D} {v:V} {u:Value},ToP h d p->RelD X.K H d v->RelV v u-> ∃as,Reads s.heap u p as
 | .none,d,v,u,t,r,ru=>by cases (show d= .non from t);cases (show v= .non from r);cases (show u= .none from ru);exact⟨[],.none⟩
 | .bool b,d,v,u,t,r,ru=>by cases (show d= .bl b from t);cases (show v= .bl b from r);cases (show u= .bool b from ru);exact⟨[],.bool b⟩
 | .int i,d,v,u,t,r,ru=>by cases (show d= .int i from t);cases (show v= .int i from r);obtain⟨k,rfl⟩:=(show ∃t,u=Value.int i t from ru);exact⟨[],.int i k⟩
 | .str x,d,v,u,t,r,ru=>by cases (show d= .str x from t);cases (show v= .str x from r);obtain⟨k,rfl⟩:=(show ∃t,u=Value.str x t from ru);exact⟨[],.str x k⟩
 | .tuple ps,d,v,u,t,r,ru=>by
  obtain⟨ds,e,ts⟩:=(show ∃ds,d= .tup ds/\ToPs h ds ps from t)
  subst e
  obtain⟨a,vs,e,hH,rs⟩:=(show ∃a vs,v= .ref a/\H a=some (.tup vs)/\RelDs X.K H ds vs from r)
  subst e
  cases (show u= .ref a from ru)
  obtain⟨its,rv,ht,_⟩:=I.tuple (SqT.of hH)
  obtain⟨o,ho,hc,n,hd⟩:=ht
  obtain⟨as,q⟩:=reads_Ds I rh ts rs rv
  exact⟨as,.tuple ho hc hd q⟩
 | .list ps,d,v,u,t,r,ru=>by
  obtain⟨a,ds,e,ha,ts⟩:=(show ∃a ds,d= .lst a/\h a=some ds/\ToPs h ds ps from t)
  subst e
  obtain⟨vs,hH,rs⟩:=rh a ds ha
  have e:v= .ref a:=r.1
  subst e
  cases (show u= .ref a from ru)
  obtain⟨its,rv,pl,_⟩:=I.list (SqL.of hH)
  obtain⟨o,ho,hc,n,hd⟩:=pl.isList
  obtain⟨as,q⟩:=reads_Ds I rh ts rs rv
  exact⟨a::as,.list ho hc hd q⟩
 | .dict _,_,_,_,t,_,_=>(show False from t).elim
theorem reads_Ds (I:Inv X pins σ H s) (rh:RelH X.K h H): ∀ {ps:List PyData} {ds:List D} {vs:List V} {us:List Value},ToPs h ds ps->RelDs X.K H ds vs->Vals vs us-> ∃as,ReadsAll s.heap us ps as
 | [],ds,vs,us,t,r,rv=>by
  cases (show ds= [] from t);cases (show vs= [] from r);cases rv;exact⟨[],.nil⟩
 |p::ps,ds,vs,us,t,r,rv=>by
  obtain⟨d,dr,e,t1,t2⟩:=(show ∃d r,ds=d::r/\ToP h d p/\ToPs h r ps from t)
  subst e
  obtain⟨v,vr,e,r1,r2⟩:=(show ∃v r,vs=v::r/\RelD X.K H d v/\RelDs X.K H dr r from r)
  subst e
  cases rv with
  |cons ru rt=>
   obtain⟨as,q1⟩:=jby I rh t1 r1 ru
   obtain⟨bs,q2⟩:=reads_Ds I rh t2 r2 rt
   exact⟨as++bs,.cons q1 q2⟩
end
end
def eqE:RD2:=λx y h Q=>match x,y with
 | .int i,.int j=>Q (.bl (decide (i=j))) h
 | .bl i,.bl j=>Q (.bl (decide (i=j))) h
 | .str i,.str j=>Q (.bl (decide (i=j))) h
 |x,y=> ∃p q,ToP h x p/\ToP h y q/\shaped p=true/\shaped q=true/\Q (.bl (PyData.eqv p q)) h
def neE:RD2:=λx y h Q=>match x,y with
 | .int i,.int j=>Q (.bl (!decide (i=j))) h
 | .bl i,.bl j=>Q (.bl (!decide (i=j))) h
 | .str i,.str j=>Q (.bl (!decide (i=j))) h
 |x,y=> ∃p q,ToP h x p/\ToP h y q/\shaped p=true/\shaped q=true/\Q (.bl (!PyData.eqv p q)) h
section
variable {X:Cx}
def eqG:RD2:=λx y h Q=> ∃p q,ToP h x p/\ToP h y q/\shaped p=true/\shaped q=true/\Q (.bl (PyData.eqv p q)) h
def neG:RD2:=λx y h Q=> ∃p q,ToP h x p/\ToP h y q/\shaped p=true/\shaped q=true/\Q (.bl (!PyData.eqv p q)) h
theorem jnx (hu:X.A.units+64<cLine):OpQ X (compareOp .Eq) eqG:=by
 intro pins s σ H x y v u Q I rx ry h
 obtain⟨dx,dy,h,Qd,r1,r2,rh,⟨p,q,t1,t2,s1,s2,qq⟩,post⟩:=h
 obtain⟨as,a1⟩:=jby I rh t1 r1 rx
 obtain⟨bs,b1⟩:=jby I rh t2 r2 ry
 exact compareEq_shaped a1 b1 s1 s2 hu ⟨.bl _,H,I,rfl,post (.bl _) _ _ _ (.refl H) rh rfl qq⟩
theorem jny (hu:X.A.units+64<cLine):OpQ X (compareOp .NotEq) neG:=by
 intro pins s σ H x y v u Q I rx ry h
 obtain⟨dx,dy,h,Qd,r1,r2,rh,⟨p,q,t1,t2,s1,s2,qq⟩,post⟩:=h
 obtain⟨as,a1⟩:=jby I rh t1 r1 rx
 obtain⟨bs,b1⟩:=jby I rh t2 r2 ry
 exact compareNe_shaped a1 b1 s1 s2 hu ⟨.bl _,H,I,rfl,post (.bl _) _ _ _ (.refl H) rh rfl qq⟩
theorem OpQ.or' {f:Value->Value->Sem Value} {r r' r2:RD2} (h:OpQ X f r) (h' :OpQ X f r') (i: ∀x y hh Q,r2 x y hh Q->r x y hh Q\/r' x y hh Q):OpQ X f r2:=λpins s σ H x y v u Q I rx ry ⟨dx,dy,hd,Qd,r1,r2',rh,q,p⟩=>
 (i dx dy hd Qd q).elim (λz=>h pins s σ H x y v u Q I rx ry ⟨dx,dy,hd,Qd,r1,r2',rh,z,p⟩) λz=>h' pins s σ H x y v u Q I rx ry ⟨dx,dy,hd,Qd,r1,r2',rh,z,p⟩
theorem jeC (hu:X.A.units+64<cLine):OpQ X (compareOp .Eq) eqE:=oq_eq.or' (jnx hu) λx y h Q q=>by
 unfold eqE at q
 split at q
 ·exact .inl q
 ·exact .inl q
 ·exact .inl q
 ·exact .inr q
theorem jfU (hu:X.A.units+64<cLine):OpQ X (compareOp .NotEq) neE:=oq_ne.or' (jny hu) λx y h Q q=>by
 unfold neE at q
 split at q
 ·exact .inl q
 ·exact .inl q
 ·exact .inl q
 ·exact .inr q
def isN:D->Bool
 | .non=>true
 |_=>false
def isV (neg:Bool):RD2:=λx y h Q=>match y with
 | .non=>Q (.bl (neg !=isN x)) h
 | .bl c=>match x with
  | .bl b=>Q (.bl (neg !=(b==c))) h
  | .non=>Q (.bl neg) h
  |_=>False
 |_=>False
end
end L2
namespace HT
open PySem PySem.Spec PyProof.Rows
section
variable {prog:Program} {w:World} {A:Around} {E:Value->Shared->Prop} {s:Shared}
theorem jfV (k:Int) {vs:List Value} {ns:List Int} (hi:IntsAre vs ns) (j:Nat) (h:j<ns.length): ∃t,vs[j]? =some (.int ns[j] t):=by
 induction hi generalizing j with
 |nil=>simp at h
 |cons n t r ih=>
  cases j with
  |zero=>exact⟨t,rfl⟩
  |succ j=>obtain⟨u,e⟩:=ih j (by simpa using h);exact⟨u,by simpa using e⟩
theorem jgD {a:Addr} {vs:List Value} {ns:List Int} {k:Int} {t:Tok} {Q:Value->Shared->Prop} (ht:IsTup s.heap a vs.toArray) (hi:IntsAre vs ns) (hk:k∈ns) (h:Q (.int (ns.idxOf k:Nat) s.toks) {s with toks:=s.toks+1}):
 wpAny (model prog w) A (call (.builtin "tuple.index") [.ref a,.int k t]) Q E s:=by
 refine G0Y G2P ht.typeIs PySem.F.entry_tuple_index ?_ (PySem.F.args_tuple_index_2 _ _)
 unfold Builtin.«tuple.index»
 have hj:ns.idxOf k<ns.length:=G1G.mpr hk
 have hlen:=hi.length
 show wpAny _ _ (Builtin.Tuple.tupleItemsOf (.ref a) >>= _) _ _ s
 refine wpAny_bind (tupleItemsOf_ ht ?_)
 have go:wpAny (model prog w) A.in1 (forIn [0:min vs.toArray.size vs.toArray.size] ((none,()):Option PySem.Fin×Unit) λi __s=>
  match vs.toArray[i]? with
  |some y=>do
   let b <-eqBool y (.int k t)
   if b=true then do
    let r <-retInt ((i:Nat):Int)
    pure (ForInStep.done (some r,()))
    else pure (ForInStep.yield (none,()))
  |x=>pure (ForInStep.yield (none,())))
  (λr s' =>r=(some (.done (.ret (.int (ns.idxOf k:Nat) s.toks))),())/\s' = {s with toks:=s.toks+1}) E s:=by
  rw [Std.Legacy.Range.forIn_eq_forIn_range']
  refine wpAny_forIn_list _ (λrest b s' =>b=(none,())/\s' =s/\ ∃i,i<=ns.idxOf k/\rest=List.range' i (ns.length-i)) _ ?_ ?_ _ _ ⟨rfl,rfl,0,G1B _,?_⟩
  ·rintro x rest b s' ⟨rfl,rfl,i,hil,e⟩
   have hin:i<ns.length:=by omega
   obtain⟨n,hn⟩: ∃n,ns.length-i=n+1:=⟨ns.length-i-1,by omega⟩
   rw [hn,List.range'_succ] at e
   injection e with e1 e2
   subst e1 e2
   obtain⟨u,hu⟩:=jfV k hi x hin
   have hu' :vs.toArray[x]? =some (.int ns[x] u):=by simpa using hu
   rw [hu']
   refine wpAny_bind (wpAny_eqBool_int ?_)
   by_cases hx:x=ns.idxOf k
   ·have he:(ns[x]==k)=true:=by subst hx;simpa using G2a hj
    rw [if_pos he]
    subst hx
    refine wpAny_bind ?_
    exact wpAny_bind (wpAny_mkInt (G0c (G0c ⟨rfl,rfl⟩)))
   ·have hlt:x<ns.idxOf k:=by omega
    have he: ¬ (ns[x]==k)=true:=by rw [ne_of_lt_idxOf hlt hin];exact G0g
    rw [if_neg he]
    refine G0c ⟨rfl,rfl,x+1,hlt,?_⟩
    have:n=ns.length-(x+1):=by omega
    rw [this]
  ·rintro b s' ⟨rfl,rfl,i,hil,e⟩
   have hin:i<ns.length:=by omega
   obtain⟨n,hn⟩: ∃n,ns.length-i=n+1:=⟨ns.length-i-1,by omega⟩
   rw [hn,List.range'_succ] at e
   cases e
  ·simp [hlen]
 refine wpAny_bind (G0c (wpAny_bind (G0c (wpAny_bind (G0S go (λr s' e=> ?_) λ_ _ e=>e)))))
 obtain⟨rfl,rfl⟩:=e
 exact G0c ⟨_,rfl,h⟩
end
section
variable {prog:Program} {w:World} {A:Around} {E:Value->Shared->Prop} {s:Shared}
theorem jhB {l:Addr} {vs:List Value} {ns:List Int} {Q:Value->Shared->Prop} (hl:IsTup s.heap l vs.toArray) (hI:IntsAre vs ns) (h64:vs.length<64)
 (h: ∀ (h1 h' :Heap) (out:Array Value) (ns' :List Int) (c:Nat),(∀b o,s.heap.get? b=some o->h1.get? b=some o)->(∀b o,h1.get? b=some o->h'.get? b=some o)->h'.get? h1.objs.size=some (seqObj "list" out c)->
  IntsAre out.toList ns' ->ns'.Perm ns->ns'.Pairwise (· <= ·)->Q (.ref h1.objs.size) {s with heap:=h'}):wpAny (model prog w) A (call (.builtin "sorted") [.ref l]) Q E s:=by
 have few:vs.length<=sizeLine:=G0X (G1I h64 (by decide))
 obtain⟨o,at_,cl,n,dat⟩:=hl
 refine Calls.call_function_entry kind_sorted plain_sorted entry_sorted (args_sorted1 _) (wpAny_bind (G0c (wpAny_bind (wpAny_collect_seq l (.inr rfl) at_ cl dat (λh1 grown=> ?_) (by simpa using few)))))
 have fresh:(h1.push (seqObj "list" vs.toArray 0)).get? h1.objs.size=some (seqObj "list" vs.toArray 0):=G0m _ rfl
 refine wpAny_bind (wpAny_newList (wpAny_bind (G02 (G0Y slot_list_sort ⟨_,fresh,rfl⟩ entry_list_sort (list_sort_tree fresh hI h64 λout ns' i1 i2 i3=>⟨_,rfl,?_⟩) (args_list_sort _)))) few)
 obtain⟨c,lies⟩:=sortedHeap_at (vs:=vs) (out:=out) fresh
 refine G0c ⟨_,rfl,h h1 _ out ns' c grown (λb ob e=> ?_) lies i1 i2 i3⟩
 have lt:=G0k e
 rw [sortedHeap_old (G0G lt) (by rw [size_push'];exact G2O lt)]
 exact G0b _ e
end
end HT
namespace L2
open PySem PySem.Spec PyProof.Rows
theorem jeD: ∀ {ns:List Int} {us:List Value},Vals (ns.map V.int) us->IntsAre us ns
 | [],_,r=>by cases r;exact .nil
 |n::ns,_,r=>by
  cases r with
  |cons r t=>obtain⟨k,rfl⟩:=r;exact .cons n k (jeD t)
theorem jdJ: ∀ {ns:List Int} {us:List Value},IntsAre us ns->Vals (ns.map V.int) us
 |_,_,.nil=> .nil
 |_,_,.cons n t r=> .cons ⟨t,rfl⟩ (jdJ r)
theorem jaN {K:PySem.W.Frag} {H:Hp}: ∀ {ns:List Int} {vs:List V},RelDs K H (ns.map D.int) vs->vs=ns.map V.int
 | [],_,h=>h
 |n::ns,vs,h=>by
  obtain⟨v,r,e,h1,h2⟩:=(show ∃v r,vs=v::r/\RelD K H (.int n) v/\RelDs K H (ns.map D.int) r from h)
  rw [e,jaN h2,(show v= .int n from h1)];rfl
theorem jdK: ∀ {xs:List V} {us:List Value},xs.length=us.length->(∀ (i:Nat) (x:V) (u:Value),xs[i]? =some x->us[i]? =some u->RelV x u)->Vals xs us
 | [],[],_,_=> .nil
 |x::xs,u::us,hl,h=> .cons (h 0 x u rfl rfl) (jdK (by simpa using hl) λi y w e1 e2=>h (i+1) y w (by simpa using e1) (by simpa using e2))
 | [],_::_,hl,_=>by simp at hl
 |_::_,[],hl,_=>by simp at hl
theorem jeE (ns:List Int): ∀k,k<=ns.length->preSum (λi=>ns.getD i 0) k=(ns.take k).sum
 |0,_=>by simp [preSum]
 |k+1,h=>by
  have hk:k<ns.length:=by omega
  rw [preSum,jeE ns k (by omega),G2j,G0i hk,List.sum_append,G0n,G0i hk]
  simp
theorem je9 {X:Cx} (hc:X.calm=true):CallR X (.builtin "sum") (λxs H Q=> ∃ (a:Addr) (ns:List Int),xs= [.ref a]/\SqL X.K H a (ns.map V.int)/\Q (.int ns.sum) H):=by
 intro pins s σ H xs us Q I r h
 obtain⟨a,ns,rfl,hS,q⟩:=h
 obtain⟨u,rfl,ru⟩:=jcN r
 cases ru
 obtain⟨its,rv,pl,hz⟩:=I.list hS
 have hl:=pl.isList
 have hlt:a<s.heap.objs.size:=by obtain⟨_,e,_⟩:=hl;exact G0k e
 have hi:=jeD rv
 have hn:its.length=ns.length:=hi.length
 refine call_sum_walkAnyS (G1U hl ?_)
 refine⟨s.heap.objs.size,_,_,_,_,_,_,λi=>ns.getD i 0,rfl,(Walks.list (A:=X.A.in1) (show X.A.in1.handled=none from I.ok.hd hc) s.heap.objs.size a (G0G hlt) its.toArray).toS,⟨⟨_,G0m _ rfl,rfl,rfl⟩,hl.push _⟩,?_,?_,λs' t' hm=> ?_⟩
 ·intro b hb
  simp only [G0u,G04,G2U] at hb
  show b<(s.heap.push _).objs.size
  rw [G2L]
  rcases hb with e|e
  ·rw [e];exact G1K _
  ·rw [e];exact G2O hlt
 ·intro i v hP
  have e:its[i]? =some v:=by simpa using hP
  have hil:i<ns.length:=by rw [<-hn];exact(G0s.mp e).1
  obtain⟨t,e2⟩:=HT.jfV 0 hi i hil
  rw [e] at e2;cases e2
  refine⟨t,?_⟩
  show Value.int ns[i] t=Value.int (ns.getD i 0) t
  rw [G0n,G0i hil];rfl
 ·have e:preSum (λi=>ns.getD i 0) its.toArray.size=ns.sum:=by
   rw [G0f,hn,jeE ns _ (G0d _),List.take_length]
  rw [e]
  obtain⟨h',g',d',tk',o'⟩:=s'
  obtain⟨m1,m2,m3,m4,_⟩:=hm
  simp only at m1 m2 m3 m4
  subst m2 m3 m4
  refine⟨.int ns.sum,H,I.kept (t' :=tk') (λb o e=>m1 b o (λz=> ?_) (G0b _ e)),⟨_,rfl⟩,q⟩
  rw [G0x.mp z] at e;exact absurd (G0k e) (G0P _)
def jej:RDn:=λds h Q=> ∃ (a:Addr) (ns:List Int),ds= [.lst a]/\h a=some (ns.map D.int)/\Q (.int ns.sum) (jeX h a)
theorem jlD {X:Cx} (hc:X.calm=true):jcO X (.builtin "sum") jej:=(je9 hc).imp λxs H Q ⟨ds,h,Qd,r,rh,⟨a,ns,e,hd,q⟩,p⟩=>by
 subst e
 obtain⟨v,e,r1⟩:=jas r
 obtain⟨vs,hH,r2⟩:=rh a _ hd
 have e1:v= .ref a:=r1.1
 rw [jaN r2] at hH
 subst e e1
 exact⟨a,ns,rfl,SqL.of hH,p (.int _) _ _ _ (.refl H) (rh.sub (Sub.drop h a)) rfl q⟩
def jaC:RDn:=λds h Q=> ∃ns:List Int,(ds= [.tup (ns.map D.int)]\/ ∃a,ds= [.lst a]/\h a=some (ns.map D.int))/\ns.length<64/\ ∀ (p:Addr) (ns' :List Int),h p=none->ns'.Perm ns->ns'.Pairwise (· <= ·)->Q (.lst p) (jbs h p (ns'.map D.int))
theorem call_sorted_ints {X:Cx}:CallR X (.builtin "sorted") (λxs H Q=> ∃ (a:Addr) (ns:List Int),xs= [.ref a]/\(SqL X.K H a (ns.map V.int)\/SqT X.K H a (ns.map V.int))/\ns.length<64/\ ∀ (p:Addr) (ns' :List Int),H p=none->ns'.Perm ns->ns'.Pairwise (· <= ·)->Q (.ref p) (upd H p (.lst (ns'.map V.int)))):=by
 intro pins s σ H xs us Q I r h
 obtain⟨a,ns,rfl,hS,h64,q⟩:=h
 obtain⟨u,rfl,ru⟩:=jcN r
 cases ru
 have fin: ∀ (vs:List Value) (out:Array Value) (ns' :List Int),IntsAre out.toList ns' ->ns'.Perm ns->ns'.Pairwise (· <= ·)->EP X pins σ Q (.ref (s.heap.objs.size+1)) {s with heap:=sortedAll s.heap vs out}:=λvs out ns' a1 a2 a3=>by
  obtain⟨e,he⟩:=sortedAll_at s.heap vs out
  have hf:H (s.heap.objs.size+1)=none:=I.hok.fresh (Nat.le_succ _)
  refine⟨.ref _,_,I.laid (t' :=s.toks) (o:= .lst (ns'.map V.int)) (λb ob q=>sortedAll_old q) (Nat.le_succ _) ?_,rfl,q _ ns' hf a2 a3⟩
  refine⟨?_,out.toList,e,jdJ a1,he⟩
  rw [G0a,a2.length_eq]
  exact G0X (G1I h64 (by decide))
 rcases hS with hS|hS
 ·obtain⟨its,rv,pl,hz⟩:=I.list hS
  have hi:=jeD rv
  exact sorted_ints pl.isList hi (by rw [hi.length];exact h64) (fin its)
 ·obtain⟨its,rv,pl,hz⟩:=I.tuple hS
  have hi:=jeD rv
  refine HT.jhB pl hi (by rw [hi.length];exact h64) λh1 h' out ns' c k1 k2 lies a1 a2 a3=> ?_
  have I1:=I.kept (t' :=s.toks) k1
  refine⟨.ref _,_,I1.laid (t' :=s.toks) (o:= .lst (ns'.map V.int)) k2 (G0d _) ⟨?_,out.toList,c,jdJ a1,lies⟩,rfl,q _ ns' (I1.hok.fresh (G0d _)) a2 a3⟩
  rw [G0a,a2.length_eq]
  exact G0X (G1I h64 (by decide))
theorem jiu {X:Cx}:jcO X (.builtin "sorted") jaC:=call_sorted_ints.imp λxs H Q ⟨ds,h,Qd,r,rh,⟨ns,hd,h64,q⟩,p⟩=>by
 have fin: ∀ (c:Addr) (ns' :List Int),H c=none->ns'.Perm ns->ns'.Pairwise (· <= ·)->Q (.ref c) (upd H c (.lst (ns'.map V.int))):=λc ns' hc a b=>
  p (.lst c) _ _ _ (.new hc) (rh.newL hc (jcn ns')) ⟨rfl,_,jam⟩ (q c ns' (rh.free hc) a b)
 rcases hd with e|⟨a,e,ha⟩
 ·subst e
  obtain⟨v,e,r1⟩:=jas r
  obtain⟨a,vs,e1,hH,r2⟩:=(show ∃a vs,v= .ref a/\H a=some (.tup vs)/\RelDs X.K H (ns.map D.int) vs from r1)
  rw [jaN r2] at hH
  subst e e1
  exact⟨a,ns,rfl,.inr (SqT.of hH),h64,fin⟩
 ·subst e
  obtain⟨v,e,r1⟩:=jas r
  obtain⟨vs,hH,r2⟩:=rh a _ ha
  have e1:v= .ref a:=r1.1
  rw [jaN r2] at hH
  subst e e1
  exact⟨a,ns,rfl,.inl (SqL.of hH),h64,fin⟩
def jeF (to te:TED):TED:=λσ h Q=>to σ h λx h1=> ∃ns:List Int,x= .tup (ns.map D.int)/\te σ h1 λy h2=> ∃k:Int,y= .int k/\k∈ns/\Q (.int (ns.idxOf k:Nat)) h2
def jeG (to ti te:TED):TED:=λσ h Q=>to σ h λx h1=> ∃a,x= .lst a/\ti σ h1 λi h2=>te σ h2 λy h3=> ∃ (k:Nat) (xs:List D),i= .int (k:Int)/\k<=1000/\h3 a=some xs/\xs.length<sizeLine/\Q .non (jbs h3 a (xs.take k++y::xs.drop k))
section
variable {X:Cx} {o e i:Expr} {to te ti:TED} {apos cpos:Pos}
theorem jpQ (ho:QE X o to) (he:QE X e te) (hbase:attributeBase o "index" X.env (eval o X.env)=eval o X.env:=by rfl)
 (hfew:((backTo cpos (starEach [e] X.env)).all (λx=> !x.1)&&(backToKw cpos (keywordEach [] X.env)).all (λx=>x.1.isSome)&&decide ([e].length+([]:List Keyword).length+(if ([]:List Keyword).isEmpty then 0 else 1)<30))=true:=by rfl)
 (hline:(apos.endLine==cpos.line)=true:=by rfl) (hs:starEach [e] X.env=(false,eval e X.env)::starEach [] X.env:=by rfl) (hplain:(backTo cpos (starEach [] X.env)).any (·.1)=false:=by rfl):
 QE X (.Call (.Attribute o "index" apos) [e] [] cpos) (jeF to te):=by
 intro pins s σ H Q I h
 obtain⟨σd,h,Qd,rs,rh,t,p⟩:=h
 have h1:LE X.K to σ H (λv H1=> ∃ (ns:List Int) (a:Addr) (h1:HD),v= .ref a/\H1 a=some (.tup (ns.map V.int))/\RelH X.K h1 H1/\Kept H H1/\te σd h1 λy h2=> ∃k:Int,y= .int k/\k∈ns/\Qd (.int (ns.idxOf k:Nat)) h2):=
  ⟨σd,h,_,rs,rh,t,λd v h' H' k rh' rd ⟨ns,e,q⟩=>by
   subst e
   obtain⟨a,vs,e1,hH,r2⟩:=(show ∃a vs,v= .ref a/\H' a=some (.tup vs)/\RelDs X.K H' (ns.map D.int) vs from rd)
   rw [jaN r2] at hH
   exact⟨ns,a,h',e1,hH,rh',k,q⟩⟩
 refine wpAny_Call_method_late hbase hfew hline rfl (thn (ho pins s σ H _ I h1) λv s1 ⟨x,H1,I1,r1,ns,a,h1,ex,hH,rh1,k1,q1⟩=> ?_)
 subst ex
 cases (show v= .ref a from r1)
 obtain⟨z,its,rv,ob,g1,g2,g3,g4⟩:=(show ObjOk X.prog X.w H1 s1.heap a (.tup (ns.map V.int)) from I1.hok a _ hH)
 refine⟨"tuple","tuple.index",PySem.F.plainAttrs_tuple,G2P,PySem.F.type_tuple_index,⟨ob,g1,g2⟩,λb e=>by cases e;exact⟨ob,g1,g3⟩,?_⟩
 have h2:LA X.K (ja1 te jc2) σ H1 (λus H2=> ∃ (k:Int) (h2:HD),us= [.int k]/\k∈ns/\RelH X.K h2 H2/\Kept H1 H2/\Qd (.int (ns.idxOf k:Nat)) h2):=
  ⟨σd,h1,λds h2=> ∃k:Int,ds= [.int k]/\k∈ns/\Qd (.int (ns.idxOf k:Nat)) h2,rs.mono k1,rh1,by
   show te σd h1 λy h2=> ∃k:Int,[y]= [.int k]/\k∈ns/\Qd (.int (ns.idxOf k:Nat)) h2
   have:(λy h2=> ∃k:Int,y=D.int k/\k∈ns/\Qd (.int (ns.idxOf k:Nat)) h2)=λy h2=> ∃k:Int,[y]= [D.int k]/\k∈ns/\Qd (.int (ns.idxOf k:Nat)) h2:=by
    funext y h2;simp
   rw [<-this];exact q1,λds vs h' H' k rh' rd ⟨kk,e,hm,q⟩=>by
   subst e
   obtain⟨v,e,r2⟩:=jas rd
   cases (show v= .int kk from r2)
   exact⟨kk,h',e,hm,rh',k,q⟩⟩
 have hA:=(jik he jkv hs:QA X [e] (ja1 te jc2)) cpos pins s1 σ H1 _ I1 h2
 rw [hs] at hA ⊢
 refine Calls.callWith_builtin (by show (false||(backTo cpos (starEach [] X.env)).any (·.1))=false;rw [hplain]<;>rfl) (Calls.evalArgs_plain ?_)
 refine thn hA λus s2 ⟨vs,H2,I2,r2,k,h2,ev,hm,rh2,k2,q2⟩=> ?_
 subst ev
 obtain⟨u,rfl,ru⟩:=jcN r2
 obtain⟨tk,rfl⟩:=ru
 obtain⟨its2,rv2,ht2,_⟩:=I2.tuple (SqT.of (k2.tup _ _ hH))
 exact HT.jgD ht2 (jeD rv2) hm ⟨.int _,H2,I2.tok _,⟨_,rfl⟩,p (.int _) _ _ _ (k1.trans k2) rh2 rfl q2⟩
end
theorem jiv {X:Cx}:MtM X "list.insert" (λx vs H Q=> ∃ (l:Addr) (xs:List V) (k:Nat) (y:V),x= .ref l/\vs= [.int (k:Int),y]/\H l=some (.lst xs)/\k<=1000/\xs.length<sizeLine/\Q .non (upd H l (.lst (xs.take k++y::xs.drop k)))):=by
 intro pins s σ H x vs v us Q I rx rv h
 obtain⟨l,xs,k,y,rfl,rfl,hH,hk,hz,q⟩:=h
 cases rx
 obtain⟨u,w',rfl,⟨t,rfl⟩,ry⟩:=jjy rv
 obtain⟨z,its,n,r,hl,e⟩:=I.lstM hH
 have hfit: ¬ (!Builtin.List.listFitsIndex (k:Int))=true:=by rw [fitsIndex_both (by omega) (by omega)];exact G0g
 have hsz:its.toArray.size<=sizeLine:=by rw [G0f];omega
 generalize har:its.toArray=ar at e hsz
 obtain⟨kk,hkk⟩: ∃kk:Int,kk=(k:Int):=⟨_,rfl⟩
 rw [<-hkk] at hfit ⊢
 refine G3c F.slot_list_insert ⟨_,e,rfl⟩ F.entry_list_insert (F.args_list_insert_3 _ _ _) (AutoListH.list_insert_list_int_val_1 l ar n kk t w' hfit hsz) ⟨e,?_⟩
 subst har hkk
 refine⟨.non,_,I.lset (its' :=its.take k++w' ::its.drop k) hH e ?_ ((r.take k).append (.cons ry (r.drop k))) ?_,rfl,q⟩
 ·have hk0: ¬ ((k:Int)<0):=by omega
  simp only [hk0,G3q,Int.toNat_natCast,G0f]
  have e1:its.take (min k its.length)=its.take k:=by
   by_cases hh:k<=its.length
   ·rw [Nat.min_eq_left hh]
   ·rw [Nat.min_eq_right (by omega),List.take_length,G1s (by omega)]
  have e2:its.drop (min k its.length)=its.drop k:=by
   by_cases hh:k<=its.length
   ·rw [Nat.min_eq_left hh]
   ·rw [Nat.min_eq_right (by omega),List.drop_length,List.drop_of_length_le (by omega)]
  have e3:(its.drop k).take (its.length-min k its.length)=its.drop k:=G1s (by rw [G1v];omega)
  apply Array.ext'
  simp only [Array.toList_append,G2Q,List.extract_toArray,List.extract_eq_drop_take,List.drop_zero,Nat.sub_zero]
  rw [e1,e2,e3,G2N];rfl
 ·rw [G1b,G0e,G03,G1v];omega
section
variable {X:Cx} {o e i:Expr} {to te ti:TED} {apos cpos:Pos}
theorem jpR (ho:QE X o to) (hi:QE X i ti) (he:QE X e te) (hbase:attributeBase o "insert" X.env (eval o X.env)=eval o X.env:=by rfl)
 (hfew:((backTo cpos (starEach [i,e] X.env)).all (λx=> !x.1)&&(backToKw cpos (keywordEach [] X.env)).all (λx=>x.1.isSome)&&decide ([i,e].length+([]:List Keyword).length+(if ([]:List Keyword).isEmpty then 0 else 1)<30))=true:=by rfl)
 (hline:(apos.endLine==cpos.line)=true:=by rfl) (hs:starEach [i,e] X.env=(false,eval i X.env)::starEach [e] X.env:=by rfl) (hs2:starEach [e] X.env=(false,eval e X.env)::starEach [] X.env:=by rfl) (hplain:(backTo cpos (starEach [e] X.env)).any (·.1)=false:=by rfl):
 QE X (.Call (.Attribute o "insert" apos) [i,e] [] cpos) (jeG to ti te):=
 (jlb G18 PySem.F.slot_list_insert PySem.F.type_list_insert jiv ho (jbS hi (jbS he pa_nil hs2) hs) hbase hfew hline hs hplain).imp
  λσ H Q ⟨σd,h,Qd,rs,rh,t,p⟩=>LE.bind rs rh t λd v h1 H1 k1 rs1 rh1 r1 ⟨a,e,q⟩=>by
   subst e
   obtain⟨e1,vs,hH⟩:=(show v= .ref a/\ ∃vs,H1 a=some (.lst vs) from r1)
   subst e1
   refine⟨.inl ⟨rfl,vs,SqL.of hH⟩,?_⟩
   refine LE.bind rs1 rh1 q λdi vi h2 H2 k2 rs2 rh2 r2 q2=>LE.bind rs2 rh2 q2 λy u h3 H3 k3 rs3 rh3 r3 ⟨k,xs,ei,hk,hx,hz,q3⟩=> ?_
   subst ei
   have ev:vi= .int (k:Int):=r2
   obtain⟨ws,hW,r4⟩:=rh3 a xs hx
   refine⟨a,ws,k,u,rfl,by rw [ev],hW,hk,by rw [<-r4.length];exact hz,p .non _ _ _ (k1.trans (k2.trans (k3.trans (.put hW)))) (rh3.put hW ((r4.take k).append (.cons r3 (r4.drop k)))) rfl q3⟩
end
def jnz (ta:TA):TE:=λσ H Q=>ta σ H λvs H1=> ∃j:Int,vs= [.int j]/\ ∀p,H1 p=none->Q (.ref p) (upd H1 p (.rng 0 j))
theorem jjM {X:Cx} {a:Expr} {ta:TA} {p pos:Pos} (hg:Gl X "range") (hm:X.mg "range" =none) (ha:PA X [a] ta) (hs:starEach [a] X.env= [(false,eval a X.env)]:=by rfl):PE X (.Call (.Name "range" p) [a] [] pos) (jnz ta):=by
 intro pins s σ H Q I h
 refine Call_ (jeq I hg hm boot_range (G1q (thn (ha pos pins s σ H _ I h) λus s1 ⟨vs,H1,I1,r1,q1⟩=> ?_) hs rfl))
 obtain⟨j,e,q⟩:=q1
 subst e
 obtain⟨u,rfl,ru⟩:=jcN r1
 obtain⟨t,rfl⟩:=ru
 refine call_range_1 ⟨.ref s1.heap.objs.size,_,I1.laid (o:= .rng 0 j) (λb ob q=>G0b _ q) (G0d _) ?_,rfl,q _ (I1.hok.fresh (G0d _))⟩
 exact⟨_,_,_,G0m _ rfl⟩
theorem jfa {X:Cx} (hc:X.calm=true):CallR X (.type "list") (λxs H Q=> ∃ (p:Addr) (n:Nat),xs= [.ref p]/\H p=some (.rng 0 (n:Int))/\n<=1000/\ ∀l,H l=none->Q (.ref l) (upd H l (.lst ((List.range n).map λ(k:Nat)=>V.int (k:Int))))):=by
 intro pins s σ H xs us Q I r h
 obtain⟨p,n,rfl,hH,hn,q⟩:=h
 obtain⟨u,rfl,ru⟩:=jcN r
 cases ru
 obtain⟨t,u,v,e⟩:=(show ObjOk X.prog X.w H s.heap p (.rng 0 (n:Int)) from I.hok p _ hH)
 refine call_list_range (n:=n) (I.ok.hd hc) e (small_one (by decide) (by decide) (by omega) (by omega)) ?_ (G0R hn (by decide)) λh' tk acc c' kp e' hacc=> ?_
 ·rw [rangeSize_one];try (split<;>omega)
 ·refine⟨.ref s.heap.objs.size,_,I.laid (t' :=tk) (o:= .lst ((List.range n).map λ(k:Nat)=>V.int (k:Int))) (λb ob q=>kp b ob q) (G0d _) ?_,rfl,q _ (I.hok.fresh (G0d _))⟩
  obtain⟨hs,hit⟩:=hacc
  refine⟨by rw [G0a,G0h];exact G0X (jbk hn),acc.toList,c',?_,by simpa using e'⟩
  refine jdK (by simp [hs]) λi x u hx hu=> ?_
  rw [G0o] at hx
  have hi:i<n:=by
   by_cases z:i<n
   ·exact z
   ·rw [G2q (by simpa using z)] at hx;cases hx
  rw [G05 hi] at hx
  cases hx
  obtain⟨t,e⟩:=hit i u (by simpa using hu)
  exact⟨t,by rw [e];simp⟩
def jbJ (ta:TAD):TED:=λσ h Q=>ta σ h λds h1=> ∃n:Nat,ds= [.int (n:Int)]/\n<=1000/\ ∀p,h1 p=none->Q (.lst p) (jbs h1 p ((List.range n).map λ(k:Nat)=>D.int (k:Int)))
theorem jfW {K:PySem.W.Frag} {H:Hp} (f:Nat->Int): ∀l:List Nat,RelDs K H (l.map λk=>D.int (f k)) (l.map λk=>V.int (f k))
 | []=> .nil
 |k::l=> .cons rfl (jfW f l)
theorem Kept.drop2 {H:Hp} {p q:Addr} {o o' :HO} (hp:H p=none) (hq:upd H p o q=none):Kept H (upd (upd H p o) q o'):=(Kept.new hp).trans (.new hq)
theorem joM {X:Cx} {a:Expr} {ta:TAD} {p p2 pos pos2:Pos} (hc:X.calm=true) (hg:Gl X "list") (hm:X.mg "list" =none) (hg2:Gl X "range") (hm2:X.mg "range" =none) (ha:QA X [a] ta) (hs:starEach [a] X.env= [(false,eval a X.env)]:=by rfl)
 (h1:starEach [.Call (.Name "range" p2) [a] [] pos2] X.env=(false,eval (.Call (.Name "range" p2) [a] [] pos2) X.env)::starEach [] X.env:=by rfl) (h2:(backTo pos (starEach [] X.env)).any (·.1)=false:=by rfl):
 QE X (.Call (.Name "list" p) [.Call (.Name "range" p2) [a] [] pos2] [] pos) (jbJ ta):=
 (jdz (jfa hc) hg hm (by decide +kernel) (jbS (jjM hg2 hm2 ha hs) pa_nil h1) (by decide) (by decide) h1 h2).imp
  λσ H Q ⟨σd,h,Qd,rs,rh,t,post⟩=>LA.bind rs rh t λds vs h1 H1 k1 rs1 rh1 r1 ⟨n,e,hn,q⟩=>by
   subst e
   obtain⟨v,e,r2⟩:=jas r1
   cases (show v= .int (n:Int) from r2)
   refine⟨n,e,λc hcn=>⟨c,n,rfl,jam,hn,λl hl=> ?_⟩⟩
   have rh2:=(rh1.new (o:= .rng 0 (n:Int)) hcn)
   exact post (.lst l) (.ref l) _ _ (k1.trans (.drop2 hcn hl)) (rh2.newL hl (jfW (λk=>(k:Int)) (List.range n))) ⟨rfl,_,jam⟩ (q l (rh2.free hl))
structure JE (X:Cx) (e:Expr) (t:TED):Prop where
 to:QE X e t
structure JT (X:Cx) (e:Expr) (t:TTD):Prop where
 to:QT X e t
structure JW (X:Cx) (e:Expr) (t:TTD):Prop where
 to:QW X e t
structure JA (X:Cx) (e:List Expr) (t:TAD):Prop where
 to:QA X e t
structure JS (X:Cx) (e:Stmt) (t:TSD):Prop where
 to:QS X e t
structure JSs (X:Cx) (e:List Stmt) (t:TSD):Prop where
 to:QSs X e t
structure JG (X:Cx) (e:Expr) (t:TGD):Prop where
 to:QG X e t
structure JI (X:Cx) (tg e:Expr) (t:TID):Prop where
 to:QI X tg e t
structure JO (X:Cx) (e:Option Expr) (t:TOD):Prop where
 to:QO X e t
section
variable {X:Cx} {a b c e:Expr} {es rest:List Expr} {ta tb tc te:TED} {t u:TAD} {tt tu:TTD} {pos:Pos} {f r r' :RD2}
theorem jv (i:Nat) {x:Str} (hN:X.N[i]? =some x:=by rfl) (hv:Vis X.env.scope x:=by first|exact Or.inl rfl|exact Or.inr (Or.inl rfl)|exact Or.inr (Or.inr rfl)) (hd:(x==("__debug__" :Str))=false:=by decide) (hcd:(x==("__classdict__" :Str))=false:=by decide):JE X (.Name x pos) (jd9 i):=⟨qv (i:=i) (hN:=hN) (hv:=hv) (hd:=hd) (hcd:=hcd)⟩
theorem jaA {i:Int} {j:Nat}:JE X (.Constant (.int i) j pos) (dC (.int i)):=⟨jpx⟩
theorem jbl {i:Bool} {j:Nat}:JE X (.Constant (.bool i) j pos) (dC (.bl i)):=⟨qbl⟩
theorem jnA {x:Str} {i:Int} {tk:Tok} (hg:Gl X x) (hm:X.mg x=some (.int i tk)) (hd:(x==("__debug__" :Str))=false:=by decide):JE X (.Name x pos) (dC (.int i)):=⟨jow (hg:=hg) (hm:=hm) (hd:=hd)⟩
theorem jop {op:Operator} (ho:OpQ X (binaryOp op) f) (ha:JE X a ta) (hb:JE X b tb):JE X (.BinOp a op b pos) (dOp f ta tb):=⟨qop (ho:=ho) (ha:=ha.to) (hb:=hb.to)⟩
theorem jgE {op:CmpOp} (ho:OpQ X (compareOp op) f) (ha:JE X a ta) (hb:JE X b tb) (hm:behindInMarks op b=false):JE X (.Compare a [op] [b] pos) (dOp f ta tb):=⟨jpy (ho:=ho) (ha:=ha.to) (hb:=hb.to) (hm:=hm)⟩
theorem jcs {op:CmpOp} (ho:OpQ X (compareOp op) f) (ha:JE X a ta) (hb:JE X b tb) (hm:behindInMarks op b=false):JT X (.Compare a [op] [b] pos) (ja4 (dOp f ta tb)):=⟨jox (ho:=ho) (ha:=ha.to) (hb:=hb.to) (hm:=hm)⟩
theorem jnB {op op' :CmpOp} (ho:OpQ X (compareOp op) r) (ho' :OpQ X (compareOp op') r') (ha:JE X a ta) (hb:JE X b tb) (hc:JE X c tc) (hm:lastMarks [op,op'] [b,c]=false:=by with_unfolding_all rfl):JE X (.Compare a [op,op'] [b,c] pos) (jaJ r r' ta tb tc):=⟨jm7 (ho:=ho) (ho' :=ho') (ha:=ha.to) (hb:=hb.to) (hc:=hc.to) (hm:=hm)⟩
theorem jlE {op op' :CmpOp} (ho:OpQ X (compareOp op) r) (ho' :OpQ X (compareOp op') r') (ha:JE X a ta) (hb:JE X b tb) (hc:JE X c tc) (hm:lastMarks [op,op'] [b,c]=false:=by with_unfolding_all rfl):JT X (.Compare a [op,op'] [b,c] pos) (ja4 (jaJ r r' ta tb tc)):=⟨jli (ho:=ho) (ho' :=ho') (ha:=ha.to) (hb:=hb.to) (hc:=hc.to) (hm:=hm)⟩
theorem jcP (ha:JE X a ta) (he: ∀whole,isTrue a X.env whole=(do let v <-whole;standAt a.pos;holding [v] (truthy v)):=by intro _;rfl):JT X a (ja4 ta):=⟨joy (ha:=ha.to) (he:=he)⟩
theorem jlF (ha:JT X a tt):JW X (.BoolOp .Or [a] pos) tt:=⟨jpz (ha:=ha.to)⟩
theorem jlG (ha:JT X a tt) (hb:JW X (.BoolOp .Or (b::rest) pos) tu):JW X (.BoolOp .Or (a::b::rest) pos) (jec tt tu):=⟨jpA (ha:=ha.to) (hb:=hb.to)⟩
theorem jcB (ha:JT X a tt):JT X (.UnaryOp .Not a pos) (jbt tt):=⟨joz (ha:=ha.to)⟩
theorem jhS {op:BoolOp} (ha:JE X a ta):JE X (.BoolOp op [a] pos) ta:=⟨jpB (ha:=ha.to)⟩
theorem jjp (ha:JE X a ta) (hb:JE X (.BoolOp .And (b::rest) pos) tb):JE X (.BoolOp .And (a::b::rest) pos) (jbu ta tb):=⟨jpC (ha:=ha.to) (hb:=hb.to)⟩
theorem jor (ha:JE X a ta) (hb:JE X (.BoolOp .Or (b::rest) pos) tb):JE X (.BoolOp .Or (a::b::rest) pos) (jed ta tb):=⟨qor (ha:=ha.to) (hb:=hb.to)⟩
theorem jpS (ha:JE X a ta):JE X (.UnaryOp .Not a pos) (jbv ta):=⟨jpD (ha:=ha.to)⟩
theorem jif {c:Expr} (hc:JT X c tt) (ha:JE X a ta) (hb:JE X b tb):JE X (.IfExp c a b pos) (dIf tt ta tb):=⟨qif (hc:=hc.to) (ha:=ha.to) (hb:=hb.to)⟩
theorem jaa:JA X [] jc2:=⟨jkv⟩
theorem jnC {k:Nat} (h:JA X es t):JE X (.Tuple es k pos) (jea t):=⟨jpE (h:=h.to)⟩
theorem jjq (h:JA X es t):JE X (.List es pos) (jeb t):=⟨jpF (h:=h.to)⟩
end
section
variable {X:Cx} {st:Stmt} {sts:List Stmt} {t u:TSD} {e:Expr} {te:TED} {pos:Pos}
theorem jaR:JSs X [] jbw:=⟨jne⟩
theorem jae (h1:JS X st t) (h2:JSs X sts u):JSs X (st::sts) (jdm t u):=⟨jlm (h1:=h1.to) (h2:=h2.to)⟩
theorem jaf (h1:JS X st t):JSs X [st] t:=⟨jnf (h1:=h1.to)⟩
theorem jdL (he:JE X e te) (hs:swapsWith e none pos.line X.env=pure false:=by rfl):JS X (.Expr e pos) (jbx te):=⟨joB (he:=he.to) (hs:=hs)⟩
theorem jbp (he:JE X e te):JS X (.Return (some e) pos) (jee te):=⟨jpG (he:=he.to)⟩
theorem jd8 {c:Expr} {a b:List Stmt} {tc:TTD} (hc:JT X c tc) (ha:JSs X a t) (hb:JSs X b u):JS X (.If c a b pos) (jd6 tc t u):=⟨jpH (hc:=hc.to) (ha:=ha.to) (hb:=hb.to)⟩
theorem jek {i:Nat} {x:Str} {pos' :Pos} (hN:X.N.Nodup) (hi:X.N[i]? =some x) (hx:Loc X.env.scope x) (he:JE X e te) (hs:swapsWith e (some (.Name x pos')) pos.line X.env=pure false:=by rfl) (hf:X.fn x=true\/X.env.scope.names.lookup x=some .local:=by first|exact .inl rfl|exact .inr rfl|assumption):JS X (.Assign [.Name x pos'] e pos) (jef i te):=⟨jpI (hN:=hN) (hi:=hi) (hx:=hx) (he:=he.to) (hs:=hs) (hf:=hf)⟩
theorem jdM {i:Nat} {x:Str} (hN:X.N.Nodup) (hi:X.N[i]? =some x) (hx:Loc X.env.scope x) (hf:X.fn x=true\/X.env.scope.names.lookup x=some .local:=by first|exact .inl rfl|exact .inr rfl|assumption):JG X (.Name x pos) (gN i):=⟨jln (hN:=hN) (hi:=hi) (hx:=hx) (hf:=hf)⟩
theorem jfX {i j:Nat} {x y:Str} {p1 p2:Pos} {k:Nat} (hc:X.calm=true) (hN:X.N.Nodup) (hi:X.N[i]? =some x) (hj:X.N[j]? =some y) (hx:Loc X.env.scope x) (hy:Loc X.env.scope y) (hf:X.fn x=true\/X.env.scope.names.lookup x=some .local:=by first|exact .inl rfl|exact .inr rfl|assumption) (hf2:X.fn y=true\/X.env.scope.names.lookup y=some .local:=by first|exact .inl rfl|exact .inr rfl|assumption):JG X (.Tuple [.Name x p1,.Name y p2] k pos) (gT2 i j):=⟨jng (hc:=hc) (hN:=hN) (hi:=hi) (hj:=hj) (hx:=hx) (hy:=hy) (hf:=hf) (hf2:=hf2)⟩
theorem jkz {tg:Expr} {g:TGD} (he:JE X e te) (hg:JG X tg g) (hs:swapsWithSole [tg] e pos.line X.env=pure false:=by rfl) (hsw:swappedStores [tg] e X.env=pure none:=by rfl) (h1:(assignEach [tg] X.env).map (·.2)= [assign tg X.env]:=by rfl):JS X (.Assign [tg] e pos) (jeg te g):=⟨jpJ (he:=he.to) (hg:=hg.to) (hs:=hs) (hsw:=hsw) (h1:=h1)⟩
theorem jpT {i j:Nat} {x y:Str} {a b:Expr} {ta:TAD} {px py pt:Pos} {kt k2 pt2} (hc:X.calm=true) (hN:X.N.Nodup) (hi:X.N[i]? =some x) (hj:X.N[j]? =some y) (hij:i≠j) (hx:X.env.scope.names.lookup x=some .local) (hy:X.env.scope.names.lookup y=some .local) (ha:JA X [a,b] ta) (hw:swappedStores [.Tuple [.Name x px,.Name y py] kt pt] (.Tuple [a,b] k2 pt2) X.env=pure (some [x,y])) (hs:swapsWithSole [.Tuple [.Name x px,.Name y py] kt pt] (.Tuple [a,b] k2 pt2) pos.line X.env=pure false:=by rfl):JS X (.Assign [.Tuple [.Name x px,.Name y py] kt pt] (.Tuple [a,b] k2 pt2) pos) (jeh i j ta):=⟨jpK (hc:=hc) (hN:=hN) (hi:=hi) (hj:=hj) (hij:=hij) (hx:=hx) (hy:=hy) (ha:=ha.to) (hw:=hw) (hs:=hs)⟩
end
section
variable {X:Cx} {tg e iter elt:Expr} {te:TED} {ti:TID} {g:TGD} {tb:TSD} {tt:TTD} {pos:Pos} {ta:TAD} {scope:Scope} {js:List Nat} {ifs:List Expr}
theorem jiw (he:JE X e te):JI X tg e (iL te):=⟨jlp (he:=he.to)⟩
theorem jfY {p:Pos} {a:Expr} (hg:Gl X "range") (hm:X.mg "range" =none) (ha:JA X [a] ta) (hs:starEach [a] X.env= [(false,eval a X.env)]:=by rfl):JI X tg (.Call (.Name "range" p) [a] [] pos) (iR1 ta):=⟨joF (hg:=hg) (hm:=hm) (ha:=ha.to) (hs:=hs)⟩
theorem jnD {body:List Stmt} (hp:PassesOwn (model X.prog X.w) X.A X.env X.xe) (hc:X.calm=true) (hi:JI X tg iter ti) (hg:JG X tg g) (hb:JSs X body tb) (hs: ∀x,foldedSetIterable iter X.env x=pure x:=by intro _;rfl):JS X (.For tg iter body [] pos) (jn4 ti g tb):=⟨jpL (hp:=hp) (hc:=hc) (hi:=hi.to) (hg:=hg.to) (hb:=hb.to) (hs:=hs)⟩
theorem jaS:PTs X [] (LT X.K jeY):=jlq
theorem jlc {i:Nat} {x:Str} {p:Pos} (hc:X.calm=true) (S:BlockOk X scope js) (hi:JI X (.Name x p) iter ti) (hj:i∈js) (hN:X.N.Nodup) (hx:X.N[i]? =some x) (hl:scope.names.lookup x=some .local\/scope.names.lookup x=some .cell) (ht: ∀X',jaT X scope X' ->PTs X' ifs (LT X'.K tt)) (he: ∀X',jaT X scope X' ->JE X' elt te) (hs: ∀x,foldedSetIterable iter X.env x=pure x:=by intro _;rfl):JE X (.ListComp elt [⟨.Name x p,iter,ifs,0⟩] scope pos) (jfN (bN i) js ti tt te):=⟨qlc (hc:=hc) (S:=S) (hi:=hi.to) (hj:=hj) (hN:=hN) (hx:=hx) (hl:=hl) (ht:=ht) (he:=λX' hX=>(he X' hX).to) (hs:=hs)⟩
theorem jpU {i j:Nat} {x y:Str} {p1 p2 p3:Pos} {k:Nat} (hc:X.calm=true) (S:BlockOk X scope js) (hi:JI X (.Tuple [.Name x p1,.Name y p2] k p3) iter ti) (hj:i∈js) (hj2:j∈js) (hij:i≠j) (hN:X.N.Nodup) (hx:X.N[i]? =some x) (hy:X.N[j]? =some y) (hl:scope.names.lookup x=some .local\/scope.names.lookup x=some .cell) (hl2:scope.names.lookup y=some .local\/scope.names.lookup y=some .cell) (ht: ∀X',jaT X scope X' ->PTs X' ifs (LT X'.K tt)) (he: ∀X',jaT X scope X' ->JE X' elt te) (hs: ∀x,foldedSetIterable iter X.env x=pure x:=by intro _;rfl):JE X (.ListComp elt [⟨.Tuple [.Name x p1,.Name y p2] k p3,iter,ifs,0⟩] scope pos) (jfN (b2 i j) js ti tt te):=⟨jpM (hc:=hc) (S:=S) (hi:=hi.to) (hj:=hj) (hj2:=hj2) (hij:=hij) (hN:=hN) (hx:=hx) (hy:=hy) (hl:=hl) (hl2:=hl2) (ht:=ht) (he:=λX' hX=>(he X' hX).to) (hs:=hs)⟩
end
section
variable {X:Cx} {k:Nat} {f:Addr} {fd:FuncData} {ps:List Str} {spd:RDn} {x:Str} {p pos:Pos} {e:Expr} {es:List Expr} {t:TAD}
theorem jan (F:FnOk X.prog X.w X.K X.mg X.base CX0 k f fd ps (LSp X.K spd)) (hr:Room k X.A) (hg:Gl X x) (hm:X.mg x=some (.ref f)) (hk:PySem.W.keepIn X.K (.ref f)=true) (hb:Binds X.K fd ps []) (ha:JA X (e::es) t) (hdb:(x==("__debug__" :Str))=false:=by decide) (he:starEach (e::es) X.env=(false,eval e X.env)::starEach es X.env:=by rfl) (hpl:(backTo pos (starEach es X.env)).any (·.1)=false:=by rfl):JE X (.Call (.Name x p) (e::es) [] pos) (dCB spd t):=⟨joG (F:=F) (hr:=hr) (hg:=hg) (hm:=hm) (hk:=hk) (hb:=hb) (ha:=ha.to) (hdb:=hdb) (he:=he) (hpl:=hpl)⟩
theorem jaF {id:String} {r:RDn} (hc:jcO X (.builtin id) r) (hg:Gl X x) (hm:X.mg x=none) (hv:bootBuiltins x=some (.builtin id)) (ha:JA X (e::es) t) (hn:x≠ "__name__" :=by decide) (hdb:(x==("__debug__" :Str))=false:=by decide) (he:starEach (e::es) X.env=(false,eval e X.env)::starEach es X.env:=by rfl) (hpl:(backTo pos (starEach es X.env)).any (·.1)=false:=by rfl):JE X (.Call (.Name x p) (e::es) [] pos) (dCB r t):=⟨jnk (hc:=hc) (hg:=hg) (hm:=hm) (hv:=hv) (ha:=ha.to) (hn:=hn) (hdb:=hdb) (he:=he) (hpl:=hpl)⟩
theorem jaU {T:String} {r:RDn} (hc:jcO X (.type T) r) (hg:Gl X x) (hm:X.mg x=none) (hv:bootBuiltins x=some (.type T)) (ha:JA X (e::es) t) (hn:x≠ "__name__" :=by decide) (hdb:(x==("__debug__" :Str))=false:=by decide) (he:starEach (e::es) X.env=(false,eval e X.env)::starEach es X.env:=by rfl) (hpl:(backTo pos (starEach es X.env)).any (·.1)=false:=by rfl):JE X (.Call (.Name x p) (e::es) [] pos) (dCB r t):=⟨jls (hc:=hc) (hg:=hg) (hm:=hm) (hv:=hv) (ha:=ha.to) (hn:=hn) (hdb:=hdb) (he:=he) (hpl:=hpl)⟩
end
section
variable {X:Cx} {a b e:Expr} {ta tb te:TED} {pos p2:Pos}
theorem jix (ha:JE X a ta) (hb:JE X b tb) (hs:jgv b):JE X (.Subscript a b pos) (dOp ixD ta tb):=⟨qix (ha:=ha.to) (hb:=hb.to) (hs:=hs)⟩
end
theorem jgF {X:Cx} {a:Expr} {ta:TED} {T:String} {t:Str} {p p2 pos:Pos} (hT:T∈ ["tuple","int","bool","list","str"]) (hg:Gl X "isinstance") (hm:X.mg "isinstance" =none) (hg2:Gl X t) (hm2:X.mg t=none) (hv:bootBuiltins t=some (.type T)) (ha:JE X a ta) (hn:t≠ "__name__" :=by decide) (hd:(t==("__debug__" :Str))=false:=by decide) (h1:starEach [a,.Name t p2] X.env=(false,eval a X.env)::starEach [.Name t p2] X.env:=by rfl) (h2:(backTo pos (starEach [.Name t p2] X.env)).any (·.1)=false:=by rfl):JE X (.Call (.Name "isinstance" p) [a,.Name t p2] [] pos) (dIs T ta):=⟨joJ (hT:=hT) (hg:=hg) (hm:=hm) (hg2:=hg2) (hm2:=hm2) (hv:=hv) (ha:=ha.to) (hn:=hn) (hd:=hd) (h1:=h1) (h2:=h2)⟩
section
variable {X:Cx} {o e i:Expr} {to te ti:TED} {apos cpos pos:Pos}
theorem joN (ho:JE X o to) (he:JE X e te) (hbase:attributeBase o "append" X.env (eval o X.env)=eval o X.env:=by rfl) (hfew:((backTo cpos (starEach [e] X.env)).all (λx=> !x.1)&&(backToKw cpos (keywordEach [] X.env)).all (λx=>x.1.isSome)&&decide ([e].length+([]:List Keyword).length+(if ([]:List Keyword).isEmpty then 0 else 1)<30))=true:=by rfl) (hline:(apos.endLine==cpos.line)=true:=by rfl) (hs:starEach [e] X.env=(false,eval e X.env)::starEach [] X.env:=by rfl) (hplain:(backTo cpos (starEach [] X.env)).any (·.1)=false:=by rfl):JE X (.Call (.Attribute o "append" apos) [e] [] cpos) (jez to te):=⟨jpN (ho:=ho.to) (he:=he.to) (hbase:=hbase) (hfew:=hfew) (hline:=hline) (hs:=hs) (hplain:=hplain)⟩
theorem jkA (ho:JE X o to) (hi:JE X i ti) (ha: ∀v,assign (.Subscript o i pos) X.env v=(do
 let ov <-holding [v] (eval o X.env)
 let iv <-holding [v,ov] (eval i X.env)
 standAt pos
 holding [v,ov,iv] (setItem ov iv v)
 release [v,ov,iv] []):=by intro _;rfl):JG X (.Subscript o i pos) (jbH to ti):=⟨jnp (ho:=ho.to) (hi:=hi.to) (ha:=ha)⟩
end
theorem jpt {X:Cx} {e:Expr} {t:TTD} (h:JW X e t):JT X e t:=⟨qpt (h:=h.to)⟩
theorem jlH {X:Cx}:JO X none jaz:=⟨jlz⟩
theorem jgG {X:Cx} {e:Expr} {te:TED} (he:JE X e te):JO X (some e) (jbI te):=⟨jlA (he:=he.to)⟩
theorem jkB {X:Cx} {e:Expr} {te:TED} {lo hi:Option Expr} {tl th:TOD} {pos p2:Pos} (he:JE X e te) (hl:JO X lo tl) (hu:JO X hi th):JE X (.Subscript e (.Slice lo hi none p2) pos) (dSl te tl th):=⟨jnq (he:=he.to) (hl:=hl.to) (hu:=hu.to)⟩
theorem jpj {X:Cx} {a:Expr} {ta:TED} {pos:Pos} (ha:JE X a ta):JE X (.UnaryOp .USub a pos) (dUn jeB ta):=⟨jpP (ha:=ha.to)⟩
theorem jcw {X:Cx} {tg e:Expr} {te:TED} (he:JE X e te):JI X tg e (iS te):=⟨jnu (he:=he.to)⟩
theorem jiy {X:Cx} {st:Stmt}:JS X st jaX:=⟨jnv⟩
theorem jac {X:Cx} {e:Expr} {es:List Expr} {te:TED} {t:TAD} (ha:JE X e te) (hr:JA X es t) (h:jgz e=true:=by rfl):JA X (e::es) (ja1 te t):=⟨qac (ha:=ha.to) (hr:=hr.to) (h:=h)⟩
section
variable {X:Cx} {o e i:Expr} {to te ti:TED} {apos cpos:Pos}
theorem jpV (ho:JE X o to) (he:JE X e te) (hbase:attributeBase o "index" X.env (eval o X.env)=eval o X.env:=by rfl) (hfew:((backTo cpos (starEach [e] X.env)).all (λx=> !x.1)&&(backToKw cpos (keywordEach [] X.env)).all (λx=>x.1.isSome)&&decide ([e].length+([]:List Keyword).length+(if ([]:List Keyword).isEmpty then 0 else 1)<30))=true:=by rfl) (hline:(apos.endLine==cpos.line)=true:=by rfl) (hs:starEach [e] X.env=(false,eval e X.env)::starEach [] X.env:=by rfl) (hplain:(backTo cpos (starEach [] X.env)).any (·.1)=false:=by rfl):JE X (.Call (.Attribute o "index" apos) [e] [] cpos) (jeF to te):=⟨jpQ (ho:=ho.to) (he:=he.to) (hbase:=hbase) (hfew:=hfew) (hline:=hline) (hs:=hs) (hplain:=hplain)⟩
theorem jpW (ho:JE X o to) (hi:JE X i ti) (he:JE X e te) (hbase:attributeBase o "insert" X.env (eval o X.env)=eval o X.env:=by rfl) (hfew:((backTo cpos (starEach [i,e] X.env)).all (λx=> !x.1)&&(backToKw cpos (keywordEach [] X.env)).all (λx=>x.1.isSome)&&decide ([i,e].length+([]:List Keyword).length+(if ([]:List Keyword).isEmpty then 0 else 1)<30))=true:=by rfl) (hline:(apos.endLine==cpos.line)=true:=by rfl) (hs:starEach [i,e] X.env=(false,eval i X.env)::starEach [e] X.env:=by rfl) (hs2:starEach [e] X.env=(false,eval e X.env)::starEach [] X.env:=by rfl) (hplain:(backTo cpos (starEach [e] X.env)).any (·.1)=false:=by rfl):JE X (.Call (.Attribute o "insert" apos) [i,e] [] cpos) (jeG to ti te):=⟨jpR (ho:=ho.to) (hi:=hi.to) (he:=he.to) (hbase:=hbase) (hfew:=hfew) (hline:=hline) (hs:=hs) (hs2:=hs2) (hplain:=hplain)⟩
end
theorem joO {X:Cx} {a:Expr} {ta:TAD} {p p2 pos pos2:Pos} (hc:X.calm=true) (hg:Gl X "list") (hm:X.mg "list" =none) (hg2:Gl X "range") (hm2:X.mg "range" =none) (ha:JA X [a] ta) (hs:starEach [a] X.env= [(false,eval a X.env)]:=by rfl) (h1:starEach [.Call (.Name "range" p2) [a] [] pos2] X.env=(false,eval (.Call (.Name "range" p2) [a] [] pos2) X.env)::starEach [] X.env:=by rfl) (h2:(backTo pos (starEach [] X.env)).any (·.1)=false:=by rfl):JE X (.Call (.Name "list" p) [.Call (.Name "range" p2) [a] [] pos2] [] pos) (jbJ ta):=⟨joM (hc:=hc) (hg:=hg) (hm:=hm) (hg2:=hg2) (hm2:=hm2) (ha:=ha.to) (hs:=hs) (h1:=h1) (h2:=h2)⟩
section
variable {P:Program} {w:World} {K:PySem.W.Frag} {mg:Str->Option Value} {base:Heap}
theorem Fun.okJ {x qual:Str} {st:Stmt} {f:Addr} {fd:FuncData} {N ps:List Str} {k:Nat} {spd:RDn} (F:Fun K x qual st f fd) (S:FnScope N ps (jad st)) (len: ∀ds h Q,spd ds h Q->ds.length=ps.length)
 (tb:TSD) (hbody: ∀ (cdv:Value) (A:Around) (outer:List Env) (s:Shared) (H:Hp) (E:XK),Room k (A.deeper (envOfC qual (jad st) s.heap.objs.size f cdv))->JSs (jku CX0 P w K mg base N qual (jad st) f cdv A outer s H E).nox (jbj st) tb)
 (read: ∀ds h Q,spd ds h Q->tb (jei Q) (jaK N ds) h):FnOk P w K mg base CX0 (k+1) f fd ps (LSp K spd):=F.okD S len tb (λcdv A outer s H E hr=>(hbody cdv A outer s H E hr).to) read
end
def jc3 (r:List Int):D:= .tup (r.map D.int)
def jah (T:List (List Int)):D:= .tup (T.map jc3)
def jfb (n:Nat) (r:List Int):Prop:=r.length=n/\ ∀x∈r,0<=x/\x<=1000000
def GoodTab (n:Nat) (T:List (List Int)):Prop:=T.length=n/\ ∀r∈T,jfb n r
structure Sq (n e:Nat) (T:List (List Int)):Prop where
 len:T.length=n
 row: ∀r∈T,r.length=n
 nn: ∀r∈T,∀x∈r,0<=x
 bit: ∀r∈T,∀x∈r,x<2^e
theorem GoodTab.sq {n:Nat} {T:List (List Int)} (g:GoodTab n T):Sq n 20 T:=⟨g.1,λr hr=>(g.2 r hr).1,λr hr x hx=>((g.2 r hr).2 x hx).1,λr hr x hx=>Int.lt_of_le_of_lt ((g.2 r hr).2 x hx).2 (by decide)⟩
theorem Sq.mono {n e f:Nat} {T:List (List Int)} (h:Sq n e T) (l:e<=f):Sq n f T:=⟨h.len,h.row,h.nn,λr hr x hx=>Int.lt_of_lt_of_le (h.bit r hr x hx) (by
 have:(2:Nat)^e<=2^f:=G2v (by decide) l
 have h2:((2^e:Nat):Int)<=((2^f:Nat):Int):=by exact_mod_cast this
 simpa using h2)⟩
def ent (T:List (List Int)) (i j:Nat):Int:=(T.getD i []).getD j 0
def mkT (n:Nat) (f:Nat->Nat->Int):List (List Int):=(List.range n).map λi=>(List.range n).map λj=>f i j
theorem ja3 {n i j:Nat} {f:Nat->Nat->Int} (hi:i<n) (hj:j<n):ent (mkT n f) i j=f i j:=by
 unfold ent mkT
 simp [G0n,hi,hj]
theorem jaO {α:Type} (xs:List α) (d:α):xs=(List.range xs.length).map λi=>xs.getD i d:=by
 apply List.ext_getElem (by simp)
 intro i h1 h2
 simp [G0n,h1]
theorem Sq.eq_mk {n e:Nat} {T:List (List Int)} (h:Sq n e T):T=mkT n (ent T):=by
 have h1:=jaO T []
 rw [h.len] at h1
 unfold mkT
 conv=>lhs;rw [h1]
 apply G0N
 intro i hi
 have hi' :i<T.length:=by rw [h.len];exact G0q.mp hi
 have hr:(T.getD i []).length=n:=by
  rw [G0n,G0i hi'];exact h.row _ (G1g hi')
 have h2:=jaO (T.getD i []) 0
 rw [hr] at h2
 exact h2
theorem jdu {n:Nat} {f g:Nat->Nat->Int} (h: ∀i j,i<n->j<n->f i j=g i j):mkT n f=mkT n g:=by
 unfold mkT
 apply G0N
 intro i hi
 apply G0N
 intro j hj
 exact h i j (G0q.mp hi) (G0q.mp hj)
theorem Sq.of_mk {n e:Nat} {f:Nat->Nat->Int} (h0: ∀i j,i<n->j<n->0<=f i j) (h1: ∀i j,i<n->j<n->f i j<2^e):Sq n e (mkT n f):=by
 have key: ∀r∈mkT n f,∃i,i<n/\r=(List.range n).map λj=>f i j:=λr hr=>by
  obtain⟨i,hi,e⟩:=G0K.mp hr;exact⟨i,G0q.mp hi,e.symm⟩
 refine⟨by simp [mkT],λr hr=> ?_,λr hr x hx=> ?_,λr hr x hx=> ?_⟩
 ·obtain⟨i,_,e⟩:=key r hr;rw [e];simp
 ·obtain⟨i,hi,e⟩:=key r hr
  rw [e] at hx
  obtain⟨j,hj,e2⟩:=G0K.mp hx
  rw [<-e2];exact h0 i j hi (G0q.mp hj)
 ·obtain⟨i,hi,e⟩:=key r hr
  rw [e] at hx
  obtain⟨j,hj,e2⟩:=G0K.mp hx
  rw [<-e2];exact h1 i j hi (G0q.mp hj)
theorem Sq.ent_nn {n e:Nat} {T:List (List Int)} (h:Sq n e T) {i j:Nat} (hi:i<n) (hj:j<n):0<=ent T i j/\ent T i j<2^e:=by
 have hi' :i<T.length:=by rw [h.len];exact hi
 have hr:T.getD i []=T[i]:=by rw [G0n,G0i hi'];rfl
 have hm:T[i]∈T:=G1g hi'
 have hj' :j<T[i].length:=by rw [h.row _ hm];exact hj
 have he:ent T i j=T[i][j]:=by unfold ent;rw [hr,List.getD_eq_getElem?_getD,List.getElem?_eq_getElem hj'];rfl
 rw [he]
 exact⟨h.nn _ hm _ (G1g hj'),h.bit _ hm _ (G1g hj')⟩
theorem Sq.ext {n e f:Nat} {T U:List (List Int)} (h:Sq n e T) (g:Sq n f U) (k: ∀i j,i<n->j<n->ent T i j=ent U i j):T=U:=by
 rw [h.eq_mk,g.eq_mk];exact jdu k
def jar (n:Nat) (f:Nat->Int):Int:=((List.range n).map f).sum
theorem jbK (f:Nat->Int):jar 0 f=0:=rfl
theorem jap (n:Nat) (f:Nat->Int):jar (n+1) f=jar n f+f n:=by
 unfold jar;rw [List.range_succ,List.map_append,List.sum_append];simp
theorem jaD {n:Nat} {f g:Nat->Int} (h: ∀k,k<n->f k=g k):jar n f=jar n g:=by
 unfold jar;congr 1;apply List.map_congr_left;intro k hk;exact h k (List.mem_range.mp hk)
theorem jco {n:Nat} {f:Nat->Int} (h: ∀k,k<n->0<=f k):0<=jar n f:=by
 induction n with
 |zero=>exact G3g _
 |succ n ih=>rw [jap];have:=ih λk hk=>h k (by omega);have:=h n (by omega);omega
theorem jdv {n:Nat} {f:Nat->Int} {b:Int} (h: ∀k,k<n->f k<=b):jar n f<=n*b:=by
 induction n with
 |zero=>simp [jbK]
 |succ n ih=>
  rw [jap];have h1:=ih λk hk=>h k (by omega);have h2:=h n (by omega)
  have:((n+1:Nat):Int)*b=(n:Int)*b+b:=by rw [Int.natCast_add,Int.add_mul];simp
  omega
theorem jiz (n:Nat) (f g:Nat->Int):jar n (λk=>f k+g k)=jar n f+jar n g:=by
 induction n with
 |zero=>rfl
 |succ n ih=>rw [jap,jap,jap,ih];omega
theorem jdN (n:Nat) (c:Int) (f:Nat->Int):jar n (λk=>c*f k)=c*jar n f:=by
 induction n with
 |zero=>simp [jbK]
 |succ n ih=>rw [jap,jap,ih,Int.mul_add]
theorem jhC (n:Nat) (c:Int) (f:Nat->Int):jar n (λk=>f k*c)=jar n f*c:=by
 rw [G24,<-jdN];exact jaD λk _=>G24 _ _
theorem jhD (m n:Nat) (f:Nat->Nat->Int):jar m (λi=>jar n (f i))=jar n (λj=>jar m λi=>f i j):=by
 induction m with
 |zero=>
  rw [jbK]
  induction n with
  |zero=>rfl
  |succ n ih=>rw [jap,<-ih,jbK];rfl
 |succ m ih=>
  rw [jap,ih,<-jiz]
  exact jaD λj _=>(jap m λi=>f i j).symm
theorem jfZ {n:Nat} {f:Nat->Int} {i:Nat} (hi:i<n) (h: ∀k,k<n->k≠i->f k=0):jar n f=f i:=by
 induction n with
 |zero=>omega
 |succ n ih=>
  rw [jap]
  by_cases e:i=n
  ·subst e
   have:jar i f=0:=by
    have:jar i f=jar i (λ_=>0*1):=jaD λk hk=>by rw [h k (by omega) (by omega)];rfl
    rw [this,jdN];simp
   omega
  ·rw [ih (by omega) λk hk hne=>h k (by omega) hne,h n (by omega) (by omega)];omega
theorem jiA {n:Nat} {f:Nat->Int} (h: ∀k,k<n->0<=f k):0<jar n f↔ ∃k,k<n/\0<f k:=by
 induction n with
 |zero=>simp [jbK]
 |succ n ih=>
  rw [jap]
  have h1:=jco λk (hk:k<n)=>h k (by omega)
  have h2:=h n (by omega)
  have ih' :=ih λk hk=>h k (by omega)
  constructor
  ·intro z
   by_cases q:0<f n
   ·exact⟨n,by omega,q⟩
   ·obtain⟨k,a,b⟩:=ih'.mp (by omega);exact⟨k,by omega,b⟩
  ·rintro ⟨k,a,b⟩
   by_cases q:k=n
   ·subst q;omega
   ·have:=ih'.mpr ⟨k,by omega,b⟩;omega
def jct (n:Nat) (T U:List (List Int)):List (List Int):=mkT n λi j=>jar n λk=>ent T i k*ent U k j
theorem Sq.mul {n e f:Nat} {T U:List (List Int)} (h:Sq n e T) (g:Sq n f U) (hn:n<=8):Sq n (e+f+3) (jct n T U):=by
 have nn: ∀i j,i<n->j<n-> ∀k,k<n->0<=ent T i k*ent U k j:=λi j hi hj k hk=>Int.mul_nonneg (h.ent_nn hi hk).1 (g.ent_nn hk hj).1
 refine Sq.of_mk (λi j hi hj=>jco (nn i j hi hj)) λi j hi hj=> ?_
 have hle: ∀k,k<n->ent T i k*ent U k j<=2^e*2^f-1:=λk hk=>by
  have a:=h.ent_nn hi hk
  have b:=g.ent_nn hk hj
  have:ent T i k*ent U k j<2^e*2^f:=by
   have p:(0:Int)<2^f:=Int.pow_pos (by decide)
   calc ent T i k*ent U k j<=ent T i k*2^f:=Int.mul_le_mul_of_nonneg_left (Int.le_of_lt b.2) a.1
    _<2^e*2^f:=Int.mul_lt_mul_of_pos_right a.2 p
  omega
 have s:=jdv hle
 have p:(0:Int)<2^e*2^f:=Int.mul_pos (Int.pow_pos (by decide)) (Int.pow_pos (by decide))
 have e1:(2:Int)^(e+f+3)=8*(2^e*2^f):=by rw [Int.pow_add,Int.pow_add];rw [G24];rfl
 rw [e1]
 have hn' :(n:Int)<=8:=by omega
 have:(n:Int)*(2^e*2^f-1)<=8*(2^e*2^f-1):=Int.mul_le_mul_of_nonneg_right hn' (by omega)
 omega
theorem jbn {n i j:Nat} {T U:List (List Int)} (hi:i<n) (hj:j<n):ent (jct n T U) i j=jar n λk=>ent T i k*ent U k j:=ja3 hi hj
def jfz (n:Nat):List (List Int):=mkT n λi j=>if i=j then 1 else 0
theorem Sq.one (n:Nat):Sq n 1 (jfz n):=Sq.of_mk (f:=λi j=>if i=j then 1 else 0) (λi j _ _=>by split<;>decide) λi j _ _=>by split<;>decide
theorem mul_assoc {n e f g:Nat} {T U V:List (List Int)} (hT:Sq n e T) (hU:Sq n f U) (hV:Sq n g V) (hn:n<=8):jct n (jct n T U) V=jct n T (jct n U V):=by
 refine((hT.mul hU hn).mul hV hn).ext (hT.mul (hU.mul hV hn) hn) λi j hi hj=> ?_
 rw [jbn hi hj,jbn hi hj]
 have e1:(jar n λk=>ent (jct n T U) i k*ent V k j)=jar n λk=>jar n λl=>ent T i l*ent U l k*ent V k j:=
  jaD λk hk=>by rw [jbn hi hk,<-jhC]
 have e2:(jar n λl=>ent T i l*ent (jct n U V) l j)=jar n λl=>jar n λk=>ent T i l*(ent U l k*ent V k j):=
  jaD λl hl=>by rw [jbn hl hj,<-jdN]
 rw [e1,e2,jhD]
 exact jaD λl _=>jaD λk _=>Int.mul_assoc _ _ _
theorem jhe {n e:Nat} {T:List (List Int)} (hT:Sq n e T) (hn:n<=8):jct n (jfz n) T=T:=by
 refine((Sq.one n).mul hT hn).ext hT λi j hi hj=> ?_
 rw [jbn hi hj,jfZ hi λk hk hne=>by rw [jfz,ja3 hi hk,if_neg (Ne.symm hne)];simp]
 rw [jfz,ja3 hi hi,if_pos rfl];simp
theorem jjN {n e:Nat} {T:List (List Int)} (hT:Sq n e T) (hn:n<=8):jct n T (jfz n)=T:=by
 refine(hT.mul (Sq.one n) hn).ext hT λi j hi hj=> ?_
 rw [jbn hi hj,jfZ hj λk hk hne=>by rw [jfz,ja3 hk hj,if_neg hne];simp]
 rw [jfz,ja3 hj hj,if_pos rfl];simp
def jba (n:Nat) (T:List (List Int)):Nat->List (List Int)
 |0=>jfz n
 |k+1=>jct n (jba n T k) T
theorem Sq.pow {n e:Nat} {T:List (List Int)} (hT:Sq n e T) (hn:n<=8): ∀k,Sq n (k*(e+3)+1) (jba n T k)
 |0=>(Sq.one n).mono (by omega)
 |k+1=>((Sq.pow hT hn k).mul hT hn).mono (by rw [Nat.succ_mul];omega)
def jbL (n:Nat) (T:List (List Int)):List (List Int):=mkT n λi j=>ent T j i
def jai (n:Nat) (T:List (List Int)):List (List Int):=mkT n λi j=>if ent T i j=0 then 0 else 1
def jdo (n:Nat) (o:List Nat) (T:List (List Int)):List (List Int):=mkT n λi j=>ent T (o.idxOf i) (o.idxOf j)
theorem Sq.turn {n e:Nat} {T:List (List Int)} (h:Sq n e T):Sq n e (jbL n T):=Sq.of_mk (λi j hi hj=>(h.ent_nn hj hi).1) λi j hi hj=>(h.ent_nn hj hi).2
theorem Sq.mark {n:Nat} (T:List (List Int)):Sq n 1 (jai n T):=Sq.of_mk (f:=λi j=>if ent T i j=0 then 0 else 1) (λi j _ _=>by split<;>decide) λi j _ _=>by split<;>decide
structure Ord (n:Nat) (o:List Nat):Prop where
 len:o.length=n
 all: ∀i,i<n->i∈o
theorem Ord.lt {n:Nat} {o:List Nat} (h:Ord n o) {i:Nat} (hi:i<n):o.idxOf i<n:=by rw [<-h.len];exact G1G.mpr (h.all i hi)
theorem Sq.ren {n e:Nat} {T:List (List Int)} {o:List Nat} (h:Sq n e T) (ho:Ord n o):Sq n e (jdo n o T):=Sq.of_mk (λi j hi hj=>(h.ent_nn (ho.lt hi) (ho.lt hj)).1) λi j hi hj=>(h.ent_nn (ho.lt hi) (ho.lt hj)).2
def MulOk (i j:Int):Prop:= ∃m n:Nat,i.natAbs<2^m/\j.natAbs<2^n/\m+n<=134217728
theorem MulOk.ok {i j:Int} (h:MulOk i j):IntMulOk i j:=by
 obtain⟨m,n,a,b,c⟩:=h
 exact .of_le (PySem.intBits_le_iff.mpr a) (PySem.intBits_le_iff.mpr b) c
theorem jlI {X:Cx}:OpR X (binaryOp .Mult) (rI MulOk λi j=> .int (i*j)):=opI λ_ _ _ _ _ _ _ hc q=>mul_int q hc.ok
def jfc:RD2:=λx y h Q=>match x,y with
 | .int i,.int j=>MulOk i j/\Q (.int (i*j)) h
 |_,_=>False
theorem jlJ {X:Cx}:OpQ X (binaryOp .Mult) jfc:=je4 (gd:=λi j=> .int (i*j)) jlI (λ_ _ _=>rfl) λx y h Q q=>by
 cases x<;>cases y<;>first|exact False.elim q|exact⟨_,_,rfl,rfl,q.1,q.2⟩
theorem jdO {x:Int} {e:Nat} (h0:0<=x) (h1:x<2^e):x.natAbs<2^e:=by
 have:((2^e:Nat):Int)=2^e:=by simp
 omega
theorem jjO {x y:Int} {e f:Nat} (hx:0<=x/\x<2^e) (hy:0<=y/\y<2^f) (h:e+f<=134217728):MulOk x y:=⟨e,f,jdO hx.1 hx.2,jdO hy.1 hy.2,h⟩
section
variable {α β:Type} {i i' :Nat} {js:List Nat} {ti ti' :TID} {te:TED} {σ:SD} {h:HD} {Q:KD} {j:ItD}
theorem lcA (xs:List α) (c g:α->D) (hz:xs.length<=1000) (hj:j h=some (xs.map c)) (ht: ∀R:ItD->HD->Prop,R j h->ti σ h R)
 (he: ∀x∈xs,∀Q' :KD,Q' (g x) h->te ((jbD js σ).set i (some (c x))) h Q') (hq: ∀p,h p=none->Q (.lst p) (jbs h p (xs.map g))):jfN (bN i) js ti jeY te σ h Q:=by
 refine ht _ ⟨xs.length,λk ys h' =>h' =h/\ys=(xs.take k).map g,⟨rfl,by simp⟩,?_⟩
 rintro k ys h' ⟨rfl,rfl⟩
 refine⟨by simp only [G0a,G03];exact G0X (jbk (by omega)),xs.map c,hj,by simp,λhl p hp=> ?_,λd hd=>⟨_,rfl,?_⟩⟩
 ·rw [G1s (by simpa using hl)];exact hq p hp
 ·unfold jeY
  dsimp only
  rw [if_pos rfl]
  rw [G0o] at hd
  cases hx:xs[k]? with
  |none=>rw [hx] at hd;cases hd
  |some x=>
   rw [hx] at hd;cases hd
   refine he x (G0W hx) _ ⟨h',Sub.refl _,rfl,?_⟩
   rw [G2j,hx]
   simp
theorem jkC (xs:List α) (c g:α->D) (hz:xs.length<=1000) (hj:j h=some (xs.map c)) (ht: ∀R:ItD->HD->Prop,R j h->ti σ h R)
 (he: ∀x∈xs,∀Q' :KD,Q' (g x) h->te ((jbD js σ).set i (some (c x))) h Q') (hq:Q (.tup (xs.map g)) h):dCB jaQ (ja1 (jfN (bN i) js ti jeY te) jc2) σ h Q:=by
 show jfN (bN i) js ti jeY te σ h (λx h1=>jaQ [x] h1 Q)
 exact lcA xs c g hz hj ht he λp hp=>(show ∃ys,jbs h p (xs.map g) p=some ys/\Q (.tup ys) (jeX (jbs h p (xs.map g)) p) from ⟨_,jab,by rw [jbC hp];exact hq⟩)
theorem jpX (xs:List α) (c:α->D) (g:α->Int) (hz:xs.length<=1000) (hj:j h=some (xs.map c)) (ht: ∀R:ItD->HD->Prop,R j h->ti σ h R)
 (he: ∀x∈xs,∀Q' :KD,Q' (.int (g x)) h->te ((jbD js σ).set i (some (c x))) h Q') (hq:Q (.int (xs.map g).sum) h):dCB jej (ja1 (jfN (bN i) js ti jeY te) jc2) σ h Q:=by
 show jfN (bN i) js ti jeY te σ h (λx h1=>jej [x] h1 Q)
 exact lcA xs c (λx=> .int (g x)) hz hj ht he λp hp=>⟨p,xs.map g,rfl,by rw [jab,G0L];rfl,by rw [jbC hp];exact hq⟩
theorem jpk (xs:List α) (c:α->D) (g:α->Bool) (hz:xs.length<=1000) (hj:j h=some (xs.map c)) (ht: ∀R:ItD->HD->Prop,R j h->ti σ h R)
 (he: ∀x∈xs,∀Q' :KD,Q' (.bl (g x)) h->te ((jbD js σ).set i (some (c x))) h Q') (hq:Q (.bl (xs.all g)) h):dCB jno (ja1 (jfN (bN i) js ti jeY te) jc2) σ h Q:=by
 show jfN (bN i) js ti jeY te σ h (λx h1=>jno [x] h1 Q)
 exact lcA xs c (λx=> .bl (g x)) hz hj ht he λp hp=>⟨p,xs.map g,rfl,by rw [jab,G0L];rfl,by rw [jbC hp,G12];exact hq⟩
end
end L2
namespace L2
open PySem PySem.Spec PyProof.Rows PySem.SeqAt
def jgs (o:List Nat):D:= .tup (o.map λ(k:Nat)=>D.int (k:Int))
def Ordr (n:Nat) (o:List Nat):Prop:=o.Perm (List.range n)
theorem Ordr.ord {n:Nat} {o:List Nat} (h:Ordr n o):Ord n o:=⟨by rw [h.length_eq,G0h],λi hi=>h.mem_iff.mpr (G0q.mpr hi)⟩
def ja9 (o:List Nat):List Int:=o.map λ(k:Nat)=>(k:Int)
theorem jgH (o:List Nat):jgs o= .tup ((ja9 o).map D.int):=by unfold jgs ja9;rw [List.map_map];rfl
theorem jjP (o:List Nat) (i:Nat):(ja9 o).idxOf (i:Int)=o.idxOf i:=by
 induction o with
 |nil=>rfl
 |cons a o ih=>
  show ((a:Int)::ja9 o).idxOf (i:Int)=_
  rw [List.idxOf_cons,List.idxOf_cons,ih]
  by_cases e:a=i
  ·subst e;simp
  ·have e1:(a==i)=false:=by simpa using e
   have e2:((a:Int)==(i:Int))=false:=by simp;omega
   rw [e1,e2]
theorem jjQ {o:List Nat} {i:Nat} (h:i∈o):(i:Int)∈ja9 o:=G0K.mpr ⟨i,h,rfl⟩
theorem jf0: ∀n:Nat,(ja9 (List.range n)).Pairwise (· <= ·):=λn=>by
 unfold ja9
 rw [G08]
 exact List.pairwise_le_range.imp λh=>by omega
theorem Ordr.insert {n:Nat} {o:List Nat} (h:Ordr n o) (k:Nat):Ordr (n+1) (o.take k++n::o.drop k):=by
 unfold Ordr
 rw [G2b]
 refine List.perm_middle.trans ?_
 rw [List.take_append_drop]
 exact(List.Perm.cons n h).trans (List.perm_append_singleton n _).symm
theorem jbM (h:HD): ∀ns:List Int,ToPs h (ns.map D.int) (ns.map PyData.int)
 | []=>rfl
 |n::ns=>⟨_,_,rfl,rfl,jbM h ns⟩
theorem jbV: ∀ns:List Int,PyData.canLayAll0 (ns.map PyData.int)=true
 | []=>rfl
 |n::ns=>by show (PyData.canLay0 (.int n)&&_)=true;rw [jbV ns];rfl
theorem jcC: ∀ns:List Int,PyData.eqvAll (ns.map PyData.int) (ns.map PyData.int)=true
 | []=>rfl
 |n::ns=>by show ((n==n)&&PyData.eqvAll _ _)=true;rw [jcC ns];simp
theorem jcp: ∀ns:List Int,PyData.depthAll (ns.map PyData.int)<=1
 | []=>by simp [PyData.depthAll]
 |n::ns=>by
  have:=jcp ns
  simp only [G0v,PyData.depthAll,PyData.depth];omega
theorem jbW (ns:List Int):shaped (.list (ns.map .int))=true:=by
 unfold shaped
 have h1:PyData.canLay0 (.list (ns.map .int))=true:=by simp only [PyData.canLay0];exact jbV ns
 have h2:=jcp ns
 have h3:PyData.depth (.list (ns.map .int))<=64:=by simp only [PyData.depth];omega
 rw [h1,G0r h3];rfl
def jcM (r:List Int):PyData:= .tuple (r.map .int)
def jdp (T:List (List Int)):PyData:= .tuple (T.map jcM)
theorem jf1 (h:HD): ∀T:List (List Int),ToPs h (T.map jc3) (T.map jcM)
 | []=>rfl
 |r::T=>⟨_,_,rfl,⟨_,rfl,jbM h r⟩,jf1 h T⟩
theorem jbX (h:HD) (T:List (List Int)):ToP h (jah T) (jdp T):=⟨_,rfl,jf1 h T⟩
theorem jbY: ∀T:List (List Int),PyData.canLayAll0 (T.map jcM)=true
 | []=>rfl
 |r::T=>by
  show (PyData.canLay0 (jcM r)&&_)=true
  rw [jbY T]
  have:PyData.canLay0 (jcM r)=true:=by unfold jcM;simp only [PyData.canLay0];exact jbV r
  rw [this];rfl
theorem jbN: ∀T:List (List Int),PyData.depthAll (T.map jcM)<=3
 | []=>by simp [PyData.depthAll]
 |r::T=>by
  have:=jbN T
  have h2:=jcp r
  simp only [G0v,PyData.depthAll,PyData.depth,jcM];omega
theorem jaY (T:List (List Int)):shaped (jdp T)=true:=by
 unfold shaped
 have h1:PyData.canLay0 (jdp T)=true:=by unfold jdp;simp only [PyData.canLay0];exact jbY T
 have h2:=jbN T
 have h3:PyData.depth (jdp T)<=64:=by unfold jdp;simp only [PyData.depth];omega
 rw [h1,G0r h3];rfl
theorem jdP: ∀T:List (List Int),PyData.eqvAll (T.map jcM) (T.map jcM)=true
 | []=>rfl
 |r::T=>by show (PyData.eqvAll (r.map .int) (r.map .int)&&PyData.eqvAll _ _)=true;rw [jdP T,jcC r];rfl
theorem jgI (T:List (List Int)):PyData.eqv (jdp T) (jdp T)=true:=jdP T
theorem jiB {n e:Nat} {T:List (List Int)} (h:Sq n e T) {i:Nat} (hi:i<n):atI (T.map jc3) (i:Int)=some (jc3 (T.getD i [])):=by
 have hi' :i<T.length:=by rw [h.len];exact hi
 exact jb7 (by rw [G0o,G0n,G0i hi'];rfl)
theorem Sq.getRow {n e:Nat} {T:List (List Int)} (h:Sq n e T) {i:Nat} (hi:i<n):T.getD i []∈T:=by
 have hi' :i<T.length:=by rw [h.len];exact hi
 rw [G0n,G0i hi'];exact G1g hi'
theorem jfd {n:Nat} {r:List Int} (h:r.length=n) {j:Nat} (hj:j<n):atI (r.map D.int) (j:Int)=some (.int (r.getD j 0)):=by
 have hj' :j<r.length:=by rw [h];exact hj
 exact jb7 (by rw [G0o,G0n,G0i hj'];rfl)
theorem jkD (n:Nat) (f:Nat->Nat->Int):D.tup ((List.range n).map λi=>D.tup ((List.range n).map λj=>D.int (f i j)))=jah (mkT n f):=by
 unfold jah jc3 mkT
 rw [G0L]
 congr 1
 apply G0N
 intro i _
 simp [G0L,G2l]
theorem jlK (T:List (List Int)) (f:Int->Int):D.tup (T.map λr=>D.tup (r.map λx=>D.int (f x)))=jah (T.map λr=>r.map f):=by
 unfold jah jc3
 rw [G0L]
 congr 1
 apply G0N
 intro r _
 simp [G0L,G2l]
theorem jlL {n e:Nat} {T:List (List Int)} (h:Sq n e T):jai n T=T.map λr=>r.map λx=>if x≠0 then 1 else 0:=by
 conv=>rhs;rw [h.eq_mk]
 unfold jai mkT
 rw [G0L]
 apply G0N
 intro i _
 simp only [G1j,G0L]
 apply G0N
 intro j _
 simp only [G1j]
 by_cases z:ent T i j=0
 ·rw [if_pos z,if_neg (by simpa using z)]
 ·rw [if_neg z,if_pos z]
theorem jjR {n e:Nat} {T U:List (List Int)} (h:Sq n e T):(T.map λr=>D.tup ((List.range n).map λj=>D.int (jar n λm=>r.getD m 0*ent U m j)))=(jct n T U).map jc3:=by
 conv=>lhs;rw [jaO T [],h.len]
 unfold jct mkT
 rw [G0L,G0L]
 apply G0N
 intro i _
 simp only [G1j,jc3,G0L]
 rfl
theorem pow_add {n e:Nat} {T:List (List Int)} (h:Sq n e T) (hn:n<=8) (a:Nat): ∀b,jba n T (a+b)=jct n (jba n T a) (jba n T b)
 |0=>by rw [show jba n T 0=jfz n from rfl,jjN (h.pow hn a) hn];rfl
 |b+1=>by
  show jct n (jba n T (a+b)) T=jct n (jba n T a) (jct n (jba n T b) T)
  rw [pow_add h hn a b,mul_assoc (h.pow hn a) (h.pow hn b) h hn]
theorem jlM {n e:Nat} {T:List (List Int)} (h:Sq n e T) (hn:n<=8):jba n T 1=T:=jhe h hn
theorem jiC {n e:Nat} {T:List (List Int)} (h:Sq n e T) (hn:n<=8) (b:Nat):jba n T (b+1)=jct n T (jba n T b):=by
 rw [G3p,pow_add h hn,jlM h hn]
theorem jcq {n i j:Nat} {T:List (List Int)} (hi:i<n) (hj:j<n):ent (jbL n T) i j=ent T j i:=ja3 hi hj
theorem jf2 {n e:Nat} {T:List (List Int)} (h:Sq n e T):jbL n (jbL n T)=T:=
 h.turn.turn.ext h λi j hi hj=>by rw [jcq hi hj,jcq hj hi]
theorem jjS {n e f:Nat} {T U:List (List Int)} (h:Sq n e T) (g:Sq n f U) (hn:n<=8):jbL n (jct n T U)=jct n (jbL n U) (jbL n T):=
 (h.mul g hn).turn.ext (g.turn.mul h.turn hn) λi j hi hj=>by
  rw [jcq hi hj,jbn hj hi,jbn hi hj]
  exact jaD λk hk=>by rw [jcq hi hk,jcq hk hj,G24]
theorem jjT (n:Nat):jbL n (jfz n)=jfz n:=
 (Sq.one n).turn.ext (Sq.one n) λi j hi hj=>by
  rw [jcq hi hj,jfz,ja3 hj hi,ja3 hi hj]
  by_cases e:i=j
  ·rw [if_pos e,if_pos e.symm]
  ·rw [if_neg e,if_neg (λz=>e z.symm)]
theorem jhf {n e:Nat} {T:List (List Int)} (h:Sq n e T) (hn:n<=8): ∀k,jbL n (jba n T k)=jba n (jbL n T) k
 |0=>jjT n
 |k+1=>by
  rw [jiC h hn,jjS h (h.pow hn k) hn,jhf h hn k];rfl
theorem jjU {a b:List Int} (h:a.Perm b):a.sum=b.sum:=by
 induction h with
 |nil=>rfl
 |cons x _ ih=>simp [ih]
 |swap x y l=>simp;omega
 |trans _ _ i1 i2=>rw [i1,i2]
theorem Ordr.nodup {n:Nat} {o:List Nat} (h:Ordr n o):o.Nodup:=h.symm.nodup G2t
theorem jiD {n:Nat} {o:List Nat} (h:Ordr n o) (f:Nat->Int):jar n (λm=>f (o.idxOf m))=jar n f:=by
 unfold jar
 have h1:((List.range n).map λm=>f (o.idxOf m)).sum=(o.map λm=>f (o.idxOf m)).sum:=jjU (h.symm.map _)
 have hl:=h.ord.len
 have h2:(o.map λm=>f (o.idxOf m))=(List.range n).map f:=by
  apply List.ext_getElem (by simp [hl])
  intro i a b
  simp only [List.getElem_map,G1n]
  rw [h.nodup.idxOf_getElem]
 rw [h1,h2]
theorem jfe {n i j:Nat} {o:List Nat} {T:List (List Int)} (hi:i<n) (hj:j<n):ent (jdo n o T) i j=ent T (o.idxOf i) (o.idxOf j):=ja3 hi hj
theorem jlN {n e f : Nat} {o : List Nat} {T U : List (List Int)} (h : Sq n e T) (g : Sq n f U) (ho : Ordr n o) (hn : n ≤ 8) : jdo n o (jct n T U) = jct n (jdo n o T) (jdo n o U) :=
  ((h.mul g hn).ren ho.ord).ext ((h.ren ho.ord).mul (g.ren ho.ord) hn) fun i j hi hj => by
    rw [jfe hi hj, jbn (ho.ord.lt hi) (ho.ord.lt hj), jbn hi hj, ← jiD ho]
    exact jaD fun k hk => by rw [jfe hi hk, jfe hk hj]
theorem jlO {n:Nat} {o:List Nat} (ho:Ordr n o) {i j:Nat} (hi:i<n) (hj:j<n) (e:o.idxOf i=o.idxOf j):i=j:=by
 have a:o.idxOf i<o.length:=by rw [ho.ord.len];exact ho.ord.lt hi
 have b:o.idxOf j<o.length:=by rw [ho.ord.len];exact ho.ord.lt hj
 have c:=G2a a
 have d:=G2a b
 rw [<-c,<-d]
 simp only [e]
theorem jlP {n : Nat} {o : List Nat} (ho : Ordr n o) : jdo n o (jfz n) = jfz n :=
  ((Sq.one n).ren ho.ord).ext (Sq.one n) fun i j hi hj => by
    rw [jfe hi hj, jfz, ja3 (ho.ord.lt hi) (ho.ord.lt hj), ja3 hi hj]
    by_cases e : i = j
    · rw [if_pos e, if_pos (by rw [e])]
    · rw [if_neg e, if_neg (fun z => e (jlO ho hi hj z))]
theorem jiE {n e:Nat} {o:List Nat} {T:List (List Int)} (h:Sq n e T) (ho:Ordr n o) (hn:n<=8): ∀k,jdo n o (jba n T k)=jba n (jdo n o T) k
 |0=>jlP ho
 |k+1=>by
  show jdo n o (jct n (jba n T k) T)=jct n (jba n (jdo n o T) k) (jdo n o T)
  rw [jlN (h.pow hn k) h ho hn,jiE h ho hn k]
theorem jff {n i j:Nat} {T:List (List Int)} (hi:i<n) (hj:j<n):ent (jai n T) i j=if ent T i j=0 then 0 else 1:=ja3 hi hj
theorem jhg {n:Nat} {T U:List (List Int)} (h: ∀i j,i<n->j<n->(ent T i j=0↔ent U i j=0)):jai n T=jai n U:=jdu λi j hi hj=>by
 by_cases z:ent T i j=0
 ·rw [if_pos z,if_pos ((h i j hi hj).mp z)]
 ·rw [if_neg z,if_neg (λw=>z ((h i j hi hj).mpr w))]
theorem jb9 {n i j:Nat} {T:List (List Int)} (hi:i<n) (hj:j<n):ent (jai n T) i j=0↔ent T i j=0:=by
 rw [jff hi hj]
 by_cases z:ent T i j=0
 ·rw [if_pos z];simp [z]
 ·rw [if_neg z];simp [z]
theorem jf3 {n:Nat} (T:List (List Int)):jai n (jai n T)=jai n T:=jhg λi j hi hj=>jb9 hi hj
theorem jca {n e f i j:Nat} {T U:List (List Int)} (h:Sq n e T) (g:Sq n f U) (hi:i<n) (hj:j<n):ent (jct n T U) i j≠0↔ ∃k,k<n/\ent T i k≠0/\ent U k j≠0:=by
 rw [jbn hi hj]
 have nn: ∀k,k<n->0<=ent T i k*ent U k j:=λk hk=>Int.mul_nonneg (h.ent_nn hi hk).1 (g.ent_nn hk hj).1
 have s:=jco nn
 have p:=jiA nn
 constructor
 ·intro z
  obtain⟨k,hk,w⟩:=p.mp (by omega)
  refine⟨k,hk,λq=> ?_,λq=> ?_⟩
  ·rw [q] at w;simp at w
  ·rw [q] at w;simp at w
 ·rintro ⟨k,hk,a,b⟩ z
  have c:=(h.ent_nn hi hk).1
  have d:=(g.ent_nn hk hj).1
  have:0<ent T i k*ent U k j:=Int.mul_pos (by omega) (by omega)
  have:=p.mpr ⟨k,hk,this⟩
  omega
theorem jdw {n e f:Nat} {T U:List (List Int)} (h:Sq n e T) (g:Sq n f U):jai n (jct n T U)=jai n (jct n (jai n T) (jai n U)):=
 jhg λi j hi hj=>by
  have a:=jca h g hi hj
  have b:=jca (Sq.mark (n:=n) T) (Sq.mark (n:=n) U) hi hj
  have c:(∃k,k<n/\ent T i k≠0/\ent U k j≠0)↔ ∃k,k<n/\ent (jai n T) i k≠0/\ent (jai n U) k j≠0:=
   ⟨λ⟨k,hk,x,y⟩=>⟨k,hk,λz=>x ((jb9 hi hk).mp z),λz=>y ((jb9 hk hj).mp z)⟩,λ⟨k,hk,x,y⟩=>⟨k,hk,λz=>x ((jb9 hi hk).mpr z),λz=>y ((jb9 hk hj).mpr z)⟩⟩
  exact⟨λz=>G1Y λw=>(a.mpr (c.mpr (b.mp w))) z,λz=>G1Y λw=>(b.mpr (c.mp (a.mp w))) z⟩
theorem jnE {A B:List (List Int)} {h:HD} {Q:KD} (e:A=B) (q:Q (.bl false) h):neE (jah A) (jah B) h Q:=by
 subst e
 exact⟨_,_,jbX _ _,jbX _ _,jaY _,jaY _,by rw [jgI];exact q⟩
theorem jnF {A B:List (List Int)} {h:HD} {Q:KD} (e:A=B) (q:Q (.bl true) h):eqE (jah A) (jah B) h Q:=by
 subst e
 exact⟨_,_,jbX _ _,jbX _ _,jaY _,jaY _,by rw [jgI];exact q⟩
section
variable {prog:Program} {w:World} {A:Around} {E:Value->Shared->Prop} {s:Shared}
theorem jiF {it t:Addr} {i n:Nat} {items:Array Value} {d1 d2:Option Addr} {s1 s2:Array (Option Value)} {P:PySem.Fin->Shared->Prop} (a1:s.heap.get? it=some {cls:= .type "tuple_iterator",dict:=d1,data:= .fields #[.ref t,.int i 0],slots:=s1}) (a2:s.heap.get? t=some {cls:= .type "tuple",dict:=d2,data:= .seq items n,slots:=s2})
 (more: ∀x h',items[i]? =some x->h'.IsTupleIter it t (i+1)->Heap.SameBut it s.heap h' ->P (.done (.ret x)) {s with heap:=h'})
 (none_:items[i]? =none->wpAny (model prog w) A (do setField (.ref it) 0 .none;Builtin.SmallTypes.stopIteration) P E s):wpAny (model prog w) A (Builtin.«tuple_iterator.__next__» ⟨[.ref it],[]⟩) P E s:=by
 obtain⟨hp,g,d,tk,os⟩:=s
 wp_walk
 rw [Int.toNat_natCast]
 cases hx:items[i]? with
 |none=>exact wpAny_bind (G29 (none_ hx))
 |some x=>
  refine wpAny_bind (wpAny_setField a1 rfl (by simp) (G0c (more x _ hx ⟨_,G07 _ a1 ?_,rfl,?_⟩ (G1k ..))))
  ·rfl
  ·simp [Obj.mapFields,rawInt]
theorem jgJ {Q:PySem.Fin->Shared->Prop} (hh:A.handled=none) (hE: ∀h' e,(∀b o,s.heap.get? b=some o->h'.get? b=some o)->(∃o,h'.get? e=some o/\o.cls= .type "StopIteration")->E (.ref e) {s with heap:=h'}):wpAny (model prog w) A Builtin.SmallTypes.stopIteration Q E s:=by
 obtain⟨hp,g,d,tk,os⟩:=s
 unfold Builtin.SmallTypes.stopIteration
 wp_walk
 unfold raiseNew
 refine wpAny_bind (wpAny_handled ?_)
 rw [hh]
 exact wpAny_bind (G0c (wpAny_throw (hE _ _ (λb o q=>G0b _ (G0b _ q)) ⟨_,G0m _ rfl,rfl⟩)))
theorem jeH {it t:Addr} {i:Nat} {items:Array Value} {x:Value} {Q:Value->Shared->Prop} (hit:s.heap.IsTupleIter it t i) (ht:s.heap.IsTuple t items) (hx:items[i]? =some x)
 (hQ: ∀h',h'.IsTupleIter it t (i+1)->Heap.SameBut it s.heap h' ->Q x {s with heap:=h'}):wpAny (model prog w) A (Builtin.SmallTypes.nextOf (.ref it)) Q E s:=by
 obtain⟨⟨c,d1,dt,s1⟩,ho,rfl,rfl⟩:=id hit
 obtain⟨⟨c2,d2,dt2,s2⟩,hol,rfl,nl,rfl⟩:=ht
 exact wpAny_bind (G0Z hit.typeIs G1t (G0Y G1t hit.typeIs G2D (jiF ho hol (λy h' e b1 b2=>⟨y,rfl,G0c (by rw [hx] at e;cases e;exact hQ h' b1 b2)⟩) λe=>by rw [hx] at e;cases e) (G2y _)))
theorem jcx {it t:Addr} {i:Nat} {items:Array Value} {Q:Value->Shared->Prop} (hh:A.handled=none) (hit:s.heap.IsTupleIter it t i) (ht:s.heap.IsTuple t items) (hx:items[i]? =none)
 (hE: ∀h' e,Heap.ExtBut it s.heap h' ->(∃o,h'.get? e=some o/\o.cls= .type "StopIteration")->E (.ref e) {s with heap:=h'}):wpAny (model prog w) A (Builtin.SmallTypes.nextOf (.ref it)) Q E s:=by
 obtain⟨⟨c,d1,dt,s1⟩,ho,rfl,rfl⟩:=id hit
 obtain⟨⟨c2,d2,dt2,s2⟩,hol,rfl,nl,rfl⟩:=ht
 refine wpAny_bind (G0Z hit.typeIs G1t (G0Y G1t hit.typeIs G2D (jiF ho hol (λy h' e b1 b2=>by rw [hx] at e;cases e) λ_=>wpAny_bind (wpAny_setField ho rfl (by simp) ?_)) (G2y _)))
 exact jgJ (s:= {s with heap:=_}) hh λh' e grown stop=>hE h' e (λb o ne q=>grown b o ((G1k ..).extBut b o ne q)) stop
end
set_option maxHeartbeats 1000000 in
section
variable {X:Cx} {pins:List (Addr×Obj)} {σ:List (Option V)} {H:Hp} {s:Shared} {h' :Heap}
theorem Inv.turnL {t' :Nat} {ch:List Addr} (I:Inv X pins σ H s) (k: ∀b o,b ∉ ch->s.heap.get? b=some o->h'.get? b=some o) (hc: ∀b∈ch,jhZ X pins H b):Inv X pins σ H {s with heap:=h',toks:=t'}:=by
 refine I.step (g' :=s.gens) (d' :=s.drawn) (ch:=ch) (λb hb=>let ⟨_,f1,_,f3,f4,f5⟩:=hc b hb;⟨f3,f1,f4,f5⟩) (λb o _ _ nb e _=>k b o nb e) (λb o _ _ nb e _=>⟨o.slots,k b o nb e⟩) (λ_ _ _ _ n=>n)
  (λb o nb e=>⟨o,k b o nb e⟩) (λ_ _ e=>e) (λ_ _ _ e=>e) (λb ps e=>⟨#[],by rw [e];simp⟩) (λm hm=> ?_) (λb u e=> ?_) I.bare
 ·obtain⟨o,es,ep,ho,r⟩:=hm
  exact⟨o,es,ep,k _ o (λz=>(hc _ z).2.1 rfl) ho,r⟩
 ·refine(I.hok b u e).stay (λc v hb q=>k c v (λz=> ?_) q) (λ_ q=>q) λ_ _ q=>q
  have f:=(hc c z).1
  rcases hb with w|w
  ·rw [w,e] at f;cases f
  ·rw [w] at f;cases f
theorem Inv.turnLaid {t' :Nat} {ch:List Addr} {a:Addr} {o:HO} (I:Inv X pins σ H s) (k: ∀b u,b ∉ ch->s.heap.get? b=some u->h'.get? b=some u) (hc: ∀b∈ch,jhZ X pins H b) (hp:s.heap.objs.size<=a)
 (new:ObjOk X.prog X.w (upd H a o) h' a o):Inv X pins σ (upd H a o) {s with heap:=h',toks:=t'}:=by
 have hn:=I.hok.fresh hp
 refine I.step (g' :=s.gens) (d' :=s.drawn) (ch:=ch) (λb hb=>let ⟨_,f1,_,f3,f4,f5⟩:=hc b hb;⟨f3,f1,f4,f5⟩) (λb u _ _ nb e _=>k b u nb e) (λb u _ _ nb e _=>⟨u.slots,k b u nb e⟩)
  (λb u _ e n=>by rw [jal (G0G (G0A (G0k e) hp))];exact n) (λb u nb e=>⟨u,k b u nb e⟩) (λb xs q=>by rw [jal (jag q hn)];exact q) (λb u xs q=>by rw [jal (jag q hn)];exact q)
  (λb ps q=>⟨#[],by rw [jal (jag q hn),q];simp⟩) (λm hm=> ?_) (λb u e=> ?_) I.bare
 ·obtain⟨u,es,ep,ho,r⟩:=hm
  exact⟨u,es,ep,k _ u (λz=>(hc _ z).2.1 rfl) ho,r⟩
 ·by_cases hb:b=a
  ·subst hb;rw [jam] at e;cases e;exact new
  ·rw [jal hb] at e
   refine(I.hok b u e).stay (λc v hb q=>k c v (λz=> ?_) q) (λc q=>by rw [jal (jag q hn)];exact q) λc xs q=>by rw [jal (jag q hn)];exact q
   have f:=(hc c z).1
   rcases hb with w|w
   ·rw [w,e] at f;cases f
   ·rw [w] at f;cases f
end
def jiG (c:TTD) (tb:TSD):TSD:=λD σ h=> ∃W:Nat->SD->HD->Prop,(∃m,W m σ h)/\ ∀m σ' h',W m σ' h' ->c σ' h' λb h1=>
 if b=true then tb {D with nx:=λσ2 h2=> ∃m' h3,m' <m/\Sub h3 h2/\W m' σ2 h3,ct:=λσ2 h2=> ∃m' h3,m' <m/\Sub h3 h2/\W m' σ2 h3,bk:=D.nx} σ' h1 else D.nx σ' h1
theorem jjV {K:PySem.W.Frag} {c:TTD} {tb:TSD}: ∀D σ H,LS K (jiG c tb) D σ H->jks (LT K c) (LS K tb) D σ H:=λD σ H ⟨σd,h,Dd,rs,rh,⟨W,⟨m0,w0⟩,turn⟩,nx,rt,bk,ct⟩=>by
 refine⟨λm σ' H' =>Kept H H' /\ ∃σd' h',RelS K H' σd' σ' /\RelH K h' H' /\W m σd' h',⟨m0,.refl _,σd,h,rs,rh,w0⟩,?_⟩
 rintro m σ' H' ⟨kp,σd',h',rs',rh',w⟩
 refine LT.bind rs' rh' (turn m σd' h' w) λb h1 H1 k1 rs1 rh1 q1=> ?_
 cases b with
 |false=>
  rw [if_neg G0g] at q1 ⊢
  exact nx _ _ _ _ (kp.trans k1) rs1 rh1 q1
 |true=>
  rw [if_pos rfl] at q1 ⊢
  have kk:Kept H H1:=kp.trans k1
  refine⟨λσ2 H2=>Kept H H2/\ ∃m',m' <m/\ ∃σd2 h2,RelS K H2 σd2 σ2/\RelH K h2 H2/\W m' σd2 h2,λσ2 H2 ⟨k2,m',hm,a,b,c,d,e⟩=>⟨m',hm,k2,a,b,c,d,e⟩,?_⟩
  exact⟨σd',h1,_,rs1,rh1,q1,λa b c d k4 rs4 rh4 ⟨m',h4,hm,sb,w4⟩=>⟨kk.trans k4,m',hm,a,h4,rs4,rh4.sub sb,w4⟩,jau rt kk,λa b c d k4 rs4 rh4 q4=>nx a b c d (kk.trans k4) rs4 rh4 q4,λa b c d k4 rs4 rh4 ⟨m',h4,hm,sb,w4⟩=>⟨kk.trans k4,m',hm,a,h4,rs4,rh4.sub sb,w4⟩⟩
section
variable {X:Cx} {pos:Pos}
theorem jnG {c:Expr} {body:List Stmt} {tc:TTD} {tb:TSD} (hp:PassesOwn (model X.prog X.w) X.A X.env X.xe) (hc:JT X c tc) (hb:JSs X body tb):JS X (.While c body [] pos) (jiG tc tb):=⟨(jju hp hc.to hb.to).imp jjV⟩
end
theorem jjW {c:TTD} {tb:TSD} {E:EndsD} {σ:SD} {h:HD} (W:Nat->SD->HD->Prop) (m:Nat) (w0:W m σ h)
 (turn: ∀m σ' h',W m σ' h' ->c σ' h' λb h1=>if b=true then tb {E with nx:=λσ2 h2=> ∃m' h3,m' <m/\Sub h3 h2/\W m' σ2 h3,ct:=λσ2 h2=> ∃m' h3,m' <m/\Sub h3 h2/\W m' σ2 h3,bk:=E.nx} σ' h1 else E.nx σ' h1):jiG c tb E σ h:=⟨W,⟨m,w0⟩,turn⟩
def Off (W:List Addr) (h h' :Heap):Prop:=h'.objs.size=h.objs.size/\ ∀b o,b ∉ W->h.get? b=some o->h'.get? b=some o
theorem Off.refl (W:List Addr) (h:Heap):Off W h h:=⟨rfl,λ_ _ _ e=>e⟩
theorem Off.of {c:Addr} {W:List Addr} {h h' :Heap} (x:Heap.SameBut c h h') (m:c∈W):Off W h h' :=⟨x.1,λb o n e=>x.extBut b o (λq=>n (q ▸ m)) e⟩
theorem Off.trans {W:List Addr} {h h' h'' :Heap} (x:Off W h h') (y:Off W h' h''):Off W h h'' :=⟨y.1.trans x.1,λb o n e=>y.2 b o n (x.2 b o n e)⟩
abbrev jiH (f0:Value) (b1:Bool) (TI TO:Addr):Obj:= {cls:= .type "zip",dict:=none,data:= .fields #[f0,.bool b1,.bool false,.ref TI,.ref TO],slots:= #[]}
def ZipAt (h:Heap) (z TI TO:Addr):Prop:= ∃f0 b1,h.get? z=some (jiH f0 b1 TI TO)/\(f0= .none\/ ∃a t,f0= .int a t)
theorem ZipAt.off {h h' :Heap} {z TI TO:Addr} {W:List Addr} (Z:ZipAt h z TI TO) (o:Off W h h') (n:z ∉ W):ZipAt h' z TI TO:=let ⟨f,b,e,q⟩:=Z;⟨f,b,o.2 _ _ n e,q⟩
section
variable {prog:Program} {w:World} {A:Around} {E:Value->Shared->Prop} {s:Shared} {z TI TO i1 i2:Addr}
theorem jjX {Q:Bool->Shared->Prop} (Z:ZipAt s.heap z TI TO) (k: ∀b h',ZipAt h' z TI TO->Off [z] s.heap h' ->Q b {s with heap:=h'}):wpAny (model prog w) A (Builtin.SmallTypes.ownedTupleIsFree (.ref z)) Q E s:=by
 obtain⟨f0,b1,hz,hf⟩:=id Z
 have stay:=λb=>k b s.heap Z (Off.refl _ _)
 rcases hf with rfl|⟨a,t,rfl⟩
 ·wp_walk
  exact stay true
 ·have read: ∀ {P:Option Obj->Shared->Prop} {E' :Value->Shared->Prop},P (s.heap.get? a.toNat) s->wpAny (model prog w) A (loadIfAlive a.toNat) P E' s:=λp _ _ _=>p
  wp_walk using read
  cases s.heap.get? a.toNat with
  |none=>exact G0c (stay true)
  |some o=>
   wp_walk
   cases b1 with
   |true=>exact G0c (stay false)
   |false=>exact wpAny_bind <| wpAny_setField_rec hz (by simp) λh' z' same=>G0c (k false h' ⟨_,_,z',.inr ⟨a,t,rfl⟩⟩ (.of same (by simp)))
structure ZApart (z TI TO i1 i2:Addr):Prop where
 z1:z≠i1
 z2:z≠i2
 zO:z≠TO
 zI:z≠TI
 O1:TO≠i1
 O2:TO≠i2
 OI:TO≠TI
 I1:TI≠i1
 I2:TI≠i2
abbrev jnH (z:Addr) (h:Heap) (E:Value->Shared->Prop):Value->Shared->Prop:=λe s' =>(∀o,h.get? z=some o->s'.heap.get? z=some o)/\ ∀h',Heap.ExtBut z s'.heap h' ->E e {s' with heap:=h'}
set_option maxHeartbeats 2000000 in
theorem jiI {Q:Value->Shared->Prop} (ap:ZApart z TI TO i1 i2) (Z:ZipAt s.heap z TI TO) (hTI:IsPair s.heap TI (.ref i1) (.ref i2)) (hTO: ∃a b,IsPair s.heap TO a b)
 (go: ∀h₁,Off [z] s.heap h₁->(∃o,h₁.get? z=some o/\o.cls= .type "zip")->wpAny (model prog w) A (Builtin.SmallTypes.nextOf (.ref i1)) (λx s₁=>Off [i1] h₁ s₁.heap/\ ∀h₂,Off [TO] s₁.heap h₂->
  wpAny (model prog w) A (Builtin.SmallTypes.nextOf (.ref i2)) (λy s₂=>Off [i2] h₂ s₂.heap/\ ∀h₃,(∀b o,b ∉ [z,TO]->s₂.heap.get? b=some o->h₃.get? b=some o)->IsPair h₃ s₂.heap.objs.size x y->
   ZipAt h₃ z TI TO->IsPair h₃ TI (.ref i1) (.ref i2)->(∃a b,IsPair h₃ TO a b)->Q (.ref s₂.heap.objs.size) {s₂ with heap:=h₃}) (jnH z h₂ E) {s₁ with heap:=h₂}) (jnH z h₁ E) {s with heap:=h₁}):
 wpAny (model prog w) A (Builtin.«zip.__next__» ⟨[.ref z],[]⟩) (λfin s' => ∃v,fin= .done (.ret v)/\Q v s') E s:=by
 obtain⟨f0,b1,hz,hf⟩:=id Z
 have ask:=λ{P:Bool->Shared->Prop} {E' :Value->Shared->Prop} (k: ∀b h',ZipAt h' z TI TO->Off [z] s.heap h' ->P b {s with heap:=h'})=>jjX (prog:=prog) (w:=w) (A:=A) (E:=E') Z k
 wp_walk using ask
 intro b h₀ Z₀ off₀
 have I₀:=off₀.2 _ _ (by simp [ap.zI.symm]) hTI
 obtain⟨a',b',O₀⟩: ∃a b,IsPair h₀ TO a b:=let ⟨a,b,e⟩:=hTO;⟨a,b,off₀.2 _ _ (by simp [ap.zO.symm]) e⟩
 cases b with
 |false=>
  have d1:=go h₀ off₀ (let ⟨_,_,e,_⟩:=Z₀;⟨_,e,rfl⟩)
  rw [if_neg (by decide)]
  refine wpAny_bind ?_
  rw [<-G1c]
  simp only [G16,List.forIn_nil]
  refine wpAny_bind (wpAny_bind (G02 ?_))
  refine wpAny_bind (m:=Builtin.SmallTypes.nextOf (.ref i1)) (G0S d1 (λx s₁ d=>G0c (G0c ?_)) λe s' f=>f.2 s'.heap λ_ _ _ e=>e)
  obtain⟨o1,d2⟩:=d
  refine wpAny_bind (wpAny_bind (G02 ?_))
  refine wpAny_bind (m:=Builtin.SmallTypes.nextOf (.ref i2)) (G0S (d2 s₁.heap (.refl _ _)) (λy s₂ d=>G0c (G0c (G0c ?_))) λe s' f=>f.2 s'.heap λ_ _ _ e=>e)
  obtain⟨o2,fin⟩:=d
  show wpAny _ _ (newTuple [x,y] >>= _) _ _ _
  have n1: ∀ {b},b≠i1->b ∉ [i1]:=λh=>by simpa using h
  have n2: ∀ {b},b≠i2->b ∉ [i2]:=λh=>by simpa using h
  have Z₂:=(Z₀.off o1 (n1 ap.z1)).off o2 (n2 ap.z2)
  have keep: ∀ {b o},b≠i1->b≠i2->h₀.get? b=some o->(s₂.heap.push {cls:= .type "tuple",data:= .seq #[x,y]}).get? b=some o:=λq1 q2 e=>G0b _ (o2.2 _ _ (n2 q2) (o1.2 _ _ (n1 q1) e))
  refine wpAny_bind (wpAny_newTuple (G0c ⟨_,rfl,fin _ (λb o _ e=>G0b _ e) (G0m _ rfl) ?_ (keep ap.I1 ap.I2 I₀) ⟨_,_,keep ap.O1 ap.O2 O₀⟩⟩))
  exact let ⟨f,b,e,q⟩:=Z₂;⟨f,b,G0b _ e,q⟩
 |true=>
  obtain⟨f0',b1',hz₀,_⟩:=Z₀
  have note:=λ{P:Unit->Shared->Prop} {E' :Value->Shared->Prop} (k: ∀h',h'.get? z=some (jiH .ellipsis b1' TI TO)->Heap.SameBut z h₀ h' ->P () {s with heap:=h'})=>
   wpAny_setField_rec (prog:=prog) (w:=w) (A:=A) (E:=E') (s:= {s with heap:=h₀}) (k:=0) (x:= .ellipsis) hz₀ (by simp) k
  wp_walk using note
  intro h₁ z₁ same₁
  have off₁:Off [z] s.heap h₁:=off₀.trans (.of same₁ (by simp))
  have O₁:=same₁.extBut _ _ ap.zO.symm O₀
  have I₁:=same₁.extBut _ _ ap.zI.symm I₀
  have fell: ∀ {h:Heap} {e:Value} {s' :Shared},h.get? z=some (jiH .ellipsis b1' TI TO)->jnH z h E e s' ->wpAny (model prog w) A (setField (.ref z) 0 .none) (λ_ s'' =>E e s'') E s' :=λhz' f=>
   wpAny_setField_rec (f.1 _ hz') (by simp) λh' _ same=>f.2 h' same.extBut
  have draw:=λ{P:Value->Shared->Prop} {E' :Value->Shared->Prop} (k: ∀x s₁,_->P x s₁) (f: ∀e s',jnH z h₁ E e s' ->E' e s')=>G0S (go h₁ off₁ ⟨_,z₁,rfl⟩) k f
  wp_walk using wpAny_onRaise,draw
  case f=>exact λe s' f=>fell z₁ f
  intro x s₁ ⟨o1,go2⟩
  have z₂:=o1.2 _ _ (by simp [ap.z1]) z₁
  have O₂:IsPair s₁.heap TO a' b' :=o1.2 _ _ (by simp [ap.O1]) O₁
  have I₂:=o1.2 _ _ (by simp [ap.I1]) I₁
  have lay:=λ{P:Unit->Shared->Prop} {E' :Value->Shared->Prop}=>wpAny_updateSeq_pair (prog:=prog) (w:=w) (A:=A) (E:=E') (s:=s₁) (k:=0) (x:=x) (Q:=P) O₂
  wp_walk using lay
  intro h₂ O₃ same₂
  replace O₃:IsPair h₂ TO x b' :=O₃
  have z₃:=same₂.extBut _ _ ap.zO z₂
  have I₃:=same₂.extBut _ _ ap.OI.symm I₂
  have draw2:=λ{P:Value->Shared->Prop} {E' :Value->Shared->Prop} (k: ∀y s₂,_->P y s₂) (f: ∀e s',jnH z h₂ E e s' ->E' e s')=>G0S (go2 h₂ (.of same₂ (by simp))) k f
  wp_walk using wpAny_onRaise,draw2
  case f=>exact λe s' f=>fell z₃ f
  intro y s₂ ⟨o2,fin⟩
  have z₄:=o2.2 _ _ (by simp [ap.z2]) z₃
  have O₄:IsPair s₂.heap TO x b' :=o2.2 _ _ (by simp [ap.O2]) O₃
  have I₄:=o2.2 _ _ (by simp [ap.I2]) I₃
  have lay2:=λ{P:Unit->Shared->Prop} {E' :Value->Shared->Prop}=>wpAny_updateSeq_pair (prog:=prog) (w:=w) (A:=A) (E:=E') (s:=s₂) (k:=1) (x:=y) (Q:=P) O₄
  wp_walk using lay2
  intro h₄ O₅ same₃
  replace O₅:IsPair h₄ TO x y:=O₅
  have z₅:=same₃.extBut _ _ ap.zO z₄
  have I₅:=same₃.extBut _ _ ap.OI.symm I₄
  wp_walk
  have size:h₄.objs.size=s₂.heap.objs.size:=same₃.1
  have zp:=G0b {cls:= .type "tuple",data:= .seq #[x,y]} z₅
  have zu:=G07 (Obj.mapFields λv=>v.setIfInBounds 0 (rawInt h₄.objs.size)) zp rfl
  have zu' :=G07 (Obj.mapFields λv=>v.setIfInBounds 1 (Value.bool false)) zu rfl
  have away: ∀ {b o},b≠z->(h₄.push {cls:= .type "tuple",data:= .seq #[x,y]}).get? b=some o->
   (((h₄.push {cls:= .type "tuple",data:= .seq #[x,y]}).update z (Obj.mapFields λv=>v.setIfInBounds 0 (rawInt h₄.objs.size))).update z (Obj.mapFields λv=>v.setIfInBounds 1 (Value.bool false))).get? b=some o:=λn e=>
   (G1k ..).extBut _ _ n ((G1k ..).extBut _ _ n e)
  have new:=away (b:=h₄.objs.size) (λq=>G0P _ (q ▸ G0k z₅)) (G0m _ rfl)
  refine⟨_,rfl,?_⟩
  have done:=fin _ (λb o n e=>away (λq=>n (by simp [q])) (G0b _ (same₃.extBut _ _ (λq=>n (by simp [q])) e))) (size ▸ new) ⟨_,_,zu',.inr ⟨_,_,rfl⟩⟩ (away ap.zI.symm (G0b _ I₅)) ⟨_,_,away ap.zO.symm (G0b _ O₅)⟩
  rw [<-size] at done
  exact done
theorem jlQ {tg : Expr} {v : Value} {Q : Unit → Shared → Prop} (Z : ZipAt s.heap z TI TO) (k : ∀ h', ZipAt h' z TI TO → Off [z] s.heap h' → Q () { s with heap := h' }) : wpAny (model prog w) A (letOwnedTupleGo tg (.ref z) v) Q E s := by
  obtain ⟨f0, b1, hz, hf⟩ := id Z
  have stay := k s.heap Z (.refl _ _)
  have gone : wpAny (model prog w) A (updateField z 0 .none) Q E s := wpAny_setField_rec (k := 0) (x := .none) hz (by simp) fun h' z' same => k h' ⟨_, _, z', .inl rfl⟩ (.of same (by simp))
  unfold letOwnedTupleGo
  cases tg <;> first
    | exact G0c stay
    | (cases v <;> wp_walk <;> first
        | exact stay
        | (split
           · exact wpAny_bind (G29 gone)
           · exact G0c stay))
theorem jjY {Q:Option Value->Shared->Prop} (Z:ZipAt s.heap z TI TO)
 (h:wpAny (model prog w) A.in1 (Builtin.«zip.__next__» ⟨[.ref z],[]⟩) (λfin s' => ∃v,fin= .done (.ret v)/\Q (some v) s') (λe s' =>s'.TypeIs e "StopIteration" /\Q none s') s):wpAny (model prog w) A (pyNext (.ref z)) Q E s:=by
 obtain⟨_,_,hz,_⟩:=Z
 have ty:s.TypeIs (.ref z) "zip" :=⟨_,hz,rfl⟩
 have asked:=G0Y F.slot_zip_next ty F.entry_zip_next h (F.args_zip_next_1 _)
 exact wpAny_bind (wpAny_attempt (G0Z (name:= "__next__") ty F.slot_zip_next (G0S asked (λ_ _ q=>G0c q) λe s' q=>wpAny_bind (G2u (b:=true) q.1 isSubtype_stop (G0c q.2)))))
theorem jjZ {l1 l2:Addr} {xs ys:Array Value} {P:PySem.Fin->Shared->Prop} (t1:s.heap.IsTuple l1 xs) (t2:s.heap.IsTuple l2 ys)
 (h: ∀h' n,n=s.heap.objs.size->ZipAt h' (n+4) (n+2) (n+3)->IsPair h' (n+2) (.ref n) (.ref (n+1))->(∃a b,IsPair h' (n+3) a b)->h'.IsTupleIter n l1 0->h'.IsTupleIter (n+1) l2 0->
  (∀b o,s.heap.get? b=some o->h'.get? b=some o)->P (.done (.ret (.ref (n+4)))) {s with heap:=h'}):
 wpAny (model prog w) A (Builtin.«zip.__new__» ⟨[.type "zip",.ref l1,.ref l2],[]⟩) P E s:=by
 have fine:=sub_zip
 obtain⟨hp,g,d,tk,os⟩:=s
 have first:Heap.IsTuple (Shared.heap ⟨hp,g,d,tk,os⟩) l1 xs:=t1
 have second: ∀o,Heap.IsTuple (Shared.heap ⟨hp.push o,g,d,tk,os⟩) l2 ys:=λo=>Heap.IsTuple.push t2 o
 wp_walk using G19 first,G19 (second _)
 have size: ∀ (q:Heap) o,(q.push o).objs.size=q.objs.size+1:=λq o=>G2L ..
 have n2: ∀o1 o2,((hp.push o1).push o2).objs.size=hp.objs.size+2:=λ_ _=>by rw [size,size]
 have n3: ∀o1 o2 o3,(((hp.push o1).push o2).push o3).objs.size=hp.objs.size+3:=λ_ _ _=>by rw [size,n2]
 have n4: ∀o1 o2 o3 o4,((((hp.push o1).push o2).push o3).push o4).objs.size=hp.objs.size+4:=λ_ _ _ _=>by rw [size,n3]
 have up: ∀ {q:Heap} {b o} o',q.get? b=some o->(q.push o').get? b=some o:=λo' e=>G0b o' e
 show P (.done (.ret (.ref (Heap.objs (((((hp.push _).push _).push _).push _))).size))) _
 rw [n4]
 have at1:=G0m (hp.push {cls:= .type "tuple_iterator",data:= .fields #[.ref l1,.int 0 0]}) (o:= {cls:= .type "tuple_iterator",data:= .fields #[.ref l2,.int 0 0]}) rfl
 rw [size] at at1
 have top: ∀ (q:Heap) (o:Obj) (m:Nat),q.objs.size=m->o.isFreed=false->(q.push o).get? m=some o:=λq o m e f=>e ▸ G0m q f
 refine h _ hp.objs.size rfl ⟨.none,false,(top _ _ _ (n4 ..) rfl).trans ?_,.inl rfl⟩ ((up _ (up _ (top _ _ _ (n2 ..) rfl))).trans ?_) ⟨.none,.none,up _ (top _ _ _ (n3 ..) rfl)⟩ ⟨_,up _ (up _ (up _ (up _ (G0m _ rfl)))),rfl,rfl⟩ ⟨_,up _ (up _ (up _ at1)),rfl,rfl⟩ λb o e=>up _ (up _ (up _ (up _ (up _ e))))
 ·simp only [size,G3k];rfl
 ·simp only [size];rfl
theorem jdQ {T newId initId:String} {pos:List Value} {kw:List (Str×Value)} {Made:Value->Shared->Prop} {Q:Value->Shared->Prop} (ft:TypeCalled T newId initId) (fits:checkTypeCall T ⟨pos,kw⟩=pure ())
 (made:wpAny (model prog w) A.in1 (call (.builtin newId) (.type T::pos) kw) Made E s)
 (begun: ∀o s₁,Made o s₁->s₁.TypeIs o T/\wpAny (model prog w) A.in1 (callSpecial? o "__init__" pos kw) (λr s₂=>r=some .none/\Q o s₂) E s₁):
 wpAny (model prog w) A (call (.type T) pos kw) Q E s:=by
 have f1:=ft.notType
 have f2:=ft.canCreate
 have f3:=ft.made
 have f4:=ft.sub
 obtain⟨_,_,f5⟩:=ft.mro
 have first:=λ{Q' :Value->Shared->Prop} (k: ∀o s₁,Made o s₁->Q' o s₁)=>G0S (E' :=E) made k λ_ _ z=>z
 refine G3a (codeAny_of_tree (G0c ⟨Code.quiet_builtin _ (by decide +kernel),G25 F.entry_type_call ?_⟩))
 rw [Around.under_plain (weight_type_call_type T pos kw) (units_type_call_type T pos kw)]
 wp_walk using first
 intro o s₁ m
 obtain⟨ty,then_⟩:=begun o s₁ m
 refine wpAny_bind (G2u (b:=true) ty f4 (wpAny_bind (G02 (G0S then_ (λr s₂ q=> ?_) λ_ _ z=>z))))
 obtain⟨rfl,q⟩:=q
 exact G0c q
theorem jf4 {T newId:String} {o:Value} {pos:List Value} {kw:List (Str×Value)} {Q:Option Value->Shared->Prop} (ft:TypeCalled T newId "object.__init__") (other:(some newId !=some "object.__new__")=true) (ty:s.TypeIs o T)
 (fits:argsOk "object.__init__" ⟨o::pos,kw⟩) (q:Q (some .none) s):wpAny (model prog w) A (callSpecial? o "__init__" pos kw) Q E s:=by
 have f1:=ft.init.lookup
 have f2:=ft.made
 refine G0Z ty ft.init (wpAny_call_entry_kw ft.init ty F.entry_object_init ?_ fits)
 cases e:(!pos.isEmpty|| !kw.isEmpty)<;>(wp_walk;exact⟨_,rfl,q⟩)
theorem jf5 {l1 l2:Addr} {xs ys:Array Value} {Q:Value->Shared->Prop} (t1:s.heap.IsTuple l1 xs) (t2:s.heap.IsTuple l2 ys)
 (h: ∀h' n,n=s.heap.objs.size->ZipAt h' (n+4) (n+2) (n+3)->IsPair h' (n+2) (.ref n) (.ref (n+1))->(∃a b,IsPair h' (n+3) a b)->h'.IsTupleIter n l1 0->h'.IsTupleIter (n+1) l2 0->
  (∀b o,s.heap.get? b=some o->h'.get? b=some o)->Q (.ref (n+4)) {s with heap:=h'}):wpAny (model prog w) A (call (.type "zip") [.ref l1,.ref l2]) Q E s:=
 jdQ (Made:=λo s₁=>s₁.TypeIs o "zip" /\Q o s₁) F.called_zip (F.typeCall_zip_2 _ _)
  (G3a (G2w F.called_zip.plain F.entry_zip_new (wpAny_of_eq (F.newCall_zip_2 _ _) (jjZ t1 t2 λh' n en zp i o a b k=>⟨let ⟨_,_,e,_⟩:=zp;⟨_,e,rfl⟩,h h' n en zp i o a b k⟩))))
  λ_ _ ⟨ty,q⟩=>⟨ty,jf4 F.called_zip (by decide) ty (F.args_object_init_3 _ _ _) ⟨rfl,q⟩⟩
end
def Itz (K : PySem.W.Frag) (a b : Addr) : It :=
  ⟨fun i H => ∃ xs ys x y, SqT K H a xs ∧ SqT K H b ys ∧ xs[i]? = some x ∧ ys[i]? = some y,
   fun i H x H' => ∃ p v u, H p = none ∧ (∀ xs, SqT K H a xs → xs[i]? = some v) ∧ (∀ ys, SqT K H b ys → ys[i]? = some u) ∧ x = .ref p ∧ H' = upd H p (.tup [v, u]),
   fun i H => ∃ xs ys, SqT K H a xs ∧ SqT K H b ys ∧ (xs.length ≤ i ∨ ys.length ≤ i)⟩
theorem jf6 {prog:Program} {w:World} {A:Around} {Q:Option Value->Shared->Prop} {E:Value->Shared->Prop} {s:Shared} {z TI TO i1 i2 l1 l2:Addr} {i:Nat} {xs ys:Array Value} (calm:A.handled=none) (ap:ZApart z TI TO i1 i2) (n1:l1 ∉ [z,TO,i1,i2]) (n2:l2 ∉ [z,TO,i1,i2]) (i12:i1≠i2)
 (Z:ZipAt s.heap z TI TO) (hTI:IsPair s.heap TI (.ref i1) (.ref i2)) (hTO: ∃a b,IsPair s.heap TO a b) (t1:s.heap.IsTuple l1 xs) (t2:s.heap.IsTuple l2 ys) (at1:s.heap.IsTupleIter i1 l1 i) (at2:s.heap.IsTupleIter i2 l2 i)
 (pair: ∀x y h' tk,xs[i]? =some x->ys[i]? =some y->(∀b o,b ∉ [z,TO,i1,i2]->s.heap.get? b=some o->h'.get? b=some o)->IsPair h' s.heap.objs.size x y->ZipAt h' z TI TO->IsPair h' TI (.ref i1) (.ref i2)->(∃a b,IsPair h' TO a b)->
  h'.IsTupleIter i1 l1 (i+1)->h'.IsTupleIter i2 l2 (i+1)->Q (some (.ref s.heap.objs.size)) {s with heap:=h',toks:=tk})
 (ended:(xs.size<=i\/ys.size<=i)-> ∀h' tk,(∀b o,b ∉ [z,TO,i1,i2]->s.heap.get? b=some o->h'.get? b=some o)->Q none {s with heap:=h',toks:=tk}):wpAny (model prog w) A (pyNext (.ref z)) Q E s:=by
 have sub: ∀ {b:Addr} {W:List Addr},b ∉ [z,TO,i1,i2]->(∀c∈W,c∈ [z,TO,i1,i2])->b ∉ W:=λn m q=>n (m _ q)
 have z' : ∀c∈ [z],c∈ [z,TO,i1,i2]:=by simp
 have o' : ∀c∈ [TO],c∈ [z,TO,i1,i2]:=by simp
 have a' : ∀c∈ [i1],c∈ [z,TO,i1,i2]:=by simp
 have b' : ∀c∈ [i2],c∈ [z,TO,i1,i2]:=by simp
 have zo: ∀c∈ [z,TO],c∈ [z,TO,i1,i2]:=by simp
 refine jjY Z (jiI ap Z hTI hTO λh₁ off₁ isz=> ?_)
 have u1:h₁.IsTuple l1 xs:=t1.at λo e=>off₁.2 _ _ (sub n1 z') e
 have v1:h₁.IsTupleIter i1 l1 i:=at1.at λo e=>off₁.2 _ _ (by simp [ap.z1.symm]) e
 have stop: ∀ {h h' :Heap} {it e:Addr},z≠it->Heap.ExtBut it h h' ->(∃o,h.get? z=some o/\o.cls= .type "zip")->(∃o,h'.get? e=some o/\o.cls= .type "StopIteration")->e≠z:=λnz x ⟨o,e1,c1⟩ ⟨o2,e2,c2⟩ q=>by
  subst q
  rw [x _ _ nz e1] at e2
  cases e2
  rw [c1] at c2
  simp at c2
 cases hx:xs[i]? with
 |none=>
  refine jcx (s:= {s with heap:=h₁}) calm v1 u1 hx λh' e grown st=>⟨λo q=>grown _ _ ap.z1 q,λh2 k=>⟨?_,ended (.inl (G1u.mp hx)) _ _ λb o n q=>k _ _ (λy=>sub n z' (by simp [y])) (grown _ _ (λy=>sub n a' (by simp [y])) (off₁.2 _ _ (sub n z') q))⟩⟩
  have ne:=stop ap.z1 grown isz st
  obtain⟨o,q,c⟩:=st
  exact⟨o,k _ _ ne q,c⟩
 |some x=>
  refine jeH (s:= {s with heap:=h₁}) v1 u1 hx λh1' w1 same₁=>⟨.of same₁ (by simp),λh₂ off₂=> ?_⟩
  have all: ∀ {b o},b ∉ [z,TO,i1,i2]->s.heap.get? b=some o->h₂.get? b=some o:=λn e=>off₂.2 _ _ (sub n o') (same₁.extBut _ _ (λy=>sub n a' (by simp [y])) (off₁.2 _ _ (sub n z') e))
  have u2:h₂.IsTuple l2 ys:=t2.at λo e=>all n2 e
  have v2:h₂.IsTupleIter i2 l2 i:=at2.at λo e=>off₂.2 _ _ (by simp [ap.O2.symm]) (same₁.extBut _ _ i12.symm (off₁.2 _ _ (by simp [ap.z2.symm]) e))
  have w2:h₂.IsTupleIter i1 l1 (i+1):=w1.at λo e=>off₂.2 _ _ (by simp [ap.O1.symm]) e
  have isz2: ∃o,h₂.get? z=some o/\o.cls= .type "zip" :=let ⟨o,e,c⟩:=isz;⟨o,off₂.2 _ _ (by simp [ap.zO]) (same₁.extBut _ _ ap.z1 e),c⟩
  cases hy:ys[i]? with
  |none=>
   refine jcx (s:= {s with heap:=h₂}) calm v2 u2 hy λh' e grown st=>⟨λo q=>grown _ _ ap.z2 q,λh3 k=>⟨?_,ended (.inr (G1u.mp hy)) _ _ λb o n q=>k _ _ (λy=>sub n z' (by simp [y])) (grown _ _ (λy=>sub n b' (by simp [y])) (all n q))⟩⟩
   have ne:=stop ap.z2 grown isz2 st
   obtain⟨o,q,c⟩:=st
   exact⟨o,k _ _ ne q,c⟩
  |some y=>
   refine jeH (s:= {s with heap:=h₂}) v2 u2 hy λh2' w3 same₂=>⟨.of same₂ (by simp),λh₃ kept new zip its out=> ?_⟩
   have size:h2'.objs.size=s.heap.objs.size:=by rw [same₂.1,off₂.1,same₁.1,off₁.1]
   have done:=pair x y h₃ s.toks hx hy (λb o n e=>kept _ _ (sub n zo) (same₂.extBut _ _ (λy=>sub n b' (by simp [y])) (all n e))) (size ▸ new) zip its out
    (w2.at λo e=>kept _ _ (by simp [ap.z1.symm,ap.O1.symm]) (same₂.extBut _ _ i12 e)) (w3.at λo e=>kept _ _ (by simp [ap.z2.symm,ap.O2.symm]) e)
   rw [<-size] at done
   exact done
theorem jhE (n:Nat):ZApart (n+4) (n+2) (n+3) n (n+1):=by
 have d: ∀ {i j:Nat},i≠j->n+i≠n+j:=λh q=>h (Nat.add_left_cancel q)
 exact⟨d (j:=0) (by decide),d (by decide),d (by decide),d (by decide),d (j:=0) (by decide),d (by decide),d (by decide),d (j:=0) (by decide),d (by decide)⟩
theorem jf7 {n c:Nat} (h:c<n):c ∉ [n+4,n+3,n,n+1]:=by
 simp only [G0u,G04,G2U,not_or]
 omega
theorem jj0 {n c:Nat} (h:c∈ [n+4,n+2,n+3,n,n+1]):n<=c:=by
 simp only [G0u,G04,G2U] at h
 omega
theorem jhh {prog:Program} {w:World} {A:Around} {E:Value->Shared->Prop} {s:Shared} {z TI TO:Addr} {Q:Value->Shared->Prop} (Z:ZipAt s.heap z TI TO) (h:Q (.ref z) s):wpAny (model prog w) A (pyIter (.ref z)) Q E s:=by
 obtain⟨_,_,hz,_⟩:=Z
 have ty:s.TypeIs (.ref z) "zip" :=⟨_,hz,rfl⟩
 exact wpAny_pyIter_slot ty F.slot_zip_iter (G0Y F.slot_zip_iter ty F.entry_zip_iter (G0c ⟨_,rfl,_,_,ty,F.slot_zip_next.lookup,h⟩) (F.args_zip_iter_1 _))
theorem jj1 {P:Program} {w:World} {K:PySem.W.Frag} (tg:Expr) (l1 l2 z TI TO i1 i2:Addr) (ap:ZApart z TI TO i1 i2) (n1:l1 ∉ [z,TO,i1,i2]) (n2:l2 ∉ [z,TO,i1,i2]) (i12:i1≠i2):
 Turn P w K tg (Itz K l1 l2) [z,TI,TO,i1,i2] z (λi h=>ZipAt h z TI TO/\IsPair h TI (.ref i1) (.ref i2)/\(∃a b,IsPair h TO a b)/\h.IsTupleIter i1 l1 i/\h.IsTupleIter i2 l2 i):=by
 have inW: ∀ {b:Addr},b ∉ [z,TI,TO,i1,i2]->b ∉ [z,TO,i1,i2]:=λn q=>n (by simp only [G0u] at q ⊢;rcases q with q|q|q|q|q<;>simp [q] at*)
 have there: ∀ {i:Nat} {h:Heap},(ZipAt h z TI TO/\IsPair h TI (.ref i1) (.ref i2)/\(∃a b,IsPair h TO a b)/\h.IsTupleIter i1 l1 i/\h.IsTupleIter i2 l2 i)-> ∀b∈ [z,TI,TO,i1,i2],∃o,h.get? b=some o/\ ∀v,o.data≠ .cell v:=λ⟨⟨_,_,a1,_⟩,a2,⟨_,_,a3⟩,⟨o4,a4,_,d4⟩,⟨o5,a5,_,d5⟩⟩ b hb=>by
  simp only [G0u,G04,G2U] at hb
  rcases hb with e|e|e|e|e<;>subst e
  ·exact⟨_,a1,λv z=>by cases z⟩
  ·exact⟨_,a2,λv z=>by cases z⟩
  ·exact⟨_,a3,λv z=>by cases z⟩
  ·exact⟨o4,a4,λv z=>by rw [d4] at z;cases z⟩
  ·exact⟨o5,a5,λv z=>by rw [d5] at z;cases z⟩
 refine⟨by simp,λi h st=>there st,λi h h' ⟨⟨f,b,a1,qf⟩,a2,⟨x,y,a3⟩,a4,a5⟩ q=>⟨⟨f,b,q z (by simp) _ a1,qf⟩,q TI (by simp) _ a2,⟨x,y,q TO (by simp) _ a3⟩,a4.at λo e=>q i1 (by simp) o e,a5.at λo e=>q i2 (by simp) o e⟩,?_,?_,λ_ _ _ _ _ st h=>jhh st.1 h⟩
 ·intro X hP hw hK hc i pins s σ H E I hf st hg
  subst hP hw hK
  obtain⟨xs,ys,x,y,hq,hq2,hx,hy⟩:=hg
  obtain⟨its,rv,p,_⟩:=I.tuple hq
  obtain⟨jts,rw',p2,_⟩:=I.tuple hq2
  obtain⟨u,hu,ru⟩:=rv.get hx
  obtain⟨v,hv,rv'⟩:=rw'.get hy
  obtain⟨a1,a2,a3,a4,a5⟩:=id st
  have lt: ∀b∈ [z,TI,TO,i1,i2],b≠s.heap.objs.size:=λb hb=>let ⟨_,e,_⟩:=there st b hb;G0G (G0k e)
  have l1' :i<its.toArray.size:=by have:=(G0s.mp hu).1;simpa using this
  have l2' :i<jts.toArray.size:=by have:=(G0s.mp hv).1;simpa using this
  refine jf6 (I.ok.hd hc) ap n1 n2 i12 a1 a2 a3 p p2 a4 a5 (λx' y' h' tk hx' hy' kept new zip it out w1 w2=>⟨_,rfl,?_⟩) λends=>absurd ends (by omega)
  have ex:x' =u:=by simp only [G26] at hx';rw [hu] at hx';cases hx';rfl
  have ey:y' =v:=by simp only [G26] at hy';rw [hv] at hy';cases hy';rfl
  subst ex ey
  refine jlQ (s:= {s with heap:=h',toks:=tk}) zip λh2 zip2 off=> ?_
  have hn:H s.heap.objs.size=none:=I.hok.fresh (G0d _)
  have nz: ∀ {b},b≠z->b ∉ [z]:=λh=>by simpa using h
  have T2:IsPair h2 s.heap.objs.size x' y' :=off.2 _ _ (nz (lt z (by simp)).symm) new
  refine⟨.ref s.heap.objs.size,upd H s.heap.objs.size (.tup [x,y]),?_,rfl,⟨_,x,y,hn,λws hw=>by rw [I.tuple_inj hw hq];exact hx,λws hw=>by rw [I.tuple_inj hw hq2];exact hy,rfl,rfl⟩,
   ⟨zip2,off.2 _ _ (nz ap.zI.symm) it,let ⟨a,b,e⟩:=out;⟨a,b,off.2 _ _ (nz ap.zO.symm) e⟩,w1.at λo e=>off.2 _ _ (nz ap.z1.symm) e,w2.at λo e=>off.2 _ _ (nz ap.z2.symm) e⟩,λb hb=> ?_⟩
  ·refine I.turnLaid (h' :=h2) (t' :=tk) (ch:= [z,TI,TO,i1,i2]) (λb u hb q=>off.2 _ _ (λy=>inW hb (by simp only [G0x] at y;simp [y])) (kept b u (inW hb) q)) hf (G0d _) ⟨by show 2<=sizeLine;decide,[x',y'],.cons ru (.cons rv' .nil),⟨_,T2,rfl,rfl,_,rfl⟩⟩
  ·rw [jal (lt b hb)];exact(hf b hb).1
 ·intro X hP hw hK hc i pins s σ H E I hf st hg
  subst hP hw hK
  obtain⟨xs,ys,hq,hq2,hl⟩:=hg
  obtain⟨its,rv,p,_⟩:=I.tuple hq
  obtain⟨jts,rw',p2,_⟩:=I.tuple hq2
  have e1:=rv.length
  have e2:=rw'.length
  obtain⟨a1,a2,a3,a4,a5⟩:=id st
  refine jf6 (I.ok.hd hc) ap n1 n2 i12 a1 a2 a3 p p2 a4 a5 (λx' y' h' tk hx' hy' _ _ _ _ _ _ _=> ?_) λ_ h' tk kept=>⟨rfl,I.turnL (ch:= [z,TI,TO,i1,i2]) (λb o hb q=>kept b o (inW hb) q) hf⟩
  have b1:=(G0J.mp hx').1
  have b2:=(G0J.mp hy').1
  simp only [G0f] at b1 b2
  omega
section
variable {X:Cx}
def jpl (K:PySem.W.Frag) (ta:TA):TI:=λσ H R=>ta σ H λvs H1=> ∃a b,vs= [.ref a,.ref b]/\(∃xs,SqT K H1 a xs)/\(∃ys,SqT K H1 b ys)/\R (Itz K a b) H1
theorem jnI {tg:Expr} {a b:Expr} {ta:TA} {p pos:Pos} (hg:Gl X "zip") (hm:X.mg "zip" =none) (ha:PA X [a,b] ta) (hs:starEach [a,b] X.env= [(false,eval a X.env),(false,eval b X.env)]:=by rfl) (hs2:starEach [b] X.env= [(false,eval b X.env)]:=by rfl):
 PI X tg (.Call (.Name "zip" p) [a,b] [] pos) (jpl X.K ta):=by
 intro pins s σ H R I h
 refine Call_ (jeq I hg hm boot_zip (G1q (thn (ha pos pins s σ H _ I h) λus s1 ⟨vs,H1,I1,r1,q1⟩=> ?_) (by rw [hs,hs2]) (by rw [hs2];rfl)))
 obtain⟨a,b,e,⟨xs,hq⟩,⟨ys,hq2⟩,q⟩:=q1
 subst e
 cases r1 with
 |cons r rr=>
  cases rr with
  |cons r' rr=>
   cases rr
   cases r
   cases r'
   obtain⟨its,rv,p,_⟩:=I1.tuple hq
   obtain⟨jts,rw',p2,_⟩:=I1.tuple hq2
   have la:a<s1.heap.objs.size:=by obtain⟨o,ho,_⟩:=p;exact G0k ho
   have lb:b<s1.heap.objs.size:=by obtain⟨o,ho,_⟩:=p2;exact G0k ho
   refine jf5 (show s1.heap.IsTuple a its.toArray from p) (show s1.heap.IsTuple b jts.toArray from p2) λh' n en z1 z2 z3 z4 z5 hk=> ?_
   subst en
   refine jhh z1 ⟨s1.heap.objs.size+4,[s1.heap.objs.size+4,s1.heap.objs.size+2,s1.heap.objs.size+3,s1.heap.objs.size,s1.heap.objs.size+1],_,_,H1,rfl,I1.kept (t' :=s1.toks) hk,
    jj1 _ a b _ _ _ _ _ (jhE _) (jf7 la) (jf7 lb) (G0G (G1K _)),⟨z1,z2,z3,z4,z5⟩,λc hc=> ?_,q⟩
   have hb' :s1.heap.objs.size<=c:=jj0 hc
   exact I1.fpOk hb' (I1.hok.fresh hb')
end
def jkE (ds es:List D):List D:=(ds.zip es).map λp=> .tup [p.1,p.2]
def iZ (ta:TAD):TID:=λσ h R=>ta σ h λxs h1=> ∃ds es,xs= [.tup ds,.tup es]/\R (λ_=>some (jkE ds es)) h1
theorem jj2 {ds es:List D} {i:Nat} {d:D} (h:(jkE ds es)[i]? =some d): ∃x y,ds[i]? =some x/\es[i]? =some y/\d= .tup [x,y]:=by
 unfold jkE at h
 rw [G0o] at h
 cases q:(ds.zip es)[i]? with
 |none=>rw [q] at h;cases h
 |some p=>
  rw [q] at h
  obtain⟨x,y⟩:=p
  rw [List.getElem?_zip_eq_some] at q
  exact⟨x,y,q.1,q.2,(G0T h).symm⟩
section
variable {K:PySem.W.Frag}
theorem jj3 {H:Hp} {a b:Addr} {vs us:List V} {ds es:List D} (hv:H a=some (.tup vs)) (r:RelDs K H ds vs) (hu:H b=some (.tup us)) (ru:RelDs K H es us):jmg K H (λ_=>some (jkE ds es)) (Itz K a b):=λH' h' k rh ds' e i=>by
 cases e
 have hv' :=k.tup _ _ hv
 have hu' :=k.tup _ _ hu
 have r' :=r.mono k
 have ru' :=ru.mono k
 refine⟨λd hd=> ?_,λhl=>⟨vs,us,SqT.of hv',SqT.of hu',?_⟩⟩
 ·obtain⟨x,y,hx,hy,ed⟩:=jj2 hd
  subst ed
  obtain⟨v,e1,e2⟩:=r'.get hx
  obtain⟨u,e3,e4⟩:=ru'.get hy
  refine⟨⟨vs,us,v,u,SqT.of hv',SqT.of hu',e1,e3⟩,λx' H'' ⟨p,v',u',hp,hx',hy',ex,eH⟩=> ?_⟩
  subst ex eH
  have ev:v' =v:=by have:=hx' vs (SqT.of hv');rw [e1] at this;exact(G0T this).symm
  have eu:u' =u:=by have:=hy' us (SqT.of hu');rw [e3] at this;exact(G0T this).symm
  subst ev eu
  have k2:Kept H' (upd H' p (.tup [v',u'])):= .new hp
  exact⟨k2,RelH.new rh hp,p,[v',u'],rfl,jam,_,_,rfl,e2.mono k2,_,_,rfl,e4.mono k2,rfl⟩
 ·have l1:=r.length
  have l2:=ru.length
  unfold jkE at hl
  rw [G0a,G27] at hl
  omega
theorem jnJ {ta:TAD}: ∀σ H R,LI K (iZ ta) σ H R->jpl K (LA K ta) σ H R:=λσ H R ⟨σd,h,Rd,rs,rh,q,p⟩=>
 LA.bind rs rh q λds vs h1 H1 k1 rs1 rh1 r1 ⟨es,fs,e,q1⟩=>by
  subst e
  obtain⟨v,w,e,r2,r3⟩:=jbE r1
  obtain⟨a,ws,e',hv,r⟩:=(show ∃a vs,v= .ref a/\H1 a=some (.tup vs)/\RelDs K H1 es vs from r2)
  obtain⟨b,us,e'',hu,r'⟩:=(show ∃a vs,w= .ref a/\H1 a=some (.tup vs)/\RelDs K H1 fs vs from r3)
  subst e' e''
  exact⟨a,b,e,⟨ws,SqT.of hv⟩,⟨us,SqT.of hu⟩,p _ _ _ _ k1 rh1 (jj3 hv r hu r') q1⟩
end
section
variable {X:Cx}
theorem jnK {tg:Expr} {a b:Expr} {ta:TAD} {p pos:Pos} (hg:Gl X "zip") (hm:X.mg "zip" =none) (ha:JA X [a,b] ta) (hs:starEach [a,b] X.env= [(false,eval a X.env),(false,eval b X.env)]:=by rfl) (hs2:starEach [b] X.env= [(false,eval b X.env)]:=by rfl):
 JI X tg (.Call (.Name "zip" p) [a,b] [] pos) (iZ ta):=⟨(jnI hg hm ha.to hs hs2).imp jnJ⟩
end
def inE (neg:Bool):RD2:=λx y h Q=> ∃ (p:PyData) (ps:List PyData),ToP h x p/\(ToP h y (.list ps)\/ToP h y (.tuple ps))/\p.canLay0=true/\PyData.canLayAll0 ps=true/\p.depth<=60/\Q (.bl (neg !=ps.any λz=>PyData.eqv z p)) h
section
variable {X:Cx}
theorem jj4 (hu:X.A.units+64<cLine):OpQ X (compareOp .NotIn) (inE true):=by
 intro pins s σ H x y v u Q I rx ry h
 obtain⟨dx,dy,h,Qd,r1,r2,rh,⟨p,ps,t1,t2,c1,c2,c3,qq⟩,post⟩:=h
 obtain⟨as,a1⟩:=jby I rh t1 r1 rx
 have hu' :X.A.units+1+min (PyData.depthAll ps) p.depth<cLine:=by have:=G2X (PyData.depthAll ps) p.depth;omega
 have q' :Qd (.bl (!ps.any λz=>PyData.eqv z p)) h:=by simpa using qq
 rcases t2 with t2|t2
 ·obtain⟨bs,b1⟩:=jby I rh t2 r2 ry
  exact notIn_list_reads b1 a1 c2 c1 hu' ⟨.bl _,H,I,rfl,post (.bl _) _ _ _ (.refl H) rh rfl q'⟩
 ·obtain⟨bs,b1⟩:=jby I rh t2 r2 ry
  exact notIn_tuple_reads b1 a1 c2 c1 hu' ⟨.bl _,H,I,rfl,post (.bl _) _ _ _ (.refl H) rh rfl q'⟩
end
end L2
namespace L2
open PySem PySem.Spec PyProof.Rows
structure ShowOk (p:PyData):Prop where
 sh:p.showable=true
 dp:p.depth<=60
 ln:p.shown.length<=sizeLine
structure ShowB (p:PyData) (k b:Nat):Prop where
 sh:p.showable=true
 dp:p.depth<=k
 ln:p.shown.length<=b
end L2
namespace HT
open PySem PySem.Spec PyProof.Rows
open AutoSeq1 (wpAny_loadPart')
section
variable {prog:Program} {w:World} {A:Around} {E:Value->Shared->Prop} {s:Shared}
structure RangeOf (h:Heap) (r:Addr) (a b c:Int) (n:Nat):Prop where
 at_: ∃t u v,IsRange h r a b c t u v
 small:Builtin.Range.small a b c=true
 many:Builtin.Range.rangeSize a b c=n
 fits:n<=2^24
end
end HT
namespace L2
open PySem PySem.Spec PyProof.Rows PySem.SeqAt
theorem jj5 {X:Cx} (hu:X.A.units+64<cLine):MtM X "list.index" (λx vs H Q=> ∃ (a:Addr) (y:V) (dy:D) (h:HD) (p:PyData) (ps:List PyData) (j:Nat) (z:PyData),x= .ref a/\vs= [y]/\RelD X.K H dy y/\RelH X.K h H/\ToP h (.lst a) (.list ps)/\ToP h dy p/\p.canLay0=true/\PyData.canLayAll0 ps=true/\p.depth<=60/\j<1000000/\ps[j]? =some z/\PyData.eqv z p=true/\(∀m y,m<j->ps[m]? =some y->PyData.eqv y p=false)/\Q (.int (j:Int)) H):=by
 intro pins s σ H x vs v us Q I rx rv h
 obtain⟨a,y,dy,h,p,ps,j,z,rfl,rfl,rd,rh,t1,t2,c1,c2,c3,hj,hz,hit,hno,q⟩:=h
 cases rx
 obtain⟨u,rfl,ru⟩:=jcN rv
 obtain⟨a',ds,ea,ha,ts⟩:=(show ∃a' ds,D.lst a= .lst a' /\h a' =some ds/\ToPs h ds ps from t1)
 cases ea
 obtain⟨ws,hH,_⟩:=rh a ds ha
 obtain⟨as,r1⟩:=jby I rh t1 (show RelD X.K H (.lst a) (.ref a) from ⟨rfl,ws,hH⟩) (show RelV (.ref a) (.ref a) from rfl)
 obtain⟨bs,r2⟩:=jby I rh t2 rd ru
 cases r1 with
 |list h1 h2 h3 h4=>
  rename_i o its n cs
  have em:=readsAll_map ps _ _ c2 h4
  have gm: ∀m (hm:m<its.size),ps[m]? =some (readOf s.heap its[m]):=λm hm=>by
   rw [<-em,G0o,G1x,G1l hm];rfl
  have hlen:its.size=ps.length:=by rw [<-em,G0a,G0j]
  have hjs:j<its.size:=by rw [hlen];exact(G0s.mp hz).1
  have hu' :X.A.units+1+min (PyData.depthAll ps) p.depth<cLine:=by have:=G2X (PyData.depthAll ps) p.depth;omega
  obtain⟨oc,od,odt,osl⟩:=o
  simp only at h2 h3
  subst h2 h3
  refine G3c F.slot_list_index ⟨_,h1,rfl⟩ F.entry_list_index (F.args_list_index_2 _ _) (list_indexAt a its n od osl u (λy=>PyData.eqv (readOf s.heap y) p) j hjs (by omega) ?_ ?_) ⟨h1,items_eqAt h4 r2 c2 c1 hu',?_⟩
  ·have:=gm j hjs
   rw [hz] at this;injection this with this
   rw [<-this];exact hit
  ·intro m hm hmj;exact hno m _ hmj (gm m hm)
  ·exact⟨.int (j:Int),H,I.tok _,⟨_,rfl⟩,q⟩
def jpY (to te:TED):TED:=λσ h Q=>to σ h λx h1=> ∃a,x= .lst a/\te σ h1 λy h2=> ∃ (p:PyData) (ps:List PyData) (j:Nat) (z:PyData),ToP h2 (.lst a) (.list ps)/\ToP h2 y p/\p.canLay0=true/\PyData.canLayAll0 ps=true/\p.depth<=60/\j<1000000/\ps[j]? =some z/\PyData.eqv z p=true/\(∀m y,m<j->ps[m]? =some y->PyData.eqv y p=false)/\Q (.int (j:Int)) h2
section
variable {X:Cx} {o e i:Expr} {to te ti:TED} {apos cpos:Pos}
theorem jpZ (hu : X.A.units + 64 < cLine) (ho : JE X o to) (he : JE X e te) (hbase : attributeBase o "index" X.env (eval o X.env) = eval o X.env := by rfl)
    (hfew : ((backTo cpos (starEach [e] X.env)).all (fun x => !x.1) && (backToKw cpos (keywordEach [] X.env)).all (fun x => x.1.isSome) && decide ([e].length + ([] : List Keyword).length + (if ([] : List Keyword).isEmpty then 0 else 1) < 30)) = true := by rfl)
    (hline : (apos.endLine == cpos.line) = true := by rfl) (hs : starEach [e] X.env = (false, eval e X.env) :: starEach [] X.env := by rfl) (hplain : (backTo cpos (starEach [] X.env)).any (·.1) = false := by rfl) :
    JE X (.Call (.Attribute o "index" apos) [e] [] cpos) (jpY to te) :=
  ⟨(jlb G18 PySem.F.slot_list_index PySem.F.type_list_index (jj5 hu) ho.to (jbS he.to pa_nil hs) hbase hfew hline hs hplain).imp
    fun σ H Q ⟨σd, h, Qd, rs, rh, t, p⟩ => LE.bind rs rh t fun d v h1 H1 k1 rs1 rh1 r1 ⟨a, e, q⟩ => by
      subst e
      obtain ⟨e1, vs, hH⟩ := (show v = .ref a ∧ ∃ vs, H1 a = some (.lst vs) from r1)
      subst e1
      refine ⟨.inl ⟨rfl, vs, SqL.of hH⟩, ?_⟩
      refine LE.bind rs1 rh1 q fun y u h2 H2 k2 rs2 rh2 r2 ⟨pd, ps, j, z, t1, t2, c1, c2, c3, hj, hz, hit, hno, q2⟩ => ?_
      exact ⟨a, u, y, h2, pd, ps, j, z, rfl, rfl, r2, rh2, t1, t2, c1, c2, c3, hj, hz, hit, hno, p (.int _) _ _ _ (k1.trans k2) rh2 rfl q2⟩⟩
end
section
variable {α:Type} {i i' :Nat} {js:List Nat} {ti:TID} {te:TED} {σ:SD} {h:HD} {Q:KD} {j:ItD}
theorem jp0 (xs:List α) (c c' g:α->D) (hz:xs.length<=1000) (hj:j h=some (xs.map λx=> .tup [c x,c' x])) (ht: ∀R:ItD->HD->Prop,R j h->ti σ h R)
 (he: ∀x∈xs,∀Q' :KD,Q' (g x) h->te (((jbD js σ).set i (some (c x))).set i' (some (c' x))) h Q') (hq: ∀p,h p=none->Q (.lst p) (jbs h p (xs.map g))):jfN (b2 i i') js ti jeY te σ h Q:=by
 refine ht _ ⟨xs.length,λk ys h' =>h' =h/\ys=(xs.take k).map g,⟨rfl,by simp⟩,?_⟩
 rintro k ys h' ⟨rfl,rfl⟩
 refine⟨by simp only [G0a,G03];exact G0X (jbk (by omega)),_,hj,by simp,λhl p hp=> ?_,λd hd=> ?_⟩
 ·rw [G1s (by simpa using hl)];exact hq p hp
 ·rw [G0o] at hd
  cases hx:xs[k]? with
  |none=>rw [hx] at hd;cases hd
  |some x=>
   rw [hx] at hd;cases hd
   refine⟨_,⟨_,_,rfl,rfl⟩,?_⟩
   unfold jeY
   dsimp only
   rw [if_pos rfl]
   refine he x (G0W hx) _ ⟨h',Sub.refl _,rfl,?_⟩
   rw [G2j,hx]
   simp
theorem joP (xs:List α) (c c' :α->D) (g:α->Bool) (hz:xs.length<=1000) (hj:j h=some (xs.map λx=> .tup [c x,c' x])) (ht: ∀R:ItD->HD->Prop,R j h->ti σ h R)
 (he: ∀x∈xs,∀Q' :KD,Q' (.bl (g x)) h->te (((jbD js σ).set i (some (c x))).set i' (some (c' x))) h Q') (hq:Q (.bl (xs.all g)) h):dCB jno (ja1 (jfN (b2 i i') js ti jeY te) jc2) σ h Q:=by
 show jfN (b2 i i') js ti jeY te σ h (λx h1=>jno [x] h1 Q)
 exact jp0 xs c c' (λx=> .bl (g x)) hz hj ht he λp hp=>⟨p,xs.map g,rfl,by rw [jab,G0L];rfl,by rw [jbC hp,G12];exact hq⟩
end
def itF {α:Type} (f:α->α) (x:α):Nat->α
 |0=>x
 |k+1=>f (itF f x k)
theorem jgK {α:Type} (f:α->α) (x:α) (a:Nat): ∀b,itF f x (a+b)=itF f (itF f x a) b
 |0=>rfl
 |b+1=>by show f (itF f x (a+b))=f (itF f (itF f x a) b);rw [jgK f x a b]
theorem jf8 {α:Type} {f:α->α} {x:α} {a p:Nat} (e:itF f x (a+p)=itF f x a) (r:Nat): ∀q,itF f x (a+p*q+r)=itF f x (a+r)
 |0=>by simp
 |q+1=>by
  have h1:a+p*(q+1)+r=(a+p)+(p*q+r):=by rw [Nat.mul_succ];omega
  rw [h1,jgK,e,<-jgK,<-G3k,jf8 e r q]
theorem jlR {α:Type} {f:α->α} {x:α} {a m k:Nat} (e:itF f x m=itF f x a) (ha:a<m) (hk:a<=k):itF f x (a+(k-a)%(m-a))=itF f x k:=by
 have e' :itF f x (a+(m-a))=itF f x a:=by rw [show a+(m-a)=m by omega];exact e
 have h:=jf8 e' ((k-a)%(m-a)) ((k-a) / (m-a))
 have h2:=Nat.div_add_mod (k-a) (m-a)
 rw [show a+(m-a)*((k-a) / (m-a))+(k-a)%(m-a)=k by omega] at h
 exact h.symm
theorem jdR {α:Type} [DecidableEq α]: ∀ {l m:List α},l.Nodup->(∀x∈l,x∈m)->l.length<=m.length
 | [],_,_,_=>G1B _
 |a::l,m,nd,h=>by
  have hm:=h a G0B
  have h2:l.length<=(m.erase a).length:=jdR (G01.mp nd).2 λx hx=>by
   have hxa:x≠a:=λe=>(G01.mp nd).1 (e ▸ hx)
   exact(G1W hxa).mpr (h x (G0w _ hx))
  rw [G1H hm] at h2
  have:=G1L hm
  simp only [G0e];omega
theorem jhF (r:List Int):(jcM r).canLay0=true:=by unfold jcM;simp only [PyData.canLay0];exact jbV r
theorem jiJ (r:List Int):(jcM r).depth<=2:=by unfold jcM;simp only [PyData.depth];have:=jcp r;omega
theorem jeI: ∀a b:List Int,PyData.eqvAll (a.map PyData.int) (b.map PyData.int)=decide (a=b)
 | [],[]=>by simp [PyData.eqvAll]
 | [],_::_=>by simp [PyData.eqvAll]
 |_::_,[]=>by simp [PyData.eqvAll]
 |x::a,y::b=>by
  show ((x==y)&&PyData.eqvAll (a.map .int) (b.map .int))=_
  rw [jeI a b,G1Q]
  simp
theorem jiK (a b:List Int):PyData.eqv (jcM a) (jcM b)=decide (a=b):=jeI a b
theorem jeJ (r:List Int):shaped (jcM r)=true:=by
 unfold shaped
 rw [jhF,G0r (by have:=jiJ r;omega)];rfl
theorem jiL {α:Type} {f:Nat->α} {L:Nat} (h:1<=L):atI ((List.range L).map f) (-1)=some (f (L-1)):=by
 unfold atI ixN
 rw [G0a,G0h,if_neg (by decide),if_pos (by omega)]
 show ((List.range L).map f)[(-1+(L:Int)).toNat]? =_
 rw [show (-1+(L:Int)).toNat=L-1 by omega,G0o,G05 (by omega)];rfl
theorem jiM {α:Type} {f:Nat->α} {L i:Nat} (h:i<L):atI ((List.range L).map f) (i:Int)=some (f i):=
 jb7 (by rw [G0o,G05 h];rfl)
theorem jlS {α:Type} (xs:List α):jfQ xs (some 1) none=xs.drop 1:=by
 unfold jfQ
 cases xs with
 |nil=>simp
 |cons x xs=>simp [HT.sIx]
structure Enc {α:Type} [DecidableEq α] (e:α->D) (p:α->PyData):Prop where
 to: ∀ (h:HD) a,ToP h (e a) (p a)
 lay: ∀a,(p a).canLay0=true
 dp: ∀a,(p a).depth<=60
 eq: ∀a b,PyData.eqv (p a) (p b)=decide (a=b)
section
variable {α:Type} [DecidableEq α] {e:α->D} {p:α->PyData}
theorem Enc.tos (E:Enc e p) (h:HD): ∀as:List α,ToPs h (as.map e) (as.map p)
 | []=>rfl
 |a::as=>⟨_,_,rfl,E.to h a,E.tos h as⟩
theorem Enc.lays (E:Enc e p): ∀as:List α,PyData.canLayAll0 (as.map p)=true
 | []=>rfl
 |a::as=>by show (PyData.canLay0 (p a)&&_)=true;rw [E.lays as,E.lay a];rfl
theorem jnL (E:Enc e p) {neg:Bool} {x:α} {as:List α} {a:Addr} {h:HD} {Q:KD} (ha:h a=some (as.map e)) (q: ∀b:Bool,(b=true↔x∈as)->Q (.bl (neg !=b)) h):inE neg (e x) (.lst a) h Q:=by
 refine⟨p x,as.map p,E.to h x,.inl ⟨a,_,rfl,ha,E.tos h as⟩,E.lay x,E.lays as,E.dp x,q _ ?_⟩
 rw [List.any_map,List.any_eq_true]
 constructor
 ·rintro ⟨y,hy,z⟩
  have:y=x:=by simpa [G1j,E.eq] using z
  rw [<-this];exact hy
 ·intro hi;exact⟨x,hi,by simp [G1j,E.eq]⟩
theorem jnM (E:Enc e p) {x:α} {as:List α} {a:Addr} {h:HD} (ha:h a=some (as.map e)) (hx:x∈as) (hl:as.length<=100000):
 ∃ (j:Nat) (q:PyData) (qs:List PyData) (z:PyData),as[j]? =some x/\ToP h (.lst a) (.list qs)/\ToP h (e x) q/\q.canLay0=true/\PyData.canLayAll0 qs=true/\q.depth<=60/\j<1000000/\qs[j]? =some z/\PyData.eqv z q=true/\(∀m y,m<j->qs[m]? =some y->PyData.eqv y q=false):=by
 have hj:=G1G.mpr hx
 have ex:as[as.idxOf x]? =some x:=by rw [G0i hj,G2a hj]
 refine⟨as.idxOf x,p x,as.map p,p x,ex,⟨a,_,rfl,ha,E.tos h as⟩,E.to h x,E.lay x,E.lays as,E.dp x,by omega,?_,by rw [E.eq,G0r rfl],λm y hm hy=> ?_⟩
 ·rw [G0o,ex];rfl
 ·rw [G0o] at hy
  have hml:m<as.length:=by omega
  rw [G0i hml] at hy
  cases hy
  rw [E.eq]
  have:=List.not_of_lt_findIdx (p:=(· ==x)) (xs:=as) hm
  simpa using this
end
theorem jaL: ∀a b:List (List Int),PyData.eqvAll (a.map jcM) (b.map jcM)=decide (a=b)
 | [],[]=>by simp [PyData.eqvAll]
 | [],_::_=>by simp [PyData.eqvAll]
 |_::_,[]=>by simp [PyData.eqvAll]
 |x::a,y::b=>by
  show (PyData.eqv (jcM x) (jcM y)&&PyData.eqvAll (a.map jcM) (b.map jcM))=_
  rw [jaL a b,jiK,G1Q]
  simp
theorem encT:Enc jah jdp:=⟨jbX,λT=>by unfold jdp;simp only [PyData.canLay0];exact jbY T,λT=>by unfold jdp;simp only [PyData.depth];have:=jbN T;omega,jaL⟩
def mk1 (n:Nat) (T:List (List Int)) (M:List (List Int)):List (List Int):=jai n (jct n M T)
def jat (n:Nat) (T:List (List Int)) (i:Nat):List (List Int):=itF (mk1 n T) (jai n T) i
theorem jlT {n:Nat} (M:List (List Int)):jai n (jai n M)=jai n M:=jf3 M
theorem jiN (n:Nat) (T:List (List Int)): ∀i,∃M,jat n T i=jai n M
 |0=>⟨T,rfl⟩
 |_+1=>⟨_,rfl⟩
theorem jbZ (n:Nat) (T:List (List Int)) (i:Nat):Sq n 1 (jat n T i):=by
 obtain⟨M,e⟩:=jiN n T i
 rw [e];exact Sq.mark M
theorem jbh {n e:Nat} {T:List (List Int)} (h:Sq n e T) (hn:n<=8): ∀i,jat n T i=jai n (jba n T (i+1))
 |0=>by
  show jai n T=jai n (jct n (jfz n) T)
  rw [jhe h hn]
 |i+1=>by
  show jai n (jct n (jat n T i) T)=jai n (jct n (jba n T (i+1)) T)
  rw [jbh h hn i,jdw (Sq.mark (n:=n) _) h,jdw (h.pow hn (i+1)) h,jf3]
def RP (n:Nat) (T:List (List Int)) (k i j:Nat):Prop:=ent (jba n T k) i j≠0
section
variable {n e:Nat} {T:List (List Int)}
theorem jdS (h:Sq n e T) (hn:n<=8) (a b:Nat) {i j:Nat} (hi:i<n) (hj:j<n):RP n T (a+b) i j↔ ∃k,k<n/\RP n T a i k/\RP n T b k j:=by
 unfold RP
 rw [pow_add h hn a b]
 exact jca (h.pow hn a) (h.pow hn b) hi hj
theorem jcD (h:Sq n e T) (hn:n<=8) {c x:Nat} (hx:x<n) (l:RP n T c x x): ∀q,RP n T (c*(q+1)) x x
 |0=>by rw [G2J,Nat.mul_one];exact l
 |q+1=>by
  rw [Nat.mul_succ]
  exact(jdS h hn _ _ hx hx).mpr ⟨x,hx,jcD h hn hx l q,l⟩
theorem jiO {i j:Nat} (hi:i<n) (hj:j<n):RP n T 0 i j↔i=j:=by
 unfold RP
 show ent (jfz n) i j≠0↔_
 unfold jfz
 rw [ja3 hi hj]
 by_cases z:i=j
 ·simp [z]
 ·simp [z]
theorem jkF (h:Sq n e T) (hn:n<=8): ∀ (m:Nat) {i j:Nat},i<n->j<n->RP n T m i j-> ∃v:Nat->Nat,v 0=i/\v m=j/\(∀t,t<=m->v t<n)/\ ∀t,t<m->RP n T 1 (v t) (v (t+1))
 |0,i,j,hi,hj,r=>by
  have:=(jiO hi hj).mp r
  exact⟨λ_=>i,rfl,this,λ_ _=>hi,λt ht=>by omega⟩
 |m+1,i,j,hi,hj,r=>by
  obtain⟨k,hk,r1,r2⟩:=(jdS h hn m 1 hi hj).mp r
  obtain⟨v,v0,vm,vl,vr⟩:=jkF h hn m hi hk r1
  refine⟨λt=>if t<=m then v t else j,?_,?_,λt _=> ?_,λt ht=> ?_⟩
  ·simp [v0]
  ·show (if m+1<=m then v (m+1) else j)=j
   rw [if_neg (by omega)]
  ·show (if t<=m then v t else j)<n
   split
   ·exact vl t (by assumption)
   ·exact hj
  ·show RP n T 1 (if t<=m then v t else j) (if t+1<=m then v (t+1) else j)
   rw [if_pos (by omega)]
   by_cases z:t+1<=m
   ·rw [if_pos z];exact vr t (by omega)
   ·rw [if_neg z,show t=m by omega,vm];exact r2
theorem jfg (h:Sq n e T) (hn:n<=8) {m:Nat} {v:Nat->Nat} (vl: ∀t,t<=m->v t<n) (vr: ∀t,t<m->RP n T 1 (v t) (v (t+1))) (a:Nat): ∀b,a+b<=m->RP n T b (v a) (v (a+b))
 |0,hb=>(jiO (vl a (by omega)) (vl a (by omega))).mpr rfl
 |b+1,hb=>(jdS h hn b 1 (vl a (by omega)) (vl _ hb)).mpr ⟨v (a+b),vl _ (by omega),jfg h hn vl vr a b (by omega),vr (a+b) (by omega)⟩
theorem jnN {n:Nat} {v:Nat->Nat} (hv: ∀t,t<=n->v t<n): ∃a b,a<b/\b<=n/\v a=v b:=by
 by_cases z: ∃a b,a<b/\b<=n/\v a=v b
 ·exact z
 ·exfalso
  have nd:((List.range (n+1)).map v).Nodup:=by
   unfold List.Nodup
   rw [G08]
   refine List.Pairwise.imp_of_mem (λ{a b} _ hb hab=> ?_) (List.pairwise_lt_range (n:=n+1))
   intro e
   exact z ⟨a,b,hab,by have:=G0q.mp hb;omega,e⟩
  have:=jdR nd (m:=List.range n) λx hx=>by
   obtain⟨t,ht,e⟩:=G0K.mp hx
   rw [<-e]
   exact G0q.mpr (hv t (by have:=G0q.mp ht;omega))
  simp at this
  omega
theorem jlU (h:Sq n e T) (h6:n<=6) {m i j:Nat} (hm:n<=m) (hi:i<n) (hj:j<n) (r:RP n T m i j):RP n T (m+60) i j:=by
 have hn:n<=8:=by omega
 obtain⟨v,v0,vm,vl,vr⟩:=jkF h hn m hi hj r
 obtain⟨a,b,hab,hbn,eq⟩:=jnN (n:=n) (v:=v) λt ht=>vl t (by omega)
 have ha:=vl a (by omega)
 have p1:RP n T a i (v a):=by have:=jfg h hn vl vr 0 a (by omega);rw [v0,G2J] at this;exact this
 have p2:RP n T (b-a) (v a) (v a):=by
  have:=jfg h hn vl vr a (b-a) (by omega)
  rw [show a+(b-a)=b by omega,<-eq] at this;exact this
 have p3:RP n T (m-a) (v a) j:=by
  have:=jfg h hn vl vr a (m-a) (by omega)
  rw [show a+(m-a)=m by omega,vm] at this;exact this
 have p4:RP n T 60 (v a) (v a):=by
  have hc:b-a=1\/b-a=2\/b-a=3\/b-a=4\/b-a=5\/b-a=6:=by omega
  rcases hc with c|c|c|c|c|c<;>rw [c] at p2
  ·exact jcD h hn ha p2 59
  ·exact jcD h hn ha p2 29
  ·exact jcD h hn ha p2 19
  ·exact jcD h hn ha p2 14
  ·exact jcD h hn ha p2 11
  ·exact jcD h hn ha p2 9
 have p5:RP n T (60+(m-a)) (v a) j:=(jdS h hn _ _ ha hj).mpr ⟨v a,ha,p4,p3⟩
 have p6:RP n T (a+(60+(m-a))) i j:=(jdS h hn _ _ hi hj).mpr ⟨v a,ha,p1,p5⟩
 rw [show a+(60+(m-a))=m+60 by omega] at p6;exact p6
end
theorem jbO {n:Nat} {f g:Nat->Int} (h: ∀k,k<n->f k<=g k):jar n f<=jar n g:=by
 induction n with
 |zero=>exact G3g _
 |succ n ih=>rw [jap,jap];have:=ih λk hk=>h k (by omega);have:=h n (by omega);omega
theorem jc4 {n:Nat} {f g:Nat->Int} (h: ∀k,k<n->f k<=g k) (e:jar n g<=jar n f): ∀k,k<n->f k=g k:=by
 induction n with
 |zero=>intro k hk;omega
 |succ n ih=>
  rw [jap,jap] at e
  have a:=jbO λk (hk:k<n)=>h k (by omega)
  have b:=h n (by omega)
  intro k hk
  by_cases z:k=n
  ·subst z;omega
  ·exact ih (λk hk=>h k (by omega)) (by omega) k (by omega)
section
variable {n e:Nat} {T:List (List Int)}
def tot (n:Nat) (T:List (List Int)) (k:Nat):Int:=jar n λi=>jar n λj=>ent (jai n (jba n T k)) i j
theorem jbP {M:List (List Int)} {i j:Nat} (hi:i<n) (hj:j<n):ent (jai n M) i j=if ent M i j=0 then 0 else 1:=ja3 hi hj
theorem jiP (h:Sq n e T) (h6:n<=6) {m:Nat} (hm:n<=m): ∀i j,i<n->j<n->ent (jai n (jba n T m)) i j<=ent (jai n (jba n T (m+60))) i j:=λi j hi hj=>by
 rw [jbP hi hj,jbP hi hj]
 by_cases z:ent (jba n T m) i j=0
 ·rw [if_pos z];split<;>omega
 ·rw [if_neg z,if_neg (jlU h h6 hm hi hj z)];exact G3g _
theorem jj6 (h:Sq n e T) (h6:n<=6) {m:Nat} (hm:n<=m):jai n (jba n T m)=jai n (jba n T (m+60))\/tot n T m+1<=tot n T (m+60):=by
 have le:=jiP h h6 hm
 have a:tot n T m<=tot n T (m+60):=jbO λi hi=>jbO λj hj=>le i j hi hj
 by_cases z:tot n T (m+60)<=tot n T m
 ·left
  refine(Sq.mark (n:=n) _).ext (Sq.mark (n:=n) _) λi j hi hj=> ?_
  have b:=jc4 (λi hi=>jbO λj hj=>le i j hi hj) z i hi
  exact jc4 (λj hj=>le i j hi hj) (by rw [b];exact G3g _) j hj
 ·right;omega
theorem jf9 (k:Nat) (h6:n<=6):0<=tot n T k/\tot n T k<=36:=by
 have r: ∀i,i<n->0<=(jar n λj=>ent (jai n (jba n T k)) i j)/\(jar n λj=>ent (jai n (jba n T k)) i j)<=6:=λi hi=>by
  have a: ∀j,j<n->0<=ent (jai n (jba n T k)) i j/\ent (jai n (jba n T k)) i j<=1:=λj hj=>by
   rw [jbP hi hj];split<;>omega
  refine⟨jco λj hj=>(a j hj).1,?_⟩
  have:=jdv (f:=λj=>ent (jai n (jba n T k)) i j) λj hj=>(a j hj).2
  omega
 refine⟨jco λi hi=>(r i hi).1,?_⟩
 have b:=jdv (f:=λi=>jar n λj=>ent (jai n (jba n T k)) i j) λi hi=>(r i hi).2
 unfold tot
 omega
theorem jhG (h:Sq n e T) (h6:n<=6): ∃t,t<=36/\jai n (jba n T (n+60*t))=jai n (jba n T (n+60*(t+1))):=by
 by_cases z: ∃t,t<=36/\jai n (jba n T (n+60*t))=jai n (jba n T (n+60*(t+1)))
 ·exact z
 ·exfalso
  have g: ∀t:Nat,t<=37->(t:Int)<=tot n T (n+60*t):=by
   intro t
   induction t with
   |zero=>intro _;exact(jf9 _ h6).1
   |succ t ih=>
    intro ht
    have a:=ih (by omega)
    rcases jj6 h h6 (m:=n+60*t) (by omega) with b|b
    ·exact(z ⟨t,by omega,by rw [b];rfl⟩).elim
    ·have e1:n+60*t+60=n+60*(t+1):=by omega
     rw [e1] at b
     omega
  have a:=g 37 (G0d _)
  have b:=(jf9 (T:=T) (n+60*37) h6).2
  omega
theorem jiQ (h:Sq n e T) (h1:1<=n) (h6:n<=6) {L:Nat} (nd:((List.range L).map (jat n T)).Nodup):L<=2225:=by
 by_cases z:L<=2225
 ·exact z
 ·exfalso
  obtain⟨t,ht,eq⟩:=jhG h h6
  have e1:jat n T (n+60*t-1)=jat n T (n+60*t+59):=by
   rw [jbh h (by omega),jbh h (by omega),show n+60*t-1+1=n+60*t by omega,show n+60*t+59+1=n+60*(t+1) by omega]
   exact eq
  have inj:=nd
  unfold List.Nodup at inj
  rw [G08] at inj
  have h2:=G0V.mp inj (n+60*t-1) (n+60*t+59) (by simp;omega) (by simp;omega) (by omega)
  simp only [G1n] at h2
  exact h2 e1
structure Course (n:Nat) (T:List (List Int)) (L J:Nat):Prop where
 nd:((List.range L).map (jat n T)).Nodup
 lt:J<L
 eq:jat n T L=jat n T J
theorem jiR {L a b:Nat} {f:Nat->List (List Int)} (nd:((List.range L).map f).Nodup) (hab:a<b) (hb:b<L):f a≠f b:=by
 unfold List.Nodup at nd
 rw [G08] at nd
 have h2:=G0V.mp nd a b (by simp;omega) (by simp;omega) hab
 simpa using h2
theorem Course.one {L J L' J' :Nat} (c:Course n T L J) (d:Course n T L' J'):L=L' /\J=J' :=by
 have hl:L=L' :=by
  rcases G2m L L' with a|a|a
  ·exact(jiR d.nd c.lt a c.eq.symm).elim
  ·exact a
  ·exact(jiR c.nd d.lt a d.eq.symm).elim
 subst hl
 refine⟨rfl,?_⟩
 have e:=c.eq.symm.trans d.eq
 rcases G2m J J' with a|a|a
 ·exact(jiR c.nd a d.lt e).elim
 ·exact a
 ·exact(jiR c.nd a c.lt e.symm).elim
end
structure Grid (n:Nat) (h0 h:HD) (p R:Addr) (rs:List Addr):Prop where
 at_:h R=some (rs.map D.lst)
 len:rs.length=n
 nR:R ∉ rs
 fR:h0 R=none
 np:p ∉ rs
 nRp:R≠p
 row: ∀a∈rs,h0 a=none/\ ∃r,h a=some (r.map D.int)/\jfb n r
def jj7 (n:Nat) (T:List (List Int)) (L:Nat):PyData:= .list ((List.range L).map λi=>jdp (jat n T i))
theorem jga {h:HD} {n L:Nat} {T:List (List Int)} {A:Addr} (k:h A=some ((List.range L).map λi=>jah (jat n T i))):ToP h (.lst A) (jj7 n T L):=by
 refine⟨A,_,rfl,k,?_⟩
 have:=encT.tos h ((List.range L).map (jat n T))
 rw [G0L,G0L] at this
 exact this
theorem call_divmodB {X:Cx}:CallR X (.builtin "divmod") (λxs H Q=> ∃i j,xs= [.int i,.int j]/\(0<j/\j<2^200)/\ ∀p,H p=none->Q (.ref p) (upd H p (.tup [.int (i / j),.int (i%j)]))):=by
 intro pins s σ H xs us Q I r h
 obtain⟨i,j,rfl,⟨h1,h2⟩,q⟩:=h
 obtain⟨u,w',rfl,⟨t,rfl⟩,⟨t',rfl⟩⟩:=jjy r
 refine divmod_int (by omega) ?_ (.inl (PyProof.noPylong_of_log2 ?_))
 ·rw [G2E i (by omega),G2F i (by omega)]
  have hn:H s.heap.objs.size=none:=I.hok.fresh (G0d _)
  refine⟨.ref s.heap.objs.size,_,?_,rfl,q _ hn⟩
  refine I.laid (λb o e=>G0b _ e) (G0d _) ⟨by simp only [G0e,G0F];rw [sizeLine_eq];decide,[.int (i / j) s.toks,.int (i%j) (s.toks+1)],.cons ⟨_,rfl⟩ (.cons ⟨_,rfl⟩ .nil),?_⟩
  exact⟨_,G0m s.heap rfl,rfl,rfl,0,rfl⟩
 ·have h3:j.natAbs<2^200:=jdO (by omega) h2
  have h4:=(Nat.log2_lt (by omega:j.natAbs≠0)).mpr h3
  omega
def jlV:RDn:=λds h Q=> ∃i j:Int,ds= [.int i,.int j]/\(0<j/\j<2^200)/\Q (.tup [.int (i / j),.int (i%j)]) h
theorem jhH {X:Cx}:jcO X (.builtin "divmod") jlV:=call_divmodB.imp λxs H Q ⟨ds,h,Qd,r,rh,⟨i,j,e,c,q⟩,p⟩=>by
 subst e
 obtain⟨v,w,e,r1,r2⟩:=jbE r
 cases (show v= .int i from r1)
 cases (show w= .int j from r2)
 exact⟨i,j,e,c,λa ha=>p (.tup [.int (i / j),.int (i%j)]) _ _ _ (.new ha) (rh.new ha) ⟨a,_,rfl,jam,.cons rfl (.cons rfl .nil)⟩ q⟩
theorem jnO {n:Nat} {T:List (List Int)} {L J:Nat} (c:Course n T L J) {i:Nat} (hi:J<=i):jat n T (J+(i-J)%(L-J))=jat n T i:=jlR c.eq c.lt hi
theorem jiS {A B:List (List Int)} {h:HD} {Q:KD} (q:Q (.bl (decide (A=B))) h):eqE (jah A) (jah B) h Q:=
 ⟨_,_,jbX _ _,jbX _ _,jaY _,jaY _,by rw [show PyData.eqv (jdp A) (jdp B)=decide (A=B) from jaL A B];exact q⟩
structure TabsOk (n:Nat) (Ts:List (List (List Int))):Prop where
 n1:1<=n
 n3:n<=3
 l1:1<=Ts.length
 l3:Ts.length<=3
 sq: ∀T∈Ts,Sq n 20 T
def jcE (d:D) (a b:Int):Bool:=match d with
 | .int x=>decide (a<=x)&&decide (x<=b)
 |_=>false
def jfh (d:D) (m:Int):Bool:=match d with
 | .tup es=>es.all λx=>jcE x 0 (m-1)
 |_=>false
theorem jeK: ∀Ts:List (List (List Int)),PyData.depthAll (Ts.map jdp)<=5
 | []=>by simp [PyData.depthAll]
 |T::Ts=>by
  have:=jeK Ts
  have h2:=jbN T
  simp only [G0v,PyData.depthAll,PyData.depth,jdp];omega
theorem jgL (Ts:List (List (List Int))):shaped (.list (Ts.map jdp))=true:=by
 unfold shaped
 have h1:PyData.canLay0 (.list (Ts.map jdp))=true:=by simp only [PyData.canLay0];exact encT.lays Ts
 have h2:=jeK Ts
 have h3:PyData.depth (.list (Ts.map jdp))<=64:=by simp only [PyData.depth];omega
 rw [h1,G0r h3];rfl
end L2
set_option maxRecDepth 35000
namespace L2
open PySem PySem.Spec PyProof.Rows PySem.SeqAt
def Sm (k b:Nat) (d:D):Prop:= ∃p:PyData,(∀h,ToP h d p)/\ShowB p k b/\p.canLay0=true
def bnd:Nat->Nat
 |0=>200
 |k+1=>(bnd k+2)*155+3
def SmK (k:Nat) (d:D):Prop:=Sm k (bnd k) d
structure SmN (n:Nat) (ds:List D):Prop where
 len:ds.length<=n
 sm: ∀d∈ds,SmK 1 d
def joQ (T:List (List Int)) (n p:Nat):List Nat:=(List.range n).filter λj=>decide (ent T p j>0)
def cnt (T:List (List Int)) (n o:Nat):Nat->Nat->Int
 |0,p=>if p=o then 1 else 0
 |t+1,p=>((joQ T n p).map (cnt T n o t)).sum
section
variable {T:List (List Int)} {n o:Nat}
def jp1 (T:List (List Int)) (n o t p:Nat):Nat:=(joQ T n p).findIdx λj=>decide (cnt T n o t j>0)
def nxt (T:List (List Int)) (n o t p:Nat):Nat:=(joQ T n p).getD (jp1 T n o t p) 0
end
theorem jj8 {α:Type} {xs:List α} {x:α} (h1:1<=xs.length) (h:xs[xs.length-1]? =some x):atI xs (-1)=some x:=by
 unfold atI ixN
 rw [if_neg (by decide),if_pos (by omega)]
 show xs[(-1+(xs.length:Int)).toNat]? =_
 rw [show (-1+(xs.length:Int)).toNat=xs.length-1 by omega];exact h
end L2
namespace L2
open PySem PySem.Spec PyProof.Rows
structure Fly (h0:Heap) (H:Hp) (h:Heap) (x C:Addr):Prop where
 ex: ∃ (oe:Obj) (vs:Array Value) (a0:Value) (T:Addr) (oT:Obj) (ts:Array Value),h.get? x=some oe/\oe.cls= .ref C/\oe.data= .fields vs/\vs[0]? =some a0/\vs[1]? =some (.ref T)/\T≠x/\
  h.get? T=some oT/\oT.data= .fields ts/\ts[3]? =some .none/\H T=none/\h0.get? T=none
 nx:H x=none
 n0:h0.get? x=none
def CXR (P:Program) (w:World):CXT:=λouter H s E e s' => ∃x C H',e= .ref x/\s'.os=s.os/\AllBare s'.gens/\Un (frs outer) [] H H' s.heap s'.heap/\HOk P w H' s'.heap/\Fly s.heap H' s'.heap x C/\E (.ref C) none H'
structure Rz0 (X:Cx):Prop where
 stk:X.stack=X.env::X.outer
 fr:X.env.frame=some X.env.locals
 ex:X.ex= []
structure Rz (X:Cx) (E:XK):Prop extends Rz0 X where
 xe: ∀e s',wpAny (model X.prog X.w) X.A (leaving X.env e) (λ_ s'' =>CXR X.prog X.w X.outer X.H₀ X.s₀ E e s'') (λe' s'' =>CXR X.prog X.w X.outer X.H₀ X.s₀ E e' s'') s' ->X.xe e s'
end L2
namespace L2
open PySem PySem.Spec PyProof.Rows PySem.W
structure LamOk (sc:Scope):Prop where
 kind:sc.kind= .function
 co:sc.isCoroutine=false
 gen:sc.isGenerator=false
 nocell: ∀y∈sc.names,y.2≠ .cell/\y.2≠ .local
structure Cap (N:List Str) (σ:St) (sc:Scope) (cl:List (Str×Addr)) (h:Heap) (H:Hp):Prop where
 len:σ.length=N.length
 inj: ∀x y c,cl.lookup x=some c->cl.lookup y=some c->x=y
 has: ∀x,sc.names.lookup x=some .free-> ∃c,cl.lookup x=some c
 cell: ∀x c,cl.lookup x=some c->(∃v,h.IsCell c v)/\H c=none
 loc: ∀ (i:Nat) (x:Str) (v:V),N[i]? =some x->σ[i]? =some (some v)->sc.names.lookup x=some .free-> ∃u c,RelV v u/\cl.lookup x=some c/\h.IsCell c (some u)
abbrev TXD:=SD->HD->(Str->HD->Prop)->Prop
def WX (X:Cx) (E:XK) (H:Hp) (R:Str->HD->Prop):Prop:= ∀c C h' H',Kept H H' ->RelH X.K h' H' ->X.mg c=some (.ref C)->R c h' ->E (.ref C) none H'
structure JX (X:Cx) (sts:List Stmt) (t:TXD):Prop where
 to: ∀ (E:XK),Rz X E-> ∀ (pins:List (Addr×Obj)) (s:Shared) (σ:St) (H:Hp) (σd:SD) (h:HD) (R:Str->HD->Prop),Inv X pins σ H s->RelS X.K H σd σ->RelH X.K h H->t σd h R->WX X E H R->
  wpAny (model X.prog X.w) X.A (execs sts X.env) (λ_ _=>False) X.xe s
structure JXE (X:Cx) (e:Expr) (t:TXD):Prop where
 to: ∀ (E:XK),Rz X E-> ∀ (pins:List (Addr×Obj)) (s:Shared) (σ:St) (H:Hp) (σd:SD) (h:HD) (R:Str->HD->Prop),Inv X pins σ H s->RelS X.K H σd σ->RelH X.K h H->t σd h R->WX X E H R->
  wpAny (model X.prog X.w) X.A (eval e X.env) (λ_ _=>False) X.xe s
abbrev RDx:=List D->HD->(Str->HD->Prop)->Prop
def bmV:List Value:= [.type "ValueError",.type "Exception",.type "BaseException",.type "object"]
def jp2 (K:PySem.W.Frag) (mg:Str->Option Value) (c:Str):Prop:= ∃C,mg c=some (.ref C)/\nsIn K mainGlobals c=some (some (.ref C))/\excIn K C bmV "ValueError.__new__" =true
end L2
namespace L2
open PySem PySem.Spec PyProof.Rows
structure RoomU (k:Nat) (A:Around):Prop where
 dp:A.depth+3*k+5<recursionLimit
 un:A.units+16*k+200<cLine
 gd:A.guards=some []
structure FnOkU (P:Program) (w:World) (K:PySem.W.Frag) (mg:Str->Option Value) (base:Heap) (CX:CXT) (k:Nat) (f:Addr) (fd:FuncData) (ps:List Str) (sp:Sp):Prop where
 len: ∀vs H Q E,sp vs H Q E->vs.length=ps.length
 run: ∀ (A:Around) (outer:List Env) (s:Shared) (H:Hp) (args:Args) (us:List Value) (vs:List V) (Q:VK) (E:XK),RoomU k A->Env0 P w K mg base A outer s H->BindsTo s fd args (ps.zip us)->Vals vs us->sp vs H Q E->
  codeAny (model P w) A (.call (.ref f) args) (CR CX outer P w H s Q E) s
structure FnOkS (P:Program) (w:World) (K:PySem.W.Frag) (mg:Str->Option Value) (base:Heap) (CX:CXT) (k:Nat) (f:Addr) (fd:FuncData) (ps:List Str) (sp:Shared->Sp):Prop where
 len: ∀s vs H Q E,sp s vs H Q E->vs.length=ps.length
 run: ∀ (A:Around) (outer:List Env) (s:Shared) (H:Hp) (args:Args) (us:List Value) (vs:List V) (Q:VK) (E:XK),Room k A->Env0 P w K mg base A outer s H->BindsTo s fd args (ps.zip us)->Vals vs us->sp s vs H Q E->
  codeAny (model P w) A (.call (.ref f) args) (CR CX outer P w H s Q E) s
end L2
namespace L2
open PySem PySem.Spec PyProof.Rows PySem.W PySem.Calls PySem.Builtin PySem.Builtin.ObjectAttr PySem.Builtin.Getset_descriptor
section
variable {prog:Program} {w:World} {A:Around} {E:Value->Shared->Prop} {s:Shared} {K:Frag} {x D:Addr}
structure ExcK (K:Frag) (D:Addr):Prop where
 cls:(clsIn K D).isSome=true
 ga:findIn K (.ref D) "__getattribute__" =some (some (.builtin "BaseException.__getattribute__"))
 hk:findIn K (.ref D) "__getattr__" =some none
 ca:findIn K (.ref D) "__class__" =some (some (.builtin "object.__class__"))
 gt:specialIn K (.builtin "object.__class__") "__get__" =some (some (.builtin "getset_descriptor.__get__"))
 tk:takesIn K (.builtin "object.__class__")=some true
 ob:mroIn K D (.type "object")=some true
 be:mroIn K D (.type "BaseException")=some true
end
end L2
namespace L2
open PySem PySem.Spec PyProof.Rows PySem.W
def CN:List Str:= ["NoTable","NoPlace","NoNumber","NoOrder","NoSet","NoWalk","NoLengths","NoWay","Apart","NoRow"]
def jpm:List Str:= ["NoTable","NoPlace","NoNumber","NoOrder","NoSet","NoWalk","NoLengths","NoWay","Apart","NoRow","NoTables","NoText","TooGreat"]
structure Exc (K:Frag) (mg:Str->Option Value):Prop where
 own: ∀c∈CN,jp2 K mg c
 ek: ∀c∈CN,∀C,mg c=some (.ref C)->ExcK K C
 kit: ∀c∈CN,∀d∈jpm,∀C D,mg c=some (.ref C)->mg d=some (.ref D)->kitOne K (.ref C) (.ref D)=some (c==d)
 val: ∀c∈CN,∀C,mg c=some (.ref C)->kitOne K (.ref C) (.type "ValueError")=some true
 pe: ∃pe,mg "PowerError" =some (.ref pe)/\ ∀c∈CN,∀C,mg c=some (.ref C)->exmOne K (.ref C) (.ref pe)=some true
 cls: ∀d∈jpm,∃D,mg d=some (.ref D)
 ve:mg "ValueError" =none
end L2
namespace L2
open PySem PySem.Spec PyProof.Rows PySem.SeqAt
section
variable {n e:Nat} {T:List (List Int)}
instance (k i j:Nat):Decidable (RP n T k i j):=inferInstanceAs (Decidable (ent (jba n T k) i j≠0))
end
structure GQ (n:Nat) (h0 h:HD) (p R:Addr) (rs:List Addr) (f:Nat->Nat->Int):Prop where
 at_:h R=some (rs.map D.lst)
 len:rs.length=n
 nR:R ∉ rs
 nd:rs.Nodup
 fR:h0 R=none
 np:p ∉ rs
 Rp:R≠p
 row: ∀i a,rs[i]? =some a->h0 a=none/\h a=some ((List.range n).map λj=>D.int (f i j))
 nn: ∀i j,0<=f i j/\f i j<=1000000
def gT3 (i j k:Nat):TGD:=λd σ h Q=> ∃x y z,d= .tup [x,y,z]/\Q (((σ.set i (some x)).set j (some y)).set k (some z)) h
theorem joR {K:PySem.W.Frag} (i j k:Nat): ∀v σ H Q,LG K (gT3 i j k) v σ H Q->jn2 K 3 (jfB (jcZ i) (jfB (jcZ j) (jfB (jcZ k) jn1))) v σ H Q:=λv σ H Q ⟨d,σd,h,Qd,r,rs,rh,⟨x,y,z,e,q⟩,p⟩=>by
 subst e
 obtain⟨a,vs,e,hH,rr⟩:=(show ∃a vs,v= .ref a/\H a=some (.tup vs)/\RelDs K H [x,y,z] vs from r)
 subst e
 obtain⟨v1,vr,e1,r1,rr⟩:=(show ∃v r,vs=v::r/\RelD K H x v/\RelDs K H [y,z] r from rr)
 obtain⟨v2,v3,e2,r2,r3⟩:=jbE rr
 subst e1 e2
 exact⟨a,[v1,v2,v3],rfl,SqT.of hH,rfl,v1,[v2,v3],rfl,v2,[v3],rfl,v3,[],rfl,rfl,p _ _ _ _ (.refl H) (((rs.set r1 i).set r2 j).set r3 k) rh q⟩
section
variable {X:Cx} {pos:Pos}
theorem joS {i j l:Nat} {x y z:Str} {p1 p2 p3:Pos} {k:Nat} (hc:X.calm=true) (hN:X.N.Nodup) (hi:X.N[i]? =some x) (hj:X.N[j]? =some y) (hl:X.N[l]? =some z) (hx:Loc X.env.scope x) (hy:Loc X.env.scope y) (hz:Loc X.env.scope z)
 (hf:X.fn x=true\/X.env.scope.names.lookup x=some .local:=by first|exact .inl rfl|exact .inr rfl|assumption) (hf2:X.fn y=true\/X.env.scope.names.lookup y=some .local:=by first|exact .inl rfl|exact .inr rfl|assumption) (hf3:X.fn z=true\/X.env.scope.names.lookup z=some .local:=by first|exact .inl rfl|exact .inr rfl|assumption):
 JG X (.Tuple [.Name x p1,.Name y p2,.Name z p3] k pos) (gT3 i j l):=⟨(jhY hc (jbR (jb6 hN hi hx hf) (jbR (jb6 hN hj hy hf2) (jbR (jb6 hN hl hz hf3) jgt)))).imp (joR i j l)⟩
end
end L2
namespace HT
open PySem PySem.Spec PyProof.Rows
theorem jfi {xs:Array Nat} {j:Nat} (r:xs.toList.Pairwise (· < ·)): ∀ (fuel lo hi:Nat),hi-lo<=fuel->hi<=xs.size->lo<=hi->(∀i,i<lo-> ∀v,xs[i]? =some v->v<j)->(∀i,hi<=i-> ∀v,xs[i]? =some v->j<=v)->
 (∀i,i<SetTable.below.go xs j fuel lo hi-> ∀v,xs[i]? =some v->v<j)/\(∀i,SetTable.below.go xs j fuel lo hi<=i-> ∀v,xs[i]? =some v->j<=v)/\SetTable.below.go xs j fuel lo hi<=xs.size
 |0,lo,hi,f,hs,lh,a,b=>by
  have:lo=hi:=by omega
  subst this
  exact⟨a,b,hs⟩
 |fuel+1,lo,hi,f,hs,lh,a,b=>by
  unfold SetTable.below.go
  by_cases c:lo<hi
  ·rw [if_pos c]
   have hm:(lo+hi) / 2<xs.size:=by omega
   have mono: ∀ (i k u v:Nat),i<=k->xs[i]? =some u->xs[k]? =some v->u<=v:=λi k u v ik e1 e2=>by
    rcases G1y i k with z|z
    ·have i1:=(G0J.mp e1)
     have i2:=(G0J.mp e2)
     obtain⟨h1,e1'⟩:=i1
     obtain⟨h2,e2'⟩:=i2
     have:=G0V.mp r i k (by simpa using h1) (by simpa using h2) z
     simp only [G2x] at this
     omega
    ·have:i=k:=by omega
     subst this;rw [e1] at e2;cases e2;exact G0d _
   have em:xs.getD ((lo+hi) / 2) j=xs[(lo+hi) / 2]:=by simp [Array.getD,hm]
   dsimp only
   by_cases d:xs.getD ((lo+hi) / 2) j<j
   ·rw [if_pos d]
    refine jfi r fuel _ hi (by omega) hs (by omega) (λi hi' v hv=> ?_) b
    have:=mono i ((lo+hi) / 2) v xs[(lo+hi) / 2] (by omega) hv (by simp [hm])
    omega
   ·rw [if_neg d]
    refine jfi r fuel lo _ (by omega) (by omega) (by omega) a (λi hi' v hv=> ?_)
    have:=mono ((lo+hi) / 2) i xs[(lo+hi) / 2] v hi' (by simp [hm]) hv
    omega
  ·rw [if_neg c]
   have:lo=hi:=by omega
   subst this
   exact⟨a,b,hs⟩
theorem jfj {xs:Array Nat} (r:xs.toList.Pairwise (· < ·)) (j:Nat):(∀i,i<SetTable.below xs j-> ∀v,xs[i]? =some v->v<j)/\(∀i,SetTable.below xs j<=i-> ∀v,xs[i]? =some v->j<=v)/\SetTable.below xs j<=xs.size:=
 jfi r xs.size 0 xs.size (by omega) (G0d _) (G1B _) (λi h=>absurd h (G1R _)) (λi h v e=>by rw [Array.getElem?_eq_none h] at e;cases e)
theorem jgM {xs:Array Nat} {j:Nat} (r:xs.toList.Pairwise (· < ·)) (no:xs[SetTable.below xs j]? ≠some j):(SetTable.insertAt xs (SetTable.below xs j) j).toList.Pairwise (· < ·):=by
 obtain⟨a,b,hs⟩:=jfj r j
 rw [G13,List.pairwise_append,List.pairwise_cons]
 have low: ∀v∈xs.toList.take (SetTable.below xs j),v<j:=λv hv=>by
  obtain⟨i,hi⟩:=G1X hv
  rw [List.getElem?_take] at hi
  split at hi
  ·rename_i c;exact a i c v (by simpa using hi)
  ·cases hi
 have high: ∀v∈xs.toList.drop (SetTable.below xs j),j<v:=λv hv=>by
  obtain⟨i,hi⟩:=G1X hv
  rw [G2K] at hi
  have hi' :xs[SetTable.below xs j+i]? =some v:=by simpa using hi
  have le:=b _ (Nat.le_add_right _ _) v hi'
  rcases G1y j v with z|z
  ·exact z
  ·have ev:v=j:=by omega
   subst ev
   cases i with
   |zero=>exact(no hi').elim
   |succ i=>
    obtain⟨h1,e1⟩:=G0J.mp hi'
    have h0:SetTable.below xs v<xs.size:=by omega
    have le0:=b _ (G0d _) xs[SetTable.below xs v] (by simp [h0])
    have lt:=G0V.mp r (SetTable.below xs v) (SetTable.below xs v+(i+1)) (by simpa using h0) (by simpa using h1) (by omega)
    simp only [G2x] at lt
    omega
 exact⟨r.sublist (List.take_sublist _ _),⟨high,r.sublist (List.drop_sublist _ _)⟩,λu hu v hv=>by
  rcases G0u.mp hv with e|e
  ·rw [e];exact low u hu
  ·exact G1I (low u hu) (high v e)⟩
structure Tab (L:Bool) (n:Nat) (t:SetTable):Prop where
 fits:t.fits n=true
 led:t.led=L
 dum:t.dummies= #[]
 rise:t.plain=true\/n<=1->t.place.toList.Pairwise (· < ·)
theorem jhI {t:SetTable} {j:Nat} (h:t.slot j= .empty):t.place[SetTable.below t.place j]? ≠some j:=λe=>by
 unfold SetTable.slot at h
 dsimp only at h
 rw [if_pos (by rw [e];exact G1w _)] at h
 cases h
theorem jeL {t:SetTable} {j:Nat} (d:t.dummies= #[]):t.slot j≠ .dummy:=λh=>by
 unfold SetTable.slot at h
 dsimp only at h
 split at h
 ·cases h
 ·rw [d] at h
  have:SetTable.has #[] j=false:=by unfold SetTable.has;simp
  rw [this] at h
  cases h
theorem jfk (f:Nat->Option Nat): ∀l:List Nat,((l.filterMap λj=>(f j).map (j,·)).map (·.1)).Sublist l
 | []=> .slnil
 |j::l=>by
  rw [List.filterMap_cons]
  cases e:(f j).map (j,·) with
  |none=>exact(jfk f l).cons _
  |some q=>
   obtain⟨v,_,rfl⟩:=G2f.mp e
   exact(jfk f l).cons₂ _
abbrev jdT (es:Array (Int×Value)) (ep:Nat) (t:SetTable):Obj:= {cls:= .type "set",dict:=none,data:= .set es ep t,slots:= #[]}
def jpn (e:Int×Value):Int:=match e.2 with
 | .int n _=>n
 |_=>0
structure SetI (L:Bool) (es:Array (Int×Value)) (t:SetTable) (ns:List Int):Prop where
 tab:Tab L es.size t
 nums: ∀e∈es.toList,∃n tk,e=(hashInt n,.int n tk)
 nd:(es.toList.map jpn).Nodup
 mem: ∀n,n∈es.toList.map jpn↔n∈ns
theorem jdU:plainId "set.update.loop" =true:=by decide +kernel
theorem jgb:entryFor table "set.update.loop" =some Builtin.«set.update.loop» :=entryFor_of_fast (by kernel_rfl)
theorem jel:entryFor table "set.__init__" =some Builtin.«set.__init__» :=entryFor_of_fast (by kernel_rfl)
abbrev jdV (w:World):Bool:= !(w.params.followText "set-order")
theorem jj9 (L:Bool):SetI L #[] (.fresh 0 0 L) []:=⟨⟨rfl,rfl,rfl,λ_=> .nil⟩,λe he=>by simp at he,by simp,λn=>by simp⟩
theorem jdW:isSubtype (.type "set") (.type "set")=pure true:=by rw [G2n];kernel_rfl
theorem jgc:isSubtype (.type "list") (.type "set")=pure false:=by rw [G2n];kernel_rfl
theorem jgd:isSubtype (.type "list") (.type "frozenset")=pure false:=by rw [G2n];kernel_rfl
theorem jgN:isSubtype (.type "tuple") (.type "set")=pure false:=by rw [G2n];kernel_rfl
theorem jgO:isSubtype (.type "tuple") (.type "frozenset")=pure false:=by rw [G2n];kernel_rfl
section
variable {prog:Program} {w:World} {A:Around} {E:Value->Shared->Prop} {s:Shared}
theorem jka {x:Value} {P:PySem.Fin->Shared->Prop} (h:P (.done (.ret (.ref s.heap.objs.size))) {s with heap:=s.heap.push (jdT #[] 0 (.fresh 0 0 (jdV w)))}):
 wpAny (model prog w) A (Builtin.«set.__new__» ⟨[.type "set",x],[]⟩) P E s:=by
 have fine:=jdW
 obtain⟨hp,g,d,tk,os⟩:=s
 have told: ∀ {Q:Setting->Shared->Prop} {E' :Value->Shared->Prop} {A' :Around} {s' :Shared},Q ⟨prog,w.params⟩ s' ->wpAny (model prog w) A' ask Q E' s' :=λq=>wpAny_askSetting q
 wp_walk using told
 exact h
theorem jfl {M:Model} {o x:Value} {Q:Unit->Shared->Prop} (ty:s.TypeIs o "set") (q:Q () s):wpAny M A (checkBuiltinCall "set.__init__" ⟨[o,x],[]⟩) Q E s:=by
 have fine:=jdW
 unfold checkBuiltinCall
 rw [kind_set_init,split_set_init,sig_set_init]
 wp_walk using PyProof.Rows.printed_name (n:= "set") (by decide),PyProof.Rows.printed_star (self:=o) rfl ty
 exact q
end
inductive Mode (w:World) (a:Addr) (es:Array (Int×Value)) (ep:Nat) (t:SetTable):List Value->(Value->Nat->Heap->Prop)->Addr->Prop
 |text (b:w.params.followText "set-order" =true):Mode w a es ep t ((pickOrder (w.params.setOrder a ep) es).toList.map (·.2)) (λf _ _=>f=rawInt 0) a
 |drawn (b:w.params.followText "set-order" =false) (d:t.plain=false) (two:1<es.size) (ord:List Nat) (p:ord.Perm (List.range es.size)) (tp:Addr):
  Mode w a es ep t (ord.map λj=>(es.getD j (0,.none)).2) (λf _ h=>f= .ref tp/\h.IsTuple tp (ord.map λj=>rawInt (j:Nat)).toArray) tp
 |table (b:w.params.followText "set-order" =false) (d:t.plain=true\/es.size<=1):Mode w a es ep t (es.toList.map (·.2)) (λf i _=> ∃slot:Nat,f=rawInt slot/\SetTable.below t.place slot=i) a
end HT
namespace L2
section
variable {n e:Nat} {T:List (List Int)}
theorem jiT:jai n (jbL n T)=jbL n (jai n T):=by
 unfold jbL
 refine jdu λi j hi hj=> ?_
 show (if ent (mkT n λi j=>ent T j i) i j=0 then (0:Int) else 1)=ent (jai n T) j i
 rw [ja3 hi hj,jff hj hi]
theorem jkb {o:List Nat} (lt: ∀i,i<n->o.idxOf i<n):jai n (jdo n o T)=jdo n o (jai n T):=by
 unfold jdo
 refine jdu λi j hi hj=> ?_
 show (if ent (mkT n λi j=>ent T (o.idxOf i) (o.idxOf j)) i j=0 then (0:Int) else 1)=ent (jai n T) (o.idxOf i) (o.idxOf j)
 rw [ja3 hi hj,jff (lt i hi) (lt j hj)]
theorem jnP {o:List Nat} (ho:Ordr n o) {i:Nat} (hi:i<n):o.idxOf i<n:=by
 have hl:o.length=n:=by have:=ho.length_eq;rwa [G0h] at this
 have:=G1G.mpr (ho.mem_iff.mpr (G0q.mpr hi))
 omega
theorem jiU {o:List Nat} (ho:Ordr n o) {i:Nat} (hi:i<n):o.idxOf (o.getD i 0)=i/\o.getD i 0<n:=by
 have hl:o.length=n:=by have:=ho.length_eq;rwa [G0h] at this
 have hi' :i<o.length:=by omega
 have nd:o.Nodup:=ho.nodup_iff.mpr G2t
 have e:o.getD i 0=o[i]:=by simp [hi']
 rw [e]
 refine⟨?_,G0q.mp (ho.mem_iff.mp (G1g hi'))⟩
 exact nd.idxOf_getElem i hi'
end
inductive Made (L:List Nat):Nat->Prop
 |z:Made L 0
 |s {n l:Nat}:Made L n->l∈L->Made L (n+l)
structure Lens (L:List Nat):Prop where
 rise:L.Pairwise (· < ·)
 lo: ∀l∈L,1<=l
 hi: ∀l∈L,l<=12
 some:1<=L.length
 few:L.length<=6
end L2
namespace HT
open PySem PyProof.Rows
section
variable {κ:Type} {U:κ->Prop} {R:κ->κ->Bool} {al bl:List κ}
structure Ordd (U:κ->Prop) (R:κ->κ->Bool):Prop where
 asym: ∀x y,U x->U y->R x y=true->R y x=false
 neg: ∀x y z,U x->U y->U z->R x z=true->R x y=true\/R y z=true
abbrev Srt (R:κ->κ->Bool) (l:List κ):Prop:=l.Pairwise λx y=>R y x=false
structure MI (R:κ->κ->Bool) (al bl:List κ) (ia ib:Nat) (out:List κ):Prop where
 perm:out.Perm (al.take ia++bl.take ib)
 srt:Srt R out
 ra: ∀x∈out,∀y∈al.drop ia,R y x=false
 rb: ∀x∈out,∀y∈bl.drop ib,R y x=false
end
section
variable {prog:Program} {w:World} {A:Around} {E:Value->Shared->Prop} {J:Shared->Prop} {κ:SortKind} {U:Keyed->Prop} {R:Keyed->Keyed->Bool}
structure Two (U:Keyed->Prop) (R:Keyed->Keyed->Bool) (a b:Array Keyed):Prop where
 o:Ordd U R
 ua: ∀x∈a.toList,U x
 ub: ∀x∈b.toList,U x
 sa:Srt R a.toList
 sb:Srt R b.toList
 last: ∀y∈b.toList,∀z,a.toList[a.toList.length-1]? =some z->R y z=true
end
section
variable {prog:Program} {w:World} {A:Around} {E:Value->Shared->Prop} {J:Shared->Prop} {κ:SortKind} {U:Keyed->Prop} {R:Keyed->Keyed->Bool}
structure TwoH (U:Keyed->Prop) (R:Keyed->Keyed->Bool) (a b:Array Keyed):Prop where
 o:Ordd U R
 ua: ∀x∈a.toList,U x
 ub: ∀x∈b.toList,U x
 sa:Srt R a.toList
 sb:Srt R b.toList
 first: ∀z∈a.toList,∀y,b.toList[0]? =some y->R y z=true
end
section
variable {prog:Program} {w:World} {A:Around} {E:Value->Shared->Prop} {J:Shared->Prop} {κ:SortKind} {U:Keyed->Prop} {R:Keyed->Keyed->Bool}
def seg (l:List Keyed) (p n:Nat):List Keyed:=(l.drop p).take n
end
section
variable {prog:Program} {w:World} {A:Around} {E:Value->Shared->Prop} {J:Shared->Prop} {κ:SortKind} {U:Keyed->Prop} {R:Keyed->Keyed->Bool}
abbrev Dsc (R:Keyed->Keyed->Bool) (l:List Keyed):Prop:=l.Pairwise λx y=>R x y=false
end
section
variable {prog:Program} {w:World} {A:Around} {E:Value->Shared->Prop} {J:Shared->Prop} {κ:SortKind} {U:Keyed->Prop} {R:Keyed->Keyed->Bool}
structure Fall (R:Keyed->Keyed->Bool) (T Z1 Z2:List Keyed) (n:Nat):Prop where
 len:(Z1++Z2).length=n
 perm:(Z1++Z2).Perm (T.take n)
 dsc:Dsc R (Z1++Z2)
 alike: ∀x∈Z2,∀y∈Z2,R x y=false
 ne:1<=Z2.length
end
section
variable {prog:Program} {w:World} {A:Around} {E:Value->Shared->Prop} {J:Shared->Prop} {κ:SortKind} {U:Keyed->Prop} {R:Keyed->Keyed->Bool}
def Stk (R:Keyed->Keyed->Bool) (l:List Keyed):List (Nat×Nat×Nat)->Nat->Nat->Prop
 | [],s,e=>s=e
 |(p,n,_)::rest,s,e=>p=s/\1<=n/\Srt R (seg l p n)/\Stk R l rest (s+n) e
structure Bt (R:Keyed->Keyed->Bool) (κ:SortKind) (l0:List Keyed) (lo:Nat) (st:SortSt):Prop where
 kind:kindOf st=κ
 failed:failedOf st=none
 perm:(arrOf st).toList.Perm l0
 stk:Stk R (arrOf st).toList (pendingOf st).toList 0 lo
end
section
variable {prog:Program} {w:World} {A:Around} {E:Value->Shared->Prop} {s:Shared} {κ:SortKind} {U:Keyed->Prop} {R:Keyed->Keyed->Bool}
abbrev joT (h h' :Heap):Prop:= ∀b o,h.get? b=some o->h'.get? b=some o
end
end HT
namespace L2
open PySem PySem.Spec PyProof.Rows PySem.SeqAt
structure GB (n:Nat) (h0 h:HD) (R:Addr) (rs:List Addr) (f:Nat->Nat->Bool):Prop where
 at_:h R=some (rs.map D.lst)
 len:rs.length=n
 nR:R ∉ rs
 nd:rs.Nodup
 sb:Sub h0 h
 row: ∀i a,rs[i]? =some a->h0 a=none/\h a=some ((List.range n).map λj=>D.bl (f i j))
structure LevOk (n t:Nat) (w:List Nat):Prop where
 len:w.length=t+1
 lt: ∀i∈w,i<n
 nd:w.Nodup
 low: ∀i∈w,w.headD 0<=i
end L2
namespace HT
open PySem PySem.Spec PyProof.Rows
section
variable {prog:Program} {w:World} {A:Around} {E:Value->Shared->Prop} {s:Shared} {h0:Heap} {l I S:Addr} {vs:List Value} {lt:Value->Value->Bool}
structure At (h0:Heap) (l I S:Addr) (vs:List Value) (i:Nat) (st:Array Value) (h:Heap):Prop where
 kept:joT h0 h
 it:h.IsListIter I l i
 lst:h.IsList l vs.toArray
 store: ∃c,h.get? S=some (seqObj "list" st c)
end
end HT
namespace HT
open PySem PySem.Spec PyProof.Rows PySem.SeqAt
open PySem.AutoSeq1 (wpAny_loadPart')
open PySem.MeetsSeq PySem.MeetsSeq2 PySem.MeetsSeq3
inductive Lx (prog:Program) (w:World) (A:Around) (s:Shared):List Value->List Value->Bool->Prop
 |nn:Lx prog w A s [] [] false
 |nc (u:Value) (us:List Value):Lx prog w A s [] (u::us) true
 |cn (v:Value) (vs:List Value):Lx prog w A s (v::vs) [] false
 |same {v u:Value} {vs us:List Value} {b:Bool} (e:EqAt A s v u true) (t:Lx prog w A s vs us b):Lx prog w A s (v::vs) (u::us) b
 |unlike {v u:Value} {vs us:List Value} {b:Bool} (e:EqAt A s v u false) (t: ∀ (Q E:Value->Shared->Prop),Q (.bool b) s->wpAny (model prog w) A (richCompare .Lt v u) Q E s):Lx prog w A s (v::vs) (u::us) b
end HT
namespace L2
open PySem PySem.Spec PyProof.Rows PySem.SeqAt HT
open Classical in
noncomputable def readOf (h:Heap) (v:Value):PyData:=if e: ∃p as,p.canLay0=true/\Reads h v p as then e.choose else .none
end L2
namespace L2
open PySem PySem.Spec PyProof.Rows PySem.SeqAt
structure LensE (L:List Nat):Prop where
 rise:L.Pairwise (· < ·)
 lo: ∀l∈L,1<=l
 hi: ∀l∈L,l<=12
 few:L.length<=6
end L2
namespace L2
open PySem PySem.Spec PyProof.Rows
def s5:Nat->Nat
 |0=>0
 |d+1=>5*s5 d+1
theorem jiV: ∀d,4*s5 d+1=5^d
 |0=>rfl
 |d+1=>by have:=jiV d;rw [G09];show 4*(5*s5 d+1)+1=_;omega
theorem jkG (a:Nat): ∀b,s5 (a+b)=5^b*s5 a+s5 b
 |0=>by show s5 a=1*s5 a+0;omega
 |b+1=>by
  show 5*s5 (a+b)+1=5^(b+1)*s5 a+(5*s5 b+1)
  rw [jkG a b,G09,G3h,G2p (5^b) 5,G3l];omega
theorem jkH: ∀d,s5 d%2=d%2
 |0=>rfl
 |d+1=>by have:=jkH d;show (5*s5 d+1)%2=_;omega
theorem jnQ (m:Nat):s5 (2*m)=2*(s5 m*(2*s5 m+1)):=by
 rw [Nat.two_mul,jkG,<-jiV m]
 have:(4*s5 m+1)*s5 m+s5 m=2*(s5 m*(2*s5 m+1)):=by
  rw [Nat.add_mul,G3h,G3h]
  have e1:4*s5 m*s5 m=4*(s5 m*s5 m):=G3l ..
  have e2:s5 m*(2*s5 m)=2*(s5 m*s5 m):=by rw [Nat.mul_left_comm]
  rw [e1,e2];omega
 exact this
theorem jkI (k x:Nat):Nat.Coprime (2^k) (2*x+1):=by
 refine Nat.Coprime.pow_left k ?_
 show Nat.gcd 2 (2*x+1)=1
 rw [Nat.gcd_rec,show (2*x+1)%2=1 by omega];rfl
theorem jkJ: ∀ (k d:Nat),2^k∣s5 d->2^k∣d
 |0,d,_=>by rw [G2r];exact Nat.one_dvd _
 |k+1,d,h=>by
  have ev:d%2=0:=by
   rw [<-jkH d]
   exact Nat.mod_eq_zero_of_dvd (Nat.dvd_trans ⟨2^k,by rw [G09,G2p]⟩ h)
  obtain⟨m,rfl⟩: ∃m,d=2*m:=⟨d / 2,by omega⟩
  rw [jnQ,G09,G2p] at h
  have h1:2^k∣s5 m*(2*s5 m+1):=Nat.dvd_of_mul_dvd_mul_left (by decide) h
  have h2:=jkJ k m ((jkI k (s5 m)).dvd_of_dvd_mul_right h1)
  rw [G09,G2p]
  exact Nat.mul_dvd_mul_left 2 h2
def f5 (N:Nat):Nat->Nat->Nat
 |0,a=>a
 |d+1,a=>(f5 N d a*5+1)%N
theorem jnR {N:Nat} (a:Nat): ∀d,f5 N d a%N=(5^d*a+s5 d)%N
 |0=>by show a%N=(1*a+0)%N;rw [Nat.one_mul,G28]
 |d+1=>by
  show (f5 N d a*5+1)%N%N=(5^(d+1)*a+(5*s5 d+1))%N
  rw [Nat.mod_mod,Nat.add_mod,Nat.mul_mod,jnR a d,<-Nat.mul_mod,<-Nat.add_mod,Nat.add_mul,G09]
  congr 1
  have:5^d*a*5=5^d*5*a:=by rw [Nat.mul_right_comm]
  omega
theorem jnS {N:Nat} (hN:0<N) {a:Nat} (ha:a<N): ∀d,f5 N d a<N
 |0=>ha
 |d+1=>G2R _ hN
theorem jkK {N:Nat} (a:Nat) (b:Nat): ∀d,f5 N (b+d) a=f5 N d (f5 N b a)
 |0=>rfl
 |d+1=>by show (f5 N (b+d) a*5+1)%N=_;rw [jkK a b d];rfl
theorem jkc {k a d:Nat} (ha:a<2^k) (d0:0<d) (hd:d<2^k):f5 (2^k) d a≠a:=λe=>by
 have e1:=jnR (N:=2^k) a d
 rw [e] at e1
 have le:a<=5^d*a+s5 d:=G0R (Nat.le_mul_of_pos_left a (Nat.pow_pos (by decide))) (Nat.le_add_right _ _)
 have dv:2^k∣5^d*a+s5 d-a:=Nat.dvd_of_mod_eq_zero (Nat.sub_mod_eq_zero_of_mod_eq e1.symm)
 have e2:5^d*a+s5 d-a=s5 d*(2*(2*a)+1):=by
  rw [<-jiV d,Nat.add_mul,G3h]
  have:4*s5 d*a=s5 d*(2*(2*a)):=by
   rw [G2p 4,G3l];congr 1;omega
  omega
 rw [e2] at dv
 have:=Nat.le_of_dvd d0 (jkJ k d ((jkI k (2*a)).dvd_of_dvd_mul_right dv))
 omega
theorem jlW {N:Nat} {a:Nat} {k:Nat} (hN:N=2^k) (ha:a<N): ∀ {i j:Nat},i<j->j<N->f5 N i a≠f5 N j a:=λ{i j} ij jN e=>by
 subst hN
 have:=jkK (N:=2^k) a i (j-i)
 rw [G1r (G0X ij)] at this
 exact jkc (jnS (Nat.pow_pos (by decide)) ha i) (by omega) (by omega) ((this.symm.trans e.symm))
theorem jlX {N:Nat}: ∀ {xs:List Nat},xs.Nodup->(∀x∈xs,x<N)->N<=xs.length-> ∀e,e<N->e∈xs:=λ{xs} nd lt le e he=>by
 have p:(List.range N).length<=(xs.filter λx=>decide (x<N)).length:=by
  rw [G0h,List.filter_eq_self.mpr λx hx=>G0r (lt x hx)];exact le
 refine G1C λno=> ?_
 have key: ∀ (ys zs:List Nat),ys.Nodup->(∀y∈ys,y∈zs)->ys.length<=zs.length:=by
  intro ys
  induction ys with
  |nil=>intro zs _ _;exact G1B _
  |cons y ys ih=>
   intro zs d s
   obtain⟨d1,d2⟩:=G01.mp d
   have hy:=s y G0B
   have:=ih (zs.erase y) d2 λx hx=>(G1W (show x≠y from λq=>d1 (by rw [<-q];exact hx))).mpr (s x (G0w _ hx))
   rw [G1H hy] at this
   have:0<zs.length:=G1L hy
   rw [G0e];omega
 have:=key (e::xs) (List.range N) (G01.mpr ⟨no,nd⟩) λy hy=>by
  rcases G0u.mp hy with q|q
  ·rw [q];exact G0q.mpr he
  ·exact G0q.mpr (lt y q)
 rw [G0e,G0h] at this
 omega
theorem jkL {N k a e:Nat} (hN:N=2^k) (ha:a<N) (he:e<N): ∃m,m<N/\f5 N m a=e:=by
 have nd:((List.range N).map λm=>f5 N m a).Nodup:=by
  rw [List.Nodup,G08]
  refine G0V.mpr λi j hi hj ij=> ?_
  rw [G1n,G1n]
  rw [G0h] at hj
  exact jlW hN ha ij hj
 have:=jlX nd (λx hx=>by
  obtain⟨m,_,rfl⟩:=G0K.mp hx
  exact jnS (by rw [hN];exact Nat.pow_pos (by decide)) ha m) (by rw [G0a,G0h];exact G0d _) e he
 obtain⟨m,hm,e⟩:=G0K.mp this
 exact⟨m,G0q.mp hm,e⟩
def jaZ (t:SetTable):Nat->SetTable.Probe->SetTable.Probe
 |0,p=>p
 |n+1,p=>jaZ t n (t.advance p)
theorem jcQ (t:SetTable): ∀ (a b:Nat) (p:SetTable.Probe),jaZ t (a+b) p=jaZ t b (jaZ t a p)
 |0,b,p=>by rw [G2J];rfl
 |a+1,b,p=>by rw [Nat.add_right_comm];exact jcQ t a b _
def jgP (t:SetTable) (i q:Nat) (d:Option Nat):SetTable.Probe:= {j:=i,more:=SetTable.runEnd t.mask i-i,i:=i,perturb:=q,dummy:=d}
theorem jcF (t:SetTable): ∀ (m:Nat) (p:SetTable.Probe),p.more=m->jaZ t (m+1) p=jgP t ((p.i*5+1+p.perturb / 32)%(t.mask+1)) (p.perturb / 32) p.dummy
 |0,p,e=>by
  show t.advance p=_
  unfold SetTable.advance
  rw [if_neg (by omega)]
  rfl
 |m+1,p,e=>by
  have a:t.advance p= {p with j:=p.j+1,more:=p.more-1}:=by unfold SetTable.advance;rw [if_pos (by omega)]
  show jaZ t (m+1) (t.advance p)=_
  rw [a,jcF t m _ (by show p.more-1=m;omega)]
theorem jiW (mask i:Nat):SetTable.runEnd mask i-i<=9:=by unfold SetTable.runEnd;split<;>omega
def jfA (N:Nat) (b:Nat):Nat->Nat
 |0=>b%N
 |L+1=>(jfA N b L*5+1+b / 32^(L+1))%N
theorem jiX (t:SetTable) (h:Int): ∀L,∃n,n<=10*L/\jaZ t n (t.probeStart h)=jgP t (jfA (t.mask+1) (SetTable.bits h) L) (SetTable.bits h / 32^L) none
 |0=>⟨0,G0d _,by rw [G2r,G3i];rfl⟩
 |L+1=>by
  obtain⟨n,hn,e⟩:=jiX t h L
  have s:=jiW t.mask (jfA (t.mask+1) (SetTable.bits h) L)
  refine⟨n+(SetTable.runEnd t.mask (jfA (t.mask+1) (SetTable.bits h) L)-jfA (t.mask+1) (SetTable.bits h) L+1),by omega,?_⟩
  rw [jcQ,e]
  refine(jcF t _ (jgP t _ _ none) rfl).trans ?_
  show jgP t ((jfA (t.mask+1) (SetTable.bits h) L*5+1+SetTable.bits h / 32^L / 32)%(t.mask+1)) (SetTable.bits h / 32^L / 32) none=_
  rw [G1M,<-G09];rfl
theorem jlY (h:Int):SetTable.bits h<2^64:=by unfold SetTable.bits;omega
theorem jfm {N:Nat} (h:Int): ∀m,jfA N (SetTable.bits h) (13+m)=f5 N m (jfA N (SetTable.bits h) 13)
 |0=>rfl
 |m+1=>by
  show (jfA N (SetTable.bits h) (13+m)*5+1+SetTable.bits h / 32^(13+m+1))%N=(f5 N m (jfA N (SetTable.bits h) 13)*5+1)%N
  rw [jfm h m,Nat.div_eq_of_lt (G0A (jlY h) ?_),G28]
  exact G0R (show 2^64<=32^13 by decide) (G2v (by decide) (by omega))
theorem jkd {t:SetTable} {k:Nat} (hN:t.mask+1=2^k) (h:Int) {e:Nat} (he:e<=t.mask): ∃n,n<10*SetTable.turns t.mask/\(jaZ t n (t.probeStart h)).j=e:=by
 obtain⟨m,hm,em⟩:=jkL hN (a:=jfA (t.mask+1) (SetTable.bits h) 13) (G2R _ (G2s _)) (show e<t.mask+1 by omega)
 obtain⟨n,hn,en⟩:=jiX t h (13+m)
 refine⟨n,by unfold SetTable.turns;omega,?_⟩
 rw [en,<-em,<-jfm h m];rfl
theorem jiY {P:Nat->Prop}: ∀n,P n-> ∃m,m<=n/\P m/\ ∀k,k<m-> ¬P k:=λn=>by
 induction n using Nat.strongRecOn with
 |ind n ih=>
  intro h
  rcases Classical.em (∃k,k<n/\P k) with ⟨k,lt,pk⟩|no
  ·obtain⟨m,a,b,c⟩:=ih k lt pk
   exact⟨m,by omega,b,c⟩
  ·exact⟨n,G0d _,h,λk lt pk=>no ⟨k,lt,pk⟩⟩
theorem jkM {t:SetTable} {f:Nat->Int} {h:Int} (d:t.dummies= #[]): ∀ (n fuel:Nat) (p:SetTable.Probe),n<fuel->t.slot (jaZ t n p).j= .empty->(∀k,k<n->t.slot (jaZ t k p).j≠ .empty)->p.dummy=none->
 (SetTable.probe.go t f h fuel p=some (.empty (jaZ t n p).j none)/\ ∀k,k<n-> ∀i,t.slot (jaZ t k p).j= .live i->f i≠h)\/
 (∃k i,k<n/\t.slot (jaZ t k p).j= .live i/\f i=h/\(∀k',k' <k-> ∀i',t.slot (jaZ t k' p).j= .live i' ->f i' ≠h)/\SetTable.probe.go t f h fuel p=some (.candidate (jaZ t k p).j i (jaZ t (k+1) p)))
 |_,0,_,lt,_,_,_=>absurd lt (G1R _)
 |0,fuel+1,p,_,he,_,hd=>by
  refine .inl ⟨?_,λk hk=>absurd hk (G1R _)⟩
  have he:t.slot p.j= .empty:=he
  unfold SetTable.probe.go
  rw [he,hd];rfl
 |n+1,fuel+1,p,lt,he,ne,hd=>by
  have h0:t.slot p.j≠ .empty:=ne 0 (G2s _)
  cases hs:t.slot p.j with
  |empty=>exact absurd hs h0
  |dummy=>exact absurd hs (HT.jeL d)
  |live i=>
   by_cases e:f i=h
   ·refine .inr ⟨0,i,G2s _,hs,e,λk' hk=>absurd hk (G1R _),?_⟩
    unfold SetTable.probe.go
    rw [hs]
    show (if (f i==h)=true then _ else _)=_
    rw [if_pos (by rw [e];exact G1w h)];rfl
   ·have ad:(t.advance p).dummy=none:=by unfold SetTable.advance;split<;>exact hd
    have step:SetTable.probe.go t f h (fuel+1) p=SetTable.probe.go t f h fuel (t.advance p):=by
     conv=>lhs;unfold SetTable.probe.go
     rw [hs]
     show (if (f i==h)=true then _ else _)=_
     rw [if_neg (by simpa using e)]
    rcases jkM d n fuel (t.advance p) (by omega) he (λk hk=>ne (k+1) (by omega)) ad with ⟨a,b⟩|⟨k,i',hk,a,b,c,g⟩
    ·refine .inl ⟨by rw [step];exact a,λk hk i2 hi=> ?_⟩
     cases k with
     |zero=>rw [show t.slot (jaZ t 0 p).j= .live i from hs] at hi;cases hi;exact e
     |succ k=>exact b k (by omega) i2 hi
    ·refine .inr ⟨k+1,i',by omega,a,b,λk' hk' i2 hi=> ?_,by rw [step];exact g⟩
     cases k' with
     |zero=>rw [show t.slot (jaZ t 0 p).j= .live i from hs] at hi;cases hi;exact e
     |succ k' =>exact c k' (by omega) i2 hi
theorem jgQ {t:SetTable} {k:Nat} (hN:t.mask+1=2^k) (h:Int) {e:Nat} (he:e<=t.mask) (em:t.slot e= .empty): ∃n,n<10*SetTable.turns t.mask/\t.slot (jaZ t n (t.probeStart h)).j= .empty/\ ∀m,m<n->t.slot (jaZ t m (t.probeStart h)).j≠ .empty:=by
 obtain⟨n,hn,ej⟩:=jkd hN h he
 obtain⟨m,a,b,c⟩:=jiY (P:=λn=>t.slot (jaZ t n (t.probeStart h)).j= .empty) n (by rw [ej];exact em)
 exact⟨m,by omega,b,c⟩
theorem jiZ {t:SetTable} (r:t.place.toList.Pairwise (· < ·)) {i j:Nat} (h:t.place[i]? =some j):t.slot j= .live i:=by
 obtain⟨lo,hi,_⟩:=HT.jfj r j
 have e:SetTable.below t.place j=i:=by
  rcases G2m (SetTable.below t.place j) i with z|z|z
  ·obtain⟨hlt,ev⟩:=G0J.mp h
   have hb:SetTable.below t.place j<t.place.size:=by omega
   have a:=hi (SetTable.below t.place j) (G0d _) t.place[SetTable.below t.place j] (G1l hb)
   have b:=G0V.mp r (SetTable.below t.place j) i (by simpa using hb) (by simpa using hlt) z
   simp only [G2x] at b
   omega
  ·exact z
  ·exact absurd (lo i z j h) (G0P _)
 unfold SetTable.slot
 dsimp only
 rw [e,h,if_pos (G1w _)]
theorem ji0 {t:SetTable} {i j:Nat} (h:t.slot j= .live i):t.place[i]? =some j:=by
 unfold SetTable.slot at h
 dsimp only at h
 split at h
 ·rename_i c
  injection h with h
  subst h
  exact eq_of_beq c
 ·split at h<;>cases h
theorem jcR {t:SetTable} (d:t.dummies= #[]) (r:t.place.toList.Pairwise (· < ·)) {j:Nat}:t.slot j= .empty↔ ∀i:Nat,t.place[i]? ≠some j:=by
 constructor
 ·intro h i e
  rw [jiZ r e] at h;cases h
 ·intro h
  cases e:t.slot j with
  |empty=>rfl
  |dummy=>exact absurd e (HT.jeL d)
  |live i=>exact absurd (ji0 e) (h i)
theorem jke {t u:SetTable} (e:t.mask=u.mask) (p:SetTable.Probe):t.advance p=u.advance p:=by
 unfold SetTable.advance
 rw [e]
theorem jcb {t u:SetTable} (e:t.mask=u.mask): ∀ (n:Nat) (p:SetTable.Probe),jaZ t n p=jaZ u n p
 |0,_=>rfl
 |n+1,p=>by show jaZ t n (t.advance p)=jaZ u n (u.advance p);rw [jke e,jcb e n]
theorem jcr {t u:SetTable} (e:t.mask=u.mask) (h:Int):t.probeStart h=u.probeStart h:=by
 unfold SetTable.probeStart
 rw [e]
def Way (t:SetTable) (h:Int) (j:Nat):Prop:= ∃n,(jaZ t n (t.probeStart h)).j=j/\ ∀m,m<n->t.slot (jaZ t m (t.probeStart h)).j≠ .empty
theorem Way.more {t u:SetTable} (e:t.mask=u.mask) (f: ∀j,u.slot j= .empty->t.slot j= .empty) {h:Int} {j:Nat} (w:Way t h j):Way u h j:=by
 obtain⟨n,a,b⟩:=w
 refine⟨n,by rw [<-jcr e,<-jcb e];exact a,λm hm z=>b m hm ?_⟩
 rw [<-jcr e,<-jcb e] at z
 exact f _ z
theorem jkN {α:Type} (xs:List α) (x:α) {p:Nat} (hp:p<=xs.length) (i:Nat):(xs.take p++x::xs.drop p)[i]? =if i<p then xs[i]? else if i=p then some x else xs[i-1]? :=by
 have tl:(xs.take p).length=p:=by rw [G03];omega
 by_cases a:i<p
 ·rw [if_pos a,G1A (by omega),List.getElem?_take,if_pos a]
 ·rw [if_neg a,G1V (by omega),tl]
  by_cases b:i=p
  ·rw [if_pos b,b,Nat.sub_self];rfl
  ·rw [if_neg b,show i-p=(i-p-1)+1 by omega,G0l,G2K]
   congr 1;omega
structure Laid (t:SetTable) (hs:List Int):Prop where
 pow: ∃k,t.mask+1=2^k
 big:7<=t.mask
 dum:t.dummies= #[]
 rise:t.place.toList.Pairwise (· < ·)
 size:t.place.size=hs.length
 room:hs.length<=t.mask
 low: ∀ (i j:Nat),t.place[i]? =some j->j<=t.mask
 way: ∀ (i:Nat) (h:Int) (j:Nat),hs[i]? =some h->t.place[i]? =some j->Way t h j
theorem Laid.free {t:SetTable} {hs:List Int} (l:Laid t hs): ∃e,e<=t.mask/\t.slot e= .empty:=by
 refine G1C λno=> ?_
 have nd:t.place.toList.Nodup:=l.rise.imp λ{a b} z=>G0G z
 have all: ∀e,e<t.mask+1->e∈t.place.toList:=λe he=>by
  refine G1C λz=>no ⟨e,by omega,(jcR l.dum l.rise).mpr λi q=>z ?_⟩
  exact Array.mem_toList_iff.mpr (Array.mem_of_getElem? q)
 have key: ∀ (ys zs:List Nat),ys.Nodup->(∀y∈ys,y∈zs)->ys.length<=zs.length:=by
  intro ys
  induction ys with
  |nil=>intro zs _ _;exact G1B _
  |cons y ys ih=>
   intro zs d s
   obtain⟨d1,d2⟩:=G01.mp d
   have hy:=s y G0B
   have:=ih (zs.erase y) d2 λx hx=>(G1W (show x≠y from λq=>d1 (by rw [<-q];exact hx))).mpr (s x (G0w _ hx))
   rw [G1H hy] at this
   have:0<zs.length:=G1L hy
   rw [G0e];omega
 have:=key (List.range (t.mask+1)) t.place.toList G2t λy hy=>all y (G0q.mp hy)
 rw [G0h,G0j,l.size] at this
 have:=l.room
 omega
theorem Laid.search {t:SetTable} {hs:List Int} (l:Laid t hs) (h:Int): ∃n,n<10*SetTable.turns t.mask/\t.slot (jaZ t n (t.probeStart h)).j= .empty/\(∀m,m<n->t.slot (jaZ t m (t.probeStart h)).j≠ .empty)/\ ∀i:Nat,hs[i]? =some h-> ∃m,m<n/\t.slot (jaZ t m (t.probeStart h)).j= .live i:=by
 obtain⟨k,hk⟩:=l.pow
 obtain⟨e,he,em⟩:=l.free
 obtain⟨n,a,b,c⟩:=jgQ hk h he em
 refine⟨n,a,b,c,λi hi=> ?_⟩
 obtain⟨j,hj⟩: ∃j,t.place[i]? =some j:=⟨t.place[i]'(by rw [l.size];exact(G0s.mp hi).1),G1l _⟩
 obtain⟨m,x,y⟩:=l.way i h j hi hj
 have lv:t.slot (jaZ t m (t.probeStart h)).j= .live i:=by rw [x];exact jiZ l.rise hj
 refine⟨m,?_,lv⟩
 rcases G2m m n with z|z|z
 ·exact z
 ·rw [z,b] at lv;cases lv
 ·exact absurd b (y n z)
theorem ji1 (t:SetTable) (j:Nat):(t.put j).1.place.toList=t.place.toList.take (SetTable.below t.place j)++j::t.place.toList.drop (SetTable.below t.place j):=G13 ..
theorem ji2 {t:SetTable} (d:t.dummies= #[]) (j:Nat):(t.put j).1.dummies= #[]:=by
 show (if SetTable.has t.dummies j then _ else t.dummies)= #[]
 rw [d,if_neg (by simp [SetTable.has])]
theorem Laid.put {t:SetTable} {hs:List Int} (l:Laid t hs) {h:Int} {j:Nat} (em:t.slot j= .empty) (jm:j<=t.mask) (w:Way t h j) (room:hs.length+1<=t.mask):Laid (t.put j).1 (hs.take (t.put j).2++h::hs.drop (t.put j).2):=by
 have pe:(t.put j).2=SetTable.below t.place j:=rfl
 have me:t.mask=(t.put j).1.mask:=rfl
 have pl:=ji1 t j
 have hp:SetTable.below t.place j<=t.place.size:=(HT.jfj l.rise j).2.2
 have hp1:SetTable.below t.place j<=t.place.toList.length:=by rw [G0j];exact hp
 have hp2:SetTable.below t.place j<=hs.length:=by rw [<-l.size];exact hp
 have rise:(t.put j).1.place.toList.Pairwise (· < ·):=HT.jgM l.rise (HT.jhI em)
 have at1: ∀i:Nat,(t.put j).1.place[i]? =if i<SetTable.below t.place j then t.place[i]? else if i=SetTable.below t.place j then some j else t.place[i-1]? :=λi=>by
  have:=jkN t.place.toList j hp1 i
  rw [<-pl] at this
  simpa using this
 have sl: ∀x,(t.put j).1.slot x= .empty->t.slot x= .empty:=λx hx=>by
  rw [jcR (ji2 l.dum j) rise] at hx
  rw [jcR l.dum l.rise]
  intro i e
  by_cases c:i<SetTable.below t.place j
  ·exact hx i (by rw [at1,if_pos c];exact e)
  ·exact hx (i+1) (by rw [at1,if_neg (by omega),if_neg (by omega)];exact e)
 rw [pe]
 refine⟨l.pow,l.big,ji2 l.dum j,rise,?_,?_,λi x hx=> ?_,λi g x hg hx=> ?_⟩
 ·rw [<-G0j,pl]
  simp only [G1b,G0e,G03,G1v,G0j]
  have:=l.size
  omega
 ·show _<=t.mask
  simp only [G1b,G0e,G03,G1v]
  omega
 ·rw [at1] at hx
  split at hx
  ·exact l.low _ _ hx
  ·split at hx
   ·injection hx with hx;subst hx;exact jm
   ·exact l.low _ _ hx
 ·rw [at1] at hx
  rw [jkN hs h hp2] at hg
  by_cases c:i<SetTable.below t.place j
  ·rw [if_pos c] at hg hx
   exact(l.way i g x hg hx).more me sl
  ·rw [if_neg c] at hg hx
   by_cases b:i=SetTable.below t.place j
   ·rw [if_pos b] at hg hx
    injection hg with hg;injection hx with hx
    subst hg hx
    exact w.more me sl
   ·rw [if_neg b] at hg hx
    exact(l.way (i-1) g x hg hx).more me sl
theorem jhJ (a b:Nat) (led:Bool):Laid (.fresh a b led) []:=⟨⟨3,rfl⟩,G0d 7,rfl,List.Pairwise.nil,rfl,G1B _,λi j h=>by simp [SetTable.fresh] at h,λi h j e=>by simp at e⟩
theorem jkO (t:SetTable): ∀ (k i q m j:Nat) (d:Option Nat),k<=m->jaZ t k ⟨j,m,i,q,d⟩=⟨j+k,m-k,i,q,d⟩
 |0,i,q,m,j,d,_=>rfl
 |k+1,i,q,m,j,d,h=>by
  have a:t.advance ⟨j,m,i,q,d⟩=⟨j+1,m-1,i,q,d⟩:=by unfold SetTable.advance;rw [if_pos (show m>0 by omega)]
  show jaZ t k (t.advance ⟨j,m,i,q,d⟩)=_
  rw [a,jkO t k i q (m-1) (j+1) d (by omega)]
  congr 1<;>omega
def joU (t:SetTable) (E:Nat->Bool) (h:Int) (j:Nat):Prop:= ∃n,(jaZ t n (t.probeStart h)).j=j/\ ∀m,m<n->E (jaZ t m (t.probeStart h)).j=false
theorem jhi {t:SetTable} {owner:Array (Option Nat)} {h:Int}: ∀ (fuel L n:Nat) {j:Nat},jaZ t n (t.probeStart h)=jgP t (jfA (t.mask+1) (SetTable.bits h) L) (SetTable.bits h / 32^L) none->(∀m,m<n->(owner.getD (jaZ t m (t.probeStart h)).j (some 0)).isNone=false)->
 SetTable.layClean.free t.mask owner fuel (jfA (t.mask+1) (SetTable.bits h) L) (SetTable.bits h / 32^L)=some j->(owner.getD j (some 0)).isNone=true/\joU t (λx=>(owner.getD x (some 0)).isNone) h j
 |0,_,_,_,_,_,e=>by cases e
 |fuel+1,L,n,j,hn,ne,e=>by
  unfold SetTable.layClean.free at e
  generalize hI:jfA (t.mask+1) (SetTable.bits h) L=I at hn e
  have run: ∀k,k<=SetTable.runEnd t.mask I-I->(jaZ t (n+k) (t.probeStart h)).j=I+k:=λk hk=>by
   rw [jcQ,hn]
   exact congrArg SetTable.Probe.j (jkO t k I _ _ I none hk)
  have re:I<=SetTable.runEnd t.mask I:=by unfold SetTable.runEnd;split<;>omega
  split at e
  ·rename_i k hk
   injection e with e
   subst e
   obtain⟨a,b,c⟩:=List.find?_range_eq_some.mp hk
   have kl:=G0q.mp b
   refine⟨a,n+k,run k (by omega),λm hm=> ?_⟩
   rcases G1y m n with z|z
   ·exact ne m z
   ·have:=c (m-n) (by omega)
    have r:=run (m-n) (by omega)
    rw [G1r z] at r
    show (owner.getD (jaZ t m (t.probeStart h)).j (some 0)).isNone=false
    rw [r];simpa using this
  ·rename_i hk
   have none:=List.find?_eq_none.mp hk
   have nx:=jcF t _ (jgP t I (SetTable.bits h / 32^L) .none) rfl
   refine jhi fuel (L+1) (n+(SetTable.runEnd t.mask I-I+1)) (j:=j) ?_ (λm hm=> ?_) ?_
   ·rw [jcQ,hn]
    refine nx.trans ?_
    show jgP t ((I*5+1+SetTable.bits h / 32^L / 32)%(t.mask+1)) (SetTable.bits h / 32^L / 32) .none=_
    rw [G1M,<-G09,<-hI];rfl
   ·rcases G1y m n with z|z
    ·exact ne m z
    ·have:=none (m-n) (G0q.mpr (by omega))
     have r:=run (m-n) (by omega)
     rw [G1r z] at r
     rw [r];exact Bool.eq_false_iff.mpr this
   ·rw [show SetTable.leap t.mask I (SetTable.bits h / 32^L)=((I*5+1+SetTable.bits h / 32^L / 32)%(t.mask+1),SetTable.bits h / 32^L / 32) from rfl] at e
    dsimp only at e
    rw [G1M,<-G09,<-hI] at e
    exact e
theorem ji3 {t:SetTable} {owner:Array (Option Nat)} {h:Int} {k:Nat} (hN:t.mask+1=2^k) {e:Nat} (he:e<=t.mask) (em:(owner.getD e (some 0)).isNone=true): ∃j,SetTable.layClean.free t.mask owner (SetTable.turns t.mask) (SetTable.bits h%(t.mask+1)) (SetTable.bits h)=some j:=by
 obtain⟨m,hm,e1⟩:=jkL hN (a:=jfA (t.mask+1) (SetTable.bits h) 13) (G2R _ (G2s _)) (show e<t.mask+1 by omega)
 rw [<-jfm h m] at e1
 have go: ∀ (fuel L:Nat),(∃L',L<=L' /\L' <L+fuel/\jfA (t.mask+1) (SetTable.bits h) L' =e)-> ∃j,SetTable.layClean.free t.mask owner fuel (jfA (t.mask+1) (SetTable.bits h) L) (SetTable.bits h / 32^L)=some j:=by
  intro fuel
  induction fuel with
  |zero=>rintro L ⟨L',a,b,_⟩;omega
  |succ fuel ih=>
   rintro L ⟨L',a,b,c⟩
   unfold SetTable.layClean.free
   generalize hI:jfA (t.mask+1) (SetTable.bits h) L=I
   split
   ·rename_i k hk;exact⟨_,rfl⟩
   ·rename_i hk
    have none:=List.find?_eq_none.mp hk
    have ne:I≠e:=λz=>by
     have re:I<=SetTable.runEnd t.mask I:=by unfold SetTable.runEnd;split<;>omega
     have:=none 0 (G0q.mpr (by omega))
     rw [G28,z] at this
     exact this em
    have lt:L+1<=L' :=by
     rcases G1y L L' with z|z
     ·exact z
     ·have:L=L' :=by omega
      subst this
      exact absurd (hI.symm.trans c) ne
    obtain⟨j,hj⟩:=ih (L+1) ⟨L',lt,by omega,c⟩
    refine⟨j,?_⟩
    rw [show SetTable.leap t.mask I (SetTable.bits h / 32^L)=((I*5+1+SetTable.bits h / 32^L / 32)%(t.mask+1),SetTable.bits h / 32^L / 32) from rfl]
    dsimp only
    rw [G1M,<-G09,<-hI]
    exact hj
 have:=go (SetTable.turns t.mask) 0 ⟨13+m,Nat.zero_le _,by unfold SetTable.turns;omega,e1⟩
 rw [G2r,G3i] at this
 exact this
def emO (owner:Array (Option Nat)) (x:Nat):Bool:=(owner.getD x (some 0)).isNone
theorem emO_iff {owner:Array (Option Nat)} {x:Nat}:emO owner x=true↔owner[x]? =some none:=by
 unfold emO
 rw [G1S]
 cases owner[x]? with
 |none=>simp
 |some o=>cases o<;>simp
structure Own (t:SetTable) (hs:List Int) (owner:Array (Option Nat)) (k:Nat):Prop where
 size:owner.size=t.mask+1
 lt: ∀x i:Nat,owner[x]? =some (some i)->i<k
 inj: ∀x y i:Nat,owner[x]? =some (some i)->owner[y]? =some (some i)->x=y
 all: ∀i,i<k-> ∃x:Nat,owner[x]? =some (some i)
 way: ∀ (x i:Nat) (h:Int),owner[x]? =some (some i)->hs[i]? =some h->joU t (emO owner) h x
theorem Own.free {t:SetTable} {hs:List Int} {owner:Array (Option Nat)} {k:Nat} (o:Own t hs owner k) (room:k<=t.mask): ∃e,e<=t.mask/\emO owner e=true:=by
 refine G1C λno=> ?_
 have got: ∀x,x<t.mask+1-> ∃i,owner[x]? =some (some i):=λx hx=>by
  have hs' :x<owner.size:=by rw [o.size];exact hx
  cases e:owner[x]? with
  |none=>rw [G1u] at e;omega
  |some v=>
   cases v with
   |none=>exact absurd ⟨x,by omega,emO_iff.mpr e⟩ no
   |some i=>exact⟨i,rfl⟩
 have gi: ∀x,x<t.mask+1->owner[x]? =some (some (((owner[x]?).getD none).getD 0)):=λx hx=>by
  obtain⟨i,e⟩:=got x hx
  rw [e];rfl
 have nd:((List.range (t.mask+1)).map λx=>((owner[x]?).getD none).getD 0).Nodup:=by
  rw [List.Nodup,G08]
  refine G0V.mpr λa b ha hb ab e=> ?_
  rw [G1n,G1n] at e
  rw [G0h] at ha hb
  have x1:=gi a ha
  have x2:=gi b hb
  rw [e] at x1
  have:=o.inj a b _ x1 x2
  omega
 have:=jdR (m:=List.range k) nd λy hy=>by
  obtain⟨x,hx,rfl⟩:=G0K.mp hy
  exact G0q.mpr (o.lt x _ (gi x (G0q.mp hx)))
 rw [G0a,G0h,G0h] at this
 omega
theorem Own.step {t:SetTable} {hs:List Int} {owner:Array (Option Nat)} {k n:Nat} {h:Int} (hN:t.mask+1=2^n) (o:Own t hs owner k) (room:k<=t.mask) (hk:hs[k]? =some h): ∃j,SetTable.layClean.free t.mask owner (SetTable.turns t.mask) (SetTable.bits h%(t.mask+1)) (SetTable.bits h)=some j/\Own t hs (owner.setIfInBounds j (some k)) (k+1):=by
 obtain⟨e,he,em⟩:=o.free room
 obtain⟨j,hj⟩:=ji3 (h:=h) hN he em
 have w:=jhi (t:=t) (owner:=owner) (h:=h) (SetTable.turns t.mask) 0 0 (j:=j) (by rw [G2r,G3i];rfl) (λm hm=>absurd hm (G1R _)) (by rw [G2r,G3i];exact hj)
 have jn:owner[j]? =some none:=emO_iff.mp w.1
 have js:j<owner.size:=(G0J.mp jn).1
 have at1: ∀x:Nat,(owner.setIfInBounds j (some k))[x]? =if j=x then some (some k) else owner[x]? :=λx=>by
  rw [Array.getElem?_setIfInBounds]
  by_cases c:j=x
  ·rw [if_pos c,if_pos c,if_pos js]
  ·rw [if_neg c,if_neg c]
 have old: ∀x i:Nat,(owner.setIfInBounds j (some k))[x]? =some (some i)->(x=j/\i=k)\/(x≠j/\owner[x]? =some (some i)):=λx i hx=>by
  rw [at1] at hx
  split at hx
  ·rename_i c;injection hx with hx;injection hx with hx;exact .inl ⟨c.symm,hx.symm⟩
  ·rename_i c;exact .inr ⟨Ne.symm c,hx⟩
 have emm: ∀x,emO owner x=false->emO (owner.setIfInBounds j (some k)) x=false:=λx hx=>by
  refine Bool.eq_false_iff.mpr λz=> ?_
  rw [emO_iff,at1] at z
  split at z
  ·cases z
  ·rw [emO_iff.mpr z] at hx;cases hx
 refine⟨j,hj,by rw [Array.size_setIfInBounds];exact o.size,λx i hx=> ?_,λx y i hx hy=> ?_,λi hi=> ?_,λx i g hx hg=> ?_⟩
 ·rcases old x i hx with ⟨_,e⟩|⟨_,e⟩
  ·omega
  ·have:=o.lt x i e;omega
 ·rcases old x i hx with ⟨a,b⟩|⟨a,b⟩<;>rcases old y i hy with ⟨c,d⟩|⟨c,d⟩
  ·rw [a,c]
  ·have:=o.lt y i d;omega
  ·have:=o.lt x i b;omega
  ·exact o.inj x y i b d
 ·by_cases c:i=k
  ·exact⟨j,by rw [at1,if_pos rfl,c]⟩
  ·obtain⟨x,hx⟩:=o.all i (by omega)
   have ne: ¬j=x:=λz=>by rw [<-z,jn] at hx;cases hx
   exact⟨x,by rw [at1,if_neg ne];exact hx⟩
 ·rcases old x i hx with ⟨a,b⟩|⟨a,b⟩
  ·rw [b,hk] at hg
   injection hg with hg
   rw [a,<-hg]
   obtain⟨m,p,q⟩:=w.2
   exact⟨m,p,λm' hm=>emm _ (q m' hm)⟩
  ·obtain⟨m,p,q⟩:=o.way x i g b hg
   exact⟨m,p,λm' hm=>emm _ (q m' hm)⟩
theorem jkf (t:SetTable) (hs:List Int):Own t hs (Array.replicate (t.mask+1) none) 0:=by
 have no: ∀x i:Nat,(Array.replicate (t.mask+1) (none:Option Nat))[x]? ≠some (some i):=λx i e=>by
  rw [Array.getElem?_replicate] at e
  split at e<;>cases e
 exact⟨Array.size_replicate,λx i e=>absurd e (no x i),λx y i e=>absurd e (no x i),λi hi=>absurd hi (G1R _),λx i h e=>absurd e (no x i)⟩
theorem jhj {t:SetTable} {hs:List Int} {n:Nat} (hN:t.mask+1=2^n) (room:hs.length<=t.mask) {F:Option (Array (Option Nat)×Nat)->Int->Option (Array (Option Nat)×Nat)}
 (hF: ∀owner k h j,SetTable.layClean.free t.mask owner (SetTable.turns t.mask) (SetTable.bits h%(t.mask+1)) (SetTable.bits h)=some j->F (some (owner,k)) h=some (owner.setIfInBounds j (some k),k+1)): ∀ (rest:List Int) (k:Nat) (owner:Array (Option Nat)),Own t hs owner k->k<=hs.length->hs.drop k=rest-> ∃owner',rest.foldl F (some (owner,k))=some (owner',hs.length)/\Own t hs owner' hs.length
 | [],k,owner,o,kl,e=>by
  have:k=hs.length:=by have:=List.drop_eq_nil_iff.mp e;omega
  subst this
  exact⟨owner,rfl,o⟩
 |h::rest,k,owner,o,kl,e=>by
  have hk:hs[k]? =some h:=by
   have:(hs.drop k)[0]? =some h:=by rw [e];rfl
   rwa [G2K,G28] at this
  have lt:k<hs.length:=(G0s.mp hk).1
  obtain⟨j,hj,o'⟩:=o.step hN (by omega) hk
  have e2:hs.drop (k+1)=rest:=by rw [<-List.tail_drop,e];rfl
  obtain⟨owner',a,b⟩:=jhj hN room hF rest (k+1) _ o' lt e2
  exact⟨owner',by rw [List.foldl_cons,hF _ _ _ _ hj];exact a,b⟩
theorem jkg {t:SetTable} {hs:List Int} {n:Nat} (hN:t.mask+1=2^n) (room:hs.length<=t.mask) {F:Option (Array (Option Nat)×Nat)->Int->Option (Array (Option Nat)×Nat)}
 (hF: ∀owner k h j,SetTable.layClean.free t.mask owner (SetTable.turns t.mask) (SetTable.bits h%(t.mask+1)) (SetTable.bits h)=some j->F (some (owner,k)) h=some (owner.setIfInBounds j (some k),k+1)): ∃owner,(hs.foldl F (some (Array.replicate (t.mask+1) none,0))).map (·.1)=some owner/\Own t hs owner hs.length:=by
 obtain⟨owner,a,b⟩:=jhj hN room hF hs 0 _ (jkf t hs) (G1B _) rfl
 exact⟨owner,by rw [a];rfl,b⟩
theorem jlZ {t:SetTable} {hashes:Array Int} {n:Nat} (hN:t.mask+1=2^n) (room:hashes.size<=t.mask): ∃owner,SetTable.layClean t.mask hashes=some owner/\Own t hashes.toList owner hashes.toList.length:=by
 unfold SetTable.layClean
 rw [<-Array.foldl_toList]
 refine jkg hN (by rw [G0j];exact room) λowner k h j hj=> ?_
 show (SetTable.layClean.free t.mask owner _ _ _).bind _=_
 rw [hj];rfl
theorem jgR {t:SetTable}: ∀ (n:Nat) (p:SetTable.Probe),p.j+p.more<=t.mask->(jaZ t n p).j<=t.mask
 |0,p,h=>by show p.j<=t.mask;omega
 |n+1,p,h=>by
  refine jgR n (t.advance p) ?_
  unfold SetTable.advance
  split
  ·show p.j+1+(p.more-1)<=t.mask;omega
  ·have:(p.i*5+1+p.perturb / 32)%(t.mask+1)<t.mask+1:=G2R _ (G2s _)
   show (p.i*5+1+p.perturb / 32)%(t.mask+1)+(SetTable.runEnd t.mask ((p.i*5+1+p.perturb / 32)%(t.mask+1))-(p.i*5+1+p.perturb / 32)%(t.mask+1))<=t.mask
   unfold SetTable.runEnd
   split<;>omega
theorem jge (t:SetTable) (h:Int):(t.probeStart h).j+(t.probeStart h).more<=t.mask:=by
 have:SetTable.bits h%(t.mask+1)<t.mask+1:=G2R _ (G2s _)
 show SetTable.bits h%(t.mask+1)+(SetTable.runEnd t.mask (SetTable.bits h%(t.mask+1))-SetTable.bits h%(t.mask+1))<=t.mask
 unfold SetTable.runEnd
 split<;>omega
theorem jnT {T0 T' :SetTable} {E:Nat->Bool} {h:Int} {j:Nat} (em:T0.mask=T'.mask) (f: ∀y,y<=T0.mask->E y=false->T'.slot y≠ .empty) (w:joU T0 E h j):Way T' h j:=by
 obtain⟨n,a,b⟩:=w
 refine⟨n,by rw [<-jcr em,<-jcb em];exact a,λm hm=> ?_⟩
 rw [<-jcr em,<-jcb em]
 exact f _ (jgR m _ (jge T0 h)) (b m hm)
theorem jl0 {mask finger moves n:Nat} {led plain:Bool} {hashes:Array Int} (hN:mask+1=2^n) (h7:7<=mask) (room:hashes.size<=mask): ∃t' order,SetTable.laid mask finger moves led plain hashes=some (t',order)/\t'.mask=mask/\t'.led=led/\t'.plain=plain/\order.toList.Perm (List.range hashes.size)/\Laid t' (order.toList.map λi=>hashes.toList.getD i 0):=by
 obtain⟨T0,hm⟩: ∃T0:SetTable,T0.mask=mask:=⟨{SetTable.fresh 0 0 true with mask:=mask},rfl⟩
 subst hm
 obtain⟨owner,ho,own⟩:=jlZ (t:=T0) (hashes:=hashes) hN room
 unfold SetTable.laid
 rw [ho]
 refine⟨_,_,rfl,rfl,rfl,rfl,?_⟩
 generalize hl:((List.range (T0.mask+1)).filterMap λj=>(owner.getD j none).map (j,·))=live
 have osz:owner.size=T0.mask+1:=own.size
 have mem: ∀x i:Nat,(x,i)∈live↔owner[x]? =some (some i):=λx i=>by
  rw [<-hl,G1N]
  constructor
  ·rintro ⟨j,hj,e⟩
   rw [G1S] at e
   cases z:owner[j]? with
   |none=>rw [z] at e;cases e
   |some v=>
    rw [z] at e
    cases v with
    |none=>cases e
    |some w=>cases e;exact z
  ·intro e
   have lt:x<owner.size:=(G0J.mp e).1
   refine⟨x,G0q.mpr (by omega),?_⟩
   rw [G1S,e];rfl
 have sub:(live.map (·.1)).Sublist (List.range (T0.mask+1)):=by rw [<-hl];exact HT.jfk _ _
 have rise:(live.map (·.1)).Pairwise (· < ·):=List.pairwise_lt_range.sublist sub
 have nd:(live.map (·.2)).Nodup:=by
  rw [List.Nodup,G08]
  rw [G08] at rise
  refine rise.imp_of_mem λ{a b} ha hb lt e=> ?_
  have:=own.inj a.1 b.1 a.2 ((mem _ _).mp ha) (by rw [e];exact(mem _ _).mp hb)
  omega
 have len0:hashes.toList.length=hashes.size:=G0j
 have pm:(live.map (·.2)).Perm (List.range hashes.size):=by
  refine(List.perm_ext_iff_of_nodup nd G2t).mpr λi=> ?_
  rw [G0q]
  constructor
  ·intro h
   obtain⟨⟨x,i'⟩,a,rfl⟩:=G0K.mp h
   have:=own.lt x i' ((mem _ _).mp a)
   omega
  ·intro h
   obtain⟨x,hx⟩:=own.all i (by omega)
   exact G0K.mpr ⟨(x,i),(mem _ _).mpr hx,rfl⟩
 have ll:live.length=hashes.size:=by have:=pm.length_eq;rwa [G0a,G0h] at this
 refine⟨pm,⟨n,hN⟩,h7,rfl,rise,?_,?_,λi j hj=> ?_,λi h x hh hx=> ?_⟩
 ·simp
 ·show _<=T0.mask
  simp only [G0a]
  omega
 ·have hj:(live.map (·.1))[i]? =some j:=by simpa using hj
  have:=G0q.mp (sub.subset (G0W hj))
  show j<=T0.mask
  omega
 ·have hx:(live.map (·.1))[i]? =some x:=by simpa using hx
  have hh:((live.map (·.2)).map λi=>hashes.toList.getD i 0)[i]? =some h:=hh
  rw [G0o] at hx
  obtain⟨⟨x',i'⟩,e1,e2⟩:=G2f.mp hx
  have e2:x' =x:=e2
  subst e2
  rw [G0o,G0o,e1] at hh
  have hh:hashes.toList.getD i' 0=h:=by injection hh
  have ow:=(mem _ _).mp (G0W e1)
  have lt:=own.lt _ _ ow
  have hg:hashes.toList[i']? =some h:=by
   rw [<-hh,G0n,G0i lt];rfl
  refine jnT (T0:=T0) rfl (λy hy hb z=> ?_) (own.way _ _ _ ow hg)
  rw [jcR rfl rise] at z
  cases e:owner[y]? with
  |none=>rw [G1u] at e;omega
  |some v=>
   cases v with
   |none=>rw [emO_iff.mpr e] at hb;cases hb
   |some w=>
    obtain⟨i2,h2⟩:=G1X (G0K.mpr ⟨(y,w),(mem _ _).mpr e,rfl⟩:y∈live.map (·.1))
    exact z i2 (by simpa using h2)
theorem Laid.stands {t:SetTable} {hs:List Int} (l:Laid t hs):t.gaveWay=false:=by
 obtain⟨k,hk⟩:=l.pow
 have b:=l.big
 cases k with
 |zero=>rw [G2r] at hk;omega
 |succ k=>
  rw [G09] at hk
  unfold SetTable.gaveWay
  refine beq_false_of_ne ?_
  omega
theorem jhk: ∀ (fuel k n:Nat),3<=k-> ∃m,3<=m/\SetTable.sizeAbove.go n fuel (2^k)=2^m/\(n<2^(k+fuel)->n<2^m)
 |0,k,n,h=>⟨k,h,rfl,λz=>z⟩
 |fuel+1,k,n,h=>by
  unfold SetTable.sizeAbove.go
  by_cases c:2^k<=n
  ·rw [if_pos c,<-G09]
   obtain⟨m,a,b,d⟩:=jhk fuel (k+1) n (by omega)
   exact⟨m,a,b,λz=>d (by rw [Nat.add_right_comm,G3k];exact z)⟩
  ·rw [if_neg c]
   exact⟨k,h,rfl,λ_=>by omega⟩
theorem above {n:Nat} (h:n<2^67): ∃m,SetTable.sizeAbove n=2^m/\n<SetTable.sizeAbove n/\8<=SetTable.sizeAbove n:=by
 obtain⟨m,a,b,c⟩:=jhk 64 3 n (by decide)
 have b:SetTable.sizeAbove n=2^m:=b
 refine⟨m,b,by rw [b];exact c h,?_⟩
 rw [b]
 exact G2v (show 0<2 by decide) a
end L2
namespace L2
open PySem PySem.Spec PyProof.Rows HT
variable {prog:Program} {w:World} {A:Around} {E:Value->Shared->Prop} {s:Shared} {a:Addr} {es:Array (Int×Value)} {ep:Nat} {t:SetTable}
theorem Laid.fits {hs:List Int} (l:Laid t hs) {n:Nat} (e:hs.length=n):t.fits n=true:=by
 have a:=l.size
 have b:=l.room
 have c:=l.dum
 simp only [SetTable.fits,SetTable.fill,G1o,G3o,G2k,c]
 simp
 omega
theorem jhl (t:SetTable):t.sameMemory t.moves t.mask=some true:=by
 unfold SetTable.sameMemory
 rw [if_pos (G1w _)]
theorem jhm {b:Addr} {Q:Bool->Shared->Prop} (q:Q true s):wpAny (model prog w) A (isSame (.ref b) (.ref b)) Q E s:=by
 unfold isSame
 dsimp only
 rw [if_pos (G1w _)]
 exact G0c q
set_option maxHeartbeats 4000000 in
theorem jgS {Q:SetFound->Shared->Prop} {x:Value} {h:Int} {n:Nat} {eqk:Nat->Bool} (l:Laid t (es.toList.map (·.1))) (ho:s.heap.get? a=some (jdT es ep t))
 (refs: ∀ (i:Nat) (y:Value),es[i]? =some (h,y)-> ∃b,y= .ref b)
 (seen: ∀Q' :Bool->Shared->Prop,Q' false s->wpAny (model prog w) A (searchCouldBeSeen x ((es.filter (·.1==h)).toList.map (·.2))) Q' E s)
 (cmp: ∀ (i:Nat) (y:Value),es[i]? =some (h,y)-> ∀Q' :Bool->Shared->Prop,Q' (eqk i) s->wpAny (model prog w) A (holding [y] (eqBool y x)) Q' E s)
 (em:t.slot (jaZ t n (t.probeStart h)).j= .empty) (nb:n<10*SetTable.turns t.mask) (ne: ∀m,m<n->t.slot (jaZ t m (t.probeStart h)).j≠ .empty)
 (free:(∀m i,m<n->t.slot (jaZ t m (t.probeStart h)).j= .live i->(es[i]?.map (·.1)).getD 0=h->eqk i=false)->Q (.free (jaZ t n (t.probeStart h)).j false) s)
 (there: ∀ (i:Nat) (y:Value),es[i]? =some (h,y)->eqk i=true->Q (.there none) s):
 ∀ (r k fuel:Nat) (stand:Option SetTable.Probe),k+r=n->r<fuel->stand.getD (t.probeStart h)=jaZ t k (t.probeStart h)->(∀m i,m<k->t.slot (jaZ t m (t.probeStart h)).j= .live i->(es[i]?.map (·.1)).getD 0=h->eqk i=false)->
  wpAny (model prog w) A (setSearchFrom a x h true fuel stand) Q E s:=by
 intro r
 induction r using Nat.strongRecOn with
 |ind r ih=>
 intro k fuel stand kr rf st old
 obtain⟨fuel,rfl⟩: ∃f,fuel=f+1:=⟨fuel-1,by omega⟩
 have fit:t.fits es.size=true:=l.fits (by rw [G0a,G0j])
 unfold setSearchFrom
 refine wpAny_bind (G1p ho rfl fit ?_)
 dsimp only
 rw [l.stands]
 simp only [G0H,↓reduceIte]
 have ad: ∀m,jaZ t m (jaZ t k (t.probeStart h))=jaZ t (k+m) (t.probeStart h):=λm=>(jcQ t k m _).symm
 have dn: ∀ (m:Nat) (p:SetTable.Probe),p.dummy=none->(jaZ t m p).dummy=none:=λm=>by
  induction m with
  |zero=>exact λp hp=>hp
  |succ m ihm=>exact λp hp=>ihm _ (by unfold SetTable.advance;split<;>exact hp)
 have out:=jkM (f:=λi=>(es[i]?.map (·.1)).getD 0) (h:=h) l.dum r (10*SetTable.turns t.mask) (jaZ t k (t.probeStart h)) (by omega) (by rw [ad,kr];exact em) (λm hm=>by rw [ad];exact ne _ (by omega)) (dn _ _ rfl)
 have e0:t.probe (λi=>(es[i]?.map (·.1)).getD 0) h (stand.getD (t.probeStart h))=SetTable.probe.go t (λi=>(es[i]?.map (·.1)).getD 0) h (10*SetTable.turns t.mask) (jaZ t k (t.probeStart h)):=by rw [st];rfl
 rw [<-e0] at out
 split
 ·rename_i met hmet
  have hmet:t.probe (λi=>(es[i]?.map (·.1)).getD 0) h (stand.getD (t.probeStart h))=some met:=hmet
  rw [hmet] at out
  rcases out with ⟨e,no⟩|⟨m,i,mr,sl,hi,no,e⟩
  ·injection e with e
   subst e
   dsimp only
   refine G0c ?_
   rw [ad,kr]
   refine free λm i hm sl hi=> ?_
   rcases G1y m k with z|z
   ·exact old m i z sl hi
   ·refine absurd hi (no (m-k) (by omega) i ?_)
    rw [ad,G1r z];exact sl
  ·injection e with e
   subst e
   dsimp only
   obtain⟨y,ei⟩: ∃y,es[i]? =some (h,y):=by
    obtain⟨lt,_⟩:=G0J.mp (ji0 sl)
    have sz:i<es.size:=by have:=l.size;rw [G0a,G0j] at this;omega
    rw [G1l sz] at hi ⊢
    have hi:es[i].1=h:=hi
    exact⟨es[i].2,by rw [<-hi]⟩
   cases hl:t.led
   ·simp only [Bool.not_false,↓reduceIte]
    refine wpAny_bind (seen _ ?_)
    simp only [G0H,↓reduceIte]
    rw [ei]
    dsimp only
    refine wpAny_bind (cmp i y ei _ ?_)
    refine wpAny_bind (G1p ho rfl fit ?_)
    dsimp only
    cases ek:eqk i with
    |true=>simp only [G3m,↓reduceIte];exact G0c (there i y ei ek)
    |false=>
     simp only [G3f,G0H,↓reduceIte,jhl,sl,ei]
     obtain⟨b,rfl⟩:=refs i y ei
     refine wpAny_bind (jhm ?_)
     refine wpAny_bind (G0c ?_)
     simp only [↓reduceIte]
     refine ih (r-(m+1)) (by omega) (k+(m+1)) fuel (some _) (by omega) (by omega) (by show jaZ t (m+1) _=_;rw [ad]) (λm' i' hm' sl' hi' => ?_)
     rcases G1y m' k with z|z
     ·exact old m' i' z sl' hi'
     ·have e1:jaZ t m' (t.probeStart h)=jaZ t (m' -k) (jaZ t k (t.probeStart h)):=by rw [ad,G1r z]
      rw [e1] at sl'
      rcases G1y (m' -k) m with y|y
      ·exact absurd hi' (no (m' -k) y i' sl')
      ·have e2:m' -k=m:=by omega
       rw [e2,sl] at sl'
       injection sl' with sl'
       rw [<-sl'];exact ek
   ·simp only [G2z,G0H,↓reduceIte]
    rw [ei]
    dsimp only
    refine wpAny_bind (cmp i y ei _ ?_)
    refine wpAny_bind (G1p ho rfl fit ?_)
    dsimp only
    cases ek:eqk i with
    |true=>simp only [G3m,↓reduceIte];exact G0c (there i y ei ek)
    |false=>
     simp only [G3f,G0H,↓reduceIte,jhl,sl,ei]
     obtain⟨b,rfl⟩:=refs i y ei
     refine wpAny_bind (jhm ?_)
     refine wpAny_bind (G0c ?_)
     simp only [↓reduceIte]
     refine ih (r-(m+1)) (by omega) (k+(m+1)) fuel (some _) (by omega) (by omega) (by show jaZ t (m+1) _=_;rw [ad]) (λm' i' hm' sl' hi' => ?_)
     rcases G1y m' k with z|z
     ·exact old m' i' z sl' hi'
     ·have e1:jaZ t m' (t.probeStart h)=jaZ t (m' -k) (jaZ t k (t.probeStart h)):=by rw [ad,G1r z]
      rw [e1] at sl'
      rcases G1y (m' -k) m with y|y
      ·exact absurd hi' (no (m' -k) y i' sl')
      ·have e2:m' -k=m:=by omega
       rw [e2,sl] at sl'
       injection sl' with sl'
       rw [<-sl'];exact ek
 ·rename_i hmet
  rcases out with ⟨e,_⟩|⟨_,_,_,_,_,_,e⟩<;>exact(hmet _ e).elim
theorem jhK {Q:SetFound->Shared->Prop} {x:Value} {h:Int} {eqk:Nat->Bool} (l:Laid t (es.toList.map (·.1))) (few:t.mask<=9000) (ho:s.heap.get? a=some (jdT es ep t))
 (refs: ∀ (i:Nat) (y:Value),es[i]? =some (h,y)-> ∃b,y= .ref b)
 (seen: ∀Q' :Bool->Shared->Prop,Q' false s->wpAny (model prog w) A (searchCouldBeSeen x ((es.filter (·.1==h)).toList.map (·.2))) Q' E s)
 (cmp: ∀ (i:Nat) (y:Value),es[i]? =some (h,y)-> ∀Q' :Bool->Shared->Prop,Q' (eqk i) s->wpAny (model prog w) A (holding [y] (eqBool y x)) Q' E s)
 (free: ∀j,(∀ (i:Nat) (y:Value),es[i]? =some (h,y)->eqk i=false)->t.slot j= .empty->j<=t.mask->Way t h j->Q (.free j false) s)
 (there: ∀ (i:Nat) (y:Value),es[i]? =some (h,y)->eqk i=true->Q (.there none) s):wpAny (model prog w) A (setSearch a x h true) Q E s:=by
 obtain⟨n,nb,em,ne,met⟩:=l.search h
 refine jgS l ho refs seen cmp em nb ne (λal=>free _ (λi y e=> ?_) em (jgR n _ (jge t h)) ⟨n,rfl,ne⟩) there n 0 100000 none (Nat.zero_add n) (by unfold SetTable.turns at nb;omega) rfl (λm i hm=>absurd hm (Nat.not_lt_zero _))
 have e1:(es.toList.map (·.1))[i]? =some h:=by
  rw [G0o,G1x,e];rfl
 obtain⟨m,hm,sl⟩:=met i e1
 exact al m i hm sl (by rw [e];rfl)
theorem Laid.plain {hs:List Int} (l:Laid t hs) (b:Bool):Laid {t with plain:=b} hs:=
 ⟨l.pow,l.big,l.dum,l.rise,l.size,l.room,l.low,λi h j x y=>Way.more (t:=t) (u:= {t with plain:=b}) rfl (λ_ z=>z) (l.way i h j x y)⟩
theorem jhL (es:Array (Int×Value)) (h:Int) (x:Value) (p:Nat):(SetTable.insertAt es p (h,x)).toList.map (·.1)=(es.toList.map (·.1)).take p++h::(es.toList.map (·.1)).drop p:=by
 rw [G13,G1m,G0v,G3j,G2V]
theorem jhn: ∀ (fuel k n:Nat),SetTable.sizeAbove.go n fuel (2^k)<=2^k\/SetTable.sizeAbove.go n fuel (2^k)<=2*n
 |0,k,n=> .inl (G0d _)
 |fuel+1,k,n=>by
  unfold SetTable.sizeAbove.go
  by_cases c:2^k<=n
  ·rw [if_pos c,<-G09]
   rcases jhn fuel (k+1) n with z|z
   ·refine .inr (G0R z ?_)
    rw [G09];omega
   ·exact .inr z
  ·rw [if_neg c];exact .inl (G0d _)
theorem jgT {hashes:Array Int} {w:Nat} (hw:hashes.size<=w) (few:w<=40000):SetTable.sizeAbove w<=80008/\ ∃t' order,t.relaid hashes w=some (t',order)/\t'.led=t.led/\w<=t'.mask/\t'.mask<=2*w+8/\order.toList.Perm (List.range hashes.size)/\Laid t' (order.toList.map λi=>hashes.toList.getD i 0):=by
 obtain⟨m,a,b,c⟩:=above (n:=w) (by omega)
 have u:SetTable.sizeAbove w<=8\/SetTable.sizeAbove w<=2*w:=jhn 64 3 w
 refine⟨by omega,?_⟩
 obtain⟨t',order,x,mk,y,z,p,q⟩:=jl0 (mask:=SetTable.sizeAbove w-1) (finger:=t.finger) (moves:=t.movedTo (SetTable.sizeAbove w-1)) (led:=t.led) (plain:=t.plain) (hashes:=hashes) (n:=m) (by rw [<-a];omega) (by omega) (by omega)
 exact⟨t',order,x,y,by rw [mk];omega,by rw [mk];omega,p,q⟩
set_option maxHeartbeats 4000000 in
theorem ji4 {Q:Unit->Shared->Prop} {wd:Nat} (l:Laid t (es.toList.map (·.1))) (ho:s.heap.get? a=some (jdT es ep t)) (hw:es.size<=wd) (few:wd<=40000)
 (k: ∀es' t' h',es'.toList.Perm es.toList->Laid t' (es'.toList.map (·.1))->t'.led=t.led->wd<=t'.mask->t'.mask<=2*wd+8->h'.get? a=some (jdT es' (ep+1) t')->Heap.SameBut a s.heap h' ->Q () {s with heap:=h'}):wpAny (model prog w) A (setRelay a wd) Q E s:=by
 have fit:t.fits es.size=true:=l.fits (by rw [G0a,G0j])
 obtain⟨up,t',order,er,ld,m1,m2,pm,l'⟩:=jgT (t:=t) (hashes:=es.map (·.1)) (w:=wd) (by rw [Array.size_map];exact hw) few
 unfold setRelay
 refine wpAny_bind (G1p ho rfl fit ?_)
 dsimp only
 rw [er]
 have sl: ¬SetTable.sizeAbove wd>sizeLine:=G3d.mpr (G0R up (by decide))
 simp only [sl,↓reduceIte]
 have fe: ∀l:List Nat,(∀i∈l,i<es.size)->l.filterMap (λi=>es[i]?)=l.map (λi=>es.toList.getD i (0,.none)):=λl=>by
  induction l with
  |nil=>exact λ_=>rfl
  |cons i l ih=>
   intro h
   have hi:=h i G0B
   have e:es[i]? =some (es.toList.getD i (0,.none)):=by
    rw [G0n,G1x,G1l hi];rfl
   rw [List.filterMap_cons_some e,G0v,ih λx hx=>h x (G0w _ hx)]
 rw [Array.size_map] at pm
 have lt: ∀i∈order.toList,i<es.size:=λi hi=>G0q.mp (pm.mem_iff.mp hi)
 have e1:(order.filterMap (es[·]?)).toList=order.toList.map (λi=>es.toList.getD i (0,.none)):=by
  rw [Array.toList_filterMap];exact fe _ lt
 have e2:es.toList=(List.range es.size).map (λi=>es.toList.getD i (0,.none)):=by
  have:=jaO es.toList (0,(.none:Value))
  rwa [G0j] at this
 have pe:(order.filterMap (es[·]?)).toList.Perm es.toList:=by
  have:=pm.map (λi=>es.toList.getD i (0,.none))
  rw [<-e2] at this
  rw [e1];exact this
 have sz:(order.filterMap (es[·]?)).size=es.size:=by have:=pe.length_eq;rwa [G0j,G0j] at this
 have hh:(order.filterMap (es[·]?)).toList.map (·.1)=order.toList.map λi=>(es.map (·.1)).toList.getD i 0:=by
  rw [e1,G0L]
  refine G0N λi hi=> ?_
  show (es.toList.getD i (0,.none)).1=(es.map (·.1)).toList.getD i 0
  have z:i<es.toList.length:=by rw [G0j];exact lt i hi
  rw [Array.toList_map,G0n,G0n,G0o,G0i z];rfl
 rw [<-hh] at l'
 refine wpAny_bind ?_
 show wpAny _ _ (ite _ _ _) _ _ _
 rw [if_neg (by rw [sz];simp)]
 refine G0c ?_
 dsimp only
 exact wpAny_storeSet_of (s:=s) ho rfl (k _ t' _ pe l' ld m1 m2 (G07 _ ho rfl) (G1k ..)) (by rw [sz];exact G0R (show es.size<=40000 by omega) (by decide))
set_option maxHeartbeats 4000000 in
theorem jl1 {Q:Bool->Shared->Prop} {b:Addr} {h:Int} {eqk:Nat->Bool} {bv:Bool} {fuel:Nat} (l:Laid t (es.toList.map (·.1))) (few:t.mask<=9000) (lean:es.size*5<t.mask*3) (ho:s.heap.get? a=some (jdT es ep t))
 (refs: ∀ (i:Nat) (y:Value),es[i]? =some (h,y)-> ∃b,y= .ref b)
 (seen: ∀Q' :Bool->Shared->Prop,Q' false s->wpAny (model prog w) A (searchCouldBeSeen (.ref b) ((es.filter (·.1==h)).toList.map (·.2))) Q' E s)
 (cmp: ∀ (i:Nat) (y:Value),es[i]? =some (h,y)-> ∀Q' :Bool->Shared->Prop,Q' (eqk i) s->wpAny (model prog w) A (holding [y] (eqBool y (.ref b))) Q' E s)
 (byv: ∀Q' :Bool->Shared->Prop,Q' bv s->wpAny (model prog w) A (hashByValue 8 (.ref b)) Q' E s)
 (new:(∀ (i:Nat) (y:Value),es[i]? =some (h,y)->eqk i=false)-> ∀es' ep' t' h',es'.toList.Perm (es.push (h,.ref b)).toList->Laid t' (es'.toList.map (·.1))->t'.mask<=max t.mask (8*es.size+16)->es'.size*5<t'.mask*3->t'.led=t.led->h'.get? a=some (jdT es' ep' t')->Heap.SameBut a s.heap h' ->Q true {s with heap:=h'})
 (there: ∀ (i:Nat) (y:Value),es[i]? =some (h,y)->eqk i=true->Q false s):wpAny (model prog w) A (setAddHashedIn a (.ref b) h (fuel+1)) Q E s:=by
 have fit:t.fits es.size=true:=l.fits (by rw [G0a,G0j])
 have sz:(es.toList.map (·.1)).length=es.size:=by rw [G0a,G0j]
 unfold setAddHashedIn
 refine wpAny_bind (G1p ho rfl fit ?_)
 dsimp only
 rw [show byScan (.ref b) es=false from rfl]
 simp only [G0H,↓reduceIte]
 refine wpAny_bind (jhK (eqk:=eqk) l few ho refs seen cmp (λj no em jm wy=> ?_) (λi y e ek=> ?_))
 ·dsimp only
  refine wpAny_bind (G1p ho rfl fit ?_)
  dsimp only
  have l1:=l.put em jm wy (by rw [sz];have:=l.big;omega)
  have l1:=(congrArg (Laid (t.put j).1) (jhL es h (.ref b) (t.put j).2)).mpr l1
  have z0:(SetTable.insertAt es (t.put j).2 (h,.ref b)).size=es.size+1:=by
   have:=(G2g es (t.put j).2 (h,(.ref b:Value))).length_eq
   rw [G0j,G0j,Array.size_push] at this
   exact this
  have z1:(SetTable.insertAt es (t.put j).2 (h,.ref b)).size<=sizeLine:=by
   rw [z0];exact G0R (show es.size+1<=10000 by omega) (by decide)
  have rest: ∀t2:SetTable,Laid t2 ((SetTable.insertAt es (t.put j).2 (h,.ref b)).toList.map (·.1))->t2.led=t.led->t2.mask=t.mask->wpAny (model prog w) A (do storeSet a (SetTable.insertAt es (t.put j).2 (h,.ref b)) t2;if (!false&&t2.tooFull)=true then (do setRelay a (SetTable.grown (es.size+1));pure true) else pure true) Q E s:=λt2 l2 ld mk=>by
   refine wpAny_bind (wpAny_storeSet_of (s:=s) ho rfl ?_ z1)
   have o1:(s.heap.update a (Obj.putSet (SetTable.insertAt es (t.put j).2 (h,.ref b)) t2)).get? a=some (jdT (SetTable.insertAt es (t.put j).2 (h,.ref b)) (ep+1) t2):=G07 _ ho rfl
   cases tf:t2.tooFull with
   |true=>
    simp only [Bool.not_false,G3m,↓reduceIte]
    refine wpAny_bind (ji4 (wd:=SetTable.grown (es.size+1)) (ep:=ep+1) l2 o1 (by rw [z0];unfold SetTable.grown;split<;>omega) (by unfold SetTable.grown;split<;>omega) λes' t' h' pe l' ld' m1 m2 o2 sb=> ?_)
    refine G0c (new no es' (ep+1+1) t' h' (pe.trans (G2g ..)) l' ?_ ?_ (ld'.trans ld) o2 (Heap.SameBut.trans (G1k ..) sb))
    ·unfold SetTable.grown at m2;split at m2<;>omega
    ·have:=pe.length_eq
     rw [G0j,G0j,z0] at this
     unfold SetTable.grown at m1;split at m1<;>omega
   |false=>
   simp only [G3f,G0H,↓reduceIte]
   refine G0c (new no _ (ep+1) t2 _ (G2g ..) l2 (by omega) ?_ ld (G07 _ ho rfl) (G1k ..))
   rw [z0]
   have s2:=l2.size
   rw [G0a,G0j,z0] at s2
   have: ¬ (t2.fill*5>=t2.mask*3):=by simpa [SetTable.tooFull] using tf
   have f2:t2.fill=es.size+1:=by unfold SetTable.fill;rw [l2.dum,s2];rfl
   omega
  cases hp:(t.put j).1.plain
  ·simp only [G0H,↓reduceIte]
   refine wpAny_bind (G0c ?_)
   simp only [↓reduceIte]
   exact rest (t.put j).1 l1 rfl rfl
  ·simp only [↓reduceIte]
   refine wpAny_bind (byv _ ?_)
   cases bv
   ·simp only [G0H,↓reduceIte]
    exact rest _ (l1.plain false) rfl rfl
   ·simp only [↓reduceIte]
    exact rest (t.put j).1 l1 rfl rfl
 ·exact G0c (there i y e ek)
end L2
namespace L2
open PySem PySem.Spec PyProof.Rows HT
def ji5 (h h' :Heap):Prop:= ∀ (b:Addr) (o:Obj),o.cls= .type "tuple" ->h.get? b=some o->h'.get? b=some o
theorem jcc {α β:Type} {M:Model} {A:Around} {E:Value->Shared->Prop} {s:Shared} {f:α->β->Sem (ForInStep β)} {r:β} {Q:β->Shared->Prop}: ∀ (l:List α),(∀x∈l,∀Q' :ForInStep β->Shared->Prop,Q' (.yield r) s->wpAny M A (f x r) Q' E s)->Q r s->wpAny M A (forIn l r f) Q E s
 | [],_,q=>G0c q
 |x::l,h,q=>by
  rw [G16]
  exact wpAny_bind (h x (.head _) _ (jcc l (λy hy=>h y (.tail _ hy)) q))
structure MemK (prog:Program) (w:World) (K:Type) [DecidableEq K] where
 is:Heap->K->Addr->Prop
 hash:K->Int
 inj: ∀ {h:Heap} {x y:K} {a:Addr},is h x a->is h y a->x=y
 keep: ∀ {h h' :Heap} {x:K} {a:Addr},ji5 h h' ->is h x a->is h' x a
 hashed: ∀ {A:Around} {E:Value->Shared->Prop} {s:Shared} {x:K} {a:Addr} {Q:Int->Shared->Prop},A.units+8<cLine->is s.heap x a->(∀tk,Q (hash x) {s with toks:=tk})->wpAny (model prog w) A (pyHash (.ref a)) Q E s
 same: ∀ {A:Around} {E:Value->Shared->Prop} {s:Shared} {x y:K} {a b:Addr} {Q:Bool->Shared->Prop},A.units+8<cLine->is s.heap x a->is s.heap y b->Q (decide (x=y)) s->wpAny (model prog w) A (eqBool (.ref a) (.ref b)) Q E s
 quiet: ∀ {A:Around} {E:Value->Shared->Prop} {s:Shared} {x:K} {a:Addr} {Q:Bool->Shared->Prop},is s.heap x a->Q true s->wpAny (model prog w) A (eqIsQuiet 8 (.ref a)) Q E s
 cls: ∀ {A:Around} {E:Value->Shared->Prop} {s:Shared} {x:K} {a:Addr} {Q:Bool->Shared->Prop},is s.heap x a->Q false s->wpAny (model prog w) A (ofAClassStatement 8 (.ref a)) Q E s
 byv: ∀ {A:Around} {E:Value->Shared->Prop} {s:Shared} {x:K} {a:Addr} {Q:Bool->Shared->Prop},is s.heap x a->Q true s->wpAny (model prog w) A (hashByValue 8 (.ref a)) Q E s
section
variable {prog:Program} {w:World} {A:Around} {E:Value->Shared->Prop} {s:Shared} {K:Type} [DecidableEq K]
theorem jl2 (M:MemK prog w K) {x:K} {a:Addr} {stored:List Value} {Q:Bool->Shared->Prop} (hx:M.is s.heap x a) (hs: ∀y∈stored,∃k b,y= .ref b/\M.is s.heap k b) (q:Q false s):wpAny (model prog w) A (searchCouldBeSeen (.ref a) stored) Q E s:=by
 unfold searchCouldBeSeen
 refine wpAny_bind (jcc stored (λy hy Q' q' => ?_) (G0c q))
 obtain⟨k,b,rfl,hk⟩:=hs y hy
 by_cases c:(a==b)=true
 ·simp only [c,Bool.true_or,↓reduceIte]
  exact G0c q'
 ·simp only [c,show carriedByValue (.ref a)=false from rfl,G3e,Bool.or_false,G0H,↓reduceIte]
  refine wpAny_bind (M.quiet hx (wpAny_bind (M.quiet hk (wpAny_bind (M.cls hx (wpAny_bind (M.cls hk ?_)))))))
  exact G0c q'
structure SetT (M:MemK prog w K) (L:Bool) (is:K->Addr->Prop) (f:Int×Value->K) (es:Array (Int×Value)) (t:SetTable) (ks:List K):Prop where
 laid:Laid t (es.toList.map (·.1))
 led:t.led=L
 lean:es.size*5<t.mask*3
 mask:t.mask<=8*ks.length+16
 each: ∀e∈es.toList,e.1=M.hash (f e)/\ ∃b,e.2= .ref b/\is (f e) b
 nd:(es.toList.map f).Nodup
 mem: ∀k,k∈es.toList.map f↔k∈ks
theorem jcd: ∀ {xs ys:List K},xs.Nodup->(∀x∈xs,x∈ys)->xs.length<=ys.length
 | [],_,_,_=>G1B _
 |x::xs,ys,nd,h=>by
  obtain⟨n1,n2⟩:=G01.mp nd
  have le:=jcd (ys:=ys.erase x) n2 λy hy=>(G1W (λ(e:y=x)=>n1 (by rw [<-e];exact hy))).mpr (h y (.tail _ hy))
  rw [G1H (h x (.head _))] at le
  have pos:=G1L (h x (.head _))
  rw [G0e]
  omega
theorem SetT.size {M:MemK prog w K} {L:Bool} {is:K->Addr->Prop} {f:Int×Value->K} {es:Array (Int×Value)} {t:SetTable} {ks:List K} (S:SetT M L is f es t ks):es.size<=ks.length:=by
 have:=jcd S.nd λk hk=>(S.mem k).mp hk
 rwa [G0a,G0j] at this
theorem SetT.tab {M:MemK prog w K} {L:Bool} {is:K->Addr->Prop} {f:Int×Value->K} {es:Array (Int×Value)} {t:SetTable} {ks:List K} (S:SetT M L is f es t ks):Tab L es.size t:=
 ⟨S.laid.fits (by rw [G0a,G0j]),S.led,S.laid.dum,λ_=>S.laid.rise⟩
set_option maxHeartbeats 1000000 in
theorem ji6 {M:MemK prog w K} {L:Bool} {is:K->Addr->Prop} {f:Int×Value->K} {es:Array (Int×Value)} {ep:Nat} {t:SetTable} {ks:List K} {a b:Addr} {k:K} {Q:Bool->Shared->Prop} (hu:A.units+8<cLine) (S:SetT M L is f es t ks) (ho:s.heap.get? a=some (jdT es ep t)) (few:ks.length<1000) (to: ∀k b,is k b->M.is s.heap k b) (hk:is k b)
 (q: ∀r f' es' ep' t' h' tk,SetT M L is f' es' t' (k::ks)->h'.get? a=some (jdT es' ep' t')->Heap.SameBut a s.heap h' ->Q r {s with heap:=h',toks:=tk}):wpAny (model prog w) A (setAdd a (.ref b)) Q E s:=by
 refine G02 (wpAny_bind (M.hashed hu (to _ _ hk) λtk=>G02 ?_))
 show wpAny _ _ (setAddHashedIn a (.ref b) (M.hash k) (99999+1)) _ _ _
 have at_: ∀ (i:Nat) (y:Value),es[i]? =some (M.hash k,y)->(M.hash k,y)∈es.toList:=λi y e=>by
  rw [<-G1x] at e;exact G0W e
 refine jl1 (s:= {s with toks:=tk}) (eqk:=λi=>match es[i]? with
  |some e=>decide (f e=k)
  |none=>false) (bv:=true) S.laid (G0R S.mask (by omega)) S.lean ho (λi y e=> ?_) (λQ' q' => ?_) (λi y e Q' q' => ?_) (λQ' q' =>M.byv (to _ _ hk) q') (λno es' ep' t' h' pe l' mk ln ld o' sb=> ?_) (λi y e ek=> ?_)
 ·obtain⟨_,c,d,_⟩:=S.each _ (at_ i y e);exact⟨c,d⟩
 ·refine jl2 M (to _ _ hk) (λy hy=> ?_) q'
  obtain⟨e,he,rfl⟩:=G0K.mp hy
  obtain⟨_,c,d,i⟩:=S.each e (by rw [Array.toList_filter] at he;exact(G20.mp he).1)
  exact⟨_,c,d,to _ _ i⟩
 ·obtain⟨_,c,d,i'⟩:=S.each _ (at_ i y e)
  have d:y= .ref c:=d
  subst d
  simp only [e] at q'
  exact G02 (M.same hu (to _ _ i') (to _ _ hk) q')
 ·have kn:k ∉ ks:=λz=>by
   obtain⟨e,he,fe⟩:=G0K.mp ((S.mem k).mpr z)
   obtain⟨i,hi⟩:=G1X he
   obtain⟨e1,e2⟩:=e
   have h1:=(S.each _ he).1
   rw [fe] at h1
   have h1:e1=M.hash k:=h1
   subst h1
   have hi:es[i]? =some (M.hash k,e2):=by rw [<-G1x];exact hi
   have:=no i e2 hi
   simp only [hi,fe,decide_true] at this
   cases this
  have same: ∀e∈es.toList,(if e=(M.hash k,.ref b) then k else f e)=f e:=λe he=>by
   by_cases c:e=(M.hash k,.ref b)
   ·rw [if_pos c]
    obtain⟨_,c',d,i⟩:=S.each e he
    rw [c] at d
    cases d
    exact M.inj (to _ _ hk) (to _ _ i)
   ·rw [if_neg c]
  have me:(es.toList.map λe=>if e=(M.hash k,.ref b) then k else f e)=es.toList.map f:=G0N same
  have pk:=pe.map λe=>if e=(M.hash k,.ref b) then k else f e
  rw [G2Q,G1m,me] at pk
  have one:(List.map (λe=>if e=(M.hash k,.ref b) then k else f e) [(M.hash k,.ref b)])= [k]:=by simp
  rw [one] at pk
  have sz:=S.size
  refine q true (λe=>if e=(M.hash k,.ref b) then k else f e) es' ep' t' h' tk ⟨l',ld.trans S.led,ln,?_,λe he=> ?_,pk.nodup_iff.mpr ?_,λm=>pk.mem_iff.trans ?_⟩ o' sb
  ·have:=S.mask
   rw [G0e]
   omega
  ·have z:=pe.mem_iff.mp he
   rw [G2Q] at z
   rcases G1a.mp z with z|z
   ·rw [same e z];exact S.each e z
   ·have z:=G0x.mp z
    subst z
    rw [if_pos rfl]
    exact⟨rfl,b,rfl,hk⟩
  ·rw [List.nodup_append]
   refine⟨S.nd,by simp,λx hx y hy e=> ?_⟩
   have:y=k:=by simpa using hy
   subst this;subst e
   exact kn ((S.mem _).mp hx)
  ·rw [G1a,S.mem m,G0x,G0u,or_comm]
 ·have hin:k∈ks:=by
   simp only [e,G2k] at ek
   rw [<-ek]
   exact(S.mem _).mp (List.mem_map_of_mem (at_ i y e))
  refine q false f es ep t s.heap tk ⟨S.laid,S.led,S.lean,?_,S.each,S.nd,λm=>(S.mem m).trans ?_⟩ ho (Heap.SameBut.refl _ _)
  ·have:=S.mask
   rw [G0e]
   omega
  ·rw [G0u]
   exact⟨.inr,λz=>z.elim (λe=>e ▸ hin) id⟩
end
section
variable {prog:Program} {w:World} {A:Around} {E:Value->Shared->Prop} {s:Shared}
theorem jl3 (n:Nat) {v:Value} (h:carriedByValue v=true):ofAClassStatement n v=pure false:=by
 cases v<;>first|(cases h;done)|simp [ofAClassStatement]
theorem jkP {n:Int} {v:Value} (h:(intKind prog w).is n v=true): ∃tk,v= .int n tk:=by
 cases v<;>simp [intKind,Value.isInt] at h
 exact⟨_,by rw [h]⟩
theorem jhM {ks:List Int} {vs:List Value} (h:ItemsAre (intKind prog w) ks vs): ∀v∈vs,∃n tk,v= .int n tk:=by
 induction h with
 |nil=>exact λv hv=>absurd hv G04
 |cons h1 _ ih=>
  intro v hv
  rcases G0u.mp hv with rfl|hv
  ·obtain⟨tk,e⟩:=jkP h1;exact⟨_,tk,e⟩
  ·exact ih v hv
theorem ji7 (d:Nat) {x:List Int} {a:Addr} {Q:Bool->Shared->Prop}:IsTupleKey (intKind prog w) s.heap x a->Q false s->wpAny (model prog w) A (ofAClassStatement (d+1) (.ref a)) Q E s
 |⟨_,_,_,ho,hc,hd,hi⟩,q=>by
  unfold ofAClassStatement
  refine wpAny_bind (G2I (T:= "tuple") ⟨_,ho,hc⟩ ?_)
  simp only [G1w,↓reduceIte,pure_bind,G2z,G0H]
  refine wpAny_bind (G1Z ho hd (wpAny_bind ?_))
  simp only [<-G1c]
  refine jcc _ (λv hv Q' q' => ?_) (G0c q)
  rw [jl3 d (hi.byValue v hv)]
  exact G0c q'
theorem jl4 (d:Nat) (m:Int) (tk:Tok):hashByValue d (.int m tk)=pure true:=by cases d<;>rfl
theorem ji8 (d:Nat) {x:List Int} {a:Addr} {Q:Bool->Shared->Prop}:IsTupleKey (intKind prog w) s.heap x a->Q true s->wpAny (model prog w) A (hashByValue (d+1) (.ref a)) Q E s
 |⟨_,_,_,ho,hc,hd,hi⟩,q=>by
  unfold hashByValue
  refine wpAny_bind (G2c (T:= "tuple") ⟨_,ho,hc⟩ F.slot_tuple_hash.lookup ?_)
  refine wpAny_bind (G1Z ho hd (wpAny_bind ?_))
  simp only [G10,<-G1c]
  refine jcc _ (λv hv Q' q' => ?_) (G0c q)
  obtain⟨m,tk,rfl⟩:=jhM hi v hv
  rw [jl4]
  exact G0c q'
def jp3 (prog:Program) (w:World):MemK prog w (List Int) where
 is:=λh x a=>IsTupleKey (intKind prog w) h x a
 hash:=tupleKeyHash (intKind prog w)
 inj:=λhx hy=>hx.inj hy
 keep:=λk ⟨o,items,n,ho,hc,hd,hi⟩=>⟨o,items,n,k _ o hc ho,hc,hd,hi⟩
 hashed:=λhu hk q=>wpAny_pyHash_tuple (by omega) hk (q _)
 same:=λhu hx hy q=>wpAny_eqBool_tuple (by omega) hx hy q
 quiet:=λhk q=>wpAny_eqIsQuiet_tuple hk q
 cls:=λhk q=>ji7 7 hk q
 byv:=λhk q=>ji8 7 hk q
end
end L2
namespace L2
open PySem PySem.Spec PyProof.Rows HT PySem.SeqAt
section
variable {prog:Program} {w:World} {A:Around} {E:Value->Shared->Prop} {a I:Addr} {fp wr:List Addr} {n:Nat} {P:Nat->Value->Prop} {St:Nat->Heap->Prop} {K:Type} [DecidableEq K] {M:MemK prog w K} {L:Bool} {is:K->Addr->Prop} {key:Nat->K}
theorem jc5 {R:Result->Shared->Prop} (hu:A.units+16<cLine) (W:Walks prog w A.in1 I fp wr n P St) (num: ∀i v,P i v-> ∃b,v= .ref b/\is (key i) b) (na:a ∉ fp) (few:n<1000) (nt: ∀i h,St i h-> ∀b∈wr,∀o,h.get? b=some o->o.cls≠ .type "tuple"):
 ∀ (k i:Nat) (s:Shared) (f:Int×Value->K) (es:Array (Int×Value)) (ep:Nat) (t:SetTable),i+k=n->St i s.heap->s.heap.get? a=some (jdT es ep t)->(∀k b,is k b->M.is s.heap k b)->SetT M L is f es t ((List.range i).map key).reverse->
  (∀h' tk f' es' ep' t',h'.get? a=some (jdT es' ep' t')->SetT M L is f' es' t' ((List.range n).map key).reverse->(∀b o,b≠a->b ∉ wr->s.heap.get? b=some o->h'.get? b=some o)->R (.ok (.ret .none)) {s with heap:=h',toks:=tk})->
  codeAny (model prog w) A (.builtin "set.update.loop" ⟨[.ref a,.ref I],[]⟩) R s
 |0,i,s,f,es,ep,t,hk,st,ha,to,S,q=>by
  obtain rfl:i=n:=by omega
  refine G25 jgb ?_
  rw [Around.under_plainId jdU]
  exact wpAny_bind (W.done s _ _ st λh' tk kept=>G0c (q h' tk f es ep t (kept _ _ (λz=>na (W.sub _ z)) ha) S λb o _ nb e=>kept b o nb e))
 |k+1,i,s,f,es,ep,t,hk,st,ha,to,S,q=>by
  refine G25 jgb ?_
  rw [Around.under_plainId jdU]
  refine wpAny_bind (W.item i s _ _ (by omega) st λv h1 tk1 pv st1 kept1=> ?_)
  obtain⟨b,rfl,hb⟩:=num i v pv
  have ha1:=kept1 _ _ (λz=>na (W.sub _ z)) ha
  have to1: ∀k b,is k b->M.is h1 k b:=λk b z=>M.keep (λc o hc e=>kept1 c o (λm=>nt i _ st c m o e hc) e) (to k b z)
  refine wpAny_bind (G02 (ji6 (s:= {s with heap:=h1,toks:=tk1}) (show A.units+1+8<cLine by omega) S ha1 (by simp;omega) to1 hb λr f2 es2 ep2 t2 h2 tk2 S2 ha2 same2=>G0c ⟨plainId_quiet jdU _,?_⟩))
  have S3:SetT M L is f2 es2 t2 ((List.range (i+1)).map key).reverse:=by
   rw [G2b,G1m,List.reverse_append];exact S2
  have kep: ∀c o,o.cls= .type "tuple" ->h1.get? c=some o->h2.get? c=some o:=λc o hc e=>same2.extBut _ _ (λz=>by
   subst z
   rw [show h1.get? c=some (jdT es ep t) from ha1] at e
   cases e
   exact absurd (show Value.type "set" =Value.type "tuple" from hc) (by decide)) e
  refine jc5 hu W num na few nt k (i+1) {s with heap:=h2,toks:=tk2} f2 es2 ep2 t2 (by omega) (W.frame _ _ _ st1 λb hb o e=>same2.extBut _ _ (λz=>na (z ▸ hb)) e) ha2 (λk b z=>M.keep kep (to1 k b z)) S3 λh' tk' f' es' ep' t' ha' S' kept' => ?_
  exact q h' tk' f' es' ep' t' ha' S' λb o ba bw e=>kept' b o ba bw (same2.extBut _ _ ba (kept1 b o bw e))
theorem jho (L:Bool) (f:Int×Value->K):SetT M L is f #[] (.fresh 0 0 L) []:=⟨jhJ 0 0 L,rfl,(by show 0*5<7*3;decide),(by show 7<=8*0+16;decide),λe he=>absurd he (by simp),by simp,λk=>by simp⟩
variable {s:Shared}
theorem ji9 {l:Addr} {vs:List Value} {ep:Nat} {T:String} {Q:Option Value->Shared->Prop} (hu:A.units+32<cLine) (calm:A.handled=none) (hT:T= "list" \/T= "tuple")
 (hl: ∃o,s.heap.get? l=some o/\o.cls= .type T/\ ∃c,o.data= .seq vs.toArray c) (hM: ∀i v,vs[i]? =some v-> ∃b,v= .ref b/\is (key i) b) (to: ∀k b,is k b->M.is s.heap k b) (few:vs.length<1000) (ha:s.heap.get? a=some (jdT #[] ep (.fresh 0 0 (jdV w)))) (la:l≠a)
 (k: ∀h' tk f' es' ep' t',h'.get? a=some (jdT es' ep' t')->SetT M (jdV w) is f' es' t' ((List.range vs.length).map key).reverse->(∀b o,b≠a->s.heap.get? b=some o->h'.get? b=some o)->Q (some .none) {s with heap:=h',toks:=tk}):
 wpAny (model prog w) A (callSpecial? (.ref a) "__init__" [.ref l]) Q E s:=by
 have ty:s.TypeIs (.ref a) "set" :=⟨_,ha,rfl⟩
 refine G0Z ty F.called_set.init (G3a (G2w F.called_set.init.plain jel (jfl ty ?_)))
 have f1:=jgc
 have f2:=jgd
 have f3:=jgN
 have f4:=jgO
 obtain⟨⟨oc,od,odt,osl⟩,hol,hc,c,hd⟩:=hl
 simp only at hc hd
 subst hc hd
 have state:=λ{P:Array (Int×Value)×Nat×SetTable->Shared->Prop} {E' :Value->Shared->Prop} {A' :Around}=>G1p (prog:=prog) (w:=w) (A:=A') (E:=E') (Q:=P) (s:=s) ha rfl (jj9 (jdV w)).tab.fits
 have far:a≠s.heap.objs.size:=λz=>G0P _ (z ▸ G0k ha)
 have lfar:l≠s.heap.objs.size:=λz=>G0P _ (z ▸ G0k hol)
 have na:a ∉ [s.heap.objs.size,l]:=by simp [far,la.symm]
 have sv:vs.toArray.size=vs.length:=G0f ..
 have fin: ∀ {o:Obj} h' tk f' es' ep' t',h'.get? a=some (jdT es' ep' t')->SetT M (jdV w) is f' es' t' ((List.range vs.toArray.size).map key).reverse->(∀b ob,b≠a->b ∉ [s.heap.objs.size]->(s.heap.push o).get? b=some ob->h'.get? b=some ob)->Q (some .none) {s with heap:=h',toks:=tk}:=λh' tk f' es' ep' t' e S kept=>by
  rw [sv] at S
  exact k h' tk f' es' ep' t' e S λb ob nb q=>kept b ob nb (λz=>G0P _ (G0x.mp z ▸ G0k q)) (G0b _ q)
 have to1: ∀ (o:Obj) (k:K) (b:Addr),is k b->M.is (s.heap.push o) k b:=λo k b z=>M.keep (λc ob hc e=>G0b _ e) (to k b z)
 rcases hT with rfl|rfl
 ·have tl:s.TypeIs (.ref l) "list" :=⟨_,hol,rfl⟩
  have isl:s.heap.IsList l vs.toArray:=⟨_,hol,rfl,c,rfl⟩
  wp_walk using state,G1U isl
  refine jc5 (f:=λ_=>key 0) (M:=M) (is:=is) (key:=key) (show A.units+1+16<cLine by omega) (Walks.list (prog:=prog) (w:=w) (A:=A.in1.in1) calm s.heap.objs.size l lfar vs.toArray) (λi v hv=>hM i v (by simpa using hv)) na (by rw [sv];exact few) (λi h st b hb o e=> ?_) vs.toArray.size 0 _ #[] ep _ (G2J _) ⟨⟨_,G0m _ rfl,rfl,rfl⟩,⟨_,G0b _ hol,rfl,c,rfl⟩⟩ (G0b _ ha) (to1 _) (jho _ _) λh' tk f' es' ep' t' e S kept=>G0c (G0c (fin h' tk f' es' ep' t' e S kept))
  obtain⟨⟨o',e',c',_⟩,_⟩:=st
  rw [G0x.mp hb,e'] at e
  cases e
  rw [c'];decide
 ·have tl:s.TypeIs (.ref l) "tuple" :=⟨_,hol,rfl⟩
  have isl:s.heap.IsTuple l vs.toArray:=⟨_,hol,rfl,c,rfl⟩
  wp_walk using state,G19 isl
  refine jc5 (f:=λ_=>key 0) (M:=M) (is:=is) (key:=key) (show A.units+1+16<cLine by omega) (Walks.tuple (prog:=prog) (w:=w) (A:=A.in1.in1) calm s.heap.objs.size l lfar vs.toArray) (λi v hv=>hM i v (by simpa using hv)) na (by rw [sv];exact few) (λi h st b hb o e=> ?_) vs.toArray.size 0 _ #[] ep _ (G2J _) ⟨⟨_,G0m _ rfl,rfl,rfl⟩,⟨_,G0b _ hol,rfl,c,rfl⟩⟩ (G0b _ ha) (to1 _) (jho _ _) λh' tk f' es' ep' t' e S kept=>G0c (G0c (fin h' tk f' es' ep' t' e S kept))
  obtain⟨⟨o',e',c',_⟩,_⟩:=st
  rw [G0x.mp hb,e'] at e
  cases e
  rw [c'];decide
theorem jkh {l:Addr} {vs:List Value} {T:String} {Q:Value->Shared->Prop} (hu:A.units+40<cLine) (calm:A.handled=none) (hT:T= "list" \/T= "tuple")
 (hl: ∃o,s.heap.get? l=some o/\o.cls= .type T/\ ∃c,o.data= .seq vs.toArray c) (hM: ∀i v,vs[i]? =some v-> ∃b,v= .ref b/\is (key i) b) (to: ∀k b,is k b->M.is s.heap k b) (few:vs.length<1000)
 (k: ∀h' tk f' es' ep' t',h'.get? s.heap.objs.size=some (jdT es' ep' t')->SetT M (jdV w) is f' es' t' ((List.range vs.length).map key).reverse->(∀b o,s.heap.get? b=some o->h'.get? b=some o)->Q (.ref s.heap.objs.size) {s with heap:=h',toks:=tk}):
 wpAny (model prog w) A (call (.type "set") [.ref l]) Q E s:=by
 have fits:checkTypeCall "set" ⟨[.ref l],[]⟩=pure ():=by kernel_rfl
 have newFits:checkBuiltinCall "set.__new__" ⟨[.type "set",.ref l],[]⟩=pure ():=by kernel_rfl
 obtain⟨o,hol,r⟩:=hl
 refine L2.jdQ (Made:=λv s₁=>v= .ref s.heap.objs.size/\s₁= {s with heap:=s.heap.push (jdT #[] 0 (.fresh 0 0 (jdV w)))}) F.called_set fits
  (G3a (G2w F.called_set.plain F.entry_set_new (wpAny_of_eq newFits (jka ⟨rfl,rfl⟩)))) λv s₁ ⟨ev,es⟩=> ?_
 subst ev es
 have at_:(s.heap.push (jdT #[] 0 (.fresh 0 0 (jdV w)))).get? s.heap.objs.size=some (jdT #[] 0 (.fresh 0 0 (jdV w))):=G0m _ rfl
 refine⟨⟨_,at_,rfl⟩,ji9 (s:= {s with heap:=s.heap.push (jdT #[] 0 (.fresh 0 0 (jdV w)))}) (M:=M) (is:=is) (key:=key) (show A.units+1+32<cLine by omega) calm hT ⟨o,G0b _ hol,r⟩ hM (λk b z=>M.keep (λc o hc e=>G0b _ e) (to k b z)) few at_ (λz=>G0P _ (z ▸ G0k hol)) λh' tk f' es' ep' t' e S kept=>⟨rfl,k h' tk f' es' ep' t' e S λb ob q=>kept b ob (λz=>G0P _ (z ▸ G0k q)) (G0b _ q)⟩⟩
end
theorem jeM {prog:Program} {w:World}: ∀ {vs:List Value} {ns:List Int},IntsAre vs ns->ItemsAre (intKind prog w) ns vs
 |_,_,.nil=> .nil
 |_,_,.cons n t a=> .cons (by simp [intKind,Value.isInt]) (jeM a)
theorem jnU {X:Cx} {pins:List (Addr×Obj)} {σ:St} {H:Hp} {s:Shared} (I:Inv X pins σ H s) (k:List Int) (b:Addr) (h:H b=some (.tup (k.map V.int))):(jp3 X.prog X.w).is s.heap k b:=by
 obtain⟨_,us,r2,o,e,c,_,n,d⟩:=I.hok b _ h
 exact⟨o,us.toArray,n,e,c,d,jeM (jeD r2)⟩
section
variable {prog:Program} {w:World} {A:Around} {E:Value->Shared->Prop} {s:Shared}
inductive RowsIn (prog:Program) (w:World) (h:Heap):List (List Int)->List Value->Prop
 |nil:RowsIn prog w h [] []
 |cons {r:List Int} {b:Addr} {T:List (List Int)} {vs:List Value}:IsTupleKey (intKind prog w) h r b->RowsIn prog w h T vs->RowsIn prog w h (r::T) (.ref b::vs)
theorem RowsIn.one {h:Heap}: ∀ {T U:List (List Int)} {vs:List Value},RowsIn prog w h T vs->RowsIn prog w h U vs->T=U
 |_,_,_,.nil,.nil=>rfl
 |_,_,_,.cons a x,.cons b y=>by rw [a.inj b,x.one y]
theorem RowsIn.keep {h h' :Heap} (k:ji5 h h'): ∀ {T:List (List Int)} {vs:List Value},RowsIn prog w h T vs->RowsIn prog w h' T vs
 |_,_,.nil=> .nil
 |_,_,.cons ⟨o,items,n,ho,hc,hd,hi⟩ x=> .cons ⟨o,items,n,k _ o hc ho,hc,hd,hi⟩ (x.keep k)
theorem RowsIn.each {h:Heap}: ∀ {T:List (List Int)} {vs:List Value},RowsIn prog w h T vs-> ∀v∈vs,∃r b,v= .ref b/\IsTupleKey (intKind prog w) h r b
 |_,_,.nil,v,hv=>absurd hv G04
 |_,_,.cons a x,v,hv=>by
  rcases G0u.mp hv with e|hv
  ·exact⟨_,_,e,a⟩
  ·exact x.each v hv
def jgU (prog:Program) (w:World) (h:Heap) (T:List (List Int)) (a:Addr):Prop:= ∃o items n,h.get? a=some o/\o.cls= .type "tuple" /\o.data= .seq items n/\RowsIn prog w h T items.toList
def jl5 (prog:Program) (w:World) (T:List (List Int)):Int:=reduceHash (Builtin.Tuple.tupleHashOf (T.map (tupleKeyHash (intKind prog w))))
theorem jgf {Q:Array Int->Shared->Prop} (hu:A.units+4<cLine): ∀ {vs:List Value} {U:List (List Int)} (b:Array Int) (s1:Shared),s1.heap=s.heap->RowsIn prog w s.heap U vs->(∀tk,Q (b++(U.map (tupleKeyHash (intKind prog w))).toArray) {s1 with toks:=tk})->
 wpAny (model prog w) A (forIn vs b λx r=>do let h <-pyHash x;pure (ForInStep.yield (r.push h))) Q E s1
 |_,_,b,s1,_,.nil,q=>G0c (by have:=q s1.toks;simpa using this)
 |_,_,b,s1,e1,.cons (r:=r) (T:=U) a x,q=>by
  rw [G16]
  refine wpAny_bind (wpAny_bind (wpAny_pyHash_tuple (by omega) (by rw [e1];exact a) (G0c ?_)))
  exact jgf hu (b.push (tupleKeyHash (intKind prog w) r)) _ e1 x λtk=>by
   have:=q tk
   rw [G0v] at this
   simpa using this
theorem jki {T:List (List Int)} {a:Addr} {Q:Int->Shared->Prop} (hu:A.units+8<cLine) (hT:jgU prog w s.heap T a) (q: ∀tk,Q (jl5 prog w T) {s with toks:=tk}):wpAny (model prog w) A (pyHash (.ref a)) Q E s:=by
 obtain⟨o,items,n,ho,hc,hd,hi⟩:=hT
 have ty:s.TypeIs (.ref a) "tuple" :=⟨o,ho,hc⟩
 have room:A.units<cLine:=by omega
 have slot:=λ{M:Model} {A' :Around} {E' :Value->Shared->Prop} {P:Option Value->Shared->Prop}=>G2c (M:=M) (A:=A') (E:=E') (Q:=P) ty F.slot_tuple_hash.lookup
 unfold pyHash pyHashByItsType
 refine wpAny_bind (wpAny_cRoomFor_or (.inr room) (wpAny_bind (slot ?_)))
 rw [if_neg (by simp)]
 refine wpAny_bind (slot (wpAny_bind (wpAny_callSpecialIfBoundUnlessNone?_slot ty F.slot_tuple_hash (G0Y F.slot_tuple_hash ty F.entry_tuple_hash ?_ (F.args_tuple_hash_1 _)))))
 show wpAny _ _ (Builtin.Tuple.tupleItemsOf (.ref a) >>= _) _ _ s
 refine wpAny_bind (wpAny_tupleItemsOf ho hd (wpAny_bind ?_))
 rw [<-G1c]
 refine jgf (A:=A.in1) (show A.units+1+4<cLine by omega) #[] s rfl hi λtk=> ?_
 have told:=q (tk+1)
 unfold jl5 reduceHash at told
 show wpAny _ _ (retInt (Builtin.Tuple.tupleHashOf ((#[]:Array Int)++(T.map (tupleKeyHash (intKind prog w))).toArray).toList)) _ _ _
 rw [show ((#[]:Array Int)++(T.map (tupleKeyHash (intKind prog w))).toArray).toList=T.map (tupleKeyHash (intKind prog w)) by simp]
 refine wpAny_ret_mkInt ?_
 show wpAny _ _ (pyHashByItsType.reduced _) _ _ _
 unfold pyHashByItsType.reduced
 split
 ·rename_i c
  rw [if_pos c] at told
  exact G0c told
 ·rename_i c
  rw [if_neg c] at told
  exact wpAny_bind (G29 (G0c told))
theorem jja (d:Nat) {x:List Int} {a:Addr} {Q:Bool->Shared->Prop}:IsTupleKey (intKind prog w) s.heap x a->Q true s->wpAny (model prog w) A (eqIsQuiet (d+1) (.ref a)) Q E s
 |⟨_,_,_,ho,hc,hd,hi⟩,q=>by
  unfold eqIsQuiet
  refine wpAny_bind (G2c (T:= "tuple") ⟨_,ho,hc⟩ F.slot_tuple_eq.lookup (wpAny_bind (G2u (T:= "tuple") ⟨_,ho,hc⟩ isSubtype_tuple_tuple ?_)))
  simp only [G2z,G0H,↓reduceIte]
  refine wpAny_bind (G1Z ho hd (wpAny_bind ?_))
  simp only [G10,<-G1c]
  refine jcc _ (λv hv Q' q' => ?_) (G0c q)
  rw [eqIsQuiet_byValue d (hi.byValue v hv)]
  exact G0c q'
theorem jjb {T:List (List Int)} {a:Addr} {Q:Bool->Shared->Prop}:jgU prog w s.heap T a->Q true s->wpAny (model prog w) A (eqIsQuiet 8 (.ref a)) Q E s
 |⟨_,_,_,ho,hc,hd,hi⟩,q=>by
  unfold eqIsQuiet
  refine wpAny_bind (G2c (T:= "tuple") ⟨_,ho,hc⟩ F.slot_tuple_eq.lookup (wpAny_bind (G2u (T:= "tuple") ⟨_,ho,hc⟩ isSubtype_tuple_tuple ?_)))
  simp only [G2z,G0H,↓reduceIte]
  refine wpAny_bind (G1Z ho hd (wpAny_bind ?_))
  simp only [G10,<-G1c]
  refine jcc _ (λv hv Q' q' => ?_) (G0c q)
  obtain⟨r,b,rfl,hr⟩:=hi.each v hv
  exact wpAny_bind (jja 6 hr (G0c q'))
theorem jl6 {T:List (List Int)} {a:Addr} {Q:Bool->Shared->Prop}:jgU prog w s.heap T a->Q false s->wpAny (model prog w) A (ofAClassStatement 8 (.ref a)) Q E s
 |⟨_,_,_,ho,hc,hd,hi⟩,q=>by
  unfold ofAClassStatement
  refine wpAny_bind (G2I (T:= "tuple") ⟨_,ho,hc⟩ ?_)
  simp only [G1w,↓reduceIte,pure_bind,G2z,G0H]
  refine wpAny_bind (G1Z ho hd (wpAny_bind ?_))
  simp only [<-G1c]
  refine jcc _ (λv hv Q' q' => ?_) (G0c q)
  obtain⟨r,b,rfl,hr⟩:=hi.each v hv
  exact wpAny_bind (ji7 6 hr (G0c q'))
theorem jl7 {T:List (List Int)} {a:Addr} {Q:Bool->Shared->Prop}:jgU prog w s.heap T a->Q true s->wpAny (model prog w) A (hashByValue 8 (.ref a)) Q E s
 |⟨_,_,_,ho,hc,hd,hi⟩,q=>by
  unfold hashByValue
  refine wpAny_bind (G2c (T:= "tuple") ⟨_,ho,hc⟩ F.slot_tuple_hash.lookup (wpAny_bind (G1Z ho hd (wpAny_bind ?_))))
  simp only [G10,<-G1c]
  refine jcc _ (λv hv Q' q' => ?_) (G0c q)
  obtain⟨r,b,rfl,hr⟩:=hi.each v hv
  exact wpAny_bind (ji8 6 hr (G0c q'))
theorem jeN {h:Heap}: ∀ {ks:List Int} {vs:List Value},ItemsAre (intKind prog w) ks vs->ReadsAll h vs (ks.map PyData.int) []
 |_,_,.nil=> .nil
 |_,_,.cons a x=>by
  obtain⟨tk,rfl⟩:=jkP a
  exact .cons (as:= []) (bs:= []) (.int _ _) (jeN x)
theorem jc6 {h:Heap}: ∀ {T:List (List Int)} {vs:List Value},RowsIn prog w h T vs->ReadsAll h vs (T.map jcM) []
 |_,_,.nil=> .nil
 |_,_,.cons ⟨_,_,_,ho,hc,hd,hi⟩ x=> .cons (as:= []) (bs:= []) (.tuple ho hc hd (jeN hi)) (jc6 x)
theorem jl8 {T U:List (List Int)} {a b:Addr} {Q:Bool->Shared->Prop} (hu:A.units+8<cLine) (hT:jgU prog w s.heap T a) (hU:jgU prog w s.heap U b) (q:Q (decide (T=U)) s):wpAny (model prog w) A (eqBool (.ref a) (.ref b)) Q E s:=by
 obtain⟨_,_,_,ho,hc,hd,hi⟩:=hT
 obtain⟨_,_,_,ho',hc',hd',hi'⟩:=hU
 have lay: ∀V:List (List Int),PyData.canLay0 (.tuple (V.map jcM))=true:=λV=>by simp only [PyData.canLay0];exact jbY V
 have dep:PyData.depth (.tuple (T.map jcM))<=4:=by simp only [PyData.depth];have:=jbN T;omega
 refine eqBoolOverData prog w A E s _ _ _ _ _ _ Q (.tuple ho hc hd (jc6 hi)) (.tuple ho' hc' hd' (jc6 hi')) (lay T) (lay U) (by have:=Nat.min_le_left (PyData.depth (.tuple (T.map jcM))) (PyData.depth (.tuple (U.map jcM)));omega) ?_
 show Q (PyData.eqvAll (T.map jcM) (U.map jcM)) s
 rw [jaL]
 exact q
def joV (prog:Program) (w:World):MemK prog w (List (List Int)) where
 is:=λh T a=>jgU prog w h T a
 hash:=jl5 prog w
 inj:=λ⟨_,_,_,ho,_,hd,hi⟩ ⟨_,_,_,ho',_,hd',hi'⟩=>by
  rw [ho] at ho'
  cases ho'
  rw [hd] at hd'
  cases hd'
  exact hi.one hi'
 keep:=λk ⟨o,items,n,ho,hc,hd,hi⟩=>⟨o,items,n,k _ o hc ho,hc,hd,hi.keep k⟩
 hashed:=λhu hk q=>jki hu hk q
 same:=λhu hx hy q=>jl8 hu hx hy q
 quiet:=λhk q=>jjb hk q
 cls:=λhk q=>jl6 hk q
 byv:=λhk q=>jl7 hk q
end
theorem jgV {K:Type} [DecidableEq K] {xs ys:List K} (nd:xs.Nodup) (m: ∀x,x∈xs↔x∈ys):xs.length=ys.length↔ys.Nodup:=by
 refine⟨λe=> ?_,λh=>Nat.le_antisymm (jcd nd λx hx=>(m x).mp hx) (jcd h λx hx=>(m x).mpr hx)⟩
 have key: ∀l:List K,l.Nodup\/ ∃l' :List K,l'.length<l.length/\ ∀x∈l,x∈l' :=by
  intro l
  induction l with
  |nil=>exact .inl List.nodup_nil
  |cons a l ih=>
   by_cases c:a∈l
   ·exact .inr ⟨l,by rw [G0e];omega,λx hx=>by rcases G0u.mp hx with rfl|hx<;>assumption⟩
   ·rcases ih with z|⟨l',z1,z2⟩
    ·exact .inl (G01.mpr ⟨c,z⟩)
    ·exact .inr ⟨a::l',by rw [G0e,G0e];omega,λx hx=>by
      rcases G0u.mp hx with rfl|hx
      ·exact G0B
      ·exact G0w _ (z2 x hx)⟩
 rcases key ys with z|⟨l',z1,z2⟩
 ·exact z
 ·have:=jcd nd λx hx=>z2 x ((m x).mp hx)
  omega
def jkj (H:Hp):List V->List (List Int)->Prop
 | [],[]=>True
 |v::vs,r::T=>(∃c,v= .ref c/\H c=some (.tup (r.map V.int)))/\jkj H vs T
 |_,_=>False
def jmi (H:Hp) (T:List (List Int)) (b:Addr):Prop:= ∃us,H b=some (.tup us)/\jkj H us T
def jhp (prog:Program) (w:World) (H:Hp) (o:Obj) (Ts:List (List (List Int))):Prop:= ∃es ep t f,o=jdT es ep t/\SetT (joV prog w) (jdV w) (jmi H) f es t Ts
theorem jjc {X:Cx} {pins:List (Addr×Obj)} {σ:St} {H:Hp} {s:Shared} (I:Inv X pins σ H s): ∀ {vs:List V} {T:List (List Int)} {us:List Value},jkj H vs T->Vals vs us->RowsIn X.prog X.w s.heap T us
 | [],[],_,_,.nil=> .nil
 |_::_,r::_,_,⟨⟨c,e,hc⟩,x⟩,.cons rv y=>by
  subst e
  cases rv
  exact .cons (jnU I r c hc) (jjc I x y)
theorem jnV {X:Cx} {pins:List (Addr×Obj)} {σ:St} {H:Hp} {s:Shared} (I:Inv X pins σ H s) (T:List (List Int)) (b:Addr) (h:jmi H T b):(joV X.prog X.w).is s.heap T b:=by
 obtain⟨us,hb,x⟩:=h
 obtain⟨_,its,rv,o,e,c,_,n,d⟩:=I.hok b _ hb
 exact⟨o,its.toArray,n,e,c,d,by rw [List.toList_toArray];exact jjc I x rv⟩
theorem jgW {X:Cx} {k:Nat} (hc:X.calm=true) (hr:Room k X.A):CallR X (.type "set") (λxs H Q=> ∃ (a:Addr) (ps:List (Addr×List (List Int))),xs= [.ref a]/\SqT X.K H a (ps.map λp=>V.ref p.1)/\ps.length<1000/\(∀p∈ps,jmi H p.2 p.1)/\ ∀ (p:Addr) (o:Obj),H p=none->jhp X.prog X.w H o (ps.map (·.2)).reverse->Q (.ref p) (upd H p (.frz o (.own 0)))):=by
 intro pins s σ H xs us Q I r h
 obtain⟨a,ps,rfl,hS,few,ht,q⟩:=h
 obtain⟨u,rfl,ru⟩:=jcN r
 cases ru
 obtain⟨its,rv,pl,hz⟩:=I.tuple hS
 have len:its.length=ps.length:=by have:=rv.length;rw [G0a] at this;exact this.symm
 have hu:X.A.units+40<cLine:=by have:=hr.un;omega
 have at_: ∀i v,its[i]? =some v-> ∃b,v= .ref b/\jmi H ((ps.map (·.2)).getD i []) b:=by
  clear hS q few hz pl len
  induction ps generalizing its with
  |nil=>cases rv;exact λi v e=>by cases e
  |cons p ps ih=>
   rw [G0v] at rv
   cases rv with
   |cons r1 r2=>
    intro i v e
    cases i with
    |zero=>
     cases e
     exact⟨p.1,r1,ht p G0B⟩
    |succ i=>exact ih (λp hp=>ht p (G0w _ hp)) _ r2 i v e
 have rng:(List.range its.length).map (λi=>(ps.map (·.2)).getD i [])=ps.map (·.2):=by
  have:=jaO (ps.map (·.2)) ([]:List (List Int))
  rw [G0a] at this
  rw [len];exact this.symm
 obtain⟨o,e1,e2,c,e3⟩:=pl
 refine jkh (M:=joV X.prog X.w) (is:=jmi H) hu (I.ok.hd hc) (.inr rfl) ⟨o,e1,e2,c,e3⟩ at_ (jnV I) (by omega) λh' tk f es ep t e S kept=> ?_
 rw [rng] at S
 exact⟨.ref _,_,I.laid (t' :=tk) (o:= .frz (jdT es ep t) (.own 0)) kept (G0d _) ⟨e,⟨_,e⟩⟩,rfl,q _ _ (I.hok.fresh (G0d _)) ⟨es,ep,t,f,rfl,S⟩⟩
theorem jgX {X:Cx}:CallR X (.builtin "len") (λxs H Q=> ∃ (p:Addr) (o:Obj) (Ts:List (List (List Int))) (H' :Hp),xs= [.ref p]/\H p=some (.frz o (.own 0))/\jhp X.prog X.w H' o Ts/\Ts.length<1000/\ ∀k:Nat,k<=Ts.length->(k=Ts.length↔Ts.Nodup)->Q (.int (k:Int)) H):=by
 intro pins s σ H xs us Q I r h
 obtain⟨p,o,Ts,H',rfl,hp,⟨es,ep,t,f,rfl,S⟩,few,q⟩:=h
 obtain⟨u,rfl,ru⟩:=jcN r
 cases ru
 have sz:es.size=(es.toList.map f).length:=by rw [G0a,G0j]
 have le:=S.size
 refine call_len_set (I.hok p _ hp).1 ⟨rfl,rfl,rfl⟩ rfl S.tab.fits (by omega) ?_
 exact⟨.int _,H,I.tok _,⟨_,rfl⟩,q es.size le (by rw [sz];exact jgV S.nd S.mem)⟩
theorem jjd {K:PySem.W.Frag} {H:Hp}: ∀ {T:List (List Int)} {vs:List V},RelDs K H (T.map jc3) vs->jkj H vs T
 | [],vs,r=>by
  have:vs= []:=r
  subst this;exact True.intro
 |row::T,vs,r=>by
  obtain⟨v,us,e,r1,r2⟩:=(show ∃v r,vs=v::r/\RelD K H (jc3 row) v/\RelDs K H (T.map jc3) r from r)
  obtain⟨a,ws,e4,hH,r4⟩:=(show ∃a vs,v= .ref a/\H a=some (.tup vs)/\RelDs K H (row.map D.int) vs from r1)
  rw [jaN r4] at hH
  subst e
  exact⟨⟨a,e4,hH⟩,jjd r2⟩
theorem jje {K:PySem.W.Frag} {H:Hp}: ∀ {Ts:List (List (List Int))} {vs:List V},RelDs K H (Ts.map jah) vs-> ∃ps:List (Addr×List (List Int)),vs=ps.map (λp=>V.ref p.1)/\Ts=ps.map (·.2)/\ ∀p∈ps,jmi H p.2 p.1
 | [],vs,r=>⟨[],r,rfl,λp hp=>by cases hp⟩
 |T::Ts,vs,r=>by
  obtain⟨v,us,e,r1,r2⟩:=(show ∃v r,vs=v::r/\RelD K H (jah T) v/\RelDs K H (Ts.map jah) r from r)
  obtain⟨ps,e1,e2,e3⟩:=jje r2
  obtain⟨a,ws,e4,hH,r4⟩:=(show ∃a vs,v= .ref a/\H a=some (.tup vs)/\RelDs K H (T.map jc3) vs from r1)
  exact⟨(a,T)::ps,by rw [e,e1,e4];rfl,by rw [e2];rfl,λp hp=>by
   rcases G0u.mp hp with rfl|hp
   ·exact⟨ws,hH,jjd r4⟩
   ·exact e3 p hp⟩
theorem jhN {α:Type} {l:List α}:l.reverse.Nodup↔l.Nodup:=by
 unfold List.Nodup
 rw [List.pairwise_reverse]
 exact⟨λh=>h.imp λz=>z.symm,λh=>h.imp λz=>z.symm⟩
def dLT (ta:TAD):TED:=λσ h Q=>ta σ h λds h1=> ∃Ts:List (List (List Int)),ds= [.tup (Ts.map jah)]/\Ts.length<1000/\ ∀k:Nat,k<=Ts.length->(k=Ts.length↔Ts.Nodup)->Q (.int (k:Int)) h1
theorem jl9 {X : Cx} {k : Nat} {a : Expr} {ta : TAD} {p p2 pos pos2 : Pos} (hr : Room k X.A) (hc : X.calm = true) (hg : Gl X "len") (hm : X.mg "len" = none) (hg2 : Gl X "set") (hm2 : X.mg "set" = none) (ha : JA X [a] ta) (hs : starEach [a] X.env = [(false, eval a X.env)] := by rfl)
    (h1 : starEach [.Call (.Name "set" p2) [a] [] pos2] X.env = (false, eval (.Call (.Name "set" p2) [a] [] pos2) X.env) :: starEach [] X.env := by rfl) (h2 : (backTo pos (starEach [] X.env)).any (·.1) = false := by rfl) (h3 : (backTo pos2 (starEach [] X.env)).any (·.1) = false := by rfl) :
    JE X (.Call (.Name "len" p) [.Call (.Name "set" p2) [a] [] pos2] [] pos) (dLT ta) :=
  ⟨(jeT jgX hg hm G0M (jbS (jdz (jgW hc hr) hg2 hm2 (by decide +kernel) ha.to (by decide) (by decide) hs h3) pa_nil h1) (by decide) (by decide) h1 h2).imp
    fun σ H Q ⟨σd, h, Qd, rs, rh, t, post⟩ => LA.bind rs rh t fun ds vs h1 H1 k1 rs1 rh1 r1 ⟨Ts, e, few, q⟩ => by
      subst e
      obtain ⟨v, e, r2⟩ := jas r1
      obtain ⟨a, ws, e1, hH, r3⟩ := (show ∃ a vs, v = .ref a ∧ H1 a = some (.tup vs) ∧ RelDs X.K H1 (Ts.map jah) vs from r2)
      subst e e1
      obtain ⟨ps, rfl, rfl, ht⟩ := jje r3
      rw [G0a] at few q
      refine ⟨a, ps, rfl, SqT.of hH, few, ht, fun c o hcn S => ⟨c, o, _, H1, rfl, jam, S, by simpa using few, fun k le iff => ?_⟩⟩
      rw [List.length_reverse, G0a] at le iff
      exact post (.int _) _ _ _ (k1.trans (.new hcn)) (rh1.new (o := .frz o (.own 0)) hcn) rfl (q k le (iff.trans jhN))⟩
end L2
namespace L2
open PySem PySem.Spec PyProof.Rows PySem.SeqAt HT
section
variable {n e:Nat} {T:List (List Int)}
def jgY (n:Nat) (T:List (List Int)) (i k:Nat):Prop:= ∀j,j<n->(RP n T k i j↔RP n T (k+60) i j)
theorem jfn {k i j:Nat} (hi:i<n) (hj:j<n):ent (jai n (jba n T k)) i j=if RP n T k i j then 1 else 0:=by
 rw [jbP hi hj]
 by_cases z:ent (jba n T k) i j=0
 ·rw [if_pos z,if_neg (show ¬RP n T k i j from λw=>w z)]
 ·rw [if_neg z,if_pos (show RP n T k i j from z)]
theorem jkk (h:Sq n e T) (h6:n<=6) {m i:Nat} (hm:n<=m) (hi:i<n):jgY n T i m\/(jar n λj=>ent (jai n (jba n T m)) i j)+1<=jar n λj=>ent (jai n (jba n T (m+60))) i j:=by
 have le:=λj hj=>jiP h h6 hm i j hi hj
 by_cases z:(jar n λj=>ent (jai n (jba n T (m+60))) i j)<=jar n λj=>ent (jai n (jba n T m)) i j
 ·refine .inl λj hj=> ?_
  have s:=jc4 le z j hj
  rw [jfn hi hj,jfn hi hj] at s
  by_cases a:RP n T m i j
  ·by_cases b:RP n T (m+60) i j
   ·exact⟨λ_=>b,λ_=>a⟩
   ·rw [if_pos a,if_neg b] at s;omega
  ·by_cases b:RP n T (m+60) i j
   ·rw [if_neg a,if_pos b] at s;omega
   ·exact⟨λw=>absurd w a,λw=>absurd w b⟩
 ·exact .inr (by have:=jbO le;omega)
theorem jkl (h:Sq n e T) (h6:n<=6) {i k:Nat} (hi:i<n) (r:jgY n T i k):jgY n T i (k+1):=λj hj=>by
 rw [show k+1+60=(k+60)+1 by omega,jdS h (by omega) k 1 hi hj,jdS h (by omega) (k+60) 1 hi hj]
 exact⟨λ⟨l,hl,a,b⟩=>⟨l,hl,(r l hl).mp a,b⟩,λ⟨l,hl,a,b⟩=>⟨l,hl,(r l hl).mpr a,b⟩⟩
theorem jkQ (h:Sq n e T) (h6:n<=6) {i k:Nat} (hi:i<n) (r:jgY n T i k): ∀d,jgY n T i (k+d)
 |0=>r
 |d+1=>jkl h h6 hi (jkQ h h6 hi r d)
theorem jjf (h6:n<=6) {i k:Nat} (hi:i<n):0<=(jar n λj=>ent (jai n (jba n T k)) i j)/\(jar n λj=>ent (jai n (jba n T k)) i j)<=6:=by
 have a: ∀j,j<n->0<=ent (jai n (jba n T k)) i j/\ent (jai n (jba n T k)) i j<=1:=λj hj=>by
  rw [jbP hi hj];split<;>omega
 refine⟨jco λj hj=>(a j hj).1,?_⟩
 have:=jdv (f:=λj=>ent (jai n (jba n T k)) i j) λj hj=>(a j hj).2
 omega
theorem jkm (h:Sq n e T) (h6:n<=6) {i:Nat} (hi:i<n):jgY n T i (n+360):=by
 by_cases z: ∃t:Nat,t<=6/\jgY n T i (n+60*t)
 ·obtain⟨t,ht,r⟩:=z
  have:=jkQ h h6 hi r (60*(6-t))
  rw [show n+60*t+60*(6-t)=n+360 by omega] at this
  exact this
 ·exfalso
  have g: ∀t:Nat,t<=7->(t:Int)<=jar n λj=>ent (jai n (jba n T (n+60*t))) i j:=by
   intro t
   induction t with
   |zero=>exact λ_=>(jjf h6 hi).1
   |succ t ih=>
    intro ht
    rcases jkk h h6 (m:=n+60*t) (by omega) hi with b|b
    ·exact(z ⟨t,by omega,b⟩).elim
    ·have:=ih (by omega)
     rw [show n+60*(t+1)=n+60*t+60 by omega]
     omega
  have a:=g 7 (G0d _)
  have b:=(jjf (T:=T) (k:=n+60*7) h6 hi).2
  omega
theorem jgZ (h:Sq n e T) (h1:1<=n) (h6:n<=6) {L:Nat} (nd:((List.range L).map (jat n T)).Nodup):L<=426:=by
 refine G1Y λz=> ?_
 have eq:jai n (jba n T (n+360))=jai n (jba n T (n+420)):=by
  refine(Sq.mark (n:=n) _).ext (Sq.mark (n:=n) _) λi j hi hj=> ?_
  rw [jfn hi hj,jfn hi hj]
  have r:=jkm h h6 hi j hj
  rw [show n+360+60=n+420 by omega] at r
  by_cases a:RP n T (n+360) i j
  ·rw [if_pos a,if_pos (r.mp a)]
  ·rw [if_neg a,if_neg λw=>a (r.mpr w)]
 refine jiR (a:=n+359) (b:=n+419) nd (by omega) (by omega) ?_
 rw [jbh h (by omega),jbh h (by omega)]
 exact eq
end
end L2
namespace L2
open PySem PySem.Spec PyProof.Rows PySem.W
structure DefIn (K:Frag) (x:Str) (st:Stmt) (f:Addr) (fd:FuncData):Prop where
 at_:nsIn K mainGlobals x=some (some (.ref f))
 fn:Fun K x x st f fd
variable {K:Frag} {h base:Heap} {mg:Str->Option Value} {x:Str} {st:Stmt} {f:Addr} {fd:FuncData} {P:Program} {w:World} {n:Nat} {ps:List Str}
theorem jnW {oc:Value} {od an:Option Addr} {osl:Array (Option Value)} {kV doc pm cdv ct:Value} (a:nsIn K mainGlobals x=some (some (.ref f))) (l:K.lookup f=some ⟨oc,od,.func (fnOf x x (jb8 st) (jbj st) (jad st) .none kV doc pm an cdv ct),osl⟩)
 (c:codeIn K cdv x=true) (k:keepIn K (.ref f)=true):DefIn K x st f (fnOf x x (jb8 st) (jbj st) (jad st) .none kV doc pm an cdv ct):=⟨a,jmW l c k⟩
abbrev joW (x:Str) (st:Stmt) (ps:List Str):Prop:= ∀ (kV doc pm:Value) (an:Option Addr) (cdv ct:Value) (us:List Value),us.length=ps.length->bindArgs (fnOf x x (jb8 st) (jbj st) (jad st) .none kV doc pm an cdv ct) ⟨us,[]⟩=pure (ps.zip us)
theorem DefIn.nm (d:DefIn K x st f fd) (X:K.In h) (G:h.Ns mainGlobals mg):mg x=some (.ref f):=mg_of X G d.at_
theorem DefIn.cal {sp:RDn} (d:DefIn K x st f fd) (l:OpenLaw) (w:World) (base:Heap) (X:K.In h) (G:h.Ns mainGlobals mg) (ok:FnOk l.prog w K mg base CX0 n f fd ps (LSp K sp)) (b:joW x st ps:=by first|(exact λ_ _ _ _ _ _ us hl=>match us,hl with| [_],_=>rfl)|(exact λ_ _ _ _ _ _ us hl=>match us,hl with| [_,_],_=>rfl)|(exact λ_ _ _ _ _ _ us hl=>match us,hl with| [_,_,_],_=>rfl)|(exact λ_ _ _ _ _ _ us hl=>match us,hl with| [_,_,_,_],_=>rfl)|(exact λ_ _ _ _ _ _ us hl=>match us,hl with| [_,_,_,_,_],_=>rfl)):jaj l.prog w K mg base n x ps sp:=⟨_,_,ok,d.fn.binds b,d.fn.kp,d.nm X G⟩
def zsB (K:Frag):Bool:= ["len","max","min","divmod","all","any","repr","sum","sorted","int","tuple","list","set","bool","isinstance","range","zip","enumerate","reversed"].all λx=>nsIn K mainGlobals (Str.ofString x)==some none
theorem joX (X:K.In h) (G:h.Ns mainGlobals mg) (e:zsB K=true):Zs mg:=by
 unfold zsB at e
 rw [G0U] at e
 have m:=λ(x:String) hx=>mg_none_of X G (G3o.mp (e x hx))
 exact⟨m "len" (by decide),m "max" (by decide),m "min" (by decide),m "divmod" (by decide),m "all" (by decide),m "any" (by decide),m "repr" (by decide),m "sum" (by decide),m "sorted" (by decide),m "int" (by decide),m "tuple" (by decide),m "list" (by decide),m "set" (by decide),m "bool" (by decide),m "isinstance" (by decide),m "range" (by decide),m "zip" (by decide),m "enumerate" (by decide),m "reversed" (by decide)⟩
end L2
namespace My
open PySem L2
def top (i:Nat):Stmt:=PySem.Challenge.pw_firstpowers_k49_whole_calendars.main.body.getD i (.Pass ⟨0,0,0,0⟩)
abbrev jc7:Stmt:=top 7
theorem jg0:FnScope ["thing"] ["thing"] (jad jc7):=⟨rfl,rfl,rfl,by decide +kernel,rfl,by decide +kernel,by decide +kernel⟩
abbrev jcG:Stmt:=top 8
theorem jgg:FnScope ["thing","least","most"] ["thing","least","most"] (jad jcG):=⟨rfl,rfl,rfl,by decide +kernel,rfl,by decide +kernel,by decide +kernel⟩
abbrev jdX:Stmt:=top 9
theorem jhO:FnScope ["thing","least"] ["thing","least"] (jad jdX):=⟨rfl,rfl,rfl,by decide +kernel,rfl,by decide +kernel,by decide +kernel⟩
abbrev jc8:Stmt:=top 10
theorem jg1:FnScope ["thing","size"] ["thing","size"] (jad jc8):=⟨rfl,rfl,rfl,by decide +kernel,rfl,by decide +kernel,by decide +kernel⟩
abbrev jce:Stmt:=top 11
theorem sc_are_places:FnScope ["thing","size","each"] ["thing","size"] (jad jce):=⟨rfl,rfl,rfl,by decide +kernel,rfl,by decide +kernel,by decide +kernel⟩
abbrev jc9:Stmt:=top 12
theorem jg2:FnScope ["thing","size"] ["thing","size"] (jad jc9):=⟨rfl,rfl,rfl,by decide +kernel,rfl,by decide +kernel,by decide +kernel⟩
abbrev jbz:Stmt:=top 13
theorem sc_is_table_row:FnScope ["thing","size","number"] ["thing","size"] (jad jbz):=⟨rfl,rfl,rfl,by decide +kernel,rfl,by decide +kernel,by decide +kernel⟩
abbrev jbc:Stmt:=top 14
theorem sc_has_table_form:FnScope ["thing","row"] ["thing"] (jad jbc):=⟨rfl,rfl,rfl,by decide +kernel,rfl,by decide +kernel,by decide +kernel⟩
abbrev jcf:Stmt:=top 15
theorem jfo:FnScope ["thing"] ["thing"] (jad jcf):=⟨rfl,rfl,rfl,by decide +kernel,rfl,by decide +kernel,by decide +kernel⟩
abbrev jcg:Stmt:=top 16
theorem jfp:FnScope ["table","thing"] ["table","thing"] (jad jcg):=⟨rfl,rfl,rfl,by decide +kernel,rfl,by decide +kernel,by decide +kernel⟩
abbrev jb0:Stmt:=top 17
theorem jem:FnScope ["thing","least","most"] ["thing","least","most"] (jad jb0):=⟨rfl,rfl,rfl,by decide +kernel,rfl,by decide +kernel,by decide +kernel⟩
abbrev jch:Stmt:=top 19
theorem sc_multiplied:FnScope ["one","other","size","row","place","by"] ["one","other"] (jad jch):=⟨rfl,rfl,rfl,by decide +kernel,rfl,by decide +kernel,by decide +kernel⟩
abbrev jg3:Stmt:=top 21
theorem sc_marks:FnScope ["table","row","number"] ["table"] (jad jg3):=⟨rfl,rfl,rfl,by decide +kernel,rfl,by decide +kernel,by decide +kernel⟩
abbrev jfq:Stmt:=top 22
theorem sc_turned:FnScope ["table","place","row"] ["table"] (jad jfq):=⟨rfl,rfl,rfl,by decide +kernel,rfl,by decide +kernel,by decide +kernel⟩
abbrev jdY:Stmt:=top 23
theorem sc_renamed:FnScope ["table","order","olds","name","one","other"] ["table","order"] (jad jdY):=⟨rfl,rfl,rfl,by decide +kernel,rfl,by decide +kernel,by decide +kernel⟩
abbrev jb1:Stmt:=top 26
theorem jen:FnScope ["ahead","table"] ["ahead","table"] (jad jb1):=⟨rfl,rfl,rfl,by decide +kernel,rfl,by decide +kernel,by decide +kernel⟩
abbrev ja0:Stmt:=top 27
theorem sc_marks_and_return:FnScope ["table","told","later"] ["table"] (jad ja0):=⟨rfl,rfl,rfl,by decide +kernel,rfl,by decide +kernel,by decide +kernel⟩
abbrev jda:Stmt:=top 28
theorem sc_marks_at:FnScope ["told","back","k","at"] ["told","back","k"] (jad jda):=⟨rfl,rfl,rfl,by decide +kernel,rfl,by decide +kernel,by decide +kernel⟩
abbrev jdb:Stmt:=top 29
theorem sc_round_of:FnScope ["table","told","back"] ["table"] (jad jdb):=⟨rfl,rfl,rfl,by decide +kernel,rfl,by decide +kernel,by decide +kernel⟩
abbrev jcH:Stmt:=top 30
theorem jgh:FnScope ["table"] ["table"] (jad jcH):=⟨rfl,rfl,rfl,by decide +kernel,rfl,by decide +kernel,by decide +kernel⟩
abbrev jdc:Stmt:=top 31
theorem sc_marks_of:FnScope ["table","k","told","back"] ["table","k"] (jad jdc):=⟨rfl,rfl,rfl,by decide +kernel,rfl,by decide +kernel,by decide +kernel⟩
abbrev jaV:Stmt:=top 33
theorem sc_are_unlike_tables:FnScope ["thing","many","size","each"] ["thing","many","size"] (jad jaV):=⟨rfl,rfl,rfl,by decide +kernel,rfl,by decide +kernel,by decide +kernel⟩
abbrev jfr:Stmt:=top 34
theorem sc_follow:FnScope ["table","rows","ahead","later"] ["table","rows"] (jad jfr):=⟨rfl,rfl,rfl,by decide +kernel,rfl,by decide +kernel,by decide +kernel⟩
abbrev jbd:Stmt:=top 35
theorem sc_calendar_holds:FnScope ["table","thing","ahead","long","rows"] ["table","thing"] (jad jbd):=⟨rfl,rfl,rfl,by decide +kernel,rfl,by decide +kernel,by decide +kernel⟩
abbrev jcI:Stmt:=top 37
theorem jgi:FnScope ["_law_script","_law_k"] ["_law_script","_law_k"] (jad jcI):=⟨rfl,rfl,rfl,by decide +kernel,rfl,by decide +kernel,by decide +kernel⟩
abbrev jdd:Stmt:=top 38
theorem sc__law_pen:FnScope ["_law_cell_here","_law_left"] ["_law_cell_here"] (jad jdd):=⟨rfl,rfl,rfl,by decide +kernel,rfl,by decide +kernel,by decide +kernel⟩
abbrev jcJ:Stmt:=top 39
theorem sc__law_draw:FnScope ["_law_pen_here","_law_many","_law_left","_law_found","_law_stir"] ["_law_pen_here","_law_many"] (jad jcJ):=⟨rfl,rfl,rfl,by decide +kernel,rfl,by decide +kernel,by decide +kernel⟩
abbrev jcK:Stmt:=top 40
theorem jgj:FnScope ["_law_pen_here"] ["_law_pen_here"] (jad jcK):=⟨rfl,rfl,rfl,by decide +kernel,rfl,by decide +kernel,by decide +kernel⟩
abbrev jci:Stmt:=top 41
theorem sc__law_table:FnScope ["_law_pen_here","_law_size_here","_law_way","_law_often","_law_most","_law_rows","_law_one","_law_row","_law_other","_law_goes"] ["_law_pen_here","_law_size_here"] (jad jci):=⟨rfl,rfl,rfl,by decide +kernel,rfl,by decide +kernel,by decide +kernel⟩
abbrev jcj:Stmt:=top 42
theorem sc__law_order:FnScope ["_law_pen_here","_law_many","_law_found","_law_what"] ["_law_pen_here","_law_many"] (jad jcj):=⟨rfl,rfl,rfl,by decide +kernel,rfl,by decide +kernel,by decide +kernel⟩
abbrev jhP:Stmt:=top 43
theorem sc_law:FnScope ["_law_script","_law_cell_here","_law_pen_here","_law_size_here","_law_table_here","_law_other","_law_ahead","_law_long","_law_rows","_law_paper","_law_some","_law_k"] ["_law_script"] (jad jhP):=⟨rfl,rfl,rfl,by decide +kernel,rfl,by decide +kernel,by decide +kernel⟩
section
variable {P:Program} {w:World} {K:PySem.W.Frag} {mg:Str->Option Value} {base:Heap}
/-- no def is asked of the script's list: a thing -/
def jjg:D->Bool
 | .int _=>true
 |_=>false
/-- a row of so many numbers from 0 on -/
def jn5:D->Bool
 | .int i=>decide (0<=i)
 |_=>false
def jkR (d:D) (k:Int):Bool:=match d with
 | .tup ds=>decide ((ds.length:Int)=k)&&ds.all jn5
 |_=>false
/-! every part has a kind that is told,and no tuple is long -/
mutual
def okD:D->Bool
 | .scr _=>false| .exc _=>false| .fn _=>false
 | .tup ds=>decide (ds.length<=1000)&&okDs ds
 |_=>true
def okDs:List D->Bool
 | []=>true
 |d::ds=>okD d&&okDs ds
end
theorem jhq: ∀ {ds:List D},okDs ds=true-> ∀d∈ds,okD d=true
 |d::ds,h,x,hx=>by
  have h' :(okD d&&okDs ds)=true:=h
  rw [G1o] at h'
  rcases G0u.mp hx with e|e
  ·subst e;exact h'.1
  ·exact jhq h'.2 x e
theorem jjh: ∀ {ds:List D},(∀d∈ds,okD d=true)->okDs ds=true
 | [],_=>rfl
 |d::ds,h=>by
  show (okD d&&okDs ds)=true
  rw [h d G0B,jjh λx hx=>h x (G0w _ hx)];rfl
theorem jg4 {ds:List D} (h:okD (.tup ds)=true):ds.length<=1000/\ ∀d∈ds,okD d=true:=by
 have h' :(decide (ds.length<=1000)&&okDs ds)=true:=h
 rw [G1o] at h'
 exact⟨G2S h'.1,jhq h'.2⟩
theorem jhr {ds:List D} (h:ds.length<=1000) (h2: ∀d∈ds,okD d=true):okD (.tup ds)=true:=by
 show (decide (ds.length<=1000)&&okDs ds)=true
 rw [G0r h,jjh h2];rfl
theorem jcS {d:D} (h:okD d=true): ∃n,jfO d=some n:=by
 cases d<;>first|exact⟨_,rfl⟩|cases h
/-- a table -/
def jmj:D->Bool
 | .tup rs=>decide (1<=rs.length)&&decide (rs.length<=6)&&rs.all λr=>jkR r rs.length
 |_=>false
def jb2:RDn:=λds h Q=> ∃d n,ds= [d]/\jfO d=some n/\Q (.bl (jjg d)) h
set_option maxHeartbeats 2000000 in
theorem jg5 {n:Nat} {f:Addr} {fd:FuncData} (Z:Zs mg) (F:Fun K "is_whole" "is_whole" jc7 f fd):FnOk P w K mg base CX0 (n+1) f fd ["thing"] (LSp K jb2):=by
 refine F.okJ jg0 (λds h Q q=>by obtain⟨d,nm,e,hn,q⟩:=q;subst e;rfl) _ (λcdv A outer s H E hr=>(jaf (jbp (jjp (jgF (T:= "int") (by decide) rfl Z.isinstance rfl Z.int (by decide +kernel) (jv 0)) (jhS (jpS (jgF (T:= "bool") (by decide) rfl Z.isinstance rfl Z.bool (by decide +kernel) (jv 0)))))))) ?_
 intro ds h Q q
 obtain⟨d,nm,e,hn,q⟩:=q
 subst e
 simp only [jdm,Nxt,jd6,jec,jb4,jbt,ja4,dOp,jaJ,dIs,jd9,dCB,ja1,jc2,jee,jb5,dC,jbw,jaX,jef,jeg,jeh,jbx,jea,jeb,jbu,jed,jbv,dIf,dUn,jfy,dSl,jaz,jbI,jez,ja2,gN,gT2,jbH,je0,je1,jeA,jev,jfc,je2,jbU,je3,jd7,eqD,neD,eqE,neE,isV,isN,jej,jaC,jeF,jeG,jbJ,ixD,jew,jex,jey,jaI,jaW,jaQ,jbG,jeB,slD,jei,jaK,G0v,G0O,G0e,G0F,List.replicate,G0D,G0E,G0y,G0z,G0p,G0l,G0C,G0I,D.bl.injEq,D.lst.injEq,hn]
 cases d<;>cases hn<;>exact⟨h,Sub.refl h,q⟩
def jck:RDn:=λds h Q=> ∃d,∃a b:Int,ds= [d,.int a,.int b]/\okD d=true/\Q (.bl (jcE d a b)) h
set_option maxHeartbeats 2000000 in
theorem jgk {n:Nat} {f:Addr} {fd:FuncData} (Z:Zs mg) (F:Fun K "is_within" "is_within" jcG f fd) (C_is_whole:jaj P w K mg base n "is_whole" ["thing"] jb2):FnOk P w K mg base CX0 (n+1) f fd ["thing","least","most"] (LSp K jck):=by
 obtain⟨g_G_is_whole,gd_G_is_whole,G_is_whole,bG_is_whole,kG_is_whole,mG_is_whole⟩:=C_is_whole
 refine F.okJ jgg (λds h Q q=>by obtain⟨d,a,b,e,ok,q⟩:=q;subst e;rfl) _ (λcdv A outer s H E hr=>(jaf (jbp (jjp (jan G_is_whole hr rfl mG_is_whole kG_is_whole bG_is_whole (jac (jv 0) jaa)) (jhS (jnB jjH jjH (jv 1) (jv 0) (jv 2))))))) ?_
 intro ds h Q q
 obtain⟨d,a,b,e,ok,q⟩:=q
 subst e
 obtain⟨nm,hn⟩:=jcS ok
 refine⟨_,rfl,d,nm,rfl,hn,jjg d,rfl,?_⟩
 cases d with
 |int x=>
  refine jjn ⟨_,rfl,_,rfl,_,rfl,?_⟩
  show if decide (a<=x)=true then _ else _
  by_cases h1:a<=x
  ·rw [G0r h1]
   simp only [jcE,G0r h1,G3n] at q
   exact jjn ⟨_,rfl,h,Sub.refl h,q⟩
  ·rw [G0Q h1]
   simp only [jcE,G0Q h1,G3e] at q
   exact jdl ⟨h,Sub.refl h,q⟩
 |_=>exact jdl ⟨h,Sub.refl h,q⟩
def jeO:RDn:=λds h Q=> ∃k a:Int,ds= [.int k,.int a]/\Q (.bl (decide (a<=k))) h
set_option maxHeartbeats 2000000 in
theorem jhQ {n:Nat} {f:Addr} {fd:FuncData} (Z:Zs mg) (F:Fun K "is_from" "is_from" jdX f fd) (C_is_whole:jaj P w K mg base n "is_whole" ["thing"] jb2):FnOk P w K mg base CX0 (n+1) f fd ["thing","least"] (LSp K jeO):=by
 obtain⟨g_G_is_whole,gd_G_is_whole,G_is_whole,bG_is_whole,kG_is_whole,mG_is_whole⟩:=C_is_whole
 refine F.okJ jhO (λds h Q q=>by obtain⟨k,a,e,q⟩:=q;subst e;rfl) _ (λcdv A outer s H E hr=>(jaf (jbp (jjp (jan G_is_whole hr rfl mG_is_whole kG_is_whole bG_is_whole (jac (jv 0) jaa)) (jhS (jgE jjI (jv 0) (jv 1) (jaw _))))))) ?_
 intro ds h Q q
 obtain⟨k,a,e,q⟩:=q
 subst e
 refine⟨_,rfl,.int k,"int",rfl,rfl,_,rfl,jjn ⟨_,rfl,_,rfl,h,Sub.refl h,q⟩⟩
def jdZ:RDn:=λds h Q=> ∃d,∃n:Int,ds= [d,.int n]/\okD d=true/\Q (.bl (jcE d 0 (n-1))) h
set_option maxHeartbeats 2000000 in
theorem jg6 {n:Nat} {f:Addr} {fd:FuncData} (Z:Zs mg) (F:Fun K "is_place" "is_place" jc8 f fd) (C_is_within:jaj P w K mg base n "is_within" ["thing","least","most"] jck):FnOk P w K mg base CX0 (n+1) f fd ["thing","size"] (LSp K jdZ):=by
 obtain⟨g_G_is_within,gd_G_is_within,G_is_within,bG_is_within,kG_is_within,mG_is_within⟩:=C_is_within
 refine F.okJ jg1 (λds h Q q=>by obtain⟨d,k,e,ok,q⟩:=q;subst e;rfl) _ (λcdv A outer s H E hr=>(jaf (jbp (jan G_is_within hr rfl mG_is_within kG_is_within bG_is_within (jac (jv 0) (by exact(jac jaA (by exact(jac (jop jcv (jv 1) jaA) jaa))))))))) ?_
 intro ds h Q q
 obtain⟨d,k,e,ok,q⟩:=q
 subst e
 exact⟨_,rfl,_,rfl,d,0,k-1,rfl,ok,h,Sub.refl h,q⟩
def jcT:RDn:=λds h Q=> ∃d,∃n:Int,ds= [d,.int n]/\okD d=true/\Q (.bl (jfh d n)) h
set_option maxHeartbeats 2000000 in
theorem jfs {n:Nat} {f:Addr} {fd:FuncData} (Z:Zs mg) (F:Fun K "are_places" "are_places" jce f fd) (C_is_place:jaj P w K mg base n "is_place" ["thing","size"] jdZ):FnOk P w K mg base CX0 (n+1) f fd ["thing","size"] (LSp K jcT):=by
 obtain⟨g_G_is_place,gd_G_is_place,G_is_place,bG_is_place,kG_is_place,mG_is_place⟩:=C_is_place
 refine F.okJ sc_are_places (λds h Q q=>by obtain⟨d,k,e,ok,q⟩:=q;subst e;rfl) _ (λcdv A outer s H E hr=>(jaf (jbp (jjp (jgF (T:= "tuple") (by decide) rfl Z.isinstance rfl Z.tuple (by decide +kernel) (jv 0)) (jhS (jaF (jfP rfl) rfl Z.all G1z (jac (jlc (i:=2) (js:= [2]) rfl (jao (by rfl)) (jcw (jv 0)) (by decide) sc_are_places.nd rfl (by first|exact Or.inl rfl|exact Or.inr rfl) (λX' hX=>jaS) (λX' hX=>by obtain⟨C,s₀,H₀,ex,rfl⟩:=hX;exact(jan G_is_place hr rfl mG_is_place kG_is_place bG_is_place (jac (jv 2) (by exact(jac (jv 1) jaa)))))) jaa))))))) ?_
 intro ds h Q q
 obtain⟨d,k,e,ok,q⟩:=q
 subst e
 obtain⟨nm,hn⟩:=jcS ok
 refine⟨_,rfl,nm,hn,?_⟩
 cases d with
 |tup es=>
  cases hn
  obtain⟨hl,ht⟩:=jg4 ok
  refine⟨_,rfl,jjn ?_⟩
  exact jpk es (λx=>x) (λx=>jcE x 0 (k-1)) hl (by rw [List.map_id']) (λR r=>⟨_,rfl,r⟩) (λx hx Q' q' =>⟨_,rfl,_,rfl,x,k,rfl,ht x hx,q'⟩) ⟨h,Sub.refl h,q⟩
 |_=>cases hn<;>exact⟨_,rfl,jdl ⟨h,Sub.refl h,q⟩⟩
theorem jeP: ∀ {a b:List PyData},PyData.eqvAll a b=true->a.length=b.length
 | [],[],_=>rfl
 | [],_::_,h=>by simp [PyData.eqvAll] at h
 |_::_,[],h=>by simp [PyData.eqvAll] at h
 |x::a,y::b,h=>by
  have h2:(PyData.eqv x y&&PyData.eqvAll a b)=true:=h
  rw [G0e,G0e,jeP (Bool.and_eq_true_iff.mp h2).2]
def jp4 (n:Nat) (d:D):Prop:=(okD d=true/\jfh d (n:Int)=false)\/ ∃o:List Nat,d=jgs o/\(∀x∈o,x<n)/\o.length<=60/\o.length≠n
def jd0:RDn:=λds h Q=> ∃d,∃n:Nat,ds= [d,.int (n:Int)]/\n<=6/\((∃o,d=jgs o/\Ordr n o/\Q (.bl true) h)\/(jp4 n d/\Q (.bl false) h))
set_option maxHeartbeats 2000000 in
theorem jg7 {n:Nat} {f:Addr} {fd:FuncData} (Z:Zs mg) (F:Fun K "is_order" "is_order" jc9 f fd) (C_are_places:jaj P w K mg base n "are_places" ["thing","size"] jcT):FnOk P w K mg base CX0 (n+1) f fd ["thing","size"] (LSp K jd0):=by
 obtain⟨g_G_are_places,gd_G_are_places,G_are_places,bG_are_places,kG_are_places,mG_are_places⟩:=C_are_places
 refine F.okJ jg2 (λds h Q q=>by obtain⟨d,k,e,hk,q⟩:=q;subst e;rfl) _ (λcdv A outer s H E hr=>(jaf (jbp (jjp (jan G_are_places hr rfl mG_are_places kG_are_places bG_are_places (jac (jv 0) (by exact(jac (jv 1) jaa)))) (jhS (jgE (jeC hr.units) (jaF jiu rfl Z.sorted (by decide +kernel) (jac (jv 0) jaa)) (joO rfl rfl Z.list rfl Z.range (jac (jv 1) jaa)) (jaw _))))))) ?_
 intro ds h Q q
 obtain⟨d,k,e,hk,q⟩:=q
 subst e
 rcases q with ⟨o,rfl,ho,q⟩|⟨⟨ok,bad⟩|⟨o,rfl,hlt,hle,hne⟩,q⟩
 ·have hlen:o.length=k:=ho.ord.len
  have hle:o.length<=60:=by omega
  have hlt: ∀x∈o,x<k:=λx hx=>G0q.mp (ho.mem_iff.mp hx)
  have okO:okD (jgs o)=true:=jhr (by rw [G0a];omega) λd hd=>by obtain⟨x,_,rfl⟩:=G0K.mp hd;rfl
  have plO:jfh (jgs o) (k:Int)=true:=by
   show (o.map _).all _=true
   rw [G0U];intro x hx;obtain⟨i,hi,rfl⟩:=G0K.mp hx;have:=hlt i hi
   show (decide ((0:Int)<=(i:Int))&&decide ((i:Int)<=(k:Int)-1))=true
   rw [G0r (show (0:Int)<=(i:Int) by omega),G0r (show (i:Int)<=(k:Int)-1 by omega)];rfl
  have hlc:(ja9 o).length<=60:=by unfold ja9;rw [List.length_map];exact hle
  refine⟨_,rfl,_,rfl,jgs o,(k:Int),rfl,okO,?_⟩
  rw [plO]
  refine⟨_,rfl,jjn ⟨_,rfl,ja9 o,Or.inl (by rw [jgH]),by omega,λp1 ns' e1 hp hpw=>⟨_,rfl,k,rfl,by omega,λp2 e2=> ?_⟩⟩⟩
  have er:((List.range k).map λ(i:Nat)=>D.int (i:Int))=(ja9 (List.range k)).map D.int:=by unfold ja9;rw [List.map_map];rfl
  refine⟨.list (ns'.map .int),.list ((ja9 (List.range k)).map .int),⟨p1,_,rfl,jaM jab e2,jbM _ _⟩,⟨p2,_,rfl,by rw [jab,er],jbM _ _⟩,jbW _,jbW _,h,Sub.newAt (Sub.newAt (Sub.refl h) e1) e2,?_⟩
  have ee:PyData.eqv (.list (ns'.map .int)) (.list ((ja9 (List.range k)).map .int))=true:=by
   have es:ns' =ja9 (List.range k):=List.Perm.eq_of_pairwise (le:=λ(x y:Int)=>x<=y) (λ_ _ _ _ a b=>Int.le_antisymm a b) hpw (jf0 k) (hp.trans (ho.map _))
   rw [es];exact jcC _
  rw [ee];exact q
 ·refine⟨_,rfl,_,rfl,d,(k:Int),rfl,ok,?_⟩
  rw [bad]
  exact⟨_,rfl,jdl ⟨h,Sub.refl h,q⟩⟩
 ·skip
  have okO:okD (jgs o)=true:=jhr (by rw [G0a];omega) λd hd=>by obtain⟨x,_,rfl⟩:=G0K.mp hd;rfl
  have plO:jfh (jgs o) (k:Int)=true:=by
   show (o.map _).all _=true
   rw [G0U];intro x hx;obtain⟨i,hi,rfl⟩:=G0K.mp hx;have:=hlt i hi
   show (decide ((0:Int)<=(i:Int))&&decide ((i:Int)<=(k:Int)-1))=true
   rw [G0r (show (0:Int)<=(i:Int) by omega),G0r (show (i:Int)<=(k:Int)-1 by omega)];rfl
  have hlc:(ja9 o).length<=60:=by unfold ja9;rw [List.length_map];exact hle
  refine⟨_,rfl,_,rfl,jgs o,(k:Int),rfl,okO,?_⟩
  rw [plO]
  refine⟨_,rfl,jjn ⟨_,rfl,ja9 o,Or.inl (by rw [jgH]),by omega,λp1 ns' e1 hp hpw=>⟨_,rfl,k,rfl,by omega,λp2 e2=> ?_⟩⟩⟩
  have er:((List.range k).map λ(i:Nat)=>D.int (i:Int))=(ja9 (List.range k)).map D.int:=by unfold ja9;rw [List.map_map];rfl
  refine⟨.list (ns'.map .int),.list ((ja9 (List.range k)).map .int),⟨p1,_,rfl,jaM jab e2,jbM _ _⟩,⟨p2,_,rfl,by rw [jab,er],jbM _ _⟩,jbW _,jbW _,h,Sub.newAt (Sub.newAt (Sub.refl h) e1) e2,?_⟩
  have ee:PyData.eqv (.list (ns'.map .int)) (.list ((ja9 (List.range k)).map .int))=false:=by
   cases hb:PyData.eqv (.list (ns'.map .int)) (.list ((ja9 (List.range k)).map .int)) with
   |false=>rfl
   |true=>
    have:=jeP (show PyData.eqvAll (ns'.map .int) ((ja9 (List.range k)).map .int)=true from hb)
    rw [G0a,G0a,hp.length_eq] at this
    unfold ja9 at this
    rw [G0a,G0a,G0h] at this
    exact absurd this hne
  rw [ee];exact q
def jcl:RDn:=λds h Q=> ∃d k,ds= [d,.int k]/\okD d=true/\Q (.bl (jkR d k)) h
set_option maxHeartbeats 2000000 in
theorem jd1 {n:Nat} {f:Addr} {fd:FuncData} (Z:Zs mg) (F:Fun K "is_table_row" "is_table_row" jbz f fd) (C_is_whole:jaj P w K mg base n "is_whole" ["thing"] jb2):FnOk P w K mg base CX0 (n+1) f fd ["thing","size"] (LSp K jcl):=by
 obtain⟨g_G_is_whole,gd_G_is_whole,G_is_whole,bG_is_whole,kG_is_whole,mG_is_whole⟩:=C_is_whole
 refine F.okJ sc_is_table_row (λds h Q q=>by obtain⟨d,k,e,ok,q⟩:=q;subst e;rfl) _ (λcdv A outer s H E hr=>(jae (jd8 (jpt (jlG (jcB (jcP (jgF (T:= "tuple") (by decide) rfl Z.isinstance rfl Z.tuple (by decide +kernel) (jv 0)))) (jlF (jcs oq_ne (jaF jbe rfl Z.len G0M (jac (jv 0) jaa)) (jv 1) (jaw _))))) (jaf (jbp jbl)) jaR) (by exact(jaf (jbp (jaF (jfP rfl) rfl Z.all G1z (jac (jlc (i:=2) (js:= [2]) rfl (jao (by rfl)) (jcw (jv 0)) (by decide) sc_is_table_row.nd rfl (by first|exact Or.inl rfl|exact Or.inr rfl) (λX' hX=>jaS) (λX' hX=>by obtain⟨C,s₀,H₀,ex,rfl⟩:=hX;exact(jjp (jan G_is_whole hr rfl mG_is_whole kG_is_whole bG_is_whole (jac (jv 2) jaa)) (jhS (jgE jjI (jv 2) jaA (jaw _)))))) jaa))))))) ?_
 intro ds h Q q
 obtain⟨d,k,e,ok,q⟩:=q
 subst e
 obtain⟨nm,hn⟩:=jcS ok
 simp only [jdm,Nxt,jd6,jec,jb4,jbt,ja4,dOp,jaJ,dIs,jd9,dCB,ja1,jc2,jee,jb5,dC,jbw,jaX,jef,jeg,jeh,jbx,jea,jeb,jbu,jed,jbv,dIf,dUn,jfy,dSl,jaz,jbI,jez,ja2,gN,gT2,jbH,je0,je1,jeA,jev,jfc,je2,jbU,je3,jd7,eqD,neD,eqE,neE,isV,isN,jej,jaC,jeF,jeG,jbJ,ixD,jew,jex,jey,jaI,jaW,jaQ,jbG,jeB,slD,jei,jaK,G0v,G0O,G0e,G0F,List.replicate,G0D,G0E,G0y,G0z,G0p,G0l,G0C,G0I,D.bl.injEq,D.lst.injEq,hn]
 cases d with
 |tup es=>
  cases hn
  obtain⟨hl,ht⟩:=jg4 ok
  simp only [jnn]
  by_cases hk:(es.length:Int)=k
  ·simp only [hk]
   simp
   refine jiq (ds:=es) (h1:=h) (j:=λ_=>some es) (λx=> .bl (jn5 x)) (G0X (jbk hl)) rfl (λR r=>⟨.tup es,rfl,r⟩) (λd hd Q' q' => ?_) (λp hp=> ?_)
   ·obtain⟨nn,hnn⟩:=jcS (ht d hd)
    refine⟨d,rfl,d,nn,rfl,hnn,jjg d,rfl,?_⟩
    cases d with
    |int i=>exact jjn ⟨.int i,rfl,q'⟩
    |_=>exact jdl q'
   ·refine⟨p,es.map jn5,rfl,by rw [jab];simp,h,?_,?_⟩
    ·rw [jbC hp];exact Sub.refl h
    ·simpa [jkR,hk,G12,G2l] using q
  ·simp [hk]
   exact⟨h,Sub.refl h,by simpa [jkR,hk] using q⟩
 |_=>cases hn<;>exact⟨h,Sub.refl h,q⟩
def ja5:RDn:=λds h Q=> ∃d,ds= [d]/\okD d=true/\Q (.bl (jmj d)) h
set_option maxHeartbeats 2000000 in
theorem jde {n:Nat} {f:Addr} {fd:FuncData} (Z:Zs mg) (F:Fun K "has_table_form" "has_table_form" jbc f fd) (C_is_table_row:jaj P w K mg base n "is_table_row" ["thing","size"] jcl) (M_MOST_ROWS: ∃tk,mg "MOST_ROWS" =some (.int 6 tk)):FnOk P w K mg base CX0 (n+1) f fd ["thing"] (LSp K ja5):=by
 obtain⟨g_G_is_table_row,gd_G_is_table_row,G_is_table_row,bG_is_table_row,kG_is_table_row,mG_is_table_row⟩:=C_is_table_row
 obtain⟨tk_MOST_ROWS,m_MOST_ROWS⟩:=M_MOST_ROWS
 refine F.okJ sc_has_table_form (λds h Q q=>by obtain⟨d,e,ok,q⟩:=q;subst e;rfl) _ (λcdv A outer s H E hr=>(jae (jd8 (jpt (jlG (jcB (jcP (jgF (T:= "tuple") (by decide) rfl Z.isinstance rfl Z.tuple (by decide +kernel) (jv 0)))) (jlF (jcB (jlE jjH jjH jaA (jaF jbe rfl Z.len G0M (jac (jv 0) jaa)) (jnA rfl m_MOST_ROWS)))))) (jaf (jbp jbl)) jaR) (by exact(jaf (jbp (jaF (jfP rfl) rfl Z.all G1z (jac (jlc (i:=1) (js:= [1]) rfl (jao (by rfl)) (jcw (jv 0)) (by decide) sc_has_table_form.nd rfl (by first|exact Or.inl rfl|exact Or.inr rfl) (λX' hX=>jaS) (λX' hX=>by obtain⟨C,s₀,H₀,ex,rfl⟩:=hX;exact(jan G_is_table_row hr rfl mG_is_table_row kG_is_table_row bG_is_table_row (jac (jv 1) (by exact(jac (jaF jbe rfl Z.len G0M (jac (jv 0) jaa)) jaa)))))) jaa))))))) ?_
 intro ds h Q q
 obtain⟨d,e,ok,q⟩:=q
 subst e
 obtain⟨nm,hn⟩:=jcS ok
 simp only [jdm,Nxt,jd6,jec,jb4,jbt,ja4,dOp,jaJ,dIs,jd9,dCB,ja1,jc2,jee,jb5,dC,jbw,jaX,jef,jeg,jeh,jbx,jea,jeb,jbu,jed,jbv,dIf,dUn,jfy,dSl,jaz,jbI,jez,ja2,gN,gT2,jbH,je0,je1,jeA,jev,jfc,je2,jbU,je3,jd7,eqD,neD,eqE,neE,isV,isN,jej,jaC,jeF,jeG,jbJ,ixD,jew,jex,jey,jaI,jaW,jaQ,jbG,jeB,slD,jei,jaK,G0v,G0O,G0e,G0F,List.replicate,G0D,G0E,G0y,G0z,G0p,G0l,G0C,G0I,D.bl.injEq,D.lst.injEq,hn]
 cases d with
 |tup es=>
  cases hn
  obtain⟨hl,ht⟩:=jg4 ok
  simp only [jnn]
  by_cases h1:1<=es.length
  ·by_cases h6:es.length<=6
   ·have h1' :(1:Int)<=es.length:=by omega
    have h6' :(es.length:Int)<=6:=by omega
    simp [h1',h6']
    refine jiq (ds:=es) (h1:=h) (j:=λ_=>some es) (λx=> .bl (jkR x es.length)) (G0X (jbk hl)) rfl (λR r=>⟨.tup es,rfl,r⟩) (λd hd Q' q' => ?_) (λp hp=> ?_)
    ·exact⟨d,rfl,.tup es,rfl,d,es.length,rfl,ht d hd,q'⟩
    ·refine⟨p,es.map λx=>jkR x es.length,rfl,by rw [jab];simp,h,?_,?_⟩
     ·rw [jbC hp];exact Sub.refl h
     ·simpa [jmj,h1,h6,G12,G2l] using q
   ·have h1' :(1:Int)<=es.length:=by omega
    have h6' : ¬ (es.length:Int)<=6:=by omega
    simp [h1',h6']
    exact⟨h,Sub.refl h,by simpa [jmj,h1,h6] using q⟩
  ·have h1' : ¬ (1:Int)<=es.length:=by omega
   simp [h1']
   exact⟨h,Sub.refl h,by simpa [jmj,h1] using q⟩
 |_=>cases hn<;>exact⟨h,Sub.refl h,q⟩
theorem jma {x:Int} (h:0<=x):jn5 (.int x)=true:=G0r h
theorem jmb {n e:Nat} {T:List (List Int)} (h:Sq n e T) {r:List Int} (hr:r∈T):jkR (jc3 r) n=true:=by
 simp only [jkR,jc3,G0a,h.row r hr,decide_true,G3n,G12,G0U,G1j]
 intro x hx;exact jma (h.nn r hr x hx)
theorem jji {n e:Nat} {T:List (List Int)} (h:Sq n e T) (h1:1<=n) (h6:n<=6):jmj (jah T)=true:=by
 simp only [jmj,jah,G0a,h.len,G0r h1,G0r h6,G3n,G12,G0U,G1j]
 intro r hr;exact jmb h hr
theorem jkS {n e:Nat} {T:List (List Int)} (h:Sq n e T) (h6:n<=6):okD (jah T)=true:=
 jhr (by rw [G0a,h.len];omega) λd hd=>by
  obtain⟨r,hr,rfl⟩:=G0K.mp hd
  exact jhr (by rw [G0a,h.row r hr];omega) λd hd=>by obtain⟨x,_,rfl⟩:=G0K.mp hd;rfl
def jaP:RDn:=λds h Q=> ∃T,∃n e:Nat,ds= [jah T]/\Sq n e T/\1<=n/\n<=6/\Q .non h
set_option maxHeartbeats 2000000 in
theorem jft {n:Nat} {f:Addr} {fd:FuncData} (Z:Zs mg) (F:Fun K "want_table" "want_table" jcf f fd) (C_has_table_form:jaj P w K mg base n "has_table_form" ["thing"] ja5):FnOk P w K mg base CX0 (n+1) f fd ["thing"] (LSp K jaP):=by
 obtain⟨g_G_has_table_form,gd_G_has_table_form,G_has_table_form,bG_has_table_form,kG_has_table_form,mG_has_table_form⟩:=C_has_table_form
 refine F.okJ jfo (λds h Q q=>by obtain⟨T,k,b,e,hT,h1,h6,q⟩:=q;subst e;rfl) _ (λcdv A outer s H E hr=>(jaf (jd8 (jcB (jcP (jan G_has_table_form hr rfl mG_has_table_form kG_has_table_form bG_has_table_form (jac (jv 0) jaa)))) (jaf jiy) jaR))) ?_
 intro ds h Q q
 obtain⟨T,k,b,e,hT,h1,h6,q⟩:=q
 subst e
 refine⟨_,rfl,jah T,rfl,jkS hT h6,_,rfl,?_⟩
 rw [jji hT h1 h6]
 exact jdl ⟨h,Sub.refl h,q⟩
def jcU:RDn:=λds h Q=> ∃ (T:List (List Int)) (o:List Nat) (n:Nat),ds= [jah T,jgs o]/\T.length=n/\Ordr n o/\n<=6/\Q .non h
set_option maxHeartbeats 2000000 in
theorem jfu {n:Nat} {f:Addr} {fd:FuncData} (Z:Zs mg) (F:Fun K "want_order" "want_order" jcg f fd) (C_is_order:jaj P w K mg base n "is_order" ["thing","size"] jd0):FnOk P w K mg base CX0 (n+1) f fd ["table","thing"] (LSp K jcU):=by
 obtain⟨g_G_is_order,gd_G_is_order,G_is_order,bG_is_order,kG_is_order,mG_is_order⟩:=C_is_order
 refine F.okJ jfp (λds h Q q=>by obtain⟨T,o,k,e,hT,ho,h6,q⟩:=q;subst e;rfl) _ (λcdv A outer s H E hr=>(jaf (jd8 (jcB (jcP (jan G_is_order hr rfl mG_is_order kG_is_order bG_is_order (jac (jv 1) (by exact(jac (jaF jbe rfl Z.len G0M (jac (jv 0) jaa)) jaa)))))) (jaf jiy) jaR))) ?_
 intro ds h Q q
 obtain⟨T,o,k,e,hT,ho,h6,q⟩:=q
 subst e
 refine⟨_,rfl,_,rfl,_,k,by rw [G0a,hT],h6,.inl ⟨o,rfl,ho,_,rfl,?_⟩⟩
 exact jdl ⟨h,Sub.refl h,q⟩
def jcy:RDn:=λds h Q=> ∃k lo hi:Int,ds= [.int k,.int lo,.int hi]/\lo<=k/\k<=hi/\Q .non h
set_option maxHeartbeats 2000000 in
theorem jeo {n:Nat} {f:Addr} {fd:FuncData} (Z:Zs mg) (F:Fun K "want_number" "want_number" jb0 f fd) (C_is_within:jaj P w K mg base n "is_within" ["thing","least","most"] jck):FnOk P w K mg base CX0 (n+1) f fd ["thing","least","most"] (LSp K jcy):=by
 obtain⟨g_G_is_within,gd_G_is_within,G_is_within,bG_is_within,kG_is_within,mG_is_within⟩:=C_is_within
 refine F.okJ jem (λds h Q q=>by obtain⟨k,lo,hi,e,h1,h2,q⟩:=q;subst e;rfl) _ (λcdv A outer s H E hr=>(jaf (jd8 (jcB (jcP (jan G_is_within hr rfl mG_is_within kG_is_within bG_is_within (jac (jv 0) (by exact(jac (jv 1) (by exact(jac (jv 2) jaa)))))))) (jaf jiy) jaR))) ?_
 intro ds h Q q
 obtain⟨k,lo,hi,e,h1,h2,q⟩:=q
 subst e
 refine⟨_,rfl,_,rfl,_,rfl,.int k,lo,hi,rfl,rfl,_,rfl,?_⟩
 have e0:jcE (.int k) lo hi=true:=by
  show (decide (lo<=k)&&decide (k<=hi))=true
  rw [G0r h1,G0r h2];rfl
 rw [e0]
 exact jdl ⟨h,Sub.refl h,q⟩
def jcV:RDn:=λds h Q=> ∃T U,∃n e f:Nat,ds= [jah T,jah U]/\Sq n e T/\Sq n f U/\e+f<=1000000/\n<=6/\Q (jah (jct n T U)) h
set_option maxHeartbeats 2000000 in
theorem jfv {n:Nat} {f:Addr} {fd:FuncData} (Z:Zs mg) (F:Fun K "multiplied" "multiplied" jch f fd):FnOk P w K mg base CX0 (n+1) f fd ["one","other"] (LSp K jcV):=by
 refine F.okJ sc_multiplied (λds h Q q=>by obtain⟨T,U,k,b,f,e,hT,hU,hb,h6,q⟩:=q;subst e;rfl) _ (λcdv A outer s H E hr=>(jae (jek (i:=2) sc_multiplied.nd rfl (by first|exact Or.inr rfl|exact Or.inl rfl) (jaF jbe rfl Z.len G0M (jac (jv 0) jaa))) (by exact(jaf (jbp (jaU ja8 rfl Z.tuple (by decide +kernel) (jac (jlc (i:=3) (js:= [3]) rfl (jao (by rfl)) (jcw (jv 0)) (by decide) sc_multiplied.nd rfl (by first|exact Or.inl rfl|exact Or.inr rfl) (λX' hX=>jaS) (λX' hX=>by obtain⟨C,s₀,H₀,ex,rfl⟩:=hX;exact(jaU ja8 rfl Z.tuple (by decide +kernel) (jac (jlc (i:=4) (js:= [4]) rfl (jao (by rfl)) (jfY rfl Z.range (jac (jv 2) jaa)) (by decide) sc_multiplied.nd rfl (by first|exact Or.inl rfl|exact Or.inr rfl) (λX' hX=>jaS) (λX' hX=>by obtain⟨C,s₀,H₀,ex,rfl⟩:=hX;exact(jaF (jlD rfl) rfl Z.sum (by decide +kernel) (jac (jlc (i:=5) (js:= [5]) rfl (jao (by rfl)) (jfY rfl Z.range (jac (jv 2) jaa)) (by decide) sc_multiplied.nd rfl (by first|exact Or.inl rfl|exact Or.inr rfl) (λX' hX=>jaS) (λX' hX=>by obtain⟨C,s₀,H₀,ex,rfl⟩:=hX;exact(jop jlJ (jix (jv 3) (jv 5) (λ_ _=>rfl)) (jix (jix (jv 1) (jv 5) (λ_ _=>rfl)) (jv 4) (λ_ _=>rfl))))) jaa)))) jaa)))) jaa))))))) ?_
 intro ds h Q q
 obtain⟨T,U,k,b,f,e,hT,hU,hb,h6,q⟩:=q
 subst e
 refine jak (λσ' h' =>σ' = [some (jah T),some (jah U),some (.int (k:Int)),none,none,none]/\h=h') (λC hC=>⟨_,rfl,hC _ _ ⟨by rw [G0a,hT.len];rfl,rfl⟩⟩) ?_
 rintro _ _ ⟨rfl,rfl⟩
 refine jkC T jc3 (λr=> .tup ((List.range k).map λj=> .int (jar k λm=>r.getD m 0*ent U m j))) (by rw [hT.len];omega) rfl (λR r=>⟨_,rfl,r⟩) (λr hr Q' q' => ?_) ⟨h,Sub.refl h,?_⟩
 ·refine jkC (List.range k) (λj=> .int (j:Int)) (λj=> .int (jar k λm=>r.getD m 0*ent U m j)) (by rw [G0h];omega) rfl (λR rr=>⟨_,rfl,(k:Int),rfl,by omega,by omega,rr⟩) (λj hj Q'' q'' => ?_) q'
  refine jpX (List.range k) (λm=> .int (m:Int)) (λm=>r.getD m 0*ent U m j) (by rw [G0h];omega) rfl (λR rr=>⟨_,rfl,(k:Int),rfl,by omega,by omega,rr⟩) (λm hm Q3 q3=> ?_) q''
  have hm' :=G0q.mp hm
  have hj' :=G0q.mp hj
  refine⟨_,rfl,_,rfl,_,jfd (hT.row r hr) hm',_,rfl,_,rfl,_,jiB hU hm',_,rfl,_,jfd (hU.row _ (Sq.getRow hU hm')) hj',?_,q3⟩
  refine jjO (e:=b) (f:=f) ?_ (hU.ent_nn hm' hj') (by omega)
  have hm2:m<r.length:=by rw [hT.row r hr];exact hm'
  have e1:r.getD m 0=r[m]:=by rw [G0n,G0i hm2];rfl
  rw [e1];exact⟨hT.nn r hr _ (G1g hm2),hT.bit r hr _ (G1g hm2)⟩
 ·rw [jjR hT];exact q
def jcW:RDn:=λds h Q=> ∃T,∃n e:Nat,ds= [jah T]/\Sq n e T/\1<=n/\n<=6/\Q (jah (jai n T)) h
set_option maxHeartbeats 2000000 in
theorem jkn {n:Nat} {f:Addr} {fd:FuncData} (Z:Zs mg) (F:Fun K "marks" "marks" jg3 f fd) (C_want_table:jaj P w K mg base n "want_table" ["thing"] jaP):FnOk P w K mg base CX0 (n+1) f fd ["table"] (LSp K jcW):=by
 obtain⟨g_G_want_table,gd_G_want_table,G_want_table,bG_want_table,kG_want_table,mG_want_table⟩:=C_want_table
 refine F.okJ sc_marks (λds h Q q=>by obtain⟨T,k,b,e,hT,h1,h6,q⟩:=q;subst e;rfl) _ (λcdv A outer s H E hr=>(jae (jdL (jan G_want_table hr rfl mG_want_table kG_want_table bG_want_table (jac (jv 0) jaa))) (by exact(jaf (jbp (jaU ja8 rfl Z.tuple (by decide +kernel) (jac (jlc (i:=1) (js:= [1]) rfl (jao (by rfl)) (jcw (jv 0)) (by decide) sc_marks.nd rfl (by first|exact Or.inl rfl|exact Or.inr rfl) (λX' hX=>jaS) (λX' hX=>by obtain⟨C,s₀,H₀,ex,rfl⟩:=hX;exact(jaU ja8 rfl Z.tuple (by decide +kernel) (jac (jlc (i:=2) (js:= [2]) rfl (jao (by rfl)) (jcw (jv 1)) (by decide) sc_marks.nd rfl (by first|exact Or.inl rfl|exact Or.inr rfl) (λX' hX=>jaS) (λX' hX=>by obtain⟨C,s₀,H₀,ex,rfl⟩:=hX;exact(jif (jcs oq_ne (jv 2) jaA (jaw _)) jaA jaA))) jaa)))) jaa))))))) ?_
 intro ds h Q q
 obtain⟨T,k,b,e,hT,h1,h6,q⟩:=q
 subst e
 refine jak (λσ' h' =>σ' = [some (jah T),none,none]/\h=h') (λC hC=>⟨_,rfl,T,k,b,rfl,hT,h1,h6,hC _ _ ⟨rfl,rfl⟩⟩) ?_
 rintro _ _ ⟨rfl,rfl⟩
 refine jkC T jc3 (λr=> .tup (r.map λx=> .int (if x≠0 then 1 else 0))) (by rw [hT.len];omega) rfl (λR r=>⟨_,rfl,r⟩) (λr hr Q' q' => ?_) ⟨h,Sub.refl h,?_⟩
 ·refine jkC r D.int (λx=> .int (if x≠0 then 1 else 0)) (by rw [hT.row r hr];omega) rfl (λR r=>⟨_,rfl,r⟩) (λx hx Q'' q'' =>⟨_,rfl,_,rfl,?_⟩) q'
  by_cases z:x=0
  ·subst z;exact jdl q''
  ·have e:(!decide (x=0))=true:=by simp [z]
   rw [e]
   rw [if_pos z] at q''
   exact jjn q''
 ·rw [jlK,<-jlL hT];exact q
def jgl:RDn:=λds h Q=> ∃T,∃n e:Nat,ds= [jah T]/\Sq n e T/\1<=n/\n<=6/\Q (jah (jbL n T)) h
set_option maxHeartbeats 2000000 in
theorem jjj {n:Nat} {f:Addr} {fd:FuncData} (Z:Zs mg) (F:Fun K "turned" "turned" jfq f fd) (C_want_table:jaj P w K mg base n "want_table" ["thing"] jaP):FnOk P w K mg base CX0 (n+1) f fd ["table"] (LSp K jgl):=by
 obtain⟨g_G_want_table,gd_G_want_table,G_want_table,bG_want_table,kG_want_table,mG_want_table⟩:=C_want_table
 refine F.okJ sc_turned (λds h Q q=>by obtain⟨T,k,b,e,hT,h1,h6,q⟩:=q;subst e;rfl) _ (λcdv A outer s H E hr=>(jae (jdL (jan G_want_table hr rfl mG_want_table kG_want_table bG_want_table (jac (jv 0) jaa))) (by exact(jaf (jbp (jaU ja8 rfl Z.tuple (by decide +kernel) (jac (jlc (i:=1) (js:= [1]) rfl (jao (by rfl)) (jfY rfl Z.range (jac (jaF jbe rfl Z.len G0M (jac (jv 0) jaa)) jaa)) (by decide) sc_turned.nd rfl (by first|exact Or.inl rfl|exact Or.inr rfl) (λX' hX=>jaS) (λX' hX=>by obtain⟨C,s₀,H₀,ex,rfl⟩:=hX;exact(jaU ja8 rfl Z.tuple (by decide +kernel) (jac (jlc (i:=2) (js:= [2]) rfl (jao (by rfl)) (jcw (jv 0)) (by decide) sc_turned.nd rfl (by first|exact Or.inl rfl|exact Or.inr rfl) (λX' hX=>jaS) (λX' hX=>by obtain⟨C,s₀,H₀,ex,rfl⟩:=hX;exact(jix (jv 2) (jv 1) (λ_ _=>rfl)))) jaa)))) jaa))))))) ?_
 intro ds h Q q
 obtain⟨T,k,b,e,hT,h1,h6,q⟩:=q
 subst e
 refine jak (λσ' h' =>σ' = [some (jah T),none,none]/\h=h') (λC hC=>⟨_,rfl,T,k,b,rfl,hT,h1,h6,hC _ _ ⟨rfl,rfl⟩⟩) ?_
 rintro _ _ ⟨rfl,rfl⟩
 refine jkC (List.range k) (λj=> .int (j:Int)) (λj=> .tup (T.map λr=> .int (r.getD j 0))) (by rw [G0h];omega) rfl (λR r=>⟨_,rfl,(k:Int),by rw [G0a,hT.len],by omega,by omega,r⟩) (λj hj Q' q' => ?_) ⟨h,Sub.refl h,?_⟩
 ·refine jkC T jc3 (λr=> .int (r.getD j 0)) (by rw [hT.len];omega) rfl (λR r=>⟨_,rfl,r⟩) (λr hr Q'' q'' =>⟨_,rfl,_,rfl,_,jfd (hT.row r hr) (G0q.mp hj),q''⟩) q'
 ·have e1: ∀j,T.map (λr=>D.int (r.getD j 0))=(List.range k).map λi=>D.int (ent T i j):=λj=>by
   conv=>lhs;rw [jaO T [],hT.len]
   rw [G0L];rfl
  have e2:((List.range k).map λj=>D.tup (T.map λr=> .int (r.getD j 0)))=(List.range k).map λj=>D.tup ((List.range k).map λi=>D.int (ent T i j)):=G0N λj _=>by rw [e1]
  rw [e2,jkD]
  exact q
def jeQ:RDn:=λds h Q=> ∃T,∃n e:Nat,∃o,ds= [jah T,jgs o]/\Sq n e T/\Ordr n o/\1<=n/\n<=6/\Q (jah (jdo n o T)) h
set_option maxHeartbeats 2000000 in
theorem jhR {n:Nat} {f:Addr} {fd:FuncData} (Z:Zs mg) (F:Fun K "renamed" "renamed" jdY f fd) (C_want_table:jaj P w K mg base n "want_table" ["thing"] jaP) (C_want_order:jaj P w K mg base n "want_order" ["table","thing"] jcU):FnOk P w K mg base CX0 (n+1) f fd ["table","order"] (LSp K jeQ):=by
 obtain⟨g_G_want_table,gd_G_want_table,G_want_table,bG_want_table,kG_want_table,mG_want_table⟩:=C_want_table
 obtain⟨g_G_want_order,gd_G_want_order,G_want_order,bG_want_order,kG_want_order,mG_want_order⟩:=C_want_order
 refine F.okJ sc_renamed (λds h Q q=>by obtain⟨T,k,b,o,e,hT,ho,h1,h6,q⟩:=q;subst e;rfl) _ (λcdv A outer s H E hr=>(jae (jdL (jan G_want_table hr rfl mG_want_table kG_want_table bG_want_table (jac (jv 0) jaa))) (by exact(jae (jdL (jan G_want_order hr rfl mG_want_order kG_want_order bG_want_order (jac (jv 0) (by exact(jac (jv 1) jaa))))) (by exact(jae (jek (i:=2) sc_renamed.nd rfl (by first|exact Or.inr rfl|exact Or.inl rfl) (jlc (i:=3) (js:= [3]) rfl (jao (by rfl)) (jfY rfl Z.range (jac (jaF jbe rfl Z.len G0M (jac (jv 0) jaa)) jaa)) (by decide) sc_renamed.nd rfl (by first|exact Or.inl rfl|exact Or.inr rfl) (λX' hX=>jaS) (λX' hX=>by obtain⟨C,s₀,H₀,ex,rfl⟩:=hX;exact(jpV (jv 1) (jv 3))))) (by exact(jaf (jbp (jaU ja8 rfl Z.tuple (by decide +kernel) (jac (jlc (i:=4) (js:= [4]) rfl (jao (by rfl)) (jcw (jv 2)) (by decide) sc_renamed.nd rfl (by first|exact Or.inl rfl|exact Or.inr rfl) (λX' hX=>jaS) (λX' hX=>by obtain⟨C,s₀,H₀,ex,rfl⟩:=hX;exact(jaU ja8 rfl Z.tuple (by decide +kernel) (jac (jlc (i:=5) (js:= [5]) rfl (jao (by rfl)) (jcw (jv 2)) (by decide) sc_renamed.nd rfl (by first|exact Or.inl rfl|exact Or.inr rfl) (λX' hX=>jaS) (λX' hX=>by obtain⟨C,s₀,H₀,ex,rfl⟩:=hX;exact(jix (jix (jv 0) (jv 4) (λ_ _=>rfl)) (jv 5) (λ_ _=>rfl)))) jaa)))) jaa))))))))))) ?_
 intro ds h Q q
 obtain⟨T,k,b,o,e,hT,ho,h1,h6,q⟩:=q
 subst e
 refine jak (λσ' h' =>σ' = [some (jah T),some (jgs o),none,none,none,none]/\h=h') (λC hC=>⟨_,rfl,T,k,b,rfl,hT,h1,h6,hC _ _ ⟨rfl,rfl⟩⟩) ?_
 rintro _ _ ⟨rfl,rfl⟩
 refine jak (λσ' h' =>σ' = [some (jah T),some (jgs o),none,none,none,none]/\h=h') (λC hC=>⟨_,rfl,_,rfl,T,o,k,rfl,hT.len,ho,h6,hC _ _ ⟨rfl,rfl⟩⟩) ?_
 rintro _ _ ⟨rfl,rfl⟩
 have lt: ∀i,i∈List.range k->o.idxOf i<k:=λi hi=>ho.ord.lt (G0q.mp hi)
 refine jak (λσ' h' => ∃p,σ' = [some (jah T),some (jgs o),some (.lst p),none,none,none]/\h p=none/\h' =jbs h p ((List.range k).map λi=> .int ((o.idxOf i:Nat):Int))) (λC hC=> ?_) ?_
 ·refine lcA (List.range k) (λj=> .int (j:Int)) (λi=> .int ((o.idxOf i:Nat):Int)) (by rw [G0h];omega) rfl (λR r=>⟨_,rfl,(k:Int),by rw [G0a,hT.len],by omega,by omega,r⟩) (λi hi Q' q' => ?_) (λp hp=>hC _ _ ⟨p,rfl,hp,rfl⟩)
  refine⟨_,rfl,ja9 o,jgH o,_,rfl,(i:Int),rfl,jjQ (ho.mem_iff.mpr hi),?_⟩
  rw [jjP];exact q'
 rintro _ _ ⟨p,rfl,hp,rfl⟩
 refine jkC (j:=λh=>h p) (List.range k) (λi=> .int ((o.idxOf i:Nat):Int)) (λi=> .tup ((List.range k).map λj=> .int (ent T (o.idxOf i) (o.idxOf j)))) (by rw [G0h];omega) jab (λR r=>⟨_,rfl,r⟩) (λi hi Q' q' => ?_) ⟨h,Sub.newAt (Sub.refl h) hp,?_⟩
 ·refine jkC (j:=λh=>h p) (List.range k) (λi=> .int ((o.idxOf i:Nat):Int)) (λj=> .int (ent T (o.idxOf i) (o.idxOf j))) (by rw [G0h];omega) jab (λR r=>⟨_,rfl,r⟩) (λj hj Q'' q'' => ?_) q'
  exact⟨_,rfl,_,rfl,_,jiB hT (lt i hi),_,rfl,_,jfd (hT.row _ (Sq.getRow hT (lt i hi))) (lt j hj),q''⟩
 ·rw [jkD];exact q
def ja6:RDn:=λds h Q=> ∃M T,∃n e:Nat,ds= [jah M,jah T]/\Sq n 1 M/\Sq n e T/\1<=n/\n<=6/\e<=1000/\Q (jah (mk1 n T M)) h
set_option maxHeartbeats 2000000 in
theorem jep {n:Nat} {f:Addr} {fd:FuncData} (Z:Zs mg) (F:Fun K "marks_after" "marks_after" jb1 f fd) (C_marks:jaj P w K mg base n "marks" ["table"] jcW) (C_multiplied:jaj P w K mg base n "multiplied" ["one","other"] jcV):FnOk P w K mg base CX0 (n+1) f fd ["ahead","table"] (LSp K ja6):=by
 obtain⟨g_G_marks,gd_G_marks,G_marks,bG_marks,kG_marks,mG_marks⟩:=C_marks
 obtain⟨g_G_multiplied,gd_G_multiplied,G_multiplied,bG_multiplied,kG_multiplied,mG_multiplied⟩:=C_multiplied
 refine F.okJ jen (λds h Q q=>by obtain⟨M,T,n,b,e,hM,hT,h1,h6,hb,q⟩:=q;subst e;rfl) _ (λcdv A outer s H E hr=>(jaf (jbp (jan G_marks hr rfl mG_marks kG_marks bG_marks (jac (jan G_multiplied hr rfl mG_multiplied kG_multiplied bG_multiplied (jac (jv 0) (by exact(jac (jv 1) jaa)))) jaa))))) ?_
 intro ds h Q q
 obtain⟨M,T,n,b,e,hM,hT,h1,h6,hb,q⟩:=q
 subst e
 exact⟨_,rfl,_,rfl,M,T,n,1,b,rfl,hM,hT,by omega,h6,jct n M T,n,_,rfl,hM.mul hT (by omega),h1,h6,h,Sub.refl h,q⟩
def jaE:RDn:=λds h Q=> ∃T,∃n e:Nat,ds= [jah T]/\Sq n e T/\1<=n/\n<=6/\e<=1000/\ ∀A L J h',h A=none->h' A=some ((List.range L).map λi=>jah (jat n T i))->Sub h h' ->Course n T L J->L<=2225->Q (.tup [.lst A,.int ((J:Nat):Int)]) h'
set_option maxHeartbeats 2000000 in
theorem jcL {n:Nat} {f:Addr} {fd:FuncData} (Z:Zs mg) (F:Fun K "marks_and_return" "marks_and_return" ja0 f fd) (C_marks:jaj P w K mg base n "marks" ["table"] jcW) (C_marks_after:jaj P w K mg base n "marks_after" ["ahead","table"] ja6):FnOk P w K mg base CX0 (n+1) f fd ["table"] (LSp K jaE):=by
 obtain⟨g_G_marks,gd_G_marks,G_marks,bG_marks,kG_marks,mG_marks⟩:=C_marks
 obtain⟨g_G_marks_after,gd_G_marks_after,G_marks_after,bG_marks_after,kG_marks_after,mG_marks_after⟩:=C_marks_after
 refine F.okJ sc_marks_and_return (λds h Q q=>by obtain⟨T,n,bb,e,hT,h1,h6,hb,q⟩:=q;subst e;rfl) _ (λcdv A outer s H E hr=>(jae (jek (i:=1) sc_marks_and_return.nd rfl (Or.inl rfl) (jjq (jac (jan G_marks hr rfl mG_marks kG_marks bG_marks (jac (jv 0) jaa)) jaa))) (by exact(jae (jek (i:=2) sc_marks_and_return.nd rfl (Or.inl rfl) (jan G_marks_after hr rfl mG_marks_after kG_marks_after bG_marks_after (jac (jix (jv 1) (jpj jaA) (λ_ _=>rfl)) (by exact(jac (jv 0) jaa))))) (by exact(jae (jnG G1T (jcs (jj4 hr.units) (jv 2) (jv 1) (by with_unfolding_all rfl)) (jae (jdL (joN (jv 1) (jv 2))) (by exact(jaf (jek (i:=2) sc_marks_and_return.nd rfl (Or.inl rfl) (jan G_marks_after hr rfl mG_marks_after kG_marks_after bG_marks_after (jac (jv 2) (by exact(jac (jv 0) jaa))))))))) (by exact(jaf (jbp (jnC (jac (jv 1) (by exact(jac (jpZ hr.units (jv 1) (jv 2)) jaa))))))))))))) ?_
 intro ds h Q q
 obtain⟨T,n,bb,e,hT,h1,h6,hb,q⟩:=q
 subst e
 refine jak (λσ' h' => ∃A,σ' = [some (jah T),some (.lst A),none]/\h A=none/\h' A=some ((List.range 1).map λi=>jah (jat n T i))/\Sub h h') (λC hC=>⟨_,rfl,T,n,bb,rfl,hT,h1,h6,(by show 1<=sizeLine;decide),λA eA=>hC _ _ ⟨A,rfl,eA,jab,Sub.newAt (Sub.refl h) eA⟩⟩) ?_
 rintro _ h1' ⟨A,rfl,fA,kA,sbA⟩
 refine jak (λσ' h' =>σ' = [some (jah T),some (.lst A),some (jah (jat n T 1))]/\h1' =h') (λC hC=>⟨_,rfl,_,_,kA,jiL (by decide),_,rfl,jat n T 0,T,n,bb,rfl,jbZ n T 0,hT,h1,h6,hb,hC _ _ ⟨rfl,rfl⟩⟩) ?_
 rintro _ _ ⟨rfl,rfl⟩
 refine jak (λσ' h' => ∃L,σ' = [some (jah T),some (.lst A),some (jah (jat n T L))]/\h' A=some ((List.range L).map λi=>jah (jat n T i))/\Sub h h' /\L<=2225/\((List.range L).map (jat n T)).Nodup/\jat n T L∈(List.range L).map (jat n T)) (λC hC=> ?_) ?_
 ·refine jjW (λm σ' h' => ∃L,σ' = [some (jah T),some (.lst A),some (jah (jat n T L))]/\h' A=some ((List.range L).map λi=>jah (jat n T i))/\Sub h h' /\m=2226-L/\((List.range L).map (jat n T)).Nodup) _ ⟨_,rfl,kA,sbA,rfl,by simp⟩ ?_
  rintro m _ h2 ⟨L,rfl,kA2,sb2,hm,nd⟩
  have hL:=jiQ hT h1 h6 nd
  have kA3:h2 A=some (((List.range L).map (jat n T)).map jah):=by rw [kA2,G0L];rfl
  refine⟨_,rfl,_,rfl,jnL encT kA3 λbo hbo=>⟨_,rfl,jjo (λc=> ?_) (λc=> ?_)⟩⟩
  rotate_left
  ·refine hC _ _ ⟨L,rfl,kA2,sb2,hL,nd,hbo.mp ?_⟩
   cases bo with
   |true=>rfl
   |false=>exact absurd rfl c
  have hni:jat n T L ∉ (List.range L).map (jat n T):=λz=>by rw [hbo.mpr z] at c;exact absurd c (by decide)
  refine jak (λσ' h' =>σ' = [some (jah T),some (.lst A),some (jah (jat n T L))]/\h' A=some ((List.range (L+1)).map λi=>jah (jat n T i))/\Sub h h') (λC2 hC2=> ?_) ?_
  ·refine⟨_,rfl,A,rfl,_,rfl,_,kA2,?_,hC2 _ _ ⟨rfl,?_,?_⟩⟩
   ·rw [G0a,G0h];exact G1O hL (by decide)
   ·rw [jab,G2b,G1m];rfl
   ·intro x ds e
    rw [jbb (λw=>by subst w;rw [fA] at e;cases e)];exact sb2 x ds e
  rintro _ h3 ⟨rfl,kA4,sb4⟩
  refine⟨_,rfl,_,rfl,jat n T L,T,n,bb,rfl,jbZ n T L,hT,h1,h6,hb,2226-(L+1),_,by omega,Sub.refl _,L+1,rfl,kA4,sb4,rfl,?_⟩
  rw [G2b,G1m,List.nodup_append]
  exact⟨nd,by simp,λx hx y hy=>by rw [G0x.mp (show y∈ [jat n T L] from hy)];intro e;exact hni (e ▸ hx)⟩
 rintro _ h3 ⟨L,rfl,kA3,sb3,hL,nd,hin⟩
 have kA4:h3 A=some (((List.range L).map (jat n T)).map jah):=by rw [kA3,G0L];rfl
 obtain⟨J,pd,ps,zz,hat,t1,t2,c1,c2,c3,c4,c5,c6,c7⟩:=jnM encT kA4 hin (by simp;omega)
 have hJL:J<L:=by have:=(G0s.mp hat).1;simpa using this
 have hJe:jat n T L=jat n T J:=by
  rw [G0o,G05 hJL] at hat
  injection hat with hat
  exact hat.symm
 exact⟨_,rfl,_,rfl,A,rfl,_,rfl,pd,ps,J,zz,t1,t2,c1,c2,c3,c4,c5,c6,c7,(by show 2<=sizeLine;decide),h3,Sub.refl _,q A L J h3 fA kA3 sb3 ⟨nd,hJL,hJe⟩ hL⟩
def jd2:RDn:=λds h Q=> ∃T,∃n L J k:Nat,∃A,ds= [.lst A,.int (J:Int),.int (k:Int)]/\h A=some ((List.range L).map λi=>jah (jat n T i))/\Course n T L J/\1<=k/\Q (jah (jat n T (k-1))) h
set_option maxHeartbeats 2000000 in
theorem jg8 {n:Nat} {f:Addr} {fd:FuncData} (Z:Zs mg) (F:Fun K "marks_at" "marks_at" jda f fd):FnOk P w K mg base CX0 (n+1) f fd ["told","back","k"] (LSp K jd2):=by
 refine F.okJ sc_marks_at (λds h Q q=>by obtain⟨T,n,L,J,k,A,e,kA,c,hk,q⟩:=q;subst e;rfl) _ (λcdv A outer s H E hr=>(jae (jek (i:=3) sc_marks_at.nd rfl (Or.inl rfl) (jop jcv (jv 2) jaA)) (by exact(jae (jd8 (jcs jlu (jv 3) (jaF jbe rfl Z.len G0M (jac (jv 0) jaa)) (jaw _)) (jaf (jbp (jix (jv 0) (jv 3) (λ_ _=>rfl)))) jaR) (by exact(jaf (jbp (jix (jv 0) (jop jbF (jv 1) (jop jdh (jop jcv (jv 3) (jv 1)) (jop jcv (jaF jbe rfl Z.len G0M (jac (jv 0) jaa)) (jv 1)))) (λ_ _=>rfl))))))))) ?_
 intro ds h Q q
 obtain⟨T,n,L,J,k,A,e,kA,c,hk,q⟩:=q
 subst e
 have hJ:=c.lt
 have hl:((((List.range L).map λi=>jah (jat n T i)).length:Nat):Int)=(L:Int):=by rw [G0a,G0h]
 have ek:(k:Int)-1=((k-1:Nat):Int):=by omega
 refine jak (λσ' h' =>σ' = [some (.lst A),some (.int (J:Int)),some (.int (k:Int)),some (.int ((k-1:Nat):Int))]/\h=h') (λC hC=>⟨_,rfl,hC _ _ ⟨by rw [<-ek];rfl,rfl⟩⟩) ?_
 rintro _ _ ⟨rfl,rfl⟩
 refine jak (λσ' h' =>σ' = [some (.lst A),some (.int (J:Int)),some (.int (k:Int)),some (.int ((k-1:Nat):Int))]/\h=h' /\L<=k-1) (λC hC=>⟨_,rfl,_,rfl,_,kA,_,rfl,jjo (λz=> ?_) (λz=>hC _ _ ⟨rfl,rfl,?_⟩)⟩) ?_
 ·have z' :((k-1:Nat):Int)<((((List.range L).map λi=>jah (jat n T i)).length:Nat):Int):=G2S z
  rw [hl] at z'
  exact⟨_,rfl,_,rfl,_,_,kA,jiM (by omega),h,Sub.refl h,q⟩
 ·have z' : ¬ ((k-1:Nat):Int)<((((List.range L).map λi=>jah (jat n T i)).length:Nat):Int):=λw=>z (G0r w)
  rw [hl] at z'
  omega
 rintro _ _ ⟨rfl,rfl,hLk⟩
 have hpos:(0:Int)<((((List.range L).map λi=>jah (jat n T i)).length:Nat):Int)-(J:Int):=by rw [hl];omega
 have hix:(J:Int)+(((k-1:Nat):Int)-(J:Int))%(((((List.range L).map λi=>jah (jat n T i)).length:Nat):Int)-(J:Int))=((J+(k-1-J)%(L-J):Nat):Int):=by
  rw [hl,Int.natCast_add,Int.natCast_emod,Int.natCast_sub (by omega:J<=k-1),Int.natCast_sub (by omega:J<=L)]
 have hlt:J+(k-1-J)%(L-J)<L:=by
  have:=G2R (k-1-J) (show 0<L-J by omega)
  omega
 refine⟨_,rfl,_,rfl,_,rfl,_,rfl,_,rfl,_,kA,_,rfl,hpos,_,jah (jat n T (J+(k-1-J)%(L-J))),kA,?_,h,Sub.refl h,?_⟩
 ·rw [hix];exact jiM hlt
 ·rw [jnO c (by omega)];exact q
def jd3:RDn:=λds h Q=> ∃T,∃n e:Nat,ds= [jah T]/\Sq n e T/\1<=n/\n<=6/\e<=1000/\ ∀L J,Course n T L J->L<=2225->Q (.tup [.int (((J:Nat):Int)+1),.int (((L:Nat):Int)-((J:Nat):Int))]) h
set_option maxHeartbeats 2000000 in
theorem jg9 {n:Nat} {f:Addr} {fd:FuncData} (Z:Zs mg) (F:Fun K "round_of" "round_of" jdb f fd) (C_marks_and_return:jaj P w K mg base n "marks_and_return" ["table"] jaE):FnOk P w K mg base CX0 (n+1) f fd ["table"] (LSp K jd3):=by
 obtain⟨g_G_marks_and_return,gd_G_marks_and_return,G_marks_and_return,bG_marks_and_return,kG_marks_and_return,mG_marks_and_return⟩:=C_marks_and_return
 refine F.okJ sc_round_of (λds h Q q=>by obtain⟨T,n,bb,e,hT,h1,h6,hb,q⟩:=q;subst e;rfl) _ (λcdv A outer s H E hr=>(jae (jkz (jan G_marks_and_return hr rfl mG_marks_and_return kG_marks_and_return bG_marks_and_return (jac (jv 0) jaa)) (jfX (i:=1) (j:=2) rfl sc_round_of.nd rfl rfl (Or.inl rfl) (Or.inl rfl))) (by exact(jaf (jbp (jnC (jac (jop jbF (jv 2) jaA) (by exact(jac (jop jcv (jaF jbe rfl Z.len G0M (jac (jv 1) jaa)) (jv 2)) jaa))))))))) ?_
 intro ds h Q q
 obtain⟨T,n,bb,e,hT,h1,h6,hb,q⟩:=q
 subst e
 refine jak (λσ' h' => ∃A L J,σ' = [some (jah T),some (.lst A),some (.int ((J:Nat):Int))]/\h' A=some ((List.range L).map λi=>jah (jat n T i))/\Sub h h' /\Course n T L J/\L<=2225) (λC hC=>⟨_,rfl,T,n,bb,rfl,hT,h1,h6,hb,λA L J h' fA kA sb c hL=>⟨_,_,rfl,hC _ _ ⟨A,L,J,rfl,kA,sb,c,hL⟩⟩⟩) ?_
 rintro _ h2 ⟨A,L,J,rfl,kA,sb,c,hL⟩
 refine⟨_,rfl,_,rfl,_,kA,_,rfl,(by show 2<=sizeLine;decide),h,sb,?_⟩
 rw [G0a,G0h]
 exact q L J c hL
def jdi:RDn:=λds h Q=> ∃T,∃n e:Nat,ds= [jah T]/\Sq n e T/\1<=n/\n<=6/\e<=1000/\ ∀A L J h',h A=none->h' A=some ((List.range L).map λi=>jah (jat n T i))->Sub h h' ->Course n T L J->L<=2225->Q (.lst A) h'
set_option maxHeartbeats 2000000 in
theorem jgm {n:Nat} {f:Addr} {fd:FuncData} (Z:Zs mg) (F:Fun K "all_marks" "all_marks" jcH f fd) (C_marks_and_return:jaj P w K mg base n "marks_and_return" ["table"] jaE):FnOk P w K mg base CX0 (n+1) f fd ["table"] (LSp K jdi):=by
 obtain⟨g_G_marks_and_return,gd_G_marks_and_return,G_marks_and_return,bG_marks_and_return,kG_marks_and_return,mG_marks_and_return⟩:=C_marks_and_return
 refine F.okJ jgh (λds h Q q=>by obtain⟨T,n,bb,e,hT,h1,h6,hb,q⟩:=q;subst e;rfl) _ (λcdv A outer s H E hr=>(jaf (jbp (jix (jan G_marks_and_return hr rfl mG_marks_and_return kG_marks_and_return bG_marks_and_return (jac (jv 0) jaa)) jaA (λ_ _=>rfl))))) ?_
 intro ds h Q q
 obtain⟨T,n,bb,e,hT,h1,h6,hb,q⟩:=q
 subst e
 exact⟨_,rfl,T,n,bb,rfl,hT,h1,h6,hb,λA L J h' fA kA sb c hL=>⟨_,rfl,h',Sub.refl _,q A L J h' fA kA sb c hL⟩⟩
def jd4:RDn:=λds h Q=> ∃T,∃n e k:Nat,ds= [jah T,.int (k:Int)]/\Sq n e T/\1<=n/\n<=6/\e<=1000/\1<=k/\k<=1000000000000000000000000000000/\Q (jah (jat n T (k-1))) h
set_option maxHeartbeats 2000000 in
theorem jha {n:Nat} {f:Addr} {fd:FuncData} (Z:Zs mg) (F:Fun K "marks_of" "marks_of" jdc f fd) (C_want_table:jaj P w K mg base n "want_table" ["thing"] jaP) (C_want_number:jaj P w K mg base n "want_number" ["thing","least","most"] jcy) (C_marks_and_return:jaj P w K mg base n "marks_and_return" ["table"] jaE) (C_marks_at:jaj P w K mg base n "marks_at" ["told","back","k"] jd2) (M_MOST_POWER: ∃tk,mg "MOST_POWER" =some (.int 1000000000000000000000000000000 tk)):FnOk P w K mg base CX0 (n+1) f fd ["table","k"] (LSp K jd4):=by
 obtain⟨g_G_want_table,gd_G_want_table,G_want_table,bG_want_table,kG_want_table,mG_want_table⟩:=C_want_table
 obtain⟨g_G_want_number,gd_G_want_number,G_want_number,bG_want_number,kG_want_number,mG_want_number⟩:=C_want_number
 obtain⟨g_G_marks_and_return,gd_G_marks_and_return,G_marks_and_return,bG_marks_and_return,kG_marks_and_return,mG_marks_and_return⟩:=C_marks_and_return
 obtain⟨g_G_marks_at,gd_G_marks_at,G_marks_at,bG_marks_at,kG_marks_at,mG_marks_at⟩:=C_marks_at
 obtain⟨tk_MOST_POWER,m_MOST_POWER⟩:=M_MOST_POWER
 refine F.okJ sc_marks_of (λds h Q q=>by obtain⟨T,n,bb,k,e,hT,h1,h6,hb,hk,hk2,q⟩:=q;subst e;rfl) _ (λcdv A outer s H E hr=>(jae (jdL (jan G_want_table hr rfl mG_want_table kG_want_table bG_want_table (jac (jv 0) jaa))) (by exact(jae (jdL (jan G_want_number hr rfl mG_want_number kG_want_number bG_want_number (jac (jv 1) (by exact(jac jaA (by exact(jac (jnA rfl m_MOST_POWER) jaa))))))) (by exact(jae (jkz (jan G_marks_and_return hr rfl mG_marks_and_return kG_marks_and_return bG_marks_and_return (jac (jv 0) jaa)) (jfX (i:=2) (j:=3) rfl sc_marks_of.nd rfl rfl (Or.inl rfl) (Or.inl rfl))) (by exact(jaf (jbp (jan G_marks_at hr rfl mG_marks_at kG_marks_at bG_marks_at (jac (jv 2) (by exact(jac (jv 3) (by exact(jac (jv 1) jaa))))))))))))))) ?_
 intro ds h Q q
 obtain⟨T,n,bb,k,e,hT,h1,h6,hb,hk,hk2,q⟩:=q
 subst e
 refine jak (λσ' h' =>σ' = [some (jah T),some (.int (k:Int)),none,none]/\h=h') (λC hC=>⟨_,rfl,T,n,bb,rfl,hT,h1,h6,hC _ _ ⟨rfl,rfl⟩⟩) ?_
 rintro _ _ ⟨rfl,rfl⟩
 refine jak (λσ' h' =>σ' = [some (jah T),some (.int (k:Int)),none,none]/\h=h') (λC hC=>⟨_,rfl,(k:Int),1,1000000000000000000000000000000,rfl,by omega,by omega,hC _ _ ⟨rfl,rfl⟩⟩) ?_
 rintro _ _ ⟨rfl,rfl⟩
 refine jak (λσ' h' => ∃A L J,σ' = [some (jah T),some (.int (k:Int)),some (.lst A),some (.int ((J:Nat):Int))]/\h' A=some ((List.range L).map λi=>jah (jat n T i))/\Sub h h' /\Course n T L J) (λC hC=>⟨_,rfl,T,n,bb,rfl,hT,h1,h6,hb,λA L J h' fA kA sb c hL=>⟨_,_,rfl,hC _ _ ⟨A,L,J,rfl,kA,sb,c⟩⟩⟩) ?_
 rintro _ h2 ⟨A,L,J,rfl,kA,sb,c⟩
 exact⟨_,rfl,_,rfl,_,rfl,T,n,L,J,k,A,rfl,kA,c,hk,h,sb,q⟩
def jbf:RDn:=λds h Q=> ∃Ts:List (List (List Int)),∃n:Nat,ds= [.tup (Ts.map jah),.int ((Ts.length:Nat):Int),.int (n:Int)]/\(∀T∈Ts,Sq n 1 T)/\1<=n/\n<=6/\Ts.length<1000/\Ts.Nodup/\Q (.bl true) h
set_option maxHeartbeats 2000000 in
theorem jcu {n:Nat} {f:Addr} {fd:FuncData} (Z:Zs mg) (F:Fun K "are_unlike_tables" "are_unlike_tables" jaV f fd) (C_has_table_form:jaj P w K mg base n "has_table_form" ["thing"] ja5):FnOk P w K mg base CX0 (n+1) f fd ["thing","many","size"] (LSp K jbf):=by
 obtain⟨g_G_has_table_form,gd_G_has_table_form,G_has_table_form,bG_has_table_form,kG_has_table_form,mG_has_table_form⟩:=C_has_table_form
 refine F.okJ sc_are_unlike_tables (λds h Q q=>by obtain⟨Ts,n,e,hT,h1,h6,few,nd,q⟩:=q;subst e;rfl) _ (λcdv A outer s H E hr=>(jae (jd8 (jpt (jlG (jcB (jcP (jgF (T:= "tuple") (by decide) rfl Z.isinstance rfl Z.tuple (by decide +kernel) (jv 0)))) (jlF (jcs oq_ne (jaF jbe rfl Z.len G0M (jac (jv 0) jaa)) (jv 1) (jaw _))))) (jaf (jbp jbl)) jaR) (by exact(jae (jd8 (jcB (jcP (jaF (jfP rfl) rfl Z.all G1z (jac (jlc (i:=3) (js:= [3]) rfl (jao (by rfl)) (jcw (jv 0)) (by decide) sc_are_unlike_tables.nd rfl (by first|exact Or.inl rfl|exact Or.inr rfl) (λX' hX=>jaS) (λX' hX=>by obtain⟨C,s₀,H₀,ex,rfl⟩:=hX;exact(jjp (jan G_has_table_form hr rfl mG_has_table_form kG_has_table_form bG_has_table_form (jac (jv 3) jaa)) (jhS (jgE oq_eq (jaF jbe rfl Z.len G0M (jac (jv 3) jaa)) (jv 2) (jaw _)))))) jaa)))) (jaf (jbp jbl)) jaR) (by exact(jaf (jbp (jgE oq_eq (jl9 hr rfl rfl Z.len rfl Z.set (jac (jv 0) jaa)) (jv 1) (jaw _))))))))) ?_
 intro ds h Q q
 obtain⟨Ts,n,e,hT,h1,h6,few,nd,q⟩:=q
 subst e
 refine jak (λσ' h' =>σ' = [some (.tup (Ts.map jah)),some (.int ((Ts.length:Nat):Int)),some (.int (n:Int)),none]/\h=h') (λC hC=> ?_) ?_
 ·refine⟨_,rfl,_,rfl,_,rfl,jdl ⟨_,rfl,_,rfl,?_⟩⟩
  show ∃k_1,D.bl (!decide ((((Ts.map jah).length:Nat):Int)=((Ts.length:Nat):Int)))= .bl k_1/\_
  rw [G0a,G0r rfl]
  exact⟨_,rfl,jdl (hC _ _ ⟨rfl,rfl⟩)⟩
 rintro _ _ ⟨rfl,rfl⟩
 refine jak (λσ' h' =>σ' = [some (.tup (Ts.map jah)),some (.int ((Ts.length:Nat):Int)),some (.int (n:Int)),none]/\h=h') (λC hC=> ?_) ?_
 ·refine jpk (j:=λ_=>some (Ts.map jah)) Ts jah (λ_=>true) (by omega) rfl (λR r=>⟨_,rfl,r⟩) (λT hm Q' q' =>⟨_,rfl,jah T,rfl,jkS (hT T hm) h6,?_⟩) ⟨_,rfl,?_⟩
  ·rw [jji (hT T hm) h1 h6]
   refine⟨_,rfl,jjn ⟨_,rfl,_,rfl,?_⟩⟩
   show Q' (.bl (decide ((((T.map jc3).length:Nat):Int)=(n:Int)))) h
   rw [G0a,(hT T hm).len,G0r rfl]
   exact q'
  ·rw [show Ts.all (λ_=>true)=true from G0U.mpr λ_ _=>rfl]
   exact jdl (hC _ _ ⟨rfl,rfl⟩)
 rintro _ _ ⟨rfl,rfl⟩
 refine⟨_,rfl,Ts,rfl,few,λk le iff=>⟨_,rfl,?_⟩⟩
 show ∃h0,Sub h0 h/\Q (.bl (decide ((k:Int)=((Ts.length:Nat):Int)))) h0
 rw [iff.mpr nd,G0r rfl]
 exact⟨_,Sub.refl _,q⟩
theorem jko (Ts:List (List (List Int))):jkE (Ts.map jah) (jfQ (Ts.map jah) (some 1) none)=(Ts.zip (Ts.drop 1)).map λp=>D.tup [jah p.1,jah p.2]:=by
 rw [jlS]
 unfold jkE
 rw [<-G2V,List.zip_map,G0L];rfl
theorem jkp (A B:List (List Int)):PyData.eqv (jdp A) (jdp B)=decide (A=B):=jaL A B
theorem jgn {n e f:Nat} {T U M:List (List Int)} (hT:Sq n e T) (hU:Sq n f U) (hn:n<=8) (hM:Sq n 1 M) (z:jai n T=jai n U):mk1 n T M=mk1 n U M:=by
 unfold mk1
 rw [jdw hM hT,jdw hM hU,z]
theorem jmc {A B:List (List Int)} {h:HD} {Q:KD} (q:Q (.bl (!decide (A=B))) h):neE (jah A) (jah B) h Q:=⟨_,_,jbX h A,jbX h B,jaY A,jaY B,by rw [jkp];exact q⟩
def jgo:RDn:=λds h Q=> ∃T,∃Ts:List (List (List Int)),∃n e:Nat,ds= [jah T,.tup (Ts.map jah)]/\Sq n e T/\e<=1000/\(∀M∈Ts,Sq n 1 M)/\1<=n/\n<=6/\Ts.length<=1000/\(∀p∈Ts.zip (Ts.drop 1),p.2=mk1 n T p.1)/\Q (.bl true) h
set_option maxHeartbeats 2000000 in
theorem jjk {n:Nat} {f:Addr} {fd:FuncData} (Z:Zs mg) (F:Fun K "follow" "follow" jfr f fd) (C_marks_after:jaj P w K mg base n "marks_after" ["ahead","table"] ja6):FnOk P w K mg base CX0 (n+1) f fd ["table","rows"] (LSp K jgo):=by
 obtain⟨g_G_marks_after,gd_G_marks_after,G_marks_after,bG_marks_after,kG_marks_after,mG_marks_after⟩:=C_marks_after
 refine F.okJ sc_follow (λds h Q q=>by obtain⟨T,Ts,n,b,e,hT,hb,hM,h1,h6,few,fol,q⟩:=q;subst e;rfl) _ (λcdv A outer s H E hr=>(jaf (jbp (jaF (jfP rfl) rfl Z.all G1z (jac (jpU (i:=2) (j:=3) (js:= [2,3]) rfl (jao (by rfl)) (jnK rfl Z.zip (jac (jv 1) (by exact(jac (jkB (jv 1) (jgG jaA) jlH) jaa)))) (by decide) (by decide) (by decide) sc_follow.nd rfl rfl (by first|exact Or.inl rfl|exact Or.inr rfl) (by first|exact Or.inl rfl|exact Or.inr rfl) (λX' hX=>jaS) (λX' hX=>by obtain⟨C,s₀,H₀,ex,rfl⟩:=hX;exact(jgE (jeC hr.units) (jv 3) (jan G_marks_after hr rfl mG_marks_after kG_marks_after bG_marks_after (jac (jv 2) (by exact(jac (jv 0) jaa)))) (jaw _)))) jaa))))) ?_
 intro ds h Q q
 obtain⟨T,Ts,n,b,e,hT,hb,hM,h1,h6,few,fol,q⟩:=q
 subst e
 refine joP (j:=λ_=>some (jkE (Ts.map jah) (jfQ (Ts.map jah) (some 1) none))) (Ts.zip (Ts.drop 1)) (λp=>jah p.1) (λp=>jah p.2) (λ_=>true) (by rw [G27];omega) (congrArg some (jko Ts)) (λR r=>⟨_,rfl,_,rfl,_,rfl,_,_,rfl,r⟩) (λp hp Q' q' =>⟨_,rfl,_,rfl,_,rfl,p.1,T,n,b,rfl,hM _ (G14 hp).1,hT,h1,h6,hb,jiS ?_⟩) ⟨h,Sub.refl h,?_⟩
 ·rw [G0r (fol p hp)];exact q'
 ·rw [show (Ts.zip (Ts.drop 1)).all (λ_=>true)=true from G0U.mpr λ_ _=>rfl];exact q
def jbQ:RDn:=λds h Q=> ∃U T,∃n e L J:Nat,ds= [jah U,(.tup [.int (((J:Nat):Int)+1),.int (((L:Nat):Int)-((J:Nat):Int)),.tup ((List.range L).map λi=>jah (jat n T i))])]/\Sq n e U/\e<=1000/\1<=n/\n<=6/\Sq n e T/\Course n T L J/\L<=426/\Q (.bl (decide (jai n U=jai n T))) h
set_option maxHeartbeats 2000000 in
theorem jdf {n:Nat} {f:Addr} {fd:FuncData} (Z:Zs mg) (F:Fun K "calendar_holds" "calendar_holds" jbd f fd) (C_want_table:jaj P w K mg base n "want_table" ["thing"] jaP) (C_is_from:jaj P w K mg base n "is_from" ["thing","least"] jeO) (C_are_unlike_tables:jaj P w K mg base n "are_unlike_tables" ["thing","many","size"] jbf) (C_follow:jaj P w K mg base n "follow" ["table","rows"] jgo) (C_marks:jaj P w K mg base n "marks" ["table"] jcW) (C_marks_after:jaj P w K mg base n "marks_after" ["ahead","table"] ja6):FnOk P w K mg base CX0 (n+1) f fd ["table","thing"] (LSp K jbQ):=by
 obtain⟨g_G_want_table,gd_G_want_table,G_want_table,bG_want_table,kG_want_table,mG_want_table⟩:=C_want_table
 obtain⟨g_G_is_from,gd_G_is_from,G_is_from,bG_is_from,kG_is_from,mG_is_from⟩:=C_is_from
 obtain⟨g_G_are_unlike_tables,gd_G_are_unlike_tables,G_are_unlike_tables,bG_are_unlike_tables,kG_are_unlike_tables,mG_are_unlike_tables⟩:=C_are_unlike_tables
 obtain⟨g_G_follow,gd_G_follow,G_follow,bG_follow,kG_follow,mG_follow⟩:=C_follow
 obtain⟨g_G_marks,gd_G_marks,G_marks,bG_marks,kG_marks,mG_marks⟩:=C_marks
 obtain⟨g_G_marks_after,gd_G_marks_after,G_marks_after,bG_marks_after,kG_marks_after,mG_marks_after⟩:=C_marks_after
 refine F.okJ sc_calendar_holds (λds h Q q=>by obtain⟨U,T,n,b,L,J,e,hU,hb,h1,h6,hT,co,hL,q⟩:=q;subst e;rfl) _ (λcdv A outer s H E hr=>(jae (jdL (jan G_want_table hr rfl mG_want_table kG_want_table bG_want_table (jac (jv 0) jaa))) (by exact(jae (jd8 (jpt (jlG (jcB (jcP (jgF (T:= "tuple") (by decide) rfl Z.isinstance rfl Z.tuple (by decide +kernel) (jv 1)))) (jlF (jcs oq_ne (jaF jbe rfl Z.len G0M (jac (jv 1) jaa)) jaA (jaw _))))) (jaf (jbp jbl)) jaR) (by exact(jae (jkz (jv 1) (joS (i:=2) (j:=3) (l:=4) rfl sc_calendar_holds.nd rfl rfl rfl (Or.inl rfl) (Or.inl rfl) (Or.inl rfl))) (by exact(jae (jd8 (jpt (jlG (jcB (jcP (jan G_is_from hr rfl mG_is_from kG_is_from bG_is_from (jac (jv 2) (by exact(jac jaA jaa)))))) (jlF (jcB (jcP (jan G_is_from hr rfl mG_is_from kG_is_from bG_is_from (jac (jv 3) (by exact(jac jaA jaa))))))))) (jaf (jbp jbl)) jaR) (by exact(jae (jd8 (jcB (jcP (jan G_are_unlike_tables hr rfl mG_are_unlike_tables kG_are_unlike_tables bG_are_unlike_tables (jac (jv 4) (by exact(jac (jop jcv (jop jbF (jv 2) (jv 3)) jaA) (by exact(jac (jaF jbe rfl Z.len G0M (jac (jv 0) jaa)) jaa)))))))) (jaf (jbp jbl)) jaR) (by exact(jae (jd8 (jpt (jlG (jcs (jfU hr.units) (jix (jv 4) jaA (λ_ _=>rfl)) (jan G_marks hr rfl mG_marks kG_marks bG_marks (jac (jv 0) jaa)) (jaw _)) (jlF (jcB (jcP (jan G_follow hr rfl mG_follow kG_follow bG_follow (jac (jv 0) (by exact(jac (jv 4) jaa))))))))) (jaf (jbp jbl)) jaR) (by exact(jaf (jbp (jgE (jeC hr.units) (jan G_marks_after hr rfl mG_marks_after kG_marks_after bG_marks_after (jac (jix (jv 4) (jpj jaA) (λ_ _=>rfl)) (by exact(jac (jv 0) jaa)))) (jix (jv 4) (jop jcv (jv 2) jaA) (λ_ _=>rfl)) (jaw _))))))))))))))))) ?_
 intro ds h Q q
 obtain⟨U,T,n,b,L,J,e,hU,hb,h1,h6,hT,co,hL,q⟩:=q
 subst e
 have lt:=co.lt
 refine jak (λσ' h' =>σ' = [some (jah U),some (.tup [.int (((J:Nat):Int)+1),.int (((L:Nat):Int)-((J:Nat):Int)),.tup ((List.range L).map λi=>jah (jat n T i))]),none,none,none]/\h=h') (λC hC=>⟨_,rfl,U,n,b,rfl,hU,h1,h6,hC _ _ ⟨rfl,rfl⟩⟩) ?_
 rintro _ _ ⟨rfl,rfl⟩
 refine jak (λσ' h' =>σ' = [some (jah U),some (.tup [.int (((J:Nat):Int)+1),.int (((L:Nat):Int)-((J:Nat):Int)),.tup ((List.range L).map λi=>jah (jat n T i))]),none,none,none]/\h=h') (λC hC=>⟨_,rfl,_,rfl,_,rfl,jdl ⟨_,rfl,_,rfl,jdl (hC _ _ ⟨rfl,rfl⟩)⟩⟩) ?_
 rintro _ _ ⟨rfl,rfl⟩
 refine jak (λσ' h' =>σ' = [some (jah U),some (.tup [.int (((J:Nat):Int)+1),.int (((L:Nat):Int)-((J:Nat):Int)),.tup ((List.range L).map λi=>jah (jat n T i))]),some (.int (((J:Nat):Int)+1)),some (.int (((L:Nat):Int)-((J:Nat):Int))),some (.tup ((List.range L).map λi=>jah (jat n T i)))]/\h=h') (λC hC=> ?_) ?_
 ·exact⟨_,rfl,_,_,_,rfl,hC _ _ ⟨rfl,rfl⟩⟩
 rintro _ _ ⟨rfl,rfl⟩
 refine jak (λσ' h' =>σ' = [some (jah U),some (.tup [.int (((J:Nat):Int)+1),.int (((L:Nat):Int)-((J:Nat):Int)),.tup ((List.range L).map λi=>jah (jat n T i))]),some (.int (((J:Nat):Int)+1)),some (.int (((L:Nat):Int)-((J:Nat):Int))),some (.tup ((List.range L).map λi=>jah (jat n T i)))]/\h=h') (λC hC=>⟨_,rfl,_,_,rfl,_,rfl,?_⟩) ?_
 ·rw [G0r (show (1:Int)<=((J:Nat):Int)+1 by omega)]
  refine jdl ⟨_,rfl,_,_,rfl,_,rfl,?_⟩
  rw [G0r (show (1:Int)<=((L:Nat):Int)-((J:Nat):Int) by omega)]
  exact jdl (hC _ _ ⟨rfl,rfl⟩)
 rintro _ _ ⟨rfl,rfl⟩
 have sqs: ∀M∈(List.range L).map (jat n T),Sq n 1 M:=λM hM=>by
  obtain⟨i,_,rfl⟩:=G0K.mp hM
  exact jbZ n T i
 have em:((List.range L).map λi=>jah (jat n T i))=((List.range L).map (jat n T)).map jah:=by rw [G0L];rfl
 have atR: ∀i,i<L->((List.range L).map λi=>jah (jat n T i))[i]? =some (jah (jat n T i)):=λi hi=>by rw [G0o,G05 hi];rfl
 refine jak (λσ' h' =>σ' = [some (jah U),some (.tup [.int (((J:Nat):Int)+1),.int (((L:Nat):Int)-((J:Nat):Int)),.tup ((List.range L).map λi=>jah (jat n T i))]),some (.int (((J:Nat):Int)+1)),some (.int (((L:Nat):Int)-((J:Nat):Int))),some (.tup ((List.range L).map λi=>jah (jat n T i)))]/\h=h') (λC hC=>⟨_,rfl,_,rfl,_,rfl,_,rfl,(List.range L).map (jat n T),n,?_,sqs,h1,h6,by rw [G0a,G0h];omega,co.nd,_,rfl,jdl (hC _ _ ⟨rfl,rfl⟩)⟩) ?_
 ·rw [G0a,hU.len,G0a,G0h,em,show ((J:Nat):Int)+1+(((L:Nat):Int)-((J:Nat):Int))-1=((L:Nat):Int) by omega]
 rintro _ _ ⟨rfl,rfl⟩
 refine jak (λσ' h' =>σ' = [some (jah U),some (.tup [.int (((J:Nat):Int)+1),.int (((L:Nat):Int)-((J:Nat):Int)),.tup ((List.range L).map λi=>jah (jat n T i))]),some (.int (((J:Nat):Int)+1)),some (.int (((L:Nat):Int)-((J:Nat):Int))),some (.tup ((List.range L).map λi=>jah (jat n T i)))]/\h=h' /\jai n U=jai n T) (λC hC=>⟨_,rfl,_,jb7 (j:=0) (atR 0 (by omega)),_,rfl,U,n,b,rfl,hU,h1,h6,jmc ⟨_,rfl,?_⟩⟩) ?_
 ·show if (!decide (jai n T=jai n U))=true then _ else _
  by_cases z:jai n U=jai n T
  ·rw [G0r z.symm]
   refine jdl ⟨_,rfl,_,rfl,U,(List.range L).map (jat n T),n,b,by rw [em],hU,hb,sqs,h1,h6,by rw [G0a,G0h];omega,λp hp=> ?_,_,rfl,jdl (hC _ _ ⟨rfl,rfl,z⟩)⟩
   rw [jgn (T:=U) (U:=T) hU hT (by omega) (sqs _ (G14 hp).1) z]
   obtain⟨i,hi,e⟩:=List.getElem_of_mem hp
   rw [G27,G1v,G0a,G0h] at hi
   rw [List.getElem_zip] at e
   rw [<-e]
   simp only [List.getElem_drop,List.getElem_map,G1n]
   rw [G3p 1 i]
   rfl
  ·rw [G0Q λw=>z w.symm]
   rw [G0Q z] at q
   exact jjn ⟨_,Sub.refl _,q⟩
 rintro _ _ ⟨rfl,rfl,z⟩
 rw [G0r z] at q
 refine⟨_,rfl,_,jj8 (by rw [G0a,G0h];omega) (by rw [G0a,G0h];exact atR (L-1) (by omega)),_,rfl,jat n T (L-1),U,n,b,rfl,jbZ n T _,hU,h1,h6,hb,_,rfl,_,rfl,_,?_,jnF (B:=jat n T J) ?_ ⟨_,Sub.refl _,q⟩⟩
 ·show atI ((List.range L).map λi=>jah (jat n T i)) (((J:Nat):Int)+1-1)=_
  rw [show ((J:Nat):Int)+1-1=((J:Nat):Int) by omega]
  exact jb7 (atR J lt)
 ·rw [jgn (T:=U) (U:=T) hU hT (by omega) (jbZ n T _) z,<-co.eq]
  show jat n T (L-1+1)=_
  rw [show L-1+1=L by omega]
def jdj:RDn:=λds h Q=> ∃ns k,ds= [.scr ns,.int k]/\0<=k/\ ∀n,Q (.int n) h
set_option maxHeartbeats 2000000 in
theorem jgp {n:Nat} {f:Addr} {fd:FuncData} (Z:Zs mg) (F:Fun K "_law_cell" "_law_cell" jcI f fd):FnOk P w K mg base CX0 (n+1) f fd ["_law_script","_law_k"] (LSp K jdj):=by
 refine F.okJ jgi (λds h Q q=>by obtain⟨ns,k,e,h0,q⟩:=q;subst e;rfl) _ (λcdv A outer s H E hr=>(jae (jd8 (jcs jlu (jv 1) (jaF jbe rfl Z.len G0M (jac (jv 0) jaa)) (jaw _)) (jaf (jbp (jix (jv 0) (jv 1) (λ_ _=>rfl)))) jaR) (by exact(jaf (jbp jaA))))) ?_
 intro ds h Q q
 obtain⟨ns,k,e,h0,q⟩:=q
 subst e
 simp only [jdm,Nxt,jd6,jec,jb4,jbt,ja4,dOp,jaJ,dIs,jd9,dCB,ja1,jc2,jee,jb5,dC,jbw,jaX,jef,jeg,jeh,jbx,jea,jeb,jbu,jed,jbv,dIf,dUn,jfy,dSl,jaz,jbI,jez,ja2,gN,gT2,jbH,je0,je1,jeA,jev,jfc,je2,jbU,je3,jd7,eqD,neD,eqE,neE,isV,isN,jej,jaC,jeF,jeG,jbJ,ixD,jew,jex,jey,jaI,jaW,jaQ,jbG,jeB,slD,jei,jaK,G0v,G0O,G0e,G0F,List.replicate,G0D,G0E,G0y,G0z,G0p,G0l,G0C,G0I,D.bl.injEq,D.lst.injEq]
 refine jjo (λc=> ?_) (λ_=>⟨h,Sub.refl h,q 0⟩)
 have c' :k<(ns.length:Int):=G2S c
 have hk:k.toNat<ns.length:=by omega
 have ek:k=((k.toNat:Nat):Int):=by omega
 have z:=jb7 (G0i hk)
 rw [<-ek] at z
 exact⟨ns[k.toNat],z,h,Sub.refl h,q _⟩
def jd5:RDn:=λds h Q=> ∃c,ds= [.int c]/\ ∀p l fl,h p=none->0<=l->(fl=0\/fl=1)->Q (.lst p) (jbs h p [.int l,.int fl])
set_option maxHeartbeats 2000000 in
theorem jhb {n:Nat} {f:Addr} {fd:FuncData} (Z:Zs mg) (F:Fun K "_law_pen" "_law_pen" jdd f fd):FnOk P w K mg base CX0 (n+1) f fd ["_law_cell_here"] (LSp K jd5):=by
 refine F.okJ sc__law_pen (λds h Q q=>by obtain⟨c,e,q⟩:=q;subst e;rfl) _ (λcdv A outer s H E hr=>(jae (jek (i:=1) sc__law_pen.nd rfl (Or.inl rfl) (jaF (jnm rfl) rfl Z.max (by decide +kernel) (jac (jv 0) (by exact(jac (jop jcv jaA (jv 0)) jaa))))) (by exact(jaf (jbp (jjq (jac (jv 1) (by exact(jac (jaU jkx rfl Z.int (by decide +kernel) (jac (jgE jjI (jv 1) (jop jkw jaA jaA) (jaw _)) jaa)) jaa))))))))) ?_
 intro ds h Q q
 obtain⟨c,e,q⟩:=q
 subst e
 simp only [jdm,Nxt,jd6,jec,jb4,jbt,ja4,dOp,jaJ,dIs,jd9,dCB,ja1,jc2,jee,jb5,dC,jbw,jaX,jef,jeg,jeh,jbx,jea,jeb,jbu,jed,jbv,dIf,dUn,jfy,dSl,jaz,jbI,jez,ja2,gN,gT2,jbH,je0,je1,jeA,jev,jfc,je2,jbU,je3,jd7,eqD,neD,eqE,neE,isV,isN,jej,jaC,jeF,jeG,jbJ,ixD,jew,jex,jey,jaI,jaW,jaQ,jbG,jeB,slD,jei,jaK,G0v,G0O,G0e,G0F,List.replicate,G0D,G0E,G0y,G0z,G0p,G0l,G0C,G0I,D.bl.injEq,D.lst.injEq]
 refine⟨⟨by decide,by decide,by decide⟩,by decide,λp hp=>⟨_,Sub.refl _,q p _ _ hp ?_ ?_⟩⟩
 ·split<;>omega
 ·split<;>simp<;>omega
def jbq:RDn:=λds h Q=> ∃p l fl m,ds= [.lst p,.int m]/\h p=some [.int l,.int fl]/\0<=l/\0<m/\m<2^200/\ ∀r l',0<=r->r<m->0<=l' ->Q (.int r) (jbs h p [.int l',.int fl])
set_option maxHeartbeats 2000000 in
theorem jgq {n:Nat} {f:Addr} {fd:FuncData} (Z:Zs mg) (F:Fun K "_law_draw" "_law_draw" jcJ f fd):FnOk P w K mg base CX0 (n+1) f fd ["_law_pen_here","_law_many"] (LSp K jbq):=by
 refine F.okJ sc__law_draw (λds h Q q=>by obtain⟨p,l,fl,m,e,hp,h0,hm,hm2,q⟩:=q;subst e;rfl) _ (λcdv A outer s H E hr=>(jae (jd8 (jcs oq_eq (jix (jv 0) jaA (λ_ _=>rfl)) jaA (jaw _)) (jae (jkz (jaF jhH rfl Z.divmod (by decide +kernel) (jac (jix (jv 0) jaA (λ_ _=>rfl)) (by exact(jac (jv 1) jaa)))) (jfX (i:=2) (j:=3) rfl sc__law_draw.nd rfl rfl (Or.inl rfl) (Or.inl rfl))) (by exact(jae (jkz (jv 2) (jkA (jv 0) jaA)) (by exact(jaf (jbp (jv 3))))))) jaR) (by exact(jae (jek (i:=4) sc__law_draw.nd rfl (Or.inl rfl) (jop jdh (jop je8 (jop jbF (jop jdh (jix (jv 0) jaA (λ_ _=>rfl)) jaA) jaA) jaA) jaA)) (by exact(jae (jek (i:=4) sc__law_draw.nd rfl (Or.inl rfl) (jop jdh (jop jbF (jop je8 (jv 4) (jv 4)) jaA) jaA)) (by exact(jae (jkz (jop jdh (jop jbF (jop je8 (jv 4) jaA) jaA) jaA) (jkA (jv 0) jaA)) (by exact(jaf (jbp (jop jdh (jop jlt (jix (jv 0) jaA (λ_ _=>rfl)) jaA) (jv 1))))))))))))) ?_
 intro ds h Q q
 obtain⟨p,l,fl,m,e,hp,h0,hm,hm2,q⟩:=q
 subst e
 simp only [jdm,Nxt,jd6,jec,jb4,jbt,ja4,dOp,jaJ,dIs,jd9,dCB,ja1,jc2,jee,jb5,dC,jbw,jaX,jef,jeg,jeh,jbx,jea,jeb,jbu,jed,jbv,dIf,dUn,jfy,dSl,jaz,jbI,jez,ja2,gN,gT2,jbH,je0,je1,jeA,jev,jfc,je2,jbU,je3,jd7,eqD,neD,eqE,neE,isV,isN,jej,jaC,jeF,jeG,jbJ,ixD,jew,jex,jey,jaI,jaW,jaQ,jbG,jeB,slD,jei,jaK,G0v,G0O,G0e,G0F,List.replicate,G0D,G0E,G0y,G0z,G0p,G0l,G0C,G0I,D.bl.injEq,D.lst.injEq,hp]
 refine⟨_,_,rfl,rfl,?_⟩
 show if decide (fl=1)=true then _ else _
 refine jjo (λ_=> ?_) (λ_=> ?_)
 ·exact⟨_,_,rfl,rfl,_,_,rfl,⟨hm,hm2⟩,_,_,rfl,p,0,_,0,rfl,rfl,hp,rfl,_,Sub.refl _,q (l%m) (l / m) (G2d _ (by omega)) (G1P _ hm) (Int.ediv_nonneg h0 (by omega))⟩
 ·have b1:0<=l%2147483647/\l%2147483647<2147483647:=⟨G2d _ (by decide),G1P _ (by decide)⟩
  refine⟨_,_,rfl,rfl,by decide,.inr ⟨by decide,by decide⟩,by decide,?_⟩
  have b2: ∀z:Int,0<=z%2147483629/\z%2147483629<2147483629:=λz=>⟨G2d _ (by decide),G1P _ (by decide)⟩
  have b3: ∀z:Int,0<=z%2147483587/\z%2147483587<2147483587:=λz=>⟨G2d _ (by decide),G1P _ (by decide)⟩
  generalize (l%2147483647+40503)*69621=z1
  have c1:CMul (z1%2147483629) (z1%2147483629):=by
   have z:=b2 z1
   exact .inl ⟨by omega,by omega⟩
  generalize (z1%2147483629*(z1%2147483629)+7817)=z2
  generalize ((z2%2147483587)*48271+11)=z3
  have z:=b2 z3
  refine⟨c1,by decide,.inr ⟨by decide,by decide⟩,by decide,p,0,_,0,rfl,rfl,hp,rfl,_,_,jab,rfl,⟨by decide,by decide⟩,hm,_,Sub.refl _,?_⟩
  exact q (z3%2147483629 / 32%m) (z3%2147483629) (G2d _ (by omega)) (G1P _ hm) z.1
def jdk:RDn:=λds h Q=> ∃p l fl,ds= [.lst p]/\h p=some [.int l,.int fl]/\0<=l/\ ∀ (k:Nat) l',1<=k->k<=6->0<=l' ->Q (.int (k:Int)) (jbs h p [.int l',.int fl])
set_option maxHeartbeats 2000000 in
theorem jgr {n:Nat} {f:Addr} {fd:FuncData} (Z:Zs mg) (F:Fun K "_law_size" "_law_size" jcK f fd) (C__law_draw:jaj P w K mg base n "_law_draw" ["_law_pen_here","_law_many"] jbq):FnOk P w K mg base CX0 (n+1) f fd ["_law_pen_here"] (LSp K jdk):=by
 obtain⟨g_G__law_draw,gd_G__law_draw,G__law_draw,bG__law_draw,kG__law_draw,mG__law_draw⟩:=C__law_draw
 refine F.okJ jgj (λds h Q q=>by obtain⟨p,l,fl,e,hp,h0,q⟩:=q;subst e;rfl) _ (λcdv A outer s H E hr=>(jaf (jbp (jix (jjq (jac jaA (by exact(jac jaA (by exact(jac jaA (by exact(jac jaA (by exact(jac jaA (by exact(jac jaA (by exact(jac jaA (by exact(jac jaA (by exact(jac jaA (by exact(jac jaA (by exact(jac jaA (by exact(jac jaA jaa)))))))))))))))))))))))) (jan G__law_draw hr rfl mG__law_draw kG__law_draw bG__law_draw (jac (jv 0) (by exact(jac jaA jaa)))) (λ_ _=>rfl))))) ?_
 intro ds h Q q
 obtain⟨p,l,fl,e,hp,h0,q⟩:=q
 subst e
 simp only [jdm,Nxt,jd6,jec,jb4,jbt,ja4,dOp,jaJ,dIs,jd9,dCB,ja1,jc2,jee,jb5,dC,jbw,jaX,jef,jeg,jeh,jbx,jea,jeb,jbu,jed,jbv,dIf,dUn,jfy,dSl,jaz,jbI,jez,ja2,gN,gT2,jbH,je0,je1,jeA,jev,jfc,je2,jbU,je3,jd7,eqD,neD,eqE,neE,isV,isN,jej,jaC,jeF,jeG,jbJ,ixD,jew,jex,jey,jaI,jaW,jaQ,jbG,jeB,slD,jei,jaK,G0v,G0O,G0e,G0F,List.replicate,G0D,G0E,G0y,G0z,G0p,G0l,G0C,G0I,D.bl.injEq,D.lst.injEq,hp]
 refine⟨by decide,λp1 e1=>⟨p,l,fl,12,rfl,jaM hp e1,h0,by decide,by decide,λr l' r0 r1 l0=> ?_⟩⟩
 obtain⟨d,hd,ed⟩:=jgB (xs:= [D.int 1,D.int 2,D.int 3,D.int 4,D.int 5,D.int 3,D.int 4,D.int 2,D.int 6,D.int 5,D.int 4,D.int 3]) r0 r1
 refine⟨_,d,jaq (jaH hp e1) jab,ed,_,Sub.both (Sub.newAt (Sub.refl h) e1),?_⟩
 have q' : ∀k:Nat,1<=k->k<=6->Q (.int (k:Int)) (jbs h p [.int l',.int fl]):=λk a b=>q k l' a b l0
 simp only [G0u,G04,G2U] at hd
 rcases hd with e|e|e|e|e|e|e|e|e|e|e|e<;>subst e
 ·exact q' 1 (by decide) (by decide)
 ·exact q' 2 (by decide) (by decide)
 ·exact q' 3 (by decide) (by decide)
 ·exact q' 4 (by decide) (by decide)
 ·exact q' 5 (by decide) (by decide)
 ·exact q' 3 (by decide) (by decide)
 ·exact q' 4 (by decide) (by decide)
 ·exact q' 2 (by decide) (by decide)
 ·exact q' 6 (by decide) (by decide)
 ·exact q' 5 (by decide) (by decide)
 ·exact q' 4 (by decide) (by decide)
 ·exact q' 3 (by decide) (by decide)
def jcX:RDn:=λds h Q=> ∃p l fl,∃k:Nat,ds= [.lst p,.int (k:Int)]/\h p=some [.int l,.int fl]/\0<=l/\1<=k/\k<=6/\ ∀T l',GoodTab k T->0<=l' ->Q (jah T) (jbs h p [.int l',.int fl])
set_option maxHeartbeats 2000000 in
theorem jfw {n:Nat} {f:Addr} {fd:FuncData} (Z:Zs mg) (F:Fun K "_law_table" "_law_table" jci f fd) (C__law_draw:jaj P w K mg base n "_law_draw" ["_law_pen_here","_law_many"] jbq):FnOk P w K mg base CX0 (n+1) f fd ["_law_pen_here","_law_size_here"] (LSp K jcX):=by
 obtain⟨g_G__law_draw,gd_G__law_draw,G__law_draw,bG__law_draw,kG__law_draw,mG__law_draw⟩:=C__law_draw
 refine F.okJ sc__law_table (λds h Q q=>by obtain⟨p,l,fl,k,e,hp,h0,hk1,hk6,q⟩:=q;subst e;rfl) _ (λcdv A outer s H E hr=>(jae (jpT (i:=2) (j:=3) rfl sc__law_table.nd rfl rfl (by decide) rfl rfl (jac (jan G__law_draw hr rfl mG__law_draw kG__law_draw bG__law_draw (jac (jv 0) (by exact(jac jaA jaa)))) (by exact(jac (jix (jjq (jac jaA (by exact(jac jaA (by exact(jac jaA jaa)))))) (jan G__law_draw hr rfl mG__law_draw kG__law_draw bG__law_draw (jac (jv 0) (by exact(jac jaA jaa)))) (λ_ _=>rfl)) jaa))) rfl) (by exact(jae (jek (i:=4) sc__law_table.nd rfl (Or.inl rfl) (jix (jjq (jac jaA (by exact(jac jaA (by exact(jac jaA (by exact(jac (jop jkw jaA jaA) jaa)))))))) (jan G__law_draw hr rfl mG__law_draw kG__law_draw bG__law_draw (jac (jv 0) (by exact(jac jaA jaa)))) (λ_ _=>rfl))) (by exact(jae (jek (i:=5) sc__law_table.nd rfl (Or.inl rfl) (jjq jaa)) (by exact(jae (jnD G1T rfl (jfY rfl Z.range (jac (jv 1) jaa)) (jdM (i:=6) sc__law_table.nd rfl (Or.inl rfl)) (jae (jek (i:=7) sc__law_table.nd rfl (Or.inl rfl) (jjq jaa)) (by exact(jae (jnD G1T rfl (jfY rfl Z.range (jac (jv 1) jaa)) (jdM (i:=8) sc__law_table.nd rfl (Or.inl rfl)) (jae (jek (i:=9) sc__law_table.nd rfl (Or.inl rfl) (jgE oq_eq (jan G__law_draw hr rfl mG__law_draw kG__law_draw bG__law_draw (jac (jv 0) (by exact(jac (jv 3) jaa)))) jaA (jaw _))) (by exact(jae (jd8 (jcs jlu (jv 2) jaA (jaw _)) (jaf (jek (i:=9) sc__law_table.nd rfl (Or.inl rfl) (jor (jgE oq_eq (jv 8) (jop jdh (jop jbF (jv 6) jaA) (jv 1)) (jaw _)) (jhS (jjp (jv 9) (jhS (jgE (jeC hr.units) (jan G__law_draw hr rfl mG__law_draw kG__law_draw bG__law_draw (jac (jv 0) (by exact(jac jaA jaa)))) (jv 2) (jaw _)))))))) jaR) (by exact(jae (jd8 (jcs oq_eq (jv 2) jaA (jaw _)) (jaf (jek (i:=9) sc__law_table.nd rfl (Or.inl rfl) (jor (jjp (jv 9) (jhS (jgE oq_eq (jop jdh (jop jcv (jv 8) (jv 6)) jaA) jaA (jaw _)))) (jhS (jgE (jeC hr.units) (jv 8) (jop jbF (jv 6) jaA) (jaw _)))))) jaR) (by exact(jae (jd8 (jcs oq_eq (jv 2) jaA (jaw _)) (jaf (jek (i:=9) sc__law_table.nd rfl (Or.inl rfl) (jjp (jv 9) (jhS (jgE jjI (jv 8) (jv 6) (jaw _)))))) jaR) (by exact(jaf (jdL (joN (jv 7) (jop je8 (jaU jkx rfl Z.int (by decide +kernel) (jac (jv 9) jaa)) (jop jbF jaA (jan G__law_draw hr rfl mG__law_draw kG__law_draw bG__law_draw (jac (jv 0) (by exact(jac (jv 4) jaa)))))))))))))))))) (by exact(jaf (jdL (joN (jv 5) (jaU cq_tuple rfl Z.tuple (by decide +kernel) (jac (jv 7) jaa)))))))))) (by exact(jaf (jbp (jaU cq_tuple rfl Z.tuple (by decide +kernel) (jac (jv 5) jaa))))))))))))) ?_
 intro ds h Q q
 obtain⟨p,l,fl,k,e,hp,h0,hk1,hk6,q⟩:=q
 subst e
 refine jak (λσ' h' => ∃way o l2,σ' = [some (.lst p),some (.int (k:Int)),some (.int way),some (.int o),none,none,none,none,none,none]/\0<o/\o<1000/\0<=l2/\h' p=some [.int l2,.int fl]/\But p h h') (λC hC=> ?_) (λσ' h' hV=> ?_)
 ·simp only [jdm,Nxt,jd6,jec,jb4,jbt,ja4,dOp,jaJ,dIs,jd9,dCB,ja1,jc2,jee,jb5,dC,jbw,jaX,jef,jeg,jeh,jbx,jea,jeb,jbu,jed,jbv,dIf,dUn,jfy,dSl,jaz,jbI,jez,ja2,gN,gT2,jbH,je0,je1,jeA,jev,jfc,je2,jbU,je3,jd7,eqD,neD,eqE,neE,isV,isN,jej,jaC,jeF,jeG,jbJ,ixD,jew,jex,jey,jaI,jaW,jaQ,jbG,jeB,slD,jei,jaK,G0v,G0O,G0e,G0F,List.replicate,G0D,G0E,G0y,G0z,G0p,G0l,G0C,G0I,D.bl.injEq,D.lst.injEq,hp]
  refine⟨p,l,fl,6,rfl,hp,h0,by decide,by decide,λway l1 w0 w1 l10=> ?_⟩
  refine⟨by decide,λp1 e1=>⟨p,l1,fl,3,rfl,jaM jab e1,l10,by decide,by decide,λr l2 r0 r1 l20=> ?_⟩⟩
  obtain⟨oft,ho,eo⟩:=jgB (xs:= [D.int 2,D.int 3,D.int 5]) r0 r1
  refine⟨_,oft,jaq (jaH jab e1) jab,eo,?_⟩
  obtain⟨o,e,o1,o2⟩: ∃o:Int,oft= .int o/\0<o/\o<1000:=by
   simp only [G0u,G04,G2U] at ho
   rcases ho with e|e|e<;>exact⟨_,e,by decide,by decide⟩
  subst e
  exact⟨_,_,rfl,hC _ _ ⟨way,o,l2,rfl,o1,o2,l20,jab,((But.upd).new e1).put⟩⟩
 obtain⟨way,o,l2,e,o1,o2,l20,kA,bA⟩:=hV
 subst e
 refine jak (λσ' h' => ∃m l3,σ' = [some (.lst p),some (.int (k:Int)),some (.int way),some (.int o),some (.int m),none,none,none,none,none]/\0<m/\m<=1000000/\0<=l3/\h' p=some [.int l3,.int fl]/\But p h h') (λC hC=> ?_) (λσ' h' hV=> ?_)
 ·simp only [jdm,Nxt,jd6,jec,jb4,jbt,ja4,dOp,jaJ,dIs,jd9,dCB,ja1,jc2,jee,jb5,dC,jbw,jaX,jef,jeg,jeh,jbx,jea,jeb,jbu,jed,jbv,dIf,dUn,jfy,dSl,jaz,jbI,jez,ja2,gN,gT2,jbH,je0,je1,jeA,jev,jfc,je2,jbU,je3,jd7,eqD,neD,eqE,neE,isV,isN,jej,jaC,jeF,jeG,jbJ,ixD,jew,jex,jey,jaI,jaW,jaQ,jbG,jeB,slD,jei,jaK,G0v,G0O,G0e,G0F,List.replicate,G0D,G0E,G0y,G0z,G0p,G0l,G0C,G0I,D.bl.injEq,D.lst.injEq]
  refine⟨⟨by decide,by decide,by decide⟩,by decide,λp1 e1=>⟨p,l2,fl,4,rfl,jaM kA e1,l20,by decide,by decide,λr l3 r0 r1 l30=> ?_⟩⟩
  obtain⟨most,ho,eo⟩:=jgB (xs:= [D.int 1,D.int 1,D.int 3,D.int (10^Int.toNat 6)]) r0 r1
  refine⟨_,most,jaq (jaH kA e1) jab,eo,?_⟩
  obtain⟨m,e,o1,o2⟩: ∃o:Int,most= .int o/\0<o/\o<=1000000:=by
   simp only [G0u,G04,G2U] at ho
   rcases ho with e|e|e|e<;>exact⟨_,e,by decide,by decide⟩
  subst e
  exact hC _ _ ⟨m,l3,rfl,o1,o2,l30,jab,(bA.new e1).put⟩
 obtain⟨m,l3,e,m1,m2,l30,kB,bB⟩:=hV
 subst e
 refine jak (λσ' h' => ∃R,σ' = [some (.lst p),some (.int (k:Int)),some (.int way),some (.int o),some (.int m),some (.lst R),none,none,none,none]/\R≠p/\h R=none/\h' R=some []/\h' p=some [.int l3,.int fl]/\But p h h') (λC hC=> ?_) (λσ' h' hV=> ?_)
 ·simp only [jdm,Nxt,jd6,jec,jb4,jbt,ja4,dOp,jaJ,dIs,jd9,dCB,ja1,jc2,jee,jb5,dC,jbw,jaX,jef,jeg,jeh,jbx,jea,jeb,jbu,jed,jbv,dIf,dUn,jfy,dSl,jaz,jbI,jez,ja2,gN,gT2,jbH,je0,je1,jeA,jev,jfc,je2,jbU,je3,jd7,eqD,neD,eqE,neE,isV,isN,jej,jaC,jeF,jeG,jbJ,ixD,jew,jex,jey,jaI,jaW,jaQ,jbG,jeB,slD,jei,jaK,G0v,G0O,G0e,G0F,List.replicate,G0D,G0E,G0y,G0z,G0p,G0l,G0C,G0I,D.bl.injEq,D.lst.injEq]
  exact⟨by decide,λR eR=>hC _ _ ⟨R,rfl,jaH kB eR,jit bB eR (jaH kB eR),jab,jaM kB eR,bB.new eR⟩⟩
 obtain⟨R,e,nR,fR,kR,kC,bC⟩:=hV
 subst e
 refine jak (λσ' h' => ∃a b c d l4 rows,σ' = [some (.lst p),some (.int (k:Int)),some (.int way),some (.int o),some (.int m),some (.lst R),a,b,c,d]/\0<=l4/\h' p=some [.int l4,.int fl]/\h' R=some (rows.map jc3)/\But p h h' /\GoodTab k rows) (λC hC=> ?_) (λσ' h' hV=> ?_)
 rotate_left
 ·obtain⟨a,b,c,d,l4,rows,e,l40,kD,kE,bD,g⟩:=hV
  subst e
  simp only [jdm,Nxt,jd6,jec,jb4,jbt,ja4,dOp,jaJ,dIs,jd9,dCB,ja1,jc2,jee,jb5,dC,jbw,jaX,jef,jeg,jeh,jbx,jea,jeb,jbu,jed,jbv,dIf,dUn,jfy,dSl,jaz,jbI,jez,ja2,gN,gT2,jbH,je0,je1,jeA,jev,jfc,je2,jbU,je3,jd7,eqD,neD,eqE,neE,isV,isN,jej,jaC,jeF,jeG,jbJ,ixD,jew,jex,jey,jaI,jaW,jaQ,jbG,jeB,slD,jei,jaK,G0v,G0O,G0e,G0F,List.replicate,G0D,G0E,G0y,G0z,G0p,G0l,G0C,G0I,D.bl.injEq,D.lst.injEq]
  exact⟨_,kE,_,bD.sub kD,q rows l4 g l40⟩
 refine jgC k (λi σ' h' => ∃a b c d l4 rows,σ' = [some (.lst p),some (.int (k:Int)),some (.int way),some (.int o),some (.int m),some (.lst R),a,b,c,d]/\0<=l4/\h' p=some [.int l4,.int fl]/\h' R=some (rows.map jc3)/\But p h h' /\rows.length=i/\ ∀r∈rows,jfb k r) (by omega) (λR' r=>⟨_,rfl,r⟩)
  ⟨none,none,none,none,l3,[],rfl,l30,kC,kR,bC,rfl,λr hr=>nomatch hr⟩ (λσ' h' ⟨a,b,c,d,l4,rows,e,l40,kD,kE,bD,g1,g2⟩=>hC _ _ ⟨a,b,c,d,l4,rows,e,l40,kD,kE,bD,g1,g2⟩) ?_
 rintro i σ' h' hi ⟨a,b,c,d,l4,rows,e,l40,kD,kE,bD,g1,g2⟩
 subst e
 show jdm _ _ _ [some (.lst p),some (.int (k:Int)),some (.int way),some (.int o),some (.int m),some (.lst R),some (.int (i:Int)),b,c,d] h'
 refine jak (λσ' h' => ∃S,σ' = [some (.lst p),some (.int (k:Int)),some (.int way),some (.int o),some (.int m),some (.lst R),some (.int (i:Int)),some (.lst S),c,d]/\S≠p/\S≠R/\h S=none/\h' S=some []/\h' p=some [.int l4,.int fl]/\h' R=some (rows.map jc3)/\But p h h') (λC hC=> ?_) (λσ' h' hV=> ?_)
 ·simp only [jdm,Nxt,jd6,jec,jb4,jbt,ja4,dOp,jaJ,dIs,jd9,dCB,ja1,jc2,jee,jb5,dC,jbw,jaX,jef,jeg,jeh,jbx,jea,jeb,jbu,jed,jbv,dIf,dUn,jfy,dSl,jaz,jbI,jez,ja2,gN,gT2,jbH,je0,je1,jeA,jev,jfc,je2,jbU,je3,jd7,eqD,neD,eqE,neE,isV,isN,jej,jaC,jeF,jeG,jbJ,ixD,jew,jex,jey,jaI,jaW,jaQ,jbG,jeB,slD,jei,jaK,G0v,G0O,G0e,G0F,List.replicate,G0D,G0E,G0y,G0z,G0p,G0l,G0C,G0I,D.bl.injEq,D.lst.injEq]
  exact⟨by decide,λS eS=>hC _ _ ⟨S,rfl,jaH kD eS,jaH kE eS,jit bD eS (jaH kD eS),jab,jaM kD eS,jaM kE eS,bD.new eS⟩⟩
 obtain⟨S,e,nS,nSR,fS,kS,kD,kE,bD⟩:=hV
 subst e
 refine jak (λσ' h' => ∃c d l5 row,σ' = [some (.lst p),some (.int (k:Int)),some (.int way),some (.int o),some (.int m),some (.lst R),some (.int (i:Int)),some (.lst S),c,d]/\0<=l5/\h' p=some [.int l5,.int fl]/\h' R=some (rows.map jc3)/\h' S=some (row.map D.int)/\But p h h' /\jfb k row) (λC hC=> ?_) (λσ' h' hV=> ?_)
 rotate_left
 ·obtain⟨c,d,l5,row,e,l50,kD,kE,kF,bD,g⟩:=hV
  subst e
  simp only [jdm,Nxt,jd6,jec,jb4,jbt,ja4,dOp,jaJ,dIs,jd9,dCB,ja1,jc2,jee,jb5,dC,jbw,jaX,jef,jeg,jeh,jbx,jea,jeb,jbu,jed,jbv,dIf,dUn,jfy,dSl,jaz,jbI,jez,ja2,gN,gT2,jbH,je0,je1,jeA,jev,jfc,je2,jbU,je3,jd7,eqD,neD,eqE,neE,isV,isN,jej,jaC,jeF,jeG,jbJ,ixD,jew,jex,jey,jaI,jaW,jaQ,jbG,jeB,slD,jei,jaK,G0v,G0O,G0e,G0F,List.replicate,G0D,G0E,G0y,G0z,G0p,G0l,G0C,G0I,D.bl.injEq,D.lst.injEq]
  refine⟨_,kF,_,kE,?_,_,Sub.refl _,by omega,_,_,_,_,l5,rows++ [row],rfl,l50,jaq (Ne.symm nR) kD,?_,bD.putNew fR,by simp [g1],?_⟩
  ·rw [G0a];exact G1O (show rows.length<=1000 by omega) (by decide)
  ·rw [jab,G1m];rfl
  ·intro r hr
   rcases G1a.mp hr with z|z
   ·exact g2 r z
   ·rw [G0x.mp z];exact g
 refine jgC k (λj σ' h' => ∃c d l5 row,σ' = [some (.lst p),some (.int (k:Int)),some (.int way),some (.int o),some (.int m),some (.lst R),some (.int (i:Int)),some (.lst S),c,d]/\0<=l5/\h' p=some [.int l5,.int fl]/\h' R=some (rows.map jc3)/\h' S=some (row.map D.int)/\But p h h' /\row.length=j/\ ∀x∈row,0<=x/\x<=1000000) (by omega) (λR' r=>⟨_,rfl,r⟩)
  ⟨_,_,l4,[],rfl,l40,kD,kE,kS,bD,rfl,λr hr=>nomatch hr⟩ (λσ' h' ⟨c,d,l5,row,e,l50,kD,kE,kF,bD,g1,g2⟩=>hC _ _ ⟨c,d,l5,row,e,l50,kD,kE,kF,bD,g1,g2⟩) ?_
 rintro j σ' h' hj ⟨c,d,l5,row,e,l50,kD,kE,kF,bD,g1',g2'⟩
 subst e
 show jdm _ _ _ [some (.lst p),some (.int (k:Int)),some (.int way),some (.int o),some (.int m),some (.lst R),some (.int (i:Int)),some (.lst S),some (.int (j:Int)),d] h'
 refine jak (λσ' h' => ∃ (g:Bool) (l6:Int),σ' = [some (.lst p),some (.int (k:Int)),some (.int way),some (.int o),some (.int m),some (.lst R),some (.int (i:Int)),some (.lst S),some (.int (j:Int)),some (.bl g)]/\0<=l6/\h' p=some [.int l6,.int fl]/\h' R=some (rows.map jc3)/\h' S=some (row.map D.int)/\But p h h') (λC hC=> ?_) (λσ' h' hV=> ?_)
 ·simp only [jdm,Nxt,jd6,jec,jb4,jbt,ja4,dOp,jaJ,dIs,jd9,dCB,ja1,jc2,jee,jb5,dC,jbw,jaX,jef,jeg,jeh,jbx,jea,jeb,jbu,jed,jbv,dIf,dUn,jfy,dSl,jaz,jbI,jez,ja2,gN,gT2,jbH,je0,je1,jeA,jev,jfc,je2,jbU,je3,jd7,eqD,neD,eqE,neE,isV,isN,jej,jaC,jeF,jeG,jbJ,ixD,jew,jex,jey,jaI,jaW,jaQ,jbG,jeB,slD,jei,jaK,G0v,G0O,G0e,G0F,List.replicate,G0D,G0E,G0y,G0z,G0p,G0l,G0C,G0I,D.bl.injEq,D.lst.injEq]
  exact⟨p,l5,fl,o,rfl,kD,l50,o1,by omega,λr l6 r0 r1 l60=>hC _ _ ⟨_,l6,rfl,l60,jab,jaq nR kE,jaq nS kF,bD.put⟩⟩
 obtain⟨g,l6,e,l60,kD,kE,kF,bD⟩:=hV
 subst e
 refine jak (λσ' h' => ∃ (g:Bool) (l6:Int),σ' = [some (.lst p),some (.int (k:Int)),some (.int way),some (.int o),some (.int m),some (.lst R),some (.int (i:Int)),some (.lst S),some (.int (j:Int)),some (.bl g)]/\0<=l6/\h' p=some [.int l6,.int fl]/\h' R=some (rows.map jc3)/\h' S=some (row.map D.int)/\But p h h') (λC hC=> ?_) (λσ' h' hV=> ?_)
 ·simp only [jdm,Nxt,jd6,jec,jb4,jbt,ja4,dOp,jaJ,dIs,jd9,dCB,ja1,jc2,jee,jb5,dC,jbw,jaX,jef,jeg,jeh,jbx,jea,jeb,jbu,jed,jbv,dIf,dUn,jfy,dSl,jaz,jbI,jez,ja2,gN,gT2,jbH,je0,je1,jeA,jev,jfc,je2,jbU,je3,jd7,eqD,neD,eqE,neE,isV,isN,jej,jaC,jeF,jeG,jbJ,ixD,jew,jex,jey,jaI,jaW,jaQ,jbG,jeB,slD,jei,jaK,G0v,G0O,G0e,G0F,List.replicate,G0D,G0E,G0y,G0z,G0p,G0l,G0C,G0I,D.bl.injEq,D.lst.injEq]
  refine jjo (λ_=> ?_) (λ_=>hC _ _ ⟨g,l6,rfl,l60,kD,kE,kF,bD⟩)
  refine⟨by omega,?_⟩
  refine jjo (λ_=>hC _ _ ⟨_,l6,rfl,l60,kD,kE,kF,bD⟩) (λ_=> ?_)
  refine jjo (λ_=> ?_) (λ_=>hC _ _ ⟨_,l6,rfl,l60,kD,kE,kF,bD⟩)
  exact⟨p,l6,fl,2,rfl,kD,l60,by decide,by decide,λr l7 r0 r1 l70=>hC _ _ ⟨_,l7,rfl,l70,jab,jaq nR kE,jaq nS kF,bD.put⟩⟩
 obtain⟨g,l6,e,l60,kD,kE,kF,bD⟩:=hV
 subst e
 refine jak (λσ' h' => ∃ (g:Bool) (l6:Int),σ' = [some (.lst p),some (.int (k:Int)),some (.int way),some (.int o),some (.int m),some (.lst R),some (.int (i:Int)),some (.lst S),some (.int (j:Int)),some (.bl g)]/\0<=l6/\h' p=some [.int l6,.int fl]/\h' R=some (rows.map jc3)/\h' S=some (row.map D.int)/\But p h h') (λC hC=> ?_) (λσ' h' hV=> ?_)
 ·simp only [jdm,Nxt,jd6,jec,jb4,jbt,ja4,dOp,jaJ,dIs,jd9,dCB,ja1,jc2,jee,jb5,dC,jbw,jaX,jef,jeg,jeh,jbx,jea,jeb,jbu,jed,jbv,dIf,dUn,jfy,dSl,jaz,jbI,jez,ja2,gN,gT2,jbH,je0,je1,jeA,jev,jfc,je2,jbU,je3,jd7,eqD,neD,eqE,neE,isV,isN,jej,jaC,jeF,jeG,jbJ,ixD,jew,jex,jey,jaI,jaW,jaQ,jbG,jeB,slD,jei,jaK,G0v,G0O,G0e,G0F,List.replicate,G0D,G0E,G0y,G0z,G0p,G0l,G0C,G0I,D.bl.injEq,D.lst.injEq]
  refine jjo (λ_=> ?_) (λ_=>hC _ _ ⟨g,l6,rfl,l60,kD,kE,kF,bD⟩)
  cases g
  ·exact hC _ _ ⟨_,l6,rfl,l60,kD,kE,kF,bD⟩
  ·refine⟨by decide,?_⟩
   refine jjo (λ_=>hC _ _ ⟨_,l6,rfl,l60,kD,kE,kF,bD⟩) (λ_=>hC _ _ ⟨_,l6,rfl,l60,kD,kE,kF,bD⟩)
 obtain⟨g,l6,e,l60,kD,kE,kF,bD⟩:=hV
 subst e
 refine jak (λσ' h' => ∃ (g:Bool) (l6:Int),σ' = [some (.lst p),some (.int (k:Int)),some (.int way),some (.int o),some (.int m),some (.lst R),some (.int (i:Int)),some (.lst S),some (.int (j:Int)),some (.bl g)]/\0<=l6/\h' p=some [.int l6,.int fl]/\h' R=some (rows.map jc3)/\h' S=some (row.map D.int)/\But p h h') (λC hC=> ?_) (λσ' h' hV=> ?_)
 ·simp only [jdm,Nxt,jd6,jec,jb4,jbt,ja4,dOp,jaJ,dIs,jd9,dCB,ja1,jc2,jee,jb5,dC,jbw,jaX,jef,jeg,jeh,jbx,jea,jeb,jbu,jed,jbv,dIf,dUn,jfy,dSl,jaz,jbI,jez,ja2,gN,gT2,jbH,je0,je1,jeA,jev,jfc,je2,jbU,je3,jd7,eqD,neD,eqE,neE,isV,isN,jej,jaC,jeF,jeG,jbJ,ixD,jew,jex,jey,jaI,jaW,jaQ,jbG,jeB,slD,jei,jaK,G0v,G0O,G0e,G0F,List.replicate,G0D,G0E,G0y,G0z,G0p,G0l,G0C,G0I,D.bl.injEq,D.lst.injEq]
  refine jjo (λ_=> ?_) (λ_=>hC _ _ ⟨g,l6,rfl,l60,kD,kE,kF,bD⟩)
  cases g
  ·exact hC _ _ ⟨_,l6,rfl,l60,kD,kE,kF,bD⟩
  ·exact hC _ _ ⟨_,l6,rfl,l60,kD,kE,kF,bD⟩
 obtain⟨g,l6,e,l60,kD,kE,kF,bD⟩:=hV
 subst e
 simp only [jdm,Nxt,jd6,jec,jb4,jbt,ja4,dOp,jaJ,dIs,jd9,dCB,ja1,jc2,jee,jb5,dC,jbw,jaX,jef,jeg,jeh,jbx,jea,jeb,jbu,jed,jbv,dIf,dUn,jfy,dSl,jaz,jbI,jez,ja2,gN,gT2,jbH,je0,je1,jeA,jev,jfc,je2,jbU,je3,jd7,eqD,neD,eqE,neE,isV,isN,jej,jaC,jeF,jeG,jbJ,ixD,jew,jex,jey,jaI,jaW,jaQ,jbG,jeB,slD,jei,jaK,G0v,G0O,G0e,G0F,List.replicate,G0D,G0E,G0y,G0z,G0p,G0l,G0C,G0I,D.bl.injEq,D.lst.injEq]
 refine⟨p,l6,fl,m,rfl,kD,l60,m1,by omega,λr l7 r0 r1 l70=> ?_⟩
 have gi: ∀x:Int,(0<=x/\x<=1)->CMul x (1+r)/\0<=x*(1+r)/\x*(1+r)<=1000000:=λx hx=>by
  have:x=0\/x=1:=by omega
  rcases this with e|e<;>subst e
  ·exact⟨.inl ⟨by decide,by decide⟩,by omega,by omega⟩
  ·exact⟨.inl ⟨by decide,by decide⟩,by omega,by omega⟩
 have gg:=gi (if g=true then 1 else 0) (by cases g<;>decide)
 refine⟨gg.1,_,jaq nS kF,?_,_,Sub.refl _,by omega,_,_,l7,row++ [(if g=true then 1 else 0)*(1+r)],rfl,l70,jaq (Ne.symm nS) jab,jaq (Ne.symm nSR) (jaq nR kE),?_,(bD.put).putNew fS,by simp [g1'],?_⟩
 ·rw [G0a];exact G1O (show row.length<=1000 by omega) (by decide)
 ·rw [jab,G1m];rfl
 ·intro x hx
  rcases G1a.mp hx with z|z
  ·exact g2' x z
  ·rw [G0x.mp z];exact gg.2
def jcY:RDn:=λds h Q=> ∃p l fl,∃k:Nat,ds= [.lst p,.int (k:Int)]/\h p=some [.int l,.int fl]/\0<=l/\k<=6/\ ∀o l',Ordr k o->0<=l' ->Q (jgs o) (jbs h p [.int l',.int fl])
set_option maxHeartbeats 2000000 in
theorem jfx {n:Nat} {f:Addr} {fd:FuncData} (Z:Zs mg) (F:Fun K "_law_order" "_law_order" jcj f fd) (C__law_draw:jaj P w K mg base n "_law_draw" ["_law_pen_here","_law_many"] jbq):FnOk P w K mg base CX0 (n+1) f fd ["_law_pen_here","_law_many"] (LSp K jcY):=by
 obtain⟨g_G__law_draw,gd_G__law_draw,G__law_draw,bG__law_draw,kG__law_draw,mG__law_draw⟩:=C__law_draw
 refine F.okJ sc__law_order (λds h Q q=>by obtain⟨p,l,fl,k,e,hp,h0,hk,q⟩:=q;subst e;rfl) _ (λcdv A outer s H E hr=>(jae (jek (i:=2) sc__law_order.nd rfl (Or.inl rfl) (jjq jaa)) (by exact(jae (jnD G1T rfl (jfY rfl Z.range (jac (jv 1) jaa)) (jdM (i:=3) sc__law_order.nd rfl (Or.inl rfl)) (jaf (jdL (jpW (jv 2) (jan G__law_draw hr rfl mG__law_draw kG__law_draw bG__law_draw (jac (jv 0) (by exact(jac (jop jbF (jv 3) jaA) jaa)))) (jv 3))))) (by exact(jaf (jbp (jaU cq_tuple rfl Z.tuple (by decide +kernel) (jac (jv 2) jaa))))))))) ?_
 intro ds h Q q
 obtain⟨p,l,fl,k,e,hp,h0,hk,q⟩:=q
 subst e
 refine jak (λσ' h' => ∃R,σ' = [some (.lst p),some (.int (k:Int)),some (.lst R),none]/\R≠p/\h R=none/\h' R=some []/\h' p=some [.int l,.int fl]/\But p h h') (λC hC=> ?_) ?_
 ·exact⟨(by show 0<=sizeLine;decide),λR eR=>hC _ _ ⟨R,rfl,jaH hp eR,eR,jab,jaM hp eR,(But.refl p h).new eR⟩⟩
 rintro σ' h1 ⟨R,rfl,nR,fR,kR,kp,bt⟩
 refine jak (λσ' h' => ∃a l2 o,σ' = [some (.lst p),some (.int (k:Int)),some (.lst R),a]/\0<=l2/\Ordr k o/\h' R=some (o.map λ(i:Nat)=>D.int (i:Int))/\h' p=some [.int l2,.int fl]/\But p h h') (λC hC=> ?_) ?_
 ·refine jgC k (λi σ' h' => ∃a l2 o,σ' = [some (.lst p),some (.int (k:Int)),some (.lst R),a]/\0<=l2/\Ordr i o/\h' R=some (o.map λ(i:Nat)=>D.int (i:Int))/\h' p=some [.int l2,.int fl]/\But p h h') (by omega) (λR' r=>⟨_,rfl,r⟩) ⟨none,l,[],rfl,h0,List.Perm.nil,kR,kp,bt⟩ (λσ' h' z=>hC _ _ z) ?_
  rintro i _ h2 hi ⟨a,l2,o,rfl,l20,ho,kR2,kp2,bt2⟩
  refine⟨_,rfl,R,rfl,_,rfl,_,rfl,p,l2,fl,(i:Int)+1,rfl,kp2,l20,by omega,by omega,λr l3 r0 r1 l30=> ?_⟩
  have lo:o.length=i:=ho.ord.len
  refine⟨_,rfl,r.toNat,_,by rw [Int.toNat_of_nonneg r0],by omega,jaq nR kR2,?_,_,Sub.refl _,by omega,_,l3,o.take r.toNat++i::o.drop r.toNat,rfl,l30,ho.insert r.toNat,?_,jaq (Ne.symm nR) jab,(bt2.put).putNew fR⟩
  ·rw [G0a];exact G1O (show o.length<=1000 by omega) (by decide)
  ·rw [jab,G1m,G0v,G3j,G2V]
 rintro _ h3 ⟨a,l2,o,rfl,l20,ho,kR3,kp3,bt3⟩
 exact⟨_,rfl,_,kR3,_,bt3.sub kp3,q o l2 ho l20⟩
theorem jmd {n L:Nat} {T:List (List Int)} {h:HD} {A B:Addr} {Q:KD} (k:h A=some ((List.range L).map λi=>jah (jat n T i))) (k' :h B=some ((List.range L).map λi=>jah (jat n T i))) (q:Q (.bl false) h):neE (.lst A) (.lst B) h Q:=by
 have e: ∀Ts:List (List (List Int)),PyData.eqvAll (Ts.map jdp) (Ts.map jdp)=true:=λTs=>by
  induction Ts with
  |nil=>rfl
  |cons M Ts ih=>show (PyData.eqv (jdp M) (jdp M)&&_)=true;rw [jgI,ih];rfl
 have sh:SeqAt.shaped (jj7 n T L)=true:=by
  have:=jgL ((List.range L).map (jat n T))
  rwa [G0L] at this
 refine⟨_,_,jga k,jga k',sh,sh,?_⟩
 have:=e ((List.range L).map (jat n T))
 rw [G0L] at this
 rw [show PyData.eqv (jj7 n T L) (jj7 n T L)=true from this]
 exact q
theorem jme {a b:Int} {h:HD} {Q:KD} (q:Q (.bl false) h):neE (.tup [.int a,.int b]) (.tup [.int a,.int b]) h Q:=by
 refine⟨.tuple [.int a,.int b],.tuple [.int a,.int b],⟨_,rfl,_,_,rfl,rfl,_,_,rfl,rfl,rfl⟩,⟨_,rfl,_,_,rfl,rfl,_,_,rfl,rfl,rfl⟩,jeJ [a,b],jeJ [a,b],?_⟩
 have e:=jiK [a,b] [a,b]
 rw [G0r rfl] at e
 rw [show PyData.eqv (.tuple [.int a,.int b]) (.tuple [.int a,.int b])=true from e]
 exact q
theorem jnX {a:Bool} {h:HD} {Q:KD} (q:Q (.bl false) h):neE (.bl a) (.bl a) h Q:=by
 show Q _ h
 cases a<;>exact q
theorem jnY {r:RD2} {te tu:TED} {s1 s2:TSD} {E:EndsD} {σ:SD} {h:HD} (x:te σ h λa h1=>tu σ h1 λb h2=>r a b h2 λv h3=> ∃k,v= .bl k/\if k=true then s1 E σ h3 else s2 E σ h3):jd6 (ja4 (dOp r te tu)) s1 s2 E σ h:=x
theorem jkq {n e:Nat} {T:List (List Int)} (h:Sq n e T) (hn:n<=8) (i:Nat):jat n (jbL n T) i=jbL n (jat n T i):=by
 rw [jbh h.turn hn,jbh h hn,<-jhf h hn,jiT]
theorem jmf {n e:Nat} {o:List Nat} {T:List (List Int)} (h:Sq n e T) (ho:Ordr n o) (hn:n<=8) (i:Nat):jat n (jdo n o T) i=jdo n o (jat n T i):=by
 rw [jbh (h.ren ho.ord) hn,jbh h hn,<-jiE h ho hn,jkb λi hi=>jnP ho hi]
theorem jeR {n:Nat} {T U:List (List Int)} {L J:Nat} {f:List (List Int)->List (List Int)} (c:Course n T L J) (e: ∀i,jat n U i=f (jat n T i)) (inj: ∀i j,f (jat n T i)=f (jat n T j)->jat n T i=jat n T j):Course n U L J:=by
 refine⟨?_,c.lt,by rw [e,e,c.eq]⟩
 have nd:=c.nd
 unfold List.Nodup at nd ⊢
 rw [G08] at nd ⊢
 exact nd.imp λ{a b} ne w=>ne (inj a b (by rw [<-e,<-e];exact w))
theorem jjl {n e f:Nat} {o:List Nat} {A B:List (List Int)} (hA:Sq n e A) (hB:Sq n f B) (ho:Ordr n o) (w:jdo n o A=jdo n o B):A=B:=by
 refine hA.ext hB λi j hi hj=> ?_
 obtain⟨a1,a2⟩:=jiU ho hi
 obtain⟨b1,b2⟩:=jiU ho hj
 have:ent (jdo n o A) (o.getD i 0) (o.getD j 0)=ent (jdo n o B) (o.getD i 0) (o.getD j 0):=by rw [w]
 unfold jdo at this
 rw [ja3 a2 b2,ja3 a2 b2,a1,b1] at this
 exact this
set_option maxHeartbeats 2000000 in
theorem jnZ {n:Nat} {f:Addr} {fd:FuncData} (Z:Zs mg) (F:Fun K "law" "law" jhP f fd) (C__law_cell:jaj P w K mg base n "_law_cell" ["_law_script","_law_k"] jdj) (C__law_pen:jaj P w K mg base n "_law_pen" ["_law_cell_here"] jd5) (C__law_size:jaj P w K mg base n "_law_size" ["_law_pen_here"] jdk) (C__law_table:jaj P w K mg base n "_law_table" ["_law_pen_here","_law_size_here"] jcX) (C_round_of:jaj P w K mg base n "round_of" ["table"] jd3) (C_all_marks:jaj P w K mg base n "all_marks" ["table"] jdi) (C_calendar_holds:jaj P w K mg base n "calendar_holds" ["table","thing"] jbQ) (C_marks:jaj P w K mg base n "marks" ["table"] jcW) (C_marks_of:jaj P w K mg base n "marks_of" ["table","k"] jd4) (C_turned:jaj P w K mg base n "turned" ["table"] jgl) (C_renamed:jaj P w K mg base n "renamed" ["table","order"] jeQ) (C__law_order:jaj P w K mg base n "_law_order" ["_law_pen_here","_law_many"] jcY):FnOk P w K mg base CX0 (n+1) f fd ["_law_script"] (LSp K jir):=by
 obtain⟨g_G__law_cell,gd_G__law_cell,G__law_cell,bG__law_cell,kG__law_cell,mG__law_cell⟩:=C__law_cell
 obtain⟨g_G__law_pen,gd_G__law_pen,G__law_pen,bG__law_pen,kG__law_pen,mG__law_pen⟩:=C__law_pen
 obtain⟨g_G__law_size,gd_G__law_size,G__law_size,bG__law_size,kG__law_size,mG__law_size⟩:=C__law_size
 obtain⟨g_G__law_table,gd_G__law_table,G__law_table,bG__law_table,kG__law_table,mG__law_table⟩:=C__law_table
 obtain⟨g_G_round_of,gd_G_round_of,G_round_of,bG_round_of,kG_round_of,mG_round_of⟩:=C_round_of
 obtain⟨g_G_all_marks,gd_G_all_marks,G_all_marks,bG_all_marks,kG_all_marks,mG_all_marks⟩:=C_all_marks
 obtain⟨g_G_calendar_holds,gd_G_calendar_holds,G_calendar_holds,bG_calendar_holds,kG_calendar_holds,mG_calendar_holds⟩:=C_calendar_holds
 obtain⟨g_G_marks,gd_G_marks,G_marks,bG_marks,kG_marks,mG_marks⟩:=C_marks
 obtain⟨g_G_marks_of,gd_G_marks_of,G_marks_of,bG_marks_of,kG_marks_of,mG_marks_of⟩:=C_marks_of
 obtain⟨g_G_turned,gd_G_turned,G_turned,bG_turned,kG_turned,mG_turned⟩:=C_turned
 obtain⟨g_G_renamed,gd_G_renamed,G_renamed,bG_renamed,kG_renamed,mG_renamed⟩:=C_renamed
 obtain⟨g_G__law_order,gd_G__law_order,G__law_order,bG__law_order,kG__law_order,mG__law_order⟩:=C__law_order
 refine F.okJ sc_law (λds h Q q=>by obtain⟨ns,e,hh,hns,q⟩:=q;subst e;rfl) _ (λcdv A outer s H E hr=>(jae (jnD G1T rfl (jiw (jop jbF (jjq (jac (jan G__law_cell hr rfl mG__law_cell kG__law_cell bG__law_cell (jac (jv 0) (by exact(jac jaA jaa)))) jaa)) (jkB (jv 0) (jgG jaA) (jgG jaA)))) (jdM (i:=1) sc_law.nd rfl (Or.inl rfl)) (jae (jek (i:=2) sc_law.nd rfl (Or.inl rfl) (jan G__law_pen hr rfl mG__law_pen kG__law_pen bG__law_pen (jac (jv 1) jaa))) (by exact(jae (jek (i:=3) sc_law.nd rfl (Or.inl rfl) (jan G__law_size hr rfl mG__law_size kG__law_size bG__law_size (jac (jv 2) jaa))) (by exact(jae (jkz (jnC (jac (jan G__law_table hr rfl mG__law_table kG__law_table bG__law_table (jac (jv 2) (by exact(jac (jv 3) jaa)))) (by exact(jac (jan G__law_table hr rfl mG__law_table kG__law_table bG__law_table (jac (jv 2) (by exact(jac (jv 3) jaa)))) jaa)))) (jfX (i:=4) (j:=5) rfl sc_law.nd rfl rfl (by first|exact Or.inr rfl|exact Or.inl rfl) (Or.inl rfl))) (by exact(jae (jkz (jan G_round_of hr rfl mG_round_of kG_round_of bG_round_of (jac (jv 4) jaa)) (jfX (i:=6) (j:=7) rfl sc_law.nd rfl rfl (Or.inl rfl) (Or.inl rfl))) (by exact(jae (jek (i:=8) sc_law.nd rfl (Or.inl rfl) (jaU cq_tuple rfl Z.tuple (by decide +kernel) (jac (jan G_all_marks hr rfl mG_all_marks kG_all_marks bG_all_marks (jac (jv 4) jaa)) jaa))) (by exact(jae (jek (i:=9) sc_law.nd rfl (Or.inl rfl) (jnC (jac (jv 6) (by exact(jac (jv 7) (by exact(jac (jv 8) jaa))))))) (by exact(jae (jd8 (jpt (jlG (jcB (jcP (jan G_calendar_holds hr rfl mG_calendar_holds kG_calendar_holds bG_calendar_holds (jac (jv 4) (by exact(jac (jv 9) jaa)))))) (jlF (jcB (jcP (jan G_calendar_holds hr rfl mG_calendar_holds kG_calendar_holds bG_calendar_holds (jac (jan G_marks hr rfl mG_marks kG_marks bG_marks (jac (jv 4) jaa)) (by exact(jac (jv 9) jaa))))))))) (jaf (jbp jbl)) jaR) (by exact(jae (jd8 (jcs (jfU hr.units) (jan G_calendar_holds hr rfl mG_calendar_holds kG_calendar_holds bG_calendar_holds (jac (jv 5) (by exact(jac (jv 9) jaa)))) (jgE (jeC hr.units) (jan G_marks hr rfl mG_marks kG_marks bG_marks (jac (jv 5) jaa)) (jan G_marks hr rfl mG_marks kG_marks bG_marks (jac (jv 4) jaa)) (jaw _)) (jaw _)) (jaf (jbp jbl)) jaR) (by exact(jae (jd8 (jcs (jfU hr.units) (jlc (i:=11) (js:= [11]) rfl (jao (by rfl)) (jfY rfl Z.range (jac (jaF jbe rfl Z.len G0M (jac (jv 8) jaa)) jaa)) (by decide) sc_law.nd rfl (by first|exact Or.inl rfl|exact Or.inr rfl) (λX' hX=>jaS) (λX' hX=>by obtain⟨C,s₀,H₀,ex,rfl⟩:=hX;exact(jan G_marks_of hr rfl mG_marks_of kG_marks_of bG_marks_of (jac (jv 4) (by exact(jac (jop jbF (jv 11) jaA) jaa)))))) (jaU jlw rfl Z.list (by decide +kernel) (jac (jv 8) jaa)) (jaw _)) (jaf (jbp jbl)) jaR) (by exact(jae (jd8 (jcs (jfU hr.units) (jan G_marks_of hr rfl mG_marks_of kG_marks_of bG_marks_of (jac (jv 4) (by exact(jac (jop jbF (jv 6) (jv 7)) jaa)))) (jix (jv 8) (jop jcv (jv 6) jaA) (λ_ _=>rfl)) (jaw _)) (jaf (jbp jbl)) jaR) (by exact(jaf (jnD G1T rfl (jiw (jjq (jac (jan G_renamed hr rfl mG_renamed kG_renamed bG_renamed (jac (jv 4) (by exact(jac (jan G__law_order hr rfl mG__law_order kG__law_order bG__law_order (jac (jv 2) (by exact(jac (jv 3) jaa)))) jaa)))) (by exact(jac (jan G_turned hr rfl mG_turned kG_turned bG_turned (jac (jv 4) jaa)) jaa))))) (jdM (i:=10) sc_law.nd rfl (Or.inl rfl)) (jaf (jd8 (jcs (jfU hr.units) (jan G_round_of hr rfl mG_round_of kG_round_of bG_round_of (jac (jv 10) jaa)) (jnC (jac (jv 6) (by exact(jac (jv 7) jaa)))) (jaw _)) (jaf (jbp jbl)) jaR))))))))))))))))))))))))) (by exact(jaf (jbp jbl))))) ?_
 intro ds h Q q
 obtain⟨ns,e,hh,hns,q⟩:=q
 subst e
 refine jak (λσ' h' =>True) (λC hC=> ?_) (λσ' h3 hV=>⟨h3,Sub.refl _,q h3⟩)
 refine⟨_,rfl,ns,0,rfl,(by decide),λn0=>⟨(by show 1<=sizeLine;decide),λp1 e1=>⟨_,rfl,_,rfl,_,rfl,λp2 e2=>⟨_,_,jaM jab e2,jab,?_,λp3 e3=>⟨p3,rfl,?_⟩⟩⟩⟩⟩
 ·have:(jfQ ns (some 1) (some 4)).length<=ns.length:=by unfold jfQ;rw [List.length_take,List.length_drop];omega
  rw [G0a]
  exact G0X (jbk (by simp only [G0e,G0F];omega))
 generalize hcs:([D.int n0]++(jfQ ns (some 1) (some 4)).map D.int)=cs
 have hint: ∀d∈cs,∃c,d= .int c:=λd hd=>by
  rw [<-hcs] at hd
  rcases G1a.mp hd with z|z
  ·exact⟨n0,G0x.mp z⟩
  ·obtain⟨x,_,e⟩:=G0K.mp z;exact⟨x,e.symm⟩
 refine jfT cs (λi σ' h' => ∃a1 a2 a3 a4 a5 a6 a7 a8 a9 a10 a11,σ' = [some (.scr ns),a1,a2,a3,a4,a5,a6,a7,a8,a9,a10,a11]/\h' p3=some cs) (λi σ' h' ⟨_,_,_,_,_,_,_,_,_,_,_,_,k⟩=>k) ⟨_,_,_,_,_,_,_,_,_,_,_,rfl,jab⟩ (λσ' h' _=>hC _ _ True.intro) ?_
 rintro i d _ h4 hi ⟨b1,b2,b3,b4,b5,b6,b7,b8,b9,b10,b11,rfl,k3⟩
 obtain⟨c,rfl⟩:=hint d (G0W hi)
 have hil:i<cs.length:=(G0s.mp hi).1
 show jdm _ _ _ [some (.scr ns),some (.int c),b2,b3,b4,b5,b6,b7,b8,b9,b10,b11] h4
 refine jak (λσ' h' => ∃p l fl,σ' = [some (.scr ns),some (.int c),some (.lst p),b3,b4,b5,b6,b7,b8,b9,b10,b11]/\h' p=some [.int l,.int fl]/\0<=l/\h' p3=some cs/\p3≠p) (λC hC=> ?_) ?_
 ·refine⟨_,rfl,c,rfl,λp l fl ep l0 _=>hC _ _ ⟨p,l,fl,rfl,jab,l0,jaM k3 ep,Ne.symm (jaH k3 ep)⟩⟩
 rintro _ h5 ⟨p,l,fl,rfl,kp,l0,k3,n3⟩
 refine jak (λσ' h' => ∃ (n:Nat) (l2:Int),σ' = [some (.scr ns),some (.int c),some (.lst p),some (.int (n:Int)),b4,b5,b6,b7,b8,b9,b10,b11]/\1<=n/\n<=6/\h' p=some [.int l2,.int fl]/\0<=l2/\h' p3=some cs) (λC hC=>⟨_,rfl,p,l,fl,rfl,kp,l0,λn l2 n1 n6 l20=>hC _ _ ⟨n,l2,rfl,n1,n6,jab,l20,jaq n3 k3⟩⟩) ?_
 clear kp l0 k3
 rintro _ h6 ⟨n,l2,rfl,n1,n6,kp,l20,k3⟩
 refine jak (λσ' h' => ∃ (T U:List (List Int)) (l2:Int),σ' = [some (.scr ns),some (.int c),some (.lst p),some (.int (n:Int)),some (jah T),some (jah U),b6,b7,b8,b9,b10,b11]/\GoodTab n T/\GoodTab n U/\h' p=some [.int l2,.int fl]/\0<=l2/\h' p3=some cs) (λC hC=>⟨_,rfl,_,rfl,p,l2,fl,n,rfl,kp,l20,n1,n6,λT l3 gT l30=>⟨_,rfl,_,rfl,p,l3,fl,n,rfl,jab,l30,n1,n6,λU l4 gU l40=>⟨(by show 2<=sizeLine;decide),_,_,rfl,hC _ _ ⟨T,U,l4,rfl,gT,gU,jab,l40,jaq n3 (jaq n3 k3)⟩⟩⟩⟩) ?_
 clear kp l20 k3
 rintro _ h7 ⟨T,U,l2,rfl,gT,gU,kp,l20,k3⟩
 have hT:=gT.sq
 have hU:=gU.sq
 refine jak (λσ' h' => ∃L J:Nat,σ' = [some (.scr ns),some (.int c),some (.lst p),some (.int (n:Int)),some (jah T),some (jah U),some (.int (((J:Nat):Int)+1)),some (.int (((L:Nat):Int)-((J:Nat):Int))),b8,b9,b10,b11]/\Course n T L J/\h7=h') (λC hC=>⟨_,rfl,T,n,20,rfl,hT,n1,n6,by decide,λL J co hL=>⟨_,_,rfl,hC _ _ ⟨L,J,rfl,co,rfl⟩⟩⟩) ?_
 rintro _ _ ⟨L,J,rfl,co,rfl⟩
 have hL:=jgZ hT n1 n6 co.nd
 have lt:=co.lt
 refine jak (λσ' h' =>σ' = [some (.scr ns),some (.int c),some (.lst p),some (.int (n:Int)),some (jah T),some (jah U),some (.int (((J:Nat):Int)+1)),some (.int (((L:Nat):Int)-((J:Nat):Int))),some (.tup ((List.range L).map λi=>jah (jat n T i))),b9,b10,b11]/\Sub h7 h') (λC hC=>⟨_,rfl,T,n,20,rfl,hT,n1,n6,by decide,λA L2 J2 h' nA kA sb co2 hL2=> ?_⟩) ?_
 ·obtain⟨rfl,rfl⟩:=co.one co2
  exact⟨_,kA,hC _ _ ⟨rfl,sb⟩⟩
 rintro _ h8 ⟨rfl,sb8⟩
 have kp8:=sb8 _ _ kp
 have k38:=sb8 _ _ k3
 clear kp k3
 refine jak (λσ' h' =>σ' = [some (.scr ns),some (.int c),some (.lst p),some (.int (n:Int)),some (jah T),some (jah U),some (.int (((J:Nat):Int)+1)),some (.int (((L:Nat):Int)-((J:Nat):Int))),some (.tup ((List.range L).map λi=>jah (jat n T i))),some (.tup [.int (((J:Nat):Int)+1),.int (((L:Nat):Int)-((J:Nat):Int)),.tup ((List.range L).map λi=>jah (jat n T i))]),b10,b11]/\h8=h') (λC hC=>⟨_,rfl,_,rfl,_,rfl,(by show 3<=sizeLine;decide),hC _ _ ⟨rfl,rfl⟩⟩) ?_
 rintro _ _ ⟨rfl,rfl⟩
 have mm:jai n (jai n T)=jai n T:=jlT T
 refine jak (λσ' h' =>σ' = [some (.scr ns),some (.int c),some (.lst p),some (.int (n:Int)),some (jah T),some (jah U),some (.int (((J:Nat):Int)+1)),some (.int (((L:Nat):Int)-((J:Nat):Int))),some (.tup ((List.range L).map λi=>jah (jat n T i))),some (.tup [.int (((J:Nat):Int)+1),.int (((L:Nat):Int)-((J:Nat):Int)),.tup ((List.range L).map λi=>jah (jat n T i))]),b10,b11]/\h8=h') (λC hC=>⟨_,rfl,_,rfl,T,T,n,20,L,J,rfl,hT,by decide,n1,n6,hT,co,hL,_,rfl,?_⟩) ?_
 ·rw [G0r rfl]
  refine jdl ⟨_,rfl,T,n,20,rfl,hT,n1,n6,_,rfl,jai n T,T,n,20,L,J,rfl,(Sq.mark T).mono (by decide),by decide,n1,n6,hT,co,hL,_,rfl,?_⟩
  rw [G0r mm]
  exact jdl (hC _ _ ⟨rfl,rfl⟩)
 rintro _ _ ⟨rfl,rfl⟩
 refine jak (λσ' h' =>σ' = [some (.scr ns),some (.int c),some (.lst p),some (.int (n:Int)),some (jah T),some (jah U),some (.int (((J:Nat):Int)+1)),some (.int (((L:Nat):Int)-((J:Nat):Int))),some (.tup ((List.range L).map λi=>jah (jat n T i))),some (.tup [.int (((J:Nat):Int)+1),.int (((L:Nat):Int)-((J:Nat):Int)),.tup ((List.range L).map λi=>jah (jat n T i))]),b10,b11]/\h8=h') (λC hC=>⟨_,rfl,_,rfl,U,T,n,20,L,J,rfl,hU,by decide,n1,n6,hT,co,hL,_,rfl,U,n,20,rfl,hU,n1,n6,_,rfl,T,n,20,rfl,hT,n1,n6,jiS (jnX ⟨_,rfl,jdl (hC _ _ ⟨rfl,rfl⟩)⟩)⟩) ?_
 rintro _ _ ⟨rfl,rfl⟩
 have atR: ∀i,i<L->((List.range L).map λi=>jah (jat n T i))[i]? =some (jah (jat n T i)):=λi hi=>by rw [G0o,G05 hi];rfl
 refine jak (λσ' h' => ∃b11,σ' = [some (.scr ns),some (.int c),some (.lst p),some (.int (n:Int)),some (jah T),some (jah U),some (.int (((J:Nat):Int)+1)),some (.int (((L:Nat):Int)-((J:Nat):Int))),some (.tup ((List.range L).map λi=>jah (jat n T i))),some (.tup [.int (((J:Nat):Int)+1),.int (((L:Nat):Int)-((J:Nat):Int)),.tup ((List.range L).map λi=>jah (jat n T i))]),b10,b11]/\Sub h8 h') (λC hC=>jnY (jnw L (λi ys h' =>h' =h8/\ys=(List.range i).map λi=>jah (jat n T i)) (by omega) (λR r=>⟨_,rfl,?_⟩) ⟨rfl,rfl⟩ (λi ys h' w=>by rw [w.2,G0a,G0h]) (λi ys h' hi w=> ?_) (λys h' w p hp=> ?_))) ?_
 ·show R [.int (((((List.range L).map λi=>jah (jat n T i)).length:Nat)):Int)] _
  rw [G0a,G0h];exact r
 ·obtain⟨rfl,rfl⟩:=w
  refine⟨_,rfl,_,rfl,T,n,20,i+1,?_,hT,n1,n6,by decide,by omega,by omega,_,Sub.refl _,by omega,rfl,?_⟩
  ·show [D.tup _,D.int ((i:Int)+1)]=_
   rfl
  ·rw [G2b,G1m];rfl
 ·obtain⟨rfl,rfl⟩:=w
  exact⟨_,rfl,λp2 e2=>jmd (jaM jab e2) jab ⟨_,rfl,jdl (hC _ _ ⟨_,rfl,(Sub.newAt (Sub.refl _) hp).newAt e2⟩)⟩⟩
 rintro _ h9 ⟨c11,rfl,sb9⟩
 have kp9:=sb9 _ _ kp8
 have k39:=sb9 _ _ k38
 clear kp8 k38
 refine jak (λσ' h' =>σ' = [some (.scr ns),some (.int c),some (.lst p),some (.int (n:Int)),some (jah T),some (jah U),some (.int (((J:Nat):Int)+1)),some (.int (((L:Nat):Int)-((J:Nat):Int))),some (.tup ((List.range L).map λi=>jah (jat n T i))),some (.tup [.int (((J:Nat):Int)+1),.int (((L:Nat):Int)-((J:Nat):Int)),.tup ((List.range L).map λi=>jah (jat n T i))]),b10,c11]/\h9=h') (λC hC=>⟨_,rfl,_,rfl,_,rfl,T,n,20,L+1,?_,hT,n1,n6,by decide,by omega,by omega,_,rfl,_,rfl,_,?_,jnE (B:=jat n T J) ?_ ⟨_,rfl,jdl (hC _ _ ⟨rfl,rfl⟩)⟩⟩) ?_
 ·show [D.tup _,D.int (((J:Nat):Int)+1+(((L:Nat):Int)-((J:Nat):Int)))]=_
  rw [show ((J:Nat):Int)+1+(((L:Nat):Int)-((J:Nat):Int))=((L+1:Nat):Int) by omega];rfl
 ·show atI ((List.range L).map λi=>jah (jat n T i)) (((J:Nat):Int)+1-1)=_
  rw [show ((J:Nat):Int)+1-1=((J:Nat):Int) by omega]
  exact jb7 (atR J lt)
 ·exact co.eq
 rintro _ _ ⟨rfl,rfl⟩
 refine⟨_,rfl,_,rfl,_,rfl,p,l2,fl,n,rfl,kp9,l20,n6,λo l3 ho l30=>⟨T,n,20,o,rfl,hT,ho,n1,n6,_,rfl,T,n,20,rfl,hT,n1,n6,(by show 2<=sizeLine;decide),λq1 f1=>⟨q1,rfl,?_⟩⟩⟩
 have cR:Course n (jdo n o T) L J:=jeR co (jmf hT ho (by omega)) λi j w=>jjl (jbZ n T i) (jbZ n T j) ho w
 have cT:Course n (jbL n T) L J:=jeR co (jkq hT (by omega)) λi j w=>by
  have:=congrArg (jbL n) w
  rwa [jf2 (jbZ n T i),jf2 (jbZ n T j)] at this
 refine jfT [jah (jdo n o T),jah (jbL n T)] (λi σ' h' => ∃b10,σ' = [some (.scr ns),some (.int c),some (.lst p),some (.int (n:Int)),some (jah T),some (jah U),some (.int (((J:Nat):Int)+1)),some (.int (((L:Nat):Int)-((J:Nat):Int))),some (.tup ((List.range L).map λi=>jah (jat n T i))),some (.tup [.int (((J:Nat):Int)+1),.int (((L:Nat):Int)-((J:Nat):Int)),.tup ((List.range L).map λi=>jah (jat n T i))]),b10,c11]/\h' q1=some [jah (jdo n o T),jah (jbL n T)]/\h' p3=some cs) (λi σ' h' ⟨_,_,k,_⟩=>k) ⟨_,rfl,jab,jaM (jaq n3 k39) f1⟩ (λσ' h' ⟨b10,e,_,k2⟩=>⟨_,Sub.refl _,by omega,_,_,_,_,_,_,_,_,_,_,_,e,k2⟩) ?_
 rintro j d _ h12 hj ⟨b10',rfl,kq,k3⟩
 have hjl:=(G0s.mp hj).1
 obtain⟨V,rfl,sV,cV⟩: ∃V,d=jah V/\Sq n 20 V/\Course n V L J:=by
  rcases G0u.mp (G0W hj) with e|e
  ·exact⟨_,e,hT.ren ho.ord,cR⟩
  ·exact⟨_,G0x.mp e,hT.turn,cT⟩
 refine⟨_,rfl,V,n,20,rfl,sV,n1,n6,by decide,λL2 J2 c2 _=>⟨_,rfl,_,rfl,(by show 2<=sizeLine;decide),?_⟩⟩
 obtain⟨rfl,rfl⟩:=cV.one c2
 exact jme ⟨_,rfl,jdl ⟨_,Sub.refl _,hjl,_,rfl,kq,k3⟩⟩
end
set_option maxHeartbeats 8000000 in
theorem jn0 {l:PySem.W.OpenLaw} {w:World} {K:PySem.W.Frag} {h:Heap} {mg:Str->Option Value} {fa:Addr} (X:K.In h) (G:h.Ns mainGlobals mg) (hfa:mg "law" =some (.ref fa))
 {f0:Addr} {e0:FuncData} (d0:DefIn K "is_whole" jc7 f0 e0)
 {f1:Addr} {e1:FuncData} (d1:DefIn K "is_within" jcG f1 e1)
 {f2:Addr} {e2:FuncData} (d2:DefIn K "is_from" jdX f2 e2)
 {f3:Addr} {e3:FuncData} (d3:DefIn K "is_place" jc8 f3 e3)
 {f4:Addr} {e4:FuncData} (d4:DefIn K "are_places" jce f4 e4)
 {f5:Addr} {e5:FuncData} (d5:DefIn K "is_order" jc9 f5 e5)
 {f6:Addr} {e6:FuncData} (d6:DefIn K "is_table_row" jbz f6 e6)
 {f7:Addr} {e7:FuncData} (d7:DefIn K "has_table_form" jbc f7 e7)
 {f8:Addr} {e8:FuncData} (d8:DefIn K "want_table" jcf f8 e8)
 {f9:Addr} {e9:FuncData} (d9:DefIn K "want_order" jcg f9 e9)
 {f10:Addr} {e10:FuncData} (d10:DefIn K "want_number" jb0 f10 e10)
 {f11:Addr} {e11:FuncData} (d11:DefIn K "multiplied" jch f11 e11)
 {f12:Addr} {e12:FuncData} (d12:DefIn K "marks" jg3 f12 e12)
 {f13:Addr} {e13:FuncData} (d13:DefIn K "turned" jfq f13 e13)
 {f14:Addr} {e14:FuncData} (d14:DefIn K "renamed" jdY f14 e14)
 {f15:Addr} {e15:FuncData} (d15:DefIn K "marks_after" jb1 f15 e15)
 {f16:Addr} {e16:FuncData} (d16:DefIn K "marks_and_return" ja0 f16 e16)
 {f17:Addr} {e17:FuncData} (d17:DefIn K "marks_at" jda f17 e17)
 {f18:Addr} {e18:FuncData} (d18:DefIn K "round_of" jdb f18 e18)
 {f19:Addr} {e19:FuncData} (d19:DefIn K "all_marks" jcH f19 e19)
 {f20:Addr} {e20:FuncData} (d20:DefIn K "marks_of" jdc f20 e20)
 {f21:Addr} {e21:FuncData} (d21:DefIn K "are_unlike_tables" jaV f21 e21)
 {f22:Addr} {e22:FuncData} (d22:DefIn K "follow" jfr f22 e22)
 {f23:Addr} {e23:FuncData} (d23:DefIn K "calendar_holds" jbd f23 e23)
 {f24:Addr} {e24:FuncData} (d24:DefIn K "_law_cell" jcI f24 e24)
 {f25:Addr} {e25:FuncData} (d25:DefIn K "_law_pen" jdd f25 e25)
 {f26:Addr} {e26:FuncData} (d26:DefIn K "_law_draw" jcJ f26 e26)
 {f27:Addr} {e27:FuncData} (d27:DefIn K "_law_size" jcK f27 e27)
 {f28:Addr} {e28:FuncData} (d28:DefIn K "_law_table" jci f28 e28)
 {f29:Addr} {e29:FuncData} (d29:DefIn K "_law_order" jcj f29 e29)
 {f30:Addr} {e30:FuncData} (d30:DefIn K "law" jhP f30 e30)
 {tk0:Tok} (v0:PySem.W.nsIn K mainGlobals "MOST_ROWS" =some (some (.int 6 tk0)))
 {tk1:Tok} (v1:PySem.W.nsIn K mainGlobals "MOST_POWER" =some (some (.int 1000000000000000000000000000000 tk1)))
 (z:zsB K=true)
 : ∃fd:FuncData,(∀ (s:Shared) (v:Value),BindsTo s fd ⟨[v],[]⟩ [("_law_script",v)])/\ ∀base:Heap,K.In base->base.Ns mainGlobals mg->Bm mg base->FnOk l.prog w K mg base CX0 9 fa fd ["_law_script"] (LSp K jir):=by
 have e:=hfa.symm.trans (d30.nm X G)
 cases e
 have M_MOST_ROWS: ∃tk,mg "MOST_ROWS" =some (.int 6 tk):=⟨_,PySem.W.mg_of X G v0⟩
 have M_MOST_POWER: ∃tk,mg "MOST_POWER" =some (.int 1000000000000000000000000000000 tk):=⟨_,PySem.W.mg_of X G v1⟩
 have Z:=joX X G z
 obtain⟨_,_,kV,dc,pm,an,cd,ct,_,rfl,_⟩:=d30.fn.ex
 refine⟨PySem.W.fnOf "law" "law" (jb8 jhP) (jbj jhP) (jad jhP) .none kV dc pm an cd ct,λs v=> .of_eq rfl,λbase _ _ B=> ?_⟩
 have c_is_whole:=λn=>d0.cal l w base X G (jg5 (n:=n+0) Z d0.fn)
 have c_is_within:=λn=>d1.cal l w base X G (jgk (n:=n+1) Z d1.fn (c_is_whole (n+0)))
 have c_is_from:=λn=>d2.cal l w base X G (jhQ (n:=n+1) Z d2.fn (c_is_whole (n+0)))
 have c_is_place:=λn=>d3.cal l w base X G (jg6 (n:=n+2) Z d3.fn (c_is_within (n+0)))
 have c_are_places:=λn=>d4.cal l w base X G (jfs (n:=n+3) Z d4.fn (c_is_place (n+0)))
 have c_is_order:=λn=>d5.cal l w base X G (jg7 (n:=n+4) Z d5.fn (c_are_places (n+0)))
 have c_is_table_row:=λn=>d6.cal l w base X G (jd1 (n:=n+1) Z d6.fn (c_is_whole (n+0)))
 have c_has_table_form:=λn=>d7.cal l w base X G (jde (n:=n+2) Z d7.fn (c_is_table_row (n+0)) M_MOST_ROWS)
 have c_want_table:=λn=>d8.cal l w base X G (jft (n:=n+3) Z d8.fn (c_has_table_form (n+0)))
 have c_want_order:=λn=>d9.cal l w base X G (jfu (n:=n+5) Z d9.fn (c_is_order (n+0)))
 have c_want_number:=λn=>d10.cal l w base X G (jeo (n:=n+2) Z d10.fn (c_is_within (n+0)))
 have c_multiplied:=λn=>d11.cal l w base X G (jfv (n:=n+0) Z d11.fn)
 have c_marks:=λn=>d12.cal l w base X G (jkn (n:=n+4) Z d12.fn (c_want_table (n+0)))
 have c_turned:=λn=>d13.cal l w base X G (jjj (n:=n+4) Z d13.fn (c_want_table (n+0)))
 have c_renamed:=λn=>d14.cal l w base X G (jhR (n:=n+6) Z d14.fn (c_want_table (n+2)) (c_want_order (n+0)))
 have c_marks_after:=λn=>d15.cal l w base X G (jep (n:=n+5) Z d15.fn (c_marks (n+0)) (c_multiplied (n+4)))
 have c_marks_and_return:=λn=>d16.cal l w base X G (jcL (n:=n+6) Z d16.fn (c_marks (n+1)) (c_marks_after (n+0)))
 have c_marks_at:=λn=>d17.cal l w base X G (jg8 (n:=n+0) Z d17.fn)
 have c_round_of:=λn=>d18.cal l w base X G (jg9 (n:=n+7) Z d18.fn (c_marks_and_return (n+0)))
 have c_all_marks:=λn=>d19.cal l w base X G (jgm (n:=n+7) Z d19.fn (c_marks_and_return (n+0)))
 have c_marks_of:=λn=>d20.cal l w base X G (jha (n:=n+7) Z d20.fn (c_want_table (n+3)) (c_want_number (n+4)) (c_marks_and_return (n+0)) (c_marks_at (n+6)) M_MOST_POWER)
 have c_are_unlike_tables:=λn=>d21.cal l w base X G (jcu (n:=n+3) Z d21.fn (c_has_table_form (n+0)))
 have c_follow:=λn=>d22.cal l w base X G (jjk (n:=n+6) Z d22.fn (c_marks_after (n+0)))
 have c_calendar_holds:=λn=>d23.cal l w base X G (jdf (n:=n+7) Z d23.fn (c_want_table (n+3)) (c_is_from (n+5)) (c_are_unlike_tables (n+3)) (c_follow (n+0)) (c_marks (n+2)) (c_marks_after (n+1)))
 have c__law_cell:=λn=>d24.cal l w base X G (jgp (n:=n+0) Z d24.fn)
 have c__law_pen:=λn=>d25.cal l w base X G (jhb (n:=n+0) Z d25.fn)
 have c__law_draw:=λn=>d26.cal l w base X G (jgq (n:=n+0) Z d26.fn)
 have c__law_size:=λn=>d27.cal l w base X G (jgr (n:=n+1) Z d27.fn (c__law_draw (n+0)))
 have c__law_table:=λn=>d28.cal l w base X G (jfw (n:=n+1) Z d28.fn (c__law_draw (n+0)))
 have c__law_order:=λn=>d29.cal l w base X G (jfx (n:=n+1) Z d29.fn (c__law_draw (n+0)))
 exact jnZ (n:=8) Z d30.fn (c__law_cell 7) (c__law_pen 7) (c__law_size 6) (c__law_table 6) (c_round_of 0) (c_all_marks 0) (c_calendar_holds 0) (c_marks 3) (c_marks_of 0) (c_turned 3) (c_renamed 1) (c__law_order 6)
end My
def PySem.W.Fast.tw14271245227433488376 : Unit := ()
def PySem.W.Fast.tw9662716466854170525 : Unit := ()
def PySem.W.Fast.tw15677286006910745637 : Unit := ()
def PySem.W.Fast.tw9137786764918185797 : Unit := ()
def PySem.W.Fast.tw18347420664351071880 : Unit := ()
def PySem.W.Fast.tw12976267737246714050 : Unit := ()
def PySem.W.Fast.tw1379245543642332818 : Unit := ()
def PySem.W.Fast.tw8492408554162145147 : Unit := ()
def PySem.W.Fast.tw11846652431628511923 : Unit := ()
def PySem.W.Fast.tw816410915513246370 : Unit := ()
def PySem.W.Fast.tw18116968888341709079 : Unit := ()
def PySem.W.Fast.tw13720801795335048529 : Unit := ()
def PySem.W.Fast.tw16208315193570827570 : Unit := ()
def PySem.W.Fast.tw8430577773652419865 : Unit := ()
def PySem.W.Fast.tw12337823528418405727 : Unit := ()
def PySem.W.Fast.tw4210601432544291519 : Unit := ()
def PySem.W.Fast.tw13650659327309726222 : Unit := ()
def PySem.W.Fast.tw5705110914746859120 : Unit := ()
def PySem.W.Fast.tw12621794493165433793 : Unit := ()
def PySem.W.Fast.tw16305775705418069533 : Unit := ()
def PySem.W.Fast.tw6872195439904833412 : Unit := ()
def PySem.W.Fast.tw5412948648867812312 : Unit := ()
def PySem.W.Fast.tw2859919717951787806 : Unit := ()
def PySem.W.Fast.tw5469743810413283737 : Unit := ()
def PySem.W.Fast.tw9346733894575441435 : Unit := ()
def PySem.W.Fast.tw15600455712616507050 : Unit := ()
def PySem.W.Fast.tw15890992442417460399 : Unit := ()
def PySem.W.Fast.tw6416576526787139683 : Unit := ()
def PySem.W.Fast.tw18020109905346267500 : Unit := ()
def PySem.W.Fast.tw13904515949582184884 : Unit := ()
def PySem.W.Fast.tw13727189924379053445 : Unit := ()
def PySem.W.Fast.tw18319025820230312134 : Unit := ()
def PySem.W.Fast.tw6254383749791911421 : Unit := ()
def PySem.W.Fast.tw6138252626935031499 : Unit := ()
def PySem.W.Fast.tw2738213215142219167 : Unit := ()
def PySem.W.Fast.tw14487590173428894248 : Unit := ()
def PySem.W.Fast.tw1723263706743424222 : Unit := ()
def PySem.W.Fast.tw13206315159315677203 : Unit := ()
def PySem.W.Fast.tw8851307323867313941 : Unit := ()
def PySem.W.Fast.tw427577175249404565 : Unit := ()
def PySem.W.Fast.tw1236008094050234879 : Unit := ()
def PySem.W.Fast.tw17846405490309971317 : Unit := ()
def PySem.W.Fast.tw12228221512782788686 : Unit := ()
def PySem.W.Fast.tw3476488338033866916 : Unit := ()
def PySem.W.Fast.tw10234944815590856656 : Unit := ()
def PySem.W.Fast.tw5322434136106776958 : Unit := ()
def PySem.W.Fast.tw11383095906553900418 : Unit := ()
def PySem.W.Fast.tw4597170177141072417 : Unit := ()
def PySem.W.Fast.tw16740588277556099186 : Unit := ()
def PySem.W.Fast.tw4553703425314410693 : Unit := ()
def PySem.W.Fast.tw7772280265367557181 : Unit := ()
def PySem.W.Fast.tw15977748113108705126 : Unit := ()
def PySem.W.Fast.tw3061258647339622486 : Unit := ()
def PySem.W.Fast.tw9712090472653447066 : Unit := ()
def PySem.W.Fast.tw16039152286665959402 : Unit := ()
def PySem.W.Fast.tw12437376052398143630 : Unit := ()
def PySem.W.Fast.tw17390655939734279988 : Unit := ()
def PySem.W.Fast.tw8743514046439987008 : Unit := ()
def PySem.W.Fast.tw13039377584113755913 : Unit := ()
def PySem.W.Fast.tw9480227054335370755 : Unit := ()
def PySem.W.Fast.tw8268706944435738953 : Unit := ()
def PySem.W.Fast.tw16413954720826897302 : Unit := ()
def PySem.W.Fast.tw1238881851236753067 : Unit := ()
def PySem.W.Fast.tw2237869854818309614 : Unit := ()
def PySem.W.Fast.tw16135341568077937332 : Unit := ()
def PySem.W.Fast.tw18086318930243019415 : Unit := ()
def PySem.W.Fast.tw10575114105958297952 : Unit := ()
def PySem.W.Fast.tw13611117720595995506 : Unit := ()
def PySem.W.Fast.tw12548611838176061393 : Unit := ()
def PySem.W.Fast.tw16285740469387134176 : Unit := ()
def PySem.W.Fast.tw16539339472111774446 : Unit := ()
def PySem.W.Fast.tw1938622628103769819 : Unit := ()
def PySem.W.Fast.tw9865104349320645384 : Unit := ()
def PySem.W.Fast.tw9949112142083077659 : Unit := ()
def PySem.W.Fast.tw8328293523661988659 : Unit := ()
def PySem.W.Fast.tw10543479348009737951 : Unit := ()
def PySem.W.Fast.tw17402211912490554442 : Unit := ()
def PySem.W.Fast.tw15293148080745286577 : Unit := ()
def PySem.W.Fast.tw3255168572503658698 : Unit := ()
def PySem.W.Fast.tw5225181820627337361 : Unit := ()
def PySem.W.Fast.tw17209981682080752645 : Unit := ()
def PySem.W.Fast.tw15621660053270033030 : Unit := ()
def PySem.W.Fast.tw3700687209216751630 : Unit := ()
def PySem.W.Fast.tw14853570701848961888 : Unit := ()
def PySem.W.Fast.tw16957603331094523594 : Unit := ()
def PySem.W.Fast.tw3968695350304270240 : Unit := ()
def PySem.W.Fast.tw18445767603172857632 : Unit := ()
def PySem.W.Fast.tw11184327543888318899 : Unit := ()
def PySem.W.Fast.tw10859816998396104178 : Unit := ()
def PySem.W.Fast.tw13032428138634210011 : Unit := ()
def PySem.W.Fast.tw16099996089294368709 : Unit := ()
def PySem.W.Fast.tw11920903387577097281 : Unit := ()
def PySem.W.Fast.tw1088550497890089351 : Unit := ()
def PySem.W.Fast.tw10511979856724590396 : Unit := ()
def PySem.W.Fast.tw6433475367331918246 : Unit := ()
def PySem.W.Fast.tw2647241569477981595 : Unit := ()
def PySem.W.Fast.tw5263428142968414466 : Unit := ()
def PySem.W.Fast.tw3723141563556535624 : Unit := ()
def PySem.W.Fast.tw15576361492891091891 : Unit := ()
def PySem.W.Fast.tw13597454671279452428 : Unit := ()
def PySem.W.Fast.tw11408815010972543474 : Unit := ()
def PySem.W.Fast.tw7637955631839775059 : Unit := ()
def PySem.W.Fast.tw13568103958438428773 : Unit := ()
def PySem.W.Fast.tw12787390315149723104 : Unit := ()
def PySem.W.Fast.tw7961093749712279635 : Unit := ()
def PySem.W.Fast.tw14134408156704647129 : Unit := ()
def PySem.W.Fast.tw16888331404715635630 : Unit := ()
def PySem.W.Fast.tw16525353995085436722 : Unit := ()
def PySem.W.Fast.tw8981903574455447352 : Unit := ()
open PySem PySem.W PyProof.Rows
set_option maxRecDepth 100000 in
set_option maxHeartbeats 0 in
theorem PySem.Challenge.cw_firstpowers_k49_whole_calendars_holds : PySem.Challenge.rw_firstpowers_k49_whole_calendars.Holds := by
  w_on; o_law; k_head; (case hw => w_witness2)
  k_fill
  refine L2.jjL (l := PySem.Challenge.rw_firstpowers_k49_whole_calendars) (k := 9) (x := "_law_script") rfl rfl ⟨rfl, by decide, by decide, rfl⟩ (fun w h Y => PySem.W.kIn_of Y) ?B ?F
  case B => intro w; kernel_rfl
  case F =>
    intro w mg fa h KX G hmg
    refine' My.jn0 KX G hmg ?d0 ?d1 ?d2 ?d3 ?d4 ?d5 ?d6 ?d7 ?d8 ?d9 ?d10 ?d11 ?d12 ?d13 ?d14 ?d15 ?d16 ?d17 ?d18 ?d19 ?d20 ?d21 ?d22 ?d23 ?d24 ?d25 ?d26 ?d27 ?d28 ?d29 ?d30 ?v0 ?v1 ?z
    case d0 | d1 | d2 | d3 | d4 | d5 | d6 | d7 | d8 | d9 | d10 | d11 | d12 | d13 | d14 | d15 | d16 | d17 | d18 | d19 | d20 | d21 | d22 | d23 | d24 | d25 | d26 | d27 | d28 | d29 | d30 => refine' L2.jnW ?a ?l ?c ?k; (case a => k_is); (case l => k_is); (case c => k_is); (case k => k_is)
    case v0 | v1 => k_is
    case z => kernel_rfl
