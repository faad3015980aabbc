import PyProof.Rows.All
import Wide.All
import OpenK.AllK
import Wide.FinOn
import Lean
import PyProof.EqAt
import PyProof.EqKinds
import PyProof.TupleCall
import PyProof.ConsumeWalk
import PyProof.EqLayable
import PyProof.ReprRoads
import PyProof.StrWalks
import PyProof.SliceStr2
import PyProof.StrLawsIn
import PyProof.StrLawsRepr
import PyProof.SliceList
import PyProof.Rows.FStr
import PyProof.CallStr
import PyProof.Rows.SeqMore
import PyProof.ListStr
import PyProof.Claim2Refuses
import PyProof.Rows.SetFrom
import PyProof.Rows.StrMeet
import PyProof.WalksMore
import PyProof.StrCalls
import PyProof.ListMulRoad
import PyProof.MaxThree
import PyProof.Rows.SumAny
import PyProof.AutoSeq1
import PyProof.StrBlock2
import PyProof.ZipIter
import PyProof.Rows.ZipGen
import PyProof.Rows.CallKwBuiltin
import PyProof.Rows.SortRuns
import KE.KIsAll
import PyProof.DictTruth
import PyProof.DictItems
import PyProof.DictItemsLoops
import KE.KDictList
import KE.KDictOf
import PyProof.DictValues
import PyProof.SetRoads
import PyProof.AttrMissHeap
import PyProof.WalkInts
import PySem.Challenge.RW_webshapes_k76_whatever_lists
set_option compiler.extract_closed false
set_option bootstrap.genMatcherCode false
set_option Elab.async false
set_option linter.all false
set_option maxRecDepth 100000
set_option maxHeartbeats 4000000
section
open PySem PySem.Spec PyProof.Rows PySem.W
theorem HS:type_of% @List.length_map:=@List.length_map
theorem HU:type_of% @wpAny_bind:=@wpAny_bind
theorem HV:type_of% @wpAny_pure:=@wpAny_pure
theorem HW:type_of% @List.getElem?_set_ne:=@List.getElem?_set_ne
theorem HX:type_of% @List.getElem?_eq_some_iff:=@List.getElem?_eq_some_iff
theorem HY:type_of% @List.length_append:=@List.length_append
theorem HZ:type_of% @List.getElem?_eq_getElem:=@List.getElem?_eq_getElem
theorem H0:type_of% @Heap.get?_push_of_some:=@Heap.get?_push_of_some
theorem H9:type_of% @List.getElem?_map:=@List.getElem?_map
theorem Ia:type_of% @Nat.le_refl:=@Nat.le_refl
theorem Ib:type_of% @List.mem_singleton:=@List.mem_singleton
theorem Ic:type_of% @Option.map_eq_some_iff:=@Option.map_eq_some_iff
theorem Ie:type_of% @List.mem_cons_of_mem:=@List.mem_cons_of_mem
theorem Ig:type_of% @List.map_append:=@List.map_append
theorem Ih:type_of% @List.getElem?_set_self:=@List.getElem?_set_self
theorem Ii:type_of% @List.getElem?_append_right:=@List.getElem?_append_right
theorem Ij:type_of% @List.mem_map:=@List.mem_map
theorem Ik:type_of% @List.length_cons:=@List.length_cons
theorem Il:type_of% @List.mem_cons:=@List.mem_cons
theorem Im:type_of% @Heap.lt_size:=@Heap.lt_size
theorem Io:type_of% @if_pos:=@if_pos
theorem Ip:type_of% @List.mem_cons_self:=@List.mem_cons_self
theorem Iq:type_of% @Heap.get?_push_size:=@Heap.get?_push_size
theorem Ir:type_of% @List.mem_append_right:=@List.mem_append_right
theorem Iu:type_of% @Nat.lt_of_lt_of_le:=@Nat.lt_of_lt_of_le
theorem Iv:type_of% @if_neg:=@if_neg
theorem Iw:type_of% @List.size_toArray:=@List.size_toArray
theorem Iy:type_of% @Nat.le_trans:=@Nat.le_trans
theorem Iz:type_of% @List.mem_of_getElem?:=@List.mem_of_getElem?
theorem IC:type_of% @Nat.ne_of_lt:=@Nat.ne_of_lt
theorem ID:type_of% @Bool.and_eq_true:=@Bool.and_eq_true
theorem IE:type_of% @List.length_take:=@List.length_take
theorem IF:type_of% @List.length_set:=@List.length_set
theorem IG:type_of% @Nat.lt_irrefl:=@Nat.lt_irrefl
theorem IH:type_of% @List.length_drop:=@List.length_drop
theorem II:type_of% @wpAny_holding:=@wpAny_holding
theorem IJ:type_of% @wpAny_mono:=@wpAny_mono
theorem IK:type_of% @List.mem_append:=@List.mem_append
theorem IL:type_of% @List.getElem?_append_left:=@List.getElem?_append_left
theorem IM:type_of% @List.mem_append_left:=@List.mem_append_left
theorem IP:type_of% @List.length_nil:=@List.length_nil
theorem IQ:type_of% @PySem.W.mg_none_of:=@PySem.W.mg_none_of
theorem IS:type_of% @List.mem_nil_iff:=@List.mem_nil_iff
theorem IU:type_of% @wpAny_newObj_type:=@wpAny_newObj_type
theorem IV:type_of% @Nat.zero_le:=@Nat.zero_le
theorem IW:type_of% @List.map_map:=@List.map_map
theorem IX:type_of% @decide_eq_false:=@decide_eq_false
theorem IY:type_of% @List.nodup_cons:=@List.nodup_cons
theorem IZ:type_of% @wpAny_call_entry:=@wpAny_call_entry
theorem I0:type_of% @Bool.false_ne_true:=@Bool.false_ne_true
theorem Ja:type_of% @Option.some.inj:=@Option.some.inj
theorem Jb:type_of% @List.any_eq_true:=@List.any_eq_true
theorem Jc:type_of% @Array.length_toList:=@Array.length_toList
theorem Jd:type_of% @of_decide_eq_true:=@of_decide_eq_true
theorem Je:type_of% @List.all_eq_true:=@List.all_eq_true
theorem Jf:type_of% @wpAny_truthy_bool:=@wpAny_truthy_bool
theorem Jg:type_of% @List.mem_of_find?_eq_some:=@List.mem_of_find?_eq_some
theorem Jh:type_of% @Heap.get?_update_self:=@Heap.get?_update_self
theorem Ji:type_of% @wpAny_setField_rec:=@wpAny_setField_rec
theorem Jj:type_of% @List.take_length:=@List.take_length
theorem Jk:type_of% @wpAny_callSpecial?_slot:=@wpAny_callSpecial?_slot
theorem Jl:type_of% @decide_eq_true_eq:=@decide_eq_true_eq
theorem Jm:type_of% @List.mem_filter:=@List.mem_filter
theorem Jn:type_of% @List.append_nil:=@List.append_nil
theorem Jo:type_of% @List.take_of_length_le:=@List.take_of_length_le
theorem Jp:type_of% @List.set_set:=@List.set_set
theorem Jq:type_of% @or_false:=@or_false
theorem Jr:type_of% @decide_eq_true:=@decide_eq_true
theorem Js:type_of% @List.mem_iff_getElem?:=@List.mem_iff_getElem?
theorem Jt:type_of% @List.drop_eq_getElem_cons:=@List.drop_eq_getElem_cons
theorem Ju:type_of% @Array.getElem?_eq_getElem:=@Array.getElem?_eq_getElem
theorem Jv:type_of% @wpAny_dictEpoch:=@wpAny_dictEpoch
theorem Jw:type_of% @Bool.eq_iff_iff:=@Bool.eq_iff_iff
theorem Jx:type_of% @Nat.lt_succ_of_lt:=@Nat.lt_succ_of_lt
theorem Jy:type_of% @List.nodup_append:=@List.nodup_append
theorem Jz:type_of% @List.length_range:=@List.length_range
theorem JB:type_of% @List.append_assoc:=@List.append_assoc
theorem JD:type_of% @Around.under_plainId:=@Around.under_plainId
theorem JH:type_of% @PySem.mem_of_lookup:=@PySem.mem_of_lookup
theorem JJ:type_of% @wpAny_rule:=@wpAny_rule
theorem JK:type_of% @Nat.lt_or_ge:=@Nat.lt_or_ge
theorem JL:type_of% @Bool.false_eq_true:=@Bool.false_eq_true
theorem JM:type_of% @if_false:=@if_false
theorem JN:type_of% @codeAny_builtin:=@codeAny_builtin
theorem JQ:type_of% @Nat.le_of_ble_eq_true:=@Nat.le_of_ble_eq_true
theorem JR:type_of% @List.length_filter_le:=@List.length_filter_le
theorem JU:type_of% @Array.getElem?_toList:=@Array.getElem?_toList
theorem JV:type_of% @Int.toNat_natCast:=@Int.toNat_natCast
theorem JX:type_of% @sizeLine_eq:=@sizeLine_eq
theorem JY:type_of% @List.mem_of_mem_take:=@List.mem_of_mem_take
theorem JZ:type_of% @List.not_mem_nil:=@List.not_mem_nil
theorem J0:type_of% @Heap.SameBut.update:=@Heap.SameBut.update
theorem J1:type_of% @PySem.F.type_list_append:=@PySem.F.type_list_append
theorem J2:type_of% @PySem.F.slot_list_append:=@PySem.F.slot_list_append
theorem J3:type_of% @wpAny_specialOf:=@wpAny_specialOf
theorem J4:type_of% @wpAny_passesOwn:=@wpAny_passesOwn
theorem J5:type_of% @PySem.W.kia_one:=@PySem.W.kia_one
theorem J6:type_of% @List.foldl_cons:=@List.foldl_cons
theorem J7:type_of% @List.find?_cons:=@List.find?_cons
theorem J8:type_of% @take_snoc:=@take_snoc
theorem J9:type_of% @PySem.F.plainAttrs_list:=@PySem.F.plainAttrs_list
theorem Ka:type_of% @Nat.le_succ:=@Nat.le_succ
theorem Kb:type_of% @wpAny_setState_of:=@wpAny_setState_of
theorem Kc:type_of% @Nat.le_of_lt:=@Nat.le_of_lt
theorem Kd:type_of% @Heap.get?_update_other:=@Heap.get?_update_other
theorem Ke:type_of% @Array.toList_push:=@Array.toList_push
theorem Kf:type_of% @List.getElem?_eq_none:=@List.getElem?_eq_none
theorem Kg:type_of% @Nat.lt_succ_self:=@Nat.lt_succ_self
theorem Kh:type_of% @Paired.length:=@Paired.length
theorem Ki:type_of% @List.any_cons:=@List.any_cons
theorem Kj:type_of% @wpAny_typeNameOfWhole_keyiter:=@wpAny_typeNameOfWhole_keyiter
theorem Kk:type_of% @List.mem_of_mem_drop:=@List.mem_of_mem_drop
theorem Kl:type_of% @List.drop_eq_nil_iff:=@List.drop_eq_nil_iff
theorem Km:type_of% @Array.toArray_toList:=@Array.toArray_toList
theorem Ko:type_of% @List.find?_some:=@List.find?_some
theorem Kp:type_of% @F.slot_dict_keyiterator_next:=@F.slot_dict_keyiterator_next
theorem Kq:type_of% @Bool.or_eq_true:=@Bool.or_eq_true
theorem Kr:type_of% @if_true:=@if_true
theorem Ks:type_of% @wpAny_fieldsOf:=@wpAny_fieldsOf
theorem Kt:type_of% @List.pairwise_cons:=@List.pairwise_cons
theorem Ku:type_of% @List.nodup_nil:=@List.nodup_nil
theorem Kv:type_of% @Classical.byContradiction:=@Classical.byContradiction
theorem Kw:type_of% @wpAny_pyIter_list:=@wpAny_pyIter_list
theorem Kx:type_of% @wpAny_dictEntries:=@wpAny_dictEntries
theorem Ky:type_of% @wpAny_typeNameOf_keyiter:=@wpAny_typeNameOf_keyiter
theorem Kz:type_of% @plainId_quiet:=@plainId_quiet
theorem KA:type_of% @Option.isSome_iff_exists:=@Option.isSome_iff_exists
theorem KC:type_of% @wpAny_forIn_list:=@wpAny_forIn_list
theorem KD:type_of% @List.lookup_cons:=@List.lookup_cons
theorem KG:type_of% @Option.map_eq_none_iff:=@Option.map_eq_none_iff
theorem KH:type_of% @Nat.ne_of_gt:=@Nat.ne_of_gt
theorem KI:type_of% @List.filter_eq_nil_iff:=@List.filter_eq_nil_iff
theorem KJ:type_of% @List.drop_of_length_le:=@List.drop_of_length_le
theorem KL:type_of% @Nat.not_lt_zero:=@Nat.not_lt_zero
theorem KN:type_of% @builtinLookup_eq_fast:=@builtinLookup_eq_fast
theorem KO:type_of% @List.length_replicate:=@List.length_replicate
end
section
namespace L2
abbrev Fg:=PySem.W.Frag
set_option maxRecDepth 100000 in
set_option maxHeartbeats 0 in
theorem ws:PySem.W.OpenLaw.wellSaid PySem.Challenge.rw_webshapes_k76_whatever_lists=true:=by decide +kernel
open PySem PySem.Spec PyProof.Rows
abbrev Key:=Sum Int Str
noncomputable def oy:Key->Value->Bool
 | .inl k,v=>Value.isInt k v
 | .inr x,v=>Value.isStrOf x v
noncomputable def GC (w:World):Key->Int
 | .inl k=>hashInt k
 | .inr x=>hashStr w x
theorem aM:∀ {k:Key} {v:Value},oy k v=true->(∃ i t,k=Sum.inl i/\v=Value.int i t)\/(∃ x t,k=Sum.inr x/\v=Value.str x t)
 | .inl i,v,h=>by
  obtain ⟨t,e⟩:=Value.isInt_shape (k:=i) (v:=v) h;exact .inl ⟨i,t,rfl,e⟩
 | .inr x,v,h=>by
  obtain ⟨t,e⟩:=Value.isStrOf_shape (x:=x) (v:=v) h;exact .inr ⟨x,t,rfl,e⟩
theorem uA (i:Int) (t:Tok):oy (.inl i) (.int i t)=true:=by simp [oy,Value.isInt]
theorem tJ (x:Str) (t:Tok):oy (.inr x) (.str x t)=true:=by simp [oy,Value.isStrOf]
theorem BB (a b:Int):decide ((Sum.inl a:Key)=Sum.inl b)=(a==b):=by
 by_cases e:a=b
 ·subst e;simp
 ·have h:¬(Sum.inl a:Key)=Sum.inl b:=fun q=>e (Sum.inl.inj q);rw [IX h];exact (beq_eq_false_iff_ne.mpr e).symm
theorem Bd (a b:Str):decide ((Sum.inr a:Key)=Sum.inr b)=decide (a=b):=by
 by_cases e:a=b
 ·subst e;simp
 ·have h:¬(Sum.inr a:Key)=Sum.inr b:=fun q=>e (Sum.inr.inj q);rw [IX h,IX e]
theorem Cf (a:Int) (b:Str):decide ((Sum.inl a:Key)=Sum.inr b)=false:=IX (fun q=>nomatch q)
theorem BJ (a:Str) (b:Int):decide ((Sum.inr a:Key)=Sum.inl b)=false:=IX (fun q=>nomatch q)
noncomputable def bE (prog:Program) (w:World):PySem.KeyKind prog w Key where
 is:=oy
 hash:=GC w
 inj:=fun v a b ha hb=>by
  rcases aM ha with ⟨i,t,rfl,rfl⟩ | ⟨x,t,rfl,rfl⟩
  ·rcases aM hb with ⟨j,u,rfl,e⟩ | ⟨y,u,rfl,e⟩
   ·injection e with e1 _;rw [e1]
   ·exact nomatch e
  ·rcases aM hb with ⟨j,u,rfl,e⟩ | ⟨y,u,rfl,e⟩
   ·exact nomatch e
   ·injection e with e1 _;rw [e1]
 byValue:=fun k v h=>by
  rcases aM h with ⟨i,t,rfl,rfl⟩ | ⟨x,t,rfl,rfl⟩ <;> rfl
 pyHash:=fun hv h=>by
  rcases aM hv with ⟨i,t,rfl,rfl⟩ | ⟨x,t,rfl,rfl⟩
  ·exact wpAny_pyHash_int h
  ·exact wpAny_pyHash_str h
 eqBool:=fun hu hv h=>by
  rcases aM hu with ⟨i,t,rfl,rfl⟩ | ⟨x,t,rfl,rfl⟩
  ·rcases aM hv with ⟨j,u,rfl,rfl⟩ | ⟨y,u,rfl,rfl⟩
   ·rw [BB] at h;exact wpAny_eqBool_int h
   ·rw [Cf] at h;exact SeqAt.EqAt.int_str i t y u _ _ _ _ h
  ·rcases aM hv with ⟨j,u,rfl,rfl⟩ | ⟨y,u,rfl,rfl⟩
   ·rw [BJ] at h;exact SeqAt.EqAt.str_int x t j u _ _ _ _ h
   ·rw [Bd] at h;exact wpAny_eqBool_str h
 «strs»:=fun k x t v h=>by
  rcases aM h with ⟨i,u,rfl,e⟩ | ⟨y,u,rfl,e⟩
  ·exact nomatch e
  ·injection e with e1 _;subst e1;cases v <;> rfl
theorem nC (prog:Program) (w:World) (i:Int) (t:Tok):(bE prog w).is (.inl i) (.int i t)=true:=uA i t
theorem nN (prog:Program) (w:World) (x:Str) (t:Tok):(bE prog w).is (.inr x) (.str x t)=true:=tJ x t
end L2
namespace L2
open PySem PySem.Spec PyProof.Rows
inductive V where
 | non | bl (b:Bool) | int (i:Int) | str (x:Str) | byt (b:Array UInt8) | flt (b:UInt64) | ref (a:Addr) | ty (n:String)
 deriving DecidableEq
def RelV:V->Value->Prop
 | .non,u=>u=Value.none
 | .bl b,u=>u=Value.bool b
 | .int i,u=>∃ t,u=Value.int i t
 | .str x,u=>∃ t,u=Value.str x t
 | .byt b,u=>∃ t,u=Value.bytes b t
 | .flt b,u=>∃ t,u=Value.float b t
 | .ref a,u=>u=Value.ref a
 | .ty n,u=>u=Value.type n
abbrev Vals:List V->List Value->Prop:=Paired RelV
theorem Vals.length {xs:List V} {us:List Value} (r:Vals xs us):xs.length=us.length:=Kh r
theorem Vals.get:∀ {xs:List V} {us:List Value} {i:Nat} {x:V},Vals xs us->xs[i]?=some x->∃ u,us[i]?=some u/\RelV x u
 | _,_,_,_,.nil,e=>by simp at e
 | _,_,0,_,.cons r _,e=>by simp at e;subst e;exact ⟨_,rfl,r⟩
 | _,_,i+1,x,.cons _ t,e=>by
  obtain ⟨u,h1,h2⟩:=Vals.get (i:=i) (x:=x) t (by simpa using e);exact ⟨u,by simpa using h1,h2⟩
theorem Vals.append:∀ {xs ys:List V} {us ws:List Value},Vals xs us->Vals ys ws->Vals (xs++ys) (us++ws)
 | _,_,_,_,.nil,s=>s
 | _,_,_,_,.cons r t,s=>.cons r (Vals.append t s)
theorem Vals.take:∀ {xs:List V} {us:List Value} (n:Nat),Vals xs us->Vals (xs.take n) (us.take n)
 | _,_,0,_=>.nil
 | _,_,_+1,.nil=>.nil
 | _,_,n+1,.cons r t=>.cons r (Vals.take n t)
theorem Vals.drop:∀ {xs:List V} {us:List Value} (n:Nat),Vals xs us->Vals (xs.drop n) (us.drop n)
 | _,_,0,r=>r
 | _,_,_+1,.nil=>.nil
 | _,_,n+1,.cons _ t=>Vals.drop n t
def FH:Option V->Option Value->Prop
 | some v,some u=>RelV v u
 | none,none=>True
 | _,_=>False
def KV {κ:Type}:List (κ×V)->List (κ×Value)->Prop:=Paired fun (p:κ×V) (q:κ×Value)=>p.1=q.1/\RelV p.2 q.2
noncomputable def kV:Key->V
 | .inl i=>.int i
 | .inr x=>.str x
mutual
noncomputable def cC (w:World):PyData->Int
 | .int i=>hashInt i
 | .str x=>hashStr w x
 | .tuple ds=>reduceHash (Builtin.Tuple.tupleHashOf (cZ w ds))
 | _=>0
noncomputable def cZ (w:World):List PyData->List Int
 | []=>[]
 | d :: ds=>cC w d :: cZ w ds
end
def yz (w:World) (x:PyData×V×V) (e:DictEntry):Prop:=e.hash=cC w x.1/\RelV x.2.1 e.key/\RelV x.2.2 e.val
inductive HO where
 /-- a list -/
 | lst (xs:List V)
 /-- a tuple (never changes) -/
 | tup (xs:List V)
 /-- a dict whose keys are ints and texts;one whose keys are tuples of ints and texts (the empty one is both) -/
 | dK (kvs:List (Key×V)) | dT (kvs:List (List Key×V))
 /-- a dict by any hashable data: its epoch;the keys as data and as values,what they hold -/
 | dD (ep:Nat) (xs:List (PyData×V×V))
 /-- a set of ints: its members,its size -/
 | set (S:Int->Bool) (n:Nat)
 /-- an instance of the class at C,its dict at dx,its attributes -/
 | ins (C dx:Addr) (fs:List (Str×V))
 /-- the dict of the instance at x -/
 | own (x:Addr)
 /-- the dict of an exception -/
 | xd (fs:List (Str×V))
 /-- a bound method,f of x -/
 | met (f x:Addr)
 /-- a range object lo,lo+1,.. below hi -/
 | rng (lo hi:Int)
 /-- a thing that is known to the object (the script;a dict while a loop walks it): read,never written while it is so -/
 | frz (o:Obj) (u:HO)
 /-- a code object's table -/
 | tbl (ps:Array Value)
 /-- any other thing,by what is true of its one object (a def of one's own: Ah a S n:=HO.ext fun h=>..) -/
 | ext (φ:Heap->Prop)
abbrev Hp:=Addr->Option HO
noncomputable def upd (H:Hp) (a:Addr) (o:HO):Hp:=fun b=>if b=a then some o else H b
theorem ar {H:Hp} {a:Addr} {o:HO}:upd H a o a=some o:=by unfold upd;rw [Io rfl]
theorem ak {H:Hp} {a b:Addr} {o:HO} (h:b≠a):upd H a o b=H b:=by unfold upd;rw [Iv h]
theorem zj {H:Hp} {a:Addr} {o u:HO}:upd (upd H a o) a u=upd H a u:=by
 funext b;unfold upd;split <;> rfl
theorem ay {H:Hp} {a b:Addr} {o:HO} (h:H a=some o) (h':H b=none):a≠b:=by
 intro e;subst e;rw [h] at h';cases h'
section
variable (P:Program) (w:World)
def bT (H:Hp) (h:Heap) (a:Addr):HO->Prop
 | .lst xs=>xs.length<=sizeLine/\∃ (its:List Value) (n:Nat),Vals xs its/\h.get? a=some { cls:=.type "list", data:=.seq its.toArray n }
 | .tup xs=>xs.length<=sizeLine/\∃ its:List Value,Vals xs its/\IsTup h a its.toArray
 | .dK kvs=>kvs.length<=sizeLine/\(a==sysModules)=false/\∃ vs,KV kvs vs/\h.DictOf (bE P w) a vs
 | .dT kvs=>kvs.length<=sizeLine/\(a==sysModules)=false/\∃ xs:List (List Key×Addr×Value),
   Paired (fun (p:List Key×V) (q:List Key×Addr×Value)=>p.1=q.1/\H q.2.1=some (.tup (p.1.map kV))/\RelV p.2 q.2.2) kvs xs /\
   ∃ o es ep,h.get? a=some o/\o.ExactDict/\o.data=.dict es ep/\es.toList=xs.map (entryOfKey (tupleKind (bE P w)))/\(xs.map (·.1)).Nodup
 | .dD ep xs=>xs.length<=sizeLine/\(a==sysModules)=false/\(xs.map (·.1)).Nodup/\∃ o es,h.get? a=some o/\o.ExactDict/\o.data=.dict es ep/\Paired (yz w) xs es.toList
 | .set S n=>h.SetOf (intKind P w) a S n
 | .ins C dx fs=>H dx=some (.own a)/\fs.length<=1000/\dx≠a/\h.get? a=some (PySem.W.instObj C dx) /\
   ∃ mA,h.Ns1 dx mA/\(∀ f,FH (fs.lookup f) (mA f))/\PySem.Within mA (fs.map (·.1))
 | .own _=>∃ o,h.get? a=some o
 | .xd fs=>∃ mA,h.Ns1 a mA/\∀ f,FH (fs.lookup f) (mA f)
 | .rng lo hi=>∃ t u v,h.get? a=some { cls:=.type "range", data:=.fields #[.int lo t,.int hi u,.int 1 v] }
 | .frz o u=>h.get? a=some o/\bT H h a u
 | .tbl ps=>h.get? a=some { cls:=.none,data:=.fields ps }
 | .met f x=>h.get? a=some (PySem.W.methodObj (.ref f) (.ref x))
 | .ext φ=>φ h/\(∃ o,h.get? a=some o)/\∀ h1 h2:Heap,φ h1->(∀ o,h1.get? a=some o->h2.get? a=some o)->φ h2
def HOk (H:Hp) (h:Heap):Prop:=∀ a o,H a=some o->bT P w H h a o
end
section
variable {P:Program} {w:World} {H H':Hp} {h h':Heap} {a:Addr} {o:HO}
theorem bT.lt (x:bT P w H h a o):a < h.objs.size:=by
 cases o with
 | lst xs=>obtain ⟨_,_,_,_,e⟩:=x;exact Im e
 | tup xs=>obtain ⟨_,_,_,p⟩:=x;exact p.lt
 | dK kvs=>obtain ⟨_,_,_,_,o,_,_,e,_⟩:=x;exact Im e
 | dT kvs=>obtain ⟨_,_,_,_,o,_,_,e,_⟩:=x;exact Im e
 | dD ep xs=>obtain ⟨_,_,_,o,_,e,_⟩:=x;exact Im e
 | set S n=>obtain ⟨o,_,_,_,e,_⟩:=x;exact Im e
 | ins C dx fs=>obtain ⟨_,_,_,e,_⟩:=x;exact Im e
 | own y=>obtain ⟨_,e⟩:=x;exact Im e
 | xd fs=>obtain ⟨_,⟨_,_,_,e,_⟩,_⟩:=x;exact Im e
 | rng lo hi=>obtain ⟨_,_,_,e⟩:=x;exact Im e
 | frz ob u=>obtain ⟨e,_⟩:=x;exact Im e
 | tbl ps=>exact Im (show h.get? a=some _ from x)
 | met f y=>exact Im (show h.get? a=some _ from x)
 | ext φ=>obtain ⟨_,⟨_,e⟩,_⟩:=x;exact Im e
theorem Paired.Gh {α β:Type} {F G:α->β->Prop}:∀ {l₁:List α} {l₂:List β},Paired F l₁ l₂->(∀ a b,F a b->G a b)->Paired G l₁ l₂
 | _,_,.nil,_=>.nil
 | _,_,.cons r t,f=>.cons (f _ _ r) (Paired.Gh t f)
theorem bT.lH (x:bT P w H h a o) (k:∀ b u,(b=a\/H b=some (.own a))->h.get? b=some u->h'.get? b=some u)
  (ho:∀ b,H b=some (.own a)->H' b=some (.own a)) (ht:∀ b xs,H b=some (.tup xs)->H' b=some (.tup xs)):bT P w H' h' a o:=by
 induction o with
 | lst xs=>obtain ⟨z,its,n,r,e⟩:=x;exact ⟨z,its,n,r,k _ _ (.inl rfl) e⟩
 | tup xs=>obtain ⟨z,its,r,ob,e,c⟩:=x;exact ⟨z,its,r,ob,k _ _ (.inl rfl) e,c⟩
 | dK kvs=>obtain ⟨z,y,vs,r,ob,es,ep,e,c⟩:=x;exact ⟨z,y,vs,r,ob,es,ep,k _ _ (.inl rfl) e,c⟩
 | dT kvs =>
  obtain ⟨z,y,xs,r,ob,es,ep,e,c⟩:=x;exact ⟨z,y,xs,Paired.Gh r fun p q z=>⟨z.1,ht _ _ z.2.1,z.2.2⟩,ob,es,ep,k _ _ (.inl rfl) e,c⟩
 | dD ep xs=>obtain ⟨z,y,nd,ob,es,e,c⟩:=x;exact ⟨z,y,nd,ob,es,k _ _ (.inl rfl) e,c⟩
 | set S n=>obtain ⟨ob,es,ep,t,e,c⟩:=x;exact ⟨ob,es,ep,t,k _ _ (.inl rfl) e,c⟩
 | ins C dx fs =>
  obtain ⟨d,z,ne,e,mA,⟨od,es,ep,e2,c⟩,r⟩:=x;exact ⟨ho _ d,z,ne,k _ _ (.inl rfl) e,mA,⟨od,es,ep,k _ _ (.inr d) e2,c⟩,r⟩
 | own y=>obtain ⟨ob,e⟩:=x;exact ⟨ob,k _ _ (.inl rfl) e⟩
 | xd fs=>obtain ⟨mA,⟨od,es,ep,e,c⟩,r⟩:=x;exact ⟨mA,⟨od,es,ep,k _ _ (.inl rfl) e,c⟩,r⟩
 | rng lo hi=>obtain ⟨t,u,v,e⟩:=x;exact ⟨t,u,v,k _ _ (.inl rfl) e⟩
 | frz ob u ih=>obtain ⟨e,q⟩:=x;exact ⟨k _ _ (.inl rfl) e,ih q⟩
 | tbl ps =>
  have e:h.get? a=some { cls:=.none,data:=.fields ps }:=x;show h'.get? a=some { cls:=.none,data:=.fields ps };exact k a _ (.inl rfl) e
 | met f y =>
  have e:h.get? a=some (PySem.W.methodObj (.ref f) (.ref y)):=x;show h'.get? a=some (PySem.W.methodObj (.ref f) (.ref y));exact k a _ (.inl rfl) e
 | ext φ=>obtain ⟨p,⟨o,e⟩,st⟩:=x;exact ⟨st _ _ p fun o q=>k _ _ (.inl rfl) q,⟨o,k _ _ (.inl rfl) e⟩,st⟩
theorem HOk.lt (x:HOk P w H h) (e:H a=some o):a < h.objs.size:=(x a o e).lt
theorem HOk.fresh (x:HOk P w H h) (e:h.objs.size<=a):H a=none:=by
 cases q:H a with
 | none=>rfl
 | some u=>exact absurd (Iu (x.lt q) e) (IG _)
theorem HOk.kept (x:HOk P w H h) (k:∀ b u,h.get? b=some u->h'.get? b=some u):HOk P w H h':=fun a o e =>
 (x a o e).lH (fun b u _ q=>k b u q) (fun _ q=>q) fun _ _ q=>q
theorem HOk.laid (x:HOk P w H h) (k:∀ b u,h.get? b=some u->h'.get? b=some u) (hp:h.objs.size<=a) (new:bT P w (upd H a o) h' a o):HOk P w (upd H a o) h':=fun b u e=>by
 have hn:=x.fresh hp;by_cases hb:b=a
 ·subst hb;rw [ar] at e;cases e;exact new
 ·rw [ak hb] at e;exact (x b u e).lH (fun c v _ q=>k c v q) (fun c q=>by rw [ak (ay q hn)];exact q) fun c xs q=>by rw [ak (ay q hn)];exact q
end
def Rd (H:Hp) (a:Addr) (u:HO):Prop:=H a=some u\/∃ o,H a=some (.frz o u)
theorem Rd.ok {P:Program} {w:World} {H:Hp} {h:Heap} {a:Addr} {u:HO} (r:Rd H a u) (x:HOk P w H h):bT P w H h a u:=by
 rcases r with r | ⟨o,r⟩
 ·exact x a u r
 ·obtain ⟨_,q⟩:=x a _ r;exact q
def Mut:Option HO->Prop
 | some (.lst _)=>True
 | some (.dK _)=>True
 | some (.dT _)=>True
 | some (.dD _ _)=>True
 | some (.set _ _)=>True
 | some (.ins _ _ _)=>True
 | some (.ext _)=>True
 | _=>False
section
variable {P:Program} {w:World} {H:Hp} {h h':Heap} {x e:Addr} {o':HO}
theorem HOk.write (ok:HOk P w H h) (mu:Mut (H x)) (he:e=x\/H e=some (.own x)) (k:∀ b u,b≠e->h.get? b=some u->h'.get? b=some u) (heo:∃ u,h'.get? e=some u)
  (new:bT P w (upd H x o') h' x o'):HOk P w (upd H x o') h':=fun b u q=>by
 have nown:∀ c y,H c=some (.own y)->c≠x:=fun c y r z=>by subst z;rw [r] at mu;exact mu
 have ntup:∀ c xs,H c=some (.tup xs)->c≠x:=fun c xs r z=>by subst z;rw [r] at mu;exact mu
 by_cases hb:b=x
 ·subst hb;rw [ar] at q;cases q;exact new
 ·rw [ak hb] at q;by_cases hbe:b=e
  ·have q':H b=some (.own x):=by
    rcases he with z | z
    ·exact absurd (hbe.trans z) hb
    ·rw [hbe];exact z
   rw [q] at q';cases q';obtain ⟨v,hv⟩:=heo;exact ⟨v,by rw [hbe];exact hv⟩
  ·refine (ok b u q).lH (fun c v hc r=>k c v ?_ r) (fun c r=>by rw [ak (nown c b r)];exact r) fun c xs r=>by rw [ak (ntup c xs r)];exact r
   rcases hc with rfl | hc
   ·exact hbe
   ·rintro rfl;rcases he with z | z
    ·exact nown c b hc z
    ·rw [hc] at z;cases z;exact hb rfl
end
structure Un (fs ex:List Addr) (H H':Hp) (h h':Heap):Prop where
 keep:∀ b o,h.get? b=some o->H b=none->b ∉ fs->b ∉ ex->h'.get? b=some o
 slot:∀ b o,h.get? b=some o->H b=none->b∈fs->b ∉ ex->∃ sl,h'.get? b=some { o with slots:=sl }
 free:∀ b o,h.get? b=some o->H b=none->b ∉ ex->H' b=none
 there:∀ b o,h.get? b=some o->b ∉ ex->∃ o',h'.get? b=some o'
 qL:∀ b xs,H b=some (.tup xs)->H' b=some (.tup xs)
 qo:∀ b o u,H b=some (.frz o u)->H' b=some (.frz o u)
 uQ:∀ b ps,H b=some (.tbl ps)->∃ more,H' b=some (.tbl (ps++more))
section
variable {fs fs' ex ex':List Addr} {H H1 H2:Hp} {h h1 h2 h':Heap} {a x e:Addr} {o:HO}
theorem Un.any (u:Un fs ex H H1 h h1) {b:Addr} {ob:Obj} (q:h.get? b=some ob) (n:H b=none) (hx:b ∉ ex):∃ sl,h1.get? b=some { ob with slots:=sl }:=by
 by_cases hb:b∈fs
 ·exact u.slot b ob q n hb hx
 ·exact ⟨ob.slots,u.keep b ob q n hb hx⟩
theorem Un.kept (k:∀ b u,h.get? b=some u->h'.get? b=some u):Un fs ex H H h h' :=
 ⟨fun b ob q _ _ _=>k b ob q,fun b ob q _ _ _=>⟨ob.slots,k b ob q⟩,fun _ _ _ n _=>n,fun b ob q _=>⟨ob,k b ob q⟩,fun _ _ q=>q,fun _ _ _ q=>q,fun _ ps q=>⟨#[],by rw [q];simp⟩⟩
theorem Un.refl:Un fs ex H H h h:=Un.kept fun _ _ q=>q
theorem Un.laid (k:∀ b u,h.get? b=some u->h'.get? b=some u) (hp:h.objs.size<=a) (hn:H a=none):Un fs ex H (upd H a o) h h' where
 keep:=fun b u q _ _ _=>k b u q
 slot:=fun b u q _ _ _=>⟨u.slots,k b u q⟩
 free:=fun b u q n _=>by rw [ak (IC (Iu (Im q) hp))];exact n
 there:=fun b u q _=>⟨u,k b u q⟩
 qL:=fun b xs q=>by rw [ak (ay q hn)];exact q
 qo:=fun b u xs q=>by rw [ak (ay q hn)];exact q
 uQ:=fun b ps q=>⟨#[],by rw [ak (ay q hn),q];simp⟩
theorem Un.write (mu:Mut (H x)) (he:e=x\/H e=some (.own x)) (k:∀ b u,b≠e->h.get? b=some u->h'.get? b=some u) (heo:∃ u,h'.get? e=some u):Un fs ex H (upd H x o) h h':=by
 have hx:∀ b,H b=none->b≠x:=fun b n z=>by subst z;rw [n] at mu;exact mu
 have hb:∀ b,H b=none->b≠e:=fun b n z=>by
  subst z;rcases he with r | r
  ·exact hx b n r
  ·rw [n] at r;cases r
 have hm:∀ b u,H b=some u->¬Mut (some u)->b≠x:=fun b u q nm z=>by subst z;rw [q] at mu;exact nm mu
 refine ⟨fun b u q n _ _=>k b u (hb b n) q,fun b u q n _ _=>⟨u.slots,k b u (hb b n) q⟩,fun b u q n _=>by rw [ak (hx b n)];exact n,fun b u q _=>?_,
  fun b xs q=>by rw [ak (hm b _ q fun z=>z)];exact q,fun b u xs q=>by rw [ak (hm b _ q fun z=>z)];exact q,fun b ps q=>⟨#[],by rw [ak (hm b _ q fun z=>z),q];simp⟩⟩
 by_cases hbe:b=e
 ·subst hbe;exact heo
 ·exact ⟨u,k b u hbe q⟩
end
noncomputable def trk (h:Heap) (H:Hp):List Addr:=(List.range h.objs.size).filter fun a=>(H a).isSome
noncomputable def vI (h:Heap) (H:Hp):Heap:=PySem.W.hideAll h (trk h H)
theorem rq (h:Heap) (H:Hp):(vI h H).objs.size=h.objs.size:=PySem.W.hideAll_size _ _
theorem vD {h:Heap} {H:Hp} {b:Addr} {o:Obj} (e:h.get? b=some o) (n:H b=none):(vI h H).get? b=some o :=
 PySem.W.hideAll_get _ e fun hm=>by
  have q:(H b).isSome=true:=(Jm.mp hm).2;rw [n] at q;simp at q
theorem ya {h:Heap} {H:Hp} {b:Addr} {o:Obj} (e:(vI h H).get? b=some o):h.get? b=some o/\H b=none:=by
 have e':h.get? b=some o:=PySem.W.of_hideAll (trk h H) e;refine ⟨e',?_⟩;cases q:H b with
 | none=>rfl
 | some x =>
  have hm:b∈trk h H:=Jm.mpr ⟨List.mem_range.mpr (Im e'),by simp [q]⟩;have z:(vI h H).get? b=none:=PySem.W.hideAll_none (trk h H) hm;rw [z] at e;cases e
noncomputable def yB (g h:Heap) (L:Addr):List (Addr×Obj):=(List.range h.objs.size).filterMap fun a=>if a=L\/(g.get? a).isSome=true then none else (h.get? a).map fun o=>(a,o)
noncomputable def rest (g h:Heap) (L d:Addr):List (Addr×Obj):=(yB g h L).filter fun p=>decide (p.1≠d)
end L2
namespace L2
open PySem PySem.Spec PyProof.Rows
structure Mod (K:Fg) (mg:Str->Option Value) (base:Heap):Prop where
 kin:K.In base
 glob:base.Ns mainGlobals mg
 blt:∃ mb,base.Ns builtinsNs mb/\∀ x:Str,x ≠ "__name__" -> mb x=bootBuiltins x
 nolimit:base.NoLimit
structure Cx where
 prog:Program
 w:World
 K:Fg
 mg:Str->Option Value
 base:Heap
 A:Around
 N:List Str
 s₀:Shared
 H₀:Hp
 env:Env
 outer:List Env
 stack:List Env
 ex:List Addr
 fn:Str->Bool
 calm:Bool
 pn:List (Addr×Obj)
 xe:Value->Shared->Prop
noncomputable def frs (l:List Env):List Addr:=l.filterMap (·.frame)
noncomputable abbrev Cx.fs (X:Cx):List Addr:=frs X.outer
def Vis (sc:Scope) (x:Str):Prop:=sc.names.lookup x=some .local\/sc.names.lookup x=some .cell\/sc.names.lookup x=some .free
def Loc (sc:Scope) (x:Str):Prop:=sc.names.lookup x=some .local\/sc.names.lookup x=some .cell
def Look (env:Env) (h:Heap) (m:Str->Option Value) (x:Str) (u:Value):Prop :=
 (env.kindOf x=some .local/\m x=some u)\/((env.kindOf x=some .cell\/env.kindOf x=some .free)/\∃ c,env.cells.lookup x=some c/\h.IsCell c (some u))
structure Cx.Ok (X:Cx):Prop where
 mod:Mod X.K X.mg X.base
 kind:X.env.scope.kind=.function
 glob:X.env.globals=mainGlobals
 blt:X.env.builtins=builtinsNs
 above:X.s₀.heap.objs.size<=X.env.locals
 inj:∀ x y c,X.env.cells.lookup x=some c->X.env.cells.lookup y=some c->x=y
 has:∀ x,(X.env.kindOf x=some .cell\/X.env.kindOf x=some .free)->∃ c,X.env.cells.lookup x=some c
 cab:∀ x c,X.fn x=true->X.env.cells.lookup x=some c->X.s₀.heap.objs.size<=c
 hd:X.calm=true->X.A.handled=none
 frames:X.A.frames=some X.stack
 stk:X.stack=X.outer\/(X.stack=X.env :: X.outer/\X.env.frame=some X.env.locals)
 exf:∀ b∈X.ex,b≠X.env.locals/\∀ x c,X.env.cells.lookup x=some c->c≠b
 bs:∀ b o,X.base.get? b=some o->X.s₀.heap.get? b=some o/\X.H₀ b=none
 bsz:X.base.objs.size<=X.s₀.heap.objs.size
 zz:∀ b o,X.base.get? b=some o->b ∉ X.ex
 Dh:∀ b∈X.ex,b ∉ X.fs
 tP:X.s₀.heap.FunFrames X.base X.outer
 frf:∀ b∈X.fs,X.H₀ b=none
structure Inv (X:Cx) (pins:List (Addr×Obj)) (σ:List (Option V)) (H:Hp) (s:Shared):Prop where
 ok:X.Ok
 os:s.os=X.s₀.os
 bare:AllBare s.gens
 base:Un X.fs X.ex X.H₀ H X.s₀.heap s.heap
 loc:∃ m,s.heap.Ns X.env.locals m/\∀ (i:Nat) (x:Str) (v:V),X.N[i]?=some x->σ[i]?=some (some v)->Vis X.env.scope x->∃ u,RelV v u/\Look X.env s.heap m x u
 cell:∀ x c,X.env.cells.lookup x=some c->∃ v,s.heap.IsCell c v
 free:H X.env.locals=none
 gL:∀ x c,X.env.cells.lookup x=some c->H c=none
 pin:∀ p∈X.pn++pins,s.heap.get? p.1=some p.2/\H p.1=none/\p.1≠X.env.locals/\p.1 ∉ X.fs/\∀ v,p.2.data≠.cell v
 hok:HOk X.prog X.w H s.heap
 len:σ.length=X.N.length
section
variable {X:Cx} {pins:List (Addr×Obj)} {σ:List (Option V)} {H H':Hp} {s:Shared} {h':Heap}
theorem Cx.Ok.GU (ok:X.Ok) {b:Addr} {o:Obj} (e:X.base.get? b=some o):b ∉ X.fs:=fun hb=>by
 have:=(ok.tP.mem hb).1;rw [e] at this;cases this
theorem Inv.bs (I:Inv X pins σ H s):∀ b o,X.base.get? b=some o->s.heap.get? b=some o/\H b=none:=fun b o e =>
 ⟨I.base.keep b o (I.ok.bs b o e).1 (I.ok.bs b o e).2 (I.ok.GU e) (I.ok.zz b o e),I.base.free b o (I.ok.bs b o e).1 (I.ok.bs b o e).2 (I.ok.zz b o e)⟩
theorem Inv.bk (I:Inv X pins σ H s):∀ b o,X.base.get? b=some o->s.heap.get? b=some o:=fun b o e=>(I.bs b o e).1
theorem Inv.mod (I:Inv X pins σ H s):Mod X.K X.mg X.base:=I.ok.mod
theorem Inv.kIn (I:Inv X pins σ H s):X.K.In s.heap:=I.ok.mod.kin.keeps I.bk
theorem Inv.lt (I:Inv X pins σ H s):X.env.locals < s.heap.objs.size:=let ⟨_,hn,_⟩:=I.loc;hn.lt
theorem Inv.sz (I:Inv X pins σ H s):X.s₀.heap.objs.size<=s.heap.objs.size:=Iy I.ok.above (Kc I.lt)
theorem Inv.Dd (I:Inv X pins σ H s) {a:Addr} (h:s.heap.objs.size<=a):a ∉ X.fs:=fun hb=>by
 obtain ⟨_,o,ho,_⟩:=I.ok.tP.mem hb;exact absurd (Iu (Im ho) (Iy I.sz h)) (IG _)
theorem Inv.cne (I:Inv X pins σ H s):∀ x c,X.env.cells.lookup x=some c->c≠X.env.locals:=fun x c e z=>by
 obtain ⟨v,o,ho,hd⟩:=I.cell x c e;obtain ⟨m,⟨o',es,ep,ho',hd',_⟩,_⟩:=I.loc;rw [z,ho'] at ho;cases ho;rw [hd'] at hd;cases hd
theorem Inv.tP (I:Inv X pins σ H s):s.heap.FunFrames X.base X.outer:=by
 have all:∀ (l:List Env),(∀ b∈frs l,b∈X.fs)->X.s₀.heap.FunFrames X.base l->s.heap.FunFrames X.base l:=by
  intro l;induction l with
  | nil=>intro _ _;trivial
  | cons env r ih =>
   intro hs hl;obtain ⟨hk,⟨L,o,hf,hn,ho,hd⟩,hr⟩:=hl;have hL:L∈X.fs:=hs L (by unfold frs;rw [List.filterMap_cons,hf];exact Ip);obtain ⟨sl,e⟩:=I.base.slot L o ho (I.ok.frf L hL) hL fun z=>I.ok.Dh L z hL;exact ⟨hk,⟨L,_,hf,hn,e,hd⟩,ih (fun b hb=>hs b (by unfold frs;rw [List.filterMap_cons,hf];exact Ie _ hb)) hr⟩
 exact all X.outer (fun _ hb=>hb) I.ok.tP
theorem Inv.stack (I:Inv X pins σ H s):s.heap.FunFrames X.base X.stack:=by
 rcases I.ok.stk with e | ⟨e,hf⟩
 ·rw [e];exact I.tP
 ·rw [e];obtain ⟨m,hn,_⟩:=I.loc;refine .cons (by rw [I.ok.kind];decide) hf hn ?_ I.tP;exact Heap.get?_none_of_le (Iy I.ok.bsz I.ok.above)
theorem Inv.p5 (I:Inv X pins σ H s):∀ b∈frs X.stack,b∈X.env.locals :: X.fs:=fun b hb=>by
 rcases I.ok.stk with e | ⟨e,hf⟩
 ·rw [e] at hb;exact Ie _ hb
 ·rw [e] at hb;unfold frs at hb;rw [List.filterMap_cons,hf] at hb;exact hb
theorem Inv.oG (I:Inv X pins σ H s):∀ b∈frs X.stack,H b=none:=fun b hb=>by
 rcases Il.mp (I.p5 b hb) with e | hb
 ·rw [e];exact I.free
 ·obtain ⟨_,o,ho,_⟩:=I.ok.tP.mem hb;exact I.base.free b o ho (I.ok.frf b hb) fun z=>I.ok.Dh b z hb
theorem Inv.step {g':Array GenState} {t':Nat} {d':Drawn} {ch:List Addr} (I:Inv X pins σ H s)
  (hch:∀ b∈ch,(b∈X.ex\/X.s₀.heap.objs.size<=b)/\b≠X.env.locals/\(∀ x c,X.env.cells.lookup x=some c->c≠b)/\∀ p∈X.pn++pins,p.1≠b)
  (keep:∀ b o,b≠X.env.locals->b ∉ X.fs->b ∉ ch->s.heap.get? b=some o->H b=none->h'.get? b=some o)
  (slot:∀ b o,b≠X.env.locals->b∈X.fs->b ∉ ch->s.heap.get? b=some o->H b=none->∃ sl,h'.get? b=some { o with slots:=sl }) (free:∀ b o,b ∉ ch->s.heap.get? b=some o->H b=none->H' b=none)
  (there:∀ b o,b ∉ ch->s.heap.get? b=some o->∃ o',h'.get? b=some o')
  (qL:∀ b xs,H b=some (.tup xs)->H' b=some (.tup xs)) (qo:∀ b o u,H b=some (.frz o u)->H' b=some (.frz o u)) (uQ:∀ b ps,H b=some (.tbl ps)->∃ more,H' b=some (.tbl (ps++more)))
  (ns:∀ m,s.heap.Ns X.env.locals m->h'.Ns X.env.locals m) (hok:HOk X.prog X.w H' h') (hg:AllBare g') :
  Inv X pins σ H' { s with heap:=h',gens:=g',drawn:=d',toks:=t' }:=by
 have neL:∀ b o,X.s₀.heap.get? b=some o->b≠X.env.locals:=fun b o e=>IC (Iu (Im e) I.ok.above);have neC:∀ b o,X.s₀.heap.get? b=some o->b ∉ X.ex->b ∉ ch:=fun b o e hx hb=>by
  rcases (hch b hb).1 with z | z
  ·exact hx z
  ·exact absurd (Iu (Im e) z) (IG _)
 have cellK:∀ x c,X.env.cells.lookup x=some c->∀ v,s.heap.IsCell c v->h'.IsCell c v:=fun x c e v ⟨o,ho,hd⟩=>by
  have nch:c ∉ ch:=fun z=>(hch c z).2.2.1 x c e rfl;by_cases hc:c∈X.fs
  ·obtain ⟨sl,q⟩:=slot c o (I.cne x c e) hc nch ho (I.gL x c e);exact ⟨_,q,hd⟩
  ·exact ⟨o,keep c o (I.cne x c e) hc nch ho (I.gL x c e),hd⟩
 refine ⟨I.ok,I.os,hg,⟨fun b o e n hb hx=>?_,fun b o e n hb hx=>?_,fun b o e n hx=>?_,fun b o e hx=>?_,fun b xs e=>qL b xs (I.base.qL b xs e),fun b o xs e=>qo b o xs (I.base.qo b o xs e),fun b ps e=>?_⟩,?_,fun x c e=>?_,?_,fun x c e=>?_,fun p hp=>?_,hok,I.len⟩
 ·exact keep b o (neL b o e) hb (neC b o e hx) (I.base.keep b o e n hb hx) (I.base.free b o e n hx)
 ·obtain ⟨sl,e1⟩:=I.base.slot b o e n hb hx;obtain ⟨sl',e2⟩:=slot b _ (neL b o e) hb (neC b o e hx) e1 (I.base.free b o e n hx);exact ⟨sl',e2⟩
 ·obtain ⟨o',e1⟩:=I.base.there b o e hx;exact free b o' (neC b o e hx) e1 (I.base.free b o e n hx)
 ·obtain ⟨o',e1⟩:=I.base.there b o e hx;exact there b o' (neC b o e hx) e1
 ·obtain ⟨m1,e1⟩:=I.base.uQ b ps e;obtain ⟨m2,e2⟩:=uQ b _ e1;exact ⟨m1++m2,by rw [e2,Array.append_assoc]⟩
 ·obtain ⟨m,hn,hl⟩:=I.loc;refine ⟨m,ns m hn,fun i x v e1 e2 e3=>?_⟩;obtain ⟨u,r,l⟩:=hl i x v e1 e2 e3;refine ⟨u,r,?_⟩;rcases l with l | ⟨k,c,e,z⟩
  ·exact .inl l
  ·exact .inr ⟨k,c,e,cellK x c e _ z⟩
 ·obtain ⟨v,z⟩:=I.cell x c e;exact ⟨v,cellK x c e v z⟩
 ·obtain ⟨m,⟨o,_,_,ho,_⟩,_⟩:=I.loc;exact free _ o (fun z=>(hch _ z).2.1 rfl) ho I.free
 ·obtain ⟨v,o,ho,hd⟩:=I.cell x c e;exact free c o (fun z=>(hch c z).2.2.1 x c e rfl) ho (I.gL x c e)
 ·obtain ⟨e,n,ne,nf,d⟩:=I.pin p hp;have nch:p.1 ∉ ch:=fun z=>(hch p.1 z).2.2.2 p hp rfl;exact ⟨keep p.1 p.2 ne nf nch e n,free p.1 p.2 nch e n,ne,nf,d⟩
theorem Inv.un {t':Nat} (I:Inv X pins σ H s) (u:Un X.fs [] H H' s.heap h') (hok:HOk X.prog X.w H' h'):Inv X pins σ H' { s with heap:=h',toks:=t' }:=by
 obtain ⟨m,⟨o,es,ep,ho,r⟩,_⟩:=id I.loc;obtain ⟨sl,hL⟩:=u.any ho I.free (by simp)
 exact I.step (g':=s.gens) (d':=s.drawn) (ch:=[]) (fun _ z=>nomatch z) (fun b o _ hb _ e n=>u.keep b o e n hb (by simp)) (fun b o _ hb _ e n=>u.slot b o e n hb (by simp)) (fun b o _ e n=>u.free b o e n (by simp)) (fun b o _ e=>u.there b o e (by simp)) u.qL u.qo u.uQ (fun m' hm=>by
  obtain ⟨o',es',ep',ho',r'⟩:=hm;rw [ho] at ho';cases ho'
  exact ⟨_,es',ep',hL,r'⟩) hok I.bare
theorem Inv.call {g':Array GenState} {t':Nat} {d':Drawn} {ch:List Addr} (I:Inv X pins σ H s) (u:Un (frs X.stack) ch H H' s.heap h') (hok:HOk X.prog X.w H' h') (hg:AllBare g')
  (hch:∀ b∈ch,(b∈X.ex\/X.s₀.heap.objs.size<=b)/\b≠X.env.locals/\(∀ x c,X.env.cells.lookup x=some c->c≠b)/\∀ p∈X.pn++pins,p.1≠b) :
  Inv X pins σ H' { s with heap:=h',gens:=g',drawn:=d',toks:=t' }:=by
 obtain ⟨m,⟨o,es,ep,ho,r⟩,_⟩:=id I.loc;obtain ⟨sl,hL⟩:=u.any ho I.free fun z=>(hch _ z).2.1 rfl
 exact I.step (ch:=ch) hch (fun b o hL hb hc e n=>u.keep b o e n (fun z=>(Il.mp (I.p5 b z)).elim hL hb) hc) (fun b o _ _ hc e n=>u.any e n hc) (fun b o hc e n=>u.free b o e n hc) (fun b o hc e=>u.there b o e hc) u.qL u.qo u.uQ (fun m' hm=>by
  obtain ⟨o',es',ep',ho',r'⟩:=hm;rw [ho] at ho';cases ho'
  exact ⟨_,es',ep',hL,r'⟩) hok hg
theorem Inv.turned {t':Nat} {it:Addr} (I:Inv X pins σ H s) (k:∀ b o,b≠it->s.heap.get? b=some o->h'.get? b=some o) (hn:H it=none) (hL:it≠X.env.locals)
  (h1:it∈X.ex\/X.s₀.heap.objs.size<=it) (h2:∀ x c,X.env.cells.lookup x=some c->c≠it) (h3:∀ p∈X.pn++pins,p.1≠it):Inv X pins σ H { s with heap:=h',toks:=t' }:=by
 have nit:∀ b u,H b=some u->b≠it:=fun b u e z=>by rw [z,hn] at e;cases e
 refine I.step (g':=s.gens) (d':=s.drawn) (ch:=[it]) (fun b hb=>?_) (fun b o _ _ hc e _=>k b o (fun z=>hc (by simp [z])) e) (fun b o _ _ hc e _=>⟨o.slots,k b o (fun z=>hc (by simp [z])) e⟩) (fun _ _ _ _ n=>n)
  (fun b o hc e=>⟨o,k b o (fun z=>hc (by simp [z])) e⟩) (fun _ _ e=>e) (fun _ _ _ e=>e) (fun b ps e=>⟨#[],by rw [e];simp⟩) (fun m hm=>?_) (fun b u e=>?_) I.bare
 ·have e:b=it:=by simpa using hb
  subst e;exact ⟨h1,hL,h2,h3⟩
 ·obtain ⟨o,es,ep,ho,r⟩:=hm;exact ⟨o,es,ep,k _ o (Ne.symm hL) ho,r⟩
 ·refine (I.hok b u e).lH (fun c v hc q=>k c v ?_ q) (fun _ q=>q) fun _ _ q=>q;rcases hc with z | z
  ·rw [z];exact nit b u e
  ·exact nit c _ z
theorem Inv.tok (I:Inv X pins σ H s) (t:Nat):Inv X pins σ H { s with toks:=t }:=I.un (h':=s.heap) (t':=t) Un.refl I.hok
theorem Inv.kept {t':Nat} (I:Inv X pins σ H s) (k:∀ b u,s.heap.get? b=some u->h'.get? b=some u):Inv X pins σ H { s with heap:=h',toks:=t' }:=I.un (Un.kept k) (I.hok.kept k)
theorem Inv.laid {a:Addr} {o:HO} {t':Nat} (I:Inv X pins σ H s) (k:∀ b u,s.heap.get? b=some u->h'.get? b=some u) (hp:s.heap.objs.size<=a) (new:bT X.prog X.w (upd H a o) h' a o) :
  Inv X pins σ (upd H a o) { s with heap:=h',toks:=t' }:=I.un (Un.laid k hp (I.hok.fresh hp)) (I.hok.laid k hp new)
theorem Inv.write {x e:Addr} {o:HO} {t':Nat} (I:Inv X pins σ H s) (mu:Mut (H x)) (he:e=x\/H e=some (.own x)) (k:∀ b u,b≠e->s.heap.get? b=some u->h'.get? b=some u) (heo:∃ u,h'.get? e=some u)
  (new:bT X.prog X.w (upd H x o) h' x o):Inv X pins σ (upd H x o) { s with heap:=h',toks:=t' }:=I.un (Un.write mu he k heo) (I.hok.write mu he k heo new)
theorem Inv.ee {pins':List (Addr×Obj)} (I:Inv X pins σ H s) (h:∀ p∈pins',s.heap.get? p.1=some p.2/\H p.1=none/\p.1≠X.env.locals/\p.1 ∉ X.fs/\∀ v,p.2.data≠.cell v):Inv X pins' σ H s :=
 ⟨I.ok,I.os,I.bare,I.base,I.loc,I.cell,I.free,I.gL,fun p hp=>(IK.mp hp).elim (fun z=>I.pin p (IM _ z)) (h p),I.hok,I.len⟩
theorem pq {N:List Str} (hN:N.Nodup) {i j:Nat} {x:Str} (a:N[i]?=some x) (b:N[j]?=some x):i=j:=by
 obtain ⟨h1,e1⟩:=HX.mp a;obtain ⟨h2,e2⟩:=HX.mp b;exact (List.getElem_inj hN).mp (e1.trans e2.symm)
theorem tY {M:Model} {A:Around} {E:Value->Shared->Prop} {i:Nat} {x:Str} {v:V} {u:Value} {Q:Unit->Shared->Prop} (I:Inv X pins σ H s) (hN:X.N.Nodup) (hi:X.N[i]?=some x) (hx:Loc X.env.scope x) (r:RelV v u)
  (h:∀ s',Inv X pins (σ.set i (some v)) H s'->(∃ a,Heap.SameBut a s.heap s'.heap/\(a=X.env.locals\/X.env.cells.lookup x=some a))->Q () s') (hf:X.fn x=true\/X.env.scope.names.lookup x=some .local:=by first | exact .inl rfl | exact .inr rfl | assumption):wpAny M A (storeName X.env x u) Q E s:=by
 obtain ⟨m,hn,hl⟩:=id I.loc;have hcls:(X.env.scope.kind==.class||(X.env.scope.kind==.module&&X.env.locals != X.env.globals))=false:=by rw [I.ok.kind];rfl
 have hiσ:i < σ.length:=by rw [I.len];exact (HX.mp hi).1
 have cne:=I.cne;have tracked:∀ {a:Addr} {h':Heap},(∃ o,s.heap.get? a=some o/\H a=none)->Heap.SameBut a s.heap h'->HOk X.prog X.w H h':=fun {a h'} ha hs b ob e=>by
  obtain ⟨_,_,hfree⟩:=ha;refine (I.hok b ob e).lH (fun c w' hc q=>(hs.2 c ?_).trans q) (fun _ q=>q) fun _ _ q=>q;rintro rfl;rcases hc with rfl | hc
  ·rw [hfree] at e;cases e
  ·rw [hfree] at hc;cases hc
 rcases hx with hk | hk
 ·refine wpAny_storeName_local hk hn (fun h' hn' hs=>?_) hcls;obtain ⟨oL,_,_,hoL,_⟩:=id hn;refine h _ ⟨I.ok,I.os,I.bare,⟨fun b o e n hb hx=>?_,fun b o e n hb hx=>?_,I.base.free,fun b o e hx=>?_,I.base.qL,I.base.qo,I.base.uQ⟩,⟨_,hn',fun j y v' e1 e2 e3=>?_⟩,fun y c e=>?_,I.free,I.gL,fun p hp=>?_,tracked ⟨oL,hoL,I.free⟩ hs,by simpa using I.len⟩ ⟨_,hs,.inl rfl⟩
  ·exact (hs.2 b (IC (Iu (Im e) I.ok.above))).trans (I.base.keep b o e n hb hx)
  ·obtain ⟨sl,e1⟩:=I.base.slot b o e n hb hx;exact ⟨sl,(hs.2 b (IC (Iu (Im e) I.ok.above))).trans e1⟩
  ·obtain ⟨o',e1⟩:=I.base.there b o e hx;exact ⟨o',(hs.2 b (IC (Iu (Im e) I.ok.above))).trans e1⟩
  ·by_cases hj:j=i
   ·subst hj;rw [hi] at e1;cases e1;rw [Ih hiσ] at e2;cases e2;exact ⟨u,r,.inl ⟨hk,by simp⟩⟩
   ·rw [HW (Ne.symm hj)] at e2;obtain ⟨u',r',q⟩:=hl j y v' e1 e2 e3;refine ⟨u',r',?_⟩;rcases q with ⟨k,e⟩ | ⟨k,c,e,z⟩
    ·refine .inl ⟨k,?_⟩;have:y≠x:=fun e=>hj (pq hN e1 (e▸hi));simp [this,e]
    ·exact .inr ⟨k,c,e,z.sameBut hs (cne y c e)⟩
  ·obtain ⟨w',z⟩:=I.cell y c e;exact ⟨w',z.sameBut hs (cne y c e)⟩
  ·obtain ⟨e,n,ne,nf,d⟩:=I.pin p hp;exact ⟨(hs.2 p.1 ne).trans e,n,ne,nf,d⟩
 ·have hfn:X.fn x=true:=by
   rcases hf with z | z
   ·exact z
   ·rw [z] at hk;cases hk
  obtain ⟨c,hc⟩:=I.ok.has x (.inl hk);obtain ⟨w',z⟩:=I.cell x c hc;refine wpAny_storeName_cell I.ok.kind hk hc z (fun h' hc' hs=>?_);obtain ⟨oc,hoc,hocd⟩:=id z;refine h { s with heap:=h' } ⟨I.ok,I.os,I.bare,⟨fun b o e n hb hx=>?_,fun b o e n hb hx=>?_,I.base.free,fun b o e hx=>?_,I.base.qL,I.base.qo,I.base.uQ⟩,⟨m,hn.sameBut hs (Ne.symm (cne x c hc)),fun j y v' e1 e2 e3=>?_⟩,fun y c' e=>?_,I.free,I.gL,fun p hp=>?_,tracked ⟨oc,hoc,I.gL x c hc⟩ hs,by simpa using I.len⟩ ⟨c,hs,.inr hc⟩
  ·exact (hs.2 b (IC (Iu (Im e) (I.ok.cab x c hfn hc)))).trans (I.base.keep b o e n hb hx)
  ·obtain ⟨sl,e1⟩:=I.base.slot b o e n hb hx;exact ⟨sl,(hs.2 b (IC (Iu (Im e) (I.ok.cab x c hfn hc)))).trans e1⟩
  ·obtain ⟨o',e1⟩:=I.base.there b o e hx;exact ⟨o',(hs.2 b (IC (Iu (Im e) (I.ok.cab x c hfn hc)))).trans e1⟩
  ·by_cases hj:j=i
   ·subst hj;rw [hi] at e1;cases e1;rw [Ih hiσ] at e2;cases e2;exact ⟨u,r,.inr ⟨.inl hk,c,hc,hc'⟩⟩
   ·rw [HW (Ne.symm hj)] at e2;obtain ⟨u',r',q⟩:=hl j y v' e1 e2 e3;refine ⟨u',r',?_⟩;rcases q with q | ⟨k,c',e,z'⟩
    ·exact .inl q
    ·refine .inr ⟨k,c',e,z'.sameBut hs ?_⟩;rintro rfl;exact hj (pq hN e1 (I.ok.inj _ _ _ e hc▸hi))
  ·by_cases hcc:c'=c
   ·subst hcc;exact ⟨_,hc'⟩
   ·obtain ⟨w2,z2⟩:=I.cell y c' e;exact ⟨w2,z2.sameBut hs hcc⟩
  ·obtain ⟨e,n,ne,nf,d⟩:=I.pin p hp;refine ⟨(hs.2 p.1 ?_).trans e,n,ne,nf,d⟩;intro q;rw [q,hoc] at e;have q':oc=p.2:=Ja e;exact d w' (by rw [<- q'];exact hocd)
theorem pQ {M:Model} {A:Around} {E:Value->Shared->Prop} {i:Nat} {x:Str} {v:V} {u:Value} {Q:Unit->Shared->Prop} (I:Inv X pins σ H s) (hN:X.N.Nodup) (hi:X.N[i]?=some x) (hx:Loc X.env.scope x) (r:RelV v u)
  (h:∀ s',Inv X pins (σ.set i (some v)) H s'->Q () s') (hf:X.fn x=true\/X.env.scope.names.lookup x=some .local:=by first | exact .inl rfl | exact .inr rfl | assumption):wpAny M A (storeName X.env x u) Q E s :=
 tY I hN hi hx r (fun s' I' _=>h s' I') hf
end
abbrev XK:=Value->Option Addr->Hp->Prop
abbrev St:=List (Option V)
abbrev VK:=V->Hp->Prop
abbrev TE:=St->Hp->VK->Prop
abbrev TT:=St->Hp->(Bool->Hp->Prop)->Prop
abbrev TA:=St->Hp->(List V->Hp->Prop)->Prop
structure Ends where
 nx:St->Hp->Prop
 rt:VK
 bk:St->Hp->Prop:=fun _ _=>False
 ct:St->Hp->Prop:=fun _ _=>False
abbrev TS:=Ends->St->Hp->Prop
def EP (X:Cx) (pins:List (Addr×Obj)) (σ:St) (Q:VK) (u:Value) (s':Shared):Prop:=∃ v H',Inv X pins σ H' s'/\RelV v u/\Q v H'
def TP (X:Cx) (pins:List (Addr×Obj)) (σ:St) (Q:Bool->Hp->Prop) (b:Bool) (s':Shared):Prop:=∃ H',Inv X pins σ H' s'/\Q b H'
def AP (X:Cx) (pins:List (Addr×Obj)) (σ:St) (Q:List V->Hp->Prop) (us:List Value) (s':Shared):Prop:=∃ vs H',Inv X pins σ H' s'/\Vals vs us/\Q vs H'
def SP (X:Cx) (pins:List (Addr×Obj)) (D:Ends) (f:Flow) (s':Shared):Prop :=
 match f with
 | .next=>∃ σ' H',Inv X pins σ' H' s'/\D.nx σ' H'
 | .brk=>∃ σ' H',Inv X pins σ' H' s'/\D.bk σ' H'
 | .cont=>∃ σ' H',Inv X pins σ' H' s'/\D.ct σ' H'
 | .ret u=>∃ v σ' H',Inv X pins σ' H' s'/\RelV v u/\D.rt v H'
def PE (X:Cx) (e:Expr) (t:TE):Prop :=
 ∀ (pins:List (Addr×Obj)) (s:Shared) (σ:St) (H:Hp) (Q:VK),Inv X pins σ H s->t σ H Q->wpAny (model X.prog X.w) X.A (eval e X.env) (EP X pins σ Q) X.xe s
def PT (X:Cx) (e:Expr) (t:TT):Prop :=
 ∀ (pins:List (Addr×Obj)) (s:Shared) (σ:St) (H:Hp) (Q:Bool->Hp->Prop),Inv X pins σ H s->t σ H Q->wpAny (model X.prog X.w) X.A (isTrue e X.env (eval e X.env)) (TP X pins σ Q) X.xe s
def PW (X:Cx) (e:Expr) (t:TT):Prop :=
 ∀ (whole:Sem Value) (pins:List (Addr×Obj)) (s:Shared) (σ:St) (H:Hp) (Q:Bool->Hp->Prop),Inv X pins σ H s->t σ H Q->wpAny (model X.prog X.w) X.A (isTrue e X.env whole) (TP X pins σ Q) X.xe s
theorem PW.pt {X:Cx} {e:Expr} {t:TT} (h:PW X e t):PT X e t:=h _
def PA (X:Cx) (es:List Expr) (t:TA):Prop :=
 ∀ (pos:Pos) (pins:List (Addr×Obj)) (s:Shared) (σ:St) (H:Hp) (Q:List V->Hp->Prop),Inv X pins σ H s->t σ H Q->wpAny (model X.prog X.w) X.A (spliced (backTo pos (starEach es X.env))) (AP X pins σ Q) X.xe s
def PS (X:Cx) (st:Stmt) (t:TS):Prop :=
 ∀ (pins:List (Addr×Obj)) (s:Shared) (σ:St) (H:Hp) (D:Ends),Inv X pins σ H s->t D σ H->wpAny (model X.prog X.w) X.A (exec st X.env) (SP X pins D) X.xe s
def PSs (X:Cx) (st:List Stmt) (t:TS):Prop :=
 ∀ (pins:List (Addr×Obj)) (s:Shared) (σ:St) (H:Hp) (D:Ends),Inv X pins σ H s->t D σ H->wpAny (model X.prog X.w) X.A (execs st X.env) (SP X pins D) X.xe s
theorem thn {α:Type} {t:Sem α} {Q Q':α->Shared->Prop} {M:Model} {A:Around} {E:Value->Shared->Prop} {s:Shared} (h:wpAny M A t Q E s) (hQ:∀ a s,Q a s->Q' a s):wpAny M A t Q' E s:=IJ h hQ fun _ _ x=>x
end L2
namespace L2
open PySem PySem.Spec PyProof.Rows
section
variable {X:Cx}
theorem bin {a b:Expr} {ta tb:TE} (ha:PE X a ta) (hb:PE X b tb) {pins:List (Addr×Obj)} {s:Shared} {σ:St} {H:Hp} {R:V->V->Hp->Prop} (I:Inv X pins σ H s) (h:ta σ H fun x H1=>tb σ H1 fun y H2=>R x y H2)
  {α:Type} {Q:α->Shared->Prop} {f:Value->Value->Sem α}
  (hf:∀ v u s2 x y H2,Inv X pins σ H2 s2->RelV x v->RelV y u->R x y H2->wpAny (model X.prog X.w) X.A (f v u) Q X.xe s2) :
  wpAny (model X.prog X.w) X.A (eval a X.env) (fun v s₁=>wpAny (model X.prog X.w) X.A (eval b X.env) (fun u s₂=>wpAny (model X.prog X.w) X.A (f v u) Q X.xe s₂) X.xe s₁) X.xe s:=by
 refine thn (ha pins s σ H _ I h) fun v s1 ⟨x,H1,I1,r1,q1⟩=>?_;refine thn (hb pins s1 σ H1 _ I1 q1) fun u s2 ⟨y,H2,I2,r2,q2⟩=>?_;exact hf v u s2 x y H2 I2 r1 r2 q2
def qO (i:Nat):TE:=fun σ H Q=>∃ v,σ[i]?=some (some v)/\Q v H
def tC (v:V):TE:=fun _ H Q=>Q v H
theorem wm {i:Nat} {x:Str} {pos:Pos} (hN:X.N[i]?=some x) (hv:Vis X.env.scope x) (hd:(x==("__debug__" : Str))=false:=by decide) (hcd:(x==("__classdict__" : Str))=false:=by decide):PE X (.Name x pos) (qO i):=by
 intro pins s σ H Q I h;obtain ⟨v,e,h⟩:=h;obtain ⟨m,hn,hl⟩:=I.loc;obtain ⟨u,r,l⟩:=hl i x v hN e hv;have fin:EP X pins σ Q u s:=⟨v,H,I,r,h⟩;rcases l with ⟨hk,hm⟩ | ⟨hk,c,hc,hcell⟩
 ·exact wpAny_Name (wpAny_loadName_local I.ok.kind hk hn hm fin) hd
 ·rcases hk with hk | hk
  ·exact wpAny_Name (wpAny_loadName_cell I.ok.kind hk hc hcell fin) hd
  ·exact wpAny_Name (wpAny_loadName_free I.ok.kind hk hc hcell fin hcd) hd
theorem By {i j pos}:PE X (.Constant (.int i) j pos) (tC (.int i)):=fun _ _ _ H _ I h=>wpAny_Constant_int ⟨.int i,H,I.tok _,⟨_,rfl⟩,h⟩
theorem E9 {b j pos}:PE X (.Constant (.bool b) j pos) (tC (.bl b)):=fun _ _ _ H _ I h=>Constant_bool ⟨.bl b,H,I,rfl,h⟩
theorem AF {j pos}:PE X (.Constant .none j pos) (tC .non):=fun _ _ _ H _ I h=>Constant_none ⟨.non,H,I,rfl,h⟩
theorem BG {x j pos}:PE X (.Constant (.str x) j pos) (tC (.str x)):=fun _ _ _ H _ I h=>Calls.Constant_str ⟨.str x,H,I.tok _,⟨_,rfl⟩,h⟩
def Gl (X:Cx) (x:Str):Prop:=X.env.kindOf x=some .globalImplicit
theorem tK {E:Value->Shared->Prop} {pins:List (Addr×Obj)} {s:Shared} {σ:St} {H:Hp} {x:Str} {u:Value} {pos:Pos} {Q:Value->Shared->Prop} (I:Inv X pins σ H s) (hg:Gl X x) (hm:X.mg x=some u) (h:Q u s)
  (hd:(x==("__debug__" : Str))=false:=by decide):wpAny (model X.prog X.w) X.A (eval (.Name x pos) X.env) Q E s :=
 Calls.Name_function_global I.ok.kind hg (Calls.loadGlobal_global (by rw [I.ok.glob];exact I.mod.glob.keeps I.bk) hm h) hd
theorem qc {E:Value->Shared->Prop} {pins:List (Addr×Obj)} {s:Shared} {σ:St} {H:Hp} {x:Str} {u:Value} {pos:Pos} {Q:Value->Shared->Prop} (I:Inv X pins σ H s) (hg:Gl X x) (hm:X.mg x=none) (hv:bootBuiltins x=some u) (h:Q u s)
  (hn:x ≠ "__name__" := by decide) (hd:(x==("__debug__" : Str))=false:=by decide):wpAny (model X.prog X.w) X.A (eval (.Name x pos) X.env) Q E s:=by
 obtain ⟨mb,h1,h2⟩:=I.mod.blt;exact Calls.Name_function_global I.ok.kind hg (Calls.loadGlobal_builtin (by rw [I.ok.glob];exact I.mod.glob.keeps I.bk) hm (by rw [I.ok.blt];exact h1.keeps I.bk) ((h2 x hn).trans hv) h) hd
theorem zy {x:Str} {v:V} {u:Value} {pos:Pos} (hg:Gl X x) (hm:X.mg x=some u) (r:RelV v u) (hd:(x==("__debug__" : Str))=false:=by decide):PE X (.Name x pos) (tC v) :=
 fun _ _ _ H _ I h=>tK I hg hm ⟨v,H,I,r,h⟩ hd
theorem yk {x:Str} {v:V} {u:Value} {pos:Pos} (hg:Gl X x) (hm:X.mg x=none) (hv:bootBuiltins x=some u) (r:RelV v u) (hn:x ≠ "__name__" := by decide) (hd:(x==("__debug__" : Str))=false:=by decide):PE X (.Name x pos) (tC v) :=
 fun _ _ _ H _ I h=>qc I hg hm hv ⟨v,H,I,r,h⟩ hn hd
variable {a b:Expr} {ta tb:TE} {pos:Pos}
def PC (X:Cx) (op:CmpOp) (a b:Expr) (t:TE):Prop :=
 ∀ (pins:List (Addr×Obj)) (s:Shared) (σ:St) (H:Hp) (Q:VK),Inv X pins σ H s->t σ H Q ->
  wpAny (model X.prog X.w) X.A (eval a X.env) (fun v s₁=>wpAny (model X.prog X.w) X.A (eval b X.env) (fun u s₂=>wpAny (model X.prog X.w) X.A (compareOp op v u) (EP X pins σ Q) X.xe s₂) X.xe s₁) X.xe s
theorem pE (b:Expr) {op:CmpOp} (h:op≠.In) (h2:op≠.NotIn):behindInMarks op b=false:=by
 have e1:(op==CmpOp.In)=false:=by cases op <;> first | rfl | exact absurd rfl h
 have e2:(op==CmpOp.NotIn)=false:=by cases op <;> first | rfl | exact absurd rfl h2
 cases b <;> simp [behindInMarks,e1,e2]
def tB (t:TE):TT:=fun σ H Q=>t σ H fun x H1=>∃ c,x=.bl c/\Q c H1
theorem A8 {op:CmpOp} {t:TE} (h:PC X op a b t) (h1:behindInMarks op b=false:=by first | exact pE _ (by decide) (by decide) | rfl):PE X (.Compare a [op] [b] pos) t:=fun pins s σ H Q I hw=>wpAny_Compare1 (h pins s σ H Q I hw) h1
theorem wk {op:CmpOp} {t:TE} (h:PC X op a b t) (h1:behindInMarks op b=false:=by first | exact pE _ (by decide) (by decide) | rfl):PT X (.Compare a [op] [b] pos) (tB t):=by
 intro pins s σ H Q I hw;refine wpAny_isTrue_Compare1 (thn (h pins s σ H _ I hw) fun v s1 h1=>thn h1 fun u s2 h2=>thn h2 fun c s3 ⟨x,H1,I1,r1,q1⟩=>?_) h1;obtain ⟨d,rfl,q⟩:=q1;cases r1;exact Jf ⟨H1,I1,q⟩
theorem BC {e:Expr} {t:TE} (h:PE X e t) (he:∀ whole,isTrue e X.env whole=(do let v<-whole;standAt e.pos;holding [v] (truthy v)):=by intro _;rfl):PT X e (tB t):=by
 intro pins s σ H Q I hw;refine isTrue_plain (thn (h pins s σ H _ I hw) fun v s1 ⟨x,H1,I1,r1,q1⟩=>?_) (he _);obtain ⟨d,rfl,q⟩:=q1;cases r1;exact Jf ⟨H1,I1,q⟩
variable {tA tB':TT} {rest:List Expr}
def Fj (t u:TT):TT:=fun σ H Q=>t σ H fun c H1=>if c=true then u σ H1 Q else Q false H1
def tOr (t u:TT):TT:=fun σ H Q=>t σ H fun c H1=>if c=true then Q true H1 else u σ H1 Q
def D4 (t:TT):TT:=fun σ H Q=>t σ H fun c H1=>Q (!c) H1
theorem pw_and1 (ha:PT X a tA):PW X (.BoolOp .And [a] pos) tA:=by
 intro wh pins s σ H Q I h;refine isTrue_and (thn (ha pins s σ H Q I h) fun c s1 e=>?_);cases c with
 | true=>exact isTrue_and_nil e
 | false=>exact e
theorem pw_or1 (ha:PT X a tA):PW X (.BoolOp .Or [a] pos) tA:=by
 intro wh pins s σ H Q I h;refine isTrue_or (thn (ha pins s σ H Q I h) fun c s1 e=>?_);cases c with
 | false=>exact isTrue_or_nil e
 | true=>exact e
theorem pw_and (ha:PT X a tA) (hb:PW X (.BoolOp .And (b :: rest) pos) tB'):PW X (.BoolOp .And (a :: b :: rest) pos) (Fj tA tB'):=by
 intro wh pins s σ H Q I h;refine isTrue_and (thn (ha pins s σ H _ I h) fun c s1 ⟨H1,I1,q1⟩=>?_);cases c with
 | true=>exact hb wh pins s1 σ H1 Q I1 q1
 | false=>exact ⟨H1,I1,q1⟩
theorem pw_or (ha:PT X a tA) (hb:PW X (.BoolOp .Or (b :: rest) pos) tB'):PW X (.BoolOp .Or (a :: b :: rest) pos) (tOr tA tB'):=by
 intro wh pins s σ H Q I h;refine isTrue_or (thn (ha pins s σ H _ I h) fun c s1 ⟨H1,I1,q1⟩=>?_);cases c with
 | true=>exact ⟨H1,I1,q1⟩
 | false=>exact hb wh pins s1 σ H1 Q I1 q1
theorem Bv (ha:PT X a tA):PT X (.UnaryOp .Not a pos) (D4 tA):=by
 intro pins s σ H Q I h;exact isTrue_not (ha pins s σ H (fun c H1=>Q (!c) H1) I h)
def xt (ta tb:TE):TE:=fun σ H Q=>ta σ H fun x H1=>∃ c,x=.bl c/\if c=true then tb σ H1 Q else Q (.bl false) H1
def DG (ta tb:TE):TE:=fun σ H Q=>ta σ H fun x H1=>∃ c,x=.bl c/\if c=true then Q (.bl true) H1 else tb σ H1 Q
def xK (ta:TE):TE:=fun σ H Q=>ta σ H fun x H1=>∃ c,x=.bl c/\Q (.bl (!c)) H1
theorem Bz {op} {t:TE} (h:PE X a t):PE X (.BoolOp op [a] pos) t:=fun pins s σ H Q I hw=>BoolOp_one (h pins s σ H Q I hw)
theorem Ad (ha:PE X a ta) (hb:PE X (.BoolOp .And (b :: rest) pos) tb):PE X (.BoolOp .And (a :: b :: rest) pos) (xt ta tb):=by
 intro pins s σ H Q I h;refine BoolOp_and (thn (ha pins s σ H _ I h) fun v s1 ⟨x,H1,I1,r1,q1⟩=>?_);obtain ⟨c,rfl,q1⟩:=q1;cases r1;refine Jf ?_;cases c with
 | true=>exact hb pins s1 σ H1 Q I1 q1
 | false=>exact ⟨.bl false,H1,I1,rfl,q1⟩
theorem Ek (ha:PE X a ta) (hb:PE X (.BoolOp .Or (b :: rest) pos) tb):PE X (.BoolOp .Or (a :: b :: rest) pos) (DG ta tb):=by
 intro pins s σ H Q I h;refine BoolOp_or (thn (ha pins s σ H _ I h) fun v s1 ⟨x,H1,I1,r1,q1⟩=>?_);obtain ⟨c,rfl,q1⟩:=q1;cases r1;refine Jf ?_;cases c with
 | false=>exact hb pins s1 σ H1 Q I1 q1
 | true=>exact ⟨.bl true,H1,I1,rfl,q1⟩
theorem Cz (ha:PE X a ta):PE X (.UnaryOp .Not a pos) (xK ta):=by
 intro pins s σ H Q I h;refine UnaryOp_ (thn (ha pins s σ H _ I h) fun v s1 ⟨x,H1,I1,r1,q1⟩=>?_);obtain ⟨c,rfl,q1⟩:=q1;cases r1;exact not_of (Jf ⟨.bl (!c),H1,I1,rfl,q1⟩)
def tIf (t:TT) (ta tb:TE):TE:=fun σ H Q=>t σ H fun c H1=>if c=true then ta σ H1 Q else tb σ H1 Q
theorem u9 {c:Expr} (hc:PT X c tA) (ha:PE X a ta) (hb:PE X b tb):PE X (.IfExp c a b pos) (tIf tA ta tb):=by
 intro pins s σ H Q I h;refine wpAny_IfExp (thn (hc pins s σ H _ I h) fun d s1 ⟨H1,I1,q1⟩=>?_);cases d with
 | true=>exact ha pins s1 σ H1 Q I1 q1
 | false=>exact hb pins s1 σ H1 Q I1 q1
end
end L2
namespace L2
open PySem PySem.Spec PyProof.Rows
def SqL (K:Fg) (H:Hp) (a:Addr) (xs:List V):Prop :=
 Rd H a (.lst xs) \/
  ∃ (o:Obj) (its:Array Value) (n:Nat),K.lookup a=some o/\o.cls=.type "list" /\ o.dict=none/\o.data=.seq its n/\its.size<=sizeLine/\Vals xs its.toList
def SqT (K:Fg) (H:Hp) (a:Addr) (xs:List V):Prop :=
 Rd H a (.tup xs) \/
  ∃ (o:Obj) (its:Array Value) (n:Nat),K.lookup a=some o/\o.cls=.type "tuple" /\ o.data=.seq its n/\its.size<=sizeLine/\Vals xs its.toList
noncomputable def Hn:Value->Option V
 | .none=>some .non
 | .bool b=>some (.bl b)
 | .int i _=>some (.int i)
 | .str x _=>some (.str x)
 | .bytes b _=>some (.byt b)
 | .float b _=>some (.flt b)
 | .ref a=>some (.ref a)
 | .type n=>some (.ty n)
 | _=>none
theorem RelV.abs {x:V} {u:Value} (r:RelV x u):Hn u=some x:=by
 cases x with
 | non=>cases r;rfl
 | bl _=>cases r;rfl
 | int _=>obtain ⟨t,rfl⟩:=r;rfl
 | str _=>obtain ⟨t,rfl⟩:=r;rfl
 | byt _=>obtain ⟨t,rfl⟩:=r;rfl
 | flt _=>obtain ⟨t,rfl⟩:=r;rfl
 | ref _=>cases r;rfl
 | ty _=>cases r;rfl
theorem RelV.inj {x y:V} {u:Value} (r:RelV x u) (q:RelV y u):x=y:=Ja (r.abs.symm.trans q.abs)
theorem Vals.inj:∀ {xs ys:List V} {us:List Value},Vals xs us->Vals ys us->xs=ys
 | _,_,_,.nil,.nil=>rfl
 | _,_,_,.cons r t,.cons r' t'=>by rw [r.inj r',Vals.inj t t']
section
variable {X:Cx} {pins:List (Addr×Obj)} {σ:St} {H:Hp} {s:Shared} {a:Addr} {xs ys:List V}
theorem SqT.of {K:Fg} (h:H a=some (.tup xs)):SqT K H a xs:=.inl (.inl h)
theorem Inv.list (I:Inv X pins σ H s) (h:SqL X.K H a xs):∃ its:List Value,Vals xs its/\PlainL s.heap a its.toArray/\xs.length<=sizeLine:=by
 rcases h with h | ⟨o,its,n,hk,hc,hd,hs,hz,r⟩
 ·obtain ⟨z,its,n,r,e⟩:=h.ok I.hok;exact ⟨its,r,⟨_,n,e,rfl,rfl,rfl⟩,z⟩
 ·refine ⟨its.toList,r,⟨o,n,I.kIn a o hk,hc,hd,by simpa using hs⟩,?_⟩;have e:=r.length;simp only [Jc] at e;omega
theorem Inv.tuple (I:Inv X pins σ H s) (h:SqT X.K H a xs):∃ its:List Value,Vals xs its/\IsTup s.heap a its.toArray/\xs.length<=sizeLine:=by
 rcases h with h | ⟨o,its,n,hk,hc,hs,hz,r⟩
 ·obtain ⟨z,its,r,p⟩:=h.ok I.hok;exact ⟨its,r,p,z⟩
 ·refine ⟨its.toList,r,⟨o,I.kIn a o hk,hc,n,by simpa using hs⟩,?_⟩;have e:=r.length;simp only [Jc] at e;omega
theorem Inv.oV (I:Inv X pins σ H s) (h:SqL X.K H a xs) (h':SqL X.K H a ys):xs=ys:=by
 obtain ⟨its,r,⟨o,n,e,_,_,d⟩,_⟩:=I.list h;obtain ⟨its',r',⟨o',n',e',_,_,d'⟩,_⟩:=I.list h';rw [e] at e';cases e';rw [d] at d';injection d' with d1 _;have:its=its':=by simpa using congrArg Array.toList d1
 subst this;exact r.inj r'
theorem Inv.uC (I:Inv X pins σ H s) (h:SqT X.K H a xs) (h':SqT X.K H a ys):xs=ys:=by
 obtain ⟨its,r,⟨o,e,_,n,d⟩,_⟩:=I.tuple h;obtain ⟨its',r',⟨o',e',_,n',d'⟩,_⟩:=I.tuple h';rw [e] at e';cases e';rw [d] at d';injection d' with d1 _;have:its=its':=by simpa using congrArg Array.toList d1
 subst this;exact r.inj r'
end
abbrev Cx.uK (X:Cx) (E:Value->Shared->Prop):Cx:={ X with xe:=E }
abbrev Cx.nox (X:Cx):Cx:=X.uK fun _ _=>False
theorem Cx.Ok.uK {X:Cx} (ok:X.Ok) (E:Value->Shared->Prop):(X.uK E).Ok :=
 ⟨ok.mod,ok.kind,ok.glob,ok.blt,ok.above,ok.inj,ok.has,ok.cab,ok.hd,ok.frames,ok.stk,ok.exf,ok.bs,ok.bsz,ok.zz,ok.Dh,ok.tP,ok.frf⟩
theorem Cx.Ok.ix {X:Cx} {E:Value->Shared->Prop} (ok:(X.uK E).Ok):X.Ok :=
 ⟨ok.mod,ok.kind,ok.glob,ok.blt,ok.above,ok.inj,ok.has,ok.cab,ok.hd,ok.frames,ok.stk,ok.exf,ok.bs,ok.bsz,ok.zz,ok.Dh,ok.tP,ok.frf⟩
section
variable {X:Cx} {pins:List (Addr×Obj)} {σ:St} {H:Hp} {s:Shared} {E:Value->Shared->Prop}
theorem Inv.uK (I:Inv X pins σ H s) (E:Value->Shared->Prop):Inv (X.uK E) pins σ H s:=⟨I.ok.uK E,I.os,I.bare,I.base,I.loc,I.cell,I.free,I.gL,I.pin,I.hok,I.len⟩
theorem Inv.ix (I:Inv (X.uK E) pins σ H s):Inv X pins σ H s:=⟨I.ok.ix,I.os,I.bare,I.base,I.loc,I.cell,I.free,I.gL,I.pin,I.hok,I.len⟩
theorem SP.ix {D:Ends} {f:Flow} {s':Shared} (h:SP (X.uK E) pins D f s'):SP X pins D f s':=by
 cases f with
 | next=>obtain ⟨σ',H',I,q⟩:=h;exact ⟨σ',H',I.ix,q⟩
 | brk=>obtain ⟨σ',H',I,q⟩:=h;exact ⟨σ',H',I.ix,q⟩
 | cont=>obtain ⟨σ',H',I,q⟩:=h;exact ⟨σ',H',I.ix,q⟩
 | ret u=>obtain ⟨v,σ',H',I,r,q⟩:=h;exact ⟨v,σ',H',I.ix,r,q⟩
theorem PSs.nox {st:List Stmt} {t:TS} (h:PSs X.nox st t):PSs X st t:=fun pins s σ H D I hw =>
 IJ (h pins s σ H D (I.uK _) hw) (fun _ _ q=>q.ix) fun _ _ z=>False.elim z
end
section
variable {X:Cx} {st:Stmt} {rest:List Stmt} {t u:TS} {e:Expr} {te:TE} {pos:Pos}
def yx:TS:=fun D σ H=>D.nx σ H
def Cs (t u:TS):TS:=fun D σ H=>t { D with nx:=u D } σ H
theorem xy:PSs X [] yx:=fun _ _ σ H _ I h=>wpAny_execs_nil ⟨σ,H,I,h⟩
theorem vf (h1:PS X st t) (h2:PSs X rest u):PSs X (st :: rest) (Cs t u):=by
 intro pins s σ H D I h;refine wpAny_execs_cons (thn (h1 pins s σ H { D with nx:=u D } I h) fun f s1 q=>?_);cases f with
 | next =>
  obtain ⟨σ',H',I',q⟩:=q;exact h2 pins s1 σ' H' D I' q
 | ret v=>exact q
 | brk=>exact q
 | cont=>exact q
theorem zf (h1:PS X st t):PSs X [st] t:=by
 intro pins s σ H D I h;refine wpAny_execs_cons (thn (h1 pins s σ H D I h) fun f s1 q=>?_);cases f with
 | next=>exact wpAny_execs_nil q
 | ret v=>exact q
 | brk=>exact q
 | cont=>exact q
def Am:TS:=fun D σ H=>D.bk σ H
def Ec:TS:=fun D σ H=>D.ct σ H
theorem Inv.quiet {pins:List (Addr×Obj)} {σ:St} {H:Hp} {s:Shared} (I:Inv X pins σ H s):interactive X.env=false:=by simp [interactive,I.ok.kind]
def zd (te:TE):TS:=fun D σ H=>te σ H fun _ H1=>D.nx σ H1
theorem xw (he:PE X e te) (hs:swapsWith e none pos.line X.env=pure false:=by rfl):PS X (.Expr e pos) (zd te):=by
 intro pins s σ H D I h;exact wpAny_Expr_any (thn (he pins s σ H _ I h) fun v s1 ⟨x,H1,I1,r1,q1⟩=>⟨σ,H1,I1,q1⟩) I.quiet hs
def DV (te:TE):TS:=fun D σ H=>te σ H D.rt
theorem CN (he:PE X e te):PS X (.Return (some e) pos) (DV te):=by
 intro pins s σ H D I h;exact wpAny_Return_some (thn (he pins s σ H _ I h) fun v s1 ⟨x,H1,I1,r1,q1⟩=>⟨x,σ,H1,I1,r1,q1⟩)
def DD:TS:=fun D _ H=>D.rt .non H
def DL (c:TT) (t u:TS):TS:=fun D σ H=>c σ H fun b H1=>if b=true then t D σ H1 else u D σ H1
theorem D2 {c:Expr} {a b:List Stmt} {tc:TT} (hc:PT X c tc) (ha:PSs X a t) (hb:PSs X b u):PS X (.If c a b pos) (DL tc t u):=by
 intro pins s σ H D I h;refine wpAny_If (thn (hc pins s σ H _ I h) fun d s1 ⟨H1,I1,q1⟩=>?_);cases d with
 | true=>exact ha pins s1 σ H1 D I1 q1
 | false=>exact hb pins s1 σ H1 D I1 q1
def A4:TS:=fun _ _ _=>False
end
abbrev TG:=V->St->Hp->(St->Hp->Prop)->Prop
abbrev TGs:=List V->St->Hp->(St->Hp->Prop)->Prop
def PG (X:Cx) (target:Expr) (t:TG):Prop :=
 ∀ (pins:List (Addr×Obj)) (s:Shared) (σ:St) (H:Hp) (v:V) (u:Value) (Q:St->Hp->Prop),Inv X pins σ H s->RelV v u->t v σ H Q ->
  wpAny (model X.prog X.w) X.A (assign target X.env u) (fun _ s'=>∃ σ' H',Inv X pins σ' H' s'/\Q σ' H') X.xe s
def PGs (X:Cx) (ts:List Expr) (t:TGs):Prop :=
 ∀ (pins:List (Addr×Obj)) (s:Shared) (σ:St) (H:Hp) (vs:List V) (us:List Value) (Q:St->Hp->Prop),Inv X pins σ H s->Vals vs us->t vs σ H Q ->
  wpAny (model X.prog X.w) X.A (assignInOrder ((assignEach ts X.env).map (·.2)) us) (fun _ s'=>∃ σ' H',Inv X pins σ' H' s'/\Q σ' H') X.xe s
section
variable {X:Cx} {pos:Pos}
def cy (i:Nat):TG:=fun v σ H Q=>Q (σ.set i (some v)) H
theorem jb {i:Nat} {x:Str} (hN:X.N.Nodup) (hi:X.N[i]?=some x) (hx:Loc X.env.scope x) (hf:X.fn x=true\/X.env.scope.names.lookup x=some .local:=by first | exact .inl rfl | exact .inr rfl | assumption):PG X (.Name x pos) (cy i):=by
 intro pins s σ H v u Q I r h;exact wpAny_assign_Name (pQ I hN hi hx r (fun s' I'=>⟨_,H,I',h⟩) hf)
def Ac:TGs:=fun vs σ H Q=>vs=[]/\Q σ H
def qj (t:TG) (u:TGs):TGs:=fun vs σ H Q=>∃ v r,vs=v :: r/\t v σ H fun σ' H'=>u r σ' H' Q
theorem qU:PGs X [] Ac:=by
 intro pins s σ H vs us Q I r h;obtain ⟨e,h⟩:=h;subst e;cases r;exact assignInOrder_nil ⟨σ,H,I,h⟩
theorem pJ {e:Expr} {es:List Expr} {t:TG} {u:TGs} (h1:PG X e t) (h2:PGs X es u)
  (hs:(assignEach (e :: es) X.env).map (·.2)=assign e X.env :: (assignEach es X.env).map (·.2):=by rfl):PGs X (e :: es) (qj t u):=by
 intro pins s σ H vs us Q I r h;obtain ⟨v,vr,e1,h⟩:=h;subst e1;cases r with
 | cons r rr =>
  rw [hs];refine assignInOrder_cons (thn (h1 pins s σ H _ _ _ I r h) fun _ s1 ⟨σ1,H1,I1,q1⟩=>?_);exact h2 pins s1 σ1 H1 _ _ Q I1 rr q1
def C1 (K:Fg) (n:Nat) (t:TGs):TG:=fun v σ H Q=>∃ a xs,v=.ref a/\SqT K H a xs/\xs.length=n/\t xs σ H Q
theorem wQ {es:List Expr} {k:Nat} {t:TGs} {n:Nat} (hc:X.calm=true) (h:PGs X es t)
  (hn:(assignEach es X.env).length=n:=by rfl) (hst:(assignEach es X.env).findIdx? (·.1)=none:=by rfl):PG X (.Tuple es k pos) (C1 X.K n t):=by
 intro pins s σ H v u Q I r hw;obtain ⟨a,xs,e1,hq,hl,hw⟩:=hw;subst e1;cases r;obtain ⟨its,rv,ht,hz⟩:=I.tuple hq;refine assign_Tuple_tuple (I.ok.hd hc) ht (by simp [hn,<-hl,rv.length]) hst fun h' hx=>?_;have I1:Inv X pins σ H { s with heap:=h' }:=I.kept (t':=s.toks) fun b o e=>hx b o (IC (Im e)) e;exact h pins _ σ H xs _ Q I1 (by simpa using rv) hw
def qd (te:TE) (g:TG):TS:=fun D σ H=>te σ H fun x H1=>g x σ H1 D.nx
theorem Ax {tg e:Expr} {te:TE} {g:TG} (he:PE X e te) (hg:PG X tg g) (hs:swapsWithSole [tg] e pos.line X.env=pure false:=by rfl) (hw:swappedStores [tg] e X.env=pure none:=by rfl)
  (h1:(assignEach [tg] X.env).map (·.2)=[assign tg X.env]:=by rfl):PS X (.Assign [tg] e pos) (qd te g):=by
 intro pins s σ H D I h;refine wpAny_Assign_stores (thn (he pins s σ H _ I h) fun v s1 ⟨x,H1,I1,r1,q1⟩=>?_) hs hw;rw [h1];exact thn (hg pins s1 σ H1 x v _ I1 r1 q1) fun _ s2 q=>q
theorem BP {i:Nat} {x:Str} {e:Expr} {te:TE} {pos':Pos} (hN:X.N.Nodup) (hi:X.N[i]?=some x) (hx:Loc X.env.scope x) (he:PE X e te) (hs:swapsWith e (some (.Name x pos')) pos.line X.env=pure false:=by rfl) (hf:X.fn x=true\/X.env.scope.names.lookup x=some .local:=by first | exact .inl rfl | exact .inr rfl | assumption) :
  PS X (.Assign [.Name x pos'] e pos) (qd te (cy i)):=by
 intro pins s σ H D I h;refine wpAny_Assign_Name (thn (he pins s σ H _ I h) fun v s1 ⟨y,H1,I1,r1,q1⟩=>?_) hs;exact pQ I1 hN hi hx r1 (fun s2 I2=>⟨_,H1,I2,q1⟩) hf
end
section
variable {X:Cx} {pos:Pos}
def sd (c:TT) (tb:TS):TS:=fun D σ H=>∃ W:Nat->St->Hp->Prop,(∃ m,W m σ H)/\∀ m σ H,W m σ H ->
 c σ H fun b H1=>if b=true then ∃ N:St->Hp->Prop,(∀ σ' H',N σ' H'->∃ m',m' < m/\W m' σ' H')/\tb { D with nx:=N,ct:=N,bk:=D.nx } σ H1 else D.nx σ H1
theorem uV {c:Expr} {body:List Stmt} {tc:TT} {tb:TS} (hp:PassesOwn (model X.prog X.w) X.A X.env X.xe) (hc:PT X c tc) (hb:PSs X body tb):PS X (.While c body [] pos) (sd tc tb):=by
 intro pins s σ H D I h;obtain ⟨W,⟨m0,w0⟩,turn⟩:=h;refine wpAny_While (codeAny_whileLoop (fun n s'=>∃ σ' H',Inv X pins σ' H' s'/\W n σ' H') ?_ m0 ⟨σ,H,I,w0⟩);rintro n s1 ⟨σ1,H1,I1,w1⟩;refine J4 hp (thn (hc pins s1 σ1 H1 _ I1 (turn n σ1 H1 w1)) fun b s2 ⟨H2,I2,q2⟩=>?_);cases b with
 | true =>
  obtain ⟨N,hN,q2⟩:=q2;rw [Io rfl];refine J4 hp (thn (hb pins s2 σ1 H2 _ I2 q2) fun f s3 q3=>?_);cases f with
  | next =>
   obtain ⟨σ3,H3,I3,n3⟩:=q3;obtain ⟨m',hm,w3⟩:=hN σ3 H3 n3;exact ⟨m',hm,σ3,H3,I3,w3⟩
  | cont =>
   obtain ⟨σ3,H3,I3,n3⟩:=q3;obtain ⟨m',hm,w3⟩:=hN σ3 H3 n3;exact ⟨m',hm,σ3,H3,I3,w3⟩
  | brk=>exact q3
  | ret v=>exact q3
 | false =>
  rw [Iv I0];exact wpAny_execs_nil ⟨σ1,H2,I2,q2⟩
end
structure It where
 go:Nat->Hp->Prop
 yld:Nat->Hp->V->Hp->Prop
 stop:Nat->Hp->Prop
def rW (X:Cx) (pins:List (Addr×Obj)) (H:Hp) (b:Addr):Prop :=
 H b=none/\b≠X.env.locals/\b ∉ X.fs/\(b∈X.ex\/X.s₀.heap.objs.size<=b)/\(∀ x c,X.env.cells.lookup x=some c->c≠b)/\∀ p∈X.pn++pins,p.1≠b
theorem Inv.zM {X:Cx} {pins:List (Addr×Obj)} {σ:St} {H H':Hp} {s:Shared} {b:Addr} (I:Inv X pins σ H s) (hb:s.heap.objs.size<=b) (hn:H' b=none):rW X pins H' b:=by
 refine ⟨hn,KH (Iu I.lt hb),I.Dd hb,.inr (Iy I.sz hb),fun x c e z=>?_,fun p hp z=>?_⟩
 ·obtain ⟨v,q⟩:=I.cell x c e;exact absurd (Iu q.lt (by rw [z];exact hb)) (IG _)
 ·exact absurd (Iu (Im (I.pin p hp).1) (by rw [z];exact hb)) (IG _)
structure Turn (P:Program) (w:World) (K:Fg) (tg:Expr) (J:It) (fp:List Addr) (it:Addr) (tn:Nat->Heap->Prop):Prop where
 mem:it∈fp
 obj:∀ i h,tn i h->∀ b∈fp,∃ o,h.get? b=some o/\∀ v,o.data≠.cell v
 keep:∀ i h h',tn i h->(∀ b∈fp,∀ o,h.get? b=some o->h'.get? b=some o)->tn i h'
 item:∀ (X:Cx),X.prog=P->X.w=w->X.K=K->X.calm=true->∀ (i:Nat) (pins:List (Addr×Obj)) (s:Shared) (σ:St) (H:Hp) (E:Value->Shared->Prop),Inv X pins σ H s->(∀ b∈fp,rW X pins H b)->tn i s.heap->J.go i H ->
  wpAny (model P w) X.A (pyNext (.ref it)) (fun r s1=>∃ u,r=some u /\
   wpAny (model P w) X.A (letOwnedTupleGo tg (.ref it) u) (fun _ s2=>∃ x H',Inv X pins σ H' s2/\RelV x u/\J.yld i H x H'/\tn (i+1) s2.heap/\∀ b∈fp,H' b=none) E s1) E s
 done:∀ (X:Cx),X.prog=P->X.w=w->X.K=K->X.calm=true->∀ (i:Nat) (pins:List (Addr×Obj)) (s:Shared) (σ:St) (H:Hp) (E:Value->Shared->Prop),Inv X pins σ H s->(∀ b∈fp,rW X pins H b)->tn i s.heap->J.stop i H ->
  wpAny (model P w) X.A (pyNext (.ref it)) (fun r s1=>r=none/\Inv X pins σ H s1) E s
 self:∀ (A:Around) (i:Nat) (s:Shared) (Q:Value->Shared->Prop) (E:Value->Shared->Prop),tn i s.heap->Q (.ref it) s->wpAny (model P w) A (pyIter (.ref it)) Q E s
abbrev TI:=St->Hp->(It->Hp->Prop)->Prop
def PIE (X:Cx) (pins:List (Addr×Obj)) (σ:St) (tg:Expr) (R:It->Hp->Prop) (itv:Value) (s2:Shared):Prop :=
 ∃ (it:Addr) (fp:List Addr) (tn:Nat->Heap->Prop) (J:It) (H':Hp),itv=.ref it/\Inv X pins σ H' s2/\Turn X.prog X.w X.K tg J fp it tn/\tn 0 s2.heap/\(∀ b∈fp,rW X pins H' b)/\R J H'
def PI (X:Cx) (tg iter:Expr) (wi:TI):Prop :=
 ∀ (pins:List (Addr×Obj)) (s:Shared) (σ:St) (H:Hp) (R:It->Hp->Prop),Inv X pins σ H s->wi σ H R ->
  wpAny (model X.prog X.w) X.A (eval iter X.env) (fun v s1=>wpAny (model X.prog X.w) X.A (pyIter v) (PIE X pins σ tg R) X.xe s1) X.xe s
theorem u7 {M:Model} {A:Around} {E:Value->Shared->Prop} {s:Shared} {tg:Expr} {it:Addr} {u:Value} {o:Obj} {n:String} {vs:Array Value} {Q:Unit->Shared->Prop} (ho:s.heap.get? it=some o) (hc:o.cls=.type n) (hd:o.data=.fields vs)
    (hn:["enumerate", "zip", "dict_itemiterator", "dict_reverseitemiterator", "odict_iterator", "itertools.zip_longest", "itertools.pairwise"].contains n=false) (hQ:Q () s):wpAny M A (letOwnedTupleGo tg (.ref it) u) Q E s:=by
  unfold letOwnedTupleGo;cases tg <;> first
    | exact HV hQ
    | (cases u <;> first
        | exact HV hQ
        | (refine HU (wpAny_load ho ?_)
           rw [hc,hd];show wpAny M A (if (["enumerate", "zip", "dict_itemiterator", "dict_reverseitemiterator", "odict_iterator", "itertools.zip_longest", "itertools.pairwise"].contains n&&vs[0]?==some (rawInt _))=true then _ else _) Q E s;rw [Iv (by intro h;rw [hn,Bool.false_and] at h;cases h)]
           exact HV hQ))
def Itl (K:Fg) (a:Addr):It :=
 ⟨fun i H=>∃ xs x,SqL K H a xs/\xs[i]?=some x,fun i H x H'=>H'=H/\∀ xs,SqL K H a xs->xs[i]?=some x,fun i H=>∃ xs,SqL K H a xs/\xs.length<=i⟩
def Itt (K:Fg) (a:Addr):It :=
 ⟨fun i H=>∃ xs x,SqT K H a xs/\xs[i]?=some x,fun i H x H'=>H'=H/\∀ xs,SqT K H a xs->xs[i]?=some x,fun i H=>∃ xs,SqT K H a xs/\xs.length<=i⟩
def Itr (lo:Int) (n:Nat):It:=⟨fun i _=>i < n,fun i H x H'=>H'=H/\x=.int (lo+i),fun i _=>n<=i⟩
theorem uG {P:Program} {w:World} {K:Fg} {tg:Expr} (a it:Addr):Turn P w K tg (Itl K a) [it] it (fun i h=>h.IsListIter it a i) where
 mem:=by simp
 obj:=fun i h st b hb=>by
  have e:b=it:=by simpa using hb
  subst e;obtain ⟨o,e,c,d⟩:=st;exact ⟨o,e,fun v z=>by rw [d] at z;cases z⟩
 keep:=fun i h h' st k=>st.at fun o e=>k it (by simp) o e
 item:=by
  intro X hP hw hK hc i pins s σ H E I hf st hg;subst hP hw hK;obtain ⟨xs,x,hq,hx⟩:=hg;obtain ⟨its,rv,p,hz⟩:=I.list hq;obtain ⟨u,hu,ru⟩:=rv.get hx;obtain ⟨f0,f1,f2,f3,f4,f5⟩:=hf it (by simp);refine wpAny_pyNext_list_item st p.isList (x:=u) (by simpa using hu) fun h' st' sb=>?_;have I1:Inv X pins σ H { s with heap:=h' }:=I.turned (t':=s.toks) (fun b o hb e=>(sb.2 b hb).trans e) f0 f1 f3 f4 f5;obtain ⟨o,e,c,d⟩:=id st';exact ⟨u,rfl,u7 (s:={ s with heap:=h' }) e c d (by decide) ⟨x,H,I1,ru,⟨rfl,fun ys hy=>by rw [I.oV hy hq];exact hx⟩,st',fun b hb=>(hf b hb).1⟩⟩
 done:=by
  intro X hP hw hK hc i pins s σ H E I hf st hg;subst hP hw hK;obtain ⟨xs,hq,hx⟩:=hg;obtain ⟨its,rv,p,hz⟩:=I.list hq;obtain ⟨f0,f1,f2,f3,f4,f5⟩:=hf it (by simp);have hl:=rv.length;exact wpAny_pyNext_list_end (I.ok.hd hc) st p.isList (by simp;omega) fun h' eb=>⟨rfl,I.turned (t':=s.toks) (fun b o hb e=>eb b o hb e) f0 f1 f3 f4 f5⟩
 self:=fun _ _ _ _ _ st h=>wpAny_pyIter_listiter st h
theorem qK {P:Program} {w:World} {K:Fg} {tg:Expr} (a it:Addr):Turn P w K tg (Itt K a) [it] it (fun i h=>h.IsTupleIter it a i) where
 mem:=by simp
 obj:=fun i h st b hb=>by
  have e:b=it:=by simpa using hb
  subst e;obtain ⟨o,e,c,d⟩:=st;exact ⟨o,e,fun v z=>by rw [d] at z;cases z⟩
 keep:=fun i h h' st k=>st.at fun o e=>k it (by simp) o e
 item:=by
  intro X hP hw hK hc i pins s σ H E I hf st hg;subst hP hw hK;obtain ⟨xs,x,hq,hx⟩:=hg;obtain ⟨its,rv,p,hz⟩:=I.tuple hq;obtain ⟨u,hu,ru⟩:=rv.get hx;obtain ⟨f0,f1,f2,f3,f4,f5⟩:=hf it (by simp);refine wpAny_pyNext_tuple_item st (show s.heap.IsTuple a its.toArray from p) (x:=u) (by simpa using hu) fun h' st' sb=>?_;have I1:Inv X pins σ H { s with heap:=h' }:=I.turned (t':=s.toks) (fun b o hb e=>(sb.2 b hb).trans e) f0 f1 f3 f4 f5;obtain ⟨o,e,c,d⟩:=id st';exact ⟨u,rfl,u7 (s:={ s with heap:=h' }) e c d (by decide) ⟨x,H,I1,ru,⟨rfl,fun ys hy=>by rw [I.uC hy hq];exact hx⟩,st',fun b hb=>(hf b hb).1⟩⟩
 done:=by
  intro X hP hw hK hc i pins s σ H E I hf st hg;subst hP hw hK;obtain ⟨xs,hq,hx⟩:=hg;obtain ⟨its,rv,p,hz⟩:=I.tuple hq;obtain ⟨f0,f1,f2,f3,f4,f5⟩:=hf it (by simp);have hl:=rv.length;exact wpAny_pyNext_tuple_end (I.ok.hd hc) st (show s.heap.IsTuple a its.toArray from p) (by simp;omega) fun h' eb=>⟨rfl,I.turned (t':=s.toks) (fun b o hb e=>eb b o hb e) f0 f1 f3 f4 f5⟩
 self:=fun _ _ _ _ _ st h=>wpAny_pyIter_tupleiter st h
theorem qA {P:Program} {w:World} {K:Fg} {tg:Expr} (it:Addr) (lo:Int) (n:Nat):Turn P w K tg (Itr lo n) [it] it (fun i h=>IsRangeIter h it (lo+(i:Nat)*1) ((n:Int) - (i:Nat)) 1) where
 mem:=by simp
 obj:=fun i h st b hb=>by
  have e:b=it:=by simpa using hb
  subst e
  exact ⟨_,st,fun v z=>by
   have z':Data.fields _=Data.cell v:=z
   cases z'⟩
 keep:=fun i h h' st k=>k it (by simp) _ st
 item:=by
  intro X hP hw hK hc i pins s σ H E I hf st hg;subst hP hw hK;obtain ⟨f0,f1,f2,f3,f4,f5⟩:=hf it (by simp);have W:=Walks.range (prog:=X.prog) (w:=X.w) (I.ok.hd hc) it lo 1 n;refine W.item i s _ _ hg st fun v h' tk hv st' kk=>?_;obtain ⟨t,rfl⟩:=hv;have I1:Inv X pins σ H { s with heap:=h',toks:=tk }:=I.turned (fun b o hb e=>kk b o (by simpa using hb) e) f0 f1 f3 f4 f5;refine ⟨_,rfl,u7 (s:={ s with heap:=h',toks:=tk }) (n := "range_iterator") st' rfl rfl (by decide) ⟨.int (lo+i),H,I1,⟨t,?_⟩,⟨rfl,rfl⟩,st',fun b hb=>(hf b hb).1⟩⟩;rw [Int.mul_one]
 done:=by
  intro X hP hw hK hc i pins s σ H E I hf st hg;subst hP hw hK;obtain ⟨f0,f1,f2,f3,f4,f5⟩:=hf it (by simp);exact wpAny_pyNext_range_end (I.ok.hd hc) st (by have:n<=i:=hg;omega) fun h' eb=>⟨rfl,I.turned (t':=s.toks) (fun b o hb e=>eb b o hb e) f0 f1 f3 f4 f5⟩
 self:=fun _ _ _ _ _ st h=>wpAny_pyIter_rangeiter st h
end L2
namespace L2
open PySem PySem.Spec PyProof.Rows
section
variable {X:Cx} {tg:Expr}
def vJ (K:Fg) (tl:TE):TI:=fun σ H R=>tl σ H fun x H1=>∃ a,x=.ref a/\(∃ xs,SqL K H1 a xs)/\R (Itl K a) H1
def Dq (K:Fg) (tl:TE):TI:=fun σ H R=>tl σ H fun x H1=>∃ a,x=.ref a/\(∃ xs,SqT K H1 a xs)/\R (Itt K a) H1
theorem yI {l:Expr} {tl:TE} (hl:PE X l tl):PI X tg l (vJ X.K tl):=by
 intro pins s σ H R I h;refine thn (hl pins s σ H _ I h) fun v s1 ⟨x,H1,I1,r1,q1⟩=>?_;obtain ⟨a,e,⟨xs,hq⟩,q⟩:=q1;subst e;cases r1;obtain ⟨its,rv,p,hz⟩:=I1.list hq;refine Kw p.isList ?_;refine ⟨s1.heap.objs.size,[s1.heap.objs.size],_,_,H1,rfl,I1.kept (t':=s1.toks) fun b o e=>H0 _ e,uG a _,⟨_,Iq _ rfl,rfl,rfl⟩,fun b hb=>?_,q⟩;have e:b=s1.heap.objs.size:=by simpa using hb
 subst e;exact I1.zM (Ia _) (I1.hok.fresh (Ia _))
theorem AW {l:Expr} {tl:TE} (hl:PE X l tl):PI X tg l (Dq X.K tl):=by
 intro pins s σ H R I h;refine thn (hl pins s σ H _ I h) fun v s1 ⟨x,H1,I1,r1,q1⟩=>?_;obtain ⟨a,e,⟨xs,hq⟩,q⟩:=q1;subst e;cases r1;obtain ⟨its,rv,p,hz⟩:=I1.tuple hq;refine wpAny_pyIter_tuple (show s1.heap.IsTuple a its.toArray from p) ?_;refine ⟨s1.heap.objs.size,[s1.heap.objs.size],_,_,H1,rfl,I1.kept (t':=s1.toks) fun b o e=>H0 _ e,qK a _,⟨_,Iq _ rfl,rfl,rfl⟩,fun b hb=>?_,q⟩;have e:b=s1.heap.objs.size:=by simpa using hb
 subst e;exact I1.zM (Ia _) (I1.hok.fresh (Ia _))
theorem vP {pins:List (Addr×Obj)} {σ:St} {H:Hp} {s:Shared} {R:It->Hp->Prop} {E:Value->Shared->Prop} {lo hi:Int} {t u v:Tok} {tk:Nat} (I:Inv X pins σ H s) (h1:-(2 ^ 62)<=lo) (h2:lo < 2 ^ 62) (h3:-(2 ^ 62)<=hi) (h4:hi < 2 ^ 62)
  (q:R (Itr lo (hi - lo).toNat) H):wpAny (model X.prog X.w) X.A (pyIter (.ref s.heap.objs.size)) (PIE X pins σ tg R) E { s with heap:=s.heap.push { cls:=.type "range", data:=.fields #[.int lo t,.int hi u,.int 1 v] },toks:=tk }:=by
 refine wpAny_pyIter_range (IsRange.new ..) (small_one h1 h2 h3 h4) ?_;have I1:Inv X pins σ H { s with heap:=s.heap.push { cls:=.type "range", data:=.fields #[.int lo t,.int hi u,.int 1 v] },toks:=tk }:=I.kept fun b o e=>H0 _ e
 refine ⟨(s.heap.push { cls:=.type "range", data:=.fields #[.int lo t,.int hi u,.int 1 v] }).objs.size,[(s.heap.push { cls:=.type "range", data:=.fields #[.int lo t,.int hi u,.int 1 v] }).objs.size],_,_,H,rfl,
  I1.kept (t':=tk) fun b o e=>H0 _ e,qA _ lo (hi - lo).toNat,?_,fun b hb=>?_,q⟩
 ·have e1:lo+((0:Nat):Int)*1=lo:=by simp
  have e2:(((hi - lo).toNat:Nat):Int) - ((0:Nat):Int)=Builtin.Range.rangeSize lo hi 1:=by rw [rangeSize_one];split <;> omega
  show IsRangeIter _ _ (lo+((0:Nat):Int)*1) ((((hi - lo).toNat:Nat):Int) - ((0:Nat):Int)) 1;rw [e1,e2];exact Iq _ rfl
 ·have e:b=(s.heap.push { cls:=.type "range", data:=.fields #[.int lo t,.int hi u,.int 1 v] }).objs.size:=by simpa using hb
  subst e;exact I1.zM (Ia _) (I1.hok.fresh (Ia _))
def zk (ta:TA):TI:=fun σ H R=>ta σ H fun vs H1=>∃ j:Int,vs=[.int j]/\-(2 ^ 62)<=j/\j < 2 ^ 62/\R (Itr 0 j.toNat) H1
def FR (ta:TA):TI:=fun σ H R=>ta σ H fun vs H1=>∃ i j:Int,vs=[.int i,.int j]/\(-(2 ^ 62)<=i/\i < 2 ^ 62/\-(2 ^ 62)<=j/\j < 2 ^ 62)/\R (Itr i (j - i).toNat) H1
theorem rC {a:Expr} {ta:TA} {p pos:Pos} (hg:Gl X "range") (hm:X.mg "range" = none) (ha:PA X [a] ta) (hs:starEach [a] X.env=[(false,eval a X.env)]:=by rfl):PI X tg (.Call (.Name "range" p) [a] [] pos) (zk ta):=by
 intro pins s σ H R I h;refine Call_ (qc I hg hm boot_range (PyProof.Rows.callWith_type1 (thn (ha pos pins s σ H _ I h) fun us s1 ⟨vs,H1,I1,r1,q1⟩=>?_) hs rfl));obtain ⟨j,e,q1,q2,q⟩:=q1;subst e;cases r1 with
 | cons r rr =>
  cases rr;obtain ⟨t,rfl⟩:=r;exact call_range_1 (vP I1 (by omega) (by omega) q1 q2 (by simpa using q))
def B0 (wi:TI) (g:TG) (tb:TS):TS:=fun D σ H=>wi σ H fun J H1=>∃ W:Nat->Nat->St->Hp->Prop,(∃ m,W 0 m σ H1)/\∀ i m σ H,W i m σ H ->
 (J.stop i H/\D.nx σ H)\/(J.go i H/\∃ N:St->Hp->Prop,(∀ σ' H',N σ' H'->∃ m',m' < m/\W (i+1) m' σ' H')/\∀ x H',J.yld i H x H'->g x σ H' fun σ2 H2=>tb { D with nx:=N,ct:=N,bk:=D.nx } σ2 H2)
noncomputable def kq (fp:List Addr) (h:Heap):List (Addr×Obj):=fp.filterMap fun b=>(h.get? b).map fun o=>(b,o)
theorem b6 {fp:List Addr} {h:Heap} {b:Addr} {o:Obj} (hb:b∈fp) (e:h.get? b=some o):(b,o)∈kq fp h:=List.mem_filterMap.mpr ⟨b,hb,by rw [e];rfl⟩
theorem rK {fp:List Addr} {h:Heap} {p:Addr×Obj} (hp:p∈kq fp h):p.1∈fp/\h.get? p.1=some p.2:=by
 obtain ⟨b,hb,e⟩:=List.mem_filterMap.mp hp;cases q:h.get? b with
 | none=>rw [q] at e;cases e
 | some o =>
  rw [q] at e;have e':(b,o)=p:=Ja e;subst e';exact ⟨hb,q⟩
theorem Inv.pinned {pins:List (Addr×Obj)} {σ:St} {H:Hp} {s:Shared} {fp:List Addr} (I:Inv X pins σ H s) (hf:∀ b∈fp,rW X pins H b) (ho:∀ b∈fp,∃ o,s.heap.get? b=some o/\∀ v,o.data≠.cell v):Inv X (pins++kq fp s.heap) σ H s :=
 I.ee fun p hp=>(IK.mp hp).elim (fun z=>I.pin p (Ir _ z)) fun z=>by
  obtain ⟨hb,e⟩:=rK z;obtain ⟨f0,f1,f2,_⟩:=hf p.1 hb;obtain ⟨o,e',d⟩:=ho p.1 hb;rw [e] at e';cases e';exact ⟨e,f0,f1,f2,d⟩
theorem Inv.iS {pins pl:List (Addr×Obj)} {σ:St} {H:Hp} {s:Shared} (I:Inv X (pins++pl) σ H s):Inv X pins σ H s:=I.ee fun p hp=>I.pin p (Ir _ (IM _ hp))
theorem zY {iter:Expr} {body:List Stmt} {wi:TI} {g:TG} {tb:TS} {pos:Pos} (hp:PassesOwn (model X.prog X.w) X.A X.env X.xe) (hc:X.calm=true) (hi:PI X tg iter wi) (hg:PG X tg g) (hb:PSs X body tb)
  (hs:∀ x,foldedSetIterable iter X.env x=pure x:=by intro _;rfl):PS X (.For tg iter body [] pos) (B0 wi g tb):=by
 intro pins s σ H D I h;refine wpAny_For (thn (hi pins s σ H _ I h) fun v s1 h1=>thn h1 fun itv s2 h2=>?_) hs;obtain ⟨it,fp,tn,J,H2,e,I2,T,st2,f2,W,⟨m0,w0⟩,turn⟩:=h2;subst e;have stat:∀ {H':Hp},(∀ b∈fp,H' b=none)->∀ b∈fp,rW X pins H' b:=fun hn b hb=>⟨hn b hb,(f2 b hb).2⟩;refine codeAny_forLoop_any (fun n s'=>∃ i σ' H',Inv X pins σ' H' s'/\tn i s'.heap/\(∀ b∈fp,H' b=none)/\W i n σ' H') ?_ m0 ⟨0,σ,H2,I2,st2,fun b hb=>(f2 b hb).1,w0⟩;rintro n s3 ⟨i,σ3,H3,I3,st3,fr3,w3⟩;rcases turn i n σ3 H3 w3 with ⟨stop,qn⟩ | ⟨go,N,hN,step⟩
 ·refine J4 hp (thn (T.done X rfl rfl rfl hc i pins s3 σ3 H3 X.xe I3 (stat fr3) st3 stop) fun r s4 ⟨hr,I4⟩=>?_);subst hr;exact wpAny_execs_nil ⟨σ3,H3,I4,qn⟩
 ·refine J4 hp (thn (T.item X rfl rfl rfl hc i pins s3 σ3 H3 X.xe I3 (stat fr3) st3 go) fun r s4 ⟨u,hr,h4⟩=>?_);subst hr;refine J4 hp (thn h4 fun _ s5 ⟨x,H5,I5,r5,y5,st5,fr5⟩=>?_);have I5':=I5.pinned (stat fr5) (T.obj _ _ st5);refine J4 hp (thn (hg _ s5 σ3 H5 x u _ I5' r5 (step x H5 y5)) fun _ s6 ⟨σ6,H6,I6,q6⟩=>?_);refine J4 hp (thn (hb _ s6 σ6 H6 _ I6 q6) fun f s7 q7=>?_);have again:∀ {σ7:St} {H7:Hp},Inv X (pins++kq fp s5.heap) σ7 H7 s7->N σ7 H7->∃ m,m < n/\∃ i σ' H',Inv X pins σ' H' s7/\tn i s7.heap/\(∀ b∈fp,H' b=none)/\W i m σ' H':=fun {σ7 H7} I7 n7=>by
   obtain ⟨m',hm,w7⟩:=hN σ7 H7 n7;refine ⟨m',hm,i+1,σ7,H7,I7.iS,T.keep _ _ _ st5 fun b hb o e=>(I7.pin (b,o) (Ir _ (Ir _ (b6 hb e)))).1,fun b hb=>?_,w7⟩;obtain ⟨o,e,d⟩:=T.obj _ _ st5 b hb;exact (I7.pin (b,o) (Ir _ (Ir _ (b6 hb e)))).2.1
  cases f with
  | next=>obtain ⟨σ7,H7,I7,n7⟩:=q7;exact again I7 n7
  | cont=>obtain ⟨σ7,H7,I7,n7⟩:=q7;exact again I7 n7
  | brk=>obtain ⟨σ7,H7,I7,q7⟩:=q7;exact ⟨σ7,H7,I7.iS,q7⟩
  | ret v=>obtain ⟨x7,σ7,H7,I7,r7,q7⟩:=q7;exact ⟨x7,σ7,H7,I7.iS,r7,q7⟩
end
end L2
namespace L2
open PySem PySem.Spec PyProof.Rows
abbrev R2:=V->V->Hp->VK->Prop
def OpR (X:Cx) (f:Value->Value->Sem Value) (r:R2):Prop :=
 ∀ (pins:List (Addr×Obj)) (s:Shared) (σ:St) (H:Hp) (x y:V) (v u:Value) (Q:VK),Inv X pins σ H s->RelV x v->RelV y u->r x y H Q ->
  wpAny (model X.prog X.w) X.A (f v u) (EP X pins σ Q) X.xe s
def UnR (X:Cx) (f:Value->Sem Value) (r:V->Hp->VK->Prop):Prop :=
 ∀ (pins:List (Addr×Obj)) (s:Shared) (σ:St) (H:Hp) (x:V) (v:Value) (Q:VK),Inv X pins σ H s->RelV x v->r x H Q ->
  wpAny (model X.prog X.w) X.A (f v) (EP X pins σ Q) X.xe s
def aP (X:Cx) (f:Value) (r:List V->Hp->VK->Prop):Prop :=
 ∀ (pins:List (Addr×Obj)) (s:Shared) (σ:St) (H:Hp) (xs:List V) (us:List Value) (Q:VK),Inv X pins σ H s->Vals xs us->r xs H Q ->
  wpAny (model X.prog X.w) X.A (call f us) (EP X pins σ Q) X.xe s
def GV (X:Cx) (r:V->Hp->(Bool->Hp->Prop)->Prop):Prop :=
 ∀ (pins:List (Addr×Obj)) (s:Shared) (σ:St) (H:Hp) (x:V) (v:Value) (Q:Bool->Hp->Prop),Inv X pins σ H s->RelV x v->r x H Q ->
  wpAny (model X.prog X.w) X.A (truthy v) (TP X pins σ Q) X.xe s
def tOp (r:R2) (ta tb:TE):TE:=fun σ H Q=>ta σ H fun x H1=>tb σ H1 fun y H2=>r x y H2 Q
def tUn (r:V->Hp->VK->Prop) (ta:TE):TE:=fun σ H Q=>ta σ H fun x H1=>r x H1 Q
def rI (C:Int->Int->Prop) (g:Int->Int->V):R2:=fun x y H Q=>∃ i j,x=.int i/\y=.int j/\C i j/\Q (g i j) H
def rI0 (g:Int->Int->V):R2:=fun x y H Q=>∃ i j,x=.int i/\y=.int j/\Q (g i j) H
def rU (g:Int->V):V->Hp->VK->Prop:=fun x H Q=>∃ i,x=.int i/\Q (g i) H
section
variable {X:Cx} {a b c:Expr} {ta tb tc:TE} {pos:Pos}
theorem DC (ha:PE X a ta) (hb:PE X b tb) {pins:List (Addr×Obj)} {s:Shared} {σ:St} {H:Hp} {R:V->V->Hp->Prop} (I:Inv X pins σ H s)
  (h:ta σ H fun x H1=>tb σ H1 fun y H2=>R x y H2) {Q:Value->Shared->Prop} {f:Value->Value->Sem Value}
  (hf:∀ v u s2 x y H2,Inv X pins σ H2 s2->RelV x v->RelV y u->R x y H2->wpAny (model X.prog X.w) X.A (f v u) Q X.xe s2) :
  wpAny (model X.prog X.w) X.A (eval a X.env) (fun v s₁=>wpAny (model X.prog X.w) X.A (eval b X.env) (fun u s₂=>wpAny (model X.prog X.w) X.A (f v u) Q X.xe s₂) X.xe s₁) X.xe s:=by
 refine thn (ha pins s σ H _ I h) fun v s1 ⟨x,H1,I1,r1,q1⟩=>?_;refine thn (hb pins s1 σ H1 _ I1 q1) fun u s2 ⟨y,H2,I2,r2,q2⟩=>?_;exact hf v u s2 x y H2 I2 r1 r2 q2
theorem FG {op:Operator} {r:R2} (ho:OpR X (binaryOp op) r) (ha:PE X a ta) (hb:PE X b tb):PE X (.BinOp a op b pos) (tOp r ta tb):=by
 intro pins s σ H Q I h;exact wpAny_BinOp (DC ha hb I h fun v u s2 x y H2 I2 rx ry q=>ho pins s2 σ H2 x y v u Q I2 rx ry q)
theorem D0 {op:UnaryOp} {r:V->Hp->VK->Prop} (ho:UnR X (unaryOp op) r) (ha:PE X a ta):PE X (.UnaryOp op a pos) (tUn r ta):=by
 intro pins s σ H Q I h;exact UnaryOp_ (thn (ha pins s σ H _ I h) fun v s1 ⟨x,H1,I1,r1,q1⟩=>ho pins s1 σ H1 x v Q I1 r1 q1)
theorem opI {f:Value->Value->Sem Value} {C:Int->Int->Prop} {g:Int->Int->Int}
  (rule:∀ (i j:Int) (t u:Tok) (s:Shared) (Q:Value->Shared->Prop) (E:Value->Shared->Prop),C i j->Q (.int (g i j) s.toks) { s with toks:=s.toks+1 }->wpAny (model X.prog X.w) X.A (f (.int i t) (.int j u)) Q E s) :
  OpR X f (rI C fun i j=>.int (g i j)):=by
 intro pins s σ H x y v u Q I rx ry h;obtain ⟨i,j,rfl,rfl,hc,q⟩:=h;obtain ⟨t,rfl⟩:=rx;obtain ⟨t',rfl⟩:=ry;exact rule i j t t' s _ _ hc ⟨.int (g i j),H,I.tok _,⟨_,rfl⟩,q⟩
theorem GB {f:Value->Value->Sem Value} {g:Int->Int->Int}
  (rule:∀ (i j:Int) (t u:Tok) (s:Shared) (Q:Value->Shared->Prop) (E:Value->Shared->Prop),Q (.int (g i j) s.toks) { s with toks:=s.toks+1 }->wpAny (model X.prog X.w) X.A (f (.int i t) (.int j u)) Q E s) :
  OpR X f (rI0 fun i j=>.int (g i j)):=by
 intro pins s σ H x y v u Q I rx ry h;obtain ⟨i,j,rfl,rfl,q⟩:=h;obtain ⟨t,rfl⟩:=rx;obtain ⟨t',rfl⟩:=ry;exact rule i j t t' s _ _ ⟨.int (g i j),H,I.tok _,⟨_,rfl⟩,q⟩
theorem Dl {f:Value->Value->Sem Value} {g:Int->Int->Bool}
  (rule:∀ (i j:Int) (t u:Tok) (s:Shared) (Q:Value->Shared->Prop) (E:Value->Shared->Prop),Q (.bool (g i j)) s->wpAny (model X.prog X.w) X.A (f (.int i t) (.int j u)) Q E s) :
  OpR X f (rI0 fun i j=>.bl (g i j)):=by
 intro pins s σ H x y v u Q I rx ry h;obtain ⟨i,j,rfl,rfl,q⟩:=h;obtain ⟨t,rfl⟩:=rx;obtain ⟨t',rfl⟩:=ry;exact rule i j t t' s _ _ ⟨.bl (g i j),H,I,rfl,q⟩
def Gy (i j:Int):Prop:=0<=j/\j<=1000000/\i.natAbs < 2 ^ 64
def B1 (i j:Int):Prop:=(-(2 ^ 64) < i/\i < 2 ^ 64)\/(-(2 ^ 64) < j/\j < 2 ^ 64)
theorem B1.ok {i j:Int} (h:B1 i j):IntMulOk i j:=by
 rcases h with ⟨h1,h2⟩ | ⟨h1,h2⟩
 ·exact .of_left (intBits_le_64 h1 h2)
 ·exact .of_right (intBits_le_64 h1 h2)
theorem zT:OpR X (binaryOp .Add) (rI0 fun i j=>.int (i+j)):=GB fun _ _ _ _ _ _ _ q=>add_int q
theorem AR:OpR X (binaryOp .Sub) (rI0 fun i j=>.int (i - j)):=GB fun _ _ _ _ _ _ _ q=>sub_int q
theorem BI:OpR X (binaryOp .Mult) (rI B1 fun i j=>.int (i*j)):=opI fun _ _ _ _ _ _ _ hc q=>mul_int q hc.ok
theorem Ci:OpR X (binaryOp .Mod) (rI (fun _ j=>0 < j) fun i j=>.int (i % j)):=opI fun i j _ _ _ _ _ hc q=>by
 have h1:(0:Int) < j:=hc;exact mod_int' (by omega) (by rw [Int.fmod_eq_emod_of_nonneg i (by omega)];exact q)
theorem Bc:OpR X (binaryOp .Pow) (rI Gy fun i j=>.int (i ^ j.toNat)):=opI fun _ _ _ _ _ _ _ hc q=>pow_int_small hc.1 hc.2.1 hc.2.2 q
theorem unI {f:Value->Sem Value} {g:Int->Int}
  (rule:∀ (i:Int) (t:Tok) (s:Shared) (Q:Value->Shared->Prop) (E:Value->Shared->Prop),Q (.int (g i) s.toks) { s with toks:=s.toks+1 }->wpAny (model X.prog X.w) X.A (f (.int i t)) Q E s) :
  UnR X f (rU fun i=>.int (g i)):=by
 intro pins s σ H x v Q I rx h;obtain ⟨i,rfl,q⟩:=h;obtain ⟨t,rfl⟩:=rx;exact rule i t s _ _ ⟨.int (g i),H,I.tok _,⟨_,rfl⟩,q⟩
theorem CF:UnR X (unaryOp .USub) (rU fun i=>.int (-i)):=unI fun _ _ _ _ _ q=>neg_int q
end
section
variable {X:Cx} {a b c:Expr} {ta tb tc:TE} {pos:Pos}
theorem p9 {pins:List (Addr×Obj)} {σ:St} {H:Hp} {s:Shared} {Q:VK} {k k':Bool} (I:Inv X pins σ H s) (q:Q (.bl k) H) (e:k=k'):EP X pins σ Q (.bool k') s:=by
 subst e;exact ⟨.bl k,H,I,rfl,q⟩
theorem EX:OpR X (compareOp .Lt) (rI0 fun i j=>.bl (decide (i < j))):=Dl fun _ _ _ _ _ _ _ q=>lt_int q
theorem DK:OpR X (compareOp .LtE) (rI0 fun i j=>.bl (decide (i<=j))):=Dl fun _ _ _ _ _ _ _ q=>le_int q
theorem D1:OpR X (compareOp .Gt) (rI0 fun i j=>.bl (decide (j < i))):=Dl fun _ _ _ _ _ _ _ q=>gt_int q
theorem DJ:OpR X (compareOp .GtE) (rI0 fun i j=>.bl (decide (j<=i))):=Dl fun _ _ _ _ _ _ _ q=>ge_int q
theorem ud:OpR X (compareOp .Lt) (fun x y H Q=>∃ i j,x=.str i/\y=.str j/\Q (.bl (decide (i.cps.toList < j.cps.toList))) H):=by
 intro pins s σ H x y v u Q I rx ry h;obtain ⟨i,j,rfl,rfl,q⟩:=h;obtain ⟨t,rfl⟩:=rx;obtain ⟨t',rfl⟩:=ry;exact lt_str (p9 I q rfl)
theorem sx:OpR X (compareOp .In) (fun x y H Q=>∃ i j,x=.str i/\y=.str j/\Q (.bl (!(Builtin.Str.occurrences j i 0 j.length 1).isEmpty)) H):=by
 intro pins s σ H x y v u Q I rx ry h;obtain ⟨i,j,rfl,rfl,q⟩:=h;obtain ⟨t,rfl⟩:=rx;obtain ⟨t',rfl⟩:=ry;exact in_str (p9 I q rfl)
theorem Bx:OpR X (compareOp .Is) (fun x y H Q=>y=.non/\Q (.bl (decide (x=.non))) H):=by
 intro pins s σ H x y v u Q I rx ry h;obtain ⟨rfl,q⟩:=h;cases ry;refine is_none_gen (p9 I q ?_);cases x <;> first
  | (cases rx;rfl)
  | (obtain ⟨t,rfl⟩:=rx;rfl)
theorem xD:OpR X (compareOp .IsNot) (fun x y H Q=>y=.non/\Q (.bl (!decide (x=.non))) H):=by
 intro pins s σ H x y v u Q I rx ry h;obtain ⟨rfl,q⟩:=h;cases ry;refine isnot_none_gen (p9 I q ?_);cases x <;> first
  | (cases rx;rfl)
  | (obtain ⟨t,rfl⟩:=rx;rfl)
theorem cG (b:Expr) {op:CmpOp} (h:op≠.In:=by decide) (h2:op≠.NotIn:=by decide):behindInMarks op b=false:=by
 have e1:(op==CmpOp.In)=false:=by cases op <;> first | rfl | exact absurd rfl h
 have e2:(op==CmpOp.NotIn)=false:=by cases op <;> first | rfl | exact absurd rfl h2
 cases b <;> simp [behindInMarks,e1,e2]
theorem yO {op:CmpOp} {r:R2} (ho:OpR X (compareOp op) r) (ha:PE X a ta) (hb:PE X b tb) (hm:behindInMarks op b=false):PE X (.Compare a [op] [b] pos) (tOp r ta tb):=by
 intro pins s σ H Q I h;exact wpAny_Compare1 (DC ha hb I h fun v u s2 x y H2 I2 rx ry q=>ho pins s2 σ H2 x y v u Q I2 rx ry q) hm
def xF (t:TE):TT:=fun σ H Q=>t σ H fun x H'=>∃ k,x=.bl k/\Q k H'
theorem xB {op:CmpOp} {r:R2} (ho:OpR X (compareOp op) r) (ha:PE X a ta) (hb:PE X b tb) (hm:behindInMarks op b=false):PT X (.Compare a [op] [b] pos) (xF (tOp r ta tb)):=by
 intro pins s σ H Q I h
 refine wpAny_isTrue_Compare1 (thn (ha pins s σ H _ I h) fun v s1 ⟨x,H1,I1,r1,q1⟩=>thn (hb pins s1 σ H1 _ I1 q1) fun u s2 ⟨y,H2,I2,r2,q2⟩ =>
  thn (ho pins s2 σ H2 x y v u _ I2 r1 r2 q2) fun c s3 ⟨z,H3,I3,r3,k,e,q3⟩=>?_) hm
 subst e;cases r3;exact Jf ⟨H3,I3,q3⟩
def Af (r r':R2) (ta tb tc:TE):TE:=fun σ H Q=>ta σ H fun x H1=>tb σ H1 fun y H2=>r x y H2 fun z H3=>∃ k,z=.bl k /\
 (if k=true then tc σ H3 fun w' H4=>r' y w' H4 Q else Q (.bl false) H3)
def De (K:Fg) (x:V) (H:Hp) (k:Bool):Prop :=
 match x with
 | .non=>k=false
 | .bl b=>k=b
 | .int i=>k=(i != 0)
 | .str y=>y.length<=sizeLine/\k=((y.length:Int) != 0)
 | .byt y=>y.size<=sizeLine/\k=((y.size:Int) != 0)
 | .ref p=>(∃ xs,SqL K H p xs/\k=!xs.isEmpty)\/(∃ xs,SqT K H p xs/\k=!xs.isEmpty)\/∃ kvs,H p=some (.dK kvs)/\k=!kvs.isEmpty
 | _=>False
theorem qh {κ:Type} {kvs:List (κ×V)} {vs:List (κ×Value)} (r:KV kvs vs):(!vs.isEmpty)=!kvs.isEmpty:=by
 cases r <;> rfl
theorem kN {xs:List V} {its:List Value} (r:Vals xs its):(!its.toArray.isEmpty)=!xs.isEmpty:=by
 cases r <;> simp
theorem mP:(sizeLine:Nat) < 2 ^ 63:=by rw [JX];decide
theorem Ao:GV X (fun x H Q=>∃ k,De X.K x H k/\Q k H):=by
 intro pins s σ H x v Q I rx h;obtain ⟨k,e,q⟩:=h;have hl:=mP;have hs:sizeLine=16777216:=JX;cases x with
 | non =>
  cases rx;have e':k=false:=e;subst e';exact truthy_none ⟨H,I,q⟩
 | bl b =>
  cases rx;have e':k=b:=e;subst e';exact Jf ⟨H,I,q⟩
 | int i =>
  obtain ⟨t,rfl⟩:=rx;have e':k=(i != 0):=e;subst e';exact PySem.P.truthy_int ⟨H,I,q⟩
 | str y =>
  obtain ⟨t,rfl⟩:=rx;obtain ⟨hy,e'⟩:y.length<=sizeLine/\k=((y.length:Int) != 0):=e;subst e';exact PySem.P.truthy_str (by omega) ⟨H,I.tok _,q⟩
 | byt y =>
  obtain ⟨t,rfl⟩:=rx;obtain ⟨hy,e'⟩:y.size<=sizeLine/\k=((y.size:Int) != 0):=e;subst e';exact PySem.W.truthy_bytes (by omega) ⟨H,I.tok _,q⟩
 | ref p =>
  cases rx;have e':(∃ xs,SqL X.K H p xs/\k=!xs.isEmpty)\/(∃ xs,SqT X.K H p xs/\k=!xs.isEmpty)\/∃ kvs,H p=some (.dK kvs)/\k=!kvs.isEmpty:=e;rcases e' with ⟨xs,hx,e'⟩ | ⟨xs,hx,e'⟩ | ⟨kvs,hx,e'⟩
  ·subst e';obtain ⟨its,r,pl,hz⟩:=I.list hx;have hlen:=r.length;exact wpAny_truthy_list pl.isList (by simp only [Iw];omega) ⟨H,I.tok _,by rw [kN r];exact q⟩
  ·subst e';obtain ⟨its,r,pl,hz⟩:=I.tuple hx;have hlen:=r.length;exact truthy_tuple pl (by simp only [Iw];omega) ⟨H,I.tok _,by rw [kN r];exact q⟩
  ·subst e';obtain ⟨hz,hS,vs,r,m⟩:kvs.length<=sizeLine/\(p==sysModules)=false/\∃ vs,KV kvs vs/\s.heap.DictOf (bE X.prog X.w) p vs:=I.hok p _ hx;have hlen:kvs.length=vs.length:=Kh r;exact wpAny_truthy_dict hS m (by omega) ⟨H,I.tok _,by rw [qh r];exact q⟩
 | _=>exact (show False from e).elim
theorem vX (ha:PE X a ta) (he:∀ whole,isTrue a X.env whole=(do let v<-whole;standAt a.pos;holding [v] (truthy v))) :
  PT X a (fun σ H Q=>ta σ H fun x H'=>∃ k,De X.K x H' k/\Q k H'):=by
 intro pins s σ H Q I h;exact isTrue_plain (thn (ha pins s σ H _ I h) fun v s1 ⟨x,H1,I1,r1,q1⟩=>Ao pins s1 σ H1 x v Q I1 r1 q1) (he _)
theorem qB:OpR X (binaryOp .Add) (fun x y H Q=>∃ i j,x=.str i/\y=.str j/\i.length+j.length<=sizeLine/\Q (.str (i++j)) H):=by
 intro pins s σ H x y v u Q I rx ry h;obtain ⟨i,j,rfl,rfl,hz,q⟩:=h;obtain ⟨t,rfl⟩:=rx;obtain ⟨t',rfl⟩:=ry;exact add_str (fun t' tk=>⟨.str (i++j),H,I.tok _,⟨_,rfl⟩,q⟩) hz
theorem vals1 {x:V} {us:List Value} (r:Vals [x] us):∃ u,us=[u]/\RelV x u:=by
 cases r with
 | cons r1 r2=>cases r2;exact ⟨_,rfl,r1⟩
theorem vals2 {x y:V} {us:List Value} (r:Vals [x,y] us):∃ u w',us=[u,w']/\RelV x u/\RelV y w':=by
 cases r with
 | cons r1 r2 =>
  cases r2 with
  | cons r3 r4=>cases r4;exact ⟨_,_,rfl,r1,r3⟩
theorem vz:aP X (.builtin "abs") (fun xs H Q=>∃ i,xs=[.int i]/\Q (.int (if i < 0 then -i else i)) H):=by
 intro pins s σ H xs us Q I r h;obtain ⟨i,rfl,q⟩:=h;obtain ⟨u,rfl,t,rfl⟩:=vals1 r;exact call_abs_int fun u tk=>⟨.int (if i < 0 then -i else i),H,I.tok _,⟨_,rfl⟩,q⟩
theorem rB (hc:X.calm=true):aP X (.builtin "min") (fun xs H Q=>∃ i j,xs=[.int i,.int j]/\Q (.int (if j < i then j else i)) H):=by
 intro pins s σ H xs us Q I r h;obtain ⟨i,j,rfl,q⟩:=h;obtain ⟨u,w',rfl,⟨t,rfl⟩,⟨t',rfl⟩⟩:=vals2 r;refine min_two_ints (I.ok.hd hc) fun h' tk k=>⟨_,H,I.kept k,?_,q⟩;by_cases hj:j < i
 ·rw [Io hj,Io hj];exact ⟨_,rfl⟩
 ·rw [Iv hj,Iv hj];exact ⟨_,rfl⟩
def GN (K:Fg) (x:V) (H:Hp) (n:Nat):Prop :=
 match x with
 | .str y=>y.length<=sizeLine/\n=y.length
 | .byt y=>y.size<=sizeLine/\n=y.size
 | .ref p=>(∃ xs,SqL K H p xs/\n=xs.length)\/∃ xs,SqT K H p xs/\n=xs.length
 | _=>False
theorem vS:aP X (.builtin "len") (fun xs H Q=>∃ x n,xs=[x]/\GN X.K x H n/\Q (.int n) H):=by
 intro pins s σ H xs us Q I r h;obtain ⟨x,n,rfl,e,q⟩:=h;obtain ⟨u,rfl,rx⟩:=vals1 r;have hl:=mP;have hs:sizeLine=16777216:=JX;cases x with
 | str y =>
  obtain ⟨t,rfl⟩:=rx;obtain ⟨hy,e'⟩:y.length<=sizeLine/\n=y.length:=e;subst e';exact len_str (by omega) ⟨.int _,H,I.tok _,⟨_,rfl⟩,q⟩
 | byt y =>
  obtain ⟨t,rfl⟩:=rx;obtain ⟨hy,e'⟩:y.size<=sizeLine/\n=y.size:=e;subst e';exact PySem.W.len_bytes (by omega) ⟨.int _,H,I.tok _,⟨_,rfl⟩,q⟩
 | ref p =>
  cases rx;have e':(∃ xs,SqL X.K H p xs/\n=xs.length)\/∃ xs,SqT X.K H p xs/\n=xs.length:=e;rcases e' with ⟨xs,hx,e'⟩ | ⟨xs,hx,e'⟩
  ·subst e';obtain ⟨its,r',pl,hz⟩:=I.list hx;have hlen:=r'.length;exact Calls.call_len_list pl.isList (by simp only [Iw];omega) ⟨.int xs.length,H,I.tok _,⟨_,by simp only [Iw];rw [hlen]⟩,q⟩
  ·subst e';obtain ⟨its,r',pl,hz⟩:=I.tuple hx;have hlen:=r'.length;exact len_tuple pl (by simp only [Iw];omega) ⟨.int xs.length,H,I.tok _,⟨_,by simp only [Iw];rw [hlen]⟩,q⟩
 | _=>exact (show False from e).elim
end
end L2
namespace L2
open PySem PySem.Spec PyProof.Rows
structure iU (k:Nat) (A:Around):Prop where
 hd:A.handled=none
 dp:A.depth+3*k+5 < recursionLimit
 un:A.units+16*k+200 < cLine
 gd:A.guards=some []
theorem iU.mono {j k:Nat} {A:Around} (r:iU k A) (h:j<=k):iU j A:=⟨r.hd,by have:=r.dp;omega,by have:=r.un;omega,r.gd⟩
theorem iU.deeper {k:Nat} {A:Around} (r:iU (k+1) A) (env:Env):iU k (A.deeper env) :=
 ⟨r.hd,by have:=r.dp;show A.depth+1+3*k+5 < _;omega,by have:=r.un;show A.units+3+16*k+200 < _;omega,r.gd⟩
theorem iU.depth {k:Nat} {A:Around} (r:iU k A):A.depth < recursionLimit:=by have:=r.dp;omega
theorem iU.units {k:Nat} {A:Around} (r:iU k A):A.units+64 < cLine:=by have:=r.un;omega
def uJ:TA:=fun _ H Q=>Q [] H
def jP (ta:TE) (tr:TA):TA:=fun σ H Q=>ta σ H fun x H1=>tr σ H1 fun xs H2=>Q (x :: xs) H2
section
variable {X:Cx} {e:Expr} {es:List Expr} {te:TE} {t:TA} {pos:Pos}
theorem Av:PA X [] uJ:=fun _ _ _ _ H Q I h=>Calls.spliced_nil ⟨[],H,I,.nil,h⟩
theorem xP (ha:PE X e te) (hr:PA X es t) (hs:starEach (e :: es) X.env=(false,eval e X.env) :: starEach es X.env:=by rfl):PA X (e :: es) (jP te t):=by
 intro pos pins s σ H Q I h;rw [hs];show wpAny _ _ (spliced ((false,eval e X.env) :: backTo pos (starEach es X.env))) _ _ s;refine Calls.spliced_cons (thn (ha pins s σ H _ I h) fun u s1 ⟨x,H1,I1,r1,q1⟩=>?_);exact thn (hr pos pins s1 σ H1 _ I1 q1) fun us s2 ⟨xs,H2,I2,r2,q2⟩=>⟨x :: xs,H2,I2,.cons r1 r2,q2⟩
def Ex (t:TA):TE:=fun σ H Q=>t σ H fun xs H1=>xs.length<=sizeLine/\∀ p,H1 p=none->Q (.ref p) (upd H1 p (.tup xs))
def DZ (t:TA):TE:=fun σ H Q=>t σ H fun xs H1=>xs.length<=sizeLine/\∀ p,H1 p=none->Q (.ref p) (upd H1 p (.lst xs))
theorem BM {x1} (h:PA X es t):PE X (.Tuple es x1 pos) (Ex t):=by
 intro pins s σ H Q I hq;refine wpAny_Tuple_spliced (thn (h pos pins s σ H _ I hq) fun us s1 ⟨xs,H1,I1,r,z,q⟩=>⟨by rw [<- r.length];exact z,?_⟩);have hf:H1 s1.heap.objs.size=none:=I1.hok.fresh (Ia _);refine ⟨.ref s1.heap.objs.size,upd H1 s1.heap.objs.size (.tup xs),I1.laid (t':=s1.toks) (fun b u e=>H0 _ e) (Ia _) ?_,rfl,q _ hf⟩;exact ⟨z,us,r,⟨_,Iq _ rfl,rfl,_,rfl⟩⟩
theorem BH (h:PA X es t):PE X (.List es pos) (DZ t):=by
 intro pins s σ H Q I hq;refine wpAny_List_spliced (thn (h pos pins s σ H _ I hq) fun us s1 ⟨xs,H1,I1,r,z,q⟩=>⟨by rw [<- r.length];exact z,?_⟩);have hf:H1 s1.heap.objs.size=none:=I1.hok.fresh (Ia _);refine ⟨.ref s1.heap.objs.size,upd H1 s1.heap.objs.size (.lst xs),I1.laid (t':=s1.toks) (fun b u e=>H0 _ e) (Ia _) ?_,rfl,q _ hf⟩;exact ⟨z,us,0,r,Iq _ rfl⟩
end
abbrev Sp:=List V->Hp->VK->XK->Prop
abbrev CXT:=List Env->Hp->Shared->XK->Value->Shared->Prop
structure Dk (P:Program) (w:World) (K:Fg) (mg:Str->Option Value) (base:Heap) (A:Around) (outer:List Env) (s:Shared) (H:Hp):Prop where
 frames:A.frames=some outer
 mod:Mod K mg base
 bs:∀ b o,base.get? b=some o->s.heap.get? b=some o/\H b=none
 bsz:base.objs.size<=s.heap.objs.size
 tP:s.heap.FunFrames base outer
 frf:∀ b∈frs outer,H b=none
 hok:HOk P w H s.heap
 bare:AllBare s.gens
def CE (outer:List Env) (P:Program) (w:World) (H:Hp) (s:Shared) (Q:VK) (u:Value) (s':Shared):Prop :=
 ∃ v H',s'.os=s.os/\AllBare s'.gens/\Un (frs outer) [] H H' s.heap s'.heap/\HOk P w H' s'.heap/\RelV v u/\Q v H'
def CR (CX:CXT) (outer:List Env) (P:Program) (w:World) (H:Hp) (s:Shared) (Q:VK) (E:XK) (r:Result) (s':Shared):Prop :=
 match r with
 | .ok (.ret u)=>CE outer P w H s Q u s'
 | .ok _=>False
 | .error e=>CX outer H s E e s'
structure bW (P:Program) (w:World) (K:Fg) (mg:Str->Option Value) (base:Heap) (CX:CXT) (k:Nat) (f:Addr) (fd:FuncData) (ps:List Str) (sp:Sp):Prop where
 len:∀ vs H Q E,sp vs H Q E->vs.length=ps.length
 run:∀ (A:Around) (outer:List Env) (s:Shared) (H:Hp) (args:Args) (us:List Value) (vs:List V) (Q:VK) (E:XK),iU k A->Dk P w K mg base A outer s H->BindsTo s fd args (ps.zip us)->Vals vs us->sp vs H Q E ->
  codeAny (model P w) A (.call (.ref f) args) (CR CX outer P w H s Q E) s
section
variable {X:Cx} {pins:List (Addr×Obj)} {σ:St} {H:Hp} {s s':Shared}
theorem Inv.Fi (I:Inv X pins σ H s):Dk X.prog X.w X.K X.mg X.base X.A X.stack s H :=
 ⟨I.ok.frames,I.ok.mod,I.bs,Iy I.ok.bsz I.sz,I.stack,I.oG,I.hok,I.bare⟩
theorem Inv.after {Q:VK} {u:Value} (I:Inv X pins σ H s) (h:CE X.stack X.prog X.w H s Q u s'):EP X pins σ Q u s':=by
 obtain ⟨v,H',os,bare,un,hok,r,q⟩:=h;obtain ⟨hh,g,d,t,os'⟩:=s';obtain rfl:os'=s.os:=os;exact ⟨v,H',I.call (h':=hh) (g':=g) (d':=d) (t':=t) (ch:=[]) un hok bare (fun b z=>absurd z (by simp)),r,q⟩
end
def rh (sp:Sp) (dvs:List V) (E:XK) (t:TA):TE:=fun σ H Q=>t σ H fun vs H1=>sp (vs++dvs) H1 Q E
def Binds (K:Fg) (fd:FuncData) (ps:List Str) (ds:List Value):Prop :=
 ∀ (s:Shared) (us:List Value),K.In s.heap->(us++ds).length=ps.length->BindsTo s fd ⟨us,[]⟩ (ps.zip (us++ds))
theorem Binds.all {K:Fg} {fd:FuncData} {ps:List Str} (h:∀ us:List Value,us.length=ps.length->bindArgs fd ⟨us,[]⟩=pure (ps.zip us)):Binds K fd ps []:=fun s us _ hl=>by
 rw [Jn] at hl ⊢;exact .of_eq (h us hl)
def Passes (CX:CXT) (X:Cx) (E:XK):Prop:=∀ (pins:List (Addr×Obj)) (σ:St) (H:Hp) (s:Shared) (e:Value) (s':Shared),Inv X pins σ H s->CX X.stack H s E e s'->X.xe e s'
section
variable {X:Cx} {CX:CXT} {k:Nat} {f C:Addr} {fd:FuncData} {ps:List Str} {sp:Sp} {dvs:List V} {ds:List Value} {E:XK} {x m:Str} {p pos apos:Pos} {e o:Expr} {es:List Expr} {ta:TE} {t:TA}
theorem Ai {pins:List (Addr×Obj)} {σ:St} {H:Hp} {s:Shared} {Q:VK} {us:List Value} {vs:List V} (F:bW X.prog X.w X.K X.mg X.base CX k f fd ps sp) (hr:iU k X.A) (hb:Binds X.K fd ps ds) (hd:Vals dvs ds) (hx:Passes CX X E)
  (I:Inv X pins σ H s) (r:Vals vs us) (h:sp (vs++dvs) H Q E):wpAny (model X.prog X.w) X.A (call (.ref f) us) (EP X pins σ Q) X.xe s:=by
 have r2:Vals (vs++dvs) (us++ds):=r.append hd;have hl:(us++ds).length=ps.length:=by rw [<- r2.length];exact F.len _ _ _ _ h
 refine wpAny_call (codeAny_mono (F.run X.A X.stack s H ⟨us,[]⟩ (us++ds) (vs++dvs) Q E hr I.Fi (hb s us I.kIn hl) r2 h) fun r s' hq=>?_);cases r with
 | error e=>exact hx pins σ H s e s' I hq
 | ok fl =>
  cases fl with
  | ret u=>exact I.after hq
  | next=>exact False.elim hq
  | brk=>exact False.elim hq
  | cont=>exact False.elim hq
theorem yo (F:bW X.prog X.w X.K X.mg X.base CX k f fd ps sp) (hr:iU k X.A) (hg:Gl X x) (hm:X.mg x=some (.ref f)) (hk:PySem.W.keepIn X.K (.ref f)=true) (hb:Binds X.K fd ps ds) (hd:Vals dvs ds) (hx:Passes CX X E)
  (ha:PA X (e :: es) t) (hdb:(x==("__debug__" : Str))=false:=by decide) (he:starEach (e :: es) X.env=(false,eval e X.env) :: starEach es X.env:=by rfl) (hpl:(backTo pos (starEach es X.env)).any (·.1)=false:=by rfl) :
  PE X (.Call (.Name x p) (e :: es) [] pos) (rh sp dvs E t):=by
 intro pins s σ H Q I h;refine wpAny_Call_Name_kw (tK I hg hm ?_ hdb);refine PySem.W.callWith_K (h₀:=X.base) I.ok.mod.kin hk (thn (ha pos pins s σ H _ I h) fun us s1 ⟨vs,H1,I1,r,q⟩=>⟨I1.kIn,?_⟩) he hpl;exact Ai F hr hb hd hx I1 r q
end
structure ag (N P:List Str) (sc:Scope):Prop where
 kind:sc.kind=.function
 co:sc.isCoroutine=false
 gen:sc.isGenerator=false
 nd:N.Nodup
 pre:N.take P.length=P
 par:∀ x∈P,sc.names.lookup x=some .local\/sc.names.lookup x=some .cell
 Au:∀ y∈sc.names,y.2≠.free
theorem mz {kindOf:Str->Option NameKind} {x:Str}:∀ {binds:List (Str×Value)} {m:Str->Option Value},(∀ v,(x,v) ∉ binds)->bindL kindOf binds m x=m x
 | [],_,_=>rfl
 | (n,v) :: r,m,h=>by
  unfold bindL;rw [mz fun w hw=>h w (Ie _ hw)];split
  ·have:x≠n:=by rintro rfl;exact h v Ip
   simp [this]
  ·rfl
theorem lS {kindOf:Str->Option NameKind} {x:Str}:∀ {binds:List (Str×Value)} {m:Str->Option Value},(∀ v,(x,v) ∉ binds)->bindC kindOf binds m x=m x
 | [],_,_=>rfl
 | (n,v) :: r,m,h=>by
  unfold bindC;rw [lS fun w hw=>h w (Ie _ hw)];split
  ·rfl
  ·have:x≠n:=by rintro rfl;exact h v Ip
   simp [this]
theorem mf {kindOf:Str->Option NameKind} {x:Str} {v:Value}:∀ {P:List Str} {vs:List Value} {i:Nat} {m:Str->Option Value},P.Nodup->P[i]?=some x->vs[i]?=some v->kindOf x=some .local ->
  bindL kindOf (P.zip vs) m x=some v
 | [],_,_,_,_,h,_,_=>by simp at h
 | _ :: _,[],_,_,_,_,h,_=>by simp at h
 | p :: P,w :: vs,0,m,nd,h1,h2,hk=>by
  simp at h1 h2;subst h1;subst h2;show bindL kindOf ((p,w) :: P.zip vs) m p=_;unfold bindL;rw [mz fun v hv=>(IY.mp nd).1 (List.of_mem_zip hv).1,Io hk];simp
 | p :: P,w :: vs,i+1,m,nd,h1,h2,hk=>by
  show bindL kindOf ((p,w) :: P.zip vs) m x=_;unfold bindL;exact mf (i:=i) (IY.mp nd).2 (by simpa using h1) (by simpa using h2) hk
theorem mr {kindOf:Str->Option NameKind} {x:Str} {v:Value}:∀ {P:List Str} {vs:List Value} {i:Nat} {m:Str->Option Value},P.Nodup->P[i]?=some x->vs[i]?=some v->kindOf x≠some .local ->
  bindC kindOf (P.zip vs) m x=some v
 | [],_,_,_,_,h,_,_=>by simp at h
 | _ :: _,[],_,_,_,_,h,_=>by simp at h
 | p :: P,w :: vs,0,m,nd,h1,h2,hk=>by
  simp at h1 h2;subst h1;subst h2;show bindC kindOf ((p,w) :: P.zip vs) m p=_;unfold bindC;rw [lS fun v hv=>(IY.mp nd).1 (List.of_mem_zip hv).1,Iv hk];simp
 | p :: P,w :: vs,i+1,m,nd,h1,h2,hk=>by
  show bindC kindOf ((p,w) :: P.zip vs) m x=_;unfold bindC;exact mr (i:=i) (IY.mp nd).2 (by simpa using h1) (by simpa using h2) hk
noncomputable def start (N:List Str) (vs:List V):St:=vs.map some++List.replicate (N.length - vs.length) none
noncomputable def vy (CX:CXT) (P:Program) (w:World) (K:Fg) (mg:Str->Option Value) (base:Heap) (N:List Str) (qual:Str) (scope:Scope) (f:Addr) (cd:Value) (A:Around) (outer:List Env) (s:Shared) (H:Hp) (E:XK):Cx where
 prog:=P
 w:=w
 K:=K
 mg:=mg
 base:=base
 A:=A.deeper (envOfC qual scope s.heap.objs.size f cd)
 N:=N
 s₀:=s
 H₀:=H
 env:=envOfC qual scope s.heap.objs.size f cd
 outer:=outer
 stack:=envOfC qual scope s.heap.objs.size f cd :: outer
 ex:=[]
 calm:=true
 fn:=fun _=>true
 pn:=[]
 xe:=fun e s'=>wpAny (model P w) (A.deeper (envOfC qual scope s.heap.objs.size f cd)) (leaving (envOfC qual scope s.heap.objs.size f cd) e) (fun _ s''=>CX outer H s E e s'') (fun e' s''=>CX outer H s E e' s'') s'
theorem pY {sc:Scope} {n:Nat} {x:Str} (h:sc.names.lookup x=some .cell):∃ c,(cellsFrom n sc.names []).lookup x=some c:=by
 have q:=PySem.W.cellsFrom_some sc.names n [] (.inl h);exact KA.mp q
theorem rN {CX:CXT} {P:Program} {w:World} {K:Fg} {mg:Str->Option Value} {base:Heap} {N ps:List Str} {qual:Str} {scope:Scope} {f:Addr} {cd:Value} {A:Around} {outer:List Env} {s s1:Shared} {H:Hp} {E:XK} {us:List Value} {vs:List V}
  (S:ag N ps scope) (hd:A.handled=none) (e0:Dk P w K mg base A outer s H) (hl:vs.length=ps.length) (r:Vals vs us)
  (x:InCallC s s.heap.objs.size (bindL (envOfC qual scope s.heap.objs.size f cd).kindOf (ps.zip us) fun _=>none) (cellsFrom (s.heap.objs.size+1) scope.names []) (bindC (envOfC qual scope s.heap.objs.size f cd).kindOf (ps.zip us) fun _=>none) s1) :
  Inv (vy CX P w K mg base N qual scope f cd A outer s H E) [] (start N vs) H s1:=by
 have hpl:ps.length<=N.length:=by have:=congrArg List.length S.pre;rw [IE] at this;omega
 obtain ⟨h1,tk,rfl,hk⟩:=x.done;have noA:∀ b:Addr,b ∉ (vy CX P w K mg base N qual scope f cd A outer s H E).ex:=fun b z=>absurd (show b∈([]:List Addr) from z) (by simp)
 refine ⟨⟨e0.mod,S.kind,rfl,rfl,Ia _,fun y z c h1 h2=>?_,fun y hy=>?_,fun y c _ h=>?_,fun _=>hd,Around.frames_deeper e0.frames,.inr ⟨rfl,rfl⟩,fun b z=>absurd z (noA b),e0.bs,e0.bsz,fun b _ _=>noA b,fun b z=>absurd z (noA b),e0.tP,e0.frf⟩,
  rfl,e0.bare,Un.kept hk,⟨_,x.toInCall.ns,fun i y v h1 h2 h3=>?_⟩,fun y c h=>⟨_,x.cell y c h⟩,e0.hok.fresh (Ia _),fun y c h=>?_,fun p hp=>absurd (show p∈([]:List (Addr×Obj)) from hp) (by simp),e0.hok.kept hk,?_⟩
 ·exact name_of_addr x.apart (JH h1) (JH h2)
 ·have hy:scope.names.lookup y=some .cell\/scope.names.lookup y=some .free:=hy;rcases hy with hy | hy
  ·exact pY hy
  ·exact absurd rfl (S.Au _ (JH hy))
 ·exact Kc (x.above y c (JH h))
 ·have hi:i < vs.length:=by
   unfold start at h2;by_cases hi:i < vs.length
   ·exact hi
   ·rw [Ii (by simpa using hi)] at h2;rw [List.getElem?_replicate] at h2;split at h2 <;> cases h2
  have ha:vs[i]?=some v:=by
   unfold start at h2;rw [IL (by simpa using hi),H9] at h2;cases e:vs[i]? with
   | none=>rw [e] at h2;cases h2
   | some a=>rw [e] at h2;cases h2;rfl
  obtain ⟨u,hu,rv⟩:=r.get ha;have hp:ps[i]?=some y:=by
   rw [<- S.pre,List.getElem?_take_of_lt (by omega)];exact h1
  have ndP:ps.Nodup:=by rw [<- S.pre];exact S.nd.sublist (List.take_sublist _ _)
  refine ⟨u,rv,?_⟩;rcases S.par y (Iz hp) with k | k
  ·exact .inl ⟨k,mf ndP hp hu k⟩
  ·obtain ⟨c,e⟩:=pY (n:=s.heap.objs.size+1) k;refine .inr ⟨.inl k,c,e,?_⟩;have q:=x.cell y c e;rw [mr ndP hp hu (by show scope.names.lookup y≠_;rw [k];decide)] at q;exact q
 ·exact e0.hok.fresh (Kc (x.above y c (JH h)))
 ·unfold start;show _=N.length;rw [HY,HS,KO];omega
theorem Fb {CX:CXT} {P:Program} {w:World} {K:Fg} {mg:Str->Option Value} {base:Heap} {k:Nat} {f:Addr} {name qual:Str} {params:Arguments} {body:List Stmt} {scope:Scope} {dV kV doc pm cdv ct oc:Value} {an od:Option Addr}
  {osl:Array (Option Value)} {N ps:List Str} {sp:Sp} (lk:K.lookup f=some ⟨oc,od,.func (PySem.W.fnOf name qual params body scope dV kV doc pm an cdv ct),osl⟩) (hcd:PySem.W.codeIn K cdv qual=true) (S:ag N ps scope)
  (len:∀ vs H Q E,sp vs H Q E->vs.length=ps.length)
  (hbody:∀ (A:Around) (outer:List Env) (s:Shared) (H:Hp) (vs:List V) (Q:VK) (E:XK),iU k (A.deeper (envOfC qual scope s.heap.objs.size f cdv))->sp vs H Q E ->
   ∃ t,PSs (vy CX P w K mg base N qual scope f cdv A outer s H E) body t/\t { nx:=fun _ H'=>Q .non H',rt:=Q } (start N vs) H) :
  bW P w K mg base CX (k+1) f (PySem.W.fnOf name qual params body scope dV kV doc pm an cdv ct) ps sp:=by
 refine ⟨len,fun A outer s H args us vs Q E hr e0 hb r hsp=>?_⟩;have hl:=len _ _ _ _ hsp;have KX:K.In s.heap:=e0.mod.kin.keeps fun b o e=>(e0.bs b o e).1;have lim:s.heap.NoLimit:=e0.mod.nolimit.keeps fun b o e=>(e0.bs b o e).1;have hkind:∀ y∈ps.zip us,scope.names.lookup y.1=some .local\/(scope.names.lookup y.1=some .cell/\((cellsFrom (s.heap.objs.size+1) scope.names []).lookup y.1).isSome=true):=fun ⟨n,v⟩ hy=>by
  rcases S.par n (List.of_mem_zip hy).1 with q | q
  ·exact .inl q
  ·exact .inr ⟨q,PySem.W.cellsFrom_some _ _ _ (.inl q)⟩
 refine codeAny_call_function hr.depth (KX _ _ lk) rfl S.co S.gen rfl (PySem.W.codeRec_of KX hcd) (hb _ _ _ _ ?_);refine wpAny_newFunctionEnv_cells S.kind hkind fun env he s1 x=>?_;subst he;refine ⟨lim.keeps x.toInCall.keep,codeAny_func ?_⟩;obtain ⟨t,ht,hq⟩:=hbody A outer s H vs Q E (hr.deeper _) hsp;have I:Inv (vy CX P w K mg base N qual scope f cdv A outer s H E) [] (start N vs) H s1:=rN S hr.hd e0 hl r x;refine IJ (ht [] s1 (start N vs) H _ I hq) (fun fl s' hs=>?_) fun e s' hs=>hs;have fin:∀ {σ':St} {H':Hp} {v:V} {u:Value},Inv (vy CX P w K mg base N qual scope f cdv A outer s H E) [] σ' H' s'->RelV v u->Q v H'->CE outer P w H s Q u s' :=
  fun {σ' H' v u} J rv q=>⟨v,H',J.os,J.bare,J.base,J.hok,rv,q⟩
 cases fl with
 | ret u =>
  obtain ⟨v,σ',H',J,rv,q⟩:=hs;exact fin J rv q
 | next =>
  obtain ⟨σ',H',J,q⟩:=hs;exact fin (v:=V.non) (u:=Value.none) J rfl q
 | brk =>
  obtain ⟨_,_,_,q⟩:=hs;exact False.elim q
 | cont =>
  obtain ⟨_,_,_,q⟩:=hs;exact False.elim q
end L2
namespace L2
open PySem PySem.Spec PyProof.Rows
section
variable {X:Cx} {x:Str} {p pos:Pos} {e:Expr} {es:List Expr} {t:TA} {id T:String} {r:List V->Hp->VK->Prop}
def tCB (r:List V->Hp->VK->Prop) (t:TA):TE:=fun σ H Q=>t σ H fun vs H1=>r vs H1 Q
theorem vQ (hc:aP X (.builtin id) r) (hg:Gl X x) (hm:X.mg x=none) (hv:bootBuiltins x=some (.builtin id)) (ha:PA X (e :: es) t) (hn:x ≠ "__name__" := by decide) (hdb:(x==("__debug__" : Str))=false:=by decide)
  (he:starEach (e :: es) X.env=(false,eval e X.env) :: starEach es X.env:=by rfl) (hpl:(backTo pos (starEach es X.env)).any (·.1)=false:=by rfl):PE X (.Call (.Name x p) (e :: es) [] pos) (tCB r t):=by
 intro pins s σ H Q I h;refine wpAny_Call_Name_kw (qc I hg hm hv ?_ hn hdb);exact PyProof.Rows.callWith_builtin1 (thn (ha pos pins s σ H _ I h) fun us s1 ⟨vs,H1,I1,r1,q1⟩=>hc pins s1 σ H1 vs us Q I1 r1 q1) he hpl
theorem tG (hc:aP X (.type T) r) (hg:Gl X x) (hm:X.mg x=none) (hv:bootBuiltins x=some (.type T)) (ha:PA X (e :: es) t) (hn:x ≠ "__name__" := by decide) (hdb:(x==("__debug__" : Str))=false:=by decide)
  (he:starEach (e :: es) X.env=(false,eval e X.env) :: starEach es X.env:=by rfl) (hpl:(backTo pos (starEach es X.env)).any (·.1)=false:=by rfl):PE X (.Call (.Name x p) (e :: es) [] pos) (tCB r t):=by
 intro pins s σ H Q I h;refine wpAny_Call_Name_kw (qc I hg hm hv ?_ hn hdb);exact PyProof.Rows.callWith_type1 (thn (ha pos pins s σ H _ I h) fun us s1 ⟨vs,H1,I1,r1,q1⟩=>hc pins s1 σ H1 vs us Q I1 r1 q1) he hpl
end
end L2
namespace HT
open PySem PyProof.Rows
section
variable {prog:Program} {w:World} {A:Around} {E:Value->Shared->Prop} {s:Shared}
theorem ye {t b:Addr} {vs ws:List Value} {Q:Value->Shared->Prop} (ht:IsTup s.heap t vs.toArray) (hb:IsTup s.heap b ws.toArray) (hv:vs≠[])
  (h1:ws=[]->Q (.ref t) s) (h2:ws≠[]->Q (.ref s.heap.objs.size) { s with heap:=s.heap.push { cls:=.type "tuple", data:=.seq (vs++ws).toArray } })
  (hsz:vs.length+ws.length<=sizeLine):wpAny (model prog w) A (binaryOp .Add (.ref t) (.ref b)) Q E s:=by
 obtain ⟨⟨cls,dd,data,sl⟩,ho,hc,n,hd⟩:=id ht;obtain ⟨⟨cls2,dd2,data2,sl2⟩,ho2,hc2,n2,hd2⟩:=id hb;simp only at hc hd hc2 hd2;subst hc hd hc2 hd2;have e:vs.toArray++ws.toArray=(vs++ws).toArray:=by simp
 by_cases hw:ws=[]
 ·exact concat_meets ⟨_,ho,rfl⟩ ⟨_,ho2,rfl⟩ noFill_tuple_add seq_tuple_add PySem.F.slot_tuple_add PySem.F.entry_tuple_add (PySem.F.args_tuple_add_2 _ _)
   (tuple_addW1 t b vs.toArray ws.toArray n n2 dd dd2 sl sl2 (by simpa using hv) (by simp [hw])) ⟨ho,ho2,h1 hw⟩
 ·refine concat_meets ⟨_,ho,rfl⟩ ⟨_,ho2,rfl⟩ noFill_tuple_add seq_tuple_add PySem.F.slot_tuple_add PySem.F.entry_tuple_add (PySem.F.args_tuple_add_2 _ _)
   (tuple_addW2 t b vs.toArray ws.toArray n n2 dd dd2 sl sl2 (by simpa using hv) (by simpa using hw) (by rw [Iw,Iw];exact hsz)) ⟨ho,ho2,?_⟩
  rw [e];exact h2 hw
noncomputable def sIx (n d:Nat):Option Int->Nat
 | none=>d
 | some v=>if v < 0 then (v+(n:Int)).toNat else min v.toNat n
theorem pb (n d:Nat) (hd:d<=n) (o:Option Int):sIx n d o<=n:=by
 cases o with
 | none=>exact hd
 | some v =>
  show (if v < 0 then (v+(n:Int)).toNat else min v.toNat n)<=n;by_cases hv:v < 0
  ·rw [Io hv];omega
  ·rw [Iv hv];exact Nat.min_le_right _ _
theorem tS (v:Int) (n d:Nat):(if v < 0 then max (v+(n:Int)) 0 else min v (n:Int))=((sIx n d (some v):Nat):Int):=by
 show (if v < 0 then max (v+(n:Int)) 0 else min v (n:Int))=(((if v < 0 then (v+(n:Int)).toNat else min v.toNat n):Nat):Int);by_cases hv:v < 0
 ·simp only [Io hv];omega
 ·simp only [Iv hv];omega
theorem qJ (lo hi:Option Int) (n:Nat):Builtin.Slice.sliceAdjust lo hi 1 (n:Int)=(((sIx n 0 lo:Nat):Int),((sIx n n hi:Nat):Int)):=by
 have h1:¬((1:Int) < 0):=by omega
 unfold Builtin.Slice.sliceAdjust;simp only [h1,JM];refine Prod.ext ?_ ?_
 ·cases lo with
  | none=>rfl
  | some v=>exact tS v n 0
 ·cases hi with
  | none=>rfl
  | some v=>exact tS v n n
theorem qt (i j:Nat):Builtin.Slice.slicePlaces (i:Int) (j:Int) 1=j - i:=by
 unfold Builtin.Slice.slicePlaces;have h1:(1:Int) > 0:=by omega
 simp only [h1,Kr,Int.ediv_one];split <;> omega
theorem ku {v:Value} {o:Option Int} {Q:Option Int->Shared->Prop} (p:IsPart v o) (h:Q o s):wpAny (model prog w) A (Builtin.Slice.slicePartIndex v) Q E s:=by
 cases p with
 | none=>exact slicePart_none h
 | int i t=>exact slicePart_int h
theorem iO {sl:Addr} {vl vu:Value} {lo hi:Option Int} {n:Nat} {Q:Int×Int×Nat->Shared->Prop} (hs:s.heap.IsSliceOf sl vl vu .none) (pl:IsPart vl lo) (pu:IsPart vu hi)
  (h:Q (((sIx n 0 lo:Nat):Int),1,sIx n n hi - sIx n 0 lo) s):wpAny (model prog w) A (Builtin.Slice.sliceApplied (.ref sl) (pure (n:Int))) Q E s:=by
 obtain ⟨os,hos,hcs,hds⟩:=id hs;unfold Builtin.Slice.sliceApplied Builtin.Slice.sliceFields;refine HU (HU (wpAny_field hos hds (x:=vl) rfl (HU (wpAny_field hos hds (x:=vu) rfl (HU (wpAny_field hos hds (x:=.none) rfl (HV ?_)))))));refine HU (slicePart_none ?_);show wpAny _ _ (if ((1:Int)==0)=true then _ else _) _ _ s;rw [Iv (by decide)];refine HU (ku pl (HU (ku pu (HU (HV ?_)))));show wpAny _ _ (match Builtin.Slice.sliceAdjust lo hi 1 (n:Int) with | (lo,hi)=>pure (lo,(1:Int),Builtin.Slice.slicePlaces lo hi 1)) _ _ s;rw [qJ lo hi n];show wpAny _ _ (pure (((sIx n 0 lo:Nat):Int),(1:Int),Builtin.Slice.slicePlaces ((sIx n 0 lo:Nat):Int) ((sIx n n hi:Nat):Int) 1)) _ _ s;rw [qt];exact HV h
theorem u3 (xs:Array Value) (i k:Nat):((List.range k).filterMap fun (m:Nat)=>xs[((i:Int)+(m:Int)*1).toNat]?).toArray=((xs.toList.drop i).take k).toArray:=by
 have e:(fun (m:Nat)=>xs[((i:Int)+(m:Int)*1).toNat]?)=fun m=>xs[i+m]?:=by
  funext m;have:((i:Int)+(m:Int)*1).toNat=i+m:=by omega
  rw [this]
 rw [e];have:=pick_run xs i k;rw [List.filterMap_map] at this;have e2:((fun x=>xs[x]?)∘fun x=>i+x)=fun m=>xs[i+m]?:=rfl;rw [e2] at this;rw [this]
theorem gN {t sl:Addr} {items:Array Value} {vl vu:Value} {lo hi:Option Int} {Q:Value->Shared->Prop} (ht:IsTup s.heap t items) (hs:s.heap.IsSliceOf sl vl vu .none) (pl:IsPart vl lo) (pu:IsPart vu hi)
  (hw:¬(sIx items.size 0 lo=0/\sIx items.size items.size hi=items.size))
  (h:Q (.ref s.heap.objs.size) { s with heap:=s.heap.push { cls:=.type "tuple", data:=.seq ((items.toList.drop (sIx items.size 0 lo)).take (sIx items.size items.size hi - sIx items.size 0 lo)).toArray } })
  (hsz:items.size<=sizeLine):wpAny (model prog w) A (getItem (.ref t) (.ref sl)) Q E s:=by
 have htake:sizeOk (.seq ((items.toList.drop (sIx items.size 0 lo)).take (sIx items.size items.size hi - sIx items.size 0 lo)).toArray):=by
  show ((items.toList.drop (sIx items.size 0 lo)).take (sIx items.size items.size hi - sIx items.size 0 lo)).toArray.size<=sizeLine;rw [Iw,IE,IH,Jc];omega
 have hj:sIx items.size items.size hi<=items.size:=pb _ _ (Ia _) hi;obtain ⟨os,hos,hcs,hds⟩:=id hs;have hTs:s.TypeIs (.ref sl) "slice" := ⟨os,hos,hcs⟩;unfold getItem;try with_reducible refine II ?_
 first | refine HU (HV ?_) | skip
 refine HU (wpAny_sequenceKey ht.typeIs (by decide) ?_)
 refine HU (Jk (name:=Str.ofString "__getitem__") ht.typeIs PyProof.Rows.slot_tuple_getitem
  (IZ PyProof.Rows.slot_tuple_getitem ht.typeIs entry_tuple_getitem ?_ (args_tuple_getitem _ _)))
 show wpAny _ _ (Builtin.Tuple.tupleItemsOf (.ref t)>>=_) _ _ s;refine HU (tupleItemsOf_ ht ?_);refine HU (wpAny_typeOf hTs ?_);rw [Io (by decide)];refine HU (iO hs pl pu ?_);have hno:¬((((sIx items.size 0 lo:Nat):Int)==0&&(1:Int)==1&&(sIx items.size items.size hi - sIx items.size 0 lo)==items.size)=true):=by
  intro q;rw [ID,ID] at q;have q1:((sIx items.size 0 lo:Nat):Int)=0:=eq_of_beq q.1.1;have q2:sIx items.size items.size hi - sIx items.size 0 lo=items.size:=eq_of_beq q.2;exact hw ⟨by omega,by omega⟩
 show wpAny _ _ (if (((sIx items.size 0 lo:Nat):Int)==0&&(1:Int)==1&&(sIx items.size items.size hi - sIx items.size 0 lo)==items.size)=true then _ else _) _ _ s;rw [Iv hno,u3];first
  | exact HU (m:=Builtin.Tuple.tupleExact _) (IU (HV ⟨_,rfl,HV h⟩) htake)
  | exact HU (m:=Builtin.Tuple.tupleExact _) (IU (HU (HV (HV ⟨_,rfl,HV h⟩))) htake)
  | exact HU (HU (m:=Builtin.Tuple.tupleExact _) (IU (HV (HV ⟨_,rfl,HV h⟩)) htake))
  | exact HU (HU (m:=Builtin.Tuple.tupleExact _) (IU (HV ⟨_,rfl,HV h⟩) htake))
end
end HT
namespace L2
open PySem PySem.Spec PyProof.Rows
abbrev TO:=St->Hp->(Option Int->Hp->Prop)->Prop
def PO (X:Cx) (e:Option Expr) (t:TO):Prop :=
 ∀ (pins:List (Addr×Obj)) (s:Shared) (σ:St) (H:Hp) (Q:Option Int->Hp->Prop),Inv X pins σ H s->t σ H Q ->
  wpAny (model X.prog X.w) X.A (evalPart e X.env) (fun u s'=>∃ o H',Inv X pins σ H' s'/\IsPart u o/\Q o H') X.xe s
def sW:TO:=fun _ H Q=>Q none H
def Ab (t:TE):TO:=fun σ H Q=>t σ H fun x H1=>∃ i,x=.int i/\Q (some i) H1
section
variable {X:Cx} {e:Expr} {te:TE} {lo hi:Option Expr} {tl th:TO} {pos p2:Pos}
theorem yc:PO X none sW:=by
 intro pins s σ H Q I h;rw [evalPart_none];exact HV ⟨none,H,I,.none,h⟩
theorem xW (h:PE X e te):PO X (some e) (Ab te):=by
 intro pins s σ H Q I hw;rw [evalPart_some];refine thn (h pins s σ H _ I hw) fun u s1 ⟨x,H1,I1,r1,q1⟩=>?_;obtain ⟨i,rfl,q⟩:=q1;obtain ⟨t,rfl⟩:=r1;exact ⟨some i,H1,I1,.int i t,q⟩
def SlR (X:Cx) (r:V->Option Int->Option Int->Hp->VK->Prop):Prop :=
 ∀ (pins:List (Addr×Obj)) (s:Shared) (σ:St) (H:Hp) (x:V) (v vl vu:Value) (lo hi:Option Int) (sl:Addr) (Q:VK),Inv X pins σ H s->RelV x v->s.heap.IsSliceOf sl vl vu .none->IsPart vl lo->IsPart vu hi->r x lo hi H Q ->
  ∃ T id,typeLookup (.type T) "__getitem__" = pure (some (.builtin id))/\s.TypeIs v T/\wpAny (model X.prog X.w) X.A (getItem v (.ref sl)) (EP X pins σ Q) X.xe s
theorem SlR.or {r r':V->Option Int->Option Int->Hp->VK->Prop} (h:SlR X r) (h':SlR X r'):SlR X (fun x lo hi H Q=>r x lo hi H Q\/r' x lo hi H Q):=by
 intro pins s σ H x v vl vu lo hi sl Q I rx hs pl pu q;rcases q with q | q
 ·exact h pins s σ H x v vl vu lo hi sl Q I rx hs pl pu q
 ·exact h' pins s σ H x v vl vu lo hi sl Q I rx hs pl pu q
def tSl (r:V->Option Int->Option Int->Hp->VK->Prop) (te:TE) (tl th:TO):TE:=fun σ H Q=>te σ H fun x H1=>tl σ H1 fun l H2=>th σ H2 fun u H3=>r x l u H3 Q
theorem vT {r:V->Option Int->Option Int->Hp->VK->Prop} (hr:SlR X r) (he:PE X e te) (hl:PO X lo tl) (hu:PO X hi th):PE X (.Subscript e (.Slice lo hi none p2) pos) (tSl r te tl th):=by
 intro pins s σ H Q I h;refine Subscript_ (thn (he pins s σ H _ I h) fun v s1 ⟨x,H1,I1,r1,q1⟩=>?_);refine wpAny_Slice (thn (hl pins s1 σ H1 _ I1 q1) fun vl s2 ⟨l,H2,I2,pl,q2⟩=>thn (hu pins s2 σ H2 _ I2 q2) fun vu s3 ⟨u,H3,I3,pu,q3⟩=>?_);rw [evalPart_none];refine HV ?_;have I4:Inv X pins σ H3 { s3 with heap:=s3.heap.push { cls:=.type "slice", data:=.fields #[vl,vu,.none] } }:=I3.kept (t':=s3.toks) fun b ob q=>H0 _ q;obtain ⟨T,id,hT,ht,hg⟩:=hr pins { s3 with heap:=s3.heap.push { cls:=.type "slice", data:=.fields #[vl,vu,.none] } } σ H3 x v vl vu l u s3.heap.objs.size Q I4 r1 (Heap.IsSliceOf.new ..) pl pu q3;show wpAny (model X.prog X.w) X.A (subscriptTail e (.Slice lo hi none p2) v (.ref s3.heap.objs.size)) (EP X pins σ Q) X.xe { s3 with heap:=s3.heap.push { cls:=.type "slice", data:=.fields #[vl,vu,.none] } };exact tail_any (ops:=[.ref s3.heap.objs.size,v]) ht hT hg (by with_unfolding_all rfl)
noncomputable def uT (xs:List V) (lo hi:Option Int):List V:=(xs.drop (HT.sIx xs.length 0 lo)).take (HT.sIx xs.length xs.length hi - HT.sIx xs.length 0 lo)
theorem jj (xs:List V) (lo hi:Option Int):(uT xs lo hi).length<=xs.length:=by
 unfold uT;rw [IE,IH];omega
def GA (K:Fg):V->Option Int->Option Int->Hp->VK->Prop:=fun x lo hi H Q=>∃ a xs,x=.ref a/\SqT K H a xs /\
 ¬(HT.sIx xs.length 0 lo=0/\HT.sIx xs.length xs.length hi=xs.length)/\∀ p,H p=none->Q (.ref p) (upd H p (.tup (uT xs lo hi)))
theorem cf:SlR X (GA X.K):=by
 intro pins s σ H x v vl vu lo hi sl Q I rx hs pl pu h;obtain ⟨a,xs,rfl,hx,hw,q⟩:=h;cases rx;obtain ⟨its,r,ht,hz⟩:=I.tuple hx;have hlen:its.toArray.size=xs.length:=by rw [Iw];exact r.length.symm
 refine ⟨"tuple", _,PyProof.Rows.slot_tuple_getitem.lookup,ht.typeIs,?_⟩;refine HT.gN ht hs pl pu (by rw [hlen];exact hw) ?_ (by rw [hlen];exact hz);rw [hlen];refine ⟨.ref s.heap.objs.size,_,I.laid (t':=s.toks) (o:=.tup (uT xs lo hi)) (fun b ob q=>H0 _ q) (Ia _) ?_,rfl,q _ (I.hok.fresh (Ia _))⟩;exact ⟨Iy (jj xs lo hi) hz,_,(r.drop (HT.sIx xs.length 0 lo)).take (HT.sIx xs.length xs.length hi - HT.sIx xs.length 0 lo),IsTup.new _ _⟩
def A9 (K:Fg):R2:=fun x y H Q=>∃ a b xs ys,x=.ref a/\y=.ref b/\SqT K H a xs/\SqT K H b ys/\xs≠[]/\xs.length+ys.length<=sizeLine /\
 (ys=[]->Q (.ref a) H)/\(ys≠[]->∀ p,H p=none->Q (.ref p) (upd H p (.tup (xs++ys))))
theorem Vals.ou {xs:List V} {us:List Value} (r:Vals xs us):us=[]↔xs=[]:=by
 cases r with
 | nil=>simp
 | cons _ _=>simp
theorem y9:OpR X (binaryOp .Add) (A9 X.K):=by
 intro pins s σ H x y v u Q I rx ry h;obtain ⟨a,b,xs,ys,rfl,rfl,ha,hb,hx,hz,q1,q2⟩:=h;cases rx;cases ry;obtain ⟨its,r1,p1,_⟩:=I.tuple ha;obtain ⟨its2,r2,p2,_⟩:=I.tuple hb;refine HT.ye p1 p2 (fun z=>hx (r1.ou.mp z)) (fun z=>⟨.ref a,H,I,rfl,q1 (r2.ou.mp z)⟩) (fun z=>?_) (by rw [<- r1.length,<-r2.length];exact hz);refine ⟨.ref s.heap.objs.size,_,I.laid (t':=s.toks) (o:=.tup (xs++ys)) (fun b ob q=>H0 _ q) (Ia _) ?_,rfl,q2 (fun w=>z (r2.ou.mpr w)) _ (I.hok.fresh (Ia _))⟩;exact ⟨by rw [HY];exact hz,_,r1.append r2,IsTup.new _ _⟩
end
end L2
namespace L2
open PySem PySem.Spec PyProof.Rows
noncomputable def ixN (n:Nat) (i:Int):Option Nat:=if 0<=i then (if i < n then some i.toNat else none) else if -(n:Int)<=i then some (i+n).toNat else none
noncomputable def atI {α:Type} (xs:List α) (i:Int):Option α:=(ixN xs.length i).bind fun j=>xs[j]?
theorem yg {n:Nat} {i:Int} {j:Nat} (h:ixN n i=some j):seqIndex? i n=some j/\j < n/\-(n:Int)<=i/\i < n:=by
 unfold ixN at h;by_cases h0:0<=i
 ·rw [Io h0] at h;by_cases h1:i < n
  ·rw [Io h1] at h;have e:i.toNat=j:=Ja h;exact ⟨by rw [seqIndex_of h0 h1,e],by omega,by omega,h1⟩
  ·rw [Iv h1] at h;cases h
 ·rw [Iv h0] at h;by_cases h1:-(n:Int)<=i
  ·rw [Io h1] at h;have e:(i+n).toNat=j:=Ja h;exact ⟨by rw [seqIndex_neg (by omega) h1,e],by omega,h1,by omega⟩
  ·rw [Iv h1] at h;cases h
theorem nK {α:Type} {xs:List α} {i:Int} {v:α} (h:atI xs i=some v):∃ j,seqIndex? i xs.length=some j/\xs[j]?=some v/\j < xs.length/\-(xs.length:Int)<=i/\i < xs.length:=by
 unfold atI at h;cases e:ixN xs.length i with
 | none=>rw [e] at h;cases h
 | some j =>
  rw [e] at h;obtain ⟨h1,h2,h3,h4⟩:=yg e;exact ⟨j,h1,h,h2,h3,h4⟩
theorem lD {α:Type} {xs:List α} {j:Nat} {v:α} (h:xs[j]?=some v):atI xs (j:Int)=some v:=by
 have hj:j < xs.length:=(HX.mp h).1;have e:ixN xs.length (j:Int)=some j:=by
  unfold ixN;rw [Io (by omega),Io (by omega)];simp
 unfold atI;rw [e];exact h
def oh (b:Expr):Prop:=∀ o i,subscripted b false o i=operate [o,i] (getItem o i)
def IxR (X:Cx) (r:R2):Prop :=
 ∀ (value slice:Expr) (pins:List (Addr×Obj)) (s:Shared) (σ:St) (H:Hp) (x y:V) (v u:Value) (Q:VK),Inv X pins σ H s->RelV x v->RelV y u->r x y H Q ->
  subscripted slice false v u=operate [v,u] (getItem v u)->wpAny (model X.prog X.w) X.A (subscriptTail value slice v u) (EP X pins σ Q) X.xe s
def MtR (X:Cx) (id:String) (r:V->List V->Hp->VK->Prop):Prop :=
 ∀ (pins:List (Addr×Obj)) (s:Shared) (σ:St) (H:Hp) (x:V) (xs:List V) (v:Value) (us:List Value) (Q:VK),Inv X pins σ H s->RelV x v->Vals xs us->r x xs H Q ->
  wpAny (model X.prog X.w) X.A (call (.builtin id) (v :: us)) (EP X pins σ Q) X.xe s
section
variable {X:Cx} {a b:Expr} {ta tb:TE} {pos:Pos}
theorem IxR.or {r r':R2} (h:IxR X r) (h':IxR X r'):IxR X (fun x y H Q=>r x y H Q\/r' x y H Q):=by
 intro value slice pins s σ H x y v u Q I rx ry q hs;rcases q with q | q
 ·exact h value slice pins s σ H x y v u Q I rx ry q hs
 ·exact h' value slice pins s σ H x y v u Q I rx ry q hs
theorem ED {r:R2} (hr:IxR X r) (ha:PE X a ta) (hb:PE X b tb) (hs:oh b):PE X (.Subscript a b pos) (tOp r ta tb):=by
 intro pins s σ H Q I h;exact Subscript_ (DC ha hb I h fun v u s2 x y H2 I2 rx ry q=>hr a b pins s2 σ H2 x y v u Q I2 rx ry q (hs _ _))
def Gn (K:Fg):R2:=fun x y H Q=>∃ p xs i v,x=.ref p/\y=.int i/\SqL K H p xs/\atI xs i=some v/\Q v H
def Gx (K:Fg):R2:=fun x y H Q=>∃ p xs i v,x=.ref p/\y=.int i/\SqT K H p xs/\atI xs i=some v/\Q v H
def Gk:R2:=fun x y H Q=>∃ z i c,x=.str z/\y=.int i/\z.length<=sizeLine/\atI z.cps.toList i=some c/\Q (.str ⟨#[c]⟩) H
theorem yi:IxR X (Gn X.K):=by
 intro value slice pins s σ H x y v u Q I rx ry h hs;obtain ⟨p,xs,i,z,rfl,rfl,hq,he,q⟩:=h;cases rx;obtain ⟨t,rfl⟩:=ry;obtain ⟨its,r,pl,hz⟩:=I.list hq;obtain ⟨j,h1,h2,h3,h4,h5⟩:=nK he;obtain ⟨w,ew,rw'⟩:=r.get h2;have hl:=r.length;have hn:=mP;have fin:EP X pins σ Q w s:=⟨z,H,I,rw',q⟩;by_cases h0:0<=i
 ·have hj:i.toNat=j:=by
   rw [seqIndex_of h0 h5] at h1;exact Ja h1
  exact item_listR pl.isList h0 (by omega) (by rw [hj];simpa using ew) fin hs
 ·have hj:(i+(its.toArray.size:Int)).toNat=j:=by
   rw [seqIndex_neg (by omega) h4] at h1;rw [Iw,<-hl];exact Ja h1
  exact subscriptTail_builtinR (x:=w) pl.isList.typeIs slot_list_getitem.lookup
   (wpAny_getItem_list_neg (Q:=fun r s'=>r=w/\EP X pins σ Q r s') pl.isList (by omega) (by rw [Iw] <;> omega) (by omega) (by rw [hj];simpa using ew) ⟨rfl,fin⟩) hs
theorem z7:IxR X (Gx X.K):=by
 intro value slice pins s σ H x y v u Q I rx ry h hs;obtain ⟨p,xs,i,z,rfl,rfl,hq,he,q⟩:=h;cases rx;obtain ⟨t,rfl⟩:=ry;obtain ⟨its,r,pl,hz⟩:=I.tuple hq;obtain ⟨j,h1,h2,h3,h4,h5⟩:=nK he;obtain ⟨w,ew,rw'⟩:=r.get h2;have hl:=r.length;have hn:=mP;have fin:EP X pins σ Q w s:=⟨z,H,I,rw',q⟩;exact subscriptTail_builtinR (x:=w) pl.typeIs slot_tuple_getitem.lookup
  (getItem_tuple (j:=j) (Q:=fun r s'=>r=w/\EP X pins σ Q r s') pl (by omega) (by omega) (by rw [Iw,<-hl];exact h1) (by simpa using ew) ⟨rfl,fin⟩) hs
theorem CW:IxR X Gk:=by
 intro value slice pins s σ H x y v u Q I rx ry h hs;obtain ⟨z,i,c,rfl,rfl,hz,he,q⟩:=h;obtain ⟨t,rfl⟩:=rx;obtain ⟨t',rfl⟩:=ry;obtain ⟨j,h1,h2,h3,h4,h5⟩:=nK he;have hl:z.cps.toList.length=z.length:=by simp [Str.length]
 rw [hl] at h1 h4 h5;have hn:=mP
 exact tail_any (typeIs_str s z t) slot_str_getitem.lookup (getItem_str (c:=c) (by
  have e1:decide (i < -(2 ^ 63:Int))=false:=IX (by omega);have e2:decide (i>=2 ^ 63)=false:=IX (by omega)
  rw [e1,e2,Bool.or_false]) (by rw [h1];simpa using h2) ⟨.str ⟨#[c]⟩,H,I.tok _,⟨_,rfl⟩,q⟩) hs
def rIx (K:Fg):R2:=fun x y H Q=>Gn K x y H Q\/Gx K x y H Q\/Gk x y H Q
theorem zW:IxR X (rIx X.K):=yi.or (z7.or CW)
theorem nj (lo hi:Option Int) (n:Nat):(sliceBounds lo hi none n).1=((HT.sIx n 0 lo:Nat):Int)/\(sliceBounds lo hi none n).2.1=((HT.sIx n n hi:Nat):Int)/\(sliceBounds lo hi none n).2.2=1:=by
 refine ⟨?_,?_,rfl⟩
 ·cases lo with
  | none=>simp [sliceBounds,HT.sIx]
  | some i =>
   simp only [sliceBounds,HT.sIx,Option.getD_none,show (1:Int) > 0 by decide,Kr];by_cases h:i < 0
   ·simp only [h,Kr] <;> omega
   ·simp only [h,JM] <;> omega
 ·cases hi with
  | none=>simp [sliceBounds,HT.sIx]
  | some i =>
   simp only [sliceBounds,HT.sIx,Option.getD_none,show (1:Int) > 0 by decide,Kr];by_cases h:i < 0
   ·simp only [h,Kr] <;> omega
   ·simp only [h,JM] <;> omega
theorem lr (its:List Value) (lo hi:Option Int):slicePick its.toArray lo hi none=((its.drop (HT.sIx its.length 0 lo)).take (HT.sIx its.length its.length hi - HT.sIx its.length 0 lo)).toArray:=by
 obtain ⟨h1,h2,h3⟩:=nj lo hi its.toArray.size;unfold slicePick;rw [h1,h2,h3];simp only [sliceRange_one,pick_run,Iw] <;> rfl
def GI (K:Fg):V->Option Int->Option Int->Hp->VK->Prop:=fun x lo hi H Q=>∃ a xs,x=.ref a/\SqL K H a xs/\∀ p,H p=none->Q (.ref p) (upd H p (.lst (uT xs lo hi)))
theorem bu:SlR X (GI X.K):=by
 intro pins s σ H x v vl vu lo hi sl Q I rx hs pl pu h;obtain ⟨a,xs,rfl,hx,q⟩:=h;cases rx;obtain ⟨its,r,ht,hz⟩:=I.list hx;have hlen:=r.length;refine ⟨"list", _,slot_list_getitem.lookup,ht.isList.typeIs,?_⟩;refine wpAny_getItem_list_slice ht.isList hs pl pu .none (by simp) ?_ (by rw [Iw] <;> omega);rw [lr,<-hlen];refine ⟨.ref s.heap.objs.size,_,I.laid (t':=s.toks) (o:=.lst (uT xs lo hi)) (fun b ob q=>H0 _ q) (Ia _) ?_,rfl,q _ (I.hok.fresh (Ia _))⟩;exact ⟨Iy (jj xs lo hi) hz,_,0,(r.drop (HT.sIx xs.length 0 lo)).take (HT.sIx xs.length xs.length hi - HT.sIx xs.length 0 lo),Iq _ rfl⟩
theorem lR:OpR X (compareOp .NotIn) (fun x y H Q=>∃ i j,x=.str i/\y=.str j/\Q (.bl (!(!(Builtin.Str.occurrences j i 0 j.length 1).isEmpty))) H):=by
 intro pins s σ H x y v u Q I rx ry h;obtain ⟨i,j,rfl,rfl,q⟩:=h;obtain ⟨t,rfl⟩:=rx;obtain ⟨t',rfl⟩:=ry;exact notIn_str ⟨.bl _,H,I,rfl,q⟩
theorem mL:aP X (.type "list") (fun xs H Q=>∃ p ys,xs=[.ref p]/\(SqL X.K H p ys\/SqT X.K H p ys)/\∀ l,H l=none->Q (.ref l) (upd H l (.lst ys))):=by
 intro pins s σ H xs us Q I r h;obtain ⟨p,ys,rfl,hq,q⟩:=h;obtain ⟨u,rfl,rx⟩:=vals1 r;cases rx;have fin:∀ (its:List Value),Vals ys its->ys.length<=sizeLine->∀ (h':Heap) (c':Nat),(∀ b o',s.heap.get? b=some o'->h'.get? b=some o') ->
   h'.get? s.heap.objs.size=some { cls:=.type "list", dict:=none,data:=.seq its.toArray c',slots:=#[] }->EP X pins σ Q (.ref s.heap.objs.size) { s with heap:=h' }:=fun its r' hz h' c' kp e =>
  ⟨.ref s.heap.objs.size,_,I.laid (t':=s.toks) kp (Ia _) (show bT X.prog X.w _ h' _ (.lst ys) from ⟨hz,its,c',r',e⟩),rfl,q _ (I.hok.fresh (Ia _))⟩
 rcases hq with hq | hq
 ·obtain ⟨its,r',pl,hz⟩:=I.list hq;have hlen:=r'.length;obtain ⟨o,ho,hc,n,hd⟩:=pl.isList;exact call_list_seq p (.inl rfl) ho hc hd (fun h' c' kp e=>fin its r' hz h' c' kp e) (by simp only [Iw] <;> omega)
 ·obtain ⟨its,r',pl,hz⟩:=I.tuple hq;have hlen:=r'.length;obtain ⟨o,ho,hc,n,hd⟩:=pl;exact call_list_seq p (.inr rfl) ho hc hd (fun h' c' kp e=>fin its r' hz h' c' kp e) (by simp only [Iw] <;> omega)
theorem kQ:aP X (.type "tuple") (fun xs H Q=>∃ p ys,xs=[.ref p]/\((SqL X.K H p ys/\∀ l,H l=none->Q (.ref l) (upd H l (.tup ys)))\/(SqT X.K H p ys/\Q (.ref p) H))):=by
 intro pins s σ H xs us Q I r h;obtain ⟨p,ys,rfl,h⟩:=h;obtain ⟨u,rfl,rx⟩:=vals1 r;cases rx;rcases h with ⟨hq,q⟩ | ⟨hq,q⟩
 ·obtain ⟨its,r',pl,hz⟩:=I.list hq;have hlen:=r'.length;refine call_tuple_list pl.isList (fun h' kp=>?_) (by simp only [Iw] <;> omega);have I1:Inv X pins σ H { s with heap:=h' }:=I.kept (t':=s.toks) kp;have I2:Inv X pins σ (upd H h'.objs.size (.tup ys)) { s with heap:=h'.push { cls:=.type "tuple", data:=.seq its.toArray } } :=
   I1.laid (t':=s.toks) (fun b o e=>H0 _ e) (Ia _) (show bT X.prog X.w _ _ _ (.tup ys) from ⟨hz,its,r',IsTup.new _ _⟩)
  exact ⟨.ref h'.objs.size,_,I2,rfl,q _ (I1.hok.fresh (Ia _))⟩
 ·obtain ⟨its,r',pl,hz⟩:=I.tuple hq;exact call_tuple_same pl ⟨.ref p,H,I,rfl,q⟩
def tyV (K:Fg) (T:String) (x:V) (H:Hp):Prop:=match x with
 | .str _=>T = "str"
 | .int _=>T = "int"
 | .ref p=>(T = "list" /\ ∃ xs,SqL K H p xs)\/(T = "tuple" /\ ∃ o,K.lookup p=some o/\o.cls=.type "tuple" /\ o.dict=none) \/
   (T = "dict" /\ ((∃ kvs,H p=some (.dK kvs))\/(∃ kvs,H p=some (.dT kvs))\/∃ ep xs,H p=some (.dD ep xs)))\/(T = "set" /\ ∃ S n,H p=some (.set S n))
 | _=>False
theorem z5 {pins:List (Addr×Obj)} {σ:St} {H:Hp} {s:Shared} {T:String} {x:V} {v:Value} (I:Inv X pins σ H s) (r:RelV x v) (ty:tyV X.K T x H) :
  s.TypeIs v T/\∀ a,v=.ref a->∃ ob,s.heap.get? a=some ob/\ob.dict=none:=by
 cases x with
 | str z =>
  obtain ⟨t,rfl⟩:=r;cases (show T = "str" from ty);exact ⟨typeIs_str s z t,fun _ e=>nomatch e⟩
 | int i =>
  obtain ⟨t,rfl⟩:=r;cases (show T = "int" from ty);exact ⟨typeIs_int s i t,fun _ e=>nomatch e⟩
 | ref p =>
  cases r;rcases ty with ⟨rfl,xs,hq⟩ | ⟨rfl,o,hk,hc,hd⟩ | ⟨rfl,hk⟩ | ⟨rfl,S,n,hk⟩
  ·obtain ⟨its,_,pl,_⟩:=I.list hq;refine ⟨pl.isList.typeIs,fun a e=>?_⟩;cases e;obtain ⟨o,n,e,c,hd,_⟩:=pl;exact ⟨o,e,hd⟩
  ·refine ⟨⟨o,I.kIn p o hk,hc⟩,fun a e=>?_⟩;cases e;exact ⟨o,I.kIn _ o hk,hd⟩
  ·have z:∃ o,s.heap.get? p=some o/\o.ExactDict:=by
    rcases hk with ⟨kvs,hk⟩ | ⟨kvs,hk⟩ | ⟨ep,xs,hk⟩
    ·obtain ⟨_,_,_,_,o,_,_,e,ex,_⟩:=I.hok p _ hk;exact ⟨o,e,ex⟩
    ·obtain ⟨_,_,_,_,o,_,_,e,ex,_⟩:=I.hok p _ hk;exact ⟨o,e,ex⟩
    ·obtain ⟨_,_,_,o,_,e,ex,_⟩:=I.hok p _ hk;exact ⟨o,e,ex⟩
   obtain ⟨o,e,ex⟩:=z;refine ⟨⟨o,e,ex.1⟩,fun a e2=>?_⟩;cases e2;exact ⟨o,e,ex.2.1⟩
  ·obtain ⟨o,_,_,_,e,ex,_⟩:=I.hok p _ hk;refine ⟨⟨o,e,ex.1⟩,fun a e2=>?_⟩;cases e2;exact ⟨o,e,ex.2.1⟩
 | _=>exact False.elim ty
def tBM (K:Fg) (T:String) (r:V->List V->Hp->VK->Prop) (to:TE) (t:TA):TE:=fun σ H Q=>to σ H fun x H1=>tyV K T x H1/\t σ H1 fun xs H2=>r x xs H2 Q
variable {o e:Expr} {es:List Expr} {to:TE} {t:TA} {name:Str} {apos cpos:Pos} {T id:String} {r:V->List V->Hp->VK->Prop}
theorem Fm (pa:PlainAttrs T) (slot:Slot T name id) (hty:typeOf (.builtin id)=pure (.type "method_descriptor")) (hm:MtR X id r) (ho:PE X o to) (ha:PA X (e :: es) t)
  (hbase:attributeBase o name X.env (eval o X.env)=eval o X.env:=by rfl)
  (hfew:((backTo cpos (starEach (e :: es) X.env)).all (fun x=>!x.1)&&(backToKw cpos (keywordEach [] X.env)).all (fun x=>x.1.isSome)
   && decide ((e :: es).length+([]:List Keyword).length+(if ([]:List Keyword).isEmpty then 0 else 1) < 30))=true:=by rfl)
  (hline:(apos.endLine==cpos.line)=true:=by rfl) (hs:starEach (e :: es) X.env=(false,eval e X.env) :: starEach es X.env:=by rfl) (hplain:(backTo cpos (starEach es X.env)).any (·.1)=false:=by rfl) :
  PE X (.Call (.Attribute o name apos) (e :: es) [] cpos) (tBM X.K T r to t):=by
 intro pins s σ H Q I h;refine wpAny_Call_method_late hbase hfew hline rfl (thn (ho pins s σ H _ I h) fun v s1 ⟨x,H1,I1,r1,ty,q1⟩=>?_);obtain ⟨h1,h2⟩:=z5 I1 r1 ty;refine ⟨T,id,pa,slot,hty,h1,h2,?_⟩;have hA:=ha cpos pins s1 σ H1 _ I1 q1;rw [hs] at hA ⊢;refine Calls.callWith_builtin (by show (false||(backTo cpos (starEach es X.env)).any (·.1))=false;rw [hplain] <;> rfl) (Calls.evalArgs_plain ?_);exact thn hA fun us s2 ⟨vs,H2,I2,r2,q2⟩=>hm pins s2 σ H2 x vs v us Q I2 r1 r2 q2
end
end L2
namespace L2
open PySem PySem.Spec PyProof.Rows
def MtM (X:Cx) (id:String) (r:V->List V->Hp->VK->Prop):Prop :=
 ∀ (pins:List (Addr×Obj)) (s:Shared) (σ:St) (H:Hp) (x:V) (xs:List V) (v:Value) (us:List Value) (Q:VK),Inv X pins σ H s->RelV x v->Vals xs us->r x xs H Q ->
  wpAny (model X.prog X.w) X.A (call (.builtin id) (v :: us)) (EP X pins σ Q) X.xe s
theorem Vals.one:∀ {x:V} {us:List Value},Vals [x] us->∃ u,us=[u]/\RelV x u
 | _,_,.cons r .nil=>⟨_,rfl,r⟩
theorem Vals.dropLast {xs:List V} {us:List Value} (h:Vals xs us):Vals xs.dropLast us.dropLast:=by
 induction h with
 | nil=>exact .nil
 | cons r t ih =>
  cases t with
  | nil=>exact .nil
  | cons q t'=>exact .cons r ih
theorem lX {α:Type}:∀ (l:List α) (i:Nat),(l.eraseIdx i).length<=l.length
 | [],_=>Ia _
 | _ :: _,0=>Ka _
 | _ :: r,i+1=>Nat.succ_le_succ (lX r i)
section
variable {X:Cx} {pins:List (Addr×Obj)} {σ:St} {H:Hp} {s:Shared} {l b:Addr} {xs ys zs:List V}
theorem Inv.Hq {its its':List Value} {n:Nat} {f:Array Value->Array Value} {t':Nat} (I:Inv X pins σ H s) (hH:H l=some (.lst xs))
  (e:s.heap.get? l=some { cls:=.type "list", data:=.seq its.toArray n }) (hf:f its.toArray=its'.toArray) (hv:Vals ys its') (hz:ys.length<=sizeLine) :
  Inv X pins σ (upd H l (.lst ys)) { s with heap:=s.heap.update l (Obj.mapSeq f),toks:=t' }:=by
 have q:=PySem.IsL.update e f;rw [hf] at q;refine I.write (x:=l) (e:=l) (by rw [hH];exact trivial) (.inl rfl) (fun b' u hb hu=>(Kd s.heap (Obj.mapSeq f) (Ne.symm hb)).trans hu) ⟨_,q⟩ ?_;exact ⟨hz,its',_,hv,q⟩
theorem Inv.Hd {its:List Value} {t':Nat} (I:Inv X pins σ H s) (hv:Vals ys its) (hz:ys.length<=sizeLine) :
  Inv X pins σ (upd H s.heap.objs.size (.lst ys)) { s with heap:=s.heap.push { cls:=.type "list", data:=.seq its.toArray },toks:=t' } :=
 I.laid (fun _ _ q=>H0 _ q) (Ia _) ⟨hz,its,0,hv,Iq _ rfl⟩
theorem Inv.fresh (I:Inv X pins σ H s):H s.heap.objs.size=none:=I.hok.fresh (Ia _)
theorem Inv.GX (I:Inv X pins σ H s) (hH:H l=some (.lst xs)):xs.length<=sizeLine/\∃ (its:List Value) (n:Nat),Vals xs its/\xs.length=its.length/\s.heap.get? l=some { cls:=.type "list", data:=.seq its.toArray n }:=by
 obtain ⟨z,its,n,r,e⟩:=I.hok l _ hH;exact ⟨z,its,n,r,r.length,e⟩
end
section
variable {X:Cx}
def sL:V->List V->Hp->VK->Prop:=fun x vs H Q=>∃ l xs y,x=.ref l/\vs=[y]/\H l=some (.lst xs)/\xs.length < sizeLine/\Q .non (upd H l (.lst (xs++[y])))
theorem eS:MtM X "list.append" sL:=by
 intro pins s σ H x vs v us Q I rx rv h;obtain ⟨l,xs,y,rfl,rfl,hH,hz,q⟩:=h;cases rx;obtain ⟨u,rfl,ru⟩:=rv.one;obtain ⟨z,its,n,r,hl,e⟩:=I.GX hH;refine call_meets F.slot_list_append ⟨_,e,rfl⟩ F.entry_list_append (F.args_list_append_2 _ _) (PySem.list_append l its.toArray n u (by rw [Iw];omega)) ⟨e,?_⟩;refine ⟨.non,_,I.Hq (its':=its++[u]) hH e (by simp) (r.append (.cons ru .nil)) ?_,rfl,q⟩;rw [HY,List.length_singleton];omega
def B3:V->List V->Hp->VK->Prop:=fun x vs H Q=>∃ l xs i k y,x=.ref l/\vs=[.int i]/\H l=some (.lst xs)/\-(2 ^ 63)<=i/\i < 2 ^ 63/\seqIndex? i xs.length=some k/\xs[k]?=some y/\Q y (upd H l (.lst (xs.eraseIdx k)))
end
end L2
namespace L2
open PySem PySem.Spec PyProof.Rows
section
variable {κ:Type} [DecidableEq κ]
noncomputable def putK (kvs:List (κ×V)) (k:κ) (v:V):List (κ×V) :=
 if (kvs.any fun kv=>decide (kv.1=k))=true then kvs.map (fun kv=>if kv.1=k then (kv.1,v) else kv) else kvs++[(k,v)]
theorem nS (kvs:List (κ×V)) (k:κ) (v:V):(putK kvs k v).length<=kvs.length+1:=by
 unfold putK;split
 ·rw [HS];omega
 ·rw [HY,Ik,IP];omega
theorem KV.any {kvs:List (κ×V)} {vs:List (κ×Value)} (r:KV kvs vs) (k:κ):(kvs.any fun kv=>decide (kv.1=k))=vs.any fun kv=>decide (kv.1=k):=by
 unfold KV at r;induction r with
 | nil=>rfl
 | cons h t ih=>rw [Ki,Ki,ih,h.1]
theorem KV.Hx {kvs:List (κ×V)} {vs:List (κ×Value)} (r:KV kvs vs) (k:κ) {y:V} {u:Value} (ry:RelV y u) :
  KV (kvs.map fun kv=>if kv.1=k then (kv.1,y) else kv) (vs.map fun kv=>if kv.1=k then (kv.1,u) else kv):=by
 unfold KV at r ⊢;induction r with
 | nil=>exact .nil
 | @cons p q ps qs h t ih =>
  rw [List.map_cons,List.map_cons];refine .cons ?_ ih;obtain ⟨h1,h2⟩:=h;by_cases e:p.1=k
  ·rw [Io e,Io (h1.symm.trans e)];exact ⟨h1,ry⟩
  ·rw [Iv e,Iv (fun z=>e (h1.trans z))];exact ⟨h1,h2⟩
theorem KV.put {kvs:List (κ×V)} {vs:List (κ×Value)} (r:KV kvs vs) (k:κ) {y:V} {u:Value} (ry:RelV y u):KV (putK kvs k y) (stored vs k u):=by
 unfold putK stored;rw [r.any k];by_cases e:(vs.any fun kv=>decide (kv.1=k))=true
 ·rw [Io e,Io e];exact r.Hx k ry
 ·rw [Iv e,Iv e];exact Paired.snoc r ⟨rfl,ry⟩
end
theorem Fx {P:Program} {w:World} {k:Key} {u:Value} (r:RelV (kV k) u):(bE P w).is k u=true:=by
 cases k with
 | inl i=>obtain ⟨t,e⟩:=(show ∃ t,u=Value.int i t from r);subst e;exact nC P w i t
 | inr x=>obtain ⟨t,e⟩:=(show ∃ t,u=Value.str x t from r);subst e;exact nN P w x t
section
variable {X:Cx} {pins:List (Addr×Obj)} {σ:St} {H:Hp} {s:Shared} {a:Addr} {y v:V} {u r:Value} {o:Option V} {A:Around} {E:Value->Shared->Prop}
theorem Inv.big (I:Inv X pins σ H s):sysModules < s.heap.objs.size:=by
 have h:mainGlobals < s.heap.objs.size:=(I.mod.glob.keeps I.bk).lt;exact Nat.lt_trans (by decide) h
theorem nR {h':Heap} {t':Nat} {ob:HO} (I:Inv X pins σ H s) (mu:Mut (H a)) (hs:Heap.SameBut a s.heap h') (he:∃ q,h'.get? a=some q) (new:bT X.prog X.w (upd H a ob) h' a ob) :
  Inv X pins σ (upd H a ob) { s with heap:=h',toks:=t' } :=
 I.write (x:=a) (e:=a) mu (.inl rfl) (fun b q hb z=>(hs.2 b hb).trans z) he new
end
def Gs (i:Expr):Prop:=∀ ov iv,subscripted i false ov iv=operate [ov,iv] (getItem ov iv)
theorem y4 {prog:Program} {w:World} {A:Around} {E:Value->Shared->Prop} {s:Shared} {env:Env} {value slice:Expr} {pos:Pos} {T id:String} {Q:Value->Shared->Prop}
  (hl:typeLookup (.type T) "__getitem__" = pure (some (.builtin id))) (hs:Gs slice)
  (h:wpAny (model prog w) A (eval value env) (fun o s₁=>wpAny (model prog w) A (eval slice env) (fun i s₂=>s₂.TypeIs o T/\wpAny (model prog w) A (getItem o i) Q E s₂) E s₁) E s) :
  wpAny (model prog w) A (eval (.Subscript value slice pos) env) Q E s:=by
 refine Subscript_ (IJ h (fun o s₁ h₁=>IJ h₁ (fun i s₂ h₂=>?_) fun _ _ x=>x) fun _ _ x=>x);obtain ⟨hT,h₂⟩:=h₂;unfold subscriptTail;refine HU ?_;rw [getitemInPython_of_ne hT.not_modules];refine HU (J3 hT hl ?_);have fin:wpAny (model prog w) A (subscripted slice false o i) (fun r s₃=>wpAny (model prog w) A (letTemporaryGo value o r>>=fun _=>pure r) Q E s₃) E s₂:=by
  rw [hs o i];exact wpAny_operating (IJ h₂ (fun r s₃ h₃=>HU (wpAny_letTemporaryGo (HV h₃))) fun _ _ x=>x)
 first
  | exact HV (HU fin)
  | exact HU (HV (HU fin))
  | exact HU fin
def pz:List (TE×TE)->St->Hp->(List (V×V)->Hp->Prop)->Prop
 | [],_,H,Q=>Q [] H
 | (tk,tv) :: r,σ,H,Q=>tk σ H fun x H1=>tv σ H1 fun y H2=>pz r σ H2 fun ps H3=>Q ((x,y) :: ps) H3
abbrev VV:List (V×V)->List (Value×Value)->Prop:=Paired fun p q=>RelV p.1 q.1/\RelV p.2 q.2
def PPs (X:Cx) (pos:Pos) (keys:List (Option Expr)) (values:List Expr) (trs:List (TE×TE)):Prop :=
 ∀ (pins:List (Addr×Obj)) (s:Shared) (σ:St) (H:Hp) (Q:List (V×V)->Hp->Prop),Inv X pins σ H s->pz trs σ H Q ->
  wpAny (model X.prog X.w) X.A (evalPairs (pairTrees keys values X.env pos)) (fun vs s'=>∃ ps H',Inv X pins σ H' s'/\VV ps vs/\Q ps H') X.xe s
theorem xM {X:Cx} {pos:Pos}:PPs X pos [] [] []:=fun pins s σ H Q I h=>pairTrees_nil_walk ⟨[],H,I,.nil,h⟩
theorem u5 {X:Cx} {pos:Pos} {k v:Expr} {ks:List (Option Expr)} {vs:List Expr} {tk tv:TE} {trs:List (TE×TE)} (hk:PE X k tk) (hv:PE X v tv) (hr:PPs X pos ks vs trs) :
  PPs X pos (some k :: ks) (v :: vs) ((tk,tv) :: trs):=fun pins s σ H Q I h =>
 pairTrees_cons_walk (thn (hk pins s σ H _ I h) fun u s1 ⟨x,H1,I1,rx,q1⟩=>thn (hv pins s1 σ H1 _ I1 q1) fun w2 s2 ⟨y,H2,I2,ry,q2⟩ =>
  thn (hr pins s2 σ H2 _ I2 q2) fun ws s3 ⟨ps,H3,I3,rel,q3⟩=>⟨(x,y) :: ps,H3,I3,.cons ⟨rx,ry⟩ rel,q3⟩)
noncomputable def eX (kvs more:List (Key×V)):List (Key×V):=more.foldl (fun acc kv=>putK acc kv.1 kv.2) kvs
theorem KV.merge:∀ {more:List (Key×V)} {rs:List (Key×Value)} {kvs:List (Key×V)} {vs:List (Key×Value)},KV more rs->KV kvs vs->KV (eX kvs more) (merged vs rs):=by
 intro more rs kvs vs r;unfold KV at r;induction r generalizing kvs vs with
 | nil=>intro q;exact q
 | @cons p q ps qs h t ih =>
  intro r0;have e:KV (putK kvs p.1 p.2) (stored vs q.1 q.2):=by
   have:=r0.put p.1 h.2;rw [<- h.1];exact this
  exact ih e
theorem f6:∀ (more kvs:List (Key×V)),(eX kvs more).length<=kvs.length+more.length
 | [],kvs=>by show kvs.length<=kvs.length+0;omega
 | p :: r,kvs=>by
  have h1:=f6 r (putK kvs p.1 p.2);have h2:=nS kvs p.1 p.2;show (eX (putK kvs p.1 p.2) r).length<=_;rw [Ik];omega
theorem kA {P:Program} {w:World}:∀ {kvs:List (Key×V)} {ws:List (Value×Value)},VV (kvs.map fun kv=>(kV kv.1,kv.2)) ws->∃ rs,Carries (bE P w) ws rs/\KV kvs rs
 | [],_,r=>by rw [List.map_nil] at r;cases r;exact ⟨[],True.intro,.nil⟩
 | p :: kvs,_,r=>by
  rw [List.map_cons] at r;cases r with
  | @cons a b as bs h t =>
   obtain ⟨rs,c,q⟩:=kA (P:=P) (w:=w) t;obtain ⟨b1,b2⟩:=b;exact ⟨(p.1,b2) :: rs,⟨Fx h.1,rfl,c⟩,.cons ⟨rfl,h.2⟩ q⟩
end L2
namespace Att
open PySem PySem.W PySem.Calls PyProof.Rows
theorem jC {P:Params} {h:Heap}:∀ (ns:List Int) (vs:List Value),WellAll P h vs (ns.map WData.int)->IntsAre vs ns:=by
 intro ns;induction ns with
 | nil =>
  intro vs w;rw [List.map_nil] at w;cases w;exact .nil
 | cons n ns ih =>
  intro vs w;rw [List.map_cons] at w;cases w with
  | cons a b =>
   cases a;exact .cons _ _ (ih _ b)
theorem s8 {l:OpenLaw} {n:Nat} (hn:l.most=some n) {P:Params} {h:Heap} {args:List WData} {vals:List Value}
  (hpre:l.row.toRowW.claim.pre args=true) (hwl:WellAll P h vals args) :
  ∃ a vs ns,vals=[Value.ref a]/\args=[WData.list (ns.map WData.int)]/\h.get? a=some { cls:=.type "list", data:=.seq vs.toArray }/\IntsAre vs ns/\ns.length<=n:=by
 have hsh:WShape.hasAll [] args [.list .int]=true:=(pre_splitW hpre).1;have hc:l.pre.holds [] { args:=args }=true:=(pre_splitW hpre).2;obtain ⟨d,r,rfl,h1,h2⟩:=hasAllW_cons hsh;obtain rfl:=hasAllW_nil h2;obtain ⟨xs,rfl,h3⟩:=hasW_list h1;obtain ⟨ns,rfl⟩:=items_int h3;have hlen:ns.length<=n:=by
  unfold OpenLaw.pre at hc;have h4:(WTm.not (.lt (.lit (.int (n:Int))) (.len (.arg 0)))).holds [] { args:=[.list (ns.map .int)] }=true:=by
   have h4:=(holds_andW hc).1;rw [hn] at h4;exact h4
  have h5:=condW_of h4 (w_not (w_lt w_lit (w_len_list (w_arg rfl))));rw [HS] at h5;refine Nat.le_of_not_lt fun q=>?_;have q':(n:Int) < ((ns.length:Nat):Int):=by omega
  first
   | (rw [Jr q'] at h5;exact absurd h5 (by decide))
   | (simp at h5;omega)
 cases hwl with
 | cons w1 w2 =>
  cases w2;cases w1 with
  | list ho hall=>exact ⟨_,_,ns,rfl,rfl,ho,jC ns _ hall,hlen⟩
theorem rV (l:OpenLaw) (args:List WData):l.row.toRowW.claim.post args (.bool true) args=true :=
 postW_of (r:=l.row.toRowW) (X:=(true==true))
  (show WShape.has [] (.bool true) .bool=true by first | rfl | decide | simp [WShape.has,WShape.arms,WShape.armsAll])
  (show (WTm.eq .res (.lit (.bool true))).value [] { args:=args,res:=some (.bool true),after:=args }=some (.bool (true==true)) from w_eq_bool (w_res rfl) w_lit) rfl
theorem oM {l:OpenLaw} {n:Nat} {q:Program} {loose:List Str} {XP:(Str->Option Value)->Heap->Prop} {YP:World->Heap->Prop} {d:DefRec}
  (hn:l.most=some n) (hdf:d.params.defaults=[])
  (call:∀ (w:World) (s₀ s₁:Shared) (mg mb:Str->Option Value) (fa:Addr) (o:Obj) (pm cd doc:Value) (a:Addr) (vs:List Value) (ns:List Int),
   Ground q loose [] XP w s₀ mg mb s₁.heap->YP w s₁.heap ->
   s₁.heap.get? fa=some o->o.data=.func (docDef d.name d.params d.body d.scope pm cd doc)->s₁.heap.CodeRec cd d.name->mg d.name=some (.ref fa) ->
   s₁.heap.get? a=some { cls:=.type "list", data:=.seq vs.toArray }->IntsAre vs ns->ns.length<=n->s₁.gens=#[] ->
   codeAny (model l.prog w) callerA (.call (.ref fa) ⟨[.ref a],[]⟩) (fun r s'=>r=.ok (.ret (.bool true))/\OldK s₁.heap s'.heap/\s'.os=s₁.os/\AllBare s'.gens) s₁) :
  WalkO q loose XP YP l.row.toRowW d [] (fun f vs=>PySem.call f vs):=by
 intro w s₀ s₁ mg mb G Y fa o pm cd doc dV kV ho hd hcd hD hmg hg args vals as hpre hlay hrd hwl hlo;obtain rfl:dV=.none:=Dflts.none hD hdf;obtain rfl:kV=.none:=Dflts.noKw hD;obtain ⟨a,vs,ns,rfl,rfl,hobj,hints,hlen⟩:=s8 hn hpre hwl;refine enter_call (codeAny_mono (call w s₀ s₁ mg mb fa o pm cd doc a vs ns G Y ho (fd_plain hd) hcd hmg hobj hints hlen hg) fun r s' hq=>?_);obtain ⟨rfl,h2,h3,h4⟩:=hq;exact ⟨.inl ⟨.bool true,.bool true,[],rfl,fun _=>rfl,.bool true,rV l _,fun _=>⟨List.Pairwise.nil,fun _ hm=>(nomatch hm)⟩⟩,h2,h3,h4⟩
end Att
namespace L2
open PySem PySem.Spec PyProof.Rows
theorem lZ:∀ {vs:List Value} {ns:List Int},IntsAre vs ns->Vals (ns.map V.int) vs
 | _,_,.nil=>.nil
 | _,_,.cons n t h=>.cons ⟨t,rfl⟩ (lZ h)
def Dg (H:Hp):Prop:=∀ b,H b=none\/∃ o xs,H b=some (.frz o (.lst xs))
theorem vd {P:Program} {w:World} {K:Fg} {mg mb:Str->Option Value} {CX:CXT} {k:Nat} {fa a:Addr} {fd:FuncData} {x:Str} {sp:Sp} {s₁:Shared} {vs:List Value} {ns:List Int}
  (KX:K.In s₁.heap) (hns:s₁.heap.Ns mainGlobals mg) (hb:s₁.heap.Ns builtinsNs mb) (hbb:∀ x:Str,x ≠ "__name__" -> mb x=bootBuiltins x) (hlim:s₁.heap.NoLimit) (hg:s₁.gens=#[])
  (ha:s₁.heap.get? a=some { cls:=.type "list", data:=.seq vs.toArray }) (hi:IntsAre vs ns) (hl:ns.length<=sizeLine) (hr:iU k callerA)
  (F:∀ base:Heap,K.In base->base.Ns mainGlobals mg->bW P w K mg base CX k fa fd [x] sp) (hbind:∀ (s:Shared) (u:Value),BindsTo s fd ⟨[u],[]⟩ [(x,u)])
  (hsp:∀ H:Hp,Dg H->SqL K H a (ns.map V.int)->sp [.ref a] H (fun v _=>v=.bl true) fun _ _ _=>False)
  (hCX:∀ H e s',CX [] H s₁ (fun _ _ _=>False) e s'->False) :
  codeAny (model P w) callerA (.call (.ref fa) ⟨[.ref a],[]⟩) (fun r s'=>r=.ok (.ret (.bool true))/\OldK s₁.heap s'.heap/\s'.os=s₁.os/\AllBare s'.gens) s₁:=by
 have rv:=lZ hi;have lenV:=hi.length;have core:∀ H:Hp,Dg H->SqL K H a (ns.map V.int)->HOk P w H s₁.heap->(∀ b,H b≠none->b=a)->(H a≠none->K.lookup a=none) ->
   codeAny (model P w) callerA (.call (.ref fa) ⟨[.ref a],[]⟩) (fun r s'=>r=.ok (.ret (.bool true))/\OldK s₁.heap s'.heap/\s'.os=s₁.os/\AllBare s'.gens) s₁:=by
  intro H hO hS hok hA hK;have base_of:∀ {b:Addr} {o:Obj},s₁.heap.get? b=some o->H b=none->(vI s₁.heap H).get? b=some o:=fun e n=>vD e n;have noA:∀ {b:Addr} {o:Obj} {es:Array DictEntry} {ep:Nat},s₁.heap.get? b=some o->o.data=.dict es ep->H b=none:=fun {b o es ep} e d=>by
   cases q:H b with
   | none=>rfl
   | some u =>
    have e':b=a:=hA b (by rw [q];simp);subst e';rw [ha] at e;cases e;have d':Data.seq vs.toArray _=Data.dict es ep:=d;cases d'
  have nsK:∀ {b:Addr} {m:Str->Option Value},s₁.heap.Ns b m->(vI s₁.heap H).Ns b m:=fun {b m} ⟨o,es,ep,e,d,r⟩=>⟨o,es,ep,base_of e (noA e d),d,r⟩
  have hKb:K.In (vI s₁.heap H):=fun b o e=>base_of (KX b o e) (by
   cases q:H b with
   | none=>rfl
   | some u =>
    have e':b=a:=hA b (by rw [q];simp);subst e'
    rw [hK (by rw [q];simp)] at e;cases e)
  have hM:Mod K mg (vI s₁.heap H):=⟨hKb,nsK hns,⟨mb,nsK hb,hbb⟩,let ⟨mc,h1,h2⟩:=hlim;⟨mc,nsK h1,h2⟩⟩;have e0:Dk P w K mg (vI s₁.heap H) callerA [] s₁ H:=⟨rfl,hM,fun b o e=>ya e,Nat.le_of_eq (rq _ _),trivial,fun b hb=>absurd (show b∈([]:List Addr) from hb) (by simp),hok,.of_eq hg⟩;refine codeAny_mono ((F _ hKb (nsK hns)).run callerA [] s₁ H ⟨[.ref a],[]⟩ [.ref a] [.ref a] _ _ hr e0 (hbind s₁ (.ref a)) (.cons rfl .nil) (hsp H hO hS)) fun r s' h=>?_;cases r with
  | error e=>exact (hCX H e s' h).elim
  | ok fl =>
   cases fl with
   | next=>exact False.elim h
   | brk=>exact False.elim h
   | cont=>exact False.elim h
   | ret u =>
    obtain ⟨v,H',os,bare,un,hok',r',q⟩:=h;have q':v=.bl true:=q;subst q';obtain rfl:u=Value.bool true:=r';refine ⟨rfl,OldK.of_keep fun b o e=>?_,os,bare⟩;cases q:H b with
    | none=>exact un.keep b o e q (by intro z;exact absurd (show b∈([]:List Addr) from z) (by simp)) (by simp)
    | some u =>
     rcases hO b with z | ⟨ob,xs,z⟩
     ·rw [q] at z;cases z
     ·have z2:=un.qo b ob _ z;obtain ⟨e1,_⟩:=hok b _ z;obtain ⟨e2,_⟩:=hok' b _ z2;rw [e] at e1;cases e1;exact e2
 cases hk:K.lookup a with
 | some o =>
  have e:=KX a o hk;rw [ha] at e;cases e;refine core (fun _=>none) (fun _=>.inl rfl) (.inr ⟨_,vs.toArray,_,hk,rfl,rfl,rfl,by rw [Iw,lenV];exact hl,by simpa using rv⟩) (fun b u z=>by have z':(none:Option HO)=some u:=z;cases z') (fun b z=>absurd rfl z) fun z=>absurd rfl z
 | none =>
  refine core (fun b=>if b=a then some (.frz { cls:=.type "list", data:=.seq vs.toArray } (.lst (ns.map V.int))) else none) (fun b=>?_) (.inl (.inr ⟨{ cls:=.type "list", data:=.seq vs.toArray },Io rfl⟩)) (fun b u z=>?_) (fun b z=>?_) fun _=>hk
  ·by_cases hb:b=a
   ·exact .inr ⟨_,_,Io hb⟩
   ·exact .inl (Iv hb)
  ·by_cases hb:b=a
   ·have z':=(Io hb).symm.trans z;cases z';subst hb;exact ⟨ha,by rw [HS];exact hl,vs,_,rv,ha⟩
   ·have z':=(Iv hb).symm.trans z;cases z'
  ·by_cases hb:b=a
   ·exact hb
   ·exact absurd (Iv hb) z
end L2
namespace L2
open PySem PySem.Spec PyProof.Rows
abbrev KOf {K:Fg} {h:Heap} (_:K.In h):Fg:=K
theorem y8 {l:PySem.W.OpenLaw} {n k:Nat} {q:Program} {loose:List Str} {XP:(Str->Option Value)->Heap->Prop} {YP:World->Heap->Prop} {d:DefRec} {K:Params->Fg} {CX:World->CXT} {sp:World->Sp} {x:Str}
  (hn:l.most=some n) (hn2:n<=sizeLine) (hdf:d.params.defaults=[]) (hr:iU k callerA)
  (hY:∀ (w:World) (h:Heap),YP w h->(K w.params).In h)
  (F:∀ (w:World) (mg:Str->Option Value) (fa:Addr) (h:Heap),(K w.params).In h->h.Ns mainGlobals mg->mg d.name=some (.ref fa) ->
   ∃ fd:FuncData,(∀ (s:Shared) (u:Value),BindsTo s fd ⟨[u],[]⟩ [(x,u)]) /\
    ∀ base:Heap,(K w.params).In base->base.Ns mainGlobals mg->bW l.prog w (K w.params) mg base (CX w) k fa fd [x] (sp w))
  (hsp:∀ (w:World) (H:Hp) (a:Addr) (ns:List Int),ns.length<=n->Dg H->SqL (K w.params) H a (ns.map V.int)->sp w [.ref a] H (fun v _=>v=.bl true) fun _ _ _=>False)
  (hCX:∀ (w:World) (H:Hp) (s:Shared) (e:Value) (s':Shared),CX w [] H s (fun _ _ _=>False) e s'->False) :
  PySem.W.WalkO q loose XP YP l.row.toRowW d [] (fun f vs=>PySem.call f vs):=by
 refine Att.oM hn hdf fun w s₀ s₁ mg mb fa o pm cd doc a vs ns G Y ho hd hcd hmg hobj hints hlen hg=>?_;have KX:=hY w _ Y;obtain ⟨fd,hb,hF⟩:=F w mg fa _ KX G.T.g hmg;exact vd KX G.T.g G.T.b G.T.builtins G.T.nolimit hg hobj hints (Iy hlen hn2) hr hF hb (fun H hO hS=>hsp w H a ns hlen hO hS) fun H e s'=>hCX w H s₁ e s'
theorem uX {l:PySem.W.OpenLaw} {n k:Nat} {q:Program} {loose:List Str} {XP:(Str->Option Value)->Heap->Prop} {YP:World->Heap->Prop} {d:DefRec} {K:Params->Fg} {CX:CXT} {sp:Fg->Sp} {x:Str}
  (hn:l.most=some n) (hn2:n<=sizeLine) (hdf:d.params.defaults=[]) (hr:iU k callerA)
  (hY:∀ (w:World) (h:Heap),YP w h->(K w.params).In h)
  (F:∀ (w:World) (mg:Str->Option Value) (fa:Addr) (h:Heap),(K w.params).In h->h.Ns mainGlobals mg->mg d.name=some (.ref fa) ->
   ∃ fd:FuncData,(∀ (s:Shared) (u:Value),BindsTo s fd ⟨[u],[]⟩ [(x,u)]) /\
    ∀ base:Heap,(K w.params).In base->base.Ns mainGlobals mg->bW l.prog w (K w.params) mg base CX k fa fd [x] (sp (K w.params)))
  (hsp:∀ (K:Fg) (H:Hp) (a:Addr) (ns:List Int),ns.length<=n->Dg H->SqL K H a (ns.map V.int)->sp K [.ref a] H (fun v _=>v=.bl true) fun _ _ _=>False)
  (hCX:∀ (H:Hp) (s:Shared) (e:Value) (s':Shared),CX [] H s (fun _ _ _=>False) e s'->False) :
  PySem.W.WalkO q loose XP YP l.row.toRowW d [] (fun f vs=>PySem.call f vs) :=
 y8 (K:=K) (CX:=fun _=>CX) (sp:=fun w=>sp (K w.params)) hn hn2 hdf hr hY F (fun w H a ns h1 h2 h3=>hsp (K w.params) H a ns h1 h2 h3) fun _ H s e s'=>hCX H s e s'
end L2
namespace L2
open PySem PySem.Spec PyProof.Rows
noncomputable def jd (s:Stmt):Arguments:=match s with
 | .FunctionDef _ a _ _ _ _ _ _ _ _=>a
 | _=>{ posonlyargs:=[],args:=[],vararg:=none,kwonlyargs:=[],kw_defaults:=[],kwarg:=none,defaults:=[] }
noncomputable def dg (s:Stmt):List Stmt:=match s with
 | .FunctionDef _ _ b _ _ _ _ _ _ _=>b
 | _=>[]
noncomputable def aa (s:Stmt):Scope:=match s with
 | .FunctionDef _ _ _ _ _ _ sc _ _ _=>sc
 | _=>{ kind:=.function,names:=[],isGenerator:=false,isCoroutine:=false }
abbrev CX0:CXT:=fun _ _ _ _ _ _=>False
abbrev E0:XK:=fun _ _ _=>False
theorem AM {X:Cx}:Passes CX0 X E0:=fun _ _ _ _ _ _ _ h=>h.elim
structure Fun (K:Fg) (x qual:Str) (st:Stmt) (f:Addr) (fd:FuncData):Prop where
 ex:∃ (oc:Value) (od:Option Addr) (kV doc pm:Value) (an:Option Addr) (cdv ct:Value) (osl:Array (Option Value)),
  fd=PySem.W.fnOf x qual (jd st) (dg st) (aa st) .none kV doc pm an cdv ct/\K.lookup f=some ⟨oc,od,.func fd,osl⟩/\PySem.W.codeIn K cdv qual=true
 kp:PySem.W.keepIn K (.ref f)=true
section
variable {P:Program} {w:World} {K:Fg} {mg:Str->Option Value} {base:Heap}
theorem Fun.ok {x qual:Str} {st:Stmt} {f:Addr} {fd:FuncData} {N ps:List Str} {k:Nat} {sp:Sp} (F:Fun K x qual st f fd) (S:ag N ps (aa st)) (len:∀ vs H Q E,sp vs H Q E->vs.length=ps.length)
  (hbody:∀ (cdv:Value) (A:Around) (outer:List Env) (s:Shared) (H:Hp) (vs:List V) (Q:VK) (E:XK),iU k (A.deeper (envOfC qual (aa st) s.heap.objs.size f cdv))->sp vs H Q E ->
   ∃ t,PSs (vy CX0 P w K mg base N qual (aa st) f cdv A outer s H E).nox (dg st) t/\t { nx:=fun _ H'=>Q .non H',rt:=Q } (start N vs) H):bW P w K mg base CX0 (k+1) f fd ps sp:=by
 obtain ⟨oc,od,kV,doc,pm,an,cdv,ct,osl,rfl,lk,hcd⟩:=F.ex;refine Fb lk hcd S len fun A outer s H vs Q E hr hsp=>?_;obtain ⟨t,h,q⟩:=hbody cdv A outer s H vs Q E hr hsp;exact ⟨t,h.nox,q⟩
theorem CC {x qual:Str} {st:Stmt} {f:Addr} {oc:Value} {od an:Option Addr} {osl:Array (Option Value)} {kV doc pm cdv ct:Value} (l:K.lookup f=some ⟨oc,od,.func (PySem.W.fnOf x qual (jd st) (dg st) (aa st) .none kV doc pm an cdv ct),osl⟩)
  (c:PySem.W.codeIn K cdv qual=true) (k:PySem.W.keepIn K (.ref f)=true):Fun K x qual st f (PySem.W.fnOf x qual (jd st) (dg st) (aa st) .none kV doc pm an cdv ct):=⟨⟨oc,od,kV,doc,pm,an,cdv,ct,osl,rfl,l,c⟩,k⟩
end
section
variable {X:Cx}
theorem pv (i:Nat) {x:Str} {pos:Pos} (hN:X.N[i]?=some x:=by rfl) (hv:Vis X.env.scope x:=by first | exact Or.inl rfl | exact Or.inr (Or.inl rfl) | exact Or.inr (Or.inr rfl)) (hd:(x==("__debug__" : Str))=false:=by decide)
  (hcd:(x==("__classdict__" : Str))=false:=by decide):PE X (.Name x pos) (qO i):=wm hN hv hd hcd
end
def aJ (H H':Hp):Prop:=∀ b o,H b=some o->H' b=some o
theorem aJ.trans {H H1 H2:Hp} (a:aJ H H1) (b:aJ H1 H2):aJ H H2:=fun c o h=>b c o (a c o h)
theorem aJ.free {H H':Hp} (e:aJ H H') {l:Addr} (h:H' l=Option.none):H l=Option.none:=by
 cases q:H l with
 | none=>rfl
 | some o =>
  rw [e l o q] at h;cases h
theorem aJ.seq {K:Fg} {H H':Hp} {a:Addr} {xs:List V} (e:aJ H H') (h:SqL K H a xs):SqL K H' a xs:=by
 rcases h with (h | ⟨o,h⟩) | h
 ·exact .inl (.inl (e _ _ h))
 ·exact .inl (.inr ⟨o,e _ _ h⟩)
 ·exact .inr h
noncomputable def lG (env:Env):List (Str×NameKind)->List (Str×Addr)->List (Str×Addr)
 | [],cs=>cs
 | (n,k) :: r,cs=>lG env r (if k==.free then (n,(env.cells.lookup n).getD 0) :: cs else cs)
theorem eU {env:Env}:∀ (ns:List (Str×NameKind)) (cs:List (Str×Addr)),(∀ y∈ns,y.2=.free->∃ c,env.cells.lookup y.1=some c) ->
  (forIn ns cs (fun (x:Str×NameKind) (r:List (Str×Addr))=>if (x.2==NameKind.free)=true then (cellOf env x.1>>=fun a=>pure (ForInStep.yield ((x.1,a) :: r)):Sem _) else pure (ForInStep.yield r)):Sem (List (Str×Addr)))=pure (lG env ns cs)
 | [],_,_=>rfl
 | (n,k) :: r,cs,h=>by
  rw [List.forIn_cons];by_cases hk:k=.free
  ·subst hk;obtain ⟨c,e⟩:=h (n,.free) Ip rfl;have e':env.cells.lookup n=some c:=e;have q:=eU (env:=env) r ((n,c) :: cs) fun y hy=>h y (Ie _ hy);have z:lG env ((n,NameKind.free) :: r) cs=lG env r ((n,c) :: cs):=by
    show lG env r (if (NameKind.free==NameKind.free)=true then (n,(env.cells.lookup n).getD 0) :: cs else cs)=_;rw [Io (by decide),e'];rfl
   have k:cellOf env n=pure c:=by
    unfold cellOf;rw [e']
   rw [z,<-q];dsimp only;rw [Io (by decide),k];rfl
  ·have hb:(k==NameKind.free)=false:=by simpa using hk
   have q:=eU (env:=env) r cs fun y hy=>h y (Ie _ hy);have z:lG env ((n,k) :: r) cs=lG env r cs:=by
    show lG env r (if (k==NameKind.free)=true then (n,(env.cells.lookup n).getD 0) :: cs else cs)=_;rw [hb,Iv I0]
   rw [z,<-q];dsimp only;rw [hb,Iv I0];rfl
theorem gZ {scope:Scope} {env:Env} (h:∀ y∈scope.names,y.2=.free->∃ c,env.cells.lookup y.1=some c):closureFor scope env=pure (lG env scope.names []):=by
 have q:=eU (env:=env) scope.names [] h;unfold closureFor;show (forIn scope.names [] _>>=_:Sem _)=_;refine Eq.trans (congrArg (fun m:Sem (List (Str×Addr))=>m>>=fun r=>pure r) (Eq.trans ?_ q)) rfl;rfl
theorem lB {env:Env}:∀ (ns:List (Str×NameKind)) (cs:List (Str×Addr)),(∀ y∈ns,y.2=.free->∃ c,env.cells.lookup y.1=some c)->(∀ y c,cs.lookup y=some c->env.cells.lookup y=some c) ->
  ∀ y c,(lG env ns cs).lookup y=some c->env.cells.lookup y=some c
 | [],_,_,g,y,c,e=>g y c e
 | (n,k) :: r,cs,h,g,y,c,e=>by
  refine lB r _ (fun z hz=>h z (Ie _ hz)) (fun z d e'=>?_) y c e;by_cases hk:(k==NameKind.free)=true
  ·rw [Io hk] at e';rw [KD] at e';obtain ⟨c',ec⟩:=h (n,k) Ip (by simpa using hk);have ec':env.cells.lookup n=some c':=ec;cases hz:z==n with
   | true =>
    rw [hz] at e';have hzn:z=n:=by simpa using hz
    subst hzn;rw [ec'] at e' ⊢;exact e'
   | false=>rw [hz] at e';exact g z d e'
  ·rw [Iv hk] at e';exact g z d e'
theorem mD {env:Env} {y:Str}:∀ (ns:List (Str×NameKind)) (cs:List (Str×Addr)),(∃ c,cs.lookup y=some c)->∃ c,(lG env ns cs).lookup y=some c
 | [],_,h=>h
 | (n,k) :: r,cs,h=>by
  refine mD r _ ?_;by_cases hk:(k==NameKind.free)=true
  ·rw [Io hk,KD];cases y==n
   ·exact h
   ·exact ⟨_,rfl⟩
  ·rw [Iv hk];exact h
theorem dH {env:Env} {y:Str}:∀ (ns:List (Str×NameKind)) (cs:List (Str×Addr)),(y,NameKind.free)∈ns->∃ c,(lG env ns cs).lookup y=some c
 | [],_,h=>by simp at h
 | (n,k) :: r,cs,h=>by
  rcases Il.mp h with e | h
  ·cases e;show ∃ c,(lG env r (if (NameKind.free==NameKind.free)=true then (y,(env.cells.lookup y).getD 0) :: cs else cs)).lookup y=some c;refine mD r _ ⟨(env.cells.lookup y).getD 0,?_⟩;rw [Io (by decide),KD,beq_self_eq_true]
  ·exact dH r _ h
theorem a7 {env:Env} {y:Str} {k:NameKind}:∀ (ns:List (Str×NameKind)),
  (ns.map fun (n,k)=>if (k==NameKind.free&&env.scope.kind==.function&&env.kindOf n==some .cell) then (n,NameKind.cell) else (n,k)).lookup y=some k->(y,k)∈ns\/(k=.cell/\(y,NameKind.free)∈ns)
 | [],h=>by simp at h
 | (n,k') :: r,h=>by
  have ih:=fun q=>a7 (env:=env) (y:=y) (k:=k) r q;rw [List.map_cons] at h;have h2:=h;have again:=fun q=>(ih q).elim (fun q=>Or.inl (Ie (n,k') q)) fun q=>(Or.inr ⟨q.1,Ie (n,k') q.2⟩:(y,k)∈(n,k') :: r\/(k=.cell/\(y,NameKind.free)∈(n,k') :: r));dsimp only at h2;clear h;by_cases hc:(k'==NameKind.free&&env.scope.kind==.function&&env.kindOf n==some .cell)=true
  ·rw [Io hc,KD] at h2;cases hy:y==n with
   | true =>
    rw [hy] at h2;have e1:y=n:=by simpa using hy
    have hk:k'=.free:=by
     have:=hc;simp at this;exact this.1.1
    have e2:k=.cell:=(Ja h2).symm;exact .inr ⟨e2,by rw [e1,hk];exact Ip⟩
   | false=>rw [hy] at h2;exact again h2
  ·rw [Iv hc,KD] at h2;cases hy:y==n with
   | true =>
    rw [hy] at h2;have e1:y=n:=by simpa using hy
    have e2:k'=k:=Ja h2;exact .inl (by rw [e1,e2];exact Ip)
   | false=>rw [hy] at h2;exact again h2
noncomputable def cxB (X:Cx) (N':List Str) (scope:Scope) (C:Addr) (s3:Shared) (H3:Hp) (ex:List Addr):Cx :=
  { prog:=X.prog,w:=X.w,K:=X.K,mg:=X.mg,base:=X.base,A:=X.A,N:=N',s₀:=s3,H₀:=H3,env:=compEnvC scope (lG X.env scope.names []) C X.env,outer:=X.stack,stack:=X.stack,ex:=ex,
    fn:=fun _=>false,calm:=true,pn:=[],xe:=fun _ _=>False }
def d6 (X:Cx) (scope:Scope):List Str->List Nat->Prop
 | [],[]=>True
 | y :: ys,j :: js=>X.N[j]?=some y/\(X.env.scope.names.lookup y=some .cell/\scope.names.lookup y=some .free)/\d6 X scope ys js
 | _,_=>False
theorem d6.get {X:Cx} {scope:Scope}:∀ {ys:List Str} {js:List Nat} {k:Nat} {y:Str},d6 X scope ys js->ys[k]?=some y->∃ j,js[k]?=some j/\X.N[j]?=some y/\X.env.scope.names.lookup y=some .cell/\scope.names.lookup y=some .free
 | [],_,_,_,_,e=>by simp at e
 | _ :: _,[],_,_,h,_=>False.elim h
 | y :: ys,j :: js,0,z,h,e=>by simp at e;subst e;exact ⟨j,rfl,h.1,h.2.1⟩
 | y :: ys,j :: js,k+1,z,h,e=>by
  obtain ⟨j',e1,e2⟩:=d6.get (k:=k) h.2.2 (by simpa using e);exact ⟨j',by simpa using e1,e2⟩
theorem d6.len {X:Cx} {scope:Scope}:∀ {ys:List Str} {js:List Nat},d6 X scope ys js->ys.length=js.length
 | [],[],_=>rfl
 | _ :: _,_ :: _,h=>by simp [d6.len h.2.2]
 | [],_ :: _,h=>False.elim h
 | _ :: _,[],h=>False.elim h
noncomputable def bw (js:List Nat) (σ:St):St:=js.map fun j=>(σ[j]?).getD none
structure iA (X:Cx) (scope:Scope) (x:Str):Prop where
 kind:scope.kind=.function
 cells:∀ y∈scope.names,y.2≠.cell
 locs:∀ y∈scope.names,y.2=.local->scope.names.lookup y.1=some .local
 var:scope.names.lookup x=some .local
 free:∀ y∈scope.names,y.2=.free->X.env.scope.names.lookup y.1=some .cell
def PTs (X:Cx) (ifs:List Expr) (t:TT):Prop :=
 ∀ (pins:List (Addr×Obj)) (s:Shared) (σ:St) (H:Hp) (Q:Bool->Hp->Prop),Inv X pins σ H s->t σ H Q ->
  wpAny (model X.prog X.w) X.A (forIn ifs true fun c r=>if r=true then do let ok<-isTrue c X.env (eval c X.env);pure (ForInStep.yield ok) else pure (ForInStep.yield r)) (TP X pins σ Q) X.xe s
def FZ:TT:=fun _ H Q=>Q true H
theorem yu {X:Cx}:PTs X [] FZ:=fun _ _ _ H _ I h=>wpAny_tests_nil ⟨H,I,h⟩
theorem xX {X:Cx} {c:Expr} {t:TT} (h:PT X c t):PTs X [c] t:=fun pins s σ H Q I q=>wpAny_tests_one (h pins s σ H Q I q)
theorem sV {X:Cx} {pins:List (Addr×Obj)} {σ:St} {H:Hp} {s3:Shared} {h1:Heap} {tk:Nat} {scope:Scope} {x:Str} {ys:List Str} {js:List Nat} {ex:List Addr} (I:Inv X pins σ H s3) (hc:X.calm=true) (B:iA X scope x) (cap:d6 X scope ys js)
  (hns:h1.Ns s3.heap.objs.size (fun _=>none)) (hk:∀ b o,s3.heap.get? b=some o->h1.get? b=some o)
  (hex:∀ b∈ex,b ∉ frs X.stack/\b < s3.heap.objs.size/\(∀ y c,X.env.cells.lookup y=some c->c≠b)/\X.base.get? b=none) :
  Inv (cxB X (x :: ys) scope s3.heap.objs.size s3 H ex) [] (none :: bw js σ) H { s3 with heap:=h1,toks:=tk }:=by
 have hfree:∀ y∈scope.names,y.2=.free->∃ c,X.env.cells.lookup y.1=some c:=fun y hy hf=>I.ok.has y.1 (.inl (B.free y hy hf));have sub:=lB (env:=X.env) scope.names [] hfree (fun _ _ e=>by simp at e)
 refine ⟨⟨I.ok.mod,B.kind,I.ok.glob,I.ok.blt,Ia _,fun y z c h1 h2=>I.ok.inj y z c (sub _ _ h1) (sub _ _ h2),fun y hy=>?_,fun y c hf _=>?_,fun _=>I.ok.hd hc,I.ok.frames,.inl rfl,fun b hb=>?_,fun b o e=>I.bs b o e,Iy I.ok.bsz I.sz,fun b o e hb=>?_,fun b hb=>(hex b hb).1,I.stack,I.oG⟩,
  rfl,I.bare,Un.kept hk,⟨_,hns,fun i y v e1 e2 e3=>?_⟩,fun y c e=>?_,I.hok.fresh (Ia _),fun y c e=>I.gL y c (sub _ _ e),fun p hp=>absurd (show p∈([]:List (Addr×Obj)) from hp) (by simp),I.hok.kept hk,?_⟩
 ·have hy:(relabel scope X.env).names.lookup y=some .cell\/(relabel scope X.env).names.lookup y=some .free:=hy;rcases hy with hy | hy
  ·rcases a7 _ hy with q | ⟨_,q⟩
   ·exact absurd rfl (B.cells _ q)
   ·exact dH _ _ q
  ·rcases a7 _ hy with q | ⟨q,_⟩
   ·exact dH _ _ q
   ·cases q
 ·exact absurd (show false=true from hf) (by simp)
 ·exact ⟨IC (hex b hb).2.1,fun y c e=>(hex b hb).2.2.1 y c (sub _ _ e)⟩
 ·have e':X.base.get? b=some o:=e;have:=(hex b hb).2.2.2;rw [e'] at this;cases this
 ·cases i with
  | zero=>simp at e2
  | succ i =>
   have e1':ys[i]?=some y:=by simpa [cxB] using e1
   have e2':(bw js σ)[i]?=some (some v):=by simpa using e2
   obtain ⟨j,ej,en,ec,ef⟩:=cap.get e1';have e4:σ[j]?=some (some v):=by
    unfold bw at e2';rw [H9,ej] at e2';simp only [Option.map_some,Option.some.injEq] at e2';cases q:σ[j]? with
    | none=>rw [q] at e2';cases e2'
    | some w=>rw [q] at e2';simp at e2';rw [e2']
   obtain ⟨m,hn,hl⟩:=I.loc;obtain ⟨u,r,l⟩:=hl j y v en e4 (.inr (.inl ec));refine ⟨u,r,.inr ?_⟩;rcases l with ⟨kl,_⟩ | ⟨kc,c,ecl,cell⟩
   ·have kl:X.env.scope.names.lookup y=some .local:=kl;rw [ec] at kl;cases kl
   ·have e3:(relabel scope X.env).names.lookup y=some .local\/(relabel scope X.env).names.lookup y=some .cell\/(relabel scope X.env).names.lookup y=some .free:=e3;refine ⟨?_,?_⟩
    ·rcases e3 with q | q | q
     ·rcases a7 _ q with q | ⟨q,_⟩
      ·have:=B.locs _ q rfl;rw [ef] at this;cases this
      ·cases q
     ·exact .inl q
     ·exact .inr q
    ·have mem:(y,NameKind.free)∈scope.names:=JH ef;obtain ⟨c',ec'⟩:=dH (env:=X.env) scope.names [] mem;have:=sub _ _ ec';rw [ecl] at this;cases this;obtain ⟨o,ho,hd⟩:=cell;exact ⟨c,ec',o,hk _ _ ho,hd⟩
 ·obtain ⟨v,o,ho,hd⟩:=I.cell y c (sub _ _ e);exact ⟨v,o,hk _ _ ho,hd⟩
 ·show (none :: bw js σ).length=(x :: ys).length;rw [Ik,Ik,cap.len];unfold bw;rw [HS]
def qw (js:List Nat) (wi:TI) (tt:TT) (te:TE):TE:=fun σ H Q=>wi σ H fun J H1=>∃ W:Nat->Nat->List V->Hp->Prop,(∃ m,W 0 m [] H1)/\∀ i m acc H,W i m acc H ->
 (J.stop i H/\acc.length<=sizeLine/\∀ p,H p=none->Q (.ref p) (upd H p (.lst acc)))\/(J.go i H/\acc.length < sizeLine/\∀ x H',J.yld i H x H' ->
  tt (some x :: bw js σ) H' fun b H2=>if b=true then te (some x :: bw js σ) H2 fun y H3=>∃ m',m' < m/\W (i+1) m' (acc++[y]) H3 else ∃ m',m' < m/\W (i+1) m' acc H2)
theorem ve {M:Model} {A:Around} {α β:Type} {E E':Value->Shared->Prop} {a:α} {t:Sem α} {u:Sem β} {Q:α->Shared->Prop} {R:β->Shared->Prop} {s s':Shared} (e:t=pure a) (h:wpAny M A t Q E s) (k:Q a s->wpAny M A u R E' s'):wpAny M A u R E' s':=by
 subst e;exact fun Γ p hΓ=>k (h Γ p hΓ) Γ p hΓ
theorem pZ {X:Cx} {pins:List (Addr×Obj)} {σ:St} {H:Hp} {s2:Shared} {elt iter:Expr} {x:Str} {px pos:Pos} {ifs:List Expr} {scope:Scope} {tt:TT} {te:TE} {ys:List Str} {js:List Nat} {it:Addr} {fp:List Addr} {tn:Nat->Heap->Prop} {J:It}
    {Q:VK} {E:Value->Shared->Prop} {RR:Value->Addr->Result->Shared->Prop} (hc:X.calm=true) (B:iA X scope x) (nd:(x :: ys).Nodup) (cap:d6 X scope ys js)
    (ht:∀ C s3 H3 ex,PTs (cxB X (x :: ys) scope C s3 H3 ex) ifs tt) (he:∀ C s3 H3 ex,PE (cxB X (x :: ys) scope C s3 H3 ex) elt te)
    (I:Inv X pins σ H s2) (T:Turn X.prog X.w X.K (.Name x px) J fp it tn) (h0:tn 0 s2.heap) (hf:∀ b∈fp,rW X pins H b)
    (W:Nat->Nat->List V->Hp->Prop) (w0:∃ m,W 0 m [] H)
    (turn:∀ i m acc H,W i m acc H->(J.stop i H/\acc.length<=sizeLine/\∀ p,H p=none->Q (.ref p) (upd H p (.lst acc)))\/(J.go i H/\acc.length < sizeLine/\∀ x H',J.yld i H x H' ->
      tt (some x :: bw js σ) H' fun b H2=>if b=true then te (some x :: bw js σ) H2 fun y H3=>∃ m',m' < m/\W (i+1) m' (acc++[y]) H3 else ∃ m',m' < m/\W (i+1) m' acc H2))
    (hRR:∀ (D C:Addr) (H':Hp) (s':Shared) (m':Str->Option Value),s'.heap.Ns C m'->s2.heap.objs.size<=C->C≠D->H' C=none->Inv X pins σ H' s'->Q (.ref D) H'->RR (.ref D) C (.ok .next) s') :
    wpAny (model X.prog X.w) X.A (newList []) (fun acc s₃=>wpAny (model X.prog X.w) X.A (newFunctionEnv scope X.env.globals (lG X.env scope.names []) [] X.env.qual none .none (some X.env)) (fun cenv s₄ =>
      codeAny (model X.prog X.w) X.A (.compStart (.ListComp elt [⟨.Name x px,iter,ifs,0⟩] scope pos) 0 (.ref it) acc { cenv with scope:=relabel scope X.env }) (RR acc cenv.locals) s₄) E s₃) E s2:=by
  refine IU (wpAny_newFunctionEnv B.cells (by intro y hy;simp at hy) (fun h1 hns hsb=>?_) B.kind);dsimp only at hns hsb ⊢;have hD:H s2.heap.objs.size=none:=I.hok.fresh (Ia _);generalize hH2:s2.heap.push { cls:=.type "list", dict:=none,data:=.seq ([]:List Value).toArray }=P2 at hns hsb ⊢;have hgetD:P2.get? s2.heap.objs.size=some { cls:=.type "list", dict:=none,data:=.seq ([]:List Value).toArray }:=by rw [<- hH2];exact Iq _ rfl
  have hold:∀ b o,s2.heap.get? b=some o->P2.get? b=some o:=fun b o e=>by rw [<- hH2];exact H0 _ e
  have hsz:P2.objs.size=s2.heap.objs.size+1:=by rw [<- hH2,Heap.size_push]
  have I3:Inv X pins σ H { s2 with heap:=P2,toks:=s2.toks }:=I.kept hold;generalize hDe:s2.heap.objs.size=D at *;have keep1:∀ b o,P2.get? b=some o->h1.get? b=some o:=fun b o e=>hsb.extBut b o (IC (Im e)) (H0 _ e);have hfp:∀ b∈fp,b < D:=fun b hb=>by
    obtain ⟨o,e,_⟩:=T.obj _ _ h0 b hb;rw [<- hDe];exact Im e
  have hstk:∀ b,b≠X.env.locals->b ∉ X.fs->b ∉ frs X.stack:=fun b h1 h2 z=>(Il.mp (I.p5 b z)).elim h1 h2;have hDl:D≠X.env.locals:=fun z=>absurd I.lt (by rw [hDe,z];exact IG _);have hDfs:D ∉ X.fs:=I.Dd (by rw [hDe];exact Ia _);have hDc:∀ y c,X.env.cells.lookup y=some c->c≠D:=fun y c e z=>by
    obtain ⟨v,q⟩:=I.cell y c e;have:=q.lt;rw [z,hDe] at this;exact absurd this (IG _)
  have hex:∀ b∈D :: fp,b ∉ frs X.stack/\b < ({ s2 with heap:=P2,toks:=s2.toks }:Shared).heap.objs.size/\(∀ y c,X.env.cells.lookup y=some c->c≠b)/\X.base.get? b=none:=fun b hb=>by
    rcases Il.mp hb with rfl | hb
    · refine ⟨hstk _ hDl hDfs,by show _ < P2.objs.size;rw [hsz];exact Kg _,hDc,?_⟩;cases q:X.base.get? b with
      | none=>rfl
      | some o =>
        have:=Im (I.bk b o q);rw [hDe] at this;exact absurd this (IG _)
    · obtain ⟨f0,f1,f2,f3,f4,f5⟩:=hf b hb;refine ⟨hstk _ f1 f2,by show _ < P2.objs.size;rw [hsz];exact Jx (hfp b hb),f4,?_⟩;cases q:X.base.get? b with
      | none=>rfl
      | some o =>
        rcases f3 with z | z
        · exact absurd z (I.ok.zz b o q)
        · exact absurd (Iu (Im q) (Iy I.ok.bsz z)) (IG _)
  have IB:=sV (tk:=s2.toks) (ex:=D :: fp) I3 hc B cap (h1:=h1) hns keep1 hex;have hCD:P2.objs.size≠D:=by rw [hsz];exact Nat.succ_ne_self _
  have start:codeAny (model X.prog X.w) X.A (.compLoop (.ListComp elt [⟨.Name x px,iter,ifs,0⟩] scope pos) 0 (.ref it) (.ref D) (compEnvC scope (lG X.env scope.names []) P2.objs.size X.env)) (RR (.ref D) P2.objs.size) { s2 with heap:=h1,toks:=s2.toks }:=by
    obtain ⟨m0,w0⟩:=w0;refine codeAny_compLoop_tests (fun n s=>∃ i v0 H' acc its k,Inv (cxB X (x :: ys) scope P2.objs.size { s2 with heap:=P2,toks:=s2.toks } H (D :: fp)) [] (v0 :: bw js σ) H' s/\tn i s.heap/\(∀ b∈D :: fp,H' b=none)/\s.heap.get? D=some { cls:=.type "list", data:=.seq its k }/\Vals acc its.toList/\acc.length<=sizeLine/\W i n acc H') ?_ m0 ?_
    · rintro n s ⟨i,v0,H3,acc,its,k,I4,t4,fr4,g4,va,hl4,w4⟩;have hDm:D∈D :: fp:=Ip;have exf:=I4.ok.exf;have fsub:∀ b∈D :: fp,b ∉ (cxB X (x :: ys) scope P2.objs.size { s2 with heap:=P2,toks:=s2.toks } H (D :: fp)).fs:=fun b hb=>(hex b hb).1;have stat:∀ {H':Hp} {ob:Obj},(∀ b∈fp,H' b=none)->∀ b∈fp,rW (cxB X (x :: ys) scope P2.objs.size { s2 with heap:=P2,toks:=s2.toks } H (D :: fp)) [(D,ob)] H' b:=fun {H' ob} hn b hb =>
        ⟨hn b hb,(exf b (Ie _ hb)).1,fsub b (Ie _ hb),.inl (Ie _ hb),(exf b (Ie _ hb)).2,fun p hp z=>by
          have hp':p∈[(D,ob)]:=hp;have e:=Ib.mp hp';rw [e] at z
          exact absurd (hfp b hb) (by rw [<- show D=b from z];exact IG _)⟩
      have frp:∀ b∈fp,H3 b=none:=fun b hb=>fr4 b (Ie _ hb);have I5:Inv (cxB X (x :: ys) scope P2.objs.size { s2 with heap:=P2,toks:=s2.toks } H (D :: fp)) [(D,{ cls:=.type "list", data:=.seq its k })] (v0 :: bw js σ) H3 s:=I4.ee fun p hp=>by
        rw [Ib.mp hp];exact ⟨g4,fr4 D hDm,(exf D hDm).1,fsub D hDm,fun v z=>nomatch z⟩
      rcases turn i n acc H3 w4 with ⟨stop,hacc,q⟩ | ⟨go,hacc,step⟩
      · refine IJ (T.done (cxB X (x :: ys) scope P2.objs.size { s2 with heap:=P2,toks:=s2.toks } H (D :: fp)) rfl rfl rfl rfl i _ s _ H3 (fun _ _=>False) I5 (stat frp) t4 stop) (fun r s1 ⟨hr,I6⟩=>?_) (fun _ _ z=>z.elim);subst hr;obtain ⟨m',hn',_⟩:=id I6.loc;have pD:=(I6.pin (D,{ cls:=.type "list", data:=.seq its k }) (Ir _ (Ib.mpr rfl))).1;have nD:H3 D=none:=fr4 D hDm;have u:=I6.base;have uu:Un (frs X.stack) (D :: fp) H (upd H3 D (.lst acc)) P2 s1.heap :=
          ⟨u.keep,u.slot,fun b o q n hx=>by rw [ak fun z=>hx (by rw [z];exact hDm)];exact u.free b o q n hx,u.there,
           fun b xs q=>by rw [ak (ay (u.qL b xs q) nD)];exact u.qL b xs q,fun b o v q=>by rw [ak (ay (u.qo b o v q) nD)];exact u.qo b o v q,
           fun b ps q=>by
            obtain ⟨more,z⟩:=u.uQ b ps q
            exact ⟨more,by rw [ak (ay z nD)];exact z⟩⟩
        have hok:HOk X.prog X.w (upd H3 D (.lst acc)) s1.heap:=fun b o e=>by
          by_cases hb:b=D
          · subst hb;rw [ar] at e;cases e;exact ⟨hacc,its.toList,k,va,by rw [Km];exact pD⟩
          · rw [ak hb] at e;exact (I6.hok b o e).lH (fun c v _ q=>q) (fun c q=>by rw [ak (ay q nD)];exact q) fun c xs q=>by rw [ak (ay q nD)];exact q
        have fin:=I3.call (g':=s1.gens) (t':=s1.toks) (d':=s1.drawn) uu hok I6.bare (fun b hb=>by
          rcases Il.mp hb with z | hb
          · rw [z];refine ⟨.inr (by rw [<- hDe];exact I.sz),hDl,hDc,fun p hp z=>?_⟩;have:=Im (I.pin p hp).1;rw [z,hDe] at this;exact IG _ this
          · exact ⟨(hf b hb).2.2.2.1,(hf b hb).2.1,(hf b hb).2.2.2.2.1,(hf b hb).2.2.2.2.2⟩)
        have es:({ heap:=s1.heap,gens:=s1.gens,drawn:=s1.drawn,toks:=s1.toks,os:=s2.os }:Shared)=s1:=by
          have:=I6.os;obtain ⟨a1,a2,a3,a4,a5⟩:=s1;have e5:a5=s2.os:=this;rw [e5]
        have fin':Inv X pins σ (upd H3 D (.lst acc)) s1:=es▸fin;exact hRR D P2.objs.size (upd H3 D (.lst acc)) s1 m' hn' (by rw [hsz];exact Ka _) hCD (by rw [ak hCD];exact I6.free) fin' (q D nD)
      · refine IJ (T.item (cxB X (x :: ys) scope P2.objs.size { s2 with heap:=P2,toks:=s2.toks } H (D :: fp)) rfl rfl rfl rfl i _ s _ H3 (fun _ _=>False) I5 (stat frp) t4 go) (fun r s1 ⟨u,hr,h4⟩=>?_) (fun _ _ z=>z.elim);subst hr;refine ve (a:=()) rfl h4 fun ⟨x',H5,I6,r6,y6,t6,fr6⟩=>?_;have I7:=I6.pinned (stat fr6) (T.obj _ _ t6);have kx:(relabel scope X.env).names.lookup x=some .local:=lookup_relabel_local B.var;have pg:PG (cxB X (x :: ys) scope P2.objs.size { s2 with heap:=P2,toks:=s2.toks } H (D :: fp)) (.Name x px) (cy 0):=jb nd rfl (.inl kx) (.inr kx);refine IJ (pg _ s1 _ H5 x' u (fun σ' H'=>σ'=some x' :: bw js σ/\H'=H5) I7 r6 ⟨rfl,rfl⟩) (fun _ s2' ⟨σ6,H6,I8,e1,e2⟩=>?_) (fun _ _ z=>z.elim);subst e1 e2;refine IJ (ht _ _ _ _ _ s2' _ _ _ I8 (step x' H6 y6)) (fun b s3' ⟨H7,I9,q9⟩=>?_) (fun _ _ z=>z.elim);have pinsKeep:∀ {σ':St} {H':Hp} {s':Shared},Inv (cxB X (x :: ys) scope P2.objs.size { s2 with heap:=P2,toks:=s2.toks } H (D :: fp)) ([(D,{ cls:=.type "list", data:=.seq its k })]++kq fp s1.heap) σ' H' s' ->
            s'.heap.get? D=some { cls:=.type "list", data:=.seq its k }/\(∀ b∈D :: fp,H' b=none)/\∀ b∈fp,∀ o,s1.heap.get? b=some o->s'.heap.get? b=some o:=fun {σ' H' s'} J=>by
          have pd:=J.pin (D,{ cls:=.type "list", data:=.seq its k }) (Ir _ (IM _ (Ib.mpr rfl)));refine ⟨pd.1,fun b hb=>?_,fun b hb o e=>(J.pin (b,o) (Ir _ (Ir _ (b6 hb e)))).1⟩;rcases Il.mp hb with rfl | hb
          · exact pd.2.1
          · obtain ⟨o,e,_⟩:=T.obj _ _ t6 b hb;exact (J.pin (b,o) (Ir _ (Ir _ (b6 hb e)))).2.1
        cases b with
        | false =>
          rw [Iv I0] at q9;obtain ⟨m',hm,w9⟩:=q9;obtain ⟨p1,p2,p3⟩:=pinsKeep I9;rw [Iv I0];exact ⟨m',hm,i+1,some x',H7,acc,its,k,I9.ee (fun p hp=>absurd hp (by simp)),T.keep _ _ _ t6 p3,p2,p1,va,hl4,w9⟩
        | true =>
          rw [Io rfl] at q9;rw [Io rfl];refine IJ (he _ _ _ _ _ s3' _ _ _ I9 q9) (fun y s4' ⟨yv,H8,I10,ry,m',hm,w10⟩=>?_) (fun _ _ z=>z.elim);obtain ⟨p1,p2,p3⟩:=pinsKeep I10;have hsize:its.size=acc.length:=by rw [va.length];simp
          have I11:=I10.ee (pins':=[]) (fun p hp=>absurd hp (by simp));refine wpAny_list_append_plain ⟨k,p1⟩ (fun h' hpl hsame=>?_) (by rw [hsize];exact Kc hacc);obtain ⟨k',e'⟩:=hpl;have neD:∀ {b:Addr} {o:HO},H8 b=some o->b≠D:=fun e z=>by rw [z,p2 D hDm] at e;cases e
          refine ⟨m',hm,i+1,some x',H8,acc++[yv],its.push y,k',?_,?_,p2,e',?_,?_,w10⟩
          · refine I11.step (g':=s4'.gens) (t':=s4'.toks) (d':=s4'.drawn) (ch:=[D]) (fun b hb=>?_) (fun b o _ _ hc' e _=>?_) (fun b o _ _ hc' e _=>⟨o.slots,?_⟩) (fun b o hc' e n=>n) (fun b o hc' e=>⟨o,?_⟩) (fun _ _ z=>z) (fun _ _ _ z=>z) (fun b ps z=>⟨#[],by rw [z];simp⟩) (fun m hn=>hn.sameBut hsame (Ne.symm (exf D hDm).1)) (fun b o e=>?_) I11.bare
            · rw [Ib.mp hb];exact ⟨.inl hDm,(exf D hDm).1,(exf D hDm).2,fun p hp=>absurd (show p∈([]:List (Addr×Obj)) from hp) (by simp)⟩
            · exact (hsame.2 b fun z=>hc' (Ib.mpr z)).trans e
            · exact (hsame.2 b fun z=>hc' (Ib.mpr z)).trans e
            · exact (hsame.2 b fun z=>hc' (Ib.mpr z)).trans e
            · refine (I11.hok b o e).lH (fun c v hc' q=>(hsame.2 c ?_).trans q) (fun _ q=>q) fun _ _ q=>q;rcases hc' with z | z
              · rw [z];exact neD e
              · exact neD z
          · refine T.keep _ _ _ t6 fun b hb o e=>(hsame.2 b ?_).trans (p3 b hb o e);exact IC (hfp b hb)
          · rw [Ke];exact va.append (.cons ry .nil)
          · rw [HY,List.length_singleton];exact hacc
    · refine ⟨0,none,H,[],#[],_,IB,T.keep _ _ _ h0 (fun b hb o e=>keep1 b o (hold b o e)),fun b hb=>?_,keep1 _ _ hgetD,.nil,IV _,w0⟩;rcases Il.mp hb with rfl | hb
      · exact hD
      · exact (hf b hb).1
  exact codeAny_compStart_list start (T.self _ 0 _ _ _ (T.keep _ _ _ h0 (fun b hb o e=>keep1 b o (hold b o e))) start)
theorem xQ {X:Cx} {elt iter:Expr} {x:Str} {px pos:Pos} {ifs:List Expr} {scope:Scope} {wi:TI} {tt:TT} {te:TE} {ys:List Str} {js:List Nat} (hc:X.calm=true) (hi:PI X (.Name x px) iter wi) (B:iA X scope x) (nd:(x :: ys).Nodup) (cap:d6 X scope ys js)
  (ht:∀ C s3 H3 ex,PTs (cxB X (x :: ys) scope C s3 H3 ex) ifs tt) (he:∀ C s3 H3 ex,PE (cxB X (x :: ys) scope C s3 H3 ex) elt te) (hs:∀ x,foldedSetIterable iter X.env x=pure x:=by intro _;rfl) :
  PE X (.ListComp elt [⟨.Name x px,iter,ifs,0⟩] scope pos) (qw js wi tt te):=by
 intro pins s σ H Q I h;have hcl:=gZ (scope:=scope) (env:=X.env) fun y hy hf=>I.ok.has y.1 (.inl (B.free y hy hf));rw [eval_ListComp];refine wpAny_comprehension_free (use:=none) rfl hs hcl B.kind B.locs (IJ (hi pins s σ H _ I h) (fun xv s1 h1=>IJ h1 (fun itv s2 h2=>?_) fun _ _ e=>e) fun _ _ e=>e);obtain ⟨it,fp,tn,J,H2,e,I2,T,st2,f2,W,w0,turn⟩:=h2;subst e;refine pZ (RR:=fun acc C=>compPost (model X.prog X.w) X.A X.xe none (EP X pins σ Q) acc C) hc B nd cap ht he I2 T st2 f2 W w0 turn ?_;intro D C H' s' m' hn hC hCD hCn I' q;refine ⟨m',hn,fun h' hs'=>⟨.ref D,H',?_,rfl,q⟩⟩;have hL:X.env.locals≠C:=IC (Iu I2.lt hC);have neC:∀ {b:Addr} {o:HO},H' b=some o->b≠C:=fun e z=>by rw [z,hCn] at e;cases e
 refine I'.step (g':=s'.gens) (t':=s'.toks) (d':=s'.drawn) (ch:=[C]) (fun b hb=>?_) (fun b o _ _ hc' e _=>?_) (fun b o _ _ hc' e _=>⟨o.slots,?_⟩) (fun b o hc' e n=>n) (fun b o hc' e=>⟨o,?_⟩) (fun _ _ z=>z) (fun _ _ _ z=>z) (fun b ps z=>⟨#[],by rw [z];simp⟩) (fun m hn=>hn.sameBut hs' hL) (fun b o e=>?_) I'.bare
 ·rw [Ib.mp hb];refine ⟨.inr (Iy I2.sz hC),Ne.symm hL,fun y c e z=>?_,fun p hp z=>?_⟩
  ·obtain ⟨v,q⟩:=I2.cell y c e;have:=q.lt;rw [z] at this;exact absurd (Iu this hC) (IG _)
  ·have:=Im (I2.pin p hp).1;rw [z] at this;exact absurd (Iu this hC) (IG _)
 ·exact (hs'.2 b fun z=>hc' (Ib.mpr z)).trans e
 ·exact (hs'.2 b fun z=>hc' (Ib.mpr z)).trans e
 ·exact (hs'.2 b fun z=>hc' (Ib.mpr z)).trans e
 ·refine (I'.hok b o e).lH (fun c v hc' q=>(hs'.2 c ?_).trans q) (fun _ q=>q) fun _ _ q=>q;rcases hc' with z | z
  ·rw [z];exact neC e
  ·exact neC z
theorem zo {X:Cx} {elt iter:Expr} {x y:Str} {px py pos spos:Pos} {ifs:List Expr} {scope:Scope} {wi:TI} {tt:TT} {te:TE} {ys:List Str} {js:List Nat} {i:Nat} (hN:X.N.Nodup) (hi':X.N[i]?=some y) (hy:X.env.scope.names.lookup y=some .local)
  (hsw:swapsWith (.ListComp elt [⟨.Name x px,iter,ifs,0⟩] scope pos) (some (.Name y py)) spos.line X.env=pure true) (hc:X.calm=true) (hi:PI X (.Name x px) iter wi) (B:iA X scope x) (nd:(x :: ys).Nodup) (cap:d6 X scope ys js)
  (ht:∀ C s3 H3 ex,PTs (cxB X (x :: ys) scope C s3 H3 ex) ifs tt) (he:∀ C s3 H3 ex,PE (cxB X (x :: ys) scope C s3 H3 ex) elt te) (hs:∀ x,foldedSetIterable iter X.env x=pure x:=by intro _;rfl) :
  PS X (.Assign [.Name y py] (.ListComp elt [⟨.Name x px,iter,ifs,0⟩] scope pos) spos) (qd (qw js wi tt te) (cy i)):=by
 intro pins s σ H Dn I h;have hcl:=gZ (scope:=scope) (env:=X.env) fun y hy hf=>I.ok.has y.1 (.inl (B.free y hy hf));rw [exec_Assign_Name_used _ _ _ _ hsw];refine HU (wpAny_standAt (HU ?_));show wpAny _ X.A (do let _<-comprehension (.ListComp elt [⟨.Name x px,iter,ifs,0⟩] scope pos) scope X.env _ (newList []) false (eval iter X.env) (some (assign (.Name y py) X.env))) _ _ s
 refine HU (IJ (wpAny_comprehension_free (use:=some (assign (.Name y py) X.env)) (Q:=fun _ s'=>SP X pins Dn .next s') rfl hs hcl B.kind B.locs
  (IJ (hi pins s σ H _ I h) (fun xv s1 h1=>IJ h1 (fun itv s2 h2=>?_) fun _ _ e=>e) fun _ _ e=>e)) (fun _ s' hq=>HV (HV hq)) fun _ _ e=>e)
 obtain ⟨it,fp,tn,J,H2,e,I2,T,st2,f2,W,w0,turn⟩:=h2;subst e;refine pZ (Q:=fun x H1=>cy i x σ H1 Dn.nx) (RR:=fun acc C=>compPost (model X.prog X.w) X.A X.xe (some (assign (.Name y py) X.env)) (fun _ s'=>SP X pins Dn .next s') acc C) hc B nd cap ht he I2 T st2 f2 W w0 turn ?_;intro D C H' s' m' hn hC hCD hCn I' q;have hL:X.env.locals≠C:=IC (Iu I2.lt hC);have hCfs:C ∉ X.fs:=I2.Dd hC;obtain ⟨oC,esC,epC,hoC,hdC,restC⟩:=id hn;have I'':Inv X (pins++[(C,oC)]) σ H' s':=I'.ee fun p hp=>by
  rcases IK.mp hp with z | z
  ·exact I'.pin p (Ir _ z)
  ·rw [Ib.mp z];exact ⟨hoC,hCn,Ne.symm hL,hCfs,fun v z=>by rw [hdC] at z;cases z⟩
 show wpAny _ X.A (assign (.Name y py) X.env (.ref D)) _ _ _;refine IJ (jb (pos:=py) hN hi' (.inl hy) (.inr hy) _ s' σ H' (.ref D) (.ref D) Dn.nx I'' rfl q) (fun _ s3 ⟨σ3,H3,I3,q3⟩=>?_) fun _ _ e=>e;have pC:=I3.pin (C,oC) (Ir _ (Ir _ (Ib.mpr rfl)));have hn3:s3.heap.Ns C m':=⟨oC,esC,epC,pC.1,hdC,restC⟩;have hCn3:H3 C=none:=pC.2.1;refine ⟨m',hn3,fun h' hs'=>⟨σ3,H3,?_,q3⟩⟩;have I4:=I3.iS;have neC:∀ {b:Addr} {o:HO},H3 b=some o->b≠C:=fun e z=>by rw [z,hCn3] at e;cases e
 refine I4.step (g':=s3.gens) (t':=s3.toks) (d':=s3.drawn) (ch:=[C]) (fun b hb=>?_) (fun b o _ _ hc' e _=>?_) (fun b o _ _ hc' e _=>⟨o.slots,?_⟩) (fun b o hc' e n=>n) (fun b o hc' e=>⟨o,?_⟩) (fun _ _ z=>z) (fun _ _ _ z=>z) (fun b ps z=>⟨#[],by rw [z];simp⟩) (fun m hn=>hn.sameBut hs' hL) (fun b o e=>?_) I4.bare
 ·rw [Ib.mp hb];refine ⟨.inr (Iy I2.sz hC),Ne.symm hL,fun y c e z=>?_,fun p hp z=>?_⟩
  ·obtain ⟨v,q⟩:=I2.cell y c e;have:=q.lt;rw [z] at this;exact absurd (Iu this hC) (IG _)
  ·have:=Im (I2.pin p hp).1;rw [z] at this;exact absurd (Iu this hC) (IG _)
 ·exact (hs'.2 b fun z=>hc' (Ib.mpr z)).trans e
 ·exact (hs'.2 b fun z=>hc' (Ib.mpr z)).trans e
 ·exact (hs'.2 b fun z=>hc' (Ib.mpr z)).trans e
 ·refine (I4.hok b o e).lH (fun c v hc' q=>(hs'.2 c ?_).trans q) (fun _ q=>q) fun _ _ q=>q;rcases hc' with z | z
  ·rw [z];exact neC e
  ·exact neC z
def Its (x:Str):It:=⟨fun i _=>i < x.length,fun i H v H'=>H'=H/\∃ c,x.cps[i]?=some c/\v=.str ⟨#[c]⟩,fun i _=>x.length<=i⟩
theorem u4 {P:Program} {w:World} {K:Fg} {y:Str} {py:Pos} {x:Str} {it:Addr} {St:Nat->Heap->Prop} (W:∀ A':Around,A'.handled=none->Walks P w A' it [it] [it] x.cps.size (SignAt x) St)
  (ob:∀ i h,St i h->∃ o,h.get? it=some o/\∀ v,o.data≠.cell v) (hs:∀ (A:Around) i (s:Shared) (Q:Value->Shared->Prop) (E:Value->Shared->Prop),St i s.heap->Q (.ref it) s->wpAny (model P w) A (pyIter (.ref it)) Q E s) :
  Turn P w K (.Name y py) (Its x) [it] it (fun i h=>i<=x.cps.size/\St i h) where
 mem:=by simp
 obj:=fun i h st b hb=>by
  have e:b=it:=by simpa using hb
  subst e;exact ob i h st.2
 keep:=fun i h h' st k=>⟨st.1,(W { depth:=0,frames:=none,guards:=none,units:=0,handled:=none } rfl).frame i h h' st.2 fun b hb o e=>k b hb o e⟩
 item:=by
  intro X hP hw hK hc i pins s σ H E I hf st hg;subst hP hw hK;obtain ⟨f0,f1,f2,f3,f4,f5⟩:=hf it (by simp);refine (W X.A (I.ok.hd hc)).item i s _ _ hg st.2 fun v h' tk hv st' kk=>?_;obtain ⟨c,t,hcps,rfl⟩:=hv;have I1:Inv X pins σ H { s with heap:=h',toks:=tk }:=I.turned (fun b o hb e=>kk b o (by simpa using hb) e) f0 f1 f3 f4 f5;exact ⟨_,rfl,HV (show _ from ⟨.str ⟨#[c]⟩,H,I1,⟨t,rfl⟩,⟨rfl,c,hcps,rfl⟩,⟨hg,st'⟩,fun b hb=>(hf b hb).1⟩)⟩
 done:=by
  intro X hP hw hK hc i pins s σ H E I hf st hg;subst hP hw hK;obtain ⟨f0,f1,f2,f3,f4,f5⟩:=hf it (by simp);have e:i=x.cps.size:=Nat.le_antisymm st.1 hg;subst e;exact (W X.A (I.ok.hd hc)).done s _ _ st.2 fun h' tk kk=>⟨rfl,I.turned (fun b o hb e=>kk b o (by simpa using hb) e) f0 f1 f3 f4 f5⟩
 self:=fun A i s Q E st h=>hs A i s Q E st.2 h
def DN (tl:TE):TI:=fun σ H R=>tl σ H fun x H1=>∃ z,x=.str z/\R (Its z) H1
theorem CT {X:Cx} {y:Str} {py:Pos} {l:Expr} {tl:TE} (hl:PE X l tl):PI X (.Name y py) l (DN tl):=by
 intro pins s σ H R I h;refine thn (hl pins s σ H _ I h) fun v s1 ⟨x,H1,I1,r1,q1⟩=>?_;obtain ⟨z,e,q⟩:=q1;subst e;obtain ⟨t,rfl⟩:=r1;have hn:H1 s1.heap.objs.size=none:=I1.hok.fresh (Ia _);have key:∀ (T:String) (sz:T = "str_ascii_iterator" \/ T = "str_iterator"),PIE X pins σ (.Name y py) R (.ref s1.heap.objs.size) { s1 with heap:=s1.heap.push { cls:=.type T,data:=.fields #[.str z t,.int 0 0] } }:=fun T sz=>by
  have I2:Inv X pins σ H1 { s1 with heap:=s1.heap.push { cls:=.type T,data:=.fields #[.str z t,.int 0 0] },toks:=s1.toks }:=I1.kept fun b o e=>H0 _ e;have st0:(s1.heap.push { cls:=.type T,data:=.fields #[.str z t,.int 0 0] }).IsStrIter s1.heap.objs.size T z t 0:=⟨_,Iq _ rfl,rfl,rfl⟩;refine ⟨s1.heap.objs.size,[s1.heap.objs.size],fun i h=>i<=z.cps.size/\h.IsStrIter s1.heap.objs.size T z t i,Its z,H1,rfl,I2,?_,⟨IV _,st0⟩,fun b hb=>?_,q⟩
  ·refine u4 (fun A' hA=>?_) (fun i h st=>?_) fun A i s Q E st hq=>?_
   ·rcases sz with rfl | rfl
    ·exact Walks.strAscii hA _ z t
    ·exact Walks.strWide hA _ z t
   ·obtain ⟨o,e,c,d⟩:=st;exact ⟨o,e,fun v z=>by rw [d] at z;cases z⟩
   ·rcases sz with rfl | rfl
    ·exact wpAny_pyIter_striter_ascii st hq
    ·exact wpAny_pyIter_striter_wide st hq
  ·rw [Ib.mp hb];exact I1.zM (Ia _) hn
 cases ha:z.cps.all (· < 128)
 ·exact wpAny_pyIter_wide ha (key _ (.inr rfl))
 ·exact wpAny_pyIter_ascii ha (key _ (.inl rfl))
section
variable {X:Cx}
theorem sv:OpR X (compareOp .LtE) (fun x y H Q=>∃ i j,x=.str i/\y=.str j/\Q (.bl (!(decide (j.cps.toList < i.cps.toList)))) H):=by
 intro pins s σ H x y v u Q I rx ry h;obtain ⟨i,j,rfl,rfl,q⟩:=h;obtain ⟨t,rfl⟩:=rx;obtain ⟨t',rfl⟩:=ry;exact P.le_str ⟨.bl _,H,I,rfl,q⟩
theorem OpR.or' {f:Value->Value->Sem Value} {r r':R2} (h:OpR X f r) (h':OpR X f r'):OpR X f (fun x y H Q=>r x y H Q\/r' x y H Q):=by
 intro pins s σ H x y v u Q I rx ry q;rcases q with q | q
 ·exact h pins s σ H x y v u Q I rx ry q
 ·exact h' pins s σ H x y v u Q I rx ry q
theorem vO:OpR X (binaryOp .FloorDiv) (rI (fun _ j=>0 < j/\j.natAbs.log2 < 9000) fun i j=>.int (i / j)):=opI fun i j _ _ _ _ _ hc q=>by
 have h1:(0:Int) < j:=hc.1;exact floordiv_int (by omega) (by rw [Int.fdiv_eq_ediv_of_nonneg i (by omega)];exact q) (.inl (PyProof.noPylong_of_log2 hc.2))
theorem qP (hc:X.calm=true):aP X (.builtin "all") (fun xs H Q=>∃ (a:Addr) (bs:List Bool),xs=[.ref a]/\SqL X.K H a (bs.map V.bl)/\Q (.bl (bs.all id)) H):=by
 intro pins s σ H xs us Q I r h;obtain ⟨a,bs,rfl,hq,q⟩:=h;obtain ⟨u,rfl,r1⟩:=vals1 r;cases (show u=Value.ref a from r1);obtain ⟨its,rv,p,hz⟩:=I.list hq;have ha:a < s.heap.objs.size:=by
  obtain ⟨o,e,_⟩:=p.isList;exact Im e
 refine call_all_walk (Kw p.isList ?_);refine ⟨s.heap.objs.size,_,_,_,_,_,fun i=>(bs[i]?).getD true,rfl,Walks.list (show X.A.in1.handled=none from I.ok.hd hc) s.heap.objs.size a (IC ha) its.toArray,⟨⟨_,Iq _ rfl,rfl,rfl⟩,p.isList.push _⟩,?_,?_⟩
 ·intro i v s' Q' E' hv hQ;have hv':its[i]?=some v:=by simpa using hv
  have hi:i < its.length:=(HX.mp hv').1;have hb:i < bs.length:=by have:=rv.length;rw [HS] at this;omega
  obtain ⟨u,hu,ru⟩:=rv.get (i:=i) (x:=.bl bs[i]) (by rw [H9,HZ hb];rfl);rw [hv'] at hu;cases hu;cases (show v=Value.bool bs[i] from ru);dsimp only at hQ;rw [HZ hb] at hQ;exact Jf hQ
 ·intro h' tk kk;have e:(List.range its.toArray.size).all (fun i=>(bs[i]?).getD true)=bs.all id:=by
   have hl:its.toArray.size=bs.length:=by rw [Iw,<-rv.length,HS]
   rw [hl,Jw,Je,Je];constructor
   ·intro h b hb;obtain ⟨i,hi,e⟩:=List.mem_iff_getElem.mp hb;have:=h i (List.mem_range.mpr hi);rw [HZ hi,e] at this;exact this
   ·intro h i hi;rw [HZ (List.mem_range.mp hi)];exact h _ (List.getElem_mem _)
  rw [e];have I1:Inv X pins σ H { s with heap:=s.heap.push { cls:=.type "list_iterator", data:=.fields #[.ref a,rawInt 0] },toks:=s.toks }:=I.kept fun b o e=>H0 _ e;have hn:H s.heap.objs.size=none:=I.hok.fresh (Ia _)
  have I2:Inv X pins σ H { s with heap:=h',toks:=tk }:=I.kept fun b o e=>kk b o (by
   intro z;have:=Ib.mp z;rw [this] at e
   exact absurd (Im e) (IG _)) (H0 _ e)
  exact ⟨.bl _,H,I2,rfl,q⟩
noncomputable def lF (x:Str) (lo hi:Option Int):Str:=⟨((x.cps.toList.drop (HT.sIx x.length 0 lo)).take (HT.sIx x.length x.length hi - HT.sIx x.length 0 lo)).toArray⟩
theorem Ey (lo hi:Option Int) (n:Nat):Builtin.Str.strSliceIndices lo hi 1 n=(List.range (HT.sIx n n hi - HT.sIx n 0 lo)).map (HT.sIx n 0 lo+·):=by
 rw [<- sliceRange_one];unfold Builtin.Str.strSliceIndices;dsimp only;have h1:(1:Int) > 0:=by decide
 have e0:(match lo with | none=>(if (1:Int) > 0 then 0 else (n:Int) - 1) | some i=>if (1:Int) > 0 then max 0 (min (if i < 0 then i+(n:Int) else i) (n:Int)) else max (-1) (min (if i < 0 then i+(n:Int) else i) ((n:Int) - 1)))=((HT.sIx n 0 lo:Nat):Int):=by
  cases lo with
  | none=>simp [HT.sIx]
  | some i =>
   simp only [HT.sIx,h1,Kr];by_cases h:i < 0
   ·simp only [h,Kr] <;> omega
   ·simp only [h,JM] <;> omega
 have e1:(match hi with | none=>(if (1:Int) > 0 then (n:Int) else -1) | some i=>if (1:Int) > 0 then max 0 (min (if i < 0 then i+(n:Int) else i) (n:Int)) else max (-1) (min (if i < 0 then i+(n:Int) else i) ((n:Int) - 1)))=((HT.sIx n n hi:Nat):Int):=by
  cases hi with
  | none=>simp [HT.sIx]
  | some i =>
   simp only [HT.sIx,h1,Kr];by_cases h:i < 0
   ·simp only [h,Kr] <;> omega
   ·simp only [h,JM] <;> omega
 rw [<- e0,<-e1];cases lo <;> cases hi <;> rfl
theorem pb (n:Nat) (v:Option Int):HT.sIx n n v<=n/\HT.sIx n 0 v<=n:=by
 cases v with
 | none=>simp [HT.sIx]
 | some i =>
  simp only [HT.sIx];split <;> omega
def Gj:V->Option Int->Option Int->Hp->VK->Prop:=fun x lo hi H Q=>∃ z,x=.str z/\z.length<=sizeLine/\Q (.str (lF z lo hi)) H
theorem cj (x:Str) (lo hi:Option Int):(lF x lo hi).length<=x.length:=by
 have e:x.cps.toList.length=x.length:=by simp [Str.length]
 show (((x.cps.toList.drop _).take _).toArray).size<=x.length;rw [Iw,IE,IH,e];omega
theorem cz:SlR X Gj:=by
 intro pins s σ H x v vl vu lo hi sl Q I rx hs pl pu h;obtain ⟨z,rfl,hz,q⟩:=h;obtain ⟨t,rfl⟩:=rx;refine ⟨"str", _,F.slot_str_getitem.lookup,typeIs_str _ _ _,?_⟩;obtain ⟨l,el,el'⟩:∃ l:Option (Int×Tok),l.map (·.1)=lo/\vl=partValue l:=by
  cases pl with
  | none=>exact ⟨none,rfl,rfl⟩
  | int i t=>exact ⟨some (i,t),rfl,rfl⟩
 obtain ⟨u,eu,eu'⟩:∃ l:Option (Int×Tok),l.map (·.1)=hi/\vu=partValue l:=by
  cases pu with
  | none=>exact ⟨none,rfl,rfl⟩
  | int i t=>exact ⟨some (i,t),rfl,rfl⟩
 subst el' eu';obtain ⟨o,h1,h2,h3⟩:=hs;refine wpAny_getItem_str_slice (l:=l) (u:=u) (st:=none) ⟨o,h1,h2,h3⟩ rfl ?_;have pk:slicePicked z l u none=(List.range (HT.sIx z.length z.length hi - HT.sIx z.length 0 lo)).map (HT.sIx z.length 0 lo+·):=by
  rw [<- Ey,<-el,<-eu];rfl
 have ez:z.cps.toList.length=z.length:=by simp [Str.length]
 have cut:(⟨((slicePicked z l u none).filterMap (z.cps[·]?)).toArray⟩:Str)=lF z lo hi:=by
  rw [pk,pick_run];rfl
 unfold sliceMade;split
 ·rename_i hc;have hl:(slicePicked z l u none).length=z.length:=by
   have:=(Bool.and_eq_true_iff.mp hc).2;simpa using this
  rw [pk,HS,Jz] at hl;have b1:=pb z.length hi;have b2:=pb z.length lo;have h0:HT.sIx z.length 0 lo=0\/z.length=0:=by omega
  have e:lF z lo hi=z:=by
   unfold lF;rcases h0 with h0 | h0
   ·rw [h0,List.drop_zero,Jo (by omega)]
   ·have hn:z.cps.toList=[]:=List.eq_nil_of_length_eq_zero (by omega);rw [hn];have:z.cps=#[]:=by
     have:=congrArg List.toArray hn;simpa using this
    obtain ⟨c⟩:=z;simp only at this;subst this;simp
  rw [e] at q;exact ⟨.str z,H,I,⟨t,rfl⟩,q⟩
 ·rw [cut];exact ⟨Iy (cj _ _ _) hz,⟨.str _,H,I.tok _,⟨_,rfl⟩,q⟩⟩
end
mutual
def Dn (p:Addr) (H:Hp):PyData->V->Prop
 | .none,v=>v=.non
 | .bool b,v=>v=.bl b
 | .int i,v=>v=.int i
 | .str x,v=>v=.str x
 | .list ds,v=>∃ a xs,v=.ref a/\a≠p/\H a=some (.lst xs)/\DnL p H ds xs
 | .tuple ds,v=>∃ a xs,v=.ref a/\a≠p/\H a=some (.tup xs)/\DnL p H ds xs
 | .dict kvs,v=>kvs=[]/\∃ a,v=.ref a/\a≠p/\H a=some (.dK [])
def DnL (p:Addr) (H:Hp):List PyData->List V->Prop
 | [],vs=>vs=[]
 | d :: ds,vs=>∃ v r,vs=v :: r/\Dn p H d v/\DnL p H ds r
end
open PySem PySem.Spec PyProof.Rows
def rOr (r r':R2):R2:=fun x y H Q=>r x y H Q\/r' x y H Q
def E6 (r r':V->Option Int->Option Int->Hp->VK->Prop):V->Option Int->Option Int->Hp->VK->Prop:=fun x l u H Q=>r x l u H Q\/r' x l u H Q
def AG:R2:=fun x y H Q=>∃ i j,x=.str i/\y=.str j/\i.length+j.length<=sizeLine/\Q (.str (i++j)) H
def GO:R2:=fun x y H Q=>∃ i j,x=.str i/\y=.str j/\Q (.bl (decide (i.cps.toList < j.cps.toList))) H
def GK:R2:=fun x y H Q=>∃ i j,x=.str i/\y=.str j/\Q (.bl (!(decide (j.cps.toList < i.cps.toList)))) H
def Hg:R2:=fun x y H Q=>∃ i j,x=.str i/\y=.str j/\Q (.bl (!(Builtin.Str.occurrences j i 0 j.length 1).isEmpty)) H
def zp:R2:=fun x y H Q=>∃ i j,x=.str i/\y=.str j/\Q (.bl (!(!(Builtin.Str.occurrences j i 0 j.length 1).isEmpty))) H
def Gw (K:Fg):List V->Hp->VK->Prop:=fun xs H Q=>∃ (a:Addr) (bs:List Bool),xs=[.ref a]/\SqL K H a (bs.map V.bl)/\Q (.bl (bs.all id)) H
def Cy (K:Fg):List V->Hp->VK->Prop:=fun xs H Q=>∃ x n,xs=[x]/\GN K x H n/\Q (.int n) H
def EV:List V->Hp->VK->Prop:=fun xs H Q=>∃ i,xs=[.int i]/\Q (.int (if i < 0 then -i else i)) H
section
variable {X:Cx}
theorem orR {f:Value->Value->Sem Value} {r r':R2} (h:OpR X f r) (h':OpR X f r'):OpR X f (rOr r r'):=OpR.or' h h'
theorem orS {r r':V->Option Int->Option Int->Hp->VK->Prop} (h:SlR X r) (h':SlR X r'):SlR X (E6 r r'):=SlR.or h h'
theorem yH:OpR X (binaryOp .Add) AG:=qB
theorem BZ:OpR X (compareOp .Lt) GO:=ud
theorem CB:OpR X (compareOp .LtE) GK:=sv
theorem B7:OpR X (compareOp .In) Hg:=sx
theorem uF:OpR X (compareOp .NotIn) zp:=lR
theorem ur (hc:X.calm=true):aP X (.builtin "all") (Gw X.K):=qP hc
theorem sG:aP X (.builtin "len") (Cy X.K):=vS
theorem sy:aP X (.builtin "abs") EV:=vz
end
end L2
namespace L2
open PySem
noncomputable def pM (sc scope:Scope) (x:Str):Bool :=
 (scope.kind==.function)&&scope.names.all (fun y=>y.2 != .cell)&&scope.names.all (fun y=>y.2 != .local||scope.names.lookup y.1==some .local)&&(scope.names.lookup x==some .local)&&scope.names.all (fun y=>y.2 != .free||sc.names.lookup y.1==some .cell)
theorem bsc {X:Cx} {sc scope:Scope} {x:Str} (e:X.env.scope=sc) (h:pM sc scope x=true):iA X scope x:=by
 unfold pM at h;simp only [ID,Je,Kq,bne_iff_ne,beq_iff_eq,ne_eq] at h;obtain ⟨⟨⟨⟨h1,h2⟩,h3⟩,h4⟩,h5⟩:=h;exact ⟨h1,fun y hy=>h2 y hy,fun y hy e=>(h3 y hy).resolve_left fun z=>z e,h4,fun y hy e'=>by rw [e];exact (h5 y hy).resolve_left fun z=>z e'⟩
end L2
namespace L2
open PySem
theorem cu {e:Expr} {es:List Expr} {env:Env} (h:PySem.W.isStarred e=false):starEach (e :: es) env=(false,eval e env) :: starEach es env:=by
 cases e <;> first | rfl | exact absurd h (by simp [PySem.W.isStarred])
theorem eM {pos:Pos} {env:Env}:∀ {es:List Expr},es.all (fun e=>!PySem.W.isStarred e)=true->(backTo pos (starEach es env)).any (·.1)=false
 | [],_=>rfl
 | e :: es,h=>by
  rw [List.all_cons,ID] at h;rw [cu (by simpa using h.1)];have ih:=eM (pos:=pos) (env:=env) h.2;unfold backTo at ih ⊢;rw [List.map_cons,Ki,ih];rfl
structure JE (X:Cx) (e:Expr) (t:TE):Prop where
 h:PE X e t
structure JT (X:Cx) (e:Expr) (t:TT):Prop where
 h:PT X e t
structure JW (X:Cx) (e:Expr) (t:TT):Prop where
 h:PW X e t
structure JA (X:Cx) (es:List Expr) (t:TA):Prop where
 h:PA X es t
structure JS (X:Cx) (s:Stmt) (t:TS):Prop where
 h:PS X s t
structure JSs (X:Cx) (s:List Stmt) (t:TS):Prop where
 h:PSs X s t
structure JG (X:Cx) (e:Expr) (t:TG):Prop where
 h:PG X e t
structure JI (X:Cx) (tg e:Expr) (t:TI):Prop where
 h:PI X tg e t
structure JO (X:Cx) (e:Option Expr) (t:TO):Prop where
 h:PO X e t
structure JC (X:Cx) (N:List Str) (scope:Scope) (e:Expr) (t:TE):Prop where
 h:∀ C s3 H3 ex,PE (cxB X N scope C s3 H3 ex) e t
structure JTs (X:Cx) (N:List Str) (scope:Scope) (e:List Expr) (t:TT):Prop where
 h:∀ C s3 H3 ex,PTs (cxB X N scope C s3 H3 ex) e t
structure JP (X:Cx) (pos:Pos) (ks:List (Option Expr)) (vs:List Expr) (t:List (TE×TE)):Prop where
 h:PPs X pos ks vs t
section
variable {X:Cx} {e a b c:Expr} {es rest:List Expr} {te ta tb tc:TE} {tA tB':TT} {t:TA} {x:Str} {p pos:Pos} {id T:String} {r:List V->Hp->VK->Prop} {CX:CXT} {k:Nat} {f:Addr} {fd:FuncData} {ps:List Str} {sp:Sp} {ds:List Value} {dvs:List V} {E:XK}
theorem Gv (i:Nat) (hN:X.N[i]?=some x) (hv:Vis X.env.scope x) (hd:(x==("__debug__" : Str))=false) (hcd:(x==("__classdict__" : Str))=false):JE X (.Name x pos) (qO i):=⟨wm hN hv hd hcd⟩
theorem af {i j}:JE X (.Constant (.int i) j pos) (tC (.int i)):=⟨By⟩
theorem eBl {b j}:JE X (.Constant (.bool b) j pos) (tC (.bl b)):=⟨E9⟩
theorem fF {j}:JE X (.Constant .none j pos) (tC .non):=⟨AF⟩
theorem a6 {x j}:JE X (.Constant (.str x) j pos) (tC (.str x)):=⟨BG⟩
theorem ae:JA X [] uJ:=⟨Av⟩
theorem eA (ha:JE X e te) (hr:JA X es t) (h:PySem.W.isStarred e=false):JA X (e :: es) (jP te t):=⟨xP ha.h hr.h (cu h)⟩
theorem CI (F:bW X.prog X.w X.K X.mg X.base CX k f fd ps sp) (hr:iU k X.A) (hg:Gl X x) (hm:X.mg x=some (.ref f)) (hk:PySem.W.keepIn X.K (.ref f)=true) (hb:Binds X.K fd ps ds) (hd:Vals dvs ds) (hx:Passes CX X E)
  (ha:JA X (e :: es) t) (h1:PySem.W.isStarred e=false) (h2:es.all (fun e=>!PySem.W.isStarred e)=true) (hdb:(x==("__debug__" : Str))=false):JE X (.Call (.Name x p) (e :: es) [] pos) (rh sp dvs E t) :=
 ⟨yo F hr hg hm hk hb hd hx ha.h hdb (cu h1) (eM h2)⟩
theorem eB (hc:aP X (.builtin id) r) (hg:Gl X x) (hm:X.mg x=none) (hv:bootBuiltins x=some (.builtin id)) (ha:JA X (e :: es) t) (h1:PySem.W.isStarred e=false) (h2:es.all (fun e=>!PySem.W.isStarred e)=true)
  (hn:x ≠ "__name__") (hdb:(x==("__debug__" : Str))=false):JE X (.Call (.Name x p) (e :: es) [] pos) (tCB r t):=⟨vQ hc hg hm hv ha.h hn hdb (cu h1) (eM h2)⟩
theorem eTy (hc:aP X (.type T) r) (hg:Gl X x) (hm:X.mg x=none) (hv:bootBuiltins x=some (.type T)) (ha:JA X (e :: es) t) (h1:PySem.W.isStarred e=false) (h2:es.all (fun e=>!PySem.W.isStarred e)=true)
  (hn:x ≠ "__name__") (hdb:(x==("__debug__" : Str))=false):JE X (.Call (.Name x p) (e :: es) [] pos) (tCB r t):=⟨tG hc hg hm hv ha.h hn hdb (cu h1) (eM h2)⟩
theorem eR1 {tg a:Expr} {ta:TA} (hg:Gl X "range") (hm:X.mg "range" = none) (ha:JA X [a] ta) (h:PySem.W.isStarred a=false):JI X tg (.Call (.Name "range" p) [a] [] pos) (zk ta):=⟨rC hg hm ha.h (cu h)⟩
theorem eIL {tg:Expr} (h:JE X e te):JI X tg e (vJ X.K te):=⟨yI h.h⟩
theorem eIT {tg:Expr} (h:JE X e te):JI X tg e (Dq X.K te):=⟨AW h.h⟩
theorem eIS {y:Str} {py:Pos} (h:JE X e te):JI X (.Name y py) e (DN te):=⟨CT h.h⟩
theorem xE {v:V} {u:Value} (hg:Gl X x) (hm:X.mg x=some u) (r:RelV v u) (hd:(x==("__debug__" : Str))=false):JE X (.Name x pos) (tC v):=⟨zy hg hm r hd⟩
theorem Hr {v:V} {u:Value} (hg:Gl X x) (hm:X.mg x=none) (hv:bootBuiltins x=some u) (r:RelV v u) (hn:x ≠ "__name__") (hd:(x==("__debug__" : Str))=false):JE X (.Name x pos) (tC v):=⟨yk hg hm hv r hn hd⟩
theorem eOp {op:Operator} {r:R2} (ho:OpR X (binaryOp op) r) (ha:JE X a ta) (hb:JE X b tb):JE X (.BinOp a op b pos) (tOp r ta tb):=⟨FG ho ha.h hb.h⟩
theorem eUn {op:UnaryOp} {r:V->Hp->VK->Prop} (ho:UnR X (unaryOp op) r) (ha:JE X a ta):JE X (.UnaryOp op a pos) (tUn r ta):=⟨D0 ho ha.h⟩
theorem Hj (ha:JE X a ta):JE X (.UnaryOp .Not a pos) (xK ta):=⟨Cz ha.h⟩
theorem qM {op} (h:JE X a te):JE X (.BoolOp op [a] pos) te:=⟨Bz h.h⟩
theorem xT (ha:JE X a ta) (hb:JE X (.BoolOp .And (b :: rest) pos) tb):JE X (.BoolOp .And (a :: b :: rest) pos) (xt ta tb):=⟨Ad ha.h hb.h⟩
theorem eOr (ha:JE X a ta) (hb:JE X (.BoolOp .Or (b :: rest) pos) tb):JE X (.BoolOp .Or (a :: b :: rest) pos) (DG ta tb):=⟨Ek ha.h hb.h⟩
theorem eIf (hc:JT X c tA) (ha:JE X a ta) (hb:JE X b tb):JE X (.IfExp c a b pos) (tIf tA ta tb):=⟨u9 hc.h ha.h hb.h⟩
theorem kb {op:CmpOp} {r:R2} (ho:OpR X (compareOp op) r) (ha:JE X a ta) (hb:JE X b tb) (hm:behindInMarks op b=false):JE X (.Compare a [op] [b] pos) (tOp r ta tb):=⟨yO ho ha.h hb.h hm⟩
theorem gq {op:CmpOp} {r:R2} (ho:OpR X (compareOp op) r) (ha:JE X a ta) (hb:JE X b tb) (hm:behindInMarks op b=false):JT X (.Compare a [op] [b] pos) (xF (tOp r ta tb)):=⟨xB ho ha.h hb.h hm⟩
theorem GS (h:JE X e te) (he:∀ whole,isTrue e X.env whole=(do let v<-whole;standAt e.pos;holding [v] (truthy v))):JT X e (tB te):=⟨BC h.h he⟩
theorem iH (ha:JT X a tA):JT X (.UnaryOp .Not a pos) (D4 tA):=⟨Bv ha.h⟩
theorem ip (ha:JT X a tA):JW X (.BoolOp .And [a] pos) tA:=⟨pw_and1 ha.h⟩
theorem fj (ha:JT X a tA):JW X (.BoolOp .Or [a] pos) tA:=⟨pw_or1 ha.h⟩
theorem lO (ha:JT X a tA) (hb:JW X (.BoolOp .And (b :: rest) pos) tB'):JW X (.BoolOp .And (a :: b :: rest) pos) (Fj tA tB'):=⟨pw_and ha.h hb.h⟩
theorem ny (ha:JT X a tA) (hb:JW X (.BoolOp .Or (b :: rest) pos) tB'):JW X (.BoolOp .Or (a :: b :: rest) pos) (tOr tA tB'):=⟨pw_or ha.h hb.h⟩
theorem eW (h:JW X e tA):JT X e tA:=⟨PW.pt h.h⟩
theorem bK {x1} (h:JA X es t):JE X (.Tuple es x1 pos) (Ex t):=⟨BM h.h⟩
theorem cv (h:JA X es t):JE X (.List es pos) (DZ t):=⟨BH h.h⟩
theorem eIx {r:R2} (hr:IxR X r) (ha:JE X a ta) (hb:JE X b tb) (hs:oh b):JE X (.Subscript a b pos) (tOp r ta tb):=⟨ED hr ha.h hb.h hs⟩
theorem oJ:JO X none sW:=⟨yc⟩
theorem eP (h:JE X e te):JO X (some e) (Ab te):=⟨xW h.h⟩
theorem eSl {p2:Pos} {lo hi:Option Expr} {tl th:TO} {r:V->Option Int->Option Int->Hp->VK->Prop} (hr:SlR X r) (he:JE X e te) (hl:JO X lo tl) (hu:JO X hi th):JE X (.Subscript e (.Slice lo hi none p2) pos) (tSl r te tl th):=⟨vT hr he.h hl.h hu.h⟩
theorem ePN:JP X pos [] [] []:=⟨xM⟩
theorem ePC {k v:Expr} {ks:List (Option Expr)} {vs:List Expr} {tk tv:TE} {trs:List (TE×TE)} (hk:JE X k tk) (hv:JE X v tv) (hr:JP X pos ks vs trs):JP X pos (some k :: ks) (v :: vs) ((tk,tv) :: trs):=⟨u5 hk.h hv.h hr.h⟩
theorem Gz {i:Nat} {pos':Pos} (he:JE X e te) (hN:X.N.Nodup) (hi:X.N[i]?=some x) (hx:Loc X.env.scope x) (hs:swapsWith e (some (.Name x pos')) pos.line X.env=pure false) (hf:X.fn x=true\/X.env.scope.names.lookup x=some .local) :
  JS X (.Assign [.Name x pos'] e pos) (qd te (cy i)):=⟨BP hN hi hx he.h hs hf⟩
theorem C3 {tg:Expr} {g:TG} (he:JE X e te) (hg:JG X tg g) (hs:swapsWithSole [tg] e pos.line X.env=pure false) (hw:swappedStores [tg] e X.env=pure none) (h1:(assignEach [tg] X.env).map (·.2)=[assign tg X.env]):JS X (.Assign [tg] e pos) (qd te g):=⟨Ax he.h hg.h hs hw h1⟩
theorem HH {iter tg:Expr} {body:List Stmt} {wi:TI} {g:TG} {tb:TS} (hi:JI X tg iter wi) (hg:JG X tg g) (hb:JSs X body tb) (hp:PassesOwn (model X.prog X.w) X.A X.env X.xe) (hc:X.calm=true) (hs:∀ x,foldedSetIterable iter X.env x=pure x):JS X (.For tg iter body [] pos) (B0 wi g tb):=⟨zY hp hc hi.h hg.h hb.h hs⟩
theorem xj {c:Expr} {body:List Stmt} {tc:TT} {tb:TS} (hc:JT X c tc) (hb:JSs X body tb) (hp:PassesOwn (model X.prog X.w) X.A X.env X.xe):JS X (.While c body [] pos) (sd tc tb):=⟨uV hp hc.h hb.h⟩
theorem bP {a b:List Stmt} {tc:TT} {t u:TS} (hc:JT X c tc) (ha:JSs X a t) (hb:JSs X b u):JS X (.If c a b pos) (DL tc t u):=⟨D2 hc.h ha.h hb.h⟩
theorem aX (he:JE X e te):JS X (.Return (some e) pos) (DV te):=⟨CN he.h⟩
theorem eGN {i:Nat} (hN:X.N.Nodup) (hi:X.N[i]?=some x) (hx:Loc X.env.scope x) (hf:X.fn x=true\/X.env.scope.names.lookup x=some .local):JG X (.Name x pos) (cy i):=⟨jb hN hi hx hf⟩
theorem rM (he:JE X e te) (hs:swapsWith e none pos.line X.env=pure false):JS X (.Expr e pos) (zd te):=⟨xw he.h hs⟩
theorem bS:JSs X [] yx:=⟨xy⟩
theorem aA {s:Stmt} {t:TS} (h:JS X s t):JSs X [s] t:=⟨zf h.h⟩
theorem ao {s:Stmt} {rest:List Stmt} {t u:TS} (h:JS X s t) (hr:JSs X rest u):JSs X (s :: rest) (Cs t u):=⟨vf h.h hr.h⟩
theorem Eu {elt iter:Expr} {px:Pos} {ifs:List Expr} {scope:Scope} {wi:TI} {tt:TT} {js:List Nat} (ys:List Str) (hi:JI X (.Name x px) iter wi) (ht:JTs X (x :: ys) scope ifs tt) (he:JC X (x :: ys) scope elt te)
  (hc:X.calm=true) (B:iA X scope x) (nd:(x :: ys).Nodup) (cap:d6 X scope ys js) (hs:∀ x,foldedSetIterable iter X.env x=pure x):JE X (.ListComp elt [⟨.Name x px,iter,ifs,0⟩] scope pos) (qw js wi tt te):=⟨xQ hc hi.h B nd cap ht.h he.h hs⟩
theorem sU {elt iter:Expr} {y:Str} {px py spos:Pos} {ifs:List Expr} {scope:Scope} {wi:TI} {tt:TT} {js:List Nat} {i:Nat} (ys:List Str) (hi:JI X (.Name x px) iter wi) (ht:JTs X (x :: ys) scope ifs tt) (he:JC X (x :: ys) scope elt te)
  (hN:X.N.Nodup) (hi':X.N[i]?=some y) (hy:X.env.scope.names.lookup y=some .local) (hsw:swapsWith (.ListComp elt [⟨.Name x px,iter,ifs,0⟩] scope pos) (some (.Name y py)) spos.line X.env=pure true)
  (hc:X.calm=true) (B:iA X scope x) (nd:(x :: ys).Nodup) (cap:d6 X scope ys js) (hs:∀ x,foldedSetIterable iter X.env x=pure x):JS X (.Assign [.Name y py] (.ListComp elt [⟨.Name x px,iter,ifs,0⟩] scope pos) spos) (qd (qw js wi tt te) (cy i)):=⟨zo hN hi' hy hsw hc hi.h B nd cap ht.h he.h hs⟩
theorem eC {N:List Str} {scope:Scope} (h:∀ C s3 H3 ex,JE (cxB X N scope C s3 H3 ex) e te):JC X N scope e te:=⟨fun C s3 H3 ex=>(h C s3 H3 ex).h⟩
theorem eT0 {N:List Str} {scope:Scope}:JTs X N scope [] FZ:=⟨fun _ _ _ _=>yu⟩
theorem eT1 {N:List Str} {scope:Scope} (h:∀ C s3 H3 ex,JT (cxB X N scope C s3 H3 ex) e tA):JTs X N scope [e] tA:=⟨fun C s3 H3 ex=>xX (h C s3 H3 ex).h⟩
theorem eBM {apos cpos:Pos} {o:Expr} {name:Str} {to:TE} {r:V->List V->Hp->VK->Prop} (ho:JE X o to) (ha:JA X (e :: es) t) (hm:MtR X id r) (pa:PlainAttrs T) (slot:Slot T name id) (hty:typeOf (.builtin id)=pure (.type "method_descriptor"))
  (hbase:attributeBase o name X.env (eval o X.env)=eval o X.env)
  (hfew:((backTo cpos (starEach (e :: es) X.env)).all (fun x=>!x.1)&&(backToKw cpos (keywordEach [] X.env)).all (fun x=>x.1.isSome)
   && decide ((e :: es).length+([]:List Keyword).length+(if ([]:List Keyword).isEmpty then 0 else 1) < 30))=true)
  (hline:(apos.endLine==cpos.line)=true) (h1:PySem.W.isStarred e=false) (h2:es.all (fun e=>!PySem.W.isStarred e)=true):JE X (.Call (.Attribute o name apos) (e :: es) [] cpos) (tBM X.K T r to t):=⟨Fm pa slot hty hm ho.h ha.h hbase hfew hline (cu h1) (eM h2)⟩
end
open PySem.Spec PyProof.Rows
noncomputable def tyN:PyData->String
 | .none => "NoneType" | .bool _ => "bool" | .int _ => "int" | .str _ => "str" | .list _ => "list" | .tuple _ => "tuple" | .dict _ => "dict"
noncomputable def isS:PyData->Bool | .str _=>true | _=>false
noncomputable def isI:PyData->Bool | .int _=>true | .bool _=>true | _=>false
noncomputable def isB:PyData->Bool | .bool _=>true | _=>false
noncomputable def isT:PyData->Bool | .tuple _=>true | _=>false
noncomputable def isL:PyData->Bool | .list _=>true | _=>false
section
variable {K:Fg}
theorem Ft (d:PyData):PySem.W.kitOne K (.type (tyN d)) (.type "str")=some (isS d):=by cases d <;> with_unfolding_all rfl
theorem EA (d:PyData):PySem.W.kitOne K (.type (tyN d)) (.type "int")=some (isI d):=by cases d <;> with_unfolding_all rfl
theorem Ej (d:PyData):PySem.W.kitOne K (.type (tyN d)) (.type "bool")=some (isB d):=by cases d <;> with_unfolding_all rfl
theorem DO (d:PyData):PySem.W.kitOne K (.type (tyN d)) (.type "tuple")=some (isT d):=by cases d <;> with_unfolding_all rfl
theorem EF (d:PyData):PySem.W.kitOne K (.type (tyN d)) (.type "list")=some (isL d):=by cases d <;> with_unfolding_all rfl
variable {p:Addr} {H:Hp} {d:PyData} {v:V} {Q:VK}
end
theorem Fd {b:Bool} {A B:Prop} (e:b=true) (h:A):if b=true then A else B:=by rw [Io e];exact h
theorem DU {b:Bool} {A B:Prop} (e:b=false) (h:B):if b=true then A else B:=by rw [Iv (by rw [e];exact I0)];exact h
theorem a9 {b:Bool} {A B:Prop} (h1:b=true->A) (h2:b=false->B):if b=true then A else B:=by
 cases b with
 | true=>rw [Io rfl];exact h1 rfl
 | false=>rw [Iv I0];exact h2 rfl
section
variable {r r':R2} {x y:V} {H:Hp} {Q:VK}
theorem Cg {K:Fg} {z:Str} (l:z.length<=sizeLine) (h:Q (.int z.length) H):Cy K [.str z] H Q:=⟨_,_,rfl,⟨l,rfl⟩,h⟩
theorem BK {K:Fg} {p:Addr} {xs:List V} (s:SqL K H p xs) (h:Q (.int xs.length) H):Cy K [.ref p] H Q:=⟨_,_,rfl,.inl ⟨xs,s,rfl⟩,h⟩
theorem B9 {K:Fg} {p:Addr} {xs:List V} (s:SqT K H p xs) (h:Q (.int xs.length) H):Cy K [.ref p] H Q:=⟨_,_,rfl,.inr ⟨xs,s,rfl⟩,h⟩
theorem EU {i:Int} (h:Q (.int (if i < 0 then -i else i)) H):EV [.int i] H Q:=⟨i,rfl,h⟩
end
theorem Fun.okJ {P:Program} {w:World} {K:Fg} {mg:Str->Option Value} {base:Heap} {x qual:Str} {st:Stmt} {f:Addr} {fd:FuncData} {N ps:List Str} {k:Nat} {sp:Sp} (F:Fun K x qual st f fd) (S:ag N ps (aa st)) (len:∀ vs H Q E,sp vs H Q E->vs.length=ps.length)
  (hbody:∀ (cdv:Value) (A:Around) (outer:List Env) (s:Shared) (H:Hp) (vs:List V) (Q:VK) (E:XK),iU k (A.deeper (envOfC qual (aa st) s.heap.objs.size f cdv))->sp vs H Q E ->
   ∃ t,JSs (vy CX0 P w K mg base N qual (aa st) f cdv A outer s H E).nox (dg st) t/\t { nx:=fun _ H'=>Q .non H',rt:=Q } (start N vs) H):bW P w K mg base CX0 (k+1) f fd ps sp :=
 F.ok S len fun cdv A outer s H vs Q E hr h=>let ⟨t,j,q⟩:=hbody cdv A outer s H vs Q E hr h;⟨t,j.h,q⟩
theorem gJ:∀ {ss:List Str} {us:List Value},Vals (ss.map V.str) us->StrsAre us ss
 | [],_,r=>by cases r;exact .nil
 | s :: ss,_,r=>by
  cases r with
  | cons r1 r2 =>
   obtain ⟨t,rfl⟩:=r1;exact .cons _ _ (gJ r2)
theorem n4:∀ {ss:List Str} {us:List Value},StrsAre us ss->Vals (ss.map V.str) us
 | [],_,r=>by cases r;exact .nil
 | s :: ss,_,r=>by
  cases r with
  | cons _ _ r2=>exact .cons ⟨_,rfl⟩ (n4 r2)
section
variable {X:Cx}
def v9 (K:Fg):List V->Hp->VK->Prop:=fun xs H Q=>∃ (a:Addr) (ss:List Str),xs=[.ref a]/\SqL K H a (ss.map V.str)/\ss.length < 64/\∀ p ss',H p=none->ss'.Perm ss->sortedS ss'=true->Q (.ref p) (upd H p (.lst (ss'.map V.str)))
theorem nk:aP X (.builtin "sorted") (v9 X.K):=by
 intro pins s σ H xs us Q I r h;obtain ⟨a,ss,rfl,hq,h64,q⟩:=h;obtain ⟨u,rfl,r1⟩:=vals1 r;cases (show u=Value.ref a from r1);obtain ⟨its,rv,p,hz⟩:=I.list hq;have hS:=gJ rv;have hl:its.length=ss.length:=by rw [<- rv.length,HS]
 refine sorted_strs p.isList hS (by omega) fun out ss' h1 h2 h3=>?_;obtain ⟨e,he⟩:=sortedAll_at s.heap its out;have hn:H (s.heap.objs.size+1)=none:=I.hok.fresh (Ka _);have hl':ss'.length<=sizeLine:=by rw [h2.length_eq];exact Iy (Kc h64) (by decide)
 refine ⟨.ref (s.heap.objs.size+1),_,I.laid (t':=s.toks) (o:=.lst (ss'.map V.str)) (fun b o hb=>sortedAll_old hb) (Ka _) ?_,rfl,q _ ss' hn h2 h3⟩;exact ⟨by rw [HS];exact hl',out.toList,e,n4 h1,by rw [Km];exact he⟩
def Ce (K:Fg):List V->Hp->VK->Prop:=fun xs H Q=>∃ p ys,xs=[.ref p]/\(SqL K H p ys\/SqT K H p ys)/\∀ l,H l=none->Q (.ref l) (upd H l (.lst ys))
def xq (K:Fg):List V->Hp->VK->Prop:=fun xs H Q=>∃ p ys,xs=[.ref p]/\((SqL K H p ys/\∀ l,H l=none->Q (.ref l) (upd H l (.tup ys)))\/(SqT K H p ys/\Q (.ref p) H))
def CP:List V->Hp->VK->Prop:=fun xs H Q=>∃ i j,xs=[.int i,.int j]/\Q (.int (if j < i then j else i)) H
def Gr:R2:=fun x y H Q=>y=.non/\Q (.bl (decide (x=.non))) H
def Bm:R2:=fun x y H Q=>y=.non/\Q (.bl (!decide (x=.non))) H
theorem ql:aP X (.type "list") (Ce X.K):=mL
theorem n6:aP X (.type "tuple") (xq X.K):=kQ
theorem qf (hc:X.calm=true):aP X (.builtin "min") CP:=rB hc
theorem yt:OpR X (compareOp .Is) Gr:=Bx
theorem uZ:OpR X (compareOp .IsNot) Bm:=xD
end
structure ja (X:Cx) (scope:Scope) (xs:List Str):Prop where
 kind:scope.kind=.function
 cells:∀ y∈scope.names,y.2≠.cell
 locs:∀ y∈scope.names,y.2=.local->scope.names.lookup y.1=some .local
 free:∀ y∈scope.names,y.2=.free->X.env.scope.names.lookup y.1=some .cell
noncomputable def gQ (xs:List Str):St:=xs.map fun _=>none
theorem qH {X:Cx} {pins:List (Addr×Obj)} {σ:St} {H:Hp} {s3:Shared} {h1:Heap} {tk:Nat} {scope:Scope} {xs ys:List Str} {js:List Nat} {ex:List Addr} (I:Inv X pins σ H s3) (hc:X.calm=true) (B:ja X scope xs) (cap:d6 X scope ys js)
  (hns:h1.Ns s3.heap.objs.size (fun _=>none)) (hk:∀ b o,s3.heap.get? b=some o->h1.get? b=some o)
  (hex:∀ b∈ex,b ∉ frs X.stack/\b < s3.heap.objs.size/\(∀ y c,X.env.cells.lookup y=some c->c≠b)/\X.base.get? b=none) :
  Inv (cxB X (xs++ys) scope s3.heap.objs.size s3 H ex) [] (gQ xs++bw js σ) H { s3 with heap:=h1,toks:=tk }:=by
 have hfree:∀ y∈scope.names,y.2=.free->∃ c,X.env.cells.lookup y.1=some c:=fun y hy hf=>I.ok.has y.1 (.inl (B.free y hy hf));have sub:=lB (env:=X.env) scope.names [] hfree (fun _ _ e=>by simp at e)
 refine ⟨⟨I.ok.mod,B.kind,I.ok.glob,I.ok.blt,Ia _,fun y z c h1 h2=>I.ok.inj y z c (sub _ _ h1) (sub _ _ h2),fun y hy=>?_,fun y c hf _=>?_,fun _=>I.ok.hd hc,I.ok.frames,.inl rfl,fun b hb=>?_,fun b o e=>I.bs b o e,Iy I.ok.bsz I.sz,fun b o e hb=>?_,fun b hb=>(hex b hb).1,I.stack,I.oG⟩,
  rfl,I.bare,Un.kept hk,⟨_,hns,fun i y v e1 e2 e3=>?_⟩,fun y c e=>?_,I.hok.fresh (Ia _),fun y c e=>I.gL y c (sub _ _ e),fun p hp=>absurd (show p∈([]:List (Addr×Obj)) from hp) (by simp),I.hok.kept hk,?_⟩
 ·have hy:(relabel scope X.env).names.lookup y=some .cell\/(relabel scope X.env).names.lookup y=some .free:=hy;rcases hy with hy | hy
  ·rcases a7 _ hy with q | ⟨_,q⟩
   ·exact absurd rfl (B.cells _ q)
   ·exact dH _ _ q
  ·rcases a7 _ hy with q | ⟨q,_⟩
   ·exact dH _ _ q
   ·cases q
 ·exact absurd (show false=true from hf) (by simp)
 ·exact ⟨IC (hex b hb).2.1,fun y c e=>(hex b hb).2.2.1 y c (sub _ _ e)⟩
 ·have e':X.base.get? b=some o:=e;have:=(hex b hb).2.2.2;rw [e'] at this;cases this
 ·have hnl:(gQ xs).length=xs.length:=by unfold gQ;rw [HS]
  by_cases hi:i < xs.length
  ·rw [IL (by rw [hnl];exact hi)] at e2;unfold gQ at e2;rw [H9,HZ hi] at e2;cases e2
  ·have hi':xs.length<=i:=Nat.le_of_not_lt hi;have e1':ys[i - xs.length]?=some y:=by
    have e1:(xs++ys)[i]?=some y:=e1
    rwa [Ii hi'] at e1
   have e2':(bw js σ)[i - xs.length]?=some (some v):=by
    rwa [Ii (by rw [hnl];exact hi'),hnl] at e2
   obtain ⟨j,ej,en,ec,ef⟩:=cap.get e1';have e4:σ[j]?=some (some v):=by
    unfold bw at e2';rw [H9,ej] at e2';simp only [Option.map_some,Option.some.injEq] at e2';cases q:σ[j]? with
    | none=>rw [q] at e2';cases e2'
    | some w=>rw [q] at e2';simp at e2';rw [e2']
   obtain ⟨m,hn,hl⟩:=I.loc;obtain ⟨u,r,l⟩:=hl j y v en e4 (.inr (.inl ec));refine ⟨u,r,.inr ?_⟩;rcases l with ⟨kl,_⟩ | ⟨kc,c,ecl,cell⟩
   ·have kl:X.env.scope.names.lookup y=some .local:=kl;rw [ec] at kl;cases kl
   ·have e3:(relabel scope X.env).names.lookup y=some .local\/(relabel scope X.env).names.lookup y=some .cell\/(relabel scope X.env).names.lookup y=some .free:=e3;refine ⟨?_,?_⟩
    ·rcases e3 with q | q | q
     ·rcases a7 _ q with q | ⟨q,_⟩
      ·have:=B.locs _ q rfl;rw [ef] at this;cases this
      ·cases q
     ·exact .inl q
     ·exact .inr q
    ·have mem:(y,NameKind.free)∈scope.names:=JH ef;obtain ⟨c',ec'⟩:=dH (env:=X.env) scope.names [] mem;have:=sub _ _ ec';rw [ecl] at this;cases this;obtain ⟨o,ho,hd⟩:=cell;exact ⟨c,ec',o,hk _ _ ho,hd⟩
 ·obtain ⟨v,o,ho,hd⟩:=I.cell y c (sub _ _ e);exact ⟨v,o,hk _ _ ho,hd⟩
 ·show (gQ xs++bw js σ).length=(xs++ys).length;rw [HY,HY,cap.len];unfold bw gQ;rw [HS,HS]
def ug (n:List Str) (js:List Nat) (wi:TI) (g:TG) (te:TE):TE:=fun σ H Q=>wi σ H fun J H1=>∃ W:Nat->Nat->St->List V->Hp->Prop,(∃ m,W 0 m (gQ n++bw js σ) [] H1)/\∀ i m σB acc H,W i m σB acc H ->
 (J.stop i H/\acc.length<=sizeLine/\∀ p,H p=none->Q (.ref p) (upd H p (.lst acc)))\/(J.go i H/\acc.length < sizeLine/\∀ x H',J.yld i H x H' ->
  g x σB H' fun σ2 H2=>te σ2 H2 fun y H3=>∃ m',m' < m/\W (i+1) m' σ2 (acc++[y]) H3)
theorem tV {X:Cx} {pins:List (Addr×Obj)} {σ:St} {H:Hp} {s2:Shared} {elt iter:Expr} {es:List Expr} {ek} {tp pos:Pos} {scope:Scope} {g:TG} {te:TE} {xs ys:List Str} {js:List Nat} {it:Addr} {fp:List Addr} {tn:Nat->Heap->Prop} {J:It}
    {Q:VK} {E:Value->Shared->Prop} {RR:Value->Addr->Result->Shared->Prop} (hc:X.calm=true) (B:ja X scope xs) (cap:d6 X scope ys js)
    (hg:∀ C s3 H3 ex,PG (cxB X (xs++ys) scope C s3 H3 ex) (.Tuple es ek tp) g) (he:∀ C s3 H3 ex,PE (cxB X (xs++ys) scope C s3 H3 ex) elt te)
    (I:Inv X pins σ H s2) (T:Turn X.prog X.w X.K (.Tuple es ek tp) J fp it tn) (h0:tn 0 s2.heap) (hf:∀ b∈fp,rW X pins H b)
    (W:Nat->Nat->St->List V->Hp->Prop) (w0:∃ m,W 0 m (gQ xs++bw js σ) [] H)
    (turn:∀ i m σB acc H,W i m σB acc H->(J.stop i H/\acc.length<=sizeLine/\∀ p,H p=none->Q (.ref p) (upd H p (.lst acc)))\/(J.go i H/\acc.length < sizeLine/\∀ x H',J.yld i H x H' ->
      g x σB H' fun σ2 H2=>te σ2 H2 fun y H3=>∃ m',m' < m/\W (i+1) m' σ2 (acc++[y]) H3))
    (hRR:∀ (D C:Addr) (H':Hp) (s':Shared) (m':Str->Option Value),s'.heap.Ns C m'->s2.heap.objs.size<=C->C≠D->H' C=none->Inv X pins σ H' s'->Q (.ref D) H'->RR (.ref D) C (.ok .next) s') :
    wpAny (model X.prog X.w) X.A (newList []) (fun acc s₃=>wpAny (model X.prog X.w) X.A (newFunctionEnv scope X.env.globals (lG X.env scope.names []) [] X.env.qual none .none (some X.env)) (fun cenv s₄ =>
      codeAny (model X.prog X.w) X.A (.compStart (.ListComp elt [⟨.Tuple es ek tp,iter,[],0⟩] scope pos) 0 (.ref it) acc { cenv with scope:=relabel scope X.env }) (RR acc cenv.locals) s₄) E s₃) E s2:=by
  refine IU (wpAny_newFunctionEnv B.cells (by intro y hy;simp at hy) (fun h1 hns hsb=>?_) B.kind);dsimp only at hns hsb ⊢;have hD:H s2.heap.objs.size=none:=I.hok.fresh (Ia _);generalize hH2:s2.heap.push { cls:=.type "list", dict:=none,data:=.seq ([]:List Value).toArray }=P2 at hns hsb ⊢;have hgetD:P2.get? s2.heap.objs.size=some { cls:=.type "list", dict:=none,data:=.seq ([]:List Value).toArray }:=by rw [<- hH2];exact Iq _ rfl
  have hold:∀ b o,s2.heap.get? b=some o->P2.get? b=some o:=fun b o e=>by rw [<- hH2];exact H0 _ e
  have hsz:P2.objs.size=s2.heap.objs.size+1:=by rw [<- hH2,Heap.size_push]
  have I3:Inv X pins σ H { s2 with heap:=P2,toks:=s2.toks }:=I.kept hold;generalize hDe:s2.heap.objs.size=D at *;have keep1:∀ b o,P2.get? b=some o->h1.get? b=some o:=fun b o e=>hsb.extBut b o (IC (Im e)) (H0 _ e);have hfp:∀ b∈fp,b < D:=fun b hb=>by
    obtain ⟨o,e,_⟩:=T.obj _ _ h0 b hb;rw [<- hDe];exact Im e
  have hstk:∀ b,b≠X.env.locals->b ∉ X.fs->b ∉ frs X.stack:=fun b h1 h2 z=>(Il.mp (I.p5 b z)).elim h1 h2;have hDl:D≠X.env.locals:=fun z=>absurd I.lt (by rw [hDe,z];exact IG _);have hDfs:D ∉ X.fs:=I.Dd (by rw [hDe];exact Ia _);have hDc:∀ y c,X.env.cells.lookup y=some c->c≠D:=fun y c e z=>by
    obtain ⟨v,q⟩:=I.cell y c e;have:=q.lt;rw [z,hDe] at this;exact absurd this (IG _)
  have hex:∀ b∈D :: fp,b ∉ frs X.stack/\b < ({ s2 with heap:=P2,toks:=s2.toks }:Shared).heap.objs.size/\(∀ y c,X.env.cells.lookup y=some c->c≠b)/\X.base.get? b=none:=fun b hb=>by
    rcases Il.mp hb with rfl | hb
    · refine ⟨hstk _ hDl hDfs,by show _ < P2.objs.size;rw [hsz];exact Kg _,hDc,?_⟩;cases q:X.base.get? b with
      | none=>rfl
      | some o =>
        have:=Im (I.bk b o q);rw [hDe] at this;exact absurd this (IG _)
    · obtain ⟨f0,f1,f2,f3,f4,f5⟩:=hf b hb;refine ⟨hstk _ f1 f2,by show _ < P2.objs.size;rw [hsz];exact Jx (hfp b hb),f4,?_⟩;cases q:X.base.get? b with
      | none=>rfl
      | some o =>
        rcases f3 with z | z
        · exact absurd z (I.ok.zz b o q)
        · exact absurd (Iu (Im q) (Iy I.ok.bsz z)) (IG _)
  have IB:=qH (tk:=s2.toks) (ex:=D :: fp) I3 hc B cap (h1:=h1) hns keep1 hex;have hCD:P2.objs.size≠D:=by rw [hsz];exact Nat.succ_ne_self _
  have start:codeAny (model X.prog X.w) X.A (.compLoop (.ListComp elt [⟨.Tuple es ek tp,iter,[],0⟩] scope pos) 0 (.ref it) (.ref D) (compEnvC scope (lG X.env scope.names []) P2.objs.size X.env)) (RR (.ref D) P2.objs.size) { s2 with heap:=h1,toks:=s2.toks }:=by
    obtain ⟨m0,w0⟩:=w0;refine LCp.codeAny_compLoop_pair (fun n s=>∃ i σB H' acc its k,Inv (cxB X (xs++ys) scope P2.objs.size { s2 with heap:=P2,toks:=s2.toks } H (D :: fp)) [] σB H' s/\tn i s.heap/\(∀ b∈D :: fp,H' b=none)/\s.heap.get? D=some { cls:=.type "list", data:=.seq its k }/\Vals acc its.toList/\acc.length<=sizeLine/\W i n σB acc H') ?_ m0 ?_
    · rintro n s ⟨i,σB,H3,acc,its,k,I4,t4,fr4,g4,va,hl4,w4⟩;have hDm:D∈D :: fp:=Ip;have exf:=I4.ok.exf;have fsub:∀ b∈D :: fp,b ∉ (cxB X (xs++ys) scope P2.objs.size { s2 with heap:=P2,toks:=s2.toks } H (D :: fp)).fs:=fun b hb=>(hex b hb).1;have stat:∀ {H':Hp} {ob:Obj},(∀ b∈fp,H' b=none)->∀ b∈fp,rW (cxB X (xs++ys) scope P2.objs.size { s2 with heap:=P2,toks:=s2.toks } H (D :: fp)) [(D,ob)] H' b:=fun {H' ob} hn b hb =>
        ⟨hn b hb,(exf b (Ie _ hb)).1,fsub b (Ie _ hb),.inl (Ie _ hb),(exf b (Ie _ hb)).2,fun p hp z=>by
          have hp':p∈[(D,ob)]:=hp;have e:=Ib.mp hp';rw [e] at z
          exact absurd (hfp b hb) (by rw [<- show D=b from z];exact IG _)⟩
      have frp:∀ b∈fp,H3 b=none:=fun b hb=>fr4 b (Ie _ hb);have I5:Inv (cxB X (xs++ys) scope P2.objs.size { s2 with heap:=P2,toks:=s2.toks } H (D :: fp)) [(D,{ cls:=.type "list", data:=.seq its k })] σB H3 s:=I4.ee fun p hp=>by
        rw [Ib.mp hp];exact ⟨g4,fr4 D hDm,(exf D hDm).1,fsub D hDm,fun v z=>nomatch z⟩
      rcases turn i n σB acc H3 w4 with ⟨stop,hacc,q⟩ | ⟨go,hacc,step⟩
      · refine IJ (T.done (cxB X (xs++ys) scope P2.objs.size { s2 with heap:=P2,toks:=s2.toks } H (D :: fp)) rfl rfl rfl rfl i _ s _ H3 (fun _ _=>False) I5 (stat frp) t4 stop) (fun r s1 ⟨hr,I6⟩=>?_) (fun _ _ z=>z.elim);subst hr;obtain ⟨m',hn',_⟩:=id I6.loc;have pD:=(I6.pin (D,{ cls:=.type "list", data:=.seq its k }) (Ir _ (Ib.mpr rfl))).1;have nD:H3 D=none:=fr4 D hDm;have u:=I6.base;have uu:Un (frs X.stack) (D :: fp) H (upd H3 D (.lst acc)) P2 s1.heap :=
          ⟨u.keep,u.slot,fun b o q n hx=>by rw [ak fun z=>hx (by rw [z];exact hDm)];exact u.free b o q n hx,u.there,
           fun b xs q=>by rw [ak (ay (u.qL b xs q) nD)];exact u.qL b xs q,fun b o v q=>by rw [ak (ay (u.qo b o v q) nD)];exact u.qo b o v q,
           fun b ps q=>by
            obtain ⟨more,z⟩:=u.uQ b ps q
            exact ⟨more,by rw [ak (ay z nD)];exact z⟩⟩
        have hok:HOk X.prog X.w (upd H3 D (.lst acc)) s1.heap:=fun b o e=>by
          by_cases hb:b=D
          · subst hb;rw [ar] at e;cases e;exact ⟨hacc,its.toList,k,va,by rw [Km];exact pD⟩
          · rw [ak hb] at e;exact (I6.hok b o e).lH (fun c v _ q=>q) (fun c q=>by rw [ak (ay q nD)];exact q) fun c xs q=>by rw [ak (ay q nD)];exact q
        have fin:=I3.call (g':=s1.gens) (t':=s1.toks) (d':=s1.drawn) uu hok I6.bare (fun b hb=>by
          rcases Il.mp hb with z | hb
          · rw [z];refine ⟨.inr (by rw [<- hDe];exact I.sz),hDl,hDc,fun p hp z=>?_⟩;have:=Im (I.pin p hp).1;rw [z,hDe] at this;exact IG _ this
          · exact ⟨(hf b hb).2.2.2.1,(hf b hb).2.1,(hf b hb).2.2.2.2.1,(hf b hb).2.2.2.2.2⟩)
        have es':({ heap:=s1.heap,gens:=s1.gens,drawn:=s1.drawn,toks:=s1.toks,os:=s2.os }:Shared)=s1:=by
          have:=I6.os;obtain ⟨a1,a2,a3,a4,a5⟩:=s1;have e5:a5=s2.os:=this;rw [e5]
        have fin':Inv X pins σ (upd H3 D (.lst acc)) s1:=es'▸fin;exact hRR D P2.objs.size (upd H3 D (.lst acc)) s1 m' hn' (by rw [hsz];exact Ka _) hCD (by rw [ak hCD];exact I6.free) fin' (q D nD)
      · refine IJ (T.item (cxB X (xs++ys) scope P2.objs.size { s2 with heap:=P2,toks:=s2.toks } H (D :: fp)) rfl rfl rfl rfl i _ s _ H3 (fun _ _=>False) I5 (stat frp) t4 go) (fun r s1 ⟨u,hr,h4⟩=>?_) (fun _ _ z=>z.elim);subst hr;refine IJ h4 (fun _ s1' ⟨x',H5,I6,r6,y6,t6,fr6⟩=>?_) (fun _ _ z=>z.elim);have I7:=I6.pinned (stat fr6) (T.obj _ _ t6);refine IJ (hg _ _ _ _ _ s1' _ H5 x' u _ I7 r6 (step x' H5 y6)) (fun _ s2' ⟨σ6,H6,I8,q8⟩=>?_) (fun _ _ z=>z.elim);have pinsKeep:∀ {σ':St} {H':Hp} {s':Shared},Inv (cxB X (xs++ys) scope P2.objs.size { s2 with heap:=P2,toks:=s2.toks } H (D :: fp)) ([(D,{ cls:=.type "list", data:=.seq its k })]++kq fp s1'.heap) σ' H' s' ->
            s'.heap.get? D=some { cls:=.type "list", data:=.seq its k }/\(∀ b∈D :: fp,H' b=none)/\∀ b∈fp,∀ o,s1'.heap.get? b=some o->s'.heap.get? b=some o:=fun {σ' H' s'} J=>by
          have pd:=J.pin (D,{ cls:=.type "list", data:=.seq its k }) (Ir _ (IM _ (Ib.mpr rfl)));refine ⟨pd.1,fun b hb=>?_,fun b hb o e=>(J.pin (b,o) (Ir _ (Ir _ (b6 hb e)))).1⟩;rcases Il.mp hb with rfl | hb
          · exact pd.2.1
          · obtain ⟨o,e,_⟩:=T.obj _ _ t6 b hb;exact (J.pin (b,o) (Ir _ (Ir _ (b6 hb e)))).2.1
        refine IJ (he _ _ _ _ _ s2' _ _ _ I8 q8) (fun y s4' ⟨yv,H8,I10,ry,m',hm,w10⟩=>?_) (fun _ _ z=>z.elim);obtain ⟨p1,p2,p3⟩:=pinsKeep I10;have hsize:its.size=acc.length:=by rw [va.length];simp
        have I11:=I10.ee (pins':=[]) (fun p hp=>absurd hp (by simp));refine wpAny_list_append_plain ⟨k,p1⟩ (fun h' hpl hsame=>?_) (by rw [hsize];exact Kc hacc);obtain ⟨k',e'⟩:=hpl;have neD:∀ {b:Addr} {o:HO},H8 b=some o->b≠D:=fun e z=>by rw [z,p2 D hDm] at e;cases e
        refine ⟨m',hm,i+1,σ6,H8,acc++[yv],its.push y,k',?_,?_,p2,e',?_,?_,w10⟩
        · refine I11.step (g':=s4'.gens) (t':=s4'.toks) (d':=s4'.drawn) (ch:=[D]) (fun b hb=>?_) (fun b o _ _ hc' e _=>?_) (fun b o _ _ hc' e _=>⟨o.slots,?_⟩) (fun b o hc' e n=>n) (fun b o hc' e=>⟨o,?_⟩) (fun _ _ z=>z) (fun _ _ _ z=>z) (fun b ps z=>⟨#[],by rw [z];simp⟩) (fun m hn=>hn.sameBut hsame (Ne.symm (exf D hDm).1)) (fun b o e=>?_) I11.bare
          · rw [Ib.mp hb];exact ⟨.inl hDm,(exf D hDm).1,(exf D hDm).2,fun p hp=>absurd (show p∈([]:List (Addr×Obj)) from hp) (by simp)⟩
          · exact (hsame.2 b fun z=>hc' (Ib.mpr z)).trans e
          · exact (hsame.2 b fun z=>hc' (Ib.mpr z)).trans e
          · exact (hsame.2 b fun z=>hc' (Ib.mpr z)).trans e
          · refine (I11.hok b o e).lH (fun c v hc' q=>(hsame.2 c ?_).trans q) (fun _ q=>q) fun _ _ q=>q;rcases hc' with z | z
            · rw [z];exact neD e
            · exact neD z
        · refine T.keep _ _ _ t6 fun b hb o e=>(hsame.2 b ?_).trans (p3 b hb o e);exact IC (hfp b hb)
        · rw [Ke];exact va.append (.cons ry .nil)
        · rw [HY,List.length_singleton];exact hacc
    · refine ⟨0,gQ xs++bw js σ,H,[],#[],_,IB,T.keep _ _ _ h0 (fun b hb o e=>keep1 b o (hold b o e)),fun b hb=>?_,keep1 _ _ hgetD,.nil,IV _,w0⟩;rcases Il.mp hb with rfl | hb
      · exact hD
      · exact (hf b hb).1
  exact codeAny_compStart_list start (T.self _ 0 _ _ _ (T.keep _ _ _ h0 (fun b hb o e=>keep1 b o (hold b o e))) start)
theorem vp {X:Cx} {elt iter:Expr} {es:List Expr} {ek} {tp pos:Pos} {scope:Scope} {wi:TI} {g:TG} {te:TE} {xs ys:List Str} {js:List Nat} (hc:X.calm=true) (hi:PI X (.Tuple es ek tp) iter wi) (B:ja X scope xs) (cap:d6 X scope ys js)
  (hg:∀ C s3 H3 ex,PG (cxB X (xs++ys) scope C s3 H3 ex) (.Tuple es ek tp) g) (he:∀ C s3 H3 ex,PE (cxB X (xs++ys) scope C s3 H3 ex) elt te) (hs:∀ x,foldedSetIterable iter X.env x=pure x) :
  PE X (.ListComp elt [⟨.Tuple es ek tp,iter,[],0⟩] scope pos) (ug xs js wi g te):=by
 intro pins s σ H Q I h;have hcl:=gZ (scope:=scope) (env:=X.env) fun y hy hf=>I.ok.has y.1 (.inl (B.free y hy hf));rw [eval_ListComp];refine wpAny_comprehension_free (use:=none) rfl hs hcl B.kind B.locs (IJ (hi pins s σ H _ I h) (fun xv s1 h1=>IJ h1 (fun itv s2 h2=>?_) fun _ _ e=>e) fun _ _ e=>e);obtain ⟨it,fp,tn,J,H2,e,I2,T,st2,f2,W,w0,turn⟩:=h2;subst e;refine tV (RR:=fun acc C=>compPost (model X.prog X.w) X.A X.xe none (EP X pins σ Q) acc C) hc B cap hg he I2 T st2 f2 W w0 turn ?_;intro D C H' s' m' hn hC hCD hCn I' q;refine ⟨m',hn,fun h' hs'=>⟨.ref D,H',?_,rfl,q⟩⟩;have hL:X.env.locals≠C:=IC (Iu I2.lt hC);have neC:∀ {b:Addr} {o:HO},H' b=some o->b≠C:=fun e z=>by rw [z,hCn] at e;cases e
 refine I'.step (g':=s'.gens) (t':=s'.toks) (d':=s'.drawn) (ch:=[C]) (fun b hb=>?_) (fun b o _ _ hc' e _=>?_) (fun b o _ _ hc' e _=>⟨o.slots,?_⟩) (fun b o hc' e n=>n) (fun b o hc' e=>⟨o,?_⟩) (fun _ _ z=>z) (fun _ _ _ z=>z) (fun b ps z=>⟨#[],by rw [z];simp⟩) (fun m hn=>hn.sameBut hs' hL) (fun b o e=>?_) I'.bare
 ·rw [Ib.mp hb];refine ⟨.inr (Iy I2.sz hC),Ne.symm hL,fun y c e z=>?_,fun p hp z=>?_⟩
  ·obtain ⟨v,q⟩:=I2.cell y c e;have:=q.lt;rw [z] at this;exact absurd (Iu this hC) (IG _)
  ·have:=Im (I2.pin p hp).1;rw [z] at this;exact absurd (Iu this hC) (IG _)
 ·exact (hs'.2 b fun z=>hc' (Ib.mpr z)).trans e
 ·exact (hs'.2 b fun z=>hc' (Ib.mpr z)).trans e
 ·exact (hs'.2 b fun z=>hc' (Ib.mpr z)).trans e
 ·refine (I'.hok b o e).lH (fun c v hc' q=>(hs'.2 c ?_).trans q) (fun _ q=>q) fun _ _ q=>q;rcases hc' with z | z
  ·rw [z];exact neC e
  ·exact neC z
structure JGs (X:Cx) (N:List Str) (scope:Scope) (es:List Expr) (t:TGs):Prop where
 h:∀ C s3 H3 ex,PGs (cxB X N scope C s3 H3 ex) es t
theorem GP {X:Cx} {N:List Str} {scope:Scope}:JGs X N scope [] Ac:=⟨fun _ _ _ _=>qU⟩
theorem zH {X:Cx} {N:List Str} {scope:Scope} {es:List Expr} {u:TGs} {i:Nat} {x:Str} {px:Pos} (nd:N.Nodup) (hi:N[i]?=some x) (hv:scope.names.lookup x=some .local) (h:JGs X N scope es u):JGs X N scope (.Name x px :: es) (qj (cy i) u) :=
 ⟨fun C s3 H3 ex=>pJ (jb nd hi (.inl (lookup_relabel_local hv)) (.inr (lookup_relabel_local hv))) (h.h C s3 H3 ex) rfl⟩
theorem wL {X:Cx} {elt iter:Expr} {es:List Expr} {ek} {tp pos:Pos} {scope:Scope} {wi:TI} {u:TGs} {te:TE} {js:List Nat} {n:Nat} (xs ys:List Str) (hi:JI X (.Tuple es ek tp) iter wi) (hg:JGs X (xs++ys) scope es u) (he:JC X (xs++ys) scope elt te) (hc:X.calm=true) (B:ja X scope xs) (cap:d6 X scope ys js)
  (hn:∀ env,(assignEach es env).length=n) (hst:∀ env,(assignEach es env).findIdx? (·.1)=none) (hs:∀ x,foldedSetIterable iter X.env x=pure x) :
  JE X (.ListComp elt [⟨.Tuple es ek tp,iter,[],0⟩] scope pos) (ug xs js wi (C1 X.K n u) te) :=
 ⟨vp hc hi.h B cap (fun C s3 H3 ex=>wQ rfl (hg.h C s3 H3 ex) (hn _) (hst _)) he.h hs⟩
noncomputable def mU (sc scope:Scope):Bool :=
 (scope.kind==.function)&&scope.names.all (fun y=>y.2 != .cell)&&scope.names.all (fun y=>y.2 != .local||scope.names.lookup y.1==some .local)&&scope.names.all (fun y=>y.2 != .free||sc.names.lookup y.1==some .cell)
theorem GQ {X:Cx} {sc scope:Scope} {xs:List Str} (e:X.env.scope=sc) (h:mU sc scope=true):ja X scope xs:=by
 unfold mU at h;simp only [ID,Je,Kq,bne_iff_ne,beq_iff_eq,ne_eq] at h;obtain ⟨⟨⟨h1,h2⟩,h3⟩,h5⟩:=h;exact ⟨h1,fun y hy=>h2 y hy,fun y hy e=>(h3 y hy).resolve_left fun z=>z e,fun y hy e'=>by rw [e];exact (h5 y hy).resolve_left fun z=>z e'⟩
def Gq (K:Fg) (te:TE):TT:=fun σ H Q=>te σ H fun x H'=>∃ k,De K x H' k/\Q k H'
theorem HK {X:Cx} {e:Expr} {te:TE} (h:JE X e te) (he:∀ whole,isTrue e X.env whole=(do let v<-whole;standAt e.pos;holding [v] (truthy v))):JT X e (Gq X.K te):=⟨vX h.h he⟩
structure JGl (X:Cx) (es:List Expr) (t:TGs):Prop where
 h:PGs X es t
section
variable {X:Cx} {es:List Expr} {t:TGs} {pos:Pos} {x:Str} {i:Nat}
theorem B8:JGl X [] Ac:=⟨qU⟩
theorem me (hN:X.N.Nodup) (hi:X.N[i]?=some x) (hx:Loc X.env.scope x) (hf:X.fn x=true\/X.env.scope.names.lookup x=some .local) (h:JGl X es t):JGl X (.Name x pos :: es) (qj (cy i) t):=⟨pJ (jb hN hi hx hf) h.h rfl⟩
theorem eGT {n:Nat} {k} (hc:X.calm=true) (h:JGl X es t) (hn:(assignEach es X.env).length=n) (hst:(assignEach es X.env).findIdx? (·.1)=none):JG X (.Tuple es k pos) (C1 X.K n t):=⟨wQ hc h.h hn hst⟩
end
section
variable {X:Cx}
def tFs:List TE->Str->TE
 | [],out=>fun _ H Q=>out.length<=sizeLine/\Q (.str out) H
 | t :: ts,out=>fun σ H Q=>t σ H fun x H1=>∃ y,x=.str y/\(out++y).length<=sizeLine/\tFs ts (out++y) σ H1 Q
def PFs (X:Cx) (vs:List Expr) (ts:List TE):Prop :=
 ∀ (pins:List (Addr×Obj)) (s:Shared) (σ:St) (H:Hp) (Q:VK) (out:Str),Inv X pins σ H s->tFs ts out σ H Q->wpAny (model X.prog X.w) X.A (joinParts out (evalEach vs X.env)) (EP X pins σ Q) X.xe s
theorem yJ:PFs X [] []:=by
 intro pins s σ H Q out I h;exact joinParts_nil ⟨.str out,H,I.tok _,⟨_,rfl⟩,h.2⟩ h.1
theorem uW {v:Expr} {vs:List Expr} {t:TE} {ts:List TE} (hv:PE X v t) (hr:PFs X vs ts):PFs X (v :: vs) (t :: ts):=by
 intro pins s σ H Q out I h;show wpAny _ _ (joinParts out (eval v X.env :: evalEach vs X.env)) _ _ s;refine joinParts_cons (thn (hv pins s σ H _ I h) fun u s1 ⟨x,H1,I1,r1,y,ex,hz,q⟩=>?_);subst ex;obtain ⟨t',rfl⟩:=r1;exact ⟨hz,hr pins s1 σ H1 Q _ I1 q⟩
end
structure JF (X:Cx) (vs:List Expr) (ts:List TE):Prop where
 h:PFs X vs ts
section
variable {X:Cx}
theorem eF0:JF X [] []:=⟨yJ⟩
theorem eFc {v:Expr} {vs:List Expr} {t:TE} {ts:List TE} (hv:JE X v t) (hr:JF X vs ts):JF X (v :: vs) (t :: ts):=⟨uW hv.h hr.h⟩
end
section
variable {X:Cx}
def zV (K:Fg):R2:=fun x y H Q=>∃ l b xs zs,x=.ref l/\y=.ref b/\SqL K H l xs/\SqL K H b zs/\xs.length+zs.length<=sizeLine/\∀ p,H p=none->Q (.ref p) (upd H p (.lst (xs++zs)))
theorem xY:OpR X (binaryOp .Add) (zV X.K):=by
 intro pins s σ H x y v u Q I rx ry h;obtain ⟨l,b,xs,zs,rfl,rfl,hH,hB,hz,q⟩:=h;cases rx;cases ry;obtain ⟨its,r,p,_⟩:=I.list hH;obtain ⟨its2,r2,p2,_⟩:=I.list hB;obtain ⟨⟨cls,dd,data,sl⟩,n,ho,hc,hd0,hd⟩:=p;obtain ⟨⟨cls2,dd2,data2,sl2⟩,n2,ho2,hc2,hd02,hd2⟩:=p2;simp only at hc hd hc2 hd2;subst hc hd hc2 hd2;have e:its.toArray++its2.toArray=(its++its2).toArray:=by simp
 refine concat_meets ⟨_,ho,rfl⟩ ⟨_,ho2,rfl⟩ noFill_list_add seq_list_add PySem.F.slot_list_add PySem.F.entry_list_add (PySem.F.args_list_add_2 _ _) (list_addW l b its.toArray its2.toArray n n2 dd dd2 sl sl2 (by rw [Iw,Iw,<-r.length,<-r2.length];exact hz)) ⟨ho,ho2,?_⟩;rw [e];exact ⟨.ref _,_,I.Hd (t':=s.toks) (r.append r2) (by rw [HY];omega),rfl,q _ I.fresh⟩
end
mutual
noncomputable def hkB:PyData->Bool
 | .int _=>true
 | .str _=>true
 | .tuple ds=>uO ds
 | _=>false
noncomputable def uO:List PyData->Bool
 | []=>true
 | d :: ds=>hkB d&&uO ds
end
theorem lp:∀ {ds:List PyData},uO ds=true↔∀ d∈ds,hkB d=true
 | []=>by simp [uO]
 | d :: ds=>by simp [uO,lp (ds:=ds)]
noncomputable def kyB (d:PyData):Bool:=hkB d&&d.canLay0&&decide (d.depth<=6)
noncomputable def hk6 (d:PyData):Bool:=hkB d&&decide (d.depth<=6)
mutual
theorem g9:∀ (d e:PyData),hkB d=true->hkB e=true->(PyData.eqv d e=true↔d=e)
 | .int i,e,_,h=>by
  cases e with
  | int j=>simp [PyData.eqv]
  | str y=>simp [PyData.eqv]
  | tuple es=>simp [PyData.eqv]
  | _=>cases h
 | .str x,e,_,h=>by
  cases e with
  | int j=>simp [PyData.eqv]
  | str y=>simp [PyData.eqv]
  | tuple es=>simp [PyData.eqv]
  | _=>cases h
 | .tuple ds,e,h1,h=>by
  cases e with
  | int j=>simp [PyData.eqv]
  | str y=>simp [PyData.eqv]
  | tuple es=>simp only [PyData.eqv,PyData.tuple.injEq];exact qZ ds es h1 h
  | _=>cases h
 | .none,_,h,_=>by cases h
 | .bool _,_,h,_=>by cases h
 | .list _,_,h,_=>by cases h
 | .dict _,_,h,_=>by cases h
theorem qZ:∀ (ds es:List PyData),uO ds=true->uO es=true->(PyData.eqvAll ds es=true↔ds=es)
 | [],[],_,_=>by simp [PyData.eqvAll]
 | [],_ :: _,_,_=>by simp [PyData.eqvAll]
 | _ :: _,[],_,_=>by simp [PyData.eqvAll]
 | d :: ds,e :: es,h1,h2=>by
  simp only [uO,ID] at h1 h2;rw [PyData.eqvAll,ID,g9 d e h1.1 h2.1,qZ ds es h1.2 h2.2,List.cons.injEq]
end
theorem l3 {d:PyData} {ds:List PyData} (h:d∈ds):d.depth+1<=(PyData.tuple ds).depth:=by
 have:∀ {ds:List PyData},d∈ds->d.depth<=PyData.depthAll ds:=by
  intro ds;induction ds with
  | nil=>intro h;cases h
  | cons x xs ih =>
   intro h;rw [PyData.depthAll];rcases Il.mp h with rfl | h
   ·exact Nat.le_max_left _ _
   ·exact Iy (ih h) (Nat.le_max_right _ _)
 rw [PyData.depth];have:=this h;omega
theorem iY {h:Heap}:∀ {vs:List Value} {ds:List PyData} {as:List Addr},ReadsAll h vs ds as->vs.length=ds.length/\∀ (i:Nat) (v:Value),vs[i]?=some v->∃ d bs,ds[i]?=some d/\Reads h v d bs
 | _,_,_,.nil=>⟨rfl,fun i v e=>by simp at e⟩
 | _,_,_,.cons r t=>by
  obtain ⟨l,f⟩:=iY t;refine ⟨by simp [l],fun i v e=>?_⟩;cases i with
  | zero=>simp at e;subst e;exact ⟨_,_,rfl,r⟩
  | succ i=>simpa using f i v (by simpa using e)
section
variable {P:Program} {w:World} {A:Around} {E:Value->Shared->Prop} {s:Shared}
theorem ux:∀ (n:Nat) {d:PyData} {v:Value} {as:List Addr} {Q:Bool->Shared->Prop},Reads s.heap v d as->hkB d=true->d.depth<=n->Q true s->wpAny (model P w) A (eqIsQuiet n v) Q E s:=by
 intro n;induction n with
 | zero =>
  intro d v as Q r h hd q;cases r with
  | int i t=>rw [eqIsQuiet_byValue _ rfl];exact HV q
  | str x t=>rw [eqIsQuiet_byValue _ rfl];exact HV q
  | tuple _ _ _ _=>rw [PyData.depth] at hd;omega
  | _=>cases h
 | succ n ih =>
  intro d v as Q r h hd q;cases r with
  | int i t=>rw [eqIsQuiet_byValue _ rfl];exact HV q
  | str x t=>rw [eqIsQuiet_byValue _ rfl];exact HV q
  | @tuple a o vs k xs as ho hc hdt ra =>
   have hT:s.TypeIs (.ref a) "tuple" := ⟨o,ho,hc⟩;unfold eqIsQuiet;refine HU (J3 hT F.slot_tuple_eq.lookup ?_);show wpAny _ _ (isInstance (.ref a) (.type "tuple")>>=_) _ _ s;refine HU (wpAny_isInstance hT isSubtype_tuple_tuple ?_);simp only [Bool.not_true,JL,JM];refine HU (wpAny_seqItems ho hdt (HU ?_));show wpAny _ _ (forIn vs _ _) _ _ s;rw [<- Array.forIn_toList];have hx:=lp.mp h;refine KC _ (fun rest r s'=>r.1=none/\s'=s/\∀ u∈rest,u∈vs.toList) _ ?_ ?_ _ _ ⟨rfl,rfl,fun _ z=>z⟩
   ·rintro u rest r s' ⟨hr,rfl,hall⟩;obtain ⟨i,hi⟩:=Js.mp (hall u Ip);obtain ⟨d',bs,e1,r1⟩:=(iY ra).2 i u hi;have hm:=Iz e1;refine HU (ih r1 (hx d' hm) (by have:=l3 hm;omega) ?_);simp only [Bool.not_true,JL,JM];exact HV ⟨rfl,rfl,fun y hy=>hall y (Ie _ hy)⟩
   ·rintro ⟨r1,r2⟩ s' ⟨hr,rfl,_⟩;simp only at hr;subst hr;exact HV q
  | _=>cases h
theorem wg:∀ (n:Nat) {A:Around} {s:Shared} {E:Value->Shared->Prop} {d:PyData} {v:Value} {as:List Addr} {Q:Int->Shared->Prop},Reads s.heap v d as->hkB d=true->d.depth<=n->A.units+n < cLine ->
  (∀ t,Q (cC w d) { s with toks:=t })->wpAny (model P w) A (pyHash v) Q E s:=by
 intro n;induction n with
 | zero =>
  intro A s E d v as Q r h hd hu q;cases r with
  | int i t=>exact wpAny_pyHash_int (q _)
  | str x t=>exact wpAny_pyHash_str (q _)
  | tuple _ _ _ _=>rw [PyData.depth] at hd;omega
  | _=>cases h
 | succ n ih =>
  intro A s E d v as Q r h hd hu q;cases r with
  | int i t=>exact wpAny_pyHash_int (q _)
  | str x t=>exact wpAny_pyHash_str (q _)
  | @tuple a o vs k xs as ho hc hdt ra =>
   have hT:s.TypeIs (.ref a) "tuple" := ⟨o,ho,hc⟩;have hx:=lp.mp h;unfold pyHash;first | unfold pyHashByItsType | skip
   first | refine HU (wpAny_cRoomFor_or (.inr (by omega)) ?_) | skip
   refine HU (J3 hT F.slot_tuple_hash.lookup ?_);show wpAny _ _ (if (some (Value.builtin "tuple.__hash__")==some Value.none)=true then _ else _) Q E s;rw [Iv (by rw [beq_builtin_none];exact I0)];refine HU (J3 hT F.slot_tuple_hash.lookup ?_);show wpAny _ _ (callSpecialIfBoundUnlessNone? (.ref a) "__hash__" _>>=_) Q E s;refine HU (wpAny_callSpecialIfBoundUnlessNone?_slot hT F.slot_tuple_hash (IZ F.slot_tuple_hash hT F.entry_tuple_hash ?_ (F.args_tuple_hash_1 _)));show wpAny _ _ (Builtin.Tuple.tupleItemsOf (.ref a)>>=_) _ _ s;refine HU (wpAny_tupleItemsOf ho hdt (HU ?_));rw [<- Array.forIn_toList];have hap:∀ (l m:List PyData),cZ w (l++m)=cZ w l++cZ w m:=by
    intro l m;induction l with
    | nil=>rfl
    | cons x l ihl=>rw [List.cons_append,cZ,cZ,ihl];rfl
   refine KC _ (fun rest (b:Array Int) s'=>∃ i,rest=vs.toList.drop i/\b.toList=cZ w (xs.take i)/\∃ t,s'={ s with toks:=t }) _ ?_ ?_ _ _ ⟨0,rfl,rfl,_,rfl⟩
   ·rintro u rest b s' ⟨i,hr,hb,t,rfl⟩;have hi:vs.toList[i]?=some u:=by
     have:(vs.toList.drop i)[0]?=some u:=by rw [<- hr];rfl
     simpa using this
    obtain ⟨d',bs,e1,r1⟩:=(iY ra).2 i u hi;have hm:=Iz e1;refine HU (ih (s:={ s with toks:=t }) r1 (hx d' hm) (by have:=l3 hm;omega) (by have:A.in1.units=A.units+1:=rfl;omega) fun t'=>?_);have nx:rest=vs.toList.drop (i+1)/\(b.push (cC w d')).toList=cZ w (xs.take (i+1))/\∃ t'',({ s with toks:=t' }:Shared)={ s with toks:=t'' }:=by
     refine ⟨?_,?_,_,rfl⟩
     ·have:=congrArg List.tail hr;simpa [List.tail_drop] using this
     ·rw [List.take_add_one,e1,hap,Ke,hb];rfl
    first
     | exact HV ⟨i+1,nx⟩
     | exact HU (HV (HV ⟨i+1,nx⟩))
   ·rintro b s' ⟨i,hr,hb,t,rfl⟩;have hi:vs.toList.length<=i:=by
     have:=congrArg List.length hr;simp at this;simpa using (by omega:vs.size<=i)
    rw [Jo (by rw [<- (iY ra).1];exact hi)] at hb;show wpAny _ _ (retInt (Builtin.Tuple.tupleHashOf b.toList)) _ _ _;rw [hb];refine wpAny_ret_mkInt ?_;have q':=q;rw [cC] at q';unfold reduceHash at q';show wpAny _ _ (if (decide (-(2:Int) ^ 63<=Builtin.Tuple.tupleHashOf (cZ w xs))&&decide (Builtin.Tuple.tupleHashOf (cZ w xs) < 2 ^ 63))=true then _ else _) Q E _;by_cases hc:(decide (-(2:Int) ^ 63<=Builtin.Tuple.tupleHashOf (cZ w xs))&&decide (Builtin.Tuple.tupleHashOf (cZ w xs) < 2 ^ 63))=true
    ·rw [Io hc];rw [Io hc] at q';exact HV (q' _)
    ·rw [Iv hc];rw [Iv hc] at q';exact HU (JJ (HV (q' _)))
  | _=>cases h
end
open PySem PySem.Spec PyProof.Rows
theorem aE {d:PyData}:kyB d=true↔hkB d=true/\d.canLay0=true/\d.depth<=6:=by simp [kyB,and_assoc]
section
variable {P:Program} {w:World} {A:Around} {E:Value->Shared->Prop} {s:Shared}
structure zC (w:World) (h:Heap) (es:Array DictEntry) (ks:List PyData):Prop where
 len:es.size=ks.length
 nd:ks.Nodup
 at_:∀ (j:Nat) (k:PyData),ks[j]?=some k->kyB k=true/\∃ e bs,es[j]?=some e/\e.hash=cC w k/\Reads h e.key k bs
theorem zC.at' {h:Heap} {es:Array DictEntry} {ks:List PyData} (N:zC w h es ks) {j:Nat} {e:DictEntry} (he:es[j]?=some e):∃ k bs,ks[j]?=some k/\kyB k=true/\e.hash=cC w k/\Reads h e.key k bs:=by
 have hj:j < ks.length:=by rw [<- N.len];exact (Array.getElem?_eq_some_iff.mp he).1
 obtain ⟨a,e',bs,b,c,r⟩:=N.at_ j _ (HZ hj);rw [he] at b;cases b;exact ⟨_,bs,HZ hj,a,c,r⟩
theorem zC.one {h:Heap} {es:Array DictEntry} {ks:List PyData} (N:zC w h es ks) {i j:Nat} {k:PyData} (hi:ks[i]?=some k) (hj:ks[j]?=some k):i=j :=
 (List.getElem?_inj (HX.mp hi).1 N.nd).mp (hi.trans hj.symm)
theorem zi {key key':Value} {k k':PyData} {as bs:List Addr} (hu:A.units+6 < cLine) (r:Reads s.heap key k as) (r':Reads s.heap key' k' bs) (h:kyB k=true) (h':kyB k'=true):SeqAt.EqAt A s key' key (PyData.eqv k' k):=by
 rw [aE] at h h';exact SeqAt.eqAt_reads k' k A s key' key bs as r' r h'.2.1 h.2.1 (by have:=Nat.min_le_right k'.depth k.depth;omega)
theorem Bp {key:Value} {k:PyData} {as:List Addr} {st:List Value} {Q:Bool->Shared->Prop} (r:Reads s.heap key k as) (h:kyB k=true) (hst:∀ v∈st,∃ k' bs,Reads s.heap v k' bs/\kyB k'=true) (q:Q false s) :
  wpAny (model P w) A (tableMayTell key st) Q E s:=by
 rw [aE] at h;unfold tableMayTell;split
 ·exact HV q
 ·refine HU (ux 8 r h.1 (by omega) ?_);rw [Iv (by simp)];refine HU (KC _ (fun rest b s'=>s'=s/\b=(none,())/\∀ v∈rest,v∈st) _ ?_ ?_ _ _ ⟨rfl,rfl,fun _ z=>z⟩)
  ·rintro v rest b s' ⟨rfl,rfl,hr⟩;obtain ⟨k',bs,r',h'⟩:=hst v (hr v Ip);rw [aE] at h';refine HU (ux 8 r' h'.1 (by omega) ?_);rw [Iv (by simp)];exact HV ⟨rfl,rfl,fun v hv=>hr v (Ie _ hv)⟩
  ·rintro b s' ⟨rfl,rfl,_⟩;exact HV q
theorem uD {h:Heap} {v:Value} {x:Str} {as:List Addr} (r:Reads h v (.str x) as):∃ t,v=.str x t:=by cases r;exact ⟨_,rfl⟩
theorem n5 {h:Heap} {v:Value} {x:Str} {k:PyData} {as:List Addr} (r:Reads h v k as) (hk:hkB k=true) (hp:v.isStr x=true):k=.str x:=by
 cases r with
 | str y t=>simp [Value.isStr] at hp;simp [hp]
 | int i t=>simp [Value.isStr] at hp
 | tuple _ _ _ _=>simp [Value.isStr] at hp
 | _=>cases hk
theorem rQ {α:Type} {c:Prop} [Decidable c] {x y:Sem α} {Q:α->Shared->Prop} (hx:wpAny (model P w) A x Q E s) (hy:wpAny (model P w) A y Q E s):wpAny (model P w) A (if c then x else y) Q E s:=by
 split
 ·exact hx
 ·exact hy
theorem AK {α:Type} {c:Prop} [Decidable c] {m:Sem Bool} {f:Bool->Sem α} {Q:α->Shared->Prop} (hm:∀ Q':Bool->Shared->Prop,Q' false s->wpAny (model P w) A m Q' E s) (h:wpAny (model P w) A (f false) Q E s) :
  wpAny (model P w) A (if c then (pure false:Sem Bool)>>=f else m>>=f) Q E s:=rQ (HU (HV h)) (HU (hm _ h))
theorem wj {w0:World} {d:Addr} {o:Obj} {es:Array DictEntry} {ep:Nat} {ks:List PyData} {k:PyData} {key:Value} {as:List Addr} {Q:Option Nat->Shared->Prop}
  (hu:A.units+6 < cLine) (hk:Reads s.heap key k as) (hky:kyB k=true) (ho:s.heap.get? d=some o) (hd:o.data=.dict es ep) (N:zC w0 s.heap es ks)
  (hnone:(∀ j:Nat,ks[j]?≠some k)->Q none s) (hsome:∀ j:Nat,ks[j]?=some k->Q (some j) s):wpAny (model P w) A (dictFind d key (cC w0 k)) Q E s:=by
 have hk3:=aE.mp hky;have hsz:=N.len;have hash_at:∀ j:Nat,ks[j]?=some k->((es[j]?.map (·.hash))==some (cC w0 k))=true:=fun j hj=>by
  obtain ⟨_,e,bs,he,hh,_⟩:=N.at_ j k hj;rw [he];simp [hh]
 have same:∀ {k'},kyB k'=true->(PyData.eqv k' k=true↔k'=k):=fun h'=>g9 _ _ (aE.mp h').1 hk3.1;have done:∀ i:Nat,i<=es.size->(∀ j:Nat,j < i->ks[j]?≠some k)->[]=(List.range' i (es.size - i)).filter (fun i=>(es[i]?.map (·.hash))==some (cC w0 k))->∀ j:Nat,ks[j]?≠some k:=by
  intro i hi hno hr j hj;rcases JK j i with h | h
  ·exact hno j h hj
  ·have hjl:j < es.size:=by rw [hsz];exact (HX.mp hj).1
   have:=KI.mp hr.symm j (List.mem_range'_1.mpr ⟨h,by omega⟩);exact this (hash_at j hj)
 have skip:∀ {i x:Nat},(∀ j:Nat,j < i->ks[j]?≠some k)->(∀ j:Nat,i<=j->j < x->((es[j]?.map (·.hash))==some (cC w0 k))=false)->∀ j:Nat,j < x->ks[j]?≠some k:=by
  intro i x hno hs j hjx hj;rcases JK j i with h | h
  ·exact hno j h hj
  ·have:=hs j h hjx;rw [hash_at j hj] at this;cases this
 have step:∀ {x:Nat} {k':PyData},ks[x]?=some k'->k'≠k->(∀ j:Nat,j < x->ks[j]?≠some k)->∀ j:Nat,j < x+1->ks[j]?≠some k:=by
  intro x k' hx hne hno j hj hjk;rcases JK j x with h | h
  ·exact hno j h hjk
  ·have:j=x:=by omega
   subst this;rw [hx] at hjk;cases hjk;exact hne rfl
 have plain:wpAny (model P w) A (dictWalkPlain d key (cC w0 k) es (placesWithHash es.size (fun i=>es[i]?.map (·.hash)) (cC w0 k))) Q E s:=by
  unfold dictWalkPlain
  refine HU (KC _ (fun rest b s'=>s'=s/\b=(none,())/\∃ i:Nat,rest=(List.range' i (es.size - i)).filter (fun i=>(es[i]?.map (·.hash))==some (cC w0 k))/\i<=es.size/\∀ j:Nat,j < i->ks[j]?≠some k) _ ?_ ?_ _ _
   ⟨rfl,rfl,0,by rw [placesWithHash,List.range_eq_range',Nat.sub_zero],IV _,fun _ h=>absurd h (KL _)⟩)
  ·rintro x rest b s' ⟨rfl,rfl,i,hr,hi,hno⟩;obtain ⟨hix,hxn,hpx,hskip,hrest⟩:=filter_range'_cons _ _ _ _ _ hr.symm;have hlt:x < es.size:=by omega
   have hex:es[x]?=some es[x]:=Ju hlt;obtain ⟨k',bs,hkx,hk',hh,hr'⟩:=N.at' hex;have hno':=skip hno hskip;have hrest':rest=(List.range' (x+1) (es.size - (x+1))).filter (fun i=>(es[i]?.map (·.hash))==some (cC w0 k)):=by rw [hrest];congr 2;omega
   rw [hex] at hpx ⊢;have hhx:(es[x].hash==cC w0 k)=true:=by simpa using hpx
   dsimp only;rw [Io hhx];refine HU (Jv ho hd (HU (zi hu hk hr' hky hk' _ _ _ _ (HU (Jv ho hd ?_)))));rw [Iv (by simp)];by_cases z:k'=k
   ·subst z;rw [(same hky).mpr rfl];first | rw [Io rfl] | skip
    exact HU (JJ (HV (HV (hsome x hkx))))
   ·have:PyData.eqv k' k=false:=by
     cases q:PyData.eqv k' k with
     | false=>rfl
     | true=>exact absurd ((same hk').mp q) z
    rw [this];rw [Iv (by simp)];exact HU (JJ (HV ⟨rfl,rfl,x+1,hrest',hlt,step hkx z hno'⟩))
  ·rintro b s' ⟨rfl,rfl,i,hr,hi,hno⟩;exact HV (hnone (done i hi hno hr))
 have hst:∀ v∈(placesWithHash es.size (fun i=>es[i]?.map (·.hash)) (cC w0 k)).filterMap (fun i=>es[i]?.map (·.key)),∃ k' bs,Reads s.heap v k' bs/\kyB k'=true:=by
  intro v hv;obtain ⟨i,_,hi⟩:=List.mem_filterMap.mp hv;obtain ⟨e,he,rfl⟩:=Ic.mp hi;obtain ⟨k',bs,_,h1,_,h2⟩:=N.at' he;exact ⟨k',bs,h2,h1⟩
 unfold dictFind;try with_reducible refine II ?_
 refine HU (Kx ho hd ?_);have shape:(∃ i t,key=.int i t)\/(∃ x t,key=.str x t/\k=.str x)\/∃ a,key=.ref a:=by
  cases hk with
  | int i t=>exact .inl ⟨i,t,rfl⟩
  | str x t=>exact .inr (.inl ⟨x,t,rfl,rfl⟩)
  | tuple _ _ _ _=>exact .inr (.inr ⟨_,rfl⟩)
  | _=>cases hk3.1
 rcases shape with ⟨i,t,rfl⟩ | ⟨x,t,rfl,ek⟩ | ⟨a,rfl⟩;refine rQ plain ?_
 rotate_left
 refine rQ ?_ (rQ plain ?_)
 ·subst ek;unfold foundByValue;cases hf:es.findIdx? (·.key.isStr x) with
  | none =>
   refine HV (hnone fun j hj=>?_);obtain ⟨_,e,bs,he,_,r⟩:=N.at_ j _ hj;have:=Array.findIdx?_eq_none_iff.mp hf e (Array.mem_of_getElem? he);obtain ⟨t',e'⟩:=uD r;rw [e'] at this;simp [Value.isStr] at this
  | some i =>
   have hi:=(Array.findIdx?_eq_some_iff_getElem.mp hf);obtain ⟨hlt,hp,_⟩:=hi;have hex:es[i]?=some es[i]:=Ju hlt;obtain ⟨k',bs,hkx,hk',hh,hr'⟩:=N.at' hex;have e1:k'=.str x:=n5 hr' (aE.mp hk').1 hp;subst e1;dsimp only;rw [hex];dsimp only;refine HU (Jv ho hd (HU (zi hu hk hr' hky hk' _ _ _ _ (HU (Jv ho hd ?_)))));rw [Iv (by simp),(same hky).mpr rfl];first | rw [Io rfl] | skip
   exact HU (JJ (HV (hsome i hkx)))
 rotate_left
 refine rQ plain ?_;have hany:¬(es.any fun e=>e.key==Value.ref a&&e.hash != cC w0 k)=true:=by
  rw [<- Array.any_toList,Jb];rintro ⟨e,hin,hc⟩;obtain ⟨j,hj⟩:=Js.mp hin;obtain ⟨k',bs,_,_,h3,h4⟩:=N.at' (j:=j) (e:=e) (by simpa using hj);simp only [ID,beq_iff_eq,bne_iff_ne,ne_eq] at hc;rw [hc.1] at h4;exact hc.2 (by rw [h3,(PySem.Reads.unique h4 _ _ hk).1])
 dsimp only;rw [Iv hany]
 all_goals
  refine AK (fun Q' q=>Bp hk hky hst q) ?_;try dsimp only
  rw [Iv (by simp)]
  refine HU (KC _ (fun rest b s'=>s'=s/\∃ (i:Nat) (hit:Option Nat),b=(none,hit)/\rest=(List.range' i (es.size - i)).filter (fun i=>(es[i]?.map (·.hash))==some (cC w0 k))/\i<=es.size /\
    ((hit=none/\∀ j:Nat,j < i->ks[j]?≠some k)\/∃ j,hit=some j/\j < i/\ks[j]?=some k)) _ ?_ ?_ _ _
   ⟨rfl,0,none,rfl,by rw [placesWithHash,List.range_eq_range',Nat.sub_zero],IV _,.inl ⟨rfl,fun _ h=>absurd h (KL _)⟩⟩)
  ·rintro x rest b s' ⟨rfl,i,hit,rfl,hr,hi,hH⟩;obtain ⟨hix,hxn,hpx,hskip,hrest⟩:=filter_range'_cons _ _ _ _ _ hr.symm;have hlt:x < es.size:=by omega
   have hex:es[x]?=some es[x]:=Ju hlt;obtain ⟨k',bs,hkx,hk',hh,hr'⟩:=N.at' hex;have hrest':rest=(List.range' (x+1) (es.size - (x+1))).filter (fun i=>(es[i]?.map (·.hash))==some (cC w0 k)):=by rw [hrest];congr 2;omega
   rw [hex] at hpx ⊢;have hhx:=(show (es[x].hash==cC w0 k)=true by simpa using hpx);dsimp only;rw [Io hhx];refine HU (Jv ho hd (HU (zi hu hk hr' hky hk' _ _ _ _ (HU (Jv ho hd ?_)))));rw [Iv (by simp)];cases q:PyData.eqv k' k with
   | true =>
    have z:=(same hk').mp q;rw [z] at hkx;first | rw [Io rfl] | skip
    have h0:hit=none:=by
     rcases hH with ⟨h0,_⟩ | ⟨j,_,hj,hjk⟩
     ·exact h0
     ·exact absurd (N.one hjk hkx) (by omega)
    subst h0;simp only [Option.isSome_none,JL,JM];first | refine HU (HV ?_) | skip
    refine HU (JJ ?_);split
    ·exact HV (HV (hsome x hkx))
    ·exact HV ⟨rfl,x+1,some x,rfl,hrest',hlt,.inr ⟨x,rfl,Kg x,hkx⟩⟩
   | false =>
    rw [Iv (by simp)];have z:k'≠k:=fun e=>by rw [(same hk').mpr e] at q;cases q
    have st:(hit=none/\∀ j:Nat,j < x+1->ks[j]?≠some k)\/∃ j,hit=some j/\j < x+1/\ks[j]?=some k:=by
     rcases hH with ⟨h0,hno⟩ | ⟨j,h0,hj,hjk⟩
     ·exact .inl ⟨h0,step hkx z (skip hno hskip)⟩
     ·exact .inr ⟨j,h0,by omega,hjk⟩
    refine HU (JJ ?_);first | rw [Iv (by simp)] | skip
    first
     | exact HV ⟨rfl,x+1,hit,rfl,hrest',hlt,st⟩
     | exact HU (HV (HV ⟨rfl,x+1,hit,rfl,hrest',hlt,st⟩))
  ·rintro b s' ⟨rfl,i,hit,rfl,hr,hi,hH⟩;rcases hH with ⟨rfl,hno⟩ | ⟨j,rfl,_,hj⟩
   ·exact HV (hnone (done i hi hno hr))
   ·exact HV (hsome j hj)
end
open PySem PySem.Spec PyProof.Rows
noncomputable def kD:Key->PyData | .inl i=>.int i | .inr x=>.str x
noncomputable def cvK (kv:Key×V):PyData×V×V:=(kD kv.1,kV kv.1,kv.2)
theorem AB {a b:Key} (h:kD a=kD b):a=b:=by
 cases a <;> cases b <;> simp [kD] at h <;> simp [h]
theorem ym (w:World) (k:Key):cC w (kD k)=GC w k:=by cases k <;> rfl
theorem lu {P:Program} {w:World} {H:Hp} (h:Heap) (hb:sysModules < h.objs.size):bT P w H (h.push { cls:=.type "dict", data:=.dict #[] }) h.objs.size (.dD 0 []) :=
 ⟨IV _,beq_eq_false_iff_ne.mpr (Ne.symm (IC hb)),Ku,_,#[],Iq _ rfl,⟨rfl,rfl,rfl⟩,rfl,.nil⟩
theorem mG {P:Program} {w:World}:∀ {kvs:List (Key×V)} {vs:List (Key×Value)} {es:List DictEntry},KV kvs vs->Pairs (bE P w) es vs->(∀ e∈es,∃ k,(bE P w).is k e.key=true/\e.hash=(bE P w).hash k)->Paired (yz w) (kvs.map cvK) es
 | [],_,_,r,q,_=>by cases r;cases q;exact .nil
 | p :: kvs,_,es,r,q,h=>by
  cases r with
  | cons r t =>
   cases q with
   | @cons e kv es' kvs' h1 h2 h3 =>
    obtain ⟨k,hk,hh⟩:=h e Ip;have e1:k=p.1:=by rw [r.1];exact (bE P w).inj _ _ _ hk h1
    subst e1;refine .cons ⟨?_,?_,?_⟩ (mG t h3 fun e he=>h e (Ie _ he))
    ·rw [hh];exact (ym w _).symm
    ·show RelV (kV p.1) e.key;rcases aM (show oy p.1 e.key=true from hk) with ⟨i,t,e1,e2⟩ | ⟨x,t,e1,e2⟩
     ·rw [e1,e2];exact ⟨t,rfl⟩
     ·rw [e1,e2];exact ⟨t,rfl⟩
    ·show RelV p.2 e.val;rw [h2];exact r.2
theorem DB {P:Program} {w:World} {H:Hp} {h:Heap} {a:Addr} {kvs:List (Key×V)} {vs:List (Key×Value)} (z:kvs.length<=sizeLine) (hd:(a==sysModules)=false) (rel:KV kvs vs) (dd:h.DictOf (bE P w) a vs) :
  ∃ ep,bT P w H h a (.dD ep (kvs.map cvK)):=by
 obtain ⟨o,es,ep,h1,h2,h3,h4,h5,h6⟩:=dd;refine ⟨ep,by rw [HS];exact z,hd,?_,o,es,h1,h2,h3,mG rel h5 fun e he=>h4 e (Array.mem_toList_iff.mp he)⟩;have e1:vs.map (·.1)=kvs.map (·.1):=by
  clear h5 h6 z;unfold KV at rel;induction rel with
  | nil=>rfl
  | cons r t ih=>rw [List.map_cons,List.map_cons,ih,r.1]
 rw [e1] at h6;rw [IW];have:(kvs.map ((fun x:PyData×V×V=>x.1)∘cvK))=(kvs.map (·.1)).map kD:=by rw [IW];rfl
 rw [this];exact List.Pairwise.map kD (fun _ _ n z=>n (AB z)) h6
def xh:TE:=fun _ H Q=>∀ p,H p=none->Q (.ref p) (upd H p (.dD 0 []))
def tM (trs:List (TE×TE)):TE:=fun σ H Q=>∀ p,H p=none->pz trs σ (upd H p (.dD 0 [])) fun ps H2=>H2 p=some (.dD 0 [])/\∃ kvs:List (Key×V),ps=kvs.map (fun kv=>(kV kv.1,kv.2))/\kvs.length<=15/\∀ ep,Q (.ref p) (upd H2 p (.dD ep ((eX [] kvs).map cvK)))
section
variable {X:Cx} {pos:Pos}
theorem vB:PE X (.Dict [] [] pos) xh:=fun pins s σ H Q I h =>
 wpAny_Dict_empty ⟨.ref s.heap.objs.size,_,I.laid (o:=.dD 0 []) (t':=s.toks) (fun _ _ q=>H0 _ q) (Ia _) (lu s.heap I.big),rfl,h _ (I.hok.fresh (Ia _))⟩
theorem vq {keys:List (Option Expr)} {values:List Expr} {trs:List (TE×TE)} (h:PPs X pos keys values trs) (hall:keys.all (·.isSome)=true) (hl:keys.length=values.length) (h0:keys≠[])
  (h15:keys.length<=15):PE X (.Dict keys values pos) (tM trs):=by
 intro pins s σ H Q I q;have hn:=I.hok.fresh (Ia s.heap.objs.size);have I1:=I.laid (o:=.dD 0 []) (h':=s.heap.push { cls:=.type "dict", data:=.dict #[] }) (t':=s.toks) (fun _ _ q=>H0 _ q) (Ia _) (lu s.heap I.big);refine wpAny_Dict_walk (knd:=bE X.prog X.w) hall hl h0 h15 (thn (h pins _ σ _ _ I1 (q _ hn)) fun ws s2 ⟨ps,H2,I2,rel,e,kvs,ep,lk,q2⟩=>?_);subst ep;obtain ⟨rs,c,rk⟩:=kA (P:=X.prog) (w:=X.w) rel;obtain ⟨z,hd,nd,o,es,g1,g2,g3,g4⟩:=(show bT X.prog X.w H2 s2.heap s.heap.objs.size (.dD 0 []) from I2.hok _ _ e);have ees:es=#[]:=by
  cases es with
  | mk l=>cases g4;rfl
 subst ees;have dd:s2.heap.DictOf (bE X.prog X.w) s.heap.objs.size []:=⟨o,#[],0,g1,g2,g3,fun e he=>by simp at he,.nil,Ku⟩;refine ⟨rs,c,dd,fun h' dd' hs=>?_⟩;have hz:(eX [] kvs).length<=sizeLine:=by
  have h1:=f6 kvs [];rw [IP] at h1;rw [JX];omega
 have he:∃ q,h'.get? s.heap.objs.size=some q:=let ⟨q,_,_,hq,_⟩:=dd';⟨q,hq⟩
 obtain ⟨ep,new⟩:=DB (H:=upd H2 s.heap.objs.size (.dD 0 [])) hz hd (rk.merge .nil) dd';exact ⟨.ref s.heap.objs.size,_,nR I2 (by rw [e];exact True.intro) hs he (ob:=.dD ep ((eX [] kvs).map cvK)) new,rfl,q2 ep⟩
end
noncomputable def qk (xs:List (PyData×V×V)) (k:PyData):Option V:=(xs.find? fun x=>PyData.eqv x.1 k).map (·.2.2)
noncomputable def nv (xs:List (PyData×V×V)) (k:PyData) (j v:V):List (PyData×V×V) :=
 if (xs.any fun x=>PyData.eqv x.1 k)=true then xs.map (fun x=>if PyData.eqv x.1 k=true then (x.1,x.2.1,v) else x) else xs++[(k,j,v)]
def jo (h:Heap) (xs:List (PyData×V×V)):Prop:=∀ x∈xs,kyB x.1=true/\∀ u,RelV x.2.1 u->∃ bs,Reads h u x.1 bs
section
variable {X:Cx} {pins:List (Addr×Obj)} {σ:St} {H:Hp} {s:Shared} {a:Addr} {A:Around} {E:Value->Shared->Prop} {ep:Nat} {xs:List (PyData×V×V)} {k:PyData} {u:Value} {as:List Addr}
theorem gA {α β:Type} {R:α->β->Prop}:∀ {l:List α} {m:List β},Paired R l m->∀ (j:Nat) (x:α),l[j]?=some x->∃ y,m[j]?=some y/\R x y
 | _,_,.nil,j,x,e=>by simp at e
 | _,_,.cons r t,0,x,e=>by simp at e;subst e;exact ⟨_,rfl,r⟩
 | _,_,.cons r t,j+1,x,e=>by simpa using gA t j x (by simpa using e)
theorem sH {P:Program} {w:World} {h:Heap} {es:Array DictEntry} (kr:jo h xs) (nd:(xs.map (·.1)).Nodup) (r:Paired (yz w) xs es.toList):zC w h es (xs.map (·.1)) where
 len:=by rw [HS,Kh r];simp
 nd:=nd
 at_:=fun j k e=>by
  rw [H9] at e;obtain ⟨x,hx,rfl⟩:=Ic.mp e;obtain ⟨en,h1,h2,h3,h4⟩:=gA r j x hx;obtain ⟨k1,k2⟩:=kr x (Iz hx);obtain ⟨bs,r1⟩:=k2 _ h3;exact ⟨k1,en,bs,by simpa using h1,h2,r1⟩
theorem sZ {j:Nat} (kr:jo s.heap xs) (nd:(xs.map (·.1)).Nodup) (ky:kyB k=true) (hj:(xs.map (·.1))[j]?=some k):∃ x,xs[j]?=some x/\x.1=k/\xs.find? (fun x=>PyData.eqv x.1 k)=some x:=by
 rw [H9] at hj;obtain ⟨x,hx,rfl⟩:=Ic.mp hj;refine ⟨x,hx,rfl,?_⟩;rw [List.find?_eq_some_iff_getElem];obtain ⟨hl,e⟩:=HX.mp hx;refine ⟨(g9 _ _ (aE.mp ky).1 (aE.mp ky).1).mpr rfl,j,hl,e,fun i hi=>?_⟩;have hil:i < xs.length:=by omega
 cases q:PyData.eqv xs[i].1 x.1 with
 | false=>rfl
 | true =>
  have z:=(g9 _ _ (aE.mp (kr _ (List.getElem_mem hil)).1).1 (aE.mp ky).1).mp q;have e1:(xs.map (·.1))[i]?=some x.1:=by rw [H9,HZ hil,Option.map_some,z]
  have e2:(xs.map (·.1))[j]?=some x.1:=by rw [H9,hx];rfl
  have:=(List.getElem?_inj (by rw [HS];exact hil) nd).mp (e1.trans e2.symm);omega
theorem tX (kr:jo s.heap xs) (ky:kyB k=true) (h:∀ j:Nat,(xs.map (·.1))[j]?≠some k):xs.find? (fun x=>PyData.eqv x.1 k)=none:=by
 rw [List.find?_eq_none];intro x hx q;have z:=(g9 _ _ (aE.mp (kr x hx).1).1 (aE.mp ky).1).mp q;obtain ⟨j,hj⟩:=Js.mp hx;exact h j (by rw [H9,hj,Option.map_some,z])
theorem Bl {Q:Option Value->Shared->Prop} (hu:A.units+6 < cLine) (I:Inv X pins σ H s) (e:H a=some (.dD ep xs)) (kr:jo s.heap xs) (hk:Reads s.heap u k as) (ky:kyB k=true)
  (q:∀ t ov,FH (qk xs k) ov->Q ov { s with toks:=t }):wpAny (model X.prog X.w) A (dictGet a u) Q E s:=by
 obtain ⟨z,hd,nd,o,es,g1,g2,g3,g4⟩:=(show bT X.prog X.w H s.heap a (.dD ep xs) from I.hok _ _ e);unfold dictGet;refine II (HU (wg 6 hk (aE.mp ky).1 (aE.mp ky).2.2 hu fun t=>?_));refine HU (wj (s:={ s with toks:=t }) hu hk ky g1 g3 (sH (P:=X.prog) kr nd g4) (fun hno=>?_) fun j hj=>?_)
 ·refine HV (q _ _ ?_);unfold qk;rw [tX (s:=s) kr ky hno];exact True.intro
 ·obtain ⟨x,hx,e1,e2⟩:=sZ (s:=s) kr nd ky hj;obtain ⟨en,h1,h2,h3,h4⟩:=gA g4 j x hx;refine HU (Kx (s:={ s with toks:=t }) g1 g3 (HV (q _ _ ?_)));unfold qk;rw [e2,show es[j]?=some en by simpa using h1];exact h4
theorem jl (I:Inv X pins σ H s) (e:H a=some (.dD ep xs)):s.TypeIs (.ref a) "dict" /\ (a==sysModules)=false:=by
 obtain ⟨z,hd,nd,o,es,g1,g2,g3,g4⟩:=(show bT X.prog X.w H s.heap a (.dD ep xs) from I.hok _ _ e);exact ⟨⟨o,g1,g2.1⟩,hd⟩
theorem BV {v:V} {Q:Value->Shared->Prop} (hu:A.units+7 < cLine) (I:Inv X pins σ H s) (e:H a=some (.dD ep xs)) (kr:jo s.heap xs) (hk:Reads s.heap u k as) (ky:kyB k=true) (hv:qk xs k=some v)
  (q:∀ t w',RelV v w'->Q w' { s with toks:=t }):wpAny (model X.prog X.w) A (getItem (.ref a) u) Q E s:=by
 obtain ⟨T,_⟩:=jl I e;unfold getItem;refine II (HU (wpAny_sequenceKey T (by decide) (HU (Jk (name:=Str.ofString "__getitem__") T slot_dict_getitem (IZ slot_dict_getitem T entry_dict_getitem ?_ (args_dict_getitem _ _))))));refine HU (m:=dictGet a u) (Bl (by have:A.in1.units=A.units+1:=rfl;omega) I e kr hk ky fun t ov r=>?_);rw [hv] at r;cases ov with
 | none=>cases r
 | some w'=>exact HV ⟨w',rfl,HV (q t w' r)⟩
theorem CU {Q:Bool->Shared->Prop} (hu:A.units+7 < cLine) (I:Inv X pins σ H s) (e:H a=some (.dD ep xs)) (kr:jo s.heap xs) (hk:Reads s.heap u k as) (ky:kyB k=true)
  (q:∀ t,Q (qk xs k).isSome { s with toks:=t }):wpAny (model X.prog X.w) A (contains (.ref a) u) Q E s:=by
 obtain ⟨T,hd⟩:=jl I e;unfold contains;refine II (HU (J3 T slot_dict_contains.lookup ?_));show wpAny _ _ (if (some (Value.builtin "dict.__contains__")==some Value.none)=true then _ else _) _ E s;rw [Iv (by rw [beq_builtin_none];exact I0)];refine HU (wpAny_callSpecialUnlessNone?_slot (name:=Str.ofString "__contains__") T slot_dict_contains (IZ slot_dict_contains T entry_dict_contains ?_ (args_dict_contains _ _)));refine HU (m:=dictGet a u) (Bl (by have:A.in1.units=A.units+1:=rfl;omega) I e kr hk ky fun t ov r=>?_);cases hv:qk xs k with
 | some v =>
  rw [hv] at r;cases ov with
  | none=>cases r
  | some w' =>
   show wpAny _ _ (ret (.bool true)) _ _ _;have:=q t;rw [hv] at this;exact HV ⟨_,rfl,Jf this⟩
 | none =>
  rw [hv] at r;cases ov with
  | some w'=>cases r
  | none =>
   show wpAny _ _ (Builtin.Dict.pendingKey? a u>>=_) _ _ _;have:=q t;rw [hv] at this;exact HU (wpAny_pendingKey_other hd (HV ⟨_,rfl,Jf this⟩))
theorem p0 {j v:V}:(nv xs k j v).length<=xs.length+1:=by
 unfold nv;split
 ·rw [HS];omega
 ·rw [HY];exact Ia _
theorem pI {j v:V} (h:xs.find? (fun x=>PyData.eqv x.1 k)=none):nv xs k j v=xs++[(k,j,v)]:=by
 unfold nv;rw [Iv];rw [Jb];rintro ⟨x,hx,q⟩;exact absurd q (by simpa using List.find?_eq_none.mp h x hx)
theorem o5 {j v:V} {x:PyData×V×V} (h:xs.find? (fun x=>PyData.eqv x.1 k)=some x):nv xs k j v=xs.map (fun x=>if PyData.eqv x.1 k=true then (x.1,x.2.1,v) else x):=by
 unfold nv;rw [Io];rw [Jb];exact ⟨x,Jg h,by simpa using Ko h⟩
theorem rp {w:World} {h:Heap} {v:V} {r:Value} (ky:kyB k=true) (rv:RelV v r):∀ {xs:List (PyData×V×V)} {es:List DictEntry} {i:Nat},jo h xs->(xs.map (·.1)).Nodup->(xs.map (·.1))[i]?=some k->Paired (yz w) xs es ->
  Paired (yz w) (xs.map (fun x=>if PyData.eqv x.1 k=true then (x.1,x.2.1,v) else x)) (es.modify i fun e=>{ e with val:=r })
 | [],es,i,_,_,hi,_=>by simp at hi
 | x :: xs,es,i,kr,nd,hi,p=>by
  cases p with
  | @cons _ e _ es' h1 h2 =>
   have ky':=(kr x Ip).1;rw [List.map_cons,IY] at nd;have off:∀ {ys:List (PyData×V×V)} {fs:List DictEntry},k ∉ ys.map (·.1)->jo h ys->Paired (yz w) ys fs->Paired (yz w) (ys.map (fun x=>if PyData.eqv x.1 k=true then (x.1,x.2.1,v) else x)) fs:=by
    intro ys fs hn kr' q;have:(ys.map (fun x=>if PyData.eqv x.1 k=true then (x.1,x.2.1,v) else x))=ys:=by
     refine (List.map_congr_left fun y hy=>?_).trans (List.map_id _);rw [Iv]
     ·rfl
     ·intro z;exact hn (Ij.mpr ⟨y,hy,(g9 _ _ (aE.mp (kr' y hy).1).1 (aE.mp ky).1).mp z⟩)
    rw [this];exact q
   cases i with
   | zero =>
    simp at hi;subst hi;rw [List.map_cons,Io ((g9 _ _ (aE.mp ky).1 (aE.mp ky).1).mpr rfl)];exact .cons ⟨h1.1,h1.2.1,rv⟩ (off nd.1 (fun y hy=>kr y (Ie _ hy)) h2)
   | succ i =>
    have hi':(xs.map (·.1))[i]?=some k:=by simpa using hi
    have ne:x.1≠k:=fun z=>nd.1 (by rw [z];exact Iz hi');rw [List.map_cons,Iv fun z=>ne ((g9 _ _ (aE.mp ky').1 (aE.mp ky).1).mp z)];exact .cons h1 (rp ky rv (fun y hy=>kr y (Ie _ hy)) nd.2 hi' h2)
theorem Cu {j v:V} {r:Value} {Q:Unit->Shared->Prop} (hu:A.units+6 < cLine) (I:Inv X pins σ H s) (e:H a=some (.dD ep xs)) (kr:jo s.heap xs) (hk:Reads s.heap u k as) (ky:kyB k=true) (rj:RelV j u) (rv:RelV v r) (hl:xs.length < sizeLine)
  (q:∀ ep' s',Inv X pins σ (upd H a (.dD ep' (nv xs k j v))) s'->(∀ b o,b≠a->s.heap.get? b=some o->s'.heap.get? b=some o)->Q () s'):wpAny (model X.prog X.w) A (dictSet a u r) Q E s:=by
 obtain ⟨T,hd⟩:=jl I e;obtain ⟨z,_,nd,o,es,g1,g2,g3,g4⟩:=(show bT X.prog X.w H s.heap a (.dD ep xs) from I.hok _ _ e);have hsz:es.size=xs.length:=by rw [Kh g4];simp
 unfold dictSet dictSetHashed;refine II (HU (wg 6 hk (aE.mp ky).1 (aE.mp ky).2.2 hu fun t=>II ?_));have hl':(nv xs k j v).length<=sizeLine:=by have:=p0 (xs:=xs) (k:=k) (j:=j) (v:=v);omega
 refine HU (wj (s:={ s with toks:=t }) hu hk ky g1 g3 (sH (P:=X.prog) kr nd g4) (fun hno=>?_) fun i hi=>?_)
 ·have fn:=tX (s:=s) kr ky hno;refine HU (JJ (wpAny_updateDictKeys (s:={ s with toks:=t }) (hz:=by omega) g1 g3 (q (ep+1) _ (nR (t':=t) (I.tok t) (by rw [e];exact True.intro) (J0 ..) ⟨_,Jh _ g1 (Obj.isFreed_of_dict (Obj.data_mapDictKeys g3 _))⟩ ?_) fun b o hb e=>(Kd _ _ (Ne.symm hb)).trans e)));refine ⟨hl',hd,?_,_,_,Jh _ g1 (Obj.isFreed_of_dict (Obj.data_mapDictKeys g3 _)),g2.mapDictKeys _,Obj.data_mapDictKeys g3 _,?_⟩
  ·rw [pI fn,Ig,Jy];refine ⟨nd,by simp,fun y hy z hz=>?_⟩;simp only [List.map_cons,List.map_nil,Ib] at hz;subst hz;rintro rfl;obtain ⟨i,hi⟩:=Js.mp hy;exact hno i hi
  ·rw [pI fn,Ke];exact Paired.snoc g4 ⟨rfl,rj,rv⟩
 ·obtain ⟨x,hx,e1,e2⟩:=sZ (s:=s) kr nd ky hi;refine HU (JJ (HU (wpAny_updateDict (s:={ s with toks:=t }) g1 g3 (wpAny_point (q ep _ (nR (t':=t) (I.tok t) (by rw [e];exact True.intro) (J0 ..) ⟨_,Jh _ g1 (Obj.isFreed_of_dict (Obj.data_mapDict g3 _))⟩ ?_) fun b o hb e=>(Kd _ _ (Ne.symm hb)).trans e)))));refine ⟨hl',hd,?_,_,_,Jh _ g1 (Obj.isFreed_of_dict (Obj.data_mapDict g3 _)),g2.mapDict _,Obj.data_mapDict g3 _,?_⟩
  ·rw [o5 e2,IW];have:(xs.map ((fun x:PyData×V×V=>x.1)∘fun y=>if PyData.eqv y.1 k=true then (y.1,y.2.1,v) else y))=xs.map (·.1):=List.map_congr_left fun y _=>by
    show (if PyData.eqv y.1 k=true then (y.1,y.2.1,v) else y).1=y.1;split <;> rfl
   rw [this];exact nd
  ·rw [o5 e2,Array.toList_modify];exact rp ky rv kr nd hi g4
theorem EZ {j v:V} {r:Value} {Q:Unit->Shared->Prop} (hu:A.units+7 < cLine) (I:Inv X pins σ H s) (e:H a=some (.dD ep xs)) (kr:jo s.heap xs) (hk:Reads s.heap u k as) (ky:kyB k=true) (rj:RelV j u) (rv:RelV v r) (hl:xs.length < sizeLine)
  (q:∀ ep' s',Inv X pins σ (upd H a (.dD ep' (nv xs k j v))) s'->Q () s'):wpAny (model X.prog X.w) A (setItem (.ref a) u r) Q E s:=by
 obtain ⟨T,hd⟩:=jl I e;unfold setItem;refine II (HU (wpAny_sequenceKey T (by decide) (HU (Jk (name:=Str.ofString "__setitem__") T slot_dict_setitem (IZ slot_dict_setitem T entry_dict_setitem ?_ (args_dict_setitem _ _ _))))));refine HU (m:=Builtin.Dict.notOrdered "__setitem__" ⟨[.ref a,u,r],[]⟩) (wpAny_notOrdered_dict T ?_);exact HU (m:=dictSet a u r) (Cu (by have:A.in1.units=A.units+1:=rfl;omega) I e kr hk ky rj rv hl fun ep' s' I' _=>HV ⟨.none,rfl,HV (q ep' s' I')⟩)
end
open PySem PySem.Spec PyProof.Rows
section
variable {P:Program} {w:World} {A:Around} {E:Value->Shared->Prop} {s:Shared} {it d:Addr} {o od:Obj} {es:Array DictEntry} {i ep:Nat}
theorem Cv {Q:Value->Shared->Prop} (hd:(d==sysModules)=false) (g1:s.heap.get? d=some od) (g2:od.ExactDict) (g3:od.data=.dict es ep)
  (q:Q (.ref s.heap.objs.size) { s with heap:=s.heap.push { cls:=.type "dict_keyiterator", data:=.fields #[.ref d,.int 0 0,.int es.size 0,.int ep 0] } }):wpAny (model P w) A (pyIter (.ref d)) Q E s:=by
 have T:s.TypeIs (.ref d) "dict" := ⟨od,g1,g2.1⟩;refine wpAny_pyIter_slot T F.slot_dict_iter (IZ F.slot_dict_iter T F.entry_dict_iter ?_ (F.args_dict_iter_1 _));unfold Builtin.«dict.__iter__» Builtin.Dict.dictSlotNone
 refine HU (HU (wpAny_notOrdered_dict T ?_));show wpAny _ _ (pure (Value.ref d):Sem Value) _ _ s;refine HV ?_;show wpAny _ _ (Builtin.Dict.showsAll d>>=_) _ _ s;unfold Builtin.Dict.showsAll;rw [Iv (by rw [hd];exact I0)];refine HU (HV (HU (Kx g1 g3 (HU (Jv g1 g3 ?_)))));exact HU (IU (HV ⟨_,rfl, "dict_keyiterator", _,⟨_,Iq _ rfl,rfl⟩,Kp.lookup,q⟩))
theorem Bj {Q:Option Value->Shared->Prop} (hit:s.heap.IsKeyIter it d i es.size ep) (g1:s.heap.get? d=some od) (g3:od.data=.dict es ep) {e:DictEntry} (he:es[i]?=some e)
  (q:∀ h',h'.IsKeyIter it d (i+1) es.size ep->Heap.SameBut it s.heap h'->Q (some e.key) { s with heap:=h' }):wpAny (model P w) A (pyNext (.ref it)) Q E s:=by
 obtain ⟨ob,ho,hc,hd⟩:=id hit;have T:=hit.typeIs;unfold pyNext;refine HU (wpAny_attempt (Jk (name:=Str.ofString "__next__") T Kp (IZ Kp T F.entry_dict_keyiterator_next ?_ (F.args_dict_keyiterator_next_1 _))));refine HU (HV (HU (HU ?_)));first | refine HU (Kj T (HV (HU (Ks ho hd ?_)))) | refine HU (Ky T (HV (HU (Ks ho hd ?_))))
 simp only [show Builtin.Dict_items.ownsTuple "dict_keyiterator" = false by decide,JL,JM];show wpAny _ _ (if (Value.ref d==Value.none)=true then _ else _) _ _ s;rw [Iv (show ¬((Value.ref d==Value.none)=true) from I0)];refine HU (HV (HU (Kx g1 g3 ?_)));rw [Iv (by simp)];refine HU (HV (HU (Jv g1 g3 ?_)));rw [Iv (by simp)];refine HV ?_;simp only [show ¬((i:Int) < 0) from by omega,JM,JV,he];refine HU ?_;first | refine HU (Kj T (HV (HU (wpAny_isOneOf_keyiter T ?_)))) | refine HU (Ky T (HV (HU (wpAny_isOneOf_keyiter T ?_))))
 show wpAny _ _ (setField (.ref it) 1 (rawInt ((i:Int)+1))>>=_) _ _ s;have hit':(s.heap.update it (Obj.mapFields (·.setIfInBounds 1 (rawInt ((i:Int)+1))))).IsKeyIter it d (i+1) es.size ep :=
  ⟨_,Jh _ ho (Obj.isFreed_of_fields (Obj.data_mapFields hd _)),(Obj.cls_mapFields ..).trans hc,by rw [Obj.data_mapFields hd];simp [rawInt]⟩
 refine HU (wpAny_setField ho hd (by simp) (HU (II ?_)));refine HU (wpAny_isOneOf_keyiter (s:={ s with heap:=s.heap.update it (Obj.mapFields (·.setIfInBounds 1 (rawInt ((i:Int)+1)))) }) hit'.typeIs ?_);show wpAny _ _ (pure e.key:Sem Value) _ _ _;exact HV (HV ⟨_,rfl,HV (q _ hit' (J0 ..))⟩)
theorem FA {Q:Option Value->Shared->Prop} (hh:A.handled=none) (hit:s.heap.IsKeyIter it d i es.size ep) (g1:s.heap.get? d=some od) (g3:od.data=.dict es ep) (he:es.size<=i)
  (q:∀ h',Heap.ExtBut it s.heap h'->Q none { s with heap:=h' }):wpAny (model P w) A (pyNext (.ref it)) Q E s:=by
 obtain ⟨ob,ho,hc,hd⟩:=id hit;have T:=hit.typeIs;unfold pyNext;refine HU (wpAny_attempt (Jk (name:=Str.ofString "__next__") T Kp (IZ Kp T F.entry_dict_keyiterator_next ?_ (F.args_dict_keyiterator_next_1 _))));refine HU (HV (HU (HU ?_)));first | refine HU (Kj T (HV (HU (Ks ho hd ?_)))) | refine HU (Ky T (HV (HU (Ks ho hd ?_))))
 simp only [show Builtin.Dict_items.ownsTuple "dict_keyiterator" = false by decide,JL,JM];show wpAny _ _ (if (Value.ref d==Value.none)=true then _ else _) _ _ s;rw [Iv (show ¬((Value.ref d==Value.none)=true) from I0)];refine HU (HV (HU (Kx g1 g3 ?_)));rw [Iv (by simp)];refine HU (HV (HU (Jv g1 g3 ?_)));rw [Iv (by simp)];refine HV ?_;simp only [show ¬((i:Int) < 0) from by omega,JM,JV,Array.getElem?_eq_none he];refine HU ?_;first | refine HU (Kj T (HV ?_)) | refine HU (Ky T (HV ?_))
 show wpAny _ _ (setField (.ref it) 0 .none>>=_) _ _ s;refine HU (wpAny_setField ho hd (by simp) ?_);show wpAny _ _ (newExc (.type "StopIteration") []>>=_) _ _ _;refine HU ?_;simp only [newExc,newTuple];refine HU (IU (HU (m:=firstArgMember _ _) (wpAny_of_eq (a:=Value.none) (by first | rfl | (simp only [firstArgMember];rfl)) (IU ?_ (by size_fits)))) (by size_fits));simp only [raiseNew];refine HU (wpAny_handled ?_);rw [show A.in1.handled=none from hh];refine HU (HV (wpAny_throw ?_));refine HU (wpAny_isInstance (b:=true) (T := "StopIteration") ⟨_,Iq _ rfl,rfl⟩ isSubtype_stop ?_);exact HV (q _ (((J0 ..).extBut.push _).push _))
end
def Itd (a:Addr) (ep:Nat) (xs:List (PyData×V×V)):It :=
 ⟨fun i H=>H a=some (.dD ep xs)/\i < xs.length,fun i H x H'=>H'=H/\(xs[i]?).map (·.2.1)=some x,fun i H=>H a=some (.dD ep xs)/\xs.length<=i⟩
theorem vt {P:Program} {w:World} {K:Fg} {tg:Expr} (a it:Addr) (ep:Nat) (xs:List (PyData×V×V)):Turn P w K tg (Itd a ep xs) [it] it (fun i h=>h.IsKeyIter it a i xs.length ep) where
 mem:=by simp
 obj:=fun i h st b hb=>by
  have e:b=it:=by simpa using hb
  subst e;obtain ⟨o,e,c,d⟩:=st;exact ⟨o,e,fun v z=>by rw [d] at z;cases z⟩
 keep:=fun i h h' st k=>let ⟨o,e,r⟩:=st;⟨o,k it (by simp) o e,r⟩
 item:=by
  intro X hP hw hK hc i pins s σ H E I hf st hg;subst hP hw hK;obtain ⟨f0,f1,f2,f3,f4,f5⟩:=hf it (by simp);obtain ⟨z,hd,nd,o,es,g1,g2,g3,g4⟩:=(show bT X.prog X.w H s.heap a (.dD ep xs) from I.hok _ _ hg.1);have hsz:es.size=xs.length:=by rw [Kh g4];simp
  have hlt:i < xs.length:=hg.2;obtain ⟨en,h1,h2,h3,h4⟩:=gA g4 i xs[i] (HZ hlt);refine Bj (by rw [hsz];exact st) g1 g3 (show es[i]?=some en by simpa using h1) fun h' st' sb=>?_;have I1:Inv X pins σ H { s with heap:=h' }:=I.turned (t':=s.toks) (fun b o hb e=>(sb.2 b hb).trans e) f0 f1 f3 f4 f5;rw [hsz] at st';obtain ⟨o2,e2,c2,d2⟩:=id st';exact ⟨en.key,rfl,u7 (s:={ s with heap:=h' }) e2 c2 d2 (by decide) ⟨xs[i].2.1,H,I1,h3,⟨rfl,by rw [HZ hlt];rfl⟩,st',fun b hb=>(hf b hb).1⟩⟩
 done:=by
  intro X hP hw hK hc i pins s σ H E I hf st hg;subst hP hw hK;obtain ⟨f0,f1,f2,f3,f4,f5⟩:=hf it (by simp);obtain ⟨z,hd,nd,o,es,g1,g2,g3,g4⟩:=(show bT X.prog X.w H s.heap a (.dD ep xs) from I.hok _ _ hg.1);have hsz:es.size=xs.length:=by rw [Kh g4];simp
  exact FA (I.ok.hd hc) (by rw [hsz];exact st) g1 g3 (by rw [hsz];exact hg.2) fun h' eb=>⟨rfl,I.turned (t':=s.toks) (fun b o hb e=>eb b o hb e) f0 f1 f3 f4 f5⟩
 self:=fun A i s Q E st h=>by
  refine wpAny_pyIter_slot st.typeIs F.slot_dict_keyiterator_iter (IZ F.slot_dict_keyiterator_iter st.typeIs F.entry_dict_keyiterator_iter ?_ (F.args_dict_keyiterator_iter_1 _));show wpAny _ _ (ret (.ref it)) _ _ s;exact HV ⟨_,rfl, "dict_keyiterator", _,st.typeIs,Kp.lookup,h⟩
def Fy (tl:TE):TI:=fun σ H R=>tl σ H fun x H1=>∃ a ep xs,x=.ref a/\H1 a=some (.dD ep xs)/\R (Itd a ep xs) H1
theorem AY {X:Cx} {tg l:Expr} {tl:TE} (hl:PE X l tl):PI X tg l (Fy tl):=by
 intro pins s σ H R I h;refine thn (hl pins s σ H _ I h) fun v s1 ⟨x,H1,I1,r1,a,ep,xs,e,ea,q⟩=>?_;subst e;cases r1;obtain ⟨z,hd,nd,o,es,g1,g2,g3,g4⟩:=(show bT X.prog X.w H1 s1.heap a (.dD ep xs) from I1.hok _ _ ea);have hsz:es.size=xs.length:=by rw [Kh g4];simp
 refine Cv hd g1 g2 g3 ⟨s1.heap.objs.size,[s1.heap.objs.size],_,_,H1,rfl,I1.kept (t':=s1.toks) fun b o e=>H0 _ e,vt a _ ep xs,⟨_,Iq _ rfl,rfl,by rw [<- hsz];rfl⟩,fun b hb=>?_,q⟩;have e:b=s1.heap.objs.size:=by simpa using hb
 subst e;exact I1.zM (Ia _) (I1.hok.fresh (Ia _))
open PySem PySem.Spec PyProof.Rows
def Itz (K:Fg) (a b:Addr) (xs ys:List V):It :=
 ⟨fun i H=>SqL K H a xs/\SqL K H b ys/\i < xs.length/\i < ys.length,fun i H x H'=>∃ p u v,H p=none/\x=.ref p/\xs[i]?=some u/\ys[i]?=some v/\H'=upd H p (.tup [u,v]),fun i H=>SqL K H a xs/\SqL K H b ys/\(xs.length<=i\/ys.length<=i)⟩
def HD (K:Fg) (t:TA):TI:=fun σ H R=>t σ H fun vs H1=>∃ a b xs ys,vs=[.ref a,.ref b]/\SqL K H1 a xs/\SqL K H1 b ys/\R (Itz K a b xs ys) H1
open PySem PySem.Spec PyProof.Rows
def TkX (xs:List (PyData×V×V)):Prop:=∀ x∈xs,∃ t,x.1=.str t/\x.2.1=.str t
def Iti (a:Addr) (ep:Nat) (xs:List (PyData×V×V)):It :=
 ⟨fun i H=>H a=some (.dD ep xs)/\TkX xs/\i < xs.length,fun i H x H'=>∃ p y,H p=none/\x=.ref p/\xs[i]?=some y/\H'=upd H p (.tup [y.2.1,y.2.2]),fun i H=>H a=some (.dD ep xs)/\TkX xs/\xs.length<=i⟩
def GY (tl:TE):TI:=fun σ H R=>tl σ H fun x H1=>∃ a ep xs,x=.ref a/\H1 a=some (.dD ep xs)/\TkX xs/\R (Iti a ep xs) H1
open PySem
def Ht (K:Fg) (a:Addr) (xs:List V):Prop:=∃ (o:Obj) (its:Array Value) (n:Nat),K.lookup a=some o/\o.cls=.type "list" /\ o.dict=none/\o.data=.seq its n/\its.size<=sizeLine/\Vals xs its.toList
def LsF (K:Fg) (F:Addr->Prop) (H:Hp) (a:Addr) (xs:List V):Prop:=(¬F a/\Rd H a (.lst xs))\/Ht K a xs
mutual
def Dm (K:Fg) (F:Addr->Prop) (H:Hp):PyData->V->Prop
 | .none,v=>v=.non
 | .bool b,v=>v=.bl b
 | .int i,v=>v=.int i
 | .str x,v=>v=.str x/\x.length<=sizeLine/\PyData.strOk x=true
 | .list ds,v=>∃ a xs,v=.ref a/\LsF K F H a xs/\xs.length<=sizeLine/\DmL K F H ds xs
 | .tuple ds,v=>∃ a xs,v=.ref a/\SqT K H a xs/\xs.length<=sizeLine/\DmL K F H ds xs
 | .dict kvs,v=>∃ a ep xs,v=.ref a/\¬F a/\H a=some (.dD ep xs)/\xs.length<=sizeLine/\DmP K F H kvs xs
def DmL (K:Fg) (F:Addr->Prop) (H:Hp):List PyData->List V->Prop
 | [],vs=>vs=[]
 | d :: ds,vs=>∃ v r,vs=v :: r/\Dm K F H d v/\DmL K F H ds r
def DmP (K:Fg) (F:Addr->Prop) (H:Hp):List (PyData×PyData)->List (PyData×V×V)->Prop
 | [],vs=>vs=[]
 | (k,d) :: ds,vs=>∃ j v r,vs=(k,j,v) :: r/\hk6 k=true/\Dm K F H k j/\Dm K F H d v/\DmP K F H ds r
end
noncomputable def Wr:HO->Bool | .lst _=>true | .dD _ _=>true | _=>false
def Pr (F:Addr->Prop) (H H':Hp):Prop:=∀ b o,H b=some o->(¬F b\/Wr o=false)->H' b=some o
section
variable {K:PySem.W.Frag} {F F':Addr->Prop} {H H':Hp}
theorem SqT.pr {a:Addr} {xs:List V} (p:Pr F H H') (h:SqT K H a xs):SqT K H' a xs:=by
 rcases h with (h | ⟨o,h⟩) | h
 ·exact .inl (.inl (p _ _ h (.inr rfl)))
 ·exact .inl (.inr ⟨o,p _ _ h (.inr rfl)⟩)
 ·exact .inr h
theorem LsF.pr {a:Addr} {xs:List V} (p:Pr F H H') (hf:∀ b,F' b->F b) (h:LsF K F H a xs):LsF K F' H' a xs:=by
 rcases h with ⟨n,h | ⟨o,h⟩⟩ | h
 ·exact .inl ⟨fun z=>n (hf _ z),.inl (p _ _ h (.inl n))⟩
 ·exact .inl ⟨fun z=>n (hf _ z),.inr ⟨o,p _ _ h (.inl n)⟩⟩
 ·exact .inr h
mutual
theorem Dm.pr (p:Pr F H H') (hf:∀ b,F' b->F b):∀ {d:PyData} {v:V},Dm K F H d v->Dm K F' H' d v
 | .none,v,h=>h
 | .bool b,v,h=>h
 | .int i,v,h=>h
 | .str x,v,h=>h
 | .list ds,v,h=>by
  obtain ⟨a,xs,e,l,z,r⟩:=h;exact ⟨a,xs,e,l.pr p hf,z,DmL.pr p hf r⟩
 | .tuple ds,v,h=>by
  obtain ⟨a,xs,e,l,z,r⟩:=h;exact ⟨a,xs,e,l.pr p,z,DmL.pr p hf r⟩
 | .dict kvs,v,h=>by
  obtain ⟨a,ep,xs,e,n,l,z,r⟩:=h;exact ⟨a,ep,xs,e,fun q=>n (hf _ q),p _ _ l (.inl n),z,DmP.pr p hf r⟩
theorem DmL.pr (p:Pr F H H') (hf:∀ b,F' b->F b):∀ {ds:List PyData} {vs:List V},DmL K F H ds vs->DmL K F' H' ds vs
 | [],vs,h=>h
 | d :: ds,vs,h=>by
  obtain ⟨v,r,e,h1,h2⟩:=h;exact ⟨v,r,e,Dm.pr p hf h1,DmL.pr p hf h2⟩
theorem DmP.pr (p:Pr F H H') (hf:∀ b,F' b->F b):∀ {ds:List (PyData×PyData)} {vs:List (PyData×V×V)},DmP K F H ds vs->DmP K F' H' ds vs
 | [],vs,h=>h
 | (k,d) :: ds,vs,h=>by
  obtain ⟨j,v,r,e,e2,h0,h1,h2⟩:=h;exact ⟨j,v,r,e,e2,Dm.pr p hf h0,Dm.pr p hf h1,DmP.pr p hf h2⟩
end
theorem LsF.fresh {a c:Addr} {xs:List V} (hc:H c=none) (h:LsF K F H a xs):LsF K (fun b=>F b\/b=c) H a xs:=by
 rcases h with ⟨n,h⟩ | h
 ·refine .inl ⟨fun z=>z.elim n fun e=>?_,h⟩;subst e;rcases h with h | ⟨o,h⟩ <;> (rw [hc] at h;cases h)
 ·exact .inr h
mutual
theorem Dm.fresh {c:Addr} (hc:H c=none):∀ {d:PyData} {v:V},Dm K F H d v->Dm K (fun b=>F b\/b=c) H d v
 | .none,v,h=>h
 | .bool b,v,h=>h
 | .int i,v,h=>h
 | .str x,v,h=>h
 | .list ds,v,h=>by
  obtain ⟨a,xs,e,l,z,r⟩:=h;exact ⟨a,xs,e,l.fresh hc,z,DmL.fresh hc r⟩
 | .tuple ds,v,h=>by
  obtain ⟨a,xs,e,l,z,r⟩:=h;exact ⟨a,xs,e,l,z,DmL.fresh hc r⟩
 | .dict kvs,v,h=>by
  obtain ⟨a,ep,xs,e,n,l,z,r⟩:=h;exact ⟨a,ep,xs,e,fun q=>q.elim n fun q=>(by subst q;rw [hc] at l;cases l),l,z,DmP.fresh hc r⟩
theorem DmL.fresh {c:Addr} (hc:H c=none):∀ {ds:List PyData} {vs:List V},DmL K F H ds vs->DmL K (fun b=>F b\/b=c) H ds vs
 | [],vs,h=>h
 | d :: ds,vs,h=>by
  obtain ⟨v,r,e,h1,h2⟩:=h;exact ⟨v,r,e,Dm.fresh hc h1,DmL.fresh hc h2⟩
theorem DmP.fresh {c:Addr} (hc:H c=none):∀ {ds:List (PyData×PyData)} {vs:List (PyData×V×V)},DmP K F H ds vs->DmP K (fun b=>F b\/b=c) H ds vs
 | [],vs,h=>h
 | (k,d) :: ds,vs,h=>by
  obtain ⟨j,v,r,e,e2,h0,h1,h2⟩:=h;exact ⟨j,v,r,e,e2,Dm.fresh hc h0,Dm.fresh hc h1,DmP.fresh hc h2⟩
end
theorem Pr.refl:Pr F H H:=fun _ _ h _=>h
theorem Pr.trans {H1 H2:Hp} (a:Pr F H H1) (b:Pr F' H1 H2) (hf:∀ b,F' b->F b):Pr F H H2:=fun c o h n=>b c o (a c o h n) (n.imp (fun z q=>z (hf _ q)) id)
theorem Pr.of_same (a:aJ H H'):Pr F H H':=fun c o h _=>a c o h
theorem Dm.mono (hf:∀ b,F' b->F b) {d:PyData} {v:V} (h:Dm K F H d v):Dm K F' H d v:=h.pr Pr.refl hf
theorem DmL.mono (hf:∀ b,F' b->F b) {d:List PyData} {v:List V} (h:DmL K F H d v):DmL K F' H d v:=h.pr Pr.refl hf
theorem DmL.len:∀ {ds:List PyData} {vs:List V},DmL K F H ds vs->vs.length=ds.length
 | [],vs,h=>by rw [show vs=[] from h];rfl
 | d :: ds,vs,h=>by
  obtain ⟨v,r,e,h1,h2⟩:=h;rw [e,Ik,Ik,DmL.len h2]
theorem DmL.get:∀ {ds:List PyData} {vs:List V} {i:Nat} {d:PyData},DmL K F H ds vs->ds[i]?=some d->∃ v,vs[i]?=some v/\Dm K F H d v
 | [],vs,_,_,h,e=>by simp at e
 | d :: ds,vs,0,d',h,e=>by
  obtain ⟨v,r,e1,h1,h2⟩:=h;simp at e;subst e;subst e1;exact ⟨v,rfl,h1⟩
 | d :: ds,vs,i+1,d',h,e=>by
  obtain ⟨v,r,e1,h1,h2⟩:=h;subst e1;obtain ⟨w,q1,q2⟩:=DmL.get (i:=i) h2 (by simpa using e);exact ⟨w,by simpa using q1,q2⟩
theorem DmL.get' {ds:List PyData} {vs:List V} {i:Nat} {v:V} (h:DmL K F H ds vs) (e:vs[i]?=some v):∃ d,ds[i]?=some d/\Dm K F H d v:=by
 have hl:=h.len;have hi:i < vs.length:=(HX.mp e).1;have hd:ds[i]?=some (ds[i]'(by omega)):=HZ _;obtain ⟨w,e2,q⟩:=h.get hd;rw [e] at e2;cases e2;exact ⟨_,hd,q⟩
theorem DmL.app:∀ {ds es:List PyData} {vs ws:List V},DmL K F H ds vs->DmL K F H es ws->DmL K F H (ds++es) (vs++ws)
 | [],es,vs,ws,h,q=>by rw [show vs=[] from h];exact q
 | d :: ds,es,vs,ws,h,q=>by
  obtain ⟨v,r,e,h1,h2⟩:=h;subst e;exact ⟨v,r++ws,rfl,h1,DmL.app h2 q⟩
theorem DmL.snoc {ds:List PyData} {vs:List V} {d:PyData} {v:V} (h:DmL K F H ds vs) (q:Dm K F H d v):DmL K F H (ds++[d]) (vs++[v]):=h.app ⟨v,[],rfl,q,rfl⟩
def Top (K:PySem.W.Frag) (F:Addr->Prop) (H:Hp):PyData->Addr->Prop
 | .list ds,a=>∃ xs,H a=some (.lst xs)/\xs.length<=sizeLine/\DmL K F H ds xs
 | .dict kvs,a=>∃ ep xs,H a=some (.dD ep xs)/\xs.length<=sizeLine/\DmP K F H kvs xs
 | _,_=>False
def zF (K:PySem.W.Frag) (F:Addr->Prop) (H:Hp):PyData->Addr->Prop
 | .list ds,a=>∃ xs,SqL K H a xs/\xs.length<=sizeLine/\DmL K F H ds xs
 | .dict kvs,a=>∃ ep xs,H a=some (.dD ep xs)/\xs.length<=sizeLine/\DmP K F H kvs xs
 | _,_=>False
def Vw (K:PySem.W.Frag) (F:Addr->Prop) (H:Hp):PyData->V->Prop
 | .list ds,v=>∃ a,v=.ref a/\zF K F H (.list ds) a
 | .dict ds,v=>∃ a,v=.ref a/\zF K F H (.dict ds) a
 | d,v=>Dm K F H d v
theorem Top.r {d:PyData} {a:Addr} (h:Top K F H d a):zF K F H d a:=by
 cases d with
 | list ds=>obtain ⟨xs,e,z,r⟩:=h;exact ⟨xs,.inl (.inl e),z,r⟩
 | dict ds=>exact h
 | _=>exact h
theorem zF.vw {d:PyData} {a:Addr} (h:zF K F H d a):Vw K F H d (.ref a):=by
 cases d with
 | list ds=>exact ⟨a,rfl,h⟩
 | dict ds=>exact ⟨a,rfl,h⟩
 | _=>exact absurd h id
theorem Dm.vw {d:PyData} {v:V} (h:Dm K F H d v):Vw K F H d v:=by
 cases d with
 | list ds =>
  obtain ⟨a,xs,e,l,z,r⟩:=h;refine ⟨a,e,xs,?_,z,r⟩;rcases l with ⟨n,l⟩ | l
  ·exact .inl l
  ·exact .inr l
 | dict ds=>obtain ⟨a,ep,xs,e,n,l,z,r⟩:=h;exact ⟨a,e,ep,xs,l,z,r⟩
 | _=>exact h
theorem Top.dm {d:PyData} {a:Addr} (h:Top K F H d a) (n:¬F a):Dm K F H d (.ref a):=by
 cases d with
 | list ds=>obtain ⟨xs,e,z,r⟩:=h;exact ⟨a,xs,rfl,.inl ⟨n,.inl e⟩,z,r⟩
 | dict ds=>obtain ⟨ep,xs,e,z,r⟩:=h;exact ⟨a,ep,xs,rfl,n,e,z,r⟩
 | _=>exact absurd h id
theorem Top.wr {d:PyData} {a:Addr} (h:Top K F H d a):∃ o,H a=some o/\Wr o=true:=by
 cases d with
 | list ds=>obtain ⟨xs,e,_⟩:=h;exact ⟨_,e,rfl⟩
 | dict ds=>obtain ⟨ep,xs,e,_⟩:=h;exact ⟨_,e,rfl⟩
 | _=>exact absurd h id
theorem Top.pr {d:PyData} {a:Addr} (h:Top K F H d a) (p:Pr F H H') (hf:∀ b,F' b->F b) (ha:∀ o,H a=some o->H' a=some o):Top K F' H' d a:=by
 cases d with
 | list ds=>obtain ⟨xs,e,z,r⟩:=h;exact ⟨xs,ha _ e,z,r.pr p hf⟩
 | dict ds=>obtain ⟨ep,xs,e,z,r⟩:=h;exact ⟨ep,xs,ha _ e,z,r.pr p hf⟩
 | _=>exact absurd h id
theorem Top.fresh {d:PyData} {a c:Addr} (hc:H c=none) (h:Top K F H d a):Top K (fun b=>F b\/b=c) H d a:=by
 cases d with
 | list ds=>obtain ⟨xs,e,z,r⟩:=h;exact ⟨xs,e,z,r.fresh hc⟩
 | dict ds=>obtain ⟨ep,xs,e,z,r⟩:=h;exact ⟨ep,xs,e,z,r.fresh hc⟩
 | _=>exact absurd h id
end
open PySem
def Hs (K:Fg) (tl:TE):TI:=fun σ H R=>vJ K tl σ H R\/Dq K tl σ H R
inductive Sl where | un | dat (d:PyData) | own (d:PyData) | ino (d:PyData) | ro (d:PyData)
abbrev En:=List Sl
inductive RV where | dat (d:PyData) | bor (i:Nat) | frs (d:PyData)
inductive PR where | dat (d:PyData) | frs (d:PyData)
inductive AV where | dat (d:PyData) | bor (i:Nat)
inductive PM where | dat | bor | ino
noncomputable def PR.rv:PR->RV | .dat d=>.dat d | .frs d=>.frs d
noncomputable def RV.av:RV->AV | .dat d=>.dat d | .frs d=>.dat d | .bor i=>.bor i
structure Fn where
 ms:List PM
 F:List PyData->Option (PR×List PyData)
noncomputable def cont (env:En) (i:Nat):Option PyData:=match env[i]? with | some (.own d)=>some d | some (.ino d)=>some d | some (.ro d)=>some d | _=>none
noncomputable def aV (env:En) (i:Nat):Option PyData:=match env[i]? with | some (.own d)=>some d | some (.ino d)=>some d | _=>none
noncomputable def iK (env:En) (i:Nat) (d:PyData):En:=match env[i]? with | some (.own _)=>env.set i (.own d) | some (.ino _)=>env.set i (.ino d) | _=>env
noncomputable def AV.view (env:En):AV->Option PyData | .dat d=>some d | .bor i=>cont env i
noncomputable def RV.view (env:En) (r:RV):Option PyData:=r.av.view env
def mu (env:En) (i:Nat):Prop:=∃ d,env[i]?=some (.own d)\/env[i]?=some (.ino d)
def IA (env:En) (σ:St) (b:Addr):Prop:=∃ i,mu env i/\σ[i]?=some (some (.ref b))
def FF (F0:Addr->Prop) (env:En) (σ:St) (b:Addr):Prop:=F0 b\/∃ (i:Nat) (d:PyData),env[i]?=some (.own d)/\σ[i]?=some (some (.ref b))
def gD (K:Fg) (F I:Addr->Prop) (H:Hp):PyData->Addr->Prop
 | .list ds,a=>∃ xs,LsF K I H a xs/\xs.length<=sizeLine/\DmL K F H ds xs
 | .dict kvs,a=>∃ ep xs,¬I a/\H a=some (.dD ep xs)/\xs.length<=sizeLine/\DmP K F H kvs xs
 | _,_=>False
structure Rel (K:Fg) (F0:Addr->Prop) (H₀:Hp) (I:Addr->Prop) (env:En) (σ:St) (H:Hp):Prop where
 len:env.length=σ.length
 dat:∀ (i:Nat) (d:PyData),env[i]?=some (.dat d)->∃ v,σ[i]?=some (some v)/\Dm K (FF F0 env σ) H d v
 own:∀ (i:Nat) (d:PyData),env[i]?=some (.own d)->∃ a,σ[i]?=some (some (.ref a))/\¬F0 a/\(H₀ a=none\/I a)/\Top K (FF F0 env σ) H d a
 ino:∀ (i:Nat) (d:PyData),env[i]?=some (.ino d)->∃ a,σ[i]?=some (some (.ref a))/\F0 a/\I a/\Top K (FF F0 env σ) H d a
 ro:∀ (i:Nat) (d:PyData),env[i]?=some (.ro d)->∃ a,σ[i]?=some (some (.ref a))/\gD K (FF F0 env σ) (IA env σ) H d a
 sep:∀ i j a,mu env i->mu env j->σ[i]?=some (some (.ref a))->σ[j]?=some (some (.ref a))->i=j
 dom:∀ b,F0 b->H b≠none
 d8:∀ b o,H₀ b=some o->¬I b->H b=some o
section
variable {K:Fg} {F F' I I' F0:Addr->Prop} {H H' H₀:Hp} {env env':En} {σ σ':St}
theorem gD.r {d:PyData} {a:Addr} (h:gD K F I H d a):zF K F H d a:=by
 cases d with
 | list ds =>
  obtain ⟨xs,l,z,r⟩:=h;exact ⟨xs,l.elim (fun q=>.inl q.2) .inr,z,r⟩
 | dict ds=>obtain ⟨ep,xs,n,l,z,r⟩:=h;exact ⟨ep,xs,l,z,r⟩
 | _=>exact absurd h id
theorem gD.pr {d:PyData} {a:Addr} (h:gD K F I H d a) (p:Pr F H H') (hf:∀ b,F' b->F b) (hi:∀ b,I' b->I b) (k:∀ b o,H b=some o->¬I b->H' b=some o):gD K F' I' H' d a:=by
 cases d with
 | list ds =>
  obtain ⟨xs,l,z,r⟩:=h;refine ⟨xs,?_,z,r.pr p hf⟩;rcases l with ⟨n,l | ⟨o,l⟩⟩ | l
  ·exact .inl ⟨fun q=>n (hi _ q),.inl (k _ _ l n)⟩
  ·exact .inl ⟨fun q=>n (hi _ q),.inr ⟨o,k _ _ l n⟩⟩
  ·exact .inr l
 | dict ds=>obtain ⟨ep,xs,n,l,z,r⟩:=h;exact ⟨ep,xs,fun q=>n (hi _ q),k _ _ l n,z,r.pr p hf⟩
 | _=>exact absurd h id
theorem gD.fresh {d:PyData} {a c:Addr} (hc:H c=none) (h:gD K F I H d a):gD K (fun b=>F b\/b=c) I H d a:=by
 cases d with
 | list ds=>obtain ⟨xs,e,z,r⟩:=h;exact ⟨xs,e,z,r.fresh hc⟩
 | dict ds=>obtain ⟨ep,xs,n,e,z,r⟩:=h;exact ⟨ep,xs,n,e,z,r.fresh hc⟩
 | _=>exact absurd h id
theorem Dm.ro {d:PyData} {v:V} (h:Dm K F H d v) (hi:∀ b,I b->F b) (l:(∃ ds,d=.list ds)\/∃ ds,d=.dict ds):∃ a,v=.ref a/\gD K F I H d a:=by
 rcases l with ⟨ds,rfl⟩ | ⟨ds,rfl⟩
 ·obtain ⟨a,xs,e,l,z,r⟩:=h;exact ⟨a,e,xs,l.elim (fun q=>.inl ⟨fun z=>q.1 (hi _ z),q.2⟩) .inr,z,r⟩
 ·obtain ⟨a,ep,xs,e,n,l,z,r⟩:=h;exact ⟨a,e,ep,xs,fun q=>n (hi _ q),l,z,r⟩
theorem Top.ro {d:PyData} {a:Addr} (h:Top K F H d a) (n:¬I a):gD K F I H d a:=by
 cases d with
 | list ds=>obtain ⟨xs,e,z,r⟩:=h;exact ⟨xs,.inl ⟨n,.inl e⟩,z,r⟩
 | dict ds=>obtain ⟨ep,xs,e,z,r⟩:=h;exact ⟨ep,xs,n,e,z,r⟩
 | _=>exact absurd h id
theorem Rel.ia (R:Rel K F0 H₀ I env σ H) {b:Addr} (h:IA env σ b):FF F0 env σ b:=by
 obtain ⟨i,⟨d,e | e⟩,s⟩:=h
 ·exact .inr ⟨i,d,e,s⟩
 ·obtain ⟨a,s',f,_⟩:=R.ino i d e;rw [s] at s';cases s';exact .inl f
theorem Rel.iaT (R:Rel K F0 H₀ I env σ H) {b:Addr} (h:IA env σ b):∃ o,H b=some o/\Wr o=true:=by
 obtain ⟨i,⟨d,e | e⟩,s⟩:=h
 ·obtain ⟨a,s',_,_,t⟩:=R.own i d e;rw [s] at s';cases s';exact t.wr
 ·obtain ⟨a,s',_,_,t⟩:=R.ino i d e;rw [s] at s';cases s';exact t.wr
theorem Rel.iaI (R:Rel K F0 H₀ I env σ H) {b:Addr} (h:IA env σ b):H₀ b=none\/I b:=by
 obtain ⟨i,⟨d,e | e⟩,s⟩:=h
 ·obtain ⟨a,s',_,q,t⟩:=R.own i d e;rw [s] at s';cases s';exact q
 ·obtain ⟨a,s',_,q,t⟩:=R.ino i d e;rw [s] at s';cases s';exact .inr q
theorem Rel.fy (R:Rel K F0 H₀ I env σ H) {b:Addr} (h:FF F0 env σ b):H b≠none:=by
 rcases h with h | ⟨i,d,e,s⟩
 ·exact R.dom b h
 ·obtain ⟨o,q,_⟩:=R.iaT ⟨i,⟨d,.inl e⟩,s⟩;rw [q];exact nofun
theorem Rel.pw (R:Rel K F0 H₀ I env σ H) (k:∀ b o,H b=some o->¬IA env σ b->H' b=some o):Pr (FF F0 env σ) H H':=fun b o h n=>k b o h fun q=>by
 rcases n with n | n
 ·exact n (R.ia q)
 ·obtain ⟨o',h',w⟩:=R.iaT q;rw [h] at h';cases h';rw [n] at w;cases w
theorem Rel.rebase (R:Rel K F0 H₀ I env σ H):Rel K F0 H (IA env σ) env σ H :=
 ⟨R.len,R.dat,fun i d e=>let ⟨a,s,n,_,t⟩:=R.own i d e;⟨a,s,n,.inr ⟨i,⟨d,.inl e⟩,s⟩,t⟩,fun i d e=>let ⟨a,s,n,_,t⟩:=R.ino i d e;⟨a,s,n,⟨i,⟨d,.inr e⟩,s⟩,t⟩,R.ro,R.sep,R.dom,fun _ _ h _=>h⟩
theorem Rel.oi (R:Rel K F0 H₀ I env σ H) {a:Addr} (h:H a=none\/IA env σ a):H₀ a=none\/I a:=by
 rcases h with h | h
 ·cases e:H₀ a with
  | none=>exact .inl rfl
  | some o =>
   by_cases z:I a
   ·exact .inr z
   ·have:=R.d8 a o e z;rw [h] at this;cases this
 ·exact R.iaI h
theorem Rel.bz (R:Rel K F0 H₀ I env σ H) (S:Rel K F0 H (IA env σ) env' σ' H'):Rel K F0 H₀ I env' σ' H':=by
 refine ⟨S.len,S.dat,fun i d e=>?_,fun i d e=>?_,S.ro,S.sep,S.dom,fun b o h n=>?_⟩
 ·obtain ⟨a,s,n,q,t⟩:=S.own i d e;exact ⟨a,s,n,R.oi q,t⟩
 ·obtain ⟨a,s,n,q,t⟩:=S.ino i d e;refine ⟨a,s,n,?_,t⟩;obtain ⟨j,⟨d',e' | e'⟩,s'⟩:=q
  ·obtain ⟨a',s2,n',_⟩:=R.own j d' e';rw [s'] at s2;cases s2;exact absurd n n'
  ·obtain ⟨a',s2,_,n',_⟩:=R.ino j d' e';rw [s'] at s2;cases s2;exact n'
 ·refine S.d8 b o (R.d8 b o h n) fun q=>?_;rcases R.iaI q with z | z
  ·rw [h] at z;cases z
  ·exact n z
def Evo:Sl->Sl->Prop
 | .un,s=>s=.un
 | .dat d,s=>s=.dat d
 | .own _,s=>(∃ d,s=.own d)\/(∃ d,s=.dat d)\/s=.un
 | .ino _,s=>∃ d,s=.ino d
 | .ro d,s=>s=.ro d
def KpE (env env':En):Prop:=env'.length=env.length/\∀ (i:Nat) (s:Sl),env[i]?=some s->∃ s',env'[i]?=some s'/\Evo s s'
theorem Evo.refl:∀ s,Evo s s
 | .un=>rfl
 | .dat _=>rfl
 | .own d=>.inl ⟨d,rfl⟩
 | .ino d=>⟨d,rfl⟩
 | .ro _=>rfl
theorem Evo.trans:∀ {a b c:Sl},Evo a b->Evo b c->Evo a c
 | .un,b,c,h,q=>by rw [show b=.un from h] at q;exact q
 | .dat d,b,c,h,q=>by rw [show b=.dat d from h] at q;exact q
 | .own d,b,c,h,q=>by
  rcases h with ⟨d,rfl⟩ | ⟨d,rfl⟩ | rfl
  ·exact q
  ·exact .inr (.inl ⟨d,q⟩)
  ·exact .inr (.inr q)
 | .ino d,b,c,h,q=>by obtain ⟨d,rfl⟩:=h;exact q
 | .ro d,b,c,h,q=>by rw [show b=.ro d from h] at q;exact q
theorem KpE.refl (env:En):KpE env env:=⟨rfl,fun i s e=>⟨s,e,.refl s⟩⟩
theorem KpE.trans {e1 e2 e3:En} (a:KpE e1 e2) (b:KpE e2 e3):KpE e1 e3:=⟨b.1.trans a.1,fun i s e=>by
 obtain ⟨s1,h1,v1⟩:=a.2 i s e;obtain ⟨s2,h2,v2⟩:=b.2 i s1 h1
 exact ⟨s2,h2,v1.trans v2⟩⟩
theorem KpE.back (k:KpE env env') {i:Nat} {s':Sl} (e:env'[i]?=some s'):∃ s,env[i]?=some s/\Evo s s':=by
 have hi:i < env'.length:=(HX.mp e).1;have:env[i]?=some (env[i]'(by rw [<- k.1];exact hi)):=HZ _;obtain ⟨s2,h2,v⟩:=k.2 i _ this;rw [e] at h2;cases h2;exact ⟨_,this,v⟩
theorem KpE.own (k:KpE env env') {i:Nat} {d:PyData} (e:env'[i]?=some (.own d)):∃ d',env[i]?=some (.own d'):=by
 obtain ⟨s,h,v⟩:=k.back e;cases s with
 | un=>cases v
 | dat _=>cases v
 | own d'=>exact ⟨d',h⟩
 | ino _=>obtain ⟨_,v⟩:=v;cases v
 | ro _=>cases v
theorem KpE.ff (k:KpE env env') {b:Addr} (h:FF F0 env' σ b):FF F0 env σ b:=by
 rcases h with h | ⟨i,d,e,s⟩
 ·exact .inl h
 ·obtain ⟨d',e'⟩:=k.own e;exact .inr ⟨i,d',e',s⟩
theorem KpE.mu (k:KpE env env') {i:Nat} (h:mu env' i):mu env i:=by
 obtain ⟨d,h | h⟩:=h
 ·obtain ⟨d',e⟩:=k.own h;exact ⟨d',.inl e⟩
 ·obtain ⟨s,h,v⟩:=k.back h;cases s with
  | un=>cases v
  | dat _=>cases v
  | own d'=>rcases v with ⟨_,v⟩ | ⟨_,v⟩ | v <;> cases v
  | ino d'=>exact ⟨d',.inr h⟩
  | ro _=>cases v
theorem KpE.ia (k:KpE env env') {b:Addr} (h:IA env' σ b):IA env σ b:=let ⟨i,m,s⟩:=h;⟨i,k.mu m,s⟩
theorem Rel.o7 (R:Rel K F0 H₀ I env σ H) (S:Rel K F0 H (IA env σ) env' σ H') (k:KpE env env') {d:PyData} {v:V} (h:Dm K (FF F0 env σ) H d v):Dm K (FF F0 env' σ) H' d v :=
 h.pr (R.pw fun b o e n=>S.d8 b o e n) fun _ z=>k.ff z
theorem Rel.same (R:Rel K F0 H₀ I env σ H) (s:aJ H H'):Rel K F0 H₀ I env σ H':=by
 have p:Pr (FF F0 env σ) H H':=Pr.of_same s;refine ⟨R.len,fun i d e=>?_,fun i d e=>?_,fun i d e=>?_,fun i d e=>?_,R.sep,fun b h=>?_,fun b o h n=>s _ _ (R.d8 b o h n)⟩
 ·obtain ⟨v,q,r⟩:=R.dat i d e;exact ⟨v,q,r.pr p fun _ z=>z⟩
 ·obtain ⟨a,q,n,w,t⟩:=R.own i d e;exact ⟨a,q,n,w,t.pr p (fun _ z=>z) (fun o z=>s _ _ z)⟩
 ·obtain ⟨a,q,n,w,t⟩:=R.ino i d e;exact ⟨a,q,n,w,t.pr p (fun _ z=>z) (fun o z=>s _ _ z)⟩
 ·obtain ⟨a,q,t⟩:=R.ro i d e;exact ⟨a,q,t.pr p (fun _ z=>z) (fun _ z=>z) (fun b o z _=>s _ _ z)⟩
 ·cases e:H b with
  | none=>exact absurd e (R.dom b h)
  | some o=>rw [s _ _ e];exact nofun
theorem gb {c:Addr}:FF (fun b=>F0 b\/b=c) env σ=fun b=>FF F0 env σ b\/b=c:=by
 funext b;apply propext;constructor
 ·rintro ((h | h) | h)
  ·exact .inl (.inl h)
  ·exact .inr h
  ·exact .inl (.inr h)
 ·rintro ((h | h) | h)
  ·exact .inl (.inl h)
  ·exact .inr h
  ·exact .inl (.inr h)
theorem Rel.fresh (R:Rel K F0 H₀ I env σ H) {c:Addr} (hc:H c=none) {H':Hp} (s:aJ H H') (hc':H' c≠none):Rel K (fun b=>F0 b\/b=c) H₀ I env σ H':=by
 have p:Pr (fun b=>FF F0 env σ b\/b=c) H H':=Pr.of_same s;have na:∀ i a,mu env i->σ[i]?=some (some (.ref a))->a≠c:=fun i a m q z=>by
  obtain ⟨o,h,_⟩:=R.iaT ⟨i,m,q⟩;rw [z,hc] at h;cases h
 refine ⟨R.len,fun i d e=>?_,fun i d e=>?_,fun i d e=>?_,fun i d e=>?_,R.sep,fun b h=>?_,fun b o h n=>s _ _ (R.d8 b o h n)⟩
 ·obtain ⟨v,q,r⟩:=R.dat i d e;rw [gb];exact ⟨v,q,(r.fresh hc).pr p fun _ z=>z⟩
 ·obtain ⟨a,q,n,w,t⟩:=R.own i d e;rw [gb];exact ⟨a,q,fun z=>z.elim n (na i a ⟨d,.inl e⟩ q),w,(t.fresh hc).pr p (fun _ z=>z) (fun o z=>s _ _ z)⟩
 ·obtain ⟨a,q,n,w,t⟩:=R.ino i d e;rw [gb];exact ⟨a,q,.inl n,w,(t.fresh hc).pr p (fun _ z=>z) (fun o z=>s _ _ z)⟩
 ·obtain ⟨a,q,t⟩:=R.ro i d e;rw [gb];exact ⟨a,q,(t.fresh hc).pr p (fun _ z=>z) (fun _ z=>z) (fun b o z _=>s _ _ z)⟩
 ·rcases h with h | h
  ·cases e:H b with
   | none=>exact absurd e (R.dom b h)
   | some o=>rw [s _ _ e];exact nofun
  ·rw [h];exact hc'
theorem Rel.less {c:Addr} (R:Rel K (fun b=>F0 b\/b=c) H₀ I env σ H) (hi:∀ (i:Nat) (d:PyData),env[i]?=some (.ino d)->σ[i]?≠some (some (.ref c))):Rel K F0 H₀ I env σ H:=by
 have hf:∀ b,FF F0 env σ b->FF (fun b=>F0 b\/b=c) env σ b:=fun b z=>by rw [gb];exact .inl z
 refine ⟨R.len,fun i d e=>?_,fun i d e=>?_,fun i d e=>?_,fun i d e=>?_,R.sep,fun b h=>R.dom b (.inl h),R.d8⟩
 ·obtain ⟨v,q,r⟩:=R.dat i d e;exact ⟨v,q,r.mono hf⟩
 ·obtain ⟨a,q,n,w,t⟩:=R.own i d e;exact ⟨a,q,fun z=>n (.inl z),w,t.pr Pr.refl hf fun _ z=>z⟩
 ·obtain ⟨a,q,n,w,t⟩:=R.ino i d e;refine ⟨a,q,?_,w,t.pr Pr.refl hf fun _ z=>z⟩;rcases n with n | n
  ·exact n
  ·exact absurd (n▸q) (hi i d e)
 ·obtain ⟨a,q,t⟩:=R.ro i d e;exact ⟨a,q,t.pr Pr.refl hf (fun _ z=>z) fun _ _ z _=>z⟩
end
open PySem
def xp (K:Fg) (F:Addr->Prop) (H H':Hp):PR->V->Prop
 | .dat d,v=>Dm K F H' d v
 | .frs d,v=>∃ a,v=.ref a/\H a=none/\Top K (fun b=>F b\/b=a) H' d a
def VwL (K:Fg) (F:Addr->Prop) (H:Hp):List PyData->List V->Prop
 | [],vs=>vs=[]
 | d :: ds,vs=>∃ v r,vs=v :: r/\Vw K F H d v/\VwL K F H ds r
structure Cst where
 d:PyData
 v:V
 ok:∀ (K:Fg) (F:Addr->Prop) (H:Hp),Dm K F H d v
def Cst.i (i:Int):Cst:=⟨.int i,.int i,fun _ _ _=>rfl⟩
def Cst.s (x:Str) (h:x.length<=sizeLine) (h2:PyData.strOk x=true):Cst:=⟨.str x,.str x,fun _ _ _=>⟨rfl,h,h2⟩⟩
def Cst.b (b:Bool):Cst:=⟨.bool b,.bl b,fun _ _ _=>rfl⟩
def Cst.n:Cst:=⟨.none,.non,fun _ _ _=>rfl⟩
structure Prm where
 r:Fg->List V->Hp->VK->Prop
 f:List PyData->Option PR
 ok:∀ (K:Fg) (F:Addr->Prop) (H:Hp) (ds:List PyData) (vs:List V) (pr:PR) (Q:VK),f ds=some pr->VwL K F H ds vs->(∀ b,F b->H b≠none)->(∀ v H',aJ H H'->xp K F H H' pr v->Q v H')->r K vs H Q
structure Mtd where
 T:String
 r:Fg->V->List V->Hp->VK->Prop
 ty:PyData->Bool
 f:PyData->List PyData->Option PR
 As:∀ (K:Fg) (F:Addr->Prop) (H:Hp) (d:PyData) (v:V),ty d=true->Vw K F H d v->tyV K T v H
 ok:∀ (K:Fg) (F:Addr->Prop) (H:Hp) (d:PyData) (v:V) (ds:List PyData) (vs:List V) (pr:PR) (Q:VK),f d ds=some pr->Vw K F H d v->VwL K F H ds vs->(∀ b,F b->H b≠none)->(∀ v H',aJ H H'->xp K F H H' pr v->Q v H')->r K v vs H Q
def MvL (K:Fg) (F:Addr->Prop) (H:Hp):List (Bool×PyData)->List V->Prop
 | [],vs=>vs=[]
 | (true,d) :: ds,vs=>∃ v r,vs=v :: r/\Dm K F H d v/\MvL K F H ds r
 | (false,d) :: ds,vs=>∃ v r,vs=v :: r/\Vw K F H d v/\MvL K F H ds r
structure Mtr where
 T:String
 r:Fg->V->List V->Hp->VK->Prop
 ty:PyData->Bool
 f:PyData->List (Bool×PyData)->Option (PyData×PyData)
 As:∀ (K:Fg) (F:Addr->Prop) (H:Hp) (d:PyData) (a:Addr),ty d=true->Top K F H d a->tyV K T (.ref a) H
 ok:∀ (K:Fg) (F:Addr->Prop) (H:Hp) (d:PyData) (a:Addr) (as:List (Bool×PyData)) (vs:List V) (d' x:PyData) (Q:VK),f d as=some (d',x)->F a->Top K F H d a->MvL K F H as vs ->
  (∀ v H',(∀ b o,b≠a->H b=some o->H' b=some o)->Top K F H' d' a->Dm K F H' x v->Q v H')->r K (.ref a) vs H Q
structure wB where
 r:Fg->V->V->V->Hp->(Hp->Prop)->Prop
 f:PyData->PyData->PyData->Option PyData
 ok:∀ (K:Fg) (F:Addr->Prop) (H:Hp) (d:PyData) (a:Addr) (k x:PyData) (vk vx:V) (d':PyData) (Q:Hp->Prop),f d k x=some d'->F a->Top K F H d a->Vw K F H k vk->Dm K F H x vx ->
  (∀ H',(∀ b o,b≠a->H b=some o->H' b=some o)->Top K F H' d' a->Q H')->r K (.ref a) vk vx H Q
mutual
inductive XE where
 | var (i:Nat) | mov (i:Nat) | tke (i:Nat) | cst (c:Cst) | glb (g:Nat)
 | prm (p:Prm) (as:XA) | met (m:Mtd) (o:XE) (as:XA) | mtr (m:Mtr) (i:Nat) (as:XA) | call (f:Fn) (as:XA)
 | tup (as:XA) | lst (as:XA) | dsp (as:XP) | fst (as:XA)
 | ifx (c:XT) (a b:XE) | qN (a b:XE) | orv (a b:XE) | zL (a:XE) | chn (p q:Prm) (a b c:XE) | sl2 (p:Int->Int->Prm) (a b c:XE)
 | cmp (js:List Nat) (it:XI) (c:XT) (e:XE) | yQ (n:List Str) (js:List Nat) (it:XI) (e:XE)
inductive XA where | nil | cons (e:XE) (r:XA)
inductive XP where | nil | cons (k e:XE) (r:XP)
inductive XT where | tst (e:XE) | tru (e:XE) | and (a b:XT) | or (a b:XT) | not (a:XT) | yes
inductive XI where | lst (e:XE) | tup (e:XE) | str (e:XE) | rng1 (as:XA) | rng2 (as:XA) | dct (e:XE) | zip (as:XA) | sq (e:XE) | itm (e:XE)
end
inductive XS where
 | skip | seq (a b:XS) | aK (i:Nat) (e:XE) | pB (i:Nat) (e:XE) | xk (is:List Nat) (e:XE) | drop (e:XE) | ret (e:XE) | CY
 | ifs (c:XT) (a b:XS) | fr (i:Nat) (it:XI) (b:XS) | frT (is:List Nat) (it:XI) (b:XS) | wh (n:Nat) (c:XT) (b:XS) | brk | cnt | nev | sto (m:wB) (i:Nat) (k e:XE)
def gNs:List Nat->TGs
 | []=>Ac
 | i :: r=>qj (cy i) (gNs r)
def gTp (K:PySem.W.Frag) (is:List Nat):TG:=C1 K is.length (gNs is)
def HM:List TE->TE:=fun ts=>tFs ts Str.empty
def NoE:XK:=fun _ _ _=>False
def yN (K:PySem.W.Frag) (G I:Addr->Prop) (H:Hp) (d:PyData) (v:V):Prop:=match d with
 | .tuple ds=>Dm K G H (.tuple ds) v
 | d=>∃ a,v=.ref a/\gD K G I H d a
def b3 (K:PySem.W.Frag) (G I:Addr->Prop) (H:Hp):List PM->List PyData->List V->List Addr->Prop
 | [],[],[],is=>is=[]
 | .dat :: ms,d :: ds,v :: vs,is=>Dm K G H d v/\b3 K G I H ms ds vs is
 | .bor :: ms,d :: ds,v :: vs,is=>yN K G I H d v/\b3 K G I H ms ds vs is
 | .ino :: ms,d :: ds,v :: vs,is=>∃ a r,v=.ref a/\is=a :: r/\G a/\Top K G H d a/\a ∉ r/\b3 K G I H ms ds vs r
 | _,_,_,_=>False
def jy (K:PySem.W.Frag) (G:Addr->Prop) (H:Hp):List PyData->List Addr->Prop
 | [],[]=>True
 | d :: ds,a :: r=>Top K G H d a/\jy K G H ds r
 | _,_=>False
def F7 (K:PySem.W.Frag) (G:Addr->Prop) (H H':Hp) (outs:List PyData) (is:List Addr):PR->V->Prop
 | .dat d,v=>Dm K G H' d v/\jy K G H' outs is
 | .frs d,v=>∃ a,v=.ref a/\H a=none/\Top K (fun b=>G b\/b=a) H' d a/\jy K (fun b=>G b\/b=a) H' outs is
def cB (f:Fn) (K:PySem.W.Frag):Sp:=fun vs H Q _=>∃ (G:Addr->Prop) (ds:List PyData) (is:List Addr) (pr:PR) (outs:List PyData),f.F ds=some (pr,outs)/\b3 K G (·∈is) H f.ms ds vs is/\(∀ b,G b->H b≠none) /\
 ∀ v' H',(∀ b o,H b=some o->b ∉ is->H' b=some o)->F7 K G H H' outs is pr v'->Q v' H'
section
variable (K:PySem.W.Frag) (ga:Nat->V)
mutual
noncomputable def rE:XE->TE
 | .var i=>qO i | .mov i=>qO i | .tke i=>qO i | .cst c=>tC c.v | .glb g=>tC (ga g)
 | .prm p as=>tCB (p.r K) (rA as) | .met m o as=>tBM K m.T (m.r K) (rE o) (rA as) | .mtr m i as=>tBM K m.T (m.r K) (qO i) (rA as) | .call f as=>rh (cB f K) [] NoE (rA as)
 | .tup as=>Ex (rA as) | .lst as=>DZ (rA as) | .dsp as=>tM (rP as) | .fst as=>HM (rF as)
 | .ifx c a b=>tIf (rT c) (rE a) (rE b) | .qN a b=>xt (rE a) (rE b) | .orv a b=>DG (rE a) (rE b) | .zL a=>xK (rE a)
 | .chn p q a b c=>Af (fun x y=>p.r K [x,y]) (fun x y=>q.r K [x,y]) (rE a) (rE b) (rE c)
 | .sl2 p a b c=>fun σ H Q=>rE a σ H fun x H1=>rE b σ H1 fun y H2=>∃ i,y=.int i/\rE c σ H2 fun z H3=>∃ j,z=.int j/\(p i j).r K [x] H3 Q
 | .cmp js it c e=>qw js (rI_ it) (rT c) (rE e) | .yQ n js it e=>ug n js (rI_ it) (gTp K (List.range n.length)) (rE e)
noncomputable def rA:XA->TA
 | .nil=>uJ | .cons e r=>jP (rE e) (rA r)
noncomputable def rF:XA->List TE
 | .nil=>[] | .cons e r=>rE e :: rF r
noncomputable def rP:XP->List (TE×TE)
 | .nil=>[] | .cons k e r=>(rE k,rE e) :: rP r
noncomputable def rT:XT->TT
 | .tst e=>tB (rE e) | .tru e=>Gq K (rE e) | .and a b=>Fj (rT a) (rT b) | .or a b=>tOr (rT a) (rT b) | .not a=>D4 (rT a) | .yes=>FZ
noncomputable def rI_:XI->TI
 | .lst e=>vJ K (rE e) | .tup e=>Dq K (rE e) | .str e=>DN (rE e) | .rng1 as=>zk (rA as) | .rng2 as=>FR (rA as) | .dct e=>Fy (rE e) | .zip as=>HD K (rA as) | .sq e=>Hs K (rE e) | .itm e=>GY (rE e)
end
def rS:XS->TS
 | .skip=>yx | .seq a b=>Cs (rS a) (rS b) | .aK i e=>qd (rE K ga e) (cy i) | .pB i e=>qd (rE K ga e) (cy i) | .xk is e=>qd (rE K ga e) (gTp K is) | .drop e=>zd (rE K ga e) | .ret e=>DV (rE K ga e) | .CY=>DD
 | .ifs c a b=>DL (rT K ga c) (rS a) (rS b) | .fr i it b=>B0 (rI_ K ga it) (cy i) (rS b) | .frT is it b=>B0 (rI_ K ga it) (gTp K is) (rS b) | .wh n c b=>sd (rT K ga c) (rS b) | .brk=>Am | .cnt=>Ec | .nev=>A4
 | .sto m i k e=>fun D σ H=>rE K ga e σ H fun x H1=>qO i σ H1 fun o H2=>rE K ga k σ H2 fun y H3=>m.r K o y x H3 (D.nx σ)
end
noncomputable def C8:PyData->Bool
 | .none=>false | .bool b=>b | .int i=>i != 0 | .str x=>(x.length:Int) != 0 | .list ds=>!ds.isEmpty | .tuple ds=>!ds.isEmpty | .dict ds=>!ds.isEmpty
noncomputable def Gf:PyData->Bool | .str _=>true | _=>false
noncomputable def FW:PyData->Bool | .dict _=>true | _=>false
noncomputable def oe (lk:Bool):Sl->Sl
 | .own d=>if lk then .ro d else .ino d
 | .ino d=>if lk then .ro d else .ino d
 | s=>s
noncomputable def dG (env:En) (lock:Option Nat) (js:List Nat):En:=js.map fun j=>oe (decide (lock=some j)) (env[j]?.getD .un)
noncomputable def aS:En->List Nat->En->En
 | env,j :: js,.ino d :: es=>aS (iK env j d) js es
 | env,_ :: js,_ :: es=>aS env js es
 | env,_,_=>env
noncomputable def uR (step:PyData->En->Option (Option PyData×En)):List PyData->En->Option (List PyData×En)
 | [],env=>some ([],env)
 | d :: ds,env=>match step d env with
  | some (y,e1)=>match uR step ds e1 with
   | some (ys,e2)=>some (y.toList++ys,e2)
   | none=>none
  | none=>none
noncomputable def DH (env:En):PM->AV->Option PyData
 | .dat,.dat d=>some d
 | .bor,.dat (.list d)=>some (.list d)
 | .bor,.dat (.dict d)=>some (.dict d)
 | .bor,.dat (.tuple d)=>some (.tuple d)
 | .bor,.bor i=>cont env i
 | .ino,.bor i=>aV env i
 | _,_=>none
noncomputable def kg (env:En):List PM->List AV->Option (List PyData)
 | [],[]=>some []
 | m :: ms,a :: as=>match DH env m a,kg env ms as with
  | some d,some ds=>some (d :: ds)
  | _,_=>none
 | _,_=>none
noncomputable def c6:List PM->List AV->List Nat
 | .ino :: ms,.bor i :: as=>i :: c6 ms as
 | _ :: ms,_ :: as=>c6 ms as
 | _,_=>[]
noncomputable def uH:List PM->List AV->List Nat
 | .bor :: ms,.bor i :: as=>i :: uH ms as
 | _ :: ms,_ :: as=>uH ms as
 | _,_=>[]
noncomputable def d5:En->List Nat->List PyData->En
 | env,i :: is,d :: ds=>d5 (iK env i d) is ds
 | env,_,_=>env
noncomputable def yE:List Nat->Bool
 | []=>true
 | x :: xs=>!xs.contains x&&yE xs
noncomputable def ckA (is bs:List Nat) (n:Nat):Bool:=yE is&&(bs.all (fun i=>!is.contains i)&&n==is.length)
noncomputable def vA (f:Fn) (avs:List AV) (env:En):Option (RV×En) :=
 match kg env f.ms avs with
 | none=>none
 | some ds=>match f.F ds with
  | none=>none
  | some (pr,outs)=>if ckA (c6 f.ms avs) (uH f.ms avs) outs.length=true then some (pr.rv,d5 env (c6 f.ms avs) outs) else none
noncomputable def aF (env:En):List AV->Option (List PyData)
 | []=>some []
 | a :: as=>match a.view env,aF env as with
  | some d,some ds=>some (d :: ds)
  | _,_=>none
noncomputable def AV.EC:AV->Bool | .dat _=>true | .bor _=>false
noncomputable def fJ (env:En):List AV->Option (List (Bool×PyData))
 | []=>some []
 | a :: as=>match a.view env,fJ env as with
  | some d,some ds=>some ((a.EC,d) :: ds)
  | _,_=>none
noncomputable def lU:List AV->Option (List PyData)
 | []=>some []
 | .dat d :: as=>match lU as with | some ds=>some (d :: ds) | none=>none
 | .bor _ :: _=>none
noncomputable def keyOf:PyData->Option Key | .int i=>some (.inl i) | .str x=>some (.inr x) | _=>none
noncomputable def putD (kvs:List (PyData×PyData)) (k d:PyData):List (PyData×PyData) :=
 if (kvs.any fun kv=>PyData.eqv kv.1 k)=true then kvs.map (fun kv=>if PyData.eqv kv.1 k=true then (kv.1,d) else kv) else kvs++[(k,d)]
noncomputable def getD (kvs:List (PyData×PyData)) (k:PyData):Option PyData:=(kvs.find? fun kv=>PyData.eqv kv.1 k).map (·.2)
noncomputable def bV (env:En):Option Nat->En
 | some i=>match env[i]? with | some (.own d)=>env.set i (.ro d) | some (.ino d)=>env.set i (.ro d) | _=>env
 | none=>env
noncomputable def az (Fi:En) (lock:Option Nat) (env:En):En:=match lock with
 | some i=>match Fi[i]?,env[i]? with
  | some (.own _),some (.ro d)=>env.set i (.own d)
  | some (.ino _),some (.ro d)=>env.set i (.ino d)
  | _,_=>env
 | none=>env
noncomputable def jT (t:En->Option (Bool×En)) (b:En->Option (RV×En)) (d:PyData) (ec:En):Option (Option PyData×En):=match t (.dat d :: ec) with
 | some (true,e2)=>match b e2 with
  | some (rv,e3)=>match rv.av with | .dat y=>some (some y,e3.tail) | .bor _=>none
  | none=>none
 | some (false,e2)=>some (none,e2.tail)
 | none=>none
noncomputable def gB (n:Nat) (b:En->Option (RV×En)) (d:PyData) (ec:En):Option (Option PyData×En):=match d with
 | .tuple xs=>if xs.length=n then match b (xs.map .dat++ec) with
   | some (rv,e3)=>match rv.av with | .dat y=>some (some y,e3.drop n) | .bor _=>none
   | none=>none
  else none
 | _=>none
noncomputable def roL (e:En):AV->Option (List PyData)
 | .dat (.list xs)=>some xs
 | .bor i=>match e[i]? with | some (.ro (.list xs))=>some xs | _=>none
 | _=>none
mutual
noncomputable def dE (gd:List PyData):XE->En->Option (RV×En)
 | .var i,env=>match env[i]? with | some (.dat d)=>some (.dat d,env) | some (.own _)=>some (.bor i,env) | some (.ino _)=>some (.bor i,env) | some (.ro _)=>some (.bor i,env) | _=>none
 | .mov i,env=>match env[i]? with | some (.own d)=>some (.dat d,env.set i (.dat d)) | _=>none
 | .tke i,env=>match env[i]? with | some (.own d)=>some (.frs d,env.set i .un) | _=>none
 | .cst c,env=>some (.dat c.d,env)
 | .glb g,env=>match gd[g]? with | some d=>some (.dat d,env) | none=>none
 | .prm p as,env=>match dA gd as env with
  | some (avs,e1)=>match aF e1 avs with
   | some ds=>match p.f ds with | some pr=>some (pr.rv,e1) | none=>none
   | none=>none
  | none=>none
 | .met m o as,env=>match dE gd o env with
  | some (rv,e1)=>match rv.view e1 with
   | some d0=>if m.ty d0=true then match dA gd as e1 with
     | some (avs,e2)=>match rv.view e2,aF e2 avs with
      | some d,some ds=>match m.f d ds with | some pr=>some (pr.rv,e2) | none=>none
      | _,_=>none
     | none=>none
    else none
   | none=>none
  | none=>none
 | .mtr m i as,env=>match aV env i with
  | some d0=>if m.ty d0=true then match dA gd as env with
    | some (avs,e1)=>match aV e1 i,fJ e1 avs with
     | some d,some ds=>match m.f d ds with | some (d',x)=>some (.dat x,iK e1 i d') | none=>none
     | _,_=>none
    | none=>none
   else none
  | none=>none
 | .call f as,env=>match dA gd as env with
  | some (avs,e1)=>vA f avs e1
  | none=>none
 | .tup as,env=>match dA gd as env with
  | some (avs,e1)=>match lU avs with | some ds=>if ds.length<=sizeLine then some (.dat (.tuple ds),e1) else none | none=>none
  | none=>none
 | .lst as,env=>match dA gd as env with
  | some (avs,e1)=>match lU avs with | some ds=>if ds.length<=sizeLine then some (.frs (.list ds),e1) else none | none=>none
  | none=>none
 | .dsp as,env=>match dP gd as env with
  | some (kvs,e1)=>if kvs.length<=15 then some (.frs (.dict (kvs.foldl (fun acc kv=>putD acc (kD kv.1) kv.2) [])),e1) else none
  | none=>none
 | .fst as,env=>match dF gd as Str.empty env with
  | some (x,e1)=>some (.dat (.str x),e1)
  | none=>none
 | .ifx c a b,env=>match dT gd c env with
  | some (true,e1)=>dE gd a e1
  | some (false,e1)=>dE gd b e1
  | none=>none
 | .qN a b,env=>match dE gd a env with
  | some (.dat (.bool true),e1)=>dE gd b e1
  | some (.dat (.bool false),e1)=>some (.dat (.bool false),e1)
  | _=>none
 | .orv a b,env=>match dE gd a env with
  | some (.dat (.bool true),e1)=>some (.dat (.bool true),e1)
  | some (.dat (.bool false),e1)=>dE gd b e1
  | _=>none
 | .zL a,env=>match dE gd a env with
  | some (.dat (.bool x),e1)=>some (.dat (.bool (!x)),e1)
  | _=>none
 | .chn p q a b c,env=>match dE gd a env with
  | some (ra,e1)=>match dE gd b e1 with
   | some (rb,e2)=>match ra.av,rb.av with
    | .dat x,.dat y=>match p.f [x,y] with
     | some (.dat (.bool true))=>match dE gd c e2 with
      | some (rc,e3)=>match rc.av with
       | .dat z=>match q.f [y,z] with | some pr=>some (pr.rv,e3) | none=>none
       | _=>none
      | none=>none
     | some (.dat (.bool false))=>some (.dat (.bool false),e2)
     | _=>none
    | _,_=>none
   | none=>none
  | none=>none
 | .sl2 p a b c,env=>match dE gd a env with
  | some (ra,e1)=>match dE gd b e1 with
   | some (.dat (.int i),e2)=>match dE gd c e2 with
    | some (.dat (.int j),e3)=>match ra.view e3 with
     | some d=>match (p i j).f [d] with | some pr=>some (pr.rv,e3) | none=>none
     | none=>none
    | _=>none
   | _=>none
  | none=>none
 | .cmp js it c e,env=>match dI gd it env with
  | some (ds,lock,e1)=>if js.Nodup then match uR (jT (dT gd c) (dE gd e)) ds (dG e1 lock js) with
    | some (ys,ec)=>some (.frs (.list ys),aS e1 js ec)
    | none=>none
   else none
  | none=>none
 | .yQ n js it e,env=>match dI gd it env with
  | some (ds,lock,e1)=>if js.Nodup then match uR (gB n.length (dE gd e)) ds (dG e1 lock js) with
    | some (ys,ec)=>some (.frs (.list ys),aS e1 js ec)
    | none=>none
   else none
  | none=>none
noncomputable def dA (gd:List PyData):XA->En->Option (List AV×En)
 | .nil,env=>some ([],env)
 | .cons e r,env=>match dE gd e env with
  | some (rv,e1)=>match dA gd r e1 with
   | some (avs,e2)=>some (rv.av :: avs,e2)
   | none=>none
  | none=>none
noncomputable def dF (gd:List PyData):XA->Str->En->Option (Str×En)
 | .nil,out,env=>if out.length<=sizeLine then some (out,env) else none
 | .cons e r,out,env=>match dE gd e env with
  | some (.dat (.str x),e1)=>if (out++x).length<=sizeLine then dF gd r (out++x) e1 else none
  | _=>none
noncomputable def dP (gd:List PyData):XP->En->Option (List (Key×PyData)×En)
 | .nil,env=>some ([],env)
 | .cons k e r,env=>match dE gd k env with
  | some (rk,e1)=>match dE gd e e1 with
   | some (rv,e2)=>match dP gd r e2 with
    | some (kvs,e3)=>match rk.av,rv.av with
     | .dat dk,.dat d=>match keyOf dk with | some k=>some ((k,d) :: kvs,e3) | none=>none
     | _,_=>none
    | none=>none
   | none=>none
  | none=>none
noncomputable def dT (gd:List PyData):XT->En->Option (Bool×En)
 | .tst e,env=>match dE gd e env with | some (.dat (.bool b),e1)=>some (b,e1) | _=>none
 | .tru e,env=>match dE gd e env with
  | some (rv,e1)=>match rv.view e1 with | some d=>if FW d=true then none else some (C8 d,e1) | none=>none
  | none=>none
 | .and a b,env=>match dT gd a env with | some (true,e1)=>dT gd b e1 | some (false,e1)=>some (false,e1) | none=>none
 | .or a b,env=>match dT gd a env with | some (true,e1)=>some (true,e1) | some (false,e1)=>dT gd b e1 | none=>none
 | .not a,env=>match dT gd a env with | some (b,e1)=>some (!b,e1) | none=>none
 | .yes,env=>some (true,env)
noncomputable def dI (gd:List PyData):XI->En->Option (List PyData×Option Nat×En)
 | .lst e,env=>match dE gd e env with
  | some (rv,e1)=>match rv.av with
   | .dat (.list ds)=>some (ds,none,e1)
   | .dat _=>none
   | .bor i=>match cont e1 i with | some (.list ds)=>some (ds,some i,e1) | _=>none
  | none=>none
 | .dct e,env=>match dE gd e env with
  | some (rv,e1)=>match rv.av with
   | .dat (.dict kvs)=>some (kvs.map (·.1),none,e1)
   | .dat _=>none
   | .bor i=>match cont e1 i with | some (.dict kvs)=>some (kvs.map (·.1),some i,e1) | _=>none
  | none=>none
 | .tup e,env=>match dE gd e env with
  | some (rv,e1)=>match rv.av with | .dat (.tuple ds)=>some (ds,none,e1) | _=>none
  | none=>none
 | .itm e,env=>match dE gd e env with
  | some (rv,e1)=>match rv.av with | .dat (.dict kvs)=>if (kvs.all fun p=>Gf p.1)=true then some (kvs.map fun p=>.tuple [p.1,p.2],none,e1) else none | _=>none
  | none=>none
 | .sq e,env=>match dE gd e env with
  | some (rv,e1)=>match rv.av with
   | .dat (.list ds)=>some (ds,none,e1)
   | .dat (.tuple ds)=>some (ds,none,e1)
   | .dat _=>none
   | .bor i=>match cont e1 i with | some (.list ds)=>some (ds,some i,e1) | _=>none
  | none=>none
 | .str e,env=>match dE gd e env with
  | some (rv,e1)=>match rv.av with | .dat (.str x)=>some (x.cps.toList.map fun c=>.str ⟨#[c]⟩,none,e1) | _=>none
  | none=>none
 | .rng1 as,env=>match dA gd as env with
  | some (avs,e1)=>match avs with | [.dat (.int j)]=>if -(2 ^ 62)<=j/\j<=2 ^ 24 then some ((List.range j.toNat).map fun (k:Nat)=>.int ((0:Int)+(k:Int)),none,e1) else none | _=>none
  | none=>none
 | .zip as,env=>match dA gd as env with
  | some (avs,e1)=>match avs with
   | [x,y]=>match roL e1 x,roL e1 y with | some xs,some ys=>some ((xs.zip ys).map fun p=>.tuple [p.1,p.2],none,e1) | _,_=>none
   | _=>none
  | none=>none
 | .rng2 as,env=>match dA gd as env with
  | some (avs,e1)=>match avs with | [.dat (.int i),.dat (.int j)]=>if -(2 ^ 62)<=i/\i < 2 ^ 62/\-(2 ^ 62)<=j/\j < 2 ^ 62/\j - i<=2 ^ 24 then some ((List.range (j - i).toNat).map fun (k:Nat)=>.int (i+(k:Int)),none,e1) else none | _=>none
  | none=>none
end
noncomputable def lkd (env:En):Option Nat->Bool
 | some i=>match env[i]? with | some (.own _)=>true | some (.ino _)=>true | _=>false
 | none=>false
noncomputable def RV.soft (b:Bool):RV->RV | .frs d=>if b then .dat d else .frs d | r=>r
inductive Out where | nx (env:En) | rt (rv:RV) (env:En) | bk (env:En) | ct (env:En)
noncomputable def Out.map (b:Bool) (f:En->En):Out->Out | .nx e=>.nx (f e) | .rt r e=>.rt (r.soft b) (f e) | .bk e=>.bk (f e) | .ct e=>.ct (f e)
noncomputable def forL (b:PyData->En->Option Out):List PyData->En->Option Out
 | [],env=>some (.nx env)
 | d :: ds,env=>match b d env with
  | some (.nx e)=>forL b ds e
  | some (.ct e)=>forL b ds e
  | some (.bk e)=>some (.nx e)
  | some (.rt r e)=>some (.rt r e)
  | none=>none
noncomputable def whL (t:En->Option (Bool×En)) (b:En->Option Out):Nat->En->Option Out
 | 0,_=>none
 | n+1,env=>match t env with
  | some (true,e1)=>match b e1 with
   | some (.nx e)=>whL t b n e
   | some (.ct e)=>whL t b n e
   | some (.bk e)=>some (.nx e)
   | some (.rt r e)=>some (.rt r e)
   | none=>none
  | some (false,e1)=>some (.nx e1)
  | none=>none
noncomputable def free (env:En) (i:Nat):Bool:=match env[i]? with | some .un=>true | some (.dat _)=>true | some (.own _)=>true | _=>false
noncomputable def fY:En->List Nat->List PyData->Option En
 | env,[],[]=>some env
 | env,i :: is,d :: ds=>if free env i=true then fY (env.set i (.dat d)) is ds else none
 | _,_,_=>none
noncomputable def kG (i:Nat) (b:En->Option Out) (d:PyData) (e:En):Option Out:=if free e i=true then b (e.set i (.dat d)) else none
noncomputable def jF (is:List Nat) (b:En->Option Out) (d:PyData) (e:En):Option Out:=match d with
 | .tuple xs=>match fY e is xs with | some e2=>b e2 | none=>none
 | _=>none
noncomputable def dS (gd:List PyData):XS->En->Option Out
 | .skip,env=>some (.nx env)
 | .seq a b,env=>match dS gd a env with
  | some (.nx e)=>dS gd b e
  | o=>o
 | .aK i e,env=>match dE gd e env with
  | some (rv,e1)=>match rv.av with | .dat d=>if free e1 i=true then some (.nx (e1.set i (.dat d))) else none | .bor _=>none
  | none=>none
 | .pB i e,env=>match dE gd e env with
  | some (.frs d,e1)=>if free e1 i=true then some (.nx (e1.set i (.own d))) else none
  | _=>none
 | .xk is e,env=>match dE gd e env with
  | some (rv,e1)=>match rv.av with
   | .dat (.tuple ds)=>match fY e1 is ds with | some e2=>some (.nx e2) | none=>none
   | _=>none
  | none=>none
 | .drop e,env=>match dE gd e env with | some (_,e1)=>some (.nx e1) | none=>none
 | .ret e,env=>match dE gd e env with | some (rv,e1)=>some (.rt rv e1) | none=>none
 | .CY,env=>some (.rt (.dat .none) env)
 | .ifs c a b,env=>match dT gd c env with
  | some (true,e1)=>dS gd a e1
  | some (false,e1)=>dS gd b e1
  | none=>none
 | .fr i it b,env=>match dI gd it env with
  | some (ds,lock,e1)=>(forL (kG i (dS gd b)) ds (bV e1 lock)).map (Out.map (lkd e1 lock) (az e1 lock))
  | none=>none
 | .frT is it b,env=>match dI gd it env with
  | some (ds,lock,e1)=>(forL (jF is (dS gd b)) ds (bV e1 lock)).map (Out.map (lkd e1 lock) (az e1 lock))
  | none=>none
 | .wh n c b,env=>whL (dT gd c) (dS gd b) n env
 | .brk,env=>some (.bk env)
 | .cnt,env=>some (.ct env)
 | .nev,_=>none
 | .sto m i k e,env=>match dE gd e env with
  | some (rv,e1)=>match rv.av with
   | .dat x=>match aV e1 i with
    | some _=>match dE gd k e1 with
     | some (rk,e2)=>match rk.view e2,aV e2 i with
      | some dk,some d=>match m.f d dk x with | some d'=>some (.nx (iK e2 i d')) | none=>none
      | _,_=>none
     | none=>none
    | none=>none
   | .bor _=>none
  | none=>none
noncomputable def y7:PyData->Sl | .tuple ds=>.dat (.tuple ds) | d=>.ro d
noncomputable def aj:List PM->List PyData->Nat->En
 | .dat :: ms,d :: ds,n=>.dat d :: aj ms ds (n - 1)
 | .bor :: ms,d :: ds,n=>y7 d :: aj ms ds (n - 1)
 | .ino :: ms,d :: ds,n=>.ino d :: aj ms ds (n - 1)
 | _,_,n=>List.replicate n .un
noncomputable def jg:List PM->En->Option (List PyData)
 | .ino :: ms,.ino d :: es=>match jg ms es with | some ds=>some (d :: ds) | none=>none
 | .ino :: _,_=>none
 | _ :: ms,_ :: es=>jg ms es
 | _,_=>some []
noncomputable def RV.pr:RV->Option PR | .dat d=>some (.dat d) | .frs d=>some (.frs d) | .bor _=>none
noncomputable def cE (gd:List PyData) (ms:List PM) (n:Nat) (b:XS):Fn where
 ms:=ms
 F:=fun ds=>if ds.length=ms.length then match dS gd b (aj ms ds n) with
   | some (.rt rv env)=>match rv.pr,jg ms env with | some pr,some outs=>some (pr,outs) | _,_=>none
   | some (.nx env)=>match jg ms env with | some outs=>some (.dat .none,outs) | none=>none
   | _=>none
  else none
open PySem
theorem aJ.rf (H:Hp):aJ H H:=fun _ _ h=>h
theorem aJ.nw {H:Hp} {a:Addr} (o:HO) (h:H a=none):aJ H (upd H a o):=fun b u q=>by rw [ak (ay q h)];exact q
section
variable {K:Fg} {F F' I I' F0:Addr->Prop} {H H' H₀:Hp} {env env':En} {σ σ':St} {ga:Nat->V} {gd:List PyData}
def fB (K:Fg) (F0:Addr->Prop) (H₀:Hp) (I:Addr->Prop) (env:En) (σ:St) (H:Hp):RV->V->Prop
 | .dat d,v=>Dm K (FF F0 env σ) H d v
 | .bor i,v=>σ[i]?=some (some v)
 | .frs d,v=>∃ a,v=.ref a/\Rel K (fun b=>F0 b\/b=a) H₀ I env σ H/\Top K (fun b=>FF F0 env σ b\/b=a) H d a/\(H₀ a=none\/I a)/\¬FF F0 env σ a/\(∀ (i:Nat) (d':PyData),env[i]?=some (.ino d')->σ[i]?≠some (some (.ref a))) /\
   ∀ (i:Nat) (d':PyData),env[i]?=some (.ro d')->∃ b,σ[i]?=some (some (.ref b))/\gD K (fun b=>FF F0 env σ b\/b=a) (fun b=>IA env σ b\/b=a) H d' b
def wc (K:Fg) (F0:Addr->Prop) (env:En) (σ:St) (H:Hp):AV->V->Prop
 | .dat d,v=>Dm K (FF F0 env σ) H d v
 | .bor i,v=>σ[i]?=some (some v)
def iL (K:Fg) (F0:Addr->Prop) (env:En) (σ:St) (H:Hp):List AV->List V->Prop
 | [],vs=>vs=[]
 | a :: as,vs=>∃ v r,vs=v :: r/\wc K F0 env σ H a v/\iL K F0 env σ H as r
theorem fB.av {rv:RV} {v:V} (h:fB K F0 H₀ I env σ H rv v):wc K F0 env σ H rv.av v:=by
 cases rv with
 | dat d=>exact h
 | bor i=>exact h
 | frs d =>
  obtain ⟨a,e,R,t,_,n,_⟩:=h;subst e;exact (t.pr Pr.refl (F':=FF F0 env σ) (fun _ z=>.inl z) (fun _ z=>z)).dm n
theorem wc.keep (R:Rel K F0 H₀ I env σ H) (S:Rel K F0 H (IA env σ) env' σ H') (k:KpE env env') {a:AV} {v:V} (h:wc K F0 env σ H a v):wc K F0 env' σ H' a v:=by
 cases a with
 | dat d=>exact R.o7 S k h
 | bor i=>exact h
theorem Rel.F5 (R:Rel K F0 H₀ I env σ H) {i:Nat} {d:PyData} {v:V} (h:cont env i=some d) (s:σ[i]?=some (some v)):Vw K (FF F0 env σ) H d v:=by
 unfold cont at h;cases e:env[i]? with
 | none=>rw [e] at h;cases h
 | some sl =>
  rw [e] at h;cases sl with
  | un=>cases h
  | dat _=>cases h
  | own d' =>
   cases h;obtain ⟨a,q,_,_,t⟩:=R.own i d e;rw [s] at q;cases q;exact t.r.vw
  | ino d' =>
   cases h;obtain ⟨a,q,_,_,t⟩:=R.ino i d e;rw [s] at q;cases q;exact t.r.vw
  | ro d' =>
   cases h;obtain ⟨a,q,t⟩:=R.ro i d e;rw [s] at q;cases q;exact t.r.vw
theorem Rel.dU (R:Rel K F0 H₀ I env σ H) {i:Nat} {d:PyData} (h:aV env i=some d):mu env i/\∃ a,σ[i]?=some (some (.ref a))/\FF F0 env σ a/\Top K (FF F0 env σ) H d a:=by
 unfold aV at h;cases e:env[i]? with
 | none=>rw [e] at h;cases h
 | some sl =>
  rw [e] at h;cases sl with
  | un=>cases h
  | dat _=>cases h
  | own d' =>
   cases h;obtain ⟨a,q,_,_,t⟩:=R.own i d e;exact ⟨⟨d,.inl e⟩,a,q,.inr ⟨i,d,e,q⟩,t⟩
  | ino d' =>
   cases h;obtain ⟨a,q,f,_,t⟩:=R.ino i d e;exact ⟨⟨d,.inr e⟩,a,q,.inl f,t⟩
  | ro d'=>cases h
theorem wc.vw (R:Rel K F0 H₀ I env σ H) {a:AV} {v:V} {d:PyData} (h:wc K F0 env σ H a v) (e:a.view env=some d):Vw K (FF F0 env σ) H d v:=by
 cases a with
 | dat d'=>cases e;exact Dm.vw h
 | bor i=>exact R.F5 e h
theorem iL.vw (R:Rel K F0 H₀ I env σ H):∀ {as:List AV} {vs:List V} {ds:List PyData},iL K F0 env σ H as vs->aF env as=some ds->VwL K (FF F0 env σ) H ds vs
 | [],_,ds,h,e=>by cases e;exact h
 | a :: as,_,ds,h,e=>by
  obtain ⟨v,r,rfl,h1,h2⟩:=h;unfold aF at e;cases e1:a.view env with
  | none=>rw [e1] at e;cases e
  | some d =>
   cases e2:aF env as with
   | none=>rw [e1,e2] at e;cases e
   | some ds' =>
    rw [e1,e2] at e;cases e;exact ⟨v,r,rfl,h1.vw R e1,iL.vw R h2 e2⟩
theorem iL.mv (R:Rel K F0 H₀ I env σ H):∀ {as:List AV} {vs:List V} {ds:List (Bool×PyData)},iL K F0 env σ H as vs->fJ env as=some ds->MvL K (FF F0 env σ) H ds vs
 | [],_,ds,h,e=>by cases e;exact h
 | a :: as,_,ds,h,e=>by
  obtain ⟨v,r,rfl,h1,h2⟩:=h;unfold fJ at e;cases e1:a.view env with
  | none=>rw [e1] at e;cases e
  | some d =>
   cases e2:fJ env as with
   | none=>rw [e1,e2] at e;cases e
   | some ds' =>
    rw [e1,e2] at e;cases e;have ih:=iL.mv R h2 e2;cases a with
    | dat d'=>cases e1;exact ⟨v,r,rfl,h1,ih⟩
    | bor i=>exact ⟨v,r,rfl,h1.vw R e1,ih⟩
theorem iL.FU:∀ {as:List AV} {vs:List V} {ds:List PyData},iL K F0 env σ H as vs->lU as=some ds->DmL K (FF F0 env σ) H ds vs
 | [],_,ds,h,e=>by cases e;exact h
 | .dat d :: as,_,ds,h,e=>by
  obtain ⟨v,r,rfl,h1,h2⟩:=h;unfold lU at e;cases e2:lU as with
  | none=>rw [e2] at e;cases e
  | some ds' =>
   rw [e2] at e;cases e;exact ⟨v,r,rfl,h1,iL.FU h2 e2⟩
 | .bor i :: as,_,ds,h,e=>by unfold lU at e;cases e
theorem gD.wU {d:PyData} {a c:Addr} (hc:H c=none) (h:gD K F I H d a):gD K F (fun b=>I b\/b=c) H d a:=by
 cases d with
 | list ds=>obtain ⟨xs,e,z,r⟩:=h;exact ⟨xs,e.fresh hc,z,r⟩
 | dict ds =>
  obtain ⟨ep,xs,n,e,z,r⟩:=h;exact ⟨ep,xs,fun q=>q.elim n fun q=>(by subst q;rw [hc] at e;cases e),e,z,r⟩
 | _=>exact absurd h id
theorem Rel.mY (R:Rel K F0 H₀ I env σ H) (s:aJ H H') {pr:PR} {v:V} (h:xp K (FF F0 env σ) H H' pr v):fB K F0 H₀ I env σ H' pr.rv v:=by
 cases pr with
 | dat d=>exact h
 | frs d =>
  obtain ⟨a,e,hn,t⟩:=h;refine ⟨a,e,R.fresh hn s ?_,t,R.oi (.inl hn),fun z=>R.fy z hn,fun i d' e' q=>?_,fun i d' e'=>?_⟩
  ·obtain ⟨o,q,_⟩:=t.wr;rw [q];exact nofun
  ·obtain ⟨o,z,_⟩:=R.iaT ⟨i,⟨d',.inr e'⟩,q⟩;rw [hn] at z;cases z
  ·obtain ⟨b,q,t'⟩:=R.ro i d' e';exact ⟨b,q,((t'.fresh hn).wU hn).pr (Pr.of_same s) (fun _ z=>z) (fun _ z=>z) fun b o z _=>s _ _ z⟩
theorem qS (env:En) (i:Nat) (d:PyData):KpE env (iK env i d):=by
 unfold iK;cases e:env[i]? with
 | none=>exact KpE.refl _
 | some sl =>
  have hi:i < env.length:=(HX.mp e).1;cases sl with
  | un=>exact KpE.refl _
  | dat _=>exact KpE.refl _
  | ro _=>exact KpE.refl _
  | own d' =>
   refine ⟨IF,fun j s h=>?_⟩;by_cases z:i=j
   ·subst z;rw [e] at h;cases h;exact ⟨.own d,by rw [Ih hi],.inl ⟨d,rfl⟩⟩
   ·exact ⟨s,by rw [HW z];exact h,.refl s⟩
  | ino d' =>
   refine ⟨IF,fun j s h=>?_⟩;by_cases z:i=j
   ·subst z;rw [e] at h;cases h;exact ⟨.ino d,by rw [Ih hi],⟨d,rfl⟩⟩
   ·exact ⟨s,by rw [HW z];exact h,.refl s⟩
def SmK (env env':En):Prop:=env'.length=env.length/\∀ i:Nat,env'[i]?=env[i]?\/(∃ d d',env[i]?=some (.own d)/\env'[i]?=some (.own d'))\/∃ d d',env[i]?=some (.ino d)/\env'[i]?=some (.ino d')
theorem SmK.refl (env:En):SmK env env:=⟨rfl,fun _=>.inl rfl⟩
theorem SmK.trans {e1 e2 e3:En} (a:SmK e1 e2) (b:SmK e2 e3):SmK e1 e3:=⟨b.1.trans a.1,fun i=>by
 rcases b.2 i with h | ⟨d,d',h,h'⟩ | ⟨d,d',h,h'⟩
 ·rw [h];exact a.2 i
 ·rcases a.2 i with q | ⟨c,c',q,q'⟩ | ⟨c,c',q,q'⟩
  ·exact .inr (.inl ⟨d,d',by rw [<- q];exact h,h'⟩)
  ·exact .inr (.inl ⟨c,d',q,h'⟩)
  ·rw [h] at q';cases q'
 ·rcases a.2 i with q | ⟨c,c',q,q'⟩ | ⟨c,c',q,q'⟩
  ·exact .inr (.inr ⟨d,d',by rw [<- q];exact h,h'⟩)
  ·rw [h] at q';cases q'
  ·exact .inr (.inr ⟨c,d',q,h'⟩)⟩
theorem SmK.kp (k:SmK env env'):KpE env env':=⟨k.1,fun i s e=>by
 rcases k.2 i with h | ⟨d,d',h,h'⟩ | ⟨d,d',h,h'⟩
 ·exact ⟨s,by rw [h];exact e,.refl s⟩
 ·rw [e] at h;cases h;exact ⟨_,h',.inl ⟨d',rfl⟩⟩
 ·rw [e] at h;cases h;exact ⟨_,h',⟨d',rfl⟩⟩⟩
theorem SmK.symm (k:SmK env env'):SmK env' env:=⟨k.1.symm,fun i=>by
 rcases k.2 i with h | ⟨d,d',h,h'⟩ | ⟨d,d',h,h'⟩
 ·exact .inl h.symm
 ·exact .inr (.inl ⟨d',d,h',h⟩)
 ·exact .inr (.inr ⟨d',d,h',h⟩)⟩
theorem SmK.ff (k:SmK env env'):FF F0 env' σ=FF F0 env σ:=by
 funext b;exact propext ⟨fun h=>k.kp.ff h,fun h=>k.symm.kp.ff h⟩
theorem SmK.ia (k:SmK env env'):IA env' σ=IA env σ:=by
 funext b;exact propext ⟨fun h=>k.kp.ia h,fun h=>k.symm.kp.ia h⟩
theorem e6 (env:En) (i:Nat) (d:PyData):SmK env (iK env i d):=by
 unfold iK;cases e:env[i]? with
 | none=>exact SmK.refl _
 | some sl =>
  have hi:i < env.length:=(HX.mp e).1;cases sl with
  | un=>exact SmK.refl _
  | dat _=>exact SmK.refl _
  | ro _=>exact SmK.refl _
  | own d' =>
   refine ⟨IF,fun j=>?_⟩;by_cases z:i=j
   ·subst z;exact .inr (.inl ⟨d',d,e,by rw [Ih hi]⟩)
   ·exact .inl (by rw [HW z])
  | ino d' =>
   refine ⟨IF,fun j=>?_⟩;by_cases z:i=j
   ·subst z;exact .inr (.inr ⟨d',d,e,by rw [Ih hi]⟩)
   ·exact .inl (by rw [HW z])
theorem k0 {env:En} {i:Nat} {d:PyData} (h:mu env i):aV (iK env i d) i=some d:=by
 unfold iK aV;obtain ⟨d',e | e⟩:=h
 ·have hi:i < env.length:=(HX.mp e).1;rw [e];simp only;rw [Ih hi]
 ·have hi:i < env.length:=(HX.mp e).1;rw [e];simp only;rw [Ih hi]
theorem lg {env:En} {i j:Nat} {d:PyData} (h:j≠i):(iK env i d)[j]?=env[j]?:=by
 unfold iK;split <;> first | rfl | rw [HW (Ne.symm h)]
theorem oX {env:En} {i:Nat} {d:PyData} (h:aV env i=some d):env[i]?=some (.own d)\/env[i]?=some (.ino d):=by
 unfold aV at h;split at h
 ·rename_i e;cases h;exact .inl e
 ·rename_i e;cases h;exact .inr e
 ·cases h
theorem Rel.chg (R:Rel K F0 H₀ I env σ H) (k:SmK env env') (hk:∀ b o,H b=some o->¬IA env σ b->H' b=some o) (ht:∀ i d a,aV env' i=some d->σ[i]?=some (some (.ref a))->Top K (FF F0 env σ) H' d a):Rel K F0 H₀ I env' σ H':=by
 have p:=R.pw hk;have eF:=k.ff (F0:=F0) (σ:=σ);have eI:=k.ia (σ:=σ);have mc:∀ {i:Nat} {d:PyData},env'[i]?=some (.own d)\/env'[i]?=some (.ino d)->aV env' i=some d:=fun {i d} h=>by
  unfold aV;rcases h with h | h <;> rw [h]
 refine ⟨k.1.trans R.len,fun i d e=>?_,fun i d e=>?_,fun i d e=>?_,fun i d e=>?_,fun i j a h1 h2 h3 h4=>R.sep i j a (k.kp.mu h1) (k.kp.mu h2) h3 h4,fun b h=>?_,fun b o h n=>?_⟩
 ·rcases k.2 i with q | ⟨c,c',q,q'⟩ | ⟨c,c',q,q'⟩
  ·rw [e] at q;obtain ⟨v,s,r⟩:=R.dat i d q.symm;rw [eF];exact ⟨v,s,r.pr p fun _ z=>z⟩
  ·rw [e] at q';cases q'
  ·rw [e] at q';cases q'
 ·have hm:=mc (.inl e);obtain ⟨d0,e0⟩:=k.kp.own e;obtain ⟨a,s,n,w,_⟩:=R.own i d0 e0;rw [eF];exact ⟨a,s,n,w,ht i d a hm s⟩
 ·have hm:=mc (.inr e);have:∃ d0,env[i]?=some (.ino d0):=by
   rcases k.2 i with q | ⟨c,c',q,q'⟩ | ⟨c,c',q,q'⟩
   ·exact ⟨d,by rw [<- q];exact e⟩
   ·rw [e] at q';cases q'
   ·exact ⟨c,q⟩
  obtain ⟨d0,e0⟩:=this;obtain ⟨a,s,n,w,_⟩:=R.ino i d0 e0;rw [eF];exact ⟨a,s,n,w,ht i d a hm s⟩
 ·have e0:env[i]?=some (.ro d):=by
   rcases k.2 i with q | ⟨c,c',q,q'⟩ | ⟨c,c',q,q'⟩
   ·rw [<- q];exact e
   ·rw [e] at q';cases q'
   ·rw [e] at q';cases q'
  obtain ⟨a,s,t⟩:=R.ro i d e0;rw [eF,eI];exact ⟨a,s,t.pr p (fun _ z=>z) (fun _ z=>z) hk⟩
 ·by_cases z:IA env σ b
  ·obtain ⟨i,m,s⟩:=z;have m':=k.symm.kp.mu m;obtain ⟨d,m'⟩:=m';obtain ⟨o,q,_⟩:=(ht i d b (mc m') s).wr;rw [q];exact nofun
  ·cases e:H b with
   | none=>exact absurd e (R.dom b h)
   | some o=>rw [hk b o e z];exact nofun
 ·refine hk b o (R.d8 b o h n) fun z=>?_;rcases R.iaI z with q | q
  ·rw [h] at q;cases q
  ·exact n q
end
open PySem
section
variable {K:Fg} {F F' I I' F0:Addr->Prop} {H H' H₀:Hp} {env env':En} {σ σ':St} {ga:Nat->V} {gd:List PyData}
theorem get_set {α:Type} {l:List α} {i j:Nat} {x y:α} (h:(l.set i x)[j]?=some y):(i=j/\x=y)\/(i≠j/\l[j]?=some y):=by
 by_cases z:i=j
 ·subst z;by_cases hi:i < l.length
  ·rw [Ih hi] at h;exact .inl ⟨rfl,Ja h⟩
  ·rw [Kf (by rw [IF];omega)] at h;cases h
 ·rw [HW z] at h;exact .inr ⟨z,h⟩
theorem Rel.sub (R:Rel K F0 H₀ I env σ H) (i:Nat) (x:Option V):(∀ b,FF F0 (env.set i .un) (σ.set i x) b->FF F0 env σ b)/\(∀ b,IA (env.set i .un) (σ.set i x) b->IA env σ b):=by
 constructor
 ·rintro b (h | ⟨j,d,e,s⟩)
  ·exact .inl h
  ·rcases get_set e with ⟨_,z⟩ | ⟨n,e⟩
   ·cases z
   ·rw [HW n] at s;exact .inr ⟨j,d,e,s⟩
 ·rintro b ⟨j,⟨d,e⟩,s⟩;have:∃ d,(env[j]?=some (.own d)\/env[j]?=some (.ino d))/\i≠j:=by
   rcases e with e | e
   ·rcases get_set e with ⟨_,z⟩ | ⟨n,e⟩
    ·cases z
    ·exact ⟨d,.inl e,n⟩
   ·rcases get_set e with ⟨_,z⟩ | ⟨n,e⟩
    ·cases z
    ·exact ⟨d,.inr e,n⟩
  obtain ⟨d,e,n⟩:=this;rw [HW n] at s;exact ⟨j,⟨d,e⟩,s⟩
theorem Rel.forget (R:Rel K F0 H₀ I env σ H) (i:Nat) (x:Option V):Rel K F0 H₀ I (env.set i .un) (σ.set i x) H:=by
 obtain ⟨hf,hi⟩:=R.sub i x;have mm:∀ j,mu (env.set i .un) j->mu env j/\i≠j:=fun j h=>by
  obtain ⟨d,e | e⟩:=h
  ·rcases get_set e with ⟨_,z⟩ | ⟨n,e⟩
   ·cases z
   ·exact ⟨⟨d,.inl e⟩,n⟩
  ·rcases get_set e with ⟨_,z⟩ | ⟨n,e⟩
   ·cases z
   ·exact ⟨⟨d,.inr e⟩,n⟩
 refine ⟨by rw [IF,IF];exact R.len,fun j d e=>?_,fun j d e=>?_,fun j d e=>?_,fun j d e=>?_,fun j k a h1 h2 h3 h4=>?_,R.dom,R.d8⟩
 ·rcases get_set e with ⟨_,z⟩ | ⟨n,e⟩
  ·cases z
  obtain ⟨v,s,r⟩:=R.dat j d e;exact ⟨v,by rw [HW n];exact s,r.mono hf⟩
 ·rcases get_set e with ⟨_,z⟩ | ⟨n,e⟩
  ·cases z
  obtain ⟨a,s,q,w,t⟩:=R.own j d e;exact ⟨a,by rw [HW n];exact s,q,w,t.pr Pr.refl hf fun _ z=>z⟩
 ·rcases get_set e with ⟨_,z⟩ | ⟨n,e⟩
  ·cases z
  obtain ⟨a,s,q,w,t⟩:=R.ino j d e;exact ⟨a,by rw [HW n];exact s,q,w,t.pr Pr.refl hf fun _ z=>z⟩
 ·rcases get_set e with ⟨_,z⟩ | ⟨n,e⟩
  ·cases z
  obtain ⟨a,s,t⟩:=R.ro j d e;exact ⟨a,by rw [HW n];exact s,t.pr Pr.refl hf hi fun _ _ z _=>z⟩
 ·obtain ⟨m1,n1⟩:=mm j h1;obtain ⟨m2,n2⟩:=mm k h2;rw [HW n1] at h3;rw [HW n2] at h4;exact R.sep j k a m1 m2 h3 h4
theorem ko {i:Nat} {s:Sl} {x:Option V} (hu:env[i]?=some .un) (hs:∀ d,s≠.own d):FF F0 (env.set i s) (σ.set i x)=FF F0 env σ:=by
 funext b;apply propext;constructor
 ·rintro (h | ⟨j,d,e,q⟩)
  ·exact .inl h
  ·rcases get_set e with ⟨_,z⟩ | ⟨n,e⟩
   ·exact absurd z (hs d)
   ·rw [HW n] at q;exact .inr ⟨j,d,e,q⟩
 ·rintro (h | ⟨j,d,e,q⟩)
  ·exact .inl h
  ·have n:i≠j:=fun z=>by subst z;rw [hu] at e;cases e
   exact .inr ⟨j,d,by rw [HW n];exact e,by rw [HW n];exact q⟩
theorem tT {i:Nat} {s:Sl} {x:Option V} (hu:env[i]?=some .un) (hs:∀ d,s≠.own d/\s≠.ino d):IA (env.set i s) (σ.set i x)=IA env σ:=by
 funext b;apply propext;constructor
 ·rintro ⟨j,⟨d,e | e⟩,q⟩
  ·rcases get_set e with ⟨_,z⟩ | ⟨n,e⟩
   ·exact absurd z (hs d).1
   ·rw [HW n] at q;exact ⟨j,⟨d,.inl e⟩,q⟩
  ·rcases get_set e with ⟨_,z⟩ | ⟨n,e⟩
   ·exact absurd z (hs d).2
   ·rw [HW n] at q;exact ⟨j,⟨d,.inr e⟩,q⟩
 ·rintro ⟨j,⟨d,e⟩,q⟩;have n:i≠j:=fun z=>by subst z;rw [hu] at e;rcases e with e | e <;> cases e
  refine ⟨j,⟨d,?_⟩,by rw [HW n];exact q⟩;rw [HW n];exact e
theorem Rel.putD (R:Rel K F0 H₀ I env σ H) {i:Nat} {d:PyData} {v:V} (hu:env[i]?=some .un) (h:Dm K (FF F0 env σ) H d v):Rel K F0 H₀ I (env.set i (.dat d)) (σ.set i (some v)) H:=by
 have hi:i < env.length:=(HX.mp hu).1;have eF:FF F0 (env.set i (.dat d)) (σ.set i (some v))=FF F0 env σ:=ko hu (fun _=>nofun);have eI:IA (env.set i (.dat d)) (σ.set i (some v))=IA env σ:=tT hu (fun _=>⟨nofun,nofun⟩);have mm:∀ j,mu (env.set i (.dat d)) j->mu env j/\i≠j:=fun j h=>by
  obtain ⟨c,e | e⟩:=h
  ·rcases get_set e with ⟨_,z⟩ | ⟨n,e⟩
   ·cases z
   ·exact ⟨⟨c,.inl e⟩,n⟩
  ·rcases get_set e with ⟨_,z⟩ | ⟨n,e⟩
   ·cases z
   ·exact ⟨⟨c,.inr e⟩,n⟩
 refine ⟨by rw [IF,IF];exact R.len,fun j c e=>?_,fun j c e=>?_,fun j c e=>?_,fun j c e=>?_,fun j k a h1 h2 h3 h4=>?_,R.dom,R.d8⟩
 ·rw [eF];rcases get_set e with ⟨z,y⟩ | ⟨n,e⟩
  ·subst z;cases y;exact ⟨v,Ih (by rw [<- R.len];exact hi),h⟩
  obtain ⟨w,s,r⟩:=R.dat j c e;exact ⟨w,by rw [HW n];exact s,r⟩
 ·rw [eF];rcases get_set e with ⟨_,z⟩ | ⟨n,e⟩
  ·cases z
  obtain ⟨a,s,q,w,t⟩:=R.own j c e;exact ⟨a,by rw [HW n];exact s,q,w,t⟩
 ·rw [eF];rcases get_set e with ⟨_,z⟩ | ⟨n,e⟩
  ·cases z
  obtain ⟨a,s,q,w,t⟩:=R.ino j c e;exact ⟨a,by rw [HW n];exact s,q,w,t⟩
 ·rw [eF,eI];rcases get_set e with ⟨_,z⟩ | ⟨n,e⟩
  ·cases z
  obtain ⟨a,s,t⟩:=R.ro j c e;exact ⟨a,by rw [HW n];exact s,t⟩
 ·obtain ⟨m1,n1⟩:=mm j h1;obtain ⟨m2,n2⟩:=mm k h2;rw [HW n1] at h3;rw [HW n2] at h4;exact R.sep j k a m1 m2 h3 h4
theorem Rel.GR {i:Nat} {d:PyData} {a:Addr} (hu:env[i]?=some .un) (h:fB K F0 H₀ I env σ H (.frs d) (.ref a)):Rel K F0 H₀ I (env.set i (.own d)) (σ.set i (some (.ref a))) H:=by
 obtain ⟨a',ea,R,t,w,nF,hino,hro⟩:=h;cases ea;have hi:i < env.length:=(HX.mp hu).1;have his:i < σ.length:=by rw [<- R.len];exact hi
 have eF:FF F0 (env.set i (.own d)) (σ.set i (some (.ref a)))=fun b=>FF F0 env σ b\/b=a:=by
  funext b;apply propext;constructor
  ·rintro (h | ⟨j,c,e,q⟩)
   ·exact .inl (.inl h)
   ·rcases get_set e with ⟨z,y⟩ | ⟨n,e⟩
    ·subst z;rw [Ih his] at q;cases q;exact .inr rfl
    ·rw [HW n] at q;exact .inl (.inr ⟨j,c,e,q⟩)
  ·rintro ((h | ⟨j,c,e,q⟩) | rfl)
   ·exact .inl h
   ·have n:i≠j:=fun z=>by subst z;rw [hu] at e;cases e
    exact .inr ⟨j,c,by rw [HW n];exact e,by rw [HW n];exact q⟩
   ·exact .inr ⟨i,d,Ih hi,Ih his⟩
 have eF2:FF (fun b=>F0 b\/b=a) env σ=fun b=>FF F0 env σ b\/b=a:=gb;have mm:∀ j,mu (env.set i (.own d)) j->i=j\/(mu env j/\i≠j):=fun j h=>by
  obtain ⟨c,e | e⟩:=h
  ·rcases get_set e with ⟨z,_⟩ | ⟨n,e⟩
   ·exact .inl z
   ·exact .inr ⟨⟨c,.inl e⟩,n⟩
  ·rcases get_set e with ⟨z,_⟩ | ⟨n,e⟩
   ·exact .inl z
   ·exact .inr ⟨⟨c,.inr e⟩,n⟩
 have eI:∀ b,IA (env.set i (.own d)) (σ.set i (some (.ref a))) b->IA env σ b\/b=a:=by
  rintro b ⟨j,m,q⟩;rcases mm j m with z | ⟨m',n⟩
  ·subst z;rw [Ih his] at q;cases q;exact .inr rfl
  ·rw [HW n] at q;exact .inl ⟨j,m',q⟩
 have na:∀ j,mu env j->σ[j]?≠some (some (.ref a)):=fun j m q=>by
  obtain ⟨c,e | e⟩:=m
  ·exact nF (.inr ⟨j,c,e,q⟩)
  ·exact hino j c e q
 refine ⟨by rw [IF,IF];exact R.len,fun j c e=>?_,fun j c e=>?_,fun j c e=>?_,fun j c e=>?_,fun j k b h1 h2 h3 h4=>?_,fun b h=>R.dom b (.inl h),R.d8⟩
 ·rw [eF];rcases get_set e with ⟨_,z⟩ | ⟨n,e⟩
  ·cases z
  obtain ⟨x,s,r⟩:=R.dat j c e;rw [eF2] at r;exact ⟨x,by rw [HW n];exact s,r⟩
 ·rw [eF];rcases get_set e with ⟨z,y⟩ | ⟨n,e⟩
  ·subst z;cases y;exact ⟨a,Ih his,fun z=>nF (.inl z),w,t⟩
  obtain ⟨b,s,q,w',t'⟩:=R.own j c e;rw [eF2] at t';exact ⟨b,by rw [HW n];exact s,fun z=>q (.inl z),w',t'⟩
 ·rw [eF];rcases get_set e with ⟨_,z⟩ | ⟨n,e⟩
  ·cases z
  obtain ⟨b,s,q,w',t'⟩:=R.ino j c e;rw [eF2] at t';refine ⟨b,by rw [HW n];exact s,?_,w',t'⟩;rcases q with q | q
  ·exact q
  ·subst q;exact absurd s (hino j c e)
 ·rw [eF];rcases get_set e with ⟨_,z⟩ | ⟨n,e⟩
  ·cases z
  obtain ⟨b,s,t'⟩:=hro j c e;exact ⟨b,by rw [HW n];exact s,t'.pr Pr.refl (fun _ z=>z) eI fun _ _ z _=>z⟩
 ·rcases mm j h1 with z1 | ⟨m1,n1⟩
  ·rcases mm k h2 with z2 | ⟨m2,n2⟩
   ·rw [<- z1,<-z2]
   ·rw [<- z1,Ih his] at h3;cases h3;rw [HW n2] at h4;exact absurd h4 (na k m2)
  ·rw [HW n1] at h3;rcases mm k h2 with z2 | ⟨m2,n2⟩
   ·rw [<- z2,Ih his] at h4;cases h4;exact absurd h3 (na j m1)
   ·rw [HW n2] at h4;exact R.sep j k b m1 m2 h3 h4
theorem Rel.take (R:Rel K F0 H₀ I env σ H) {i:Nat} {d:PyData} (e:env[i]?=some (.own d)):∃ a,σ[i]?=some (some (.ref a))/\fB K F0 H₀ I (env.set i .un) σ H (.frs d) (.ref a):=by
 obtain ⟨a,s,nF0,w,t⟩:=R.own i d e;have hi:i < env.length:=(HX.mp e).1;have mm:∀ j,mu (env.set i .un) j->mu env j/\i≠j:=fun j h=>by
  obtain ⟨c,e | e⟩:=h
  ·rcases get_set e with ⟨_,z⟩ | ⟨n,e⟩
   ·cases z
   ·exact ⟨⟨c,.inl e⟩,n⟩
  ·rcases get_set e with ⟨_,z⟩ | ⟨n,e⟩
   ·cases z
   ·exact ⟨⟨c,.inr e⟩,n⟩
 have eF:FF F0 env σ=fun b=>FF F0 (env.set i .un) σ b\/b=a:=by
  funext b;apply propext;constructor
  ·rintro (h | ⟨j,c,e',q⟩)
   ·exact .inl (.inl h)
   ·by_cases n:i=j
    ·subst n;rw [s] at q;cases q;exact .inr rfl
    ·exact .inl (.inr ⟨j,c,by rw [HW n];exact e',q⟩)
  ·rintro ((h | ⟨j,c,e',q⟩) | rfl)
   ·exact .inl h
   ·rcases get_set e' with ⟨_,z⟩ | ⟨n,e'⟩
    ·cases z
    ·exact .inr ⟨j,c,e',q⟩
   ·exact .inr ⟨i,d,e,s⟩
 have eF2:FF (fun b=>F0 b\/b=a) (env.set i .un) σ=FF F0 env σ:=by rw [gb];exact eF.symm
 have na:∀ j,mu (env.set i .un) j->σ[j]?≠some (some (.ref a)):=fun j m q=>by
  obtain ⟨m',n⟩:=mm j m;exact n (R.sep i j a ⟨d,.inl e⟩ m' s q)
 have nF:¬FF F0 (env.set i .un) σ a:=by
  rintro (h | ⟨j,c,e',q⟩)
  ·exact nF0 h
  ·exact na j ⟨c,.inl e'⟩ q
 have ia:∀ b,IA (env.set i .un) σ b->IA env σ b:=fun b ⟨j,m,q⟩=>⟨j,(mm j m).1,q⟩;have ia2:∀ b,(IA (env.set i .un) σ b\/b=a)->IA env σ b:=fun b h=>h.elim (ia b) fun z=>z▸⟨i,⟨d,.inl e⟩,s⟩;have R':Rel K (fun b=>F0 b\/b=a) H₀ I (env.set i .un) σ H:=by
  refine ⟨by rw [IF];exact R.len,fun j c e'=>?_,fun j c e'=>?_,fun j c e'=>?_,fun j c e'=>?_,fun j k b h1 h2 h3 h4=>R.sep j k b (mm j h1).1 (mm k h2).1 h3 h4,fun b h=>?_,R.d8⟩
  ·rw [eF2];rcases get_set e' with ⟨_,z⟩ | ⟨n,e'⟩
   ·cases z
   exact R.dat j c e'
  ·rw [eF2];have m:=e';rcases get_set e' with ⟨_,z⟩ | ⟨n,e'⟩
   ·cases z
   obtain ⟨b,s',q,w',t'⟩:=R.own j c e';exact ⟨b,s',fun z=>z.elim q fun z=>na j ⟨c,.inl m⟩ (z▸s'),w',t'⟩
  ·rw [eF2];rcases get_set e' with ⟨_,z⟩ | ⟨n,e'⟩
   ·cases z
   obtain ⟨b,s',q,w',t'⟩:=R.ino j c e';exact ⟨b,s',.inl q,w',t'⟩
  ·rw [eF2];rcases get_set e' with ⟨_,z⟩ | ⟨n,e'⟩
   ·cases z
   obtain ⟨b,s',t'⟩:=R.ro j c e';exact ⟨b,s',t'.pr Pr.refl (fun _ z=>z) ia fun _ _ z _=>z⟩
  ·rcases h with h | h
   ·exact R.dom b h
   ·obtain ⟨o,q,_⟩:=t.wr;rw [h,q];exact nofun
 refine ⟨a,s,a,rfl,R',by rw [eF] at t;exact t,w,nF,fun j c e'=>na j ⟨c,.inr e'⟩,fun j c e'=>?_⟩;rcases get_set e' with ⟨_,z⟩ | ⟨n,e'⟩
 ·cases z
 obtain ⟨b,s',t'⟩:=R.ro j c e';rw [eF] at t';exact ⟨b,s',t'.pr Pr.refl (fun _ z=>z) ia2 fun _ _ z _=>z⟩
theorem fB.rel {d:PyData} {v:V} (h:fB K F0 H₀ I env σ H (.frs d) v):Rel K F0 H₀ I env σ H:=by
 obtain ⟨a,_,R,_,_,_,hi,_⟩:=h;exact R.less hi
theorem set_same {α:Type} {l:List α} {i:Nat} {x:α} (h:l[i]?=some x):l.set i x=l:=by
 have hi:i < l.length:=(HX.mp h).1;apply List.ext_getElem?;intro j;by_cases z:i=j
 ·subst z;rw [Ih hi,h]
 ·rw [HW z]
theorem Rel.mov (R:Rel K F0 H₀ I env σ H) {i:Nat} {d:PyData} (e:env[i]?=some (.own d)):∃ a,σ[i]?=some (some (.ref a))/\Rel K F0 H₀ I (env.set i (.dat d)) σ H/\Dm K (FF F0 (env.set i (.dat d)) σ) H d (.ref a):=by
 have hi:i < env.length:=(HX.mp e).1;obtain ⟨a,s,h⟩:=R.take e;have R1:=h.rel;have hu:(env.set i .un)[i]?=some .un:=Ih hi;have hd:Dm K (FF F0 (env.set i .un) σ) H d (.ref a):=fB.av h;have R2:=R1.putD hu hd;rw [Jp,set_same s] at R2;refine ⟨a,s,R2,?_⟩;have eF:FF F0 (env.set i (.dat d)) σ=FF F0 (env.set i .un) σ:=by
  have:=ko (F0:=F0) (σ:=σ) (s:=.dat d) (x:=some (.ref a)) hu (fun _=>nofun);rw [Jp,set_same s] at this;exact this
 rw [eF];exact hd
theorem wC {i:Nat} {s s':Sl} (e:env[i]?=some s) (v:Evo s s'):KpE env (env.set i s'):=by
 have hi:i < env.length:=(HX.mp e).1;refine ⟨IF,fun j t h=>?_⟩;by_cases z:i=j
 ·subst z;rw [e] at h;cases h;exact ⟨s',Ih hi,v⟩
 ·exact ⟨t,by rw [HW z];exact h,.refl t⟩
end
open PySem
theorem du (x y:Str):(x++y).cps=x.cps++y.cps:=rfl
theorem md {x y:Str} (h:PyData.strOk x=true) (q:PyData.strOk y=true):PyData.strOk (x++y)=true:=by
 unfold PyData.strOk at h q ⊢;rw [du,Array.all_append,h,q];rfl
def SE (K:Fg) (ga:Nat->V) (gd:List PyData) (e:XE):Prop:=∀ (env:En) (rv:RV) (env':En),dE gd e env=some (rv,env')->∀ (F0:Addr->Prop) (H₀:Hp) (I:Addr->Prop) (σ:St) (H:Hp) (Q:VK),Rel K F0 H₀ I env σ H ->
 (∀ v H',Rel K F0 H₀ I env' σ H'->KpE env env'->fB K F0 H₀ I env' σ H' rv v->Q v H')->rE K ga e σ H Q
def SA (K:Fg) (ga:Nat->V) (gd:List PyData) (e:XA):Prop:=∀ (env:En) (rv:List AV) (env':En),dA gd e env=some (rv,env')->∀ (F0:Addr->Prop) (H₀:Hp) (I:Addr->Prop) (σ:St) (H:Hp) (Q:List V->Hp->Prop),Rel K F0 H₀ I env σ H ->
 (∀ v H',Rel K F0 H₀ I env' σ H'->KpE env env'->iL K F0 env' σ H' rv v->Q v H')->rA K ga e σ H Q
def SF (K:Fg) (ga:Nat->V) (gd:List PyData) (e:XA):Prop:=∀ (out:Str) (env:En) (x:Str) (env':En),dF gd e out env=some (x,env')->∀ (F0:Addr->Prop) (H₀:Hp) (I:Addr->Prop) (σ:St) (H:Hp) (Q:VK),Rel K F0 H₀ I env σ H ->
 PyData.strOk out=true->(∀ H',Rel K F0 H₀ I env' σ H'->KpE env env'->x.length<=sizeLine->PyData.strOk x=true->Q (.str x) H')->tFs (rF K ga e) out σ H Q
def AS (K:Fg) (F:Addr->Prop) (H:Hp):List (Key×PyData)->List (Key×V)->Prop
 | [],vs=>vs=[]
 | (k,d) :: ds,vs=>∃ v r,vs=(k,v) :: r/\Dm K F H (kD k) (kV k)/\Dm K F H d v/\AS K F H ds r
def SPs (K:Fg) (ga:Nat->V) (gd:List PyData) (e:XP):Prop:=∀ (env:En) (kvs:List (Key×PyData)) (env':En),dP gd e env=some (kvs,env')->∀ (F0:Addr->Prop) (H₀:Hp) (I:Addr->Prop) (σ:St) (H:Hp) (Q:List (V×V)->Hp->Prop),Rel K F0 H₀ I env σ H ->
 (∀ vs H',Rel K F0 H₀ I env' σ H'->KpE env env'->AS K (FF F0 env' σ) H' kvs vs->Q (vs.map fun kv=>(kV kv.1,kv.2)) H')->pz (rP K ga e) σ H Q
def ST (K:Fg) (ga:Nat->V) (gd:List PyData) (e:XT):Prop:=∀ (env:En) (b:Bool) (env':En),dT gd e env=some (b,env')->∀ (F0:Addr->Prop) (H₀:Hp) (I:Addr->Prop) (σ:St) (H:Hp) (Q:Bool->Hp->Prop),Rel K F0 H₀ I env σ H ->
 (∀ H',Rel K F0 H₀ I env' σ H'->KpE env env'->Q b H')->rT K ga e σ H Q
def ItY (K:Fg) (F:Addr->Prop) (H H' H'':Hp) (d:PyData) (x:V):Prop:=(H''=H'/\Dm K F H d x)\/∃ p u v d1 d2,d=.tuple [d1,d2]/\x=.ref p/\H' p=none/\H''=upd H' p (.tup [u,v])/\Dm K F H d1 u/\Dm K F H d2 v
theorem ItY.dm {K:Fg} {F F2:Addr->Prop} {H H' H'':Hp} {d:PyData} {x:V} (h:ItY K F H H' H'' d x) (T:∀ d v,Dm K F H d v->Dm K F2 H' d v):aJ H' H''/\Dm K F2 H'' d x:=by
 rcases h with ⟨rfl,h⟩ | ⟨p,u,v,d1,d2,rfl,rfl,hp,rfl,h1,h2⟩
 ·exact ⟨fun _ _ e=>e,T _ _ h⟩
 ·have sm:aJ H' (upd H' p (.tup [u,v])):=fun b o e=>by rw [ak (fun z=>by rw [z,hp] at e;cases e)];exact e
  refine ⟨sm,p,[u,v],rfl,SqT.of ar,JQ rfl,u,_,rfl,?_,v,_,rfl,?_,rfl⟩
  ·exact (T _ _ h1).pr (fun b o e _=>sm b o e) fun _ z=>z
  ·exact (T _ _ h2).pr (fun b o e _=>sm b o e) fun _ z=>z
def uN (K:Fg) (F I:Addr->Prop) (H:Hp) (J:It) (ds:List PyData):Prop:=ds.length<=sizeLine/\∀ H',(∀ b o,H b=some o->¬I b->H' b=some o)->∀ k,(k < ds.length->J.go k H'/\∀ x H'',J.yld k H' x H''->∃ d,ds[k]?=some d/\ItY K F H H' H'' d x)/\(ds.length<=k->J.stop k H')
theorem jv {K:Fg} {F I:Addr->Prop} {H:Hp} {J:It} {ds:List PyData} {vs:List V} (hd:DmL K F H ds vs) (hl:vs.length<=sizeLine) (h:∀ H',(∀ b o,H b=some o->¬I b->H' b=some o)->∀ k,(k < vs.length->J.go k H'/\∀ x H'',J.yld k H' x H''->H''=H'/\vs[k]?=some x)/\(vs.length<=k->J.stop k H')):uN K F I H J ds:=by
 have e:=hd.len;refine ⟨by omega,fun H' k j=>⟨fun hj=>?_,fun hj=>((h H' k j).2 (by omega))⟩⟩;obtain ⟨g,y⟩:=(h H' k j).1 (by omega);refine ⟨g,fun x H'' hx=>?_⟩;obtain ⟨e0,hx2⟩:=y x H'' hx;obtain ⟨d,h1,h2⟩:=hd.get' hx2;exact ⟨d,h1,.inl ⟨e0,h2⟩⟩
def SI (K:Fg) (ga:Nat->V) (gd:List PyData) (e:XI):Prop:=∀ (env:En) (ds:List PyData) (lock:Option Nat) (env':En),dI gd e env=some (ds,lock,env')->∀ (F0:Addr->Prop) (H₀:Hp) (I:Addr->Prop) (σ:St) (H:Hp) (R:It->Hp->Prop),Rel K F0 H₀ I env σ H ->
 (∀ J H',Rel K F0 H₀ I env' σ H'->KpE env env'->(∀ i,lock=some i->∃ d,cont env' i=some d)->uN K (FF F0 env' σ) (fun b=>IA env' σ b/\∀ i,lock=some i->mu env' i->σ[i]?≠some (some (.ref b))) H' J ds->R J H')->rI_ K ga e σ H R
section
variable {K:Fg} {F F' I I' F0:Addr->Prop} {H H' H₀:Hp} {env env':En} {σ σ':St} {ga:Nat->V} {gd:List PyData}
theorem DM (i:Nat):SE K ga gd (.var i):=by
 intro env rv env' h F0 H₀ I σ H Q R q;simp only [dE] at h;split at h
 ·rename_i d e;cases h;obtain ⟨v,s,r⟩:=R.dat i d e;exact ⟨v,s,q v H R (KpE.refl _) r⟩
 ·rename_i d e;cases h;obtain ⟨a,s,_⟩:=R.own i d e;exact ⟨_,s,q _ H R (KpE.refl _) s⟩
 ·rename_i d e;cases h;obtain ⟨a,s,_⟩:=R.ino i d e;exact ⟨_,s,q _ H R (KpE.refl _) s⟩
 ·rename_i d e;cases h;obtain ⟨a,s,_⟩:=R.ro i d e;exact ⟨_,s,q _ H R (KpE.refl _) s⟩
 ·cases h
theorem DX (i:Nat):SE K ga gd (.mov i):=by
 intro env rv env' h F0 H₀ I σ H Q R q;simp only [dE] at h;split at h
 ·rename_i d e;cases h;obtain ⟨a,s,R',r⟩:=R.mov e;exact ⟨_,s,q _ H R' (wC e (.inr (.inl ⟨d,rfl⟩))) r⟩
 ·cases h
theorem Fo (i:Nat):SE K ga gd (.tke i):=by
 intro env rv env' h F0 H₀ I σ H Q R q;simp only [dE] at h;split at h
 ·rename_i d e;cases h;obtain ⟨a,s,r⟩:=R.take e;exact ⟨_,s,q _ H r.rel (wC e (.inr (.inr rfl))) r⟩
 ·cases h
theorem E2 (c:Cst):SE K ga gd (.cst c):=by
 intro env rv env' h F0 H₀ I σ H Q R q;simp only [dE] at h;cases h;exact q _ H R (KpE.refl _) (c.ok _ _ _)
theorem DF (hg:∀ g d,gd[g]?=some d->∀ F H,Dm K F H d (ga g)) (g:Nat):SE K ga gd (.glb g):=by
 intro env rv env' h F0 H₀ I σ H Q R q;simp only [dE] at h;split at h
 ·rename_i d e;cases h;exact q _ H R (KpE.refl _) (hg g d e _ _)
 ·cases h
theorem Dx {p:Prm} {as:XA} (ih:SA K ga gd as):SE K ga gd (.prm p as):=by
 intro env rv env' h F0 H₀ I σ H Q R q;simp only [dE] at h;split at h
 ·rename_i avs e1 h1;split at h
  ·rename_i ds h2;split at h
   ·rename_i pr h3;cases h;refine ih _ _ _ h1 F0 H₀ I σ H _ R fun vs H1 R1 k1 a1=>?_;refine p.ok K _ H1 ds vs pr Q h3 (a1.vw R1 h2) (fun b z=>R1.fy z) fun v H2 s2 hp=>?_;exact q v H2 (R1.same s2) k1 (R1.mY s2 hp)
   ·cases h
  ·cases h
 ·cases h
theorem D9 {m:Mtd} {o:XE} {as:XA} (io:SE K ga gd o) (ih:SA K ga gd as):SE K ga gd (.met m o as):=by
 intro env rv env' h F0 H₀ I σ H Q R q;simp only [dE] at h;split at h
 ·rename_i rv0 e1 h1;split at h
  ·rename_i d0 h2;split at h
   ·rename_i hty;split at h
    ·rename_i avs e2 h3;split at h
     ·rename_i d ds h4 h5;split at h
      ·rename_i pr h6;cases h;refine io _ _ _ h1 F0 H₀ I σ H _ R fun v H1 R1 k1 a1=>?_;refine ⟨m.As K _ H1 d0 v hty (a1.av.vw R1 h2),?_⟩;refine ih _ _ _ h3 F0 _ _ σ H1 _ R1.rebase fun vs H2 S2 k2 a2=>?_;have R2:=R1.bz S2;refine m.ok K _ H2 d v ds vs pr Q h6 ((a1.av.keep R1 S2 k2).vw R2 h4) (a2.vw R2 h5) (fun b z=>R2.fy z) fun v H3 s3 hp=>?_;exact q v H3 (R2.same s3) (k1.trans k2) (R2.mY s3 hp)
      ·cases h
     ·cases h
    ·cases h
   ·cases h
  ·cases h
 ·cases h
theorem Rel.Gb (R:Rel K F0 H₀ I env σ H) {i:Nat} {d d':PyData} {a:Addr} (hm:aV env i=some d) (s:σ[i]?=some (some (.ref a))) (hk:∀ b o,b≠a->H b=some o->H' b=some o) (ht:Top K (FF F0 env σ) H' d' a):Rel K F0 H₀ I (iK env i d') σ H':=by
 obtain ⟨m,a',s',_,_⟩:=R.dU hm;rw [s] at s';cases s';have hia:IA env σ a:=⟨i,m,s⟩;refine R.chg (e6 env i d') (fun b o e n=>hk b o (fun z=>n (z▸hia)) e) fun j c b hc hs=>?_;by_cases z:j=i
 ·subst z;rw [k0 m] at hc;cases hc;rw [s] at hs;cases hs;exact ht
 ·have hc':aV env j=some c:=by
   unfold aV at hc ⊢
   rwa [lg z] at hc
  obtain ⟨m2,b',s2,_,t2⟩:=R.dU hc';rw [hs] at s2;cases s2;have nb:b≠a:=fun y=>z (R.sep j i a m2 m (y▸hs) s);refine t2.pr (R.pw fun b' o e n=>hk b' o (fun z=>n (z▸hia)) e) (fun _ z=>z) fun o e=>hk b o nb e
theorem FX {m:Mtr} {i:Nat} {as:XA} (ih:SA K ga gd as):SE K ga gd (.mtr m i as):=by
 intro env rv env' h F0 H₀ I σ H Q R q;simp only [dE] at h;split at h
 ·rename_i d0 h0;split at h
  ·rename_i hty;split at h
   ·rename_i avs e1 h1;split at h
    ·rename_i d ds h2 h3;split at h
     ·rename_i d' pr h4;cases h;obtain ⟨_,a,s,f,t⟩:=R.dU h0;refine ⟨.ref a,s,m.As K _ H d0 a hty t,?_⟩;refine ih _ _ _ h1 F0 H₀ I σ H _ R fun vs H1 R1 k1 a1=>?_;obtain ⟨m1,a',s',f1,t1⟩:=R1.dU h2;rw [s] at s';cases s';refine m.ok K _ H1 d a ds vs d' pr Q h4 f1 t1 (a1.mv R1 h3) fun v H2 hk ht hp=>?_;refine q v H2 (R1.Gb h2 s hk ht) (k1.trans (qS _ _ _)) ?_;show Dm K (FF F0 (iK e1 i d') σ) H2 pr v;rw [(e6 e1 i d').ff (F0:=F0) (σ:=σ)];exact hp
     ·cases h
    ·cases h
   ·cases h
  ·cases h
 ·cases h
noncomputable def adr (σ:St) (i:Nat):Addr:=match σ[i]? with | some (some (.ref a))=>a | _=>0
theorem iy {i:Nat} {a:Addr} (h:σ[i]?=some (some (.ref a))):adr σ i=a:=by unfold adr;rw [h]
theorem kJ {ms:List PM} {as:List AV} {ds:List PyData} {m:PM} {a:AV} (h:kg env (m :: ms) (a :: as)=some ds):∃ d r,ds=d :: r/\DH env m a=some d/\kg env ms as=some r:=by
 unfold kg at h;split at h
 ·rename_i d r e1 e2;cases h;exact ⟨d,r,rfl,e1,e2⟩
 ·cases h
theorem gD.bor {G I:Addr->Prop} {d:PyData} {a:Addr} (h:gD K G I H d a):yN K G I H d (.ref a):=by cases d <;> first | exact ⟨a,rfl,h⟩ | exact absurd h id
theorem AQ (R:Rel K F0 H₀ I env σ H) (all:List Nat) (hall:∀ i∈all,mu env i):∀ {ms:List PM} {as:List AV} {ds:List PyData} {vs:List V},kg env ms as=some ds->iL K F0 env σ H as vs->(c6 ms as).Nodup->(∀ i∈uH ms as,i ∉ all)->(∀ i∈c6 ms as,i∈all) ->
  b3 K (FF F0 env σ) (·∈all.map (adr σ)) H ms ds vs ((c6 ms as).map (adr σ)):=by
 have iAll:∀ b,b∈all.map (adr σ)->IA env σ b:=fun b hb=>by
  obtain ⟨i,hi,e⟩:=Ij.mp hb;have m:=hall i hi;obtain ⟨d,m'⟩:=m;have:∃ a,σ[i]?=some (some (.ref a)):=by
   rcases m' with z | z
   ·obtain ⟨a,s,_⟩:=R.own i d z;exact ⟨a,s⟩
   ·obtain ⟨a,s,_⟩:=R.ino i d z;exact ⟨a,s⟩
  obtain ⟨a,s⟩:=this;rw [iy s] at e;subst e;exact ⟨i,hall i hi,s⟩
 intro ms;induction ms with
 | nil =>
  intro as ds vs h q _ _ _;cases as with
  | nil=>cases h;rw [show vs=[] from q];rfl
  | cons a as=>cases h
 | cons m ms ih =>
  intro as ds vs h q nd hb hi;cases as with
  | nil=>cases h
  | cons a as =>
   obtain ⟨d,r,rfl,h1,h2⟩:=kJ h;obtain ⟨v,vr,rfl,q1,q2⟩:=q;cases m with
   | dat =>
    cases a with
    | bor i=>cases h1
    | dat d' =>
     cases h1;exact ⟨q1,ih h2 q2 (by simpa [c6] using nd) (by simpa [uH] using hb) (by simpa [c6] using hi)⟩
   | bor =>
    cases a with
    | dat d' =>
     by_cases ct:∃ ts,d'=.tuple ts
     ·obtain ⟨ts,rfl⟩:=ct;cases h1;exact ⟨q1,ih h2 q2 (by simpa [c6] using nd) (by simpa [uH] using hb) (by simpa [c6] using hi)⟩
     have l:d'=d/\((∃ ds,d=.list ds)\/∃ ds,d=.dict ds):=by
      cases d' <;> first | exact absurd ⟨_,rfl⟩ ct | (cases h1;exact ⟨rfl,.inl ⟨_,rfl⟩⟩) | (cases h1;exact ⟨rfl,.inr ⟨_,rfl⟩⟩) | cases h1
     obtain ⟨rfl,l⟩:=l;obtain ⟨b,e,t⟩:=Dm.ro (I:=(·∈all.map (adr σ))) q1 (fun b z=>R.ia (iAll b z)) l;exact ⟨by rcases l with ⟨_,rfl⟩ | ⟨_,rfl⟩ <;> exact ⟨b,e,t⟩,ih h2 q2 (by simpa [c6] using nd) (by simpa [uH] using hb) (by simpa [c6] using hi)⟩
    | bor i =>
     have h1:cont env i=some d:=h1;have hb':i ∉ all:=hb i (by simp [uH]);refine ⟨?_,ih h2 q2 (by simpa [c6] using nd) (fun j hj=>hb j (by simp [uH,hj])) (by simpa [c6] using hi)⟩;unfold cont at h1;have na:∀ a,mu env i->σ[i]?=some (some (.ref a))->a ∉ all.map (adr σ):=fun a m s z=>by
      obtain ⟨j,hj,e⟩:=Ij.mp z;obtain ⟨k,mk,sk⟩:=iAll a z;obtain ⟨dj,mj⟩:=hall j hj;have:∃ c,σ[j]?=some (some (.ref c)):=by
       rcases mj with z | z
       ·obtain ⟨a,s,_⟩:=R.own j dj z;exact ⟨a,s⟩
       ·obtain ⟨a,s,_⟩:=R.ino j dj z;exact ⟨a,s⟩
      obtain ⟨c,sj⟩:=this;rw [iy sj] at e;subst e;have:=R.sep i j c m ⟨dj,mj⟩ s sj;subst this;exact hb' hj
     split at h1
     ·rename_i d' e;cases h1;obtain ⟨a,s,_,_,t⟩:=R.own i d e;rw [show σ[i]?=some (some v) from q1] at s;cases s;exact gD.bor (t.ro (na a ⟨d,.inl e⟩ q1))
     ·rename_i d' e;cases h1;obtain ⟨a,s,_,_,t⟩:=R.ino i d e;rw [show σ[i]?=some (some v) from q1] at s;cases s;exact gD.bor (t.ro (na a ⟨d,.inr e⟩ q1))
     ·rename_i d' e;cases h1;obtain ⟨a,s,t⟩:=R.ro i d e;rw [show σ[i]?=some (some v) from q1] at s;cases s;exact gD.bor (t.pr Pr.refl (fun _ z=>z) iAll fun _ _ z _=>z)
     ·cases h1
   | ino =>
    cases a with
    | dat d'=>cases h1
    | bor i =>
     have h1:aV env i=some d:=h1;obtain ⟨m,b,s,f,t⟩:=R.dU h1;rw [show σ[i]?=some (some v) from q1] at s;cases s;have nd':i ∉ c6 ms as/\(c6 ms as).Nodup:=by simpa [c6] using nd
     refine ⟨b,(c6 ms as).map (adr σ),rfl,by simp [c6,iy q1],f,t,fun z=>?_,ih h2 q2 nd'.2 (by simpa [uH] using hb) (fun j hj=>hi j (by simp [c6,hj]))⟩;obtain ⟨j,hj,e⟩:=Ij.mp z;obtain ⟨dj,mj⟩:=hall j (hi j (by simp [c6,hj]));have:∃ c,σ[j]?=some (some (.ref c)):=by
      rcases mj with z | z
      ·obtain ⟨a,s,_⟩:=R.own j dj z;exact ⟨a,s⟩
      ·obtain ⟨a,s,_⟩:=R.ino j dj z;exact ⟨a,s⟩
     obtain ⟨c,sj⟩:=this;rw [iy sj] at e;subst e;have:=R.sep i j c m ⟨dj,mj⟩ q1 sj;subst this;exact nd'.1 hj
theorem rO:∀ {ms:List PM} {as:List AV} {ds:List PyData},kg env ms as=some ds->∀ i∈c6 ms as,mu env i
 | [],[],_,_,i,h=>by simp [c6] at h
 | [],_ :: _,_,h,_,_=>by cases h
 | _ :: _,[],_,h,_,_=>by cases h
 | m :: ms,a :: as,_,h,i,hi=>by
  obtain ⟨d,r,rfl,h1,h2⟩:=kJ h;have ih:=rO h2 i;cases m with
  | dat=>exact ih (by simpa [c6] using hi)
  | bor=>exact ih (by simpa [c6] using hi)
  | ino =>
   cases a with
   | dat d'=>cases h1
   | bor j =>
    simp only [c6,Il] at hi;rcases hi with rfl | hi
    ·rcases oX h1 with e | e
     ·exact ⟨d,.inl e⟩
     ·exact ⟨d,.inr e⟩
    ·exact ih hi
theorem lN:∀ (env:En) (is:List Nat) (ds:List PyData),SmK env (d5 env is ds)
 | env,[],ds=>by unfold d5;exact SmK.refl _
 | env,i :: is,[]=>by unfold d5;exact SmK.refl _
 | env,i :: is,d :: ds=>by unfold d5;exact (e6 env i d).trans (lN _ is ds)
theorem jL:∀ (env:En) (is:List Nat) (ds:List PyData) (j:Nat),j ∉ is->(d5 env is ds)[j]?=env[j]?
 | env,[],ds,j,_=>by unfold d5;rfl
 | env,i :: is,[],j,_=>by unfold d5;rfl
 | env,i :: is,d :: ds,j,h=>by
  unfold d5;have n:j≠i:=fun z=>h (by rw [z];exact Ip);rw [jL _ is ds j (fun z=>h (Ie _ z)),lg n]
theorem lC {G:Addr->Prop}:∀ {env:En} {is:List Nat} {ds:List PyData} {j:Nat} {c:PyData},is.Nodup->(∀ i∈is,mu env i)->jy K G H ds (is.map (adr σ))->j∈is->aV (d5 env is ds) j=some c->Top K G H c (adr σ j)
 | env,[],ds,j,c,_,_,_,h,_=>by simp at h
 | env,i :: is,[],j,c,_,_,h,_,_=>by simp [jy] at h
 | env,i :: is,d :: ds,j,c,nd,hm,h,hj,hc=>by
  obtain ⟨n1,nd'⟩:=IY.mp nd;have h':Top K G H d (adr σ i)/\jy K G H ds (is.map (adr σ)):=h;unfold d5 at hc;rcases Il.mp hj with rfl | hj
  ·have e:=jL (iK env j d) is ds j n1;have:aV (iK env j d) j=some c:=by unfold aV at hc ⊢;rwa [e] at hc
   rw [k0 (hm j Ip)] at this;cases this;exact h'.1
  ·exact lC (env:=iK env i d) nd' (fun k hk=>(e6 env i d).symm.kp.mu (hm k (Ie _ hk))) h'.2 hj hc
theorem iR:∀ {is:List Nat},yE is=true->is.Nodup
 | [],_=>Ku
 | x :: xs,h=>by
  have h':xs.contains x=false/\yE xs=true:=by simpa [yE] using h
  exact IY.mpr ⟨fun z=>by simp [z] at h',iR h'.2⟩
theorem yK {is bs:List Nat} {n:Nat} (h:ckA is bs n=true):is.Nodup/\(∀ i∈bs,i ∉ is)/\n=is.length:=by
 unfold ckA at h;simp only [ID,Je,beq_iff_eq] at h;exact ⟨iR h.1,fun i hi z=>by have:=h.2.1 i hi;simp [z] at this,h.2.2⟩
theorem s_call {f:Fn} {as:XA} (ih:SA K ga gd as):SE K ga gd (.call f as):=by
 intro env rv env' h F0 H₀ I σ H Q R q;simp only [dE] at h;split at h
 ·rename_i avs e1 h1;unfold vA at h;split at h
  ·cases h
  ·rename_i ds h2;split at h
   ·cases h
   ·rename_i pr outs h3;split at h
    ·rename_i hc;obtain ⟨nd,hb,hl⟩:=yK hc;cases h;refine ih _ _ _ h1 F0 H₀ I σ H _ R fun vs H1 R1 k1 a1=>?_;show cB f K (vs++[]) H1 Q NoE;rw [Jn];have hmu:=rO h2;refine ⟨FF F0 e1 σ,ds,(c6 f.ms avs).map (adr σ),pr,outs,h3,AQ R1 (c6 f.ms avs) hmu h2 a1 nd hb (fun _ z=>z),fun b z=>R1.fy z,fun v H2 hk hr=>?_⟩;have k:=lN e1 (c6 f.ms avs) outs;have eF:=k.ff (F0:=F0) (σ:=σ);have eI:=k.ia (σ:=σ);have isIA:∀ b,b∈(c6 f.ms avs).map (adr σ)->IA e1 σ b:=fun b hb=>by
      obtain ⟨i,hi,e⟩:=Ij.mp hb;obtain ⟨d,m'⟩:=hmu i hi;have:∃ a,σ[i]?=some (some (.ref a)):=by
       rcases m' with z | z
       ·obtain ⟨a,s,_⟩:=R1.own i d z;exact ⟨a,s⟩
       ·obtain ⟨a,s,_⟩:=R1.ino i d z;exact ⟨a,s⟩
      obtain ⟨a,s⟩:=this;rw [iy s] at e;subst e;exact ⟨i,hmu i hi,s⟩
     have hk':∀ b o,H1 b=some o->¬IA e1 σ b->H2 b=some o:=fun b o e n=>hk b o e fun z=>n (isIA b z);have lH:∀ j d a,j ∉ c6 f.ms avs->aV (d5 e1 (c6 f.ms avs) outs) j=some d->σ[j]?=some (some (.ref a))->aV e1 j=some d/\a ∉ (c6 f.ms avs).map (adr σ):=fun j d a hj hm hs=>by
      have hm':aV e1 j=some d:=by unfold aV at hm ⊢;rwa [jL _ _ _ _ hj] at hm
      refine ⟨hm',fun z=>?_⟩;obtain ⟨i,hi,e⟩:=Ij.mp z;obtain ⟨i',m2,s2⟩:=isIA a z;obtain ⟨di,mi⟩:=hmu i hi;have:∃ a,σ[i]?=some (some (.ref a)):=by
       rcases mi with z | z
       ·obtain ⟨a,s,_⟩:=R1.own i di z;exact ⟨a,s⟩
       ·obtain ⟨a,s,_⟩:=R1.ino i di z;exact ⟨a,s⟩
      obtain ⟨c,sc⟩:=this;rw [iy sc] at e;subst e;have:=R1.sep j i c (R1.dU hm').1 ⟨di,mi⟩ hs sc;subst this;exact hj hi
     cases pr with
     | dat d =>
      obtain ⟨hd,ht⟩:=hr;refine q v H2 (R1.chg k hk' fun j c a hm hs=>?_) (k1.trans k.kp) (show Dm K _ H2 d v by rw [eF];exact hd);by_cases hj:j∈c6 f.ms avs
      ·have:=lC nd hmu ht hj hm
       rwa [iy hs] at this
      ·obtain ⟨hm',ha⟩:=lH j c a hj hm hs;obtain ⟨_,a',s',_,t'⟩:=R1.dU hm';rw [hs] at s';cases s';exact t'.pr (R1.pw hk') (fun _ z=>z) fun o e=>hk a o e ha
     | frs d =>
      obtain ⟨c,ev,hn,td,ht⟩:=hr;obtain ⟨o,ho,_⟩:=td.wr;have sm:aJ H1 (upd H1 c o):=aJ.nw o hn;have R1c:=R1.fresh (c:=c) hn sm (by rw [ar];exact nofun);have cIA:¬IA e1 σ c:=fun z=>by obtain ⟨o',z,_⟩:=R1.iaT z;rw [hn] at z;cases z
      have hkc:∀ b o',upd H1 c o b=some o'->¬IA e1 σ b->H2 b=some o':=fun b o' e n=>by
       by_cases z:b=c
       ·subst z;rw [ar] at e;cases e;exact ho
       ·rw [ak z] at e;exact hk' b o' e n
      have pF:Pr (fun b=>FF F0 e1 σ b\/b=c) H1 H2:=fun b o' e n=>hk' b o' e fun y=>by
       rcases n with n | n
       ·exact n (.inl (R1.ia y))
       ·obtain ⟨o2,h2,w2⟩:=R1.iaT y;rw [e] at h2;cases h2;rw [n] at w2;cases w2
      have R2c:Rel K (fun b=>F0 b\/b=c) H₀ I (d5 e1 (c6 f.ms avs) outs) σ H2:=by
       refine R1c.chg k hkc fun j c' a hm hs=>?_;rw [gb];by_cases hj:j∈c6 f.ms avs
       ·have:=lC nd hmu ht hj hm
        rwa [iy hs] at this
       ·obtain ⟨hm',ha⟩:=lH j c' a hj hm hs;obtain ⟨_,a',s',_,t'⟩:=R1.dU hm';rw [hs] at s';cases s';exact (t'.fresh hn).pr pF (fun _ z=>z) fun o e=>hk a o e ha
      have nino:∀ (i:Nat) (d':PyData),(d5 e1 (c6 f.ms avs) outs)[i]?=some (.ino d')->σ[i]?≠some (some (.ref c)):=fun i d' e' z=>cIA ⟨i,k.kp.mu ⟨d',.inr e'⟩,z⟩;have rv:fB K F0 H₀ I (d5 e1 (c6 f.ms avs) outs) σ H2 (.frs d) v:=by
       refine ⟨c,ev,R2c,by rw [eF];exact td,R1.oi (.inl hn),fun z=>?_,nino,fun i d' e'=>?_⟩
       ·rw [eF] at z;exact R1.fy z hn
       ·have e0:e1[i]?=some (.ro d'):=by
         rcases k.2 i with y | ⟨_,_,_,y⟩ | ⟨_,_,_,y⟩
         ·rw [<- y];exact e'
         ·rw [e'] at y;cases y
         ·rw [e'] at y;cases y
        obtain ⟨b,s,t⟩:=R1.ro i d' e0;rw [eF,eI];exact ⟨b,s,((t.fresh hn).wU hn).pr pF (fun _ z=>z) (fun _ z=>z) fun b o' e n=>hk' b o' e fun z=>n (.inl z)⟩
      exact q v H2 rv.rel (k1.trans k.kp) rv
    ·cases h
 ·cases h
theorem EH {as:XA} (ih:SA K ga gd as):SE K ga gd (.tup as):=by
 intro env rv env' h F0 H₀ I σ H Q R q;simp only [dE] at h;split at h
 ·rename_i avs e1 h1;split at h
  ·rename_i ds h2;split at h
   ·rename_i hl;cases h;refine ih _ _ _ h1 F0 H₀ I σ H _ R fun vs H1 R1 k1 a1=>?_;have dl:=a1.FU h2;have hl':vs.length<=sizeLine:=by rw [dl.len];exact hl
    refine ⟨hl',fun p hp=>?_⟩;have s:=aJ.nw (.tup vs) hp;exact q _ _ (R1.same s) k1 ⟨p,vs,rfl,.inl (.inl ar),hl',dl.pr (Pr.of_same s) fun _ z=>z⟩
   ·cases h
  ·cases h
 ·cases h
theorem Eb {as:XA} (ih:SA K ga gd as):SE K ga gd (.lst as):=by
 intro env rv env' h F0 H₀ I σ H Q R q;simp only [dE] at h;split at h
 ·rename_i avs e1 h1;split at h
  ·rename_i ds h2;split at h
   ·rename_i hl;cases h;refine ih _ _ _ h1 F0 H₀ I σ H _ R fun vs H1 R1 k1 a1=>?_;have dl:=a1.FU h2;have hl':vs.length<=sizeLine:=by rw [dl.len];exact hl
    refine ⟨hl',fun p hp=>?_⟩;have s:=aJ.nw (.lst vs) hp;exact q _ _ (R1.same s) k1 (R1.mY (pr:=.frs (.list ds)) s ⟨p,rfl,hp,vs,ar,hl',(dl.fresh hp).pr (Pr.of_same s) fun _ z=>z⟩)
   ·cases h
  ·cases h
 ·cases h
theorem FE {as:XA} (ih:SF K ga gd as):SE K ga gd (.fst as):=by
 intro env rv env' h F0 H₀ I σ H Q R q;simp only [dE] at h;split at h
 ·rename_i x e1 h1;cases h;exact ih _ _ _ _ h1 F0 H₀ I σ H _ R (show PyData.strOk ⟨#[]⟩=true by simp [PyData.strOk]) fun H1 R1 k1 hl ho=>q _ H1 R1 k1 ⟨rfl,hl,ho⟩
 ·cases h
theorem FT:SF K ga gd .nil:=by
 intro out env x env' h F0 H₀ I σ H Q R ok q;simp only [dF] at h;split at h
 ·rename_i hl;cases h;exact ⟨hl,q H R (KpE.refl _) hl ok⟩
 ·cases h
theorem BF {e:XE} {r:XA} (ie:SE K ga gd e) (ir:SF K ga gd r):SF K ga gd (.cons e r):=by
 intro out env x env' h F0 H₀ I σ H Q R ok q;simp only [dF] at h;split at h
 ·rename_i y e1 h1;split at h
  ·rename_i hl;refine ie _ _ _ h1 F0 H₀ I σ H _ R fun v H1 R1 k1 a1=>?_;obtain ⟨rfl,_,oky⟩:=(show v=.str y/\y.length<=sizeLine/\PyData.strOk y=true from a1);refine ⟨y,rfl,hl,?_⟩;exact ir _ _ _ _ h F0 H₀ I σ H1 _ R1 (md ok oky) fun H2 R2 k2 hx=>q H2 R2 (k1.trans k2) hx
  ·cases h
 ·cases h
theorem EJ:SA K ga gd .nil:=by
 intro env rv env' h F0 H₀ I σ H Q R q;simp only [dA] at h;cases h;exact q [] H R (KpE.refl _) rfl
theorem CK {e:XE} {r:XA} (ie:SE K ga gd e) (ir:SA K ga gd r):SA K ga gd (.cons e r):=by
 intro env rv env' h F0 H₀ I σ H Q R q;simp only [dA] at h;split at h
 ·rename_i rv0 e1 h1;split at h
  ·rename_i avs e2 h2;cases h;refine ie _ _ _ h1 F0 H₀ I σ H _ R fun v H1 R1 k1 a1=>?_;refine ir _ _ _ h2 F0 _ _ σ H1 _ R1.rebase fun vs H2 S2 k2 a2=>?_;exact q (v :: vs) H2 (R1.bz S2) (k1.trans k2) ⟨v,vs,rfl,a1.av.keep R1 S2 k2,a2⟩
  ·cases h
 ·cases h
end
open PySem
section
variable {K:Fg} {F F' I I' F0:Addr->Prop} {H H' H₀:Hp} {env env':En} {σ σ':St} {ga:Nat->V} {gd:List PyData}
theorem DY {c:XT} {a b:XE} (ic:ST K ga gd c) (ia:SE K ga gd a) (ib:SE K ga gd b):SE K ga gd (.ifx c a b):=by
 intro env rv env' h F0 H₀ I σ H Q R q;simp only [dE] at h;split at h
 ·rename_i e1 h1;refine ic _ _ _ h1 F0 H₀ I σ H _ R fun H1 R1 k1=>?_;rw [Io rfl];exact ia _ _ _ h F0 H₀ I σ H1 _ R1 fun v H2 R2 k2 r=>q v H2 R2 (k1.trans k2) r
 ·rename_i e1 h1;refine ic _ _ _ h1 F0 H₀ I σ H _ R fun H1 R1 k1=>?_;rw [Iv (by decide)];exact ib _ _ _ h F0 H₀ I σ H1 _ R1 fun v H2 R2 k2 r=>q v H2 R2 (k1.trans k2) r
 ·cases h
theorem Ct {a b:XE} (ia:SE K ga gd a) (ib:SE K ga gd b):SE K ga gd (.qN a b):=by
 intro env rv env' h F0 H₀ I σ H Q R q;simp only [dE] at h;split at h
 ·rename_i e1 h1;refine ia _ _ _ h1 F0 H₀ I σ H _ R fun v H1 R1 k1 r1=>⟨true,r1,?_⟩;rw [Io rfl];exact ib _ _ _ h F0 H₀ I σ H1 _ R1 fun v H2 R2 k2 r=>q v H2 R2 (k1.trans k2) r
 ·rename_i e1 h1;cases h;refine ia _ _ _ h1 F0 H₀ I σ H _ R fun v H1 R1 k1 r1=>⟨false,r1,?_⟩;rw [Iv (by decide)];exact q _ H1 R1 k1 rfl
 ·cases h
theorem Ez {a b:XE} (ia:SE K ga gd a) (ib:SE K ga gd b):SE K ga gd (.orv a b):=by
 intro env rv env' h F0 H₀ I σ H Q R q;simp only [dE] at h;split at h
 ·rename_i e1 h1;cases h;refine ia _ _ _ h1 F0 H₀ I σ H _ R fun v H1 R1 k1 r1=>⟨true,r1,?_⟩;rw [Io rfl];exact q _ H1 R1 k1 rfl
 ·rename_i e1 h1;refine ia _ _ _ h1 F0 H₀ I σ H _ R fun v H1 R1 k1 r1=>⟨false,r1,?_⟩;rw [Iv (by decide)];exact ib _ _ _ h F0 H₀ I σ H1 _ R1 fun v H2 R2 k2 r=>q v H2 R2 (k1.trans k2) r
 ·cases h
theorem BX {a:XE} (ia:SE K ga gd a):SE K ga gd (.zL a):=by
 intro env rv env' h F0 H₀ I σ H Q R q;simp only [dE] at h;split at h
 ·rename_i x e1 h1;cases h;exact ia _ _ _ h1 F0 H₀ I σ H _ R fun v H1 R1 k1 r1=>⟨x,r1,q _ H1 R1 k1 rfl⟩
 ·cases h
theorem Fl {x y:PyData} {u v:V} (hx:Vw K F H x u) (hy:Vw K F H y v):VwL K F H [x,y] [u,v]:=⟨u,[v],rfl,hx,v,[],rfl,hy,rfl⟩
theorem DR {p p':Prm} {a b c:XE} (ia:SE K ga gd a) (ib:SE K ga gd b) (ic:SE K ga gd c):SE K ga gd (.chn p p' a b c):=by
 intro env rv env' h F0 H₀ I σ H Q R q;simp only [dE] at h;split at h
 ·rename_i ra e1 h1;split at h
  ·rename_i rb e2 h2;split at h
   ·rename_i x y hx hy;refine ia _ _ _ h1 F0 H₀ I σ H _ R fun v H1 R1 k1 r1=>?_;refine ib _ _ _ h2 F0 _ _ σ H1 _ R1.rebase fun u H2 S2 k2 r2=>?_;have R2:=R1.bz S2;have a1:=r1.av.keep R1 S2 k2;have a2:=r2.av;rw [hx] at a1;rw [hy] at a2;have dx:Dm K (FF F0 e2 σ) H2 x v:=a1;have dy:Dm K (FF F0 e2 σ) H2 y u:=a2;split at h
    ·rename_i hp;split at h
     ·rename_i rc e3 h3;split at h
      ·rename_i z hz;split at h
       ·rename_i pr hq;cases h;refine p.ok K _ H2 _ _ _ _ hp (Fl dx.vw dy.vw) (fun b z=>R2.fy z) fun w H3 s3 hw=>⟨true,hw,?_⟩;rw [Io rfl];have R3:=R2.same s3;have dy3:Dm K (FF F0 e2 σ) H3 y u:=dy.pr (Pr.of_same s3) fun _ z=>z;refine ic _ _ _ h3 F0 _ _ σ H3 _ R3.rebase fun t H4 S4 k4 r4=>?_;have R4:=R3.bz S4;have a4:=r4.av;rw [hz] at a4;have dz:Dm K (FF F0 env' σ) H4 z t:=a4;refine p'.ok K _ H4 _ _ _ _ hq (Fl (R3.o7 S4 k4 dy3).vw dz.vw) (fun b z=>R4.fy z) fun w H5 s5 hw=>?_;exact q w H5 (R4.same s5) ((k1.trans k2).trans k4) (R4.mY s5 hw)
       ·cases h
      ·cases h
     ·cases h
    ·rename_i hp;cases h;refine p.ok K _ H2 _ _ _ _ hp (Fl dx.vw dy.vw) (fun b z=>R2.fy z) fun w H3 s3 hw=>⟨false,hw,?_⟩;rw [Iv (by decide)];exact q _ H3 (R2.same s3) (k1.trans k2) rfl
    ·cases h
   ·cases h
  ·cases h
 ·cases h
theorem Eo {p:Int->Int->Prm} {a b c:XE} (ia:SE K ga gd a) (ib:SE K ga gd b) (ic:SE K ga gd c):SE K ga gd (.sl2 p a b c):=by
 intro env rv env' h F0 H₀ I σ H Q R q;simp only [dE] at h;split at h
 ·rename_i ra e1 h1;split at h
  ·rename_i i e2 h2;split at h
   ·rename_i j e3 h3;split at h
    ·rename_i d hv;split at h
     ·rename_i pr hp;cases h;refine ia _ _ _ h1 F0 H₀ I σ H _ R fun v H1 R1 k1 r1=>?_;refine ib _ _ _ h2 F0 _ _ σ H1 _ R1.rebase fun u H2 S2 k2 r2=>⟨i,r2,?_⟩;have R2:=R1.bz S2;have a1:=r1.av.keep R1 S2 k2;refine ic _ _ _ h3 F0 _ _ σ H2 _ R2.rebase fun w H3 S3 k3 r3=>⟨j,r3,?_⟩;have R3:=R2.bz S3;have a2:=a1.keep R2 S3 k3;refine (p i j).ok K _ H3 [d] [v] pr Q hp ⟨v,[],rfl,a2.vw R3 hv,rfl⟩ (fun b z=>R3.fy z) fun w H4 s4 hw=>?_;exact q w H4 (R3.same s4) ((k1.trans k2).trans k3) (R3.mY s4 hw)
     ·cases h
    ·cases h
   ·cases h
  ·cases h
 ·cases h
theorem FC {e:XE} (ie:SE K ga gd e):ST K ga gd (.tst e):=by
 intro env b env' h F0 H₀ I σ H Q R q;simp only [dT] at h;split at h
 ·rename_i x e1 h1;cases h;exact ie _ _ _ h1 F0 H₀ I σ H _ R fun v H1 R1 k1 r1=>⟨_,r1,q H1 R1 k1⟩
 ·cases h
theorem kC {ds:List PyData} {vs:List V} (h:DmL K F H ds vs):vs.isEmpty=ds.isEmpty:=by
 cases ds with
 | nil=>rw [show vs=[] from h];rfl
 | cons d ds=>obtain ⟨v,r,rfl,_⟩:=h;rfl
theorem Vw.tru {d:PyData} {v:V} (h:Vw K F H d v) (nd:FW d≠true):De K v H (C8 d):=by
 cases d with
 | none=>rw [show v=.non from h];rfl
 | bool b=>rw [show v=.bl b from h];rfl
 | int i=>rw [show v=.int i from h];rfl
 | str x=>obtain ⟨rfl,hl,_⟩:=(show v=.str x/\x.length<=sizeLine/\PyData.strOk x=true from h);exact ⟨hl,rfl⟩
 | list ds=>obtain ⟨a,rfl,xs,e,_,r⟩:=h;exact .inl ⟨xs,e,by rw [kC r];rfl⟩
 | tuple ds=>obtain ⟨a,xs,rfl,e,_,r⟩:=h;exact .inr (.inl ⟨xs,e,by rw [kC r];rfl⟩)
 | dict ds=>exact absurd rfl nd
theorem Ef {e:XE} (ie:SE K ga gd e):ST K ga gd (.tru e):=by
 intro env b env' h F0 H₀ I σ H Q R q;simp only [dT] at h;split at h
 ·rename_i x e1 h1;split at h
  ·rename_i d h2;split at h
   ·cases h
   ·rename_i nd;cases h;exact ie _ _ _ h1 F0 H₀ I σ H _ R fun v H1 R1 k1 r1=>⟨_,(r1.av.vw R1 h2).tru nd,q H1 R1 k1⟩
  ·cases h
 ·cases h
theorem Ei {a b:XT} (ia:ST K ga gd a) (ib:ST K ga gd b):ST K ga gd (.and a b):=by
 intro env x env' h F0 H₀ I σ H Q R q;simp only [dT] at h;split at h
 ·rename_i e1 h1;refine ia _ _ _ h1 F0 H₀ I σ H _ R fun H1 R1 k1=>?_;rw [Io rfl];exact ib _ _ _ h F0 H₀ I σ H1 _ R1 fun H2 R2 k2=>q H2 R2 (k1.trans k2)
 ·rename_i e1 h1;cases h;refine ia _ _ _ h1 F0 H₀ I σ H _ R fun H1 R1 k1=>?_;rw [Iv (by decide)];exact q H1 R1 k1
 ·cases h
theorem HR {a b:XT} (ia:ST K ga gd a) (ib:ST K ga gd b):ST K ga gd (.or a b):=by
 intro env x env' h F0 H₀ I σ H Q R q;simp only [dT] at h;split at h
 ·rename_i e1 h1;cases h;refine ia _ _ _ h1 F0 H₀ I σ H _ R fun H1 R1 k1=>?_;rw [Io rfl];exact q H1 R1 k1
 ·rename_i e1 h1;refine ia _ _ _ h1 F0 H₀ I σ H _ R fun H1 R1 k1=>?_;rw [Iv (by decide)];exact ib _ _ _ h F0 H₀ I σ H1 _ R1 fun H2 R2 k2=>q H2 R2 (k1.trans k2)
 ·cases h
theorem FN {a:XT} (ia:ST K ga gd a):ST K ga gd (.not a):=by
 intro env x env' h F0 H₀ I σ H Q R q;simp only [dT] at h;split at h
 ·rename_i b e1 h1;cases h;exact ia _ _ _ h1 F0 H₀ I σ H _ R fun H1 R1 k1=>q H1 R1 k1
 ·cases h
theorem EI:ST K ga gd .yes:=by
 intro env x env' h F0 H₀ I σ H Q R q;simp only [dT] at h;cases h;exact q H R (KpE.refl _)
theorem xg {a:Addr} {vs:List V} {ds:List PyData} (hd:DmL K F H ds vs) (hl:vs.length<=sizeLine) (h:∀ H',(∀ b o,H b=some o->¬I b->H' b=some o)->SqL K H' a vs):uN K F I H (Itl K a) ds :=
 jv hd hl fun H' k j=>⟨fun hj=>⟨⟨vs,vs[j],h H' k,HZ hj⟩,fun x H'' y=>⟨y.1,y.2 vs (h H' k)⟩⟩,fun hj=>⟨vs,h H' k,hj⟩⟩
theorem z9 {a:Addr} {vs:List V} {ds:List PyData} (hd:DmL K F H ds vs) (hl:vs.length<=sizeLine) (h:∀ H',(∀ b o,H b=some o->¬I b->H' b=some o)->SqT K H' a vs):uN K F I H (Itt K a) ds :=
 jv hd hl fun H' k j=>⟨fun hj=>⟨⟨vs,vs[j],h H' k,HZ hj⟩,fun x H'' y=>⟨y.1,y.2 vs (h H' k)⟩⟩,fun hj=>⟨vs,h H' k,hj⟩⟩
theorem xV {e:XE} (ie:SE K ga gd e):SI K ga gd (.lst e):=by
 intro env ds lock env' h F0 H₀ I σ H Q R q;simp only [dI] at h;split at h
 ·rename_i rv e1 h1;split at h
  ·rename_i ds' hv;cases h;refine ie _ _ _ h1 F0 H₀ I σ H _ R fun v H1 R1 k1 r1=>?_;have a1:=r1.av;rw [hv] at a1;obtain ⟨a,xs,rfl,l,z,r⟩:=(show Dm K (FF F0 env' σ) H1 (.list ds) v from a1);refine ⟨a,rfl,⟨xs,l.elim (fun q=>.inl q.2) .inr⟩,q _ H1 R1 k1 (fun i z=>by cases z) (xg r z fun H' k=>?_)⟩;rcases l with ⟨n,l | ⟨o,l⟩⟩ | l
   ·exact .inl (.inl (k _ _ l fun z=>n (R1.ia z.1)))
   ·exact .inl (.inr ⟨o,k _ _ l fun z=>n (R1.ia z.1)⟩)
   ·exact .inr l
  ·cases h
  ·rename_i i hv;split at h
   ·rename_i ds' hc;cases h;refine ie _ _ _ h1 F0 H₀ I σ H _ R fun v H1 R1 k1 r1=>?_;have a1:=r1.av;rw [hv] at a1;have s:σ[i]?=some (some v):=a1;unfold cont at hc;have fin:∀ a xs,v=.ref a->DmL K (FF F0 env' σ) H1 ds xs->xs.length<=sizeLine->(∀ H',(∀ b o,H1 b=some o->¬(IA env' σ b/\∀ j,some i=some j->mu env' j->σ[j]?≠some (some (.ref b)))->H' b=some o)->SqL K H' a xs)->(∃ d,cont env' i=some d) ->
      ∃ a,v=.ref a/\(∃ xs,SqL K H1 a xs)/\Q (Itl K a) H1:=fun a xs ev r z k hcd =>
     ⟨a,ev,⟨xs,k H1 fun _ _ e _=>e⟩,q _ H1 R1 k1 (fun j hj=>by cases hj;exact hcd) (xg r z k)⟩
    split at hc
    ·rename_i d e;cases hc;obtain ⟨a,s',_,_,xs,t,z,r⟩:=R1.own i _ e;rw [s] at s';cases s';exact fin a xs rfl r z (fun H' k=>.inl (.inl (k _ _ t fun y=>y.2 i rfl ⟨_,.inl e⟩ s))) ⟨_,by unfold cont;rw [e]⟩
    ·rename_i d e;cases hc;obtain ⟨a,s',_,_,xs,t,z,r⟩:=R1.ino i _ e;rw [s] at s';cases s';exact fin a xs rfl r z (fun H' k=>.inl (.inl (k _ _ t fun y=>y.2 i rfl ⟨_,.inr e⟩ s))) ⟨_,by unfold cont;rw [e]⟩
    ·rename_i d e;cases hc;obtain ⟨a,s',xs,l,z,r⟩:=R1.ro i _ e;rw [s] at s';cases s';refine fin a xs rfl r z (fun H' k=>?_) ⟨_,by unfold cont;rw [e]⟩;rcases l with ⟨n,l | ⟨o,l⟩⟩ | l
     ·exact .inl (.inl (k _ _ l fun z=>n z.1))
     ·exact .inl (.inr ⟨o,k _ _ l fun z=>n z.1⟩)
     ·exact .inr l
    ·cases hc
   ·cases h
 ·cases h
theorem tf:∀ {kvs:List (PyData×PyData)} {xs:List (PyData×V×V)},DmP K F H kvs xs->DmL K F H (kvs.map (·.1)) (xs.map (·.2.1))
 | [],xs,h=>by rw [show xs=[] from h];rfl
 | (k,d) :: kvs,xs,h=>by
  obtain ⟨j,v,r,rfl,_,h0,_,h2⟩:=h;exact ⟨j,_,rfl,h0,tf h2⟩
theorem wo {a:Addr} {ep:Nat} {xs:List (PyData×V×V)} {kvs:List (PyData×PyData)} (hd:DmP K F H kvs xs) (hl:xs.length<=sizeLine) (h:∀ H':Hp,(∀ b o,H b=some o->¬I b->H' b=some o)->H' a=some (.dD ep xs)):uN K F I H (Itd a ep xs) (kvs.map (·.1)) :=
 jv (vs:=xs.map (·.2.1)) (tf hd) (by rw [HS];exact hl) fun H' k j=>⟨fun hj=>⟨⟨h H' k,by rw [HS] at hj;exact hj⟩,fun x H'' y=>⟨y.1,by rw [H9];exact y.2⟩⟩,fun hj=>⟨h H' k,by rw [HS] at hj;exact hj⟩⟩
theorem EN {e:XE} (ie:SE K ga gd e):SI K ga gd (.dct e):=by
 intro env ds lock env' h F0 H₀ I σ H Q R q;simp only [dI] at h;split at h
 ·rename_i rv e1 h1;split at h
  ·rename_i kvs hv;cases h;refine ie _ _ _ h1 F0 H₀ I σ H _ R fun v H1 R1 k1 r1=>?_;have a1:=r1.av;rw [hv] at a1;obtain ⟨a,ep,xs,rfl,n,l,z,r⟩:=(show Dm K (FF F0 env' σ) H1 (.dict kvs) v from a1);exact ⟨a,ep,xs,rfl,l,q _ H1 R1 k1 (fun i z=>by cases z) (wo r z fun H' k=>k _ _ l fun z=>n (R1.ia z.1))⟩
  ·cases h
  ·rename_i i hv;split at h
   ·rename_i kvs hc;cases h;refine ie _ _ _ h1 F0 H₀ I σ H _ R fun v H1 R1 k1 r1=>?_;have a1:=r1.av;rw [hv] at a1;have s:σ[i]?=some (some v):=a1;unfold cont at hc;have fin:∀ a ep xs,v=.ref a->DmP K (FF F0 env' σ) H1 kvs xs->xs.length<=sizeLine->(∀ H':Hp,(∀ b o,H1 b=some o->¬(IA env' σ b/\∀ j,some i=some j->mu env' j->σ[j]?≠some (some (.ref b)))->H' b=some o)->H' a=some (.dD ep xs))->(∃ d,cont env' i=some d) ->
      ∃ a ep xs,v=.ref a/\H1 a=some (.dD ep xs)/\Q (Itd a ep xs) H1:=fun a ep xs ev r z k hcd =>
     ⟨a,ep,xs,ev,k H1 fun _ _ e _=>e,q _ H1 R1 k1 (fun j hj=>by cases hj;exact hcd) (wo r z k)⟩
    split at hc
    ·rename_i d e;cases hc;obtain ⟨a,s',_,_,ep,xs,t,z,r⟩:=R1.own i _ e;rw [s] at s';cases s';exact fin a ep xs rfl r z (fun H' k=>k _ _ t fun y=>y.2 i rfl ⟨_,.inl e⟩ s) ⟨_,by unfold cont;rw [e]⟩
    ·rename_i d e;cases hc;obtain ⟨a,s',_,_,ep,xs,t,z,r⟩:=R1.ino i _ e;rw [s] at s';cases s';exact fin a ep xs rfl r z (fun H' k=>k _ _ t fun y=>y.2 i rfl ⟨_,.inr e⟩ s) ⟨_,by unfold cont;rw [e]⟩
    ·rename_i d e;cases hc;obtain ⟨a,s',ep,xs,n,l,z,r⟩:=R1.ro i _ e;rw [s] at s';cases s';exact fin a ep xs rfl r z (fun H' k=>k _ _ l fun z=>n z.1) ⟨_,by unfold cont;rw [e]⟩
    ·cases hc
   ·cases h
 ·cases h
theorem xZ:∀ {kvs:List (PyData×PyData)} {xs:List (PyData×V×V)},DmP K F H kvs xs->(kvs.all fun p=>Gf p.1)=true->TkX xs
 | [],xs,h,_=>by rw [show xs=[] from h];intro x hx;cases hx
 | (k,d) :: kvs,xs,h,hk=>by
  obtain ⟨j,v,r,rfl,_,h0,_,h2⟩:=h;rw [List.all_cons,ID] at hk;intro x hx;rcases Il.mp hx with rfl | hx
  ·cases k with
   | str t=>exact ⟨t,rfl,h0.1⟩
   | _=>cases hk.1
  ·exact xZ h2 hk.2 x hx
theorem wA:∀ {kvs:List (PyData×PyData)} {xs:List (PyData×V×V)} {i:Nat} {x:PyData×V×V},DmP K F H kvs xs->xs[i]?=some x->∃ k d,kvs[i]?=some (k,d)/\Dm K F H k x.2.1/\Dm K F H d x.2.2
 | [],xs,i,x,h,e=>by rw [show xs=[] from h] at e;cases e
 | (k,d) :: kvs,xs,i,x,h,e=>by
  obtain ⟨j,v,r,rfl,_,h0,h1,h2⟩:=h;cases i with
  | zero=>cases e;exact ⟨k,d,rfl,h0,h1⟩
  | succ i=>exact wA (i:=i) h2 e
theorem t7:∀ {kvs:List (PyData×PyData)} {xs:List (PyData×V×V)},DmP K F H kvs xs->kvs.length=xs.length
 | [],xs,h=>by rw [show xs=[] from h];rfl
 | (k,d) :: kvs,xs,h=>by
  obtain ⟨j,v,r,rfl,_,_,_,h2⟩:=h;rw [Ik,Ik,t7 h2]
theorem Ap {a:Addr} {ep:Nat} {xs:List (PyData×V×V)} {kvs:List (PyData×PyData)} (hd:DmP K F H kvs xs) (tk:TkX xs) (hl:xs.length<=sizeLine) (h:∀ H':Hp,(∀ b o,H b=some o->¬I b->H' b=some o)->H' a=some (.dD ep xs)):uN K F I H (Iti a ep xs) (kvs.map fun p=>.tuple [p.1,p.2]):=by
 have el:(kvs.map fun p=>PyData.tuple [p.1,p.2]).length=xs.length:=by rw [HS,t7 hd]
 refine ⟨by rw [el];exact hl,fun H' k j=>⟨fun hj=>?_,fun hj=>?_⟩⟩
 ·rw [el] at hj;refine ⟨⟨h H' k,tk,hj⟩,?_⟩;rintro x H'' ⟨p,y,hp,rfl,hy,rfl⟩;obtain ⟨c,d,e1,d1,d2⟩:=wA hd hy;refine ⟨.tuple [c,d],?_,.inr ⟨p,y.2.1,y.2.2,c,d,rfl,rfl,hp,rfl,d1,d2⟩⟩;rw [H9,e1];rfl
 ·rw [el] at hj;exact ⟨h H' k,tk,hj⟩
theorem E8 {e:XE} (ie:SE K ga gd e):SI K ga gd (.itm e):=by
 intro env ds lock env' h F0 H₀ I σ H Q R q;simp only [dI] at h;split at h
 ·rename_i rv e1 h1;split at h
  ·rename_i kvs hv;split at h
   ·rename_i hk;cases h;refine ie _ _ _ h1 F0 H₀ I σ H _ R fun v H1 R1 k1 r1=>?_;have a1:=r1.av;rw [hv] at a1;obtain ⟨a,ep,xs,rfl,n,l,z,r⟩:=(show Dm K (FF F0 env' σ) H1 (.dict kvs) v from a1);exact ⟨a,ep,xs,rfl,l,xZ r hk,q _ H1 R1 k1 (fun i z=>by cases z) (Ap r (xZ r hk) z fun H' k=>k _ _ l fun z=>n (R1.ia z.1))⟩
   ·cases h
  ·cases h
 ·cases h
theorem BU {e:XE} (ie:SE K ga gd e):SI K ga gd (.tup e):=by
 intro env ds lock env' h F0 H₀ I σ H Q R q;simp only [dI] at h;split at h
 ·rename_i rv e1 h1;split at h
  ·rename_i ds' hv;cases h;refine ie _ _ _ h1 F0 H₀ I σ H _ R fun v H1 R1 k1 r1=>?_;have a1:=r1.av;rw [hv] at a1;obtain ⟨a,xs,rfl,l,z,r⟩:=(show Dm K (FF F0 env' σ) H1 (.tuple ds) v from a1);refine ⟨a,rfl,⟨xs,l⟩,q _ H1 R1 k1 (fun i z=>by cases z) (z9 r z fun H' k=>?_)⟩;exact l.pr (R1.pw fun b o e n=>k b o e fun z=>n z.1)
  ·cases h
 ·cases h
theorem Hv {e:XE} (ie:SE K ga gd e):SI K ga gd (.sq e):=by
 intro env ds lock env' h F0 H₀ I σ H Q R q;simp only [dI] at h;split at h
 ·rename_i rv e1 h1;split at h
  ·rename_i ds' hv;exact .inl (xV ie env ds lock env' (by simp only [dI,h1,hv];exact h) F0 H₀ I σ H Q R q)
  ·rename_i ds' hv;exact .inr (BU ie env ds lock env' (by simp only [dI,h1,hv];exact h) F0 H₀ I σ H Q R q)
  ·cases h
  ·rename_i i hv;exact .inl (xV ie env ds lock env' (by simp only [dI,h1,hv];exact h) F0 H₀ I σ H Q R q)
 ·cases h
theorem yR:∀ {cs:List Nat},(∀ c∈cs,c < 0x110000)->DmL K F H (cs.map fun c=>.str ⟨#[c]⟩) (cs.map fun c=>.str ⟨#[c]⟩)
 | [],_=>rfl
 | c :: cs,h=>⟨_,_,rfl,⟨rfl,by show 1<=sizeLine;decide,by have:=h c Ip;simp [PyData.strOk,this]⟩,yR fun x hx=>h x (Ie _ hx)⟩
theorem fU {x:Str} (h:PyData.strOk x=true):∀ c∈x.cps.toList,c < 0x110000:=fun c hc=>by
 unfold PyData.strOk at h;have:=Array.all_eq_true'.mp h c (by simpa using hc);simpa using this
theorem FQ {e:XE} (ie:SE K ga gd e):SI K ga gd (.str e):=by
 intro env ds lock env' h F0 H₀ I σ H Q R q;simp only [dI] at h;split at h
 ·rename_i rv e1 h1;split at h
  ·rename_i x hv;cases h;refine ie _ _ _ h1 F0 H₀ I σ H _ R fun v H1 R1 k1 r1=>?_;have a1:=r1.av;rw [hv] at a1;obtain ⟨rfl,hl,ok⟩:=(show v=.str x/\x.length<=sizeLine/\PyData.strOk x=true from a1);have ez:x.cps.toList.length=x.length:=by simp [Str.length]
   refine ⟨x,rfl,q _ H1 R1 k1 (fun i z=>by cases z) (jv (yR (fU ok)) (by rw [HS,ez];exact hl) fun H' k j=>⟨fun hj=>?_,fun hj=>?_⟩)⟩
   ·rw [HS,ez] at hj;refine ⟨hj,fun y H'' hy=>?_⟩;obtain ⟨e,c,hc,rfl⟩:=hy;refine ⟨e,?_⟩;rw [H9];have:x.cps.toList[j]?=some c:=by rw [<- hc];simp
    rw [this];rfl
   ·rw [HS,ez] at hj;exact hj
  ·cases h
 ·cases h
theorem xo {f:Nat->Int}:∀ {cs:List Nat},DmL K F H (cs.map fun c=>.int (f c)) (cs.map fun c=>.int (f c))
 | []=>rfl
 | c :: cs=>⟨_,_,rfl,rfl,xo⟩
theorem wD {lo:Int} {n:Nat} (hn:n<=sizeLine):uN K F I H (Itr lo n) ((List.range n).map fun (k:Nat)=>.int (lo+(k:Int))):=by
 refine jv (vs:=(List.range n).map fun (k:Nat)=>.int (lo+(k:Int))) (xo (f:=fun k=>lo+(k:Int))) (by rw [HS,Jz];exact hn) fun H' k j=>⟨fun hj=>?_,fun hj=>?_⟩
 ·rw [HS,Jz] at hj;refine ⟨hj,fun y H'' hy=>⟨hy.1,?_⟩⟩;rw [H9,List.getElem?_range hj,hy.2];rfl
 ·rw [HS,Jz] at hj;exact hj
theorem CS {as:XA} (ia:SA K ga gd as):SI K ga gd (.rng1 as):=by
 intro env ds lock env' h F0 H₀ I σ H Q R q;simp only [dI] at h;split at h
 ·rename_i avs e1 h1;split at h
  ·rename_i j;split at h
   ·rename_i hj;cases h;refine ia _ _ _ h1 F0 H₀ I σ H _ R fun vs H1 R1 k1 a1=>?_;obtain ⟨v,r,rfl,hv,rfl⟩:=a1;have hv:v=.int j:=hv;subst hv;refine ⟨j,rfl,hj.1,by have:=hj.2;omega,q _ H1 R1 k1 (fun i z=>by cases z) (wD ?_)⟩;have:=hj.2;show j.toNat<=2 ^ 24;omega
   ·cases h
  ·cases h
 ·cases h
theorem z4 {a b:Addr} {xs ys:List V} {ds es:List PyData} (hd:DmL K F H ds xs) (he:DmL K F H es ys) (hl:xs.length<=sizeLine) (h1:∀ H',(∀ b o,H b=some o->¬I b->H' b=some o)->SqL K H' a xs) (h2:∀ H',(∀ b o,H b=some o->¬I b->H' b=some o)->SqL K H' b ys):uN K F I H (Itz K a b xs ys) ((ds.zip es).map fun p=>.tuple [p.1,p.2]):=by
 have e1:=hd.len;have e2:=he.len;have el:((ds.zip es).map fun p=>PyData.tuple [p.1,p.2]).length=min xs.length ys.length:=by rw [HS,List.length_zip,e1,e2]
 refine ⟨by rw [el];omega,fun H' k j=>⟨fun hj=>?_,fun hj=>?_⟩⟩
 ·rw [el] at hj;refine ⟨⟨h1 H' k,h2 H' k,by omega,by omega⟩,?_⟩;rintro x H'' ⟨p,u,v,hp,rfl,hu,hv,rfl⟩;obtain ⟨d,d1,d2⟩:=hd.get' hu;obtain ⟨e,e3,e4⟩:=he.get' hv;refine ⟨.tuple [d,e],?_,.inr ⟨p,u,v,d,e,rfl,rfl,hp,rfl,d2,e4⟩⟩;rw [H9,show (ds.zip es)[j]?=some (d,e) from List.getElem?_zip_eq_some.mpr ⟨d1,e3⟩];rfl
 ·rw [el] at hj;exact ⟨h1 H' k,h2 H' k,by omega⟩
theorem Dz {as:XA} (ia:SA K ga gd as):SI K ga gd (.zip as):=by
 intro env ds lock env' h F0 H₀ I σ H Q R q;simp only [dI] at h;split at h
 ·rename_i avs e1 h1;split at h
  ·rename_i x y;split at h
   ·rename_i xs ys hx hy;cases h;refine ia _ _ _ h1 F0 H₀ I σ H _ R fun vs H1 R1 k1 a1=>?_;obtain ⟨v,r,rfl,hv,w,r2,rfl,hw,rfl⟩:=a1;have one:∀ {x:AV} {xs:List PyData} {v:V},roL env' x=some xs->wc K F0 env' σ H1 x v->∃ a us,v=.ref a/\us.length<=sizeLine/\DmL K (FF F0 env' σ) H1 xs us/\∀ H',(∀ b o,H1 b=some o->¬(IA env' σ b/\∀ i,none=some i->mu env' i->σ[i]?≠some (some (.ref b)))->H' b=some o)->SqL K H' a us:=by
     intro x xs v hx hv;unfold roL at hx;split at hx
     ·cases hx;obtain ⟨a,us,rfl,l,z,r⟩:=(show Dm K (FF F0 env' σ) H1 (.list xs) v from hv);refine ⟨a,us,rfl,z,r,fun H' k=>?_⟩;rcases l with ⟨n,l | ⟨o,l⟩⟩ | l
      ·exact .inl (.inl (k _ _ l fun z=>n (R1.ia z.1)))
      ·exact .inl (.inr ⟨o,k _ _ l fun z=>n (R1.ia z.1)⟩)
      ·exact .inr l
     ·rename_i i;split at hx
      ·rename_i e;cases hx;have s:σ[i]?=some (some v):=hv;obtain ⟨a,s',us,l,z,r⟩:=R1.ro i _ e;rw [s] at s';cases s';refine ⟨a,us,rfl,z,r,fun H' k=>?_⟩;rcases l with ⟨n,l | ⟨o,l⟩⟩ | l
       ·exact .inl (.inl (k _ _ l fun z=>n z.1))
       ·exact .inl (.inr ⟨o,k _ _ l fun z=>n z.1⟩)
       ·exact .inr l
      ·cases hx
     ·cases hx
    obtain ⟨a,us,rfl,za,ra,sa⟩:=one hx hv;obtain ⟨b,ws,rfl,zb,rb,sb⟩:=one hy hw;exact ⟨a,b,us,ws,rfl,sa H1 fun _ _ e _=>e,sb H1 fun _ _ e _=>e,q _ H1 R1 k1 (fun i z=>by cases z) (z4 ra rb za sa sb)⟩
   ·cases h
  ·cases h
 ·cases h
theorem BS {as:XA} (ia:SA K ga gd as):SI K ga gd (.rng2 as):=by
 intro env ds lock env' h F0 H₀ I σ H Q R q;simp only [dI] at h;split at h
 ·rename_i avs e1 h1;split at h
  ·rename_i i j;split at h
   ·rename_i hj;cases h;refine ia _ _ _ h1 F0 H₀ I σ H _ R fun vs H1 R1 k1 a1=>?_;obtain ⟨v,r,rfl,hv,w,r2,rfl,hw,rfl⟩:=a1;have hv:v=.int i:=hv;have hw:w=.int j:=hw;subst hv hw;refine ⟨i,j,rfl,⟨hj.1,hj.2.1,hj.2.2.1,hj.2.2.2.1⟩,q _ H1 R1 k1 (fun i z=>by cases z) (wD ?_)⟩;have:=hj.2.2.2.2;show (j - i).toNat<=2 ^ 24;omega
   ·cases h
  ·cases h
 ·cases h
end
open PySem
section
variable {K:Fg} {F F' I I' F0:Addr->Prop} {H H' H₀:Hp} {env env':En} {σ σ':St} {ga:Nat->V} {gd:List PyData}
theorem fB.carry {d:PyData} {p:Addr} (h:fB K F0 H₀ I env σ H (.frs d) (.ref p)) (S:Rel K (fun b=>F0 b\/b=p) H (IA env σ) env' σ H') (k:KpE env env'):fB K F0 H₀ I env' σ H' (.frs d) (.ref p):=by
 obtain ⟨a,ea,R,t,w,nF,hi,hr⟩:=h;cases ea;have cIA:¬IA env σ p:=fun z=>by
  obtain ⟨i,⟨c,e | e⟩,s⟩:=z
  ·exact nF (.inr ⟨i,c,e,s⟩)
  ·exact hi i c e s
 have R':=R.bz S;have hk:∀ b o,H b=some o->¬IA env σ b->H' b=some o:=S.d8;have pF:Pr (fun b=>FF F0 env σ b\/b=p) H H':=by
  have:=R.pw hk
  rwa [gb] at this
 have hf:∀ b,(FF F0 env' σ b\/b=p)->(FF F0 env σ b\/b=p):=fun b z=>z.imp (fun z=>k.ff z) id;refine ⟨p,rfl,R',t.pr pF hf fun o e=>hk p o e cIA,w,fun z=>nF (k.ff z),fun i c e s=>cIA ⟨i,k.mu ⟨c,.inr e⟩,s⟩,fun i c e=>?_⟩;obtain ⟨s,e0,ev⟩:=k.back e;have es:s=.ro c:=by
  cases s with
  | un=>cases ev
  | dat _=>cases ev
  | own _=>rcases ev with ⟨_,v⟩ | ⟨_,v⟩ | v <;> cases v
  | ino _=>obtain ⟨_,v⟩:=ev;cases v
  | ro d'=>cases ev;rfl
 subst es;obtain ⟨b,q,t'⟩:=hr i c e0;exact ⟨b,q,t'.pr pF hf (fun b z=>z.imp (fun z=>k.ia z) id) fun b o e n=>hk b o e fun z=>n (.inl z)⟩
theorem fB.put {d d':PyData} {p:Addr} {o:HO} (h:fB K F0 H₀ I env σ H (.frs d) (.ref p)) (ht:Top K (fun b=>FF F0 env σ b\/b=p) (upd H p o) d' p):fB K F0 H₀ I env σ (upd H p o) (.frs d') (.ref p):=by
 obtain ⟨a,ea,R,t,w,nF,hi,hr⟩:=h;cases ea;have cIA:¬IA env σ p:=fun z=>by
  obtain ⟨i,⟨c,e | e⟩,s⟩:=z
  ·exact nF (.inr ⟨i,c,e,s⟩)
  ·exact hi i c e s
 have pF:Pr (fun b=>FF F0 env σ b\/b=p) H (upd H p o):=fun b u e n=>by
  by_cases z:b=p
  ·subst z;rcases n with n | n
   ·exact absurd (.inr rfl) n
   ·obtain ⟨o',h',w'⟩:=t.wr;rw [e] at h';cases h';rw [n] at w';cases w'
  ·rw [ak z];exact e
 have eF:FF (fun b=>F0 b\/b=p) env σ=fun b=>FF F0 env σ b\/b=p:=gb;have nea:∀ i b,mu env i->σ[i]?=some (some (.ref b))->b≠p:=fun i b m s z=>cIA (z▸⟨i,m,s⟩);have hro:∀ (i:Nat) (d':PyData),env[i]?=some (.ro d')->∃ b,σ[i]?=some (some (.ref b))/\gD K (fun b=>FF F0 env σ b\/b=p) (fun b=>IA env σ b\/b=p) (upd H p o) d' b:=fun i c e=>by
  obtain ⟨b,q,t'⟩:=hr i c e;exact ⟨b,q,t'.pr pF (fun _ z=>z) (fun _ z=>z) fun b u e n=>by rw [ak (fun z=>n (.inr z))];exact e⟩
 refine ⟨p,rfl,⟨R.len,fun i c e=>?_,fun i c e=>?_,fun i c e=>?_,fun i c e=>?_,R.sep,fun b hb=>?_,fun b u e n=>?_⟩,ht,w,nF,hi,hro⟩
 ·obtain ⟨v,s,r⟩:=R.dat i c e;rw [eF] at r ⊢;exact ⟨v,s,r.pr pF fun _ z=>z⟩
 ·obtain ⟨b,s,n,w',t'⟩:=R.own i c e;rw [eF] at t' ⊢;exact ⟨b,s,n,w',t'.pr pF (fun _ z=>z) fun u e'=>by rw [ak (nea i b ⟨c,.inl e⟩ s)];exact e'⟩
 ·obtain ⟨b,s,n,w',t'⟩:=R.ino i c e;rw [eF] at t' ⊢;exact ⟨b,s,n,w',t'.pr pF (fun _ z=>z) fun u e'=>by rw [ak (nea i b ⟨c,.inr e⟩ s)];exact e'⟩
 ·obtain ⟨b,s,t'⟩:=hro i c e;rw [eF];exact ⟨b,s,t'.pr Pr.refl (fun _ z=>z) (fun _ z=>.inl z) fun _ _ z _=>z⟩
 ·by_cases z:b=p
  ·subst z;rw [ar];exact nofun
  ·rw [ak z];exact R.dom b hb
 ·have:=R.d8 b u e n;by_cases z:b=p
  ·subst z;rcases w with w | w
   ·rw [e] at w;cases w
   ·exact absurd w n
  ·rw [ak z];exact this
theorem wK (a b:Key):PyData.eqv (kD a) (kD b)=decide (a=b):=by
 cases a with
 | inl i=>cases b with
  | inl j=>by_cases z:i=j <;> simp [kD,PyData.eqv,z]
  | inr y=>simp [kD,PyData.eqv]
 | inr x=>cases b with
  | inl j=>simp [kD,PyData.eqv]
  | inr y=>by_cases z:x=y <;> simp [kD,PyData.eqv,z]
theorem wR {k:PyData}:∀ {ds:List (PyData×PyData)} {xs:List (PyData×V×V)},DmP K F H ds xs->(ds.any fun kv=>PyData.eqv kv.1 k)=xs.any fun x=>PyData.eqv x.1 k
 | [],xs,h=>by rw [show xs=[] from h];rfl
 | (k',d) :: ds,xs,h=>by
  obtain ⟨j,v,r,rfl,_,_,_,h2⟩:=h;rw [Ki,Ki,wR h2]
theorem t9 {k d:PyData} {v:V} (hd:Dm K F H d v):∀ {ds:List (PyData×PyData)} {xs:List (PyData×V×V)},DmP K F H ds xs->DmP K F H (ds.map fun kv=>if PyData.eqv kv.1 k=true then (kv.1,d) else kv) (xs.map fun x=>if PyData.eqv x.1 k=true then (x.1,x.2.1,v) else x)
 | [],xs,h=>by rw [show xs=[] from h];rfl
 | (k',d') :: ds,xs,h=>by
  obtain ⟨j,w,r,rfl,e,h0,h1,h2⟩:=h;rw [List.map_cons,List.map_cons];by_cases z:PyData.eqv k' k=true
  ·rw [Io z,Io z];exact ⟨j,v,_,rfl,e,h0,hd,t9 hd h2⟩
  ·rw [Iv z,Iv z];exact ⟨j,w,_,rfl,e,h0,h1,t9 hd h2⟩
theorem v5 {k d:PyData} {j v:V} (hk:hk6 k=true) (hj:Dm K F H k j) (hd:Dm K F H d v):∀ {ds:List (PyData×PyData)} {xs:List (PyData×V×V)},DmP K F H ds xs->DmP K F H (ds++[(k,d)]) (xs++[(k,j,v)])
 | [],xs,h=>by rw [show xs=[] from h];exact ⟨j,v,[],rfl,hk,hj,hd,rfl⟩
 | (k',d') :: ds,xs,h=>by
  obtain ⟨i,w,r,rfl,e,h0,h1,h2⟩:=h;exact ⟨i,w,_,rfl,e,h0,h1,v5 hk hj hd h2⟩
theorem tE {k d:PyData} {j v:V} {ds:List (PyData×PyData)} {xs:List (PyData×V×V)} (h:DmP K F H ds xs) (hk:hk6 k=true) (hj:Dm K F H k j) (hd:Dm K F H d v):DmP K F H (putD ds k d) (nv xs k j v):=by
 unfold putD nv;rw [wR h];split
 ·exact t9 hd h
 ·exact v5 hk hj hd h
theorem Bb {kvs:List (Key×V)} {k:Key} {v:V}:(putK kvs k v).map cvK=nv (kvs.map cvK) (kD k) (kV k) v:=by
 unfold putK nv;have e:((kvs.map cvK).any fun x=>PyData.eqv x.1 (kD k))=kvs.any fun kv=>decide (kv.1=k):=by
  rw [List.any_map];congr 1;funext kv;exact wK _ _
 rw [e];split
 ·rw [IW,IW];refine List.map_congr_left fun kv _=>?_;show cvK (if kv.1=k then (kv.1,v) else kv)=if PyData.eqv (kD kv.1) (kD k)=true then _ else _
  rw [wK];by_cases z:kv.1=k
  ·rw [Io z,Io (Jr z)];rfl
  ·rw [Iv z,Iv (by simp [z])]
 ·rw [Ig];rfl
theorem vb {kvs:List (Key×V)} {k:Key} {v:V}:(putK kvs k v).length<=kvs.length+1:=by
 unfold putK;split
 ·rw [HS];exact Ka _
 ·rw [HY];exact Ia _
theorem AD (k:Key):hk6 (kD k)=true:=by cases k <;> rfl
theorem p4:∀ {kvs:List (Key×PyData)} {vs:List (Key×V)} {ds:List (PyData×PyData)} {xs:List (Key×V)},AS K F H kvs vs->DmP K F H ds (xs.map cvK)->DmP K F H (kvs.foldl (fun acc kv=>putD acc (kD kv.1) kv.2) ds) ((eX xs vs).map cvK)/\(eX xs vs).length<=xs.length+vs.length
 | [],vs,ds,xs,h,q=>by rw [show vs=[] from h];exact ⟨q,Ia _⟩
 | (k,d) :: kvs,vs,ds,xs,h,q=>by
  obtain ⟨v,r,rfl,h0,h1,h2⟩:=h;have:=p4 h2 (xs:=putK xs k v) (by rw [Bb];exact tE q (AD k) h0 h1);refine ⟨this.1,Iy this.2 ?_⟩;have:=vb (kvs:=xs) (k:=k) (v:=v);rw [Ik];omega
theorem AS.len:∀ {kvs:List (Key×PyData)} {vs:List (Key×V)},AS K F H kvs vs->vs.length=kvs.length
 | [],vs,h=>by rw [show vs=[] from h];rfl
 | (k,d) :: kvs,vs,h=>by
  obtain ⟨v,r,rfl,h0,h1,h2⟩:=h;rw [Ik,Ik,h2.len]
theorem D6:SPs K ga gd .nil:=by
 intro env kvs env' h F0 H₀ I σ H Q R q;simp only [dP] at h;cases h;exact q [] H R (KpE.refl _) rfl
theorem zS {k e:XE} {r:XP} (ik:SE K ga gd k) (ie:SE K ga gd e) (ir:SPs K ga gd r):SPs K ga gd (.cons k e r):=by
 intro env kvs env' h F0 H₀ I σ H Q R q;simp only [dP] at h;split at h
 ·rename_i rk e1 h1;split at h
  ·rename_i rv e2 h2;split at h
   ·rename_i kvs' e3 h3;split at h
    ·rename_i dk d hk hd;split at h
     ·rename_i key hkey;cases h;refine ik _ _ _ h1 F0 H₀ I σ H _ R fun v H1 R1 k1 r1=>?_;refine ie _ _ _ h2 F0 _ _ σ H1 _ R1.rebase fun u H2 S2 k2 r2=>?_;have R2:=R1.bz S2;refine ir _ _ _ h3 F0 _ _ σ H2 _ R2.rebase fun vs H3 S3 k3 r3=>?_;have a1:=r1.av;rw [hk] at a1;have a2:=r2.av;rw [hd] at a2;have ev:v=kV key:=by
       cases dk with
       | int i=>cases hkey;exact (show v=.int i from a1)
       | str x=>cases hkey;exact (show v=.str x/\_ from a1).1
       | _=>cases hkey
      have dd:Dm K (FF F0 env' σ) H3 d u:=R2.o7 S3 k3 a2;have dk':Dm K (FF F0 env' σ) H3 (kD key) (kV key):=by
       cases dk with
       | int i=>cases hkey;rfl
       | str x=>cases hkey;exact ⟨rfl,(show v=.str x/\_ from a1).2⟩
       | _=>cases hkey
      rw [ev];exact q ((key,u) :: vs) H3 (R2.bz S3) ((k1.trans k2).trans k3) ⟨u,vs,rfl,dk',dd,r3⟩
     ·cases h
    ·cases h
   ·cases h
  ·cases h
 ·cases h
theorem E4 {as:XP} (ih:SPs K ga gd as):SE K ga gd (.dsp as):=by
 intro env rv env' h F0 H₀ I σ H Q R q;simp only [dE] at h;split at h
 ·rename_i kvs e1 h1;split at h
  ·rename_i hl;cases h;intro p hp;have s:=aJ.nw (.dD 0 []) hp;have r0:fB K F0 H₀ I env σ (upd H p (.dD 0 [])) (.frs (.dict [])) (.ref p):=R.mY (pr:=.frs (.dict [])) s ⟨p,rfl,hp,0,[],ar,by decide,rfl⟩;have R0:=r0;obtain ⟨a,ea,R0,_,_,nF,hi,_⟩:=R0;cases ea;have cIA:¬IA env σ p:=fun z=>by
    obtain ⟨i,⟨c,e | e⟩,s⟩:=z
    ·exact nF (.inr ⟨i,c,e,s⟩)
    ·exact hi i c e s
   refine ih _ _ _ h1 _ _ _ σ _ _ R0.rebase fun vs H2 S2 k2 ps=>?_;have r2:=r0.carry S2 k2;rw [gb] at ps;have hm:=p4 ps (xs:=[]) (show DmP K (fun b=>FF F0 env' σ b\/b=p) H2 [] [] from rfl);have hlen:(eX [] vs).length<=15:=by
    have:=hm.2;rw [ps.len] at this;simp only [IP] at this;omega
   refine ⟨S2.d8 p _ ar cIA,vs,rfl,by rw [ps.len];exact hl,fun ep=>?_⟩;have r3:fB K F0 H₀ I env' σ (upd H2 p (.dD ep ((eX [] vs).map cvK))) (.frs (.dict (kvs.foldl (fun acc kv=>putD acc (kD kv.1) kv.2) []))) (.ref p):=by
    refine r2.put ⟨ep,(eX [] vs).map cvK,ar,by rw [HS];exact Iy hlen (by decide),hm.1.pr ?_ fun _ z=>z⟩;intro b u e n;by_cases z:b=p
    ·subst z;rcases n with n | n
     ·exact absurd (.inr rfl) n
     ·have:=S2.d8 b _ ar cIA;rw [e] at this;cases this;cases n
    ·rw [ak z];exact e
   exact q _ _ r3.rel k2 r3
  ·cases h
 ·cases h
end
open PySem
section
variable {K:Fg} {F F' I I' F0:Addr->Prop} {H H' H₀:Hp} {env env':En} {σ σ':St} {ga:Nat->V} {gd:List PyData}
theorem mW {α:Type}:∀ {l:List α} {i j:Nat} {x:α},l.Nodup->l[i]?=some x->l[j]?=some x->i=j
 | [],_,_,_,_,h,_=>by simp at h
 | y :: l,0,0,_,_,_,_=>rfl
 | y :: l,0,j+1,x,nd,h1,h2=>by
  simp at h1 h2;subst h1;exact absurd (Iz h2) (IY.mp nd).1
 | y :: l,i+1,0,x,nd,h1,h2=>by
  simp at h1 h2;subst h2;exact absurd (Iz h1) (IY.mp nd).1
 | y :: l,i+1,j+1,x,nd,h1,h2=>by
  simp at h1 h2;rw [mW (IY.mp nd).2 h1 h2]
def noOwn (env:En):Prop:=∀ (i:Nat) (d:PyData),env[i]?≠some (.own d)
theorem dM (h:noOwn env):FF F0 env σ=F0:=by
 funext b;apply propext;constructor
 ·rintro (q | ⟨i,d,e,_⟩)
  ·exact q
  ·exact absurd e (h i d)
 ·exact .inl
theorem noOwn.kp (h:noOwn env) (k:KpE env env'):noOwn env':=fun i d e=>by
 obtain ⟨d',e'⟩:=k.own e;exact h i d' e'
def qx:Sl->Prop | .dat _=>True | .un=>True | _=>False
theorem iX {pre:En} {ps:St} (hp:∀ s∈pre,qx s) (hl:pre.length=ps.length):FF F0 (pre++env) (ps++σ)=FF F0 env σ:=by
 funext b;apply propext;constructor
 ·rintro (q | ⟨i,d,e,s⟩)
  ·exact .inl q
  ·by_cases hi:i < pre.length
   ·rw [IL hi] at e;have:=hp _ (Iz e);exact absurd this id
   ·rw [Ii (by omega)] at e;rw [Ii (by omega),<-hl] at s;exact .inr ⟨_,d,e,s⟩
 ·rintro (q | ⟨i,d,e,s⟩)
  ·exact .inl q
  ·refine .inr ⟨pre.length+i,d,?_,?_⟩
   ·rw [Ii (by omega)];simpa using e
   ·rw [Ii (by omega),hl];simpa using s
theorem kO {pre:En} (hp:∀ s∈pre,qx s) {i:Nat} (h:mu (pre++env) i):pre.length<=i/\mu env (i - pre.length):=by
 obtain ⟨d,h⟩:=h;by_cases hi:i < pre.length
 ·rw [IL hi] at h;rcases h with h | h <;> exact absurd (hp _ (Iz h)) id
 ·rw [Ii (by omega)] at h;exact ⟨by omega,d,h⟩
theorem oU {pre:En} {ps:St} (hp:∀ s∈pre,qx s) (hl:pre.length=ps.length):IA (pre++env) (ps++σ)=IA env σ:=by
 funext b;apply propext;constructor
 ·rintro ⟨i,m,s⟩;obtain ⟨hi,m'⟩:=kO hp m;rw [Ii (by omega),<-hl] at s;exact ⟨_,m',s⟩
 ·rintro ⟨i,⟨d,m⟩,s⟩;refine ⟨pre.length+i,⟨d,?_⟩,?_⟩
  ·rw [Ii (by omega)];simpa using m
  ·rw [Ii (by omega),hl];simpa using s
theorem Rel.front (R:Rel K F0 H₀ I env σ H) {ds:List PyData} {vs:List V} (h:DmL K (FF F0 env σ) H ds vs):Rel K F0 H₀ I (ds.map .dat++env) (vs.map some++σ) H:=by
 have hp:∀ s∈(ds.map Sl.dat),qx s:=fun s hs=>by obtain ⟨d,_,rfl⟩:=Ij.mp hs;trivial
 have hl:(ds.map Sl.dat).length=(vs.map some).length:=by rw [HS,HS,h.len]
 have hl2:(ds.map Sl.dat).length=ds.length:=HS _;have eF:=iX (F0:=F0) (env:=env) (σ:=σ) hp hl;have eI:=oU (env:=env) (σ:=σ) hp hl;have back:∀ {i:Nat} {s:Sl},(ds.map Sl.dat++env)[i]?=some s->(∀ d,s≠.dat d)->(ds.map Sl.dat).length<=i/\env[i - (ds.map Sl.dat).length]?=some s:=fun {i s} e n=>by
  by_cases hi:i < (ds.map Sl.dat).length
  ·rw [IL hi] at e;obtain ⟨d,_,z⟩:=Ij.mp (Iz e);exact absurd z.symm (n d)
  ·rw [Ii (by omega)] at e;exact ⟨by omega,e⟩
 have fs:∀ {i:Nat} {x:Option V},(ds.map Sl.dat).length<=i->σ[i - (ds.map Sl.dat).length]?=some x->(vs.map some++σ)[i]?=some x:=fun {i x} hi e=>by
  rw [Ii (by omega),<-hl];exact e
 refine ⟨by rw [HY,HY,hl,R.len],fun i d e=>?_,fun i d e=>?_,fun i d e=>?_,fun i d e=>?_,fun i j a h1 h2 h3 h4=>?_,R.dom,R.d8⟩
 ·rw [eF];by_cases hi:i < (ds.map Sl.dat).length
  ·rw [IL hi,H9] at e;cases e2:ds[i]? with
   | none=>rw [e2] at e;cases e
   | some d' =>
    rw [e2] at e;cases e;obtain ⟨v,q,r⟩:=h.get e2;refine ⟨v,?_,r⟩;rw [IL (by omega),H9,q];rfl
  ·rw [Ii (by omega)] at e;obtain ⟨v,s,r⟩:=R.dat _ d e;exact ⟨v,fs (by omega) s,r⟩
 ·rw [eF];obtain ⟨hi,e⟩:=back e (fun _=>nofun);obtain ⟨a,s,q⟩:=R.own _ d e;exact ⟨a,fs hi s,q⟩
 ·rw [eF];obtain ⟨hi,e⟩:=back e (fun _=>nofun);obtain ⟨a,s,q⟩:=R.ino _ d e;exact ⟨a,fs hi s,q⟩
 ·rw [eF,eI];obtain ⟨hi,e⟩:=back e (fun _=>nofun);obtain ⟨a,s,q⟩:=R.ro _ d e;exact ⟨a,fs hi s,q⟩
 ·obtain ⟨i1,m1⟩:=kO hp h1;obtain ⟨i2,m2⟩:=kO hp h2;rw [Ii (by omega),<-hl] at h3 h4;have:=R.sep _ _ a m1 m2 h3 h4;omega
theorem Rel.behind {pre:En} {ps:St} (R:Rel K F0 H₀ I (pre++env) (ps++σ) H) (hp:∀ s∈pre,qx s) (hl:pre.length=ps.length):Rel K F0 H₀ I env σ H:=by
 have eF:=iX (F0:=F0) (env:=env) (σ:=σ) hp hl;have eI:=oU (env:=env) (σ:=σ) hp hl;have up:∀ {i:Nat} {s:Sl},env[i]?=some s->(pre++env)[pre.length+i]?=some s:=fun {i s} e=>by
  rw [Ii (by omega)];simpa using e
 have dn:∀ {i:Nat} {x:Option V},(ps++σ)[pre.length+i]?=some x->σ[i]?=some x:=fun {i x} e=>by
  rw [Ii (by omega),hl] at e;simpa using e
 have us:∀ {i:Nat} {x:Option V},σ[i]?=some x->(ps++σ)[pre.length+i]?=some x:=fun {i x} e=>by
  rw [Ii (by omega),hl];simpa using e
 refine ⟨by have:=R.len;rw [HY,HY,hl] at this;omega,fun i d e=>?_,fun i d e=>?_,fun i d e=>?_,fun i d e=>?_,fun i j a h1 h2 h3 h4=>?_,R.dom,R.d8⟩
 ·obtain ⟨v,s,r⟩:=R.dat _ d (up e);rw [eF] at r;exact ⟨v,dn s,r⟩
 ·obtain ⟨v,s,r⟩:=R.own _ d (up e);rw [eF] at r;exact ⟨v,dn s,r⟩
 ·obtain ⟨v,s,r⟩:=R.ino _ d (up e);rw [eF] at r;exact ⟨v,dn s,r⟩
 ·obtain ⟨v,s,r⟩:=R.ro _ d (up e);rw [eF,eI] at r;exact ⟨v,dn s,r⟩
 ·obtain ⟨d1,m1⟩:=h1;obtain ⟨d2,m2⟩:=h2;have:=R.sep (pre.length+i) (pre.length+j) a ⟨d1,m1.imp up up⟩ ⟨d2,m2.imp up up⟩ (us h3) (us h4);omega
theorem KpE.front {ds:List PyData} {e':En} (k:KpE (ds.map .dat++env) e'):∃ env',e'=ds.map .dat++env'/\KpE env env':=by
 have hlen:=k.1;rw [HY,HS] at hlen;refine ⟨e'.drop ds.length,?_,?_,fun i s e=>?_⟩
 ·apply List.ext_getElem?;intro i;by_cases hi:i < ds.length
  ·have hm:(ds.map Sl.dat++env)[i]?=some (.dat ds[i]):=by
    rw [IL (by rw [HS];exact hi),H9,HZ hi];rfl
   obtain ⟨s',h',ev⟩:=k.2 i _ hm;have ev:s'=.dat ds[i]:=ev;rw [h',ev,IL (by rw [HS];exact hi),H9,HZ hi];rfl
  ·rw [Ii (by rw [HS];omega),List.getElem?_drop,HS];congr 1;omega
 ·rw [IH];omega
 ·obtain ⟨s',h',ev⟩:=k.2 (ds.length+i) s (by rw [Ii (by rw [HS];omega),HS];simpa using e);exact ⟨s',by rw [List.getElem?_drop];exact h',ev⟩
theorem gx {lock:Option Nat} {js:List Nat} {k:Nat} {s:Sl} (h:(dG env lock js)[k]?=some s):∃ j,js[k]?=some j/\s=oe (decide (lock=some j)) (env[j]?.getD .un):=by
 unfold dG at h;rw [H9] at h;cases e:js[k]? with
 | none=>rw [e] at h;cases h
 | some j=>rw [e] at h;cases h;exact ⟨j,rfl,rfl⟩
theorem ph {js:List Nat} {k j:Nat} (h:js[k]?=some j):(bw js σ)[k]?=some ((σ[j]?).getD none):=by
 unfold bw;rw [H9,h];rfl
theorem cY {lock:Option Nat} {js:List Nat}:noOwn (dG env lock js):=fun k d e=>by
 obtain ⟨j,_,e'⟩:=gx e;cases h:env[j]?.getD .un with
 | un=>rw [h] at e';cases e'
 | dat _=>rw [h] at e';cases e'
 | own c=>rw [h] at e';unfold oe at e';simp only at e';split at e' <;> cases e'
 | ino c=>rw [h] at e';unfold oe at e';simp only at e';split at e' <;> cases e'
 | ro _=>rw [h] at e';cases e'
theorem getD_some {j:Nat} {s:Sl} (h:env[j]?.getD .un=s) (n:s≠.un):env[j]?=some s:=by
 cases e:env[j]? with
 | none=>rw [e] at h;exact absurd h.symm n
 | some t=>rw [e] at h;cases h;rfl
theorem pH {lock:Option Nat} {js:List Nat} {k:Nat} {d:PyData} (h:(dG env lock js)[k]?=some (.ino d)):∃ j,js[k]?=some j/\lock≠some j/\(env[j]?=some (.own d)\/env[j]?=some (.ino d)):=by
 obtain ⟨j,hj,e'⟩:=gx h;refine ⟨j,hj,?_⟩;cases h:env[j]?.getD .un with
 | un=>rw [h] at e';cases e'
 | dat _=>rw [h] at e';cases e'
 | own c =>
  rw [h] at e';unfold oe at e';simp only at e';split at e'
  ·cases e'
  ·rename_i n;cases e';exact ⟨by simpa using n,.inl (getD_some h nofun)⟩
 | ino c =>
  rw [h] at e';unfold oe at e';simp only at e';split at e'
  ·cases e'
  ·rename_i n;cases e';exact ⟨by simpa using n,.inr (getD_some h nofun)⟩
 | ro _=>rw [h] at e';cases e'
theorem eG {lock:Option Nat} {js:List Nat} {k:Nat} (h:mu (dG env lock js) k):∃ j,js[k]?=some j/\lock≠some j/\mu env j:=by
 obtain ⟨d,h | h⟩:=h
 ·exact absurd h (cY k d)
 ·obtain ⟨j,h1,h2,h3⟩:=pH h;exact ⟨j,h1,h2,d,h3⟩
theorem bN {js:List Nat} {k j:Nat} {a:Addr} (h:js[k]?=some j) (e:(bw js σ)[k]?=some (some (.ref a))):σ[j]?=some (some (.ref a)):=by
 rw [ph h] at e;cases q:σ[j]? with
 | none=>rw [q] at e;cases e
 | some x=>rw [q] at e;cases e;rfl
theorem cP {js:List Nat} {k j:Nat} {v:V} (h:js[k]?=some j) (e:σ[j]?=some (some v)):(bw js σ)[k]?=some (some v):=by rw [ph h,e];rfl
theorem Rel.bw (R:Rel K F0 H₀ I env σ H) {lock:Option Nat} {js:List Nat} (nd:js.Nodup):Rel K (FF F0 env σ) H (IA (dG env lock js) (L2.bw js σ)) (dG env lock js) (L2.bw js σ) H:=by
 have eF:FF (FF F0 env σ) (dG env lock js) (L2.bw js σ)=FF F0 env σ:=dM cY;have sub:∀ b,IA (dG env lock js) (L2.bw js σ) b->IA env σ b:=fun b ⟨k,m,s⟩=>by
  obtain ⟨j,hj,_,mj⟩:=eG m;exact ⟨j,mj,bN hj s⟩
 refine ⟨by unfold dG L2.bw;rw [HS,HS],fun k d e=>?_,fun k d e=>absurd e (cY k d),fun k d e=>?_,fun k d e=>?_,fun k l a h1 h2 h3 h4=>?_,fun b h=>R.fy h,fun _ _ h _=>h⟩
 ·rw [eF];obtain ⟨j,hj,e'⟩:=gx e;have ej:env[j]?=some (.dat d):=by
   cases h:env[j]?.getD .un with
   | un=>rw [h] at e';cases e'
   | dat c=>rw [h] at e';cases e';exact getD_some h nofun
   | own c=>rw [h] at e';unfold oe at e';simp only at e';split at e' <;> cases e'
   | ino c=>rw [h] at e';unfold oe at e';simp only at e';split at e' <;> cases e'
   | ro _=>rw [h] at e';cases e'
  obtain ⟨v,s,r⟩:=R.dat j d ej;exact ⟨v,cP hj s,r⟩
 ·rw [eF];obtain ⟨j,hj,_,ej⟩:=pH e;have:∃ a,σ[j]?=some (some (.ref a))/\FF F0 env σ a/\Top K (FF F0 env σ) H d a:=by
   rcases ej with ej | ej
   ·obtain ⟨a,s,_,_,t⟩:=R.own j d ej;exact ⟨a,s,.inr ⟨j,d,ej,s⟩,t⟩
   ·obtain ⟨a,s,f,_,t⟩:=R.ino j d ej;exact ⟨a,s,.inl f,t⟩
  obtain ⟨a,s,f,t⟩:=this;exact ⟨a,cP hj s,f,⟨k,⟨d,.inr e⟩,cP hj s⟩,t⟩
 ·rw [eF];obtain ⟨j,hj,e'⟩:=gx e;have lk:∀ a,lock=some j->mu env j->σ[j]?=some (some (.ref a))->¬IA (dG env lock js) (L2.bw js σ) a:=fun a hl m s ⟨k',m',s'⟩=>by
   obtain ⟨j',hj',hn,mj'⟩:=eG m';have:=R.sep j' j a mj' m (bN hj' s') s;subst this;exact hn hl
  cases h:env[j]?.getD .un with
  | un=>rw [h] at e';cases e'
  | dat c=>rw [h] at e';cases e'
  | own c =>
   rw [h] at e';unfold oe at e';simp only at e';split at e'
   ·rename_i n;cases e';have ej:=getD_some h nofun;obtain ⟨a,s,_,_,t⟩:=R.own j d ej;exact ⟨a,cP hj s,t.ro (lk a (by simpa using n) ⟨d,.inl ej⟩ s)⟩
   ·cases e'
  | ino c =>
   rw [h] at e';unfold oe at e';simp only at e';split at e'
   ·rename_i n;cases e';have ej:=getD_some h nofun;obtain ⟨a,s,_,_,t⟩:=R.ino j d ej;exact ⟨a,cP hj s,t.ro (lk a (by simpa using n) ⟨d,.inr ej⟩ s)⟩
   ·cases e'
  | ro c =>
   rw [h] at e';cases e';obtain ⟨a,s,t⟩:=R.ro j d (getD_some h nofun);exact ⟨a,cP hj s,t.pr Pr.refl (fun _ z=>z) sub fun _ _ z _=>z⟩
 ·obtain ⟨j1,e1,_,m1⟩:=eG h1;obtain ⟨j2,e2,_,m2⟩:=eG h2;have:=R.sep j1 j2 a m1 m2 (bN e1 h3) (bN e2 h4);subst this;exact mW nd e1 e2
theorem bc:∀ (env:En) (js:List Nat) (es:En),SmK env (aS env js es)
 | env,[],es=>by unfold aS;exact SmK.refl _
 | env,j :: js,[]=>by unfold aS;exact SmK.refl _
 | env,j :: js,s :: es=>by
  cases s with
  | ino d=>unfold aS;exact (e6 env j d).trans (bc _ js es)
  | un=>unfold aS;exact bc _ js es
  | dat _=>unfold aS;exact bc _ js es
  | own _=>unfold aS;exact bc _ js es
  | ro _=>unfold aS;exact bc _ js es
theorem ba:∀ (env:En) (js:List Nat) (es:En) (i:Nat),i ∉ js->(aS env js es)[i]?=env[i]?
 | env,[],es,i,_=>by unfold aS;rfl
 | env,j :: js,[],i,_=>by unfold aS;rfl
 | env,j :: js,s :: es,i,h=>by
  have n:i≠j:=fun z=>h (by rw [z];exact Ip);have n':i ∉ js:=fun z=>h (Ie _ z);cases s with
  | ino d=>unfold aS;rw [ba _ js es i n',lg n]
  | un=>unfold aS;exact ba _ js es i n'
  | dat _=>unfold aS;exact ba _ js es i n'
  | own _=>unfold aS;exact ba _ js es i n'
  | ro _=>unfold aS;exact ba _ js es i n'
theorem e7:∀ (env:En) (js:List Nat) (es:En) (k i:Nat) (s:Sl),js.Nodup->js[k]?=some i->es[k]?=some s->(∀ d,s=.ino d->mu env i->aV (aS env js es) i=some d)/\((∀ d,s≠.ino d)->(aS env js es)[i]?=env[i]?)
 | env,[],es,k,i,s,_,h,_=>by simp at h
 | env,j :: js,[],k,i,s,_,_,h=>by simp at h
 | env,j :: js,t :: es,0,i,s,nd,h,h'=>by
  obtain ⟨n1,nd'⟩:=IY.mp nd;simp at h h';subst h h';constructor
  ·rintro d rfl m;unfold aS;have:=ba (iK env j d) js es j n1;unfold aV;rw [this];exact k0 m
  ·intro hn;cases t with
   | ino d=>exact absurd rfl (hn d)
   | un=>unfold aS;exact ba _ js es j n1
   | dat _=>unfold aS;exact ba _ js es j n1
   | own _=>unfold aS;exact ba _ js es j n1
   | ro _=>unfold aS;exact ba _ js es j n1
 | env,j :: js,t :: es,k+1,i,s,nd,h,h'=>by
  obtain ⟨n1,nd'⟩:=IY.mp nd;simp at h h';have hi:i∈js:=Iz h;have ne:i≠j:=fun z=>n1 (z▸hi);cases t with
  | ino d =>
   unfold aS;have ih:=e7 (iK env j d) js es k i s nd' h h';refine ⟨fun d' e m=>ih.1 d' e ((e6 env j d).symm.kp.mu m),fun hn=>?_⟩;rw [ih.2 hn,lg ne]
  | un=>unfold aS;exact e7 env js es k i s nd' h h'
  | dat _=>unfold aS;exact e7 env js es k i s nd' h h'
  | own _=>unfold aS;exact e7 env js es k i s nd' h h'
  | ro _=>unfold aS;exact e7 env js es k i s nd' h h'
theorem KpE.Dv (k:KpE env env') {i:Nat} {d:PyData} (e:env[i]?=some (.ino d)):∃ d',env'[i]?=some (.ino d'):=by
 obtain ⟨s',h,ev⟩:=k.2 i _ e;obtain ⟨d',rfl⟩:=ev;exact ⟨d',h⟩
theorem Rel.back (R:Rel K F0 H₀ I env σ H) {lock:Option Nat} {js:List Nat} {ec:En} (nd:js.Nodup) (S:Rel K (FF F0 env σ) H (IA (dG env lock js) (L2.bw js σ)) ec (L2.bw js σ) H') (k:KpE (dG env lock js) ec):Rel K F0 H₀ I (aS env js ec) σ H':=by
 have sub:∀ b,IA (dG env lock js) (L2.bw js σ) b->IA env σ b:=fun b ⟨k,m,s⟩=>by
  obtain ⟨j,hj,_,mj⟩:=eG m;exact ⟨j,mj,bN hj s⟩
 have hk:∀ b o,H b=some o->¬IA env σ b->H' b=some o:=fun b o e n=>S.d8 b o e fun z=>n (sub b z);have eFc:FF (FF F0 env σ) ec (L2.bw js σ)=FF F0 env σ:=dM (cY.kp k);refine R.chg (bc env js ec) hk fun i d a hm hs=>?_;have sm:=bc env js ec;have mi:mu env i:=sm.kp.mu ((oX hm).elim (fun e=>⟨d,.inl e⟩) fun e=>⟨d,.inr e⟩);have lH:(aS env js ec)[i]?=env[i]?->¬IA (dG env lock js) (L2.bw js σ) a->Top K (FF F0 env σ) H' d a:=fun e n=>by
  have hm':aV env i=some d:=by unfold aV at hm ⊢;rwa [e] at hm
  obtain ⟨_,a',s',_,t⟩:=R.dU hm';rw [hs] at s';cases s';exact t.pr (R.pw hk) (fun _ z=>z) fun o e=>S.d8 a o e n
 by_cases hi:i∈js
 ·obtain ⟨p,hp⟩:=Js.mp hi;have hlen:ec.length=js.length:=by rw [k.1];unfold dG;rw [HS]
  have hpl:p < js.length:=(HX.mp hp).1;have he:ec[p]?=some (ec[p]'(by omega)):=HZ _;obtain ⟨b1,b2⟩:=e7 env js ec p i _ nd hp he;by_cases hl:lock=some i
  ·-- locked
   refine lH (b2 fun d' z=>?_) ?_
   ·rw [z] at he;obtain ⟨s,e0,ev⟩:=k.back he;obtain ⟨j,hj,e'⟩:=gx e0;rw [hp] at hj;cases hj;obtain ⟨c,hc | hc⟩:=mi
    ·rw [hc] at e';simp only [Option.getD_some,oe,hl,decide_true,Kr] at e';subst e';cases ev
    ·rw [hc] at e';simp only [Option.getD_some,oe,hl,decide_true,Kr] at e';subst e';cases ev
   ·rintro ⟨q,mq,sq⟩;obtain ⟨j',hj',hn,mj'⟩:=eG mq;have:=R.sep j' i a mj' mi (bN hj' sq) hs;subst this;exact hn hl
  ·have:∃ c,(dG env lock js)[p]?=some (.ino c):=by
    unfold dG;rw [H9,hp];obtain ⟨c,hc | hc⟩:=mi
    ·exact ⟨c,by rw [Option.map_some,hc];simp [oe,hl]⟩
    ·exact ⟨c,by rw [Option.map_some,hc];simp [oe,hl]⟩
   obtain ⟨c,hc⟩:=this;obtain ⟨d',hd'⟩:=k.Dv hc;rw [he] at hd';have ed:=b1 d' (Ja hd') mi;rw [hm] at ed;cases ed;obtain ⟨a',s',_,_,t⟩:=S.ino p d (by rw [he];exact hd');have:=bN hp s';rw [hs] at this;cases this
   rwa [eFc] at t
 ·refine lH (ba env js ec i hi) ?_;rintro ⟨q,mq,sq⟩;obtain ⟨j',hj',hn,mj'⟩:=eG mq;have:=R.sep j' i a mj' mi (bN hj' sq) hs;subst this;exact hi (Iz hj')
end
open PySem
section
variable {K:Fg} {F F' I I' F0:Addr->Prop} {H H' H₀ H1:Hp} {env env' e1:En} {σ σ':St} {ga:Nat->V} {gd:List PyData}
def D8 (K:Fg) (F:Addr->Prop) (H:Hp) (acc:List V):Option PyData->List V->Prop
 | none,acc'=>acc'=acc
 | some d,acc'=>∃ v,acc'=acc++[v]/\Dm K F H d v
theorem sX {step:PyData->En->Option (Option PyData×En)} {ds ys:List PyData} {ec:En} {lock:Option Nat} {js:List Nat} {J:It} {Q:VK} {τ:Type} {TI:τ->Prop} {t0:τ} {body:τ->List V->V->Hp->(τ->List V->Hp->Prop)->Prop} (ht0:TI t0)
  (R1:Rel K F0 H₀ I e1 σ H1) (nd:js.Nodup) (hit:uN K (FF F0 e1 σ) (fun b=>IA e1 σ b/\∀ i,lock=some i->mu e1 i->σ[i]?≠some (some (.ref b))) H1 J ds) (h2:uR step ds (dG e1 lock js)=some (ys,ec))
  (turn:∀ t acc d envc y envc' x H',TI t->step d envc=some (y,envc')->Rel K (FF F0 e1 σ) H1 (IA (dG e1 lock js) (bw js σ)) envc (bw js σ) H'->noOwn envc->Dm K (FF F0 e1 σ) H' d x->∀ N:τ->List V->Hp->Prop,
   (∀ t' acc' H2,TI t'->Rel K (FF F0 e1 σ) H1 (IA (dG e1 lock js) (bw js σ)) envc' (bw js σ) H2->KpE envc envc'->Pr (FF F0 e1 σ) H' H2->D8 K (FF F0 e1 σ) H2 acc y acc'->N t' acc' H2)->body t acc x H' N)
  (fin:∀ acc H',Rel K F0 H₀ I (aS e1 js ec) σ H'->DmL K (FF F0 e1 σ) H' ys acc->acc.length<=sizeLine->∀ p,H' p=none->Q (.ref p) (upd H' p (.lst acc))) :
  ∃ W:Nat->Nat->τ->List V->Hp->Prop,(∃ m,W 0 m t0 [] H1)/\∀ i m t acc H,W i m t acc H ->
   (J.stop i H/\acc.length<=sizeLine/\∀ p,H p=none->Q (.ref p) (upd H p (.lst acc)))\/(J.go i H/\acc.length < sizeLine/\∀ x H',J.yld i H x H'->body t acc x H' fun t' acc' H2=>∃ m',m' < m/\W (i+1) m' t' acc' H2):=by
 obtain ⟨hvl,hturn⟩:=hit;have sub:∀ b,IA (dG e1 lock js) (bw js σ) b->IA e1 σ b/\∀ i,lock=some i->mu e1 i->σ[i]?≠some (some (.ref b)):=fun b ⟨k,m,s⟩=>by
  obtain ⟨j,hj,hn,mj⟩:=eG m;refine ⟨⟨j,mj,bN hj s⟩,fun i hl mi si=>?_⟩;have:=R1.sep j i b mj mi (bN hj s) si;subst this;exact hn hl
 have Rc0:=R1.bw (lock:=lock) nd
 refine ⟨fun i m t acc H'=>TI t/\m=ds.length - i/\i<=ds.length/\acc.length<=i/\∃ envc done rest,uR step (ds.drop i) envc=some (rest,ec)/\ys=done++rest/\Rel K (FF F0 e1 σ) H1 (IA (dG e1 lock js) (bw js σ)) envc (bw js σ) H'/\KpE (dG e1 lock js) envc/\DmL K (FF F0 e1 σ) H' done acc,
  ⟨ds.length,ht0,rfl,IV _,Ia _,dG e1 lock js,[],ys,h2,rfl,Rc0,KpE.refl _,rfl⟩,?_⟩
 rintro i m t acc H' ⟨hti,rfl,hi,hal,envc,done,rest,hc,hy,Rc,kc,hacc⟩;have hkept:∀ b o,H1 b=some o->¬(IA e1 σ b/\∀ i,lock=some i->mu e1 i->σ[i]?≠some (some (.ref b)))->H' b=some o:=fun b o e n=>Rc.d8 b o e fun z=>n (sub b z);by_cases hlt:i < ds.length
 ·right;obtain ⟨go,yld⟩:=(hturn H' hkept i).1 (by omega);refine ⟨go,by omega,fun x H'' hx=>?_⟩;obtain ⟨d,hd,hy9⟩:=yld x H'' hx;obtain ⟨sm,hdx'⟩:=hy9.dm (F2:=FF F0 e1 σ) fun d v h=>h.pr (R1.pw fun b o e n=>hkept b o e fun z=>n z.1) fun _ z=>z;have Rc:=Rc.same sm;have hacc:=hacc.pr (fun b o e _=>sm b o e) fun _ z=>z;have ed:ds.drop i=d :: ds.drop (i+1):=by
   rw [Jt hlt];obtain ⟨_,q⟩:=HX.mp hd;rw [q]
  rw [ed] at hc;unfold uR at hc;split at hc
  ·rename_i y envc' hs;split at hc
   ·rename_i ys' e2 hr;cases hc;refine turn t acc d envc y envc' x H'' hti hs Rc (cY.kp kc) hdx' _ fun t' acc' H2 ht' R2 k2 p2 ha=>⟨_,by omega,ht',rfl,by omega,?_,envc',done++y.toList,ys',hr,by rw [hy,JB],R2,kc.trans k2,?_⟩
    ·cases y with
     | none=>rw [show acc'=acc from ha];omega
     | some dy=>obtain ⟨v,rfl,_⟩:=ha;rw [HY];simp;omega
    ·have hacc':=hacc.pr p2 fun _ z=>z;cases y with
     | none=>rw [show acc'=acc from ha];simpa using hacc'
     | some dy=>obtain ⟨v,rfl,hv⟩:=ha;exact hacc'.snoc hv
   ·cases hc
  ·cases hc
 ·left;have e:i=ds.length:=by omega
  subst e;have hz:acc.length<=sizeLine:=by omega
  rw [List.drop_length] at hc;unfold uR at hc;cases hc;rw [Jn] at hy;subst hy;exact ⟨(hturn H' hkept _).2 (by omega),hz,fin acc H' (R1.back nd Rc kc) hacc hz⟩
theorem Fz {js:List Nat} {it:XI} {c:XT} {e:XE} (ii:SI K ga gd it) (ic:ST K ga gd c) (ie:SE K ga gd e):SE K ga gd (.cmp js it c e):=by
 intro env rv env' h F0 H₀ I σ H Q R q;simp only [dE] at h;split at h
 ·rename_i ds lock e1 h1;split at h
  ·rename_i nd;split at h
   ·rename_i ys ec h2;cases h;refine ii _ _ _ _ h1 F0 H₀ I σ H _ R fun J H1 R1 k1 _ hit=>?_;refine Exists.elim (sX (Q:=Q) (τ:=Unit) (TI:=fun _=>True) (t0:=()) (body:=fun _ acc x H' N=>rT K ga c (some x :: bw js σ) H' fun b H2=>if b=true then rE K ga e (some x :: bw js σ) H2 fun y H3=>N () (acc++[y]) H3 else N () acc H2) trivial R1 nd hit h2 ?_ ?_) fun W hw=>?_
    rotate_right 1
    ·obtain ⟨w0,hW⟩:=hw;exact ⟨fun i m acc H=>W i m () acc H,w0,fun i m acc H w=>hW i m () acc H w⟩
    ·intro _ acc d envc y envc' x H' _ hs Rc no hd N hN;have eF:FF (FF F0 e1 σ) envc (bw js σ)=FF F0 e1 σ:=dM no;have Rx:Rel K (FF F0 e1 σ) H1 (IA (dG e1 lock js) (bw js σ)) (.dat d :: envc) (some x :: bw js σ) H':=Rc.front (ds:=[d]) (vs:=[x]) ⟨x,[],rfl,by rw [eF];exact hd,rfl⟩;have frontF:∀ {e2:En},KpE envc e2->FF (FF F0 e1 σ) (.dat d :: e2) (some x :: bw js σ)=FF F0 e1 σ:=fun {e2} k=>by
      have:=iX (F0:=FF F0 e1 σ) (env:=e2) (σ:=bw js σ) (pre:=[.dat d]) (ps:=[some x]) (fun s hs=>by rw [Ib.mp hs];trivial) rfl;exact this.trans (dM (no.kp k))
     unfold jT at hs;split at hs
     ·rename_i e2 hT;split at hs
      ·rename_i rv e3 hE;split at hs
       ·rename_i dy hv;cases hs;refine ic _ _ _ hT _ _ _ _ H' _ Rx.rebase fun H2 S2 k2=>?_;rw [Io rfl];have R2:=Rx.bz S2;refine ie _ _ _ hE _ _ _ _ H2 _ R2.rebase fun v H3 S3 k3 r3=>?_;have R3:=R2.bz S3;obtain ⟨ex,e3',kx⟩:=(k2.trans k3).front (ds:=[d]);have k23:=k2.trans k3;subst e3';have ht:(([d].map Sl.dat)++ex).tail=ex:=rfl;obtain ⟨e2x,e2',k2x⟩:=k2.front (ds:=[d]);have p12:Pr (FF F0 e1 σ) H' H2:=by have:=Rx.pw S2.d8;rwa [frontF (KpE.refl _)] at this
        have p23:Pr (FF F0 e1 σ) H2 H3:=by
         have:=R2.pw S3.d8;rw [e2'] at this
         rwa [show FF (FF F0 e1 σ) ([d].map Sl.dat++e2x) (some x :: bw js σ)=FF F0 e1 σ from frontF k2x] at this
        have a3:=r3.av;rw [hv] at a3;have dv:Dm K (FF F0 e1 σ) H3 dy v:=by
         have:Dm K (FF (FF F0 e1 σ) ([d].map Sl.dat++ex) (some x :: bw js σ)) H3 dy v:=a3
         rwa [show FF (FF F0 e1 σ) ([d].map Sl.dat++ex) (some x :: bw js σ)=FF F0 e1 σ from frontF kx] at this
        exact hN () _ H3 trivial (R3.behind (pre:=[.dat d]) (ps:=[some x]) (fun s hs=>by rw [Ib.mp hs];trivial) rfl) kx (p12.trans p23 fun _ z=>z) ⟨v,rfl,dv⟩
       ·cases hs
      ·cases hs
     ·rename_i e2 hT;cases hs;refine ic _ _ _ hT _ _ _ _ H' _ Rx.rebase fun H2 S2 k2=>?_;rw [Iv (by decide)];have R2:=Rx.bz S2;obtain ⟨ex,e2',kx⟩:=k2.front (ds:=[d]);subst e2';have p12:Pr (FF F0 e1 σ) H' H2:=by have:=Rx.pw S2.d8;rwa [frontF (KpE.refl _)] at this
      exact hN () _ H2 trivial (R2.behind (pre:=[.dat d]) (ps:=[some x]) (fun s hs=>by rw [Ib.mp hs];trivial) rfl) kx p12 rfl
     ·cases hs
    ·intro acc H' R' hd hz p hp;have eF:=(bc e1 js ec).ff (F0:=F0) (σ:=σ);have s:=aJ.nw (.lst acc) hp;exact q _ _ (R'.same s) (k1.trans (bc e1 js ec).kp) (R'.mY (pr:=.frs (.list ys)) s ⟨p,rfl,hp,acc,ar,hz,by rw [eF];exact (hd.fresh hp).pr (Pr.of_same s) fun _ z=>z⟩)
   ·cases h
  ·cases h
 ·cases h
noncomputable def z0:St->Nat->List V->St
 | σ,_,[]=>σ
 | σ,k,v :: vs=>z0 (σ.set k (some v)) (k+1) vs
theorem ma:∀ {vs:List V} {k:Nat} {σ:St} {H:Hp} {Q:St->Hp->Prop},Q (z0 σ k vs) H->gNs (List.range' k vs.length) vs σ H Q
 | [],_,_,_,_,h=>⟨rfl,h⟩
 | v :: vs,k,σ,H,Q,h=>⟨v,vs,rfl,ma (vs:=vs) (k:=k+1) h⟩
theorem oZ:∀ {vs:List V} {pre hd tl:St},hd.length=vs.length->z0 (pre++(hd++tl)) pre.length vs=pre++(vs.map some++tl)
 | [],pre,hd,tl,h=>by
  have:hd=[]:=List.eq_nil_of_length_eq_zero h;subst this;rfl
 | v :: vs,pre,[],tl,h=>by cases h
 | v :: vs,pre,x :: hd,tl,h=>by
  have hl:hd.length=vs.length:=by simpa using h
  have e:(pre++(x :: hd++tl)).set pre.length (some v)=(pre++[some v])++(hd++tl):=by
   rw [List.set_append_right _ _ (Ia _)];simp
  unfold z0;rw [e];have:=oZ (vs:=vs) (pre:=pre++[some v]) (hd:=hd) (tl:=tl) hl;rw [HY] at this;rw [show pre.length+1=pre.length+[some v].length from rfl,this];simp
theorem uf (n:List Str):(gQ n).length=n.length:=by unfold gQ;rw [HS]
theorem Aj {n:List Str} {js:List Nat} {it:XI} {e:XE} (ii:SI K ga gd it) (ie:SE K ga gd e):SE K ga gd (.yQ n js it e):=by
 intro env rv env' h F0 H₀ I σ H Q R q;simp only [dE] at h;split at h
 ·rename_i ds lock e1 h1;split at h
  ·rename_i nd;split at h
   ·rename_i ys ec h2;cases h;refine ii _ _ _ _ h1 F0 H₀ I σ H _ R fun J H1 R1 k1 _ hit=>?_;refine Exists.elim (sX (Q:=Q) (τ:=St) (TI:=fun t=>∃ hd:St,hd.length=n.length/\t=hd++bw js σ) (t0:=gQ n++bw js σ) (body:=fun t acc x H' N=>gTp K (List.range n.length) x t H' fun σ2 H2=>rE K ga e σ2 H2 fun y H3=>N σ2 (acc++[y]) H3) ⟨gQ n,uf n,rfl⟩ R1 nd hit h2 ?_ ?_) fun W hw=>?_
    rotate_right 1
    ·obtain ⟨w0,hW⟩:=hw;exact ⟨W,w0,hW⟩
    ·rintro t acc d envc y envc' x H' ⟨hd,hl,rfl⟩ hs Rc no hdx N hN;have eF:FF (FF F0 e1 σ) envc (bw js σ)=FF F0 e1 σ:=dM no;unfold gB at hs;split at hs
     ·rename_i xs;split at hs
      ·rename_i hxl;split at hs
       ·rename_i rv e3 hE;split at hs
        ·rename_i dy hv;cases hs;obtain ⟨a,vs,rfl,hq,hz,hdl⟩:=hdx;have hvl:vs.length=n.length:=by rw [hdl.len,hxl]
         refine ⟨a,vs,rfl,hq,by rw [Jz];exact hvl,?_⟩;rw [List.range_eq_range',<-hvl];refine ma ?_;have es:z0 (hd++bw js σ) 0 vs=vs.map some++bw js σ:=oZ (pre:=[]) (by rw [hl,hvl]);rw [es];have Rx:Rel K (FF F0 e1 σ) H1 (IA (dG e1 lock js) (bw js σ)) (xs.map .dat++envc) (vs.map some++bw js σ) H':=Rc.front (by rw [eF];exact hdl);have hpre:∀ s∈(xs.map Sl.dat),qx s:=fun s hs=>by obtain ⟨d,_,rfl⟩:=Ij.mp hs;trivial
         have hpl:(xs.map Sl.dat).length=(vs.map some).length:=by rw [HS,HS,hdl.len]
         have frontF:∀ {e2:En},KpE envc e2->FF (FF F0 e1 σ) (xs.map .dat++e2) (vs.map some++bw js σ)=FF F0 e1 σ:=fun {e2} k=>(iX hpre hpl).trans (dM (no.kp k));refine ie _ _ _ hE _ _ _ _ H' _ Rx.rebase fun v H3 S3 k3 r3=>?_;have R3:=Rx.bz S3;obtain ⟨ex,e3',kx⟩:=k3.front;subst e3';have p:Pr (FF F0 e1 σ) H' H3:=by have:=Rx.pw S3.d8;rwa [frontF (KpE.refl _)] at this
         have a3:=r3.av;rw [hv] at a3;have dv:Dm K (FF F0 e1 σ) H3 dy v:=by
          have:Dm K (FF (FF F0 e1 σ) (xs.map .dat++ex) (vs.map some++bw js σ)) H3 dy v:=a3
          rwa [frontF kx] at this
         have ed:(xs.map Sl.dat++ex).drop n.length=ex:=by rw [<- hxl,<-HS (f:=Sl.dat),List.drop_left]
         rw [ed] at hN;exact hN _ _ H3 ⟨vs.map some,by rw [HS];exact hvl,rfl⟩ (R3.behind hpre hpl) kx p ⟨v,rfl,dv⟩
        ·cases hs
       ·cases hs
      ·cases hs
     ·cases hs
    ·intro acc H' R' hd hz p hp;have eF:=(bc e1 js ec).ff (F0:=F0) (σ:=σ);have s:=aJ.nw (.lst acc) hp;exact q _ _ (R'.same s) (k1.trans (bc e1 js ec).kp) (R'.mY (pr:=.frs (.list ys)) s ⟨p,rfl,hp,acc,ar,hz,by rw [eF];exact (hd.fresh hp).pr (Pr.of_same s) fun _ z=>z⟩)
   ·cases h
  ·cases h
 ·cases h
mutual
theorem sE (hg:∀ g d,gd[g]?=some d->∀ F H,Dm K F H d (ga g)):∀ e:XE,SE K ga gd e
 | .var i=>DM i | .mov i=>DX i | .tke i=>Fo i | .cst c=>E2 c | .glb g=>DF hg g
 | .prm p as=>Dx (sA hg as) | .met m o as=>D9 (sE hg o) (sA hg as) | .mtr m i as=>FX (sA hg as) | .call f as=>s_call (sA hg as)
 | .tup as=>EH (sA hg as) | .lst as=>Eb (sA hg as) | .dsp as=>E4 (sPs hg as) | .fst as=>FE (sF hg as)
 | .ifx c a b=>DY (sT hg c) (sE hg a) (sE hg b) | .qN a b=>Ct (sE hg a) (sE hg b) | .orv a b=>Ez (sE hg a) (sE hg b) | .zL a=>BX (sE hg a)
 | .chn p q a b c=>DR (sE hg a) (sE hg b) (sE hg c) | .sl2 p a b c=>Eo (sE hg a) (sE hg b) (sE hg c)
 | .cmp js it c e=>Fz (sI hg it) (sT hg c) (sE hg e) | .yQ n js it e=>Aj (sI hg it) (sE hg e)
theorem sA (hg:∀ g d,gd[g]?=some d->∀ F H,Dm K F H d (ga g)):∀ e:XA,SA K ga gd e
 | .nil=>EJ | .cons e r=>CK (sE hg e) (sA hg r)
theorem sF (hg:∀ g d,gd[g]?=some d->∀ F H,Dm K F H d (ga g)):∀ e:XA,SF K ga gd e
 | .nil=>FT | .cons e r=>BF (sE hg e) (sF hg r)
theorem sPs (hg:∀ g d,gd[g]?=some d->∀ F H,Dm K F H d (ga g)):∀ e:XP,SPs K ga gd e
 | .nil=>D6 | .cons k e r=>zS (sE hg k) (sE hg e) (sPs hg r)
theorem sT (hg:∀ g d,gd[g]?=some d->∀ F H,Dm K F H d (ga g)):∀ e:XT,ST K ga gd e
 | .tst e=>FC (sE hg e) | .tru e=>Ef (sE hg e) | .and a b=>Ei (sT hg a) (sT hg b) | .or a b=>HR (sT hg a) (sT hg b) | .not a=>FN (sT hg a) | .yes=>EI
theorem sI (hg:∀ g d,gd[g]?=some d->∀ F H,Dm K F H d (ga g)):∀ e:XI,SI K ga gd e
 | .lst e=>xV (sE hg e) | .tup e=>BU (sE hg e) | .str e=>FQ (sE hg e) | .rng1 as=>CS (sA hg as) | .rng2 as=>BS (sA hg as) | .dct e=>EN (sE hg e) | .sq e=>Hv (sE hg e) | .itm e=>E8 (sE hg e) | .zip as=>Dz (sA hg as)
end
end
open PySem
section
variable {K:Fg} {F F' I I' F0:Addr->Prop} {H H' H₀ H1:Hp} {env env' e1:En} {σ σ':St} {ga:Nat->V} {gd:List PyData}
theorem LsF.bo {a:Addr} {xs:List V} (h:LsF K F H a xs):LsF K (fun b=>F b\/H b=none) H a xs:=by
 rcases h with ⟨n,h⟩ | h
 ·refine .inl ⟨fun z=>z.elim n fun e=>?_,h⟩;rcases h with h | ⟨o,h⟩ <;> (rw [e] at h;cases h)
 ·exact .inr h
mutual
theorem Dm.bo:∀ {d:PyData} {v:V},Dm K F H d v->Dm K (fun b=>F b\/H b=none) H d v
 | .none,v,h=>h
 | .bool b,v,h=>h
 | .int i,v,h=>h
 | .str x,v,h=>h
 | .list ds,v,h=>by
  obtain ⟨a,xs,e,l,z,r⟩:=h;exact ⟨a,xs,e,l.bo,z,DmL.bo r⟩
 | .tuple ds,v,h=>by
  obtain ⟨a,xs,e,l,z,r⟩:=h;exact ⟨a,xs,e,l,z,DmL.bo r⟩
 | .dict kvs,v,h=>by
  obtain ⟨a,ep,xs,e,n,l,z,r⟩:=h;exact ⟨a,ep,xs,e,fun q=>q.elim n fun q=>(by rw [q] at l;cases l),l,z,DmP.bo r⟩
theorem DmL.bo:∀ {ds:List PyData} {vs:List V},DmL K F H ds vs->DmL K (fun b=>F b\/H b=none) H ds vs
 | [],vs,h=>h
 | d :: ds,vs,h=>by
  obtain ⟨v,r,e,h1,h2⟩:=h;exact ⟨v,r,e,Dm.bo h1,DmL.bo h2⟩
theorem DmP.bo:∀ {ds:List (PyData×PyData)} {vs:List (PyData×V×V)},DmP K F H ds vs->DmP K (fun b=>F b\/H b=none) H ds vs
 | [],vs,h=>h
 | (k,d) :: ds,vs,h=>by
  obtain ⟨j,v,r,e,e2,h0,h1,h2⟩:=h;exact ⟨j,v,r,e,e2,Dm.bo h0,Dm.bo h1,DmP.bo h2⟩
end
theorem Top.bo {d:PyData} {a:Addr} (h:Top K F H d a):Top K (fun b=>F b\/H b=none) H d a:=by
 cases d with
 | list ds=>obtain ⟨xs,e,z,r⟩:=h;exact ⟨xs,e,z,r.bo⟩
 | dict ds=>obtain ⟨ep,xs,e,z,r⟩:=h;exact ⟨ep,xs,e,z,r.bo⟩
 | _=>exact absurd h id
theorem gD.bo {d:PyData} {a:Addr} (h:gD K F I H d a):gD K (fun b=>F b\/H b=none) (fun b=>I b\/H b=none) H d a:=by
 cases d with
 | list ds=>obtain ⟨xs,e,z,r⟩:=h;exact ⟨xs,e.bo,z,r.bo⟩
 | dict ds =>
  obtain ⟨ep,xs,n,e,z,r⟩:=h;exact ⟨ep,xs,fun q=>q.elim n fun q=>(by rw [q] at e;cases e),e,z,r.bo⟩
 | _=>exact absurd h id
theorem Pr.GD (p:Pr F H H') (h:∀ b,F b->F' b):Pr F' H H':=fun b o e n=>p b o e (n.imp (fun z q=>z (h _ q)) id)
def Evs:Sl->Sl->Prop
 | .ino _,s=>∃ d,s=.ino d
 | .ro d,s=>s=.ro d
 | _,s=>(∀ d,s≠.ino d)/\∀ d,s≠.ro d
def BO:Sl->Prop | .ino _=>True | .ro _=>True | _=>False
def KpS (env:En) (σ:St) (env':En) (σ':St):Prop:=env'.length=env.length/\∀ (i:Nat) (s:Sl),env[i]?=some s->∃ s',env'[i]?=some s'/\Evs s s'/\(BO s->σ'[i]?=σ[i]?)
theorem Evs.refl:∀ s,Evs s s
 | .un=>⟨fun _=>nofun,fun _=>nofun⟩
 | .dat _=>⟨fun _=>nofun,fun _=>nofun⟩
 | .own d=>⟨fun _=>nofun,fun _=>nofun⟩
 | .ino d=>⟨d,rfl⟩
 | .ro _=>rfl
def soft (s:Sl):Prop:=(∀ d,s≠.ino d)/\∀ d,s≠.ro d
theorem Evs.soft {s s':Sl} (h:Evs s s') (q:L2.soft s):L2.soft s':=by
 cases s with
 | ino d=>exact absurd rfl (q.1 d)
 | ro d=>exact absurd rfl (q.2 d)
 | _=>exact h
theorem Evs.of {s s':Sl} (q:L2.soft s) (q':L2.soft s'):Evs s s':=by
 cases s with
 | ino d=>exact absurd rfl (q.1 d)
 | ro d=>exact absurd rfl (q.2 d)
 | _=>exact q'
theorem Evs.trans {a b c:Sl} (h:Evs a b) (q:Evs b c):Evs a c:=by
 cases a with
 | ino d=>obtain ⟨d',rfl⟩:=h;exact q
 | ro d=>rw [show b=.ro d from h] at q;exact q
 | un=>exact Evs.of ⟨fun _=>nofun,fun _=>nofun⟩ (q.soft h)
 | dat _=>exact Evs.of ⟨fun _=>nofun,fun _=>nofun⟩ (q.soft h)
 | own _=>exact Evs.of ⟨fun _=>nofun,fun _=>nofun⟩ (q.soft h)
theorem Evs.BO {a b:Sl} (h:Evs a b) (q:L2.BO a):L2.BO b:=by
 cases a with
 | ino d=>obtain ⟨d',rfl⟩:=h;trivial
 | ro d=>rw [show b=.ro d from h];trivial
 | _=>exact absurd q id
theorem KpS.refl (env:En) (σ:St):KpS env σ env σ:=⟨rfl,fun i s e=>⟨s,e,.refl s,fun _=>rfl⟩⟩
theorem KpS.trans {a b c:En} {x y z:St} (h:KpS a x b y) (q:KpS b y c z):KpS a x c z:=⟨q.1.trans h.1,fun i s e=>by
 obtain ⟨s1,e1,v1,w1⟩:=h.2 i s e;obtain ⟨s2,e2,v2,w2⟩:=q.2 i s1 e1
 exact ⟨s2,e2,v1.trans v2,fun t=>(w2 (v1.BO t)).trans (w1 t)⟩⟩
theorem KpE.s (k:KpE env env'):KpS env σ env' σ:=⟨k.1,fun i s e=>by
 obtain ⟨s',e',v⟩:=k.2 i s e;refine ⟨s',e',?_,fun _=>rfl⟩;cases s with
 | un=>rw [show s'=.un from v];exact .refl _
 | dat d=>rw [show s'=.dat d from v];exact .refl _
 | own d=>rcases v with ⟨d',rfl⟩ | ⟨d',rfl⟩ | rfl <;> exact ⟨fun _=>nofun,fun _=>nofun⟩
 | ino d=>exact v
 | ro d=>exact v⟩
theorem jD {i:Nat} (h:free env i=true):∃ s,env[i]?=some s/\L2.soft s:=by
 unfold free at h;split at h
 ·rename_i e;exact ⟨_,e,fun _=>nofun,fun _=>nofun⟩
 ·rename_i e;exact ⟨_,e,fun _=>nofun,fun _=>nofun⟩
 ·rename_i e;exact ⟨_,e,fun _=>nofun,fun _=>nofun⟩
 ·cases h
theorem uw {i:Nat} {s s':Sl} {x:Option V} (e:env[i]?=some s) (q:L2.soft s) (q':L2.soft s'):KpS env σ (env.set i s') (σ.set i x):=by
 have hi:i < env.length:=(HX.mp e).1;refine ⟨IF,fun j t h=>?_⟩;by_cases z:i=j
 ·subst z;rw [e] at h;cases h;refine ⟨s',Ih hi,.of q q',fun t=>?_⟩;cases s with
  | ino d=>exact absurd rfl (q.1 d)
  | ro d=>exact absurd rfl (q.2 d)
  | _=>exact absurd t id
 ·exact ⟨t,by rw [HW z];exact h,.refl t,fun _=>by rw [HW z]⟩
def mN (K:Fg) (F0:Addr->Prop) (H₀:Hp) (I:Addr->Prop) (env:En) (σ:St) (D:Ends):Out->Prop
 | .nx e=>∀ σ' H',Rel K F0 H₀ I e σ' H'->KpS env σ e σ'->D.nx σ' H'
 | .bk e=>∀ σ' H',Rel K F0 H₀ I e σ' H'->KpS env σ e σ'->D.bk σ' H'
 | .ct e=>∀ σ' H',Rel K F0 H₀ I e σ' H'->KpS env σ e σ'->D.ct σ' H'
 | .rt rv e=>∀ v σ' H',Rel K F0 H₀ I e σ' H'->KpS env σ e σ'->fB K F0 H₀ I e σ' H' rv v->D.rt v H'
def SS (K:Fg) (ga:Nat->V) (gd:List PyData) (s:XS):Prop:=∀ (env:En) (out:Out),dS gd s env=some out->∀ (F0:Addr->Prop) (H₀:Hp) (I:Addr->Prop) (σ:St) (H:Hp) (D:Ends),Rel K F0 H₀ I env σ H->mN K F0 H₀ I env σ D out->rS K ga s D σ H
theorem mN.from {D:Ends} {out:Out} (k:KpS env σ env' σ') (h:mN K F0 H₀ I env σ D out):mN K F0 H₀ I env' σ' D out:=by
 cases out with
 | nx e=>exact fun s h1 r q=>h s h1 r (k.trans q)
 | bk e=>exact fun s h1 r q=>h s h1 r (k.trans q)
 | ct e=>exact fun s h1 r q=>h s h1 r (k.trans q)
 | rt rv e=>exact fun v s h1 r q w=>h v s h1 r (k.trans q) w
theorem BE {a b:XS} (ia:SS K ga gd a) (ib:SS K ga gd b):SS K ga gd (.seq a b):=by
 intro env out h F0 H₀ I σ H D R q;simp only [dS] at h;split at h
 ·rename_i e h1;refine ia _ _ h1 F0 H₀ I σ H _ R fun σ' H' R' k'=>?_;exact ib _ _ h F0 H₀ I σ' H' D R' (q.from k')
 ·rename_i hn;refine ia _ _ h F0 H₀ I σ H _ R ?_;cases out with
  | nx e=>exact absurd h (hn e)
  | bk e=>exact q
  | ct e=>exact q
  | rt rv e=>exact q
theorem Rel.EK (R:Rel K F0 H₀ I env σ H) {i:Nat} {d:PyData} {v:V} (hf:free env i=true) (h:Dm K (FF F0 env σ) H d v):Rel K F0 H₀ I (env.set i (.dat d)) (σ.set i (some v)) H/\KpS env σ (env.set i (.dat d)) (σ.set i (some v)):=by
 obtain ⟨s,e,q⟩:=jD hf;have hi:i < env.length:=(HX.mp e).1;have R1:=R.forget i (some v);have:=R1.putD (i:=i) (d:=d) (v:=v) (Ih hi) (h.mono (R.sub i _).1);rw [Jp,Jp] at this;exact ⟨this,uw e q ⟨fun _=>nofun,fun _=>nofun⟩⟩
theorem xH {i:Nat} {e:XE} (ie:SE K ga gd e):SS K ga gd (.aK i e):=by
 intro env out h F0 H₀ I σ H D R q;simp only [dS] at h;split at h
 ·rename_i rv e1 h1;split at h
  ·rename_i d hv;split at h
   ·rename_i hf;cases h;refine ie _ _ _ h1 F0 H₀ I σ H _ R fun v H1 R1 k1 r1=>?_;have a1:=r1.av;rw [hv] at a1;obtain ⟨R2,k2⟩:=R1.EK hf (show Dm K _ H1 d v from a1);exact q _ H1 R2 (k1.s.trans k2)
   ·cases h
  ·cases h
 ·cases h
theorem fB.forget {d:PyData} {v:V} (h:fB K F0 H₀ I env σ H (.frs d) v) (i:Nat) (x:Option V) (hs:∀ s,env[i]?=some s->L2.soft s):fB K F0 H₀ I (env.set i .un) (σ.set i x) H (.frs d) v:=by
 obtain ⟨a,ea,R,t,w,nF,hi,hr⟩:=h;have R0:=R.less hi;obtain ⟨hf,hia⟩:=R0.sub i x;have hf':∀ b,(FF F0 (env.set i .un) (σ.set i x) b\/b=a)->(FF F0 env σ b\/b=a):=fun b z=>z.imp (hf b) id;refine ⟨a,ea,R.forget i x,t.pr Pr.refl hf' fun _ z=>z,w,fun z=>nF (hf _ z),fun j c e s=>?_,fun j c e=>?_⟩
 ·rcases get_set e with ⟨_,z⟩ | ⟨n,e⟩
  ·cases z
  ·rw [HW n] at s;exact hi j c e s
 ·rcases get_set e with ⟨_,z⟩ | ⟨n,e⟩
  ·cases z
  ·obtain ⟨b,s,r⟩:=hr j c e;exact ⟨b,by rw [HW n];exact s,r.pr Pr.refl hf' (fun b z=>z.imp (hia b) id) fun _ _ z _=>z⟩
theorem xC {i:Nat} {e:XE} (ie:SE K ga gd e):SS K ga gd (.pB i e):=by
 intro env out h F0 H₀ I σ H D R q;simp only [dS] at h;split at h
 ·rename_i d e1 h1;split at h
  ·rename_i hf;cases h;refine ie _ _ _ h1 F0 H₀ I σ H _ R fun v H1 R1 k1 r1=>?_;obtain ⟨s,e,qs⟩:=jD hf;have hi:i < e1.length:=(HX.mp e).1;have ev:∃ a,v=.ref a:=let ⟨a,e,_⟩:=r1;⟨a,e⟩
   obtain ⟨a,rfl⟩:=ev;have r2:=r1.forget i (some (.ref a)) (fun s' h=>by rw [e] at h;cases h;exact qs);have R2:=Rel.GR (i:=i) (Ih hi) r2;rw [Jp,Jp] at R2;exact q _ H1 R2 (k1.s.trans (uw e qs ⟨fun _=>nofun,fun _=>nofun⟩))
  ·cases h
 ·cases h
theorem oz:∀ {is:List Nat} {ds:List PyData} {vs:List V} {env env':En} {σ:St} {Q:St->Hp->Prop},fY env is ds=some env'->Rel K F0 H₀ I env σ H->DmL K (FF F0 env σ) H ds vs->(∀ σ',Rel K F0 H₀ I env' σ' H->KpS env σ env' σ'->Q σ' H)->gNs is vs σ H Q
 | [],[],vs,env,env',σ,Q,h,R,hd,q=>by
  cases h;exact ⟨hd,q σ R (KpS.refl _ _)⟩
 | [],d :: ds,vs,env,env',σ,Q,h,R,hd,q=>by cases h
 | i :: is,[],vs,env,env',σ,Q,h,R,hd,q=>by cases h
 | i :: is,d :: ds,vs,env,env',σ,Q,h,R,hd,q=>by
  unfold fY at h;split at h
  ·rename_i hf;obtain ⟨v,r,rfl,h1,h2⟩:=hd;obtain ⟨R1,k1⟩:=R.EK hf h1;obtain ⟨s,e,qs⟩:=jD hf;refine ⟨v,r,rfl,?_⟩;refine oz h R1 (h2.mono fun b z=>?_) fun σ' R' k'=>q σ' R' (k1.trans k');rcases z with z | ⟨j,c,e',s'⟩
   ·exact .inl z
   ·rcases get_set e' with ⟨_,y⟩ | ⟨n,e'⟩
    ·cases y
    ·rw [HW n] at s';exact .inr ⟨j,c,e',s'⟩
  ·cases h
theorem yG {is:List Nat} {e:XE} (ie:SE K ga gd e):SS K ga gd (.xk is e):=by
 intro env out h F0 H₀ I σ H D R q;simp only [dS] at h;split at h
 ·rename_i rv e1 h1;split at h
  ·rename_i ds hv;split at h
   ·rename_i e2 hset;cases h;refine ie _ _ _ h1 F0 H₀ I σ H _ R fun v H1 R1 k1 r1=>?_;have a1:=r1.av;rw [hv] at a1;obtain ⟨a,xs,rfl,l,z,r⟩:=(show Dm K (FF F0 e1 σ) H1 (.tuple ds) v from a1);have hlen:∀ {is:List Nat} {ds:List PyData} {e e':En},fY e is ds=some e'->is.length=ds.length:=by
     intro is;induction is with
     | nil=>intro ds e e' h;cases ds with
      | nil=>rfl
      | cons _ _=>cases h
     | cons i is ih=>intro ds e e' h;cases ds with
      | nil=>cases h
      | cons d ds =>
       unfold fY at h;split at h
       ·rw [Ik,Ik,ih h]
       ·cases h
    exact ⟨a,xs,rfl,l,by rw [r.len,hlen hset],oz hset R1 r fun σ' R' k'=>q σ' H1 R' (k1.s.trans k')⟩
   ·cases h
  ·cases h
 ·cases h
theorem x5 {e:XE} (ie:SE K ga gd e):SS K ga gd (.drop e):=by
 intro env out h F0 H₀ I σ H D R q;simp only [dS] at h;split at h
 ·rename_i rv e1 h1;cases h;exact ie _ _ _ h1 F0 H₀ I σ H _ R fun v H1 R1 k1 r1=>q σ H1 R1 k1.s
 ·cases h
theorem BD {e:XE} (ie:SE K ga gd e):SS K ga gd (.ret e):=by
 intro env out h F0 H₀ I σ H D R q;simp only [dS] at h;split at h
 ·rename_i rv e1 h1;cases h;exact ie _ _ _ h1 F0 H₀ I σ H _ R fun v H1 R1 k1 r1=>q v σ H1 R1 k1.s r1
 ·cases h
theorem B2 {c:XT} {a b:XS} (ic:ST K ga gd c) (ia:SS K ga gd a) (ib:SS K ga gd b):SS K ga gd (.ifs c a b):=by
 intro env out h F0 H₀ I σ H D R q;simp only [dS] at h;split at h
 ·rename_i e1 h1;refine ic _ _ _ h1 F0 H₀ I σ H _ R fun H1 R1 k1=>?_;rw [Io rfl];exact ia _ _ h F0 H₀ I σ H1 D R1 (q.from k1.s)
 ·rename_i e1 h1;refine ic _ _ _ h1 F0 H₀ I σ H _ R fun H1 R1 k1=>?_;rw [Iv (by decide)];exact ib _ _ h F0 H₀ I σ H1 D R1 (q.from k1.s)
 ·cases h
theorem Bu {m:wB} {i:Nat} {k e:XE} (ik:SE K ga gd k) (ie:SE K ga gd e):SS K ga gd (.sto m i k e):=by
 intro env out h F0 H₀ I σ H D R q;simp only [dS] at h;split at h
 ·rename_i rv e1 h1;split at h
  ·rename_i x hv;split at h
   ·rename_i d0 hm0;split at h
    ·rename_i rk e2 h2;split at h
     ·rename_i dk d hvk hm;split at h
      ·rename_i d' hf;cases h;refine ie _ _ _ h1 F0 H₀ I σ H _ R fun v H1 R1 k1 r1=>?_;obtain ⟨_,a,s,_⟩:=R1.dU hm0;refine ⟨.ref a,s,?_⟩;refine ik _ _ _ h2 F0 _ _ σ H1 _ R1.rebase fun u H2 S2 k2 r2=>?_;have R2:=R1.bz S2;have a1:=r1.av;rw [hv] at a1;have dx:=R1.o7 S2 k2 (show Dm K _ H1 x v from a1);obtain ⟨m2,a',s',f2,t2⟩:=R2.dU hm;rw [s] at s';cases s';refine m.ok K _ H2 d a dk x u v d' _ hf f2 t2 (r2.av.vw R2 hvk) dx fun H3 hk ht=>?_;exact q σ H3 (R2.Gb hm s hk ht) ((k1.trans k2).trans (qS _ _ _)).s
      ·cases h
     ·cases h
    ·cases h
   ·cases h
  ·cases h
 ·cases h
theorem ER {n:Nat} {c:XT} {b:XS} (ic:ST K ga gd c) (ib:SS K ga gd b):SS K ga gd (.wh n c b):=by
 intro env out h F0 H₀ I σ H D R q;simp only [dS] at h;refine ⟨fun m σ' H'=>∃ env',whL (dT gd c) (dS gd b) m env'=some out/\Rel K F0 H₀ I env' σ' H'/\KpS env σ env' σ',⟨n,env,h,R,KpS.refl _ _⟩,?_⟩;rintro m σ' H' ⟨env',hw,R',k'⟩;cases m with
 | zero=>cases hw
 | succ m =>
  unfold whL at hw;split at hw
  ·rename_i e1 h1;refine ic _ _ _ h1 F0 H₀ I σ' H' _ R' fun H2 R2 k2=>?_;rw [Io rfl];refine ⟨fun σ3 H3=>∃ env3,whL (dT gd c) (dS gd b) m env3=some out/\Rel K F0 H₀ I env3 σ3 H3/\KpS env σ env3 σ3,fun σ3 H3 z=>⟨m,Kg _,z⟩,?_⟩;split at hw
   ·rename_i e hb;exact ib _ _ hb F0 H₀ I σ' H2 _ R2 fun σ3 H3 R3 k3=>⟨e,hw,R3,(k'.trans k2.s).trans k3⟩
   ·rename_i e hb;exact ib _ _ hb F0 H₀ I σ' H2 _ R2 fun σ3 H3 R3 k3=>⟨e,hw,R3,(k'.trans k2.s).trans k3⟩
   ·rename_i e hb;cases hw;exact ib _ _ hb F0 H₀ I σ' H2 _ R2 fun σ3 H3 R3 k3=>q σ3 H3 R3 ((k'.trans k2.s).trans k3)
   ·rename_i r e hb;cases hw;exact ib _ _ hb F0 H₀ I σ' H2 _ R2 fun v σ3 H3 R3 k3 r3=>q v σ3 H3 R3 ((k'.trans k2.s).trans k3) r3
   ·cases hw
  ·rename_i e1 h1;cases hw;refine ic _ _ _ h1 F0 H₀ I σ' H' _ R' fun H2 R2 k2=>?_;rw [Iv (by decide)];exact q σ' H2 R2 (k'.trans k2.s)
  ·cases hw
end
open PySem
section
variable {K:Fg} {F F' I I' F0:Addr->Prop} {H H' H₀ H1:Hp} {env env' e1:En} {σ σ':St} {ga:Nat->V} {gd:List PyData}
theorem Rel.Fq (R:Rel K F0 H₀ I env σ H) (h:∀ b,I b->I' b):Rel K F0 H₀ I' env σ H :=
 ⟨R.len,R.dat,fun i d e=>let ⟨a,s,n,w,t⟩:=R.own i d e;⟨a,s,n,w.imp id (h _),t⟩,fun i d e=>let ⟨a,s,n,w,t⟩:=R.ino i d e;⟨a,s,n,h _ w,t⟩,R.ro,R.sep,R.dom,fun b o e n=>R.d8 b o e fun z=>n (h _ z)⟩
theorem Rel.eqF {F1:Addr->Prop} (R:Rel K F0 H₀ I env σ H) (h:∀ b,F0 b↔F1 b):Rel K F1 H₀ I env σ H:=by
 have:F0=F1:=funext fun b=>propext (h b);exact this▸R
theorem Rel.E5 (R:Rel K F0 H₀ I env σ H) {i:Nat} {d:PyData} {a:Addr} (hu:env[i]?=some .un) (s:σ[i]?=some (some (.ref a))) (h:gD K (FF F0 env σ) (IA env σ) H d a):Rel K F0 H₀ I (env.set i (.ro d)) σ H:=by
 have hi:i < env.length:=(HX.mp hu).1;have eF:FF F0 (env.set i (.ro d)) σ=FF F0 env σ:=by
  have:=ko (F0:=F0) (σ:=σ) (s:=.ro d) (x:=some (.ref a)) hu (fun _=>nofun)
  rwa [set_same s] at this
 have eI:IA (env.set i (.ro d)) σ=IA env σ:=by
  have:=tT (σ:=σ) (s:=.ro d) (x:=some (.ref a)) hu (fun _=>⟨nofun,nofun⟩)
  rwa [set_same s] at this
 have mm:∀ j,mu (env.set i (.ro d)) j->mu env j:=fun j h=>by
  obtain ⟨c,e | e⟩:=h
  ·rcases get_set e with ⟨_,z⟩ | ⟨n,e⟩
   ·cases z
   ·exact ⟨c,.inl e⟩
  ·rcases get_set e with ⟨_,z⟩ | ⟨n,e⟩
   ·cases z
   ·exact ⟨c,.inr e⟩
 refine ⟨by rw [IF];exact R.len,fun j c e=>?_,fun j c e=>?_,fun j c e=>?_,fun j c e=>?_,fun j k b h1 h2 h3 h4=>R.sep j k b (mm j h1) (mm k h2) h3 h4,R.dom,R.d8⟩
 ·rw [eF];rcases get_set e with ⟨_,z⟩ | ⟨n,e⟩
  ·cases z
  exact R.dat j c e
 ·rw [eF];rcases get_set e with ⟨_,z⟩ | ⟨n,e⟩
  ·cases z
  exact R.own j c e
 ·rw [eF];rcases get_set e with ⟨_,z⟩ | ⟨n,e⟩
  ·cases z
  exact R.ino j c e
 ·rw [eF,eI];rcases get_set e with ⟨z,y⟩ | ⟨n,e⟩
  ·subst z;cases y;exact ⟨a,s,h⟩
  exact R.ro j c e
theorem Rel.Hw (R:Rel K F0 H₀ I env σ H) {i:Nat} {d:PyData} {a:Addr} (hu:env[i]?=some .un) (s:σ[i]?=some (some (.ref a))) (h:Top K (FF F0 env σ) H d a) (hF:F0 a) (hI:I a) (na:∀ j,mu env j->σ[j]?≠some (some (.ref a)))
  (hro:∀ (j:Nat) (c:PyData),env[j]?=some (.ro c)->∃ b,σ[j]?=some (some (.ref b))/\gD K (FF F0 env σ) (fun b=>IA env σ b\/b=a) H c b):Rel K F0 H₀ I (env.set i (.ino d)) σ H:=by
 have hi:i < env.length:=(HX.mp hu).1;have eF:FF F0 (env.set i (.ino d)) σ=FF F0 env σ:=by
  have:=ko (F0:=F0) (σ:=σ) (s:=.ino d) (x:=some (.ref a)) hu (fun _=>nofun)
  rwa [set_same s] at this
 have mm:∀ j,mu (env.set i (.ino d)) j->i=j\/(mu env j/\i≠j):=fun j h=>by
  obtain ⟨c,e | e⟩:=h
  ·rcases get_set e with ⟨z,_⟩ | ⟨n,e⟩
   ·exact .inl z
   ·exact .inr ⟨⟨c,.inl e⟩,n⟩
  ·rcases get_set e with ⟨z,_⟩ | ⟨n,e⟩
   ·exact .inl z
   ·exact .inr ⟨⟨c,.inr e⟩,n⟩
 have eI:∀ b,IA (env.set i (.ino d)) σ b->IA env σ b\/b=a:=by
  rintro b ⟨j,m,q⟩;rcases mm j m with z | ⟨m',n⟩
  ·subst z;rw [s] at q;cases q;exact .inr rfl
  ·exact .inl ⟨j,m',q⟩
 refine ⟨by rw [IF];exact R.len,fun j c e=>?_,fun j c e=>?_,fun j c e=>?_,fun j c e=>?_,fun j k b h1 h2 h3 h4=>?_,R.dom,R.d8⟩
 ·rw [eF];rcases get_set e with ⟨_,z⟩ | ⟨n,e⟩
  ·cases z
  exact R.dat j c e
 ·rw [eF];rcases get_set e with ⟨_,z⟩ | ⟨n,e⟩
  ·cases z
  exact R.own j c e
 ·rw [eF];rcases get_set e with ⟨z,y⟩ | ⟨n,e⟩
  ·subst z;cases y;exact ⟨a,s,hF,hI,h⟩
  exact R.ino j c e
 ·rw [eF];rcases get_set e with ⟨_,z⟩ | ⟨n,e⟩
  ·cases z
  obtain ⟨b,q,r⟩:=hro j c e;exact ⟨b,q,r.pr Pr.refl (fun _ z=>z) eI fun _ _ z _=>z⟩
 ·rcases mm j h1 with z1 | ⟨m1,n1⟩
  ·rcases mm k h2 with z2 | ⟨m2,n2⟩
   ·rw [<- z1,<-z2]
   ·rw [<- z1,s] at h3;cases h3;exact absurd h4 (na k m2)
  ·rcases mm k h2 with z2 | ⟨m2,n2⟩
   ·rw [<- z2,s] at h4;cases h4;exact absurd h3 (na j m1)
   ·exact R.sep j k b m1 m2 h3 h4
structure Lk (K:Fg) (F0:Addr->Prop) (H₀:Hp) (I:Addr->Prop) (e1:En) (σ:St) (H1:Hp) (lock:Option Nat) (F1:Addr->Prop):Prop where
 rel:Rel K F1 H₀ I (bV e1 lock) σ H1
 ff:FF F1 (bV e1 lock) σ=FF F0 e1 σ
 ia:∀ b,IA (bV e1 lock) σ b->IA e1 σ b/\∀ i,lock=some i->mu e1 i->σ[i]?≠some (some (.ref b))
 un:∀ env' σ' H',Rel K F1 H1 (IA (bV e1 lock) σ) env' σ' H'->KpS (bV e1 lock) σ env' σ'->Rel K F0 H₀ I (az e1 lock env') σ' H'/\KpS e1 σ (az e1 lock env') σ'/\FF F0 (az e1 lock env') σ'=FF F1 env' σ'
theorem Lk.r8 (R:Rel K F0 H₀ I e1 σ H1) {lock:Option Nat} (h1:bV e1 lock=e1) (h2:∀ env',az e1 lock env'=env') (h3:∀ i,lock=some i->¬mu e1 i):Lk K F0 H₀ I e1 σ H1 lock F0 :=
 ⟨by rw [h1];exact R,by rw [h1],fun b hb=>by rw [h1] at hb;exact ⟨hb,fun i hi m=>absurd m (h3 i hi)⟩,fun env' σ' H' S k=>by rw [h1] at S k;rw [h2];exact ⟨R.bz S,k,rfl⟩⟩
theorem Lk.BR (R:Rel K F0 H₀ I e1 σ H1) {i:Nat} {d:PyData} {a:Addr} (e:e1[i]?=some (.own d)\/e1[i]?=some (.ino d)) (s:σ[i]?=some (some (.ref a))):Lk K F0 H₀ I e1 σ H1 (some i) (fun b=>F0 b\/b=a):=by
 have hi:i < e1.length:=by rcases e with e | e <;> exact (HX.mp e).1
 have mi:mu e1 i:=⟨d,e⟩;have el:bV e1 (some i)=e1.set i (.ro d):=by simp only [bV];rcases e with e | e <;> rw [e]
 have hm:aV e1 i=some d:=by unfold aV;rcases e with e | e <;> rw [e]
 obtain ⟨_,a',s',fa,ta⟩:=R.dU hm;rw [s] at s';cases s';have hu:(e1.set i .un)[i]?=some .un:=Ih hi;have mmu:∀ j,mu (e1.set i .un) j->mu e1 j/\i≠j:=fun j h=>by
  obtain ⟨c,e | e⟩:=h
  ·rcases get_set e with ⟨_,z⟩ | ⟨n,e⟩
   ·cases z
   ·exact ⟨⟨c,.inl e⟩,n⟩
  ·rcases get_set e with ⟨_,z⟩ | ⟨n,e⟩
   ·cases z
   ·exact ⟨⟨c,.inr e⟩,n⟩
 have nIA:¬IA (e1.set i .un) σ a:=fun ⟨j,m,q⟩=>(mmu j m).2 (R.sep i j a mi (mmu j m).1 s q);have eFu:FF (fun b=>F0 b\/b=a) (e1.set i .un) σ=FF F0 e1 σ:=by
  funext b;apply propext;constructor
  ·rintro ((h | h) | ⟨j,c,e',q⟩)
   ·exact .inl h
   ·exact h▸fa
   ·rcases get_set e' with ⟨_,z⟩ | ⟨n,e'⟩
    ·cases z
    ·exact .inr ⟨j,c,e',q⟩
  ·rintro (h | ⟨j,c,e',q⟩)
   ·exact .inl (.inl h)
   ·by_cases n:i=j
    ·subst n;rw [s] at q;cases q;exact .inl (.inr rfl)
    ·exact .inr ⟨j,c,by rw [HW n];exact e',q⟩
 have Ru:Rel K (fun b=>F0 b\/b=a) H₀ I (e1.set i .un) σ H1:=by
  rcases e with e | e
  ·obtain ⟨a2,s2,r⟩:=R.take e;rw [s] at s2;cases s2;obtain ⟨a3,ea,R',_⟩:=r;cases ea;exact R'
  ·have:=R.forget i (some (.ref a));rw [set_same s] at this;obtain ⟨a2,s2,f2,_⟩:=R.ino i d e;rw [s] at s2;cases s2;exact this.eqF fun b=>⟨.inl,fun z=>z.elim id fun z=>z▸f2⟩
 have Rl:Rel K (fun b=>F0 b\/b=a) H₀ I (e1.set i (.ro d)) σ H1:=by
  have:=Ru.E5 (d:=d) hu s (by rw [eFu];exact ta.ro nIA)
  rwa [Jp] at this
 have eFl:FF (fun b=>F0 b\/b=a) (e1.set i (.ro d)) σ=FF F0 e1 σ:=by
  rw [<- eFu];have:=ko (F0:=fun b=>F0 b\/b=a) (σ:=σ) (s:=.ro d) (x:=some (.ref a)) hu (fun _=>nofun)
  rwa [set_same s,Jp] at this
 have eIl:IA (e1.set i (.ro d)) σ=IA (e1.set i .un) σ:=by
  have:=tT (σ:=σ) (s:=.ro d) (x:=some (.ref a)) hu (fun _=>⟨nofun,nofun⟩)
  rwa [set_same s,Jp] at this
 have iaSub:∀ b,IA (e1.set i (.ro d)) σ b->IA e1 σ b:=fun b hb=>by rw [eIl] at hb;obtain ⟨j,m,q⟩:=hb;exact ⟨j,(mmu j m).1,q⟩
 refine ⟨by rw [el];exact Rl,by rw [el];exact eFl,fun b hb=>?_,fun env' σ' H' S k=>?_⟩
 ·rw [el,eIl] at hb;obtain ⟨j,m,q⟩:=hb;refine ⟨⟨j,(mmu j m).1,q⟩,fun i' hi' mi' si'=>?_⟩;cases hi';exact (mmu j m).2 (R.sep i j b mi (mmu j m).1 si' q)
 ·rw [el] at S k;have hro:(e1.set i (.ro d))[i]?=some (.ro d):=Ih hi;obtain ⟨si,he,hv,hs⟩:=k.2 i _ hro;have hv:si=.ro d:=hv;subst hv;have hs:=(hs trivial).trans s;have hi':i < env'.length:=(HX.mp he).1;have na1:¬IA (e1.set i (.ro d)) σ a:=by rw [eIl];exact nIA
  have keepA:∀ o,H1 a=some o->H' a=some o:=fun o z=>S.d8 a o z na1;have fSub:∀ b,FF (fun b=>F0 b\/b=a) env' σ' b->(FF F0 e1 σ b\/H1 b=none):=fun b z=>by
   rcases z with (z | z) | ⟨j,c,e',q⟩
   ·exact .inl (.inl z)
   ·exact .inl (z▸fa)
   ·obtain ⟨b',q',_,w,_⟩:=S.own j c e';rw [q] at q';cases q';rcases w with w | w
    ·exact .inr w
    ·exact .inl (R.ia (iaSub b w))
  have pF:Pr (fun b=>FF F0 e1 σ b\/H1 b=none) H1 H':=(R.pw fun b o z n=>S.d8 b o z fun y=>n (iaSub b y)).GD fun b z=>.inl z;have tA:Top K (FF (fun b=>F0 b\/b=a) env' σ') H' d a:=ta.bo.pr pF fSub keepA;have iaEnd:∀ b,IA env' σ' b->(IA e1 σ b\/H1 b=none):=fun b z=>by
   rcases S.iaI z with w | w
   ·exact .inr w
   ·exact .inl (iaSub b w)
  have roOld:∀ (j:Nat) (c:PyData),env'[j]?=some (.ro c)->i≠j->∃ b,σ'[j]?=some (some (.ref b))/\gD K (FF (fun b=>F0 b\/b=a) env' σ') (fun b=>IA env' σ' b\/b=a) H' c b:=fun j c e' n=>by
   have hj:j < e1.length:=by
    have:=(HX.mp e').1;rw [k.1,IF] at this;exact this
   have e0:(e1.set i (.ro d))[j]?=some e1[j]:=by rw [HW n];exact HZ hj
   obtain ⟨s',h',v',w'⟩:=k.2 j _ e0;rw [e'] at h';cases h';have es:e1[j]=.ro c:=by
    cases hh:e1[j] with
    | ino _=>rw [hh] at v';obtain ⟨_,z⟩:=v';cases z
    | ro c'=>rw [hh] at v';have:Sl.ro c=.ro c':=v';rw [this]
    | un=>rw [hh] at v';exact absurd rfl (v'.2 c)
    | dat _=>rw [hh] at v';exact absurd rfl (v'.2 c)
    | own _=>rw [hh] at v';exact absurd rfl (v'.2 c)
   have er:e1[j]?=some (.ro c):=by rw [HZ hj,es]
   obtain ⟨b,q,r⟩:=R.ro j c er;rw [es] at w';refine ⟨b,(w' trivial).trans q,r.bo.pr pF fSub (fun b z=>?_) fun b o z n=>S.d8 b o z fun y=>n (.inl (iaSub b y))⟩;rcases z with z | z
   ·exact iaEnd b z
   ·exact .inl (z▸⟨i,mi,s⟩)
  have inoNe:∀ (j:Nat) (c:PyData),env'[j]?=some (.ino c)->σ'[j]?≠some (some (.ref a)):=fun j c e' q=>by
   have n:i≠j:=fun z=>by subst z;rw [he] at e';cases e'
   have hj:j < e1.length:=by
    have:=(HX.mp e').1;rw [k.1,IF] at this;exact this
   have e0:(e1.set i (.ro d))[j]?=some e1[j]:=by rw [HW n];exact HZ hj
   obtain ⟨s',h',v',w'⟩:=k.2 j _ e0;rw [e'] at h';cases h';have es:∃ c',e1[j]=.ino c':=by
    cases hh:e1[j] with
    | ino c'=>exact ⟨c',rfl⟩
    | ro c'=>rw [hh] at v';cases v'
    | un=>rw [hh] at v';exact absurd rfl (v'.1 c)
    | dat _=>rw [hh] at v';exact absurd rfl (v'.1 c)
    | own _=>rw [hh] at v';exact absurd rfl (v'.1 c)
   obtain ⟨c',es⟩:=es;have er:e1[j]?=some (.ino c'):=by rw [HZ hj,es]
   rw [es] at w';rw [w' trivial] at q;exact n (R.sep i j a mi ⟨c',.inr er⟩ s q)
  have Sf:Rel K (fun b=>F0 b\/b=a) H1 (IA e1 σ) (env'.set i .un) σ' H':=by
   have:=S.forget i (some (.ref a));rw [set_same hs] at this;exact this.Fq iaSub
  have hu':(env'.set i .un)[i]?=some .un:=Ih hi';have eFe:FF (fun b=>F0 b\/b=a) (env'.set i .un) σ'=FF (fun b=>F0 b\/b=a) env' σ':=by
   funext b;apply propext;constructor
   ·rintro (h | ⟨j,c,e',q⟩)
    ·exact .inl h
    ·rcases get_set e' with ⟨_,z⟩ | ⟨n,e'⟩
     ·cases z
     ·exact .inr ⟨j,c,e',q⟩
   ·rintro (h | ⟨j,c,e',q⟩)
    ·exact .inl h
    ·have n:i≠j:=fun z=>by subst z;rw [he] at e';cases e'
     exact .inr ⟨j,c,by rw [HW n];exact e',q⟩
  have iaE:∀ b,IA (env'.set i .un) σ' b->IA env' σ' b:=by
   rintro b ⟨j,⟨c,m⟩,q⟩;refine ⟨j,⟨c,?_⟩,q⟩;rcases m with m | m
   ·rcases get_set m with ⟨_,z⟩ | ⟨n,m⟩
    ·cases z
    ·exact .inl m
   ·rcases get_set m with ⟨_,z⟩ | ⟨n,m⟩
    ·cases z
    ·exact .inr m
  have kEnd:∀ t:Sl,Evs (e1[i]) t->KpS e1 σ (env'.set i t) σ':=fun t ht=>by
   refine ⟨by rw [IF,k.1,IF],fun j s0 e0=>?_⟩;by_cases z:i=j
   ·subst z;rw [HZ hi] at e0;cases e0;exact ⟨t,Ih hi',ht,fun _=>hs.trans s.symm⟩
   ·obtain ⟨s',h',v',w'⟩:=k.2 j s0 (by rw [HW z];exact e0);exact ⟨s',by rw [HW z];exact h',v',w'⟩
  rcases e with e | e
  ·have eu:az e1 (some i) env'=env'.set i (.own d):=by simp only [az];rw [e,he]
   obtain ⟨a2,s2,nF,_⟩:=R.own i d e;rw [s] at s2;cases s2;have nFF:¬FF F0 (env'.set i .un) σ' a:=by
    rintro (h | ⟨j,c,e',q⟩)
    ·exact nF h
    ·obtain ⟨b',q',n',_⟩:=Sf.own j c e';rw [q] at q';cases q';exact n' (.inr rfl)
   have rv:fB K F0 H1 (IA e1 σ) (env'.set i .un) σ' H' (.frs d) (.ref a):=by
    refine ⟨a,rfl,Sf,?_,.inr ⟨i,mi,s⟩,nFF,fun j c e' q=>?_,fun j c e'=>?_⟩
    ·rw [<- gb,eFe];exact tA
    ·rcases get_set e' with ⟨_,z⟩ | ⟨n,e'⟩
     ·cases z
     ·exact inoNe j c e' q
    ·rcases get_set e' with ⟨_,z⟩ | ⟨n,e'⟩
     ·cases z
     ·obtain ⟨b,q,r⟩:=roOld j c e' n;refine ⟨b,q,?_⟩;rw [<- gb,eFe];exact r.pr Pr.refl (fun _ z=>z) (fun b z=>z.imp (iaE b) id) fun _ _ z _=>z
   have Rn:=Rel.GR hu' rv;rw [Jp,set_same hs] at Rn;rw [eu];refine ⟨R.bz Rn,kEnd _ ?_,?_⟩
   ·have:e1[i]=.own d:=by have:=HZ hi;rw [e] at this;exact (Ja this).symm
    rw [this];exact ⟨fun _=>nofun,fun _=>nofun⟩
   ·rw [<- eFe,gb];funext b;apply propext;constructor
    ·rintro (h | ⟨j,c,e',q⟩)
     ·exact .inl (.inl h)
     ·rcases get_set e' with ⟨z,_⟩ | ⟨n,e'⟩
      ·subst z;rw [hs] at q;cases q;exact .inr rfl
      ·exact .inl (.inr ⟨j,c,by rw [HW n];exact e',q⟩)
    ·rintro ((h | ⟨j,c,e',q⟩) | rfl)
     ·exact .inl h
     ·rcases get_set e' with ⟨_,z⟩ | ⟨n,e'⟩
      ·cases z
      ·exact .inr ⟨j,c,by rw [HW n];exact e',q⟩
     ·exact .inr ⟨i,d,Ih hi',hs⟩
  ·have eu:az e1 (some i) env'=env'.set i (.ino d):=by simp only [az];rw [e,he]
   obtain ⟨a2,s2,f2,i2,_⟩:=R.ino i d e;rw [s] at s2;cases s2;have Sf2:Rel K F0 H1 (IA e1 σ) (env'.set i .un) σ' H':=Sf.eqF fun b=>⟨fun z=>z.elim id fun z=>z▸f2,.inl⟩;have eF0:FF F0 (env'.set i .un) σ'=FF (fun b=>F0 b\/b=a) env' σ':=by
    rw [<- eFe];have:(fun b=>F0 b\/b=a)=F0:=funext fun b=>propext ⟨fun z=>z.elim id fun z=>z▸f2,.inl⟩;rw [this]
   have Rn:=Sf2.Hw (d:=d) hu' hs (by rw [eF0];exact tA) f2 ⟨i,mi,s⟩ (fun j m q=>?_) (fun j c e'=>?_)
   ·rw [Jp] at Rn;rw [eu];refine ⟨R.bz Rn,kEnd _ ?_,?_⟩
    ·have:e1[i]=.ino d:=by have:=HZ hi;rw [e] at this;exact (Ja this).symm
     rw [this];exact ⟨d,rfl⟩
    ·rw [<- eF0];have:=ko (F0:=F0) (σ:=σ') (s:=.ino d) (x:=some (.ref a)) hu' (fun _=>nofun)
     rwa [set_same hs,Jp] at this
   ·obtain ⟨c,m | m⟩:=m
    ·obtain ⟨b',q',n',_⟩:=Sf.own j c m;rw [q] at q';cases q';exact n' (.inr rfl)
    ·rcases get_set m with ⟨_,z⟩ | ⟨n,m⟩
     ·cases z
     ·exact inoNe j c m q
   ·rcases get_set e' with ⟨_,z⟩ | ⟨n,e'⟩
    ·cases z
    ·obtain ⟨b,q,r⟩:=roOld j c e' n;refine ⟨b,q,?_⟩;rw [eF0];exact r.pr Pr.refl (fun _ z=>z) (fun b z=>z.imp (iaE b) id) fun _ _ z _=>z
theorem Lk.of (R:Rel K F0 H₀ I e1 σ H1) (lock:Option Nat):∃ F1,Lk K F0 H₀ I e1 σ H1 lock F1/\(lkd e1 lock=false->F1=F0/\bV e1 lock=e1/\∀ env',az e1 lock env'=env'):=by
 cases lock with
 | none=>exact ⟨F0,Lk.r8 R rfl (fun _=>rfl) (fun i z=>by cases z),fun _=>⟨rfl,rfl,fun _=>rfl⟩⟩
 | some i =>
  cases e:e1[i]? with
  | none =>
   have h1:bV e1 (some i)=e1:=by simp only [bV];rw [e]
   have h2:∀ env',az e1 (some i) env'=env':=fun env'=>by simp only [az];rw [e]
   exact ⟨F0,Lk.r8 R h1 h2 (fun j z m=>by cases z;obtain ⟨d,m | m⟩:=m <;> (rw [e] at m;cases m)),fun _=>⟨rfl,h1,h2⟩⟩
  | some s =>
   cases s with
   | own d =>
    obtain ⟨a,q,_⟩:=R.own i d e;exact ⟨_,Lk.BR R (.inl e) q,fun z=>by simp only [lkd] at z;rw [e] at z;cases z⟩
   | ino d =>
    obtain ⟨a,q,_⟩:=R.ino i d e;exact ⟨_,Lk.BR R (.inr e) q,fun z=>by simp only [lkd] at z;rw [e] at z;cases z⟩
   | un =>
    have h1:bV e1 (some i)=e1:=by simp only [bV];rw [e]
    have h2:∀ env',az e1 (some i) env'=env':=fun env'=>by simp only [az];rw [e]
    exact ⟨F0,Lk.r8 R h1 h2 (fun j z m=>by cases z;obtain ⟨d,m | m⟩:=m <;> (rw [e] at m;cases m)),fun _=>⟨rfl,h1,h2⟩⟩
   | dat d =>
    have h1:bV e1 (some i)=e1:=by simp only [bV];rw [e]
    have h2:∀ env',az e1 (some i) env'=env':=fun env'=>by simp only [az];rw [e]
    exact ⟨F0,Lk.r8 R h1 h2 (fun j z m=>by cases z;obtain ⟨d,m | m⟩:=m <;> (rw [e] at m;cases m)),fun _=>⟨rfl,h1,h2⟩⟩
   | ro d =>
    have h1:bV e1 (some i)=e1:=by simp only [bV];rw [e]
    have h2:∀ env',az e1 (some i) env'=env':=fun env'=>by simp only [az];rw [e]
    exact ⟨F0,Lk.r8 R h1 h2 (fun j z m=>by cases z;obtain ⟨d,m | m⟩:=m <;> (rw [e] at m;cases m)),fun _=>⟨rfl,h1,h2⟩⟩
theorem qY {b:PyData->En->Option Out} {ds:List PyData} {out:Out} {J:It} {F1 I1:Addr->Prop} {el:En} {g:TG} {tb:TS} {D:Ends} (R:Rel K F1 H1 I1 el σ H1) (hI:I1=IA el σ) (hit:uN K (FF F1 el σ) I1 H1 J ds) (h:forL b ds el=some out)
  (turn:∀ d o env' σ' H' x,b d env'=some o->Rel K F1 H1 I1 env' σ' H'->KpS el σ env' σ'->Dm K (FF F1 env' σ') H' d x->∀ D':Ends,mN K F1 H1 I1 env' σ' D' o->g x σ' H' fun σ2 H2=>tb D' σ2 H2)
  (q:mN K F1 H1 I1 el σ D out) :
  ∃ W:Nat->Nat->St->Hp->Prop,(∃ m,W 0 m σ H1)/\∀ i m σ H,W i m σ H ->
   (J.stop i H/\D.nx σ H)\/(J.go i H/\∃ N:St->Hp->Prop,(∀ σ' H',N σ' H'->∃ m',m' < m/\W (i+1) m' σ' H')/\∀ x H',J.yld i H x H'->g x σ H' fun σ2 H2=>tb { D with nx:=N,ct:=N,bk:=D.nx } σ2 H2):=by
 subst hI;obtain ⟨hvl,hturn⟩:=hit;refine ⟨fun i m σ' H'=>m=ds.length - i/\i<=ds.length/\∃ env',forL b (ds.drop i) env'=some out/\Rel K F1 H1 (IA el σ) env' σ' H'/\KpS el σ env' σ',⟨ds.length,rfl,IV _,el,h,R,KpS.refl _ _⟩,?_⟩;rintro i m σ' H' ⟨rfl,hi,env',hf,R',k'⟩;have hkept:∀ b o,H1 b=some o->¬IA el σ b->H' b=some o:=R'.d8;by_cases hlt:i < ds.length
 ·right;obtain ⟨go,yld⟩:=(hturn H' hkept i).1 (by omega);refine ⟨go,fun σ3 H3=>(ds.length - (i+1))=ds.length - (i+1)/\i+1<=ds.length/\∃ env',forL b (ds.drop (i+1)) env'=some out/\Rel K F1 H1 (IA el σ) env' σ3 H3/\KpS el σ env' σ3,fun σ3 H3 z=>⟨ds.length - (i+1),by omega,z⟩,fun x H'' hx=>?_⟩;obtain ⟨d,hd,hy9⟩:=yld x H'' hx;have fSub:∀ b,FF F1 env' σ' b->(FF F1 el σ b\/H1 b=none):=fun b z=>by
   rcases z with z | ⟨j,c,e',s'⟩
   ·exact .inl (.inl z)
   ·obtain ⟨b',q',_,w,_⟩:=R'.own j c e';rw [s'] at q';cases q';exact w.elim .inr fun w=>.inl (R.ia w)
  obtain ⟨sm,hdx'⟩:=hy9.dm (F2:=FF F1 env' σ') fun d v h=>h.bo.pr ((R.pw hkept).GD fun b z=>.inl z) fSub;have R':=R'.same sm;have ed:ds.drop i=d :: ds.drop (i+1):=by
   rw [Jt hlt];obtain ⟨_,z⟩:=HX.mp hd;rw [z]
  rw [ed] at hf;unfold forL at hf;split at hf
  ·rename_i e hb;exact turn d _ env' σ' H'' x hb R' k' hdx' _ fun σ3 H3 R3 k3=>⟨rfl,by omega,e,hf,R3,k'.trans k3⟩
  ·rename_i e hb;exact turn d _ env' σ' H'' x hb R' k' hdx' _ fun σ3 H3 R3 k3=>⟨rfl,by omega,e,hf,R3,k'.trans k3⟩
  ·rename_i e hb;cases hf;exact turn d _ env' σ' H'' x hb R' k' hdx' _ fun σ3 H3 R3 k3=>q σ3 H3 R3 (k'.trans k3)
  ·rename_i r e hb;cases hf;exact turn d _ env' σ' H'' x hb R' k' hdx' _ fun v σ3 H3 R3 k3 r3=>q v σ3 H3 R3 (k'.trans k3) r3
  ·cases hf
 ·left;have e:i=ds.length:=by omega
  subst e;rw [List.drop_length] at hf;unfold forL at hf;cases hf;exact ⟨(hturn H' hkept _).2 (by omega),q σ' H' R' k'⟩
theorem fB.unl {rv:RV} {v:V} {F1:Addr->Prop} {e2:En} (h:fB K F1 H₀ I env σ H rv v) (hn:∀ d,rv≠.frs d) (eF:FF F0 e2 σ=FF F1 env σ) {H₁:Hp} {I₁:Addr->Prop}:fB K F0 H₁ I₁ e2 σ H rv v:=by
 cases rv with
 | dat d=>show Dm K _ H d v;rw [eF];exact h
 | bor i=>exact h
 | frs d=>exact absurd rfl (hn d)
theorem fB.E1 {rv:RV} {v:V} (h:fB K F0 H₀ I env σ H rv v):fB K F0 H₀ I env σ H (rv.soft true) v:=by
 cases rv with
 | dat d=>exact h
 | bor i=>exact h
 | frs d=>exact h.av
theorem fB.bz {rv:RV} {v:V} (R:Rel K F0 H₀ I env σ H) (h:fB K F0 H (IA env σ) env' σ' H' rv v):fB K F0 H₀ I env' σ' H' rv v:=by
 cases rv with
 | dat d=>exact h
 | bor i=>exact h
 | frs d =>
  obtain ⟨a,ea,S,t,w,nF,hi,hr⟩:=h;have S0:=R.bz (S.less hi);refine ⟨a,ea,⟨S.len,S.dat,fun i c e=>?_,fun i c e=>?_,S.ro,S.sep,S.dom,S0.d8⟩,t,R.oi w,nF,hi,hr⟩
  ·obtain ⟨b,s,n,w',t'⟩:=S.own i c e;exact ⟨b,s,n,R.oi w',t'⟩
  ·obtain ⟨b,s,n,w',t'⟩:=S.ino i c e;obtain ⟨b2,s2,_,i2,_⟩:=S0.ino i c e;rw [s] at s2;cases s2;exact ⟨b,s,n,i2,t'⟩
theorem Lk.out {lock:Option Nat} {F1:Addr->Prop} {D:Ends} {out:Out} (R1:Rel K F0 H₀ I e1 σ H1) (L:Lk K F0 H₀ I e1 σ H1 lock F1) (hno:lkd e1 lock=false->F1=F0/\bV e1 lock=e1/\∀ env',az e1 lock env'=env')
  (q:mN K F0 H₀ I e1 σ D (out.map (lkd e1 lock) (az e1 lock))):mN K F1 H1 (IA (bV e1 lock) σ) (bV e1 lock) σ D out:=by
 cases out with
 | nx e=>exact fun σ' H' R' k'=>let ⟨A,B,_⟩:=L.un e σ' H' R' k';q σ' H' A B
 | bk e=>exact fun σ' H' R' k'=>let ⟨A,B,_⟩:=L.un e σ' H' R' k';q σ' H' A B
 | ct e=>exact fun σ' H' R' k'=>let ⟨A,B,_⟩:=L.un e σ' H' R' k';q σ' H' A B
 | rt rv e =>
  intro v σ' H' R' k' r;obtain ⟨A,B,C⟩:=L.un e σ' H' R' k';refine q v σ' H' A B ?_;cases hl:lkd e1 lock with
  | true=>exact r.E1.unl (fun d z=>by cases rv <;> cases z) C
  | false =>
   obtain ⟨rfl,h1,h2⟩:=hno hl;rw [h1] at r;rw [h2];have:rv.soft false=rv:=by cases rv <;> rfl
   rw [this];exact r.bz R1
theorem D3 {i:Nat} {it:XI} {b:XS} (ii:SI K ga gd it) (ib:SS K ga gd b):SS K ga gd (.fr i it b):=by
 intro env out h F0 H₀ I σ H D R q;simp only [dS] at h;split at h
 ·rename_i ds lock e1 h1;cases ho:forL (kG i (dS gd b)) ds (bV e1 lock) with
  | none=>rw [ho] at h;cases h
  | some o =>
   rw [ho] at h;cases h;refine ii _ _ _ _ h1 F0 H₀ I σ H _ R fun J H1 R1 k1 _ hit=>?_;obtain ⟨F1,L,hno⟩:=Lk.of R1 lock;have Rb:=L.rel.rebase;refine qY Rb rfl ?_ ho ?_ (L.out R1 hno (q.from k1.s))
   ·rw [L.ff];obtain ⟨a2,a3⟩:=hit;exact ⟨a2,fun H' hk=>a3 H' fun b o e n=>hk b o e fun z=>n (L.ia b z)⟩
   ·intro d o env' σ' H' x hb R' k' hd D' hD;unfold kG at hb;split at hb
    ·rename_i hf;obtain ⟨R2,k2⟩:=R'.EK hf hd;exact ib _ _ hb _ _ _ _ H' D' R2 (hD.from k2)
    ·cases hb
 ·cases h
theorem zP {is:List Nat} {it:XI} {b:XS} (ii:SI K ga gd it) (ib:SS K ga gd b):SS K ga gd (.frT is it b):=by
 intro env out h F0 H₀ I σ H D R q;simp only [dS] at h;split at h
 ·rename_i ds lock e1 h1
  ·obtain ⟨o,ho,e0⟩:=Ic.mp h;subst e0;refine ii _ _ _ _ h1 F0 H₀ I σ H _ R fun J H1 R1 k1 _ hit=>?_;obtain ⟨F1,L,hno⟩:=Lk.of R1 lock;have Rb:=L.rel.rebase;refine qY Rb rfl ?_ ho ?_ (L.out R1 hno (q.from k1.s))
   ·rw [L.ff];obtain ⟨a2,a3⟩:=hit;exact ⟨a2,fun H' hk=>a3 H' fun b o e n=>hk b o e fun z=>n (L.ia b z)⟩
   ·intro d o env' σ' H' x hb R' k' hd D' hD;unfold jF at hb;split at hb
    ·rename_i xs;split at hb
     ·rename_i e2 hset;obtain ⟨a,vs,rfl,l,z,r⟩:=hd;have hlen:∀ {is:List Nat} {ds:List PyData} {e e':En},fY e is ds=some e'->is.length=ds.length:=by
       intro is;induction is with
       | nil=>intro ds e e' h;cases ds with
        | nil=>rfl
        | cons _ _=>cases h
       | cons i is ih=>intro ds e e' h;cases ds with
        | nil=>cases h
        | cons d ds =>
         unfold fY at h;split at h
         ·rw [Ik,Ik,ih h]
         ·cases h
      exact ⟨a,vs,rfl,l,by rw [r.len,hlen hset],oz hset R' r fun σ2 R2 k2=>ib _ _ hb _ _ _ _ H' D' R2 (hD.from k2)⟩
     ·cases hb
    ·cases hb
 ·cases h
theorem sS (hg:∀ g d,gd[g]?=some d->∀ F H,Dm K F H d (ga g)):∀ s:XS,SS K ga gd s
 | .skip=>fun env out h F0 H₀ I σ H D R q=>by cases h;exact q σ H R (KpS.refl _ _)
 | .seq a b=>BE (sS hg a) (sS hg b)
 | .aK i e=>xH (sE hg e) | .pB i e=>xC (sE hg e) | .xk is e=>yG (sE hg e) | .drop e=>x5 (sE hg e) | .ret e=>BD (sE hg e)
 | .CY=>fun env out h F0 H₀ I σ H D R q=>by cases h;exact q .non σ H R (KpS.refl _ _) rfl
 | .ifs c a b=>B2 (sT hg c) (sS hg a) (sS hg b)
 | .fr i it b=>D3 (sI hg it) (sS hg b) | .frT is it b=>zP (sI hg it) (sS hg b) | .wh n c b=>ER (sT hg c) (sS hg b)
 | .brk=>fun env out h F0 H₀ I σ H D R q=>by cases h;exact q σ H R (KpS.refl _ _)
 | .cnt=>fun env out h F0 H₀ I σ H D R q=>by cases h;exact q σ H R (KpS.refl _ _)
 | .nev=>fun env out h F0 H₀ I σ H D R q=>by cases h
 | .sto m i k e=>Bu (sE hg k) (sE hg e)
end
open PySem
section
variable {K:Fg} {F F' G I I' F0:Addr->Prop} {H H' H₀ H1:Hp} {env env' e1:En} {σ σ':St} {ga:Nat->V} {gd:List PyData}
theorem cQ:∀ {ms:List PM} {ds:List PyData} {n:Nat},ds.length=ms.length->ms.length<=n->(aj ms ds n).length=n
 | [],[],n,_,_=>by simp [aj]
 | [],_ :: _,n,h,_=>by cases h
 | _ :: _,[],n,h,_=>by cases h
 | m :: ms,d :: ds,n,h,hn=>by
  have ih:=cQ (ms:=ms) (ds:=ds) (n:=n - 1) (by simpa using h) (by simp at hn;omega);simp at hn;cases m <;> (simp only [aj,Ik,ih];omega)
theorem b3.len:∀ {ms:List PM} {ds:List PyData} {vs:List V} {is:List Addr},b3 K G I H ms ds vs is->ds.length=ms.length/\vs.length=ms.length
 | [],[],[],_,_=>⟨rfl,rfl⟩
 | [],[],_ :: _,_,h=>by exact absurd h id
 | [],_ :: _,_,_,h=>by exact absurd h id
 | m :: ms,[],_,_,h=>by cases m <;> exact absurd h id
 | m :: ms,d :: ds,[],_,h=>by cases m <;> exact absurd h id
 | .dat :: ms,d :: ds,v :: vs,is,h=>by obtain ⟨a,b⟩:=b3.len h.2;exact ⟨by simp [a],by simp [b]⟩
 | .bor :: ms,d :: ds,v :: vs,is,h=>by obtain ⟨a,b⟩:=b3.len h.2;exact ⟨by simp [a],by simp [b]⟩
 | .ino :: ms,d :: ds,v :: vs,is,h=>by obtain ⟨_,_,_,_,_,_,_,h⟩:=h;obtain ⟨a,b⟩:=b3.len h;exact ⟨by simp [a],by simp [b]⟩
def At (K:Fg) (G I:Addr->Prop) (H:Hp) (is:List Addr) (s:Sl) (x:Option V):Prop:=match s with
 | .un=>True
 | .dat d=>∃ v,x=some v/\Dm K G H d v
 | .ino d=>∃ a,x=some (.ref a)/\a∈is/\G a/\Top K G H d a
 | .ro d=>∃ a,x=some (.ref a)/\gD K G I H d a
 | .own _=>False
theorem At.more {is is':List Addr} {s:Sl} {x:Option V} (h:At K G I H is s x) (q:∀ a∈is,a∈is'):At K G I H is' s x:=by
 cases s with
 | ino d=>obtain ⟨a,e,m,r⟩:=h;exact ⟨a,e,q a m,r⟩
 | _=>exact h
theorem ck:∀ {ms:List PM} {ds:List PyData} {vs:List V} {is:List Addr} {n:Nat} {tl:St},b3 K G I H ms ds vs is->∀ {i:Nat} {s:Sl},(aj ms ds n)[i]?=some s->∀ {x:Option V},(vs.map some++tl)[i]?=some x->At K G I H is s x
 | [],[],[],is,n,tl,h,i,s,e,x,_=>by
  simp only [aj,List.getElem?_replicate] at e;split at e
  ·cases e;trivial
  ·cases e
 | [],[],_ :: _,_,_,_,h,_,_,_,_,_=>by exact absurd h id
 | [],_ :: _,_,_,_,_,h,_,_,_,_,_=>by exact absurd h id
 | m :: ms,[],_,_,_,_,h,_,_,_,_,_=>by cases m <;> exact absurd h id
 | m :: ms,d :: ds,[],_,_,_,h,_,_,_,_,_=>by cases m <;> exact absurd h id
 | .dat :: ms,d :: ds,v :: vs,is,n,tl,h,0,s,e,x,ex=>by
  simp [aj] at e ex;subst e ex;exact ⟨v,rfl,h.1⟩
 | .dat :: ms,d :: ds,v :: vs,is,n,tl,h,i+1,s,e,x,ex=>by
  simp [aj] at e;exact ck h.2 e (by simpa using ex)
 | .bor :: ms,d :: ds,v :: vs,is,n,tl,h,0,s,e,x,ex=>by
  simp [aj] at e ex;subst e ex;have h1:yN K G I H d v:=h.1;cases d <;> first | exact h1 | exact ⟨v,rfl,h1⟩ | (obtain ⟨a,rfl,r⟩:=h1;exact ⟨a,rfl,r⟩)
 | .bor :: ms,d :: ds,v :: vs,is,n,tl,h,i+1,s,e,x,ex=>by
  simp [aj] at e;exact ck h.2 e (by simpa using ex)
 | .ino :: ms,d :: ds,v :: vs,is,n,tl,h,0,s,e,x,ex=>by
  simp [aj] at e ex;subst e ex;obtain ⟨a,r,rfl,rfl,g,t,_,_⟩:=h;exact ⟨a,rfl,Ip,g,t⟩
 | .ino :: ms,d :: ds,v :: vs,is,n,tl,h,i+1,s,e,x,ex=>by
  simp [aj] at e;obtain ⟨a,r,rfl,rfl,g,t,_,h⟩:=h;exact (ck h e (by simpa using ex)).more fun b hb=>Ie _ hb
theorem kI:∀ {ms:List PM} {ds:List PyData} {vs:List V} {is:List Addr} {n:Nat} {tl:St},b3 K G I H ms ds vs is->∀ {i j:Nat} {c c':PyData} {a:Addr},(aj ms ds n)[i]?=some (.ino c)->(aj ms ds n)[j]?=some (.ino c') ->
  (vs.map some++tl)[i]?=some (some (.ref a))->(vs.map some++tl)[j]?=some (some (.ref a))->i=j
 | [],[],[],is,n,tl,h,i,j,c,c',a,e,_,_,_=>by
  simp only [aj,List.getElem?_replicate] at e;split at e <;> cases e
 | [],[],_ :: _,_,_,_,h,_,_,_,_,_,_,_,_,_=>by exact absurd h id
 | [],_ :: _,_,_,_,_,h,_,_,_,_,_,_,_,_,_=>by exact absurd h id
 | m :: ms,[],_,_,_,_,h,_,_,_,_,_,_,_,_,_=>by cases m <;> exact absurd h id
 | m :: ms,d :: ds,[],_,_,_,h,_,_,_,_,_,_,_,_,_=>by cases m <;> exact absurd h id
 | m :: ms,d :: ds,v :: vs,is,n,tl,h,0,0,c,c',a,e,e',s,s'=>rfl
 | m :: ms,d :: ds,v :: vs,is,n,tl,h,i+1,j+1,c,c',a,e,e',s,s'=>by
  have hr:∃ r,b3 K G I H ms ds vs r:=by
   cases m with
   | dat=>exact ⟨is,h.2⟩
   | bor=>exact ⟨is,h.2⟩
   | ino=>obtain ⟨_,r,_,_,_,_,_,h⟩:=h;exact ⟨r,h⟩
  obtain ⟨r,hr⟩:=hr;have:i=j:=kI (n:=n - 1) (tl:=tl) hr (by cases m <;> simpa [aj] using e) (by cases m <;> simpa [aj] using e') (by simpa using s) (by simpa using s');rw [this]
 | m :: ms,d :: ds,v :: vs,is,n,tl,h,0,j+1,c,c',a,e,e',s,s'=>by
  cases m with
  | dat=>simp [aj] at e
  | bor=>cases d <;> simp [aj,y7] at e
  | ino =>
   obtain ⟨b,r,rfl,rfl,g,t,nr,h⟩:=h;simp [aj] at e' s;subst s;obtain ⟨a',ea,m',_⟩:=ck (tl:=tl) h e' (by simpa using s');cases ea;exact absurd m' nr
 | m :: ms,d :: ds,v :: vs,is,n,tl,h,i+1,0,c,c',a,e,e',s,s'=>by
  cases m with
  | dat=>simp [aj] at e'
  | bor=>cases d <;> simp [aj,y7] at e'
  | ino =>
   obtain ⟨b,r,rfl,rfl,g,t,nr,h⟩:=h;simp [aj] at e s';subst s';obtain ⟨a',ea,m',_⟩:=ck (tl:=tl) h e (by simpa using s);cases ea;exact absurd m' nr
theorem gP {G':Addr->Prop}:∀ {ms:List PM} {ds:List PyData} {vs:List V} {is:List Addr} {n:Nat} {tl:St} {env':En} {σ':St} {outs:List PyData},b3 K G I H ms ds vs is->ms.length<=env'.length ->
  (∀ (i:Nat) (c:PyData),(aj ms ds n)[i]?=some (.ino c)->∃ c',env'[i]?=some (.ino c')/\σ'[i]?=(vs.map some++tl)[i]?)->(∀ (i:Nat) (c:PyData) (a:Addr),env'[i]?=some (.ino c)->σ'[i]?=some (some (.ref a))->Top K G' H' c a) ->
  jg ms env'=some outs->jy K G' H' outs is
 | [],[],[],is,n,tl,env',σ',outs,h,_,_,_,e=>by
  rw [show is=[] from h];cases env' <;> (simp only [jg] at e;cases e;trivial)
 | [],[],_ :: _,_,_,_,_,_,_,h,_,_,_,_=>by exact absurd h id
 | [],_ :: _,_,_,_,_,_,_,_,h,_,_,_,_=>by exact absurd h id
 | m :: ms,[],_,_,_,_,_,_,_,h,_,_,_,_=>by cases m <;> exact absurd h id
 | m :: ms,d :: ds,[],_,_,_,_,_,_,h,_,_,_,_=>by cases m <;> exact absurd h id
 | m :: ms,d :: ds,v :: vs,is,n,tl,[],σ',outs,h,hl,h1,h2,e=>by simp at hl
 | m :: ms,d :: ds,v :: vs,is,n,tl,s :: es,σ',outs,h,hl,h1,h2,e=>by
  have hl':ms.length<=es.length:=by simpa using hl
  have t1:∀ (i:Nat) (c:PyData),(aj ms ds (n - 1))[i]?=some (.ino c)->∃ c',es[i]?=some (.ino c')/\σ'.tail[i]?=(vs.map some++tl)[i]?:=fun i c z=>by
   obtain ⟨c',e',q⟩:=h1 (i+1) c (by cases m <;> simpa [aj] using z);exact ⟨c',by simpa using e',by simpa using q⟩
  have t2:∀ (i:Nat) (c:PyData) (a:Addr),es[i]?=some (.ino c)->σ'.tail[i]?=some (some (.ref a))->Top K G' H' c a:=fun i c a z q=>h2 (i+1) c a (by simpa using z) (by simpa using q);cases m with
  | dat=>exact gP h.2 hl' t1 t2 (by simpa [jg] using e)
  | bor=>exact gP h.2 hl' t1 t2 (by simpa [jg] using e)
  | ino =>
   obtain ⟨b,r,rfl,rfl,g,t,nr,h⟩:=h;obtain ⟨c',e',q⟩:=h1 0 d (by simp [aj]);simp at e' q;subst e';simp only [jg] at e;split at e
   ·rename_i os ho;cases e;exact ⟨h2 0 c' b (by simp) (by simpa using q),gP h hl' t1 t2 ho⟩
   ·cases e
theorem xJ (hg:∀ g d,gd[g]?=some d->∀ F H,Dm K F H d (ga g)) {ms:List PM} {N:List Str} {b:XS} {vs:List V} {H:Hp} {Q:VK} {E:XK} (h:cB (cE gd ms N.length b) K vs H Q E) (hn:ms.length<=N.length) :
  rS K ga b { nx:=fun _ H'=>Q .non H',rt:=Q } (start N vs) H:=by
 obtain ⟨G,ds,is,pr,outs,hF,ha,hd,post⟩:=h;have ha:b3 K G (·∈is) H ms ds vs is:=ha;obtain ⟨hl1,hl2⟩:=ha.len;have hstart:start N vs=vs.map some++List.replicate (N.length - vs.length) none:=rfl;have no:noOwn (aj ms ds N.length):=fun i d e=>by
  have hi:i < (aj ms ds N.length).length:=(HX.mp e).1;rw [cQ hl1 hn] at hi;have hx:(vs.map some++List.replicate (N.length - vs.length) none)[i]?=some ((vs.map some++List.replicate (N.length - vs.length) none)[i]'(by rw [HY,HS,KO];omega)):=HZ _;exact (ck ha e hx:False)
 have at':∀ {i:Nat} {s:Sl},(aj ms ds N.length)[i]?=some s->∃ x,(start N vs)[i]?=some x/\At K G (·∈is) H is s x:=fun {i s} e=>by
  have hi:i < (aj ms ds N.length).length:=(HX.mp e).1;rw [cQ hl1 hn] at hi;have hx:(start N vs)[i]?=some ((start N vs)[i]'(by rw [hstart,HY,HS,KO];omega)):=HZ _;exact ⟨_,hx,ck ha e hx⟩
 have eF:FF G (aj ms ds N.length) (start N vs)=G:=dM no;have muI:∀ i,mu (aj ms ds N.length) i->∃ c,(aj ms ds N.length)[i]?=some (.ino c):=fun i ⟨c,m⟩=>m.elim (fun z=>absurd z (no i c)) fun z=>⟨c,z⟩;have R:Rel K G H (·∈is) (aj ms ds N.length) (start N vs) H:=by
  refine ⟨by rw [cQ hl1 hn,hstart,HY,HS,KO];omega,fun i d e=>?_,fun i d e=>absurd e (no i d),fun i d e=>?_,fun i d e=>?_,fun i j a h1 h2 h3 h4=>?_,hd,fun _ _ h _=>h⟩
  ·rw [eF];obtain ⟨x,hx,v,rfl,r⟩:=at' e;exact ⟨v,hx,r⟩
  ·rw [eF];obtain ⟨x,hx,a,rfl,m,g,t⟩:=at' e;exact ⟨a,hx,g,m,t⟩
  ·rw [eF];obtain ⟨x,hx,a,rfl,r⟩:=at' e;refine ⟨a,hx,r.pr Pr.refl (fun _ z=>z) (fun b hb=>?_) fun _ _ z _=>z⟩;obtain ⟨j,m,s⟩:=hb;obtain ⟨c,m⟩:=muI j m;obtain ⟨x,hx,a,rfl,m,g,t⟩:=at' m;rw [s] at hx;cases hx;exact m
  ·obtain ⟨c,m1⟩:=muI i h1;obtain ⟨c',m2⟩:=muI j h2;exact kI ha m1 m2 h3 h4
 simp only [cE] at hF;rw [Io hl1] at hF
 ·have inoK:∀ {env':En} {σ':St},KpS (aj ms ds N.length) (start N vs) env' σ'->∀ (i:Nat) (c:PyData),(aj ms ds N.length)[i]?=some (.ino c)->∃ c',env'[i]?=some (.ino c')/\σ'[i]?=(vs.map some++List.replicate (N.length - vs.length) none)[i]?:=fun {env' σ'} k i c e=>by
   obtain ⟨s',e',v,w⟩:=k.2 i _ e;obtain ⟨c',rfl⟩:=v;exact ⟨c',e',w trivial⟩
  have hlE:∀ {env':En} {σ':St},KpS (aj ms ds N.length) (start N vs) env' σ'->ms.length<=env'.length:=fun {env' σ'} k=>by rw [k.1,cQ hl1 hn];exact hn
  split at hF
  ·rename_i rv env' hS;split at hF
   ·rename_i pr' outs' hpr houts;cases hF;refine sS hg b _ _ hS G H (·∈is) _ H _ R fun v σ' H' R' k' r'=>?_;have mono:∀ b,G b->FF G env' σ' b:=fun b z=>.inl z;cases rv with
    | bor i=>cases hpr
    | dat d =>
     cases hpr
     exact post v H' (fun b o e n=>R'.d8 b o e n) ⟨Dm.mono mono r',gP ha (hlE k') (inoK k') (fun i c a e s=>by
      obtain ⟨a',s',_,_,t⟩:=R'.ino i c e;rw [s] at s';cases s'
      exact t.pr Pr.refl mono fun _ z=>z) houts⟩
    | frs d =>
     cases hpr;obtain ⟨a,rfl,Ra,t,w,nF,hino,_⟩:=r';have mono':∀ b,(G b\/b=a)->FF (fun b=>G b\/b=a) env' σ' b:=fun b z=>.inl z
     refine post _ H' (fun b o e n=>R'.d8 b o e n) ⟨a,rfl,?_,t.pr Pr.refl (fun b z=>z.imp (mono b) id) (fun _ z=>z),gP ha (hlE k') (inoK k') (fun i c a' e s=>by
      obtain ⟨a2,s',_,_,t'⟩:=Ra.ino i c e;rw [s] at s';cases s'
      exact t'.pr Pr.refl mono' fun _ z=>z) houts⟩
     rcases w with w | w
     ·exact w
     ·-- it would be one that was handed in to be changed
      exfalso;have key:∀ {ms:List PM} {ds:List PyData} {vs:List V} {is:List Addr} {I:Addr->Prop} {n:Nat} {tl:St},b3 K G I H ms ds vs is->a∈is->∃ (i:Nat) (c:PyData),(aj ms ds n)[i]?=some (.ino c)/\(vs.map some++tl)[i]?=some (some (.ref a)):=by
       intro ms;induction ms with
       | nil =>
        intro ds vs is I n tl h m;cases ds with
        | cons _ _=>exact absurd h id
        | nil=>cases vs with
         | cons _ _=>exact absurd h id
         | nil=>rw [show is=[] from h] at m;cases m
       | cons p ms ih =>
        intro ds vs is I n tl h m;cases ds with
        | nil=>cases p <;> exact absurd h id
        | cons d ds =>
         cases vs with
         | nil=>cases p <;> exact absurd h id
         | cons v vs =>
          cases p with
          | dat=>obtain ⟨i,c,e,s⟩:=ih (n:=n - 1) (tl:=tl) h.2 m;exact ⟨i+1,c,by simpa [aj] using e,by simpa using s⟩
          | bor=>obtain ⟨i,c,e,s⟩:=ih (n:=n - 1) (tl:=tl) h.2 m;exact ⟨i+1,c,by simpa [aj] using e,by simpa using s⟩
          | ino =>
           obtain ⟨b,r,rfl,rfl,g,t,nr,h⟩:=h;rcases Il.mp m with rfl | m
           ·exact ⟨0,d,by simp [aj],by simp⟩
           ·obtain ⟨i,c,e,s⟩:=ih (n:=n - 1) (tl:=tl) h m;exact ⟨i+1,c,by simpa [aj] using e,by simpa using s⟩
      obtain ⟨i,c,e,s⟩:=key (n:=N.length) (tl:=List.replicate (N.length - vs.length) none) ha w;obtain ⟨c',e',s'⟩:=inoK k' i c e;exact hino i c' e' (s'.trans s)
   ·cases hF
  ·rename_i env' hS;split at hF
   ·rename_i outs' houts;cases hF;refine sS hg b _ _ hS G H (·∈is) _ H _ R fun σ' H' R' k'=>?_;have mono:∀ b,G b->FF G env' σ' b:=fun b z=>.inl z
    exact post .non H' (fun b o e n=>R'.d8 b o e n) ⟨rfl,gP ha (hlE k') (inoK k') (fun i c a e s=>by
      obtain ⟨a',s',_,_,t⟩:=R'.ino i c e;rw [s] at s';cases s'
      exact t.pr Pr.refl mono fun _ z=>z) houts⟩
   ·cases hF
  ·cases hF
theorem vH {f:Fn} {vs:List V} {H:Hp} {Q:VK} {E:XK} (h:cB f K vs H Q E):vs.length=f.ms.length:=by
 obtain ⟨G,ds,is,pr,outs,_,ha,_⟩:=h;exact ha.len.2
end
open PySem PySem.Spec PyProof.Rows
noncomputable def Prm.two (r:Fg->R2) (f:PyData->PyData->Option PR) (ok:∀ (K:Fg) (F:Addr->Prop) (H:Hp) (x y:PyData) (u v:V) (pr:PR) (Q:VK),f x y=some pr->Vw K F H x u->Vw K F H y v->(∀ b,F b->H b≠none)->(∀ w H',aJ H H'->xp K F H H' pr w->Q w H')->r K u v H Q):Prm where
 r:=fun K vs H Q=>match vs with | [u,v]=>r K u v H Q | _=>False
 f:=fun ds=>match ds with | [x,y]=>f x y | _=>none
 ok:=fun K F H ds vs pr Q hf hv hd q=>by
  match ds,hf with
  | [x,y],hf =>
   obtain ⟨u,r1,rfl,h1,v,r2,rfl,h2,rfl⟩:=hv;exact ok K F H x y u v pr Q hf h1 h2 hd q
noncomputable def Prm.one (r:Fg->V->Hp->VK->Prop) (f:PyData->Option PR) (ok:∀ (K:Fg) (F:Addr->Prop) (H:Hp) (x:PyData) (u:V) (pr:PR) (Q:VK),f x=some pr->Vw K F H x u->(∀ b,F b->H b≠none)->(∀ w H',aJ H H'->xp K F H H' pr w->Q w H')->r K u H Q):Prm where
 r:=fun K vs H Q=>match vs with | [u]=>r K u H Q | _=>False
 f:=fun ds=>match ds with | [x]=>f x | _=>none
 ok:=fun K F H ds vs pr Q hf hv hd q=>by
  match ds,hf with
  | [x],hf =>
   obtain ⟨u,r1,rfl,h1,rfl⟩:=hv;exact ok K F H x u pr Q hf h1 hd q
section
variable {K:Fg} {F F':Addr->Prop} {H:Hp}
theorem vInt {i:Int} {v:V} (h:Vw K F H (.int i) v):v=.int i:=h
theorem vBl {b:Bool} {v:V} (h:Vw K F H (.bool b) v):v=.bl b:=h
theorem Di {v:V} (h:Vw K F H .none v):v=.non:=h
theorem vStr {x:Str} {v:V} (h:Vw K F H (.str x) v):v=.str x/\x.length<=sizeLine/\PyData.strOk x=true:=h
theorem kT {ds:List PyData} {v:V} (h:Vw K F H (.list ds) v):∃ a xs,v=.ref a/\SqL K H a xs/\xs.length<=sizeLine/\DmL K F H ds xs:=let ⟨a,e,xs,r⟩:=h;⟨a,xs,e,r⟩
theorem tw {ds:List PyData} {v:V} (h:Vw K F H (.tuple ds) v):∃ a xs,v=.ref a/\SqT K H a xs/\xs.length<=sizeLine/\DmL K F H ds xs:=h
theorem zJ {p:Addr} {xs:List V} {ds:List PyData} (hp:H p=none) (hz:xs.length<=sizeLine) (h:DmL K F H ds xs):xp K F H (upd H p (.lst xs)) (.frs (.list ds)) (.ref p) :=
 ⟨p,rfl,hp,xs,ar,hz,(h.fresh hp).pr (Pr.of_same (aJ.nw _ hp)) fun _ z=>z⟩
theorem FK {p:Addr} {xs:List V} {ds:List PyData} (hp:H p=none) (hz:xs.length<=sizeLine) (h:DmL K F H ds xs):xp K F H (upd H p (.tup xs)) (.dat (.tuple ds)) (.ref p) :=
 ⟨p,xs,rfl,.inl (.inl ar),hz,h.pr (Pr.of_same (aJ.nw _ hp)) fun _ z=>z⟩
end
noncomputable def Gm:PyData->PyData->Option PR
 | .int i,.int j=>some (.dat (.int (i+j)))
 | .str x,.str y=>if x.length+y.length<=sizeLine then some (.dat (.str (x++y))) else none
 | .list xs,.list ys=>if xs.length+ys.length<=sizeLine then some (.frs (.list (xs++ys))) else none
 | .tuple (x :: xs),.tuple ys=>if (x :: xs).length+ys.length<=sizeLine then some (.dat (.tuple ((x :: xs)++ys))) else none
 | _,_=>none
def Ff (K:Fg):R2:=rOr (rI0 fun i j=>.int (i+j)) (rOr AG (rOr (zV K) (A9 K)))
theorem jK (x y:Str):(x++y).length=x.length+y.length:=by
 show (x.cps++y.cps).size=_;rw [Array.size_append];rfl
noncomputable def cJ:Prm:=Prm.two Ff Gm fun K F H x y u v pr Q hf hx hy hd q=>by
 unfold Gm at hf;split at hf
 ·cases hf;rw [vInt hx,vInt hy];exact .inl ⟨_,_,rfl,rfl,q _ H (aJ.rf H) rfl⟩
 ·split at hf
  ·rename_i x y hl;cases hf;obtain ⟨rfl,l1,o1⟩:=vStr hx;obtain ⟨rfl,l2,o2⟩:=vStr hy;exact .inr (.inl ⟨_,_,rfl,rfl,hl,q _ H (aJ.rf H) ⟨rfl,by rw [jK];exact hl,md o1 o2⟩⟩)
  ·cases hf
 ·split at hf
  ·rename_i xs ys hl;cases hf;obtain ⟨a,us,rfl,s1,z1,d1⟩:=kT hx;obtain ⟨b,ws,rfl,s2,z2,d2⟩:=kT hy;have hl':us.length+ws.length<=sizeLine:=by rw [d1.len,d2.len];exact hl
   exact .inr (.inr (.inl ⟨a,b,us,ws,rfl,rfl,s1,s2,hl',fun p hp=>q _ _ (aJ.nw _ hp) (zJ hp (by rw [HY];exact hl') (d1.app d2))⟩))
  ·cases hf
 ·split at hf
  ·rename_i x xs ys hl;cases hf;obtain ⟨a,us,rfl,s1,z1,d1⟩:=tw hx;obtain ⟨b,ws,rfl,s2,z2,d2⟩:=tw hy;have hl':us.length+ws.length<=sizeLine:=by rw [d1.len,d2.len];exact hl
   have hne:us≠[]:=fun z=>by rw [z] at d1;obtain ⟨v,r,e,_⟩:=d1;cases e
   refine .inr (.inr (.inr ⟨a,b,us,ws,rfl,rfl,s1,s2,hne,hl',fun z=>?_,fun z p hp=>q _ _ (aJ.nw _ hp) (FK hp (by rw [HY];exact hl') (d1.app d2))⟩));subst z;have hys:ys=[]:=by
    cases ys with
    | nil=>rfl
    | cons y ys=>obtain ⟨v,r,e,_⟩:=d2;cases e
   subst hys;exact q _ H (aJ.rf H) ⟨a,us,rfl,s1,z1,by rw [Jn];exact d1⟩
  ·cases hf
 ·cases hf
theorem ah {X:Cx}:OpR X (binaryOp .Add) (fun x y=>cJ.r X.K [x,y]):=orR zT (orR yH (orR xY y9))
noncomputable def uI (c:Int->Int->Bool) (g:Int->Int->PyData):PyData->PyData->Option PR
 | .int i,.int j=>if c i j=true then some (.dat (g i j)) else none
 | _,_=>none
noncomputable def Prm.ints (C:Int->Int->Prop) (c:Int->Int->Bool) (hc:∀ i j,c i j=true->C i j) (g:Int->Int->Int):Prm:=Prm.two (fun _=>rI C fun i j=>.int (g i j)) (uI c fun i j=>.int (g i j)) fun K F H x y u v pr Q hf hx hy hd q=>by
 unfold uI at hf;split at hf
 ·split at hf
  ·rename_i h;cases hf;rw [vInt hx,vInt hy];exact ⟨_,_,rfl,rfl,hc _ _ h,q _ H (aJ.rf H) rfl⟩
  ·cases hf
 ·cases hf
noncomputable def Prm.BW (g:Int->Int->Bool):Prm:=Prm.two (fun _=>rI0 fun i j=>.bl (g i j)) (uI (fun _ _=>true) fun i j=>.bool (g i j)) fun K F H x y u v pr Q hf hx hy hd q=>by
 unfold uI at hf;split at hf
 ·rw [Io rfl] at hf;cases hf;rw [vInt hx,vInt hy];exact ⟨_,_,rfl,rfl,q _ H (aJ.rf H) rfl⟩
 ·cases hf
noncomputable def C5:Prm:=Prm.two (fun _=>rI0 fun i j=>.int (i - j)) (uI (fun _ _=>true) fun i j=>.int (i - j)) fun K F H x y u v pr Q hf hx hy hd q=>by
 unfold uI at hf;split at hf
 ·rw [Io rfl] at hf;cases hf;rw [vInt hx,vInt hy];exact ⟨_,_,rfl,rfl,q _ H (aJ.rf H) rfl⟩
 ·cases hf
theorem nU {X:Cx}:OpR X (binaryOp .Sub) (fun x y=>C5.r X.K [x,y]):=AR
noncomputable def mulC (i j:Int):Bool:=(decide (-(2 ^ 64) < i)&&decide (i < 2 ^ 64))||(decide (-(2 ^ 64) < j)&&decide (j < 2 ^ 64))
noncomputable def uM:Prm:=Prm.ints B1 mulC (fun i j h=>by simpa [mulC,B1,Kq,ID,Jl] using h) (fun i j=>i*j)
theorem dC {X:Cx}:OpR X (binaryOp .Mult) (fun x y=>uM.r X.K [x,y]):=BI
noncomputable def uP:Prm:=Prm.ints (fun _ j=>0 < j) (fun _ j=>decide (0 < j)) (fun i j h=>by simpa using h) (fun i j=>i % j)
theorem df {X:Cx}:OpR X (binaryOp .Mod) (fun x y=>uP.r X.K [x,y]):=Ci
noncomputable def vV:Prm:=Prm.ints (fun _ j=>0 < j/\j.natAbs.log2 < 9000) (fun _ j=>decide (0 < j)&&decide (j < 2 ^ 200)) (fun i j h=>by
 simp only [ID,Jl] at h;refine ⟨h.1,?_⟩;have hz:j.natAbs≠0:=by omega
 have:j.natAbs < 2 ^ 200:=by omega
 exact Iu ((Nat.log2_lt hz).mpr this) (by decide)) (fun i j=>i / j)
theorem kY {X:Cx}:OpR X (binaryOp .FloorDiv) (fun x y=>vV.r X.K [x,y]):=vO
noncomputable def FY:Prm:=Prm.ints Gy (fun i j=>decide (0<=j)&&decide (j<=1000000)&&decide (i.natAbs < 2 ^ 64)) (fun i j h=>by simp only [ID,Jl] at h;exact ⟨h.1.1,h.1.2,h.2⟩) (fun i j=>i ^ j.toNat)
theorem ui {X:Cx}:OpR X (binaryOp .Pow) (fun x y=>FY.r X.K [x,y]):=Bc
noncomputable def Fh:Prm:=Prm.one (fun _=>rU fun i=>.int (-i)) (fun x=>match x with | .int i=>some (.dat (.int (-i))) | _=>none) fun K F H x u pr Q hf hx hd q=>by
 split at hf
 ·cases hf;rw [vInt hx];exact ⟨_,rfl,q _ H (aJ.rf H) rfl⟩
 ·cases hf
noncomputable def Dp (g:Int->Int->Bool) (h:Str->Str->Bool):PyData->PyData->Option PR
 | .int i,.int j=>some (.dat (.bool (g i j)))
 | .str x,.str y=>some (.dat (.bool (h x y)))
 | _,_=>none
noncomputable def ltS (x y:Str):Bool:=decide (x.cps.toList < y.cps.toList)
noncomputable def leS (x y:Str):Bool:=!decide (y.cps.toList < x.cps.toList)
noncomputable def ltP:Prm:=Prm.two (fun _=>rOr (rI0 fun i j=>.bl (decide (i < j))) GO) (Dp (fun i j=>decide (i < j)) ltS) fun K F H x y u v pr Q hf hx hy hd q=>by
 unfold Dp at hf;split at hf
 ·cases hf;rw [vInt hx,vInt hy];exact .inl ⟨_,_,rfl,rfl,q _ H (aJ.rf H) rfl⟩
 ·cases hf;rw [(vStr hx).1,(vStr hy).1];exact .inr ⟨_,_,rfl,rfl,q _ H (aJ.rf H) rfl⟩
 ·cases hf
theorem mH {X:Cx}:OpR X (compareOp .Lt) (fun x y=>ltP.r X.K [x,y]):=orR EX BZ
noncomputable def leP:Prm:=Prm.two (fun _=>rOr (rI0 fun i j=>.bl (decide (i<=j))) GK) (Dp (fun i j=>decide (i<=j)) leS) fun K F H x y u v pr Q hf hx hy hd q=>by
 unfold Dp at hf;split at hf
 ·cases hf;rw [vInt hx,vInt hy];exact .inl ⟨_,_,rfl,rfl,q _ H (aJ.rf H) rfl⟩
 ·cases hf;rw [(vStr hx).1,(vStr hy).1];exact .inr ⟨_,_,rfl,rfl,q _ H (aJ.rf H) rfl⟩
 ·cases hf
theorem AU {X:Cx}:OpR X (compareOp .LtE) (fun x y=>leP.r X.K [x,y]):=orR DK CB
noncomputable def gtP:Prm:=Prm.BW fun i j=>decide (i > j)
theorem iu {X:Cx}:OpR X (compareOp .Gt) (fun x y=>gtP.r X.K [x,y]):=D1
noncomputable def geP:Prm:=Prm.BW fun i j=>decide (i>=j)
theorem rH {X:Cx}:OpR X (compareOp .GtE) (fun x y=>geP.r X.K [x,y]):=DJ
mutual
noncomputable def noD:PyData->Bool
 | .dict _=>false
 | .list xs=>c7 xs
 | .tuple xs=>c7 xs
 | _=>true
noncomputable def c7:List PyData->Bool
 | []=>true
 | x :: xs=>noD x&&c7 xs
end
section
variable {K:Fg} {F:Addr->Prop} {H:Hp}
mutual
theorem Dm.lay:∀ {d:PyData} {v:V},Dm K F H d v->noD d=true->d.canLay0=true
 | .none,v,h,_=>by simp [PyData.canLay0]
 | .bool b,v,h,_=>by simp [PyData.canLay0]
 | .int i,v,h,_=>by simp [PyData.canLay0]
 | .str x,v,h,_=>by simpa [PyData.canLay0] using h.2.2
 | .list ds,v,h,n=>by obtain ⟨a,xs,e,l,z,r⟩:=h;simpa [PyData.canLay0] using DmL.lay r (by simpa [noD] using n)
 | .tuple ds,v,h,n=>by obtain ⟨a,xs,e,l,z,r⟩:=h;simpa [PyData.canLay0] using DmL.lay r (by simpa [noD] using n)
 | .dict kvs,v,h,n=>by simp [noD] at n
theorem DmL.lay:∀ {ds:List PyData} {vs:List V},DmL K F H ds vs->c7 ds=true->PyData.canLayAll0 ds=true
 | [],vs,h,_=>by simp [PyData.canLayAll0]
 | d :: ds,vs,h,n=>by
  obtain ⟨v,r,e,h1,h2⟩:=h;have n':noD d=true/\c7 ds=true:=by simpa [c7] using n
  simp [PyData.canLayAll0,Dm.lay h1 n'.1,DmL.lay h2 n'.2]
end
theorem Vw.lay {d:PyData} {v:V} (h:Vw K F H d v) (n:noD d=true):d.canLay0=true:=by
 cases d with
 | list ds=>obtain ⟨a,xs,e,l,z,r⟩:=kT h;simpa [PyData.canLay0] using DmL.lay r (by simpa [noD] using n)
 | dict ds=>simp [noD] at n
 | _=>exact Dm.lay (K:=K) (F:=F) (H:=H) h n
variable {X:Cx} {pins:List (Addr×Obj)} {σ:St} {s:Shared}
mutual
theorem Dm.reads (I:Inv X pins σ H s):∀ {d:PyData} {v:V} {u:Value},Dm X.K F H d v->noD d=true->RelV v u->∃ as,Reads s.heap u d as
 | .none,v,u,hd,_,r=>by
  have e:v=.non:=hd;subst e;cases (show u=Value.none from r);exact ⟨_,.none⟩
 | .bool b,v,u,hd,_,r=>by
  have e:v=.bl b:=hd;subst e;cases (show u=Value.bool b from r);exact ⟨_,.bool b⟩
 | .int i,v,u,hd,_,r=>by
  have e:v=.int i:=hd;subst e;obtain ⟨t,e⟩:=(show ∃ t,u=Value.int i t from r);subst e;exact ⟨_,.int i t⟩
 | .str y,v,u,hd,_,r=>by
  have e:v=.str y:=hd.1;subst e;obtain ⟨t,e⟩:=(show ∃ t,u=Value.str y t from r);subst e;exact ⟨_,.str y t⟩
 | .list ds,v,u,hd,n,r=>by
  obtain ⟨a,xs,e,l,z,rs⟩:=hd;subst e;cases (show u=Value.ref a from r);obtain ⟨its,rv,⟨o,k,h1,h2,h3,h4⟩,_⟩:=I.list (l.elim (fun q=>.inl q.2) .inr);obtain ⟨as,ra⟩:=DmL.reads I rs (by simpa [noD] using n) rv;exact ⟨_,.list h1 h2 h4 (by simpa using ra)⟩
 | .tuple ds,v,u,hd,n,r=>by
  obtain ⟨a,xs,e,l,z,rs⟩:=hd;subst e;cases (show u=Value.ref a from r);obtain ⟨its,rv,⟨o,h1,h2,k,h4⟩,_⟩:=I.tuple l;obtain ⟨as,ra⟩:=DmL.reads I rs (by simpa [noD] using n) rv;exact ⟨_,.tuple h1 h2 h4 (by simpa using ra)⟩
 | .dict kvs,v,u,hd,n,r=>by simp [noD] at n
theorem DmL.reads (I:Inv X pins σ H s):∀ {ds:List PyData} {vs:List V} {us:List Value},DmL X.K F H ds vs->c7 ds=true->Vals vs us->∃ as,ReadsAll s.heap us ds as
 | [],vs,us,hd,_,r=>by
  have e:vs=[]:=hd;subst e;cases r;exact ⟨_,.nil⟩
 | d :: ds,vs,us,hd,n,r=>by
  obtain ⟨v,rr,e,h1,h2⟩:=hd;have n':noD d=true/\c7 ds=true:=by simpa [c7] using n
  subst e;cases r with
  | cons r1 r2 =>
   obtain ⟨as,q1⟩:=Dm.reads I h1 n'.1 r1;obtain ⟨bs,q2⟩:=DmL.reads I h2 n'.2 r2;exact ⟨_,.cons q1 q2⟩
end
theorem Vw.reads (I:Inv X pins σ H s) {d:PyData} {v:V} {u:Value} (h:Vw X.K F H d v) (n:noD d=true) (r:RelV v u):∃ as,Reads s.heap u d as:=by
 cases d with
 | list ds =>
  obtain ⟨a,xs,rfl,l,z,rs⟩:=kT h;cases (show u=Value.ref a from r);obtain ⟨its,rv,⟨o,k,h1,h2,h3,h4⟩,_⟩:=I.list l;obtain ⟨as,ra⟩:=DmL.reads I rs (by simpa [noD] using n) rv;exact ⟨_,.list h1 h2 h4 (by simpa using ra)⟩
 | dict ds=>simp [noD] at n
 | _=>exact Dm.reads (F:=F) I h n r
end
noncomputable def iC (d:PyData):Bool:=noD d&&decide (d.depth<=64)
def GZ (neg:Bool) (K:Fg):R2:=fun x y H Q=>∃ F d e,Vw K F H d x/\Vw K F H e y/\iC d=true/\iC e=true/\Q (.bl (if neg then !PyData.eqv d e else PyData.eqv d e)) H
noncomputable def eqD (neg:Bool) (d e:PyData):Option PR:=if iC d=true/\iC e=true then some (.dat (.bool (if neg then !PyData.eqv d e else PyData.eqv d e))) else none
noncomputable def C9 (neg:Bool):Prm:=Prm.two (GZ neg) (eqD neg) fun K F H x y u v pr Q hf hx hy hd q=>by
 unfold eqD at hf;split at hf
 ·rename_i h;cases hf;exact ⟨F,x,y,hx,hy,h.1,h.2,q _ H (aJ.rf H) rfl⟩
 ·cases hf
noncomputable abbrev eqP:Prm:=C9 false
noncomputable abbrev neP:Prm:=C9 true
theorem gf {K:Fg} {F:Addr->Prop} {H:Hp} {d:PyData} {v:V} (h:Vw K F H d v) (o:iC d=true):SeqAt.shaped d=true:=by
 have o':noD d=true/\d.depth<=64:=by simpa [iC] using o
 simp [SeqAt.shaped,h.lay o'.1,o'.2]
theorem aO {X:Cx} (hu:X.A.units+64 < cLine):OpR X (compareOp .Eq) (fun x y=>eqP.r X.K [x,y]):=by
 intro pins s σ H x y v u Q I rx ry h;obtain ⟨F,d,e,h1,h2,o1,o2,hq⟩:=h;obtain ⟨as,r1⟩:=h1.reads I (by have:=o1;simp [iC] at this;exact this.1) rx;obtain ⟨bs,r2⟩:=h2.reads I (by have:=o2;simp [iC] at this;exact this.1) ry;exact SeqAt.compareEq_shaped r1 r2 (gf h1 o1) (gf h2 o2) hu ⟨.bl _,H,I,rfl,hq⟩
theorem bZ {X:Cx} (hu:X.A.units+64 < cLine):OpR X (compareOp .NotEq) (fun x y=>neP.r X.K [x,y]):=by
 intro pins s σ H x y v u Q I rx ry h;obtain ⟨F,d,e,h1,h2,o1,o2,hq⟩:=h;obtain ⟨as,r1⟩:=h1.reads I (by have:=o1;simp [iC] at this;exact this.1) rx;obtain ⟨bs,r2⟩:=h2.reads I (by have:=o2;simp [iC] at this;exact this.1) ry;exact SeqAt.compareNe_shaped r1 r2 (gf h1 o1) (gf h2 o2) hu ⟨.bl _,H,I,rfl,hq⟩
noncomputable def nG:PyData->Bool | .none=>true | _=>false
theorem o3 {K:Fg} {F:Addr->Prop} {H:Hp} {d:PyData} {v:V} (h:Vw K F H d v):decide (v=.non)=nG d:=by
 cases d with
 | none=>rw [Di h];rfl
 | bool b=>rw [vBl h];rfl
 | int i=>rw [vInt h];rfl
 | str x=>rw [(vStr h).1];rfl
 | list ds=>obtain ⟨a,xs,rfl,_⟩:=kT h;rfl
 | tuple ds=>obtain ⟨a,xs,rfl,_⟩:=tw h;rfl
 | dict ds=>obtain ⟨a,rfl,_⟩:=h;rfl
noncomputable def isP:Prm:=Prm.two (fun _=>Gr) (fun x y=>match y with | .none=>some (.dat (.bool (nG x))) | _=>none) fun K F H x y u v pr Q hf hx hy hd q=>by
 split at hf
 ·cases hf;exact ⟨Di hy,q _ H (aJ.rf H) (by rw [o3 hx];rfl)⟩
 ·cases hf
theorem kB {X:Cx}:OpR X (compareOp .Is) (fun x y=>isP.r X.K [x,y]):=yt
noncomputable def hV:Prm:=Prm.two (fun _=>Bm) (fun x y=>match y with | .none=>some (.dat (.bool (!nG x))) | _=>none) fun K F H x y u v pr Q hf hx hy hd q=>by
 split at hf
 ·cases hf;exact ⟨Di hy,q _ H (aJ.rf H) (by rw [o3 hx];rfl)⟩
 ·cases hf
theorem cN {X:Cx}:OpR X (compareOp .IsNot) (fun x y=>hV.r X.K [x,y]):=uZ
noncomputable def ixD:PyData->PyData->Option PR
 | .list xs,.int i=>(atI xs i).map .dat
 | .tuple xs,.int i=>(atI xs i).map .dat
 | .str x,.int i=>(atI x.cps.toList i).map fun c=>.dat (.str ⟨#[c]⟩)
 | _,_=>none
theorem wt {K:Fg} {F:Addr->Prop} {H:Hp} {ds:List PyData} {xs:List V} {i:Int} {d:PyData} (h:DmL K F H ds xs) (e:atI ds i=some d):∃ v,atI xs i=some v/\Dm K F H d v:=by
 unfold atI at e ⊢;rw [h.len];cases q:ixN ds.length i with
 | none=>rw [q] at e;cases e
 | some j =>
  rw [q] at e;have e:ds[j]?=some d:=e;exact h.get e
theorem xu {α:Type} {xs:List α} {i:Int} {x:α} (e:atI xs i=some x):x∈xs:=by
 unfold atI at e;cases q:ixN xs.length i with
 | none=>rw [q] at e;cases e
 | some j=>rw [q] at e;exact Iz (show xs[j]?=some x from e)
noncomputable def ixP:Prm:=Prm.two rIx ixD fun K F H x y u v pr Q hf hx hy hd q=>by
 unfold ixD at hf;split at hf
 ·obtain ⟨d,e,rfl⟩:=Ic.mp hf;obtain ⟨a,us,rfl,s1,z1,d1⟩:=kT hx;rw [vInt hy];obtain ⟨v,ev,dv⟩:=wt d1 e;exact .inl ⟨a,us,_,v,rfl,rfl,s1,ev,q _ H (aJ.rf H) dv⟩
 ·obtain ⟨d,e,rfl⟩:=Ic.mp hf;obtain ⟨a,us,rfl,s1,z1,d1⟩:=tw hx;rw [vInt hy];obtain ⟨v,ev,dv⟩:=wt d1 e;exact .inr (.inl ⟨a,us,_,v,rfl,rfl,s1,ev,q _ H (aJ.rf H) dv⟩)
 ·rename_i x i;obtain ⟨c,e,rfl⟩:=Ic.mp hf;obtain ⟨rfl,l1,o1⟩:=vStr hx;rw [vInt hy];have hc:=fU o1 c (xu e);exact .inr (.inr ⟨_,_,c,rfl,rfl,l1,e,q _ H (aJ.rf H) ⟨rfl,by show 1<=sizeLine;decide,by simp [PyData.strOk,hc]⟩⟩)
 ·cases hf
theorem je {X:Cx}:IxR X (fun x y=>ixP.r X.K [x,y]):=zW
noncomputable def cutD {α:Type} (xs:List α) (lo hi:Option Int):List α:=(xs.drop (HT.sIx xs.length 0 lo)).take (HT.sIx xs.length xs.length hi - HT.sIx xs.length 0 lo)
noncomputable def slD (lo hi:Option Int):PyData->Option PR
 | .list xs=>some (.frs (.list (cutD xs lo hi)))
 | .tuple xs=>if HT.sIx xs.length 0 lo=0/\HT.sIx xs.length xs.length hi=xs.length then none else some (.dat (.tuple (cutD xs lo hi)))
 | .str x=>some (.dat (.str (lF x lo hi)))
 | _=>none
def DQ (K:Fg) (lo hi:Option Int):V->Hp->VK->Prop:=fun x H Q=>E6 Gj (E6 (GI K) (GA K)) x lo hi H Q
section
variable {K:Fg} {F:Addr->Prop} {H:Hp}
theorem DmL.drop:∀ {ds:List PyData} {xs:List V} (n:Nat),DmL K F H ds xs->DmL K F H (ds.drop n) (xs.drop n)
 | ds,xs,0,h=>h
 | [],xs,n+1,h=>by rw [show xs=[] from h];rfl
 | d :: ds,xs,n+1,h=>by obtain ⟨v,r,rfl,_,h2⟩:=h;exact DmL.drop n h2
theorem DmL.take:∀ {ds:List PyData} {xs:List V} (n:Nat),DmL K F H ds xs->DmL K F H (ds.take n) (xs.take n)
 | ds,xs,0,h=>by rw [List.take_zero,List.take_zero];rfl
 | [],xs,n+1,h=>by rw [show xs=[] from h];rfl
 | d :: ds,xs,n+1,h=>by obtain ⟨v,r,rfl,h1,h2⟩:=h;exact ⟨v,_,rfl,h1,DmL.take n h2⟩
theorem DmL.cut {ds:List PyData} {xs:List V} (lo hi:Option Int) (h:DmL K F H ds xs):DmL K F H (cutD ds lo hi) (uT xs lo hi):=by
 unfold cutD uT;rw [h.len];exact (h.drop _).take _
theorem pA (xs:List V) (lo hi:Option Int):(uT xs lo hi).length<=xs.length:=by
 unfold uT;rw [IE,IH];omega
theorem uz {x:Str} (lo hi:Option Int) (h:PyData.strOk x=true):PyData.strOk (lF x lo hi)=true:=by
 have hm:=fU h;unfold PyData.strOk lF;rw [Array.all_eq_true'];intro c hc;have:c∈(x.cps.toList.drop (HT.sIx x.length 0 lo)).take (HT.sIx x.length x.length hi - HT.sIx x.length 0 lo):=by simpa using hc
 have:=hm c (Kk (JY this));simpa using this
theorem A7 {lo hi:Option Int} {x:PyData} {u:V} {pr:PR} {Q:VK} (hf:slD lo hi x=some pr) (hx:Vw K F H x u) (q:∀ w H',aJ H H'->xp K F H H' pr w->Q w H'):DQ K lo hi u H Q:=by
 unfold slD at hf;split at hf
 ·cases hf;obtain ⟨a,us,rfl,s1,z1,d1⟩:=kT hx;exact .inr (.inl ⟨a,us,rfl,s1,fun p hp=>q _ _ (aJ.nw _ hp) (zJ hp (Iy (pA _ _ _) z1) (d1.cut lo hi))⟩)
 ·split at hf
  ·cases hf
  rename_i hn;cases hf;obtain ⟨a,us,rfl,s1,z1,d1⟩:=tw hx;exact .inr (.inr ⟨a,us,rfl,s1,by rw [d1.len];exact hn,fun p hp=>q _ _ (aJ.nw _ hp) (FK hp (Iy (pA _ _ _) z1) (d1.cut lo hi))⟩)
 ·cases hf;obtain ⟨rfl,l1,o1⟩:=vStr hx;exact .inl ⟨_,rfl,l1,q _ H (aJ.rf H) ⟨rfl,Iy (cj _ _ _) l1,uz lo hi o1⟩⟩
 ·cases hf
end
noncomputable def wq:Prm:=Prm.two (fun K x y H Q=>∃ i,y=.int i/\DQ K (some i) none x H Q) (fun x y=>match y with | .int i=>slD (some i) none x | _=>none) fun K F H x y u v pr Q hf hx hy hd q=>by
 split at hf
 ·exact ⟨_,vInt hy,A7 hf hx q⟩
 ·cases hf
noncomputable def zw:Prm:=Prm.two (fun K x y H Q=>∃ i,y=.int i/\DQ K none (some i) x H Q) (fun x y=>match y with | .int i=>slD none (some i) x | _=>none) fun K F H x y u v pr Q hf hx hy hd q=>by
 split at hf
 ·exact ⟨_,vInt hy,A7 hf hx q⟩
 ·cases hf
noncomputable def Gu:PyData->Option PR
 | .str x=>some (.dat (.int x.length))
 | .list xs=>some (.dat (.int xs.length))
 | .tuple xs=>some (.dat (.int xs.length))
 | _=>none
noncomputable def iP:Prm:=Prm.one (fun K x=>Cy K [x]) Gu fun K F H x u pr Q hf hx hd q=>by
 unfold Gu at hf;split at hf
 ·cases hf;obtain ⟨rfl,l1,o1⟩:=vStr hx;exact Cg l1 (q _ H (aJ.rf H) rfl)
 ·cases hf;obtain ⟨a,us,rfl,s1,z1,d1⟩:=kT hx;exact BK s1 (q _ H (aJ.rf H) (by rw [d1.len];rfl))
 ·cases hf;obtain ⟨a,us,rfl,s1,z1,d1⟩:=tw hx;exact B9 s1 (q _ H (aJ.rf H) (by rw [d1.len];rfl))
 ·cases hf
theorem kE {X:Cx} {f:Value} {r:List V->Hp->VK->Prop} {r':V->Hp->VK->Prop} (h:aP X f r) (e:∀ x H Q,r' x H Q->r [x] H Q):aP X f (fun vs H Q=>match vs with | [u]=>r' u H Q | _=>False):=by
 intro pins s σ H xs us Q I rv q
 match xs,q with
 | [x],q=>exact h pins s σ H [x] us Q I rv (e x H Q q)
theorem aD {X:Cx}:aP X (.builtin "len") (iP.r X.K):=kE sG fun _ _ _ h=>h
noncomputable def Dj:Prm:=Prm.one (fun _ x=>EV [x]) (fun x=>match x with | .int i=>some (.dat (.int (if i < 0 then -i else i))) | _=>none) fun K F H x u pr Q hf hx hd q=>by
 split at hf
 ·cases hf;rw [vInt hx];exact EU (q _ H (aJ.rf H) rfl)
 ·cases hf
theorem oE {X:Cx}:aP X (.builtin "abs") (Dj.r X.K):=kE sy fun _ _ _ h=>h
noncomputable def GH:Prm:=Prm.two (fun _ x y=>CP [x,y]) (uI (fun _ _=>true) fun i j=>.int (if j < i then j else i)) fun K F H x y u v pr Q hf hx hy hd q=>by
 unfold uI at hf;split at hf
 ·rw [Io rfl] at hf;cases hf;rw [vInt hx,vInt hy];exact ⟨_,_,rfl,q _ H (aJ.rf H) rfl⟩
 ·cases hf
theorem xi {X:Cx} {f:Value} {r:List V->Hp->VK->Prop} {r':R2} (h:aP X f r) (e:∀ x y H Q,r' x y H Q->r [x,y] H Q):aP X f (fun vs H Q=>match vs with | [u,v]=>r' u v H Q | _=>False):=by
 intro pins s σ H xs us Q I rv q
 match xs,q with
 | [x,y],q=>exact h pins s σ H [x,y] us Q I rv (e x y H Q q)
theorem zx {X:Cx} (hc:X.calm=true):aP X (.builtin "min") (GH.r X.K):=xi (qf hc) fun _ _ _ _ h=>h
noncomputable def zE (T:String) (x:PyData):Option PR:=match T with
 | "str" => some (.dat (.bool (isS x)))
 | "int" => some (.dat (.bool (isI x)))
 | "bool" => some (.dat (.bool (isB x)))
 | "tuple" => some (.dat (.bool (isT x)))
 | "list" => some (.dat (.bool (isL x)))
 | _=>none
def Fw (T:String) (K:Fg):V->Hp->VK->Prop:=fun x H Q=>∃ F d b,Vw K F H d x/\zE T d=some (.dat (.bool b))/\Q (.bl b) H
theorem Dy {T:String} {d:PyData} {pr:PR} (h:zE T d=some pr):∃ b,pr=.dat (.bool b):=by
 unfold zE at h;split at h <;> first | (cases h;exact ⟨_,rfl⟩) | cases h
noncomputable def vv (T:String):Prm:=Prm.one (Fw T) (zE T) fun K F H x u pr Q hf hx hd q=>by
 obtain ⟨b,rfl⟩:=Dy hf;exact ⟨F,x,b,hx,hf,q _ H (aJ.rf H) rfl⟩
theorem xS {K:Fg} {T:String} {d:PyData} {b:Bool} (h:zE T d=some (.dat (.bool b))):PySem.W.kitOne K (.type (tyN d)) (.type T)=some b:=by
 unfold zE at h;split at h
 ·cases h;exact Ft d
 ·cases h;exact EA d
 ·cases h;exact Ej d
 ·cases h;exact DO d
 ·cases h;exact EF d
 ·cases h
def HG (K:Fg):List V->Hp->VK->Prop:=fun vs H Q=>match vs with | [x,.ty T]=>(vv T).r K [x] H Q | _=>False
theorem xr {X:Cx}:aP X (.builtin "isinstance") (HG X.K):=by
 intro pins s σ H xs us Q I r h
 match xs,h with
 | [x,.ty T'],h =>
  obtain ⟨F,d,b,hv,hb,q⟩:=h;obtain ⟨u,w',rfl,r1,r2⟩:=vals2 r;cases (show w'=Value.type T' from r2);have e:=xS (K:=X.K) hb;have fin:∀ tk,EP X pins σ Q (.bool b) { s with toks:=tk }:=fun tk=>⟨.bl b,H,I.tok _,rfl,q⟩;cases d with
  | none=>rw [Di hv] at r1;cases (show u=Value.none from r1);exact J5 PySem.W.kitx_none I.kIn True.intro e (fun z=>nomatch z) fin
  | bool y=>rw [vBl hv] at r1;cases (show u=Value.bool y from r1);exact J5 PySem.W.kitx_bool I.kIn True.intro e (fun z=>nomatch z) fin
  | int i=>rw [vInt hv] at r1;obtain ⟨t,q⟩:=(show ∃ t,u=Value.int i t from r1);cases q;exact J5 PySem.W.kitx_int I.kIn True.intro e (fun z=>nomatch z) fin
  | str y=>rw [(vStr hv).1] at r1;obtain ⟨t,q⟩:=(show ∃ t,u=Value.str y t from r1);cases q;exact J5 PySem.W.kitx_str I.kIn True.intro e (fun z=>nomatch z) fin
  | list ds =>
   obtain ⟨a,xs,rfl,l,z,rs⟩:=kT hv;cases (show u=Value.ref a from r1);obtain ⟨its,rv,⟨o,k,h1,h2,h3,h4⟩,_⟩:=I.list l;exact J5 PySem.W.kitx_list I.kIn ⟨o,h1,h2⟩ e (fun z=>nomatch z) fin
  | tuple ds =>
   obtain ⟨a,xs,rfl,l,z,rs⟩:=tw hv;cases (show u=Value.ref a from r1);obtain ⟨its,rv,⟨o,h1,h2,k,h4⟩,_⟩:=I.tuple l;exact J5 PySem.W.kitx_tuple I.kIn ⟨o,h1,h2⟩ e (fun z=>nomatch z) fin
  | dict ds =>
   obtain ⟨a,rfl,ep,xs,ea,_⟩:=hv;cases (show u=Value.ref a from r1);obtain ⟨_,_,_,o,es,h1,h2,_⟩:=(show bT X.prog X.w H s.heap a (.dD ep xs) from I.hok a _ ea);exact J5 PySem.W.kitx_dict I.kIn ⟨o,h1,h2.1⟩ e (fun z=>nomatch z) fin
noncomputable def chars (x:Str):List PyData:=x.cps.toList.map fun c=>.str ⟨#[c]⟩
noncomputable def gj (x:Str):List V:=x.cps.toList.map fun c=>.str ⟨#[c]⟩
def CG (K:Fg):V->Hp->VK->Prop:=fun x H Q=>Ce K [x] H Q\/∃ z,x=.str z/\z.length<=sizeLine/\∀ p,H p=none->Q (.ref p) (upd H p (.lst (gj z)))
noncomputable def Ca:PyData->Option PR
 | .list xs=>some (.frs (.list xs))
 | .tuple xs=>some (.frs (.list xs))
 | .str x=>some (.frs (.list (chars x)))
 | _=>none
noncomputable def uo:Prm:=Prm.one CG Ca fun K F H x u pr Q hf hx hd q=>by
 unfold Ca at hf;split at hf
 ·cases hf;obtain ⟨a,us,rfl,s1,z1,d1⟩:=kT hx;exact .inl ⟨a,us,rfl,.inl s1,fun p hp=>q _ _ (aJ.nw _ hp) (zJ hp z1 d1)⟩
 ·cases hf;obtain ⟨a,us,rfl,s1,z1,d1⟩:=tw hx;exact .inl ⟨a,us,rfl,.inr s1,fun p hp=>q _ _ (aJ.nw _ hp) (zJ hp z1 d1)⟩
 ·cases hf;obtain ⟨rfl,l1,o1⟩:=vStr hx;refine .inr ⟨_,rfl,l1,fun p hp=>q _ _ (aJ.nw _ hp) (zJ hp ?_ (yR (fU o1)))⟩;rw [show (gj _).length=_ from HS _];simpa [Str.length] using l1
 ·cases hf
theorem pV:∀ {xs:List V} {us:List Value},xs.length=us.length->(∀ (i:Nat) (x:V) (u:Value),xs[i]?=some x->us[i]?=some u->RelV x u)->Vals xs us
 | [],[],_,_=>.nil
 | [],_ :: _,h,_=>by cases h
 | _ :: _,[],h,_=>by cases h
 | x :: xs,u :: us,h,q=>.cons (q 0 x u rfl rfl) (pV (by simpa using h) fun i y w h1 h2=>q (i+1) y w (by simpa using h1) (by simpa using h2))
theorem qz {z:Str} {acc:Array Value} (h:ItemsOf (SignAt z) acc z.cps.size):Vals (gj z) acc.toList:=by
 refine pV ?_ fun i x u h1 h2=>?_
 ·rw [show (gj z).length=_ from HS _];simp [h.1]
 ·obtain ⟨c,t,hc,rfl⟩:=h.2 i u (by simpa using h2);unfold gj at h1;rw [H9] at h1;have:z.cps.toList[i]?=some c:=by rw [<- hc];simp
  rw [this] at h1;cases h1;exact ⟨t,rfl⟩
theorem lY {X:Cx} (hc:X.calm=true):aP X (.type "list") (fun xs H Q=>∃ z,xs=[.str z]/\z.length<=sizeLine/\∀ p,H p=none->Q (.ref p) (upd H p (.lst (gj z)))):=by
 intro pins s σ H xs us Q I r h;obtain ⟨z,rfl,hl,q⟩:=h;obtain ⟨u,rfl,r1⟩:=vals1 r;obtain ⟨t,rfl⟩:=r1;have hz:(gj z).length<=sizeLine:=by rw [show (gj z).length=_ from HS _];simpa [Str.length] using hl
 refine call_list_str (I.ok.hd hc) z t (fun h' tk acc' c' hk hS hacc=>?_) hl;refine ⟨.ref s.heap.objs.size,_,I.laid (t':=tk) hk (Ia _) (show bT X.prog X.w _ h' _ (.lst (gj z)) from ⟨hz,acc'.toList,c',?_,by rw [Km];exact hS⟩),rfl,q _ (I.hok.fresh (Ia _))⟩;exact qz hacc
theorem vo {X:Cx} {f:Value} {r r':List V->Hp->VK->Prop} (h:aP X f r) (h':aP X f r'):aP X f (fun xs H Q=>r xs H Q\/r' xs H Q):=by
 intro pins s σ H xs us Q I rv q;rcases q with q | q
 ·exact h pins s σ H xs us Q I rv q
 ·exact h' pins s σ H xs us Q I rv q
theorem i0 {X:Cx} (hc:X.calm=true):aP X (.type "list") (uo.r X.K):=kE (vo ql (lY hc)) fun x H Q h=>h.imp id fun ⟨z,e,r⟩=>⟨z,by rw [e],r⟩
noncomputable def wV:PyData->Option PR
 | .list xs=>some (.dat (.tuple xs))
 | .tuple xs=>some (.dat (.tuple xs))
 | _=>none
noncomputable def kK:Prm:=Prm.one (fun K x=>xq K [x]) wV fun K F H x u pr Q hf hx hd q=>by
 unfold wV at hf;split at hf
 ·cases hf;obtain ⟨a,us,rfl,s1,z1,d1⟩:=kT hx;exact ⟨a,us,rfl,.inl ⟨s1,fun p hp=>q _ _ (aJ.nw _ hp) (FK hp z1 d1)⟩⟩
 ·cases hf;obtain ⟨a,us,rfl,s1,z1,d1⟩:=tw hx;exact ⟨a,us,rfl,.inr ⟨s1,q _ H (aJ.rf H) ⟨a,us,rfl,s1,z1,d1⟩⟩⟩
 ·cases hf
theorem eJ {X:Cx}:aP X (.type "tuple") (kK.r X.K):=kE n6 fun _ _ _ h=>h
theorem iZ (s:String):PyData.strOk (Str.ofString s)=true:=by
 rw [Str.ofString_eq_toList];unfold PyData.strOk;rw [Array.all_eq_true'];intro c hc;have:c∈s.toList.map Char.toNat:=by simpa using hc
 obtain ⟨ch,_,rfl⟩:=Ij.mp this;have:=ch.valid;simp only [Jl];rcases this with h | ⟨_,h⟩
 ·show ch.val.toNat < _;have:ch.val.toNat < 0xD800:=h;omega
 ·exact h
noncomputable def jX:List PyData->Option (List Bool)
 | []=>some []
 | .bool b :: r=>match jX r with | some bs=>some (b :: bs) | none=>none
 | _ :: _=>none
theorem um {K:Fg} {F:Addr->Prop} {H:Hp}:∀ {ds:List PyData} {xs:List V} {bs:List Bool},jX ds=some bs->DmL K F H ds xs->xs=bs.map V.bl
 | [],xs,bs,h,q=>by cases h;exact q
 | .bool b :: r,xs,bs,h,q=>by
  unfold jX at h;split at h
  ·rename_i bs' h';cases h;obtain ⟨v,vr,rfl,h1,h2⟩:=q;rw [um h' h2,show v=.bl b from h1];rfl
  ·cases h
 | .none :: r,xs,bs,h,q=>by cases h
 | .int _ :: r,xs,bs,h,q=>by cases h
 | .str _ :: r,xs,bs,h,q=>by cases h
 | .list _ :: r,xs,bs,h,q=>by cases h
 | .tuple _ :: r,xs,bs,h,q=>by cases h
 | .dict _ :: r,xs,bs,h,q=>by cases h
noncomputable def uL:Prm:=Prm.one (fun K x=>Gw K [x]) (fun x=>match x with | .list ds=>(jX ds).map fun bs=>.dat (.bool (bs.all id)) | _=>none) fun K F H x u pr Q hf hx hd q=>by
 split at hf
 ·obtain ⟨bs,e,rfl⟩:=Ic.mp hf;obtain ⟨a,us,rfl,s1,z1,d1⟩:=kT hx;rw [um e d1] at s1;exact ⟨a,bs,rfl,s1,q _ H (aJ.rf H) rfl⟩
 ·cases hf
theorem fI {X:Cx} (hc:X.calm=true):aP X (.builtin "all") (uL.r X.K):=kE (ur hc) fun _ _ _ h=>h
theorem tm {K:Fg} {F:Addr->Prop} {H:Hp} {k:PyData}:∀ {ds:List (PyData×PyData)} {xs:List (PyData×V×V)},DmP K F H ds xs->(∀ d,getD ds k=some d->∃ v,qk xs k=some v/\Dm K F H d v)/\(getD ds k=none->qk xs k=none)
 | [],xs,h=>by
  rw [show xs=[] from h];exact ⟨fun d e=>(nomatch e),fun _=>rfl⟩
 | (k',d') :: ds,xs,h=>by
  obtain ⟨j,v,r,rfl,e,_,h1,h2⟩:=h;have ih:=tm (k:=k) h2;unfold getD qk at ih ⊢;rw [J7,J7];cases PyData.eqv k' k with
  | true=>exact ⟨fun d e=>(by cases e;exact ⟨v,rfl,h1⟩),fun e=>(nomatch e)⟩
  | false=>exact ih
mutual
theorem hU:∀ (d:PyData),hkB d=true->noD d=true
 | .int _,_=>rfl
 | .str _,_=>rfl
 | .tuple ds,h=>by rw [noD];exact t8 ds h
 | .none,h=>by cases h
 | .bool _,h=>by cases h
 | .list _,h=>by cases h
 | .dict _,h=>by cases h
theorem t8:∀ (ds:List PyData),uO ds=true->c7 ds=true
 | [],_=>rfl
 | d :: ds,h=>by
  simp only [uO,ID] at h;rw [c7,hU d h.1,t8 ds h.2];rfl
end
theorem fH {d:PyData}:hk6 d=true↔hkB d=true/\d.depth<=6:=by simp [hk6]
theorem qF {K:Fg} {F:Addr->Prop} {H:Hp} {d:PyData} {v:V} (h:Vw K F H d v) (hk:hk6 d=true):kyB d=true:=by
 rw [fH] at hk;exact aE.mpr ⟨hk.1,h.lay (hU d hk.1),hk.2⟩
theorem qp {X:Cx} {pins:List (Addr×Obj)} {σ:St} {s:Shared} {F:Addr->Prop} {H:Hp} (I:Inv X pins σ H s):∀ {ds:List (PyData×PyData)} {xs:List (PyData×V×V)},DmP X.K F H ds xs->jo s.heap xs
 | [],xs,h=>by rw [show xs=[] from h];intro x hx;cases hx
 | (k,d) :: ds,xs,h=>by
  obtain ⟨j,v,r,rfl,hk,h0,_,h2⟩:=h;intro x hx;rcases Il.mp hx with rfl | hx
  ·exact ⟨qF h0.vw hk,fun u ru=>h0.reads I (hU _ (fH.mp hk).1) ru⟩
  ·exact qp I h2 x hx
def Er (K:Fg) (H:Hp) (x y:V) (k:PyData) (a:Addr) (ep:Nat) (xs:List (PyData×V×V)):Prop:=∃ (F:Addr->Prop) (kvs:List (PyData×PyData)),x=.ref a/\H a=some (.dD ep xs)/\DmP K F H kvs xs/\Vw K F H k y/\hk6 k=true
noncomputable def BY:PyData->PyData->Option PR
 | .dict kvs,k=>if hk6 k=true then (getD kvs k).map .dat else none
 | _,_=>none
def Aa (K:Fg):R2:=fun x y H Q=>∃ k a ep xs v,Er K H x y k a ep xs/\qk xs k=some v/\Q v H
noncomputable def iN:Prm:=Prm.two Aa BY fun K F H x y u v pr Q hf hx hy hd q=>by
 unfold BY at hf;split at hf
 ·split at hf
  ·rename_i kvs _ hk;obtain ⟨d,e,rfl⟩:=Ic.mp hf;obtain ⟨a,rfl,ep,xs,ea,_,r⟩:=hx;obtain ⟨w,ew,dw⟩:=(tm r).1 d e;exact ⟨_,a,ep,xs,w,⟨F,_,rfl,ea,r,hy,hk⟩,ew,q _ H (aJ.rf H) dw⟩
  ·cases hf
 ·cases hf
def D5 (neg:Bool) (K:Fg):R2:=fun y x H Q=>∃ k a ep xs,Er K H x y k a ep xs/\Q (.bl (if neg then !(qk xs k).isSome else (qk xs k).isSome)) H
noncomputable def uS (neg:Bool):Prm:=Prm.two (D5 neg) (fun k d=>match d with
  | .dict kvs=>if hk6 k=true then some (.dat (.bool (if neg then !(getD kvs k).isSome else (getD kvs k).isSome))) else none
  | _=>none) fun K F H y x v u pr Q hf hy hx hd q=>by
 split at hf
 ·rename_i kvs;split at hf
  ·rename_i hk;cases hf;obtain ⟨a,rfl,ep,xs,ea,_,r⟩:=hx;have g:=tm (k:=y) r;refine ⟨_,a,ep,xs,⟨F,kvs,rfl,ea,r,hy,hk⟩,q _ H (aJ.rf H) ?_⟩;have e:(qk xs y).isSome=(getD kvs y).isSome:=by
    cases z:getD kvs y with
    | none=>rw [g.2 z];rfl
    | some d=>obtain ⟨w,ew,_⟩:=g.1 d z;rw [ew];rfl
   rw [e];cases neg <;> rfl
  ·cases hf
 ·cases hf
section
variable {X:Cx} {a b o i e value:Expr} {pos pos':Pos} {ta tb td ty tv:TE}
theorem j6 (hu:X.A.units+64 < cLine) (ho:JE X a ta) (hi:JE X b tb) (hs:Gs b):JE X (.Subscript a b pos) (tOp (fun x y=>iN.r X.K [x,y]) ta tb):=⟨by
 intro pins s σ H Q I h;refine y4 PySem.F.slot_dict_getitem.lookup hs (thn (ho.h pins s σ H _ I h) fun u s1 ⟨x,H1,I1,rx,q1⟩=>thn (hi.h pins s1 σ H1 _ I1 q1) fun iv s2 ⟨y,H2,I2,ry,k,p,ep,xs,v,⟨F,kvs,ex,ea,r,hk,hk6'⟩,gv,q2⟩=>?_);subst ex;obtain rfl:u=Value.ref p:=rx;obtain ⟨as,rk⟩:=hk.reads I2 (hU _ (fH.mp hk6').1) ry
 exact ⟨(jl I2 ea).1,BV (by omega) I2 ea (qp I2 r) rk (qF hk hk6') gv fun t w' rw'=>⟨v,H2,I2.tok t,rw',q2⟩⟩⟩
theorem wu (hu:X.A.units+64 < cLine) (hi:PE X i ty) (ho:PE X o td):PC X .In i o (tOp (fun x y=>(uS false).r X.K [x,y]) ty td):=by
 intro pins s σ H Q I h;refine thn (hi pins s σ H _ I h) fun iv s1 ⟨y,H1,I1,ry,q1⟩=>thn (ho pins s1 σ H1 _ I1 q1) fun u s2 ⟨x,H2,I2,rx,k,p,ep,xs,⟨F,kvs,ex,ea,r,hk,hk6'⟩,q2⟩=>?_;subst ex;obtain rfl:u=Value.ref p:=rx;obtain ⟨as,rk⟩:=hk.reads I2 (hU _ (fH.mp hk6').1) ry;refine HU (m:=contains (.ref p) iv) (CU (by omega) I2 ea (qp I2 r) rk (qF hk hk6') fun t=>?_);exact HV ⟨.bl _,H2,I2.tok t,rfl,q2⟩
theorem rR (hu:X.A.units+64 < cLine) (hi:PE X i ty) (ho:PE X o td):PC X .NotIn i o (tOp (fun x y=>(uS true).r X.K [x,y]) ty td):=by
 intro pins s σ H Q I h;refine thn (hi pins s σ H _ I h) fun iv s1 ⟨y,H1,I1,ry,q1⟩=>thn (ho pins s1 σ H1 _ I1 q1) fun u s2 ⟨x,H2,I2,rx,k,p,ep,xs,⟨F,kvs,ex,ea,r,hk,hk6'⟩,q2⟩=>?_;subst ex;obtain rfl:u=Value.ref p:=rx;obtain ⟨as,rk⟩:=hk.reads I2 (hU _ (fH.mp hk6').1) ry;refine HU (m:=contains (.ref p) iv) (CU (by omega) I2 ea (qp I2 r) rk (qF hk hk6') fun t=>?_);exact HV ⟨.bl _,H2,I2.tok t,rfl,q2⟩
theorem HI (hu:X.A.units+64 < cLine) (ha:JE X a ta) (hb:JE X b tb) (hm:behindInMarks .In b=false):JE X (.Compare a [.In] [b] pos) (tOp (fun x y=>(uS false).r X.K [x,y]) ta tb):=⟨A8 (wu hu ha.h hb.h) hm⟩
theorem zg (hu:X.A.units+64 < cLine) (ha:JE X a ta) (hb:JE X b tb) (hm:behindInMarks .In b=false):JT X (.Compare a [.In] [b] pos) (tB (tOp (fun x y=>(uS false).r X.K [x,y]) ta tb)):=⟨wk (wu hu ha.h hb.h) hm⟩
theorem vU (hu:X.A.units+64 < cLine) (ha:JE X a ta) (hb:JE X b tb) (hm:behindInMarks .NotIn b=false):JT X (.Compare a [.NotIn] [b] pos) (tB (tOp (fun x y=>(uS true).r X.K [x,y]) ta tb)):=⟨wk (rR hu ha.h hb.h) hm⟩
theorem Bk:JE X (.Dict [] [] pos) xh:=⟨vB⟩
theorem qT {keys:List (Option Expr)} {values:List Expr} {trs:List (TE×TE)} (h:JP X pos keys values trs) (hall:keys.all (·.isSome)=true) (hl:keys.length=values.length) (h0:keys≠[]) (h15:keys.length<=15):JE X (.Dict keys values pos) (tM trs):=⟨vq h.h hall hl h0 h15⟩
end
theorem qe {K:Fg} {F:Addr->Prop} {H:Hp}:∀ {ds:List (PyData×PyData)} {xs:List (PyData×V×V)},DmP K F H ds xs->xs.length=ds.length
 | [],xs,h=>by rw [show xs=[] from h];rfl
 | (k,d) :: ds,xs,h=>by obtain ⟨j,v,r,rfl,_,_,_,h2⟩:=h;rw [Ik,Ik,qe h2]
theorem Em {K:Fg} {F:Addr->Prop} {H:Hp} {d:PyData} {v:V} (h:Vw K F H d v) (hk:hk6 d=true):Dm K F H d v:=by
 cases d with
 | list ds=>cases hk
 | dict ds=>cases hk
 | _=>exact h
noncomputable def oN:wB where
 r:=fun K o y x H Q=>∃ k a ep xs,Er K H o y k a ep xs/\xs.length < sizeLine/\∀ ep',Q (upd H a (.dD ep' (nv xs k y x)))
 f:=fun d k x=>match d with
  | .dict kvs=>if hk6 k=true/\kvs.length < sizeLine then some (.dict (putD kvs k x)) else none
  | _=>none
 ok:=fun K F H d a k x vk vx d' Q hf ha ht hk hx q=>by
  split at hf
  ·split at hf
   ·rename_i kvs h;cases hf;obtain ⟨ep,xs,ea,z,r⟩:=ht;have hlen:xs.length < sizeLine:=by rw [qe r];exact h.2
    refine ⟨k,a,ep,xs,⟨F,kvs,rfl,ea,r,hk,h.1⟩,hlen,fun ep'=>q _ (fun b o n e=>by rw [ak n];exact e) ?_⟩;have p:Pr F H (upd H a (.dD ep' (nv xs k vk vx))):=fun b o e n=>by
     by_cases y:b=a
     ·subst y;rcases n with n | n
      ·exact absurd ha n
      ·rw [ea] at e;cases e;cases n
     ·rw [ak y];exact e
    exact ⟨_,_,ar,by have:=p0 (xs:=xs) (k:=k) (j:=vk) (v:=vx);omega,(tE r h.1 (Em hk h.1) hx).pr p fun _ z=>z⟩
   ·cases hf
  ·cases hf
def DE (K:Fg) (td ty tv:TE):TS:=fun D σ H=>tv σ H fun v H1=>td σ H1 fun x H2=>ty σ H2 fun y H3=>oN.r K x y v H3 (D.nx σ)
theorem tO {X:Cx} {o i value:Expr} {pos pos':Pos} {td ty tv:TE} (hu:X.A.units+64 < cLine) (ho:JE X o td) (hi:JE X i ty) (hv:JE X value tv) (hs:swapsWith value (some (.Subscript o i pos')) pos.line X.env=pure false) :
  JS X (.Assign [.Subscript o i pos'] value pos) (DE X.K td ty tv):=⟨by
 intro pins s σ H D I h;refine wpAny_Assign_Subscript (thn (hv.h pins s σ H _ I h) fun r s1 ⟨v,H1,I1,rv,q1⟩=>thn (ho.h pins s1 σ H1 _ I1 q1) fun u s2 ⟨x,H2,I2,rx,q2⟩=>thn (hi.h pins s2 σ H2 _ I2 q2) fun iv s3 ⟨y,H3,I3,ry,k,p,ep,xs,⟨F,kvs,ex,ea,r,hk,hk6'⟩,hl,q3⟩=>?_) hs;subst ex;obtain rfl:u=Value.ref p:=rx;obtain ⟨as,rk⟩:=hk.reads I3 (hU _ (fH.mp hk6').1) ry
 exact EZ (by omega) I3 ea (qp I3 r) rk (qF hk hk6') ry rv hl fun ep' s4 I4=>⟨σ,_,I4,q3 ep'⟩⟩
theorem wX {F:Addr->Prop} {H:Hp} {a:Addr} {o o':HO} (ha:F a) (e:H a=some o') (w:Wr o'=true):Pr F H (upd H a o):=fun b u q n=>by
 by_cases y:b=a
 ·subst y;rcases n with n | n
  ·exact absurd ha n
  ·rw [e] at q;cases q;rw [n] at w;cases w
 ·rw [ak y];exact q
theorem wz {K:Fg} {F:Addr->Prop} {H:Hp} {d:PyData} {a:Addr} (h:isL d=true) (t:Top K F H d a):tyV K "list" (.ref a) H:=by
 cases d with
 | list ds=>obtain ⟨xs,e,_⟩:=t;exact .inl ⟨rfl,xs,.inl (.inl e)⟩
 | _=>cases h
noncomputable def zI:Mtr where
 T := "list"
 r:=fun _=>sL
 ty:=isL
 f:=fun d as=>match d,as with
  | .list xs,[(true,x)]=>if xs.length < sizeLine then some (.list (xs++[x]),.none) else none
  | _,_=>none
 As:=fun K F H d a h t=>wz h t
 ok:=fun K F H d a as vs d' x Q hf ha ht hv q=>by
  split at hf
  ·split at hf
   ·rename_i hl;cases hf;obtain ⟨v,r,rfl,hv,rfl⟩:=hv;obtain ⟨xs,ea,z,rx⟩:=ht;refine ⟨a,xs,v,rfl,rfl,ea,by rw [rx.len];exact hl,q _ _ (fun b o n e=>by rw [ak n];exact e) ⟨_,ar,by rw [HY,rx.len];simp;omega,(rx.snoc hv).pr (wX ha ea rfl) fun _ z=>z⟩ rfl⟩
   ·cases hf
  ·cases hf
noncomputable def strsOf:List PyData->Option (List Str)
 | []=>some []
 | .str x :: r=>match strsOf r with | some xs=>some (x :: xs) | none=>none
 | _ :: _=>none
theorem o4 {K:Fg} {F:Addr->Prop} {H:Hp}:∀ {ds:List PyData} {xs:List V} {ss:List Str},strsOf ds=some ss->DmL K F H ds xs->xs=ss.map V.str/\∀ s∈ss,PyData.strOk s=true
 | [],xs,bs,h,q=>by cases h;exact ⟨q,fun s z=>by cases z⟩
 | .str b :: r,xs,bs,h,q=>by
  unfold strsOf at h;split at h
  ·rename_i bs' h';cases h;obtain ⟨v,vr,rfl,h1,h2⟩:=q;obtain ⟨i1,i2⟩:=o4 h' h2;refine ⟨by rw [i1,show v=.str b from h1.1];rfl,fun s z=>?_⟩;rcases Il.mp z with rfl | z
   ·exact h1.2.2
   ·exact i2 s z
  ·cases h
 | .none :: r,xs,bs,h,q=>by cases h
 | .int _ :: r,xs,bs,h,q=>by cases h
 | .bool _ :: r,xs,bs,h,q=>by cases h
 | .list _ :: r,xs,bs,h,q=>by cases h
 | .tuple _ :: r,xs,bs,h,q=>by cases h
 | .dict _ :: r,xs,bs,h,q=>by cases h
theorem xc {K:Fg} {F:Addr->Prop} {H:Hp}:∀ {ns:List Int},DmL K F H (ns.map .int) (ns.map .int)
 | []=>rfl
 | n :: ns=>⟨_,_,rfl,rfl,xc⟩
theorem Cc {f:Fn} {K:Fg} {H:Hp} {a:Addr} {ns:List Int} (hm:f.ms=[.dat]) (hl:ns.length<=63) (hS:SqL K H a (ns.map V.int)) (hF:f.F [.list (ns.map .int)]=some (.dat (.bool true),[])):cB f K [.ref a] H (fun v _=>v=.bl true) fun _ _ _=>False:=by
 refine ⟨fun _=>False,[.list (ns.map .int)],[],.dat (.bool true),[],hF,?_,fun _ h=>absurd h id,fun v' H' _ r=>r.1⟩;rw [hm];refine ⟨⟨a,ns.map .int,rfl,?_,?_,xc⟩,rfl⟩
 ·rcases hS with hS | hS
  ·exact .inl ⟨id,hS⟩
  ·exact .inr hS
 ·rw [HS];exact Iy hl (by decide)
open PySem PySem.Spec PyProof.Rows
noncomputable def jZ (d:PyData):Bool:=noD d&&decide (d.depth<=32)
noncomputable def bC (ds:List PyData) (x:PyData):Bool:=ds.any fun d=>PyData.eqv d x
noncomputable def ngB (neg b:Bool):Bool:=if neg then !b else b
def Hi (neg:Bool) (K:Fg):R2:=rOr (fun x y H Q=>∃ i j,x=.str i/\y=.str j/\Q (.bl (ngB neg (!(Builtin.Str.occurrences j i 0 j.length 1).isEmpty))) H)
 fun x y H Q=>∃ (p:Addr) (xs:List V) (F:Addr->Prop) (d:PyData) (ds:List PyData),y=.ref p/\(SqL K H p xs\/SqT K H p xs)/\Vw K F H d x/\DmL K F H ds xs/\jZ d=true/\c7 ds=true/\Q (.bl (ngB neg (bC ds d))) H
noncomputable def inD (neg:Bool):PyData->PyData->Option PR
 | .str i,.str j=>some (.dat (.bool (ngB neg (!(Builtin.Str.occurrences j i 0 j.length 1).isEmpty))))
 | x,.list ds=>if jZ x=true/\c7 ds=true then some (.dat (.bool (ngB neg (bC ds x)))) else none
 | x,.tuple ds=>if jZ x=true/\c7 ds=true then some (.dat (.bool (ngB neg (bC ds x)))) else none
 | _,_=>none
noncomputable def F9 (neg:Bool):Prm:=Prm.two (Hi neg) (inD neg) fun K F H x y u v pr Q hf hx hy hd q=>by
 unfold inD at hf;split at hf
 ·cases hf;exact .inl ⟨_,_,(vStr hx).1,(vStr hy).1,q _ H (aJ.rf H) rfl⟩
 ·split at hf
  ·rename_i h;cases hf;obtain ⟨a,us,rfl,s1,z1,d1⟩:=kT hy;exact .inr ⟨a,us,F,_,_,rfl,.inl s1,hx,d1,h.1,h.2,q _ H (aJ.rf H) rfl⟩
  ·cases hf
 ·split at hf
  ·rename_i h;cases hf;obtain ⟨a,us,rfl,s1,z1,d1⟩:=tw hy;exact .inr ⟨a,us,F,_,_,rfl,.inr s1,hx,d1,h.1,h.2,q _ H (aJ.rf H) rfl⟩
  ·cases hf
 ·cases hf
noncomputable abbrev inP:Prm:=F9 false
noncomputable abbrev fA:Prm:=F9 true
open Classical in
noncomputable def eqR (h:Heap) (x:PyData) (u:Value):Bool:=if q:∃ d as,Reads h u d as then PyData.eqv (Classical.choose q) x else false
theorem wx {h:Heap} {x d:PyData} {u:Value} {as:List Addr} (r:Reads h u d as):eqR h x u=PyData.eqv d x:=by
 have q:∃ d as,Reads h u d as:=⟨d,as,r⟩;unfold eqR;rw [dif_pos q];obtain ⟨bs,r2⟩:=Classical.choose_spec q;rw [(PySem.Reads.unique r _ _ r2).1]
section
variable {X:Cx} {pins:List (Addr×Obj)} {σ:St} {s:Shared} {H:Hp} {F:Addr->Prop}
theorem jE (I:Inv X pins σ H s) (x:PyData):∀ {ds:List PyData} {xs:List V} {us:List Value},DmL X.K F H ds xs->c7 ds=true->Vals xs us->us.any (eqR s.heap x)=bC ds x
 | [],xs,us,h,_,r=>by rw [show xs=[] from h] at r;cases r;rfl
 | d :: ds,xs,us,h,n,r=>by
  obtain ⟨v,t,rfl,h1,h2⟩:=h;have n':noD d=true/\c7 ds=true:=by simpa [c7] using n
  cases r with
  | cons r1 r2 =>
   obtain ⟨as,ra⟩:=h1.reads I n'.1 r1;rw [Ki,wx ra,jE I x h2 n'.2 r2];rfl
theorem jk (I:Inv X pins σ H s) {A:Around} {x:PyData} {b:Value} {bs:List Addr} (rb:Reads s.heap b x bs) (hb:x.canLay0=true) (hu:A.units+x.depth < cLine):∀ {ds:List PyData} {xs:List V} {us:List Value},DmL X.K F H ds xs->c7 ds=true->Vals xs us->∀ u∈us,SeqAt.EqAt A s u b (eqR s.heap x u)
 | [],xs,us,h,_,r=>by rw [show xs=[] from h] at r;cases r;intro u hu;cases hu
 | d :: ds,xs,us,h,n,r=>by
  obtain ⟨v,t,rfl,h1,h2⟩:=h;have n':noD d=true/\c7 ds=true:=by simpa [c7] using n
  cases r with
  | cons r1 r2 =>
   intro u hm;rcases Il.mp hm with rfl | hm
   ·obtain ⟨as,ra⟩:=h1.reads I n'.1 r1;rw [wx ra];exact SeqAt.eqAt_reads d x A s _ b as bs ra rb (h1.lay n'.1) hb (by omega)
   ·exact jk I rb hb hu h2 n'.2 r2 u hm
end
theorem cF {X:Cx} (hu:X.A.units+64 < cLine):OpR X (compareOp .In) (fun x y=>inP.r X.K [x,y]):=by
 refine orR B7 ?_;intro pins s σ H x y v u Q I rx ry h;obtain ⟨p,xs,F,d,ds,rfl,hq,hd,hs,o1,o2,q⟩:=h;have o1':noD d=true/\d.depth<=32:=by simpa [jZ] using o1
 cases ry;obtain ⟨bs,rb⟩:=hd.reads I o1'.1 rx;rcases hq with hq | hq
 ·obtain ⟨its,r,pl,hz⟩:=I.list hq;refine SeqAt.in_listAt (eqR s.heap d) pl.isList (fun w hw=>jk I rb (hd.lay o1'.1) (by have:X.A.in1.units=X.A.units+1:=rfl;omega) hs o2 r w (by simpa using hw)) ⟨.bl _,H,I,rfl,?_⟩;rw [show its.toArray.any (eqR s.heap d)=its.any (eqR s.heap d) by simp,jE I d hs o2 r];exact q
 ·obtain ⟨its,r,pl,hz⟩:=I.tuple hq;refine SeqAt.in_tupleAt (eqR s.heap d) pl (fun w hw=>jk I rb (hd.lay o1'.1) (by have:X.A.in1.units=X.A.units+1:=rfl;omega) hs o2 r w (by simpa using hw)) ⟨.bl _,H,I,rfl,?_⟩;rw [show its.toArray.any (eqR s.heap d)=its.any (eqR s.heap d) by simp,jE I d hs o2 r];exact q
theorem cg {X:Cx} (hu:X.A.units+64 < cLine):OpR X (compareOp .NotIn) (fun x y=>fA.r X.K [x,y]):=by
 refine orR uF ?_;intro pins s σ H x y v u Q I rx ry h;obtain ⟨p,xs,F,d,ds,rfl,hq,hd,hs,o1,o2,q⟩:=h;have o1':noD d=true/\d.depth<=32:=by simpa [jZ] using o1
 cases ry;obtain ⟨bs,rb⟩:=hd.reads I o1'.1 rx;rcases hq with hq | hq
 ·obtain ⟨its,r,pl,hz⟩:=I.list hq;refine SeqAt.notIn_listAt (eqR s.heap d) pl.isList (fun w hw=>jk I rb (hd.lay o1'.1) (by have:X.A.in1.units=X.A.units+1:=rfl;omega) hs o2 r w (by simpa using hw)) ⟨.bl _,H,I,rfl,?_⟩;rw [show its.toArray.any (eqR s.heap d)=its.any (eqR s.heap d) by simp,jE I d hs o2 r];exact q
 ·obtain ⟨its,r,pl,hz⟩:=I.tuple hq;refine SeqAt.notIn_tupleAt (eqR s.heap d) pl (fun w hw=>jk I rb (hd.lay o1'.1) (by have:X.A.in1.units=X.A.units+1:=rfl;omega) hs o2 r w (by simpa using hw)) ⟨.bl _,H,I,rfl,?_⟩;rw [show its.toArray.any (eqR s.heap d)=its.any (eqR s.heap d) by simp,jE I d hs o2 r];exact q
open PySem PySem.Spec PyProof.Rows
noncomputable def iI (ww:World):Bool:=ww.params.followText "set-order"
structure C0 (ww:World) (tb:SetTable) (n:Nat):Prop where
 fit:tb.fits n=true
 led:tb.led=!iI ww
 pln:n≠0->tb.plain=false
theorem lj (tb:SetTable) (n:Nat):(tb.orStandIn n).led=tb.led:=by
 unfold SetTable.orStandIn;split <;> rfl
theorem yW (tb:SetTable) (es:Array (Int×Value)) (hs:Int) (x:Value):(layNew tb es hs x).2.1.led=tb.led:=by
 unfold layNew;cases q:tb.freeSlot hs with
 | none=>rfl
 | some p =>
  obtain ⟨sl,wd⟩:=p;exact lj _ _
theorem q5 (tb:SetTable) (es:Array (Int×Value)) (k:Nat):(relayAll tb es k).2.1.led=tb.led/\(tb.plain=false->(relayAll tb es k).2.1.plain=false):=by
 unfold relayAll;cases q:tb.relaid (es.map (·.1)) k with
 | none=>exact ⟨rfl,fun _=>rfl⟩
 | some p =>
  obtain ⟨t2,ord⟩:=p;dsimp only;split
  ·unfold SetTable.relaid SetTable.laid at q;cases ho:SetTable.layClean (SetTable.sizeAbove k - 1) (es.map (·.1)) with
   | none=>rw [ho] at q;cases q
   | some ow =>
    rw [ho] at q;simp only [Option.bind_eq_bind,Option.bind_some,Option.pure_def,Option.some.injEq,Prod.mk.injEq] at q;obtain ⟨rfl,_⟩:=q;exact ⟨rfl,fun z=>z⟩
  ·exact ⟨rfl,fun _=>rfl⟩
def dO (pr:Program) (ww:World) (h:Heap) (a:Addr) (ss:List Str):Prop :=
 ∃ ob es ep tb,h.get? a=some ob/\ob.ExactSet/\ob.data=.set es ep tb/\ElemsOf (strKind pr ww) es.toList/\(∃ zs,StrsAre (es.toList.map (·.2)) zs/\zs.Perm ss)/\es.size < scanBound/\C0 ww tb es.size
noncomputable def fk (ss:List Str) (x:Str):List Str:=if x∈ss then ss else ss++[x]
theorem pL {x:Str}:∀ {es:List (Int×Value)} {zs:List Str},StrsAre (es.map (·.2)) zs->((∃ e∈es,Value.isStrOf x e.2=true)↔x∈zs)
 | [],[],_=>by simp
 | e :: es,_,h=>by
  obtain ⟨hs,v⟩:=e;rw [List.map_cons] at h;cases h with
  | cons y tk h =>
   have ih:=pL (x:=x) h;have hd:Value.isStrOf x (.str y tk)=true↔x=y:=by
    constructor
    ·intro q;obtain ⟨_,q⟩:=Value.isStrOf_shape q;injection q with q _;exact q.symm
    ·rintro rfl;simp [Value.isStrOf]
   simp only [Il,exists_eq_or_imp];rw [ih];exact or_congr hd Iff.rfl
theorem cR:∀ {us vs:List Value},us.Perm vs->∀ {zs:List Str},StrsAre vs zs->∃ ws,StrsAre us ws/\ws.Perm zs
 | _,_,.nil,zs,h=>by cases h;exact ⟨[],.nil,.nil⟩
 | _,_,.cons v p,zs,h=>by
  cases h with
  | cons y tk h =>
   obtain ⟨ws,a,b⟩:=cR p h;exact ⟨y :: ws,.cons y tk a,.cons y b⟩
 | _,_,.swap v u l,zs,h=>by
  cases h with
  | cons y tk h =>
   cases h with
   | cons z tk' h=>exact ⟨_,.cons z tk' (.cons y tk h),.swap _ _ _⟩
 | _,_,.trans p q,zs,h=>by
  obtain ⟨ws,a,b⟩:=cR q h;obtain ⟨vs,c,d⟩:=cR p a;exact ⟨vs,c,d.trans b⟩
theorem strs_snoc {x:Str} {tk:Tok}:∀ {us:List Value} {zs:List Str},StrsAre us zs->StrsAre (us++[.str x tk]) (zs++[x])
 | _,_,.nil=>.cons x tk .nil
 | _,_,.cons y t h=>.cons y t (strs_snoc h)
theorem b8:∀ {us:List Value} {zs:List Str},StrsAre us zs->us.length=zs.length
 | _,_,.nil=>rfl
 | _,_,.cons y t h=>by rw [Ik,Ik,b8 h]
section
variable {pr:Program} {ww:World} {AA:Around} {EE:Value->Shared->Prop} {st:Shared}
theorem dO.size {h:Heap} {a:Addr} {ss:List Str} (z:dO pr ww h a ss):∃ ob es ep tb,h.get? a=some ob/\ob.data=.set es ep tb/\es.size=ss.length:=by
 obtain ⟨ob,es,ep,tb,h1,_,h2,_,⟨zs,h3,h4⟩,_⟩:=z;refine ⟨ob,es,ep,tb,h1,h2,?_⟩;have:=b8 h3;rw [HS,Jc] at this;rw [this,h4.length_eq]
theorem uB {a:Addr} {ob:Obj} {es es':Array (Int×Value)} {ep:Nat} {tb tb':SetTable} {ss:List Str} {h:Heap} (ho:h.get? a=some ob) (hx:ob.ExactSet) (hd:ob.data=.set es ep tb)
  (he:ElemsOf (strKind pr ww) es'.toList) (hz:∃ zs,StrsAre (es'.toList.map (·.2)) zs/\zs.Perm ss) (hb:es'.size < scanBound) (ht:C0 ww tb' es'.size) :
  (h.update a (Obj.putSet es' tb')).get? a=some { ob with data:=.set es' (ep+1) tb' }/\dO pr ww (h.update a (Obj.putSet es' tb')) a ss:=by
 have hg:(h.update a (Obj.putSet es' tb')).get? a=some { ob with data:=.set es' (ep+1) tb' }:=by
  have q:=Jh (Obj.putSet es' tb') ho (by rw [putSet_of es' tb' hd];rfl);rw [putSet_of es' tb' hd] at q;exact q
 exact ⟨hg,_,es',ep+1,tb',hg,hx,rfl,he,hz,hb,ht⟩
theorem xb {gg:Bool->Sem Unit} (hg:∀ (b:Bool) (s1:Shared) (Q':Unit->Shared->Prop),Q' () s1->wpAny (model pr ww) AA (gg b) Q' EE s1)
  {a:Addr} {ob:Obj} {es e1:Array (Int×Value)} {ep:Nat} {tb t2:SetTable} {ss:List Str} {wd:Bool} {RR:Option Bool->Shared->Prop} (ho:st.heap.get? a=some ob) (hx:ob.ExactSet) (hd:ob.data=.set es ep tb)
  (he:ElemsOf (strKind pr ww) e1.toList) (hz:∃ zs,StrsAre (e1.toList.map (·.2)) zs/\zs.Perm ss) (hb:e1.size < scanBound) (ht:C0 ww t2 e1.size) (hp:t2.plain=false)
  (h:∀ h',Heap.SameBut a st.heap h'->dO pr ww h' a ss->RR (some true) { st with heap:=h' }) :
  wpAny (model pr ww) AA (do
    storeSet a e1 t2
    if (!wd&&t2.tooFull)=true then do
      gg (relayAll t2 e1 (SetTable.grown e1.size)).2.2
      storeSet a (relayAll t2 e1 (SetTable.grown e1.size)).1 (relayAll t2 e1 (SetTable.grown e1.size)).2.1
      pure (some true)
     else pure (some true)) RR EE st:=by
 refine HU (wpAny_storeSet_of ho hd ?_ (fits_of_scanBound hb));obtain ⟨ho1,hS1⟩:=uB (pr:=pr) (ww:=ww) ho hx hd he hz hb ht;have sb:=J0 st.heap a (Obj.putSet e1 t2);split
 ·have pm:=relayAll_perm t2 e1 (SetTable.grown e1.size);have ft:=relayAll_fits t2 e1 (SetTable.grown e1.size);have ld:=q5 t2 e1 (SetTable.grown e1.size);generalize relayAll t2 e1 (SetTable.grown e1.size)=Y at pm ft ld ⊢;obtain ⟨e2,t3,gv⟩:=Y;dsimp only at pm ft ld ⊢;have sz:e2.size=e1.size:=by rw [<- Jc,pm.length_eq,Jc]
  have hb2:e2.size < scanBound:=by rw [sz];exact hb
  have hz2:∃ zs,StrsAre (e2.toList.map (·.2)) zs/\zs.Perm ss:=by
   obtain ⟨zs,z1,z2⟩:=hz;obtain ⟨ws,w1,w2⟩:=cR (pm.map (·.2)) z1;exact ⟨ws,w1,w2.trans z2⟩
  refine HU (hg _ _ _ ?_);refine HU (wpAny_storeSet_of ho1 rfl ?_ (fits_of_scanBound hb2));obtain ⟨_,hS2⟩:=uB (pr:=pr) (ww:=ww) (tb':=t3) ho1 hx rfl (he.perm pm) hz2 hb2 ⟨ft,ld.1.trans ht.led,fun _=>ld.2 hp⟩;exact HV (h _ (sb.trans (J0 _ a _)) hS2)
 ·exact HV (h _ sb hS1)
theorem FL {a:Addr} {ss:List Str} {x:Str} {tk:Tok} {Q:Bool->Shared->Prop} (hS:dO pr ww st.heap a ss) (room:ss.length+1 < scanBound)
  (h:∀ b h',Heap.SameBut a st.heap h'->dO pr ww h' a (fk ss x)->Q b { st with heap:=h' }) :
  wpAny (model pr ww) AA (setAddHashed a (.str x tk) (hashStr ww x)) Q EE st:=by
 obtain ⟨ob,es,ep,tb,ho,hx,hd,he,⟨zs,hz1,hz2⟩,hb,ht⟩:=hS;have key:(strKind pr ww).is x (.str x tk)=true:=by show Value.isStrOf x (.str x tk)=true;simp [Value.isStrOf]
 have sc:(Value.str x tk).scannable=true:=rfl;have sz:es.size=ss.length:=by
  have:=b8 hz1;rw [HS,Jc] at this;rw [this,hz2.length_eq]
 unfold setAddHashed setAddHashedIn;refine II (HU (Kb ho hd ht.fit ?_));dsimp only;rw [byScan_of sc hb he];simp only [↓reduceIte];unfold setAddByScan;refine HU ?_;refine HU (JJ ?_);refine HU (wpAny_setScan_of (knd:=strKind pr ww) (k:=x) key ho hd ht.fit he ?_);have mem:(∃ e∈es.toList,Value.isStrOf x e.2=true)↔x∈ss:=(pL hz1).trans hz2.mem_iff;cases hr:List.findIdx? (fun e:Int×Value=>(strKind pr ww).is x e.2) es.toList with
 | some j =>
  dsimp only;obtain ⟨hj,hpj,_⟩:=List.findIdx?_eq_some_iff_getElem.mp hr;have hin:x∈ss:=mem.mp ⟨es.toList[j],List.getElem_mem hj,hpj⟩;refine HV (HV ?_);have q:=h false st.heap (Heap.SameBut.refl a st.heap) ⟨ob,es,ep,tb,ho,hx,hd,he,⟨zs,hz1,by unfold fk;rw [Io hin];exact hz2⟩,hb,ht⟩;cases st;exact q
 | none =>
  dsimp only;have hin:x ∉ ss:=fun hh=>by
   obtain ⟨e,hm,hp⟩:=mem.mpr hh;have:=List.findIdx?_eq_none_iff.mp hr e hm;rw [show (strKind pr ww).is x e.2=true from hp] at this;cases this
  have gw:∀ (b:Bool) (s1:Shared) (Q':Unit->Shared->Prop),Q' () s1->wpAny (model pr ww) AA (match b with | true=>rule "set.scan.the-table-gave-way" | false=>pure ()) Q' EE s1 :=
   fun b s1 Q' hq=>by cases b <;> first | exact HV hq | exact JJ hq
  have pm:=layNew_perm tb es (hashStr ww x) (.str x tk);have ft:=layNew_fits tb es (hashStr ww x) (.str x tk);have ld:=yW tb es (hashStr ww x) (.str x tk);have hkk:(strKind pr ww).hash x=hashStr ww x:=rfl;generalize layNew tb es (hashStr ww x) (.str x tk)=Y at pm ft ld ⊢;obtain ⟨e1,t1,wd,gv⟩:=Y;dsimp only at pm ft ld ⊢;rw [Ke] at pm;have he1:ElemsOf (strKind pr ww) e1.toList:=(he.push key sc).perm pm;have sz1:e1.size=ss.length+1:=by rw [<- Jc,pm.length_eq,HY,Jc,sz];rfl
  have hz':∃ zs,StrsAre (e1.toList.map (·.2)) zs/\zs.Perm (fk ss x):=by
   have p2:=pm.map (·.2);rw [Ig] at p2;obtain ⟨ws,w1,w2⟩:=cR p2 (strs_snoc (x:=x) (tk:=tk) hz1);refine ⟨ws,w1,w2.trans ?_⟩;unfold fk;rw [Iv hin];exact hz2.append_right _
  have hb1:e1.size < scanBound:=by rw [sz1];exact room
  refine HU (gw _ _ _ ?_);split
  ·refine HU ?_;rw [hashByValue_scannable 8 sc];refine HV ?_;refine xb (gg:=fun b=>match b with | true=>rule "set.scan.the-table-gave-way" | false=>pure ()) gw ho hx hd he1 hz' hb1 (t2:={ t1 with plain:=false }) ⟨SetTable.fits_plain_off ft,ld.trans ht.led,fun _=>rfl⟩ rfl ?_;intro h' sb hS';dsimp only;exact HV (h _ h' sb hS')
  ·rename_i npl;have npl:t1.plain=false:=by simpa using npl
   refine HU (HV ?_);simp only [↓reduceIte];refine xb (gg:=fun b=>match b with | true=>rule "set.scan.the-table-gave-way" | false=>pure ()) gw ho hx hd he1 hz' hb1 (t2:=t1) ⟨ft,ld.trans ht.led,fun _=>npl⟩ npl ?_;intro h' sb hS';dsimp only;exact HV (h _ h' sb hS')
end
open PySem PySem.Spec PyProof.Rows
noncomputable def vh (val:Nat->Str) (i:Nat):List Str:=((List.range i).map val).foldl fk []
theorem mI (val:Nat->Str) (i:Nat):vh val (i+1)=fk (vh val i) (val i):=by
 unfold vh;rw [List.range_succ,Ig,List.foldl_append];rfl
theorem qa (val:Nat->Str):∀ i,(vh val i).length<=i
 | 0=>Ia _
 | i+1=>by
  have ih:=qa val i;rw [mI];unfold fk;split
  ·omega
  ·rw [HY];show _+1<=_;omega
section
variable {pr:Program} {ww:World} {AA:Around} {RR:Result->Shared->Prop} {IT:Addr} {fp wr:List Addr} {GG:Array GenState->Array GenState->Prop} {n:Nat} {PP:Nat->Value->Prop} {SS:Nat->Shared->Prop}
theorem dO.at {h h':Heap} {a:Addr} {ss:List Str} (z:dO pr ww h a ss) (k:∀ o,h.get? a=some o->h'.get? a=some o):dO pr ww h' a ss:=by
 obtain ⟨ob,es,ep,tb,ho,r⟩:=z;exact ⟨ob,es,ep,tb,k _ ho,r⟩
theorem DS (W:WalksS pr ww AA.in1 IT fp wr GG n PP SS) (a:Addr) (ha:a ∉ fp) (val:Nat->Str) (hv:∀ i v,PP i v->∃ t,v=.str (val i) t) (hb:n+1 < scanBound) :
  ∀ (k i:Nat) (s:Shared),n - i=k->i<=n->SS i s->dO pr ww s.heap a (vh val i) ->
   (∀ s',Moved (a :: wr) GG s s'->dO pr ww s'.heap a (vh val n)->RR (.ok (.ret .none)) s') ->
   codeAny (model pr ww) AA (.builtin "set.update.loop" ⟨[.ref a,.ref IT],[]⟩) RR s:=by
 have haw:a ∉ wr:=fun z=>ha (W.sub _ z);have hsb:∀ b∈wr,b∈a :: wr:=fun b z=>Ie _ z;intro k;induction k with
 | zero =>
  intro i s hk hi hst hS hR;obtain rfl:i=n:=by omega
  refine JN F.entry_set_update_loop ?_;rw [JD F.plain_set_update_loop _];show wpAny _ AA.in1 (pyNext (.ref IT)>>=_) _ _ s;refine HU (W.done s _ _ hst fun s' hm=>?_);exact HV (hR s' (hm.mono hsb) (hS.at fun o q=>hm.heap a _ haw q))
 | succ k ih =>
  intro i s hk hi hst hS hR;have hlt:i < n:=by omega
  refine JN F.entry_set_update_loop ?_;rw [JD F.plain_set_update_loop _];show wpAny _ AA.in1 (pyNext (.ref IT)>>=_) _ _ s;refine HU (W.item i s _ _ hlt hst fun v s' hP hst' hm=>?_);obtain ⟨t,rfl⟩:=hv i v hP;have hS':dO pr ww s'.heap a (vh val i):=hS.at fun o q=>hm.heap a _ haw q;show wpAny _ AA.in1 (holding [Value.str (val i) t] (setAdd a (.str (val i) t))>>=_) _ _ s';refine HU (II ?_);unfold setAdd;refine II ?_;refine HU ((strKind pr ww).pyHash (k:=val i) (by show Value.isStrOf (val i) (.str (val i) t)=true;simp [Value.isStrOf]) ?_);refine FL (st:={ s' with toks:=s'.toks+1 }) hS' (by have:=qa val i;omega) fun bb h' hsm hS2=>?_;rw [<- mI] at hS2;refine HV ⟨Kz F.plain_set_update_loop _,ih (i+1) _ (by omega) hlt (W.frame _ s' _ _ hst' (Ka _) fun b hb o e=>?_) hS2 fun s'' hm'' hS''=>?_⟩
  ·rw [hsm.2 b (fun z:b=a=>ha (by rw [<- z];exact hb))];exact e
  ·refine hR s'' (Moved.trans W.gtrans ((hm.mono hsb).then_heap (Ka _) fun b o hb e=>?_) hm'') hS'';rw [hsm.2 b (fun z:b=a=>hb (by rw [z];exact Ip))];exact e
end
theorem uk:∀ {us:List Value} {zs:List Str},StrsAre us zs->∀ (i:Nat) (v:Value),us[i]?=some v->∃ t,v=.str (zs.getD i Str.empty) t
 | _,_,.nil,i,v,h=>by simp at h
 | _,_,.cons y t h,0,v,q=>by
  simp only [List.getElem?_cons_zero,Option.some.injEq] at q;exact ⟨t,q.symm⟩
 | _,_,.cons y t h,i+1,v,q=>by
  simp only [List.getElem?_cons_succ] at q;exact uk h i v q
theorem map_getD (ss:List Str):(List.range ss.length).map (fun i=>ss.getD i Str.empty)=ss:=by
 apply List.ext_getElem
 ·simp
 ·intro i h1 h2;simp [h2]
section
variable {pr:Program} {ww:World} {AA:Around} {EE:Value->Shared->Prop} {st:Shared}
noncomputable abbrev iM (ww:World):Obj:={ cls:=.type "set", dict:=none,data:=.set #[] 0 (.fresh 0 0 (!iI ww)) }
theorem Ew (v:Value) {Q:Value->Shared->Prop} (h:Q (.ref st.heap.objs.size) { st with heap:=st.heap.push (iM ww) }) :
  codeAny (model pr ww) AA (.call (.builtin "set.__new__") ⟨[.type "set", v],[]⟩) (wants Q EE) st:=by
 refine codeAny_of_tree ?_;show wpAny _ AA.in1 (do checkBuiltinCall "set.__new__" ⟨[.type "set", v],[]⟩;again (.builtin "set.__new__" ⟨[.type "set", v],[]⟩)) _ _ st;refine HU (wpAny_of_eq (F.newCall_set_1 v) (HV ⟨Kz F.plain_set_new _,JN F.entry_set_new ?_⟩));rw [JD F.plain_set_new _];unfold Builtin.«set.__new__» Builtin.Frozenset.newClass
 have hsub:=sub_set_self;obtain ⟨h0,g0,d0,t0,o0⟩:=st;dsimp only at h ⊢
 wp_walk
 refine wpAny_askSetting (HV ?_);dsimp only;simp only [newObj];refine HU (wpAny_alloc (HV ?_));exact HV h
theorem yq {h:Heap} {a:Addr} (hg:h.get? a=some (iM ww)):dO pr ww h a [] :=
 ⟨_,#[],0,_,hg,⟨rfl,rfl,rfl⟩,rfl,fun e he=>by simp at he,⟨[],.nil,.nil⟩,by decide,⟨rfl,rfl,fun z=>absurd rfl z⟩⟩
theorem rG {l:Addr} {its:Array Value} {ss:List Str} {Q:Value->Shared->Prop} (hh:AA.handled=none) (hl:st.heap.IsList l its) (hi:StrsAre its.toList ss) (hb:its.size+1 < scanBound)
  (h:∀ (h':Heap) (tk:Nat),dO pr ww h' st.heap.objs.size (ss.foldl fk [])->(∀ b o,b < st.heap.objs.size->st.heap.get? b=some o->h'.get? b=some o)->Q (.ref st.heap.objs.size) { st with heap:=h',toks:=tk }) :
  wpAny (model pr ww) AA (call (.type "set") [.ref l]) Q EE st:=by
 obtain ⟨cc,tl,hmro⟩:=F.called_set.mro;have hmade:=F.called_set.made;have hsub:=F.called_set.sub;refine wpAny_call (codeAny_of_tree ?_);show wpAny _ _ (callAny (.type "set") _) _ _ _;refine HV ⟨Code.quiet_builtin _ (by decide +kernel),JN F.entry_type_call ?_⟩;rw [Around.under_plain (weight_type_call_type "set" [.ref l] []) rfl];have h1:=F.called_set.notType;have h2:=F.called_set.canCreate;have hct:=F.typeCall_set_1 (.ref l)
 repeat (any_goals (first | assumption | wp_step))
 refine codeAny_mono (Ew (.ref l) (EE:=EE) (Q:=fun obj s1=>obj=.ref st.heap.objs.size/\s1={ st with heap:=st.heap.push (iM ww) }) ⟨rfl,rfl⟩) fun r s1 hr=>?_;cases r with
 | error e=>exact hr
 | ok fl =>
  cases fl with
  | ret obj =>
   obtain ⟨rfl,rfl⟩:=hr;have hS:(st.heap.push (iM ww)).get? st.heap.objs.size=some (iM ww):=Iq _ rfl;have hT:Shared.TypeIs { st with heap:=st.heap.push (iM ww) } (.ref st.heap.objs.size) "set" := ⟨_,hS,rfl⟩;have hli:=F.called_set.init.lookup;have hbi:=F.called_set.init.bind (.ref st.heap.objs.size)
   repeat (any_goals (first | assumption | wp_step))
   refine codeAny_mono (codeAny_call_builtin (R:=wants (fun r s2=>r=.none/\∃ h' tk,s2={ st with heap:=h',toks:=tk }/\dO pr ww h' st.heap.objs.size (ss.foldl fk []) /\
     (∀ b o,b < st.heap.objs.size->st.heap.get? b=some o->h'.get? b=some o)) EE) F.called_set.init.plain F.entry_set_init (check_set_init_1 hT ?_)) fun r2 s2 hr2=>?_
   ·obtain ⟨ol,hol,hcl,nl,hdl⟩:=hl;obtain ⟨c1,c2,c3,c4⟩:=ol;simp only at hcl hdl;subst hcl;subst hdl;have hol2:(st.heap.push (iM ww)).get? l=some { cls:=.type "list", dict:=c2,data:=.seq its nl,slots:=c4 }:=H0 _ hol;have hsls:=F.sub_list_set;have hslf:=F.sub_list_frozenset;have hne:(Value.type "list" == Value.type "dict")=false:=by decide
    have hl1:(st.heap.push (iM ww)).IsList l its:=⟨_,hol2,rfl,nl,rfl⟩;unfold Builtin.«set.__init__» noKeywords Builtin.Frozenset.updateFrom
    generalize hPI:pyIter=PI
    wp_walk
    subst hPI;refine Kw hl1 ?_;refine HU (wpAny_runValue ?_);have hlS:l < st.heap.objs.size:=Im hol;have hh3:AA.in1.in1.in1.handled=none:=by simp [hh]
    have sz1:(st.heap.push (iM ww)).objs.size=st.heap.objs.size+1:=Heap.size_push ..;have hneI:l≠(st.heap.push (iM ww)).objs.size:=by rw [sz1];exact IC (Jx hlS)
    have hSf:st.heap.objs.size ∉ [(st.heap.push (iM ww)).objs.size,l]:=by
     rw [sz1];simp only [Il,Ib,JZ,Jq,not_or];exact ⟨IC (Kg _),KH hlS⟩
    have hval:∀ (i:Nat) (v:Value),its[i]?=some v->∃ t,v=.str ((fun i=>ss.getD i Str.empty) i) t:=fun i v hv=>uk hi i v (by rw [JU];exact hv);have hmet:vh (fun i=>ss.getD i Str.empty) its.size=ss.foldl fk []:=by
     have e1:its.size=ss.length:=by rw [<- b8 hi,Jc]
     rw [e1];unfold vh;rw [map_getD]
    refine DS ((Walks.list hh3 _ l hneI its).toS) st.heap.objs.size hSf (fun i=>ss.getD i Str.empty) hval hb (its.size - 0) 0 _ (by omega) (IV _)
     ⟨⟨_,Iq _ rfl,rfl,rfl⟩,(hl1.push _)⟩ (yq (H0 _ hS)) ?hR
    intro s' hm hS';rw [hmet] at hS';obtain ⟨h',g',d',tk',os'⟩:=s';have eg:g'=st.gens:=hm.gens;have ed:d'=st.drawn:=hm.drawn;have eo:os'=st.os:=hm.os;subst eg;subst ed;subst eo;show wpAny _ _ _ _ _ _;refine HV ?_;show wpAny _ _ (ret Value.none) _ _ _;refine HV ⟨rfl,h',tk',rfl,hS',fun b o hb e=>?_⟩;have hb1:b≠st.heap.objs.size:=IC hb;have hb2:b≠(st.heap.push (iM ww)).objs.size:=by rw [sz1];exact IC (Jx hb)
    exact hm.heap b o (by simp only [Il,Ib,JZ,Jq,not_or];exact ⟨hb1,hb2⟩) (H0 _ (H0 _ e))
   ·cases r2 with
    | error e=>exact hr2
    | ok fl2 =>
     cases fl2 with
     | ret r =>
      obtain ⟨rfl,h',tk,rfl,hS',hk'⟩:=hr2
      repeat (any_goals (first | assumption | wp_step))
      exact h _ _ hS' hk'
     | _=>exact hr2.elim
  | _=>exact hr.elim
end
open PySem PySem.Spec PyProof.Rows
namespace SF
theorem fK:Slot "set_iterator" "__next__" "set_iterator.__next__" :=
 .of (owner := "set_iterator") (n := "__next__") (by rw [typeLookup_type,KN];kernel_rfl) (by decide +kernel) (by decide +kernel) (by decide +kernel) (by first | exact .inl (by decide +kernel) | exact .inr (by decide +kernel)) (by rw [isSubtype_type];kernel_rfl)
theorem qQ:entryFor table "set_iterator.__next__" = some Builtin.«set_iterator.__next__»:=entryFor_of_tree (by kernel_rfl)
theorem rm (v:Value):argsOk "set_iterator.__next__" ⟨[v],[]⟩:=by kernel_rfl
theorem yS:entryFor table "set.__iter__" = some Builtin.«frozenset.__iter__»:=entryFor_alias (id' := "frozenset.__iter__") (by kernel_rfl) rfl (by decide +kernel) (by kernel_rfl)
theorem x9:typeLookup (.type "set") "__len__" = pure (some (.builtin "set.__len__")):=by rw [typeLookup_type,KN];kernel_rfl
end SF
theorem FV {M:Model} {AA:Around} {EE:Value->Shared->Prop} {st:Shared} {src:Source} {n:Nat} {Q:Nat->Shared->Prop} (hn:n≠0) (h:∀ k d',k < n->Q k { st with drawn:=d' }):wpAny M AA (choose src n) Q EE st:=fun _ _ _=>by
 unfold choose;exact ⟨hn,h _ _ (Nat.mod_lt _ (Nat.pos_of_ne_zero hn))⟩
theorem gX {α:Type}:∀ (xs:List α) (i:Nat) (h:i < xs.length),(xs[i] :: xs.eraseIdx i).Perm xs
 | x :: xs,0,h=>by simp
 | x :: xs,i+1,h=>by
  have ih:=gX xs i (by simpa using h);simp only [List.getElem_cons_succ,List.eraseIdx_cons_succ];exact (List.Perm.swap _ _ _).trans (ih.cons x)
theorem uc {α:Type} {M:Model} {AA:Around} {EE:Value->Shared->Prop}:∀ (n:Nat) (xs:List α) {st:Shared} {Q:List α->Shared->Prop},xs.length=n->(∀ ys d',ys.Perm xs->Q ys { st with drawn:=d' })->wpAny M AA (drawOrder n xs) Q EE st
 | 0,xs,st,Q,hn,h=>by
  obtain rfl:xs=[]:=List.length_eq_zero_iff.mp hn;unfold drawOrder;have q:=h [] st.drawn .nil;cases st;exact HV q
 | n+1,[],st,Q,hn,h=>by simp at hn
 | n+1,x :: xs,st,Q,hn,h=>by
  unfold drawOrder;refine HU (FV (by simp) fun k d' hk=>?_);have hk':(x :: xs)[k]?=some (x :: xs)[k]:=HZ hk;rw [hk'];dsimp only;refine HU (uc n _ (by rw [List.length_eraseIdx_of_lt hk,hn];rfl) fun ys d2 hp=>?_);refine HV (h _ d2 ?_);exact (hp.cons _).trans (gX _ _ hk)
theorem rL {α:Type} (nx:Nat->Nat):∀ (f k:Nat) (left:List α) (out:Array α),left.length=f->(pickOrder.go nx f k left out).toList.Perm (out.toList++left)
 | 0,k,left,out,h=>by
  obtain rfl:left=[]:=List.length_eq_zero_iff.mp h;unfold pickOrder.go;simp
 | f+1,k,left,out,h=>by
  unfold pickOrder.go;have hlt:nx k % left.length < left.length:=Nat.mod_lt _ (by omega);rw [HZ hlt];dsimp only;refine (rL nx f (k+1) _ _ (by rw [List.length_eraseIdx_of_lt hlt,h];rfl)).trans ?_;rw [Ke,JB];exact (gX _ _ hlt).append_left _
theorem uh {α:Type} (nx:Nat->Nat) (xs:Array α):(pickOrder nx xs).toList.Perm xs.toList:=by
 unfold pickOrder;have:=rL nx xs.size 0 xs.toList #[] (by simp);simpa using this
theorem v3 (j:Nat):SetTable.below #[j] 0=0/\SetTable.below #[j] (j+1)=1:=by
 unfold SetTable.below;constructor
 ·show SetTable.below.go #[j] 0 1 0 1=0;simp [SetTable.below.go]
 ·show SetTable.below.go #[j] (j+1) 1 0 1=1;simp [SetTable.below.go]
abbrev CL (f0:Value) (i:Nat) (d:Value) (n ep:Nat):Obj:={ cls:=.type "set_iterator", dict:=none,data:=.fields #[f0,.int i 0,d,.int n 0,.int ep 0],slots:=#[] }
def Way (ww:World) (h:Heap) (d:Addr) (es:Array (Int×Value)) (ep:Nat) (tb:SetTable) (vs:List Value) (T:Addr) (f0:Value) (i:Nat):Prop :=
 (iI ww=true/\f0=.int 0 0/\vs=(pickOrder (ww.params.setOrder d ep) es).toList.map (·.2)) \/
 (iI ww=false/\(!tb.plain&&decide (es.size > 1))=true/\∃ ps:List Nat,f0=.ref T/\h.get? T=some { cls:=.type "tuple", data:=.seq (ps.map fun (k:Nat)=>rawInt k).toArray }/\(∀ p∈ps,p < es.size)/\vs=ps.map fun p=>(es.getD p (0,.none)).2) \/
 (iI ww=false/\es.size<=1/\tb.led=true/\(∃ k:Nat,f0=.int k 0/\SetTable.below tb.place k=i)/\vs=es.toList.map (·.2))
section
variable {pr:Program} {ww:World} {AA:Around} {EE:Value->Shared->Prop} {st:Shared}
theorem sbt {Q:Bool->Shared->Prop} (h:Q (iI ww) st):wpAny (model pr ww) AA setsByText Q EE st:=by
 unfold setsByText;exact HU (wpAny_askSetting (HV h))
theorem snA {d:Addr} {ob:Obj} {es:Array (Int×Value)} {ep sl g:Nat} {tb:SetTable} {Q:Option (Value×Nat)->Shared->Prop} (hd:st.heap.get? d=some ob) (hdd:ob.data=.set es ep tb) (hf:tb.fits es.size=true) (hb:iI ww=true)
  (h:Q (((pickOrder (ww.params.setOrder d ep) es)[g]?).map fun e=>(e.2,sl)) st):wpAny (model pr ww) AA (setNext d sl g ep) Q EE st:=by
 unfold setNext;refine HU (Kb hd hdd hf ?_);dsimp only;refine HU (sbt ?_);rw [hb,Io rfl,Iv (by simp)];unfold setWalk;refine HU (HU (Kb hd hdd hf ?_));dsimp only;refine HU (sbt ?_);rw [hb,Io rfl];refine HU (wpAny_askSetting (HV ?_));exact HV h
theorem snC {d:Addr} {ob:Obj} {es:Array (Int×Value)} {ep sl g:Nat} {tb:SetTable} {Q:Option (Value×Nat)->Shared->Prop} (hd:st.heap.get? d=some ob) (hdd:ob.data=.set es ep tb) (hf:tb.fits es.size=true) (hb:iI ww=false) (h1:es.size<=1) (hl:tb.led=true)
  (h:Q (match es[SetTable.below tb.place sl]?,tb.place[SetTable.below tb.place sl]? with | some (_,x),some j=>some (x,j+1) | _,_=>none) st):wpAny (model pr ww) AA (setNext d sl g ep) Q EE st:=by
 unfold setNext;refine HU (Kb hd hdd hf ?_);dsimp only;refine HU (sbt ?_);rw [hb,Iv (by simp)];show wpAny _ _ (if (!tb.plain&&decide (es.size > 1))=true then _ else _) _ _ _;rw [Iv (by have:decide (es.size > 1)=false:=IX (by omega);rw [this,Bool.and_false];simp)];refine HU ?_;show wpAny _ _ (if (!tb.led&&!es.isEmpty)=true then _ else _) _ _ _;rw [hl,Iv (by simp)];refine HV ?_;exact HV h
theorem snB {d:Addr} {ob:Obj} {es:Array (Int×Value)} {ep p:Nat} {tb:SetTable} {Q:Value->Shared->Prop} {e:Int×Value} (hd:st.heap.get? d=some ob) (hdd:ob.data=.set es ep tb) (hf:tb.fits es.size=true) (he:es[p]?=some e)
  (h:Q e.2 st):wpAny (model pr ww) AA (setNextDrawn d p ep) Q EE st:=by
 unfold setNextDrawn;refine HU (Kb hd hdd hf ?_);dsimp only;rw [Iv (by simp),he];exact HV h
theorem Ae {IT d T:Addr} {f0:Value} {i ep:Nat} {es:Array (Int×Value)} {tb:SetTable} {ob:Obj} {vs:List Value} {Q:Option Value->Shared->Prop}
  (hit:st.heap.get? IT=some (CL f0 i (.ref d) es.size ep)) (hd:st.heap.get? d=some ob) (hdd:ob.data=.set es ep tb) (hf:tb.fits es.size=true) (hw:Way ww st.heap d es ep tb vs T f0 i) {v:Value} (hv:vs[i]?=some v)
  (h:∀ f1 h',h'.get? IT=some (CL f1 (i+1) (.ref d) es.size ep)->Heap.SameBut IT st.heap h'->Way ww h' d es ep tb vs T f1 (i+1)->Q (some v) { st with heap:=h' }) :
  wpAny (model pr ww) AA (pyNext (.ref IT)) Q EE st:=by
 have hT:st.TypeIs (.ref IT) "set_iterator" := ⟨_,hit,rfl⟩;unfold pyNext;refine HU (wpAny_attempt (Jk (name:=Str.ofString "__next__") hT SF.fK (IZ SF.fK hT SF.qQ ?_ (SF.rm _))));unfold Builtin.«set_iterator.__next__»
 refine HU (m:=slotArgs "__next__" 0 ⟨[.ref IT],[]⟩) (HV ?_);dsimp only;refine HU (Ks hit rfl ?_);dsimp only;refine HU (wpAny_setEntries_of hd hdd hf ?_);rw [Iv (by simp)];simp only [JV];rcases hw with ⟨hb,rfl,rfl⟩ | ⟨hb,hdr,ps,rfl,hTo,hps,rfl⟩ | ⟨hb,h1,hl,⟨k,rfl,hk⟩,rfl⟩
 ·dsimp only;refine HU (snA hd hdd hf hb ?_);rw [H9,JU] at hv;obtain ⟨e,he,rfl⟩:=Ic.mp hv;rw [he];dsimp only [Option.map_some];refine HU (Ji hit (by simp) fun h1 g1 s1=>?_);refine HU (Ji g1 (by simp) fun h2 g2 s2=>?_);refine HV ⟨_,rfl,HV (h (.int 0 0) h2 ?_ (s1.trans s2) (.inl ⟨hb,rfl,rfl⟩))⟩;exact g2
 ·dsimp only;refine HU (wpAny_seqItems hTo rfl ?_);dsimp only;rw [H9] at hv;obtain ⟨p,hp,hpv⟩:=Ic.mp hv;have hpl:p < es.size:=hps p (Iz hp);have e1:((ps.map fun (k:Nat)=>rawInt k).toArray)[i]?=some (.int p 0):=by
   rw [List.getElem?_toArray,H9,hp];rfl
  rw [e1];dsimp only;have e2:es[p]?=some (es.getD p (0,.none)):=by
   rw [Array.getD_eq_getD_getElem?,Ju hpl];rfl
  refine HU (snB (p:=(p:Int).toNat) hd hdd hf (by rw [JV];exact e2) ?_);refine HU (Ji hit (by simp) fun h1 g1 s1=>?_);have hne:T≠IT:=fun z=>by rw [z,hit] at hTo;exact absurd (congrArg Obj.cls (Ja hTo)) (show ¬(Value.type "set_iterator" = Value.type "tuple") from by decide)
  rw [hpv];exact HV ⟨_,rfl,HV (h (.ref T) h1 g1 s1 (.inr (.inl ⟨hb,hdr,ps,rfl,by rw [s1.2 T hne];exact hTo,hps,rfl⟩)))⟩
 ·dsimp only;refine HU (snC (sl:=(k:Int).toNat) hd hdd hf hb h1 hl ?_);rw [H9,JU] at hv;obtain ⟨e,he,rfl⟩:=Ic.mp hv;have hi:i < es.size:=by
   rcases JK i es.size with z | z
   ·exact z
   ·rw [Array.getElem?_eq_none z] at he;cases he
  obtain rfl:i=0:=by omega
  have hpl:tb.place.size=es.size:=by
   simp only [SetTable.fits,ID,beq_iff_eq] at hf;exact hf.1
  obtain ⟨j,hj⟩:∃ j,tb.place=#[j]:=by
   have:tb.place.size=1:=by omega
   exact Array.size_eq_one_iff.mp this
  rw [JV,hk,he,hj];obtain ⟨hs,x⟩:=e;refine HU (Ji hit (by simp) fun h1 g1 s1=>?_);refine HU (Ji g1 (by simp) fun h2 g2 s2=>?_);exact HV ⟨_,rfl,HV (h (.int ((j+1:Nat):Int) 0) h2 g2 (s1.trans s2) (.inr (.inr ⟨hb,by assumption,hl,⟨j+1,rfl,by rw [hj];exact (v3 j).2⟩,rfl⟩)))⟩
theorem ua {Q:Option Value->Shared->Prop} {IT:Addr} (hh:AA.handled=none) (h:∀ h',Heap.ExtBut IT st.heap h'->Q none { st with heap:=h' }) :
  wpAny (model pr ww) AA.in1 (do
     let z<-newExc (Value.type "StopIteration") []
     raiseNew z:Sem Fin)
  (fun fin s'=>∃ v,fin=Fin.done (Flow.ret v)/\wpAny (model pr ww) AA (pure (some v)) Q EE s')
  (fun e s' =>
   wpAny (model pr ww) AA
    (do
     let z<-isInstance e (Value.type "StopIteration")
     if z=true then pure none else throw e)
    Q EE s')
  st:=by
 refine HU ?_;simp only [newExc,newTuple];refine HU (IU ?_ (by size_fits));refine HU (m:=firstArgMember _ _) (wpAny_of_eq (a:=Value.none) (by first | rfl | (simp only [firstArgMember];rfl)) ?_);refine IU ?_ (by size_fits);simp only [raiseNew];refine HU (wpAny_handled ?_);rw [show AA.in1.handled=none from hh];refine HU (HV (wpAny_throw ?_));refine HU (wpAny_isInstance (T := "StopIteration") (b:=true) ⟨_,Iq _ rfl,rfl⟩ isSubtype_stop ?_);rw [Io rfl];exact HV (h _ fun b o _ e=>H0 _ (H0 _ e))
theorem Ee {IT d T:Addr} {f0:Value} {i ep:Nat} {es:Array (Int×Value)} {tb:SetTable} {ob:Obj} {vs:List Value} {Q:Option Value->Shared->Prop} (hh:AA.handled=none)
  (hit:st.heap.get? IT=some (CL f0 i (.ref d) es.size ep)) (hd:st.heap.get? d=some ob) (hdd:ob.data=.set es ep tb) (hf:tb.fits es.size=true) (hw:Way ww st.heap d es ep tb vs T f0 i) (hv:vs[i]?=none)
  (h:∀ h',Heap.ExtBut IT st.heap h'->Q none { st with heap:=h' }) :
  wpAny (model pr ww) AA (pyNext (.ref IT)) Q EE st:=by
 have hT:st.TypeIs (.ref IT) "set_iterator" := ⟨_,hit,rfl⟩;unfold pyNext;refine HU (wpAny_attempt (Jk (name:=Str.ofString "__next__") hT SF.fK (IZ SF.fK hT SF.qQ ?_ (SF.rm _))));unfold Builtin.«set_iterator.__next__»
 refine HU (m:=slotArgs "__next__" 0 ⟨[.ref IT],[]⟩) (HV ?_);dsimp only;refine HU (Ks hit rfl ?_);dsimp only;refine HU (wpAny_setEntries_of hd hdd hf ?_);rw [Iv (by simp)];simp only [JV];have fin:∀ h1,Heap.SameBut IT st.heap h1->∀ h',Heap.ExtBut IT h1 h'->Q none { st with heap:=h' }:=fun h1 s1 h' x=>h h' fun b o hb e=>x b o hb (by rw [s1.2 b hb];exact e);rcases hw with ⟨hb,rfl,rfl⟩ | ⟨hb,hdr,ps,rfl,hTo,hps,rfl⟩ | ⟨hb,h1,hl,⟨k,rfl,hk⟩,rfl⟩
 ·dsimp only;refine HU (snA hd hdd hf hb ?_);rw [H9,JU] at hv;rw [KG.mp hv];dsimp only [Option.map_none];refine HU (Ji hit (by simp) fun h1 g1 s1=>?_);exact ua (IT:=IT) (st:={ st with heap:=h1 }) hh (fin h1 s1)
 ·dsimp only;refine HU (wpAny_seqItems hTo rfl ?_);dsimp only;rw [H9] at hv;have e1:((ps.map fun (k:Nat)=>rawInt k).toArray)[i]?=none:=by
   rw [List.getElem?_toArray,H9,KG.mp hv];rfl
  rw [e1];dsimp only;refine HU (Ji hit (by simp) fun h1 g1 s1=>?_);refine HU (Ji g1 (by simp) fun h2 g2 s2=>?_);exact ua (IT:=IT) (st:={ st with heap:=h2 }) hh (fin h2 (s1.trans s2))
 ·dsimp only;refine HU (snC (sl:=(k:Int).toNat) hd hdd hf hb h1 hl ?_);rw [H9,JU] at hv;have hv:=KG.mp hv;rw [JV,hk,hv];refine HU (Ji hit (by simp) fun h1 g1 s1=>?_);exact ua (IT:=IT) (st:={ st with heap:=h1 }) hh (fin h1 s1)
end
open PySem PySem.Spec PyProof.Rows
namespace SF
theorem wN:Slot "set_iterator" "__iter__" "set_iterator.__iter__" :=
 .of (owner := "set_iterator") (n := "__iter__") (by rw [typeLookup_type,KN];kernel_rfl) (by decide +kernel) (by decide +kernel) (by decide +kernel) (by first | exact .inl (by decide +kernel) | exact .inr (by decide +kernel)) (by rw [isSubtype_type];kernel_rfl)
theorem CV:entryFor table "set_iterator.__iter__" = some Builtin.«dict_keyiterator.__iter__»:=entryFor_alias (id' := "dict_keyiterator.__iter__") (by kernel_rfl) rfl (by decide +kernel) (by kernel_rfl)
theorem B5 (v:Value):argsOk "set_iterator.__iter__" ⟨[v],[]⟩:=by kernel_rfl
end SF
section
variable {pr:Program} {ww:World} {AA:Around} {EE:Value->Shared->Prop} {st:Shared}
theorem Way.frame {h h':Heap} {d T:Addr} {es:Array (Int×Value)} {ep i:Nat} {tb:SetTable} {vs:List Value} {f0:Value} (w:Way ww h d es ep tb vs T f0 i) (k:∀ o,h.get? T=some o->h'.get? T=some o):Way ww h' d es ep tb vs T f0 i:=by
 rcases w with w | ⟨hb,hdr,ps,e,hTo,r⟩ | w
 ·exact .inl w
 ·exact .inr (.inl ⟨hb,hdr,ps,e,k _ hTo,r⟩)
 ·exact .inr (.inr w)
theorem AX (hh:AA.handled=none) (IT d T:Addr) (h1:d≠IT) (h2:T≠IT) {es:Array (Int×Value)} {ep:Nat} {tb:SetTable} {ob:Obj} (hdd:ob.data=.set es ep tb) (hf:tb.fits es.size=true) (vs:List Value) :
  WalksS pr ww AA IT [IT,d,T] [IT] (fun a b=>b=a) vs.length (fun i v=>vs[i]?=some v) (fun i s=>∃ f0,s.heap.get? IT=some (CL f0 i (.ref d) es.size ep)/\s.heap.get? d=some ob/\Way ww s.heap d es ep tb vs T f0 i) where
 sub:=fun b hb=>by simp at hb;simp [hb]
 grefl:=fun _=>rfl
 gtrans:=fun _ _ _ x y=>y.trans x
 frame:=fun i s h' tk st _ k=>by
  obtain ⟨f0,a,b,c⟩:=st;exact ⟨f0,k IT (by simp) _ a,k d (by simp) _ b,c.frame (k T (by simp))⟩
 item:=fun i s Q E hi st hQ=>by
  obtain ⟨f0,a,b,c⟩:=st;refine Ae a b hdd hf c (v:=vs[i]) (HZ hi) fun f1 h' g1 s1 w1=>?_;exact hQ _ _ (HZ hi) ⟨f1,g1,by show h'.get? d=_;rw [s1.2 d h1];exact b,w1⟩ ⟨fun b' o hb e=>by show h'.get? b'=_;rw [s1.2 b' (fun z=>hb (by simp [z]))];exact e,rfl,rfl,rfl,Ia _⟩
 done:=fun s Q E st hQ=>by
  obtain ⟨f0,a,b,c⟩:=st;refine Ee hh a b hdd hf c (Kf (Ia _)) fun h' x=>?_;exact hQ _ ⟨fun b' o hb e=>x b' o (fun z=>hb (by simp [z])) e,rfl,rfl,rfl,Ia _⟩
 self:=fun i s Q E st hQ=>by
  obtain ⟨f0,a,b,c⟩:=st;have hT:s.TypeIs (.ref IT) "set_iterator" := ⟨_,a,rfl⟩;refine wpAny_pyIter_slot hT SF.wN (IZ SF.wN hT SF.CV ?_ (SF.B5 _));show wpAny _ _ (ret (.ref IT)) _ _ s;exact HV ⟨_,rfl, "set_iterator", _,hT,SF.fK.lookup,hQ⟩
theorem range_getD (es:Array (Int×Value)):(List.range es.size).map (fun p=>(es.getD p (0,.none)).2)=es.toList.map (·.2):=by
 apply List.ext_getElem
 ·simp
 ·intro i h1 h2;have h3:i < es.size:=by simpa using h1
  simp [h3]
theorem Be {d:Addr} {es:Array (Int×Value)} {ep:Nat} {tb:SetTable} {ob:Obj} {Q:Value->Shared->Prop} (hd:st.heap.get? d=some ob) (hc:ob.ExactSet) (hdd:ob.data=.set es ep tb) (ht:C0 ww tb es.size) (hsz:es.size < scanBound)
  (h:∀ vs f0 T IT h' d',vs.Perm (es.toList.map (·.2))->h'.get? IT=some (CL f0 0 (.ref d) es.size ep)->Way ww h' d es ep tb vs T f0 0->st.heap.objs.size<=IT->T≠IT->(T=d\/st.heap.objs.size<=T)->(∀ b o,st.heap.get? b=some o->h'.get? b=some o)->Q (.ref IT) { st with heap:=h',drawn:=d' }) :
  wpAny (model pr ww) AA (pyIter (.ref d)) Q EE st:=by
 have hT:st.TypeIs (.ref d) "set" := ⟨_,hd,hc.1⟩;have hlt:d < st.heap.objs.size:=Im hd;refine wpAny_pyIter_slot hT F.slot_set_iter (IZ F.slot_set_iter hT SF.yS ?_ (F.args_set_iter_1 _));unfold Builtin.«frozenset.__iter__» Builtin.Frozenset.slot0 Builtin.Frozenset.sizeOf
 refine HU (HU (m:=slotArgs "__iter__" 0 ⟨[.ref d],[]⟩) (HV (HV ?_)));refine HU (HU (wpAny_setEntries_of hd hdd ht.fit (HV ?_)));unfold setDrawn;refine HU (HU (Kb hd hdd ht.fit ?_));dsimp only;refine HU (sbt (HV ?_));show wpAny _ _ (if (!iI ww&&(!tb.plain&&decide (es.size > 1)))=true then _ else _) _ _ _;have hpl:tb.place.size=es.size:=by
  have hf:=ht.fit;simp only [SetTable.fits,ID,beq_iff_eq] at hf;exact hf.1
 split
 ·rename_i hdr;simp only [ID,Bool.not_eq_true'] at hdr;obtain ⟨hb,hdr⟩:=hdr;refine HU (uc es.size (List.range es.size) (by simp) fun ps d' hps=>?_);have hpsl:ps.length=es.size:=by rw [hps.length_eq,Jz]
  refine HU (wpAny_newTuple ?_ (by rw [HS,hpsl];exact fits_of_scanBound hsz));have g0:(st.heap.push { cls:=.type "tuple", data:=.seq (ps.map fun (k:Nat)=>rawInt k).toArray }).get? d=some ob:=H0 _ hd;refine HU (wpAny_setEpoch_of (s:={ st with heap:=st.heap.push { cls:=.type "tuple", data:=.seq (ps.map fun (k:Nat)=>rawInt k).toArray },drawn:=d' }) g0 hdd ht.fit ?_);refine HU (m:=newFields _ _) (IU ?_ (by size_fits));have e1:(st.heap.push { cls:=.type "tuple", data:=.seq (ps.map fun (k:Nat)=>rawInt k).toArray }).objs.size=st.heap.objs.size+1:=Heap.size_push ..;have gT:(st.heap.push { cls:=.type "tuple", data:=.seq (ps.map fun (k:Nat)=>rawInt k).toArray }).get? st.heap.objs.size=some { cls:=.type "tuple", data:=.seq (ps.map fun (k:Nat)=>rawInt k).toArray }:=Iq _ rfl;refine HV ⟨_,rfl, "set_iterator", _,⟨_,Iq _ rfl,rfl⟩,SF.fK.lookup,?_⟩;refine h (ps.map fun p=>(es.getD p (0,.none)).2) (.ref st.heap.objs.size) st.heap.objs.size _ _ d' ?_ (Iq _ rfl) (.inr (.inl ⟨hb,by rw [ID,Bool.not_eq_true'];exact hdr,ps,rfl,H0 _ gT,fun p hp=>by have:=hps.mem_iff.mp hp;simpa using this,rfl⟩)) ?_ ?_ (.inr (Ia _)) fun b o e=>H0 _ (H0 _ e)
  ·rw [<- range_getD];exact hps.map _
  ·show st.heap.objs.size<=(st.heap.push _).objs.size;rw [e1];exact Ka _
  ·show st.heap.objs.size≠(st.heap.push _).objs.size;rw [e1];exact IC (Kg _)
 ·rename_i hdr;refine HU (HV ?_);refine HU (wpAny_setEpoch_of hd hdd ht.fit ?_);refine HU (m:=newFields _ _) (IU ?_ (by size_fits));refine HV ⟨_,rfl, "set_iterator", _,⟨_,Iq _ rfl,rfl⟩,SF.fK.lookup,?_⟩;have fin:∀ vs:List Value,vs.Perm (es.toList.map (·.2))->(iI ww=true/\vs=(pickOrder (ww.params.setOrder d ep) es).toList.map (·.2)\/iI ww=false/\es.size<=1/\vs=es.toList.map (·.2))->Q (.ref st.heap.objs.size) { st with heap:=st.heap.push { cls:=.type "set_iterator", data:=.fields #[rawInt 0,rawInt 0,.ref d,rawInt es.size,rawInt ep] } }:=by
   intro vs pm cs;refine h vs (.int 0 0) d _ _ st.drawn pm (Iq _ rfl) ?_ (Ia _) (IC hlt) (.inl rfl) fun b o e=>H0 _ e;rcases cs with ⟨hb,rfl⟩ | ⟨hb,h1,rfl⟩
   ·exact .inl ⟨hb,rfl,rfl⟩
   ·refine .inr (.inr ⟨hb,h1,by rw [ht.led,hb];rfl,⟨0,rfl,?_⟩,rfl⟩);rcases JK 0 es.size with z | z
    ·obtain ⟨j,hj⟩:∃ j,tb.place=#[j]:=Array.size_eq_one_iff.mp (by omega);rw [hj];exact (v3 j).1
    ·have:tb.place=#[]:=Array.size_eq_zero_iff.mp (by omega);rw [this];rfl
  cases hb:iI ww with
  | true=>exact fin _ ((uh _ es).map _) (.inl ⟨hb,rfl⟩)
  | false =>
   refine fin _ (List.Perm.refl _) (.inr ⟨hb,?_,rfl⟩);rcases JK 1 es.size with z | z
   ·have hp:=ht.pln (by omega);rw [hb,hp,Jr z] at hdr;exact absurd rfl hdr
   ·exact z
theorem CJ {d:Addr} {ss:List Str} {Q:List Value->Shared->Prop} (hh:AA.handled=none) (hS:dO pr ww st.heap d ss)
  (h:∀ vs ss' h' d' tk,StrsAre vs ss'->ss'.Perm ss->st.heap.objs.size<=h'.objs.size->(∀ b o,st.heap.get? b=some o->h'.get? b=some o)->Q vs { st with heap:=h',drawn:=d',toks:=tk }) :
  wpAny (model pr ww) AA (collect (.ref d)) Q EE st:=by
 obtain ⟨ob,es,ep,tb,ho,hx,hdd,he,⟨zs,hz1,hz2⟩,hb,ht⟩:=hS;unfold collect;refine HU (wpAny_runValue (JN F.entry_proto_collect ?_));rw [JD F.plain_proto_collect _];show wpAny _ AA.in1 (newList []>>=fun l=>again (.builtin "list.__iadd__" ⟨[l,.ref d],[]⟩)) _ _ st;refine HU (IU ?_);refine HV ⟨Kz F.plain_list_iadd _,JN F.entry_list_iadd ?_⟩;rw [JD F.plain_list_iadd _];have hlt:d < st.heap.objs.size:=Im ho;have ne:st.heap.objs.size≠d:=KH hlt;have g1:(st.heap.push { cls:=.type "list", data:=.seq ([]:List Value).toArray }).get? d=some ob:=H0 _ ho;have g2:(st.heap.push { cls:=.type "list", data:=.seq ([]:List Value).toArray }).get? st.heap.objs.size=some { cls:=.type "list", data:=.seq ([]:List Value).toArray }:=Iq _ rfl;have e1:(st.heap.push { cls:=.type "list", data:=.seq ([]:List Value).toArray }).objs.size=st.heap.objs.size+1:=Heap.size_push ..;have sr:Builtin.List.listSameRef (.ref st.heap.objs.size) (.ref d)=false:=by simp [Builtin.List.listSameRef,ne]
 show wpAny _ AA.in1 (Builtin.List.listExtendWith (.ref st.heap.objs.size) (.ref d) (.ref st.heap.objs.size)) _ _ _;unfold Builtin.List.listExtendWith;have hT:∀ (s:Shared),s.heap.get? d=some ob->s.TypeIs (.ref d) "set" := fun s z=>⟨_,z,hx.1⟩;refine HU (wpAny_typeOf (hT _ g1) ?_);rw [Iv (by rw [sr];decide)];refine HU (Be (st:={ st with heap:=st.heap.push { cls:=.type "list", data:=.seq ([]:List Value).toArray } }) g1 hx hdd ht hb fun vs f0 T IT h' d' pm gI wy lI nT lT kp=>?_);refine HU (II ?_);unfold Builtin.List.listLengthHint;refine HU (J3 (hT _ (kp _ _ g1)) SF.x9 ?_)
 (generalize hid:("set.__len__" : String)=id0;(fail_if_success (clear hid id0));wp_delta;rw [show splitId id0=some ("set", "__len__") from by subst hid;decide +kernel];subst hid)
 refine HU (wpAny_isInstance (b:=true) (hT _ (kp _ _ g1)) sub_set_self ?_);show wpAny _ _ (typeOf (.ref d)>>=_) _ _ _;refine HU (wpAny_typeOf (hT _ (kp _ _ g1)) ?_);refine HV ?_;show wpAny _ AA.in1 (rule "list.extend.makes-room" >>= fun _=>Builtin.List.listTouch (.ref st.heap.objs.size)>>=fun _=>again (.builtin "list.extend.loop" ⟨[.ref st.heap.objs.size,.ref IT,.ref st.heap.objs.size],[]⟩)) _ _ _;refine HU (JJ ?_);have g3:h'.get? st.heap.objs.size=some { cls:=.type "list", data:=.seq ([]:List Value).toArray }:=kp _ _ g2;refine HU ?_;show wpAny _ AA.in1 (updateSeq st.heap.objs.size (·.push .none)>>=fun _=>updateSeq st.heap.objs.size (·.pop)) _ _ _;refine HU (wpAny_updateSeq g3 rfl ?_);have g4:=Jh (Obj.mapSeq (·.push Value.none)) g3 rfl;refine wpAny_updateSeq g4 rfl ?_;have g5:=Jh (Obj.mapSeq (·.pop)) g4 rfl;have oth:∀ b o,b≠st.heap.objs.size->h'.get? b=some o->((h'.update st.heap.objs.size (Obj.mapSeq (·.push Value.none))).update st.heap.objs.size (Obj.mapSeq (·.pop))).get? b=some o :=
  fun b o hb e=>(Kd _ _ (Ne.symm hb)).trans ((Kd _ _ (Ne.symm hb)).trans e)
 have lI:st.heap.objs.size+1<=IT:=by rw [<- e1];exact lI
 have nI:IT≠st.heap.objs.size:=KH lI;have nT2:T≠st.heap.objs.size:=by
  rcases lT with z | z
  ·rw [z];exact Ne.symm ne
  ·have z:st.heap.objs.size+1<=T:=by rw [<- e1];exact z
   exact KH z
 have nd:d≠IT:=IC (Iu (Jx hlt) lI);have hh2:AA.in1.handled=none:=hh;have hsl:vs.length<=sizeLine:=by
  rw [pm.length_eq,HS,Jc];exact fits_of_scanBound hb
 refine HV ⟨Kz F.plain_extend_loop _,codeAny_extend_loopS (AX hh2 IT d T nd nT hdd ht.fit vs) hsl st.heap.objs.size (by simp [ne,Ne.symm nI,Ne.symm nT2]) _ vs.length 0 _ _ _ rfl (IV _)
  ⟨f0,oth _ _ nI gI,oth _ _ (Ne.symm ne) (kp _ _ g1),wy.frame fun o e=>oth _ _ nT2 e⟩ g5 (ItemsOf.nil _) fun s' acc' c' hm hS' hacc=>?_⟩
 show wpAny _ AA (load st.heap.objs.size>>=_) _ _ s';refine HU (wpAny_load hS' ?_);have eacc:acc'.toList=vs:=by
  apply List.ext_getElem?;intro j;rw [JU];rcases JK j acc'.size with z | z
  ·rw [Ju z];exact (hacc.2 j _ (Ju z)).symm
  ·rw [Array.getElem?_eq_none z];exact (Kf (by rw [<- hacc.1];exact z)).symm
 refine HV ?_;show Q acc'.toList s';rw [eacc];obtain ⟨ws,w1,w2⟩:=cR pm hz1;obtain ⟨h2,gn,dr,tk,os⟩:=s';have eg:gn=st.gens:=hm.gens;have ed:dr=d':=hm.drawn;have eo:os=st.os:=hm.os;subst eg;subst ed;subst eo;refine h vs ws h2 dr tk w1 (w2.trans hz2) (Kc (Im hS')) fun b o e=>hm.heap b o ?_ (oth b o ?_ (kp _ _ (H0 _ e)))
 ·have hb:b < st.heap.objs.size:=Im e;simp only [Il,JZ,Jq,not_or];exact ⟨IC hb,IC (Iu (Jx hb) lI)⟩
 ·exact IC (Im e)
end
open PySem PySem.Spec PyProof.Rows
noncomputable def leT (x y:Str):Bool:=!ltCps y.cps.toList x.cps.toList
theorem k7 (x y:Str):leT x y=true↔x.cps.toList<=y.cps.toList:=by
 unfold leT;rw [ltCps_eq,Bool.not_eq_true',decide_eq_false_iff_not];exact List.not_lt
theorem lK {x y z:Str} (h:leT x y=true) (h':leT y z=true):leT x z=true:=by
 rw [k7] at *;exact List.le_trans h h'
theorem rZ (x y:Str):leT x y=true\/leT y x=true:=by
 rw [k7,k7];exact List.le_total _ _
theorem uU {x y:Str} (h:leT x y=true) (h':leT y x=true):x=y:=by
 rw [k7] at *;have:=List.le_antisymm h h';cases x;cases y;simp only [Str.mk.injEq];exact Array.toList_inj.mp this
noncomputable def yD (x:Str):List Str->List Str
 | []=>[x]
 | y :: r=>if leT x y=true then x :: y :: r else y :: yD x r
noncomputable def iT:List Str->List Str
 | []=>[]
 | x :: r=>yD x (iT r)
theorem jM (x:Str):∀ l:List Str,(yD x l).Perm (x :: l)
 | []=>List.Perm.refl _
 | y :: r=>by
  unfold yD;split
  ·exact List.Perm.refl _
  ·exact ((jM x r).cons y).trans (List.Perm.swap ..)
theorem bU:∀ l:List Str,(iT l).Perm l
 | []=>List.Perm.refl _
 | x :: r=>(jM x _).trans ((bU r).cons x)
theorem sf (x:Str):∀ l:List Str,l.Pairwise (fun a b=>leT a b=true)->(yD x l).Pairwise fun a b=>leT a b=true
 | [],_=>by simp [yD]
 | y :: r,h=>by
  obtain ⟨h1,h2⟩:=Kt.mp h;unfold yD;split
  ·rename_i c;refine Kt.mpr ⟨fun b hb=>?_,h⟩;rcases Il.mp hb with rfl | hb
   ·exact c
   ·exact lK c (h1 b hb)
  ·rename_i c;refine Kt.mpr ⟨fun b hb=>?_,sf x r h2⟩;rcases Il.mp ((jM x r).mem_iff.mp hb) with rfl | hb
   ·exact (rZ b y).resolve_left c
   ·exact h1 b hb
theorem sM:∀ l:List Str,(iT l).Pairwise fun a b=>leT a b=true
 | []=>by simp [iT]
 | x :: r=>sf x _ (sM r)
theorem mS:∀ (p:Str) (l:List Str),risingS p l=true->(p :: l).Pairwise fun a b=>leT a b=true
 | p,[],_=>by simp
 | p,x :: r,h=>by
  have h:(!ltCps x.cps.toList p.cps.toList&&risingS x r)=true:=h;rw [ID] at h;have ih:=mS x r h.2;refine Kt.mpr ⟨fun b hb=>?_,ih⟩;rcases Il.mp hb with rfl | hb
  ·exact h.1
  ·exact lK h.1 ((Kt.mp ih).1 b hb)
theorem tD:∀ {l:List Str},sortedS l=true->l.Pairwise fun a b=>leT a b=true
 | [],_=>by simp
 | x :: r,h=>mS x r h
theorem lP {l l':List Str} (h:sortedS l=true) (p:l.Perm l'):l=iT l' :=
 List.Perm.eq_of_pairwise (fun _ _ _ _ a b=>uU a b) (tD h) (sM l') (p.trans (bU l').symm)
noncomputable def bM (ss:List Str):List Str:=ss.foldl fk []
theorem iq (x:Str):∀ (ss acc:List Str),x∈ss.foldl fk acc↔x∈acc\/x∈ss
 | [],acc=>by simp
 | y :: r,acc=>by
  rw [J6,iq x r];have:x∈fk acc y↔x∈acc\/x=y:=by
   unfold fk;split
   ·rename_i h;constructor
    ·exact .inl
    ·rintro (h' | rfl)
     ·exact h'
     ·exact h
   ·simp
  rw [this,Il,or_assoc]
theorem vK {x:Str} {ss:List Str}:x∈bM ss↔x∈ss:=by
 unfold bM;rw [iq];simp
theorem ig:∀ (ss acc:List Str),(ss.foldl fk acc).length<=acc.length+ss.length
 | [],acc=>by simp
 | y :: r,acc=>by
  rw [J6];have:=ig r (fk acc y);have h:(fk acc y).length<=acc.length+1:=by
   unfold fk;split
   ·omega
   ·simp
  rw [Ik];omega
theorem fb (ss:List Str):(bM ss).length<=ss.length:=by
 have:=ig ss [];unfold bM;simpa using this
section
variable {pr:Program} {ww:World} {AA:Around} {EE:Value->Shared->Prop} {st:Shared}
theorem z8 {d:Addr} {ss:List Str} {Q:Value->Shared->Prop} (hh:AA.handled=none) (hS:dO pr ww st.heap d ss) (h64:ss.length < 64)
  (h:∀ (out:List Value) h' d' tk p e,StrsAre out (iT ss)->(∀ b o,st.heap.get? b=some o->h'.get? b=some o)->st.heap.objs.size<=p->h'.get? p=some (seqObj "list" out.toArray e)->Q (.ref p) { st with heap:=h',drawn:=d',toks:=tk }) :
  wpAny (model pr ww) AA (call (.builtin "sorted") [.ref d]) Q EE st:=by
 refine Calls.call_function_entry kind_sorted plain_sorted entry_sorted (args_sorted1 _) ?_;unfold Builtin.«sorted»
 refine HU (m:=checkCount "sorted" 1 1 _) (HV ?_);refine HU (CJ hh hS fun vs ss' h1 d1 tk h2 h3 le h4=>?_);have hl:vs.length < 64:=by rw [b8 h2,h3.length_eq];exact h64
 refine HU (wpAny_newList ?_ (by rw [JX];omega));have g1:(h1.push (seqObj "list" vs.toArray 0)).get? h1.objs.size=some (seqObj "list" vs.toArray 0):=Iq _ rfl;refine HU (II (IZ slot_list_sort ⟨_,g1,rfl⟩ entry_list_sort (list_sort_treeK strKind_oneLt g1 h2.keysOf (fun v1 v2 rest e=>keyKind_strs (by rw [<- e];exact h2)) hl fun st' a1 a2=>⟨_,rfl,?_⟩) (args_list_sort _)));obtain ⟨zs,z1,z2,z3⟩:=sorted_out_str h2 a1 a2;have ez:zs=iT ss:=lP z3 (z2.trans h3);rw [ez] at z1;obtain ⟨e,he⟩:=sortedHeap_at (out:=(arrOf st').map (·.2)) (vs:=vs) (n:=0) g1;refine HV ⟨_,rfl,h _ _ d1 tk h1.objs.size e z1 (fun b o q=>?_) le ?_⟩
 ·have lt:b < h1.objs.size:=Im (h4 b o q);rw [sortedHeap_old (IC lt) (by rw [size_push'];exact Jx lt)];exact H0 _ (h4 b o q)
 ·rw [Km];exact he
end
open PySem PySem.Spec PyProof.Rows
theorem nH:∀ {ds:List PyData} {ss:List Str},strsOf ds=some ss->ds=ss.map .str
 | [],ss,h=>by cases h;rfl
 | d :: ds,ss,h=>by
  unfold strsOf at h;split at h
  ·cases h;rename_i e;cases e
  ·rename_i x r e;cases e;split at h
   ·rename_i xs hx;cases h;rw [nH hx];rfl
   ·cases h
  ·cases h
theorem nV {K:Fg} {F:Addr->Prop} {H:Hp}:∀ {ss:List Str},(∀ s∈ss,s.length<=sizeLine/\PyData.strOk s=true)->DmL K F H (ss.map .str) (ss.map V.str)
 | [],_=>rfl
 | s :: ss,h=>⟨_,_,rfl,⟨rfl,h s Ip⟩,nV fun x hx=>h x (Ie _ hx)⟩
theorem uE {K:Fg} {F:Addr->Prop} {H:Hp}:∀ {ss:List Str} {us:List V},DmL K F H (ss.map .str) us->∀ s∈ss,s.length<=sizeLine/\PyData.strOk s=true
 | [],_,_,s,hs=>by cases hs
 | s :: ss,us,h,x,hx=>by
  obtain ⟨v,r,rfl,h1,h2⟩:=h;rcases Il.mp hx with rfl | hx
  ·exact h1.2
  ·exact uE h2 x hx
noncomputable def u0:PyData->Option PR
 | .list ds=>match strsOf ds with | some ss=>if ss.length < 64 then some (.frs (.list ((iT ss).map .str))) else none | none=>none
 | _=>none
noncomputable def oK:Prm:=Prm.one (fun K x=>v9 K [x]) u0 fun K F H x u pr Q hf hx hd q=>by
 unfold u0 at hf;split at hf
 ·rename_i ds;split at hf
  ·rename_i ss hss;split at hf
   ·rename_i h64;cases hf;obtain ⟨a,us,rfl,s1,z1,d1⟩:=kT hx;obtain ⟨e,os⟩:=o4 hss d1;rw [e] at s1;rw [nH hss] at d1;refine ⟨a,ss,rfl,s1,h64,fun p ss' hp pm so=>?_⟩;have es:ss'=iT ss:=lP so pm;subst es;refine q _ _ (aJ.nw _ hp) (zJ hp (by rw [HS,(bU ss).length_eq,JX];omega) (nV fun s hs=>uE d1 s ((bU ss).mem_iff.mp hs)))
   ·cases hf
  ·cases hf
 ·cases hf
theorem qq {X:Cx}:aP X (.builtin "sorted") (oK.r X.K):=kE nk fun _ _ _ h=>h
noncomputable def Ah (X:Cx) (p:Addr) (ss:List Str):HO:=.ext fun h=>dO X.prog X.w h p ss
def EL (X:Cx):List V->Hp->VK->Prop:=fun xs H Q=>∃ (a:Addr) (ss:List Str),xs=[.ref a]/\SqL X.K H a (ss.map V.str)/\ss.length < 1000/\∀ p,H p=none->Q (.ref p) (upd H p (Ah X p (bM ss)))
theorem nu {X:Cx} (hc:X.calm=true):aP X (.type "set") (EL X):=by
 intro pins s σ H xs us Q I r h;obtain ⟨a,ss,rfl,hq,hl,q⟩:=h;obtain ⟨u,rfl,r1⟩:=vals1 r;cases (show u=Value.ref a from r1);obtain ⟨its,rv,p,hz⟩:=I.list hq;have hS:=gJ rv;have hl2:its.length=ss.length:=by rw [<- rv.length,HS]
 refine rG (I.ok.hd hc) p.isList (by simpa using hS) (by show its.toArray.size+1 < 4096;rw [Iw];omega) fun h' tk hS' hk=>?_;have hn:H s.heap.objs.size=none:=I.hok.fresh (Ia _);refine ⟨.ref s.heap.objs.size,_,I.laid (t':=tk) (o:=Ah X s.heap.objs.size (bM ss)) (fun b o hb=>hk b o (Im hb) hb) (Ia _) ?_,rfl,q _ hn⟩;obtain ⟨ob,es,ep,tb,ho,_⟩:=hS'.size;exact ⟨hS',⟨_,ho⟩,fun h1 h2 z k=>z.at k⟩
def Bq (X:Cx):List V->Hp->VK->Prop:=fun xs H Q=>∃ (d:Addr) (ss:List Str),xs=[.ref d]/\H d=some (Ah X d ss)/\ss.length < 64/\∀ p,H p=none->Q (.ref p) (upd H p (.lst ((iT ss).map V.str)))
theorem Inv.drew {X:Cx} {pins:List (Addr×Obj)} {σ:St} {H:Hp} {s:Shared} {d':Drawn} (I:Inv X pins σ H s):Inv X pins σ H { s with drawn:=d' } :=
 ⟨I.ok,I.os,I.bare,I.base,I.loc,I.cell,I.free,I.gL,I.pin,I.hok,I.len⟩
theorem qy {X:Cx} (hc:X.calm=true):aP X (.builtin "sorted") (Bq X):=by
 intro pins s σ H xs us Q I r h;obtain ⟨d,ss,rfl,hq,h64,q⟩:=h;obtain ⟨u,rfl,r1⟩:=vals1 r;cases (show u=Value.ref d from r1);obtain ⟨hS,_⟩:=I.hok _ _ hq;refine z8 (I.ok.hd hc) hS h64 fun out h' d' tk p e ho hk hp hg=>?_;have hn:H p=none:=I.hok.fresh hp;refine ⟨.ref p,_,Inv.drew (d':=d') (I.laid (t':=tk) (o:=.lst ((iT ss).map V.str)) hk hp ?_),rfl,q _ hn⟩;exact ⟨by rw [HS,(bU ss).length_eq,JX];omega,out,e,n4 ho,hg⟩
def rSS (K:Fg):V->Hp->VK->Prop:=fun x H Q=>∃ (a:Addr) (ss:List Str),x=.ref a/\SqL K H a (ss.map V.str)/\ss.length < 64/\∀ H1 p,aJ H H1->H1 p=none->Q (.ref p) (upd H1 p (.lst ((iT (bM ss)).map V.str)))
noncomputable def vC:PyData->Option PR
 | .list ds=>match strsOf ds with | some ss=>if ss.length < 64 then some (.frs (.list ((iT (bM ss)).map .str))) else none | none=>none
 | _=>none
noncomputable def y3:Prm:=Prm.one rSS vC fun K F H x u pr Q hf hx hd q=>by
 unfold vC at hf;split at hf
 ·rename_i ds;split at hf
  ·rename_i ss hss;split at hf
   ·rename_i h64;cases hf;obtain ⟨a,us,rfl,s1,z1,d1⟩:=kT hx;obtain ⟨e,os⟩:=o4 hss d1;rw [e] at s1;rw [nH hss] at d1;refine ⟨a,ss,rfl,s1,h64,fun H1 p sm hp=>?_⟩;have hp0:H p=none:=sm.free hp;have dl:DmL K F H ((iT (bM ss)).map .str) ((iT (bM ss)).map V.str):=nV fun s hs=>uE d1 s (vK.mp ((bU _).mem_iff.mp hs));refine q _ _ (sm.trans (aJ.nw _ hp)) ?_;refine ⟨p,rfl,hp0,_,ar,?_,(dl.fresh hp0).pr (Pr.of_same (sm.trans (aJ.nw _ hp))) fun _ z=>z⟩;rw [HS,(bU _).length_eq,JX];have:=fb ss;omega
   ·cases hf
  ·cases hf
 ·cases hf
theorem eSS {X:Cx} {e:Expr} {te:TE} {p1 p2 pos1 pos2:Pos} (hc:X.calm=true) (hg1:Gl X "sorted") (hm1:X.mg "sorted" = none) (hg2:Gl X "set") (hm2:X.mg "set" = none) (h:PySem.W.isStarred e=false) (ha:JE X e te) :
  JE X (.Call (.Name "sorted" p1) [.Call (.Name "set" p2) [e] [] pos2] [] pos1) (tCB (y3.r X.K) (jP te uJ)):=by
 let te':TE:=fun σ H P=>∃ P0:VK,te σ H P0/\∀ x H1,P0 x H1->P x H1
 have ha':JE X e te':=⟨fun pins s σ H P I ⟨P0,h0,h1⟩=>IJ (ha.h pins s σ H P0 I h0) (fun v s' ⟨x,H',I',r,q⟩=>⟨x,H',I',r,h1 _ _ q⟩) fun _ _ z=>z⟩;have inner:=eTy (p:=p2) (pos:=pos2) (nu hc) hg2 hm2 (by decide +kernel) (eA ha' ae h) h rfl (by decide) rfl;have outer:=eB (p:=p1) (pos:=pos1) (qy hc) hg1 hm1 (by decide +kernel) (eA inner ae rfl) rfl rfl (by decide) rfl;refine ⟨?_⟩;intro pins s σ H Q I hT;refine outer.h pins s σ H Q I ⟨_,hT,fun x H1 z=>?_⟩;have z:rSS X.K x H1 Q:=z;obtain ⟨a,ss,rfl,sq,h64,q⟩:=z;refine ⟨a,ss,rfl,sq,by omega,fun p hp=>?_⟩;refine ⟨p,bM ss,rfl,ar,by have:=fb ss;omega,fun p2 hp2=>?_⟩;exact q _ p2 (aJ.nw _ hp) hp2
open PySem PySem.Spec PyProof.Rows
section
variable {X:Cx} {pins:List (Addr×Obj)} {σ:St} {H:Hp} {s:Shared}
theorem Inv.ghost {h:Nat} {g:Str} (I:Inv X pins σ H s) (hN:X.N[h]?=some g) (hv:¬Vis X.env.scope g) (o:Option V):Inv X pins (σ.set h o) H s:=by
 obtain ⟨m,hm,hl⟩:=I.loc;refine ⟨I.ok,I.os,I.bare,I.base,⟨m,hm,fun i x v e1 e2 e3=>?_⟩,I.cell,I.free,I.gL,I.pin,I.hok,by rw [IF];exact I.len⟩;by_cases z:i=h
 ·subst z;rw [hN] at e1;cases e1;exact absurd e3 hv
 ·rw [HW (fun q=>z q.symm)] at e2;exact hl i x v e1 e2 e3
def clE (te:TE):TE:=fun σ H P=>∃ P0:VK,te σ H P0/\∀ x H1,P0 x H1->P x H1
theorem Ha {e:Expr} {te:TE} (ha:JE X e te):JE X e (clE te):=⟨fun pins s σ H P I ⟨P0,h0,h1⟩=>IJ (ha.h pins s σ H P0 I h0) (fun v s' ⟨x,H',I',r,q⟩=>⟨x,H',I',r,h1 _ _ q⟩) fun _ _ z=>z⟩
theorem Du {sc:Scope} {g:Str} (h:sc.names.lookup g=none):¬Vis sc g:=fun z=>by rcases z with z | z | z <;> (rw [h] at z;cases z)
end
open PySem PySem.Spec PyProof.Rows
def Gg (neg:Bool):R2:=fun x y H Q=>∃ a b:Bool,x=.bl a/\y=.bl b/\Q (.bl (if neg then !(a==b) else a==b)) H
theorem sC {X:Cx}:OpR X (compareOp .IsNot) (Gg true):=by
 intro pins s σ H x y v u Q I rx ry h;obtain ⟨a,b,rfl,rfl,q⟩:=h;cases rx;cases ry;exact HV ⟨.bl _,H,I,by cases a <;> cases b <;> rfl,q⟩
noncomputable def Gi (neg:Bool):PyData->PyData->Option PR
 | .bool a,.bool b=>some (.dat (.bool (if neg then !(a==b) else a==b)))
 | _,_=>none
noncomputable def E7 (neg:Bool):Prm:=Prm.two (fun _=>Gg neg) (Gi neg) fun K F H x y u v pr Q hf hx hy hd q=>by
 unfold Gi at hf;split at hf
 ·cases hf;rw [vBl hx,vBl hy];exact ⟨_,_,rfl,rfl,q _ H (aJ.rf H) rfl⟩
 ·cases hf
noncomputable abbrev gR:Prm:=E7 true
theorem cX {X:Cx}:OpR X (compareOp .IsNot) (fun x y=>gR.r X.K [x,y]):=sC
noncomputable def Bn:Prm where
 r:=fun _ vs H Q=>match vs with | []=>∀ p,H p=none->Q (.ref p) (upd H p (.dD 0 [])) | _=>False
 f:=fun ds=>match ds with | []=>some (.frs (.dict [])) | _=>none
 ok:=fun K F H ds vs pr Q hf hv hd q=>by
  match ds,hf with
  | [],hf =>
   cases hf;rw [show vs=[] from hv];exact fun p hp=>q _ _ (aJ.nw _ hp) ⟨p,rfl,hp,0,[],ar,IV _,rfl⟩
open PySem PySem.Spec PyProof.Rows
theorem Hz {X:Cx} {e:Expr} {te:TE} {T:String} {p p2 pos:Pos} (hg:Gl X "isinstance") (hm:X.mg "isinstance" = none) (ha:JE X e te) (hs:PySem.W.isStarred e=false) (hb:JE X (.Name (Str.ofString T) p2) (tC (.ty T))):JE X (.Call (.Name "isinstance" p) [e,.Name (Str.ofString T) p2] [] pos) (tCB ((vv T).r X.K) (jP te uJ)) :=
 ⟨(eB xr hg hm (by decide +kernel) (eA ha (eA hb ae rfl) hs) hs rfl (by decide) rfl).h⟩
open PySem PySem.Spec PyProof.Rows
noncomputable def intsOf:List PyData->Option (List Int)
 | []=>some []
 | .int i :: r=>match intsOf r with | some is=>some (i :: is) | none=>none
 | _ :: _=>none
theorem wI {K:Fg} {F:Addr->Prop} {H:Hp}:∀ {ds:List PyData} {xs:List V} {is:List Int},intsOf ds=some is->DmL K F H ds xs->xs=is.map V.int
 | [],xs,is,h,q=>by cases h;exact q
 | d :: r,xs,is,h,q=>by
  obtain ⟨v,rr,rfl,h1,h2⟩:=q;unfold intsOf at h;split at h
  ·rename_i e;cases e
  ·rename_i i r' e;cases e;split at h
   ·rename_i is' hi;cases h;rw [wI hi h2,show v=.int i from h1];rfl
   ·cases h
  ·cases h
open PySem PySem.Spec PyProof.Rows
theorem eID {X:Cx} {tg e:Expr} {te:TE} (h:JE X e te):JI X tg e (Fy te):=⟨AY h.h⟩
open PySem
structure Kn where
 nx:En->Prop
 rt:RV->En->Prop
 bk:En->Prop
 ct:En->Prop
def Kn.at (E:Kn):Out->Prop | .nx e=>E.nx e | .rt r e=>E.rt r e | .bk e=>E.bk e | .ct e=>E.ct e
def WS (gd:List PyData) (s:XS) (env:En) (E:Kn):Prop:=∃ o,dS gd s env=some o/\E.at o
def WE (gd:List PyData) (e:XE) (env:En) (Q:RV->En->Prop):Prop:=∃ r e',dE gd e env=some (r,e')/\Q r e'
def WA (gd:List PyData) (e:XA) (env:En) (Q:List AV->En->Prop):Prop:=∃ r e',dA gd e env=some (r,e')/\Q r e'
def WT (gd:List PyData) (e:XT) (env:En) (Q:Bool->En->Prop):Prop:=∃ r e',dT gd e env=some (r,e')/\Q r e'
def WI (gd:List PyData) (e:XI) (env:En) (Q:List PyData->Option Nat->En->Prop):Prop:=∃ ds lk e',dI gd e env=some (ds,lk,e')/\Q ds lk e'
def WF (f:Fn) (ds:List PyData) (Q:PR->List PyData->Prop):Prop:=∃ pr outs,f.F ds=some (pr,outs)/\Q pr outs
def WPr (p:Prm) (avs:List AV) (e:En) (Q:RV->En->Prop):Prop:=∃ ds pr,aF e avs=some ds/\p.f ds=some pr/\Q pr.rv e
def Cw (i:Nat) (r:RV) (e:En) (N:En->Prop):Prop:=∃ d,r.av=.dat d/\free e i=true/\N (e.set i (.dat d))
def qW (i:Nat) (r:RV) (e:En) (N:En->Prop):Prop:=∃ d,r=.frs d/\free e i=true/\N (e.set i (.own d))
def DA (b:PyData->En->Option Out) (ds:List PyData) (lk:Option Nat) (e1:En) (E:Kn):Prop:=∃ o,forL b ds (bV e1 lk)=some o/\E.at (o.map (lkd e1 lk) (az e1 lk))
def qI (f:Fn) (avs:List AV) (e:En) (Q:RV->En->Prop):Prop:=∃ rv e',vA f avs e=some (rv,e')/\Q rv e'
def CZ (ms:List PM) (QF:PR->List PyData->Prop) (r:RV) (e:En):Prop:=∃ pr outs,r.pr=some pr/\jg ms e=some outs/\QF pr outs
def vj (ms:List PM) (QF:PR->List PyData->Prop) (e:En):Prop:=∃ outs,jg ms e=some outs/\QF (.dat .none) outs
def zR (m:wB) (i:Nat) (v:PyData) (rk:RV) (e2:En) (N:En->Prop):Prop:=∃ dk d d',rk.view e2=some dk/\aV e2 i=some d/\m.f d dk v=some d'/\N (iK e2 i d')
def Df (gd:List PyData) (m:wB) (i:Nat) (a:XE) (r:RV) (e:En) (N:En->Prop):Prop:=∃ v,r.av=.dat v/\(aV e i).isSome=true/\WE gd a e fun rk e2=>zR m i v rk e2 N
def C4 (m:Mtd) (r:RV) (avs:List AV) (e2:En) (Q:RV->En->Prop):Prop:=∃ d ds pr,r.view e2=some d/\aF e2 avs=some ds/\m.f d ds=some pr/\Q pr.rv e2
def Ds (gd:List PyData) (m:Mtd) (as:XA) (r:RV) (e:En) (Q:RV->En->Prop):Prop:=∃ d0,r.view e=some d0/\m.ty d0=true/\WA gd as e fun avs e2=>C4 m r avs e2 Q
def WMr (m:Mtr) (i:Nat) (avs:List AV) (e2:En) (Q:RV->En->Prop):Prop:=∃ d ds d' x,aV e2 i=some d/\fJ e2 avs=some ds/\m.f d ds=some (d',x)/\Q (.dat x) (iK e2 i d')
def WTp (mk:List PyData->RV) (avs:List AV) (e:En) (Q:RV->En->Prop):Prop:=∃ ds,lU avs=some ds/\ds.length<=sizeLine/\Q (mk ds) e
def C7 (is:List Nat) (r:RV) (e:En) (N:En->Prop):Prop:=∃ ds e2,r.av=.dat (.tuple ds)/\fY e is ds=some e2/\N e2
section
variable {gd:List PyData} {env e1:En} {E:Kn} {Q:RV->En->Prop} {QA:List AV->En->Prop} {QT:Bool->En->Prop} {QI:List PyData->Option Nat->En->Prop} {i:Nat} {d:PyData} {a b c:XE} {as:XA} {s t:XS} {p:Prm} {f:Fn} {x y:XT}
theorem b4 {ms:List PM} {n:Nat} {ds:List PyData} {QF:PR->List PyData->Prop} (hl:ds.length=ms.length) (h:WS gd s (aj ms ds n) ⟨vj ms QF,CZ ms QF,fun _=>False,fun _=>False⟩):WF (cE gd ms n s) ds QF:=by
 obtain ⟨o,ho,q⟩:=h;unfold WF cE;simp only;rw [Io hl,ho];cases o with
 | nx e=>obtain ⟨outs,h1,h2⟩:=q;simp only [h1];exact ⟨_,_,rfl,h2⟩
 | rt r e=>obtain ⟨pr,outs,h1,h2,h3⟩:=q;simp only [h1,h2];exact ⟨_,_,rfl,h3⟩
 | bk e=>exact absurd q id
 | ct e=>exact absurd q id
theorem Cd (h:WS gd s env { E with nx:=fun e=>WS gd t e E }):WS gd (.seq s t) env E:=by
 obtain ⟨o,ho,q⟩:=h;unfold WS;simp only [dS,ho];cases o with
 | nx e=>exact q
 | rt r e=>exact ⟨_,rfl,q⟩
 | bk e=>exact ⟨_,rfl,q⟩
 | ct e=>exact ⟨_,rfl,q⟩
theorem dW (h:∀ N:En->Prop,N=(fun e=>WS gd t e E)->WS gd s env { E with nx:=N }):WS gd (.seq s t) env E:=Cd (h _ rfl)
theorem i3 {e:En} {x y:AV} {i:Int} {xs:List PyData} (h1:aF e [x,y]=some [.list xs,.int i]) (h:atI xs i=some d) (q:Q (.dat d) e):WPr ixP [x,y] e Q:=⟨_,.dat d,h1,by show (atI xs i).map PR.dat=_;rw [h];rfl,q⟩
theorem AI {e:En} {x y:AV} {i:Int} {z:Str} {c:Nat} (h1:aF e [x,y]=some [.str z,.int i]) (h:atI z.cps.toList i=some c) (q:Q (.dat (.str ⟨#[c]⟩)) e):WPr ixP [x,y] e Q:=⟨_,.dat (.str ⟨#[c]⟩),h1,by show (atI z.cps.toList i).map _=_;rw [h];rfl,q⟩
theorem dY (h:E.nx env):WS gd .skip env E:=⟨_,rfl,h⟩
theorem Fv (h:E.bk env):WS gd .brk env E:=⟨_,rfl,h⟩
theorem El (h:E.ct env):WS gd .cnt env E:=⟨_,rfl,h⟩
theorem Br (h:E.rt (.dat .none) env):WS gd .CY env E:=⟨_,rfl,h⟩
theorem CM (h:WE gd a env fun r e=>Cw i r e E.nx):WS gd (.aK i a) env E:=by
 obtain ⟨r,e',h1,d,h2,h3,h4⟩:=h;unfold WS;simp only [dS,h1,h2];rw [Io h3];exact ⟨_,rfl,h4⟩
theorem Ck (h:WE gd a env fun r e=>qW i r e E.nx):WS gd (.pB i a) env E:=by
 obtain ⟨r,e',h1,d,rfl,h3,h4⟩:=h;unfold WS;simp only [dS,h1];rw [Io h3];exact ⟨_,rfl,h4⟩
theorem Bi {is:List Nat} (h:WE gd a env fun r e=>C7 is r e E.nx):WS gd (.xk is a) env E:=by
 obtain ⟨r,e',h1,ds,e2,h2,h3,h4⟩:=h;unfold WS;simp only [dS,h1,h2,h3];exact ⟨_,rfl,h4⟩
theorem Aw (h:WE gd a env fun _ e=>E.nx e):WS gd (.drop a) env E:=by
 obtain ⟨r,e',h1,h2⟩:=h;unfold WS;simp only [dS,h1];exact ⟨_,rfl,h2⟩
theorem Ea (h:WE gd a env E.rt):WS gd (.ret a) env E:=by
 obtain ⟨r,e',h1,h2⟩:=h;unfold WS;simp only [dS,h1];exact ⟨_,rfl,h2⟩
theorem D7 (h:WT gd x env fun b e=>if b=true then WS gd s e E else WS gd t e E):WS gd (.ifs x s t) env E:=by
 obtain ⟨b,e',h1,h2⟩:=h;unfold WS;simp only [dS,h1];cases b with
 | true=>exact h2
 | false=>exact h2
theorem HN {it:XI} (h:WI gd it env fun ds lk e=>DA (kG i (dS gd s)) ds lk e E):WS gd (.fr i it s) env E:=by
 obtain ⟨ds,lk,e',h1,o,h2,h3⟩:=h;unfold WS;simp only [dS,h1,h2];exact ⟨_,rfl,h3⟩
theorem EY {is:List Nat} {it:XI} (h:WI gd it env fun ds lk e=>DA (jF is (dS gd s)) ds lk e E):WS gd (.frT is it s) env E:=by
 obtain ⟨ds,lk,e',h1,o,h2,h3⟩:=h;unfold WS;simp only [dS,h1,h2];exact ⟨_,rfl,h3⟩
theorem DI {m:wB} (h:WE gd b env fun r e=>Df gd m i a r e E.nx):WS gd (.sto m i a b) env E:=by
 obtain ⟨r,e',h1,v,h2,h3,rk,e2,h4,dk,d,d',h5,h6,h7,h8⟩:=h;obtain ⟨d0,hd0⟩:=KA.mp h3;unfold WS;simp only [dS,h1,h2,hd0,h4,h5,h6,h7];exact ⟨_,rfl,h8⟩
theorem Ga {n:Nat} (Inv:Nat->En->Prop) (m:Nat) (hm:m < n) (h0:Inv m env) (hs:∀ k e,k<=m->Inv k e->WT gd x e fun b e1=>if b=true then WS gd s e1 ⟨fun e2=>∃ j,j < k/\Inv j e2,E.rt,E.nx,fun e2=>∃ j,j < k/\Inv j e2⟩ else E.nx e1):WS gd (.wh n x s) env E:=by
 unfold WS;simp only [dS];induction n generalizing m env with
 | zero=>omega
 | succ n ih =>
  unfold whL;obtain ⟨b,e1,h1,h2⟩:=hs m env (Ia _) h0;rw [h1];cases b with
  | false=>exact ⟨_,rfl,h2⟩
  | true =>
   rw [Io rfl] at h2;obtain ⟨o,h3,h4⟩:=h2;simp only [h3];have step:∀ e2,(∃ j,j < m/\Inv j e2)->∃ o,whL (dT gd x) (dS gd s) n e2=some o/\E.at o:=fun e2 ⟨j,hj,hi⟩=>ih j (by omega) hi fun k e hk=>hs k e (by omega);cases o with
   | nx e=>exact step e h4
   | ct e=>exact step e h4
   | bk e=>exact ⟨_,rfl,h4⟩
   | rt r e=>exact ⟨_,rfl,h4⟩
theorem w_var (h:env[i]?=some (.dat d)) (q:Q (.dat d) env):WE gd (.var i) env Q:=⟨_,_,by simp only [dE,h],q⟩
theorem Bt (h:env[i]?=some (.own d)) (q:Q (.bor i) env):WE gd (.var i) env Q:=⟨_,_,by simp only [dE,h],q⟩
theorem An (h:env[i]?=some (.ino d)) (q:Q (.bor i) env):WE gd (.var i) env Q:=⟨_,_,by simp only [dE,h],q⟩
theorem Az (h:env[i]?=some (.ro d)) (q:Q (.bor i) env):WE gd (.var i) env Q:=⟨_,_,by simp only [dE,h],q⟩
theorem Eg (h:env[i]?=some (.own d)) (q:Q (.dat d) (env.set i (.dat d))):WE gd (.mov i) env Q:=⟨_,_,by simp only [dE,h],q⟩
theorem Fp (h:env[i]?=some (.own d)) (q:Q (.frs d) (env.set i .un)):WE gd (.tke i) env Q:=⟨_,_,by simp only [dE,h],q⟩
theorem Es {c:Cst} (q:Q (.dat c.d) env):WE gd (.cst c) env Q:=⟨_,_,rfl,q⟩
theorem EG {g:Nat} (h:gd[g]?=some d) (q:Q (.dat d) env):WE gd (.glb g) env Q:=⟨_,_,by simp only [dE,h],q⟩
theorem F3 (h:WA gd as env fun avs e=>WPr p avs e Q):WE gd (.prm p as) env Q:=by
 obtain ⟨avs,e',h1,ds,pr,h2,h3,h4⟩:=h;exact ⟨_,_,by simp only [dE,h1,h2,h3],h4⟩
theorem AN (h:WA gd as env fun avs e=>qI f avs e Q):WE gd (.call f as) env Q:=by
 obtain ⟨avs,e',h1,rv,e2,h2,h3⟩:=h;exact ⟨_,_,by simp only [dE,h1];exact h2,h3⟩
theorem ab {avs:List AV} {ds:List PyData} {is:List Nat} (h1:kg e1 f.ms avs=some ds) (h2:c6 f.ms avs=is) (h:WF f ds fun pr outs=>ckA is (uH f.ms avs) outs.length=true/\Q pr.rv (d5 e1 is outs)):qI f avs e1 Q:=by
 obtain ⟨pr,outs,h3,h4,h5⟩:=h;subst h2;unfold qI vA;simp only [h1,h3];rw [Io h4];exact ⟨_,_,rfl,h5⟩
theorem Dt {m:Mtd} {o:XE} (h:WE gd o env fun r e=>Ds gd m as r e Q):WE gd (.met m o as) env Q:=by
 obtain ⟨r,e',h1,d0,h2,h3,avs,e2,h4,d,ds,pr,h5,h6,h7,h8⟩:=h;exact ⟨_,_,by simp only [dE,h1,h2];rw [Io h3];simp only [h4,h5,h6,h7],h8⟩
theorem FP {m:Mtr} (h0:aV env i=some d) (h1:m.ty d=true) (h:WA gd as env fun avs e2=>WMr m i avs e2 Q):WE gd (.mtr m i as) env Q:=by
 obtain ⟨avs,e2,h4,d,ds,d',x,h5,h6,h7,h8⟩:=h;exact ⟨_,_,by simp only [dE,h0];rw [Io h1];simp only [h4,h5,h6,h7],h8⟩
theorem CD (h:WA gd as env fun avs e=>WTp (fun ds=>.dat (.tuple ds)) avs e Q):WE gd (.tup as) env Q:=by
 obtain ⟨avs,e2,h4,ds,h5,h6,h7⟩:=h;exact ⟨_,_,by simp only [dE,h4,h5];rw [Io h6],h7⟩
theorem B6 (h:WA gd as env fun avs e=>WTp (fun ds=>.frs (.list ds)) avs e Q):WE gd (.lst as) env Q:=by
 obtain ⟨avs,e2,h4,ds,h5,h6,h7⟩:=h;exact ⟨_,_,by simp only [dE,h4,h5];rw [Io h6],h7⟩
theorem EM (h:WT gd x env fun k e=>if k=true then WE gd a e Q else WE gd b e Q):WE gd (.ifx x a b) env Q:=by
 obtain ⟨k,e',h1,h2⟩:=h;unfold WE;simp only [dE,h1];cases k with
 | true=>exact h2
 | false=>exact h2
theorem AZ (h:WE gd a env fun r e=>∃ k,r=.dat (.bool k)/\if k=true then WE gd b e Q else Q (.dat (.bool false)) e):WE gd (.qN a b) env Q:=by
 obtain ⟨r,e',h1,k,rfl,h2⟩:=h;unfold WE;cases k with
 | true=>simp only [dE,h1];exact h2
 | false=>simp only [dE,h1];exact ⟨_,_,rfl,h2⟩
theorem EB (h:WE gd a env fun r e=>∃ k,r=.dat (.bool k)/\if k=true then Q (.dat (.bool true)) e else WE gd b e Q):WE gd (.orv a b) env Q:=by
 obtain ⟨r,e',h1,k,rfl,h2⟩:=h;unfold WE;cases k with
 | true=>simp only [dE,h1];exact ⟨_,_,rfl,h2⟩
 | false=>simp only [dE,h1];exact h2
theorem Bo (h:WE gd a env fun r e=>∃ k,r=.dat (.bool k)/\Q (.dat (.bool (!k))) e):WE gd (.zL a) env Q:=by
 obtain ⟨r,e',h1,k,rfl,h2⟩:=h;exact ⟨_,_,by simp only [dE,h1],h2⟩
theorem DP {p':Prm} (h:WE gd a env fun r e=>WE gd b e fun r2 e2=>∃ x y k,r.av=.dat x/\r2.av=.dat y/\p.f [x,y]=some (.dat (.bool k))/\if k=true then WE gd c e2 fun r3 e3=>∃ z pr,r3.av=.dat z/\p'.f [y,z]=some pr/\Q pr.rv e3 else Q (.dat (.bool false)) e2):WE gd (.chn p p' a b c) env Q:=by
 obtain ⟨r,e',h1,r2,e2,h2,x,y,k,h3,h4,h5,h6⟩:=h;unfold WE;cases k with
 | true =>
  rw [Io rfl] at h6;obtain ⟨r3,e3,h7,z,pr,h8,h9,h10⟩:=h6;simp only [dE,h1,h2,h3,h4,h5,h7,h8,h9];exact ⟨_,_,rfl,h10⟩
 | false =>
  rw [Iv (by decide)] at h6;simp only [dE,h1,h2,h3,h4,h5];exact ⟨_,_,rfl,h6⟩
theorem Et {g:Int->Int->Prm} (h:WE gd a env fun r e=>WE gd b e fun r2 e2=>∃ i,r2=.dat (.int i)/\WE gd c e2 fun r3 e3=>∃ j,r3=.dat (.int j)/\∃ d pr,r.view e3=some d/\(g i j).f [d]=some pr/\Q pr.rv e3):WE gd (.sl2 g a b c) env Q:=by
 obtain ⟨r,e',h1,r2,e2,h2,i,rfl,r3,e3,h3,j,rfl,d,pr,h4,h5,h6⟩:=h;exact ⟨_,_,by simp only [dE,h1,h2,h3,h4,h5],h6⟩
theorem Fs {ps:XP} (h:∃ kvs e1,dP gd ps env=some (kvs,e1)/\kvs.length<=15/\Q (.frs (.dict (kvs.foldl (fun acc kv=>putD acc (kD kv.1) kv.2) []))) e1):WE gd (.dsp ps) env Q:=by
 obtain ⟨x,e1,h1,h2,h3⟩:=h;exact ⟨_,_,by simp only [dE,h1];rw [Io h2],h3⟩
def zQ (st:PyData->En->Option (Option PyData×En)) (js:List Nat) (ds:List PyData) (lk:Option Nat) (e1:En) (Q:RV->En->Prop):Prop :=
 ∃ ys ec,uR st ds (dG e1 lk js)=some (ys,ec)/\Q (.frs (.list ys)) (aS e1 js ec)
theorem Fu {js:List Nat} {it:XI} (hn:yE js=true) (h:WI gd it env fun ds lk e1=>zQ (jT (dT gd x) (dE gd a)) js ds lk e1 Q):WE gd (.cmp js it x a) env Q:=by
 obtain ⟨ds,lk,e1,h1,ys,ec,h2,h3⟩:=h;refine ⟨_,_,?_,h3⟩;simp only [dE,h1];rw [Io (iR hn),h2]
theorem A2 {n:List Str} {js:List Nat} {it:XI} (hn:yE js=true) (h:WI gd it env fun ds lk e1=>zQ (gB n.length (dE gd a)) js ds lk e1 Q):WE gd (.yQ n js it a) env Q:=by
 obtain ⟨ds,lk,e1,h1,ys,ec,h2,h3⟩:=h;refine ⟨_,_,?_,h3⟩;simp only [dE,h1];rw [Io (iR hn),h2]
def nE (st:PyData->En->Option (Option PyData×En)) (d:PyData) (ec:En) (Q:Option PyData->En->Prop):Prop:=∃ y e,st d ec=some (y,e)/\Q y e
theorem aB {QS:Option PyData->En->Prop} {ec:En} (h:WT gd x (.dat d :: ec) fun k e2=>if k=true then WE gd a e2 fun r e3=>∃ y,r.av=.dat y/\QS (some y) e3.tail else QS none e2.tail):nE (jT (dT gd x) (dE gd a)) d ec QS:=by
 obtain ⟨k,e2,h1,h2⟩:=h;unfold nE jT;rw [h1];cases k with
 | true =>
  rw [Io rfl] at h2;obtain ⟨r,e3,h3,y,h4,h5⟩:=h2;simp only [h3,h4];exact ⟨_,_,rfl,h5⟩
 | false =>
  rw [Iv (by decide)] at h2;exact ⟨_,_,rfl,h2⟩
theorem tj {QS:Option PyData->En->Prop} {ec:En} {n:Nat} {xs:List PyData} (hl:xs.length=n) (h:WE gd a (xs.map .dat++ec) fun r e3=>∃ y,r.av=.dat y/\QS (some y) (e3.drop n)):nE (gB n (dE gd a)) (.tuple xs) ec QS:=by
 obtain ⟨r,e3,h3,y,h4,h5⟩:=h;unfold nE gB;simp only;rw [Io hl];simp only [h3,h4];exact ⟨_,_,rfl,h5⟩
theorem dJ {st:PyData->En->Option (Option PyData×En)} {js:List Nat} {ds:List PyData} {lk:Option Nat} (Inv:Nat->List PyData->En->Prop) (h0:Inv 0 [] (dG e1 lk js))
  (hs:∀ i d ys ec,ds[i]?=some d->Inv i ys ec->nE st d ec fun y e=>Inv (i+1) (ys++y.toList) e)
  (hq:∀ ys ec,Inv ds.length ys ec->Q (.frs (.list ys)) (aS e1 js ec)):zQ st js ds lk e1 Q:=by
 have key:∀ (rest:List PyData) (i:Nat) (ys:List PyData) (ec:En),ds.drop i=rest->i<=ds.length->Inv i ys ec->∃ zs ec',uR st rest ec=some (zs,ec')/\Inv ds.length (ys++zs) ec':=by
  intro rest;induction rest with
  | nil =>
   intro i ys ec hd hi hI;have:ds.length<=i:=Kl.mp hd;have:i=ds.length:=by omega
   subst this;exact ⟨[],ec,rfl,by rw [Jn];exact hI⟩
  | cons d rest ih =>
   intro i ys ec hd hi hI;have hlt:i < ds.length:=by
    apply Kv;intro h;rw [Kl.mpr (by omega)] at hd;cases hd
   rw [Jt hlt] at hd;injection hd with hd1 hd2;obtain ⟨y,e,h1,h2⟩:=hs i d ys ec (by rw [HZ hlt,hd1]) hI;obtain ⟨zs,ec',h3,h4⟩:=ih (i+1) _ e hd2 hlt h2;refine ⟨y.toList++zs,ec',?_,by rw [<- JB];exact h4⟩;unfold uR;simp only [h1,h3]
 obtain ⟨zs,ec,h1,h2⟩:=key ds 0 [] _ rfl (IV _) h0;exact ⟨zs,ec,h1,hq zs ec h2⟩
def WB (b:PyData->En->Option Out) (d:PyData) (e:En) (E:Kn):Prop:=∃ o,b d e=some o/\E.at o
theorem sO {e:En} (hf:free e i=true) (h:WS gd s (e.set i (.dat d)) E):WB (kG i (dS gd s)) d e E:=by
 obtain ⟨o,h1,h2⟩:=h;exact ⟨o,by unfold kG;rw [Io hf];exact h1,h2⟩
theorem zU {e e2:En} {is:List Nat} {xs:List PyData} (hf:fY e is xs=some e2) (h:WS gd s e2 E):WB (jF is (dS gd s)) (.tuple xs) e E:=by
 obtain ⟨o,h1,h2⟩:=h;exact ⟨o,by unfold jF;simp only [hf];exact h1,h2⟩
theorem bL {b:PyData->En->Option Out} {ds:List PyData} {lk:Option Nat} (Inv:Nat->En->Prop) (h0:Inv 0 (bV e1 lk))
  (hs:∀ i d e,ds[i]?=some d->Inv i e->WB b d e ⟨Inv (i+1),fun r e=>E.rt (r.soft (lkd e1 lk)) (az e1 lk e),fun e=>E.nx (az e1 lk e),Inv (i+1)⟩)
  (hq:∀ e,Inv ds.length e->E.nx (az e1 lk e)):DA b ds lk e1 E:=by
 have key:∀ (rest:List PyData) (i:Nat) (e:En),ds.drop i=rest->i<=ds.length->Inv i e->∃ o,forL b rest e=some o/\E.at (o.map (lkd e1 lk) (az e1 lk)):=by
  intro rest;induction rest with
  | nil =>
   intro i e hd hi hI;have:ds.length<=i:=Kl.mp hd;have:i=ds.length:=by omega
   subst this;exact ⟨_,rfl,hq e hI⟩
  | cons d rest ih =>
   intro i e hd hi hI;have hlt:i < ds.length:=by
    apply Kv;intro h;rw [Kl.mpr (by omega)] at hd;cases hd
   rw [Jt hlt] at hd;injection hd with hd1 hd2;obtain ⟨o,h1,h2⟩:=hs i d e (by rw [HZ hlt,hd1]) hI;unfold forL;simp only [h1];cases o with
   | nx e'=>exact ih (i+1) e' hd2 hlt h2
   | ct e'=>exact ih (i+1) e' hd2 hlt h2
   | bk e'=>exact ⟨_,rfl,h2⟩
   | rt r e'=>exact ⟨_,rfl,h2⟩
 exact key ds 0 _ rfl (IV _) h0
theorem ES (q:QA [] env):WA gd .nil env QA:=⟨_,_,rfl,q⟩
theorem Bh (h:WE gd a env fun r e=>WA gd as e fun avs e2=>QA (r.av :: avs) e2):WA gd (.cons a as) env QA:=by
 obtain ⟨r,e',h1,avs,e2,h2,h3⟩:=h;exact ⟨_,_,by simp only [dA,h1,h2],h3⟩
theorem EW (h:WE gd a env fun r e=>∃ k,r=.dat (.bool k)/\QT k e):WT gd (.tst a) env QT:=by
 obtain ⟨r,e',h1,k,rfl,h2⟩:=h;exact ⟨_,_,by simp only [dT,h1],h2⟩
theorem E3 (h:WE gd a env fun r e=>∃ d,r.view e=some d/\FW d=false/\QT (C8 d) e):WT gd (.tru a) env QT:=by
 obtain ⟨r,e',h1,d,h2,h4,h3⟩:=h;exact ⟨_,e',by simp only [dT,h1,h2,h4];rfl,h3⟩
theorem w_and (h:WT gd x env fun k e=>if k=true then WT gd y e QT else QT false e):WT gd (.and x y) env QT:=by
 obtain ⟨k,e',h1,h2⟩:=h;unfold WT;cases k with
 | true=>simp only [dT,h1];exact h2
 | false=>simp only [dT,h1];exact ⟨_,_,rfl,h2⟩
theorem w_or (h:WT gd x env fun k e=>if k=true then QT true e else WT gd y e QT):WT gd (.or x y) env QT:=by
 obtain ⟨k,e',h1,h2⟩:=h;unfold WT;cases k with
 | true=>simp only [dT,h1];exact ⟨_,_,rfl,h2⟩
 | false=>simp only [dT,h1];exact h2
theorem w_not (h:WT gd x env fun k e=>QT (!k) e):WT gd (.not x) env QT:=by
 obtain ⟨k,e',h1,h2⟩:=h;exact ⟨_,_,by simp only [dT,h1],h2⟩
theorem ET (h:QT true env):WT gd .yes env QT:=⟨_,_,rfl,h⟩
def zB (r:RV) (e:En) (QI:List PyData->Option Nat->En->Prop):Prop:=(∃ ds,r.av=.dat (.list ds)/\QI ds none e)\/∃ i ds,r.av=.bor i/\cont e i=some (.list ds)/\QI ds (some i) e
theorem HP (h:WE gd a env fun r e=>zB r e QI):WI gd (.lst a) env QI:=by
 obtain ⟨r,e',h1,⟨ds,h2,h3⟩ | ⟨i,ds,h2,h3,h4⟩⟩:=h
 ·exact ⟨_,_,_,by simp only [dI,h1,h2],h3⟩
 ·exact ⟨_,_,_,by simp only [dI,h1,h2,h3],h4⟩
theorem bI {r:RV} {e:En} {ds:List PyData} (h:r.av=.dat (.list ds)) (q:QI ds none e):zB r e QI:=.inl ⟨ds,h,q⟩
theorem CQ {r:RV} {e:En} {ds:List PyData} (h:r.av=.bor i) (hc:cont e i=some (.list ds)) (q:QI ds (some i) e):zB r e QI:=.inr ⟨i,ds,h,hc,q⟩
theorem HF (h:WE gd a env fun r e=>∃ ds,r.av=.dat (.tuple ds)/\QI ds none e):WI gd (.tup a) env QI:=by
 obtain ⟨r,e',h1,ds,h2,h3⟩:=h;exact ⟨_,_,_,by simp only [dI,h1,h2],h3⟩
def WSq (r:RV) (e:En) (QI:List PyData->Option Nat->En->Prop):Prop:=zB r e QI\/∃ ds,r.av=.dat (.tuple ds)/\QI ds none e
theorem Hk (h:WE gd a env fun r e=>WSq r e QI):WI gd (.sq a) env QI:=by
 obtain ⟨r,e',h1,(⟨ds,h2,h3⟩ | ⟨i,ds,h2,h3,h4⟩) | ⟨ds,h2,h3⟩⟩:=h
 ·exact ⟨_,_,_,by simp only [dI,h1,h2],h3⟩
 ·exact ⟨_,_,_,by simp only [dI,h1,h2,h3],h4⟩
 ·exact ⟨_,_,_,by simp only [dI,h1,h2],h3⟩
theorem GW (h:WE gd a env fun r e=>∃ z,r.av=.dat (.str z)/\QI (z.cps.toList.map fun c=>.str ⟨#[c]⟩) none e):WI gd (.str a) env QI:=by
 obtain ⟨r,e',h1,ds,h2,h3⟩:=h;exact ⟨_,_,_,by simp only [dI,h1,h2],h3⟩
theorem HB (h:WA gd as env fun avs e=>∃ j:Int,avs=[.dat (.int j)]/\(-(2 ^ 62)<=j/\j<=2 ^ 24)/\QI ((List.range j.toNat).map fun (k:Nat)=>.int ((0:Int)+(k:Int))) none e):WI gd (.rng1 as) env QI:=by
 obtain ⟨r,e',h1,j,rfl,h2,h3⟩:=h;exact ⟨_,_,_,by simp only [dI,h1];rw [Io h2],h3⟩
end
open PySem
theorem nq {e:En} {i:Nat} {s:Sl} (h:e[i]?=some s) (q:soft s):free e i=true:=by
 unfold free;rw [h];cases s with
 | ino d=>exact absurd rfl (q.1 d)
 | ro d=>exact absurd rfl (q.2 d)
 | _=>rfl
theorem FD:soft .un:=⟨fun _=>nofun,fun _=>nofun⟩
theorem Ep {d:PyData}:soft (.dat d):=⟨fun _=>nofun,fun _=>nofun⟩
theorem Ed {d:PyData}:soft (.own d):=⟨fun _=>nofun,fun _=>nofun⟩
theorem uv {e:En} {i:Nat} {avs:List AV} {xs:List PyData} {d:PyData} {Q:RV->En->Prop} (h1:aV e i=some (.list xs)) (h2:xs.length < sizeLine) (h3:fJ e avs=some [(true,d)]) (q:Q (.dat .none) (iK e i (.list (xs++[d])))):WMr zI i avs e Q :=
 ⟨_,_,.list (xs++[d]),.none,h1,h3,by show (if xs.length < sizeLine then _ else _)=_;rw [Io h2],q⟩
theorem ox:∀ (ss:List Str),strsOf (ss.map .str)=some ss
 | []=>rfl
 | s :: ss=>by simp only [List.map_cons,strsOf,ox ss]
theorem b0 {e:En} {x y:AV} {xs ys:List PyData} {Q:RV->En->Prop} (h1:aF e [x,y]=some [.list xs,.list ys]) (h2:xs.length+ys.length<=sizeLine) (q:Q (.frs (.list (xs++ys))) e):WPr cJ [x,y] e Q :=
 ⟨_,.frs (.list (xs++ys)),h1,by show (if xs.length+ys.length<=sizeLine then _ else _)=_;rw [Io h2],q⟩
theorem o6 {e:En} {x y:AV} {xs ys:Str} {Q:RV->En->Prop} (h1:aF e [x,y]=some [.str xs,.str ys]) (h2:xs.length+ys.length<=sizeLine) (q:Q (.dat (.str (xs++ys))) e):WPr cJ [x,y] e Q :=
 ⟨_,.dat (.str (xs++ys)),h1,by show (if xs.length+ys.length<=sizeLine then _ else _)=_;rw [Io h2],q⟩
theorem w_eq {e:En} {x y:AV} {d d':PyData} {Q:RV->En->Prop} (h1:aF e [x,y]=some [d,d']) (h2:iC d=true) (h3:iC d'=true) (q:Q (.dat (.bool (PyData.eqv d d'))) e):WPr eqP [x,y] e Q :=
 ⟨_,.dat (.bool (PyData.eqv d d')),h1,by show (if iC d=true/\iC d'=true then _ else _)=_;rw [Io ⟨h2,h3⟩];rfl,q⟩
theorem C6 {e:En} {x y:AV} {d d':PyData} {Q:RV->En->Prop} (h1:aF e [x,y]=some [d,d']) (h2:iC d=true) (h3:iC d'=true) (q:Q (.dat (.bool (!PyData.eqv d d'))) e):WPr neP [x,y] e Q :=
 ⟨_,.dat (.bool (!PyData.eqv d d')),h1,by show (if iC d=true/\iC d'=true then _ else _)=_;rw [Io ⟨h2,h3⟩];rfl,q⟩
theorem jz {n i:Nat} {d:PyData} (h:((List.range n).map fun (k:Nat)=>PyData.int ((0:Int)+(k:Int)))[i]?=some d):d=.int i/\i < n:=by
 rw [H9] at h;cases q:(List.range n)[i]? with
 | none=>rw [q] at h;cases h
 | some j =>
  rw [q] at h;obtain ⟨hi,e⟩:=HX.mp q;rw [Jz] at hi;have:j=i:=by rw [<- e];simp
  subst this;cases h;exact ⟨by simp,hi⟩
theorem kW {n:Nat}:((List.range n).map fun (k:Nat)=>PyData.int ((0:Int)+(k:Int))).length=n:=by rw [HS,Jz]
theorem atV {α:Type} {xs:List α} {r:Int} (h0:0<=r) (h1:r < xs.length):∃ v,v∈xs/\atI xs r=some v:=by
 have hj:r.toNat < xs.length:=by omega
 have ej:r=((r.toNat:Nat):Int):=by omega
 refine ⟨xs[r.toNat],List.getElem_mem hj,?_⟩;have:=lD (xs:=xs) (j:=r.toNat) (v:=xs[r.toNat]) (HZ hj);rw [<- ej] at this;exact this
theorem cW:∀ (ss:List Str),strsOf (ss.map .str)=some ss
 | []=>rfl
 | s :: ss=>by simp only [List.map_cons,strsOf,cW ss]
theorem f7 {α:Type} {xs:List α} {k:Int} (h:0<=k):cutD xs none (some k)=xs.take k.toNat:=by
 unfold cutD;simp only [HT.sIx,List.drop_zero,Nat.sub_zero];rw [Iv (by omega)];by_cases z:k.toNat<=xs.length
 ·congr 1;omega
 ·rw [Jo (by omega),Jo (by omega)]
theorem dq (x:Str):x.cps.toList.length=x.length:=by simp [Str.length]
mutual
theorem eqv_refl:∀ d:PyData,noD d=true->PyData.eqv d d=true
 | .none,_=>by simp [PyData.eqv]
 | .bool b,_=>by simp [PyData.eqv]
 | .int i,_=>by simp [PyData.eqv]
 | .str x,_=>by simp [PyData.eqv]
 | .list xs,h=>by simpa [PyData.eqv] using eqvAll_refl xs (by simpa [noD] using h)
 | .tuple xs,h=>by simpa [PyData.eqv] using eqvAll_refl xs (by simpa [noD] using h)
 | .dict _,h=>by simp [noD] at h
theorem eqvAll_refl:∀ ds:List PyData,c7 ds=true->PyData.eqvAll ds ds=true
 | [],_=>by simp [PyData.eqvAll]
 | d :: ds,h=>by
  have h':noD d=true/\c7 ds=true:=by simpa [c7] using h
  simp [PyData.eqvAll,eqv_refl d h'.1,eqvAll_refl ds h'.2]
end
theorem fc:∀ {ds:List PyData},c7 ds=true↔∀ d∈ds,noD d=true
 | []=>by simp [c7]
 | d :: ds=>by simp [c7,fc (ds:=ds)]
theorem fL {k:Nat}:∀ {ds:List PyData},(∀ d∈ds,d.depth<=k)->PyData.depthAll ds<=k
 | [],_=>by simp [PyData.depthAll]
 | d :: ds,h=>by
  have h1:=h d Ip;have h2:=fL fun x hx=>h x (Ie _ hx);simp only [PyData.depthAll];omega
theorem gH {k:Nat} {ds:List PyData} (h:∀ d∈ds,d.depth<=k):(PyData.list ds).depth<=k+1:=by
 simp only [PyData.depth];have:=fL h;omega
theorem da {k:Nat} {ds:List PyData} (h:∀ d∈ds,d.depth<=k):(PyData.tuple ds).depth<=k+1:=by
 simp only [PyData.depth];have:=fL h;omega
theorem n8 {d:PyData} (h1:noD d=true) (h2:d.depth<=64):iC d=true:=by simp [iC,h1,h2]
theorem vc {α:Type} {p:α->Bool} {xs:List α} {i:Nat} {x:α} (h:(xs.take i).find? p=none) (e:xs[i]?=some x) (hp:p x=true):xs.find? p=some x:=by
 obtain ⟨hi,ex⟩:=HX.mp e;have e2:xs.take i++x :: xs.drop (i+1)=xs:=by rw [<- ex,<-Jt hi,List.take_append_drop]
 rw [<- e2,List.find?_append,h];simp [hp]
theorem rJ {α:Type} {p:α->Bool} {xs:List α} {i:Nat} {x:α} (h:(xs.take i).find? p=none) (e:xs[i]?=some x) (hp:p x=false):(xs.take (i+1)).find? p=none:=by
 rw [List.take_add_one,e,List.find?_append,h];simp [hp]
open PySem PySem.Spec PyProof.Rows
theorem Al {e:En} {x:AV} {ss:List Str} {Q:RV->En->Prop} (h1:aF e [x]=some [.list (ss.map .str)]) (h2:ss.length < 64) (q:Q (.frs (.list ((iT ss).map .str))) e):WPr oK [x] e Q:=by
 refine ⟨_,.frs (.list ((iT ss).map .str)),h1,?_,q⟩;show u0 (.list (ss.map .str))=_;unfold u0;simp only [cW];rw [Io h2]
theorem BL {e:En} {x:AV} {ss:List Str} {Q:RV->En->Prop} (h1:aF e [x]=some [.list (ss.map .str)]) (h2:ss.length < 64) (q:Q (.frs (.list ((iT (bM ss)).map .str))) e):WPr y3 [x] e Q:=by
 refine ⟨_,.frs (.list ((iT (bM ss)).map .str)),h1,?_,q⟩;show vC (.list (ss.map .str))=_;unfold vC;simp only [cW];rw [Io h2]
theorem kH:∀ bs:List Bool,jX (bs.map .bool)=some bs
 | []=>rfl
 | b :: bs=>by
  rw [List.map_cons];unfold jX;rw [kH bs]
theorem qg {acc:List Str} {x:Str} (h:acc.Nodup):(fk acc x).Nodup:=by
 unfold fk;split
 ·exact h
 ·rename_i hx;refine Jy.mpr ⟨h,by simp,fun a ha b hb=>?_⟩;rw [Ib.mp hb];exact fun z=>hx (z▸ha)
open PySem PySem.Spec PyProof.Rows
def j0:List (Option Sl)->En->Prop
 | [],e=>e=[]
 | some s :: r,e=>∃ e',j0 r e'/\e=s :: e'
 | none :: r,e=>∃ x e',soft x/\j0 r e'/\e=x :: e'
def vW:List (Option Sl)->(En->Prop)->Prop
 | [],P=>P []
 | some s :: ts,P=>vW ts fun e=>P (s :: e)
 | none :: ts,P=>∀ s,soft s->vW ts fun e=>P (s :: e)
theorem j0.out:∀ {ts:List (Option Sl)} {e:En} {P:En->Prop},j0 ts e->vW ts P->P e
 | [],_,_,h,q=>by cases (show _=_ from h);exact q
 | some s :: ts,e,P,h,q=>by obtain ⟨r,hr,rfl⟩:=h;exact hr.out (P:=fun e=>P (s :: e)) q
 | none :: ts,e,P,h,q=>by obtain ⟨s,r,hs,hr,rfl⟩:=h;exact hr.out (P:=fun e=>P (s :: e)) (q s hs)
section
variable {gd:List PyData} {e e':En} {E:Kn} {Q:RV->En->Prop} {QA:List AV->En->Prop} {QT:Bool->En->Prop} {QI:List PyData->Option Nat->En->Prop} {N:En->Prop} {i:Nat} {r:RV}
theorem Ay (h:e=e') (q:Cw i r e' N):Cw i r e N:=h▸q
theorem yf (h:e=e') (q:qW i r e' N):qW i r e N:=h▸q
theorem zO {is:List Nat} (h:e=e') (q:C7 is r e' N):C7 is r e N:=h▸q
theorem Hh {as:XA} (h:e=e') (q:WA gd as e' QA):WA gd as e QA:=h▸q
theorem Hb {a:XE} (h:e=e') (q:WE gd a e' Q):WE gd a e Q:=h▸q
theorem HE {s:XS} (h:e=e') (q:WS gd s e' E):WS gd s e E:=h▸q
theorem HA {t:XT} (h:e=e') (q:WT gd t e' QT):WT gd t e QT:=h▸q
theorem HL {t:XI} (h:e=e') (q:WI gd t e' QI):WI gd t e QI:=h▸q
theorem DW {p:Prm} {avs:List AV} (h:e=e') (q:WPr p avs e' Q):WPr p avs e Q:=h▸q
theorem x8 {f:Fn} {avs:List AV} (h:e=e') (q:qI f avs e' Q):qI f avs e Q:=h▸q
theorem Fc {mk:List PyData->RV} {avs:List AV} (h:e=e') (q:WTp mk avs e' Q):WTp mk avs e Q:=h▸q
theorem F4 {m:Mtr} {avs:List AV} (h:e=e') (q:WMr m i avs e' Q):WMr m i avs e Q:=h▸q
theorem DT {m:Mtd} {avs:List AV} (h:e=e') (q:C4 m r avs e' Q):C4 m r avs e Q:=h▸q
theorem Aq {m:Mtd} {as:XA} (h:e=e') (q:Ds gd m as r e' Q):Ds gd m as r e Q:=h▸q
theorem AO {ms:List PM} {QF:PR->List PyData->Prop} (h:e=e') (q:CZ ms QF r e'):CZ ms QF r e:=h▸q
theorem xA {ms:List PM} {QF:PR->List PyData->Prop} (h:e=e') (q:vj ms QF e'):vj ms QF e:=h▸q
theorem Ba (h:e=e') (q:zB r e' QI):zB r e QI:=h▸q
theorem AH {m:wB} {a:XE} (h:e=e') (q:Df gd m i a r e' N):Df gd m i a r e N:=h▸q
theorem Bg {m:wB} {v:PyData} (h:e=e') (q:zR m i v r e' N):zR m i v r e N:=h▸q
end
theorem isEq {b:Bool} {avs:List AV} {e:En} {Q:RV->En->Prop} (h:WPr (C9 b) avs e Q):WPr (C9 b) avs e Q:=h
theorem qv {env e2:En} {i:Nat} {is:List Nat} {d:PyData} {ds:List PyData} (h:free env i=true) (q:fY (env.set i (.dat d)) is ds=some e2):fY env (i :: is) (d :: ds)=some e2:=by
 simp only [fY];rw [Io h];exact q
theorem at0 {x:PyData} {xs:List PyData}:atI (x :: xs) 0=some x:=by
 unfold atI ixN;rw [Io (Int.le_refl _),Io (by rw [Ik];omega)];rfl
theorem ze {x:PyData} {xs:List PyData}:atI (xs++[x]) (-1)=some x:=by
 unfold atI ixN;rw [Iv (by decide),Io (by rw [HY];simp;omega)];have:((-1:Int)+(((xs++[x]).length:Nat):Int)).toNat=xs.length:=by rw [HY];simp;omega
 rw [this];simp
theorem eZ {x y:Str}:PyData.eqv (.str x) (.str y)=decide (x=y):=by
 simp only [PyData.eqv];rfl
theorem EO {e:En} {x y:AV} {d:PyData} {Q:RV->En->Prop} (h1:aF e [x,y]=some [d,d]) (h2:iC d=true) (q:Q (.dat (.bool false)) e):WPr neP [x,y] e Q :=
 C6 h1 h2 h2 (by rw [eqv_refl d (by have:=h2;simp only [iC,ID] at this;exact this.1)];exact q)
theorem pS {e:En} {x y:AV} {z:PyData} {ds:List PyData} {b:Bool} {Q:RV->En->Prop} (h1:aF e [x,y]=some [z,.list ds]) (h2:jZ z=true) (h3:c7 ds=true) (h4:bC ds z=b) (q:Q (.dat (.bool b)) e):WPr inP [x,y] e Q:=by
 refine ⟨_,.dat (.bool b),h1,?_,q⟩;subst h4;cases z with
 | dict kvs=>simp [jZ,noD] at h2
 | _=>(show (if jZ _=true/\c7 ds=true then some (PR.dat (.bool (ngB false (bC ds _)))) else none)=_);rw [Io ⟨h2,h3⟩];rfl
theorem CA {e:En} {x y:AV} {z:PyData} {ds:List PyData} {b:Bool} {Q:RV->En->Prop} (h1:aF e [x,y]=some [z,.tuple ds]) (h2:jZ z=true) (h3:c7 ds=true) (h4:bC ds z=b) (q:Q (.dat (.bool b)) e):WPr inP [x,y] e Q:=by
 refine ⟨_,.dat (.bool b),h1,?_,q⟩;subst h4;cases z with
 | dict kvs=>simp [jZ,noD] at h2
 | _=>(show (if jZ _=true/\c7 ds=true then some (PR.dat (.bool (ngB false (bC ds _)))) else none)=_);rw [Io ⟨h2,h3⟩];rfl
def Ge (p:Prm) (r r2:RV) (k:PyData->Bool->Prop):Prop:=∃ x y b,r.av=.dat x/\r2.av=.dat y/\p.f [x,y]=some (.dat (.bool b))/\k y b
def GF (p:Prm) (y:PyData) (r:RV) (e:En) (Q:RV->En->Prop):Prop:=∃ z pr,r.av=.dat z/\p.f [y,z]=some pr/\Q pr.rv e
theorem BQ {gd:List PyData} {env:En} {p p':Prm} {a b c:XE} {Q:RV->En->Prop} (h:WE gd a env fun r e=>WE gd b e fun r2 e2=>Ge p r r2 fun y k=>if k=true then WE gd c e2 fun r3 e3=>GF p' y r3 e3 Q else Q (.dat (.bool false)) e2):WE gd (.chn p p' a b c) env Q:=by
 refine DP ?_;obtain ⟨r,e,h1,r2,e2,h2,x,y,k,h3,h4,h5,h6⟩:=h;exact ⟨r,e,h1,r2,e2,h2,x,y,k,h3,h4,h5,h6⟩
theorem w_all {e:En} {x:AV} {bs:List Bool} {Q:RV->En->Prop} (h1:aF e [x]=some [.list (bs.map .bool)]) (q:Q (.dat (.bool (bs.all id))) e):WPr uL [x] e Q:=by
 refine ⟨_,.dat (.bool (bs.all id)),h1,?_,q⟩;show (jX (bs.map .bool)).map _=_;rw [kH];rfl
theorem jH:∀ (xs ys:List Str),PyData.eqvAll (xs.map .str) (ys.map .str)=decide (xs=ys)
 | [],[]=>by simp [PyData.eqvAll]
 | [],y :: ys=>by simp [PyData.eqvAll]
 | x :: xs,[]=>by simp [PyData.eqvAll]
 | x :: xs,y :: ys=>by
  rw [List.map_cons,List.map_cons];unfold PyData.eqvAll;rw [jH xs ys,eZ];by_cases h:x=y <;> by_cases h2:xs=ys <;> simp [h,h2]
theorem J8 {α:Type} {xs:List α} {i:Nat} {x:α} (h:xs[i]?=some x):xs.take i++[x]=xs.take (i+1):=by
 rw [List.take_add_one,h];rfl
theorem lb {α:Type} {P:α->Prop} {xs:List α} {y:α} (h:∀ x∈xs,P x) (hy:P y):∀ x∈xs++[y],P x:=fun x hm=>by
 rcases IK.mp hm with hm | hm
 ·exact h x hm
 ·rw [Ib.mp hm];exact hy
open PySem PySem.Spec PyProof.Rows
section
variable {gd:List PyData} {a:XE} {env:En} {QI:List PyData->Option Nat->En->Prop}
def Hu (r:RV) (e:En) (QI:List PyData->Option Nat->En->Prop):Prop:=(∃ kvs,r.av=.dat (.dict kvs)/\QI (kvs.map (·.1)) none e)\/∃ i kvs,r.av=.bor i/\cont e i=some (.dict kvs)/\QI (kvs.map (·.1)) (some i) e
theorem Hf (h:WE gd a env fun r e=>Hu r e QI):WI gd (.dct a) env QI:=by
 obtain ⟨r,e',h1,⟨kvs,h2,h3⟩ | ⟨i,kvs,h2,h4,h3⟩⟩:=h
 ·exact ⟨_,_,_,by simp only [dI,h1,h2],h3⟩
 ·exact ⟨_,_,_,by simp only [dI,h1,h2,h4],h3⟩
end
def WPs (gd:List PyData) (ps:XP) (env:En) (R:List (Key×PyData)->En->Prop):Prop:=∃ kvs e1,dP gd ps env=some (kvs,e1)/\R kvs e1
theorem v7 {gd:List PyData} {ps:XP} {env:En} {Q:RV->En->Prop} (h:WPs gd ps env fun kvs e1=>kvs.length<=15/\Q (.frs (.dict (kvs.foldl (fun acc kv=>putD acc (kD kv.1) kv.2) []))) e1):WE gd (.dsp ps) env Q:=Fs h
theorem A6 {gd:List PyData} {env:En} {R:List (Key×PyData)->En->Prop} (h:R [] env):WPs gd .nil env R:=⟨_,_,rfl,h⟩
theorem BN {gd:List PyData} {k a:XE} {ps:XP} {env:En} {R:List (Key×PyData)->En->Prop} (h:WE gd k env fun rk e1=>WE gd a e1 fun rv e2=>WPs gd ps e2 fun kvs e3=>∃ dk d key,rk.av=.dat dk/\rv.av=.dat d/\keyOf dk=some key/\R ((key,d) :: kvs) e3):WPs gd (.cons k a ps) env R:=by
 obtain ⟨rk,e1,h1,rv,e2,h2,kvs,e3,h3,dk,d,key,h4,h5,h6,h7⟩:=h;exact ⟨_,_,by simp only [dP,h1,h2,h3,h4,h5,h6],h7⟩
theorem l4 {e:En} {x y:AV} {k d:PyData} {kvs:List (PyData×PyData)} {Q:RV->En->Prop} (h1:aF e [x,y]=some [.dict kvs,k]) (h2:hk6 k=true) (h3:getD kvs k=some d) (q:Q (.dat d) e):WPr iN [x,y] e Q :=
 ⟨_,.dat d,h1,by show (if hk6 k=true then (getD kvs k).map PR.dat else none)=_;rw [Io h2,h3];rfl,q⟩
theorem xf {i:Nat} {v k:PyData} {rk:RV} {e2:En} {N:En->Prop} {kvs:List (PyData×PyData)} (h1:rk.view e2=some k) (h2:aV e2 i=some (.dict kvs)) (h3:hk6 k=true) (h4:kvs.length < sizeLine) (q:N (iK e2 i (.dict (putD kvs k v)))):zR oN i v rk e2 N :=
 ⟨_,_,_,h1,h2,by show (if hk6 k=true/\kvs.length < sizeLine then some (PyData.dict (putD kvs k v)) else none)=_;rw [Io ⟨h3,h4⟩],q⟩
open PySem PySem.Spec PyProof.Rows PySem.W
noncomputable def at_ (p:Array Nat) (i:Nat):Nat:=p.getD i 0
open PySem PySem.Spec PyProof.Rows
def HQ (avs:List AV) (e:En) (QI:List PyData->Option Nat->En->Prop):Prop:=∃ x y xs ys,avs=[x,y]/\roL e x=some xs/\roL e y=some ys/\QI ((xs.zip ys).map fun p=>.tuple [p.1,p.2]) none e
theorem HC {gd:List PyData} {as:XA} {env:En} {QI:List PyData->Option Nat->En->Prop} (h:WA gd as env fun avs e=>HQ avs e QI):WI gd (.zip as) env QI:=by
 obtain ⟨avs,e',h1,x,y,xs,ys,rfl,h3,h4,h2⟩:=h;exact ⟨_,_,_,by simp only [dI,h1,h3,h4],h2⟩
open PySem PySem.Spec PyProof.Rows
section
variable {X:Cx} {x:Str} {p pos:Pos} {e:Expr} {es:List Expr} {t:TA} {f:Addr} {fd:FuncData} {ps:List Str} {sp:Sp} {k m:Nat} {r:List V->Hp->VK->Prop} {id T:String}
theorem eVx (i:Nat) (a:X.N[i]?=some x:=by exact rfl) (b:Vis X.env.scope x:=by exact .inl rfl) (c:(x==("__debug__" : Str))=false:=by exact rfl) (d:(x==("__classdict__" : Str))=false:=by exact rfl):JE X (.Name x pos) (qO i):=Gv i a b c d
theorem eVy (i:Nat) (a:X.N[i]?=some x:=by exact rfl) (b:Vis X.env.scope x:=by exact .inr (.inl rfl)) (c:(x==("__debug__" : Str))=false:=by exact rfl) (d:(x==("__classdict__" : Str))=false:=by exact rfl):JE X (.Name x pos) (qO i):=Gv i a b c d
theorem eCl (F:bW X.prog X.w X.K X.mg X.base CX0 k f fd ps sp) (hr:iU m X.A) (hm:X.mg x=some (.ref f)) (hk:PySem.W.keepIn X.K (.ref f)=true) (hb:Binds X.K fd ps []) (ha:JA X (e :: es) t)
  (a:k<=m:=by omega) (b:Gl X x:=by exact rfl) (h1:PySem.W.isStarred e=false:=by exact rfl) (h2:es.all (fun e=>!PySem.W.isStarred e)=true:=by exact rfl) (c:(x==("__debug__" : Str))=false:=by exact rfl):JE X (.Call (.Name x p) (e :: es) [] pos) (rh sp [] E0 t) :=
 CI F (hr.mono a) b hm hk hb .nil AM ha h1 h2 c
theorem eBs (hc:aP X (.builtin id) r) (hm:X.mg x=none) (ha:JA X (e :: es) t) (a:Gl X x:=by exact rfl) (hv:bootBuiltins x=some (.builtin id):=by decide +kernel) (h1:PySem.W.isStarred e=false:=by exact rfl) (h2:es.all (fun e=>!PySem.W.isStarred e)=true:=by exact rfl)
  (hn:x ≠ "__name__" := by decide) (c:(x==("__debug__" : Str))=false:=by exact rfl):JE X (.Call (.Name x p) (e :: es) [] pos) (tCB r t):=eB hc a hm hv ha h1 h2 hn c
theorem eTs (hc:aP X (.type T) r) (hm:X.mg x=none) (ha:JA X (e :: es) t) (a:Gl X x:=by exact rfl) (hv:bootBuiltins x=some (.type T):=by decide +kernel) (h1:PySem.W.isStarred e=false:=by exact rfl) (h2:es.all (fun e=>!PySem.W.isStarred e)=true:=by exact rfl)
  (hn:x ≠ "__name__" := by decide) (c:(x==("__debug__" : Str))=false:=by exact rfl):JE X (.Call (.Name x p) (e :: es) [] pos) (tCB r t):=eTy hc a hm hv ha h1 h2 hn c
end
theorem Fun.okX {P:Program} {w:World} {K:Fg} {mg:Str->Option Value} {base:Heap} {x qual:Str} {st:Stmt} {f:Addr} {fd:FuncData} {N ps:List Str} {k:Nat} {b:XS} {gd:List PyData} {ga:Nat->V} {ms:List PM} {rd:TS}
  (F:Fun K x qual st f fd) (S:ag N ps (aa st)) (hg:∀ g d,gd[g]?=some d->∀ F H,Dm K F H d (ga g)) (e:rd=rS K ga b)
  (j:∀ {cdv:Value} {A:Around} {outer:List Env} {s:Shared} {H:Hp} {E:XK},iU k (A.deeper (envOfC qual (aa st) s.heap.objs.size f cdv))->JSs (vy CX0 P w K mg base N qual (aa st) f cdv A outer s H E).nox (dg st) rd)
  (hl:ms.length<=N.length:=by decide) (hp:ms.length=ps.length:=by exact rfl):bW P w K mg base CX0 (k+1) f fd ps (cB (cE gd ms N.length b) K) :=
 F.okJ S (fun vs H Q E h=>(vH h).trans hp) fun cdv A outer s H vs Q E hr h=>⟨rd,j hr,by rw [e];exact xJ (N:=N) hg h hl⟩
open PySem PySem.Spec PyProof.Rows
structure Fa (K:Fg) (mg:Str->Option Value) (x:Str) (st:Stmt) (ps:List Str) (a:Addr×FuncData):Prop where
 F:Fun K x x st a.1 a.2
 c:∀ us:List Value,us.length=ps.length->bindArgs a.2 ⟨us,[]⟩=pure (ps.zip us)
 m:mg x=some (.ref a.1)
section
variable {K:Fg} {mg:Str->Option Value} {x:Str} {st:Stmt} {ps:List Str} {a:Addr×FuncData} {h:Heap} {f:Addr} {od an:Option Addr} {sl:Array (Option Value)} {oc kV dc pm cd ct:Value}
theorem Fa.b (D:Fa K mg x st ps a):Binds K a.2 ps []:=.all D.c
def zG (K:Fg) (mg:Str->Option Value):List (Str×Stmt×List Str)->Prop
 | []=>True
 | (x,st,ps) :: r=>(∃ a,Fa K mg x st ps a)/\zG K mg r
theorem Eh {r:List (Str×Stmt×List Str)} (X:K.In h) (G:h.Ns mainGlobals mg) (a:PySem.W.nsIn K mainGlobals x=some (some (.ref f))) (l:K.lookup f=some ⟨oc,od,.func (PySem.W.fnOf x x (jd st) (dg st) (aa st) .none kV dc pm an cd ct),sl⟩) (c:PySem.W.codeIn K cd x=true) (k:PySem.W.keepIn K (.ref f)=true)
  (hb:∀ (kV dc pm:Value) (an:Option Addr) (cd ct:Value) (us:List Value),us.length=ps.length->bindArgs (PySem.W.fnOf x x (jd st) (dg st) (aa st) .none kV dc pm an cd ct) ⟨us,[]⟩=pure (ps.zip us)) (hr:zG K mg r):zG K mg ((x,st,ps) :: r) :=
 ⟨⟨(f,_),CC l c k,hb _ _ _ _ _ _,PySem.W.mg_of X G a⟩,hr⟩
theorem Cn (a0:Addr×FuncData):∀ {l:List (Str×Stmt×List Str)},zG K mg l->∃ f:Nat->Addr×FuncData,∀ i {x st ps},l[i]?=some (x,st,ps)->Fa K mg x st ps (f i)
 | [],_=>⟨fun _=>a0,fun i x st ps h=>by cases h⟩
 | (y,st,ps) :: r,⟨⟨a,ha⟩,hr⟩=>by
  obtain ⟨f,hf⟩:=Cn a0 hr;refine ⟨fun i=>i.casesOn a f,fun i x st ps h=>?_⟩;cases i with
  | zero=>cases h;exact ha
  | succ i=>exact hf i h
theorem Hm {e:Str×Stmt×List Str} {l:List (Str×Stmt×List Str)} (D:zG K mg (e :: l)):∃ f:Nat->Addr×FuncData,∀ i {x st ps},(e :: l)[i]?=some (x,st,ps)->Fa K mg x st ps (f i):=by
 obtain ⟨y,st,ps⟩:=e;have ⟨⟨a,_⟩,_⟩:=D;exact Cn a D
end
theorem us1 {P:List Value->Prop} (h:∀ a,P [a]):∀ us:List Value,us.length=1->P us
 | [a],_=>h a
theorem us2 {P:List Value->Prop} (h:∀ a b,P [a,b]):∀ us:List Value,us.length=2->P us
 | [a,b],_=>h a b
theorem us3 {P:List Value->Prop} (h:∀ a b c,P [a,b,c]):∀ us:List Value,us.length=3->P us
 | [a,b,c],_=>h a b c
theorem us4 {P:List Value->Prop} (h:∀ a b c d,P [a,b,c,d]):∀ us:List Value,us.length=4->P us
 | [a,b,c,d],_=>h a b c d
theorem us5 {P:List Value->Prop} (h:∀ a b c d e,P [a,b,c,d,e]):∀ us:List Value,us.length=5->P us
 | [a,b,c,d,e],_=>h a b c d e
theorem scm {N P:List Str} {sc:Scope} (a:sc.kind=.function:=by exact rfl) (b:sc.isCoroutine=false:=by exact rfl) (c:sc.isGenerator=false:=by exact rfl) (d:N.Nodup:=by decide +kernel) (e:N.take P.length=P:=by exact rfl) (f:∀ x∈P,sc.names.lookup x=some .local\/sc.names.lookup x=some .cell:=by decide +kernel) (g:∀ y∈sc.names,y.2≠.free:=by decide +kernel):ag N P sc:=⟨a,b,c,d,e,f,g⟩
theorem Fa.ok {P:Program} {w:World} {K:Fg} {mg:Str->Option Value} {base:Heap} {x:Str} {st:Stmt} {a:Addr×FuncData} {N ps:List Str} {k:Nat} {b:XS} {gd:List PyData} {ga:Nat->V} {ms:List PM}
  (D:Fa K mg x st ps a) (S:ag N ps (aa st)) (hg:∀ g d,gd[g]?=some d->∀ F H,Dm K F H d (ga g))
  (j:∀ {cdv:Value} {A:Around} {outer:List Env} {s:Shared} {H:Hp} {E:XK},iU k (A.deeper (envOfC x (aa st) s.heap.objs.size a.1 cdv))->JSs (vy CX0 P w K mg base N x (aa st) a.1 cdv A outer s H E).nox (dg st) (rS K ga b))
  (hl:ms.length<=N.length:=by decide) (hp:ms.length=ps.length:=by exact rfl):bW P w K mg base CX0 (k+1) a.1 a.2 ps (cB (cE gd ms N.length b) K) :=
 D.F.okX S hg rfl j hl hp
section
variable {X:Cx} {x:Str} {p p2 pos pos':Pos} {e a b:Expr} {es:List Expr} {t:TA} {te ta tb:TE} {ps:List Str} {sp:Sp} {k m i:Nat} {r:List V->Hp->VK->Prop} {T:String} {st:Stmt} {q:Addr×FuncData}
theorem eCx (F:bW X.prog X.w X.K X.mg X.base CX0 k q.1 q.2 ps sp) (hr:iU m X.A) (D:Fa X.K X.mg x st ps q) (ha:JA X (e :: es) t)
  (a:k<=m:=by omega) (b:Gl X x:=by exact rfl) (h1:PySem.W.isStarred e=false:=by exact rfl) (h2:es.all (fun e=>!PySem.W.isStarred e)=true:=by exact rfl) (c:(x==("__debug__" : Str))=false:=by exact rfl):JE X (.Call (.Name x p) (e :: es) [] pos) (rh sp [] E0 t) :=
 CI F (hr.mono a) b D.m D.F.kp D.b .nil AM ha h1 h2 c
theorem eAx (ha:JE X e te) (hr:JA X es t) (h:PySem.W.isStarred e=false:=by exact rfl):JA X (e :: es) (jP te t):=eA ha hr h
theorem eIy (ha:JE X a ta) (hb:JE X b tb) (hs:oh b:=by exact fun _ _=>rfl):JE X (.Subscript a b pos) (tOp (fun x y=>ixP.r X.K [x,y]) ta tb):=eIx je ha hb hs
theorem eSx (hN:X.N.Nodup) (i:Nat) (he:JE X e te) (hi:X.N[i]?=some x:=by exact rfl) (hx:Loc X.env.scope x:=by exact .inl rfl) (hs:swapsWith e (some (.Name x pos')) pos.line X.env=pure false:=by exact rfl) (hf:X.fn x=true\/X.env.scope.names.lookup x=some .local:=by exact .inl rfl) :
  JS X (.Assign [.Name x pos'] e pos) (qd te (cy i)):=Gz he hN hi hx hs hf
theorem eSy (hN:X.N.Nodup) (i:Nat) (he:JE X e te) (hi:X.N[i]?=some x:=by exact rfl) (hx:Loc X.env.scope x:=by exact .inr rfl) (hs:swapsWith e (some (.Name x pos')) pos.line X.env=pure false:=by exact rfl) (hf:X.fn x=true\/X.env.scope.names.lookup x=some .local:=by exact .inl rfl) :
  JS X (.Assign [.Name x pos'] e pos) (qd te (cy i)):=Gz he hN hi hx hs hf
theorem eGx (hN:X.N.Nodup) (i:Nat) (hi:X.N[i]?=some x:=by exact rfl) (hx:Loc X.env.scope x:=by exact .inl rfl) (hf:X.fn x=true\/X.env.scope.names.lookup x=some .local:=by exact .inl rfl):JG X (.Name x pos) (cy i):=eGN hN hi hx hf
theorem eGy (hN:X.N.Nodup) (i:Nat) (hi:X.N[i]?=some x:=by exact rfl) (hx:Loc X.env.scope x:=by exact .inr rfl) (hf:X.fn x=true\/X.env.scope.names.lookup x=some .local:=by exact .inl rfl):JG X (.Name x pos) (cy i):=eGN hN hi hx hf
theorem eTx {op:CmpOp} {r:R2} (ho:OpR X (compareOp op) r) (ha:JE X a ta) (hb:JE X b tb) (hm:behindInMarks op b=false:=by exact cG _):JT X (.Compare a [op] [b] pos) (xF (tOp r ta tb)):=gq ho ha hb hm
theorem eUx (h:JE X e te) (he:∀ whole,isTrue e X.env whole=(do let v<-whole;standAt e.pos;holding [v] (truthy v)):=by exact fun _=>rfl):JT X e (tB te):=GS h he
theorem eIz (hm:X.mg "isinstance" = none) (ha:JE X e te) (hz:X.mg (Str.ofString T)=none) (hg:Gl X "isinstance" := by exact rfl) (hs:PySem.W.isStarred e=false:=by exact rfl)
  (h1:Gl X (Str.ofString T):=by exact rfl) (h2:bootBuiltins (Str.ofString T)=some (.type T):=by decide +kernel) (h3:Str.ofString T ≠ "__name__" := by decide) (h4:(Str.ofString T==("__debug__" : Str))=false:=by exact rfl):JE X (.Call (.Name "isinstance" p) [e,.Name (Str.ofString T) p2] [] pos) (tCB ((vv T).r X.K) (jP te uJ)) :=
 Hz hg hm ha hs (Hr h1 hz h2 rfl h3 h4)
theorem eFx {iter tg:Expr} {body:List Stmt} {wi:TI} {g:TG} {tb:TS} (hi:JI X tg iter wi) (hg:JG X tg g) (hb:JSs X body tb) (hp:PassesOwn (model X.prog X.w) X.A X.env X.xe:=by exact PassesOwn.never) (hc:X.calm=true:=by exact rfl) (hs:∀ x,foldedSetIterable iter X.env x=pure x:=by exact fun _=>rfl):JS X (.For tg iter body [] pos) (B0 wi g tb):=HH hi hg hb hp hc hs
theorem eUy (ha:JE X a ta):JE X (.UnaryOp .USub a pos) (tCB (Fh.r X.K) (jP ta uJ)):=eUn CF ha
theorem eKx {elt iter:Expr} {px:Pos} {ifs:List Expr} {scope:Scope} {wi:TI} {tt:TT} {js:List Nat} (ys:List Str) (hi:JI X (.Name x px) iter wi) (ht:JTs X (x :: ys) scope ifs tt) (he:JC X (x :: ys) scope elt te) (B:iA X scope x) (cap:d6 X scope ys js)
  (hc:X.calm=true:=by exact rfl) (nd:(x :: ys).Nodup:=by decide +kernel) (hs:∀ x,foldedSetIterable iter X.env x=pure x:=by exact fun _=>rfl):JE X (.ListComp elt [⟨.Name x px,iter,ifs,0⟩] scope pos) (qw js wi tt te):=Eu ys hi ht he hc B nd cap hs
end
abbrev vr (i:Nat):XE:=.var i
abbrev ci (i:Int):XE:=.cst (.i i)
abbrev cs (x:String) (h:(Str.ofString x).length<=sizeLine:=by decide +kernel):XE:=.cst (.s x h (iZ x))
abbrev p1 (p:Prm) (a:XE):XE:=.prm p (.cons a .nil)
abbrev p2 (p:Prm) (a b:XE):XE:=.prm p (.cons a (.cons b .nil))
open PySem PySem.Spec PyProof.Rows
def F6 (X:Cx):List V->Hp->VK->Prop:=fun xs H Q=>∃ (d:Addr) (ss:List Str),xs=[.ref d]/\H d=some (Ah X d ss)/\Q (.int ss.length) H
theorem rD {X:Cx}:aP X (.builtin "len") (F6 X):=by
 intro pins s σ H xs us Q I r h;obtain ⟨d,ss,rfl,hq,q⟩:=h;obtain ⟨u,rfl,r1⟩:=vals1 r;cases (show u=Value.ref d from r1);obtain ⟨hS,_⟩:=I.hok _ _ hq;obtain ⟨ob',es',ep',tb',g1,g2,e⟩:=dO.size hS;obtain ⟨ob,es,ep,tb,h1,hx,h2,_,_,hb,ht⟩:=hS;rw [h1] at g1;cases g1;rw [h2] at g2;cases g2;have hz:scanBound<=4096:=by decide
 refine call_len_set h1 hx h2 ht.fit (by omega) ⟨.int _,H,I.tok _,⟨_,rfl⟩,?_⟩;rw [e];exact q
def rLS (K:Fg):V->Hp->VK->Prop:=fun x H Q=>∃ (a:Addr) (ss:List Str),x=.ref a/\SqL K H a (ss.map V.str)/\ss.length < 1000/\∀ H1,aJ H H1->Q (.int (bM ss).length) H1
noncomputable def yj:Prm:=Prm.one rLS (fun x=>match x with | .list ds=>(match strsOf ds with | some ss=>if ss.length < 1000 then some (.dat (.int (bM ss).length)) else none | none=>none) | _=>none) fun K F H x u pr Q hf hx hd q=>by
 split at hf
 ·rename_i ds;split at hf
  ·rename_i ss hss;split at hf
   ·rename_i h64;cases hf;obtain ⟨a,us,rfl,s1,z1,d1⟩:=kT hx;obtain ⟨e,os⟩:=o4 hss d1;rw [e] at s1;exact ⟨a,ss,rfl,s1,h64,fun H1 sm=>q _ H1 sm rfl⟩
   ·cases hf
  ·cases hf
 ·cases hf
theorem eLS {X:Cx} {e:Expr} {te:TE} {p1 p2 pos1 pos2:Pos} (hc:X.calm=true) (hg1:Gl X "len") (hm1:X.mg "len" = none) (hg2:Gl X "set") (hm2:X.mg "set" = none) (h:PySem.W.isStarred e=false) (ha:JE X e te) :
  JE X (.Call (.Name "len" p1) [.Call (.Name "set" p2) [e] [] pos2] [] pos1) (tCB (yj.r X.K) (jP te uJ)):=by
 let te':TE:=fun σ H P=>∃ P0:VK,te σ H P0/\∀ x H1,P0 x H1->P x H1
 have ha':JE X e te':=⟨fun pins s σ H P I ⟨P0,h0,h1⟩=>IJ (ha.h pins s σ H P0 I h0) (fun v s' ⟨x,H',I',r,q⟩=>⟨x,H',I',r,h1 _ _ q⟩) fun _ _ z=>z⟩;have inner:=eTy (p:=p2) (pos:=pos2) (nu hc) hg2 hm2 (by decide +kernel) (eA ha' ae h) h rfl (by decide) rfl;have outer:=eB (p:=p1) (pos:=pos1) (rD (X:=X)) hg1 hm1 (by decide +kernel) (eA inner ae rfl) rfl rfl (by decide) rfl;refine ⟨?_⟩;intro pins s σ H Q I hT;refine outer.h pins s σ H Q I ⟨_,hT,fun x H1 z=>?_⟩;have z:rLS X.K x H1 Q:=z;obtain ⟨a,ss,rfl,sq,h64,q⟩:=z;exact ⟨a,ss,rfl,sq,h64,fun p hp=>⟨p,bM ss,rfl,ar,q _ (aJ.nw _ hp)⟩⟩
open PySem PySem.Spec PyProof.Rows
theorem yL:typeLookup (.type "list") "keys" = pure none:=by rw [typeLookup_type,KN];kernel_rfl
theorem zu {prog:Program} {w:World} {A:Around} {E:Value->Shared->Prop} {s:Shared} {a:Addr} {o:Obj} {xs:Array Value} {k:Nat} {Q:Option Value->Shared->Prop}
  (hx:s.heap.get? a=some o) (hc:o.cls=.type "list") (hdat:o.data=.seq xs k) (hd:o.dict=none) (hA:A.handled=none)
  (h:∀ h' tk,(∀ b u,s.heap.get? b=some u->h'.get? b=some u)->Q none { s with heap:=h',toks:=tk }):wpAny (model prog w) A (getAttr? (.ref a) "keys") Q E s:=by
 obtain ⟨c,dct,dat,sl⟩:=o;simp only at hc hdat hd;subst hc hdat hd;obtain ⟨hp,g,d,tk,os⟩:=s;have hT:∀ tk',(⟨hp,g,d,tk',os⟩:Shared).TypeIs (.ref a) "list" := fun _=>⟨_,hx,rfl⟩;have f1:=sub_AttributeError;have f3:=F.slot_list_getattribute.lookup;have f4:=F.slot_list_getattribute.bind (.ref a);have f5:=am_list_getattr_none;unfold getAttr? getAttrBy? getAttrBy
 repeat (any_goals (first | assumption | exact hT _ | ((with_reducible show wpAny _ _ (call (Value.builtin "list.__getattribute__") _ _) _ _ _);refine call_meets F.slot_list_getattribute (hT _) am_entry_list_getattribute (F.args_list_getattribute_2 _ _) (meets_getattribute_miss_list a xs k sl "keys" _ yL (by decide +kernel)) ⟨hx,hA,fun h' tk' e hx'=>?_⟩) | wp_step))
 obtain ⟨t',u',he⟩:=hx'.there;show wpAny _ _ (getattributeRaised _ _ _ _ _ _ _) _ _ _;unfold getattributeRaised
 repeat (any_goals (first | assumption | wp_step))
 exact h _ _ hx'.keeps
theorem pO:entryFor table "dict.update.loop" = some Builtin.«dict.update.loop»:=entryFor_of_tree (by kernel_rfl)
theorem i7:plainId "dict.update.loop" = true:=by decide +kernel
def Dc (K:Fg) (F:Addr->Prop) (H:Hp):List (PyData×PyData)->List V->Prop
 | [],vs=>vs=[]
 | (k,d) :: ps,vs=>∃ p j v r,vs=.ref p :: r/\SqT K H p [j,v]/\Dm K F H k j/\hk6 k=true/\Dm K F H d v/\Dc K F H ps r
noncomputable def jO (kvs ps:List (PyData×PyData)):List (PyData×PyData):=ps.foldl (fun acc p=>putD acc p.1 p.2) kvs
theorem pT {kvs:List (PyData×PyData)} {k d:PyData}:(putD kvs k d).length<=kvs.length+1:=by
 unfold putD;split
 ·rw [HS];omega
 ·rw [HY];exact Ia _
theorem nc:∀ {ps kvs:List (PyData×PyData)},(jO kvs ps).length<=kvs.length+ps.length
 | [],kvs=>Ia _
 | p :: ps,kvs=>by
  have h:=nc (ps:=ps) (kvs:=putD kvs p.1 p.2);have:=pT (kvs:=kvs) (k:=p.1) (d:=p.2);rw [Ik];show (jO (putD kvs p.1 p.2) ps).length<=_;omega
section
variable {X:Cx} {pins:List (Addr×Obj)} {σ:St} {H:Hp} {A:Around} {F:Addr->Prop} {D IT l:Addr} {vs:List V} {R:Result->Shared->Prop}
theorem x3 (hu:A.units+8 < cLine) (hh:A.handled=none) (hD:H D=none) (hDI:IT≠D) (hl:SqL X.K H l vs) (hf:rW X pins H IT) :
  ∀ (ps:List (PyData×PyData)) (i:Nat) (kvs:List (PyData×PyData)) (xs:List (PyData×V×V)) (ep:Nat) (s:Shared),Dc X.K F H ps (vs.drop i)->DmP X.K F H kvs xs->kvs.length+ps.length<=1000 ->
   Inv X pins σ (upd H D (.dD ep xs)) s->s.heap.IsListIter IT l i ->
   (∀ ep' xs' s',Inv X pins σ (upd H D (.dD ep' xs')) s'->DmP X.K F H (jO kvs ps) xs'->R (.ok (.ret .none)) s') ->
   codeAny (model X.prog X.w) A (.builtin "dict.update.loop" ⟨[.ref D,.ref IT,rawInt i,.none],[]⟩) R s:=by
 obtain ⟨f0,f1,f2,f3,f4,f5⟩:=hf;intro ps;induction ps with
 | nil =>
  intro i kvs xs ep s hp dp hn I st q;obtain ⟨its,rv,p,hz⟩:=I.list ((aJ.nw (.dD ep xs) hD).seq hl);have hl':=rv.length;have hp:vs.drop i=[]:=hp;have hi:vs.length<=i:=Kl.mp hp;refine JN pO ?_;rw [JD i7 _];show wpAny _ A.in1 (pyNext (.ref IT)>>=_) _ _ s;refine HU (wpAny_pyNext_list_end hh st p.isList (by simp;omega) fun h' eb=>?_);have I1:Inv X pins σ (upd H D (.dD ep xs)) { s with heap:=h' }:=I.turned (t':=s.toks) (fun b o hb e=>eb b o hb e) (by rw [ak hDI];exact f0) f1 f3 f4 f5;exact HU (HV (HV (q ep xs _ I1 dp)))
 | cons kd ps ih =>
  obtain ⟨k,d⟩:=kd;intro i kvs xs ep s hp dp hn I st q;obtain ⟨its,rv,p,hz⟩:=I.list ((aJ.nw (.dD ep xs) hD).seq hl);obtain ⟨pa,j,v,r,er,sq,dk,hk,dd,hr⟩:=hp;have hx:vs[i]?=some (.ref pa):=by
   have:=congrArg (·[0]?) er;simpa using this
  have er':vs.drop (i+1)=r:=by
   have:=congrArg List.tail er;simpa using this
  obtain ⟨u,eu,ru⟩:=rv.get hx;obtain rfl:u=Value.ref pa:=ru;refine JN pO ?_;rw [JD i7 _];show wpAny _ A.in1 (pyNext (.ref IT)>>=_) _ _ s;refine HU (wpAny_pyNext_list_item st p.isList (x:=.ref pa) (by simpa using eu) fun h' st' sb=>?_);have I1:Inv X pins σ (upd H D (.dD ep xs)) { s with heap:=h' }:=I.turned (t':=s.toks) (fun b o hb e=>(sb.2 b hb).trans e) (by rw [ak hDI];exact f0) f1 f3 f4 f5;have pr:Pr F H (upd H D (.dD ep xs)):=Pr.of_same (aJ.nw _ hD);obtain ⟨ts,tv,tp,tz⟩:=I1.tuple (sq.pr pr);cases tv with
  | @cons _ u1 _ ts t1 tv =>
  cases tv with
  | @cons _ u2 _ ts t2 tv =>
  cases tv;obtain ⟨ot,ht,hct,nt,hdt⟩:=tp;have dk':=dk.pr pr fun _ z=>z;obtain ⟨as,rk⟩:=dk'.reads I1 (hU _ (fH.mp hk).1) t1;refine HU (II (HU (wpAny_tryCatch ?_)));unfold Builtin.Dict.pairItems;refine HU (wpAny_typeOf (T := "tuple") ⟨ot,ht,hct⟩ ?_);rw [Io (by decide)];refine HU (wpAny_seqItems ht hdt (HV ?_));show wpAny _ A.in1 (holding [u1,u2] (dictSet D u1 u2)) _ _ _;refine II (Cu (xs:=xs) (ep:=ep) (j:=j) (v:=v) (by have:A.in1.units=A.units+1:=rfl;omega) I1 ar (qp I1 (dp.pr pr fun _ z=>z)) rk (qF dk'.vw hk) t1 t2 (by rw [qe dp];have:=JX;omega) fun ep' s' I' kp=>?_);rw [zj] at I';refine HV ⟨Kz i7 _,?_⟩;refine ih (i+1) (putD kvs k d) (nv xs k j v) ep' s' (by rw [er'];exact hr) (tE dp hk dk dd) (by have:=pT (kvs:=kvs) (k:=k) (d:=d);rw [Ik] at hn;omega) I' (st'.at fun o e=>kp IT o hDI e) q
end
def rDL (K:Fg):V->Hp->VK->Prop:=fun u H Q=>∃ (a:Addr) (vs:List V) (F:Addr->Prop) (ps:List (PyData×PyData)),u=.ref a/\SqL K H a vs/\Dc K F H ps vs/\ps.length<=1000/\∀ D ep xs,H D=none->DmP K F H (jO [] ps) xs->Q (.ref D) (upd H D (.dD ep xs))
noncomputable def kf:List PyData->Option (List (PyData×PyData))
 | []=>some []
 | .tuple [k,d] :: r=>if hk6 k=true then (match kf r with | some ps=>some ((k,d) :: ps) | none=>none) else none
 | _ :: _=>none
theorem zZ {K:Fg} {F:Addr->Prop} {H:Hp}:∀ {ds:List PyData} {vs:List V} {ps:List (PyData×PyData)},kf ds=some ps->DmL K F H ds vs->Dc K F H ps vs
 | [],vs,ps,h,d=>by cases h;exact d
 | x :: ds,vs,ps,h,hd=>by
  unfold kf at h;split at h
  ·cases ‹_=[]›
  ·rename_i k d r e;cases e;split at h
   ·rename_i hk;split at h
    ·rename_i qs hq;cases h;obtain ⟨v,rs,rfl,h1,h2⟩:=hd;obtain ⟨p,us,rfl,s1,z1,d1⟩:=tw h1;obtain ⟨j,r1,rfl,dj,w,r2,rfl,dw,rfl⟩:=d1;exact ⟨p,j,w,rs,rfl,s1,dj,hk,dw,zZ hq h2⟩
    ·cases h
   ·cases h
  ·cases h
noncomputable def nh:Prm:=Prm.one rDL (fun x=>match x with | .list ds=>(match kf ds with | some ps=>if ps.length<=1000 then some (.frs (.dict (jO [] ps))) else none | none=>none) | _=>none) fun K F H x u pr Q hf hx hd q=>by
 split at hf
 ·rename_i ds;split at hf
  ·rename_i ps hps;split at hf
   ·rename_i hl;cases hf;obtain ⟨a,us,rfl,s1,z1,d1⟩:=kT hx;refine ⟨a,us,F,ps,rfl,s1,zZ hps d1,hl,fun D ep xs hD dp=>q _ _ (aJ.nw _ hD) ⟨D,rfl,hD,ep,xs,ar,?_,(dp.fresh hD).pr (Pr.of_same (aJ.nw _ hD)) fun _ z=>z⟩⟩;rw [qe dp];have:=nc (ps:=ps) (kvs:=[]);have:=JX;rw [IP] at *;omega
   ·cases hf
  ·cases hf
 ·cases hf
theorem mw {X:Cx} (hu:X.A.units+64 < cLine) (hc:X.calm=true):aP X (.type "dict") (nh.r X.K):=by
 intro pins s σ H xs us Q I rv q
 match xs,q with
 | [x],q =>
  obtain ⟨l,vs,G,ps,rfl,sq,pv,hl,q⟩:=(show rDL X.K x H Q from q);cases rv with
  | cons r0 r1 =>
  cases r1;have r0:_=Value.ref l:=r0;subst r0;have hD:=I.hok.fresh (Ia s.heap.objs.size);have I1:=I.laid (o:=.dD 0 []) (h':=s.heap.push { cls:=.type "dict", data:=.dict #[] }) (t':=s.toks) (fun _ _ q=>H0 _ q) (Ia _) (lu s.heap I.big);refine callType_codes (Q₁:=fun obj s₁=>obj=.ref s.heap.objs.size/\s₁={ s with heap:=s.heap.push { cls:=.type "dict", data:=.dict #[] } }) F.kt_called_dict (F.kt_typeCall_dict_1 _) F.entry_dict_init (kt_code_dict_new _ ⟨rfl,rfl⟩) ?_;rintro obj s₁ ⟨rfl,rfl⟩;obtain ⟨its,rvl,⟨ol,nl,g1,g2,g3,g4⟩,hz⟩:=I1.list ((aJ.nw (.dD 0 []) hD).seq sq);have hT:Shared.TypeIs { s with heap:=s.heap.push { cls:=.type "dict", data:=.dict #[] } } (.ref s.heap.objs.size) "dict" := ⟨_,Iq _ rfl,rfl⟩;refine ⟨hT,F.args_dict_init_2 _ _,?_⟩;unfold Builtin.«dict.__init__»
  refine HU ?_;unfold Builtin.Dict.selfAndRest;refine HU (wpAny_notOrdered_dict hT ?_);show wpAny _ _ (pure (s.heap.objs.size,[Value.ref l])) _ _ _;refine HV ?_;show wpAny _ _ (Builtin.Dict.updateFrom "dict.__init__" s.heap.objs.size (.ref l) [] .none) _ _ _;unfold Builtin.Dict.updateFrom;refine HU (wpAny_typeOf (T := "list") ⟨ol,g1,g2⟩ ?_);rw [Io (by decide)];have hh:X.A.handled=none:=I.ok.hd hc;refine HU (zu g1 g2 g4 g3 (by simp [hh]) fun h' tk kp=>?_);rw [Io (show (none:Option Value).isNone=true from rfl)];have I2:Inv X pins σ (upd H s.heap.objs.size (.dD 0 [])) { s with heap:=h',toks:=tk }:=I1.kept (t':=tk) kp;refine HU (JJ (HU (Kw (l:=l) ⟨ol,kp _ _ g1,g2,nl,g4⟩ ?_)));refine HV ⟨Kz i7 _,?_⟩;have I3:Inv X pins σ (upd H s.heap.objs.size (.dD 0 [])) { s with heap:=h'.push { cls:=.type "list_iterator", data:=.fields #[.ref l,.int 0 0] },toks:=tk }:=I2.kept (t':=tk) fun b o e=>H0 _ e;have hsz:s.heap.objs.size < h'.objs.size:=Im (kp _ _ (Iq _ rfl));refine x3 (X:=X) (pins:=pins) (σ:=σ) (H:=H) (F:=G) (D:=s.heap.objs.size) (IT:=h'.objs.size) (l:=l) (vs:=vs) (by have:X.A.in1.units=X.A.units+1:=rfl;omega) (by simp [hh]) hD (KH hsz) sq (I2.zM (Ia _) (I.hok.fresh (Kc hsz))) ps 0 [] [] 0 _ (by simpa using pv) rfl (by simpa using hl) I3 ⟨_,Iq _ rfl,rfl,rfl⟩ fun ep' xs' s' I' dp=>?_;exact ⟨rfl,.ref _,_,I',rfl,q _ ep' xs' hD dp⟩
open PySem PySem.Spec PyProof.Rows
theorem qu {X:Cx} (hc:X.calm=true):aP X (.builtin "max") (fun xs H Q=>∃ i j,xs=[.int i,.int j]/\Q (.int (if j > i then j else i)) H):=by
 intro pins s σ H xs us Q I r h;obtain ⟨i,j,rfl,q⟩:=h;obtain ⟨u,w',rfl,⟨t,rfl⟩,⟨t',rfl⟩⟩:=vals2 r;refine max_two_ints (I.ok.hd hc) fun h' tk k=>⟨_,H,I.kept k,?_,q⟩;by_cases hj:j > i
 ·rw [Io hj,Io hj];exact ⟨_,rfl⟩
 ·rw [Iv hj,Iv hj];exact ⟨_,rfl⟩
noncomputable def Gd:Prm:=Prm.two (fun _ x y H Q=>∃ i j,[x,y]=[.int i,.int j]/\Q (.int (if j > i then j else i)) H) (uI (fun _ _=>true) fun i j=>.int (if j > i then j else i)) fun K F H x y u v pr Q hf hx hy hd q=>by
 unfold uI at hf;split at hf
 ·rw [Io rfl] at hf;cases hf;rw [vInt hx,vInt hy];exact ⟨_,_,rfl,q _ H (aJ.rf H) rfl⟩
 ·cases hf
theorem x2 {X:Cx} (hc:X.calm=true):aP X (.builtin "max") (Gd.r X.K):=xi (qu hc) fun _ _ _ _ h=>h
noncomputable def mn (ns:List Int):Nat:=argBest (fun i j=>decide (ns.getD i 0 < ns.getD j 0)) (ns.length - 1)
def A0 (K:Fg):V->Hp->VK->Prop:=fun u H Q=>∃ (a:Addr) (ns:List Int) (m:Int),u=.ref a/\SqL K H a (ns.map V.int)/\ns≠[]/\ns[mn ns]?=some m/\Q (.int m) H
noncomputable def yp:Prm:=Prm.one A0 (fun x=>match x with | .list ds=>(match intsOf ds with | some ns=>(ns[mn ns]?).map fun m=>.dat (.int m) | none=>none) | _=>none) fun K F H x u pr Q hf hx hd q=>by
 split at hf
 ·rename_i ds;split at hf
  ·rename_i ns hns;obtain ⟨m,em,e⟩:=Ic.mp hf;subst e;obtain ⟨a,us,rfl,s1,z1,d1⟩:=kT hx;rw [wI hns d1] at s1;exact ⟨a,ns,m,rfl,s1,fun z=>(by rw [z] at em;cases em),em,q _ H (aJ.rf H) rfl⟩
  ·cases hf
 ·cases hf
theorem my:∀ {ns:List Int} {its:List Value},Vals (ns.map V.int) its->∃ ps:List (Int×Tok),its=ps.map (fun p=>.int p.1 p.2)/\ps.map (·.1)=ns
 | [],its,h=>by cases h;exact ⟨[],rfl,rfl⟩
 | n :: ns,its,h=>by
  cases h with
  | cons r t =>
   obtain ⟨tk,rfl⟩:=r;obtain ⟨ps,rfl,rfl⟩:=my t;exact ⟨(n,tk) :: ps,rfl,rfl⟩
theorem vG {X:Cx} (hc:X.calm=true):aP X (.builtin "min") (yp.r X.K):=by
 intro pins s σ H xs us Q I rv q
 match xs,q with
 | [x],q =>
  obtain ⟨l,ns,m,rfl,sq,hn,em,q⟩:=(show A0 X.K x H Q from q);cases rv with
  | cons r0 r1 =>
  cases r1;have r0:_=Value.ref l:=r0;subst r0;obtain ⟨its,rvl,p,hz⟩:=I.list sq;obtain ⟨ps,rfl,rfl⟩:=my rvl;have e1:(ps.map (fun p=>Value.int p.1 p.2)).toArray=intItems ps.toArray:=by simp [intItems]
  have hp:=p.isList;rw [e1] at hp
  refine min_intList (I.ok.hd hc) hp (by
   cases ps with
   | nil=>exact absurd rfl hn
   | cons=>simp) fun v h' tk hv kp=>⟨.int m,H,I.kept kp,?_,q⟩
  have e2:(fun i j=>decide (numAt ps.toArray i < numAt ps.toArray j))=fun i j=>decide ((ps.map (·.1)).getD i 0 < (ps.map (·.1)).getD j 0):=by
   funext i j;simp [numAt,List.getD_eq_getElem?_getD]
  rw [e2] at hv;unfold mn at em;rw [HS] at em;rw [Iw] at hv;simp only [intItems,Array.getElem?_map,List.getElem?_toArray] at hv;rw [H9] at em;cases hq:ps[argBest (fun i j=>decide ((ps.map (·.1)).getD i 0 < (ps.map (·.1)).getD j 0)) (ps.length - 1)]? with
  | none=>rw [hq] at em;cases em
  | some y =>
   rw [hq] at em hv;cases em;cases hv;exact ⟨_,rfl⟩
theorem DmL.erase {K:Fg} {F:Addr->Prop} {H:Hp}:∀ {ds:List PyData} {xs:List V} (n:Nat),DmL K F H ds xs->DmL K F H (ds.eraseIdx n) (xs.eraseIdx n)
 | [],xs,n,h=>by rw [show xs=[] from h];rfl
 | d :: ds,xs,0,h=>by obtain ⟨v,r,rfl,h1,h2⟩:=h;exact h2
 | d :: ds,xs,n+1,h=>by obtain ⟨v,r,rfl,h1,h2⟩:=h;exact ⟨v,_,rfl,h1,h2.erase n⟩
noncomputable def Hc:Mtr where
 T := "list"
 r:=fun _=>B3
 ty:=isL
 f:=fun d as=>match d,as with
  | .list xs,[(_,.int i)]=>if 0<=i/\i < xs.length/\xs.length < 2 ^ 60 then (xs[i.toNat]?).map fun x=>(.list (xs.eraseIdx i.toNat),x) else none
  | _,_=>none
 As:=fun K F H d a h t=>wz h t
 ok:=fun K F H d a as vs d' x Q hf ha ht hv q=>by
  split at hf
  ·rename_i ds b i;split at hf
   ·rename_i hi;obtain ⟨y,e,h⟩:=Ic.mp hf;cases h;obtain ⟨xs,ea,z,rx⟩:=ht;have hv':vs=[.int i]:=by
     cases b with
     | true=>obtain ⟨v,r,rfl,h1,h2⟩:=hv;rw [vInt (K:=K) (F:=F) (H:=H) h1.vw,show r=[] from h2]
     | false=>obtain ⟨v,r,rfl,h1,h2⟩:=hv;rw [(vInt (K:=K) (F:=F) (H:=H) h1),show r=[] from h2]
    subst hv';obtain ⟨v,ev,dv⟩:=rx.get e;have p:=wX (o:=.lst (xs.eraseIdx i.toNat)) ha ea rfl;have hl:=rx.len;refine ⟨a,xs,i,i.toNat,v,rfl,rfl,ea,by omega,by omega,?_,ev,q _ _ (fun b o n e=>by rw [ak n];exact e) ⟨_,ar,?_,(rx.erase _).pr p fun _ z=>z⟩ (dv.pr p fun _ z=>z)⟩
    ·have n0:¬i < 0:=by omega
     have n1:0<=i/\i < (xs.length:Int):=by omega
     simp only [seqIndex?,n0,JM,n1,decide_true,Bool.and_self,Kr]
    ·have:=lX xs i.toNat;omega
   ·cases hf
  ·cases hf
section
variable {prog:Program} {w:World} {A:Around} {E:Value->Shared->Prop} {s:Shared}
theorem m8 {it t:Addr} {items:Array Value} (hne:t≠it):∀ (n i:Nat) (s:Shared) (Q:List Value->Shared->Prop),s.heap.IsListIter it t i->s.heap.IsList t items->i+n<=items.size ->
  (∀ h',h'.IsListIter it t (i+n)->Heap.SameBut it s.heap h'->Q ((items.toList.drop i).take n) { s with heap:=h' })->wpAny (model prog w) A (draw (.ref it) n) Q E s
 | 0,i,s,Q,hit,_,_,hQ=>by
  show wpAny _ _ (pure []) Q E s;exact HV (by simpa using hQ s.heap hit (Heap.SameBut.refl ..))
 | n+1,i,s,Q,hit,ht,hle,hQ=>by
  have hlt:i < items.size:=by omega
  show wpAny _ _ (pyNext (.ref it)>>=_) Q E s;refine HU (wpAny_pyNext_list_item hit ht (x:=items[i]) (by simp [hlt]) fun h₁ hit₁ hs₁=>?_);have ht1:h₁.IsList t items:=by
   obtain ⟨o,e,r⟩:=ht;exact ⟨o,(hs₁.2 t hne).trans e,r⟩
  refine HU (II (m8 hne n (i+1) _ _ hit₁ ht1 (by omega) fun h₂ hit₂ hs₂=>HV ?_));have hd:items.toList.drop i=items[i] :: items.toList.drop (i+1):=by simp [Jt,hlt]
  have:=hQ h₂ (by rw [show i+(n+1)=i+1+n by omega];exact hit₂) (hs₁.trans hs₂);rw [hd,List.take_succ_cons] at this;exact this
theorem nQ {t:Addr} {items:Array Value} {targets:List (Bool×(Value->Sem Unit))} {Q:Unit->Shared->Prop} (hh:A.handled=none) (ht:s.heap.IsList t items)
  (hn:targets.length=items.size) (hstar:targets.findIdx? (·.1)=none)
  (h:∀ h',Heap.ExtBut s.heap.objs.size s.heap h'->wpAny (model prog w) A (assignInOrder (targets.map (·.2)) items.toList) Q E { s with heap:=h' }) :
  wpAny (model prog w) A (unpack (.ref t) targets) Q E s:=by
 have hlt:t≠s.heap.objs.size:=by obtain ⟨o,ho,_⟩:=ht;exact IC (Im ho)
 have hT:s.TypeIs (.ref t) "list" := by obtain ⟨o,ho,hc,_⟩:=ht;exact ⟨o,ho,hc⟩
 unfold unpack;rw [hn,hstar];refine HU (II ?_);unfold unpackItems;refine HU ?_;unfold notIterableAtAll;refine HU (J3 hT slot_list_iter.lookup ?_);refine HV ?_;simp only [JL,JM];refine HU (II (Kw ht ?_));have hp:(s.heap.push { cls:=.type "list_iterator", data:=.fields #[.ref t,.int 0 0] }).IsList t items:=ht.push _;refine HU (II (m8 hlt items.size 0 _ _ ⟨_,Iq _ rfl,rfl,rfl⟩ hp (by omega) fun h₁ hit₁ hs₁=>?_));have hall:List.take items.size (List.drop 0 items.toList)=items.toList:=by
  rw [List.drop_zero];exact Jo (by simp)
 rw [hall];rw [Iv (by simp)];have ht₁:h₁.IsList t items:=by
  obtain ⟨o,e,r⟩:=hp;exact ⟨o,(hs₁.2 t hlt).trans e,r⟩
 refine HU (II (wpAny_pyNext_list_end hh hit₁ ht₁ (by simp) fun h₂ he₂=>?_));simp only [Option.isSome_none,JL,JM];exact HV (h h₂ fun b o hb e=>he₂ b o hb (hs₁.extBut b o hb (H0 _ e)))
end
def Ho (K:Fg) (k:Nat):V->Hp->VK->Prop:=fun x H Q=>∃ a xs y,x=.ref a/\SqL K H a xs/\xs.length=2/\xs[k]?=some y/\Q y H
noncomputable def Dr (k:Nat):Prm:=Prm.one (fun K=>Ho K k) (fun x=>match x with | .list [d,e]=>([d,e][k]?).map .dat | _=>none) fun K F H x u pr Q hf hx hd q=>by
 split at hf
 ·rename_i d e;obtain ⟨y,ey,ep⟩:=Ic.mp hf;subst ep;obtain ⟨a,us,rfl,s1,z1,d1⟩:=kT hx;obtain ⟨v,ev,dv⟩:=d1.get ey;exact ⟨a,us,v,rfl,s1,d1.len,ev,q _ H (aJ.rf H) dv⟩
 ·cases hf
section
variable {X:Cx} {pos:Pos}
def Hy (K:Fg) (t:TGs):TG:=fun v σ H Q=>∃ a xs ys y z,v=.ref a/\SqL K H a xs/\SqL K H a ys/\xs.length=2/\xs[0]?=some y/\ys[1]?=some z/\t [y,z] σ H Q
theorem BA {es:List Expr} {k:Nat} {t:TGs} (hc:X.calm=true) (h:PGs X es t) (hn:(assignEach es X.env).length=2) (hst:(assignEach es X.env).findIdx? (·.1)=none):PG X (.Tuple es k pos) (Hy X.K t):=by
 intro pins s σ H v u Q I r hw;obtain ⟨a,xs,ys,y,z,e1,hq,hq2,hl,ey,ez,hw⟩:=hw;subst e1;cases r;rw [I.oV hq2 hq] at ez;obtain ⟨its,rv,p,hz⟩:=I.list hq;have ex:xs=[y,z]:=by
  match xs,hl,ey,ez with
  | [b,c],_,ey,ez=>cases ey;cases ez;rfl
 rw [<- ex] at hw;rw [assign_Tuple];refine HU (wpAny_standAt (nQ (I.ok.hd hc) p.isList (by rw [hn,Iw,<-rv.length,hl]) hst fun h' hx=>?_));have I1:Inv X pins σ H { s with heap:=h' }:=I.kept (t':=s.toks) fun b o e=>hx b o (IC (Im e)) e;exact h pins _ σ H xs _ Q I1 (by simpa using rv) hw
theorem HJ {e:Expr} {te:TE} {es:List Expr} {kk:Nat} {pos2:Pos} {i j h:Nat} {g:Str} (he:JE X e te) (hg:JGl X es (qj (cy i) (qj (cy j) Ac))) (hc:X.calm=true) (hn:(assignEach es X.env).length=2) (hst:(assignEach es X.env).findIdx? (·.1)=none)
  (hs:swapsWithSole [.Tuple es kk pos2] e pos.line X.env=pure false) (hw:swappedStores [.Tuple es kk pos2] e X.env=pure none) (h1:(assignEach [.Tuple es kk pos2] X.env).map (·.2)=[assign (.Tuple es kk pos2) X.env])
  (hN:X.N[h]?=some g) (hv:¬Vis X.env.scope g) (n1:i≠h) (n2:j≠h) :
  JS X (.Assign [.Tuple es kk pos2] e pos) (Cs (qd te (cy h)) (Cs (qd (tCB ((Dr 0).r X.K) (jP (qO h) uJ)) (cy i)) (qd (tCB ((Dr 1).r X.K) (jP (qO h) uJ)) (cy j)))):=by
 refine ⟨fun pins s σ H D I hT=>?_⟩;have big:=C3 (Ha he) ⟨BA hc hg.h hn hst⟩ hs hw h1;have len:=I.len;refine IJ (big.h pins s σ H { D with nx:=fun σ1 H1=>∃ v r1 r2,σ1=(σ.set i (some r1)).set j (some r2)/\D.nx (((σ.set h (some v)).set i (some r1)).set j (some r2)) H1 } I ?_) (fun fl s' q=>?_) fun _ _ z=>z
 ·refine ⟨_,hT,fun v H1 hK=>?_⟩;have lh:h < σ.length:=by
   rcases JK h σ.length with z | z
   ·exact z
   ·exact absurd (HX.mp hN).1 (by omega)
  obtain ⟨w,ew,a,xs,y,rfl,sq,hl,ey,w2,ew2,a2,xs2,y2,rfl,sq2,hl2,ey2,q⟩:=hK;rw [Ih lh] at ew;cases ew;rw [HW n1,Ih lh] at ew2;cases ew2;exact ⟨a,xs,xs2,y,y2,rfl,sq,sq2,hl,ey,ey2,y,[y2],rfl,y2,[],rfl,rfl,_,y,y2,rfl,q⟩
 ·cases fl with
  | next =>
   obtain ⟨σ',H',I',v,r1,r2,rfl,q⟩:=q;have I2:=I'.ghost hN hv (some v);rw [List.set_comm _ _ n2,List.set_comm _ _ n1] at I2;exact ⟨_,H',I2,q⟩
  | brk=>exact q
  | cont=>exact q
  | ret u=>exact q
end
end L2
end
set_option bootstrap.genMatcherCode true
section
namespace K76
open PySem PySem.Spec PyProof.Rows L2
noncomputable def top (i:Nat):Stmt:=PySem.Challenge.pw_webshapes_k76_whatever_lists.main.body.getD i (.Pass ⟨0,0,0,0⟩)
noncomputable abbrev ij:Stmt:=top 2
noncomputable abbrev cw:Stmt:=top 4
noncomputable abbrev cx:Stmt:=top 5
noncomputable abbrev gy:Stmt:=top 6
noncomputable abbrev iB:Stmt:=top 7
noncomputable abbrev il:Stmt:=top 8
noncomputable abbrev eK:Stmt:=top 10
noncomputable abbrev cq:Stmt:=top 11
noncomputable abbrev aG:Stmt:=top 12
noncomputable abbrev cn:Stmt:=top 13
noncomputable abbrev bX:Stmt:=top 14
noncomputable abbrev fq:Stmt:=top 15
noncomputable abbrev cO:Stmt:=top 16
noncomputable abbrev c8:Stmt:=top 17
noncomputable abbrev hG:Stmt:=top 18
noncomputable abbrev fQ:Stmt:=top 19
noncomputable abbrev cp:Stmt:=top 20
noncomputable abbrev cL:Stmt:=top 21
noncomputable abbrev aI:Stmt:=top 22
noncomputable abbrev se:Stmt:=top 24
noncomputable abbrev oQ:Stmt:=top 25
noncomputable abbrev jc:Stmt:=top 26
noncomputable abbrev p7:Stmt:=top 27
noncomputable abbrev gi:Stmt:=top 28
noncomputable abbrev dh:Stmt:=top 29
noncomputable abbrev lx:Stmt:=top 30
noncomputable abbrev kZ:Stmt:=top 31
noncomputable abbrev kM:Stmt:=top 32
noncomputable abbrev cS:Stmt:=top 33
noncomputable abbrev jm:Stmt:=top 34
noncomputable abbrev nP:Stmt:=top 35
noncomputable abbrev ji:Stmt:=top 36
noncomputable abbrev bH:Stmt:=top 37
noncomputable abbrev bR:Stmt:=top 38
noncomputable abbrev i6:Stmt:=top 39
noncomputable abbrev gE:Stmt:=top 40
noncomputable abbrev gh:Stmt:=top 41
noncomputable abbrev oO:Stmt:=top 42
noncomputable def dfs:List (Str×Stmt×List Str):=("is_whole", ij,["thing"]) :: ("rung_called", cw,["rungs", "name"]) :: ("needed_rows", cx,["rung"]) :: ("rules_out", gy,["rung", "bond"]) :: ("kinds_of", iB,["rungs", "name"]) :: ("may_have", il,["rungs", "name", "bond", "hollows"]) :: ("names_of", eK,["rungs"]) :: ("is_hollow_tuple", cq,["thing", "names"]) :: ("are_hollow_tuples", aG,["hollows", "names"]) :: ("is_shown_hollow", cn,["rung", "rounds"]) :: ("hollows_hold", bX,["rungs", "hollows"]) :: ("is_related", fq,["thing", "firsts", "seconds"]) :: ("is_no_greater", cO,["high", "other"]) :: ("kinds_fit", c8,["rungs", "one", "rung"]) :: ("row_fits", hG,["may", "row", "related"]) :: ("closed_of", fQ,["rungs", "one"]) :: ("closed_fits", cp,["rungs", "one", "rung", "empty"]) :: ("tuple_fits", cL,["rungs", "one", "rung", "related", "empty"]) :: ("relation_holds", aI,["rungs", "others", "relation", "hollows"]) :: ("_law_pen", se,["_law_script"]) :: ("_law_draw", oQ,["_law_pen_here", "_law_many"]) :: ("_law_names", jc,["_law_pen_here", "_law_many"]) :: ("_law_rows", p7,["_law_pen_here", "_law_names_here", "_law_bonds"]) :: ("_law_rungs", gi,["_law_pen_here", "_law_names_here", "_law_bonds"]) :: ("_law_changed", dh,["_law_pen_here", "_law_rung_here", "_law_names_here", "_law_bonds"]) :: ("_law_two", lx,["_law_pen_here", "_law_most"]) :: ("_law_rung", kZ,["_law_rungs_here", "_law_name"]) :: ("_law_barred", kM,["_law_rung_here", "_law_bond"]) :: ("_law_hollow", cS,["_law_rungs_here"]) :: ("_law_kinds", jm,["_law_rungs_here", "_law_name"]) :: ("_law_may", nP,["_law_rungs_here", "_law_name", "_law_bond", "_law_hollows"]) :: ("_law_row_let", ji,["_law_rungs_here", "_law_row", "_law_relation", "_law_name", "_law_hollows"]) :: ("_law_tuple_let", bH,["_law_rungs_here", "_law_others", "_law_relation", "_law_pair", "_law_hollows"]) :: ("_law_greatest", bR,["_law_rungs_here", "_law_others", "_law_hollows"]) :: ("_law_lone", i6,["_law_rungs_here"]) :: ("_law_odd_tuple", gE,["_law_pen_here", "_law_rungs_here", "_law_others"]) :: ("_law_odd_round", gh,["_law_pen_here", "_law_rungs_here", "_law_hollows"]) :: ("law", oO,["_law_script"]) :: []
structure Adr where
 f:Nat->Addr×FuncData
 gS:Addr
structure Txt (K:Fg) (mg:Str->Option Value) (t:Adr):Prop where
 d:∀ i {x st ps},dfs[i]?=some (x,st,ps)->Fa K mg x st ps (t.f i)
 z_abs:mg "abs" = none
 z_all:mg "all" = none
 z_bool:mg "bool" = none
 z_dict:mg "dict" = none
 z_int:mg "int" = none
 z_isinstance:mg "isinstance" = none
 z_len:mg "len" = none
 z_list:mg "list" = none
 z_max:mg "max" = none
 z_min:mg "min" = none
 z_range:mg "range" = none
 z_set:mg "set" = none
 z_sorted:mg "sorted" = none
 z_tuple:mg "tuple" = none
 g_KINDS:mg "KINDS" = some (.ref t.gS)
 s_KINDS:∀ H,SqT K H t.gS [.str "number", .str "said", .str "thing"]
theorem oj:ag ["thing"] ["thing"] (aa ij):=scm
theorem j8:ag ["rungs", "name"] ["rungs", "name"] (aa cw):=scm
theorem j7:ag ["rung"] ["rung"] (aa cx):=scm
theorem mR:ag ["rung", "bond"] ["rung", "bond"] (aa gy):=scm
theorem jR:ag ["rungs", "name", "rung"] ["rungs", "name"] (aa iB):=scm
theorem fO:ag ["rungs", "name", "bond", "hollows", "rung", "row"] ["rungs", "name", "bond", "hollows"] (aa il):=scm
theorem oA:ag ["rungs"] ["rungs"] (aa eK):=scm
theorem fX:ag ["thing", "names"] ["thing", "names"] (aa cq):=scm
theorem fi:ag ["hollows", "names"] ["hollows", "names"] (aa aG):=scm
theorem cI:ag ["rung", "rounds", "row"] ["rung", "rounds"] (aa cn):=scm
theorem eT:ag ["rungs", "hollows", "rounds"] ["rungs", "hollows"] (aa bX):=scm
theorem lq:ag ["thing", "firsts", "seconds"] ["thing", "firsts", "seconds"] (aa fq):=scm
theorem iF:ag ["high", "other"] ["high", "other"] (aa cO):=scm
theorem g7:ag ["rungs", "one", "rung", "wide"] ["rungs", "one", "rung"] (aa c8):=scm
theorem oa:ag ["may", "row", "related"] ["may", "row", "related"] (aa hG):=scm
theorem mh:ag ["rungs", "one"] ["rungs", "one"] (aa fQ):=scm
theorem fw:ag ["rungs", "one", "rung", "empty", "bonds"] ["rungs", "one", "rung", "empty"] (aa cp):=scm
theorem kP:ag ["rungs", "one", "rung", "related", "empty"] ["rungs", "one", "rung", "related", "empty"] (aa cL):=scm
theorem aC:ag ["rungs", "others", "relation", "hollows", "firsts", "seconds", "empty", "related", "thing"] ["rungs", "others", "relation", "hollows"] (aa aI):=scm
theorem Cm:ag ["_law_script"] ["_law_script"] (aa se):=scm
theorem dR:ag ["_law_pen_here", "_law_many", "_law_script", "_law_found", "_law_at", "_law_cell", "_law_number"] ["_law_pen_here", "_law_many"] (aa oQ):=scm
theorem bq:ag ["_law_pen_here", "_law_many", "_law_letters", "_law_words", "_law_base", "_law_k", "_law_spot", "_law_start", "_law_step", "_law_found", "_law_letter"] ["_law_pen_here", "_law_many"] (aa jc):=scm
theorem jS:ag ["_law_pen_here", "_law_names_here", "_law_bonds", "_law_rows_here", "_law_bond", "_law_low", "_law_high"] ["_law_pen_here", "_law_names_here", "_law_bonds"] (aa p7):=scm
theorem cH:ag ["_law_pen_here", "_law_names_here", "_law_bonds", "_law_found", "_law_name", "_law_kind", "_law_rows_here", "_law_closed"] ["_law_pen_here", "_law_names_here", "_law_bonds"] (aa gi):=scm
theorem au:ag ["_law_pen_here", "_law_rung_here", "_law_names_here", "_law_bonds", "_law_name", "_law_kind", "_law_rows_here", "_law_closed", "_law_changed_here", "_law_bond", "_law_low", "_law_high", "_law_other", "_law_way"] ["_law_pen_here", "_law_rung_here", "_law_names_here", "_law_bonds"] (aa dh):=scm
theorem fS:ag ["_law_pen_here", "_law_most", "_law_bonds", "_law_names_here", "_law_rungs_here", "_law_others", "_law_called", "_law_found", "_law_turn"] ["_law_pen_here", "_law_most"] (aa lx):=scm
theorem y1:ag ["_law_rungs_here", "_law_name"] ["_law_rungs_here", "_law_name"] (aa kZ):=scm
theorem q0:ag ["_law_rung_here", "_law_bond"] ["_law_rung_here", "_law_bond"] (aa kM):=scm
theorem bp:ag ["_law_rungs_here", "_law_found", "_law_number", "_law_more", "_law_rung_here", "_law_wanted", "_law_name"] ["_law_rungs_here"] (aa cS):=scm
theorem pX:ag ["_law_rungs_here", "_law_name", "_law_rung_here"] ["_law_rungs_here", "_law_name"] (aa jm):=scm
theorem rn:ag ["_law_rungs_here", "_law_name", "_law_bond", "_law_hollows", "_law_rung_here", "_law_rows_here"] ["_law_rungs_here", "_law_name", "_law_bond", "_law_hollows"] (aa nP):=scm
theorem bA:ag ["_law_rungs_here", "_law_row", "_law_relation", "_law_name", "_law_hollows", "_law_bond", "_law_low", "_law_high", "_law_other", "_law_few", "_law_much", "_law_shape"] ["_law_rungs_here", "_law_row", "_law_relation", "_law_name", "_law_hollows"] (aa ji):=scm
theorem bQ:ag ["_law_rungs_here", "_law_others", "_law_relation", "_law_pair", "_law_hollows", "_law_name", "_law_rung_here", "_law_kinds_here", "_law_beyond"] ["_law_rungs_here", "_law_others", "_law_relation", "_law_pair", "_law_hollows"] (aa bH):=scm
theorem br:ag ["_law_rungs_here", "_law_others", "_law_hollows", "_law_relation", "_law_name", "_law_size"] ["_law_rungs_here", "_law_others", "_law_hollows"] (aa bR):=scm
theorem tW:ag ["_law_rungs_here", "_law_names_here"] ["_law_rungs_here"] (aa i6):=scm
theorem bB:ag ["_law_pen_here", "_law_rungs_here", "_law_others", "_law_one", "_law_two_here", "_law_lone_here", "_law_some"] ["_law_pen_here", "_law_rungs_here", "_law_others"] (aa gE):=scm
theorem bx:ag ["_law_pen_here", "_law_rungs_here", "_law_hollows", "_law_name", "_law_far", "_law_some"] ["_law_pen_here", "_law_rungs_here", "_law_hollows"] (aa gh):=scm
theorem cV:ag ["_law_script", "_law_pen_here", "_law_turn", "_law_rungs_here", "_law_others", "_law_hollows", "_law_relation", "_law_kept", "_law_k", "_law_at", "_law_bent", "_gh"] ["_law_script"] (aa oO):=scm
noncomputable def gds:List PyData:=[.tuple [PyData.str "number", PyData.str "said", PyData.str "thing"]]
noncomputable def gav (t:Adr):Nat->V:=fun g=>([.ref t.gS]:List V)[g]?.getD .non
theorem aW {K:Fg} {mg:Str->Option Value} {t:Adr} (T:Txt K mg t):∀ g d,gds[g]?=some d->∀ F H,Dm K F H d (gav t g):=by
 intro g d h F H;rcases g with _ | g
 ·cases h;exact ⟨_,_,rfl,T.s_KINDS H,by decide,⟨_,_,rfl,⟨rfl,by decide +kernel,iZ _⟩,⟨_,_,rfl,⟨rfl,by decide +kernel,iZ _⟩,⟨_,_,rfl,⟨rfl,by decide +kernel,iZ _⟩,rfl⟩⟩⟩⟩
 cases h
noncomputable def fG:XS :=
 (.ret (.qN (p1 (vv "int") (vr 0)) (.zL (p1 (vv "bool") (vr 0)))))
noncomputable def de:Fn:=cE gds [.dat] 1 fG
def nL (K:Fg):Sp:=cB de K
noncomputable def fo:XS :=
 (.ret (p2 ixP (.cmp [1] (.lst (vr 0)) (.tst (p2 eqP (p2 ixP (vr 0) (ci 0)) (vr 1))) (vr 0)) (ci 0)))
noncomputable def aL:Fn:=cE gds [.dat,.dat] 2 fo
def j9 (K:Fg):Sp:=cB aL K
noncomputable def fu:XS :=
 (.ret (.cmp [] (.tup (p2 ixP (vr 0) (ci 2))) (.tst (p2 geP (p2 ixP (vr 0) (ci 1)) (ci 1))) (vr 0)))
noncomputable def bO:Fn:=cE gds [.dat] 1 fu
def j3 (K:Fg):Sp:=cB bO K
noncomputable def hZ:XS :=
 (.ret (.orv (p2 inP (p2 ixP (vr 0) (ci 1)) (.tup (.cons (cs "number") (.cons (cs "said") .nil)))) (.qN (p2 hV (p2 ixP (vr 0) (ci 3)) (.cst .n)) (p2 fA (vr 1) (p2 ixP (vr 0) (ci 3))))))
noncomputable def cK:Fn:=cE gds [.dat,.dat] 2 hZ
def mx (K:Fg):Sp:=cB cK K
noncomputable def jx:XS :=
 (.seq (.ifs (.tst (p2 eqP (vr 1) (cs ""))) (.ret (.glb 0)) .skip)
  (.seq (.aK 2 (.call aL (.cons (vr 0) (.cons (vr 1) .nil))))
  (.seq (.ifs (.tst (p2 neP (p2 ixP (vr 2) (ci 1)) (cs "any"))) (.ret (.tup (.cons (p2 ixP (vr 2) (ci 1)) .nil))) .skip)
  (.ret (.ifx (.tru (.call bO (.cons (vr 2) .nil))) (.tup (.cons (cs "thing") .nil)) (.glb 0))))))
noncomputable def dt:Fn:=cE gds [.dat,.dat] 3 jx
def oF (K:Fg):Sp:=cB dt K
noncomputable def jw:XS :=
 (.seq (.ifs (.tst (p2 eqP (vr 1) (cs ""))) (.ret (.tup (.cons (ci 0) (.cons (.cst .n) (.cons (cs "") .nil))))) .skip)
  (.seq (.aK 4 (.call aL (.cons (vr 0) (.cons (vr 1) .nil))))
  (.seq (.ifs (.tst (.call cK (.cons (vr 4) (.cons (vr 2) .nil)))) (.ret (.tup (.cons (ci 0) (.cons (ci 0) (.cons (.cst .n) .nil))))) .skip)
  (.seq (.fr 5 (.tup (p2 ixP (vr 4) (ci 2))) (.ifs (.tst (p2 eqP (p2 ixP (vr 5) (ci 0)) (vr 2))) (.ret (.ifx (.tst (p2 inP (p2 ixP (vr 5) (ci 3)) (vr 3))) (.tup (.cons (ci 0) (.cons (ci 0) (.cons (.cst .n) .nil)))) (p2 wq (vr 5) (ci 1)))) .skip))
  (.ret (.tup (.cons (ci 0) (.cons (.cst .n) (.cons (cs "") .nil)))))))))
noncomputable def dQ:Fn:=cE gds [.dat,.dat,.dat,.dat] 6 jw
def nY (K:Fg):Sp:=cB dQ K
noncomputable def jA:XS :=
 (.ret (.cmp [] (.lst (vr 0)) .yes (p2 ixP (vr 0) (ci 0))))
noncomputable def b7:Fn:=cE gds [.dat] 1 jA
def nA (K:Fg):Sp:=cB b7 K
noncomputable def ax:XS :=
 (.seq (.ifs (.or (.not (.tst (p1 (vv "tuple") (vr 0)))) (.tst (p2 neP (p1 iP (vr 0)) (ci 2)))) (.ret (.cst (.b false))) .skip)
  (.ret (.qN (p2 inP (p2 ixP (vr 0) (ci 0)) (vr 1)) (.qN (.call de (.cons (p2 ixP (vr 0) (ci 1)) .nil)) (p2 geP (p2 ixP (vr 0) (ci 1)) (ci 0))))))
noncomputable def aH:Fn:=cE gds [.dat,.dat] 2 ax
def gp (K:Fg):Sp:=cB aH K
noncomputable def aR:XS :=
 (.seq (.ifs (.or (.not (.tst (p1 (vv "list") (vr 0)))) (.not (.tst (p1 uL (.cmp [1] (.lst (vr 0)) .yes (.call aH (.cons (vr 0) (.cons (vr 1) .nil)))))))) (.ret (.cst (.b false))) .skip)
  (.ret (p2 eqP (p1 yj (.cmp [] (.lst (vr 0)) .yes (p2 ixP (vr 0) (ci 0)))) (p1 iP (vr 0)))))
noncomputable def aQ:Fn:=cE gds [.dat,.dat] 2 aR
def fh (K:Fg):Sp:=cB aQ K
noncomputable def cD:XS :=
 (.seq (.fr 2 (.lst (.call bO (.cons (vr 0) .nil))) (.ifs (.or (.tst (.call cK (.cons (vr 0) (.cons (p2 ixP (vr 2) (ci 0)) .nil)))) (.and (.tst (p2 (uS false) (p2 ixP (vr 2) (ci 3)) (vr 1))) (.tst (p2 ltP (p2 iN (vr 1) (p2 ixP (vr 2) (ci 3))) (p2 iN (vr 1) (p2 ixP (vr 0) (ci 0))))))) (.ret (.cst (.b true))) .skip))
  (.ret (.cst (.b false))))
noncomputable def bG:Fn:=cE gds [.dat,.dat] 3 cD
def fZ (K:Fg):Sp:=cB bG K
noncomputable def cb:XS :=
 (.seq (.ifs (.not (.tst (.call aQ (.cons (vr 1) (.cons (.call b7 (.cons (vr 0) .nil)) .nil))))) (.ret (.cst (.b false))) .skip)
  (.seq (.aK 2 (p1 nh (vr 1)))
  (.ret (p1 uL (.cmp [2,0] (.dct (vr 2)) .yes (.call bG (.cons (.call aL (.cons (vr 2) (.cons (vr 0) .nil))) (.cons (vr 1) .nil))))))))
noncomputable def bJ:Fn:=cE gds [.dat,.dat] 3 cb
def i9 (K:Fg):Sp:=cB bJ K
noncomputable def bg:XS :=
 (.seq (.ifs (.or (.not (.tst (p1 (vv "tuple") (vr 0)))) (.tst (p2 neP (p1 iP (vr 0)) (ci 2)))) (.ret (.cst (.b false))) .skip)
  (.ret (.qN (p2 inP (p2 ixP (vr 0) (ci 0)) (vr 1)) (p2 inP (p2 ixP (vr 0) (ci 1)) (vr 2)))))
noncomputable def bj:Fn:=cE gds [.dat,.dat,.dat] 3 bg
def k8 (K:Fg):Sp:=cB bj K
noncomputable def dZ:XS :=
 (.ret (.orv (p2 isP (vr 1) (.cst .n)) (.qN (p2 hV (vr 0) (.cst .n)) (p2 leP (vr 0) (vr 1)))))
noncomputable def bY:Fn:=cE gds [.dat,.dat] 2 dZ
def iG (K:Fg):Sp:=cB bY K
noncomputable def iD:XS :=
 (.seq (.aK 3 (.ifx (.tst (p2 eqP (p2 ixP (vr 2) (ci 1)) (cs "any"))) (.glb 0) (.tup (.cons (p2 ixP (vr 2) (ci 1)) .nil))))
  (.ret (p1 uL (.cmp [3] (.tup (.call dt (.cons (vr 0) (.cons (vr 1) .nil)))) .yes (p2 inP (vr 0) (vr 1))))))
noncomputable def eY:Fn:=cE gds [.dat,.dat,.dat] 4 iD
def mF (K:Fg):Sp:=cB eY K
noncomputable def jh:XS :=
 (.seq (.ifs (.or (.tst (p2 ltP (p2 ixP (vr 0) (ci 0)) (p2 ixP (vr 1) (ci 1)))) (.not (.tst (.call bY (.cons (p2 ixP (vr 0) (ci 1)) (.cons (p2 ixP (vr 1) (ci 2)) .nil)))))) (.ret (.cst (.b false))) .skip)
  (.ret (.orv (p2 eqP (p2 ixP (vr 0) (ci 1)) (ci 0)) (p2 (uS false) (.tup (.cons (p2 ixP (vr 0) (ci 2)) (.cons (p2 ixP (vr 1) (ci 3)) .nil))) (vr 2)))))
noncomputable def fN:Fn:=cE gds [.dat,.dat,.bor] 3 jh
def nM (K:Fg):Sp:=cB fN K
noncomputable def hJ:XS :=
 (.ret (.ifx (.tst (p2 eqP (vr 1) (cs ""))) (.cst .n) (p2 ixP (.call aL (.cons (vr 0) (.cons (vr 1) .nil))) (ci 3))))
noncomputable def eO:Fn:=cE gds [.dat,.dat] 2 hJ
def lM (K:Fg):Sp:=cB eO K
noncomputable def fx:XS :=
 (.seq (.ifs (.or (.tst (p2 isP (p2 ixP (vr 2) (ci 3)) (.cst .n))) (.tst (p2 fA (cs "thing") (.call dt (.cons (vr 0) (.cons (vr 1) .nil)))))) (.ret (.cst (.b true))) .skip)
  (.seq (.aK 4 (.call eO (.cons (vr 0) (.cons (vr 1) .nil))))
  (.seq (.ifs (.tst (p2 isP (vr 4) (.cst .n))) (.ret (.cst (.b false))) .skip)
  (.ret (p1 uL (.cmp [2,0,1,3] (.tup (vr 4)) .yes (.orv (p2 inP (vr 0) (p2 ixP (vr 1) (ci 3))) (p2 eqP (p2 ixP (.call dQ (.cons (vr 2) (.cons (vr 3) (.cons (vr 0) (.cons (vr 4) .nil))))) (ci 1)) (ci 0)))))))))
noncomputable def cM:Fn:=cE gds [.dat,.dat,.dat,.dat] 5 fx
def ke (K:Fg):Sp:=cB cM K
noncomputable def fR:XS :=
 (.seq (.ifs (.tst (p2 inP (vr 1) (vr 4))) (.ret (.cst (.b true))) .skip)
  (.seq (.ifs (.or (.not (.tst (.call eY (.cons (vr 0) (.cons (vr 1) (.cons (vr 2) .nil)))))) (.not (.tst (.call cM (.cons (vr 0) (.cons (vr 1) (.cons (vr 2) (.cons (vr 4) .nil)))))))) (.ret (.cst (.b false))) .skip)
  (.ret (p1 uL (.cmp [3,0,1,4] (.tup (p2 ixP (vr 2) (ci 2))) .yes (.call fN (.cons (.call dQ (.cons (vr 2) (.cons (vr 3) (.cons (p2 ixP (vr 0) (ci 0)) (.cons (vr 4) .nil))))) (.cons (vr 0) (.cons (vr 1) .nil)))))))))
noncomputable def dB:Fn:=cE gds [.dat,.dat,.dat,.bor,.dat] 5 fR
def k9 (K:Fg):Sp:=cB dB K
noncomputable def bh:XS :=
 (.seq (.aK 4 (p2 cJ (.call b7 (.cons (vr 0) .nil)) (.lst (.cons (cs "") .nil))))
  (.seq (.aK 5 (.call b7 (.cons (vr 1) .nil)))
  (.seq (.ifs (.or (.not (.tst (p1 (vv "list") (vr 2)))) (.not (.tst (p1 uL (.cmp [4,5] (.lst (vr 2)) .yes (.call bj (.cons (vr 0) (.cons (vr 1) (.cons (vr 2) .nil))))))))) (.ret (.cst (.b false))) .skip)
  (.seq (.ifs (.not (.tst (.call bJ (.cons (vr 0) (.cons (vr 3) .nil))))) (.ret (.cst (.b false))) .skip)
  (.seq (.aK 6 (.cmp [] (.lst (vr 3)) .yes (p2 ixP (vr 0) (ci 0))))
  (.seq (.pB 7 (.prm Bn .nil))
  (.seq (.fr 8 (.lst (vr 2)) (.sto oN 7 (vr 8) (.cst (.b true))))
  (.ret (p1 uL (.yQ ["one", "other"] [0,7,6,1] (.dct (vr 7)) (.call dB (.cons (vr 2) (.cons (vr 0) (.cons (.call aL (.cons (vr 5) (.cons (vr 1) .nil))) (.cons (vr 3) (.cons (vr 4) .nil))))))))))))))))
noncomputable def aq:Fn:=cE gds [.dat,.dat,.dat,.dat] 9 bh
def gM (K:Fg):Sp:=cB aq K
noncomputable def A3:XS :=
 (.ret (.dsp (.cons (cs "script") (vr 0) (.cons (cs "at") (ci 0) (.cons (cs "left") (ci 0) .nil)))))
noncomputable def t5:Fn:=cE gds [.dat] 1 A3
def B4 (K:Fg):Sp:=cB t5 K
noncomputable def rX:XS :=
 (.seq (.aK 2 (p2 iN (vr 0) (cs "script")))
  (.seq (.ifs (.tst (p2 gtP (p2 iN (vr 0) (cs "left")) (ci 0))) (.seq (.aK 3 (p2 uP (p2 iN (vr 0) (cs "left")) (vr 1)))
  (.seq (.sto oN 0 (cs "left") (p2 vV (p2 iN (vr 0) (cs "left")) (vr 1)))
  (.ret (vr 3)))) .skip)
  (.seq (.aK 4 (p2 iN (vr 0) (cs "at")))
  (.seq (.sto oN 0 (cs "at") (p2 cJ (vr 4) (ci 1)))
  (.seq (.aK 5 (p2 cJ (p2 cJ (p2 uM (p2 uM (ci 60013) (vr 4)) (vr 4)) (p2 uM (ci 11) (vr 4))) (ci 5)))
  (.seq (.ifs (.tst (p2 ltP (vr 4) (p1 iP (vr 2)))) (.seq (.aK 5 (p2 ixP (vr 2) (vr 4)))
  (.ifs (.tst (p2 geP (p1 Dj (vr 5)) (p2 FY (ci 10) (ci 18)))) (.seq (.sto oN 0 (cs "left") (p2 vV (p1 Dj (vr 5)) (vr 1)))
  (.ret (p2 uP (p1 Dj (vr 5)) (vr 1)))) .skip)) (.ifs (.tst (p2 gtP (p1 iP (vr 2)) (ci 0))) (.aK 5 (p2 cJ (p2 uP (p2 ixP (vr 2) (p2 uP (vr 4) (p1 iP (vr 2)))) (p2 FY (ci 10) (ci 17))) (p2 uM (ci 65537) (vr 4)))) .skip))
  (.seq (.aK 6 (p2 uP (p2 uM (p2 cJ (p2 cJ (p2 uP (vr 5) (ci 2147483629)) (p2 uM (ci 48271) (vr 4))) (ci 1)) (ci 69621)) (ci 2147483587)))
  (.seq (.aK 6 (p2 uP (p2 cJ (p2 cJ (p2 uM (vr 6) (vr 6)) (p2 uM (ci 40503) (vr 6))) (vr 4)) (ci 2147483563)))
  (.ret (p2 uP (p2 vV (vr 6) (ci 11)) (vr 1)))))))))))
noncomputable def ai:Fn:=cE gds [.ino,.dat] 7 rX
def xI (K:Fg):Sp:=cB ai K
noncomputable def pN:XS :=
 (.seq (.aK 2 (cs "abcdefghijklmnopqrstuvwxyz"))
  (.seq (.aK 3 (.lst (.cons (cs "any") (.cons (cs "all") (.cons (cs "keeps") (.cons (cs "is") (.cons (cs "many") (.cons (cs "each") (.cons (cs "least") (.cons (cs "shape") .nil))))))))))
  (.seq (.aK 4 (p2 ixP (.lst (.cons (cs "") (.cons (cs "") (.cons (cs "") (.cons (p2 ixP (vr 3) (.call ai (.cons (vr 0) (.cons (ci 8) .nil)))) .nil))))) (.call ai (.cons (vr 0) (.cons (ci 4) .nil)))))
  (.seq (.fr 5 (.rng1 (.cons (.call ai (.cons (vr 0) (.cons (p2 C5 (ci 8) (p1 iP (vr 4))) .nil))) .nil)) (.aK 4 (p2 cJ (vr 4) (p2 ixP (vr 2) (.call ai (.cons (vr 0) (.cons (ci 26) .nil)))))))
  (.seq (.aK 6 (.call ai (.cons (vr 0) (.cons (p2 cJ (p1 iP (vr 4)) (ci 1)) .nil))))
  (.seq (.aK 7 (.call ai (.cons (vr 0) (.cons (ci 26) .nil))))
  (.seq (.aK 8 (p2 ixP (.lst (.cons (ci 1) (.cons (ci 3) (.cons (ci 5) (.cons (ci 7) (.cons (ci 9) (.cons (ci 11) (.cons (ci 15) (.cons (ci 17) (.cons (ci 19) (.cons (ci 21) (.cons (ci 23) (.cons (ci 25) .nil))))))))))))) (.call ai (.cons (vr 0) (.cons (ci 12) .nil)))))
  (.seq (.pB 9 (.lst .nil))
  (.seq (.fr 5 (.rng1 (.cons (vr 1) .nil)) (.seq (.aK 10 (p2 ixP (vr 2) (p2 uP (p2 cJ (vr 7) (p2 uM (vr 8) (vr 5))) (ci 26))))
  (.drop (.mtr zI 9 (.cons (p2 cJ (p2 cJ (p2 zw (vr 4) (vr 6)) (vr 10)) (p2 wq (vr 4) (vr 6))) .nil)))))
  (.seq (.ifs (.tst (p2 eqP (.call ai (.cons (vr 0) (.cons (ci 2) .nil))) (ci 0))) (.ret (.tke 9)) .skip)
  (.ret (.cmp [6,0] (.lst (vr 9)) .yes (p2 zw (vr 0) (p2 cJ (p2 cJ (vr 1) (ci 1)) (.call ai (.cons (vr 2) (.cons (p2 C5 (p1 iP (vr 0)) (vr 1)) .nil)))))))))))))))))
noncomputable def fe:Fn:=cE gds [.ino,.dat] 11 pN
def vM (K:Fg):Sp:=cB fe K
noncomputable def tQ:XS :=
 (.seq (.pB 3 (.lst .nil))
  (.seq (.fr 4 (.lst (vr 2)) (.ifs (.and (.tst (p2 ltP (p1 iP (vr 3)) (ci 3))) (.tst (p2 gtP (.call ai (.cons (vr 0) (.cons (ci 3) .nil))) (ci 0)))) (.seq (.aK 5 (p2 ixP (.lst (.cons (ci 0) (.cons (ci 0) (.cons (ci 0) (.cons (ci 1) (.cons (ci 1) (.cons (ci 2) (.cons (ci 3) .nil)))))))) (.call ai (.cons (vr 0) (.cons (ci 7) .nil)))))
  (.seq (.aK 6 (p2 ixP (.lst (.cons (.cst .n) (.cons (.cst .n) (.cons (vr 5) (.cons (p2 GH (ci 3) (p2 cJ (vr 5) (ci 1))) (.cons (ci 3) .nil)))))) (.call ai (.cons (vr 0) (.cons (ci 5) .nil)))))
  (.drop (.mtr zI 3 (.cons (.tup (.cons (vr 4) (.cons (vr 5) (.cons (vr 6) (.cons (p2 ixP (vr 1) (.call ai (.cons (vr 0) (.cons (p1 iP (vr 1)) .nil)))) .nil))))) .nil))))) .skip))
  (.ret (p1 kK (vr 3)))))
noncomputable def oI:Fn:=cE gds [.ino,.dat,.dat] 7 tQ
def xN (K:Fg):Sp:=cB oI K
noncomputable def o9:XS :=
 (.seq (.pB 3 (.lst .nil))
  (.seq (.fr 4 (.lst (vr 1)) (.seq (.aK 5 (p2 ixP (.lst (.cons (cs "any") (.cons (cs "any") (.cons (cs "thing") (.cons (cs "thing") (.cons (cs "thing") (.cons (cs "number") (.cons (cs "said") .nil)))))))) (.call ai (.cons (vr 0) (.cons (ci 7) .nil)))))
  (.seq (.aK 6 (.call oI (.cons (vr 0) (.cons (vr 1) (.cons (vr 2) .nil)))))
  (.seq (.ifs (.and (.tst (p2 inP (vr 5) (.tup (.cons (cs "number") (.cons (cs "said") .nil))))) (.tst (p2 gtP (.call ai (.cons (vr 0) (.cons (ci 4) .nil))) (ci 0)))) (.aK 6 (p1 kK (.yQ ["_law_bond", "_law_low", "_law_high", "_law_other"] [] (.tup (vr 6)) (.tup (.cons (vr 0) (.cons (ci 0) (.cons (vr 2) (.cons (vr 3) .nil)))))))) .skip)
  (.seq (.aK 7 (.cst .n))
  (.seq (.ifs (.tst (p2 eqP (.call ai (.cons (vr 0) (.cons (ci 3) .nil))) (ci 0))) (.aK 7 (p1 kK (.cmp [0] (.lst (vr 2)) (.tst (p2 gtP (.call ai (.cons (vr 1) (.cons (ci 9) .nil))) (ci 0))) (vr 0)))) .skip)
  (.drop (.mtr zI 3 (.cons (.tup (.cons (vr 4) (.cons (vr 5) (.cons (vr 6) (.cons (vr 7) .nil))))) .nil)))))))))
  (.ret (.tke 3))))
noncomputable def i4:Fn:=cE gds [.ino,.dat,.dat] 8 o9
def vN (K:Fg):Sp:=cB i4 K
noncomputable def kj:XS :=
 (.seq (.xk [4,5,6,7] (vr 1))
  (.seq (.pB 8 (.lst .nil))
  (.seq (.frT [9,10,11,12] (.tup (vr 6)) (.seq (.aK 13 (.call ai (.cons (vr 0) (.cons (ci 9) .nil))))
  (.seq (.ifs (.tst (p2 eqP (vr 13) (ci 0))) (.aK 10 (p2 Gd (ci 0) (p2 C5 (vr 10) (ci 1)))) .skip)
  (.seq (.ifs (.tst (p2 eqP (vr 13) (ci 1))) (.aK 10 (p1 yp (p2 cJ (p2 cJ (.lst (.cons (ci 3) .nil)) (.cmp [] (.lst (.lst (.cons (vr 11) .nil))) (.tst (p2 hV (vr 0) (.cst .n))) (vr 0))) (.lst (.cons (p2 cJ (vr 10) (ci 1)) .nil))))) .skip)
  (.seq (.ifs (.tst (p2 eqP (vr 13) (ci 2))) (.aK 11 (.cst .n)) .skip)
  (.seq (.ifs (.tst (p2 eqP (vr 13) (ci 3))) (.aK 11 (vr 10)) .skip)
  (.ifs (.tst (p2 neP (vr 13) (ci 4))) (.drop (.mtr zI 8 (.cons (.tup (.cons (vr 9) (.cons (vr 10) (.cons (vr 11) (.cons (p2 iN (vr 2) (vr 12)) .nil))))) .nil))) .skip)))))))
  (.seq (.ifs (.tst (p2 eqP (.call ai (.cons (vr 0) (.cons (ci 6) .nil))) (ci 0))) (.aK 5 (p2 ixP (.lst (.cons (cs "any") (.cons (cs "thing") .nil))) (.call ai (.cons (vr 0) (.cons (ci 2) .nil))))) .skip)
  (.seq (.ifs (.tst (p2 eqP (.call ai (.cons (vr 0) (.cons (ci 5) .nil))) (ci 0))) (.aK 7 (.cst .n)) .skip)
  (.seq (.ifs (.and (.tst (p2 hV (vr 7) (.cst .n))) (.tst (p2 eqP (.call ai (.cons (vr 0) (.cons (ci 3) .nil))) (ci 0)))) (.aK 7 (p1 kK (.cmp [7,0] (.lst (vr 3)) (.or (.tst (p2 inP (vr 0) (vr 1))) (.tst (p2 eqP (.call ai (.cons (vr 2) (.cons (ci 2) .nil))) (ci 0)))) (vr 0)))) .skip)
  (.ret (.tup (.cons (p2 iN (vr 2) (vr 4)) (.cons (vr 5) (.cons (p1 kK (vr 8)) (.cons (vr 7) .nil))))))))))))
noncomputable def gY:Fn:=cE gds [.ino,.dat,.dat,.dat] 14 kj
def qG (K:Fg):Sp:=cB gY K
noncomputable def wJ:XS :=
 (.seq (.aK 2 (p1 oK (.call fe (.cons (vr 0) (.cons (ci 4) .nil)))))
  (.seq (.aK 3 (.call fe (.cons (vr 0) (.cons (p2 cJ (ci 1) (.call ai (.cons (vr 0) (.cons (vr 1) .nil)))) .nil))))
  (.seq (.aK 4 (.call i4 (.cons (vr 0) (.cons (vr 3) (.cons (vr 2) .nil)))))
  (.seq (.aK 5 (.call fe (.cons (vr 0) (.cons (p1 iP (vr 3)) .nil))))
  (.seq (.ifs (.tst (p2 eqP (.call ai (.cons (vr 0) (.cons (ci 3) .nil))) (ci 0))) (.aK 5 (p2 cJ (p2 wq (vr 3) (ci 1)) (p2 zw (vr 3) (ci 1)))) .skip)
  (.seq (.ifs (.tst (p2 eqP (.call ai (.cons (vr 0) (.cons (ci 4) .nil))) (ci 0))) (.ret (.lst (.cons (vr 4) (.cons (.call i4 (.cons (vr 0) (.cons (vr 5) (.cons (p1 y3 (p2 cJ (p2 wq (vr 2) (ci 1)) (.call fe (.cons (vr 0) (.cons (ci 1) .nil))))) .nil)))) .nil)))) .skip)
  (.seq (.aK 6 (p1 nh (.cmp [3,5] (.rng1 (.cons (p1 iP (vr 3)) .nil)) .yes (.tup (.cons (p2 ixP (vr 1) (vr 0)) (.cons (p2 ixP (vr 2) (vr 0)) .nil))))))
  (.seq (.aK 7 (.cmp [0,6,2] (.lst (vr 4)) .yes (.call gY (.cons (vr 1) (.cons (vr 0) (.cons (vr 2) (.cons (vr 3) .nil)))))))
  (.seq (.aK 8 (.call ai (.cons (vr 0) (.cons (p1 iP (vr 7)) .nil))))
  (.ret (.lst (.cons (vr 4) (.cons (p2 cJ (p2 wq (vr 7) (vr 8)) (p2 zw (vr 7) (vr 8))) .nil)))))))))))))
noncomputable def sN:Fn:=cE gds [.ino,.dat] 9 wJ
def CO (K:Fg):Sp:=cB sN K
noncomputable def yC:XS :=
 (.ret (p2 ixP (.cmp [1] (.lst (vr 0)) (.tst (p2 eqP (p2 ixP (vr 0) (ci 0)) (vr 1))) (vr 0)) (ci 0)))
noncomputable def fM:Fn:=cE gds [.dat,.dat] 2 yC
def xx (K:Fg):Sp:=cB fM K
noncomputable def qR:XS :=
 (.ret (.orv (p2 inP (p2 ixP (vr 0) (ci 1)) (.tup (.cons (cs "number") (.cons (cs "said") .nil)))) (.qN (p2 hV (p2 ixP (vr 0) (ci 3)) (.cst .n)) (p2 fA (vr 1) (p2 ixP (vr 0) (ci 3))))))
noncomputable def gm:Fn:=cE gds [.dat,.dat] 2 qR
def sR (K:Fg):Sp:=cB gm K
noncomputable def m3:XS :=
 (.seq (.pB 1 (.prm Bn .nil))
  (.seq (.aK 2 (ci 0))
  (.seq (.pB 3 (.lst (.cons (cs "") .nil)))
  (.seq (.wh 100 (.tst (p2 neP (vr 3) (.lst .nil))) (.seq (.aK 2 (p2 cJ (vr 2) (ci 1)))
  (.seq (.pB 3 (.lst .nil))
  (.seq (.fr 4 (.lst (vr 0)) (.seq (.aK 5 (.cmp [] (.tup (p2 ixP (vr 4) (ci 2))) (.tst (p2 gtP (p2 ixP (vr 0) (ci 1)) (ci 0))) (vr 0)))
  (.seq (.aK 5 (.cmp [1,4] (.lst (vr 5)) (.or (.tst (p2 (uS false) (p2 ixP (vr 0) (ci 3)) (vr 1))) (.tst (.call gm (.cons (vr 2) (.cons (p2 ixP (vr 0) (ci 0)) .nil))))) (vr 0)))
  (.ifs (.and (.tst (p2 (uS true) (p2 ixP (vr 4) (ci 0)) (vr 1))) (.tst (p2 neP (vr 5) (.lst .nil)))) (.drop (.mtr zI 3 (.cons (p2 ixP (vr 4) (ci 0)) .nil))) .skip))))
  (.fr 6 (.lst (vr 3)) (.sto oN 1 (vr 6) (vr 2)))))))
  (.ret (.cmp [1] (.lst (vr 0)) (.tst (p2 (uS false) (p2 ixP (vr 0) (ci 0)) (vr 1))) (.tup (.cons (p2 ixP (vr 0) (ci 0)) (.cons (p2 iN (vr 1) (p2 ixP (vr 0) (ci 0))) .nil)))))))))
noncomputable def jf:Fn:=cE gds [.dat] 7 m3
def tH (K:Fg):Sp:=cB jf K
noncomputable def pW:XS :=
 (.seq (.ifs (.tst (p2 eqP (vr 1) (cs ""))) (.ret (.tup (.cons (cs "number") (.cons (cs "said") (.cons (cs "thing") .nil))))) .skip)
  (.seq (.aK 2 (.call fM (.cons (vr 0) (.cons (vr 1) .nil))))
  (.seq (.ifs (.tst (p2 neP (p2 ixP (vr 2) (ci 1)) (cs "any"))) (.ret (.tup (.cons (p2 ixP (vr 2) (ci 1)) .nil))) .skip)
  (.seq (.ifs (.tst (p2 neP (.cmp [] (.tup (p2 ixP (vr 2) (ci 2))) (.tst (p2 gtP (p2 ixP (vr 0) (ci 1)) (ci 0))) (vr 0)) (.lst .nil))) (.ret (.tup (.cons (cs "thing") .nil))) .skip)
  (.ret (.tup (.cons (cs "number") (.cons (cs "said") (.cons (cs "thing") .nil)))))))))
noncomputable def i5:Fn:=cE gds [.dat,.dat] 3 pW
def vi (K:Fg):Sp:=cB i5 K
noncomputable def wG:XS :=
 (.seq (.ifs (.tst (p2 eqP (vr 1) (cs ""))) (.ret (.tup (.cons (ci 0) (.cons (.cst .n) (.cons (cs "") .nil))))) .skip)
  (.seq (.aK 4 (.call fM (.cons (vr 0) (.cons (vr 1) .nil))))
  (.seq (.aK 5 (.cmp [2] (.tup (p2 ixP (vr 4) (ci 2))) (.tst (p2 eqP (p2 ixP (vr 0) (ci 0)) (vr 1))) (vr 0)))
  (.seq (.ifs (.or (.tst (p2 fA (cs "thing") (.call i5 (.cons (vr 0) (.cons (vr 1) .nil))))) (.tst (.call gm (.cons (vr 4) (.cons (vr 2) .nil))))) (.ret (.tup (.cons (ci 0) (.cons (ci 0) (.cons (.cst .n) .nil))))) .skip)
  (.seq (.ifs (.and (.tst (p2 neP (vr 5) (.lst .nil))) (.tst (p2 inP (p2 ixP (p2 ixP (vr 5) (ci 0)) (ci 3)) (vr 3)))) (.ret (.tup (.cons (ci 0) (.cons (ci 0) (.cons (.cst .n) .nil))))) .skip)
  (.ret (p2 wq (p2 ixP (p2 cJ (vr 5) (.lst (.cons (.tup (.cons (vr 2) (.cons (ci 0) (.cons (.cst .n) (.cons (cs "") .nil))))) .nil))) (ci 0)) (ci 1))))))))
noncomputable def pe:Fn:=cE gds [.dat,.dat,.dat,.dat] 6 wG
def Cb (K:Fg):Sp:=cB pe K
noncomputable def kL:XS :=
 (.seq (.xk [5,6,7,8] (vr 1))
  (.seq (.xk [9,10,11] (.call pe (.cons (vr 0) (.cons (vr 3) (.cons (vr 5) (.cons (vr 4) .nil))))))
  (.seq (.ifs (.or (.tst (p2 ltP (vr 9) (vr 6))) (.and (.tst (p2 hV (vr 7) (.cst .n))) (.or (.tst (p2 isP (vr 10) (.cst .n))) (.tst (p2 gtP (vr 10) (vr 7)))))) (.ret (.cst (.b false))) .skip)
  (.ret (.orv (p2 eqP (vr 10) (ci 0)) (p2 inP (.tup (.cons (vr 11) (.cons (vr 8) .nil))) (vr 2)))))))
noncomputable def gG:Fn:=cE gds [.dat,.dat,.dat,.dat,.dat] 12 kL
def qr (K:Fg):Sp:=cB gG K
noncomputable def iE:XS :=
 (.seq (.aK 5 (p2 ixP (vr 3) (ci 0)))
  (.seq (.aK 6 (.call fM (.cons (vr 1) (.cons (p2 ixP (vr 3) (ci 1)) .nil))))
  (.seq (.aK 7 (.call i5 (.cons (vr 0) (.cons (vr 5) .nil))))
  (.seq (.ifs (.tst (p2 inP (vr 5) (vr 4))) (.ret (.cst (.b true))) .skip)
  (.seq (.ifs (.and (.tst (p2 neP (p2 ixP (vr 6) (ci 1)) (cs "any"))) (.tst (p2 neP (vr 7) (.tup (.cons (p2 ixP (vr 6) (ci 1)) .nil))))) (.ret (.cst (.b false))) .skip)
  (.seq (.ifs (.tst (p2 neP (.cmp [0,2,5,4] (.tup (p2 ixP (vr 6) (ci 2))) (.not (.tst (.call gG (.cons (vr 1) (.cons (vr 0) (.cons (vr 2) (.cons (vr 3) (.cons (vr 4) .nil)))))))) (vr 0)) (.lst .nil))) (.ret (.cst (.b false))) .skip)
  (.seq (.ifs (.or (.tst (p2 isP (p2 ixP (vr 6) (ci 3)) (.cst .n))) (.tst (p2 fA (cs "thing") (vr 7)))) (.ret (.cst (.b true))) .skip)
  (.seq (.ifs (.or (.tst (p2 eqP (vr 5) (cs ""))) (.tst (p2 isP (p2 ixP (.call fM (.cons (vr 0) (.cons (vr 5) .nil))) (ci 3)) (.cst .n)))) (.ret (.cst (.b false))) .skip)
  (.seq (.aK 8 (.cmp [6] (.tup (p2 ixP (.call fM (.cons (vr 0) (.cons (vr 5) .nil))) (ci 3))) (.tst (p2 fA (vr 0) (p2 ixP (vr 1) (ci 3)))) (vr 0)))
  (.ret (p2 eqP (.cmp [0,5,4] (.lst (vr 8)) (.tst (p2 neP (p2 ixP (.call pe (.cons (vr 1) (.cons (vr 2) (.cons (vr 0) (.cons (vr 3) .nil))))) (ci 1)) (ci 0))) (vr 0)) (.lst .nil))))))))))))
noncomputable def eR:Fn:=cE gds [.dat,.dat,.dat,.dat,.dat] 9 iE
def mM (K:Fg):Sp:=cB eR K
noncomputable def jN:XS :=
 (.seq (.aK 3 (.lst .nil))
  (.seq (.fr 4 (.lst (p2 cJ (.lst (.cons (cs "") .nil)) (.cmp [] (.lst (vr 0)) .yes (p2 ixP (vr 0) (ci 0))))) (.aK 3 (p2 cJ (vr 3) (.cmp [4] (.lst (vr 1)) .yes (.tup (.cons (vr 1) (.cons (p2 ixP (vr 0) (ci 0)) .nil)))))))
  (.seq (.aK 5 (ci 0))
  (.seq (.wh 100 (.tst (p2 neP (vr 5) (p1 iP (vr 3)))) (.seq (.aK 5 (p1 iP (vr 3)))
  (.aK 3 (.cmp [0,1,3,2] (.lst (vr 3)) (.tst (.call eR (.cons (vr 1) (.cons (vr 2) (.cons (vr 3) (.cons (vr 0) (.cons (vr 4) .nil))))))) (vr 0)))))
  (.ret (vr 3))))))
noncomputable def fP:Fn:=cE gds [.dat,.dat,.dat] 6 jN
def nB (K:Fg):Sp:=cB fP K
noncomputable def uj:XS :=
 (.seq (.aK 1 (.cmp [] (.lst (vr 0)) .yes (p2 ixP (vr 0) (ci 0))))
  (.ret (p2 ixP (.cmp [1] (.str (cs "qzxabcdefg")) (.tst (p2 fA (vr 0) (vr 1))) (vr 0)) (ci 0))))
noncomputable def lA:Fn:=cE gds [.dat] 2 uj
def zh (K:Fg):Sp:=cB lA K
noncomputable def iz:XS :=
 (.seq (.aK 3 (p2 ixP (p2 ixP (vr 1) (.call ai (.cons (vr 0) (.cons (p1 iP (vr 1)) .nil)))) (ci 0)))
  (.seq (.aK 4 (p2 ixP (p2 ixP (vr 2) (.call ai (.cons (vr 0) (.cons (p1 iP (vr 2)) .nil)))) (ci 0)))
  (.seq (.aK 5 (.call lA (.cons (p2 cJ (vr 1) (vr 2)) .nil)))
  (.seq (.aK 6 (.lst (.cons (.tup (.cons (vr 5) (.cons (vr 4) .nil))) (.cons (.tup (.cons (vr 3) (.cons (vr 5) .nil))) (.cons (.tup (.cons (vr 3) (.cons (cs "") .nil))) (.cons (.tup (.cons (cs "") (.cons (cs "") .nil))) (.cons (.tup (.cons (vr 3) .nil)) (.cons (.tup (.cons (vr 3) (.cons (vr 4) (.cons (vr 4) .nil)))) (.cons (.lst (.cons (vr 3) (.cons (vr 4) .nil))) (.cons (.tup (.cons (.cst .n) (.cons (vr 4) .nil))) (.cons (.tup (.cons (vr 3) (.cons (ci 3) .nil))) .nil)))))))))))
  (.seq (.aK 6 (p2 cJ (vr 6) (.lst (.cons (p2 cJ (vr 3) (vr 4)) (.cons (ci 5) (.cons (.cst .n) (.cons (.dsp (.cons (vr 3) (vr 4) .nil)) (.cons (.tup .nil) (.cons (.tup (.cons (.tup (.cons (vr 3) .nil)) (.cons (vr 4) .nil))) (.cons (.tup (.cons (vr 3) (.cons (.lst (.cons (vr 4) .nil)) .nil))) (.cons (.tup (.cons (.cst (.b true)) (.cons (vr 4) .nil))) (.cons (vr 3) (.cons (.tup (.cons (.lst .nil) (.cons (vr 4) .nil))) .nil)))))))))))))
  (.ret (p2 ixP (vr 6) (.call ai (.cons (vr 0) (.cons (p1 iP (vr 6)) .nil))))))))))
noncomputable def eE:Fn:=cE gds [.ino,.dat,.dat] 7 iz
def l7 (K:Fg):Sp:=cB eE K
noncomputable def g8:XS :=
 (.seq (.aK 3 (p2 ixP (p2 ixP (vr 1) (.call ai (.cons (vr 0) (.cons (p1 iP (vr 1)) .nil)))) (ci 0)))
  (.seq (.aK 4 (p2 cJ (ci 1) (.call ai (.cons (vr 0) (.cons (ci 50) .nil)))))
  (.seq (.aK 5 (.lst (.cons (.tup (.cons (cs "") (.cons (ci 1) .nil))) (.cons (.tup (.cons (.call lA (.cons (vr 1) .nil)) (.cons (vr 4) .nil))) (.cons (.tup (.cons (vr 3) .nil)) (.cons (.tup (.cons (vr 3) (.cons (ci 1) (.cons (ci 1) .nil)))) (.cons (.lst (.cons (vr 3) (.cons (ci 9) .nil))) (.cons (vr 3) (.cons (.cst .n) (.cons (ci 7) (.cons (.tup (.cons (.cst .n) (.cons (ci 9) .nil))) (.cons (.tup (.cons (.lst (.cons (vr 3) .nil)) (.cons (ci 9) .nil))) .nil))))))))))))
  (.seq (.aK 5 (p2 cJ (vr 5) (.lst (.cons (.tup (.cons (vr 3) (.cons (.cst .n) .nil))) (.cons (.tup (.cons (vr 3) (.cons (cs "9") .nil))) (.cons (.tup (.cons (vr 3) (.cons (p1 Fh (vr 4)) .nil))) (.cons (.tup (.cons (vr 3) (.cons (.cst (.b true)) .nil))) (.cons (.tup (.cons (vr 3) (.cons (.lst (.cons (ci 9) .nil)) .nil))) (.cons (.tup (.cons (vr 3) (.cons (.tup (.cons (ci 9) .nil)) .nil))) (.cons (.tup .nil) (.cons (.dsp (.cons (vr 3) (ci 9) .nil)) .nil)))))))))))
  (.seq (.ifs (.tst (p2 neP (vr 2) (.lst .nil))) (.aK 5 (p2 cJ (vr 5) (.lst (.cons (p2 ixP (vr 2) (p1 Fh (ci 1))) (.cons (p2 cJ (p2 zw (p2 ixP (vr 2) (ci 0)) (ci 1)) (.tup (.cons (ci 99) .nil))) (.cons (p2 ixP (vr 2) (ci 0)) .nil)))))) .skip)
  (.ret (p2 ixP (vr 5) (.call ai (.cons (vr 0) (.cons (p1 iP (vr 5)) .nil))))))))))
noncomputable def eh:Fn:=cE gds [.ino,.dat,.dat] 6 g8
def mJ (K:Fg):Sp:=cB eh K
noncomputable def wH:XS :=
 (.seq (.pB 1 (.call t5 (.cons (vr 0) .nil)))
  (.seq (.fr 2 (.rng1 (.cons (ci 5) .nil)) (.seq (.seq (.aK 11 (.call sN (.cons (vr 1) (.cons (ci 4) .nil)))) (.seq (.aK 3 (p1 (Dr 0) (vr 11))) (.aK 4 (p1 (Dr 1) (vr 11)))))
  (.seq (.aK 5 (.call jf (.cons (vr 3) .nil)))
  (.seq (.aK 6 (.call fP (.cons (vr 3) (.cons (vr 4) (.cons (.cmp [] (.lst (vr 5)) .yes (p2 ixP (vr 0) (ci 0))) .nil)))))
  (.seq (.aK 7 (.lst (.cons (p1 uo (vr 3)) (.cons (p1 uo (vr 4)) (.cons (p1 uo (vr 6)) (.cons (p1 uo (vr 5)) .nil))))))
  (.seq (.fr 8 (.rng1 (.cons (ci 3) .nil)) (.seq (.aK 9 (.call ai (.cons (vr 1) (.cons (p2 cJ (p1 iP (vr 6)) (ci 1)) .nil))))
  (.seq (.aK 10 (p2 cJ (p2 cJ (p2 zw (vr 6) (vr 9)) (.lst (.cons (.call eE (.cons (vr 1) (.cons (vr 3) (.cons (vr 4) .nil)))) .nil))) (p2 wq (vr 6) (vr 9))))
  (.seq (.ifs (.tst (p2 gR (.call aq (.cons (vr 3) (.cons (vr 4) (.cons (vr 10) (.cons (vr 5) .nil))))) (.cst (.b false)))) (.ret (.cst (.b false))) .skip)
  (.seq (.aK 9 (.call ai (.cons (vr 1) (.cons (p2 cJ (p1 iP (vr 5)) (ci 1)) .nil))))
  (.seq (.aK 10 (p2 cJ (p2 cJ (p2 zw (vr 5) (vr 9)) (.lst (.cons (.call eh (.cons (vr 1) (.cons (vr 3) (.cons (vr 5) .nil)))) .nil))) (p2 wq (vr 5) (vr 9))))
  (.seq (.ifs (.tst (p2 gR (.call aq (.cons (vr 3) (.cons (vr 4) (.cons (vr 6) (.cons (vr 10) .nil))))) (.cst (.b false)))) (.ret (.cst (.b false))) .skip)
  (.ifs (.tst (p2 gR (.call aq (.cons (vr 3) (.cons (vr 4) (.cons (.lst .nil) (.cons (vr 10) .nil))))) (.cst (.b false)))) (.ret (.cst (.b false))) .skip))))))))
  (.seq (.ifs (.or (.tst (p2 gR (.call aq (.cons (vr 3) (.cons (vr 4) (.cons (vr 6) (.cons (vr 5) .nil))))) (.cst (.b true)))) (.tst (p2 neP (.lst (.cons (vr 3) (.cons (vr 4) (.cons (vr 6) (.cons (vr 5) .nil))))) (vr 7)))) (.ret (.cst (.b false))) .skip)
  (.ifs (.tst (p2 gR (.call aq (.cons (vr 3) (.cons (vr 4) (.cons (.lst .nil) (.cons (.lst .nil) .nil))))) (.cst (.b true)))) (.ret (.cst (.b false))) .skip))))))))
  (.ret (.cst (.b true)))))
noncomputable def su:Fn:=cE gds [.dat] 12 wH
def ub (K:Fg):Sp:=cB su K
section
variable (P:Program) (w:World) (K:Fg) (mg:Str->Option Value) (base:Heap) (t:Adr)
abbrev km:=bW P w K mg base CX0 1 (t.f 0).1 (t.f 0).2 ["thing"] (nL K)
abbrev bf:=bW P w K mg base CX0 1 (t.f 1).1 (t.f 1).2 ["rungs", "name"] (j9 K)
abbrev dN:=bW P w K mg base CX0 1 (t.f 2).1 (t.f 2).2 ["rung"] (j3 K)
abbrev fE:=bW P w K mg base CX0 1 (t.f 3).1 (t.f 3).2 ["rung", "bond"] (mx K)
abbrev gU:=bW P w K mg base CX0 2 (t.f 4).1 (t.f 4).2 ["rungs", "name"] (oF K)
abbrev gW:=bW P w K mg base CX0 2 (t.f 5).1 (t.f 5).2 ["rungs", "name", "bond", "hollows"] (nY K)
abbrev gO:=bW P w K mg base CX0 1 (t.f 6).1 (t.f 6).2 ["rungs"] (nA K)
abbrev cU:=bW P w K mg base CX0 2 (t.f 7).1 (t.f 7).2 ["thing", "names"] (gp K)
abbrev cA:=bW P w K mg base CX0 3 (t.f 8).1 (t.f 8).2 ["hollows", "names"] (fh K)
abbrev cT:=bW P w K mg base CX0 2 (t.f 9).1 (t.f 9).2 ["rung", "rounds"] (fZ K)
abbrev fv:=bW P w K mg base CX0 4 (t.f 10).1 (t.f 10).2 ["rungs", "hollows"] (i9 K)
abbrev iw:=bW P w K mg base CX0 1 (t.f 11).1 (t.f 11).2 ["thing", "firsts", "seconds"] (k8 K)
abbrev eQ:=bW P w K mg base CX0 1 (t.f 12).1 (t.f 12).2 ["high", "other"] (iG K)
abbrev jU:=bW P w K mg base CX0 3 (t.f 13).1 (t.f 13).2 ["rungs", "one", "rung"] (mF K)
abbrev kF:=bW P w K mg base CX0 2 (t.f 14).1 (t.f 14).2 ["may", "row", "related"] (nM K)
abbrev jt:=bW P w K mg base CX0 2 (t.f 15).1 (t.f 15).2 ["rungs", "one"] (lM K)
abbrev gz:=bW P w K mg base CX0 3 (t.f 16).1 (t.f 16).2 ["rungs", "one", "rung", "empty"] (ke K)
abbrev hX:=bW P w K mg base CX0 4 (t.f 17).1 (t.f 17).2 ["rungs", "one", "rung", "related", "empty"] (k9 K)
abbrev dX:=bW P w K mg base CX0 5 (t.f 18).1 (t.f 18).2 ["rungs", "others", "relation", "hollows"] (gM K)
abbrev Ag:=bW P w K mg base CX0 1 (t.f 19).1 (t.f 19).2 ["_law_script"] (B4 K)
abbrev fW:=bW P w K mg base CX0 1 (t.f 20).1 (t.f 20).2 ["_law_pen_here", "_law_many"] (xI K)
abbrev ri:=bW P w K mg base CX0 2 (t.f 21).1 (t.f 21).2 ["_law_pen_here", "_law_many"] (vM K)
abbrev wb:=bW P w K mg base CX0 2 (t.f 22).1 (t.f 22).2 ["_law_pen_here", "_law_names_here", "_law_bonds"] (xN K)
abbrev sg:=bW P w K mg base CX0 3 (t.f 23).1 (t.f 23).2 ["_law_pen_here", "_law_names_here", "_law_bonds"] (vN K)
abbrev lQ:=bW P w K mg base CX0 2 (t.f 24).1 (t.f 24).2 ["_law_pen_here", "_law_rung_here", "_law_names_here", "_law_bonds"] (qG K)
abbrev AE:=bW P w K mg base CX0 4 (t.f 25).1 (t.f 25).2 ["_law_pen_here", "_law_most"] (CO K)
abbrev pj:=bW P w K mg base CX0 1 (t.f 26).1 (t.f 26).2 ["_law_rungs_here", "_law_name"] (xx K)
abbrev kX:=bW P w K mg base CX0 1 (t.f 27).1 (t.f 27).2 ["_law_rung_here", "_law_bond"] (sR K)
abbrev p6:=bW P w K mg base CX0 2 (t.f 28).1 (t.f 28).2 ["_law_rungs_here"] (tH K)
abbrev oB:=bW P w K mg base CX0 2 (t.f 29).1 (t.f 29).2 ["_law_rungs_here", "_law_name"] (vi K)
abbrev xR:=bW P w K mg base CX0 3 (t.f 30).1 (t.f 30).2 ["_law_rungs_here", "_law_name", "_law_bond", "_law_hollows"] (Cb K)
abbrev mC:=bW P w K mg base CX0 4 (t.f 31).1 (t.f 31).2 ["_law_rungs_here", "_law_row", "_law_relation", "_law_name", "_law_hollows"] (qr K)
abbrev jJ:=bW P w K mg base CX0 5 (t.f 32).1 (t.f 32).2 ["_law_rungs_here", "_law_others", "_law_relation", "_law_pair", "_law_hollows"] (mM K)
abbrev ki:=bW P w K mg base CX0 6 (t.f 33).1 (t.f 33).2 ["_law_rungs_here", "_law_others", "_law_hollows"] (nB K)
abbrev ue:=bW P w K mg base CX0 1 (t.f 34).1 (t.f 34).2 ["_law_rungs_here"] (zh K)
abbrev jq:=bW P w K mg base CX0 2 (t.f 35).1 (t.f 35).2 ["_law_pen_here", "_law_rungs_here", "_law_others"] (l7 K)
abbrev jG:=bW P w K mg base CX0 2 (t.f 36).1 (t.f 36).2 ["_law_pen_here", "_law_rungs_here", "_law_hollows"] (mJ K)
abbrev Fe:=bW P w K mg base CX0 7 (t.f 37).1 (t.f 37).2 ["_law_script"] (ub K)
end
section
variable {P:Program} {w:World} {K:Fg} {mg:Str->Option Value} {base:Heap} {t:Adr} {n:Nat} {cdv:Value} {A:Around} {outer:List Env} {s:Shared} {H:Hp} {E:XK}
theorem oP (T:Txt K mg t):km P w K mg base t :=
 (T.d 0 rfl).ok oj (aW T) fun hr=>aA (aX (xT (eIz T.z_isinstance (eVx 0) T.z_int) (qM (Hj (eIz T.z_isinstance (eVx 0) T.z_bool)))))
theorem kh (T:Txt K mg t):bf P w K mg base t :=
 (T.d 1 rfl).ok j8 (aW T) fun hr=>aA (aX (eIy (eKx ["name"] (eIL (eVx 0)) (eT1 fun _ _ _ _=>(gq (aO hr.units) (eIx je (eVx 0) af (fun _ _=>rfl)) (eVy 1) (cG _))) (eC fun _ _ _ _=>(eVx 0)) (bsc (sc:=aa cw) rfl (by decide +kernel)) ⟨rfl,⟨rfl,rfl⟩,trivial⟩) af))
theorem j4 (T:Txt K mg t):dN P w K mg base t :=
 (T.d 2 rfl).ok j7 (aW T) fun hr=>aA (aX (eKx [] (eIT (eIy (eVx 0) af)) (eT1 fun _ _ _ _=>(eTx rH (eIx je (eVx 0) af (fun _ _=>rfl)) af)) (eC fun _ _ _ _=>(eVx 0)) (bsc (sc:=aa cx) rfl (by decide +kernel)) trivial))
theorem m4 (T:Txt K mg t):fE P w K mg base t :=
 (T.d 3 rfl).ok mR (aW T) fun hr=>aA (aX (eOr (kb (cF hr.units) (eIy (eVx 0) af) (bK (eAx a6 (eAx a6 ae))) (by with_unfolding_all rfl)) (qM (xT (kb cN (eIy (eVx 0) af) fF (cG _)) (qM (kb (cg hr.units) (eVx 1) (eIy (eVx 0) af) (by with_unfolding_all rfl)))))))
theorem nJ (T:Txt K mg t) (G1:bf P w K mg base t) (G2:dN P w K mg base t):gU P w K mg base t :=
 (T.d 4 rfl).ok jR (aW T) fun hr=>ao (bP (eTx (aO hr.units) (eVx 1) a6) (aA (aX (xE (v:=.ref t.gS) rfl T.g_KINDS rfl rfl))) bS) (ao (eSx jR.nd 2 (eCx G1 hr (T.d 1 rfl) (eAx (eVx 0) (eAx (eVx 1) ae)))) (ao (bP (eTx (bZ hr.units) (eIy (eVx 2) af) a6) (aA (aX (bK (eAx (eIy (eVx 2) af) ae)))) bS) (aA (aX (eIf (HK (eCx G2 hr (T.d 2 rfl) (eAx (eVx 2) ae)) (fun _=>rfl)) (bK (eAx a6 ae)) (xE (v:=.ref t.gS) rfl T.g_KINDS rfl rfl))))))
theorem nz (T:Txt K mg t) (G1:bf P w K mg base t) (G3:fE P w K mg base t):gW P w K mg base t :=
 (T.d 5 rfl).ok fO (aW T) fun hr=>ao (bP (eTx (aO hr.units) (eVx 1) a6) (aA (aX (bK (eAx af (eAx fF (eAx a6 ae)))))) bS) (ao (eSx fO.nd 4 (eCx G1 hr (T.d 1 rfl) (eAx (eVx 0) (eAx (eVx 1) ae)))) (ao (bP (eUx (eCx G3 hr (T.d 3 rfl) (eAx (eVx 4) (eAx (eVx 2) ae)))) (aA (aX (bK (eAx af (eAx af (eAx fF ae)))))) bS) (ao (eFx (eIT (eIy (eVx 4) af)) (eGx fO.nd 5) (aA (bP (eTx (aO hr.units) (eIy (eVx 5) af) (eVx 2)) (aA (aX (eIf (gq (cF hr.units) (eIy (eVx 5) af) (eVx 3) (by with_unfolding_all rfl)) (bK (eAx af (eAx af (eAx fF ae)))) (eSl (orS cz (orS bu cf)) (eVx 5) (eP af) oJ)))) bS))) (aA (aX (bK (eAx af (eAx fF (eAx a6 ae)))))))))
theorem om (T:Txt K mg t):gO P w K mg base t :=
 (T.d 6 rfl).ok oA (aW T) fun hr=>aA (aX (eKx [] (eIL (eVx 0)) eT0 (eC fun _ _ _ _=>(eIy (eVx 0) af)) (bsc (sc:=aa eK) rfl (by decide +kernel)) trivial))
theorem fV (T:Txt K mg t) (G0:km P w K mg base t):cU P w K mg base t :=
 (T.d 7 rfl).ok fX (aW T) fun hr=>ao (bP (eW (ny (iH (eUx (eIz T.z_isinstance (eVx 0) T.z_tuple))) (fj (eTx (bZ hr.units) (eBs aD T.z_len (eAx (eVx 0) ae)) af)))) (aA (aX eBl)) bS) (aA (aX (xT (kb (cF hr.units) (eIy (eVx 0) af) (eVx 1) (by with_unfolding_all rfl)) (xT (eCx G0 hr (T.d 0 rfl) (eAx (eIy (eVx 0) af) ae)) (qM (kb rH (eIy (eVx 0) af) af (cG _)))))))
theorem fg (T:Txt K mg t) (G7:cU P w K mg base t):cA P w K mg base t :=
 (T.d 8 rfl).ok fi (aW T) fun hr=>ao (bP (eW (ny (iH (eUx (eIz T.z_isinstance (eVx 0) T.z_list))) (fj (iH (eUx (eBs (fI rfl) T.z_all (eAx (eKx ["names"] (eIL (eVx 0)) eT0 (eC fun _ _ _ _=>(eCl G7 hr (T.d 7 rfl).m (T.d 7 rfl).F.kp (T.d 7 rfl).b (eA (eVx 0) (eA (eVy 1) ae rfl) rfl))) (bsc (sc:=aa aG) rfl (by decide +kernel)) ⟨rfl,⟨rfl,rfl⟩,trivial⟩) ae))))))) (aA (aX eBl)) bS) (aA (aX (kb (aO hr.units) (eLS rfl rfl T.z_len rfl T.z_set rfl (eKx [] (eIL (eVx 0)) eT0 (eC fun _ _ _ _=>(eIy (eVx 0) af)) (bsc (sc:=aa aG) rfl (by decide +kernel)) trivial)) (eBs aD T.z_len (eAx (eVx 0) ae)) (cG _))))
theorem fT (T:Txt K mg t) (G2:dN P w K mg base t) (G3:fE P w K mg base t):cT P w K mg base t :=
 (T.d 9 rfl).ok cI (aW T) fun hr=>ao (eFx (eIL (eCx G2 hr (T.d 2 rfl) (eAx (eVx 0) ae))) (eGx cI.nd 2) (aA (bP (eW (ny (eUx (eCx G3 hr (T.d 3 rfl) (eAx (eVx 0) (eAx (eIy (eVx 2) af) ae)))) (fj (eW (lO (zg hr.units (eIy (eVx 2) af) (eVx 1) (by with_unfolding_all rfl)) (ip (eTx mH (j6 hr.units (eVx 1) (eIy (eVx 2) af) (fun _ _=>rfl)) (j6 hr.units (eVx 1) (eIy (eVx 0) af) (fun _ _=>rfl))))))))) (aA (aX eBl)) bS))) (aA (aX eBl))
theorem jQ (T:Txt K mg t) (G8:cA P w K mg base t) (G6:gO P w K mg base t) (G9:cT P w K mg base t) (G1:bf P w K mg base t):fv P w K mg base t :=
 (T.d 10 rfl).ok eT (aW T) fun hr=>ao (bP (iH (eUx (eCx G8 hr (T.d 8 rfl) (eAx (eVx 1) (eAx (eCl G6 hr (T.d 6 rfl).m (T.d 6 rfl).F.kp (T.d 6 rfl).b (eA (eVy 0) ae rfl)) ae))))) (aA (aX eBl)) bS) (ao (eSy eT.nd 2 (eTs (mw hr.units rfl) T.z_dict (eAx (eVx 1) ae))) (aA (aX (eBs (fI rfl) T.z_all (eAx (eKx ["rounds", "rungs"] (eID (eVy 2)) eT0 (eC fun _ _ _ _=>(eCx G9 hr (T.d 9 rfl) (eAx (eCx G1 hr (T.d 1 rfl) (eAx (eVy 2) (eA (eVx 0) ae rfl))) (eAx (eVy 1) ae)))) (bsc (sc:=aa bX) rfl (by decide +kernel)) ⟨rfl,⟨rfl,rfl⟩,⟨rfl,⟨rfl,rfl⟩,trivial⟩⟩) ae)))))
theorem la (T:Txt K mg t):iw P w K mg base t :=
 (T.d 11 rfl).ok lq (aW T) fun hr=>ao (bP (eW (ny (iH (eUx (eIz T.z_isinstance (eVx 0) T.z_tuple))) (fj (eTx (bZ hr.units) (eBs aD T.z_len (eAx (eVx 0) ae)) af)))) (aA (aX eBl)) bS) (aA (aX (xT (kb (cF hr.units) (eIy (eVx 0) af) (eVx 1) (by with_unfolding_all rfl)) (qM (kb (cF hr.units) (eIy (eVx 0) af) (eVx 2) (by with_unfolding_all rfl))))))
theorem iJ (T:Txt K mg t):eQ P w K mg base t :=
 (T.d 12 rfl).ok iF (aW T) fun hr=>aA (aX (eOr (kb kB (eVx 1) fF (cG _)) (qM (xT (kb cN (eVx 0) fF (cG _)) (qM (kb AU (eVx 0) (eVx 1) (cG _)))))))
theorem lV (T:Txt K mg t) (G4:gU P w K mg base t):jU P w K mg base t :=
 (T.d 13 rfl).ok g7 (aW T) fun hr=>ao (eSy g7.nd 3 (eIf (eTx (aO hr.units) (eIy (eVx 2) af) a6) (xE (v:=.ref t.gS) rfl T.g_KINDS rfl rfl) (bK (eAx (eIy (eVx 2) af) ae)))) (aA (aX (eBs (fI rfl) T.z_all (eAx (eKx ["wide"] (eIT (eCx G4 hr (T.d 4 rfl) (eAx (eVx 0) (eA (eVx 1) ae rfl)))) eT0 (eC fun _ _ _ _=>(kb (cF hr.units) (eVx 0) (eVy 1) (by with_unfolding_all rfl))) (bsc (sc:=aa c8) rfl (by decide +kernel)) ⟨rfl,⟨rfl,rfl⟩,trivial⟩) ae))))
theorem nZ (T:Txt K mg t) (G12:eQ P w K mg base t):kF P w K mg base t :=
 (T.d 14 rfl).ok oa (aW T) fun hr=>ao (bP (eW (ny (eTx mH (eIy (eVx 0) af) (eIy (eVx 1) af)) (fj (iH (eUx (eCx G12 hr (T.d 12 rfl) (eAx (eIy (eVx 0) af) (eAx (eIx je (eVx 1) af (fun _ _=>rfl)) ae)))))))) (aA (aX eBl)) bS) (aA (aX (eOr (kb (aO hr.units) (eIy (eVx 0) af) af (cG _)) (qM (HI hr.units (bK (eAx (eIy (eVx 0) af) (eAx (eIy (eVx 1) af) ae))) (eVx 2) (by with_unfolding_all rfl))))))
theorem mV (T:Txt K mg t) (G1:bf P w K mg base t):jt P w K mg base t :=
 (T.d 15 rfl).ok mh (aW T) fun hr=>aA (aX (eIf (eTx (aO hr.units) (eVx 1) a6) fF (eIy (eCx G1 hr (T.d 1 rfl) (eAx (eVx 0) (eA (eVx 1) ae rfl))) af)))
theorem j5 (T:Txt K mg t) (G4:gU P w K mg base t) (G15:jt P w K mg base t) (G5:gW P w K mg base t):gz P w K mg base t :=
 (T.d 16 rfl).ok fw (aW T) fun hr=>ao (bP (eW (ny (eTx kB (eIy (eVy 2) af) fF) (fj (gq (cg hr.units) a6 (eCx G4 hr (T.d 4 rfl) (eAx (eVy 0) (eAx (eVy 1) ae))) (by with_unfolding_all rfl))))) (aA (aX eBl)) bS) (ao (eSx fw.nd 4 (eCx G15 hr (T.d 15 rfl) (eAx (eVy 0) (eAx (eVy 1) ae)))) (ao (bP (eTx kB (eVx 4) fF) (aA (aX eBl)) bS) (aA (aX (eBs (fI rfl) T.z_all (eAx (eKx ["rung", "rungs", "one", "empty"] (eIT (eVx 4)) eT0 (eC fun _ _ _ _=>(eOr (kb (cF hr.units) (eVx 0) (eIy (eVy 1) af) (by with_unfolding_all rfl)) (qM (kb (aO hr.units) (eIy (eCx G5 hr (T.d 5 rfl) (eAx (eVy 2) (eAx (eVy 3) (eA (eVx 0) (eA (eVy 4) ae rfl) rfl)))) af) af (cG _))))) (bsc (sc:=aa cp) rfl (by decide +kernel)) ⟨rfl,⟨rfl,rfl⟩,⟨rfl,⟨rfl,rfl⟩,⟨rfl,⟨rfl,rfl⟩,⟨rfl,⟨rfl,rfl⟩,trivial⟩⟩⟩⟩) ae))))))
theorem k5 (T:Txt K mg t) (G13:jU P w K mg base t) (G16:gz P w K mg base t) (G14:kF P w K mg base t) (G5:gW P w K mg base t):hX P w K mg base t :=
 (T.d 17 rfl).ok kP (aW T) fun hr=>ao (bP (gq (cF hr.units) (eVy 1) (eVy 4) (by with_unfolding_all rfl)) (aA (aX eBl)) bS) (ao (bP (eW (ny (iH (eUx (eCx G13 hr (T.d 13 rfl) (eAx (eVy 0) (eAx (eVy 1) (eAx (eVx 2) ae)))))) (fj (iH (eUx (eCx G16 hr (T.d 16 rfl) (eAx (eVy 0) (eAx (eVy 1) (eAx (eVx 2) (eA (eVy 4) ae rfl)))))))))) (aA (aX eBl)) bS) (aA (aX (eBs (fI rfl) T.z_all (eAx (eKx ["related", "rungs", "one", "empty"] (eIT (eIy (eVx 2) af)) eT0 (eC fun _ _ _ _=>(eCx G14 hr (T.d 14 rfl) (eAx (eCx G5 hr (T.d 5 rfl) (eAx (eVy 2) (eA (eVy 3) (eA (eIx je (eVx 0) af (fun _ _=>rfl)) (eA (eVy 4) ae rfl) rfl) rfl))) (eAx (eVx 0) (eA (eVy 1) ae rfl))))) (bsc (sc:=aa cL) rfl (by decide +kernel)) ⟨rfl,⟨rfl,rfl⟩,⟨rfl,⟨rfl,rfl⟩,⟨rfl,⟨rfl,rfl⟩,⟨rfl,⟨rfl,rfl⟩,trivial⟩⟩⟩⟩) ae)))))
theorem gF (T:Txt K mg t) (G6:gO P w K mg base t) (G11:iw P w K mg base t) (G10:fv P w K mg base t) (G17:hX P w K mg base t) (G1:bf P w K mg base t):dX P w K mg base t :=
 (T.d 18 rfl).ok aC (aW T) fun hr=>ao (eSy aC.nd 4 (eOp ah (eCx G6 hr (T.d 6 rfl) (eAx (eVy 0) ae)) (cv (eAx a6 ae)))) (ao (eSy aC.nd 5 (eCx G6 hr (T.d 6 rfl) (eAx (eVy 1) ae))) (ao (bP (eW (ny (iH (eUx (eIz T.z_isinstance (eVx 2) T.z_list))) (fj (iH (eUx (eBs (fI rfl) T.z_all (eAx (eKx ["firsts", "seconds"] (eIL (eVx 2)) eT0 (eC fun _ _ _ _=>(eCx G11 hr (T.d 11 rfl) (eAx (eVx 0) (eAx (eVy 1) (eA (eVy 2) ae rfl))))) (bsc (sc:=aa aI) rfl (by decide +kernel)) ⟨rfl,⟨rfl,rfl⟩,⟨rfl,⟨rfl,rfl⟩,trivial⟩⟩) ae))))))) (aA (aX eBl)) bS) (ao (bP (iH (eUx (eCx G10 hr (T.d 10 rfl) (eAx (eVy 0) (eAx (eVx 3) ae))))) (aA (aX eBl)) bS) (ao (eSy aC.nd 6 (eKx [] (eIL (eVx 3)) eT0 (eC fun _ _ _ _=>(eIy (eVx 0) af)) (bsc (sc:=aa aI) rfl (by decide +kernel)) trivial)) (ao (eSy aC.nd 7 Bk) (ao (eFx (eIL (eVx 2)) (eGx aC.nd 8) (aA (tO hr.units (eVy 7) (eVx 8) eBl rfl))) (aA (aX (eBs (fI rfl) T.z_all (eAx (wL (n:=2) (js:=[0,7,6,1]) ["one", "other"] ["rungs", "related", "empty", "others"] (eID (eVy 7)) (zH (i:=0) (by decide +kernel) rfl rfl (zH (i:=1) (by decide +kernel) rfl rfl GP)) (eC fun _ _ _ _=>(eCx G17 hr (T.d 17 rfl) (eAx (eVy 2) (eAx (eVx 0) (eAx (eCx G1 hr (T.d 1 rfl) (eAx (eVy 5) (eAx (eVx 1) ae))) (eAx (eVy 3) (eAx (eVy 4) ae))))))) rfl (GQ (sc:=aa aI) rfl (by decide +kernel)) ⟨rfl,⟨rfl,rfl⟩,⟨rfl,⟨rfl,rfl⟩,⟨rfl,⟨rfl,rfl⟩,⟨rfl,⟨rfl,rfl⟩,trivial⟩⟩⟩⟩ (fun _=>rfl) (fun _=>rfl) (fun _=>rfl)) ae))))))))))
theorem Bs (T:Txt K mg t):Ag P w K mg base t :=
 (T.d 19 rfl).ok Cm (aW T) fun hr=>aA (aX (qT (ePC a6 (eVx 0) (ePC a6 af (ePC a6 af ePN))) (by rfl) (by rfl) (by simp) (by decide)))
theorem xO (T:Txt K mg t):fW P w K mg base t :=
 (T.d 20 rfl).ok dR (aW T) fun hr=>ao (eSx dR.nd 2 (j6 hr.units (eVx 0) a6 (fun _ _=>rfl))) (ao (bP (eTx iu (j6 hr.units (eVx 0) a6 (fun _ _=>rfl)) af) (ao (eSx dR.nd 3 (eOp df (j6 hr.units (eVx 0) a6 (fun _ _=>rfl)) (eVx 1))) (ao (tO hr.units (eVx 0) a6 (eOp kY (j6 hr.units (eVx 0) a6 (fun _ _=>rfl)) (eVx 1)) rfl) (aA (aX (eVx 3))))) bS) (ao (eSx dR.nd 4 (j6 hr.units (eVx 0) a6 (fun _ _=>rfl))) (ao (tO hr.units (eVx 0) a6 (eOp ah (eVx 4) af) rfl) (ao (eSx dR.nd 5 (eOp ah (eOp ah (eOp dC (eOp dC af (eVx 4)) (eVx 4)) (eOp dC af (eVx 4))) af)) (ao (bP (eTx mH (eVx 4) (eBs aD T.z_len (eAx (eVx 2) ae))) (ao (eSx dR.nd 5 (eIy (eVx 2) (eVx 4))) (aA (bP (eTx rH (eBs oE T.z_abs (eAx (eVx 5) ae)) (eOp ui af af)) (ao (tO hr.units (eVx 0) a6 (eOp kY (eBs oE T.z_abs (eAx (eVx 5) ae)) (eVx 1)) rfl) (aA (aX (eOp df (eBs oE T.z_abs (eAx (eVx 5) ae)) (eVx 1))))) bS))) (aA (bP (eTx iu (eBs aD T.z_len (eAx (eVx 2) ae)) af) (aA (eSx dR.nd 5 (eOp ah (eOp df (eIy (eVx 2) (eOp df (eVx 4) (eBs aD T.z_len (eAx (eVx 2) ae)))) (eOp ui af af)) (eOp dC af (eVx 4))))) bS))) (ao (eSx dR.nd 6 (eOp df (eOp dC (eOp ah (eOp ah (eOp df (eVx 5) af) (eOp dC af (eVx 4))) af) af) af)) (ao (eSx dR.nd 6 (eOp df (eOp ah (eOp ah (eOp dC (eVx 6) (eVx 6)) (eOp dC af (eVx 6))) (eVx 4)) af)) (aA (aX (eOp df (eOp kY (eVx 6) af) (eVx 1)))))))))))
theorem vF (T:Txt K mg t) (G20:fW P w K mg base t):ri P w K mg base t :=
 (T.d 21 rfl).ok bq (aW T) fun hr=>ao (eSx bq.nd 2 a6) (ao (eSx bq.nd 3 (cv (eAx a6 (eAx a6 (eAx a6 (eA a6 (eA a6 (eA a6 (eA a6 (eA a6 ae rfl) rfl) rfl) rfl) rfl)))))) (ao (eSx bq.nd 4 (eIy (cv (eAx a6 (eAx a6 (eAx a6 (eA (eIx je (eVx 3) (eCl G20 hr (T.d 20 rfl).m (T.d 20 rfl).F.kp (T.d 20 rfl).b (eA (eVy 0) (eA af ae rfl) rfl)) (fun _ _=>rfl)) ae rfl))))) (eCx G20 hr (T.d 20 rfl) (eAx (eVy 0) (eAx af ae))))) (ao (eFx (eR1 rfl T.z_range (eAx (eCx G20 hr (T.d 20 rfl) (eAx (eVy 0) (eAx (eOp nU af (eBs aD T.z_len (eAx (eVx 4) ae))) ae))) ae) rfl) (eGx bq.nd 5) (aA (eSx bq.nd 4 (eOp ah (eVx 4) (eIy (eVx 2) (eCx G20 hr (T.d 20 rfl) (eAx (eVy 0) (eAx af ae)))))))) (ao (eSy bq.nd 6 (eCx G20 hr (T.d 20 rfl) (eAx (eVy 0) (eAx (eOp ah (eBs aD T.z_len (eAx (eVx 4) ae)) af) ae)))) (ao (eSx bq.nd 7 (eCx G20 hr (T.d 20 rfl) (eAx (eVy 0) (eAx af ae)))) (ao (eSx bq.nd 8 (eIy (cv (eAx af (eAx af (eAx af (eAx af (eAx af (eAx af (eAx af (eA af (eA af (eA af (eA af (eA af ae rfl) rfl) rfl) rfl) rfl))))))))) (eCx G20 hr (T.d 20 rfl) (eAx (eVy 0) (eAx af ae))))) (ao (eSx bq.nd 9 (cv ae)) (ao (eFx (eR1 rfl T.z_range (eAx (eVx 1) ae) rfl) (eGx bq.nd 5) (ao (eSx bq.nd 10 (eIy (eVx 2) (eOp df (eOp ah (eVx 7) (eOp dC (eVx 8) (eVx 5))) af))) (aA (rM (eBM (eVx 9) (eAx (eOp ah (eOp ah (eSl (orS cz (orS bu cf)) (eVx 4) oJ (eP (eVy 6))) (eVx 10)) (eSl (orS cz (orS bu cf)) (eVx 4) (eP (eVy 6)) oJ)) ae) eS J9 J2 J1 rfl rfl rfl rfl rfl) rfl)))) (ao (bP (eTx (aO hr.units) (eCx G20 hr (T.d 20 rfl) (eAx (eVy 0) (eAx af ae))) af) (aA (aX (eVx 9))) bS) (aA (aX (eKx ["_law_spot", "_law_pen_here"] (eIL (eVx 9)) eT0 (eC fun _ _ _ _=>(eSl (orS cz (orS bu cf)) (eVx 0) oJ (eP (eOp ah (eOp ah (eVy 1) af) (eCx G20 hr (T.d 20 rfl) (eAx (eVy 2) (eAx (eOp nU (eBs aD T.z_len (eAx (eVx 0) ae)) (eVy 1)) ae))))))) (bsc (sc:=aa jc) rfl (by decide +kernel)) ⟨rfl,⟨rfl,rfl⟩,⟨rfl,⟨rfl,rfl⟩,trivial⟩⟩))))))))))))
theorem yy (T:Txt K mg t) (G20:fW P w K mg base t):wb P w K mg base t :=
 (T.d 22 rfl).ok jS (aW T) fun hr=>ao (eSx jS.nd 3 (cv ae)) (ao (eFx (eIL (eVx 2)) (eGx jS.nd 4) (aA (bP (eW (lO (eTx mH (eBs aD T.z_len (eAx (eVx 3) ae)) af) (ip (eTx iu (eCx G20 hr (T.d 20 rfl) (eAx (eVx 0) (eAx af ae))) af)))) (ao (eSx jS.nd 5 (eIy (cv (eAx af (eAx af (eAx af (eAx af (eAx af (eA af (eA af ae rfl) rfl))))))) (eCx G20 hr (T.d 20 rfl) (eAx (eVx 0) (eAx af ae))))) (ao (eSx jS.nd 6 (eIy (cv (eAx fF (eAx fF (eAx (eVx 5) (eAx (eBs (zx rfl) T.z_min (eAx af (eAx (eOp ah (eVx 5) af) ae))) (eAx af ae)))))) (eCx G20 hr (T.d 20 rfl) (eAx (eVx 0) (eAx af ae))))) (aA (rM (eBM (eVx 3) (eAx (bK (eAx (eVx 4) (eAx (eVx 5) (eAx (eVx 6) (eAx (eIy (eVx 1) (eCx G20 hr (T.d 20 rfl) (eAx (eVx 0) (eAx (eBs aD T.z_len (eA (eVx 1) ae rfl)) ae)))) ae))))) ae) eS J9 J2 J1 rfl rfl rfl rfl rfl) rfl)))) bS))) (aA (aX (eTs eJ T.z_tuple (eAx (eVx 3) ae)))))
theorem vL (T:Txt K mg t) (G20:fW P w K mg base t) (G22:wb P w K mg base t):sg P w K mg base t :=
 (T.d 23 rfl).ok cH (aW T) fun hr=>ao (eSx cH.nd 3 (cv ae)) (ao (eFx (eIL (eVx 1)) (eGx cH.nd 4) (ao (eSx cH.nd 5 (eIy (cv (eAx a6 (eAx a6 (eAx a6 (eA a6 (eA a6 (eA a6 (eA a6 ae rfl) rfl) rfl) rfl))))) (eCx G20 hr (T.d 20 rfl) (eAx (eVy 0) (eAx af ae))))) (ao (eSx cH.nd 6 (eCx G22 hr (T.d 22 rfl) (eAx (eVy 0) (eAx (eVx 1) (eAx (eVx 2) ae))))) (ao (bP (eW (lO (gq (cF hr.units) (eVx 5) (bK (eAx a6 (eAx a6 ae))) (by with_unfolding_all rfl)) (ip (eTx iu (eCx G20 hr (T.d 20 rfl) (eAx (eVy 0) (eAx af ae))) af)))) (aA (eSx cH.nd 6 (eTs eJ T.z_tuple (eAx (wL (n:=4) (js:=[]) ["_law_bond", "_law_low", "_law_high", "_law_other"] [] (eIT (eVx 6)) (zH (i:=0) (by decide +kernel) rfl rfl (zH (i:=1) (by decide +kernel) rfl rfl (zH (i:=2) (by decide +kernel) rfl rfl (zH (i:=3) (by decide +kernel) rfl rfl GP)))) (eC fun _ _ _ _=>(bK (eAx (eVx 0) (eAx af (eAx (eVx 2) (eAx (eVx 3) ae)))))) rfl (GQ (sc:=aa gi) rfl (by decide +kernel)) trivial (fun _=>rfl) (fun _=>rfl) (fun _=>rfl)) ae)))) bS) (ao (eSx cH.nd 7 fF) (ao (bP (eTx (aO hr.units) (eCx G20 hr (T.d 20 rfl) (eAx (eVy 0) (eAx af ae))) af) (aA (eSx cH.nd 7 (eTs eJ T.z_tuple (eAx (eKx ["_law_pen_here"] (eIL (eVx 2)) (eT1 fun _ _ _ _=>(eTx iu (eCx G20 hr (T.d 20 rfl) (eAx (eVy 1) (eAx af ae))) af)) (eC fun _ _ _ _=>(eVx 0)) (bsc (sc:=aa gi) rfl (by decide +kernel)) ⟨rfl,⟨rfl,rfl⟩,trivial⟩) ae)))) bS) (aA (rM (eBM (eVx 3) (eAx (bK (eAx (eVx 4) (eAx (eVx 5) (eAx (eVx 6) (eAx (eVx 7) ae))))) ae) eS J9 J2 J1 rfl rfl rfl rfl rfl) rfl)))))))) (aA (aX (eVx 3))))
theorem qi (T:Txt K mg t) (G20:fW P w K mg base t):lQ P w K mg base t :=
 (T.d 24 rfl).ok au (aW T) fun hr=>ao (C3 (eVx 1) (eGT (n:=4) rfl (me (i:=4) au.nd rfl (Or.inl rfl) (Or.inl rfl) (me (i:=5) au.nd rfl (Or.inl rfl) (Or.inl rfl) (me (i:=6) au.nd rfl (Or.inl rfl) (Or.inl rfl) (me (i:=7) au.nd rfl (Or.inr rfl) (Or.inl rfl) B8)))) rfl rfl) rfl rfl rfl) (ao (eSx au.nd 8 (cv ae)) (ao (eFx (eIT (eVx 6)) (eGT (n:=4) rfl (me (i:=9) au.nd rfl (Or.inl rfl) (Or.inl rfl) (me (i:=10) au.nd rfl (Or.inl rfl) (Or.inl rfl) (me (i:=11) au.nd rfl (Or.inl rfl) (Or.inl rfl) (me (i:=12) au.nd rfl (Or.inl rfl) (Or.inl rfl) B8)))) rfl rfl) (ao (eSx au.nd 13 (eCx G20 hr (T.d 20 rfl) (eAx (eVy 0) (eAx af ae)))) (ao (bP (eTx (aO hr.units) (eVx 13) af) (aA (eSx au.nd 10 (eBs (x2 rfl) T.z_max (eAx af (eAx (eOp nU (eVx 10) af) ae))))) bS) (ao (bP (eTx (aO hr.units) (eVx 13) af) (aA (eSx au.nd 10 (eBs (vG rfl) T.z_min (eAx (eOp ah (eOp ah (cv (eAx af ae)) (eKx [] (eIL (cv (eAx (eVx 11) ae))) (eT1 fun _ _ _ _=>(eTx cN (eVx 0) fF)) (eC fun _ _ _ _=>(eVx 0)) (bsc (sc:=aa dh) rfl (by decide +kernel)) trivial)) (cv (eAx (eOp ah (eVx 10) af) ae))) ae)))) bS) (ao (bP (eTx (aO hr.units) (eVx 13) af) (aA (eSx au.nd 11 fF)) bS) (ao (bP (eTx (aO hr.units) (eVx 13) af) (aA (eSx au.nd 11 (eVx 10))) bS) (aA (bP (eTx (bZ hr.units) (eVx 13) af) (aA (rM (eBM (eVx 8) (eAx (bK (eAx (eVx 9) (eAx (eVx 10) (eAx (eVx 11) (eAx (j6 hr.units (eVx 2) (eVx 12) (fun _ _=>rfl)) ae))))) ae) eS J9 J2 J1 rfl rfl rfl rfl rfl) rfl)) bS)))))))) (ao (bP (eTx (aO hr.units) (eCx G20 hr (T.d 20 rfl) (eAx (eVy 0) (eAx af ae))) af) (aA (eSx au.nd 5 (eIy (cv (eAx a6 (eAx a6 ae))) (eCx G20 hr (T.d 20 rfl) (eAx (eVy 0) (eAx af ae)))))) bS) (ao (bP (eTx (aO hr.units) (eCx G20 hr (T.d 20 rfl) (eAx (eVy 0) (eAx af ae))) af) (aA (eSy au.nd 7 fF)) bS) (ao (bP (eW (lO (eTx cN (eVy 7) fF) (ip (eTx (aO hr.units) (eCx G20 hr (T.d 20 rfl) (eAx (eVy 0) (eAx af ae))) af)))) (aA (eSy au.nd 7 (eTs eJ T.z_tuple (eAx (eKx ["_law_closed", "_law_pen_here"] (eIL (eVx 3)) (eT1 fun _ _ _ _=>(eW (ny (gq (cF hr.units) (eVx 0) (eVy 1) (by with_unfolding_all rfl)) (fj (eTx (aO hr.units) (eCx G20 hr (T.d 20 rfl) (eAx (eVy 2) (eAx af ae))) af))))) (eC fun _ _ _ _=>(eVx 0)) (bsc (sc:=aa dh) rfl (by decide +kernel)) ⟨rfl,⟨rfl,rfl⟩,⟨rfl,⟨rfl,rfl⟩,trivial⟩⟩) ae)))) bS) (aA (aX (bK (eAx (j6 hr.units (eVx 2) (eVx 4) (fun _ _=>rfl)) (eAx (eVx 5) (eAx (eTs eJ T.z_tuple (eAx (eVx 8) ae)) (eAx (eVy 7) ae))))))))))))
theorem AL (T:Txt K mg t) (G21:ri P w K mg base t) (G20:fW P w K mg base t) (G23:sg P w K mg base t) (G24:lQ P w K mg base t):AE P w K mg base t :=
 (T.d 25 rfl).ok fS (aW T) fun hr=>ao (eSy fS.nd 2 (eBs qq T.z_sorted (eAx (eCx G21 hr (T.d 21 rfl) (eAx (eVy 0) (eA af ae rfl))) ae))) (ao (eSy fS.nd 3 (eCx G21 hr (T.d 21 rfl) (eAx (eVy 0) (eAx (eOp ah af (eCx G20 hr (T.d 20 rfl) (eAx (eVy 0) (eA (eVx 1) ae rfl)))) ae)))) (ao (eSx fS.nd 4 (eCx G23 hr (T.d 23 rfl) (eAx (eVy 0) (eAx (eVy 3) (eAx (eVy 2) ae))))) (ao (eSy fS.nd 5 (eCx G21 hr (T.d 21 rfl) (eAx (eVy 0) (eAx (eBs aD T.z_len (eAx (eVy 3) ae)) ae)))) (ao (bP (eTx (aO hr.units) (eCx G20 hr (T.d 20 rfl) (eAx (eVy 0) (eAx af ae))) af) (aA (eSy fS.nd 5 (eOp ah (eSl (orS cz (orS bu cf)) (eVy 3) (eP af) oJ) (eSl (orS cz (orS bu cf)) (eVy 3) oJ (eP af))))) bS) (ao (bP (eTx (aO hr.units) (eCx G20 hr (T.d 20 rfl) (eAx (eVy 0) (eAx af ae))) af) (aA (aX (cv (eAx (eVx 4) (eAx (eCx G23 hr (T.d 23 rfl) (eAx (eVy 0) (eAx (eVy 5) (eAx (eSS rfl rfl T.z_sorted rfl T.z_set rfl (eOp ah (eSl (orS cz (orS bu cf)) (eVy 2) (eP af) oJ) (eCx G21 hr (T.d 21 rfl) (eAx (eVy 0) (eAx af ae))))) ae)))) ae))))) bS) (ao (eSy fS.nd 6 (eTs (mw hr.units rfl) T.z_dict (eAx (eKx ["_law_names_here", "_law_others"] (eR1 rfl T.z_range (eAx (eBs aD T.z_len (eAx (eVy 3) ae)) ae) rfl) eT0 (eC fun _ _ _ _=>(bK (eAx (eIy (eVy 1) (eVx 0)) (eAx (eIy (eVy 2) (eVx 0)) ae)))) (bsc (sc:=aa lx) rfl (by decide +kernel)) ⟨rfl,⟨rfl,rfl⟩,⟨rfl,⟨rfl,rfl⟩,trivial⟩⟩) ae))) (ao (sU (i:=7) ["_law_pen_here", "_law_called", "_law_bonds"] (eIL (eVx 4)) eT0 (eC fun _ _ _ _=>(eCx G24 hr (T.d 24 rfl) (eAx (eVy 1) (eAx (eVx 0) (eAx (eVy 2) (eAx (eVy 3) ae)))))) fS.nd rfl rfl rfl rfl (bsc (sc:=aa lx) rfl (by decide +kernel)) (by decide +kernel) ⟨rfl,⟨rfl,rfl⟩,⟨rfl,⟨rfl,rfl⟩,⟨rfl,⟨rfl,rfl⟩,trivial⟩⟩⟩ (fun _=>rfl)) (ao (eSx fS.nd 8 (eCx G20 hr (T.d 20 rfl) (eAx (eVy 0) (eAx (eBs aD T.z_len (eAx (eVx 7) ae)) ae)))) (aA (aX (cv (eAx (eVx 4) (eAx (eOp ah (eSl (orS cz (orS bu cf)) (eVx 7) (eP (eVx 8)) oJ) (eSl (orS cz (orS bu cf)) (eVx 7) oJ (eP (eVx 8)))) ae)))))))))))))
theorem yh (T:Txt K mg t):pj P w K mg base t :=
 (T.d 26 rfl).ok y1 (aW T) fun hr=>aA (aX (eIy (eKx ["_law_name"] (eIL (eVx 0)) (eT1 fun _ _ _ _=>(gq (aO hr.units) (eIx je (eVx 0) af (fun _ _=>rfl)) (eVy 1) (cG _))) (eC fun _ _ _ _=>(eVx 0)) (bsc (sc:=aa kZ) rfl (by decide +kernel)) ⟨rfl,⟨rfl,rfl⟩,trivial⟩) af))
theorem sD (T:Txt K mg t):kX P w K mg base t :=
 (T.d 27 rfl).ok q0 (aW T) fun hr=>aA (aX (eOr (kb (cF hr.units) (eIy (eVx 0) af) (bK (eAx a6 (eAx a6 ae))) (by with_unfolding_all rfl)) (qM (xT (kb cN (eIy (eVx 0) af) fF (cG _)) (qM (kb (cg hr.units) (eVx 1) (eIy (eVx 0) af) (by with_unfolding_all rfl)))))))
theorem sQ (T:Txt K mg t) (G27:kX P w K mg base t):p6 P w K mg base t :=
 (T.d 28 rfl).ok bp (aW T) fun hr=>ao (eSy bp.nd 1 Bk) (ao (eSx bp.nd 2 af) (ao (eSx bp.nd 3 (cv (eAx a6 ae))) (ao (xj (eTx (bZ hr.units) (eVx 3) (cv ae)) (ao (eSx bp.nd 2 (eOp ah (eVx 2) af)) (ao (eSx bp.nd 3 (cv ae)) (ao (eFx (eIL (eVx 0)) (eGy bp.nd 4) (ao (sU (i:=5) [] (eIT (eIy (eVy 4) af)) (eT1 fun _ _ _ _=>(eTx iu (eIy (eVx 0) af) af)) (eC fun _ _ _ _=>(eVx 0)) bp.nd rfl rfl rfl rfl (bsc (sc:=aa cS) rfl (by decide +kernel)) (by decide +kernel) trivial (fun _=>rfl)) (ao (sU (i:=5) ["_law_found", "_law_rung_here"] (eIL (eVx 5)) (eT1 fun _ _ _ _=>(eW (ny (zg hr.units (eIy (eVx 0) af) (eVy 1) (by with_unfolding_all rfl)) (fj (eUx (eCx G27 hr (T.d 27 rfl) (eAx (eVy 2) (eAx (eIy (eVx 0) af) ae)))))))) (eC fun _ _ _ _=>(eVx 0)) bp.nd rfl rfl rfl rfl (bsc (sc:=aa cS) rfl (by decide +kernel)) (by decide +kernel) ⟨rfl,⟨rfl,rfl⟩,⟨rfl,⟨rfl,rfl⟩,trivial⟩⟩ (fun _=>rfl)) (aA (bP (eW (lO (vU hr.units (eIy (eVy 4) af) (eVy 1) (by with_unfolding_all rfl)) (ip (eTx (bZ hr.units) (eVx 5) (cv ae))))) (aA (rM (eBM (eVx 3) (eAx (eIy (eVy 4) af) ae) eS J9 J2 J1 rfl rfl rfl rfl rfl) rfl)) bS))))) (aA (eFx (eIL (eVx 3)) (eGx bp.nd 6) (aA (tO hr.units (eVy 1) (eVx 6) (eVx 2) rfl))))))) PassesOwn.never) (aA (aX (eKx ["_law_found"] (eIL (eVx 0)) (eT1 fun _ _ _ _=>(zg hr.units (eIy (eVx 0) af) (eVy 1) (by with_unfolding_all rfl))) (eC fun _ _ _ _=>(bK (eAx (eIy (eVx 0) af) (eAx (j6 hr.units (eVy 1) (eIy (eVx 0) af) (fun _ _=>rfl)) ae)))) (bsc (sc:=aa cS) rfl (by decide +kernel)) ⟨rfl,⟨rfl,rfl⟩,trivial⟩))))))
theorem vR (T:Txt K mg t) (G26:pj P w K mg base t):oB P w K mg base t :=
 (T.d 29 rfl).ok pX (aW T) fun hr=>ao (bP (eTx (aO hr.units) (eVx 1) a6) (aA (aX (bK (eAx a6 (eAx a6 (eAx a6 ae)))))) bS) (ao (eSx pX.nd 2 (eCx G26 hr (T.d 26 rfl) (eAx (eVx 0) (eAx (eVx 1) ae)))) (ao (bP (eTx (bZ hr.units) (eIy (eVx 2) af) a6) (aA (aX (bK (eAx (eIy (eVx 2) af) ae)))) bS) (ao (bP (eTx (bZ hr.units) (eKx [] (eIT (eIy (eVx 2) af)) (eT1 fun _ _ _ _=>(eTx iu (eIy (eVx 0) af) af)) (eC fun _ _ _ _=>(eVx 0)) (bsc (sc:=aa jm) rfl (by decide +kernel)) trivial) (cv ae)) (aA (aX (bK (eAx a6 ae)))) bS) (aA (aX (bK (eAx a6 (eAx a6 (eAx a6 ae)))))))))
theorem Cp (T:Txt K mg t) (G26:pj P w K mg base t) (G29:oB P w K mg base t) (G27:kX P w K mg base t):xR P w K mg base t :=
 (T.d 30 rfl).ok rn (aW T) fun hr=>ao (bP (eTx (aO hr.units) (eVx 1) a6) (aA (aX (bK (eAx af (eAx fF (eAx a6 ae)))))) bS) (ao (eSx rn.nd 4 (eCx G26 hr (T.d 26 rfl) (eAx (eVx 0) (eAx (eVx 1) ae)))) (ao (sU (i:=5) ["_law_bond"] (eIT (eIy (eVx 4) af)) (eT1 fun _ _ _ _=>(eTx (aO hr.units) (eIy (eVx 0) af) (eVy 1))) (eC fun _ _ _ _=>(eVx 0)) rn.nd rfl rfl rfl rfl (bsc (sc:=aa nP) rfl (by decide +kernel)) (by decide +kernel) ⟨rfl,⟨rfl,rfl⟩,trivial⟩ (fun _=>rfl)) (ao (bP (eW (ny (gq (cg hr.units) a6 (eCx G29 hr (T.d 29 rfl) (eAx (eVx 0) (eAx (eVx 1) ae))) (by with_unfolding_all rfl)) (fj (eUx (eCx G27 hr (T.d 27 rfl) (eAx (eVx 4) (eAx (eVy 2) ae))))))) (aA (aX (bK (eAx af (eAx af (eAx fF ae)))))) bS) (ao (bP (eW (lO (eTx (bZ hr.units) (eVx 5) (cv ae)) (ip (gq (cF hr.units) (eIy (eIy (eVx 5) af) af) (eVx 3) (by with_unfolding_all rfl))))) (aA (aX (bK (eAx af (eAx af (eAx fF ae)))))) bS) (aA (aX (eSl (orS cz (orS bu cf)) (eIy (eOp ah (eVx 5) (cv (eAx (bK (eAx (eVy 2) (eAx af (eAx fF (eAx a6 ae))))) ae))) af) (eP af) oJ)))))))
theorem qE (T:Txt K mg t) (G30:xR P w K mg base t):mC P w K mg base t :=
 (T.d 31 rfl).ok bA (aW T) fun hr=>ao (C3 (eVx 1) (eGT (n:=4) rfl (me (i:=5) bA.nd rfl (Or.inl rfl) (Or.inl rfl) (me (i:=6) bA.nd rfl (Or.inl rfl) (Or.inl rfl) (me (i:=7) bA.nd rfl (Or.inl rfl) (Or.inl rfl) (me (i:=8) bA.nd rfl (Or.inl rfl) (Or.inl rfl) B8)))) rfl rfl) rfl rfl rfl) (ao (C3 (eCx G30 hr (T.d 30 rfl) (eAx (eVx 0) (eAx (eVx 3) (eAx (eVx 5) (eA (eVx 4) ae rfl))))) (eGT (n:=3) rfl (me (i:=9) bA.nd rfl (Or.inl rfl) (Or.inl rfl) (me (i:=10) bA.nd rfl (Or.inl rfl) (Or.inl rfl) (me (i:=11) bA.nd rfl (Or.inl rfl) (Or.inl rfl) B8))) rfl rfl) rfl rfl rfl) (ao (bP (eW (ny (eTx mH (eVx 9) (eVx 6)) (fj (eW (lO (eTx cN (eVx 7) fF) (ip (eW (ny (eTx kB (eVx 10) fF) (fj (eTx iu (eVx 10) (eVx 7))))))))))) (aA (aX eBl)) bS) (aA (aX (eOr (kb (aO hr.units) (eVx 10) af (cG _)) (qM (kb (cF hr.units) (bK (eAx (eVx 11) (eAx (eVx 8) ae))) (eVx 2) (by with_unfolding_all rfl))))))))
theorem m5 (T:Txt K mg t) (G26:pj P w K mg base t) (G29:oB P w K mg base t) (G31:mC P w K mg base t) (G30:xR P w K mg base t):jJ P w K mg base t :=
 (T.d 32 rfl).ok bQ (aW T) fun hr=>ao (eSy bQ.nd 5 (eIy (eVx 3) af)) (ao (eSy bQ.nd 6 (eCx G26 hr (T.d 26 rfl) (eAx (eVx 1) (eAx (eIy (eVx 3) af) ae)))) (ao (eSx bQ.nd 7 (eCx G29 hr (T.d 29 rfl) (eAx (eVy 0) (eAx (eVy 5) ae)))) (ao (bP (gq (cF hr.units) (eVy 5) (eVy 4) (by with_unfolding_all rfl)) (aA (aX eBl)) bS) (ao (bP (eW (lO (eTx (bZ hr.units) (eIy (eVy 6) af) a6) (ip (eTx (bZ hr.units) (eVx 7) (bK (eAx (eIy (eVy 6) af) ae)))))) (aA (aX eBl)) bS) (ao (bP (eTx (bZ hr.units) (eKx ["_law_rungs_here", "_law_relation", "_law_name", "_law_hollows"] (eIT (eIy (eVy 6) af)) (eT1 fun _ _ _ _=>(iH (eUx (eCx G31 hr (T.d 31 rfl) (eAx (eVy 1) (eAx (eVx 0) (eAx (eVy 2) (eAx (eVy 3) (eAx (eVy 4) ae))))))))) (eC fun _ _ _ _=>(eVx 0)) (bsc (sc:=aa bH) rfl (by decide +kernel)) ⟨rfl,⟨rfl,rfl⟩,⟨rfl,⟨rfl,rfl⟩,⟨rfl,⟨rfl,rfl⟩,⟨rfl,⟨rfl,rfl⟩,trivial⟩⟩⟩⟩) (cv ae)) (aA (aX eBl)) bS) (ao (bP (eW (ny (eTx kB (eIy (eVy 6) af) fF) (fj (gq (cg hr.units) a6 (eVx 7) (by with_unfolding_all rfl))))) (aA (aX eBl)) bS) (ao (bP (eW (ny (eTx (aO hr.units) (eVy 5) a6) (fj (eTx kB (eIy (eCx G26 hr (T.d 26 rfl) (eAx (eVy 0) (eAx (eVy 5) ae))) af) fF)))) (aA (aX eBl)) bS) (ao (sU (i:=8) ["_law_rung_here"] (eIT (eIy (eCx G26 hr (T.d 26 rfl) (eAx (eVy 0) (eAx (eVy 5) ae))) af)) (eT1 fun _ _ _ _=>(gq (cg hr.units) (eVx 0) (eIy (eVy 1) af) (by with_unfolding_all rfl))) (eC fun _ _ _ _=>(eVx 0)) bQ.nd rfl rfl rfl rfl (bsc (sc:=aa bH) rfl (by decide +kernel)) (by decide +kernel) ⟨rfl,⟨rfl,rfl⟩,trivial⟩ (fun _=>rfl)) (aA (aX (kb (aO hr.units) (eKx ["_law_rungs_here", "_law_name", "_law_hollows"] (eIL (eVx 8)) (eT1 fun _ _ _ _=>(eTx (bZ hr.units) (eIy (eCx G30 hr (T.d 30 rfl) (eAx (eVy 1) (eAx (eVy 2) (eAx (eVx 0) (eAx (eVy 3) ae))))) af) af)) (eC fun _ _ _ _=>(eVx 0)) (bsc (sc:=aa bH) rfl (by decide +kernel)) ⟨rfl,⟨rfl,rfl⟩,⟨rfl,⟨rfl,rfl⟩,⟨rfl,⟨rfl,rfl⟩,trivial⟩⟩⟩) (cv ae) (cG _))))))))))))
theorem oo (T:Txt K mg t) (G32:jJ P w K mg base t):ki P w K mg base t :=
 (T.d 33 rfl).ok br (aW T) fun hr=>ao (eSy br.nd 3 (cv ae)) (ao (eFx (eIL (eOp ah (cv (eAx a6 ae)) (eKx [] (eIL (eVy 0)) eT0 (eC fun _ _ _ _=>(eIy (eVx 0) af)) (bsc (sc:=aa bR) rfl (by decide +kernel)) trivial))) (eGy br.nd 4) (aA (eSy br.nd 3 (eOp ah (eVy 3) (eKx ["_law_name"] (eIL (eVy 1)) eT0 (eC fun _ _ _ _=>(bK (eAx (eVy 1) (eAx (eIy (eVx 0) af) ae)))) (bsc (sc:=aa bR) rfl (by decide +kernel)) ⟨rfl,⟨rfl,rfl⟩,trivial⟩))))) (ao (eSx br.nd 5 af) (ao (xj (eTx (bZ hr.units) (eVx 5) (eBs aD T.z_len (eAx (eVy 3) ae))) (ao (eSx br.nd 5 (eBs aD T.z_len (eAx (eVy 3) ae))) (aA (eSy br.nd 3 (eKx ["_law_rungs_here", "_law_others", "_law_relation", "_law_hollows"] (eIL (eVy 3)) (eT1 fun _ _ _ _=>(eUx (eCx G32 hr (T.d 32 rfl) (eAx (eVy 1) (eAx (eVy 2) (eAx (eVy 3) (eAx (eVx 0) (eAx (eVy 4) ae)))))))) (eC fun _ _ _ _=>(eVx 0)) (bsc (sc:=aa bR) rfl (by decide +kernel)) ⟨rfl,⟨rfl,rfl⟩,⟨rfl,⟨rfl,rfl⟩,⟨rfl,⟨rfl,rfl⟩,⟨rfl,⟨rfl,rfl⟩,trivial⟩⟩⟩⟩)))) PassesOwn.never) (aA (aX (eVy 3))))))
theorem yF (T:Txt K mg t):ue P w K mg base t :=
 (T.d 34 rfl).ok tW (aW T) fun hr=>ao (eSy tW.nd 1 (eKx [] (eIL (eVx 0)) eT0 (eC fun _ _ _ _=>(eIy (eVx 0) af)) (bsc (sc:=aa i6) rfl (by decide +kernel)) trivial)) (aA (aX (eIy (eKx ["_law_names_here"] (eIS a6) (eT1 fun _ _ _ _=>(gq (cg hr.units) (eVx 0) (eVy 1) (by with_unfolding_all rfl))) (eC fun _ _ _ _=>(eVx 0)) (bsc (sc:=aa i6) rfl (by decide +kernel)) ⟨rfl,⟨rfl,rfl⟩,trivial⟩) af)))
theorem mT (T:Txt K mg t) (G20:fW P w K mg base t) (G34:ue P w K mg base t):jq P w K mg base t :=
 (T.d 35 rfl).ok bB (aW T) fun hr=>ao (eSx bB.nd 3 (eIy (eIy (eVx 1) (eCl G20 hr (T.d 20 rfl).m (T.d 20 rfl).F.kp (T.d 20 rfl).b (eA (eVx 0) (eA (eBs aD T.z_len (eA (eVx 1) ae rfl)) ae rfl) rfl))) af)) (ao (eSx bB.nd 4 (eIy (eIy (eVx 2) (eCx G20 hr (T.d 20 rfl) (eAx (eVx 0) (eA (eBs aD T.z_len (eA (eVx 2) ae rfl)) ae rfl)))) af)) (ao (eSx bB.nd 5 (eCx G34 hr (T.d 34 rfl) (eAx (eOp ah (eVx 1) (eVx 2)) ae))) (ao (eSx bB.nd 6 (cv (eAx (bK (eAx (eVx 5) (eAx (eVx 4) ae))) (eAx (bK (eAx (eVx 3) (eAx (eVx 5) ae))) (eAx (bK (eAx (eVx 3) (eAx a6 ae))) (eAx (bK (eAx a6 (eA a6 ae rfl))) (eAx (bK (eA (eVx 3) ae rfl)) (eA (bK (eA (eVx 3) (eA (eVx 4) (eA (eVx 4) ae rfl) rfl) rfl)) (eA (cv (eA (eVx 3) (eA (eVx 4) ae rfl) rfl)) (eA (bK (eA fF (eA (eVx 4) ae rfl) rfl)) (eA (bK (eA (eVx 3) (eA af ae rfl) rfl)) ae rfl) rfl) rfl) rfl)))))))) (ao (eSx bB.nd 6 (eOp ah (eVx 6) (cv (eAx (eOp ah (eVx 3) (eVx 4)) (eAx af (eAx fF (eAx (qT (ePC (eVx 3) (eVx 4) ePN) (by rfl) (by rfl) (by simp) (by decide)) (eAx (bK ae) (eAx (bK (eA (bK (eA (eVx 3) ae rfl)) (eA (eVx 4) ae rfl) rfl)) (eA (bK (eA (eVx 3) (eA (cv (eA (eVx 4) ae rfl)) ae rfl) rfl)) (eA (bK (eA eBl (eA (eVx 4) ae rfl) rfl)) (eA (eVx 3) (eA (bK (eA (cv ae) (eA (eVx 4) ae rfl) rfl)) ae rfl) rfl) rfl) rfl)))))))))) (aA (aX (eIy (eVx 6) (eCx G20 hr (T.d 20 rfl) (eAx (eVx 0) (eAx (eBs aD T.z_len (eAx (eVx 6) ae)) ae))))))))))
theorem mX (T:Txt K mg t) (G20:fW P w K mg base t) (G34:ue P w K mg base t):jG P w K mg base t :=
 (T.d 36 rfl).ok bx (aW T) fun hr=>ao (eSx bx.nd 3 (eIy (eIy (eVx 1) (eCl G20 hr (T.d 20 rfl).m (T.d 20 rfl).F.kp (T.d 20 rfl).b (eA (eVx 0) (eA (eBs aD T.z_len (eA (eVx 1) ae rfl)) ae rfl) rfl))) af)) (ao (eSx bx.nd 4 (eOp ah af (eCx G20 hr (T.d 20 rfl) (eAx (eVx 0) (eAx af ae))))) (ao (eSx bx.nd 5 (cv (eAx (bK (eAx a6 (eAx af ae))) (eAx (bK (eAx (eCx G34 hr (T.d 34 rfl) (eAx (eVx 1) ae)) (eAx (eVx 4) ae))) (eAx (bK (eAx (eVx 3) ae)) (eAx (bK (eA (eVx 3) (eA af (eA af ae rfl) rfl) rfl)) (eA (cv (eA (eVx 3) (eA af ae rfl) rfl)) (eA (eVx 3) (eA fF (eA af (eA (bK (eA fF (eA af ae rfl) rfl)) (eA (bK (eA (cv (eA (eVx 3) ae rfl)) (eA af ae rfl) rfl)) ae rfl) rfl) rfl) rfl) rfl) rfl))))))) (ao (eSx bx.nd 5 (eOp ah (eVx 5) (cv (eAx (bK (eAx (eVx 3) (eAx fF ae))) (eAx (bK (eAx (eVx 3) (eAx a6 ae))) (eAx (bK (eAx (eVx 3) (eAx (eUy (eVx 4)) ae))) (eAx (bK (eAx (eVx 3) (eA eBl ae rfl))) (eAx (bK (eA (eVx 3) (eA (cv (eA af ae rfl)) ae rfl) rfl)) (eA (bK (eA (eVx 3) (eA (bK (eA af ae rfl)) ae rfl) rfl)) (eA (bK ae) (eA (qT (ePC (eVx 3) af ePN) (by rfl) (by rfl) (by simp) (by decide)) ae rfl) rfl) rfl))))))))) (ao (bP (eTx (bZ hr.units) (eVx 2) (cv ae)) (aA (eSx bx.nd 5 (eOp ah (eVx 5) (cv (eAx (eIy (eVx 2) (eUy af)) (eAx (eOp ah (eSl (orS cz (orS bu cf)) (eIy (eVx 2) af) oJ (eP af)) (bK (eAx af ae))) (eAx (eIy (eVx 2) af) ae))))))) bS) (aA (aX (eIy (eVx 5) (eCx G20 hr (T.d 20 rfl) (eAx (eVx 0) (eAx (eBs aD T.z_len (eAx (eVx 5) ae)) ae))))))))))
theorem CH (T:Txt K mg t) (G19:Ag P w K mg base t) (G25:AE P w K mg base t) (G28:p6 P w K mg base t) (G33:ki P w K mg base t) (G20:fW P w K mg base t) (G35:jq P w K mg base t) (G18:dX P w K mg base t) (G36:jG P w K mg base t):Fe P w K mg base t :=
 (T.d 37 rfl).ok cV (aW T) fun hr=>ao (eSx cV.nd 1 (eCx G19 hr (T.d 19 rfl) (eAx (eVx 0) ae))) (ao (eFx (eR1 rfl T.z_range (eAx af ae) rfl) (eGx cV.nd 2) (ao (HJ (i:=3) (j:=4) (h:=11) (g := "_gh") (eCx G25 hr (T.d 25 rfl) (eAx (eVx 1) (eAx af ae))) (me (i:=3) cV.nd rfl (Or.inl rfl) (Or.inl rfl) (me (i:=4) cV.nd rfl (Or.inl rfl) (Or.inl rfl) B8)) rfl rfl rfl rfl rfl rfl rfl (Du rfl) (by decide) (by decide)) (ao (eSx cV.nd 5 (eCx G28 hr (T.d 28 rfl) (eAx (eVx 3) ae))) (ao (eSx cV.nd 6 (eCx G33 hr (T.d 33 rfl) (eAx (eVx 3) (eAx (eVx 4) (eAx (eKx [] (eIL (eVx 5)) eT0 (eC fun _ _ _ _=>(eIy (eVx 0) af)) (bsc (sc:=aa oO) rfl (by decide +kernel)) trivial) ae))))) (ao (eSx cV.nd 7 (cv (eAx (eTs (i0 rfl) T.z_list (eAx (eVx 3) ae)) (eAx (eTs (i0 rfl) T.z_list (eAx (eVx 4) ae)) (eAx (eTs (i0 rfl) T.z_list (eAx (eVx 6) ae)) (eAx (eTs (i0 rfl) T.z_list (eAx (eVx 5) ae)) ae)))))) (ao (eFx (eR1 rfl T.z_range (eAx af ae) rfl) (eGx cV.nd 8) (ao (eSx cV.nd 9 (eCx G20 hr (T.d 20 rfl) (eAx (eVx 1) (eAx (eOp ah (eBs aD T.z_len (eAx (eVx 6) ae)) af) ae)))) (ao (eSx cV.nd 10 (eOp ah (eOp ah (eSl (orS cz (orS bu cf)) (eVx 6) oJ (eP (eVx 9))) (cv (eAx (eCx G35 hr (T.d 35 rfl) (eAx (eVx 1) (eAx (eVx 3) (eAx (eVx 4) ae)))) ae))) (eSl (orS cz (orS bu cf)) (eVx 6) (eP (eVx 9)) oJ))) (ao (bP (eTx cX (eCx G18 hr (T.d 18 rfl) (eAx (eVx 3) (eAx (eVx 4) (eAx (eVx 10) (eAx (eVx 5) ae))))) eBl) (aA (aX eBl)) bS) (ao (eSx cV.nd 9 (eCx G20 hr (T.d 20 rfl) (eAx (eVx 1) (eAx (eOp ah (eBs aD T.z_len (eAx (eVx 5) ae)) af) ae)))) (ao (eSx cV.nd 10 (eOp ah (eOp ah (eSl (orS cz (orS bu cf)) (eVx 5) oJ (eP (eVx 9))) (cv (eAx (eCx G36 hr (T.d 36 rfl) (eAx (eVx 1) (eAx (eVx 3) (eAx (eVx 5) ae)))) ae))) (eSl (orS cz (orS bu cf)) (eVx 5) (eP (eVx 9)) oJ))) (ao (bP (eTx cX (eCx G18 hr (T.d 18 rfl) (eAx (eVx 3) (eAx (eVx 4) (eAx (eVx 6) (eAx (eVx 10) ae))))) eBl) (aA (aX eBl)) bS) (aA (bP (eTx cX (eCx G18 hr (T.d 18 rfl) (eAx (eVx 3) (eAx (eVx 4) (eAx (cv ae) (eAx (eVx 10) ae))))) eBl) (aA (aX eBl)) bS))))))))) (ao (bP (eW (ny (eTx cX (eCx G18 hr (T.d 18 rfl) (eAx (eVx 3) (eAx (eVx 4) (eAx (eVx 6) (eAx (eVx 5) ae))))) eBl) (fj (eTx (bZ hr.units) (cv (eAx (eVx 3) (eAx (eVx 4) (eAx (eVx 6) (eAx (eVx 5) ae))))) (eVx 7))))) (aA (aX eBl)) bS) (aA (bP (eTx cX (eCx G18 hr (T.d 18 rfl) (eAx (eVx 3) (eAx (eVx 4) (eAx (cv ae) (eAx (cv ae) ae))))) eBl) (aA (aX eBl)) bS))))))))) (aA (aX eBl)))
end
theorem Bf {P:Program} {w:World} {K:Fg} {mg:Str->Option Value} {base:Heap} {t:Adr} (T:Txt K mg t):bW P w K mg base CX0 7 (t.f 37).1 (t.f 37).2 ["_law_script"] (ub K):=by
 have h0:=Bs (P:=P) (w:=w) (base:=base) T;have h1:=xO (P:=P) (w:=w) (base:=base) T;have h2:=vF (P:=P) (w:=w) (base:=base) T h1;have h3:=yy (P:=P) (w:=w) (base:=base) T h1;have h4:=vL (P:=P) (w:=w) (base:=base) T h1 h3;have h5:=qi (P:=P) (w:=w) (base:=base) T h1;have h6:=AL (P:=P) (w:=w) (base:=base) T h2 h1 h4 h5;have h7:=sD (P:=P) (w:=w) (base:=base) T;have h8:=sQ (P:=P) (w:=w) (base:=base) T h7;have h9:=yh (P:=P) (w:=w) (base:=base) T;have h10:=vR (P:=P) (w:=w) (base:=base) T h9;have h11:=Cp (P:=P) (w:=w) (base:=base) T h9 h10 h7;have h12:=qE (P:=P) (w:=w) (base:=base) T h11;have h13:=m5 (P:=P) (w:=w) (base:=base) T h9 h10 h12 h11;have h14:=oo (P:=P) (w:=w) (base:=base) T h13;have h15:=yF (P:=P) (w:=w) (base:=base) T;have h16:=mT (P:=P) (w:=w) (base:=base) T h1 h15;have h17:=om (P:=P) (w:=w) (base:=base) T;have h18:=la (P:=P) (w:=w) (base:=base) T;have h19:=oP (P:=P) (w:=w) (base:=base) T;have h20:=fV (P:=P) (w:=w) (base:=base) T h19;have h21:=fg (P:=P) (w:=w) (base:=base) T h20;have h22:=j4 (P:=P) (w:=w) (base:=base) T;have h23:=m4 (P:=P) (w:=w) (base:=base) T;have h24:=fT (P:=P) (w:=w) (base:=base) T h22 h23;have h25:=kh (P:=P) (w:=w) (base:=base) T;have h26:=jQ (P:=P) (w:=w) (base:=base) T h21 h17 h24 h25;have h27:=nJ (P:=P) (w:=w) (base:=base) T h25 h22;have h28:=lV (P:=P) (w:=w) (base:=base) T h27;have h29:=mV (P:=P) (w:=w) (base:=base) T h25;have h30:=nz (P:=P) (w:=w) (base:=base) T h25 h23;have h31:=j5 (P:=P) (w:=w) (base:=base) T h27 h29 h30;have h32:=iJ (P:=P) (w:=w) (base:=base) T;have h33:=nZ (P:=P) (w:=w) (base:=base) T h32;have h34:=k5 (P:=P) (w:=w) (base:=base) T h28 h31 h33 h30;have h35:=gF (P:=P) (w:=w) (base:=base) T h17 h18 h26 h34 h25;have h36:=mX (P:=P) (w:=w) (base:=base) T h1 h15;have h37:=CH (P:=P) (w:=w) (base:=base) T h0 h6 h8 h14 h1 h16 h35 h36;exact h37
theorem Co {K:Fg} {h:Heap} {mg:Str->Option Value} (X:K.In h) (G:h.Ns mainGlobals mg) (D:zG K mg dfs)
  (z_abs:PySem.W.nsIn K mainGlobals "abs" = some none)
  (z_all:PySem.W.nsIn K mainGlobals "all" = some none)
  (z_bool:PySem.W.nsIn K mainGlobals "bool" = some none)
  (z_dict:PySem.W.nsIn K mainGlobals "dict" = some none)
  (z_int:PySem.W.nsIn K mainGlobals "int" = some none)
  (z_isinstance:PySem.W.nsIn K mainGlobals "isinstance" = some none)
  (z_len:PySem.W.nsIn K mainGlobals "len" = some none)
  (z_list:PySem.W.nsIn K mainGlobals "list" = some none)
  (z_max:PySem.W.nsIn K mainGlobals "max" = some none)
  (z_min:PySem.W.nsIn K mainGlobals "min" = some none)
  (z_range:PySem.W.nsIn K mainGlobals "range" = some none)
  (z_set:PySem.W.nsIn K mainGlobals "set" = some none)
  (z_sorted:PySem.W.nsIn K mainGlobals "sorted" = some none)
  (z_tuple:PySem.W.nsIn K mainGlobals "tuple" = some none)
  {ca_KINDS:Addr} (g_KINDS:PySem.W.nsIn K mainGlobals "KINDS" = some (some (.ref ca_KINDS)))
  {od_KINDS:Option Addr} {sl_KINDS:Array (Option Value)} {nn_KINDS:Nat} {tt_KINDS_0:Tok} {tt_KINDS_1:Tok} {tt_KINDS_2:Tok} (s_KINDS:K.lookup ca_KINDS=some ⟨.type "tuple", od_KINDS,.seq #[.str "number" tt_KINDS_0,.str "said" tt_KINDS_1,.str "thing" tt_KINDS_2] nn_KINDS,sl_KINDS⟩)
  : ∃ t:Adr,(∀ (s:Shared) (u:Value),BindsTo s (t.f 37).2 ⟨[u],[]⟩ [("_law_script", u)])/\Txt K mg t:=by
 obtain ⟨f,hf⟩:=Hm D
 exact ⟨⟨f,ca_KINDS⟩,fun s u=>.of_eq ((hf 37 rfl).c [u] rfl),⟨hf,
  IQ X G z_abs,
  IQ X G z_all,
  IQ X G z_bool,
  IQ X G z_dict,
  IQ X G z_int,
  IQ X G z_isinstance,
  IQ X G z_len,
  IQ X G z_list,
  IQ X G z_max,
  IQ X G z_min,
  IQ X G z_range,
  IQ X G z_set,
  IQ X G z_sorted,
  IQ X G z_tuple,
  PySem.W.mg_of X G g_KINDS,
  fun H=>Or.inr ⟨_,_,_,s_KINDS,rfl,rfl,(by show 3<=sizeLine;decide),(.cons ⟨_,rfl⟩ (.cons ⟨_,rfl⟩ (.cons ⟨_,rfl⟩ .nil)))⟩⟩⟩
local macro_rules | `(tactic| walk_at "e")=>`(tactic| (case e9=>exact rfl))
local macro_rules | `(tactic| walk_at "p")=>`(tactic| first | with_reducible refine Cd ?_ | walk_at "p0")
local macro_rules | `(tactic| walk_at "p0")=>`(tactic| first
 | (with_reducible first | refine dY ?_ | refine CM ?_ | refine Ck ?_ | refine Bi ?_ | refine Aw ?_ | refine Ea ?_ | refine Br ?_ | refine D7 ?_ | refine HN ?_ | refine EY ?_ | refine DI ?_ | refine Fv ?_ | refine El ?_ | refine ES ?_ | refine Bh ?_ | refine Es ?_)
 | ((with_reducible refine w_var (d:=?d9) ?e9 ?_);walk_at "e") | ((with_reducible refine An (d:=?d9) ?e9 ?_);walk_at "e") | ((with_reducible refine Bt (d:=?d9) ?e9 ?_);walk_at "e") | ((with_reducible refine Az (d:=?d9) ?e9 ?_);walk_at "e")
 | ((with_reducible refine Eg (d:=?d9) ?e9 ?_);walk_at "e") | ((with_reducible refine Fp (d:=?d9) ?e9 ?_);walk_at "e") | ((with_reducible refine EG (d:=?d9) ?e9 ?_);walk_at "e")
 | (with_reducible first | refine F3 ?_ | refine AN ?_ | refine Dt ?_) | ((with_reducible refine FP (d:=?d9) ?e9 ?f9 ?_);walk_at "e"; (case f9=>exact rfl))
 | (with_reducible first | refine CD ?_ | refine B6 ?_ | refine EM ?_ | refine AZ ?_ | refine EB ?_ | refine Bo ?_ | refine BQ ?_ | refine Et ?_ | refine Fu rfl ?_ | refine A2 rfl ?_ | refine EW ?_ | refine E3 ?_ | refine w_and ?_ | refine w_or ?_ | refine w_not ?_ | refine ET ?_ | refine HC ?_ | refine Hf ?_ | refine HP ?_ | refine HF ?_ | refine Hk ?_ | refine GW ?_ | refine HB ?_)
 | walk_at "q")
local macro_rules | `(tactic| walk_at "q0")=>`(tactic| first
 | ((with_reducible refine Fd ?e9 ?_);walk_at "e") | ((with_reducible refine DU ?e9 ?_);walk_at "e")
 | ((show WPr _ _ _ _);refine ⟨_,_,rfl,rfl,?_⟩) | ((show WPr _ _ _ _);(refine ⟨_,_,rfl,Io ?c9,?_⟩);(case c9=>walk_at "c")) | ((show CZ _ _ _ _);refine ⟨_,_,rfl,rfl,?_⟩) | ((show vj _ _ _);refine ⟨_,rfl,?_⟩) | ((show Df _ _ _ _ _ _ _);refine ⟨_,rfl,rfl,?_⟩) | ((show zR _ _ _ _ _ _);refine ⟨_,_,_,rfl,rfl,rfl,?_⟩) | ((show Ds _ _ _ _ _ _);refine ⟨_,rfl,rfl,?_⟩) | ((show C4 _ _ _ _ _);refine ⟨_,_,_,rfl,rfl,rfl,?_⟩) | ((show WMr _ _ _ _ _);refine ⟨_,_,_,_,rfl,rfl,rfl,?_⟩) | ((show WTp _ _ _ _);refine ⟨_,rfl,JQ rfl,?_⟩) | ((show C7 _ _ _ _);refine ⟨_,_,rfl,rfl,?_⟩) | ((show Cw _ _ _ _);refine ⟨_,rfl,rfl,?_⟩) | ((show qW _ _ _ _);refine ⟨_,rfl,rfl,?_⟩)
 | ((with_reducible refine ⟨_,rfl,?_⟩)))
local macro_rules | `(tactic| walk_at "pp")=>`(tactic| repeat walk_at "p")
local macro_rules | `(tactic| walk_at "c")=>`(tactic| first | exact rfl | assumption | (simp only [mulC,Kq,ID,Jl] <;> omega))
local macro_rules | `(tactic| walk_at "pz")=>`(tactic| repeat walk_at "p0")
local macro_rules | `(tactic| walk_at "n=")=>`(tactic| ((try dsimp only [Cst.i,Cst.s,Cst.b,Cst.n,RV.av,aj,List.replicate_succ,List.replicate_zero,d5,iK,az,bV,aS,dG,oe,List.set_cons_zero,List.set_cons_succ,List.getElem?_cons_zero,List.getElem?_cons_succ,List.map_cons,List.map_nil,List.tail_cons,Option.getD_some,decide_true,decide_false,List.drop_succ_cons,List.drop_zero]);exact rfl))
local macro_rules | `(tactic| walk_at "n")=>`(tactic| ((with_reducible first | refine Ay (e':=?e9) ?h9 ?_ | refine yf (e':=?e9) ?h9 ?_ | refine zO (e':=?e9) ?h9 ?_ | refine Hh (e':=?e9) ?h9 ?_ | refine Hb (e':=?e9) ?h9 ?_ | refine HE (e':=?e9) ?h9 ?_ | refine HA (e':=?e9) ?h9 ?_ | refine HL (e':=?e9) ?h9 ?_ | refine DW (e':=?e9) ?h9 ?_ | refine x8 (e':=?e9) ?h9 ?_ | refine Fc (e':=?e9) ?h9 ?_ | refine F4 (e':=?e9) ?h9 ?_ | refine DT (e':=?e9) ?h9 ?_ | refine Aq (e':=?e9) ?h9 ?_ | refine AO (e':=?e9) ?h9 ?_ | refine xA (e':=?e9) ?h9 ?_ | refine Ba (e':=?e9) ?h9 ?_ | refine AH (e':=?e9) ?h9 ?_ | refine Bg (e':=?e9) ?h9 ?_);(case h9=>walk_at "n=")))
local macro_rules | `(tactic| walk_at "soft")=>`(tactic| first | exact FD | exact Ep | exact Ed | assumption)
local macro_rules | `(tactic| walk_at "l")=>`(tactic| (rename_i h9;apply j0.out h9;clear h9;dsimp only [vW];intros))
local macro_rules | `(tactic| walk_at "L1")=>`(tactic| first | exact (rfl:j0 [] []) | refine ⟨_,?_,rfl⟩ | ((refine ⟨_,_,?s9,?_,rfl⟩);(case s9=>walk_at "soft")))
local macro_rules | `(tactic| walk_at "L")=>`(tactic| repeat walk_at "L1")
local macro_rules | `(tactic| walk_at "q")=>`(tactic| first | walk_at "q0" | ((show Ge _ _ _ _);refine ⟨_,_,_,rfl,rfl,rfl,?_⟩) | ((show GF _ _ _ _ _);refine ⟨_,_,rfl,rfl,?_⟩) | ((show Cw _ _ _ _);(refine ⟨_,rfl,nq rfl ?s9,?_⟩);(case s9=>walk_at "soft")) | ((show qW _ _ _ _);(refine ⟨_,rfl,nq rfl ?s9,?_⟩);(case s9=>walk_at "soft")))
local macro_rules | `(tactic| walk_at "fT1")=>`(tactic| ((refine qv ?f9 ?_);(case f9=>((refine nq rfl ?s9);(case s9=>walk_at "soft")))))
local macro_rules | `(tactic| walk_at "fT")=>`(tactic| ((refine zU (e2:=?e9) ?h9 ?_);(case h9=>((repeat walk_at "fT1");exact rfl))))
local macro_rules | `(tactic| walk_at "f")=>`(tactic| ((refine sO ?h9 ?_);(case h9=>((refine nq rfl ?s9);(case s9=>walk_at "soft")));walk_at "n"))
local macro_rules | `(tactic| walk_at "ps1")=>`(tactic| ((fail_if_success (with_reducible refine isEq ?_));walk_at "p"))
local macro_rules | `(tactic| walk_at "ps")=>`(tactic| repeat walk_at "ps1")
noncomputable def zN (cs:List Int) (p l:Int):PyData:=.dict [(.str "script", .list (cs.map .int)),(.str "at", .int p),(.str "left", .int l)]
theorem Ak {ns:List Int} {Q:PR->List PyData->Prop} (q:Q (.frs (zN ns 0 0)) []):WF t5 [.list (ns.map .int)] Q:=⟨_,_,rfl,q⟩
theorem zc {cs:List Int} {p l m:Int} {Q:PR->List PyData->Prop} (hp:0<=p) (hb:p < 2 ^ 60) (hl:0<=l) (h0:0 < m) (hm:m < 2 ^ 200) (q:∀ v p' l',0<=v->v < m->0<=p'->p'<=p+1->0<=l'->Q (.dat (.int v)) [zN cs p' l']):WF ai [zN cs p l,.int m] Q:=by
 refine b4 rfl ?_;have m0:∀ x:Int,0<=x % m/\x % m < m:=fun x=>⟨Int.emod_nonneg _ (by omega),Int.emod_lt_of_pos _ h0⟩;have d0:∀ x:Int,0<=x->0<=x / m:=fun x h=>Int.ediv_nonneg h (Int.le_of_lt h0);have fin:∀ c:Int,0<=(if c < 0 then -c else c):=fun c=>by split <;> omega
 unfold rX;walk_at "pp";refine a9 (fun e0=>?_) (fun e0=>?_)
 ·walk_at "pp";exact q _ _ _ (m0 l).1 (m0 l).2 hp (by omega) (d0 l hl)
 ·walk_at "pp";refine a9 (fun e1=>?_) (fun e1=>?_)
  ·have h1:p < (((cs.map PyData.int).length:Nat):Int):=Jd e1;obtain ⟨d,hd,ed⟩:=atV (xs:=cs.map PyData.int) hp h1;obtain ⟨c,_,rfl⟩:=Ij.mp hd;walk_at "pp";refine i3 rfl ed ?_;clear ed hd;walk_at "pp";refine a9 (fun e2=>?_) (fun e2=>?_)
   ·walk_at "pp";exact q _ _ _ (m0 _).1 (m0 _).2 (by omega) (by omega) (d0 _ (fin c))
   ·walk_at "pp";exact q _ _ _ (m0 _).1 (m0 _).2 (by omega) (by omega) hl
  ·walk_at "pp";refine a9 (fun e2=>?_) (fun e2=>?_)
   ·have h1:(0:Int) < (((cs.map PyData.int).length:Nat):Int):=Jd e2;obtain ⟨d,hd,ed⟩:=atV (xs:=cs.map PyData.int) (Int.emod_nonneg p (by omega)) (Int.emod_lt_of_pos p h1);obtain ⟨c,_,rfl⟩:=Ij.mp hd;walk_at "pp";refine i3 rfl ed ?_;clear ed hd;walk_at "pp";exact q _ _ _ (m0 _).1 (m0 _).2 (by omega) (by omega) hl
   ·walk_at "pp";exact q _ _ _ (m0 _).1 (m0 _).2 (by omega) (by omega) hl
def aU (cs:List Int) (B:Nat) (d:PyData):Prop:=∃ p l:Int,d=zN cs p l/\0<=p/\p<=B/\0<=l
theorem aU.mono {cs:List Int} {B C:Nat} {d:PyData} (h:aU cs B d) (hb:B<=C):aU cs C d:=by
 obtain ⟨p,l,e,a,b,c⟩:=h;exact ⟨p,l,e,a,by omega,c⟩
theorem jr {cs:List Int} {B:Nat} {pn:PyData} {m:Int} {e1:En} {Q:RV->En->Prop} {i:Nat} (hi:aV e1 i=some pn) (hP:aU cs B pn) (hb:B < 2 ^ 60) (h0:0 < m) (hm:m < 2 ^ 200) (q:∀ v pn',aU cs (B+1) pn'->0<=v->v < m->Q (.dat (.int v)) (iK e1 i pn')):qI ai [.bor i,.dat (.int m)] e1 Q:=by
 obtain ⟨p,l,rfl,hp,hb',hl⟩:=hP;refine ab (ds:=[zN cs p l,.int m]) (is:=[i]) ?_ rfl (zc hp (by omega) hl h0 hm fun v p' l' a b c d e=>⟨?_,q v _ ⟨p',l',rfl,c,by omega,e⟩ a b⟩)
 ·show kg e1 [.ino,.dat] _=_;simp only [kg,DH,hi]
 ·rfl
local macro_rules | `(tactic| walk_at "d")=>`(tactic| ((repeat walk_at "p");(refine jr (cs:=?c9) (B:=?b9) (pn:=?n9) (m:=?m9) (hi:=?hi9) (hP:=?hP9) ?hb9 ?h09 ?hm9 ?_);(case hi9=>exact rfl);(case hP9=>assumption);(case hb9=>omega);(case h09=>first | decide | omega);(case hm9=>first | decide | omega)))
local macro_rules | `(tactic| walk_at "d")=>`(tactic| ((repeat walk_at "p");(refine jr (cs:=?c9) (B:=?b9) (pn:=?n9) (m:=?m9) (hi:=?hi9) (hP:=?hP9) ?hb9 ?h09 ?hm9 ?_);(case hi9=>exact rfl);(case hP9=>assumption);(case hb9=>omega);(case h09=>first | decide | omega);(case hm9=>first | decide | omega)))
def Ltr (x:Str):Prop:=∀ c∈x.cps.toList,97<=c/\c<=122
abbrev abc:Str := "abcdefghijklmnopqrstuvwxyz"
abbrev wds:List PyData:=[.str "any", .str "all", .str "keeps", .str "is", .str "many", .str "each", .str "least", .str "shape"]
theorem sP (x y:Str):(x++y).length=x.length+y.length:=jK x y
theorem du (x y:Str):(x++y).cps.toList=x.cps.toList++y.cps.toList:=by
 show (x.cps++y.cps).toList=_;simp
theorem ly (c:Nat):(⟨#[c]⟩:Str).length=1:=rfl
theorem nX {x y:Str} (hx:Ltr x) (hy:Ltr y):Ltr (x++y):=fun c hc=>by
 rw [du] at hc;rcases IK.mp hc with h | h
 ·exact hx c h
 ·exact hy c h
theorem Cq:∀ n < 26,abc.cps.toList[n]?=some (97+n):=by decide +kernel
theorem wa {r:Int} (h0:0<=r) (h1:r < 26):atI abc.cps.toList r=some (97+r.toNat):=by
 have:=lD (xs:=abc.cps.toList) (j:=r.toNat) (Cq r.toNat (by omega))
 rwa [Int.toNat_of_nonneg h0] at this
theorem GJ {r:Int} (h0:0<=r) (h1:r < 26):Ltr ⟨#[97+r.toNat]⟩:=fun c hc=>by
 have:c=97+r.toNat:=by simpa using hc
 omega
theorem e8:∀ w∈wds,∃ z:Str,w=.str z/\z.length<=5/\Ltr z:=by
 intro w h;simp only [Il,IS,Jq] at h;rcases h with rfl | rfl | rfl | rfl | rfl | rfl | rfl | rfl <;> exact ⟨_,rfl,by decide +kernel,by unfold Ltr;decide +kernel⟩
theorem A5 {x:Str} {k:Int} (h:0<=k):(lF x none (some k)).cps.toList=x.cps.toList.take k.toNat:=by
 have:=f7 (xs:=x.cps.toList) h;unfold L2.cutD at this;rw [dq] at this;unfold lF;simpa using this
theorem F8 {x:Str} {k:Int} (h:0<=k):(lF x (some k) none).cps.toList=x.cps.toList.drop k.toNat:=by
 unfold lF;have e1:HT.sIx x.length 0 (some k)=min k.toNat x.length:=by
  simp only [HT.sIx];rw [Iv (by omega)]
 have e2:HT.sIx x.length x.length none=x.length:=rfl;rw [e1,e2];show (((x.cps.toList.drop (min k.toNat x.length)).take (x.length - min k.toNat x.length)).toArray).toList=_;rw [Jo (by rw [IH,dq];omega)];by_cases z:k.toNat<=x.length
 ·rw [Nat.min_eq_left z]
 ·rw [KJ (by rw [dq];omega),KJ (by rw [dq];omega)]
def Stp (i:Int):Prop:=i=1\/i=3\/i=5\/i=7\/i=9\/i=11\/i=15\/i=17\/i=19\/i=21\/i=23\/i=25
theorem yZ {st sp:Int} {i j:Nat} (h:Stp sp) (hi:i < 26) (hj:j < 26) (e:(st+sp*i) % 26=(st+sp*j) % 26):i=j:=by
 unfold Stp at h;rcases h with rfl | rfl | rfl | rfl | rfl | rfl | rfl | rfl | rfl | rfl | rfl | rfl <;> omega
def NmK (S:Nat) (st sp:Int) (k:Nat) (x:Str):Prop:=Ltr x/\x.length<=8/\S < x.length/\x.cps.toList[S]?=some (97+((st+sp*k) % 26).toNat)
theorem x6 {bs:Str} {s:Int} {st sp:Int} {k:Nat} (hs:0<=s) (hs2:s<=bs.length) (hb:Ltr bs) (hl:bs.length<=7):NmK s.toNat st sp k (lF bs none (some s)++⟨#[97+((st+sp*k) % 26).toNat]⟩++lF bs (some s) none):=by
 have l1:=A5 (x:=bs) hs;have l2:=F8 (x:=bs) hs;have hn:bs.cps.toList.length=bs.length:=dq bs;have tk:(bs.cps.toList.take s.toNat).length=s.toNat:=by rw [IE,hn];omega
 refine ⟨nX (nX (fun c hc=>?_) (GJ (by omega) (by omega))) (fun c hc=>?_),?_,?_,?_⟩
 ·rw [l1] at hc;exact hb c (JY hc)
 ·rw [l2] at hc;exact hb c (Kk hc)
 ·rw [<- dq,du,du,l1,l2,HY,HY,tk,IH,hn];simp;omega
 ·rw [<- dq (_++_),du,du,l1,l2,HY,HY,tk,IH,hn];simp;omega
 ·rw [du,du,l1,JB,Ii (by rw [tk];exact Ia _),tk,Nat.sub_self];rfl
theorem yU {S:Nat} {st sp:Int} {k:Nat} {x:Str} {z:Int} (h:NmK S st sp k x) (hz:(S:Int) < z):NmK S st sp k (lF x none (some z)):=by
 have l1:=A5 (x:=x) (k:=z) (by omega);obtain ⟨a,b,c,d⟩:=h;have hn:x.cps.toList.length=x.length:=dq x;refine ⟨fun u hu=>?_,?_,?_,?_⟩
 ·rw [l1] at hu;exact a u (JY hu)
 ·exact Iy (cj _ _ _) b
 ·rw [<- dq,l1,IE,hn];omega
 ·rw [l1,List.getElem?_take,Io (by omega)];exact d
theorem mB {S:Nat} {st sp:Int} {xs:List Str} (hs:Stp sp) (hl:xs.length<=26) (h:∀ k x,xs[k]?=some x->NmK S st sp k x):xs.Nodup:=by
 refine List.pairwise_iff_getElem.mpr fun i j hi hj hij e=>?_;have a:=(h i _ (HZ hi)).2.2.2;have b:=(h j _ (HZ hj)).2.2.2;rw [e,b] at a;injection a with a;have:=yZ (i:=i) (j:=j) (st:=st) hs (by omega) (by omega) (by omega);omega
def Nm (x:Str):Prop:=x ≠ "" /\ x.length<=8
theorem wM {S:Nat} {st sp:Int} {k:Nat} {x:Str} (h:NmK S st sp k x):Nm x:=⟨fun e=>by
 have:=h.2.2.1;rw [e] at this
 exact absurd this (KL _),h.2.1⟩
theorem iV {cs:List Int} {B:Nat} {pn:PyData} {m:Int} {Q:PR->List PyData->Prop} (hP:aU cs B pn) (hb:B < 2 ^ 59) (h0:0<=m) (hm:m<=8) (q:∀ (xs:List Str) pn',aU cs (B+40) pn'->(xs.length:Int)=m->xs.Nodup->(∀ x∈xs,Nm x)->Q (.frs (.list (xs.map .str))) [pn']):WF fe [pn,.int m] Q:=by
 refine b4 rfl ?_;unfold pN;walk_at "d";intro w1 pn1 hP1 w10 w11;walk_at "n";walk_at "pp";obtain ⟨d1,hd1,ed1⟩:=atV (xs:=wds) w10 w11;obtain ⟨z1,rfl,hz1,lz1⟩:=e8 d1 hd1;refine i3 rfl ed1 ?_;clear ed1 hd1;walk_at "d";intro w2 pn2 hP2 w20 w21;walk_at "n";walk_at "pp";obtain ⟨d2,hd2,ed2⟩:=atV (xs:=([.str "", .str "", .str "", .str z1]:List PyData)) w20 w21;have hc:∃ z:Str,d2=.str z/\z.length<=5/\Ltr z:=by
  simp only [Il,IS,Jq] at hd2;rcases hd2 with rfl | rfl | rfl | rfl
  ·exact ⟨_,rfl,by decide,by unfold Ltr;decide⟩
  ·exact ⟨_,rfl,by decide,by unfold Ltr;decide⟩
  ·exact ⟨_,rfl,by decide,by unfold Ltr;decide⟩
  ·exact ⟨_,rfl,hz1,lz1⟩
 obtain ⟨z2,rfl,hz2,lz2⟩:=hc;refine i3 rfl ed2 ?_;clear ed2 hd2;walk_at "d";intro w3 pn3 hP3 w30 w31;walk_at "n";walk_at "pp";refine ⟨⟨by omega,by omega⟩,?_⟩;refine bL (fun i e=>∃ (bs:Str) (pn':PyData),Ltr bs/\bs.length=z2.length+i/\aU cs (B+3+i) pn'/\j0 [some (.ino pn'),some (.dat (.int m)),some (.dat (.str abc)),some (.dat (.list wds)),some (.dat (.str bs)),none,none,none,none,none,none] e) ⟨z2,pn3,lz2,rfl,hP3,by walk_at "L"⟩ ?_ ?_
 ·rintro i d e hd ⟨bs,pn',hbs,hbl,hP',_⟩;walk_at "l";obtain ⟨rfl,hi⟩:=jz hd;refine sO (nq rfl (by assumption)) ?_;walk_at "d";intro w4 pn4 hP4 w40 w41;walk_at "n";walk_at "pp";refine AI rfl (wa w40 w41) ?_;walk_at "pp";refine o6 rfl (by rw [hbl,ly];show _<=2 ^ 24;omega) ?_;walk_at "pp";exact ⟨_,pn4,nX hbs (GJ w40 w41),by rw [sP,hbl,ly];omega,hP4,by walk_at "L"⟩
 rintro e ⟨bs,pn4,hbs,hbl,hP4,_⟩;walk_at "l";rw [kW] at hbl hP4;have hbl7:bs.length<=7:=by omega
 replace hP4:aU cs (B+10) pn4:=hP4.mono (by omega);walk_at "d";intro sp pn5 hP5 sp0 sp1;walk_at "n";walk_at "d";intro st pn6 hP6 st0 st1;walk_at "n";walk_at "d";intro w7 pn7 hP7 w70 w71;walk_at "n";walk_at "pp";obtain ⟨d7,hd7,ed7⟩:=atV (xs:=([.int 1,.int 3,.int 5,.int 7,.int 9,.int 11,.int 15,.int 17,.int 19,.int 21,.int 23,.int 25]:List PyData)) w70 w71;have hc:∃ z:Int,d7=.int z/\Stp z:=by
  unfold Stp;simp only [Il,IS,Jq] at hd7;rcases hd7 with rfl | rfl | rfl | rfl | rfl | rfl | rfl | rfl | rfl | rfl | rfl | rfl <;> exact ⟨_,rfl,by decide⟩
 obtain ⟨stp,rfl,hstp⟩:=hc;have hstp2:0<=stp/\stp<=25:=by unfold Stp at hstp;omega
 refine i3 rfl ed7 ?_;clear ed7 hd7;walk_at "n";walk_at "pp";refine ⟨⟨by omega,by omega⟩,?_⟩;refine bL (fun i e=>∃ (xs:List Str),xs.length=i/\(∀ k x,xs[k]?=some x->NmK sp.toNat st stp k x)/\j0 [some (.ino pn7),some (.dat (.int m)),some (.dat (.str abc)),none,some (.dat (.str bs)),none,some (.dat (.int sp)),some (.dat (.int st)),some (.dat (.int stp)),some (.own (.list (xs.map .str))),none] e) ⟨[],rfl,fun k x h=>by simp at h,by walk_at "L"⟩ ?_ ?_
 ·rintro i d e hd ⟨xs,hxl,hx,_⟩;walk_at "l";obtain ⟨rfl,hi⟩:=jz hd;refine sO (nq rfl (by assumption)) ?_;walk_at "n";walk_at "pp";refine AI rfl (wa (r:=(st+stp*i) % 26) (by omega) (by omega)) ?_;walk_at "pp";have c1:=cj bs none (some sp);have c2:=cj bs (some sp) none;refine o6 rfl (by rw [ly];show _<=2 ^ 24;omega) ?_;walk_at "pp";refine o6 rfl (by rw [sP,ly];show _<=2 ^ 24;omega) ?_;walk_at "pp";refine uv rfl (by rw [HS,hxl];show i < 2 ^ 24;omega) rfl ?_;refine ⟨xs++[lF bs none (some sp)++⟨#[97+((st+stp*i) % 26).toNat]⟩++lF bs (some sp) none],by rw [HY,hxl];rfl,fun k x h=>?_,by rw [Ig];walk_at "L"⟩;rcases JK k xs.length with z | z
  ·rw [IL z] at h;exact hx k x h
  ·rw [Ii z] at h;have hk:k - xs.length=0:=by
    rcases Nat.eq_zero_or_pos (k - xs.length) with y | y
    ·exact y
    ·rw [Kf (by simp;omega)] at h;cases h
   rw [hk] at h;have hk2:k=i:=by omega
   subst hk2;cases h;exact x6 sp0 (by omega) hbs hbl7
 rintro e ⟨xs,hxl,hx,_⟩;walk_at "l";rw [kW] at hxl;walk_at "d";intro w8 pn8 hP8 w80 w81;walk_at "n";walk_at "pp";refine a9 (fun c1=>?_) (fun c1=>?_)
 ·walk_at "pp";exact q xs pn8 (hP8.mono (by omega)) (by omega) (mB hstp (by omega) hx) fun x hm=>by
   obtain ⟨k,hk⟩:=Js.mp hm;exact wM (hx k x hk)
 ·walk_at "pp";refine CQ rfl rfl ?_;refine dJ (fun i ys ec=>∃ (zs:List Str) (pn':PyData),ys=zs.map .str/\zs.length=i/\(∀ k x,zs[k]?=some x->NmK sp.toNat st stp k x)/\aU cs (B+14+i) pn'/\ec=[.dat (.int sp),.ino pn']) ⟨[],pn8,rfl,rfl,fun k x h=>by simp at h,hP8.mono (by omega),rfl⟩ ?_ ?_
  ·rintro i d ys ec hd ⟨zs,pn',rfl,hzl,hz,hP',rfl⟩;rw [H9] at hd;obtain ⟨x,hxi,rfl⟩:=Ic.mp hd;have hn:=hx i x hxi;have hi:i < xs.length:=(HX.mp hxi).1;have h3:=hn.2.2.1;have h4:=hn.2.1;refine aB ?_;walk_at "d";intro w9 pn9 hP9 w90 w91;walk_at "n";walk_at "pp";refine ⟨zs++[lF x none (some (sp+1+w9))],pn9,by rw [Ig];rfl,by rw [HY,hzl];rfl,fun k y h=>?_,hP9,rfl⟩;rcases JK k zs.length with z | z
   ·rw [IL z] at h;exact hz k y h
   ·rw [Ii z] at h;have hk:k - zs.length=0:=by
     rcases Nat.eq_zero_or_pos (k - zs.length) with y | y
     ·exact y
     ·rw [Kf (by simp;omega)] at h;cases h
    rw [hk] at h;have hk2:k=i:=by omega
    subst hk2;cases h;exact yU hn (by omega)
  ·rintro ys ec ⟨zs,pn',rfl,hzl,hz,hP',rfl⟩;rw [HS] at hzl hP';walk_at "pp";exact q zs pn' (hP'.mono (by omega)) (by omega) (mB hstp (by omega) hz) fun x hm=>by
    obtain ⟨k,hk⟩:=Js.mp hm;exact wM (hz k x hk)
structure Rw where
 b:Str
 lo:Int
 hi:Option Int
 nm:Str
noncomputable def mQ:Option Int->PyData
 | none=>.none
 | some h=>.int h
noncomputable def Rw.enc (r:Rw):PyData:=.tuple [.str r.b,.int r.lo,mQ r.hi,.str r.nm]
structure Rg where
 n:Str
 k:Str
 rows:List Rw
 cl:Option (List Str)
noncomputable def jY:Option (List Str)->PyData
 | none=>.none
 | some bs=>.tuple (bs.map .str)
noncomputable def Rg.enc (g:Rg):PyData:=.tuple [.str g.n,.str g.k,.tuple (g.rows.map Rw.enc),jY g.cl]
def ng (k:Str):Prop:=k = "any" \/ k = "thing" \/ k = "number" \/ k = "said"
def Rg.ok (g:Rg):Prop:=ng g.k/\g.rows.length<=3
theorem yP {cs:List Int} {B:Nat} {pn:PyData} {ns bs:List Str} {Q:PR->List PyData->Prop} (hP:aU cs B pn) (hb:B < 2 ^ 58) (hn:0 < ns.length) (hn2:ns.length<=8) (hbl:bs.length<=8)
  (q:∀ (rs:List Rw) pn',aU cs (B+40) pn'->rs.length<=3->(∀ r∈rs,r.nm∈ns)->Q (.dat (.tuple (rs.map Rw.enc))) [pn']):WF oI [pn,.list (ns.map .str),.list (bs.map .str)] Q:=by
 refine b4 rfl ?_;unfold tQ;walk_at "pp";refine bI rfl (bL (fun i e=>∃ (rs:List Rw) (pn':PyData),rs.length<=3/\(∀ r∈rs,r.nm∈ns)/\aU cs (B+4*i) pn'/\j0 [some (.ino pn'),some (.dat (.list (ns.map .str))),some (.dat (.list (bs.map .str))),some (.own (.list (rs.map Rw.enc))),none,none,none] e) ⟨[],pn,by decide,fun r h=>(by cases h),hP,by walk_at "L"⟩ ?_ ?_)
 ·rintro i d e hd ⟨rs,pn',hl,hr,hP',_⟩;walk_at "l";rw [H9] at hd;obtain ⟨x,hx,rfl⟩:=Ic.mp hd;have hi:i < bs.length:=(HX.mp hx).1;refine sO (nq rfl (by assumption)) ?_;walk_at "n";walk_at "pp";refine a9 (fun c1=>?_) (fun c1=>?_)
  ·walk_at "d";intro w1 pn1 hP1 w10 w11;walk_at "n";walk_at "pp";refine a9 (fun c2=>?_) (fun c2=>?_)
   ·walk_at "d";intro w2 pn2 hP2 w20 w21;walk_at "n";walk_at "pp";obtain ⟨d2,hd2,ed2⟩:=atV (xs:=([.int 0,.int 0,.int 0,.int 1,.int 1,.int 2,.int 3]:List PyData)) w20 w21;have hc:∃ z:Int,d2=.int z:=by
     simp only [Il,IS,Jq] at hd2;rcases hd2 with rfl | rfl | rfl | rfl | rfl | rfl | rfl <;> exact ⟨_,rfl⟩
    obtain ⟨lo,rfl⟩:=hc;refine i3 rfl ed2 ?_;clear ed2 hd2;walk_at "d";intro w3 pn3 hP3 w30 w31;walk_at "n";walk_at "pp";obtain ⟨d3,hd3,ed3⟩:=atV (xs:=([.none,.none,.int lo,.int (if lo+1 < 3 then lo+1 else 3),.int 3]:List PyData)) w30 w31;have hc:∃ o:Option Int,d3=mQ o:=by
     simp only [Il,IS,Jq] at hd3;rcases hd3 with rfl | rfl | rfl | rfl | rfl
     ·exact ⟨none,rfl⟩
     ·exact ⟨none,rfl⟩
     all_goals exact ⟨some _,rfl⟩
    obtain ⟨o,rfl⟩:=hc;refine i3 rfl ed3 ?_;clear ed3 hd3;walk_at "pp";refine jr (hi:=rfl) (hP:=hP3) (m:=((ns.map PyData.str).length:Nat)) (by omega) (by rw [HS];omega) (by rw [HS];omega) ?_;intro w4 pn4 hP4 w40 w41;walk_at "n";walk_at "pp";obtain ⟨d4,hd4,ed4⟩:=atV (xs:=ns.map PyData.str) w40 w41;obtain ⟨y,hy,rfl⟩:=Ij.mp hd4;refine i3 rfl ed4 ?_;clear ed4 hd4;walk_at "pp";refine uv rfl (by rw [HS];show _ < 2 ^ 24;omega) rfl ?_;have hlt:rs.length < 3:=by
     have:=Jd c1;rw [HS] at this;omega
    exact ⟨rs++[⟨x,lo,o,y⟩],pn4,by rw [HY];show _+1<=_;omega,lb hr hy,hP4.mono (by omega),by rw [Ig];walk_at "L"⟩
   ·walk_at "pp";exact ⟨rs,pn1,hl,hr,hP1.mono (by omega),by walk_at "L"⟩
  ·walk_at "pp";exact ⟨rs,pn',hl,hr,hP'.mono (by omega),by walk_at "L"⟩
 ·rintro e ⟨rs,pn',hl,hr,hP',_⟩;walk_at "l";rw [HS] at hP';walk_at "pp";exact q rs pn' (hP'.mono (by omega)) hl hr
theorem FI:∀ w∈([.str "any", .str "any", .str "thing", .str "thing", .str "thing", .str "number", .str "said"]:List PyData),∃ z:Str,w=.str z/\ng z:=by
 intro w h;simp only [Il,IS,Jq] at h;rcases h with rfl | rfl | rfl | rfl | rfl | rfl | rfl <;> exact ⟨_,rfl,by unfold ng;decide +kernel⟩
theorem pP {cs:List Int} {B:Nat} {pn:PyData} {ns bs:List Str} {Q:PR->List PyData->Prop} (hP:aU cs B pn) (hb:B < 2 ^ 57) (hn:0 < ns.length) (hn2:ns.length<=8) (hbl:bs.length<=8)
  (q:∀ (gs:List Rg) pn',aU cs (B+1000) pn'->gs.map (·.n)=ns->(∀ g∈gs,g.ok/\∀ r∈g.rows,r.nm∈ns)->Q (.frs (.list (gs.map Rg.enc))) [pn']):WF i4 [pn,.list (ns.map .str),.list (bs.map .str)] Q:=by
 refine b4 rfl ?_;unfold o9;walk_at "pp";refine bI rfl (bL (fun i e=>∃ (gs:List Rg) (pn':PyData),gs.map (·.n)=ns.take i/\(∀ g∈gs,g.ok/\∀ r∈g.rows,r.nm∈ns)/\aU cs (B+100*i) pn'/\j0 [some (.ino pn'),some (.dat (.list (ns.map .str))),some (.dat (.list (bs.map .str))),some (.own (.list (gs.map Rg.enc))),none,none,none,none] e) ⟨[],pn,rfl,fun r h=>(by cases h),hP,by walk_at "L"⟩ ?_ ?_)
 ·rintro i d e hd ⟨gs,pn',hl,hg,hP',_⟩;walk_at "l";rw [H9] at hd;obtain ⟨x,hx,rfl⟩:=Ic.mp hd;have hi:i < ns.length:=(HX.mp hx).1;refine sO (nq rfl (by assumption)) ?_;walk_at "n";walk_at "d";intro w1 pn1 hP1 w10 w11;walk_at "n";walk_at "pp";obtain ⟨d1,hd1,ed1⟩:=atV (xs:=([.str "any", .str "any", .str "thing", .str "thing", .str "thing", .str "number", .str "said"]:List PyData)) w10 w11;obtain ⟨k,rfl,hk⟩:=FI d1 hd1;refine i3 rfl ed1 ?_;clear ed1 hd1;walk_at "pp";refine ab (is:=[0]) rfl rfl (yP hP1 (by omega) hn hn2 hbl fun rs pn2 hP2 rl hr=>⟨rfl,?_⟩);walk_at "n";walk_at "q";with_reducible refine dW fun N eN=>?_
  have rest:∀ (rs:List Rw) (pn3:PyData) (x7:Sl),soft x7->aU cs (B+100*i+50) pn3->rs.length<=3->(∀ r∈rs,r.nm∈ns)->N ([.ino pn3,.dat (.list (ns.map .str)),.dat (.list (bs.map .str)),.own (.list (gs.map Rg.enc)),.dat (.str x),.dat (.str k),.dat (.tuple (rs.map Rw.enc)),x7]:En):=by
   intro rs pn3 x7 s7 hP3 rl hr;rw [eN];clear eN N;walk_at "p";walk_at "pz";with_reducible refine dW fun N eN=>?_
   have rest:∀ (o:Option (List Str)) (pn4:PyData),aU cs (B+100*i+90) pn4->N ([.ino pn4,.dat (.list (ns.map .str)),.dat (.list (bs.map .str)),.own (.list (gs.map Rg.enc)),.dat (.str x),.dat (.str k),.dat (.tuple (rs.map Rw.enc)),.dat (jY o)]:En):=by
    intro o pn4 hP4;rw [eN];walk_at "pp";refine uv rfl (by rw [HS,<-HS (f:=(·.n)),hl,IE];show _ < 2 ^ 24;omega) rfl ?_;exact ⟨gs++[⟨x,k,rs,o⟩],pn4,by rw [Ig,hl,<-J8 hx];rfl,lb hg ⟨⟨hk,rl⟩,hr⟩,hP4.mono (by omega),by rw [Ig];walk_at "L"⟩
   walk_at "d";intro w4 pn4 hP4 w40 w41;walk_at "n";walk_at "pp";refine a9 (fun c3=>?_) (fun c3=>?_)
   ·walk_at "pp";refine bI rfl (dJ (fun j ys ec=>∃ (zs:List Str) (pn':PyData),ys=zs.map .str/\aU cs (B+100*i+60+j) pn'/\ec=[.ino pn']) ⟨[],pn4,rfl,hP4.mono (by omega),rfl⟩ ?_ ?_)
    ·rintro j d ys ec hd ⟨zs,pn',rfl,hP',rfl⟩;rw [H9] at hd;obtain ⟨y,hy,rfl⟩:=Ic.mp hd;have hj:j < bs.length:=(HX.mp hy).1;refine aB ?_;walk_at "d";intro w5 pn5 hP5 w50 w51;walk_at "n";walk_at "pp";refine a9 (fun c4=>?_) (fun c4=>?_)
     ·walk_at "pp";exact ⟨zs++[y],pn5,by rw [Ig];rfl,hP5,rfl⟩
     ·exact ⟨zs,pn5,by simp,hP5,rfl⟩
    ·rintro ys ec ⟨zs,pn',rfl,hP',rfl⟩;rw [HS] at hP';walk_at "n";walk_at "pp";exact rest (some zs) pn' (hP'.mono (by omega))
   ·walk_at "pp";exact rest none pn4 (hP4.mono (by omega))
  have noch:∀ pn3,aU cs (B+100*i+50) pn3->∀ x7,soft x7->N ([.ino pn3,.dat (.list (ns.map .str)),.dat (.list (bs.map .str)),.own (.list (gs.map Rg.enc)),.dat (.str x),.dat (.str k),.dat (.tuple (rs.map Rw.enc)),x7]:En):=fun pn3 hP3 x7 s7=>rest rs pn3 x7 s7 hP3 rl hr
  have chg:∀ pn3,aU cs (B+100*i+50) pn3->∀ x7,soft x7->N ([.ino pn3,.dat (.list (ns.map .str)),.dat (.list (bs.map .str)),.own (.list (gs.map Rg.enc)),.dat (.str x),.dat (.str k),.dat (.tuple ((rs.map fun r=>{ r with lo:=0 }).map Rw.enc)),x7]:En):=fun pn3 hP3 x7 s7=>rest _ pn3 x7 s7 hP3 (by rw [HS];exact rl) (fun r h=>by
   obtain ⟨r',h',rfl⟩:=Ij.mp h
   exact hr r' h')
  clear rest eN;have main:(∀ {Q:Bool->En->Prop} {e:En},Q true e->Q true e):=fun q=>q;rcases hk with rfl | rfl | rfl | rfl
  ·walk_at "pp";exact noch pn2 (hP2.mono (by omega)) _ (by walk_at "soft")
  ·walk_at "pp";exact noch pn2 (hP2.mono (by omega)) _ (by walk_at "soft")
  all_goals
   walk_at "d";intro w3 pn3 hP3 w30 w31;walk_at "n";walk_at "pp";refine a9 (fun c3=>?_) (fun c3=>?_)
   ·walk_at "pp";refine dJ (fun j ys ec=>ys=((rs.take j).map fun r=>({ r with lo:=0 }:Rw)).map Rw.enc/\ec=[]) ⟨rfl,rfl⟩ ?_ ?_
    ·rintro j d ys ec hd ⟨rfl,rfl⟩;rw [H9] at hd;obtain ⟨r,hr',rfl⟩:=Ic.mp hd;refine tj rfl ?_;walk_at "pp";exact ⟨by rw [<- J8 hr',Ig,Ig];rfl,rfl⟩
    ·rintro ys ec ⟨rfl,rfl⟩;rw [HS,Jj];walk_at "n";walk_at "pp";exact chg pn3 (hP3.mono (by omega)) _ (by walk_at "soft")
   ·walk_at "pp";exact noch pn3 (hP3.mono (by omega)) _ (by walk_at "soft")
 ·rintro e ⟨gs,pn',hl,hg,hP',_⟩;walk_at "l";rw [HS] at hl hP';rw [Jj] at hl;walk_at "pp";exact q gs pn' (hP'.mono (by omega)) hl hg
theorem ifT {α:Type} {c:Bool} {y:α} (h:c=true):some y=if c=true then some y else none:=(Io h).symm
theorem ifF {α:Type} {c:Bool} {y:α} (h:c=false):none=if c=true then some y else none:=by rw [h];rfl
theorem nt {b:Bool} (h:(!b)=true):b=false:=by cases b;rfl;cases h
theorem nf {b:Bool} (h:(!b)=false):b=true:=by cases b;cases h;rfl
section
variable {α:Type} {st:PyData->En->Option (Option PyData×En)} {js:List Nat} {lk:Option Nat} {e1:En} {Q:RV->En->Prop}
theorem bF (xs:List α) (enc:α->PyData) (p:α->Bool) (g:α->PyData)
  (hs:∀ x∈xs,nE st (enc x) (dG e1 lk js) fun y e=>(y=if p x=true then some (g x) else none)/\e=dG e1 lk js) (hq:Q (.frs (.list ((xs.filter p).map g))) e1) (hb:aS e1 js (dG e1 lk js)=e1:=by exact rfl):zQ st js (xs.map enc) lk e1 Q:=by
 refine dJ (fun i ys ec=>ys=((xs.take i).filter p).map g/\ec=dG e1 lk js) ⟨rfl,rfl⟩ ?_ ?_
 ·rintro i d ys ec hd ⟨rfl,rfl⟩;rw [H9] at hd;obtain ⟨x,hx,rfl⟩:=Ic.mp hd;obtain ⟨y,e,h1,rfl,rfl⟩:=hs x (Iz hx);refine ⟨_,_,h1,?_,rfl⟩;rw [<- J8 hx,List.filter_append,Ig];cases z:p x <;> simp [z]
 ·rintro ys ec ⟨rfl,rfl⟩;rw [HS,Jj,hb];exact hq
theorem aZ (xs:List α) (enc:α->PyData) (g:α->PyData)
  (hs:∀ x∈xs,nE st (enc x) (dG e1 lk js) fun y e=>y=some (g x)/\e=dG e1 lk js) (hq:Q (.frs (.list (xs.map g))) e1) (hb:aS e1 js (dG e1 lk js)=e1:=by exact rfl):zQ st js (xs.map enc) lk e1 Q :=
 bF xs enc (fun _=>true) g (fun x hx=>by obtain ⟨y,e,h1,rfl,rfl⟩:=hs x hx;exact ⟨_,_,h1,rfl,rfl⟩) (by rw [List.filter_eq_self.mpr fun _ _=>rfl];exact hq) hb
end
local macro_rules | `(tactic| walk_at "fl")=>`(tactic| ((refine aB ?_);(walk_at "pp");(refine a9 (fun c9=>?_) fun c9=>?_);(case _=>(walk_at "pp"; exact ⟨ifT c9,rfl⟩));(case _=>exact ⟨ifF c9,rfl⟩)))
noncomputable def onN (n:Str) (g:Rg):Bool:=PyData.eqv (.str g.n) (.str n)
theorem fC {n:Str} {g:Rg}:onN n g=true↔g.n=n:=by unfold onN;rw [eZ];simp
theorem yA {xs:List Rg} {p:Rg->Bool} {g:Rg} (h:xs.find? p=some g):atI ((xs.filter p).map Rg.enc) 0=some g.enc:=by
 rw [<- List.head?_filter] at h;cases e:xs.filter p with
 | nil=>rw [e] at h;cases h
 | cons y r=>rw [e] at h;cases h;exact at0
theorem aY {gs:List Rg} {n:Str} {g:Rg} {Q:PR->List PyData->Prop} (h:gs.find? (onN n)=some g) (q:Q (.dat g.enc) []):WF aL [.list (gs.map Rg.enc),.str n] Q:=by
 refine b4 rfl ?_;unfold fo;walk_at "pp";refine bI rfl (bF gs Rg.enc (onN n) Rg.enc (fun x hx=>?_) ?_)
 ·walk_at "fl"
 ·walk_at "n";walk_at "pp";refine i3 rfl (yA h) ?_;walk_at "pp";exact q
theorem ju {gs:List Rg} {n:Str} {g:Rg} {Q:PR->List PyData->Prop} (h:gs.find? (onN n)=some g) (q:Q (.dat g.enc) []):WF fM [.list (gs.map Rg.enc),.str n] Q:=aY h q
noncomputable def ndd (g:Rg):List Rw:=g.rows.filter fun r=>decide (1<=r.lo)
theorem mZ {g:Rg} {Q:PR->List PyData->Prop} (q:Q (.frs (.list ((ndd g).map Rw.enc))) []):WF bO [g.enc] Q:=by
 refine b4 rfl ?_;unfold fu;walk_at "pp";refine bF g.rows Rw.enc (fun r=>decide (1<=r.lo)) Rw.enc (fun x hx=>?_) ?_
 ·walk_at "fl"
 ·walk_at "n";walk_at "pp";exact q
noncomputable def pU (g:Rg) (b:Str):Bool:=bC [.str "number", .str "said"] (.str g.k)||(match g.cl with | none=>false | some bs=>!bC (bs.map .str) (.str b))
theorem aw:∀ xs:List Str,c7 (xs.map .str)=true
 | []=>rfl
 | x :: xs=>by rw [List.map_cons];exact aw xs
theorem m7 {e:En} {x y:AV} {z:PyData} {ds:List PyData} {Q:RV->En->Prop} (h1:aF e [x,y]=some [z,.tuple ds]) (h2:jZ z=true) (h3:c7 ds=true) (q:Q (.dat (.bool (!bC ds z))) e):WPr fA [x,y] e Q:=by
 refine ⟨_,.dat (.bool (!bC ds z)),h1,?_,q⟩;cases z with
 | dict kvs=>simp [jZ,noD] at h2
 | _=>(show (if jZ _=true/\c7 ds=true then some (PR.dat (.bool (ngB true (bC ds _)))) else none)=_);rw [Io ⟨h2,h3⟩];rfl
theorem eD {g:Rg} {b:Str} {Q:PR->List PyData->Prop} (q:Q (.dat (.bool (pU g b))) []):WF cK [g.enc,.str b] Q:=by
 refine b4 rfl ?_;unfold hZ;walk_at "pp";refine a9 (fun c=>?_) fun c=>?_
 ·have e:pU g b=true:=by unfold pU;rw [show bC [.str "number", .str "said"] (.str g.k)=true from c];rfl
  rw [e] at q;walk_at "pp";exact q
 ·have e:bC [.str "number", .str "said"] (.str g.k)=false:=c;clear c;obtain ⟨n,k,rows,cl⟩:=g;unfold pU at q;rw [e] at q;cases cl with
  | none=>walk_at "pp"; exact q
  | some bs =>
   walk_at "pp";refine m7 rfl rfl (aw bs) ?_;walk_at "pp";exact q
theorem l9 {g:Rg} {b:Str} {Q:PR->List PyData->Prop} (q:Q (.dat (.bool (pU g b))) []):WF gm [g.enc,.str b] Q:=eD q
abbrev KDS:List Str:=["number", "said", "thing"]
noncomputable def kdG (g:Rg):List Str:=if PyData.eqv (.str g.k) (.str "any")=true then (if (ndd g).isEmpty=true then KDS else ["thing"]) else [g.k]
noncomputable def kdN (gs:List Rg) (n:Str):List Str:=if PyData.eqv (.str n) (.str "")=true then KDS else (match gs.find? (onN n) with | some g=>kdG g | none=>[])
def Has (gs:List Rg) (n:Str):Prop:=n = "" \/ ∃ g,gs.find? (onN n)=some g
theorem qb {gs:List Rg} {n:Str} {g:Rg} (h:PyData.eqv (.str n) (.str "")=false) (hg:gs.find? (onN n)=some g):kdN gs n=kdG g:=by unfold kdN;rw [h,hg];rfl
theorem fD {gs:List Rg} {n:Str} {Q:PR->List PyData->Prop} (h:Has gs n) (q:Q (.dat (.tuple ((kdN gs n).map .str))) []):WF dt [.list (gs.map Rg.enc),.str n] Q:=by
 refine b4 rfl ?_;unfold jx;walk_at "pp";refine a9 (fun c=>?_) fun c=>?_
 ·rw [show kdN gs n=KDS from Io c] at q;walk_at "pp";exact q
 ·have c':PyData.eqv (.str n) (.str "")=false:=c;obtain ⟨g,hg⟩:=h.resolve_left fun z=>by subst z;cases c'
  rw [qb c' hg] at q;unfold kdG at q;walk_at "pp";refine ab (is:=[]) rfl rfl (aY hg ⟨rfl,?_⟩);walk_at "n";walk_at "pp";refine a9 (fun c2=>?_) fun c2=>?_
  ·walk_at "pp";rw [show PyData.eqv (.str g.k) (.str "any")=false from nt c2] at q;exact q
  ·walk_at "pp";refine ab (is:=[]) rfl rfl (mZ ⟨rfl,?_⟩);refine ⟨_,rfl,rfl,?_⟩;rw [show PyData.eqv (.str g.k) (.str "any")=true from nf c2] at q;have et:C8 (.list ((ndd g).map Rw.enc))=!(ndd g).isEmpty:=by cases ndd g <;> rfl
   rw [et];cases z:(ndd g).isEmpty with
   | true=>rw [z] at q;walk_at "pp"; exact q
   | false=>rw [z] at q;walk_at "pp"; exact q
theorem okL {ds:List PyData} (h:∀ d∈ds,noD d=true/\d.depth<=20):iC (.list ds)=true:=n8 (by show c7 ds=true;exact fc.mpr fun d hd=>(h d hd).1) (Iy (gH fun d hd=>(h d hd).2) (by decide))
theorem tI (ds:List PyData):PyData.eqv (.list ds) (.list [])=ds.isEmpty:=by cases ds <;> simp [PyData.eqv,PyData.eqvAll]
theorem qm {e:En} {x y:AV} {ds:List PyData} {Q:RV->En->Prop} (h1:aF e [x,y]=some [.list ds,.list []]) (h:∀ d∈ds,noD d=true/\d.depth<=20) (q:Q (.dat (.bool (!ds.isEmpty))) e):WPr neP [x,y] e Q:=C6 h1 (okL h) rfl (by rw [tI];exact q)
theorem Dw {e:En} {x y:AV} {ds:List PyData} {Q:RV->En->Prop} (h1:aF e [x,y]=some [.list ds,.list []]) (h:∀ d∈ds,noD d=true/\d.depth<=20) (q:Q (.dat (.bool ds.isEmpty)) e):WPr eqP [x,y] e Q:=w_eq h1 (okL h) rfl (by rw [tI];exact q)
theorem rw_flat (rs:List Rw):∀ d∈rs.map Rw.enc,noD d=true/\d.depth<=20:=fun d h=>by
 obtain ⟨⟨b,lo,hi,nm⟩,_,rfl⟩:=Ij.mp h;cases hi <;> exact ⟨rfl,by simp [Rw.enc,mQ,PyData.depth,PyData.depthAll]⟩
theorem o8 {gs:List Rg} {n:Str} {Q:PR->List PyData->Prop} (h:Has gs n) (q:Q (.dat (.tuple ((kdN gs n).map .str))) []):WF i5 [.list (gs.map Rg.enc),.str n] Q:=by
 refine b4 rfl ?_;unfold pW;walk_at "pp";refine a9 (fun c=>?_) fun c=>?_
 ·rw [show kdN gs n=KDS from Io c] at q;walk_at "pp";exact q
 ·have c':PyData.eqv (.str n) (.str "")=false:=c;obtain ⟨g,hg⟩:=h.resolve_left fun z=>by subst z;cases c'
  rw [qb c' hg] at q;unfold kdG at q;walk_at "pp";refine ab (is:=[]) rfl rfl (ju hg ⟨rfl,?_⟩);walk_at "n";walk_at "pp";refine a9 (fun c2=>?_) fun c2=>?_
  ·walk_at "pp";rw [show PyData.eqv (.str g.k) (.str "any")=false from nt c2] at q;exact q
  ·walk_at "pp";rw [show PyData.eqv (.str g.k) (.str "any")=true from nf c2] at q;refine bF g.rows Rw.enc (fun r=>decide (r.lo > 0)) Rw.enc (fun x hx=>?_) ?_
   ·walk_at "fl"
   ·walk_at "n";walk_at "pp";refine qm rfl (rw_flat _) ?_;have en:(g.rows.filter fun r=>decide (r.lo > 0))=ndd g:=rfl;rw [en];cases z:(ndd g).isEmpty with
    | true =>
     rw [z] at q;rw [List.isEmpty_iff.mp z];walk_at "pp";exact q
    | false =>
     rw [z] at q;rw [show ((ndd g).map Rw.enc).isEmpty=false by cases e:ndd g with | nil=>rw [e] at z;cases z | cons=>rfl];walk_at "pp";exact q
theorem a8 {gs:List Rg} {Q:PR->List PyData->Prop} (q:Q (.frs (.list ((gs.map (·.n)).map .str))) []):WF b7 [.list (gs.map Rg.enc)] Q:=by
 refine b4 rfl ?_;unfold jA;walk_at "pp";refine bI rfl (aZ gs Rg.enc (fun g=>.str g.n) (fun x hx=>?_) ?_)
 ·refine aB ?_;walk_at "pp";exact ⟨rfl,rfl⟩
 ·walk_at "n";walk_at "pp";rw [IW] at q;exact q
structure My where
 lo:Int
 hi:Option Int
 sh:Option Str
noncomputable def Gp:Option Str->PyData
 | none=>.none
 | some x=>.str x
noncomputable def My.enc (m:My):PyData:=.tuple [.int m.lo,mQ m.hi,Gp m.sh]
noncomputable def onB (b:Str) (r:Rw):Bool:=PyData.eqv (.str r.b) (.str b)
noncomputable def noM:My:=⟨0,some 0,none⟩
noncomputable def anM:My:=⟨0,none,some ""⟩
noncomputable def zK (hol:List Str):Option Rw->My
 | some r=>if bC (hol.map .str) (.str r.nm)=true then noM else ⟨r.lo,r.hi,some r.nm⟩
 | none=>anM
noncomputable def zX (g:Rg) (b:Str) (hol:List Str):My:=if pU g b=true then noM else zK hol (g.rows.find? (onB b))
noncomputable def kU (gs:List Rg) (n b:Str) (hol:List Str):My:=if PyData.eqv (.str n) (.str "")=true then anM else (match gs.find? (onN n) with | some g=>zX g b hol | none=>anM)
theorem tF {gs:List Rg} {n b:Str} {hol:List Str} {g:Rg} (h:PyData.eqv (.str n) (.str "")=false) (hg:gs.find? (onN n)=some g):kU gs n b hol=zX g b hol:=by unfold kU;rw [h,hg];rfl
theorem jW {gs:List Rg} {n b:Str} {hol:List Str} {Q:PR->List PyData->Prop} (h:Has gs n) (q:Q (.dat (kU gs n b hol).enc) []):WF dQ [.list (gs.map Rg.enc),.str n,.str b,.list (hol.map .str)] Q:=by
 refine b4 rfl ?_;unfold jw;walk_at "pp";refine a9 (fun c=>?_) fun c=>?_
 ·rw [show kU gs n b hol=anM from Io c] at q;walk_at "pp";exact q
 ·have c':PyData.eqv (.str n) (.str "")=false:=c;obtain ⟨g,hg⟩:=h.resolve_left fun z=>by subst z;cases c'
  rw [tF c' hg] at q;unfold zX at q;walk_at "pp";refine ab (is:=[]) rfl rfl (aY hg ⟨rfl,?_⟩);walk_at "n";walk_at "pp";refine ab (is:=[]) rfl rfl (eD ⟨rfl,?_⟩);walk_at "pp";refine a9 (fun c2=>?_) fun c2=>?_
  ·rw [Io c2] at q;walk_at "pp";exact q
  ·rw [show pU g b=false from c2] at q;walk_at "pp";refine bL (fun i e=>(g.rows.take i).find? (onB b)=none/\j0 [some (.dat (.list (gs.map Rg.enc))),some (.dat (.str n)),some (.dat (.str b)),some (.dat (.list (hol.map .str))),some (.dat g.enc),none] e) ⟨rfl,by walk_at "L"⟩ ?_ ?_
   ·rintro i d e hd ⟨hn,_⟩;walk_at "l";rw [H9] at hd;obtain ⟨r,hr,rfl⟩:=Ic.mp hd;walk_at "f";walk_at "pp";refine a9 (fun c3=>?_) fun c3=>?_
    ·rw [vc hn hr c3] at q;walk_at "pp";refine pS rfl rfl (aw hol) rfl ?_;walk_at "pp";refine a9 (fun c4=>?_) fun c4=>?_
     ·rw [show zK hol (some r)=noM from Io c4] at q;walk_at "pp";exact q
     ·rw [show zK hol (some r)=⟨r.lo,r.hi,some r.nm⟩ from Iv (by rw [c4];decide)] at q;walk_at "pp";exact q
    ·walk_at "pp";exact ⟨rJ hn hr c3,by walk_at "L"⟩
   ·rintro e ⟨hn,_⟩;walk_at "l";rw [HS,Jj] at hn;rw [hn] at q;walk_at "pp";exact q
theorem aT:PyData.eqv (.str "any") (.str "any")=true:=by decide +kernel
theorem aN {k:Str} (h:k = "thing" \/ k = "number" \/ k = "said"):¬PyData.eqv (.str k) (.str "any")=true:=by rcases h with rfl | rfl | rfl <;> decide +kernel
theorem qX {gs:List Rg} {n:Str} (h:Has gs n) (hk:∀ g∈gs,g.ok):kdN gs n=KDS\/∃ k,kdN gs n=[k]/\(k = "thing" \/ k = "number" \/ k = "said"):=by
 rcases h with rfl | ⟨g,hg⟩
 ·exact .inl rfl
 ·cases c:PyData.eqv (.str n) (.str "") with
  | true=>exact .inl (Io c)
  | false =>
   rw [qb c hg];have hg':=(hk g (Jg hg)).1;unfold kdG;obtain ⟨nn,k,rows,cl⟩:=g;rcases hg' with rfl | rfl | rfl | rfl
   ·rw [Io aT];split
    ·exact .inl rfl
    ·exact .inr ⟨_,rfl,.inl rfl⟩
   ·exact .inr ⟨"thing", Iv (aN (.inl rfl)),.inl rfl⟩
   ·exact .inr ⟨"number", Iv (aN (.inr (.inl rfl))),.inr (.inl rfl)⟩
   ·exact .inr ⟨"said", Iv (aN (.inr (.inr rfl))),.inr (.inr rfl)⟩
theorem tq {gs:List Rg} {n:Str} {g:Rg} {b:Str} (c:PyData.eqv (.str n) (.str "")=false) (hg:gs.find? (onN n)=some g) (hk:g.ok) (h:bC ((kdN gs n).map .str) (.str "thing")=false):pU g b=true:=by
 rw [qb c hg] at h;obtain ⟨nn,k,rows,cl⟩:=g;unfold kdG at h;rcases hk.1 with rfl | rfl | rfl | rfl
 ·rw [Io aT] at h;split at h
  ·exact absurd h (by decide +kernel)
  ·exact absurd h (by decide +kernel)
 ·rw [Iv (aN (.inl rfl))] at h;have h:bC [.str "thing"] (.str "thing")=false:=h;exact absurd h (by decide +kernel)
 ·rfl
 ·rfl
theorem xa {gs:List Rg} {n b:Str} {hol:List Str} {Q:PR->List PyData->Prop} (h:Has gs n) (hk:∀ g∈gs,g.ok) (q:Q (.dat (kU gs n b hol).enc) []):WF pe [.list (gs.map Rg.enc),.str n,.str b,.list (hol.map .str)] Q:=by
 refine b4 rfl ?_;unfold wG;walk_at "pp";refine a9 (fun c=>?_) fun c=>?_
 ·rw [show kU gs n b hol=anM from Io c] at q;walk_at "pp";exact q
 ·have c':PyData.eqv (.str n) (.str "")=false:=c;obtain ⟨g,hg⟩:=h.resolve_left fun z=>by subst z;cases c'
  rw [tF c' hg] at q;unfold zX at q;walk_at "pp";refine ab (is:=[]) rfl rfl (ju hg ⟨rfl,?_⟩);walk_at "n";walk_at "pp";refine bF g.rows Rw.enc (onB b) Rw.enc (fun x hx=>?_) ?_
  ·walk_at "fl"
  ·walk_at "n";walk_at "pp";refine ab (is:=[]) rfl rfl (o8 h ⟨rfl,?_⟩);walk_at "pp";refine m7 rfl rfl (aw _) ?_;walk_at "pp";refine a9 (fun c1=>?_) fun c1=>?_
   ·rw [tq c' hg (hk g (Jg hg)) (nt c1)] at q;walk_at "pp";exact q
   ·walk_at "pp";refine ab (is:=[]) rfl rfl (l9 ⟨rfl,?_⟩);walk_at "pp";refine a9 (fun c2=>?_) fun c2=>?_
    ·rw [Io c2] at q;walk_at "pp";exact q
    ·rw [show pU g b=false from c2] at q;walk_at "pp";refine qm rfl (rw_flat _) ?_;rw [<- List.head?_filter] at q;have hl:(g.rows.filter (onB b)).length<=3:=Iy (JR _ _) (hk g (Jg hg)).2;generalize List.filter (onB b) g.rows=rs at q hl;cases rs with
     | nil=>walk_at "pp"; exact q
     | cons r rs =>
      walk_at "pp";refine i3 rfl at0 ?_;walk_at "pp";refine pS rfl rfl (aw hol) rfl ?_;walk_at "pp";refine a9 (fun c4=>?_) fun c4=>?_
      ·rw [show zK hol (List.head? (r :: rs))=noM from Io c4] at q;walk_at "pp";exact q
      ·rw [show zK hol (List.head? (r :: rs))=⟨r.lo,r.hi,some r.nm⟩ from Iv (by rw [c4];decide)] at q;walk_at "pp";refine b0 rfl (by rw [HS];show _<=2 ^ 24;simp only [Ik,IP] at *;omega) ?_;walk_at "pp";refine i3 rfl at0 ?_;walk_at "pp";exact q
noncomputable def zv:Option Int->Option Int->Bool
 | _,none=>true
 | none,some _=>false
 | some x,some y=>decide (x<=y)
theorem lE {h o:Option Int} {Q:PR->List PyData->Prop} (q:Q (.dat (.bool (zv h o))) []):WF bY [mQ h,mQ o] Q:=by
 refine b4 rfl ?_;unfold dZ;cases o with
 | none=>walk_at "pp"; exact q
 | some y =>
  cases h with
  | none=>walk_at "pp"; exact q
  | some x=>walk_at "pp"; exact q
abbrev Pr2:=Str×Str
noncomputable def enP (p:Pr2):PyData:=.tuple [.str p.1,.str p.2]
theorem g6 (p r:Pr2):PyData.eqv (enP p) (enP r)=decide (p=r):=by
 obtain ⟨a,b⟩:=p;obtain ⟨c,d⟩:=r;simp only [enP,PyData.eqv,PyData.eqvAll,Bool.and_true,Prod.mk.injEq];rw [Bool.decide_and];congr 1 <;> (rw [Jw];simp)
noncomputable def adP (acc:List Pr2) (p:Pr2):List Pr2:=if p∈acc then acc else acc++[p]
noncomputable def onP (rel:List Pr2):List Pr2:=rel.foldl adP []
theorem yd {acc:List Pr2} {p x:Pr2}:x∈adP acc p↔x∈acc\/x=p:=by
 unfold adP;split
 ·rename_i h;exact ⟨.inl,fun z=>z.elim id fun e=>by rw [e];exact h⟩
 ·simp
theorem oS:∀ {rel acc:List Pr2} {x:Pr2},x∈rel.foldl adP acc↔x∈acc\/x∈rel
 | [],acc,x=>by simp
 | p :: rel,acc,x=>by rw [J6,oS,yd,Il,or_assoc]
theorem lz {rel:List Pr2} {x:Pr2}:x∈onP rel↔x∈rel:=by unfold onP;rw [oS];simp
noncomputable def kvP (p:Pr2):PyData×PyData:=(enP p,.bool true)
theorem yY (acc:List Pr2) (p:Pr2):putD (acc.map kvP) (enP p) (.bool true)=(adP acc p).map kvP:=by
 have ea:((acc.map kvP).any fun kv=>PyData.eqv kv.1 (enP p))=decide (p∈acc):=by
  rw [Jw,Jb];simp only [Jl,Ij];constructor
  ·rintro ⟨x,⟨r,hr,rfl⟩,e⟩;rw [show (kvP r).1=enP r from rfl,g6] at e;rw [<- Jd e];exact hr
  ·exact fun h=>⟨_,⟨p,h,rfl⟩,by rw [show (kvP p).1=enP p from rfl,g6];simp⟩
 unfold putD adP;rw [ea];by_cases h:p∈acc
 ·rw [Io (by simpa using h),Io h,IW];refine List.map_congr_left fun x _=>?_;show (if _=true then _ else kvP x)=kvP x;split <;> rfl
 ·rw [Iv (by simpa using h),Iv h,Ig];rfl
theorem xG (acc:List Pr2) (p:Pr2):(L2.getD (acc.map kvP) (enP p)).isSome=decide (p∈acc):=by
 unfold L2.getD;rw [Option.isSome_map,Jw,List.find?_isSome];simp only [Jl,Ij];constructor
 ·rintro ⟨x,⟨r,hr,rfl⟩,e⟩;rw [show (kvP r).1=enP r from rfl,g6] at e;rw [<- Jd e];exact hr
 ·exact fun h=>⟨_,⟨p,h,rfl⟩,by rw [show (kvP p).1=enP p from rfl,g6];simp⟩
noncomputable def is0 (h:Option Int):Bool:=PyData.eqv (mQ h) (.int 0)
noncomputable def rlB (rel:List Pr2) (sh:Option Str) (nm:Str):Bool:=match sh with | some s=>decide ((s,nm)∈rel) | none=>false
noncomputable def we (m:My) (r:Rw) (rel:List Pr2):Bool:=!decide (m.lo < r.lo)&&(zv m.hi r.hi&&(is0 m.hi||rlB rel m.sh r.nm))
theorem oY:∀ h:Option Int,iC (mQ h)=true
 | none=>rfl
 | some _=>rfl
theorem nO {m:My} {r:Rw} {rel:List Pr2} {Q:PR->List PyData->Prop} (h:is0 m.hi=true\/∃ s,m.sh=some s) (q:Q (.dat (.bool (we m r rel))) []):WF fN [m.enc,r.enc,.dict ((onP rel).map kvP)] Q:=by
 refine b4 rfl ?_;unfold jh;walk_at "pp";unfold we at q;refine a9 (fun c=>?_) fun c=>?_
 ·rw [show decide (m.lo < r.lo)=true from c] at q;walk_at "pp";exact q
 ·rw [show decide (m.lo < r.lo)=false from c] at q;walk_at "pp";refine ab (is:=[]) rfl rfl (lE ⟨rfl,?_⟩);walk_at "pp";refine a9 (fun c2=>?_) fun c2=>?_
  ·rw [show zv m.hi r.hi=false from nt c2] at q;walk_at "pp";exact q
  ·rw [show zv m.hi r.hi=true from nf c2] at q;walk_at "pp";refine w_eq rfl (oY _) rfl ?_;walk_at "pp";refine a9 (fun c3=>?_) fun c3=>?_
   ·rw [show is0 m.hi=true from c3] at q;walk_at "pp";exact q
   ·have c3':is0 m.hi=false:=c3;rw [c3'] at q;obtain ⟨s,hs⟩:=h.resolve_left fun z=>by rw [c3'] at z;cases z
    obtain ⟨lo,hi,sh⟩:=m;obtain rfl:sh=some s:=hs;walk_at "pp";show Q (.dat (.bool (L2.getD ((onP rel).map kvP) (enP (s,r.nm))).isSome)) [];rw [xG];simp only [lz];exact q
theorem wO (gs:List Rg) (n b:Str) (hol:List Str):is0 (kU gs n b hol).hi=true\/∃ s,(kU gs n b hol).sh=some s:=by
 unfold kU;split
 ·exact .inr ⟨_,rfl⟩
 ·split
  ·unfold zX;split
   ·exact .inl rfl
   ·unfold zK;split
    ·split
     ·exact .inl rfl
     ·exact .inr ⟨_,rfl⟩
    ·exact .inr ⟨_,rfl⟩
  ·exact .inr ⟨_,rfl⟩
theorem uY {rel:List Pr2} {p:Pr2}:bC (rel.map enP) (enP p)=decide (p∈rel):=by
 rw [Jw];unfold bC;rw [Jb];simp only [Jl,Ij];constructor
 ·rintro ⟨x,⟨r,hr,rfl⟩,e⟩;rw [g6] at e;rw [<- Jd e];exact hr
 ·exact fun h=>⟨_,⟨p,h,rfl⟩,by rw [g6];simp⟩
theorem pG:∀ rel:List Pr2,c7 (rel.map enP)=true
 | []=>rfl
 | x :: xs=>by rw [List.map_cons];exact pG xs
theorem qC {gs:List Rg} {n:Str} {r:Rw} {hol:List Str} {rel:List Pr2} {Q:PR->List PyData->Prop} (h:Has gs n) (hk:∀ g∈gs,g.ok) (q:Q (.dat (.bool (we (kU gs n r.b hol) r rel))) []) :
  WF gG [.list (gs.map Rg.enc),r.enc,.list (rel.map enP),.str n,.list (hol.map .str)] Q:=by
 refine b4 rfl ?_;unfold kL;walk_at "pp";refine ab (is:=[]) rfl rfl (xa h hk ⟨rfl,?_⟩);have hs:=wO gs n r.b hol;generalize kU gs n r.b hol=m at q hs;obtain ⟨lo,hi,sh⟩:=m;obtain ⟨b,rlo,rhi,nm⟩:=r;walk_at "n";walk_at "pp";unfold we at q;refine a9 (fun c=>?_) fun c=>?_
 ·rw [show decide (lo < rlo)=true from c] at q;walk_at "pp";exact q
 ·rw [show decide (lo < rlo)=false from c] at q;walk_at "n";have hT:∀ E0,E0=([.dat (.list (gs.map Rg.enc)),.dat (.tuple [.str b,.int rlo,mQ rhi,.str nm]),.dat (.list (rel.map enP)),.dat (.str n),.dat (.list (hol.map .str)),.dat (.str b),.dat (.int rlo),.dat (mQ rhi),.dat (.str nm),.dat (.int lo),.dat (mQ hi),.dat (Gp sh)]:En)->WT gds (.and (.tst (p2 hV (vr 7) (.cst .n))) (.or (.tst (p2 isP (vr 10) (.cst .n))) (.tst (p2 gtP (vr 10) (vr 7))))) E0 fun k e=>k=!zv hi rhi/\e=E0:=by
   rintro _ rfl;cases rhi with
   | none=>walk_at "pp"; exact ⟨rfl,rfl⟩
   | some y =>
    cases hi with
    | none=>walk_at "pp"; exact ⟨rfl,rfl⟩
    | some x =>
     walk_at "pp";refine ⟨?_,rfl⟩;show decide (x > y)=!decide (x<=y);by_cases z:x<=y
     ·rw [Jr z,IX (by omega)];rfl
     ·rw [IX z,Jr (by omega)];rfl
  obtain ⟨k,e',h1,rfl,rfl⟩:=hT _ rfl;refine ⟨_,_,h1,?_⟩;refine a9 (fun c2=>?_) fun c2=>?_
  ·rw [show zv hi rhi=false from nt c2] at q;walk_at "pp";exact q
  ·rw [show zv hi rhi=true from nf c2] at q;walk_at "pp";refine w_eq rfl (oY _) rfl ?_;walk_at "pp";refine a9 (fun c3=>?_) fun c3=>?_
   ·rw [show is0 hi=true from c3] at q;walk_at "pp";exact q
   ·have c3':is0 hi=false:=c3;rw [c3'] at q;obtain ⟨s,hs⟩:=hs.resolve_left fun z=>by rw [c3'] at z;cases z
    obtain rfl:sh=some s:=hs;walk_at "pp";refine pS rfl rfl (pG rel) (uY (p:=(s,nm))) ?_;walk_at "pp";exact q
theorem fm {α:Type} {e:En} {x:AV} {xs:List α} {b:α->Bool} {Q:RV->En->Prop} (h1:aF e [x]=some [.list (xs.map fun y=>.bool (b y))]) (q:Q (.dat (.bool (xs.all b))) e):WPr uL [x] e Q :=
 w_all (bs:=xs.map b) (by rw [IW];exact h1) (by rw [List.all_map];exact q)
noncomputable def wide (og:Rg):List Str:=if PyData.eqv (.str og.k) (.str "any")=true then KDS else [og.k]
noncomputable def kfB (gs:List Rg) (n:Str) (og:Rg):Bool:=(kdN gs n).all fun k=>bC ((wide og).map .str) (.str k)
noncomputable def clN (gs:List Rg) (n:Str):Option (List Str):=if PyData.eqv (.str n) (.str "")=true then none else (match gs.find? (onN n) with | some g=>g.cl | none=>none)
theorem vZ {gs:List Rg} {n:Str} {g:Rg} (h:PyData.eqv (.str n) (.str "")=false) (hg:gs.find? (onN n)=some g):clN gs n=g.cl:=by unfold clN;rw [h,hg];rfl
noncomputable def clB (gs:List Rg) (n:Str) (bs hol:List Str):Bool:=match clN gs n with | none=>false | some cs=>cs.all fun b=>bC (bs.map .str) (.str b)||is0 (kU gs n b hol).hi
noncomputable def cfB (gs:List Rg) (n:Str) (og:Rg) (hol:List Str):Bool:=match og.cl with | none=>true | some bs=>!bC ((kdN gs n).map .str) (.str "thing")||clB gs n bs hol
noncomputable def yM (gs:List Rg) (og:Rg) (rel:List Pr2) (hol:List Str) (n:Str):Bool:=bC (hol.map .str) (.str n)||(kfB gs n og&&(cfB gs n og hol&&og.rows.all fun r=>we (kU gs n r.b hol) r rel))
section
variable {gs:List Rg} {n:Str} {og:Rg} {rel:List Pr2} {hol:List Str} {Q:PR->List PyData->Prop}
theorem mE (h:Has gs n) (q:Q (.dat (.bool (kfB gs n og))) []):WF eY [.list (gs.map Rg.enc),.str n,og.enc] Q:=by
 refine b4 rfl ?_;unfold iD;walk_at "pp";refine a9 (fun c=>?_) fun c=>?_
 ·have ew:wide og=KDS:=Io c;unfold kfB at q;rw [ew] at q;walk_at "pp";refine ab (is:=[]) rfl rfl (fD h ⟨rfl,?_⟩);walk_at "pp";refine aZ (kdN gs n) .str (fun k=>.bool (bC ((KDS:List Str).map .str) (.str k))) (fun x hx=>?_) ?_
  ·refine aB ?_;walk_at "pp";exact ⟨rfl,rfl⟩
  ·walk_at "n";walk_at "pp";refine fm (xs:=kdN gs n) (b:=fun k=>bC ((KDS:List Str).map .str) (.str k)) rfl ?_;walk_at "pp";exact q
 ·have ew:wide og=[og.k]:=Iv (by rw [show PyData.eqv (.str og.k) (.str "any")=false from c];decide);unfold kfB at q;rw [ew] at q;walk_at "pp";refine ab (is:=[]) rfl rfl (fD h ⟨rfl,?_⟩);walk_at "pp";refine aZ (kdN gs n) .str (fun k=>.bool (bC (([og.k]:List Str).map .str) (.str k))) (fun x hx=>?_) ?_
  ·refine aB ?_;walk_at "pp";exact ⟨rfl,rfl⟩
  ·walk_at "n";walk_at "pp";refine fm (xs:=kdN gs n) (b:=fun k=>bC (([og.k]:List Str).map .str) (.str k)) rfl ?_;walk_at "pp";exact q
theorem ni (h:Has gs n) (q:Q (.dat (jY (clN gs n))) []):WF eO [.list (gs.map Rg.enc),.str n] Q:=by
 refine b4 rfl ?_;unfold hJ;walk_at "pp";refine a9 (fun c=>?_) fun c=>?_
 ·rw [show clN gs n=none from Io c] at q;walk_at "pp";exact q
 ·have c':PyData.eqv (.str n) (.str "")=false:=c;obtain ⟨g,hg⟩:=h.resolve_left fun z=>by subst z;cases c'
  rw [vZ c' hg] at q;walk_at "pp";refine ab (is:=[]) rfl rfl (aY hg ⟨rfl,?_⟩);walk_at "pp";exact q
theorem ka (h:Has gs n) (q:Q (.dat (.bool (cfB gs n og hol))) []):WF cM [.list (gs.map Rg.enc),.str n,og.enc,.list (hol.map .str)] Q:=by
 refine b4 rfl ?_;unfold fx;obtain ⟨on,ok,orows,ocl⟩:=og;cases ocl with
 | none=>walk_at "pp"; exact q
 | some bs =>
  walk_at "pp";refine ab (is:=[]) rfl rfl (fD h ⟨rfl,?_⟩);walk_at "pp";refine m7 rfl rfl (aw _) ?_;walk_at "pp";replace q:Q (.dat (.bool (!bC ((kdN gs n).map .str) (.str "thing")||clB gs n bs hol))) []:=q;refine a9 (fun c=>?_) fun c=>?_
  ·rw [show (!bC ((kdN gs n).map .str) (.str "thing"))=true from c] at q;walk_at "pp";exact q
  ·rw [show (!bC ((kdN gs n).map .str) (.str "thing"))=false from c] at q;walk_at "pp";refine ab (is:=[]) rfl rfl (ni h ⟨rfl,?_⟩);unfold clB at q;cases hc:clN gs n with
   | none =>
    rw [hc] at q;walk_at "n";walk_at "pp";exact q
   | some cs =>
    rw [hc] at q;walk_at "n";walk_at "pp";refine aZ cs .str (fun b=>.bool (bC (bs.map .str) (.str b)||is0 (kU gs n b hol).hi)) (fun x hx=>?_) ?_
    ·refine aB ?_;walk_at "pp";refine CA rfl rfl (aw bs) rfl ?_;walk_at "pp";refine a9 (fun c2=>?_) fun c2=>?_
     ·walk_at "pp";rw [show bC (bs.map .str) (.str x)=true from c2];exact ⟨rfl,rfl⟩
     ·walk_at "pp";refine ab (is:=[]) rfl rfl (jW h ⟨rfl,?_⟩);walk_at "pp";refine w_eq rfl (oY _) rfl ?_;walk_at "pp";rw [show bC (bs.map .str) (.str x)=false from c2];exact ⟨rfl,rfl⟩
    ·walk_at "n";walk_at "pp";refine fm (xs:=cs) (b:=fun b=>bC (bs.map .str) (.str b)||is0 (kU gs n b hol).hi) rfl ?_;walk_at "pp";exact q
theorem k6 (h:Has gs n) (q:Q (.dat (.bool (yM gs og rel hol n))) []):WF dB [.list (gs.map Rg.enc),.str n,og.enc,.dict ((onP rel).map kvP),.list (hol.map .str)] Q:=by
 refine b4 rfl ?_;unfold fR;walk_at "pp";refine pS rfl rfl (aw hol) rfl ?_;walk_at "pp";unfold yM at q;refine a9 (fun c=>?_) fun c=>?_
 ·rw [show bC (hol.map .str) (.str n)=true from c] at q;walk_at "pp";exact q
 ·rw [show bC (hol.map .str) (.str n)=false from c] at q;walk_at "pp";refine ab (is:=[]) rfl rfl (mE h ⟨rfl,?_⟩);walk_at "pp";refine a9 (fun c2=>?_) fun c2=>?_
  ·rw [show kfB gs n og=false from nt c2] at q;walk_at "pp";exact q
  ·rw [show kfB gs n og=true from nf c2] at q;walk_at "pp";refine ab (is:=[]) rfl rfl (ka h ⟨rfl,?_⟩);walk_at "pp";refine a9 (fun c3=>?_) fun c3=>?_
   ·rw [show cfB gs n og hol=false from nt c3] at q;walk_at "pp";exact q
   ·rw [show cfB gs n og hol=true from nf c3] at q;walk_at "pp";refine aZ og.rows Rw.enc (fun r=>.bool (we (kU gs n r.b hol) r rel)) (fun x hx=>?_) ?_
    ·refine aB ?_;walk_at "pp";refine ab (is:=[]) rfl rfl (jW h ⟨rfl,?_⟩);walk_at "pp";refine ab (is:=[]) rfl rfl (nO (wO _ _ _ _) ⟨rfl,?_⟩);walk_at "pp";exact ⟨rfl,rfl⟩
    ·walk_at "n";walk_at "pp";refine fm (xs:=og.rows) (b:=fun r=>we (kU gs n r.b hol) r rel) rfl ?_;walk_at "pp";exact q
end
theorem okT (xs:List Str):iC (.tuple (xs.map PyData.str))=true:=n8 (by show c7 _=true;exact aw xs) (Iy (da (k:=0) fun d h=>by obtain ⟨x,_,rfl⟩:=Ij.mp h;exact Ia _) (by decide))
theorem xU (xs ys:List Str):PyData.eqv (.tuple (xs.map .str)) (.tuple (ys.map .str))=decide (xs=ys):=by
 simp only [PyData.eqv];exact jH xs ys
theorem z6 {gs:List Rg} {n:Str} {og:Rg} (h:Has gs n) (hk:∀ g∈gs,g.ok):kfB gs n og=(PyData.eqv (.str og.k) (.str "any")||PyData.eqv (.tuple ((kdN gs n).map .str)) (.tuple [.str og.k])):=by
 have e2:PyData.eqv (.tuple ((kdN gs n).map .str)) (.tuple [.str og.k])=decide (kdN gs n=[og.k]):=xU _ [og.k];rw [e2];unfold kfB wide;cases c:PyData.eqv (.str og.k) (.str "any") with
 | true =>
  rw [Io rfl,Bool.true_or,Je];intro k hk';rcases qX h hk with e | ⟨k2,e,hk2⟩
  ·rw [e] at hk';simp only [Il,IS,Jq] at hk';rcases hk' with rfl | rfl | rfl <;> decide +kernel
  ·rw [e] at hk';rw [Ib.mp hk'];rcases hk2 with rfl | rfl | rfl <;> decide +kernel
 | false =>
  rw [Iv (by decide),Bool.false_or];have one:∀ k:Str,bC (([og.k]:List Str).map .str) (.str k)=decide (k=og.k):=fun k=>by
   show (PyData.eqv (.str og.k) (.str k)||false)=_;rw [eZ,Bool.or_false,Jw];simp only [Jl];exact eq_comm
  simp only [one];rcases qX h hk with e | ⟨k2,e,hk2⟩
  ·rw [e,IX (fun z=>by have:=congrArg List.length z;simp at this),Bool.eq_false_iff,ne_eq,Je];intro z;have z1:=Jd (z "number" (by simp));have z2:=Jd (z "said" (by simp));exact absurd (z1.trans z2.symm) (by decide +kernel)
  ·rw [e];simp only [List.all_cons,List.all_nil,Bool.and_true,List.cons.injEq,and_true]
section
variable {gs os:List Rg} {n m:Str} {og:Rg} {rel:List Pr2} {hol:List Str} {Q:PR->List PyData->Prop}
theorem ml (xs:List Str):∀ d∈xs.map PyData.str,noD d=true/\d.depth<=20:=fun d h=>by
 obtain ⟨x,_,rfl⟩:=Ij.mp h;exact ⟨rfl,IV _⟩
theorem eV {α β:Type} (xs:List α) (f:α->β):(xs.map f).isEmpty=xs.isEmpty:=by cases xs <;> rfl
theorem mK {α:Type} (xs:List α) (p:α->Bool):(xs.filter fun x=>!p x).isEmpty=xs.all p:=by
 rw [Jw,List.isEmpty_iff,KI,Je];exact ⟨fun h x hx=>by have:=h x hx;simpa using this,fun h x hx=>by rw [h x hx];decide⟩
theorem m6 (h:Has gs n) (hk:∀ g∈gs,g.ok) (ho:os.find? (onN m)=some og) (q:Q (.dat (.bool (yM gs og rel hol n))) []) :
  WF eR [.list (gs.map Rg.enc),.list (os.map Rg.enc),.list (rel.map enP),enP (n,m),.list (hol.map .str)] Q:=by
 refine b4 rfl ?_;unfold iE;walk_at "pp";refine ab (is:=[]) rfl rfl (ju ho ⟨rfl,?_⟩);walk_at "n";walk_at "pp";refine ab (is:=[]) rfl rfl (o8 h ⟨rfl,?_⟩);walk_at "n";walk_at "pp";refine pS rfl rfl (aw hol) rfl ?_;walk_at "pp";unfold yM at q;refine a9 (fun c=>?_) fun c=>?_
 ·rw [show bC (hol.map .str) (.str n)=true from c] at q;walk_at "pp";exact q
 ·rw [show bC (hol.map .str) (.str n)=false from c,z6 h hk] at q;clear c;walk_at "p";walk_at "n";with_reducible refine dW fun N eN=>?_
  have go:(PyData.eqv (.str og.k) (.str "any")||PyData.eqv (.tuple ((kdN gs n).map .str)) (.tuple [.str og.k]))=true->N ([.dat (.list (gs.map Rg.enc)),.dat (.list (os.map Rg.enc)),.dat (.list (rel.map enP)),.dat (enP (n,m)),.dat (.list (hol.map .str)),.dat (.str n),.dat og.enc,.dat (.tuple ((kdN gs n).map .str)),.un]:En):=by
   intro hkf;rw [hkf] at q;rw [eN];clear eN N;walk_at "pp";refine bF og.rows Rw.enc (fun r=>!we (kU gs n r.b hol) r rel) Rw.enc (fun x hx=>?_) ?_
   ·refine aB ?_;walk_at "pp";refine ab (is:=[]) rfl rfl (qC h hk ⟨rfl,?_⟩);walk_at "pp";refine a9 (fun c9=>?_) fun c9=>?_
    ·walk_at "pp";exact ⟨ifT c9,rfl⟩
    ·exact ⟨ifF c9,rfl⟩
   ·walk_at "n";walk_at "pp";refine qm rfl (rw_flat _) ?_;rw [eV,mK];walk_at "pp";refine a9 (fun c2=>?_) fun c2=>?_
    ·rw [nt c2,Bool.and_false] at q;walk_at "pp";exact q
    ·rw [nf c2,Bool.and_true] at q;walk_at "p";walk_at "n";obtain ⟨on,ok,orows,ocl⟩:=og;cases ocl with
     | none=>walk_at "pp"; exact q
     | some bs =>
      walk_at "pp";refine m7 rfl rfl (aw _) ?_;walk_at "pp";replace q:Q (.dat (.bool (!bC ((kdN gs n).map .str) (.str "thing")||clB gs n bs hol))) []:=q;refine a9 (fun c3=>?_) fun c3=>?_
      ·rw [show (!bC ((kdN gs n).map .str) (.str "thing"))=true from c3] at q;walk_at "pp";exact q
      ·rw [show (!bC ((kdN gs n).map .str) (.str "thing"))=false from c3] at q;walk_at "pp";unfold clB at q;refine a9 (fun c4=>?_) fun c4=>?_
       ·rw [show clN gs n=none from Io c4] at q;walk_at "pp";exact q
       ·have c':PyData.eqv (.str n) (.str "")=false:=c4;obtain ⟨g,hg⟩:=h.resolve_left fun z=>by subst z;cases c'
        rw [vZ c' hg] at q;walk_at "pp";refine ab (is:=[]) rfl rfl (ju hg ⟨rfl,?_⟩);have hr:=@ju gs n g;obtain ⟨gn,gk,gr,gc⟩:=g;cases gc with
        | none=>walk_at "pp"; exact q
        | some cs =>
         walk_at "pp";refine ab (is:=[]) rfl rfl (hr hg ⟨rfl,?_⟩);walk_at "pp";refine bF cs .str (fun b=>!bC (bs.map .str) (.str b)) .str (fun x hx=>?_) ?_
         ·refine aB ?_;walk_at "pp";refine m7 rfl rfl (aw bs) ?_;walk_at "pp";refine a9 (fun c9=>?_) fun c9=>?_
          ·walk_at "pp";exact ⟨ifT c9,rfl⟩
          ·exact ⟨ifF c9,rfl⟩
         ·walk_at "n";walk_at "pp";refine bI rfl (bF (cs.filter fun b=>!bC (bs.map .str) (.str b)) .str (fun b=>!is0 (kU gs n b hol).hi) .str (fun x hx=>?_) ?_)
          ·refine aB ?_;walk_at "pp";refine ab (is:=[]) rfl rfl (xa h hk ⟨rfl,?_⟩);walk_at "pp";refine C6 rfl (oY _) rfl ?_;walk_at "pp";refine a9 (fun c9=>?_) fun c9=>?_
           ·walk_at "pp";exact ⟨ifT c9,rfl⟩
           ·exact ⟨ifF c9,rfl⟩
          ·walk_at "n";walk_at "pp";refine Dw rfl (ml _) ?_;rw [eV,mK];walk_at "pp";rw [List.all_filter];simp only [Bool.not_not];exact q
  walk_at "pp";refine a9 (fun c1=>?_) fun c1=>?_
  ·walk_at "pp";refine C6 rfl (okT _) rfl ?_;walk_at "pz";refine a9 (fun c2=>?_) fun c2=>?_
   ·rw [show PyData.eqv (.str og.k) (.str "any")=false from nt c1,show PyData.eqv (.tuple ((kdN gs n).map .str)) (.tuple [.str og.k])=false from nt c2] at q;walk_at "pp";exact q
   ·refine dY (go ?_);rw [show PyData.eqv (.tuple ((kdN gs n).map .str)) (.tuple [.str og.k])=true from nf c2,Bool.or_true]
  ·refine dY (go ?_);rw [show PyData.eqv (.str og.k) (.str "any")=true from nf c1,Bool.true_or]
end
abbrev Hl:=Str×Int
noncomputable def enH (h:Hl):PyData:=.tuple [.str h.1,.int h.2]
noncomputable def kvH (h:Hl):PyData×PyData:=(.str h.1,.int h.2)
noncomputable def gt (hs:List Hl) (n:Str):Option Int:=(hs.find? fun h=>decide (h.1=n)).map (·.2)
theorem eH (n:Str):∀ hs:List Hl,L2.getD (hs.map kvH) (.str n)=(gt hs n).map .int
 | []=>rfl
 | h :: hs=>by
  have ih:=eH n hs;unfold L2.getD gt at *;rw [List.map_cons,J7,J7,show PyData.eqv (kvH h).1 (.str n)=decide (h.1=n) from eZ];cases decide (h.1=n) with
  | true=>rfl
  | false=>exact ih
theorem GL {α:Type} {kv:α->PyData×PyData} {key:α->Str} (hk:∀ a,(kv a).1=.str (key a)) {acc:List α} {h:α} (hn:key h ∉ acc.map key):putD (acc.map kv) (kv h).1 (kv h).2=(acc++[h]).map kv:=by
 unfold putD;rw [Iv,Ig]
 ·rfl
 ·rw [Jb];rintro ⟨x,hx,e⟩;obtain ⟨y,hy,rfl⟩:=Ij.mp hx;rw [hk,hk,eZ] at e;exact hn (Ij.mpr ⟨y,hy,Jd e⟩)
theorem kR {α:Type} {kv:α->PyData×PyData} {key:α->Str} (hk:∀ a,(kv a).1=.str (key a)):∀ {hs acc:List α},((acc++hs).map key).Nodup->jO (acc.map kv) (hs.map kv)=(acc++hs).map kv
 | [],acc,_=>by rw [Jn];rfl
 | h :: hs,acc,nd=>by
  have e:acc++h :: hs=(acc++[h])++hs:=by simp
  have hn:key h ∉ acc.map key:=fun z=>by
   rw [Ig,Jy] at nd;exact nd.2.2 _ z _ (by rw [List.map_cons];exact Ip) rfl
  show jO (putD (acc.map kv) (kv h).1 (kv h).2) (hs.map kv)=_;rw [GL hk hn,e];exact kR hk (by rw [<- e];exact nd)
theorem yT {acc:List Hl} {h:Hl} (hn:h.1 ∉ acc.map (·.1)):putD (acc.map kvH) (.str h.1) (.int h.2)=(acc++[h]).map kvH:=GL (kv:=kvH) (key:=(·.1)) (fun _=>rfl) hn
theorem tZ:∀ hs:List Hl,kf (hs.map enH)=some (hs.map kvH)
 | []=>rfl
 | h :: hs=>by
  show (if hk6 (.str h.1)=true then (match kf (hs.map enH) with | some ps=>some ((.str h.1,.int h.2) :: ps) | none=>none) else none)=_;rw [tZ hs];exact Io (show hk6 (.str h.1)=true from rfl)
theorem u6 (hs:List Hl):(hs.map kvH).map (·.1)=hs.map fun h=>PyData.str h.1:=by rw [IW];rfl
theorem AJ {e:En} {x:AV} {hs:List Hl} {Q:RV->En->Prop} (h1:aF e [x]=some [.list (hs.map enH)]) (nd:(hs.map (·.1)).Nodup) (hl:hs.length<=1000) (q:Q (.frs (.dict (hs.map kvH))) e):WPr nh [x] e Q:=by
 refine ⟨_,.frs (.dict (hs.map kvH)),h1,?_,q⟩;show (match kf (hs.map enH) with | some ps=>if ps.length<=1000 then some (PR.frs (.dict (jO [] ps))) else none | none=>none)=_;rw [tZ];show (if (hs.map kvH).length<=1000 then _ else _)=_;rw [Io (by rw [HS];exact hl),show jO [] (hs.map kvH)=hs.map kvH from kR (kv:=kvH) (key:=(·.1)) (fun _=>rfl) (acc:=[]) nd]
theorem sJ:∀ {ss acc:List Str},(acc++ss).Nodup->ss.foldl fk acc=acc++ss
 | [],acc,_=>by simp
 | x :: ss,acc,nd=>by
  have e:acc++x :: ss=(acc++[x])++ss:=by simp
  have hn:x ∉ acc:=fun z=>by rw [Jy] at nd;exact nd.2.2 _ z _ Ip rfl
  rw [J6,show fk acc x=acc++[x] by unfold fk;simp [hn],e];exact sJ (by rw [<- e];exact nd)
structure zA (gs:List Rg) (hs:List Hl):Prop where
 nd:(hs.map (·.1)).Nodup
 at_:∀ h∈hs,(∃ g,gs.find? (onN h.1)=some g)/\0<=h.2
 len:hs.length<=900
theorem b5 {gs:List Rg} {n:Str} {g:Rg} (h:gs.find? (onN n)=some g):n∈gs.map (·.n):=Ij.mpr ⟨g,Jg h,fC.mp (Ko h)⟩
theorem iQ {xs:List Str} {x:Str} (h:x∈xs):bC (xs.map .str) (.str x)=true:=by
 unfold bC;rw [Jb];exact ⟨.str x,Ij.mpr ⟨x,h,rfl⟩,by rw [eZ];simp⟩
theorem oW {i:Int} {Q:PR->List PyData->Prop} (q:Q (.dat (.bool true)) []):WF de [.int i] Q:=by
 refine b4 rfl ?_;unfold fG;walk_at "pp";exact q
theorem bD {gs:List Rg} {h:Hl} {g:Rg} {Q:PR->List PyData->Prop} (hg:gs.find? (onN h.1)=some g) (h0:0<=h.2) (q:Q (.dat (.bool true)) []):WF aH [enH h,.list ((gs.map (·.n)).map .str)] Q:=by
 refine b4 rfl ?_;unfold ax;walk_at "pp";refine pS rfl rfl (aw _) (iQ (b5 hg)) ?_;walk_at "pp";refine ab (is:=[]) rfl rfl (oW ⟨rfl,?_⟩);walk_at "pp";have e:decide (0<=h.2)=true:=Jr h0;show Q (.dat (.bool (decide (0<=h.2)))) [];rw [e];exact q
theorem x4 {α:Type} {e:En} {x:AV} {xs:List α} {f:α->Str} {Q:RV->En->Prop} (h1:aF e [x]=some [.list (xs.map fun y=>.str (f y))]) (hl:xs.length < 1000) (nd:(xs.map f).Nodup) (q:Q (.dat (.int xs.length)) e):WPr yj [x] e Q:=by
 refine ⟨_,.dat (.int xs.length),h1,?_,q⟩;have e1:(xs.map fun y=>PyData.str (f y))=(xs.map f).map .str:=by rw [IW];rfl
 show (match strsOf (xs.map fun y=>.str (f y)) with | some ss=>if ss.length < 1000 then some (PR.dat (.int (bM ss).length)) else none | none=>none)=_;rw [e1,cW];show (if (xs.map f).length < 1000 then some (PR.dat (.int (bM (xs.map f)).length)) else none)=_;rw [show bM (xs.map f)=xs.map f from sJ (acc:=[]) nd,HS,Io hl]
theorem ll {gs:List Rg} {hs:List Hl} {Q:PR->List PyData->Prop} (hh:zA gs hs) (q:Q (.dat (.bool true)) []):WF aQ [.list (hs.map enH),.list ((gs.map (·.n)).map .str)] Q:=by
 refine b4 rfl ?_;unfold aR;walk_at "pp";refine bI rfl (aZ hs enH (fun _=>.bool true) (fun x hx=>?_) ?_)
 ·obtain ⟨⟨g,hg⟩,h0⟩:=hh.at_ x hx;refine aB ?_;walk_at "pp";refine ab (is:=[]) rfl rfl (bD hg h0 ⟨rfl,?_⟩);walk_at "pp";exact ⟨rfl,rfl⟩
 ·walk_at "n";walk_at "pp";refine fm (xs:=hs) (b:=fun _=>true) rfl ?_;rw [show (hs.all fun _=>true)=true by simp];walk_at "pp";refine bI rfl (aZ hs enH (fun h=>.str h.1) (fun x hx=>?_) ?_)
  ·refine aB ?_;walk_at "pp";exact ⟨rfl,rfl⟩
  ·walk_at "n";walk_at "pp";refine x4 (xs:=hs) (f:=(·.1)) rfl (by have:=hh.len;omega) hh.nd ?_;rw [<- HS (f:=enH)];walk_at "pp";show Q (.dat (.bool (PyData.eqv (.int (hs.map enH).length) (.int (hs.map enH).length)))) [];rw [eqv_refl _ rfl];exact q
noncomputable def ltO:Option Int->Option Int->Bool
 | some a,some b=>decide (a < b)
 | _,_=>false
noncomputable def shP (hs:List Hl) (g:Rg) (r:Rw):Bool:=pU g r.b||ltO (gt hs r.nm) (gt hs g.n)
noncomputable def shB (hs:List Hl) (g:Rg):Bool:=(ndd g).any (shP hs g)
theorem vn {hs:List Hl} {g:Rg} {b:Int} {Q:PR->List PyData->Prop} (hb:gt hs g.n=some b) (q:Q (.dat (.bool (shB hs g))) []):WF bG [g.enc,.dict (hs.map kvH)] Q:=by
 refine b4 rfl ?_;unfold cD;walk_at "pp";refine ab (is:=[]) rfl rfl (mZ ⟨rfl,?_⟩);unfold shB at q;walk_at "pp";refine bI rfl (bL (fun i e=>((ndd g).take i).any (shP hs g)=false/\j0 [some (.dat g.enc),some (.dat (.dict (hs.map kvH))),none] e) ⟨rfl,by walk_at "L"⟩ ?_ ?_)
 ·rintro i d e hd ⟨hn,_⟩;walk_at "l";rw [H9] at hd;obtain ⟨r,hr,rfl⟩:=Ic.mp hd;have hit:shP hs g r=true->Q (.dat (.bool true)) []:=fun z=>by
   rw [Jb.mpr ⟨r,Iz hr,z⟩] at q;exact q
  have miss:shP hs g r=false->((ndd g).take (i+1)).any (shP hs g)=false:=fun z=>by
   rw [<- J8 hr,List.any_append,hn,Ki,List.any_nil,z];rfl
  walk_at "f";walk_at "pp";refine ab (is:=[]) rfl rfl (eD ⟨rfl,?_⟩);walk_at "pp";refine a9 (fun c=>?_) fun c=>?_
  ·walk_at "pp";exact hit (by unfold shP;rw [show pU g r.b=true from c];rfl)
  ·have e1:shP hs g r=ltO (gt hs r.nm) (some b):=by unfold shP;rw [show pU g r.b=false from c,hb];rfl
   rw [e1] at hit miss;walk_at "pp";rw [eH];cases ha:gt hs r.nm with
   | none =>
    rw [ha] at miss;walk_at "pp";exact ⟨miss rfl,by walk_at "L"⟩
   | some a =>
    rw [ha] at hit miss;walk_at "pp";refine l4 rfl rfl (by rw [eH,ha];rfl) ?_;walk_at "pp";refine l4 rfl rfl (by rw [eH,hb];rfl) ?_;walk_at "pp";refine a9 (fun c2=>?_) fun c2=>?_
    ·walk_at "pp";exact hit c2
    ·walk_at "pp";exact ⟨miss c2,by walk_at "L"⟩
 ·rintro e ⟨hn,_⟩;walk_at "l";rw [HS,Jj] at hn;rw [hn] at q;walk_at "pp";exact q
noncomputable def nW (gs:List Rg) (hs:List Hl):Bool:=hs.all fun h=>match gs.find? (onN h.1) with | some g=>shB hs g | none=>false
theorem rY {hs:List Hl} (nd:(hs.map (·.1)).Nodup) {h:Hl} (hm:h∈hs):gt hs h.1=some h.2:=by
 unfold gt;induction hs with
 | nil=>cases hm
 | cons y hs ih =>
  rw [List.map_cons,IY] at nd;rw [J7];rcases Il.mp hm with rfl | hm
  ·rw [Jr rfl];rfl
  ·rw [IX fun z=>nd.1 (Ij.mpr ⟨h,hm,z.symm⟩)];exact ih nd.2 hm
theorem jV {gs:List Rg} {hs:List Hl} {Q:PR->List PyData->Prop} (hh:zA gs hs) (q:Q (.dat (.bool (nW gs hs))) []):WF bJ [.list (gs.map Rg.enc),.list (hs.map enH)] Q:=by
 refine b4 rfl ?_;unfold cb;walk_at "pp";refine ab (is:=[]) rfl rfl (a8 ⟨rfl,?_⟩);walk_at "pp";refine ab (is:=[]) rfl rfl (ll hh ⟨rfl,?_⟩);walk_at "pp";refine AJ rfl hh.nd (by have:=hh.len;omega) ?_;walk_at "n";walk_at "pp";refine .inl ⟨_,rfl,?_⟩;rw [u6];refine aZ hs (fun h=>.str h.1) (fun h=>.bool (match gs.find? (onN h.1) with | some g=>shB hs g | none=>false)) (fun x hx=>?_) ?_
 ·obtain ⟨⟨g,hg⟩,h0⟩:=hh.at_ x hx;refine aB ?_;walk_at "pp";refine ab (is:=[]) rfl rfl (aY hg ⟨rfl,?_⟩);walk_at "pp";refine ab (is:=[]) rfl rfl (vn (b:=x.2) (by rw [fC.mp (Ko hg)];exact rY hh.nd hx) ⟨rfl,?_⟩);walk_at "pp";rw [hg];exact ⟨rfl,rfl⟩
 ·walk_at "n";walk_at "pp";refine fm (xs:=hs) (b:=fun h=>match gs.find? (onN h.1) with | some g=>shB hs g | none=>false) rfl ?_;walk_at "pp";exact q
noncomputable def tuR (gs os:List Rg) (rel:List Pr2) (hol:List Str) (p:Pr2):Bool:=match os.find? (onN p.2) with | some og=>yM gs og rel hol p.1 | none=>false
theorem uq:∀ (rel acc:List Pr2),(rel.foldl adP acc).length<=acc.length+rel.length
 | [],acc=>Ia _
 | p :: rel,acc=>by
  rw [J6];have h:=uq rel (adP acc p);have:(adP acc p).length<=acc.length+1:=by
   unfold adP;split
   ·omega
   ·rw [HY];exact Ia _
  rw [Ik];omega
structure xn (gs os:List Rg) (rel:List Pr2):Prop where
 at_:∀ p∈rel,Has gs p.1/\∃ og,os.find? (onN p.2)=some og
 len:rel.length<=900
theorem pR (rel:List Pr2):∀ d∈rel.map enP,noD d=true/\d.depth<=20:=fun d h=>by
 obtain ⟨p,_,rfl⟩:=Ij.mp h;exact ⟨rfl,by simp [enP,PyData.depth,PyData.depthAll]⟩
section
variable {gs os:List Rg} {hs:List Hl} {rel:List Pr2} {Q:PR->List PyData->Prop}
theorem jI:hs.map (fun h=>PyData.str h.1)=(hs.map (·.1)).map .str:=by rw [IW];rfl
theorem gK {p:Pr2} {ns ms:List Str} (hn:p.1∈ns) (hm:p.2∈ms) (q:Q (.dat (.bool true)) []):WF bj [enP p,.list (ns.map .str),.list (ms.map .str)] Q:=by
 refine b4 rfl ?_;unfold bg;walk_at "pp";refine pS rfl rfl (aw _) (iQ hn) ?_;walk_at "pp";refine pS rfl rfl (aw _) (iQ hm) ?_;walk_at "pp";exact q
theorem c0 (hgl:gs.length<=900) (hh:zA gs hs) (hr:xn gs os rel) (q:Q (.dat (.bool (nW gs hs&&rel.all (tuR gs os rel (hs.map (·.1)))))) []):WF aq [.list (gs.map Rg.enc),.list (os.map Rg.enc),.list (rel.map enP),.list (hs.map enH)] Q:=by
 refine b4 rfl ?_;unfold bh;walk_at "pp";refine ab (is:=[]) rfl rfl (a8 ⟨rfl,?_⟩);walk_at "pp";refine b0 (ys:=[.str ""]) rfl (by rw [HS,HS];show _<=2 ^ 24;simp only [Ik,IP];omega) ?_;obtain ⟨ns,en⟩:∃ ns:List Str,ns=gs.map (·.n)++[("" : Str)]:=⟨_,rfl⟩;have e0:(gs.map (·.n)).map PyData.str++[PyData.str ""]=ns.map .str:=by rw [en,Ig];rfl
 rw [e0];walk_at "n";walk_at "pp";refine ab (is:=[]) rfl rfl (a8 ⟨rfl,?_⟩);walk_at "n";walk_at "pp";refine bI rfl (aZ rel enP (fun _=>.bool true) (fun x hx=>?_) ?_)
 ·obtain ⟨h1,og,h2⟩:=hr.at_ x hx;refine aB ?_;walk_at "pp"
  refine ab (is:=[]) rfl rfl (gK (by
   rw [en];rcases h1 with e | ⟨g,hg⟩
   ·rw [e];simp
   ·exact IM _ (b5 hg)) (b5 h2) ⟨rfl,?_⟩)
  walk_at "pp";exact ⟨rfl,rfl⟩
 ·walk_at "pp";refine fm (xs:=rel) (b:=fun _=>true) rfl ?_;rw [show (rel.all fun _=>true)=true by simp];walk_at "pp";refine ab (is:=[]) rfl rfl (jV hh ⟨rfl,?_⟩);walk_at "pp";refine a9 (fun c=>?_) fun c=>?_
  ·rw [show nW gs hs=false from nt c] at q;walk_at "pp";exact q
  ·rw [show nW gs hs=true from nf c] at q;walk_at "p";walk_at "n";walk_at "pp";refine bI rfl (aZ hs enH (fun h=>.str h.1) (fun x hx=>?_) ?_)
   ·refine aB ?_;walk_at "pp";exact ⟨rfl,rfl⟩
   ·rw [jI];walk_at "pp";refine bI rfl (bL (fun i e=>j0 [some (.dat (.list (gs.map Rg.enc))),some (.dat (.list (os.map Rg.enc))),some (.dat (.list (rel.map enP))),some (.dat (.list (hs.map enH))),some (.dat (.list (ns.map .str))),some (.dat (.list ((os.map (·.n)).map .str))),some (.dat (.list ((hs.map (·.1)).map .str))),some (.own (.dict ((onP (rel.take i)).map kvP))),none] e) (by walk_at "L") ?_ ?_)
    ·rintro i d e hd _;walk_at "l";rw [H9] at hd;obtain ⟨x,hx,rfl⟩:=Ic.mp hd;walk_at "f";walk_at "pp";have e1:onP (rel.take (i+1))=adP (onP (rel.take i)) x:=by unfold onP;rw [<- J8 hx,List.foldl_append];rfl
     refine xf rfl rfl rfl (by rw [HS];have:=uq (rel.take i) [];have:=hr.len;rw [IE] at *;show _ < 2 ^ 24;unfold onP;simp only [IP] at *;omega) ?_;rw [show putD ((onP (rel.take i)).map kvP) (enP x) (Cst.b true).d=(onP (rel.take (i+1))).map kvP from by rw [e1];exact yY _ _];walk_at "L"
    ·rintro e _;walk_at "l";rw [HS,Jj];walk_at "n";walk_at "pp";refine .inr ⟨_,_,rfl,rfl,?_⟩;rw [show ((onP rel).map kvP).map (·.1)=(onP rel).map enP by rw [IW];rfl];refine aZ (onP rel) enP (fun p=>.bool (tuR gs os rel (hs.map (·.1)) p)) (fun x hx=>?_) ?_
     ·obtain ⟨h1,og,h2⟩:=hr.at_ x (lz.mp hx);refine tj rfl ?_;walk_at "pp";refine ab (is:=[]) rfl rfl (aY h2 ⟨rfl,?_⟩);walk_at "pp";refine ab (is:=[]) rfl rfl (k6 h1 ⟨rfl,?_⟩);walk_at "pp";rw [show tuR gs os rel (hs.map (·.1)) x=yM gs og rel (hs.map (·.1)) x.1 by unfold tuR;rw [h2]];exact ⟨rfl,rfl⟩
     ·walk_at "pp";refine fm (xs:=onP rel) (b:=tuR gs os rel (hs.map (·.1))) rfl ?_
      rw [show (onP rel).all (tuR gs os rel (hs.map (·.1)))=rel.all (tuR gs os rel (hs.map (·.1))) by
       rw [Jw,Je,Je]
       exact ⟨fun z x hx=>z x (lz.mpr hx),fun z x hx=>z x (lz.mp hx)⟩]
      walk_at "pp";exact q
end
theorem wY {α:Type} {p q:α->Bool} (h:∀ x,q x=true->p x=true):∀ xs:List α,(xs.filter q).length<=(xs.filter p).length
 | []=>Ia _
 | x :: xs=>by
  have ih:=wY h xs;rw [List.filter_cons,List.filter_cons];cases e:q x with
  | true=>rw [h x e];exact Nat.succ_le_succ ih
  | false =>
   cases p x with
   | true=>exact Nat.le_succ_of_le ih
   | false=>exact ih
theorem v8 {α:Type} {p q:α->Bool} (h:∀ x,q x=true->p x=true) {y:α} (h1:p y=true) (h2:q y=false):∀ {xs:List α},y∈xs->(xs.filter q).length < (xs.filter p).length
 | x :: xs,hy=>by
  rw [List.filter_cons,List.filter_cons];rcases Il.mp hy with rfl | hy
  ·rw [h1,h2];exact Nat.lt_succ_of_le (wY h xs)
  ·have ih:=v8 h h1 h2 hy;cases e:q x with
   | true=>rw [h x e];exact Nat.succ_lt_succ ih
   | false =>
    cases p x with
    | true=>exact Jx ih
    | false=>exact ih
theorem pK {f:List Hl} {n:Str} {a:Int} (h:gt f n=some a):(n,a)∈f:=by
 unfold gt at h;obtain ⟨x,hx,rfl⟩:=Ic.mp h;have h0:decide (x.1=n)=true:=Ko (p:=fun h:Hl=>decide (h.1=n)) hx;rw [<- Jd h0];exact Jg hx
theorem yV {f:List Hl} {n:Str} (h:gt f n=none):n ∉ f.map (·.1):=fun z=>by
 obtain ⟨x,hx,rfl⟩:=Ij.mp z;unfold gt at h;rw [KG,List.find?_eq_none] at h;exact h x hx (Jr rfl)
theorem zr {gs:List Rg} (nd:(gs.map (·.n)).Nodup) {g:Rg} (h:g∈gs):gs.find? (onN g.n)=some g:=by
 induction gs with
 | nil=>cases h
 | cons y gs ih =>
  rw [List.map_cons,IY] at nd;rw [J7];rcases Il.mp h with rfl | h
  ·rw [fC.mpr rfl]
  ·cases e:onN g.n y with
   | true=>exact absurd (Ij.mpr ⟨g,h,(fC.mp e).symm⟩) nd.1
   | false=>exact ih nd.2 h
structure FOk (gs:List Rg) (f:List Hl) (N:Int):Prop where
 nd:(f.map (·.1)).Nodup
 n0:0<=N
 at_:∀ h∈f,1<=h.2/\h.2<=N/\∃ g,gs.find? (onN h.1)=some g/\∃ r∈ndd g,pU g r.b=true\/∃ a,(r.nm,a)∈f/\a < h.2
noncomputable def wn (f:List Hl) (g:Rg) (r:Rw):Bool:=(gt f r.nm).isSome||pU g r.b
noncomputable def nw (f:List Hl) (g:Rg):Bool:=(gt f g.n).isNone&&(ndd g).any (wn f g)
noncomputable def lft (gs:List Rg) (f:List Hl):Nat:=(gs.filter fun g=>(gt f g.n).isNone).length
theorem Cj {f e:List Hl} {n:Str} {a:Int} (h:gt f n=some a):gt (f++e) n=some a:=by
 unfold gt at *;obtain ⟨x,hx,rfl⟩:=Ic.mp h;rw [List.find?_append,hx];rfl
section
variable {gs:List Rg} {f:List Hl} {N:Int}
theorem yX (nd:(gs.map (·.n)).Nodup) (F:FOk gs f N):((f++(gs.filter (nw f)).map fun g=>(g.n,N+1)).map (·.1)).Nodup:=by
 rw [Ig,Jy,IW];refine ⟨F.nd,nd.sublist (List.filter_sublist.map _),fun a ha b hb e=>?_⟩;obtain ⟨g,hg,rfl⟩:=Ij.mp hb;have:=(Jm.mp hg).2;unfold nw at this;rw [ID] at this;have e:a=g.n:=e;subst e;exact yV (Option.isNone_iff_eq_none.mp this.1) ha
theorem FJ (nd:(gs.map (·.n)).Nodup) (F:FOk gs f N):FOk gs (f++(gs.filter (nw f)).map fun g=>(g.n,N+1)) (N+1) where
 nd:=yX nd F
 n0:=by have:=F.n0;omega
 at_:=fun h hm=>by
  rcases IK.mp hm with hm | hm
  ·obtain ⟨a,b,g,hg,r,hr,z⟩:=F.at_ h hm;exact ⟨a,by omega,g,hg,r,hr,z.imp id fun ⟨x,y,z⟩=>⟨x,IM _ y,z⟩⟩
  ·obtain ⟨g,hg,rfl⟩:=Ij.mp hm;obtain ⟨h1,h2⟩:=Jm.mp hg;have:=F.n0;unfold nw at h2;rw [ID,Jb] at h2;obtain ⟨_,r,hr,hw⟩:=h2;refine ⟨by show 1<=N+1;omega,Int.le_refl _,g,zr nd h1,r,hr,?_⟩;unfold wn at hw;rw [Kq] at hw;rcases hw with hw | hw
   ·obtain ⟨a,ha⟩:=KA.mp hw;exact .inr ⟨a,IM _ (pK ha),by have:=(F.at_ _ (pK ha)).2.1;show a < N+1;have:a<=N:=this;omega⟩
   ·exact .inl hw
theorem FO (nd:(gs.map (·.n)).Nodup) (F:FOk gs f N) {g:Rg} (h:g∈gs.filter (nw f)):lft gs (f++(gs.filter (nw f)).map fun g=>(g.n,N+1)) < lft gs f:=by
 have h0:=(Jm.mp h).2;unfold nw at h0;rw [ID] at h0;refine v8 (y:=g) (fun x hx=>?_) h0.1 ?_ (Jm.mp h).1
 ·cases e:gt f x.n with
  | none=>rfl
  | some a=>rw [Cj e] at hx;cases hx
 ·rw [rY (yX nd F) (Ir _ (Ij.mpr ⟨g,h,rfl⟩):((g.n,N+1):Hl)∈_)];rfl
noncomputable def told (gs:List Rg) (f:List Hl):List Hl:=(gs.filter fun g=>(gt f g.n).isSome).map fun g=>(g.n,(gt f g.n).getD 0)
theorem rz {h:Hl} (hm:h∈told gs f):gt f h.1=some h.2:=by
 obtain ⟨g,hg,rfl⟩:=Ij.mp hm;obtain ⟨a,ha⟩:=KA.mp (Jm.mp hg).2;show gt f g.n=some ((gt f g.n).getD 0);rw [ha];rfl
theorem yr (nd:(gs.map (·.n)).Nodup) (hl:gs.length<=900) (F:FOk gs f N):zA gs (told gs f)/\nW gs (told gs f)=true:=by
 have ndt:((told gs f).map (·.1)).Nodup:=by
  unfold told;rw [IW];exact nd.sublist (List.filter_sublist.map _)
 refine ⟨⟨ndt,fun h hm=>?_,?_⟩,?_⟩
 ·obtain ⟨a,b,g,hg,_⟩:=F.at_ _ (pK (rz hm));exact ⟨⟨g,hg⟩,by have:1<=h.2:=a;omega⟩
 ·unfold told;rw [HS];exact Iy (JR _ _) hl
 ·unfold nW;rw [Je];intro h hm;obtain ⟨_,_,g,hg,r,hr,z⟩:=F.at_ _ (pK (rz hm));rw [hg];show (ndd g).any (shP (told gs f) g)=true;rw [Jb];refine ⟨r,hr,?_⟩;unfold shP;rcases z with z | ⟨a,ha,hlt⟩
  ·rw [z];rfl
  ·have hgf:=rY F.nd ha;obtain ⟨_,_,g2,hg2,_⟩:=F.at_ _ ha;have mem2:((r.nm,a):Hl)∈told gs f:=by
    have e:=fC.mp (Ko hg2);refine Ij.mpr ⟨g2,Jm.mpr ⟨Jg hg2,by rw [e,hgf];rfl⟩,?_⟩;show (g2.n,(gt f g2.n).getD 0)=(r.nm,a);rw [e,hgf];rfl
   have e1:=rY ndt mem2;have e2:=rY ndt hm;rw [fC.mp (Ko hg),e2,e1,Kq];exact .inr (Jr hlt)
end
theorem oR:∀ {a b:List Str},a.Nodup->(∀ x∈a,x∈b)->a.length<=b.length
 | [],_,_,_=>IV _
 | x :: a,b,nd,h=>by
  rw [IY] at nd;have:=oR (b:=b.erase x) nd.2 fun y hy=>(List.mem_erase_of_ne (fun e:y=x=>nd.1 (by rw [<- e];exact hy))).mpr (h y (Ie _ hy));rw [List.length_erase_of_mem (h x Ip)] at this;have:=List.length_pos_of_mem (h x Ip);rw [Ik];omega
theorem He {gs:List Rg} {f:List Hl} {N:Int} (F:FOk gs f N):f.length<=gs.length:=by
 have:=oR (b:=gs.map (·.n)) F.nd fun x hx=>by
  obtain ⟨h,hm,rfl⟩:=Ij.mp hx;obtain ⟨_,_,g,hg,_⟩:=F.at_ h hm;exact b5 hg
 rwa [HS,HS] at this
theorem q4 {gs:List Rg} {Q:PR->List PyData->Prop} (nd:(gs.map (·.n)).Nodup) (hl:gs.length<=8) (q:∀ hs,zA gs hs->nW gs hs=true->Q (.frs (.list (hs.map enH))) []):WF jf [.list (gs.map Rg.enc)] Q:=by
 refine b4 rfl ?_;unfold m3;walk_at "pp"
 refine Ga (fun k e=>∃ (f:List Hl) (N:Int) (mo:List Str),FOk gs f N/\lft gs f+(if mo.isEmpty=true then 0 else 1)<=k/\j0 [some (.dat (.list (gs.map Rg.enc))),some (.own (.dict (f.map kvH))),some (.dat (.int N)),some (.own (.list (mo.map .str))),none,none,none] e) 9 (by decide) ⟨[],0,[""],⟨Ku,Int.le_refl _,fun h hm=>by cases hm⟩,by
  have:lft gs []<=gs.length:=JR _ _;show lft gs []+1<=9
  omega,by walk_at "L"⟩ ?_
 rintro k e hk ⟨f,N,mo,F,hm,_⟩;walk_at "l";walk_at "pp";refine qm rfl (ml _) ?_;rw [eV];walk_at "pp";refine a9 (fun c=>?_) fun c=>?_
 ·rw [nt c] at hm;walk_at "pp";walk_at "n";refine bI rfl (bL (fun i e=>j0 [some (.dat (.list (gs.map Rg.enc))),some (.own (.dict (f.map kvH))),some (.dat (.int (N+1))),some (.own (.list ((((gs.take i).filter (nw f)).map (·.n)).map .str))),none,none,none] e) (by walk_at "L") ?_ ?_)
  ·rintro i d e hd _;walk_at "l";rw [H9] at hd;obtain ⟨g,hg,rfl⟩:=Ic.mp hd;have lt8:(((gs.take i).filter (nw f)).map (·.n)).length<=8:=by
    rw [HS];exact Iy (JR _ _) (Iy (by rw [IE];omega) hl)
   have yes:nw f g=true->(((gs.take (i+1)).filter (nw f)).map (·.n)).map PyData.str=(((gs.take i).filter (nw f)).map (·.n)).map .str++[.str g.n]:=fun z=>by
    rw [<- J8 hg,List.filter_append,Ig,Ig];simp [z]
   have no:nw f g=false->((gs.take (i+1)).filter (nw f)).map (·.n)=((gs.take i).filter (nw f)).map (·.n):=fun z=>by
    rw [<- J8 hg,List.filter_append,Ig];simp [z]
   walk_at "f";walk_at "pp";refine bF g.rows Rw.enc (fun r=>decide (r.lo > 0)) Rw.enc (fun x hx=>?_) ?_
   ·walk_at "fl"
   ·rw [show (g.rows.filter fun r=>decide (r.lo > 0))=ndd g from rfl];walk_at "pp";refine bI rfl (bF (ndd g) Rw.enc (wn f g) Rw.enc (fun r hr=>?_) ?_)
    ·refine aB ?_;walk_at "pp";rw [eH];unfold wn;cases ha:gt f r.nm with
     | some a =>
      walk_at "pp";exact ⟨rfl,rfl⟩
     | none =>
      walk_at "pp";refine ab (is:=[]) rfl rfl (l9 ⟨rfl,?_⟩);walk_at "pp";refine a9 (fun c9=>?_) fun c9=>?_
      ·walk_at "pp";exact ⟨ifT c9,rfl⟩
      ·exact ⟨ifF c9,rfl⟩
    ·walk_at "pp";rw [eH];cases ha:gt f g.n with
     | some a =>
      walk_at "pp";rw [no (by unfold nw;rw [ha];rfl)];walk_at "L"
     | none =>
      walk_at "pp";refine qm rfl (rw_flat _) ?_;rw [eV];have en:nw f g=!((ndd g).filter (wn f g)).isEmpty:=by
       unfold nw;rw [ha];show (ndd g).any (wn f g)=_;rw [Jw,Jb,Bool.not_eq_true',Bool.eq_false_iff,ne_eq,List.isEmpty_iff,KI];exact ⟨fun ⟨r,h1,h2⟩ z=>z r h1 h2,fun z=>Kv fun y=>z fun r h1 h2=>y ⟨r,h1,h2⟩⟩
      walk_at "pp";refine a9 (fun c2=>?_) fun c2=>?_
      ·walk_at "pp";refine uv rfl (by rw [HS];show _ < 2 ^ 24;omega) rfl ?_;rw [yes (en.trans c2)];walk_at "L"
      ·walk_at "pp";rw [no (en.trans c2)];walk_at "L"
  ·rintro e _;walk_at "l";rw [HS,Jj];walk_at "pp";walk_at "n";have fl:=He F;generalize eL:gs.filter (nw f)=L;have ndL:((f++L.map fun g=>(g.n,N+1)).map (·.1)).Nodup:=by rw [<- eL];exact yX nd F
   have lL:L.length<=8:=by rw [<- eL];exact Iy (JR _ _) hl
   refine CQ rfl rfl (bL (fun i e=>j0 [some (.dat (.list (gs.map Rg.enc))),some (.own (.dict ((f++(L.take i).map fun g=>(g.n,N+1)).map kvH))),some (.dat (.int (N+1))),some (.ro (.list ((L.map (·.n)).map .str))),none,none,none] e) (by rw [List.take_zero,List.map_nil,Jn];walk_at "L") ?_ ?_)
   ·rintro i d e hd _;walk_at "l";rw [H9,H9] at hd;obtain ⟨x,hx,rfl⟩:=Ic.mp hd;obtain ⟨g,hg,rfl⟩:=Ic.mp hx;walk_at "f";walk_at "pp";refine xf rfl rfl rfl (by rw [HS,HY,HS,IE];show _ < 2 ^ 24;omega) ?_
    rw [show putD ((f++(L.take i).map fun g=>(g.n,N+1)).map kvH) (.str g.n) (.int (N+1))=(f++(L.take (i+1)).map fun g=>(g.n,N+1)).map kvH from by
     have e3:(f++(L.take (i+1)).map fun g=>((g.n,N+1):Hl))=(f++(L.take i).map fun g=>(g.n,N+1))++[(g.n,N+1)]:=by rw [<- J8 hg,Ig,JB];rfl
     rw [e3];refine yT (h:=(g.n,N+1)) fun z=>?_;have nd2:((f++(L.take (i+1)).map fun g=>(g.n,N+1)).map (·.1)).Nodup:=ndL.sublist (((List.Sublist.refl f).append ((List.take_sublist _ _).map _)).map _);rw [e3,Ig,Jy] at nd2
     exact nd2.2.2 _ z _ (by simp) rfl]
    walk_at "L"
   ·rintro e _;walk_at "l";rw [HS,HS,Jj];refine ⟨lft gs (f++L.map fun g=>(g.n,N+1))+(if (L.map (·.n)).isEmpty=true then 0 else 1),?_,f++L.map fun g=>(g.n,N+1),N+1,L.map (·.n),by rw [<- eL];exact FJ nd F,Ia _,by walk_at "L"⟩;have hm:lft gs f+1<=k:=hm;cases L with
    | nil =>
     rw [List.map_nil,Jn];exact hm
    | cons g L =>
     have:=FO nd F (g:=g) (by rw [eL];exact Ip);rw [eL] at this;show _+1 < k;omega
 ·walk_at "pp";have tl:=yr nd (by omega) F;refine bI rfl (bF gs Rg.enc (fun g=>(gt f g.n).isSome) (fun g=>enH (g.n,(gt f g.n).getD 0)) (fun x hx=>?_) ?_)
  ·refine aB ?_;walk_at "pp";rw [eH];cases ha:gt f x.n with
   | none=>exact ⟨rfl,rfl⟩
   | some a =>
    walk_at "pp";refine l4 rfl rfl (by rw [eH,ha];rfl) ?_;walk_at "pp";exact ⟨rfl,rfl⟩
  ·walk_at "pp";have:=q _ tl.1 tl.2;unfold told at this;rw [IW] at this;exact this
theorem oH (a b:Int):PyData.eqv (.int a) (.int b)=decide (a=b):=by simp only [PyData.eqv];rfl
noncomputable def gu (ns:List Str) (os:List Rg):List Pr2:=ns.flatMap fun n=>os.map fun o=>(n,o.n)
theorem i8 (os:List Rg):∀ ns:List Str,(gu ns os).length=ns.length*os.length
 | []=>by simp [gu]
 | n :: ns=>by
  have:=i8 os ns;unfold gu at *;rw [List.flatMap_cons,HY,this,HS,Ik,Nat.succ_mul,Nat.add_comm]
theorem sY {ns:List Str} {os:List Rg} {i:Nat} {n:Str} (h:ns[i]?=some n):gu (ns.take (i+1)) os=gu (ns.take i) os++os.map fun o=>(n,o.n):=by
 unfold gu;rw [<- J8 h,List.flatMap_append,List.flatMap_cons,List.flatMap_nil,Jn]
theorem oT {os:List Rg} {o:Rg} (h:o∈os):∃ og,os.find? (onN o.n)=some og:=by
 cases e:os.find? (onN o.n) with
 | some og=>exact ⟨og,rfl⟩
 | none=>exact absurd (fC.mpr rfl) (List.find?_eq_none.mp e o h)
theorem yb {gs os:List Rg} (h1:gs.length<=8) (h2:os.length<=8):xn gs os (gu (("" : Str) :: gs.map (·.n)) os) where
 at_:=fun p hp=>by
  unfold gu at hp;obtain ⟨n,hn,hp⟩:=List.mem_flatMap.mp hp;obtain ⟨o,ho,rfl⟩:=Ij.mp hp;refine ⟨?_,oT ho⟩;rcases Il.mp hn with rfl | hn
  ·exact .inl rfl
  ·obtain ⟨g,hg,rfl⟩:=Ij.mp hn;exact .inr (oT hg)
 len:=by
  rw [i8,Ik,HS];exact Iy (Nat.mul_le_mul (Nat.succ_le_succ h1) h2) (by decide)
theorem xn.sub {gs os:List Rg} {rel rel':List Pr2} (h:xn gs os rel) (hs:∀ p∈rel',p∈rel) (hl:rel'.length<=900):xn gs os rel':=⟨fun p hp=>h.at_ p (hs p hp),hl⟩
theorem oq {gs os:List Rg} {hol:List Str} {Q:PR->List PyData->Prop} (hk:∀ g∈gs,g.ok) (h1:gs.length<=8) (h2:os.length<=8) (q:∀ rel,xn gs os rel->rel.length<=72->rel.all (tuR gs os rel hol)=true->Q (.dat (.list (rel.map enP))) []) :
  WF fP [.list (gs.map Rg.enc),.list (os.map Rg.enc),.list (hol.map .str)] Q:=by
 refine b4 rfl ?_;unfold jN;walk_at "pp";refine bI rfl (aZ gs Rg.enc (fun g=>.str g.n) (fun x hx=>?_) ?_)
 ·refine aB ?_;walk_at "pp";exact ⟨rfl,rfl⟩
 ·walk_at "pp";refine b0 (xs:=[.str ""]) rfl (by rw [HS];show _<=2 ^ 24;simp only [Ik,IP];omega) ?_;obtain ⟨ns,en⟩:∃ ns:List Str,ns=(("" : Str) :: gs.map (·.n)):=⟨_,rfl⟩;have e0:[PyData.str ""]++gs.map (fun g=>PyData.str g.n)=ns.map .str:=by rw [en,List.map_cons,IW];rfl
  have ln:ns.length<=9:=by rw [en,Ik,HS];omega
  have F:=yb (gs:=gs) (os:=os) h1 h2;rw [<- en] at F;have fl:=i8 os ns;have fl2:(gu ns os).length<=72:=by rw [fl];exact Nat.mul_le_mul ln h2
  rw [e0];walk_at "n";refine bI rfl (bL (fun i e=>j0 [some (.dat (.list (gs.map Rg.enc))),some (.dat (.list (os.map Rg.enc))),some (.dat (.list (hol.map .str))),some (.dat (.list ((gu (ns.take i) os).map enP))),none,none] e) (by walk_at "L") ?_ ?_)
  ·rintro i d e hd _;walk_at "l";rw [H9] at hd;obtain ⟨n,hn,rfl⟩:=Ic.mp hd;have ft:(gu (ns.take i) os).length<=72:=by
    rw [i8,IE];exact Iy (Nat.mul_le_mul (Nat.min_le_right _ _) (Ia _)) (Iy (Nat.mul_le_mul ln h2) (Ia _))
   walk_at "f";walk_at "pp";refine bI rfl (aZ os Rg.enc (fun o=>enP (n,o.n)) (fun x hx=>?_) ?_)
   ·refine aB ?_;walk_at "pp";exact ⟨rfl,rfl⟩
   ·walk_at "pp";refine b0 rfl (by rw [HS,HS];show _<=2 ^ 24;omega) ?_;rw [show (gu (ns.take i) os).map enP++os.map (fun o=>enP (n,o.n))=(gu (ns.take (i+1)) os).map enP by rw [sY hn,Ig,IW];rfl];walk_at "pp";walk_at "L"
  ·rintro e _;walk_at "l";rw [HS,Jj];walk_at "pp";walk_at "n"
   refine Ga (fun k e=>∃ (rel:List Pr2) (sz:Nat),xn gs os rel/\rel.length<=72/\(sz=rel.length->rel.all (tuR gs os rel hol)=true)/\rel.length+(if sz=rel.length then 0 else 1)<=k/\j0 [some (.dat (.list (gs.map Rg.enc))),some (.dat (.list (os.map Rg.enc))),some (.dat (.list (hol.map .str))),some (.dat (.list (rel.map enP))),none,some (.dat (.int sz))] e) 73 (by decide) ⟨gu ns os,0,F,fl2,fun z=>by
     rw [List.eq_nil_of_length_eq_zero z.symm];rfl,by split <;> omega,by walk_at "L"⟩ ?_
   rintro k e hk' ⟨rel,sz,R,hl,hz,hm,_⟩;walk_at "l";walk_at "pp";refine a9 (fun c=>?_) fun c=>?_
   ·have c:=nt c;have c:PyData.eqv (.int (sz:Int)) (.int ((rel.map enP).length:Int))=false:=c;rw [HS,oH] at c;have ne:sz≠rel.length:=fun z=>of_decide_eq_false c (by rw [z]);rw [Iv ne] at hm;walk_at "pp";refine bI rfl (bF rel enP (tuR gs os rel hol) enP (fun x hx=>?_) ?_)
    ·obtain ⟨h3,og,h4⟩:=R.at_ x hx;refine aB ?_;walk_at "pp";refine ab (is:=[]) rfl rfl (m6 h3 hk h4 ⟨rfl,?_⟩);walk_at "pp";rw [show tuR gs os rel hol x=yM gs og rel hol x.1 by unfold tuR;rw [h4]];refine a9 (fun c9=>?_) fun c9=>?_
     ·walk_at "pp";exact ⟨ifT c9,rfl⟩
     ·exact ⟨ifF c9,rfl⟩
    ·walk_at "pp";have le:=JR (tuR gs os rel hol) rel;refine ⟨(rel.filter (tuR gs os rel hol)).length+(if (rel.map enP).length=(rel.filter (tuR gs os rel hol)).length then 0 else 1),?_,rel.filter (tuR gs os rel hol),(rel.map enP).length,R.sub (fun p hp=>(Jm.mp hp).1) (by omega),by omega,fun z=>?_,Ia _,by walk_at "L"⟩
     ·rw [HS];split <;> omega
     ·rw [HS] at z;have al:=List.length_filter_eq_length_iff.mp z.symm;rw [List.filter_eq_self.mpr al,Je];exact al
   ·have c:=nf c;have c:PyData.eqv (.int (sz:Int)) (.int ((rel.map enP).length:Int))=true:=c;rw [HS,oH] at c;have eq:sz=rel.length:=by have:=Jd c;omega
    walk_at "pp";exact q rel R hl (hz eq)
theorem kn:∀ (is:List Int),intsOf (is.map .int)=some is
 | []=>rfl
 | i :: is=>by
  show (match intsOf (is.map .int) with | some is=>some (i :: is) | none=>none)=_;rw [kn is]
theorem wZ (bt:Nat->Nat->Bool):∀ k,argBest bt k<=k
 | 0=>Ia _
 | k+1=>by
  unfold argBest;have:=wZ bt k;split <;> omega
theorem wF {e:En} {x:AV} {ns:List Int} {Q:RV->En->Prop} (h1:aF e [x]=some [.list (ns.map .int)]) (h:0 < ns.length) (q:∀ m,Q (.dat (.int m)) e):WPr yp [x] e Q:=by
 have lt:mn ns < ns.length:=by unfold mn;have:=wZ (fun i j=>decide (ns.getD i 0 < ns.getD j 0)) (ns.length - 1);omega
 refine ⟨_,.dat (.int ns[mn ns]),h1,?_,q _⟩;show (match intsOf (ns.map .int) with | some ns=>(ns[mn ns]?).map fun m=>PR.dat (.int m) | none=>none)=_;rw [kn];show (ns[mn ns]?).map _=_;rw [HZ lt];rfl
theorem qD {cs:List Int} {B:Nat} {pn:PyData} {g:Rg} {cm:List (PyData×PyData)} {ns bs:List Str} {Q:PR->List PyData->Prop} (hP:aU cs B pn) (hb:B < 2 ^ 57) (hg:g.ok) (hn:g.n∈ns) (hr:∀ r∈g.rows,r.nm∈ns) (hbl:bs.length<=8)
  (hcm:∀ x∈ns,∃ y,L2.getD cm (.str x)=some (.str y)/\Nm y) (q:∀ (g':Rg) pn',aU cs (B+60) pn'->g'.ok->Nm g'.n->Q (.dat g'.enc) [pn']):WF gY [pn,g.enc,.dict cm,.list (bs.map .str)] Q:=by
 refine b4 rfl ?_;unfold kj;obtain ⟨gn,gk,gr,gc⟩:=g;obtain ⟨hk,h3⟩:=hg;walk_at "pp";refine bL (fun i e=>∃ (rs:List Rw) (pn':PyData),rs.length<=i/\aU cs (B+i) pn'/\j0 [some (.ino pn'),some (.dat (.tuple [.str gn,.str gk,.tuple (gr.map Rw.enc),jY gc])),some (.dat (.dict cm)),some (.dat (.list (bs.map .str))),some (.dat (.str gn)),some (.dat (.str gk)),some (.dat (.tuple (gr.map Rw.enc))),some (.dat (jY gc)),some (.own (.list (rs.map Rw.enc))),none,none,none,none,none] e) ⟨[],pn,Ia _,hP,by walk_at "L"⟩ ?_ ?_
 ·rintro i d e hd ⟨rs,pn',hl,hP',_⟩;walk_at "l";rw [H9] at hd;obtain ⟨⟨b,lo,hi,nm⟩,hx,rfl⟩:=Ic.mp hd;have hi3:i < gr.length:=(HX.mp hx).1;have hi3:i < 3:=Iu hi3 h3;have hnm:nm∈ns:=hr _ (Iz hx);walk_at "fT";walk_at "d";intro w pn1 hP1 w0 w1;walk_at "n";walk_at "q";with_reducible refine dW fun N eN=>?_
  have r1:∀ lo:Int,N ([.ino pn1,.dat (.tuple [.str gn,.str gk,.tuple (gr.map Rw.enc),jY gc]),.dat (.dict cm),.dat (.list (bs.map .str)),.dat (.str gn),.dat (.str gk),.dat (.tuple (gr.map Rw.enc)),.dat (jY gc),.own (.list (rs.map Rw.enc)),.dat (.str b),.dat (.int lo),.dat (mQ hi),.dat (.str nm),.dat (.int w)]:En):=by
   intro lo;rw [eN];clear eN N;with_reducible refine dW fun N eN=>?_
   have r2:∀ lo:Int,N ([.ino pn1,.dat (.tuple [.str gn,.str gk,.tuple (gr.map Rw.enc),jY gc]),.dat (.dict cm),.dat (.list (bs.map .str)),.dat (.str gn),.dat (.str gk),.dat (.tuple (gr.map Rw.enc)),.dat (jY gc),.own (.list (rs.map Rw.enc)),.dat (.str b),.dat (.int lo),.dat (mQ hi),.dat (.str nm),.dat (.int w)]:En):=by
    intro lo;rw [eN];clear eN N;with_reducible refine dW fun N eN=>?_
    have r3:∀ hi:Option Int,N ([.ino pn1,.dat (.tuple [.str gn,.str gk,.tuple (gr.map Rw.enc),jY gc]),.dat (.dict cm),.dat (.list (bs.map .str)),.dat (.str gn),.dat (.str gk),.dat (.tuple (gr.map Rw.enc)),.dat (jY gc),.own (.list (rs.map Rw.enc)),.dat (.str b),.dat (.int lo),.dat (mQ hi),.dat (.str nm),.dat (.int w)]:En):=by
     intro hi;rw [eN];clear eN N;with_reducible refine dW fun N eN=>?_
     have r4:∀ hi:Option Int,N ([.ino pn1,.dat (.tuple [.str gn,.str gk,.tuple (gr.map Rw.enc),jY gc]),.dat (.dict cm),.dat (.list (bs.map .str)),.dat (.str gn),.dat (.str gk),.dat (.tuple (gr.map Rw.enc)),.dat (jY gc),.own (.list (rs.map Rw.enc)),.dat (.str b),.dat (.int lo),.dat (mQ hi),.dat (.str nm),.dat (.int w)]:En):=by
      intro hi;rw [eN];walk_at "pp";refine a9 (fun c=>?_) fun c=>?_
      ·walk_at "pp";obtain ⟨y,hy,_⟩:=hcm nm hnm;refine l4 rfl rfl hy ?_;walk_at "pp";refine uv rfl (by rw [HS];show _ < 2 ^ 24;omega) rfl ?_;exact ⟨rs++[⟨b,lo,hi,y⟩],pn1,by rw [HY];show _+1<=_;omega,hP1.mono (by omega),by rw [Ig];walk_at "L"⟩
      ·walk_at "pp";exact ⟨rs,pn1,by omega,hP1.mono (by omega),by walk_at "L"⟩
     walk_at "pp";refine a9 (fun c=>?_) fun c=>?_
     ·walk_at "pp";exact r4 (some lo)
     ·exact dY (r4 hi)
    walk_at "pp";refine a9 (fun c=>?_) fun c=>?_
    ·walk_at "pp";exact r3 none
    ·exact dY (r3 hi)
   walk_at "pp";refine a9 (fun c=>?_) fun c=>?_
   ·walk_at "pp";refine bI rfl (bF [hi] mQ (fun o=>o.isSome) mQ (fun x hx=>?_) ?_)
    ·refine aB ?_;cases x with
     | none=>walk_at "pp"; exact ⟨rfl,rfl⟩
     | some h=>walk_at "pp"; exact ⟨rfl,rfl⟩
    ·walk_at "pp";cases hi with
     | none =>
      refine b0 (xs:=[.int 3]) (ys:=[]) rfl (by decide) ?_;walk_at "pp";refine wF (ns:=[3,lo+1]) rfl (Nat.succ_pos _) fun m=>?_;walk_at "pp";exact r2 m
     | some h =>
      refine b0 (xs:=[.int 3]) (ys:=[.int h]) rfl (by show 1+1<=2 ^ 24;decide) ?_;walk_at "pp";refine wF (ns:=[3,h,lo+1]) rfl (Nat.succ_pos _) fun m=>?_;walk_at "pp";exact r2 m
   ·exact dY (r2 lo)
  walk_at "pp";refine a9 (fun c=>?_) fun c=>?_
  ·walk_at "pp";exact r1 _
  ·exact dY (r1 lo)
 ·rintro e ⟨rs,pn',hl,hP',_⟩;walk_at "l";rw [HS] at hl hP';rename_i s1 a1 s2 a2 s3 a3 s4 a4 s5 a5;walk_at "n";with_reducible refine dW fun N eN=>?_
  have r5:∀ (k:Str) (pn2:PyData),ng k->aU cs (B+10) pn2->N ([.ino pn2,.dat (.tuple [.str gn,.str gk,.tuple (gr.map Rw.enc),jY gc]),.dat (.dict cm),.dat (.list (bs.map .str)),.dat (.str gn),.dat (.str k),.dat (.tuple (gr.map Rw.enc)),.dat (jY gc),.own (.list (rs.map Rw.enc)),s1,s2,s3,s4,s5]:En):=by
   intro k pn2 hk hP2;rw [eN];clear eN N;with_reducible refine dW fun N eN=>?_
   have r6:∀ (o:Option (List Str)) (pn3:PyData),aU cs (B+12) pn3->N ([.ino pn3,.dat (.tuple [.str gn,.str gk,.tuple (gr.map Rw.enc),jY gc]),.dat (.dict cm),.dat (.list (bs.map .str)),.dat (.str gn),.dat (.str k),.dat (.tuple (gr.map Rw.enc)),.dat (jY o),.own (.list (rs.map Rw.enc)),s1,s2,s3,s4,s5]:En):=by
    intro o pn3 hP3;rw [eN];clear eN N;with_reducible refine dW fun N eN=>?_
    have r7:∀ (o:Option (List Str)) (pn4:PyData),aU cs (B+40) pn4->N ([.ino pn4,.dat (.tuple [.str gn,.str gk,.tuple (gr.map Rw.enc),jY gc]),.dat (.dict cm),.dat (.list (bs.map .str)),.dat (.str gn),.dat (.str k),.dat (.tuple (gr.map Rw.enc)),.dat (jY o),.own (.list (rs.map Rw.enc)),s1,s2,s3,s4,s5]:En):=by
     intro o pn4 hP4;rw [eN];walk_at "pp";obtain ⟨y,hy,y0⟩:=hcm gn hn;refine l4 rfl rfl hy ?_;walk_at "pp";exact q ⟨y,k,rs,o⟩ pn4 (hP4.mono (by omega)) ⟨hk,by show rs.length<=3;have:gr.length<=3:=h3;omega⟩ y0
    cases o with
    | none =>
     walk_at "pp";exact r7 none pn3 (hP3.mono (by omega))
    | some cl =>
     walk_at "d";intro w4 pn4 hP4 w40 w41;walk_at "n";walk_at "pp";refine a9 (fun c3=>?_) (fun c3=>?_)
     ·walk_at "pp";refine bI rfl (dJ (fun j ys ec=>∃ (zs:List Str) (pn':PyData),ys=zs.map .str/\aU cs (B+13+j) pn'/\ec=[.dat (.tuple (cl.map .str)),.ino pn']) ⟨[],pn4,rfl,hP4.mono (by omega),rfl⟩ ?_ ?_)
      ·rintro j d ys ec hd ⟨zs,pn',rfl,hP',rfl⟩;rw [H9] at hd;obtain ⟨y,hy,rfl⟩:=Ic.mp hd;have hj:j < bs.length:=(HX.mp hy).1;refine aB ?_;walk_at "pp";refine CA rfl rfl (aw cl) rfl ?_;walk_at "pp";refine a9 (fun c4=>?_) (fun c4=>?_)
       ·walk_at "pp";exact ⟨zs++[y],pn',by rw [Ig];rfl,hP'.mono (by omega),rfl⟩
       ·walk_at "d";intro w5 pn5 hP5 w50 w51;walk_at "n";walk_at "pp";refine a9 (fun c5=>?_) (fun c5=>?_)
        ·walk_at "pp";exact ⟨zs++[y],pn5,by rw [Ig];rfl,hP5.mono (by omega),rfl⟩
        ·exact ⟨zs,pn5,by simp,hP5.mono (by omega),rfl⟩
      ·rintro ys ec ⟨zs,pn',rfl,hP',rfl⟩;rw [HS] at hP';walk_at "n";walk_at "pp";exact r7 (some zs) pn' (hP'.mono (by omega))
     ·exact dY (r7 (some cl) pn4 (hP4.mono (by omega)))
   walk_at "d";intro w3 pn3 hP3 w30 w31;walk_at "n";walk_at "pp";refine a9 (fun c3=>?_) (fun c3=>?_)
   ·walk_at "pp";exact r6 none pn3 (hP3.mono (by omega))
   ·exact dY (r6 gc pn3 (hP3.mono (by omega)))
  have hP':aU cs (B+3) pn':=hP'.mono (by have:gr.length<=3:=h3;omega);walk_at "d";intro w1 pn1 hP1 w10 w11;walk_at "n";walk_at "pp";refine a9 (fun c3=>?_) (fun c3=>?_)
  ·walk_at "d";intro w2 pn2 hP2 w20 w21;walk_at "n";walk_at "pp";obtain ⟨d2,hd2,ed2⟩:=atV (xs:=([.str "any", .str "thing"]:List PyData)) w20 w21;have hc:∃ z:Str,d2=.str z/\ng z:=by
    simp only [Il,IS,Jq] at hd2;rcases hd2 with rfl | rfl
    ·exact ⟨_,rfl,.inl rfl⟩
    ·exact ⟨_,rfl,.inr (.inl rfl)⟩
   obtain ⟨k,rfl,hk2⟩:=hc;refine i3 rfl ed2 ?_;walk_at "pp";exact r5 k pn2 hk2 (hP2.mono (by omega))
  ·exact dY (r5 gk pn1 hk (hP1.mono (by omega)))
noncomputable def kvS (p:Pr2):PyData×PyData:=(.str p.1,.str p.2)
theorem r9 {x:Str}:∀ {ps:List Pr2},x∈ps.map (·.1)->∃ y,L2.getD (ps.map kvS) (.str x)=some (.str y)/\y∈ps.map (·.2)
 | p :: ps,h=>by
  unfold L2.getD;rw [List.map_cons,J7,show PyData.eqv (kvS p).1 (.str x)=decide (p.1=x) from eZ];by_cases e:p.1=x
  ·rw [Jr e];exact ⟨_,rfl,Ip⟩
  ·rw [IX e];obtain ⟨y,h1,h2⟩:=r9 ((Il.mp h).resolve_left fun z=>e z.symm);exact ⟨y,h1,Ie _ h2⟩
theorem qV:∀ ps:List Pr2,kf (ps.map enP)=some (ps.map kvS)
 | []=>rfl
 | h :: hs=>by
  show (if hk6 (.str h.1)=true then (match kf (hs.map enP) with | some ps=>some ((.str h.1,.str h.2) :: ps) | none=>none) else none)=_;rw [qV hs];exact Io (show hk6 (.str h.1)=true from rfl)
theorem zm {e:En} {x:AV} {ps:List Pr2} {Q:RV->En->Prop} (h1:aF e [x]=some [.list (ps.map enP)]) (nd:(ps.map (·.1)).Nodup) (hl:ps.length<=1000) (q:Q (.frs (.dict (ps.map kvS))) e):WPr nh [x] e Q:=by
 refine ⟨_,.frs (.dict (ps.map kvS)),h1,?_,q⟩;show (match kf (ps.map enP) with | some ps=>if ps.length<=1000 then some (PR.frs (.dict (jO [] ps))) else none | none=>none)=_;rw [qV];show (if (ps.map kvS).length<=1000 then _ else _)=_;rw [Io (by rw [HS];exact hl),show jO [] (ps.map kvS)=ps.map kvS from kR (kv:=kvS) (key:=(·.1)) (fun _=>rfl) (acc:=[]) nd]
theorem tN (ss:List Str):(iT ss).length=ss.length:=(bU ss).length_eq
theorem zq (acc:List Str) (x:Str):(fk acc x).length<=acc.length+1:=by
 unfold fk;split
 ·omega
 ·rw [HY];exact Ia _
theorem fb:∀ (ss acc:List Str),(ss.foldl fk acc).length<=acc.length+ss.length
 | [],acc=>Ia _
 | x :: ss,acc=>by
  rw [J6,Ik];have:=fb ss (fk acc x);have:=zq acc x;omega
theorem gC {α:Type} {xs:List α} {k:Int} (h:0<=k):L2.cutD xs (some k) none=xs.drop k.toNat:=by
 have e1:HT.sIx xs.length 0 (some k)=min k.toNat xs.length:=by
  simp only [HT.sIx];rw [Iv (by omega)]
 have e2:HT.sIx xs.length xs.length none=xs.length:=rfl;unfold L2.cutD;rw [e1,e2,Jo (by rw [IH];omega)];rcases Nat.le_total k.toNat xs.length with z | z
 ·rw [Nat.min_eq_left z]
 ·rw [Nat.min_eq_right z,KJ (Ia _),KJ z]
theorem Ar {cs:List Int} {B:Nat} {pn:PyData} {Q:PR->List PyData->Prop} (hP:aU cs B pn) (hb:B < 2 ^ 56)
  (q:∀ (gs os:List Rg) pn',aU cs (B+5000) pn'->(gs.map (·.n)).Nodup->0 < gs.length->gs.length<=4->0 < os.length->os.length<=4->(∀ g∈gs,g.ok)->(∀ g∈gs,Nm g.n)->(∀ o∈os,Nm o.n)->Q (.frs (.list [.list (gs.map Rg.enc),.list (os.map Rg.enc)])) [pn']):WF sN [pn,.int 4] Q:=by
 refine b4 rfl ?_;unfold wJ;walk_at "pp";refine ab (is:=[0]) rfl rfl (iV hP (by omega) (by decide) (by decide) fun bs0 pn1 hP1 bl0 bnd bnm=>⟨rfl,?_⟩);walk_at "n";walk_at "p";refine Al (ss:=bs0) rfl (by omega) ?_;have bl:(iT bs0).length=4:=by rw [tN];omega
 generalize iT bs0=bs at bl;walk_at "d";intro w1 pn2 hP2 w10 w11;walk_at "n";walk_at "pp";refine ab (is:=[0]) rfl rfl (iV hP2 (by omega) (by omega) (by omega) fun ns pn3 hP3 nl nnd nnm=>⟨rfl,?_⟩);walk_at "n";walk_at "pp";refine ab (is:=[0]) rfl rfl (pP hP3 (by omega) (by omega) (by omega) (by omega) fun gs pn4 hP4 gn gok=>⟨rfl,?_⟩);have gl:gs.length=ns.length:=by rw [<- gn,HS]
 have gne:∀ g∈gs,Nm g.n:=fun g hg=>nnm _ (by rw [<- gn];exact Ij.mpr ⟨g,hg,rfl⟩);walk_at "n";walk_at "pp";refine ab (is:=[0]) rfl rfl (iV hP4 (by omega) (by rw [HS];omega) (by rw [HS];omega) fun xs pn5 hP5 xl xnd xnm=>⟨rfl,?_⟩);rw [HS] at xl;walk_at "n";walk_at "q";with_reducible refine dW fun N eN=>?_
 have rest:∀ (ys:List Str) (pn6:PyData),aU cs (B+2000) pn6->ys.length=ns.length->(∀ y∈ys,Nm y)->N ([.ino pn6,.dat (.int 4),.dat (.list (bs.map .str)),.dat (.list (ns.map .str)),.dat (.list (gs.map Rg.enc)),.dat (.list (ys.map .str)),.un,.un,.un]:En):=by
  intro ys pn6 hP6 yl yn;rw [eN];clear eN N;walk_at "d";intro w7 pn7 hP7 w70 w71;walk_at "n";walk_at "pp";refine a9 (fun c=>?_) fun c=>?_
  ·walk_at "pp";refine ab (is:=[0]) rfl rfl (iV hP7 (by omega) (by decide) (by decide) fun zs pn8 hP8 zl znd znm=>⟨rfl,?_⟩);walk_at "n";walk_at "pp";rw [gC (by decide),<-List.map_drop];refine b0 rfl (by rw [HS,HS,IH];show _<=2 ^ 24;omega) ?_;rw [<- Ig];walk_at "p";have l5:(bs.drop (Int.toNat 1)++zs).length<=8:=by rw [HY,IH];omega
   refine BL (ss:=bs.drop (Int.toNat 1)++zs) rfl (by omega) ?_;have l6:(iT (bM (bs.drop (Int.toNat 1)++zs))).length<=8:=by
    rw [tN];have:=fb (bs.drop (Int.toNat 1)++zs) [];unfold bM;simp only [IP] at this;omega
   generalize iT (bM (bs.drop (Int.toNat 1)++zs))=bs2 at l6;walk_at "pp";refine ab (is:=[0]) rfl rfl (pP hP8 (by omega) (by omega) (by omega) l6 fun os pn9 hP9 on ook=>⟨rfl,?_⟩);have ol:os.length=ys.length:=by rw [<- on,HS]
   walk_at "n";walk_at "pp";exact q gs os pn9 (hP9.mono (by omega)) (by rw [gn];exact nnd) (by omega) (by omega) (by omega) (by omega) (fun g hg=>(gok g hg).1) gne fun o ho=>yn _ (by rw [<- on];exact Ij.mpr ⟨o,ho,rfl⟩)
  ·walk_at "p";walk_at "n";walk_at "pp";refine ⟨⟨by omega,by rw [HS];omega⟩,?_⟩;have zl:(ns.zip ys).length=ns.length:=by rw [List.length_zip];omega
   refine dJ (fun i zs ec=>zs=((ns.zip ys).take i).map enP/\ec=[.dat (.list (ns.map .str)),.dat (.list (ys.map .str))]) ⟨rfl,rfl⟩ ?_ ?_
   ·rintro i d zs ec hd ⟨rfl,rfl⟩;obtain ⟨rfl,hi⟩:=jz hd;have hi:i < ns.length:=by rw [HS] at hi;omega
    have a1:(ns.map PyData.str)[i]?=some (.str ns[i]):=by rw [H9,HZ hi];rfl
    have a2:(ys.map PyData.str)[i]?=some (.str (ys[i]'(by omega))):=by rw [H9,HZ (by omega)];rfl
    have a3:(ns.zip ys)[i]?=some (ns[i],ys[i]'(by omega)):=by rw [HZ (by omega),List.getElem_zip]
    refine aB ?_;walk_at "pp";refine i3 rfl (lD a1) ?_;walk_at "pp";refine i3 rfl (lD a2) ?_;walk_at "pp";exact ⟨by rw [<- J8 a3,Ig];rfl,rfl⟩
   ·rintro zs ec ⟨rfl,rfl⟩;rw [kW,HS,show (((ns.length:Nat):Int).toNat)=(ns.zip ys).length by omega,Jj];walk_at "n";walk_at "p";have fz:(ns.zip ys).map (·.1)=ns:=List.map_fst_zip (by omega);refine zm rfl (by rw [fz];exact nnd) (by omega) ?_;have hcm:∀ x∈ns,∃ y,L2.getD ((ns.zip ys).map kvS) (.str x)=some (.str y)/\Nm y:=fun x hx=>by
     obtain ⟨y,h1,h2⟩:=r9 (x:=x) (ps:=ns.zip ys) (by rw [fz];exact hx);rw [List.map_snd_zip (by omega)] at h2;exact ⟨y,h1,yn y h2⟩
    generalize (ns.zip ys).map kvS=cm at hcm;walk_at "n";walk_at "pp";refine bI rfl (dJ (fun j zs ec=>∃ (os:List Rg) (pn':PyData),zs=os.map Rg.enc/\os.length=j/\(∀ o∈os,Nm o.n)/\aU cs (B+2001+60*j) pn'/\ec=[.ino pn',.dat (.dict cm),.dat (.list (bs.map .str))]) ⟨[],pn7,rfl,rfl,fun o h=>absurd h JZ,hP7.mono (by omega),rfl⟩ ?_ ?_)
    ·rintro j d zs ec hd ⟨os,pn',rfl,ol,on,hP',rfl⟩;rw [H9] at hd;obtain ⟨g,hg,rfl⟩:=Ic.mp hd;have hj:j < gs.length:=(HX.mp hg).1;have hgm:=Iz hg;refine aB ?_;walk_at "pp";refine ab (is:=[1]) rfl rfl (qD (ns:=ns) hP' (by omega) (gok g hgm).1 (by rw [<- gn];exact Ij.mpr ⟨g,hgm,rfl⟩) (gok g hgm).2 (by omega) hcm fun g' pn2 hP2 hok g0=>⟨rfl,?_⟩);walk_at "pp";exact ⟨os++[g'],pn2,by rw [Ig];rfl,by rw [HY,ol];rfl,lb on g0,hP2.mono (by omega),rfl⟩
    ·rintro zs ec ⟨os,pn',rfl,ol,on,hP',rfl⟩;rw [HS] at ol hP';walk_at "n";walk_at "pp";refine jr (hi:=rfl) (hP:=hP') (m:=((os.map Rg.enc).length:Nat)) (by omega) (by rw [HS];omega) (by rw [HS];omega) ?_;intro w9 pn9 hP9 w90 w91;rw [HS] at w91;walk_at "n";walk_at "pp";rw [gC w90,f7 w90,<-List.map_drop,<-List.map_take];refine b0 rfl (by rw [HS,HS,IH,IE];show _<=2 ^ 24;omega) ?_;rw [<- Ig];walk_at "pp";exact q gs (os.drop w9.toNat++os.take w9.toNat) pn9 (hP9.mono (by omega)) (by rw [gn];exact nnd) (by omega) (by omega) (by rw [HY,IH,IE];omega) (by rw [HY,IH,IE];omega) (fun g hg=>(gok g hg).1) gne fun o ho=>(IK.mp ho).elim (fun z=>on o (Kk z)) fun z=>on o (JY z)
 walk_at "d";intro w6 pn6 hP6 w60 w61;walk_at "n";walk_at "pp";refine a9 (fun c=>?_) fun c=>?_
 ·walk_at "pp";rw [gC (by decide),f7 (by decide),<-List.map_drop,<-List.map_take];refine b0 rfl (by rw [HS,HS,IH,IE];show _<=2 ^ 24;omega) ?_;rw [<- Ig];walk_at "pp";exact rest (ns.drop (Int.toNat 1)++ns.take (Int.toNat 1)) pn6 (hP6.mono (by omega)) (by rw [HY,IH,IE];show _ - 1+min 1 _=_;omega) fun y hy=>nnm y ((IK.mp hy).elim (fun z=>Kk z) fun z=>JY z)
 ·exact dY (rest xs pn6 (hP6.mono (by omega)) (by omega) xnm)
def zD (ns ms:List Str) (d:PyData):Prop:=∀ Q:PR->List PyData->Prop,Q (.dat (.bool false)) []->WF bj [d,.list (ns.map .str),.list (ms.map .str)] Q
theorem zt {xs:List Str} {x:Str} (h:x ∉ xs):bC (xs.map .str) (.str x)=false:=by
 rw [Bool.eq_false_iff];intro z;unfold bC at z;rw [Jb] at z;obtain ⟨d,hd,e⟩:=z;obtain ⟨y,hy,rfl⟩:=Ij.mp hd;rw [eZ] at e;exact h (Jd e▸hy)
theorem l8 {xs:List Str} {d:PyData} (h:∀ x,PyData.eqv (.str x) d=false):bC (xs.map .str) d=false:=by
 rw [Bool.eq_false_iff];intro z;unfold bC at z;rw [Jb] at z;obtain ⟨e,he,z⟩:=z;obtain ⟨y,hy,rfl⟩:=Ij.mp he;rw [h] at z;cases z
section
variable {ns ms:List Str}
theorem oD {ds:List PyData} (h:ds.length=0\/ds.length=1\/ds.length=3):zD ns ms (.tuple ds):=fun Q q=>by
 refine b4 rfl ?_;unfold bg
 match ds,h with
 | [],_=>walk_at "pp"; exact q
 | [_],_=>walk_at "pp"; exact q
 | [_,_,_],_=>walk_at "pp"; exact q
theorem kz {d:PyData} (h:isT d=false):zD ns ms d:=fun Q q=>by
 refine b4 rfl ?_;unfold bg;cases d with
 | tuple ds=>cases h
 | _=>walk_at "pp"; exact q
theorem jn {a b:PyData} (o:jZ a=true) (h:bC (ns.map .str) a=false):zD ns ms (.tuple [a,b]):=fun Q q=>by
 refine b4 rfl ?_;unfold bg;walk_at "pp";refine pS rfl o (aw _) h ?_;walk_at "pp";exact q
theorem jB {a b:PyData} (o1:jZ a=true) (o:jZ b=true) (h:bC (ms.map .str) b=false):zD ns ms (.tuple [a,b]):=fun Q q=>by
 refine b4 rfl ?_;unfold bg;walk_at "pp";refine pS rfl o1 (aw _) rfl ?_;walk_at "pp";refine a9 (fun c=>?_) fun c=>?_
 ·walk_at "pp";refine pS rfl o (aw _) h ?_;walk_at "pp";exact q
 ·walk_at "pp";exact q
end
noncomputable def L10:List Str:=["q", "z", "x", "a", "b", "c", "d", "e", "f", "g"]
theorem Cr {e:En} {x y:AV} {z:PyData} {ds:List PyData} {Q:RV->En->Prop} (h1:aF e [x,y]=some [z,.list ds]) (h2:jZ z=true) (h3:c7 ds=true) (q:Q (.dat (.bool (!bC ds z))) e):WPr fA [x,y] e Q:=by
 refine ⟨_,.dat (.bool (!bC ds z)),h1,?_,q⟩;cases z with
 | dict kvs=>simp [jZ,noD] at h2
 | _=>(show (if jZ _=true/\c7 ds=true then some (PR.dat (.bool (ngB true (bC ds _)))) else none)=_);rw [Io ⟨h2,h3⟩];rfl
theorem uy {gs:List Rg} {Q:PR->List PyData->Prop} (hl:gs.length<=8) (q:∀ x:Str,x ∉ gs.map (·.n)->x ≠ "" -> x.length<=1->Q (.dat (.str x)) []):WF lA [.list (gs.map Rg.enc)] Q:=by
 refine b4 rfl ?_;unfold uj;walk_at "pp";refine bI rfl (aZ gs Rg.enc (fun g=>.str g.n) (fun x hx=>?_) ?_)
 ·refine aB ?_;walk_at "pp";exact ⟨rfl,rfl⟩
 ·rw [show (gs.map fun g=>PyData.str g.n)=(gs.map (·.n)).map .str by rw [IW];rfl];walk_at "pp";have eq:("qzxabcdefg" : Str).cps.toList.map (fun c=>PyData.str ⟨#[c]⟩)=L10.map .str:=by
   rw [show (("qzxabcdefg" : Str).cps.toList.map (fun c=>PyData.str ⟨#[c]⟩))=(("qzxabcdefg" : Str).cps.toList.map (fun c=>(⟨#[c]⟩:Str))).map .str by rw [IW];rfl];exact congrArg _ (by decide +kernel)
  rw [eq];refine bF L10 .str (fun x=>!bC ((gs.map (·.n)).map .str) (.str x)) .str (fun x hx=>?_) ?_
  ·refine aB ?_;walk_at "pp";refine Cr rfl rfl (aw _) ?_;walk_at "pp";refine a9 (fun c9=>?_) fun c9=>?_
   ·walk_at "pp";exact ⟨ifT c9,rfl⟩
   ·exact ⟨ifF c9,rfl⟩
  ·walk_at "pp";cases eL:L10.filter fun x=>!bC ((gs.map (·.n)).map .str) (.str x) with
   | nil =>
    have:=oR (a:=L10) (b:=gs.map (·.n)) (by decide +kernel) fun x hx=>by
     have:=KI.mp eL x hx;refine Kv fun z=>this ?_;rw [zt z];rfl
    rw [HS] at this;have:L10.length=10:=rfl;omega
   | cons x r =>
    have hx:x∈L10.filter fun x=>!bC ((gs.map (·.n)).map .str) (.str x):=by rw [eL];exact Ip
    obtain ⟨h1,h2⟩:=Jm.mp hx;refine i3 rfl at0 ?_;walk_at "pp";refine q x (fun z=>?_) ?_ ?_
    ·rw [iQ z] at h2;cases h2
    ·exact (by decide +kernel:∀ x∈L10,x ≠ "") x h1
    ·exact (by decide +kernel:∀ x∈L10,x.length<=1) x h1
theorem mO {cs:List Int} {B:Nat} {pn:PyData} {gs os:List Rg} {ns:List Str} {Q:PR->List PyData->Prop} (hP:aU cs B pn) (hb:B < 2 ^ 57) (g0:0 < gs.length) (gl:gs.length<=4) (o0:0 < os.length) (ol:os.length<=4) (gn:∀ g∈gs,Nm g.n) (on:∀ o∈os,Nm o.n)
  (en:ns=gs.map (·.n)++[("" : Str)]) (q:∀ d pn',aU cs (B+3) pn'->zD ns (os.map (·.n)) d->Q (.dat d) [pn']):WF eE [pn,.list (gs.map Rg.enc),.list (os.map Rg.enc)] Q:=by
 refine b4 rfl ?_;unfold iz;walk_at "pp";refine jr (hi:=rfl) (hP:=hP) (m:=((gs.map Rg.enc).length:Nat)) (by omega) (by rw [HS];omega) (by rw [HS];omega) ?_;intro w1 pn1 hP1 w10 w11;obtain ⟨d1,hd1,ed1⟩:=atV (xs:=gs.map Rg.enc) w10 w11;obtain ⟨g,hg,rfl⟩:=Ij.mp hd1;walk_at "n";walk_at "pp";refine i3 rfl ed1 ?_;walk_at "pp";refine jr (hi:=rfl) (hP:=hP1) (m:=((os.map Rg.enc).length:Nat)) (by omega) (by rw [HS];omega) (by rw [HS];omega) ?_;intro w2 pn2 hP2 w20 w21;obtain ⟨d2,hd2,ed2⟩:=atV (xs:=os.map Rg.enc) w20 w21;obtain ⟨o,ho,rfl⟩:=Ij.mp hd2;walk_at "n";walk_at "pp";refine i3 rfl ed2 ?_;walk_at "pp";refine b0 rfl (by rw [HS,HS];show _<=2 ^ 24;omega) ?_;rw [<- Ig];walk_at "pp";refine ab (is:=[]) rfl rfl (uy (by rw [HY];omega) fun l hl l0 l1=>⟨rfl,?_⟩);rw [Ig] at hl;have hl1:l ∉ ns:=fun z=>by
  rw [en] at z;rcases IK.mp z with z | z
  ·exact hl (IM _ z)
  ·exact l0 (Ib.mp z)
 have hl2:l ∉ os.map (·.n):=fun z=>hl (Ir _ z);have e2:("" : Str) ∉ os.map (·.n):=fun z=>by
  obtain ⟨o,ho,e⟩:=Ij.mp z;exact (on o ho).1 e
 have gl8:=(gn g hg).2;have ol8:=(on o ho).2;generalize g.n=a at gl8;generalize o.n=b at ol8;walk_at "n";walk_at "pp";refine o6 rfl (by show _<=2 ^ 24;omega) ?_;walk_at "pp";refine v7 (BN ?_);walk_at "pp";refine A6 ⟨_,_,.inr a,rfl,rfl,rfl,JQ rfl,?_⟩;walk_at "pp";refine jr (hi:=rfl) (hP:=hP2) (m:=19) (by omega) (by decide) (by decide) ?_;intro w5 pn5 hP5 w50 w51;walk_at "n";walk_at "pp";obtain ⟨d,hd,ed⟩:=atV (xs:=([.tuple [.str l,.str b],.tuple [.str a,.str l],.tuple [.str a,.str ""],.tuple [.str "", .str ""],.tuple [.str a],.tuple [.str a,.str b,.str b],.list [.str a,.str b],.tuple [.none,.str b],.tuple [.str a,.int 3],.str (a++b),.int 5,.none,.dict [(.str a,.str b)],.tuple [],.tuple [.tuple [.str a],.str b],.tuple [.str a,.list [.str b]],.tuple [.bool true,.str b],.str a,.tuple [.list [],.str b]]:List PyData)) w50 w51;refine i3 rfl ed ?_;walk_at "pp";refine q d pn5 (hP5.mono (by omega)) ?_;clear ed;simp only [Il,IS,Jq] at hd;rcases hd with rfl | rfl | rfl | rfl | rfl | rfl | rfl | rfl | rfl | rfl | rfl | rfl | rfl | rfl | rfl | rfl | rfl | rfl | rfl
 ·exact jn rfl (zt hl1)
 ·exact jB rfl rfl (zt hl2)
 ·exact jB rfl rfl (zt e2)
 ·exact jB rfl rfl (zt e2)
 ·exact oD (.inr (.inl rfl))
 ·exact oD (.inr (.inr rfl))
 ·exact kz rfl
 ·exact jn rfl (l8 fun _=>rfl)
 ·exact jB rfl rfl (l8 fun _=>rfl)
 ·exact kz rfl
 ·exact kz rfl
 ·exact kz rfl
 ·exact kz rfl
 ·exact oD (.inl rfl)
 ·exact jn rfl (l8 fun _=>rfl)
 ·exact jB rfl rfl (l8 fun _=>rfl)
 ·exact jn rfl (l8 fun _=>rfl)
 ·exact kz rfl
 ·exact jn rfl (l8 fun _=>rfl)
def vg (ns:List Str) (d:PyData):Prop:=∀ Q:PR->List PyData->Prop,Q (.dat (.bool false)) []->WF aH [d,.list (ns.map .str)] Q
section
variable {ns:List Str}
theorem tU {ds:List PyData} (h:ds.length=0\/ds.length=1\/ds.length=3):vg ns (.tuple ds):=fun Q q=>by
 refine b4 rfl ?_;unfold ax
 match ds,h with
 | [],_=>walk_at "pp"; exact q
 | [_],_=>walk_at "pp"; exact q
 | [_,_,_],_=>walk_at "pp"; exact q
theorem tL {d:PyData} (h:isT d=false):vg ns d:=fun Q q=>by
 refine b4 rfl ?_;unfold ax;cases d with
 | tuple ds=>cases h
 | _=>walk_at "pp"; exact q
theorem p8 {a b:PyData} (o:jZ a=true) (h:bC (ns.map .str) a=false):vg ns (.tuple [a,b]):=fun Q q=>by
 refine b4 rfl ?_;unfold ax;walk_at "pp";refine pS rfl o (aw _) h ?_;walk_at "pp";exact q
theorem lW {a:Str} {b:PyData} (h:(isI b&&!isB b)=false):vg ns (.tuple [.str a,b]):=fun Q q=>by
 refine b4 rfl ?_;unfold ax;walk_at "pp";refine pS rfl rfl (aw _) rfl ?_;walk_at "pp";refine a9 (fun c=>?_) fun c=>?_
 ·walk_at "pp";refine ab (is:=[]) rfl rfl (?_:WF de [b] _);refine b4 rfl ?_;unfold fG;cases b with
  | int i=>cases h
  | _=>walk_at "pp"; refine ⟨rfl,?_⟩;walk_at "pp"; exact q
 ·walk_at "pp";exact q
theorem A1 {a:Str} {i:Int} (h:i < 0):vg ns (.tuple [.str a,.int i]):=fun Q q=>by
 refine b4 rfl ?_;unfold ax;walk_at "pp";refine pS rfl rfl (aw _) rfl ?_;walk_at "pp";refine a9 (fun c=>?_) fun c=>?_
 ·walk_at "pp";refine ab (is:=[]) rfl rfl (oW ⟨rfl,?_⟩);walk_at "pp";show Q (.dat (.bool (decide (0<=i)))) [];rw [IX (by omega)];exact q
 ·walk_at "pp";exact q
end
theorem rg:∀ {ss acc:List Str},acc.Nodup->¬(acc++ss).Nodup->(ss.foldl fk acc).length < acc.length+ss.length
 | [],acc,h,z=>absurd (by rw [Jn];exact h) z
 | x :: ss,acc,h,z=>by
  rw [J6,Ik];by_cases hx:x∈acc
  ·rw [show fk acc x=acc by unfold fk;simp [hx]];have:=fb ss acc;omega
  ·have e:fk acc x=acc++[x]:=by unfold fk;simp [hx]
   rw [e];have:=rg (ss:=ss) (acc:=acc++[x]) (by rw [<- e];exact qg h) (by rw [JB];exact z);rw [HY] at this;have:([x]:List Str).length=1:=rfl;omega
def C2 (ns:List Str) (d:PyData):Prop:=∀ Q:PR->List PyData->Prop,Q (.dat (.bool false)) []->WF aQ [d,.list (ns.map .str)] Q
theorem vE {gs:List Rg} {xs ys:List Hl} {d:PyData} (hx:∀ h∈xs++ys,(∃ g,gs.find? (onN h.1)=some g)/\0<=h.2) (hd:vg (gs.map (·.n)) d):C2 (gs.map (·.n)) (.list (xs.map enH++[d]++ys.map enH)):=fun Q q=>by
 refine b4 rfl ?_;unfold aR;walk_at "pp";have key:∀ y∈xs.map enH++[d]++ys.map enH,∃ b:Bool,∀ Q:PR->List PyData->Prop,Q (.dat (.bool b)) []->WF aH [y,.list ((gs.map (·.n)).map .str)] Q:=fun y hy=>by
  rcases IK.mp hy with hy | hy
  ·rcases IK.mp hy with hy | hy
   ·obtain ⟨h,hm,rfl⟩:=Ij.mp hy;obtain ⟨⟨g,hg⟩,h0⟩:=hx h (IM _ hm);exact ⟨true,fun Q q=>bD hg h0 q⟩
   ·rw [Ib.mp hy];exact ⟨false,hd⟩
  ·obtain ⟨h,hm,rfl⟩:=Ij.mp hy;obtain ⟨⟨g,hg⟩,h0⟩:=hx h (Ir _ hm);exact ⟨true,fun Q q=>bD hg h0 q⟩
 refine bI rfl (dJ (fun i zs ec=>(∃ bs:List Bool,zs=bs.map .bool/\bs.length=i/\(xs.length < i->bs.all id=false))/\ec=[.dat (.list ((gs.map (·.n)).map .str))]) ⟨⟨[],rfl,rfl,fun z=>absurd z (KL _)⟩,rfl⟩ ?_ ?_)
 ·rintro i y zs ec hd' ⟨⟨bs,rfl,bl,hb⟩,rfl⟩;refine aB ?_;walk_at "pp";by_cases ei:i=xs.length
  ·have ey:y=d:=by
    subst ei;rw [JB,Ii (by rw [HS];exact Ia _),HS,Nat.sub_self] at hd';cases hd';rfl
   subst ey;refine ab (is:=[]) rfl rfl (hd _ ⟨rfl,?_⟩);walk_at "pp";exact ⟨⟨bs++[false],by rw [Ig];rfl,by rw [HY,bl];rfl,fun _=>by rw [List.all_append];simp⟩,rfl⟩
  ·obtain ⟨b,hb'⟩:=key y (Iz hd');refine ab (is:=[]) rfl rfl (hb' _ ⟨rfl,?_⟩);walk_at "pp";exact ⟨⟨bs++[b],by rw [Ig];rfl,by rw [HY,bl];rfl,fun z=>by rw [List.all_append,hb (by omega)];rfl⟩,rfl⟩
 ·rintro zs ec ⟨⟨bs,rfl,bl,hb⟩,rfl⟩;walk_at "n";walk_at "pp";refine w_all rfl ?_;rw [hb (by rw [HY,HY,HS];show _ < _+1+_;omega)];walk_at "pp";exact q
theorem vY {gs:List Rg} {r:List Hl} (hx:∀ h∈r,(∃ g,gs.find? (onN h.1)=some g)/\0<=h.2) (hl:r.length<=900) (hn:¬(r.map (·.1)).Nodup):C2 (gs.map (·.n)) (.list (r.map enH)):=fun Q q=>by
 refine b4 rfl ?_;unfold aR;walk_at "pp";refine bI rfl (aZ r enH (fun _=>.bool true) (fun x hx'=>?_) ?_)
 ·obtain ⟨⟨g,hg⟩,h0⟩:=hx x hx';refine aB ?_;walk_at "pp";refine ab (is:=[]) rfl rfl (bD hg h0 ⟨rfl,?_⟩);walk_at "pp";exact ⟨rfl,rfl⟩
 ·walk_at "n";walk_at "pp";refine fm (xs:=r) (b:=fun _=>true) rfl ?_;rw [show (r.all fun _=>true)=true by simp];walk_at "pp";refine bI rfl (aZ r enH (fun h=>.str h.1) (fun x hx=>?_) ?_)
  ·refine aB ?_;walk_at "pp";exact ⟨rfl,rfl⟩
  ·rw [jI];walk_at "n";walk_at "p";have lt:=rg (ss:=r.map (fun h:Hl=>h.1)) (acc:=[]) Ku hn;rw [HS] at lt;refine ⟨_,.dat (.int (bM (r.map (·.1))).length),rfl,?_,?_⟩
   ·show (match strsOf ((r.map (·.1)).map .str) with | some ss=>if ss.length < 1000 then some (PR.dat (.int (bM ss).length)) else none | none=>none)=_;rw [cW];show (if (r.map (·.1)).length < 1000 then some (PR.dat (.int (bM (r.map (·.1))).length)) else none)=_;rw [Io (by rw [HS];omega)]
   ·walk_at "pp";show Q (.dat (.bool (PyData.eqv (.int (bM (r.map (·.1))).length) (.int (r.map enH).length)))) [];rw [HS,oH,IX (by unfold bM;simp only [IP] at lt;omega)];exact q
section
variable {gs os:List Rg} {Q:PR->List PyData->Prop}
theorem Bw {r1 r2:List Pr2} {d hd:PyData} {ns:List Str} (en:ns=gs.map (·.n)++[("" : Str)]) (hgl:gs.length<=900) (h:∀ p∈r1++r2,Has gs p.1/\∃ og,os.find? (onN p.2)=some og) (hb:zD ns (os.map (·.n)) d) (q:Q (.dat (.bool false)) []) :
  WF aq [.list (gs.map Rg.enc),.list (os.map Rg.enc),.list (r1.map enP++[d]++r2.map enP),hd] Q:=by
 have good:∀ p∈r1++r2,∀ Q:PR->List PyData->Prop,Q (.dat (.bool true)) []->WF bj [enP p,.list (ns.map .str),.list ((os.map (·.n)).map .str)] Q:=fun p hp Q q=>by
  obtain ⟨h1,og,h2⟩:=h p hp;refine gK ?_ (b5 h2) q;rw [en];rcases h1 with e | ⟨g,hg⟩
  ·rw [e];simp
  ·exact IM _ (b5 hg)
 have key:∀ y∈r1.map enP++[d]++r2.map enP,∃ b:Bool,∀ Q:PR->List PyData->Prop,Q (.dat (.bool b)) []->WF bj [y,.list (ns.map .str),.list ((os.map (·.n)).map .str)] Q:=fun y hy=>by
  rcases IK.mp hy with hy | hy
  ·rcases IK.mp hy with hy | hy
   ·obtain ⟨p,hm,rfl⟩:=Ij.mp hy;exact ⟨true,good p (IM _ hm)⟩
   ·rw [Ib.mp hy];exact ⟨false,hb⟩
  ·obtain ⟨p,hm,rfl⟩:=Ij.mp hy;exact ⟨true,good p (Ir _ hm)⟩
 refine b4 rfl ?_;unfold bh;walk_at "pp";refine ab (is:=[]) rfl rfl (a8 ⟨rfl,?_⟩);walk_at "pp";refine b0 (ys:=[.str ""]) rfl (by rw [HS,HS];show _<=2 ^ 24;simp only [Ik,IP];omega) ?_;have e0:(gs.map (·.n)).map PyData.str++[PyData.str ""]=ns.map .str:=by rw [en,Ig];rfl
 rw [e0];walk_at "n";walk_at "pp";refine ab (is:=[]) rfl rfl (a8 ⟨rfl,?_⟩);walk_at "n";walk_at "pp";refine bI rfl (dJ (fun i zs ec=>(∃ bs:List Bool,zs=bs.map .bool/\bs.length=i/\(r1.length < i->bs.all id=false))/\ec=[.dat (.list (ns.map .str)),.dat (.list ((os.map (·.n)).map .str))]) ⟨⟨[],rfl,rfl,fun z=>absurd z (KL _)⟩,rfl⟩ ?_ ?_)
 ·rintro i y zs ec hd' ⟨⟨bs,rfl,bl,hbs⟩,rfl⟩;refine aB ?_;walk_at "pp";by_cases ei:i=r1.length
  ·have ey:y=d:=by
    subst ei;rw [JB,Ii (by rw [HS];exact Ia _),HS,Nat.sub_self] at hd';cases hd';rfl
   subst ey;refine ab (is:=[]) rfl rfl (hb _ ⟨rfl,?_⟩);walk_at "pp";exact ⟨⟨bs++[false],by rw [Ig];rfl,by rw [HY,bl];rfl,fun _=>by rw [List.all_append];simp⟩,rfl⟩
  ·obtain ⟨b,hb'⟩:=key y (Iz hd');refine ab (is:=[]) rfl rfl (hb' _ ⟨rfl,?_⟩);walk_at "pp";exact ⟨⟨bs++[b],by rw [Ig];rfl,by rw [HY,bl];rfl,fun z=>by rw [List.all_append,hbs (by omega)];rfl⟩,rfl⟩
 ·rintro zs ec ⟨⟨bs,rfl,bl,hbs⟩,rfl⟩;walk_at "n";walk_at "pp";refine w_all rfl ?_;rw [hbs (by rw [HY,HY,HS];show _ < _+1+_;omega)];walk_at "pp";exact q
theorem wW {rel:List Pr2} {hd:PyData} (hgl:gs.length<=900) (hr:xn gs os rel) (hL:C2 (gs.map (·.n)) hd) (q:Q (.dat (.bool false)) []):WF aq [.list (gs.map Rg.enc),.list (os.map Rg.enc),.list (rel.map enP),hd] Q:=by
 refine b4 rfl ?_;unfold bh;walk_at "pp";refine ab (is:=[]) rfl rfl (a8 ⟨rfl,?_⟩);walk_at "pp";refine b0 (ys:=[.str ""]) rfl (by rw [HS,HS];show _<=2 ^ 24;simp only [Ik,IP];omega) ?_;obtain ⟨ns,en⟩:∃ ns:List Str,ns=gs.map (·.n)++[("" : Str)]:=⟨_,rfl⟩;have e0:(gs.map (·.n)).map PyData.str++[PyData.str ""]=ns.map .str:=by rw [en,Ig];rfl
 rw [e0];walk_at "n";walk_at "pp";refine ab (is:=[]) rfl rfl (a8 ⟨rfl,?_⟩);walk_at "n";walk_at "pp";refine bI rfl (aZ rel enP (fun _=>.bool true) (fun x hx=>?_) ?_)
 ·obtain ⟨h1,og,h2⟩:=hr.at_ x hx;refine aB ?_;walk_at "pp"
  refine ab (is:=[]) rfl rfl (gK (by
   rw [en];rcases h1 with e | ⟨g,hg⟩
   ·rw [e];simp
   ·exact IM _ (b5 hg)) (b5 h2) ⟨rfl,?_⟩)
  walk_at "pp";exact ⟨rfl,rfl⟩
 ·walk_at "pp";refine fm (xs:=rel) (b:=fun _=>true) rfl ?_;rw [show (rel.all fun _=>true)=true by simp];walk_at "pp";refine ab (is:=[]) rfl rfl (?_:WF bJ [.list (gs.map Rg.enc),hd] _);refine b4 rfl ?_;unfold cb;walk_at "pp";refine ab (is:=[]) rfl rfl (a8 ⟨rfl,?_⟩);walk_at "pp";refine ab (is:=[]) rfl rfl (hL _ ⟨rfl,?_⟩);walk_at "pp";refine ⟨rfl,?_⟩;walk_at "pp";exact q
end
theorem lJ {cs:List Int} {B:Nat} {pn:PyData} {gs:List Rg} {hs:List Hl} {Q:PR->List PyData->Prop} (hP:aU cs B pn) (hb:B < 2 ^ 57) (g0:0 < gs.length) (gl:gs.length<=8) (gn:∀ g∈gs,Nm g.n) (hh:zA gs hs)
  (q:∀ d pn',aU cs (B+3) pn'->(vg (gs.map (·.n)) d\/∃ h:Hl,d=enH h/\h.1∈hs.map (·.1)/\0<=h.2)->Q (.dat d) [pn']):WF eh [pn,.list (gs.map Rg.enc),.list (hs.map enH)] Q:=by
 refine b4 rfl ?_;unfold g8;walk_at "pp";refine jr (hi:=rfl) (hP:=hP) (m:=((gs.map Rg.enc).length:Nat)) (by omega) (by rw [HS];omega) (by rw [HS];omega) ?_;intro w1 pn1 hP1 w10 w11;obtain ⟨d1,hd1,ed1⟩:=atV (xs:=gs.map Rg.enc) w10 w11;obtain ⟨g,hg,rfl⟩:=Ij.mp hd1;walk_at "n";walk_at "pp";refine i3 rfl ed1 ?_;walk_at "d";intro w2 pn2 hP2 w20 w21;walk_at "n";walk_at "pp";refine ab (is:=[]) rfl rfl (uy gl fun l hl l0 l1=>⟨rfl,?_⟩);walk_at "n";walk_at "pp";have e1:("" : Str) ∉ gs.map (·.n):=fun z=>by
  obtain ⟨o,ho,e⟩:=Ij.mp z;exact (gn o ho).1 e
 generalize g.n=a;have hL:∀ d∈([.tuple [.str "", .int 1],.tuple [.str l,.int (1+w2)],.tuple [.str a],.tuple [.str a,.int 1,.int 1],.list [.str a,.int 9],.str a,.none,.int 7,.tuple [.none,.int 9],.tuple [.list [.str a],.int 9],.tuple [.str a,.none],.tuple [.str a,.str "9"],.tuple [.str a,.int (-(1+w2))],.tuple [.str a,.bool true],.tuple [.str a,.list [.int 9]],.tuple [.str a,.tuple [.int 9]],.tuple [],.dict [(.str a,.int 9)]]:List PyData),vg (gs.map (·.n)) d\/∃ h:Hl,d=enH h/\h.1∈hs.map (·.1)/\0<=h.2:=fun d hd=>by
  left;simp only [Il,IS,Jq] at hd;rcases hd with rfl | rfl | rfl | rfl | rfl | rfl | rfl | rfl | rfl | rfl | rfl | rfl | rfl | rfl | rfl | rfl | rfl | rfl
  ·exact p8 rfl (zt e1)
  ·exact p8 rfl (zt hl)
  ·exact tU (.inr (.inl rfl))
  ·exact tU (.inr (.inr rfl))
  ·exact tL rfl
  ·exact tL rfl
  ·exact tL rfl
  ·exact tL rfl
  ·exact p8 rfl (l8 fun _=>rfl)
  ·exact p8 rfl (l8 fun _=>rfl)
  ·exact lW rfl
  ·exact lW rfl
  ·exact A1 (by omega)
  ·exact lW rfl
  ·exact lW rfl
  ·exact lW rfl
  ·exact tU (.inl rfl)
  ·exact tL rfl
 refine v7 (BN ?_);walk_at "pp";refine A6 ⟨_,_,.inr a,rfl,rfl,rfl,JQ rfl,?_⟩;walk_at "pz";walk_at "n";with_reducible refine dW fun N eN=>?_
 have fin:∀ xs:List PyData,(∀ d∈xs,vg (gs.map (·.n)) d\/∃ h:Hl,d=enH h/\h.1∈hs.map (·.1)/\0<=h.2)->0 < xs.length->xs.length<=30->N ([.ino pn2,.dat (.list (gs.map Rg.enc)),.dat (.list (hs.map enH)),.dat (.str a),.dat (.int (1+w2)),.dat (.list xs)]:En):=by
  intro xs hx x0 x1;rw [eN];walk_at "pp";refine jr (hi:=rfl) (hP:=hP2) (m:=(xs.length:Nat)) (by omega) (by omega) (by omega) ?_;intro w5 pn5 hP5 w50 w51;obtain ⟨d,hd,ed⟩:=atV (xs:=xs) w50 w51;walk_at "n";walk_at "pp";refine i3 rfl ed ?_;walk_at "pp";exact q d pn5 (hP5.mono (by omega)) (hx d hd)
 have hflat:∀ d∈hs.map enH,noD d=true/\d.depth<=20:=fun d h=>by
  obtain ⟨p,_,rfl⟩:=Ij.mp h;exact ⟨rfl,by simp [enH,PyData.depth,PyData.depthAll]⟩
 walk_at "pp";refine qm rfl hflat ?_;rw [eV];walk_at "pp";refine a9 (fun c=>?_) fun c=>?_
 ·have m0:∀ h∈hs,0<=h.2:=fun h hm=>(hh.at_ h hm).2;obtain ⟨x,init,e2⟩:∃ x init,hs=init++[x]:=by
   rcases List.eq_nil_or_concat hs with z | ⟨init,x,z⟩
   ·rw [z] at c;cases c
   ·exact ⟨x,init,by rw [z,List.concat_eq_append]⟩
  have xm:x∈hs:=by rw [e2];simp
  have a1:atI (hs.map enH) (-1)=some (enH x):=by rw [e2,Ig];exact ze
  cases hs with
  | nil=>cases c
  | cons h0 t =>
   walk_at "pp";refine i3 (i:=-1) rfl a1 ?_;walk_at "pp";refine i3 rfl at0 ?_;walk_at "pp";refine i3 rfl at0 ?_;walk_at "pp";refine fin (_++[enH x,.tuple [.str h0.1,.int 99],enH h0]) (fun d hd=>?_) (Nat.succ_pos _) (JQ rfl);rcases IK.mp hd with hd | hd
   ·exact hL d hd
   ·right;simp only [Il,IS,Jq] at hd;rcases hd with rfl | rfl | rfl
    ·exact ⟨x,rfl,Ij.mpr ⟨x,xm,rfl⟩,m0 x xm⟩
    ·exact ⟨(h0.1,99),rfl,Ip,(by decide:(0:Int)<=99)⟩
    ·exact ⟨h0,rfl,Ip,m0 h0 Ip⟩
 ·exact dY (fin _ hL (Nat.succ_pos _) (JQ rfl))
theorem tu (gs:List Rg):∀ d∈gs.map Rg.enc,noD d=true/\d.depth<=30:=fun d h=>by
 obtain ⟨⟨n,k,rows,cl⟩,_,rfl⟩:=Ij.mp h;have r1:c7 (rows.map Rw.enc)=true:=fc.mpr fun d hd=>(rw_flat rows d hd).1;have r2:(PyData.tuple (rows.map Rw.enc)).depth<=21:=da fun d hd=>(rw_flat rows d hd).2;have c1:noD (jY cl)=true:=by
  cases cl with
  | none=>rfl
  | some bs=>exact aw bs
 have c2:(jY cl).depth<=21:=by
  cases cl with
  | none=>exact IV _
  | some bs=>exact Iy (da (k:=0) fun d h=>by obtain ⟨x,_,rfl⟩:=Ij.mp h;exact Ia _) (by decide)
 refine ⟨?_,Iy (da (k:=21) fun d hd=>?_) (by decide)⟩
 ·show c7 [.str n,.str k,.tuple (rows.map Rw.enc),jY cl]=true;refine fc.mpr fun d hd=>?_;simp only [Il,IS,Jq] at hd;rcases hd with rfl | rfl | rfl | rfl
  ·rfl
  ·rfl
  ·exact r1
  ·exact c1
 ·simp only [Il,IS,Jq] at hd;rcases hd with rfl | rfl | rfl | rfl
  ·exact IV _
  ·exact IV _
  ·exact r2
  ·exact c2
theorem iW {ds:List PyData} (h:∀ d∈ds,noD d=true/\d.depth<=30):noD (.list ds)=true/\(PyData.list ds).depth<=31:=⟨fc.mpr fun d hd=>(h d hd).1,gH fun d hd=>(h d hd).2⟩
theorem yw (gs os:List Rg) (rel:List Pr2) (hs:List Hl):iC (.list [.list (gs.map Rg.enc),.list (os.map Rg.enc),.list (rel.map enP),.list (hs.map enH)])=true:=by
 have a1:=iW (tu gs);have a2:=iW (tu os);have a3:=iW (ds:=rel.map enP) fun d hd=>⟨(pR rel d hd).1,Iy (pR rel d hd).2 (by decide)⟩;have a4:=iW (ds:=hs.map enH) fun d hd=>by
  obtain ⟨p,_,rfl⟩:=Ij.mp hd;exact ⟨rfl,by simp [enH,PyData.depth,PyData.depthAll]⟩
 refine n8 (fc.mpr fun d hd=>?_) (Iy (gH (k:=31) fun d hd=>?_) (by decide))
 ·simp only [Il,IS,Jq] at hd;rcases hd with rfl | rfl | rfl | rfl
  ·exact a1.1
  ·exact a2.1
  ·exact a3.1
  ·exact a4.1
 ·simp only [Il,IS,Jq] at hd;rcases hd with rfl | rfl | rfl | rfl
  ·exact a1.2
  ·exact a2.2
  ·exact a3.2
  ·exact a4.2
theorem vm {ns:List Int} (hl:ns.length<=63):∃ pr outs,su.F [.list (ns.map .int)]=some (pr,outs)/\pr=.dat (.bool true)/\outs=[]:=by
 refine (?_:WF su [.list (ns.map .int)] fun pr outs=>pr=.dat (.bool true)/\outs=[]);refine b4 rfl ?_;unfold wH;walk_at "pp";refine ab (is:=[]) rfl rfl (Ak ⟨rfl,?_⟩);walk_at "n";walk_at "pp";refine ⟨⟨by decide,by decide⟩,?_⟩;refine bL (fun i e=>∃ pn,aU ns (10000*i) pn/\j0 [some (.dat (.list (ns.map .int))),some (.own pn),none,none,none,none,none,none,none,none,none,none] e) ⟨zN ns 0 0,⟨0,0,rfl,by decide,by decide,by decide⟩,by walk_at "L"⟩ ?_ ?_
 ·rintro i d e hd ⟨pn,hP,_⟩;walk_at "l";obtain ⟨rfl,hi⟩:=jz hd;have hi:i < 5:=hi;walk_at "f";walk_at "pp";refine ab (is:=[1]) rfl rfl (Ar hP (by omega) fun gs os pn1 hP1 nd g0 gl o0 ol gok gne one=>⟨rfl,?_⟩);walk_at "n";walk_at "pp";refine ab (is:=[]) rfl rfl (q4 nd (by omega) fun hs hh hB=>⟨rfl,?_⟩);have hsl:hs.length<=8:=by
   have:=oR (b:=gs.map (·.n)) hh.nd fun x hx=>by
    obtain ⟨h,hm,rfl⟩:=Ij.mp hx;obtain ⟨⟨g,hg⟩,_⟩:=hh.at_ h hm;exact b5 hg
   rw [HS,HS] at this;omega
  walk_at "n";walk_at "pp";refine bI rfl (aZ hs enH (fun h=>.str h.1) (fun x hx=>?_) ?_)
  ·refine aB ?_;walk_at "pp";exact ⟨rfl,rfl⟩
  ·rw [jI];walk_at "pp";refine ab (is:=[]) rfl rfl (oq gok (by omega) (by omega) fun rel hr rl hal=>⟨rfl,?_⟩);walk_at "n";walk_at "pp";refine ⟨⟨by decide,by decide⟩,?_⟩;refine bL (fun j e=>∃ pn2,aU ns (10000*i+5000+20*j) pn2/\j0 [some (.dat (.list (ns.map .int))),some (.own pn2),none,some (.dat (.list (gs.map Rg.enc))),some (.dat (.list (os.map Rg.enc))),some (.dat (.list (hs.map enH))),some (.dat (.list (rel.map enP))),some (.dat (.list [.list (gs.map Rg.enc),.list (os.map Rg.enc),.list (rel.map enP),.list (hs.map enH)])),none,none,none,none] e) ⟨pn1,hP1,by walk_at "L"⟩ ?_ ?_
   ·rintro j d e hd ⟨pn2,hP2,_⟩;walk_at "l";obtain ⟨rfl,hj⟩:=jz hd;have hj:j < 3:=hj;walk_at "f";walk_at "pp";refine jr (hi:=rfl) (hP:=hP2) (m:=((rel.map enP).length:Int)+1) (by omega) (by omega) (by rw [HS];omega) ?_;intro w2 pn3 hP3 w20 w21;rw [HS] at w21;walk_at "n";walk_at "pp";obtain ⟨ms,en⟩:∃ ms:List Str,ms=gs.map (·.n)++[("" : Str)]:=⟨_,rfl⟩;refine ab (is:=[1]) rfl rfl (mO hP3 (by omega) g0 gl o0 ol gne one en fun d pn4 hP4 hbad=>⟨rfl,?_⟩);walk_at "n";walk_at "pp";rw [f7 w20,<-List.map_take];refine b0 rfl (by rw [HS,IE];show _<=2 ^ 24;simp only [Ik,IP];omega) ?_;walk_at "pp";rw [gC w20,<-List.map_drop];refine b0 rfl (by rw [HY,HS,HS,IE,IH];show _<=2 ^ 24;simp only [Ik,IP];omega) ?_;walk_at "n";walk_at "pp";refine ab (is:=[]) rfl rfl (Bw en (by omega) (fun p hp=>hr.at_ p ((IK.mp hp).elim (fun z=>JY z) fun z=>Kk z)) hbad ⟨rfl,?_⟩);walk_at "pp";refine jr (hi:=rfl) (hP:=hP4) (m:=((hs.map enH).length:Int)+1) (by omega) (by omega) (by rw [HS];omega) ?_;intro w5 pn5 hP5 w50 w51;rw [HS] at w51;walk_at "n";walk_at "pp";refine ab (is:=[1]) rfl rfl (lJ hP5 (by omega) g0 (by omega) gne hh fun d2 pn6 hP6 hb2=>⟨rfl,?_⟩);have hsub:∀ h∈hs.take w5.toNat++hs.drop w5.toNat,(∃ g,gs.find? (onN h.1)=some g)/\0<=h.2:=fun h hm=>hh.at_ h (by rwa [List.take_append_drop] at hm);have hL:C2 (gs.map (·.n)) (.list ((hs.take w5.toNat).map enH++[d2]++(hs.drop w5.toNat).map enH)):=by
     rcases hb2 with hb2 | ⟨h,rfl,hm,h0⟩
     ·exact vE hsub hb2
     ·rw [show (hs.take w5.toNat).map enH++[enH h]++(hs.drop w5.toNat).map enH=(hs.take w5.toNat++[h]++hs.drop w5.toNat).map enH by rw [Ig,Ig];rfl];refine vY (fun y hy=>?_) (by rw [HY,HY,IE,IH];simp only [Ik,IP];omega) fun z=>?_
      ·rcases IK.mp hy with hy | hy
       ·rcases IK.mp hy with hy | hy
        ·exact hsub y (IM _ hy)
        ·rw [Ib.mp hy];obtain ⟨x,hx,ex⟩:=Ij.mp hm;have:=(hh.at_ x hx).1;rw [ex] at this;exact ⟨this,h0⟩
       ·exact hsub y (Ir _ hy)
      ·rw [Ig,Ig,Jy,Jy] at z;rw [<- List.take_append_drop w5.toNat hs,Ig] at hm;rcases IK.mp hm with hm | hm
       ·exact z.1.2.2 _ hm _ (by simp) rfl
       ·exact z.2.2 h.1 (by simp) _ hm rfl
    walk_at "n";walk_at "pp";rw [f7 w50,<-List.map_take];refine b0 rfl (by rw [HS,IE];show _<=2 ^ 24;simp only [Ik,IP];omega) ?_;walk_at "pp";rw [gC w50,<-List.map_drop];refine b0 rfl (by rw [HY,HS,HS,IE,IH];show _<=2 ^ 24;simp only [Ik,IP];omega) ?_;walk_at "n";walk_at "pp";refine ab (is:=[]) rfl rfl (wW (by omega) hr hL ⟨rfl,?_⟩);walk_at "pp";refine ab (is:=[]) rfl rfl (wW (rel:=[]) (by omega) ⟨fun h hm=>absurd hm JZ,IV _⟩ hL ⟨rfl,?_⟩);walk_at "pp";exact ⟨pn6,hP6.mono (by omega),by walk_at "L"⟩
   ·rintro e ⟨pn2,hP2,_⟩;walk_at "l";walk_at "pp";refine ab (is:=[]) rfl rfl (c0 (by omega) hh hr ⟨rfl,?_⟩);rw [hB,hal];walk_at "pp";refine EO rfl (yw gs os rel hs) ?_;walk_at "pp";refine ab (is:=[]) rfl rfl (c0 (rel:=[]) (hs:=[]) (by omega) ⟨Ku,fun h hm=>absurd hm JZ,IV _⟩ ⟨fun h hm=>absurd hm JZ,IV _⟩ ⟨rfl,?_⟩);walk_at "pp";exact ⟨pn2,hP2.mono (by rw [kW];show _+20*3<=_;omega),by walk_at "L"⟩
 ·rintro e ⟨pn,hP,_⟩;walk_at "l";walk_at "pp";exact ⟨rfl,rfl⟩
end K76
end
namespace PySem.W.Fast
noncomputable def tw1116845059431602973:=()
noncomputable def tw9072901702801703543:=()
noncomputable def tw1235071702163683377:=()
noncomputable def tw10196386236552041002:=()
noncomputable def tw964830992493315266:=()
noncomputable def tw4073762253548305044:=()
noncomputable def tw11879931075370835286:=()
noncomputable def tw16666296838509744388:=()
noncomputable def tw12486844619870297829:=()
noncomputable def tw14885482803007807030:=()
noncomputable def tw12580213739621605334:=()
noncomputable def tw16344547810204257195:=()
noncomputable def tw6284625242559585977:=()
noncomputable def tw7208310425345860772:=()
noncomputable def tw14757323081268364740:=()
noncomputable def tw1459914462643827215:=()
noncomputable def tw16381674296390874448:=()
noncomputable def tw5550056238662060373:=()
noncomputable def tw5519626808367064958:=()
noncomputable def tw18158606225472628656:=()
noncomputable def tw15088688065175369716:=()
noncomputable def tw5366650975571753847:=()
noncomputable def tw5340346409441283854:=()
noncomputable def tw17596358781519722226:=()
noncomputable def tw1215635963213760895:=()
noncomputable def tw9051130690130025673:=()
noncomputable def tw523562708654191135:=()
noncomputable def tw7142899465794047747:=()
noncomputable def tw17989141503171406933:=()
noncomputable def tw4390212057193942009:=()
noncomputable def tw17918055225209447949:=()
noncomputable def tw248041652826042673:=()
noncomputable def tw1068297958436886396:=()
noncomputable def tw3765168000535709479:=()
noncomputable def tw6025650965481774015:=()
noncomputable def tw2664428147776418940:=()
noncomputable def tw8233031367391378741:=()
noncomputable def tw11247950998921318915:=()
noncomputable def tw10468429700294794412:=()
noncomputable def tw6828813595963206774:=()
noncomputable def tw1947976586968618727:=()
noncomputable def tw10789010654198505339:=()
noncomputable def tw4226219005907780873:=()
noncomputable def tw1144140366643936823:=()
noncomputable def tw8007331623555837874:=()
noncomputable def tw1690934630697753320:=()
noncomputable def tw9110529685863786216:=()
noncomputable def tw146328356402859145:=()
noncomputable def tw12625815844074894038:=()
noncomputable def tw3107551450528676628:=()
end PySem.W.Fast
open PySem PySem.W PyProof.Rows
set_option maxRecDepth 100000 in
set_option maxHeartbeats 0 in
theorem PySem.Challenge.cw_webshapes_k76_whatever_lists_holds : PySem.Challenge.rw_webshapes_k76_whatever_lists.Holds := by
  w_on; (refine holds_law L2.ws fun said => ?_); k_head; (case hw => w_witness2)
  k_fill
  refine L2.uX (l := PySem.Challenge.rw_webshapes_k76_whatever_lists) (n := 63) (k := 7) (x := "_law_script") (CX := L2.CX0) (sp := K76.ub) rfl (by decide) rfl ⟨rfl, by decide, by decide, rfl⟩ (fun w h Y => PySem.W.kIn_of Y) ?F ?S ?C
  case F =>
    intro w mg fa h KX G hmg;have TT : ∃ t : K76.Adr, (∀ (s : Shared) (u : Value), BindsTo s (t.f 37).2 ⟨[u], []⟩ [("_law_script", u)]) ∧ K76.Txt (L2.KOf KX) mg t := by
      dsimp only [L2.KOf];refine' K76.Co KX G ?D ?z_abs ?z_all ?z_bool ?z_dict ?z_int ?z_isinstance ?z_len ?z_list ?z_max ?z_min ?z_range ?z_set ?z_sorted ?z_tuple ?g_KINDS ?s_KINDS
      (case D => (iterate 38 refine L2.Eh KX G (by k_is) (by k_is) (by k_is) (by k_is) (by first | exact fun _ _ _ _ _ _ => L2.us1 fun _ => rfl | exact fun _ _ _ _ _ _ => L2.us2 fun _ _ => rfl | exact fun _ _ _ _ _ _ => L2.us3 fun _ _ _ => rfl | exact fun _ _ _ _ _ _ => L2.us4 fun _ _ _ _ => rfl | exact fun _ _ _ _ _ _ => L2.us5 fun _ _ _ _ _ => rfl) ?_); exact True.intro)
      (case z_abs => k_is)
      (case z_all => k_is)
      (case z_bool => k_is)
      (case z_dict => k_is)
      (case z_int => k_is)
      (case z_isinstance => k_is)
      (case z_len => k_is)
      (case z_list => k_is)
      (case z_max => k_is)
      (case z_min => k_is)
      (case z_range => k_is)
      (case z_set => k_is)
      (case z_sorted => k_is)
      (case z_tuple => k_is)
      (case g_KINDS => k_is)
      (case s_KINDS => k_is)
    obtain ⟨t, hb, T⟩ := TT;have e : some (Value.ref fa) = some (Value.ref (t.f 37).1) := hmg.symm.trans (T.d 37 rfl).m;have e' : fa = (t.f 37).1 := by injection e with e; injection e
    subst e';exact ⟨(t.f 37).2, hb, fun base _ _ => K76.Bf T⟩
  case S => exact fun K H a ns hl _ hS => L2.Cc rfl hl hS (by obtain ⟨pr, outs, h, rfl, rfl⟩ := K76.vm hl; exact h)
  case C => exact fun _ _ _ _ z => z

