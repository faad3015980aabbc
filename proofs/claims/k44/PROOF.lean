import PyProof.Rows.All
import Wide.All
import OpenK.AllK
import Wide.FinOn
import Lean
import PyProof.EqAt
import PyProof.EqKinds
import PyProof.TupleCall
import PyProof.ConsumeWalk
import PyProof.EqLayable
import PyProof.ReprRoads
import PyProof.StrWalks
import PyProof.SliceStr2
import PyProof.StrLawsIn
import PyProof.StrLawsRepr
import PyProof.SliceList
import PyProof.Rows.FStr
import PyProof.CallStr
import PyProof.Rows.SeqMore
import PyProof.ListStr
import PyProof.Claim2Refuses
import PyProof.Rows.SetFrom
import PyProof.Rows.StrMeet
import PyProof.WalksMore
import PyProof.StrCalls
import PyProof.ListMulRoad
import PyProof.MaxThree
import PyProof.Rows.SumAny
import PyProof.AutoSeq1
import PyProof.StrBlock2
import KE.KLam
import PyProof.ZipIter
import PyProof.Rows.ZipGen
import PyProof.DictItems
import PyProof.DictItemsLoops
import KE.KDictOf
import PyProof.AttrMissHeap
import KE.KDictList
import PyProof.DictValues
import PyProof.WalkInts
import PyProof.SetRoads
import PyProof.Rows.CallKwBuiltin
import PyProof.DictTruth
import KE.KIsAll
import PyProof.ListRange
import PySem.Challenge.RW_webshapes_k44_conditions_of_parts
set_option compiler.extract_closed false
set_option bootstrap.genMatcherCode false
set_option Elab.async false
set_option linter.all false
set_option maxRecDepth 100000
set_option maxHeartbeats 4000000
section
open PySem PySem.Spec PyProof.Rows PySem.W
theorem H9:type_of% @wpAny_bind:=@wpAny_bind
theorem Ia:type_of% @Heap.get?_push_of_some:=@Heap.get?_push_of_some
theorem Ib:type_of% @wpAny_pure:=@wpAny_pure
theorem Ic:type_of% @List.length_map:=@List.length_map
theorem Ie:type_of% @List.getElem?_eq_getElem:=@List.getElem?_eq_getElem
theorem Ig:type_of% @List.getElem?_set_ne:=@List.getElem?_set_ne
theorem Ih:type_of% @List.getElem?_eq_some_iff:=@List.getElem?_eq_some_iff
theorem Ii:type_of% @List.mem_singleton:=@List.mem_singleton
theorem Ij:type_of% @Heap.lt_size:=@Heap.lt_size
theorem Ik:type_of% @List.getElem?_map:=@List.getElem?_map
theorem Il:type_of% @Nat.le_refl:=@Nat.le_refl
theorem Im:type_of% @Heap.get?_push_size:=@Heap.get?_push_size
theorem Io:type_of% @List.length_append:=@List.length_append
theorem Ip:type_of% @List.mem_cons_of_mem:=@List.mem_cons_of_mem
theorem Iq:type_of% @List.mem_cons:=@List.mem_cons
theorem Ir:type_of% @Nat.lt_of_lt_of_le:=@Nat.lt_of_lt_of_le
theorem Iu:type_of% @List.getElem?_append_right:=@List.getElem?_append_right
theorem Iv:type_of% @List.getElem?_set_self:=@List.getElem?_set_self
theorem Iw:type_of% @List.size_toArray:=@List.size_toArray
theorem Iy:type_of% @if_pos:=@if_pos
theorem Iz:type_of% @Nat.ne_of_lt:=@Nat.ne_of_lt
theorem IC:type_of% @List.mem_append_right:=@List.mem_append_right
theorem ID:type_of% @if_neg:=@if_neg
theorem IE:type_of% @List.mem_cons_self:=@List.mem_cons_self
theorem IF:type_of% @List.mem_of_getElem?:=@List.mem_of_getElem?
theorem IG:type_of% @Heap.get?_update_self:=@Heap.get?_update_self
theorem IH:type_of% @List.length_cons:=@List.length_cons
theorem II:type_of% @Bool.false_and:=@Bool.false_and
theorem IJ:type_of% @Heap.get?_update_of_ne:=@Heap.get?_update_of_ne
theorem IK:type_of% @Option.map_eq_some_iff:=@Option.map_eq_some_iff
theorem IL:type_of% @List.mem_append:=@List.mem_append
theorem IM:type_of% @Nat.le_trans:=@Nat.le_trans
theorem IP:type_of% @List.length_replicate:=@List.length_replicate
theorem IQ:type_of% @sizeLine_eq:=@sizeLine_eq
theorem IS:type_of% @Int.toNat_natCast:=@Int.toNat_natCast
theorem IU:type_of% @Nat.lt_irrefl:=@Nat.lt_irrefl
theorem IV:type_of% @Bool.and_eq_true:=@Bool.and_eq_true
theorem IW:type_of% @Bool.true_and:=@Bool.true_and
theorem IX:type_of% @decide_eq_false:=@decide_eq_false
theorem IY:type_of% @List.length_set:=@List.length_set
theorem IZ:type_of% @List.getElem?_append_left:=@List.getElem?_append_left
theorem Ja:type_of% @List.not_mem_nil:=@List.not_mem_nil
theorem Jb:type_of% @wpAny_callSpecial?_slot:=@wpAny_callSpecial?_slot
theorem Jc:type_of% @of_decide_eq_true:=@of_decide_eq_true
theorem Jd:type_of% @wpAny_mono:=@wpAny_mono
theorem Je:type_of% @PySem.W.mg_none_of:=@PySem.W.mg_none_of
theorem Jf:type_of% @wpAny_call_entry:=@wpAny_call_entry
theorem Jg:type_of% @wpAny_newObj_type:=@wpAny_newObj_type
theorem Jh:type_of% @decide_eq_true:=@decide_eq_true
theorem Ji:type_of% @List.mem_map:=@List.mem_map
theorem Jj:type_of% @wpAny_holding:=@wpAny_holding
theorem Jk:type_of% @Array.getElem?_eq_getElem:=@Array.getElem?_eq_getElem
theorem Jl:type_of% @List.map_map:=@List.map_map
theorem Jm:type_of% @Option.some.inj:=@Option.some.inj
theorem Jn:type_of% @Array.length_toList:=@Array.length_toList
theorem Jo:type_of% @List.nodup_cons:=@List.nodup_cons
theorem Jp:type_of% @Bool.false_ne_true:=@Bool.false_ne_true
theorem Jq:type_of% @Around.under_plainId:=@Around.under_plainId
theorem Jr:type_of% @PySem.mem_of_lookup:=@PySem.mem_of_lookup
theorem Js:type_of% @List.mem_iff_getElem?:=@List.mem_iff_getElem?
theorem Jt:type_of% @wpAny_setField_rec:=@wpAny_setField_rec
theorem Ju:type_of% @Nat.ne_of_gt:=@Nat.ne_of_gt
theorem Jv:type_of% @Heap.size_push:=@Heap.size_push
theorem Jw:type_of% @codeAny_builtin:=@codeAny_builtin
theorem Jx:type_of% @List.map_append:=@List.map_append
theorem Jy:type_of% @List.append_nil:=@List.append_nil
theorem Jz:type_of% @Heap.SameBut.update:=@Heap.SameBut.update
theorem JB:type_of% @List.set_set:=@List.set_set
theorem JD:type_of% @Nat.zero_le:=@Nat.zero_le
theorem JH:type_of% @List.length_take:=@List.length_take
theorem JJ:type_of% @wpAny_rule:=@wpAny_rule
theorem JK:type_of% @or_false:=@or_false
theorem JL:type_of% @List.getD_eq_getElem?_getD:=@List.getD_eq_getElem?_getD
theorem JM:type_of% @List.length_singleton:=@List.length_singleton
theorem JN:type_of% @wpAny_dictEpoch:=@wpAny_dictEpoch
theorem JQ:type_of% @wpAny_truthy_bool:=@wpAny_truthy_bool
theorem JR:type_of% @List.length_range:=@List.length_range
theorem JU:type_of% @Int.toNat_of_nonneg:=@Int.toNat_of_nonneg
theorem JV:type_of% @Nat.lt_succ_self:=@Nat.lt_succ_self
theorem JX:type_of% @List.length_drop:=@List.length_drop
theorem JY:type_of% @List.all_eq_true:=@List.all_eq_true
theorem JZ:type_of% @call_meets:=@call_meets
theorem J0:type_of% @plainId_quiet:=@plainId_quiet
theorem J1:type_of% @builtinLookup_eq_fast:=@builtinLookup_eq_fast
theorem J2:type_of% @Array.getElem?_toList:=@Array.getElem?_toList
theorem J3:type_of% @Nat.lt_succ_of_lt:=@Nat.lt_succ_of_lt
theorem J4:type_of% @List.flatten_cons:=@List.flatten_cons
theorem J5:type_of% @Bool.and_eq_true_iff:=@Bool.and_eq_true_iff
theorem J6:type_of% @Nat.le_of_lt:=@Nat.le_of_lt
theorem J7:type_of% @F.plain_extend_loop:=@F.plain_extend_loop
theorem J8:type_of% @if_false:=@if_false
theorem J9:type_of% @Paired.length:=@Paired.length
theorem Ka:type_of% @List.eq_of_mem_replicate:=@List.eq_of_mem_replicate
theorem Kb:type_of% @wpAny_specialOf:=@wpAny_specialOf
theorem Kc:type_of% @wpAny_ite_false:=@wpAny_ite_false
theorem Kd:type_of% @PySem.W.kia_one:=@PySem.W.kia_one
theorem Ke:type_of% @List.find?_eq_none:=@List.find?_eq_none
theorem Kf:type_of% @Bool.false_eq_true:=@Bool.false_eq_true
theorem Kg:type_of% @List.getElem?_replicate:=@List.getElem?_replicate
theorem Kh:type_of% @wpAny_typeOf:=@wpAny_typeOf
theorem Ki:type_of% @wpAny_setState_of:=@wpAny_setState_of
theorem Kj:type_of% @Nat.lt_or_ge:=@Nat.lt_or_ge
theorem Kk:type_of% @List.take_of_length_le:=@List.take_of_length_le
theorem Kl:type_of% @Heap.get?_update_other:=@Heap.get?_update_other
theorem Km:type_of% @Array.toList_push:=@Array.toList_push
theorem Ko:type_of% @PyProof.Rows.slot_tuple_getitem:=@PyProof.Rows.slot_tuple_getitem
theorem Kp:type_of% @List.getElem?_toArray:=@List.getElem?_toArray
theorem Kq:type_of% @Nat.le_add_right:=@Nat.le_add_right
theorem Kr:type_of% @List.any_cons:=@List.any_cons
theorem Ks:type_of% @wpAny_typeNameOfWhole_keyiter:=@wpAny_typeNameOfWhole_keyiter
theorem Kt:type_of% @List.mem_of_mem_drop:=@List.mem_of_mem_drop
theorem Ku:type_of% @List.drop_eq_nil_iff:=@List.drop_eq_nil_iff
theorem Kv:type_of% @wpAny_updateSeq:=@wpAny_updateSeq
theorem Kw:type_of% @typeLookup_type:=@typeLookup_type
theorem Kx:type_of% @List.of_mem_zip:=@List.of_mem_zip
theorem Ky:type_of% @F.slot_dict_keyiterator_next:=@F.slot_dict_keyiterator_next
theorem Kz:type_of% @codeAny_mono:=@codeAny_mono
theorem KA:type_of% @PyProof.Rows.callWith_type1:=@PyProof.Rows.callWith_type1
theorem KC:type_of% @Nat.lt_trans:=@Nat.lt_trans
theorem KD:type_of% @wpAny_fieldsOf:=@wpAny_fieldsOf
theorem KG:type_of% @wpAny_Call_Name_kw:=@wpAny_Call_Name_kw
theorem KH:type_of% @beq_iff_eq:=@beq_iff_eq
theorem KI:type_of% @List.pairwise_cons:=@List.pairwise_cons
theorem KJ:type_of% @F.slot_tuple_iterator_next:=@F.slot_tuple_iterator_next
theorem KL:type_of% @Bool.and_false:=@Bool.and_false
theorem KN:type_of% @List.mem_of_find?_eq_some:=@List.mem_of_find?_eq_some
theorem KO:type_of% @List.drop_eq_getElem_cons:=@List.drop_eq_getElem_cons
theorem KP:type_of% @wpAny_pyIter_list:=@wpAny_pyIter_list
theorem KQ:type_of% @wpAny_dictEntries:=@wpAny_dictEntries
theorem KR:type_of% @if_true:=@if_true
theorem KS:type_of% @decide_eq_true_eq:=@decide_eq_true_eq
theorem KU:type_of% @List.append_assoc:=@List.append_assoc
theorem KW:type_of% @wpAny_typeNameOf_keyiter:=@wpAny_typeNameOf_keyiter
theorem KY:type_of% @wpAny_attempt:=@wpAny_attempt
theorem KZ:type_of% @wpAny_isInstance:=@wpAny_isInstance
theorem K0:type_of% @wpAny_forIn_list:=@wpAny_forIn_list
theorem K1:type_of% @List.lookup_cons:=@List.lookup_cons
theorem K2:type_of% @List.length_eq_zero_iff:=@List.length_eq_zero_iff
theorem K3:type_of% @List.any_eq_true:=@List.any_eq_true
theorem K4:type_of% @Heap.size_update:=@Heap.size_update
theorem K5:type_of% @Option.map_eq_none_iff:=@Option.map_eq_none_iff
theorem K6:type_of% @Array.getElem?_eq_none:=@Array.getElem?_eq_none
theorem K7:type_of% @wpAny_passesOwn:=@wpAny_passesOwn
theorem K8:type_of% @List.length_nil:=@List.length_nil
theorem K9:type_of% @Bool.or_eq_true:=@Bool.or_eq_true
theorem La:type_of% @List.getElem?_eq_none:=@List.getElem?_eq_none
end
section
namespace L2
abbrev Fg:=PySem.W.Frag
set_option maxRecDepth 100000 in
set_option maxHeartbeats 0 in
theorem ws:PySem.W.OpenLaw.wellSaid PySem.Challenge.rw_webshapes_k44_conditions_of_parts=true:=by decide +kernel
open PySem PySem.Spec PyProof.Rows
abbrev Key:=Sum Int Str
noncomputable def lC:Key->Value->Bool
 | .inl k,v=>Value.isInt k v
 | .inr x,v=>Value.isStrOf x v
noncomputable def Gz (w:World):Key->Int
 | .inl k=>hashInt k
 | .inr x=>hashStr w x
theorem aD:∀ {k:Key} {v:Value},lC k v=true->(∃ i t,k=Sum.inl i/\v=Value.int i t)\/(∃ x t,k=Sum.inr x/\v=Value.str x t)
 | .inl i,v,h=>by
  obtain ⟨t,e⟩:=Value.isInt_shape (k:=i) (v:=v) h;exact .inl ⟨i,t,rfl,e⟩
 | .inr x,v,h=>by
  obtain ⟨t,e⟩:=Value.isStrOf_shape (x:=x) (v:=v) h;exact .inr ⟨x,t,rfl,e⟩
theorem qv (i:Int) (t:Tok):lC (.inl i) (.int i t)=true:=by simp [lC,Value.isInt]
theorem rY (x:Str) (t:Tok):lC (.inr x) (.str x t)=true:=by simp [lC,Value.isStrOf]
theorem Ac (a b:Int):decide ((Sum.inl a:Key)=Sum.inl b)=(a==b):=by
 by_cases e:a=b
 ·subst e;simp
 ·have h:¬(Sum.inl a:Key)=Sum.inl b:=fun q=>e (Sum.inl.inj q);rw [IX h];exact (beq_eq_false_iff_ne.mpr e).symm
theorem A8 (a b:Str):decide ((Sum.inr a:Key)=Sum.inr b)=decide (a=b):=by
 by_cases e:a=b
 ·subst e;simp
 ·have h:¬(Sum.inr a:Key)=Sum.inr b:=fun q=>e (Sum.inr.inj q);rw [IX h,IX e]
theorem Cp (a:Int) (b:Str):decide ((Sum.inl a:Key)=Sum.inr b)=false:=IX (fun q=>nomatch q)
theorem CT (a:Str) (b:Int):decide ((Sum.inr a:Key)=Sum.inl b)=false:=IX (fun q=>nomatch q)
noncomputable def az (prog:Program) (w:World):PySem.KeyKind prog w Key where
 is:=lC
 hash:=Gz w
 inj:=fun v a b ha hb=>by
  rcases aD ha with ⟨i,t,rfl,rfl⟩ | ⟨x,t,rfl,rfl⟩
  ·rcases aD hb with ⟨j,u,rfl,e⟩ | ⟨y,u,rfl,e⟩
   ·injection e with e1 _;rw [e1]
   ·exact nomatch e
  ·rcases aD hb with ⟨j,u,rfl,e⟩ | ⟨y,u,rfl,e⟩
   ·exact nomatch e
   ·injection e with e1 _;rw [e1]
 byValue:=fun k v h=>by
  rcases aD h with ⟨i,t,rfl,rfl⟩ | ⟨x,t,rfl,rfl⟩ <;> rfl
 pyHash:=fun hv h=>by
  rcases aD hv with ⟨i,t,rfl,rfl⟩ | ⟨x,t,rfl,rfl⟩
  ·exact wpAny_pyHash_int h
  ·exact wpAny_pyHash_str h
 eqBool:=fun hu hv h=>by
  rcases aD hu with ⟨i,t,rfl,rfl⟩ | ⟨x,t,rfl,rfl⟩
  ·rcases aD hv with ⟨j,u,rfl,rfl⟩ | ⟨y,u,rfl,rfl⟩
   ·rw [Ac] at h;exact wpAny_eqBool_int h
   ·rw [Cp] at h;exact SeqAt.EqAt.int_str i t y u _ _ _ _ h
  ·rcases aD hv with ⟨j,u,rfl,rfl⟩ | ⟨y,u,rfl,rfl⟩
   ·rw [CT] at h;exact SeqAt.EqAt.str_int x t j u _ _ _ _ h
   ·rw [A8] at h;exact wpAny_eqBool_str h
 «strs»:=fun k x t v h=>by
  rcases aD h with ⟨i,u,rfl,e⟩ | ⟨y,u,rfl,e⟩
  ·exact nomatch e
  ·injection e with e1 _;subst e1;cases v <;> rfl
theorem mF (prog:Program) (w:World) (i:Int) (t:Tok):(az prog w).is (.inl i) (.int i t)=true:=qv i t
theorem jd (prog:Program) (w:World) (x:Str) (t:Tok):(az prog w).is (.inr x) (.str x t)=true:=rY x t
end L2
namespace L2
open PySem PySem.Spec PyProof.Rows
inductive V where
 | non | bl (b:Bool) | int (i:Int) | str (x:Str) | byt (b:Array UInt8) | flt (b:UInt64) | ref (a:Addr) | ty (n:String)
 deriving DecidableEq
def RelV:V->Value->Prop
 | .non,u=>u=Value.none
 | .bl b,u=>u=Value.bool b
 | .int i,u=>∃ t,u=Value.int i t
 | .str x,u=>∃ t,u=Value.str x t
 | .byt b,u=>∃ t,u=Value.bytes b t
 | .flt b,u=>∃ t,u=Value.float b t
 | .ref a,u=>u=Value.ref a
 | .ty n,u=>u=Value.type n
abbrev Vals:List V->List Value->Prop:=Paired RelV
theorem Vals.length {xs:List V} {us:List Value} (r:Vals xs us):xs.length=us.length:=J9 r
theorem Vals.get:∀ {xs:List V} {us:List Value} {i:Nat} {x:V},Vals xs us->xs[i]?=some x->∃ u,us[i]?=some u/\RelV x u
 | _,_,_,_,.nil,e=>by simp at e
 | _,_,0,_,.cons r _,e=>by simp at e;subst e;exact ⟨_,rfl,r⟩
 | _,_,i+1,x,.cons _ t,e=>by
  obtain ⟨u,h1,h2⟩:=Vals.get (i:=i) (x:=x) t (by simpa using e);exact ⟨u,by simpa using h1,h2⟩
theorem Vals.append:∀ {xs ys:List V} {us ws:List Value},Vals xs us->Vals ys ws->Vals (xs++ys) (us++ws)
 | _,_,_,_,.nil,s=>s
 | _,_,_,_,.cons r t,s=>.cons r (Vals.append t s)
theorem Vals.take:∀ {xs:List V} {us:List Value} (n:Nat),Vals xs us->Vals (xs.take n) (us.take n)
 | _,_,0,_=>.nil
 | _,_,_+1,.nil=>.nil
 | _,_,n+1,.cons r t=>.cons r (Vals.take n t)
theorem Vals.drop:∀ {xs:List V} {us:List Value} (n:Nat),Vals xs us->Vals (xs.drop n) (us.drop n)
 | _,_,0,r=>r
 | _,_,_+1,.nil=>.nil
 | _,_,n+1,.cons _ t=>Vals.drop n t
def Ft:Option V->Option Value->Prop
 | some v,some u=>RelV v u
 | none,none=>True
 | _,_=>False
def KV {κ:Type}:List (κ×V)->List (κ×Value)->Prop:=Paired fun (p:κ×V) (q:κ×Value)=>p.1=q.1/\RelV p.2 q.2
noncomputable def kV:Key->V
 | .inl i=>.int i
 | .inr x=>.str x
mutual
noncomputable def b7 (w:World):PyData->Int
 | .int i=>hashInt i
 | .str x=>hashStr w x
 | .tuple ds=>reduceHash (Builtin.Tuple.tupleHashOf (cH w ds))
 | _=>0
noncomputable def cH (w:World):List PyData->List Int
 | []=>[]
 | d :: ds=>b7 w d :: cH w ds
end
def uS (w:World) (x:PyData×V×V) (e:DictEntry):Prop:=e.hash=b7 w x.1/\RelV x.2.1 e.key/\RelV x.2.2 e.val
inductive HO where
 /-- a list -/
 | lst (xs:List V)
 /-- a tuple (never changes) -/
 | tup (xs:List V)
 /-- a dict whose keys are ints and texts;one whose keys are tuples of ints and texts (the empty one is both) -/
 | dK (kvs:List (Key×V)) | dT (kvs:List (List Key×V))
 /-- a dict by any hashable data: its epoch;the keys as data and as values,what they hold -/
 | dD (ep:Nat) (xs:List (PyData×V×V))
 /-- a set of ints: its members,its size -/
 | set (S:Int->Bool) (n:Nat)
 /-- an instance of the class at C,its dict at dx,its attributes -/
 | ins (C dx:Addr) (fs:List (Str×V))
 /-- the dict of the instance at x -/
 | own (x:Addr)
 /-- the dict of an exception -/
 | xd (fs:List (Str×V))
 /-- a bound method,f of x -/
 | met (f x:Addr)
 /-- a range object lo,lo+1,.. below hi -/
 | rng (lo hi:Int)
 /-- a thing that is known to the object (the script;a dict while a loop walks it): read,never written while it is so -/
 | frz (o:Obj) (u:HO)
 /-- a code object's table -/
 | tbl (q:Str) (pos:Pos)
 /-- any other thing,by what is true of its one object (a def of one's own: Dl a S n:=HO.ext fun h=>..) -/
 | ext (φ:Heap->Prop)
abbrev Hp:=Addr->Option HO
noncomputable def upd (H:Hp) (a:Addr) (o:HO):Hp:=fun b=>if b=a then some o else H b
theorem ai {H:Hp} {a:Addr} {o:HO}:upd H a o a=some o:=by unfold upd;rw [Iy rfl]
theorem ae {H:Hp} {a b:Addr} {o:HO} (h:b≠a):upd H a o b=H b:=by unfold upd;rw [ID h]
theorem yU {H:Hp} {a:Addr} {o u:HO}:upd (upd H a o) a u=upd H a u:=by
 funext b;unfold upd;split <;> rfl
theorem af {H:Hp} {a b:Addr} {o:HO} (h:H a=some o) (h':H b=none):a≠b:=by
 intro e;subst e;rw [h] at h';cases h'
section
variable (P:Program) (w:World)
def bw (H:Hp) (h:Heap) (a:Addr):HO->Prop
 | .lst xs=>xs.length<=sizeLine/\∃ (its:List Value) (n:Nat),Vals xs its/\h.get? a=some { cls:=.type "list", data:=.seq its.toArray n }
 | .tup xs=>xs.length<=sizeLine/\∃ its:List Value,Vals xs its/\IsTup h a its.toArray
 | .dK kvs=>kvs.length<=sizeLine/\(a==sysModules)=false/\∃ vs,KV kvs vs/\h.DictOf (az P w) a vs
 | .dT kvs=>kvs.length<=sizeLine/\(a==sysModules)=false/\∃ xs:List (List Key×Addr×Value),
   Paired (fun (p:List Key×V) (q:List Key×Addr×Value)=>p.1=q.1/\H q.2.1=some (.tup (p.1.map kV))/\RelV p.2 q.2.2) kvs xs /\
   ∃ o es ep,h.get? a=some o/\o.ExactDict/\o.data=.dict es ep/\es.toList=xs.map (entryOfKey (tupleKind (az P w)))/\(xs.map (·.1)).Nodup
 | .dD ep xs=>xs.length<=sizeLine/\(a==sysModules)=false/\(xs.map (·.1)).Nodup/\∃ o es,h.get? a=some o/\o.ExactDict/\o.data=.dict es ep/\Paired (uS w) xs es.toList
 | .set S n=>h.SetOf (intKind P w) a S n
 | .ins C dx fs=>H dx=some (.own a)/\fs.length<=1000/\dx≠a/\h.get? a=some (PySem.W.instObj C dx) /\
   ∃ mA,h.Ns1 dx mA/\(∀ f,Ft (fs.lookup f) (mA f))/\PySem.Within mA (fs.map (·.1))
 | .own _=>∃ o,h.get? a=some o
 | .xd fs=>∃ mA,h.Ns1 a mA/\∀ f,Ft (fs.lookup f) (mA f)
 | .rng lo hi=>∃ t u v,h.get? a=some { cls:=.type "range", data:=.fields #[.int lo t,.int hi u,.int 1 v] }
 | .frz o u=>h.get? a=some o/\bw H h a u
 | .tbl q pos=>∃ ps:Array Value,h.get? a=some { cls:=.none,data:=.fields ps }/\TriplesOk ps.toList/\(codeAmong pos ps.toList=none\/∃ c oc u vs t,codeAmong pos ps.toList=some (.ref c)/\H c=some (.frz oc u)/\oc.data=.fields vs/\vs[1]?=some (.str q t))
 | .met f x=>h.get? a=some (PySem.W.methodObj (.ref f) (.ref x))
 | .ext φ=>φ h/\(∃ o,h.get? a=some o)/\∀ h1 h2:Heap,φ h1->(∀ o,h1.get? a=some o->h2.get? a=some o)->φ h2
def HOk (H:Hp) (h:Heap):Prop:=∀ a o,H a=some o->bw P w H h a o
end
section
variable {P:Program} {w:World} {H H':Hp} {h h':Heap} {a:Addr} {o:HO}
theorem bw.lt (x:bw P w H h a o):a < h.objs.size:=by
 cases o with
 | lst xs=>obtain ⟨_,_,_,_,e⟩:=x;exact Ij e
 | tup xs=>obtain ⟨_,_,_,p⟩:=x;exact p.lt
 | dK kvs=>obtain ⟨_,_,_,_,o,_,_,e,_⟩:=x;exact Ij e
 | dT kvs=>obtain ⟨_,_,_,_,o,_,_,e,_⟩:=x;exact Ij e
 | dD ep xs=>obtain ⟨_,_,_,o,_,e,_⟩:=x;exact Ij e
 | set S n=>obtain ⟨o,_,_,_,e,_⟩:=x;exact Ij e
 | ins C dx fs=>obtain ⟨_,_,_,e,_⟩:=x;exact Ij e
 | own y=>obtain ⟨_,e⟩:=x;exact Ij e
 | xd fs=>obtain ⟨_,⟨_,_,_,e,_⟩,_⟩:=x;exact Ij e
 | rng lo hi=>obtain ⟨_,_,_,e⟩:=x;exact Ij e
 | frz ob u=>obtain ⟨e,_⟩:=x;exact Ij e
 | tbl q pos=>obtain ⟨_,e,_⟩:=x;exact Ij e
 | met f y=>exact Ij (show h.get? a=some _ from x)
 | ext φ=>obtain ⟨_,⟨_,e⟩,_⟩:=x;exact Ij e
theorem Paired.Gm {α β:Type} {F G:α->β->Prop}:∀ {l₁:List α} {l₂:List β},Paired F l₁ l₂->(∀ a b,F a b->G a b)->Paired G l₁ l₂
 | _,_,.nil,_=>.nil
 | _,_,.cons r t,f=>.cons (f _ _ r) (Paired.Gm t f)
theorem bw.jg (x:bw P w H h a o) (k:∀ b u,(b=a\/H b=some (.own a))->h.get? b=some u->h'.get? b=some u)
  (ho:∀ b,H b=some (.own a)->H' b=some (.own a)) (ht:∀ b xs,H b=some (.tup xs)->H' b=some (.tup xs)) (hz:∀ b o u vs,H b=some (.frz o u)->o.data=.fields vs->H' b=some (.frz o u)):bw P w H' h' a o:=by
 induction o with
 | lst xs=>obtain ⟨z,its,n,r,e⟩:=x;exact ⟨z,its,n,r,k _ _ (.inl rfl) e⟩
 | tup xs=>obtain ⟨z,its,r,ob,e,c⟩:=x;exact ⟨z,its,r,ob,k _ _ (.inl rfl) e,c⟩
 | dK kvs=>obtain ⟨z,y,vs,r,ob,es,ep,e,c⟩:=x;exact ⟨z,y,vs,r,ob,es,ep,k _ _ (.inl rfl) e,c⟩
 | dT kvs =>
  obtain ⟨z,y,xs,r,ob,es,ep,e,c⟩:=x;exact ⟨z,y,xs,Paired.Gm r fun p q z=>⟨z.1,ht _ _ z.2.1,z.2.2⟩,ob,es,ep,k _ _ (.inl rfl) e,c⟩
 | dD ep xs=>obtain ⟨z,y,nd,ob,es,e,c⟩:=x;exact ⟨z,y,nd,ob,es,k _ _ (.inl rfl) e,c⟩
 | set S n=>obtain ⟨ob,es,ep,t,e,c⟩:=x;exact ⟨ob,es,ep,t,k _ _ (.inl rfl) e,c⟩
 | ins C dx fs =>
  obtain ⟨d,z,ne,e,mA,⟨od,es,ep,e2,c⟩,r⟩:=x;exact ⟨ho _ d,z,ne,k _ _ (.inl rfl) e,mA,⟨od,es,ep,k _ _ (.inr d) e2,c⟩,r⟩
 | own y=>obtain ⟨ob,e⟩:=x;exact ⟨ob,k _ _ (.inl rfl) e⟩
 | xd fs=>obtain ⟨mA,⟨od,es,ep,e,c⟩,r⟩:=x;exact ⟨mA,⟨od,es,ep,k _ _ (.inl rfl) e,c⟩,r⟩
 | rng lo hi=>obtain ⟨t,u,v,e⟩:=x;exact ⟨t,u,v,k _ _ (.inl rfl) e⟩
 | frz ob u ih=>obtain ⟨e,q⟩:=x;exact ⟨k _ _ (.inl rfl) e,ih q⟩
 | tbl q pos =>
  obtain ⟨ps,e,t,c⟩:=x;exact ⟨ps,k a _ (.inl rfl) e,t,c.elim .inl fun ⟨c',oc,u,vs,t,c1,c2,c3⟩=>.inr ⟨c',oc,u,vs,t,c1,hz _ _ _ _ c2 c3.1,c3⟩⟩
 | met f y =>
  have e:h.get? a=some (PySem.W.methodObj (.ref f) (.ref y)):=x;show h'.get? a=some (PySem.W.methodObj (.ref f) (.ref y));exact k a _ (.inl rfl) e
 | ext φ=>obtain ⟨p,⟨o,e⟩,st⟩:=x;exact ⟨st _ _ p fun o q=>k _ _ (.inl rfl) q,⟨o,k _ _ (.inl rfl) e⟩,st⟩
theorem HOk.lt (x:HOk P w H h) (e:H a=some o):a < h.objs.size:=(x a o e).lt
theorem HOk.fresh (x:HOk P w H h) (e:h.objs.size<=a):H a=none:=by
 cases q:H a with
 | none=>rfl
 | some u=>exact absurd (Ir (x.lt q) e) (IU _)
theorem HOk.kept (x:HOk P w H h) (k:∀ b u,h.get? b=some u->h'.get? b=some u):HOk P w H h':=fun a o e =>
 (x a o e).jg (fun b u _ q=>k b u q) (fun _ q=>q) (fun _ _ q=>q) fun _ _ _ _ q _=>q
theorem HOk.laid (x:HOk P w H h) (k:∀ b u,h.get? b=some u->h'.get? b=some u) (hp:h.objs.size<=a) (new:bw P w (upd H a o) h' a o):HOk P w (upd H a o) h':=fun b u e=>by
 have hn:=x.fresh hp;by_cases hb:b=a
 ·subst hb;rw [ai] at e;cases e;exact new
 ·rw [ae hb] at e;exact (x b u e).jg (fun c v _ q=>k c v q) (fun c q=>by rw [ae (af q hn)];exact q) (fun c xs q=>by rw [ae (af q hn)];exact q) fun c o u vs q _=>by rw [ae (af q hn)];exact q
end
def Rd (H:Hp) (a:Addr) (u:HO):Prop:=H a=some u\/∃ o,H a=some (.frz o u)
theorem Rd.ok {P:Program} {w:World} {H:Hp} {h:Heap} {a:Addr} {u:HO} (r:Rd H a u) (x:HOk P w H h):bw P w H h a u:=by
 rcases r with r | ⟨o,r⟩
 ·exact x a u r
 ·obtain ⟨_,q⟩:=x a _ r;exact q
def Mut:Option HO->Prop
 | some (.lst _)=>True
 | some (.dK _)=>True
 | some (.dT _)=>True
 | some (.dD _ _)=>True
 | some (.set _ _)=>True
 | some (.ins _ _ _)=>True
 | some (.ext _)=>True
 | _=>False
section
variable {P:Program} {w:World} {H:Hp} {h h':Heap} {x e:Addr} {o':HO}
theorem HOk.write (ok:HOk P w H h) (mu:Mut (H x)) (he:e=x\/H e=some (.own x)) (k:∀ b u,b≠e->h.get? b=some u->h'.get? b=some u) (heo:∃ u,h'.get? e=some u)
  (new:bw P w (upd H x o') h' x o'):HOk P w (upd H x o') h':=fun b u q=>by
 have nown:∀ c y,H c=some (.own y)->c≠x:=fun c y r z=>by subst z;rw [r] at mu;exact mu
 have ntup:∀ c xs,H c=some (.tup xs)->c≠x:=fun c xs r z=>by subst z;rw [r] at mu;exact mu
 by_cases hb:b=x
 ·subst hb;rw [ai] at q;cases q;exact new
 ·rw [ae hb] at q;by_cases hbe:b=e
  ·have q':H b=some (.own x):=by
    rcases he with z | z
    ·exact absurd (hbe.trans z) hb
    ·rw [hbe];exact z
   rw [q] at q';cases q';obtain ⟨v,hv⟩:=heo;exact ⟨v,by rw [hbe];exact hv⟩
  ·refine (ok b u q).jg (fun c v hc r=>k c v ?_ r) (fun c r=>by rw [ae (nown c b r)];exact r) (fun c xs r=>by rw [ae (ntup c xs r)];exact r) fun c o u vs r _=>by rw [ae fun z=>by subst z;rw [r] at mu;exact mu];exact r
   rcases hc with rfl | hc
   ·exact hbe
   ·rintro rfl;rcases he with z | z
    ·exact nown c b hc z
    ·rw [hc] at z;cases z;exact hb rfl
end
structure Un (fs ex:List Addr) (H H':Hp) (h h':Heap):Prop where
 keep:∀ b o,h.get? b=some o->H b=none->b ∉ fs->b ∉ ex->h'.get? b=some o
 slot:∀ b o,h.get? b=some o->H b=none->b∈fs->b ∉ ex->∃ sl,h'.get? b=some { o with slots:=sl }
 free:∀ b o,h.get? b=some o->H b=none->b ∉ ex->H' b=none
 there:∀ b o,h.get? b=some o->b ∉ ex->∃ o',h'.get? b=some o'
 oQ:∀ b xs,H b=some (.tup xs)->H' b=some (.tup xs)
 ll:∀ b o u,H b=some (.frz o u)->H' b=some (.frz o u)
 kC:∀ b q pos,H b=some (.tbl q pos)->H' b=some (.tbl q pos)
section
variable {fs fs' ex ex':List Addr} {H H1 H2:Hp} {h h1 h2 h':Heap} {a x e:Addr} {o:HO}
theorem Un.any (u:Un fs ex H H1 h h1) {b:Addr} {ob:Obj} (q:h.get? b=some ob) (n:H b=none) (hx:b ∉ ex):∃ sl,h1.get? b=some { ob with slots:=sl }:=by
 by_cases hb:b∈fs
 ·exact u.slot b ob q n hb hx
 ·exact ⟨ob.slots,u.keep b ob q n hb hx⟩
theorem Un.kept (k:∀ b u,h.get? b=some u->h'.get? b=some u):Un fs ex H H h h' :=
 ⟨fun b ob q _ _ _=>k b ob q,fun b ob q _ _ _=>⟨ob.slots,k b ob q⟩,fun _ _ _ n _=>n,fun b ob q _=>⟨ob,k b ob q⟩,fun _ _ q=>q,fun _ _ _ q=>q,fun _ _ _ q=>q⟩
theorem Un.refl:Un fs ex H H h h:=Un.kept fun _ _ q=>q
theorem Un.laid (k:∀ b u,h.get? b=some u->h'.get? b=some u) (hp:h.objs.size<=a) (hn:H a=none):Un fs ex H (upd H a o) h h' where
 keep:=fun b u q _ _ _=>k b u q
 slot:=fun b u q _ _ _=>⟨u.slots,k b u q⟩
 free:=fun b u q n _=>by rw [ae (Iz (Ir (Ij q) hp))];exact n
 there:=fun b u q _=>⟨u,k b u q⟩
 oQ:=fun b xs q=>by rw [ae (af q hn)];exact q
 ll:=fun b u xs q=>by rw [ae (af q hn)];exact q
 kC:=fun b x y q=>by rw [ae (af q hn)];exact q
theorem Un.write (mu:Mut (H x)) (he:e=x\/H e=some (.own x)) (k:∀ b u,b≠e->h.get? b=some u->h'.get? b=some u) (heo:∃ u,h'.get? e=some u):Un fs ex H (upd H x o) h h':=by
 have hx:∀ b,H b=none->b≠x:=fun b n z=>by subst z;rw [n] at mu;exact mu
 have hb:∀ b,H b=none->b≠e:=fun b n z=>by
  subst z;rcases he with r | r
  ·exact hx b n r
  ·rw [n] at r;cases r
 have hm:∀ b u,H b=some u->¬Mut (some u)->b≠x:=fun b u q nm z=>by subst z;rw [q] at mu;exact nm mu
 refine ⟨fun b u q n _ _=>k b u (hb b n) q,fun b u q n _ _=>⟨u.slots,k b u (hb b n) q⟩,fun b u q n _=>by rw [ae (hx b n)];exact n,fun b u q _=>?_,
  fun b xs q=>by rw [ae (hm b _ q fun z=>z)];exact q,fun b u xs q=>by rw [ae (hm b _ q fun z=>z)];exact q,fun b x y q=>by rw [ae (hm b _ q fun z=>z)];exact q⟩
 by_cases hbe:b=e
 ·subst hbe;exact heo
 ·exact ⟨u,k b u hbe q⟩
end
noncomputable def trk (h:Heap) (H:Hp):List Addr:=(List.range h.objs.size).filter fun a=>(H a).isSome
noncomputable def ux (h:Heap) (H:Hp):Heap:=PySem.W.hideAll h (trk h H)
theorem qD (h:Heap) (H:Hp):(ux h H).objs.size=h.objs.size:=PySem.W.hideAll_size _ _
theorem uF {h:Heap} {H:Hp} {b:Addr} {o:Obj} (e:h.get? b=some o) (n:H b=none):(ux h H).get? b=some o :=
 PySem.W.hideAll_get _ e fun hm=>by
  have q:(H b).isSome=true:=(List.mem_filter.mp hm).2;rw [n] at q;simp at q
theorem xb {h:Heap} {H:Hp} {b:Addr} {o:Obj} (e:(ux h H).get? b=some o):h.get? b=some o/\H b=none:=by
 have e':h.get? b=some o:=PySem.W.of_hideAll (trk h H) e;refine ⟨e',?_⟩;cases q:H b with
 | none=>rfl
 | some x =>
  have hm:b∈trk h H:=List.mem_filter.mpr ⟨List.mem_range.mpr (Ij e'),by simp [q]⟩;have z:(ux h H).get? b=none:=PySem.W.hideAll_none (trk h H) hm;rw [z] at e;cases e
noncomputable def xl (g h:Heap) (L:Addr):List (Addr×Obj):=(List.range h.objs.size).filterMap fun a=>if a=L\/(g.get? a).isSome=true then none else (h.get? a).map fun o=>(a,o)
noncomputable def rest (g h:Heap) (L d:Addr):List (Addr×Obj):=(xl g h L).filter fun p=>decide (p.1≠d)
end L2
namespace L2
open PySem PySem.Spec PyProof.Rows
noncomputable def bX:List (Addr×Addr×Str×Pos):=[(247,243, "_law_told.<locals>.<lambda>", ⟨208,70,208,189⟩)]
def zo (H:Hp):Prop:=∀ t∈bX,H t.2.1=some (.tbl t.2.2.1 t.2.2.2)
structure Mod (K:Fg) (mg:Str->Option Value) (base:Heap):Prop where
 kin:K.In base
 glob:base.Ns mainGlobals mg
 blt:∃ mb,base.Ns builtinsNs mb/\∀ x:Str,x ≠ "__name__" -> mb x=bootBuiltins x
 nolimit:base.NoLimit
 bmain:∃ bm ob,mg "__builtins__" = some (.ref bm)/\bm≠builtinsNs/\base.get? bm=some ob/\ob.cls=.type "module" /\ ob.dict=some builtinsNs/\ob.data=.plain
 hds:∀ t∈bX,PySem.W.CodeHd base t.1 t.2.1
structure Cx where
 prog:Program
 w:World
 K:Fg
 mg:Str->Option Value
 base:Heap
 A:Around
 N:List Str
 ZO:Shared
 ZM:Hp
 env:Env
 outer:List Env
 stack:List Env
 ex:List Addr
 fn:Str->Bool
 calm:Bool
 pn:List (Addr×Obj)
 xe:Value->Shared->Prop
noncomputable def frs (l:List Env):List Addr:=l.filterMap (·.frame)
noncomputable abbrev Cx.fs (X:Cx):List Addr:=frs X.outer
def Vis (sc:Scope) (x:Str):Prop:=sc.names.lookup x=some .local\/sc.names.lookup x=some .cell\/sc.names.lookup x=some .free
def Loc (sc:Scope) (x:Str):Prop:=sc.names.lookup x=some .local\/sc.names.lookup x=some .cell
def Look (env:Env) (h:Heap) (m:Str->Option Value) (x:Str) (u:Value):Prop :=
 (env.kindOf x=some .local/\m x=some u)\/((env.kindOf x=some .cell\/env.kindOf x=some .free)/\∃ c,env.cells.lookup x=some c/\h.IsCell c (some u))
structure Cx.Ok (X:Cx):Prop where
 mod:Mod X.K X.mg X.base
 kind:X.env.scope.kind=.function
 glob:X.env.globals=mainGlobals
 blt:X.env.builtins=builtinsNs
 above:X.ZO.heap.objs.size<=X.env.locals
 inj:∀ x y c,X.env.cells.lookup x=some c->X.env.cells.lookup y=some c->x=y
 has:∀ x,(X.env.kindOf x=some .cell\/X.env.kindOf x=some .free)->∃ c,X.env.cells.lookup x=some c
 cab:∀ x c,X.fn x=true->X.env.cells.lookup x=some c->X.ZO.heap.objs.size<=c
 hd:X.calm=true->X.A.handled=none
 frames:X.A.frames=some X.stack
 stk:X.stack=X.outer\/(X.stack=X.env :: X.outer/\X.env.frame=some X.env.locals)
 exf:∀ b∈X.ex,b≠X.env.locals/\∀ x c,X.env.cells.lookup x=some c->c≠b
 bs:∀ b o,X.base.get? b=some o->X.ZO.heap.get? b=some o/\X.ZM b=none
 bsz:X.base.objs.size<=X.ZO.heap.objs.size
 zj:∀ b o,X.base.get? b=some o->b ∉ X.ex
 Dt:∀ b∈X.ex,b ∉ X.fs
 mT:X.ZO.heap.FunFrames X.base X.outer
 frf:∀ b∈X.fs,X.ZM b=none
 tabs:zo X.ZM
structure Inv (X:Cx) (pins:List (Addr×Obj)) (Z:List (Option V)) (H:Hp) (s:Shared):Prop where
 ok:X.Ok
 os:s.os=X.ZO.os
 bare:AllBare s.gens
 base:Un X.fs X.ex X.ZM H X.ZO.heap s.heap
 loc:∃ m,s.heap.Ns X.env.locals m/\∀ (i:Nat) (x:Str) (v:V),X.N[i]?=some x->Z[i]?=some (some v)->Vis X.env.scope x->∃ u,RelV v u/\Look X.env s.heap m x u
 cell:∀ x c,X.env.cells.lookup x=some c->∃ v,s.heap.IsCell c v
 free:H X.env.locals=none
 et:∀ x c,X.env.cells.lookup x=some c->H c=none
 pin:∀ p∈X.pn++pins,s.heap.get? p.1=some p.2/\H p.1=none/\p.1≠X.env.locals/\p.1 ∉ X.fs/\∀ v,p.2.data≠.cell v
 hok:HOk X.prog X.w H s.heap
 len:Z.length=X.N.length
section
variable {X:Cx} {pins:List (Addr×Obj)} {Z:List (Option V)} {H H':Hp} {s:Shared} {h':Heap}
theorem Cx.Ok.HQ (ok:X.Ok) {b:Addr} {o:Obj} (e:X.base.get? b=some o):b ∉ X.fs:=fun hb=>by
 have:=(ok.mT.mem hb).1;rw [e] at this;cases this
theorem Inv.bs (I:Inv X pins Z H s):∀ b o,X.base.get? b=some o->s.heap.get? b=some o/\H b=none:=fun b o e =>
 ⟨I.base.keep b o (I.ok.bs b o e).1 (I.ok.bs b o e).2 (I.ok.HQ e) (I.ok.zj b o e),I.base.free b o (I.ok.bs b o e).1 (I.ok.bs b o e).2 (I.ok.zj b o e)⟩
theorem Inv.bk (I:Inv X pins Z H s):∀ b o,X.base.get? b=some o->s.heap.get? b=some o:=fun b o e=>(I.bs b o e).1
theorem Inv.mod (I:Inv X pins Z H s):Mod X.K X.mg X.base:=I.ok.mod
theorem Inv.kIn (I:Inv X pins Z H s):X.K.In s.heap:=I.ok.mod.kin.keeps I.bk
theorem Inv.lt (I:Inv X pins Z H s):X.env.locals < s.heap.objs.size:=let ⟨_,hn,_⟩:=I.loc;hn.lt
theorem Inv.sz (I:Inv X pins Z H s):X.ZO.heap.objs.size<=s.heap.objs.size:=IM I.ok.above (J6 I.lt)
theorem Inv.Dx (I:Inv X pins Z H s) {a:Addr} (h:s.heap.objs.size<=a):a ∉ X.fs:=fun hb=>by
 obtain ⟨_,o,ho,_⟩:=I.ok.mT.mem hb;exact absurd (Ir (Ij ho) (IM I.sz h)) (IU _)
theorem Inv.cne (I:Inv X pins Z H s):∀ x c,X.env.cells.lookup x=some c->c≠X.env.locals:=fun x c e z=>by
 obtain ⟨v,o,ho,hd⟩:=I.cell x c e;obtain ⟨m,⟨o',es,ep,ho',hd',_⟩,_⟩:=I.loc;rw [z,ho'] at ho;cases ho;rw [hd'] at hd;cases hd
theorem Inv.mT (I:Inv X pins Z H s):s.heap.FunFrames X.base X.outer:=by
 have all:∀ (l:List Env),(∀ b∈frs l,b∈X.fs)->X.ZO.heap.FunFrames X.base l->s.heap.FunFrames X.base l:=by
  intro l;induction l with
  | nil=>intro _ _;trivial
  | cons env r ih =>
   intro hs hl;obtain ⟨hk,⟨L,o,hf,hn,ho,hd⟩,hr⟩:=hl;have hL:L∈X.fs:=hs L (by unfold frs;rw [List.filterMap_cons,hf];exact IE);obtain ⟨sl,e⟩:=I.base.slot L o ho (I.ok.frf L hL) hL fun z=>I.ok.Dt L z hL;exact ⟨hk,⟨L,_,hf,hn,e,hd⟩,ih (fun b hb=>hs b (by unfold frs;rw [List.filterMap_cons,hf];exact Ip _ hb)) hr⟩
 exact all X.outer (fun _ hb=>hb) I.ok.mT
theorem Inv.stack (I:Inv X pins Z H s):s.heap.FunFrames X.base X.stack:=by
 rcases I.ok.stk with e | ⟨e,hf⟩
 ·rw [e];exact I.mT
 ·rw [e];obtain ⟨m,hn,_⟩:=I.loc;refine .cons (by rw [I.ok.kind];decide) hf hn ?_ I.mT;exact Heap.get?_none_of_le (IM I.ok.bsz I.ok.above)
theorem Inv.lF (I:Inv X pins Z H s):∀ b∈frs X.stack,b∈X.env.locals :: X.fs:=fun b hb=>by
 rcases I.ok.stk with e | ⟨e,hf⟩
 ·rw [e] at hb;exact Ip _ hb
 ·rw [e] at hb;unfold frs at hb;rw [List.filterMap_cons,hf] at hb;exact hb
theorem Inv.mQ (I:Inv X pins Z H s):∀ b∈frs X.stack,H b=none:=fun b hb=>by
 rcases Iq.mp (I.lF b hb) with e | hb
 ·rw [e];exact I.free
 ·obtain ⟨_,o,ho,_⟩:=I.ok.mT.mem hb;exact I.base.free b o ho (I.ok.frf b hb) fun z=>I.ok.Dt b z hb
theorem Inv.step {g':Array GenState} {t':Nat} {d':Drawn} {ch:List Addr} (I:Inv X pins Z H s)
  (hch:∀ b∈ch,(b∈X.ex\/X.ZO.heap.objs.size<=b)/\b≠X.env.locals/\(∀ x c,X.env.cells.lookup x=some c->c≠b)/\∀ p∈X.pn++pins,p.1≠b)
  (keep:∀ b o,b≠X.env.locals->b ∉ X.fs->b ∉ ch->s.heap.get? b=some o->H b=none->h'.get? b=some o)
  (slot:∀ b o,b≠X.env.locals->b∈X.fs->b ∉ ch->s.heap.get? b=some o->H b=none->∃ sl,h'.get? b=some { o with slots:=sl }) (free:∀ b o,b ∉ ch->s.heap.get? b=some o->H b=none->H' b=none)
  (there:∀ b o,b ∉ ch->s.heap.get? b=some o->∃ o',h'.get? b=some o')
  (oQ:∀ b xs,H b=some (.tup xs)->H' b=some (.tup xs)) (ll:∀ b o u,H b=some (.frz o u)->H' b=some (.frz o u)) (kC:∀ b q pos,H b=some (.tbl q pos)->H' b=some (.tbl q pos))
  (ns:∀ m,s.heap.Ns X.env.locals m->h'.Ns X.env.locals m) (hok:HOk X.prog X.w H' h') (hg:AllBare g') :
  Inv X pins Z H' { s with heap:=h',gens:=g',drawn:=d',toks:=t' }:=by
 have neL:∀ b o,X.ZO.heap.get? b=some o->b≠X.env.locals:=fun b o e=>Iz (Ir (Ij e) I.ok.above);have neC:∀ b o,X.ZO.heap.get? b=some o->b ∉ X.ex->b ∉ ch:=fun b o e hx hb=>by
  rcases (hch b hb).1 with z | z
  ·exact hx z
  ·exact absurd (Ir (Ij e) z) (IU _)
 have cellK:∀ x c,X.env.cells.lookup x=some c->∀ v,s.heap.IsCell c v->h'.IsCell c v:=fun x c e v ⟨o,ho,hd⟩=>by
  have nch:c ∉ ch:=fun z=>(hch c z).2.2.1 x c e rfl;by_cases hc:c∈X.fs
  ·obtain ⟨sl,q⟩:=slot c o (I.cne x c e) hc nch ho (I.et x c e);exact ⟨_,q,hd⟩
  ·exact ⟨o,keep c o (I.cne x c e) hc nch ho (I.et x c e),hd⟩
 refine ⟨I.ok,I.os,hg,⟨fun b o e n hb hx=>?_,fun b o e n hb hx=>?_,fun b o e n hx=>?_,fun b o e hx=>?_,fun b xs e=>oQ b xs (I.base.oQ b xs e),fun b o xs e=>ll b o xs (I.base.ll b o xs e),fun b x y e=>kC b x y (I.base.kC b x y e)⟩,?_,fun x c e=>?_,?_,fun x c e=>?_,fun p hp=>?_,hok,I.len⟩
 ·exact keep b o (neL b o e) hb (neC b o e hx) (I.base.keep b o e n hb hx) (I.base.free b o e n hx)
 ·obtain ⟨sl,e1⟩:=I.base.slot b o e n hb hx;obtain ⟨sl',e2⟩:=slot b _ (neL b o e) hb (neC b o e hx) e1 (I.base.free b o e n hx);exact ⟨sl',e2⟩
 ·obtain ⟨o',e1⟩:=I.base.there b o e hx;exact free b o' (neC b o e hx) e1 (I.base.free b o e n hx)
 ·obtain ⟨o',e1⟩:=I.base.there b o e hx;exact there b o' (neC b o e hx) e1
 ·obtain ⟨m,hn,hl⟩:=I.loc;refine ⟨m,ns m hn,fun i x v e1 e2 e3=>?_⟩;obtain ⟨u,r,l⟩:=hl i x v e1 e2 e3;refine ⟨u,r,?_⟩;rcases l with l | ⟨k,c,e,z⟩
  ·exact .inl l
  ·exact .inr ⟨k,c,e,cellK x c e _ z⟩
 ·obtain ⟨v,z⟩:=I.cell x c e;exact ⟨v,cellK x c e v z⟩
 ·obtain ⟨m,⟨o,_,_,ho,_⟩,_⟩:=I.loc;exact free _ o (fun z=>(hch _ z).2.1 rfl) ho I.free
 ·obtain ⟨v,o,ho,hd⟩:=I.cell x c e;exact free c o (fun z=>(hch c z).2.2.1 x c e rfl) ho (I.et x c e)
 ·obtain ⟨e,n,ne,nf,d⟩:=I.pin p hp;have nch:p.1 ∉ ch:=fun z=>(hch p.1 z).2.2.2 p hp rfl;exact ⟨keep p.1 p.2 ne nf nch e n,free p.1 p.2 nch e n,ne,nf,d⟩
theorem Inv.un {t':Nat} (I:Inv X pins Z H s) (u:Un X.fs [] H H' s.heap h') (hok:HOk X.prog X.w H' h'):Inv X pins Z H' { s with heap:=h',toks:=t' }:=by
 obtain ⟨m,⟨o,es,ep,ho,r⟩,_⟩:=id I.loc;obtain ⟨sl,hL⟩:=u.any ho I.free (by simp)
 exact I.step (g':=s.gens) (d':=s.drawn) (ch:=[]) (fun _ z=>nomatch z) (fun b o _ hb _ e n=>u.keep b o e n hb (by simp)) (fun b o _ hb _ e n=>u.slot b o e n hb (by simp)) (fun b o _ e n=>u.free b o e n (by simp)) (fun b o _ e=>u.there b o e (by simp)) u.oQ u.ll u.kC (fun m' hm=>by
  obtain ⟨o',es',ep',ho',r'⟩:=hm;rw [ho] at ho';cases ho'
  exact ⟨_,es',ep',hL,r'⟩) hok I.bare
theorem Inv.call {g':Array GenState} {t':Nat} {d':Drawn} {ch:List Addr} (I:Inv X pins Z H s) (u:Un (frs X.stack) ch H H' s.heap h') (hok:HOk X.prog X.w H' h') (hg:AllBare g')
  (hch:∀ b∈ch,(b∈X.ex\/X.ZO.heap.objs.size<=b)/\b≠X.env.locals/\(∀ x c,X.env.cells.lookup x=some c->c≠b)/\∀ p∈X.pn++pins,p.1≠b) :
  Inv X pins Z H' { s with heap:=h',gens:=g',drawn:=d',toks:=t' }:=by
 obtain ⟨m,⟨o,es,ep,ho,r⟩,_⟩:=id I.loc;obtain ⟨sl,hL⟩:=u.any ho I.free fun z=>(hch _ z).2.1 rfl
 exact I.step (ch:=ch) hch (fun b o hL hb hc e n=>u.keep b o e n (fun z=>(Iq.mp (I.lF b z)).elim hL hb) hc) (fun b o _ _ hc e n=>u.any e n hc) (fun b o hc e n=>u.free b o e n hc) (fun b o hc e=>u.there b o e hc) u.oQ u.ll u.kC (fun m' hm=>by
  obtain ⟨o',es',ep',ho',r'⟩:=hm;rw [ho] at ho';cases ho'
  exact ⟨_,es',ep',hL,r'⟩) hok hg
theorem Inv.turned {t':Nat} {it:Addr} (I:Inv X pins Z H s) (k:∀ b o,b≠it->s.heap.get? b=some o->h'.get? b=some o) (hn:H it=none) (hL:it≠X.env.locals)
  (h1:it∈X.ex\/X.ZO.heap.objs.size<=it) (h2:∀ x c,X.env.cells.lookup x=some c->c≠it) (h3:∀ p∈X.pn++pins,p.1≠it):Inv X pins Z H { s with heap:=h',toks:=t' }:=by
 have nit:∀ b u,H b=some u->b≠it:=fun b u e z=>by rw [z,hn] at e;cases e
 refine I.step (g':=s.gens) (d':=s.drawn) (ch:=[it]) (fun b hb=>?_) (fun b o _ _ hc e _=>k b o (fun z=>hc (by simp [z])) e) (fun b o _ _ hc e _=>⟨o.slots,k b o (fun z=>hc (by simp [z])) e⟩) (fun _ _ _ _ n=>n)
  (fun b o hc e=>⟨o,k b o (fun z=>hc (by simp [z])) e⟩) (fun _ _ e=>e) (fun _ _ _ e=>e) (fun _ _ _ e=>e) (fun m hm=>?_) (fun b u e=>?_) I.bare
 ·have e:b=it:=by simpa using hb
  subst e;exact ⟨h1,hL,h2,h3⟩
 ·obtain ⟨o,es,ep,ho,r⟩:=hm;exact ⟨o,es,ep,k _ o (Ne.symm hL) ho,r⟩
 ·refine (I.hok b u e).jg (fun c v hc q=>k c v ?_ q) (fun _ q=>q) (fun _ _ q=>q) fun _ _ _ _ q _=>q;rcases hc with z | z
  ·rw [z];exact nit b u e
  ·exact nit c _ z
theorem Inv.tok (I:Inv X pins Z H s) (t:Nat):Inv X pins Z H { s with toks:=t }:=I.un (h':=s.heap) (t':=t) Un.refl I.hok
theorem Inv.kept {t':Nat} (I:Inv X pins Z H s) (k:∀ b u,s.heap.get? b=some u->h'.get? b=some u):Inv X pins Z H { s with heap:=h',toks:=t' }:=I.un (Un.kept k) (I.hok.kept k)
theorem Inv.laid {a:Addr} {o:HO} {t':Nat} (I:Inv X pins Z H s) (k:∀ b u,s.heap.get? b=some u->h'.get? b=some u) (hp:s.heap.objs.size<=a) (new:bw X.prog X.w (upd H a o) h' a o) :
  Inv X pins Z (upd H a o) { s with heap:=h',toks:=t' }:=I.un (Un.laid k hp (I.hok.fresh hp)) (I.hok.laid k hp new)
theorem Inv.write {x e:Addr} {o:HO} {t':Nat} (I:Inv X pins Z H s) (mu:Mut (H x)) (he:e=x\/H e=some (.own x)) (k:∀ b u,b≠e->s.heap.get? b=some u->h'.get? b=some u) (heo:∃ u,h'.get? e=some u)
  (new:bw X.prog X.w (upd H x o) h' x o):Inv X pins Z (upd H x o) { s with heap:=h',toks:=t' }:=I.un (Un.write mu he k heo) (I.hok.write mu he k heo new)
theorem Inv.dY {pins':List (Addr×Obj)} (I:Inv X pins Z H s) (h:∀ p∈pins',s.heap.get? p.1=some p.2/\H p.1=none/\p.1≠X.env.locals/\p.1 ∉ X.fs/\∀ v,p.2.data≠.cell v):Inv X pins' Z H s :=
 ⟨I.ok,I.os,I.bare,I.base,I.loc,I.cell,I.free,I.et,fun p hp=>(IL.mp hp).elim (fun z=>I.pin p (List.mem_append_left _ z)) (h p),I.hok,I.len⟩
theorem oO {N:List Str} (hN:N.Nodup) {i j:Nat} {x:Str} (a:N[i]?=some x) (b:N[j]?=some x):i=j:=by
 obtain ⟨h1,e1⟩:=Ih.mp a;obtain ⟨h2,e2⟩:=Ih.mp b;exact (List.getElem_inj hN).mp (e1.trans e2.symm)
theorem rK {M:Model} {A:Around} {E:Value->Shared->Prop} {i:Nat} {x:Str} {v:V} {u:Value} {Q:Unit->Shared->Prop} (I:Inv X pins Z H s) (hN:X.N.Nodup) (hi:X.N[i]?=some x) (hx:Loc X.env.scope x) (r:RelV v u)
  (h:∀ s',Inv X pins (Z.set i (some v)) H s'->(∃ a,Heap.SameBut a s.heap s'.heap/\(a=X.env.locals\/X.env.cells.lookup x=some a))->Q () s') (hf:X.fn x=true\/X.env.scope.names.lookup x=some .local:=by first | exact .inl rfl | exact .inr rfl | assumption):wpAny M A (storeName X.env x u) Q E s:=by
 obtain ⟨m,hn,hl⟩:=id I.loc;have hcls:(X.env.scope.kind==.class||(X.env.scope.kind==.module&&X.env.locals != X.env.globals))=false:=by rw [I.ok.kind];rfl
 have hiZ:i < Z.length:=by rw [I.len];exact (Ih.mp hi).1
 have cne:=I.cne;have tracked:∀ {a:Addr} {h':Heap},(∃ o,s.heap.get? a=some o/\H a=none)->Heap.SameBut a s.heap h'->HOk X.prog X.w H h':=fun {a h'} ha hs b ob e=>by
  obtain ⟨_,_,hfree⟩:=ha;refine (I.hok b ob e).jg (fun c w' hc q=>(hs.2 c ?_).trans q) (fun _ q=>q) (fun _ _ q=>q) fun _ _ _ _ q _=>q;rintro rfl;rcases hc with rfl | hc
  ·rw [hfree] at e;cases e
  ·rw [hfree] at hc;cases hc
 rcases hx with hk | hk
 ·refine wpAny_storeName_local hk hn (fun h' hn' hs=>?_) hcls;obtain ⟨oL,_,_,hoL,_⟩:=id hn;refine h _ ⟨I.ok,I.os,I.bare,⟨fun b o e n hb hx=>?_,fun b o e n hb hx=>?_,I.base.free,fun b o e hx=>?_,I.base.oQ,I.base.ll,I.base.kC⟩,⟨_,hn',fun j y v' e1 e2 e3=>?_⟩,fun y c e=>?_,I.free,I.et,fun p hp=>?_,tracked ⟨oL,hoL,I.free⟩ hs,by simpa using I.len⟩ ⟨_,hs,.inl rfl⟩
  ·exact (hs.2 b (Iz (Ir (Ij e) I.ok.above))).trans (I.base.keep b o e n hb hx)
  ·obtain ⟨sl,e1⟩:=I.base.slot b o e n hb hx;exact ⟨sl,(hs.2 b (Iz (Ir (Ij e) I.ok.above))).trans e1⟩
  ·obtain ⟨o',e1⟩:=I.base.there b o e hx;exact ⟨o',(hs.2 b (Iz (Ir (Ij e) I.ok.above))).trans e1⟩
  ·by_cases hj:j=i
   ·subst hj;rw [hi] at e1;cases e1;rw [Iv hiZ] at e2;cases e2;exact ⟨u,r,.inl ⟨hk,by simp⟩⟩
   ·rw [Ig (Ne.symm hj)] at e2;obtain ⟨u',r',q⟩:=hl j y v' e1 e2 e3;refine ⟨u',r',?_⟩;rcases q with ⟨k,e⟩ | ⟨k,c,e,z⟩
    ·refine .inl ⟨k,?_⟩;have:y≠x:=fun e=>hj (oO hN e1 (e▸hi));simp [this,e]
    ·exact .inr ⟨k,c,e,z.sameBut hs (cne y c e)⟩
  ·obtain ⟨w',z⟩:=I.cell y c e;exact ⟨w',z.sameBut hs (cne y c e)⟩
  ·obtain ⟨e,n,ne,nf,d⟩:=I.pin p hp;exact ⟨(hs.2 p.1 ne).trans e,n,ne,nf,d⟩
 ·have hfn:X.fn x=true:=by
   rcases hf with z | z
   ·exact z
   ·rw [z] at hk;cases hk
  obtain ⟨c,hc⟩:=I.ok.has x (.inl hk);obtain ⟨w',z⟩:=I.cell x c hc;refine wpAny_storeName_cell I.ok.kind hk hc z (fun h' hc' hs=>?_);obtain ⟨oc,hoc,hocd⟩:=id z;refine h { s with heap:=h' } ⟨I.ok,I.os,I.bare,⟨fun b o e n hb hx=>?_,fun b o e n hb hx=>?_,I.base.free,fun b o e hx=>?_,I.base.oQ,I.base.ll,I.base.kC⟩,⟨m,hn.sameBut hs (Ne.symm (cne x c hc)),fun j y v' e1 e2 e3=>?_⟩,fun y c' e=>?_,I.free,I.et,fun p hp=>?_,tracked ⟨oc,hoc,I.et x c hc⟩ hs,by simpa using I.len⟩ ⟨c,hs,.inr hc⟩
  ·exact (hs.2 b (Iz (Ir (Ij e) (I.ok.cab x c hfn hc)))).trans (I.base.keep b o e n hb hx)
  ·obtain ⟨sl,e1⟩:=I.base.slot b o e n hb hx;exact ⟨sl,(hs.2 b (Iz (Ir (Ij e) (I.ok.cab x c hfn hc)))).trans e1⟩
  ·obtain ⟨o',e1⟩:=I.base.there b o e hx;exact ⟨o',(hs.2 b (Iz (Ir (Ij e) (I.ok.cab x c hfn hc)))).trans e1⟩
  ·by_cases hj:j=i
   ·subst hj;rw [hi] at e1;cases e1;rw [Iv hiZ] at e2;cases e2;exact ⟨u,r,.inr ⟨.inl hk,c,hc,hc'⟩⟩
   ·rw [Ig (Ne.symm hj)] at e2;obtain ⟨u',r',q⟩:=hl j y v' e1 e2 e3;refine ⟨u',r',?_⟩;rcases q with q | ⟨k,c',e,z'⟩
    ·exact .inl q
    ·refine .inr ⟨k,c',e,z'.sameBut hs ?_⟩;rintro rfl;exact hj (oO hN e1 (I.ok.inj _ _ _ e hc▸hi))
  ·by_cases hcc:c'=c
   ·subst hcc;exact ⟨_,hc'⟩
   ·obtain ⟨w2,z2⟩:=I.cell y c' e;exact ⟨w2,z2.sameBut hs hcc⟩
  ·obtain ⟨e,n,ne,nf,d⟩:=I.pin p hp;refine ⟨(hs.2 p.1 ?_).trans e,n,ne,nf,d⟩;intro q;rw [q,hoc] at e;have q':oc=p.2:=Jm e;exact d w' (by rw [<- q'];exact hocd)
theorem nY {M:Model} {A:Around} {E:Value->Shared->Prop} {i:Nat} {x:Str} {v:V} {u:Value} {Q:Unit->Shared->Prop} (I:Inv X pins Z H s) (hN:X.N.Nodup) (hi:X.N[i]?=some x) (hx:Loc X.env.scope x) (r:RelV v u)
  (h:∀ s',Inv X pins (Z.set i (some v)) H s'->Q () s') (hf:X.fn x=true\/X.env.scope.names.lookup x=some .local:=by first | exact .inl rfl | exact .inr rfl | assumption):wpAny M A (storeName X.env x u) Q E s :=
 rK I hN hi hx r (fun s' I' _=>h s' I') hf
end
abbrev XK:=Value->Option Addr->Hp->Prop
abbrev St:=List (Option V)
abbrev VK:=V->Hp->Prop
abbrev TE:=St->Hp->VK->Prop
abbrev TT:=St->Hp->(Bool->Hp->Prop)->Prop
abbrev TA:=St->Hp->(List V->Hp->Prop)->Prop
structure Ends where
 nx:St->Hp->Prop
 rt:VK
 bk:St->Hp->Prop:=fun _ _=>False
 ct:St->Hp->Prop:=fun _ _=>False
abbrev TS:=Ends->St->Hp->Prop
def EP (X:Cx) (pins:List (Addr×Obj)) (Z:St) (Q:VK) (u:Value) (s':Shared):Prop:=∃ v H',Inv X pins Z H' s'/\RelV v u/\Q v H'
def TP (X:Cx) (pins:List (Addr×Obj)) (Z:St) (Q:Bool->Hp->Prop) (b:Bool) (s':Shared):Prop:=∃ H',Inv X pins Z H' s'/\Q b H'
def AP (X:Cx) (pins:List (Addr×Obj)) (Z:St) (Q:List V->Hp->Prop) (us:List Value) (s':Shared):Prop:=∃ vs H',Inv X pins Z H' s'/\Vals vs us/\Q vs H'
def SP (X:Cx) (pins:List (Addr×Obj)) (D:Ends) (f:Flow) (s':Shared):Prop :=
 match f with
 | .next=>∃ Z' H',Inv X pins Z' H' s'/\D.nx Z' H'
 | .brk=>∃ Z' H',Inv X pins Z' H' s'/\D.bk Z' H'
 | .cont=>∃ Z' H',Inv X pins Z' H' s'/\D.ct Z' H'
 | .ret u=>∃ v Z' H',Inv X pins Z' H' s'/\RelV v u/\D.rt v H'
def PE (X:Cx) (e:Expr) (t:TE):Prop :=
 ∀ (pins:List (Addr×Obj)) (s:Shared) (Z:St) (H:Hp) (Q:VK),Inv X pins Z H s->t Z H Q->wpAny (model X.prog X.w) X.A (eval e X.env) (EP X pins Z Q) X.xe s
def PT (X:Cx) (e:Expr) (t:TT):Prop :=
 ∀ (pins:List (Addr×Obj)) (s:Shared) (Z:St) (H:Hp) (Q:Bool->Hp->Prop),Inv X pins Z H s->t Z H Q->wpAny (model X.prog X.w) X.A (isTrue e X.env (eval e X.env)) (TP X pins Z Q) X.xe s
def PW (X:Cx) (e:Expr) (t:TT):Prop :=
 ∀ (whole:Sem Value) (pins:List (Addr×Obj)) (s:Shared) (Z:St) (H:Hp) (Q:Bool->Hp->Prop),Inv X pins Z H s->t Z H Q->wpAny (model X.prog X.w) X.A (isTrue e X.env whole) (TP X pins Z Q) X.xe s
theorem PW.pt {X:Cx} {e:Expr} {t:TT} (h:PW X e t):PT X e t:=h _
def PA (X:Cx) (es:List Expr) (t:TA):Prop :=
 ∀ (pos:Pos) (pins:List (Addr×Obj)) (s:Shared) (Z:St) (H:Hp) (Q:List V->Hp->Prop),Inv X pins Z H s->t Z H Q->wpAny (model X.prog X.w) X.A (spliced (backTo pos (starEach es X.env))) (AP X pins Z Q) X.xe s
def PS (X:Cx) (st:Stmt) (t:TS):Prop :=
 ∀ (pins:List (Addr×Obj)) (s:Shared) (Z:St) (H:Hp) (D:Ends),Inv X pins Z H s->t D Z H->wpAny (model X.prog X.w) X.A (exec st X.env) (SP X pins D) X.xe s
def PSs (X:Cx) (st:List Stmt) (t:TS):Prop :=
 ∀ (pins:List (Addr×Obj)) (s:Shared) (Z:St) (H:Hp) (D:Ends),Inv X pins Z H s->t D Z H->wpAny (model X.prog X.w) X.A (execs st X.env) (SP X pins D) X.xe s
theorem thn {α:Type} {t:Sem α} {Q Q':α->Shared->Prop} {M:Model} {A:Around} {E:Value->Shared->Prop} {s:Shared} (h:wpAny M A t Q E s) (hQ:∀ a s,Q a s->Q' a s):wpAny M A t Q' E s:=Jd h hQ fun _ _ x=>x
end L2
namespace L2
open PySem PySem.Spec PyProof.Rows
section
variable {X:Cx}
theorem bin {a b:Expr} {ta tb:TE} (ha:PE X a ta) (hb:PE X b tb) {pins:List (Addr×Obj)} {s:Shared} {Z:St} {H:Hp} {R:V->V->Hp->Prop} (I:Inv X pins Z H s) (h:ta Z H fun x H1=>tb Z H1 fun y H2=>R x y H2)
  {α:Type} {Q:α->Shared->Prop} {f:Value->Value->Sem α}
  (hf:∀ v u s2 x y H2,Inv X pins Z H2 s2->RelV x v->RelV y u->R x y H2->wpAny (model X.prog X.w) X.A (f v u) Q X.xe s2) :
  wpAny (model X.prog X.w) X.A (eval a X.env) (fun v ZW=>wpAny (model X.prog X.w) X.A (eval b X.env) (fun u ZU=>wpAny (model X.prog X.w) X.A (f v u) Q X.xe ZU) X.xe ZW) X.xe s:=by
 refine thn (ha pins s Z H _ I h) fun v s1 ⟨x,H1,I1,r1,q1⟩=>?_;refine thn (hb pins s1 Z H1 _ I1 q1) fun u s2 ⟨y,H2,I2,r2,q2⟩=>?_;exact hf v u s2 x y H2 I2 r1 r2 q2
def aj (i:Nat):TE:=fun Z H Q=>∃ v,Z[i]?=some (some v)/\Q v H
def tC (v:V):TE:=fun _ H Q=>Q v H
theorem qk {i:Nat} {x:Str} {pos:Pos} (hN:X.N[i]?=some x) (hv:Vis X.env.scope x) (hd:(x==("__debug__" : Str))=false:=by decide) (hcd:(x==("__classdict__" : Str))=false:=by decide):PE X (.Name x pos) (aj i):=by
 intro pins s Z H Q I h;obtain ⟨v,e,h⟩:=h;obtain ⟨m,hn,hl⟩:=I.loc;obtain ⟨u,r,l⟩:=hl i x v hN e hv;have fin:EP X pins Z Q u s:=⟨v,H,I,r,h⟩;rcases l with ⟨hk,hm⟩ | ⟨hk,c,hc,hcell⟩
 ·exact wpAny_Name (wpAny_loadName_local I.ok.kind hk hn hm fin) hd
 ·rcases hk with hk | hk
  ·exact wpAny_Name (wpAny_loadName_cell I.ok.kind hk hc hcell fin) hd
  ·exact wpAny_Name (wpAny_loadName_free I.ok.kind hk hc hcell fin hcd) hd
theorem Ba {i j pos}:PE X (.Constant (.int i) j pos) (tC (.int i)):=fun _ _ _ H _ I h=>wpAny_Constant_int ⟨.int i,H,I.tok _,⟨_,rfl⟩,h⟩
theorem DD {b j pos}:PE X (.Constant (.bool b) j pos) (tC (.bl b)):=fun _ _ _ H _ I h=>Constant_bool ⟨.bl b,H,I,rfl,h⟩
theorem zw {j pos}:PE X (.Constant .none j pos) (tC .non):=fun _ _ _ H _ I h=>Constant_none ⟨.non,H,I,rfl,h⟩
theorem zU {x j pos}:PE X (.Constant (.str x) j pos) (tC (.str x)):=fun _ _ _ H _ I h=>Calls.Constant_str ⟨.str x,H,I.tok _,⟨_,rfl⟩,h⟩
def Gl (X:Cx) (x:Str):Prop:=X.env.kindOf x=some .globalImplicit
theorem mD {E:Value->Shared->Prop} {pins:List (Addr×Obj)} {s:Shared} {Z:St} {H:Hp} {x:Str} {u:Value} {pos:Pos} {Q:Value->Shared->Prop} (I:Inv X pins Z H s) (hg:Gl X x) (hm:X.mg x=some u) (h:Q u s)
  (hd:(x==("__debug__" : Str))=false:=by decide):wpAny (model X.prog X.w) X.A (eval (.Name x pos) X.env) Q E s :=
 Calls.Name_function_global I.ok.kind hg (Calls.loadGlobal_global (by rw [I.ok.glob];exact I.mod.glob.keeps I.bk) hm h) hd
theorem jT {E:Value->Shared->Prop} {pins:List (Addr×Obj)} {s:Shared} {Z:St} {H:Hp} {x:Str} {u:Value} {pos:Pos} {Q:Value->Shared->Prop} (I:Inv X pins Z H s) (hg:Gl X x) (hm:X.mg x=none) (hv:bootBuiltins x=some u) (h:Q u s)
  (hn:x ≠ "__name__" := by decide) (hd:(x==("__debug__" : Str))=false:=by decide):wpAny (model X.prog X.w) X.A (eval (.Name x pos) X.env) Q E s:=by
 obtain ⟨mb,h1,h2⟩:=I.mod.blt;exact Calls.Name_function_global I.ok.kind hg (Calls.loadGlobal_builtin (by rw [I.ok.glob];exact I.mod.glob.keeps I.bk) hm (by rw [I.ok.blt];exact h1.keeps I.bk) ((h2 x hn).trans hv) h) hd
theorem yw {x:Str} {v:V} {u:Value} {pos:Pos} (hg:Gl X x) (hm:X.mg x=some u) (r:RelV v u) (hd:(x==("__debug__" : Str))=false:=by decide):PE X (.Name x pos) (tC v) :=
 fun _ _ _ H _ I h=>mD I hg hm ⟨v,H,I,r,h⟩ hd
theorem yC {x:Str} {v:V} {u:Value} {pos:Pos} (hg:Gl X x) (hm:X.mg x=none) (hv:bootBuiltins x=some u) (r:RelV v u) (hn:x ≠ "__name__" := by decide) (hd:(x==("__debug__" : Str))=false:=by decide):PE X (.Name x pos) (tC v) :=
 fun _ _ _ H _ I h=>jT I hg hm hv ⟨v,H,I,r,h⟩ hn hd
variable {a b:Expr} {ta tb:TE} {pos:Pos}
def PC (X:Cx) (op:CmpOp) (a b:Expr) (t:TE):Prop :=
 ∀ (pins:List (Addr×Obj)) (s:Shared) (Z:St) (H:Hp) (Q:VK),Inv X pins Z H s->t Z H Q ->
  wpAny (model X.prog X.w) X.A (eval a X.env) (fun v ZW=>wpAny (model X.prog X.w) X.A (eval b X.env) (fun u ZU=>wpAny (model X.prog X.w) X.A (compareOp op v u) (EP X pins Z Q) X.xe ZU) X.xe ZW) X.xe s
theorem um (b:Expr) {op:CmpOp} (h:op≠.In) (h2:op≠.NotIn):behindInMarks op b=false:=by
 have e1:(op==CmpOp.In)=false:=by cases op <;> first | rfl | exact absurd rfl h
 have e2:(op==CmpOp.NotIn)=false:=by cases op <;> first | rfl | exact absurd rfl h2
 cases b <;> simp [behindInMarks,e1,e2]
def tB (t:TE):TT:=fun Z H Q=>t Z H fun x H1=>∃ c,x=.bl c/\Q c H1
theorem GU {op:CmpOp} {t:TE} (h:PC X op a b t) (h1:behindInMarks op b=false:=by first | exact um _ (by decide) (by decide) | rfl):PT X (.Compare a [op] [b] pos) (tB t):=by
 intro pins s Z H Q I hw;refine wpAny_isTrue_Compare1 (thn (h pins s Z H _ I hw) fun v s1 h1=>thn h1 fun u s2 h2=>thn h2 fun c s3 ⟨x,H1,I1,r1,q1⟩=>?_) h1;obtain ⟨d,rfl,q⟩:=q1;cases r1;exact JQ ⟨H1,I1,q⟩
theorem z8 {e:Expr} {t:TE} (h:PE X e t) (he:∀ whole,isTrue e X.env whole=(do let v<-whole;standAt e.pos;holding [v] (truthy v)):=by intro _;rfl):PT X e (tB t):=by
 intro pins s Z H Q I hw;refine isTrue_plain (thn (h pins s Z H _ I hw) fun v s1 ⟨x,H1,I1,r1,q1⟩=>?_) (he _);obtain ⟨d,rfl,q⟩:=q1;cases r1;exact JQ ⟨H1,I1,q⟩
variable {tA tB':TT} {rest:List Expr}
def z7 (t u:TT):TT:=fun Z H Q=>t Z H fun c H1=>if c=true then u Z H1 Q else Q false H1
def tOr (t u:TT):TT:=fun Z H Q=>t Z H fun c H1=>if c=true then Q true H1 else u Z H1 Q
def pJ (t:TT):TT:=fun Z H Q=>t Z H fun c H1=>Q (!c) H1
theorem pw_and1 (ha:PT X a tA):PW X (.BoolOp .And [a] pos) tA:=by
 intro wh pins s Z H Q I h;refine isTrue_and (thn (ha pins s Z H Q I h) fun c s1 e=>?_);cases c with
 | true=>exact isTrue_and_nil e
 | false=>exact e
theorem pw_or1 (ha:PT X a tA):PW X (.BoolOp .Or [a] pos) tA:=by
 intro wh pins s Z H Q I h;refine isTrue_or (thn (ha pins s Z H Q I h) fun c s1 e=>?_);cases c with
 | false=>exact isTrue_or_nil e
 | true=>exact e
theorem pw_and (ha:PT X a tA) (hb:PW X (.BoolOp .And (b :: rest) pos) tB'):PW X (.BoolOp .And (a :: b :: rest) pos) (z7 tA tB'):=by
 intro wh pins s Z H Q I h;refine isTrue_and (thn (ha pins s Z H _ I h) fun c s1 ⟨H1,I1,q1⟩=>?_);cases c with
 | true=>exact hb wh pins s1 Z H1 Q I1 q1
 | false=>exact ⟨H1,I1,q1⟩
theorem pw_or (ha:PT X a tA) (hb:PW X (.BoolOp .Or (b :: rest) pos) tB'):PW X (.BoolOp .Or (a :: b :: rest) pos) (tOr tA tB'):=by
 intro wh pins s Z H Q I h;refine isTrue_or (thn (ha pins s Z H _ I h) fun c s1 ⟨H1,I1,q1⟩=>?_);cases c with
 | true=>exact ⟨H1,I1,q1⟩
 | false=>exact hb wh pins s1 Z H1 Q I1 q1
theorem AK (ha:PT X a tA):PT X (.UnaryOp .Not a pos) (pJ tA):=by
 intro pins s Z H Q I h;exact isTrue_not (ha pins s Z H (fun c H1=>Q (!c) H1) I h)
def xk (ta tb:TE):TE:=fun Z H Q=>ta Z H fun x H1=>∃ c,x=.bl c/\if c=true then tb Z H1 Q else Q (.bl false) H1
def HU (ta tb:TE):TE:=fun Z H Q=>ta Z H fun x H1=>∃ c,x=.bl c/\if c=true then Q (.bl true) H1 else tb Z H1 Q
def x6 (ta:TE):TE:=fun Z H Q=>ta Z H fun x H1=>∃ c,x=.bl c/\Q (.bl (!c)) H1
theorem BA {op} {t:TE} (h:PE X a t):PE X (.BoolOp op [a] pos) t:=fun pins s Z H Q I hw=>BoolOp_one (h pins s Z H Q I hw)
theorem CL (ha:PE X a ta) (hb:PE X (.BoolOp .And (b :: rest) pos) tb):PE X (.BoolOp .And (a :: b :: rest) pos) (xk ta tb):=by
 intro pins s Z H Q I h;refine BoolOp_and (thn (ha pins s Z H _ I h) fun v s1 ⟨x,H1,I1,r1,q1⟩=>?_);obtain ⟨c,rfl,q1⟩:=q1;cases r1;refine JQ ?_;cases c with
 | true=>exact hb pins s1 Z H1 Q I1 q1
 | false=>exact ⟨.bl false,H1,I1,rfl,q1⟩
theorem BM (ha:PE X a ta):PE X (.UnaryOp .Not a pos) (x6 ta):=by
 intro pins s Z H Q I h;refine UnaryOp_ (thn (ha pins s Z H _ I h) fun v s1 ⟨x,H1,I1,r1,q1⟩=>?_);obtain ⟨c,rfl,q1⟩:=q1;cases r1;exact not_of (JQ ⟨.bl (!c),H1,I1,rfl,q1⟩)
def tIf (t:TT) (ta tb:TE):TE:=fun Z H Q=>t Z H fun c H1=>if c=true then ta Z H1 Q else tb Z H1 Q
theorem vm {c:Expr} (hc:PT X c tA) (ha:PE X a ta) (hb:PE X b tb):PE X (.IfExp c a b pos) (tIf tA ta tb):=by
 intro pins s Z H Q I h;refine wpAny_IfExp (thn (hc pins s Z H _ I h) fun d s1 ⟨H1,I1,q1⟩=>?_);cases d with
 | true=>exact ha pins s1 Z H1 Q I1 q1
 | false=>exact hb pins s1 Z H1 Q I1 q1
end
end L2
namespace L2
open PySem PySem.Spec PyProof.Rows
def SqL (K:Fg) (H:Hp) (a:Addr) (xs:List V):Prop :=
 Rd H a (.lst xs) \/
  ∃ (o:Obj) (its:Array Value) (n:Nat),K.lookup a=some o/\o.cls=.type "list" /\ o.dict=none/\o.data=.seq its n/\its.size<=sizeLine/\Vals xs its.toList
def SqT (K:Fg) (H:Hp) (a:Addr) (xs:List V):Prop :=
 Rd H a (.tup xs) \/
  ∃ (o:Obj) (its:Array Value) (n:Nat),K.lookup a=some o/\o.cls=.type "tuple" /\ o.data=.seq its n/\its.size<=sizeLine/\Vals xs its.toList
noncomputable def HN:Value->Option V
 | .none=>some .non
 | .bool b=>some (.bl b)
 | .int i _=>some (.int i)
 | .str x _=>some (.str x)
 | .bytes b _=>some (.byt b)
 | .float b _=>some (.flt b)
 | .ref a=>some (.ref a)
 | .type n=>some (.ty n)
 | _=>none
theorem RelV.abs {x:V} {u:Value} (r:RelV x u):HN u=some x:=by
 cases x with
 | non=>cases r;rfl
 | bl _=>cases r;rfl
 | int _=>obtain ⟨t,rfl⟩:=r;rfl
 | str _=>obtain ⟨t,rfl⟩:=r;rfl
 | byt _=>obtain ⟨t,rfl⟩:=r;rfl
 | flt _=>obtain ⟨t,rfl⟩:=r;rfl
 | ref _=>cases r;rfl
 | ty _=>cases r;rfl
theorem RelV.inj {x y:V} {u:Value} (r:RelV x u) (q:RelV y u):x=y:=Jm (r.abs.symm.trans q.abs)
theorem Vals.inj:∀ {xs ys:List V} {us:List Value},Vals xs us->Vals ys us->xs=ys
 | _,_,_,.nil,.nil=>rfl
 | _,_,_,.cons r t,.cons r' t'=>by rw [r.inj r',Vals.inj t t']
section
variable {X:Cx} {pins:List (Addr×Obj)} {Z:St} {H:Hp} {s:Shared} {a:Addr} {xs ys:List V}
theorem SqT.of {K:Fg} (h:H a=some (.tup xs)):SqT K H a xs:=.inl (.inl h)
theorem Inv.list (I:Inv X pins Z H s) (h:SqL X.K H a xs):∃ its:List Value,Vals xs its/\PlainL s.heap a its.toArray/\xs.length<=sizeLine:=by
 rcases h with h | ⟨o,its,n,hk,hc,hd,hs,hz,r⟩
 ·obtain ⟨z,its,n,r,e⟩:=h.ok I.hok;exact ⟨its,r,⟨_,n,e,rfl,rfl,rfl⟩,z⟩
 ·refine ⟨its.toList,r,⟨o,n,I.kIn a o hk,hc,hd,by simpa using hs⟩,?_⟩;have e:=r.length;simp only [Jn] at e;omega
theorem Inv.tuple (I:Inv X pins Z H s) (h:SqT X.K H a xs):∃ its:List Value,Vals xs its/\IsTup s.heap a its.toArray/\xs.length<=sizeLine:=by
 rcases h with h | ⟨o,its,n,hk,hc,hs,hz,r⟩
 ·obtain ⟨z,its,r,p⟩:=h.ok I.hok;exact ⟨its,r,p,z⟩
 ·refine ⟨its.toList,r,⟨o,I.kIn a o hk,hc,n,by simpa using hs⟩,?_⟩;have e:=r.length;simp only [Jn] at e;omega
theorem Inv.uy (I:Inv X pins Z H s) (h:SqL X.K H a xs) (h':SqL X.K H a ys):xs=ys:=by
 obtain ⟨its,r,⟨o,n,e,_,_,d⟩,_⟩:=I.list h;obtain ⟨its',r',⟨o',n',e',_,_,d'⟩,_⟩:=I.list h';rw [e] at e';cases e';rw [d] at d';injection d' with d1 _;have:its=its':=by simpa using congrArg Array.toList d1
 subst this;exact r.inj r'
theorem Inv.tL (I:Inv X pins Z H s) (h:SqT X.K H a xs) (h':SqT X.K H a ys):xs=ys:=by
 obtain ⟨its,r,⟨o,e,_,n,d⟩,_⟩:=I.tuple h;obtain ⟨its',r',⟨o',e',_,n',d'⟩,_⟩:=I.tuple h';rw [e] at e';cases e';rw [d] at d';injection d' with d1 _;have:its=its':=by simpa using congrArg Array.toList d1
 subst this;exact r.inj r'
end
abbrev Cx.ue (X:Cx) (E:Value->Shared->Prop):Cx:={ X with xe:=E }
abbrev Cx.nox (X:Cx):Cx:=X.ue fun _ _=>False
theorem Cx.Ok.ue {X:Cx} (ok:X.Ok) (E:Value->Shared->Prop):(X.ue E).Ok :=
 ⟨ok.mod,ok.kind,ok.glob,ok.blt,ok.above,ok.inj,ok.has,ok.cab,ok.hd,ok.frames,ok.stk,ok.exf,ok.bs,ok.bsz,ok.zj,ok.Dt,ok.mT,ok.frf,ok.tabs⟩
theorem Cx.Ok.gu {X:Cx} {E:Value->Shared->Prop} (ok:(X.ue E).Ok):X.Ok :=
 ⟨ok.mod,ok.kind,ok.glob,ok.blt,ok.above,ok.inj,ok.has,ok.cab,ok.hd,ok.frames,ok.stk,ok.exf,ok.bs,ok.bsz,ok.zj,ok.Dt,ok.mT,ok.frf,ok.tabs⟩
section
variable {X:Cx} {pins:List (Addr×Obj)} {Z:St} {H:Hp} {s:Shared} {E:Value->Shared->Prop}
theorem Inv.ue (I:Inv X pins Z H s) (E:Value->Shared->Prop):Inv (X.ue E) pins Z H s:=⟨I.ok.ue E,I.os,I.bare,I.base,I.loc,I.cell,I.free,I.et,I.pin,I.hok,I.len⟩
theorem Inv.gu (I:Inv (X.ue E) pins Z H s):Inv X pins Z H s:=⟨I.ok.gu,I.os,I.bare,I.base,I.loc,I.cell,I.free,I.et,I.pin,I.hok,I.len⟩
theorem SP.gu {D:Ends} {f:Flow} {s':Shared} (h:SP (X.ue E) pins D f s'):SP X pins D f s':=by
 cases f with
 | next=>obtain ⟨Z',H',I,q⟩:=h;exact ⟨Z',H',I.gu,q⟩
 | brk=>obtain ⟨Z',H',I,q⟩:=h;exact ⟨Z',H',I.gu,q⟩
 | cont=>obtain ⟨Z',H',I,q⟩:=h;exact ⟨Z',H',I.gu,q⟩
 | ret u=>obtain ⟨v,Z',H',I,r,q⟩:=h;exact ⟨v,Z',H',I.gu,r,q⟩
theorem PSs.nox {st:List Stmt} {t:TS} (h:PSs X.nox st t):PSs X st t:=fun pins s Z H D I hw =>
 Jd (h pins s Z H D (I.ue _) hw) (fun _ _ q=>q.gu) fun _ _ z=>False.elim z
end
section
variable {X:Cx} {st:Stmt} {rest:List Stmt} {t u:TS} {e:Expr} {te:TE} {pos:Pos}
def fU:TS:=fun D Z H=>D.nx Z H
def fI (t u:TS):TS:=fun D Z H=>t { D with nx:=u D } Z H
theorem xh:PSs X [] fU:=fun _ _ Z H _ I h=>wpAny_execs_nil ⟨Z,H,I,h⟩
theorem vE (h1:PS X st t) (h2:PSs X rest u):PSs X (st :: rest) (fI t u):=by
 intro pins s Z H D I h;refine wpAny_execs_cons (thn (h1 pins s Z H { D with nx:=u D } I h) fun f s1 q=>?_);cases f with
 | next =>
  obtain ⟨Z',H',I',q⟩:=q;exact h2 pins s1 Z' H' D I' q
 | ret v=>exact q
 | brk=>exact q
 | cont=>exact q
theorem xN (h1:PS X st t):PSs X [st] t:=by
 intro pins s Z H D I h;refine wpAny_execs_cons (thn (h1 pins s Z H D I h) fun f s1 q=>?_);cases f with
 | next=>exact wpAny_execs_nil q
 | ret v=>exact q
 | brk=>exact q
 | cont=>exact q
def Bs:TS:=fun D Z H=>D.bk Z H
def DE:TS:=fun D Z H=>D.ct Z H
theorem Inv.quiet {pins:List (Addr×Obj)} {Z:St} {H:Hp} {s:Shared} (I:Inv X pins Z H s):interactive X.env=false:=by simp [interactive,I.ok.kind]
def uz (te:TE):TS:=fun D Z H=>te Z H fun _ H1=>D.nx Z H1
theorem xn (he:PE X e te) (hs:swapsWith e none pos.line X.env=pure false:=by rfl):PS X (.Expr e pos) (uz te):=by
 intro pins s Z H D I h;exact wpAny_Expr_any (thn (he pins s Z H _ I h) fun v s1 ⟨x,H1,I1,r1,q1⟩=>⟨Z,H1,I1,q1⟩) I.quiet hs
def jH (te:TE):TS:=fun D Z H=>te Z H D.rt
theorem Bv (he:PE X e te):PS X (.Return (some e) pos) (jH te):=by
 intro pins s Z H D I h;exact wpAny_Return_some (thn (he pins s Z H _ I h) fun v s1 ⟨x,H1,I1,r1,q1⟩=>⟨x,Z,H1,I1,r1,q1⟩)
def EL:TS:=fun D _ H=>D.rt .non H
def pV (c:TT) (t u:TS):TS:=fun D Z H=>c Z H fun b H1=>if b=true then t D Z H1 else u D Z H1
theorem FN {c:Expr} {a b:List Stmt} {tc:TT} (hc:PT X c tc) (ha:PSs X a t) (hb:PSs X b u):PS X (.If c a b pos) (pV tc t u):=by
 intro pins s Z H D I h;refine wpAny_If (thn (hc pins s Z H _ I h) fun d s1 ⟨H1,I1,q1⟩=>?_);cases d with
 | true=>exact ha pins s1 Z H1 D I1 q1
 | false=>exact hb pins s1 Z H1 D I1 q1
def wR:TS:=fun _ _ _=>False
end
abbrev TG:=V->St->Hp->(St->Hp->Prop)->Prop
abbrev TGs:=List V->St->Hp->(St->Hp->Prop)->Prop
def PG (X:Cx) (target:Expr) (t:TG):Prop :=
 ∀ (pins:List (Addr×Obj)) (s:Shared) (Z:St) (H:Hp) (v:V) (u:Value) (Q:St->Hp->Prop),Inv X pins Z H s->RelV v u->t v Z H Q ->
  wpAny (model X.prog X.w) X.A (assign target X.env u) (fun _ s'=>∃ Z' H',Inv X pins Z' H' s'/\Q Z' H') X.xe s
def PGs (X:Cx) (ts:List Expr) (t:TGs):Prop :=
 ∀ (pins:List (Addr×Obj)) (s:Shared) (Z:St) (H:Hp) (vs:List V) (us:List Value) (Q:St->Hp->Prop),Inv X pins Z H s->Vals vs us->t vs Z H Q ->
  wpAny (model X.prog X.w) X.A (assignInOrder ((assignEach ts X.env).map (·.2)) us) (fun _ s'=>∃ Z' H',Inv X pins Z' H' s'/\Q Z' H') X.xe s
section
variable {X:Cx} {pos:Pos}
def aT (i:Nat):TG:=fun v Z H Q=>Q (Z.set i (some v)) H
theorem iC {i:Nat} {x:Str} (hN:X.N.Nodup) (hi:X.N[i]?=some x) (hx:Loc X.env.scope x) (hf:X.fn x=true\/X.env.scope.names.lookup x=some .local:=by first | exact .inl rfl | exact .inr rfl | assumption):PG X (.Name x pos) (aT i):=by
 intro pins s Z H v u Q I r h;exact wpAny_assign_Name (nY I hN hi hx r (fun s' I'=>⟨_,H,I',h⟩) hf)
def AM:TGs:=fun vs Z H Q=>vs=[]/\Q Z H
def mP (t:TG) (u:TGs):TGs:=fun vs Z H Q=>∃ v r,vs=v :: r/\t v Z H fun Z' H'=>u r Z' H' Q
theorem tF:PGs X [] AM:=by
 intro pins s Z H vs us Q I r h;obtain ⟨e,h⟩:=h;subst e;cases r;exact assignInOrder_nil ⟨Z,H,I,h⟩
theorem nN {e:Expr} {es:List Expr} {t:TG} {u:TGs} (h1:PG X e t) (h2:PGs X es u)
  (hs:(assignEach (e :: es) X.env).map (·.2)=assign e X.env :: (assignEach es X.env).map (·.2):=by rfl):PGs X (e :: es) (mP t u):=by
 intro pins s Z H vs us Q I r h;obtain ⟨v,vr,e1,h⟩:=h;subst e1;cases r with
 | cons r rr =>
  rw [hs];refine assignInOrder_cons (thn (h1 pins s Z H _ _ _ I r h) fun _ s1 ⟨Z1,H1,I1,q1⟩=>?_);exact h2 pins s1 Z1 H1 _ _ Q I1 rr q1
def zZ (K:Fg) (n:Nat) (t:TGs):TG:=fun v Z H Q=>∃ a xs,v=.ref a/\SqT K H a xs/\xs.length=n/\t xs Z H Q
theorem wu {es:List Expr} {k:Nat} {t:TGs} {n:Nat} (hc:X.calm=true) (h:PGs X es t)
  (hn:(assignEach es X.env).length=n:=by rfl) (hst:(assignEach es X.env).findIdx? (·.1)=none:=by rfl):PG X (.Tuple es k pos) (zZ X.K n t):=by
 intro pins s Z H v u Q I r hw;obtain ⟨a,xs,e1,hq,hl,hw⟩:=hw;subst e1;cases r;obtain ⟨its,rv,ht,hz⟩:=I.tuple hq;refine assign_Tuple_tuple (I.ok.hd hc) ht (by simp [hn,<-hl,rv.length]) hst fun h' hx=>?_;have I1:Inv X pins Z H { s with heap:=h' }:=I.kept (t':=s.toks) fun b o e=>hx b o (Iz (Ij e)) e;exact h pins _ Z H xs _ Q I1 (by simpa using rv) hw
def iM (te:TE) (g:TG):TS:=fun D Z H=>te Z H fun x H1=>g x Z H1 D.nx
theorem CG {i:Nat} {x:Str} {e:Expr} {te:TE} {pos':Pos} (hN:X.N.Nodup) (hi:X.N[i]?=some x) (hx:Loc X.env.scope x) (he:PE X e te) (hs:swapsWith e (some (.Name x pos')) pos.line X.env=pure false:=by rfl) (hf:X.fn x=true\/X.env.scope.names.lookup x=some .local:=by first | exact .inl rfl | exact .inr rfl | assumption) :
  PS X (.Assign [.Name x pos'] e pos) (iM te (aT i)):=by
 intro pins s Z H D I h;refine wpAny_Assign_Name (thn (he pins s Z H _ I h) fun v s1 ⟨y,H1,I1,r1,q1⟩=>?_) hs;exact nY I1 hN hi hx r1 (fun s2 I2=>⟨_,H1,I2,q1⟩) hf
end
section
variable {X:Cx} {pos:Pos}
def AN (c:TT) (tb:TS):TS:=fun D Z H=>∃ W:Nat->St->Hp->Prop,(∃ m,W m Z H)/\∀ m Z H,W m Z H ->
 c Z H fun b H1=>if b=true then ∃ N:St->Hp->Prop,(∀ Z' H',N Z' H'->∃ m',m' < m/\W m' Z' H')/\tb { D with nx:=N,ct:=N,bk:=D.nx } Z H1 else D.nx Z H1
end
structure It where
 go:Nat->Hp->Prop
 yld:Nat->Hp->V->Hp->Prop
 stop:Nat->Hp->Prop
def tG (X:Cx) (pins:List (Addr×Obj)) (H:Hp) (b:Addr):Prop :=
 H b=none/\b≠X.env.locals/\b ∉ X.fs/\(b∈X.ex\/X.ZO.heap.objs.size<=b)/\(∀ x c,X.env.cells.lookup x=some c->c≠b)/\∀ p∈X.pn++pins,p.1≠b
theorem Inv.Bw {X:Cx} {pins:List (Addr×Obj)} {Z:St} {H H':Hp} {s:Shared} {b:Addr} (I:Inv X pins Z H s) (hb:s.heap.objs.size<=b) (hn:H' b=none):tG X pins H' b:=by
 refine ⟨hn,Ju (Ir I.lt hb),I.Dx hb,.inr (IM I.sz hb),fun x c e z=>?_,fun p hp z=>?_⟩
 ·obtain ⟨v,q⟩:=I.cell x c e;exact absurd (Ir q.lt (by rw [z];exact hb)) (IU _)
 ·exact absurd (Ir (Ij (I.pin p hp).1) (by rw [z];exact hb)) (IU _)
structure Turn (P:Program) (w:World) (K:Fg) (tg:Expr) (J:It) (fp:List Addr) (it:Addr) (tn:Nat->Heap->Prop):Prop where
 mem:it∈fp
 obj:∀ i h,tn i h->∀ b∈fp,∃ o,h.get? b=some o/\∀ v,o.data≠.cell v
 keep:∀ i h h',tn i h->(∀ b∈fp,∀ o,h.get? b=some o->h'.get? b=some o)->tn i h'
 item:∀ (X:Cx),X.prog=P->X.w=w->X.K=K->X.calm=true->∀ (i:Nat) (pins:List (Addr×Obj)) (s:Shared) (Z:St) (H:Hp) (E:Value->Shared->Prop),Inv X pins Z H s->(∀ b∈fp,tG X pins H b)->tn i s.heap->J.go i H ->
  wpAny (model P w) X.A (pyNext (.ref it)) (fun r s1=>∃ u,r=some u /\
   wpAny (model P w) X.A (letOwnedTupleGo tg (.ref it) u) (fun _ s2=>∃ x H',Inv X pins Z H' s2/\RelV x u/\J.yld i H x H'/\tn (i+1) s2.heap/\∀ b∈fp,H' b=none) E s1) E s
 done:∀ (X:Cx),X.prog=P->X.w=w->X.K=K->X.calm=true->∀ (i:Nat) (pins:List (Addr×Obj)) (s:Shared) (Z:St) (H:Hp) (E:Value->Shared->Prop),Inv X pins Z H s->(∀ b∈fp,tG X pins H b)->tn i s.heap->J.stop i H ->
  wpAny (model P w) X.A (pyNext (.ref it)) (fun r s1=>r=none/\Inv X pins Z H s1) E s
 self:∀ (A:Around) (i:Nat) (s:Shared) (Q:Value->Shared->Prop) (E:Value->Shared->Prop),tn i s.heap->Q (.ref it) s->wpAny (model P w) A (pyIter (.ref it)) Q E s
abbrev TI:=St->Hp->(It->Hp->Prop)->Prop
def PIE (X:Cx) (pins:List (Addr×Obj)) (Z:St) (tg:Expr) (R:It->Hp->Prop) (itv:Value) (s2:Shared):Prop :=
 ∃ (it:Addr) (fp:List Addr) (tn:Nat->Heap->Prop) (J:It) (H':Hp),itv=.ref it/\Inv X pins Z H' s2/\Turn X.prog X.w X.K tg J fp it tn/\tn 0 s2.heap/\(∀ b∈fp,tG X pins H' b)/\R J H'
def PI (X:Cx) (tg iter:Expr) (wi:TI):Prop :=
 ∀ (pins:List (Addr×Obj)) (s:Shared) (Z:St) (H:Hp) (R:It->Hp->Prop),Inv X pins Z H s->wi Z H R ->
  wpAny (model X.prog X.w) X.A (eval iter X.env) (fun v s1=>wpAny (model X.prog X.w) X.A (pyIter v) (PIE X pins Z tg R) X.xe s1) X.xe s
theorem vb {M:Model} {A:Around} {E:Value->Shared->Prop} {s:Shared} {tg:Expr} {it:Addr} {u:Value} {o:Obj} {n:String} {vs:Array Value} {Q:Unit->Shared->Prop} (ho:s.heap.get? it=some o) (hc:o.cls=.type n) (hd:o.data=.fields vs)
    (hn:["enumerate", "zip", "dict_itemiterator", "dict_reverseitemiterator", "odict_iterator", "itertools.zip_longest", "itertools.pairwise"].contains n=false) (hQ:Q () s):wpAny M A (letOwnedTupleGo tg (.ref it) u) Q E s:=by
  unfold letOwnedTupleGo;cases tg <;> first
    | exact Ib hQ
    | (cases u <;> first
        | exact Ib hQ
        | (refine H9 (wpAny_load ho ?_)
           rw [hc,hd];show wpAny M A (if (["enumerate", "zip", "dict_itemiterator", "dict_reverseitemiterator", "odict_iterator", "itertools.zip_longest", "itertools.pairwise"].contains n&&vs[0]?==some (rawInt _))=true then _ else _) Q E s;rw [ID (by intro h;rw [hn,II] at h;cases h)]
           exact Ib hQ))
def Itl (K:Fg) (a:Addr):It :=
 ⟨fun i H=>∃ xs x,SqL K H a xs/\xs[i]?=some x,fun i H x H'=>H'=H/\∀ xs,SqL K H a xs->xs[i]?=some x,fun i H=>∃ xs,SqL K H a xs/\xs.length<=i⟩
def Itt (K:Fg) (a:Addr):It :=
 ⟨fun i H=>∃ xs x,SqT K H a xs/\xs[i]?=some x,fun i H x H'=>H'=H/\∀ xs,SqT K H a xs->xs[i]?=some x,fun i H=>∃ xs,SqT K H a xs/\xs.length<=i⟩
def Itr (lo:Int) (n:Nat):It:=⟨fun i _=>i < n,fun i H x H'=>H'=H/\x=.int (lo+i),fun i _=>n<=i⟩
theorem tH {P:Program} {w:World} {K:Fg} {tg:Expr} (a it:Addr):Turn P w K tg (Itl K a) [it] it (fun i h=>h.IsListIter it a i) where
 mem:=by simp
 obj:=fun i h st b hb=>by
  have e:b=it:=by simpa using hb
  subst e;obtain ⟨o,e,c,d⟩:=st;exact ⟨o,e,fun v z=>by rw [d] at z;cases z⟩
 keep:=fun i h h' st k=>st.at fun o e=>k it (by simp) o e
 item:=by
  intro X hP hw hK hc i pins s Z H E I hf st hg;subst hP hw hK;obtain ⟨xs,x,hq,hx⟩:=hg;obtain ⟨its,rv,p,hz⟩:=I.list hq;obtain ⟨u,hu,ru⟩:=rv.get hx;obtain ⟨f0,f1,f2,f3,f4,f5⟩:=hf it (by simp);refine wpAny_pyNext_list_item st p.isList (x:=u) (by simpa using hu) fun h' st' sb=>?_;have I1:Inv X pins Z H { s with heap:=h' }:=I.turned (t':=s.toks) (fun b o hb e=>(sb.2 b hb).trans e) f0 f1 f3 f4 f5;obtain ⟨o,e,c,d⟩:=id st';exact ⟨u,rfl,vb (s:={ s with heap:=h' }) e c d (by decide) ⟨x,H,I1,ru,⟨rfl,fun ys hy=>by rw [I.uy hy hq];exact hx⟩,st',fun b hb=>(hf b hb).1⟩⟩
 done:=by
  intro X hP hw hK hc i pins s Z H E I hf st hg;subst hP hw hK;obtain ⟨xs,hq,hx⟩:=hg;obtain ⟨its,rv,p,hz⟩:=I.list hq;obtain ⟨f0,f1,f2,f3,f4,f5⟩:=hf it (by simp);have hl:=rv.length;exact wpAny_pyNext_list_end (I.ok.hd hc) st p.isList (by simp;omega) fun h' eb=>⟨rfl,I.turned (t':=s.toks) (fun b o hb e=>eb b o hb e) f0 f1 f3 f4 f5⟩
 self:=fun _ _ _ _ _ st h=>wpAny_pyIter_listiter st h
theorem pw {P:Program} {w:World} {K:Fg} {tg:Expr} (a it:Addr):Turn P w K tg (Itt K a) [it] it (fun i h=>h.IsTupleIter it a i) where
 mem:=by simp
 obj:=fun i h st b hb=>by
  have e:b=it:=by simpa using hb
  subst e;obtain ⟨o,e,c,d⟩:=st;exact ⟨o,e,fun v z=>by rw [d] at z;cases z⟩
 keep:=fun i h h' st k=>st.at fun o e=>k it (by simp) o e
 item:=by
  intro X hP hw hK hc i pins s Z H E I hf st hg;subst hP hw hK;obtain ⟨xs,x,hq,hx⟩:=hg;obtain ⟨its,rv,p,hz⟩:=I.tuple hq;obtain ⟨u,hu,ru⟩:=rv.get hx;obtain ⟨f0,f1,f2,f3,f4,f5⟩:=hf it (by simp);refine wpAny_pyNext_tuple_item st (show s.heap.IsTuple a its.toArray from p) (x:=u) (by simpa using hu) fun h' st' sb=>?_;have I1:Inv X pins Z H { s with heap:=h' }:=I.turned (t':=s.toks) (fun b o hb e=>(sb.2 b hb).trans e) f0 f1 f3 f4 f5;obtain ⟨o,e,c,d⟩:=id st';exact ⟨u,rfl,vb (s:={ s with heap:=h' }) e c d (by decide) ⟨x,H,I1,ru,⟨rfl,fun ys hy=>by rw [I.tL hy hq];exact hx⟩,st',fun b hb=>(hf b hb).1⟩⟩
 done:=by
  intro X hP hw hK hc i pins s Z H E I hf st hg;subst hP hw hK;obtain ⟨xs,hq,hx⟩:=hg;obtain ⟨its,rv,p,hz⟩:=I.tuple hq;obtain ⟨f0,f1,f2,f3,f4,f5⟩:=hf it (by simp);have hl:=rv.length;exact wpAny_pyNext_tuple_end (I.ok.hd hc) st (show s.heap.IsTuple a its.toArray from p) (by simp;omega) fun h' eb=>⟨rfl,I.turned (t':=s.toks) (fun b o hb e=>eb b o hb e) f0 f1 f3 f4 f5⟩
 self:=fun _ _ _ _ _ st h=>wpAny_pyIter_tupleiter st h
theorem pB {P:Program} {w:World} {K:Fg} {tg:Expr} (it:Addr) (lo:Int) (n:Nat):Turn P w K tg (Itr lo n) [it] it (fun i h=>IsRangeIter h it (lo+(i:Nat)*1) ((n:Int) - (i:Nat)) 1) where
 mem:=by simp
 obj:=fun i h st b hb=>by
  have e:b=it:=by simpa using hb
  subst e
  exact ⟨_,st,fun v z=>by
   have z':Data.fields _=Data.cell v:=z
   cases z'⟩
 keep:=fun i h h' st k=>k it (by simp) _ st
 item:=by
  intro X hP hw hK hc i pins s Z H E I hf st hg;subst hP hw hK;obtain ⟨f0,f1,f2,f3,f4,f5⟩:=hf it (by simp);have W:=Walks.range (prog:=X.prog) (w:=X.w) (I.ok.hd hc) it lo 1 n;refine W.item i s _ _ hg st fun v h' tk hv st' kk=>?_;obtain ⟨t,rfl⟩:=hv;have I1:Inv X pins Z H { s with heap:=h',toks:=tk }:=I.turned (fun b o hb e=>kk b o (by simpa using hb) e) f0 f1 f3 f4 f5;refine ⟨_,rfl,vb (s:={ s with heap:=h',toks:=tk }) (n := "range_iterator") st' rfl rfl (by decide) ⟨.int (lo+i),H,I1,⟨t,?_⟩,⟨rfl,rfl⟩,st',fun b hb=>(hf b hb).1⟩⟩;rw [Int.mul_one]
 done:=by
  intro X hP hw hK hc i pins s Z H E I hf st hg;subst hP hw hK;obtain ⟨f0,f1,f2,f3,f4,f5⟩:=hf it (by simp);exact wpAny_pyNext_range_end (I.ok.hd hc) st (by have:n<=i:=hg;omega) fun h' eb=>⟨rfl,I.turned (t':=s.toks) (fun b o hb e=>eb b o hb e) f0 f1 f3 f4 f5⟩
 self:=fun _ _ _ _ _ st h=>wpAny_pyIter_rangeiter st h
end L2
namespace L2
open PySem PySem.Spec PyProof.Rows
section
variable {X:Cx} {tg:Expr}
def jm (K:Fg) (tl:TE):TI:=fun Z H R=>tl Z H fun x H1=>∃ a,x=.ref a/\(∃ xs,SqL K H1 a xs)/\R (Itl K a) H1
def CU (K:Fg) (tl:TE):TI:=fun Z H R=>tl Z H fun x H1=>∃ a,x=.ref a/\(∃ xs,SqT K H1 a xs)/\R (Itt K a) H1
theorem xR {l:Expr} {tl:TE} (hl:PE X l tl):PI X tg l (jm X.K tl):=by
 intro pins s Z H R I h;refine thn (hl pins s Z H _ I h) fun v s1 ⟨x,H1,I1,r1,q1⟩=>?_;obtain ⟨a,e,⟨xs,hq⟩,q⟩:=q1;subst e;cases r1;obtain ⟨its,rv,p,hz⟩:=I1.list hq;refine KP p.isList ?_;refine ⟨s1.heap.objs.size,[s1.heap.objs.size],_,_,H1,rfl,I1.kept (t':=s1.toks) fun b o e=>Ia _ e,tH a _,⟨_,Im _ rfl,rfl,rfl⟩,fun b hb=>?_,q⟩;have e:b=s1.heap.objs.size:=by simpa using hb
 subst e;exact I1.Bw (Il _) (I1.hok.fresh (Il _))
theorem A7 {l:Expr} {tl:TE} (hl:PE X l tl):PI X tg l (CU X.K tl):=by
 intro pins s Z H R I h;refine thn (hl pins s Z H _ I h) fun v s1 ⟨x,H1,I1,r1,q1⟩=>?_;obtain ⟨a,e,⟨xs,hq⟩,q⟩:=q1;subst e;cases r1;obtain ⟨its,rv,p,hz⟩:=I1.tuple hq;refine wpAny_pyIter_tuple (show s1.heap.IsTuple a its.toArray from p) ?_;refine ⟨s1.heap.objs.size,[s1.heap.objs.size],_,_,H1,rfl,I1.kept (t':=s1.toks) fun b o e=>Ia _ e,pw a _,⟨_,Im _ rfl,rfl,rfl⟩,fun b hb=>?_,q⟩;have e:b=s1.heap.objs.size:=by simpa using hb
 subst e;exact I1.Bw (Il _) (I1.hok.fresh (Il _))
theorem uT {pins:List (Addr×Obj)} {Z:St} {H:Hp} {s:Shared} {R:It->Hp->Prop} {E:Value->Shared->Prop} {lo hi:Int} {t u v:Tok} {tk:Nat} (I:Inv X pins Z H s) (h1:-(2 ^ 62)<=lo) (h2:lo < 2 ^ 62) (h3:-(2 ^ 62)<=hi) (h4:hi < 2 ^ 62)
  (q:R (Itr lo (hi - lo).toNat) H):wpAny (model X.prog X.w) X.A (pyIter (.ref s.heap.objs.size)) (PIE X pins Z tg R) E { s with heap:=s.heap.push { cls:=.type "range", data:=.fields #[.int lo t,.int hi u,.int 1 v] },toks:=tk }:=by
 refine wpAny_pyIter_range (IsRange.new ..) (small_one h1 h2 h3 h4) ?_;have I1:Inv X pins Z H { s with heap:=s.heap.push { cls:=.type "range", data:=.fields #[.int lo t,.int hi u,.int 1 v] },toks:=tk }:=I.kept fun b o e=>Ia _ e
 refine ⟨(s.heap.push { cls:=.type "range", data:=.fields #[.int lo t,.int hi u,.int 1 v] }).objs.size,[(s.heap.push { cls:=.type "range", data:=.fields #[.int lo t,.int hi u,.int 1 v] }).objs.size],_,_,H,rfl,
  I1.kept (t':=tk) fun b o e=>Ia _ e,pB _ lo (hi - lo).toNat,?_,fun b hb=>?_,q⟩
 ·have e1:lo+((0:Nat):Int)*1=lo:=by simp
  have e2:(((hi - lo).toNat:Nat):Int) - ((0:Nat):Int)=Builtin.Range.rangeSize lo hi 1:=by rw [rangeSize_one];split <;> omega
  show IsRangeIter _ _ (lo+((0:Nat):Int)*1) ((((hi - lo).toNat:Nat):Int) - ((0:Nat):Int)) 1;rw [e1,e2];exact Im _ rfl
 ·have e:b=(s.heap.push { cls:=.type "range", data:=.fields #[.int lo t,.int hi u,.int 1 v] }).objs.size:=by simpa using hb
  subst e;exact I1.Bw (Il _) (I1.hok.fresh (Il _))
def pX (ta:TA):TI:=fun Z H R=>ta Z H fun vs H1=>∃ j:Int,vs=[.int j]/\-(2 ^ 62)<=j/\j < 2 ^ 62/\R (Itr 0 j.toNat) H1
def Gd (ta:TA):TI:=fun Z H R=>ta Z H fun vs H1=>∃ i j:Int,vs=[.int i,.int j]/\(-(2 ^ 62)<=i/\i < 2 ^ 62/\-(2 ^ 62)<=j/\j < 2 ^ 62)/\R (Itr i (j - i).toNat) H1
theorem qO {a:Expr} {ta:TA} {p pos:Pos} (hg:Gl X "range") (hm:X.mg "range" = none) (ha:PA X [a] ta) (hs:starEach [a] X.env=[(false,eval a X.env)]:=by rfl):PI X tg (.Call (.Name "range" p) [a] [] pos) (pX ta):=by
 intro pins s Z H R I h;refine Call_ (jT I hg hm boot_range (KA (thn (ha pos pins s Z H _ I h) fun us s1 ⟨vs,H1,I1,r1,q1⟩=>?_) hs rfl));obtain ⟨j,e,q1,q2,q⟩:=q1;subst e;cases r1 with
 | cons r rr =>
  cases rr;obtain ⟨t,rfl⟩:=r;exact call_range_1 (uT I1 (by omega) (by omega) q1 q2 (by simpa using q))
def xW (wi:TI) (g:TG) (tb:TS):TS:=fun D Z H=>wi Z H fun J H1=>∃ W:Nat->Nat->St->Hp->Prop,(∃ m,W 0 m Z H1)/\∀ i m Z H,W i m Z H ->
 (J.stop i H/\D.nx Z H)\/(J.go i H/\∃ N:St->Hp->Prop,(∀ Z' H',N Z' H'->∃ m',m' < m/\W (i+1) m' Z' H')/\∀ x H',J.yld i H x H'->g x Z H' fun Z2 H2=>tb { D with nx:=N,ct:=N,bk:=D.nx } Z2 H2)
noncomputable def jE (fp:List Addr) (h:Heap):List (Addr×Obj):=fp.filterMap fun b=>(h.get? b).map fun o=>(b,o)
theorem bP {fp:List Addr} {h:Heap} {b:Addr} {o:Obj} (hb:b∈fp) (e:h.get? b=some o):(b,o)∈jE fp h:=List.mem_filterMap.mpr ⟨b,hb,by rw [e];rfl⟩
theorem tI {fp:List Addr} {h:Heap} {p:Addr×Obj} (hp:p∈jE fp h):p.1∈fp/\h.get? p.1=some p.2:=by
 obtain ⟨b,hb,e⟩:=List.mem_filterMap.mp hp;cases q:h.get? b with
 | none=>rw [q] at e;cases e
 | some o =>
  rw [q] at e;have e':(b,o)=p:=Jm e;subst e';exact ⟨hb,q⟩
theorem Inv.pinned {pins:List (Addr×Obj)} {Z:St} {H:Hp} {s:Shared} {fp:List Addr} (I:Inv X pins Z H s) (hf:∀ b∈fp,tG X pins H b) (ho:∀ b∈fp,∃ o,s.heap.get? b=some o/\∀ v,o.data≠.cell v):Inv X (pins++jE fp s.heap) Z H s :=
 I.dY fun p hp=>(IL.mp hp).elim (fun z=>I.pin p (IC _ z)) fun z=>by
  obtain ⟨hb,e⟩:=tI z;obtain ⟨f0,f1,f2,_⟩:=hf p.1 hb;obtain ⟨o,e',d⟩:=ho p.1 hb;rw [e] at e';cases e';exact ⟨e,f0,f1,f2,d⟩
theorem Inv.hJ {pins pl:List (Addr×Obj)} {Z:St} {H:Hp} {s:Shared} (I:Inv X (pins++pl) Z H s):Inv X pins Z H s:=I.dY fun p hp=>I.pin p (IC _ (List.mem_append_left _ hp))
theorem zA {iter:Expr} {body:List Stmt} {wi:TI} {g:TG} {tb:TS} {pos:Pos} (hp:PassesOwn (model X.prog X.w) X.A X.env X.xe) (hc:X.calm=true) (hi:PI X tg iter wi) (hg:PG X tg g) (hb:PSs X body tb)
  (hs:∀ x,foldedSetIterable iter X.env x=pure x:=by intro _;rfl):PS X (.For tg iter body [] pos) (xW wi g tb):=by
 intro pins s Z H D I h;refine wpAny_For (thn (hi pins s Z H _ I h) fun v s1 h1=>thn h1 fun itv s2 h2=>?_) hs;obtain ⟨it,fp,tn,J,H2,e,I2,T,st2,f2,W,⟨m0,w0⟩,turn⟩:=h2;subst e;have stat:∀ {H':Hp},(∀ b∈fp,H' b=none)->∀ b∈fp,tG X pins H' b:=fun hn b hb=>⟨hn b hb,(f2 b hb).2⟩;refine codeAny_forLoop_any (fun n s'=>∃ i Z' H',Inv X pins Z' H' s'/\tn i s'.heap/\(∀ b∈fp,H' b=none)/\W i n Z' H') ?_ m0 ⟨0,Z,H2,I2,st2,fun b hb=>(f2 b hb).1,w0⟩;rintro n s3 ⟨i,Z3,H3,I3,st3,fr3,w3⟩;rcases turn i n Z3 H3 w3 with ⟨stop,qn⟩ | ⟨go,N,hN,step⟩
 ·refine K7 hp (thn (T.done X rfl rfl rfl hc i pins s3 Z3 H3 X.xe I3 (stat fr3) st3 stop) fun r s4 ⟨hr,I4⟩=>?_);subst hr;exact wpAny_execs_nil ⟨Z3,H3,I4,qn⟩
 ·refine K7 hp (thn (T.item X rfl rfl rfl hc i pins s3 Z3 H3 X.xe I3 (stat fr3) st3 go) fun r s4 ⟨u,hr,h4⟩=>?_);subst hr;refine K7 hp (thn h4 fun _ s5 ⟨x,H5,I5,r5,y5,st5,fr5⟩=>?_);have I5':=I5.pinned (stat fr5) (T.obj _ _ st5);refine K7 hp (thn (hg _ s5 Z3 H5 x u _ I5' r5 (step x H5 y5)) fun _ s6 ⟨Z6,H6,I6,q6⟩=>?_);refine K7 hp (thn (hb _ s6 Z6 H6 _ I6 q6) fun f s7 q7=>?_);have again:∀ {Z7:St} {H7:Hp},Inv X (pins++jE fp s5.heap) Z7 H7 s7->N Z7 H7->∃ m,m < n/\∃ i Z' H',Inv X pins Z' H' s7/\tn i s7.heap/\(∀ b∈fp,H' b=none)/\W i m Z' H':=fun {Z7 H7} I7 n7=>by
   obtain ⟨m',hm,w7⟩:=hN Z7 H7 n7;refine ⟨m',hm,i+1,Z7,H7,I7.hJ,T.keep _ _ _ st5 fun b hb o e=>(I7.pin (b,o) (IC _ (IC _ (bP hb e)))).1,fun b hb=>?_,w7⟩;obtain ⟨o,e,d⟩:=T.obj _ _ st5 b hb;exact (I7.pin (b,o) (IC _ (IC _ (bP hb e)))).2.1
  cases f with
  | next=>obtain ⟨Z7,H7,I7,n7⟩:=q7;exact again I7 n7
  | cont=>obtain ⟨Z7,H7,I7,n7⟩:=q7;exact again I7 n7
  | brk=>obtain ⟨Z7,H7,I7,q7⟩:=q7;exact ⟨Z7,H7,I7.hJ,q7⟩
  | ret v=>obtain ⟨x7,Z7,H7,I7,r7,q7⟩:=q7;exact ⟨x7,Z7,H7,I7.hJ,r7,q7⟩
end
end L2
namespace L2
open PySem PySem.Spec PyProof.Rows
abbrev R2:=V->V->Hp->VK->Prop
def OpR (X:Cx) (f:Value->Value->Sem Value) (r:R2):Prop :=
 ∀ (pins:List (Addr×Obj)) (s:Shared) (Z:St) (H:Hp) (x y:V) (v u:Value) (Q:VK),Inv X pins Z H s->RelV x v->RelV y u->r x y H Q ->
  wpAny (model X.prog X.w) X.A (f v u) (EP X pins Z Q) X.xe s
def UnR (X:Cx) (f:Value->Sem Value) (r:V->Hp->VK->Prop):Prop :=
 ∀ (pins:List (Addr×Obj)) (s:Shared) (Z:St) (H:Hp) (x:V) (v:Value) (Q:VK),Inv X pins Z H s->RelV x v->r x H Q ->
  wpAny (model X.prog X.w) X.A (f v) (EP X pins Z Q) X.xe s
def a8 (X:Cx) (f:Value) (r:List V->Hp->VK->Prop):Prop :=
 ∀ (pins:List (Addr×Obj)) (s:Shared) (Z:St) (H:Hp) (xs:List V) (us:List Value) (Q:VK),Inv X pins Z H s->Vals xs us->r xs H Q ->
  wpAny (model X.prog X.w) X.A (call f us) (EP X pins Z Q) X.xe s
def Hr (X:Cx) (r:V->Hp->(Bool->Hp->Prop)->Prop):Prop :=
 ∀ (pins:List (Addr×Obj)) (s:Shared) (Z:St) (H:Hp) (x:V) (v:Value) (Q:Bool->Hp->Prop),Inv X pins Z H s->RelV x v->r x H Q ->
  wpAny (model X.prog X.w) X.A (truthy v) (TP X pins Z Q) X.xe s
def tOp (r:R2) (ta tb:TE):TE:=fun Z H Q=>ta Z H fun x H1=>tb Z H1 fun y H2=>r x y H2 Q
def tUn (r:V->Hp->VK->Prop) (ta:TE):TE:=fun Z H Q=>ta Z H fun x H1=>r x H1 Q
def rI (C:Int->Int->Prop) (g:Int->Int->V):R2:=fun x y H Q=>∃ i j,x=.int i/\y=.int j/\C i j/\Q (g i j) H
def rI0 (g:Int->Int->V):R2:=fun x y H Q=>∃ i j,x=.int i/\y=.int j/\Q (g i j) H
def rU (g:Int->V):V->Hp->VK->Prop:=fun x H Q=>∃ i,x=.int i/\Q (g i) H
section
variable {X:Cx} {a b c:Expr} {ta tb tc:TE} {pos:Pos}
theorem E3 (ha:PE X a ta) (hb:PE X b tb) {pins:List (Addr×Obj)} {s:Shared} {Z:St} {H:Hp} {R:V->V->Hp->Prop} (I:Inv X pins Z H s)
  (h:ta Z H fun x H1=>tb Z H1 fun y H2=>R x y H2) {Q:Value->Shared->Prop} {f:Value->Value->Sem Value}
  (hf:∀ v u s2 x y H2,Inv X pins Z H2 s2->RelV x v->RelV y u->R x y H2->wpAny (model X.prog X.w) X.A (f v u) Q X.xe s2) :
  wpAny (model X.prog X.w) X.A (eval a X.env) (fun v ZW=>wpAny (model X.prog X.w) X.A (eval b X.env) (fun u ZU=>wpAny (model X.prog X.w) X.A (f v u) Q X.xe ZU) X.xe ZW) X.xe s:=by
 refine thn (ha pins s Z H _ I h) fun v s1 ⟨x,H1,I1,r1,q1⟩=>?_;refine thn (hb pins s1 Z H1 _ I1 q1) fun u s2 ⟨y,H2,I2,r2,q2⟩=>?_;exact hf v u s2 x y H2 I2 r1 r2 q2
theorem Ek {op:Operator} {r:R2} (ho:OpR X (binaryOp op) r) (ha:PE X a ta) (hb:PE X b tb):PE X (.BinOp a op b pos) (tOp r ta tb):=by
 intro pins s Z H Q I h;exact wpAny_BinOp (E3 ha hb I h fun v u s2 x y H2 I2 rx ry q=>ho pins s2 Z H2 x y v u Q I2 rx ry q)
theorem Eu {op:UnaryOp} {r:V->Hp->VK->Prop} (ho:UnR X (unaryOp op) r) (ha:PE X a ta):PE X (.UnaryOp op a pos) (tUn r ta):=by
 intro pins s Z H Q I h;exact UnaryOp_ (thn (ha pins s Z H _ I h) fun v s1 ⟨x,H1,I1,r1,q1⟩=>ho pins s1 Z H1 x v Q I1 r1 q1)
theorem opI {f:Value->Value->Sem Value} {C:Int->Int->Prop} {g:Int->Int->Int}
  (rule:∀ (i j:Int) (t u:Tok) (s:Shared) (Q:Value->Shared->Prop) (E:Value->Shared->Prop),C i j->Q (.int (g i j) s.toks) { s with toks:=s.toks+1 }->wpAny (model X.prog X.w) X.A (f (.int i t) (.int j u)) Q E s) :
  OpR X f (rI C fun i j=>.int (g i j)):=by
 intro pins s Z H x y v u Q I rx ry h;obtain ⟨i,j,rfl,rfl,hc,q⟩:=h;obtain ⟨t,rfl⟩:=rx;obtain ⟨t',rfl⟩:=ry;exact rule i j t t' s _ _ hc ⟨.int (g i j),H,I.tok _,⟨_,rfl⟩,q⟩
theorem Gu {f:Value->Value->Sem Value} {g:Int->Int->Int}
  (rule:∀ (i j:Int) (t u:Tok) (s:Shared) (Q:Value->Shared->Prop) (E:Value->Shared->Prop),Q (.int (g i j) s.toks) { s with toks:=s.toks+1 }->wpAny (model X.prog X.w) X.A (f (.int i t) (.int j u)) Q E s) :
  OpR X f (rI0 fun i j=>.int (g i j)):=by
 intro pins s Z H x y v u Q I rx ry h;obtain ⟨i,j,rfl,rfl,q⟩:=h;obtain ⟨t,rfl⟩:=rx;obtain ⟨t',rfl⟩:=ry;exact rule i j t t' s _ _ ⟨.int (g i j),H,I.tok _,⟨_,rfl⟩,q⟩
theorem Di {f:Value->Value->Sem Value} {g:Int->Int->Bool}
  (rule:∀ (i j:Int) (t u:Tok) (s:Shared) (Q:Value->Shared->Prop) (E:Value->Shared->Prop),Q (.bool (g i j)) s->wpAny (model X.prog X.w) X.A (f (.int i t) (.int j u)) Q E s) :
  OpR X f (rI0 fun i j=>.bl (g i j)):=by
 intro pins s Z H x y v u Q I rx ry h;obtain ⟨i,j,rfl,rfl,q⟩:=h;obtain ⟨t,rfl⟩:=rx;obtain ⟨t',rfl⟩:=ry;exact rule i j t t' s _ _ ⟨.bl (g i j),H,I,rfl,q⟩
def Gw (i j:Int):Prop:=0<=j/\j<=1000000/\i.natAbs < 2 ^ 64
def BK (i j:Int):Prop:=(-(2 ^ 64) < i/\i < 2 ^ 64)\/(-(2 ^ 64) < j/\j < 2 ^ 64)
theorem BK.ok {i j:Int} (h:BK i j):IntMulOk i j:=by
 rcases h with ⟨h1,h2⟩ | ⟨h1,h2⟩
 ·exact .of_left (intBits_le_64 h1 h2)
 ·exact .of_right (intBits_le_64 h1 h2)
theorem BF:OpR X (binaryOp .Add) (rI0 fun i j=>.int (i+j)):=Gu fun _ _ _ _ _ _ _ q=>add_int q
theorem AG:OpR X (binaryOp .Sub) (rI0 fun i j=>.int (i - j)):=Gu fun _ _ _ _ _ _ _ q=>sub_int q
theorem B5:OpR X (binaryOp .Mult) (rI BK fun i j=>.int (i*j)):=opI fun _ _ _ _ _ _ _ hc q=>mul_int q hc.ok
theorem CZ:OpR X (binaryOp .Mod) (rI (fun _ j=>0 < j) fun i j=>.int (i % j)):=opI fun i j _ _ _ _ _ hc q=>by
 have h1:(0:Int) < j:=hc;exact mod_int' (by omega) (by rw [Int.fmod_eq_emod_of_nonneg i (by omega)];exact q)
theorem Cf:OpR X (binaryOp .Pow) (rI Gw fun i j=>.int (i ^ j.toNat)):=opI fun _ _ _ _ _ _ _ hc q=>pow_int_small hc.1 hc.2.1 hc.2.2 q
theorem unI {f:Value->Sem Value} {g:Int->Int}
  (rule:∀ (i:Int) (t:Tok) (s:Shared) (Q:Value->Shared->Prop) (E:Value->Shared->Prop),Q (.int (g i) s.toks) { s with toks:=s.toks+1 }->wpAny (model X.prog X.w) X.A (f (.int i t)) Q E s) :
  UnR X f (rU fun i=>.int (g i)):=by
 intro pins s Z H x v Q I rx h;obtain ⟨i,rfl,q⟩:=h;obtain ⟨t,rfl⟩:=rx;exact rule i t s _ _ ⟨.int (g i),H,I.tok _,⟨_,rfl⟩,q⟩
theorem AH:UnR X (unaryOp .USub) (rU fun i=>.int (-i)):=unI fun _ _ _ _ _ q=>neg_int q
end
section
variable {X:Cx} {a b c:Expr} {ta tb tc:TE} {pos:Pos}
theorem v8 {pins:List (Addr×Obj)} {Z:St} {H:Hp} {s:Shared} {Q:VK} {k k':Bool} (I:Inv X pins Z H s) (q:Q (.bl k) H) (e:k=k'):EP X pins Z Q (.bool k') s:=by
 subst e;exact ⟨.bl k,H,I,rfl,q⟩
theorem EO:OpR X (compareOp .Lt) (rI0 fun i j=>.bl (decide (i < j))):=Di fun _ _ _ _ _ _ _ q=>lt_int q
theorem FT:OpR X (compareOp .LtE) (rI0 fun i j=>.bl (decide (i<=j))):=Di fun _ _ _ _ _ _ _ q=>le_int q
theorem EM:OpR X (compareOp .Gt) (rI0 fun i j=>.bl (decide (j < i))):=Di fun _ _ _ _ _ _ _ q=>gt_int q
theorem Fj:OpR X (compareOp .GtE) (rI0 fun i j=>.bl (decide (j<=i))):=Di fun _ _ _ _ _ _ _ q=>ge_int q
theorem qI:OpR X (compareOp .Lt) (fun x y H Q=>∃ i j,x=.str i/\y=.str j/\Q (.bl (decide (i.cps.toList < j.cps.toList))) H):=by
 intro pins s Z H x y v u Q I rx ry h;obtain ⟨i,j,rfl,rfl,q⟩:=h;obtain ⟨t,rfl⟩:=rx;obtain ⟨t',rfl⟩:=ry;exact lt_str (v8 I q rfl)
theorem t7:OpR X (compareOp .In) (fun x y H Q=>∃ i j,x=.str i/\y=.str j/\Q (.bl (!(Builtin.Str.occurrences j i 0 j.length 1).isEmpty)) H):=by
 intro pins s Z H x y v u Q I rx ry h;obtain ⟨i,j,rfl,rfl,q⟩:=h;obtain ⟨t,rfl⟩:=rx;obtain ⟨t',rfl⟩:=ry;exact in_str (v8 I q rfl)
theorem aO (b:Expr) {op:CmpOp} (h:op≠.In:=by decide) (h2:op≠.NotIn:=by decide):behindInMarks op b=false:=by
 have e1:(op==CmpOp.In)=false:=by cases op <;> first | rfl | exact absurd rfl h
 have e2:(op==CmpOp.NotIn)=false:=by cases op <;> first | rfl | exact absurd rfl h2
 cases b <;> simp [behindInMarks,e1,e2]
theorem yi {op:CmpOp} {r:R2} (ho:OpR X (compareOp op) r) (ha:PE X a ta) (hb:PE X b tb) (hm:behindInMarks op b=false):PE X (.Compare a [op] [b] pos) (tOp r ta tb):=by
 intro pins s Z H Q I h;exact wpAny_Compare1 (E3 ha hb I h fun v u s2 x y H2 I2 rx ry q=>ho pins s2 Z H2 x y v u Q I2 rx ry q) hm
def lG (t:TE):TT:=fun Z H Q=>t Z H fun x H'=>∃ k,x=.bl k/\Q k H'
theorem ym {op:CmpOp} {r:R2} (ho:OpR X (compareOp op) r) (ha:PE X a ta) (hb:PE X b tb) (hm:behindInMarks op b=false):PT X (.Compare a [op] [b] pos) (lG (tOp r ta tb)):=by
 intro pins s Z H Q I h
 refine wpAny_isTrue_Compare1 (thn (ha pins s Z H _ I h) fun v s1 ⟨x,H1,I1,r1,q1⟩=>thn (hb pins s1 Z H1 _ I1 q1) fun u s2 ⟨y,H2,I2,r2,q2⟩ =>
  thn (ho pins s2 Z H2 x y v u _ I2 r1 r2 q2) fun c s3 ⟨z,H3,I3,r3,k,e,q3⟩=>?_) hm
 subst e;cases r3;exact JQ ⟨H3,I3,q3⟩
def qr (r r':R2) (ta tb tc:TE):TE:=fun Z H Q=>ta Z H fun x H1=>tb Z H1 fun y H2=>r x y H2 fun z H3=>∃ k,z=.bl k /\
 (if k=true then tc Z H3 fun w' H4=>r' y w' H4 Q else Q (.bl false) H3)
theorem uG {op op':CmpOp} {r r':R2} (ho:OpR X (compareOp op) r) (ho':OpR X (compareOp op') r') (ha:PE X a ta) (hb:PE X b tb) (hc:PE X c tc)
  (hm:lastMarks [op,op'] [b,c]=false:=by with_unfolding_all rfl):PE X (.Compare a [op,op'] [b,c] pos) (qr r r' ta tb tc):=by
 intro pins s Z H Q I h
 refine Compare_chain (thn (ha pins s Z H _ I h) fun v s1 ⟨x,H1,I1,r1,q1⟩=>chain_link (thn (hb pins s1 Z H1 _ I1 q1) fun u s2 ⟨y,H2,I2,r2,q2⟩ =>
  thn (ho pins s2 Z H2 x y v u _ I2 r1 r2 q2) fun d s3 ⟨z,H3,I3,r3,k,e,q3⟩=>?_)) hm
 subst e;cases r3;refine JQ ?_;cases k with
 | false=>exact ite_ff ⟨.bl false,H3,I3,rfl,q3⟩
 | true=>exact ite_tt (chain_last (thn (hc pins s3 Z H3 _ I3 q3) fun w' s4 ⟨z',H4,I4,r4,q4⟩=>ho' pins s4 Z H4 y z' u w' Q I4 r2 r4 q4))
def Ga (K:Fg) (x:V) (H:Hp) (k:Bool):Prop :=
 match x with
 | .non=>k=false
 | .bl b=>k=b
 | .int i=>k=(i != 0)
 | .str y=>y.length<=sizeLine/\k=((y.length:Int) != 0)
 | .byt y=>y.size<=sizeLine/\k=((y.size:Int) != 0)
 | .ref p=>(∃ xs,SqL K H p xs/\k=!xs.isEmpty)\/(∃ xs,SqT K H p xs/\k=!xs.isEmpty)\/∃ kvs,H p=some (.dK kvs)/\k=!kvs.isEmpty
 | _=>False
theorem pY {κ:Type} {kvs:List (κ×V)} {vs:List (κ×Value)} (r:KV kvs vs):(!vs.isEmpty)=!kvs.isEmpty:=by
 cases r <;> rfl
theorem jz {xs:List V} {its:List Value} (r:Vals xs its):(!its.toArray.isEmpty)=!xs.isEmpty:=by
 cases r <;> simp
theorem lB:(sizeLine:Nat) < 2 ^ 63:=by rw [IQ];decide
theorem GL:Hr X (fun x H Q=>∃ k,Ga X.K x H k/\Q k H):=by
 intro pins s Z H x v Q I rx h;obtain ⟨k,e,q⟩:=h;have hl:=lB;have hs:sizeLine=16777216:=IQ;cases x with
 | non =>
  cases rx;have e':k=false:=e;subst e';exact truthy_none ⟨H,I,q⟩
 | bl b =>
  cases rx;have e':k=b:=e;subst e';exact JQ ⟨H,I,q⟩
 | int i =>
  obtain ⟨t,rfl⟩:=rx;have e':k=(i != 0):=e;subst e';exact PySem.P.truthy_int ⟨H,I,q⟩
 | str y =>
  obtain ⟨t,rfl⟩:=rx;obtain ⟨hy,e'⟩:y.length<=sizeLine/\k=((y.length:Int) != 0):=e;subst e';exact PySem.P.truthy_str (by omega) ⟨H,I.tok _,q⟩
 | byt y =>
  obtain ⟨t,rfl⟩:=rx;obtain ⟨hy,e'⟩:y.size<=sizeLine/\k=((y.size:Int) != 0):=e;subst e';exact PySem.W.truthy_bytes (by omega) ⟨H,I.tok _,q⟩
 | ref p =>
  cases rx;have e':(∃ xs,SqL X.K H p xs/\k=!xs.isEmpty)\/(∃ xs,SqT X.K H p xs/\k=!xs.isEmpty)\/∃ kvs,H p=some (.dK kvs)/\k=!kvs.isEmpty:=e;rcases e' with ⟨xs,hx,e'⟩ | ⟨xs,hx,e'⟩ | ⟨kvs,hx,e'⟩
  ·subst e';obtain ⟨its,r,pl,hz⟩:=I.list hx;have hlen:=r.length;exact wpAny_truthy_list pl.isList (by simp only [Iw];omega) ⟨H,I.tok _,by rw [jz r];exact q⟩
  ·subst e';obtain ⟨its,r,pl,hz⟩:=I.tuple hx;have hlen:=r.length;exact truthy_tuple pl (by simp only [Iw];omega) ⟨H,I.tok _,by rw [jz r];exact q⟩
  ·subst e';obtain ⟨hz,hS,vs,r,m⟩:kvs.length<=sizeLine/\(p==sysModules)=false/\∃ vs,KV kvs vs/\s.heap.DictOf (az X.prog X.w) p vs:=I.hok p _ hx;have hlen:kvs.length=vs.length:=J9 r;exact wpAny_truthy_dict hS m (by omega) ⟨H,I.tok _,by rw [pY r];exact q⟩
 | _=>exact (show False from e).elim
theorem pb:OpR X (binaryOp .Add) (fun x y H Q=>∃ i j,x=.str i/\y=.str j/\i.length+j.length<=sizeLine/\Q (.str (i++j)) H):=by
 intro pins s Z H x y v u Q I rx ry h;obtain ⟨i,j,rfl,rfl,hz,q⟩:=h;obtain ⟨t,rfl⟩:=rx;obtain ⟨t',rfl⟩:=ry;exact add_str (fun t' tk=>⟨.str (i++j),H,I.tok _,⟨_,rfl⟩,q⟩) hz
theorem vals1 {x:V} {us:List Value} (r:Vals [x] us):∃ u,us=[u]/\RelV x u:=by
 cases r with
 | cons r1 r2=>cases r2;exact ⟨_,rfl,r1⟩
theorem vals2 {x y:V} {us:List Value} (r:Vals [x,y] us):∃ u w',us=[u,w']/\RelV x u/\RelV y w':=by
 cases r with
 | cons r1 r2 =>
  cases r2 with
  | cons r3 r4=>cases r4;exact ⟨_,_,rfl,r1,r3⟩
theorem uA:a8 X (.builtin "abs") (fun xs H Q=>∃ i,xs=[.int i]/\Q (.int (if i < 0 then -i else i)) H):=by
 intro pins s Z H xs us Q I r h;obtain ⟨i,rfl,q⟩:=h;obtain ⟨u,rfl,t,rfl⟩:=vals1 r;exact call_abs_int fun u tk=>⟨.int (if i < 0 then -i else i),H,I.tok _,⟨_,rfl⟩,q⟩
def GO (K:Fg) (x:V) (H:Hp) (n:Nat):Prop :=
 match x with
 | .str y=>y.length<=sizeLine/\n=y.length
 | .byt y=>y.size<=sizeLine/\n=y.size
 | .ref p=>(∃ xs,SqL K H p xs/\n=xs.length)\/∃ xs,SqT K H p xs/\n=xs.length
 | _=>False
theorem vz:a8 X (.builtin "len") (fun xs H Q=>∃ x n,xs=[x]/\GO X.K x H n/\Q (.int n) H):=by
 intro pins s Z H xs us Q I r h;obtain ⟨x,n,rfl,e,q⟩:=h;obtain ⟨u,rfl,rx⟩:=vals1 r;have hl:=lB;have hs:sizeLine=16777216:=IQ;cases x with
 | str y =>
  obtain ⟨t,rfl⟩:=rx;obtain ⟨hy,e'⟩:y.length<=sizeLine/\n=y.length:=e;subst e';exact len_str (by omega) ⟨.int _,H,I.tok _,⟨_,rfl⟩,q⟩
 | byt y =>
  obtain ⟨t,rfl⟩:=rx;obtain ⟨hy,e'⟩:y.size<=sizeLine/\n=y.size:=e;subst e';exact PySem.W.len_bytes (by omega) ⟨.int _,H,I.tok _,⟨_,rfl⟩,q⟩
 | ref p =>
  cases rx;have e':(∃ xs,SqL X.K H p xs/\n=xs.length)\/∃ xs,SqT X.K H p xs/\n=xs.length:=e;rcases e' with ⟨xs,hx,e'⟩ | ⟨xs,hx,e'⟩
  ·subst e';obtain ⟨its,r',pl,hz⟩:=I.list hx;have hlen:=r'.length;exact Calls.call_len_list pl.isList (by simp only [Iw];omega) ⟨.int xs.length,H,I.tok _,⟨_,by simp only [Iw];rw [hlen]⟩,q⟩
  ·subst e';obtain ⟨its,r',pl,hz⟩:=I.tuple hx;have hlen:=r'.length;exact len_tuple pl (by simp only [Iw];omega) ⟨.int xs.length,H,I.tok _,⟨_,by simp only [Iw];rw [hlen]⟩,q⟩
 | _=>exact (show False from e).elim
end
end L2
namespace L2
open PySem PySem.Spec PyProof.Rows
structure cZ (k:Nat) (A:Around):Prop where
 hd:A.handled=none
 dp:A.depth+3*k+5 < recursionLimit
 un:A.units+16*k+200 < cLine
 gd:A.guards=some []
theorem cZ.mono {j k:Nat} {A:Around} (r:cZ k A) (h:j<=k):cZ j A:=⟨r.hd,by have:=r.dp;omega,by have:=r.un;omega,r.gd⟩
theorem cZ.deeper {k:Nat} {A:Around} (r:cZ (k+1) A) (env:Env):cZ k (A.deeper env) :=
 ⟨r.hd,by have:=r.dp;show A.depth+1+3*k+5 < _;omega,by have:=r.un;show A.units+3+16*k+200 < _;omega,r.gd⟩
theorem cZ.depth {k:Nat} {A:Around} (r:cZ k A):A.depth < recursionLimit:=by have:=r.dp;omega
theorem cZ.units {k:Nat} {A:Around} (r:cZ k A):A.units+64 < cLine:=by have:=r.un;omega
def aP:TA:=fun _ H Q=>Q [] H
def aa (ta:TE) (tr:TA):TA:=fun Z H Q=>ta Z H fun x H1=>tr Z H1 fun xs H2=>Q (x :: xs) H2
section
variable {X:Cx} {e:Expr} {es:List Expr} {te:TE} {t:TA} {pos:Pos}
theorem C3:PA X [] aP:=fun _ _ _ _ H Q I h=>Calls.spliced_nil ⟨[],H,I,.nil,h⟩
theorem yV (ha:PE X e te) (hr:PA X es t) (hs:starEach (e :: es) X.env=(false,eval e X.env) :: starEach es X.env:=by rfl):PA X (e :: es) (aa te t):=by
 intro pos pins s Z H Q I h;rw [hs];show wpAny _ _ (spliced ((false,eval e X.env) :: backTo pos (starEach es X.env))) _ _ s;refine Calls.spliced_cons (thn (ha pins s Z H _ I h) fun u s1 ⟨x,H1,I1,r1,q1⟩=>?_);exact thn (hr pos pins s1 Z H1 _ I1 q1) fun us s2 ⟨xs,H2,I2,r2,q2⟩=>⟨x :: xs,H2,I2,.cons r1 r2,q2⟩
def eD (t:TA):TE:=fun Z H Q=>t Z H fun xs H1=>xs.length<=sizeLine/\∀ p,H1 p=none->Q (.ref p) (upd H1 p (.tup xs))
def yp (t:TA):TE:=fun Z H Q=>t Z H fun xs H1=>xs.length<=sizeLine/\∀ p,H1 p=none->Q (.ref p) (upd H1 p (.lst xs))
theorem Ag {x1} (h:PA X es t):PE X (.Tuple es x1 pos) (eD t):=by
 intro pins s Z H Q I hq;refine wpAny_Tuple_spliced (thn (h pos pins s Z H _ I hq) fun us s1 ⟨xs,H1,I1,r,z,q⟩=>⟨by rw [<- r.length];exact z,?_⟩);have hf:H1 s1.heap.objs.size=none:=I1.hok.fresh (Il _);refine ⟨.ref s1.heap.objs.size,upd H1 s1.heap.objs.size (.tup xs),I1.laid (t':=s1.toks) (fun b u e=>Ia _ e) (Il _) ?_,rfl,q _ hf⟩;exact ⟨z,us,r,⟨_,Im _ rfl,rfl,_,rfl⟩⟩
theorem AO (h:PA X es t):PE X (.List es pos) (yp t):=by
 intro pins s Z H Q I hq;refine wpAny_List_spliced (thn (h pos pins s Z H _ I hq) fun us s1 ⟨xs,H1,I1,r,z,q⟩=>⟨by rw [<- r.length];exact z,?_⟩);have hf:H1 s1.heap.objs.size=none:=I1.hok.fresh (Il _);refine ⟨.ref s1.heap.objs.size,upd H1 s1.heap.objs.size (.lst xs),I1.laid (t':=s1.toks) (fun b u e=>Ia _ e) (Il _) ?_,rfl,q _ hf⟩;exact ⟨z,us,0,r,Im _ rfl⟩
end
abbrev Sp:=List V->Hp->VK->XK->Prop
abbrev CXT:=List Env->Hp->Shared->XK->Value->Shared->Prop
structure t9 (P:Program) (w:World) (K:Fg) (mg:Str->Option Value) (base:Heap) (A:Around) (outer:List Env) (s:Shared) (H:Hp):Prop where
 frames:A.frames=some outer
 mod:Mod K mg base
 bs:∀ b o,base.get? b=some o->s.heap.get? b=some o/\H b=none
 bsz:base.objs.size<=s.heap.objs.size
 mT:s.heap.FunFrames base outer
 frf:∀ b∈frs outer,H b=none
 tabs:zo H
 hok:HOk P w H s.heap
 bare:AllBare s.gens
def CE (outer:List Env) (P:Program) (w:World) (H:Hp) (s:Shared) (Q:VK) (u:Value) (s':Shared):Prop :=
 ∃ v H',s'.os=s.os/\AllBare s'.gens/\Un (frs outer) [] H H' s.heap s'.heap/\HOk P w H' s'.heap/\RelV v u/\Q v H'
def CR (CX:CXT) (outer:List Env) (P:Program) (w:World) (H:Hp) (s:Shared) (Q:VK) (E:XK) (r:Result) (s':Shared):Prop :=
 match r with
 | .ok (.ret u)=>CE outer P w H s Q u s'
 | .ok _=>False
 | .error e=>CX outer H s E e s'
structure bK (P:Program) (w:World) (K:Fg) (mg:Str->Option Value) (base:Heap) (CX:CXT) (k:Nat) (f:Addr) (fd:FuncData) (ps:List Str) (sp:Sp):Prop where
 len:∀ vs H Q E,sp vs H Q E->vs.length=ps.length
 run:∀ (A:Around) (outer:List Env) (s:Shared) (H:Hp) (args:Args) (us:List Value) (vs:List V) (Q:VK) (E:XK),cZ k A->t9 P w K mg base A outer s H->BindsTo s fd args (ps.zip us)->Vals vs us->sp vs H Q E ->
  codeAny (model P w) A (.call (.ref f) args) (CR CX outer P w H s Q E) s
theorem bK.mono {P:Program} {w:World} {K:Fg} {mg:Str->Option Value} {base:Heap} {CX:CXT} {j k:Nat} {f:Addr} {fd:FuncData} {ps:List Str} {sp:Sp} (F:bK P w K mg base CX j f fd ps sp) (h:j<=k) :
  bK P w K mg base CX k f fd ps sp:=⟨F.len,fun A outer s H args us vs Q E hr=>F.run A outer s H args us vs Q E (hr.mono h)⟩
section
variable {X:Cx} {pins:List (Addr×Obj)} {Z:St} {H:Hp} {s s':Shared}
theorem Inv.zD (I:Inv X pins Z H s):t9 X.prog X.w X.K X.mg X.base X.A X.stack s H :=
 ⟨I.ok.frames,I.ok.mod,I.bs,IM I.ok.bsz I.sz,I.stack,I.mQ,fun t ht=>I.base.kC _ _ _ (I.ok.tabs t ht),I.hok,I.bare⟩
theorem Inv.after {Q:VK} {u:Value} (I:Inv X pins Z H s) (h:CE X.stack X.prog X.w H s Q u s'):EP X pins Z Q u s':=by
 obtain ⟨v,H',os,bare,un,hok,r,q⟩:=h;obtain ⟨hh,g,d,t,os'⟩:=s';obtain rfl:os'=s.os:=os;exact ⟨v,H',I.call (h':=hh) (g':=g) (d':=d) (t':=t) (ch:=[]) un hok bare (fun b z=>absurd z (by simp)),r,q⟩
end
def br (sp:Sp) (dvs:List V) (E:XK) (t:TA):TE:=fun Z H Q=>t Z H fun vs H1=>sp (vs++dvs) H1 Q E
def Binds (K:Fg) (fd:FuncData) (ps:List Str) (ds:List Value):Prop :=
 ∀ (s:Shared) (us:List Value),K.In s.heap->(us++ds).length=ps.length->BindsTo s fd ⟨us,[]⟩ (ps.zip (us++ds))
theorem Binds.all {K:Fg} {fd:FuncData} {ps:List Str} (h:∀ us:List Value,us.length=ps.length->bindArgs fd ⟨us,[]⟩=pure (ps.zip us)):Binds K fd ps []:=fun s us _ hl=>by
 rw [Jy] at hl ⊢;exact .of_eq (h us hl)
def Passes (CX:CXT) (X:Cx) (E:XK):Prop:=∀ (pins:List (Addr×Obj)) (Z:St) (H:Hp) (s:Shared) (e:Value) (s':Shared),Inv X pins Z H s->CX X.stack H s E e s'->X.xe e s'
section
variable {X:Cx} {CX:CXT} {k:Nat} {f C:Addr} {fd:FuncData} {ps:List Str} {sp:Sp} {dvs:List V} {ds:List Value} {E:XK} {x m:Str} {p pos apos:Pos} {e o:Expr} {es:List Expr} {ta:TE} {t:TA}
theorem Cb {pins:List (Addr×Obj)} {Z:St} {H:Hp} {s:Shared} {Q:VK} {us:List Value} {vs:List V} (F:bK X.prog X.w X.K X.mg X.base CX k f fd ps sp) (hr:cZ k X.A) (hb:Binds X.K fd ps ds) (hd:Vals dvs ds) (hx:Passes CX X E)
  (I:Inv X pins Z H s) (r:Vals vs us) (h:sp (vs++dvs) H Q E):wpAny (model X.prog X.w) X.A (call (.ref f) us) (EP X pins Z Q) X.xe s:=by
 have r2:Vals (vs++dvs) (us++ds):=r.append hd;have hl:(us++ds).length=ps.length:=by rw [<- r2.length];exact F.len _ _ _ _ h
 refine wpAny_call (Kz (F.run X.A X.stack s H ⟨us,[]⟩ (us++ds) (vs++dvs) Q E hr I.zD (hb s us I.kIn hl) r2 h) fun r s' hq=>?_);cases r with
 | error e=>exact hx pins Z H s e s' I hq
 | ok fl =>
  cases fl with
  | ret u=>exact I.after hq
  | next=>exact False.elim hq
  | brk=>exact False.elim hq
  | cont=>exact False.elim hq
theorem yS (F:bK X.prog X.w X.K X.mg X.base CX k f fd ps sp) (hr:cZ k X.A) (hg:Gl X x) (hm:X.mg x=some (.ref f)) (hk:PySem.W.keepIn X.K (.ref f)=true) (hb:Binds X.K fd ps ds) (hd:Vals dvs ds) (hx:Passes CX X E)
  (ha:PA X (e :: es) t) (hdb:(x==("__debug__" : Str))=false:=by decide) (he:starEach (e :: es) X.env=(false,eval e X.env) :: starEach es X.env:=by rfl) (hpl:(backTo pos (starEach es X.env)).any (·.1)=false:=by rfl) :
  PE X (.Call (.Name x p) (e :: es) [] pos) (br sp dvs E t):=by
 intro pins s Z H Q I h;refine KG (mD I hg hm ?_ hdb);refine PySem.W.callWith_K (h₀:=X.base) I.ok.mod.kin hk (thn (ha pos pins s Z H _ I h) fun us s1 ⟨vs,H1,I1,r,q⟩=>⟨I1.kIn,?_⟩) he hpl;exact Cb F hr hb hd hx I1 r q
end
structure aq (N P:List Str) (sc:Scope):Prop where
 kind:sc.kind=.function
 co:sc.isCoroutine=false
 gen:sc.isGenerator=false
 nd:N.Nodup
 pre:N.take P.length=P
 par:∀ x∈P,sc.names.lookup x=some .local\/sc.names.lookup x=some .cell
 Cn:∀ y∈sc.names,y.2≠.free
theorem lZ {kindOf:Str->Option NameKind} {x:Str}:∀ {binds:List (Str×Value)} {m:Str->Option Value},(∀ v,(x,v) ∉ binds)->bindL kindOf binds m x=m x
 | [],_,_=>rfl
 | (n,v) :: r,m,h=>by
  unfold bindL;rw [lZ fun w hw=>h w (Ip _ hw)];split
  ·have:x≠n:=by rintro rfl;exact h v IE
   simp [this]
  ·rfl
theorem l8 {kindOf:Str->Option NameKind} {x:Str}:∀ {binds:List (Str×Value)} {m:Str->Option Value},(∀ v,(x,v) ∉ binds)->bindC kindOf binds m x=m x
 | [],_,_=>rfl
 | (n,v) :: r,m,h=>by
  unfold bindC;rw [l8 fun w hw=>h w (Ip _ hw)];split
  ·rfl
  ·have:x≠n:=by rintro rfl;exact h v IE
   simp [this]
theorem lP {kindOf:Str->Option NameKind} {x:Str} {v:Value}:∀ {P:List Str} {vs:List Value} {i:Nat} {m:Str->Option Value},P.Nodup->P[i]?=some x->vs[i]?=some v->kindOf x=some .local ->
  bindL kindOf (P.zip vs) m x=some v
 | [],_,_,_,_,h,_,_=>by simp at h
 | _ :: _,[],_,_,_,_,h,_=>by simp at h
 | p :: P,w :: vs,0,m,nd,h1,h2,hk=>by
  simp at h1 h2;subst h1;subst h2;show bindL kindOf ((p,w) :: P.zip vs) m p=_;unfold bindL;rw [lZ fun v hv=>(Jo.mp nd).1 (Kx hv).1,Iy hk];simp
 | p :: P,w :: vs,i+1,m,nd,h1,h2,hk=>by
  show bindL kindOf ((p,w) :: P.zip vs) m x=_;unfold bindL;exact lP (i:=i) (Jo.mp nd).2 (by simpa using h1) (by simpa using h2) hk
theorem lD {kindOf:Str->Option NameKind} {x:Str} {v:Value}:∀ {P:List Str} {vs:List Value} {i:Nat} {m:Str->Option Value},P.Nodup->P[i]?=some x->vs[i]?=some v->kindOf x≠some .local ->
  bindC kindOf (P.zip vs) m x=some v
 | [],_,_,_,_,h,_,_=>by simp at h
 | _ :: _,[],_,_,_,_,h,_=>by simp at h
 | p :: P,w :: vs,0,m,nd,h1,h2,hk=>by
  simp at h1 h2;subst h1;subst h2;show bindC kindOf ((p,w) :: P.zip vs) m p=_;unfold bindC;rw [l8 fun v hv=>(Jo.mp nd).1 (Kx hv).1,ID hk];simp
 | p :: P,w :: vs,i+1,m,nd,h1,h2,hk=>by
  show bindC kindOf ((p,w) :: P.zip vs) m x=_;unfold bindC;exact lD (i:=i) (Jo.mp nd).2 (by simpa using h1) (by simpa using h2) hk
noncomputable def start (N:List Str) (vs:List V):St:=vs.map some++List.replicate (N.length - vs.length) none
noncomputable def ml (CX:CXT) (P:Program) (w:World) (K:Fg) (mg:Str->Option Value) (base:Heap) (N:List Str) (qual:Str) (scope:Scope) (f:Addr) (cd:Value) (A:Around) (outer:List Env) (s:Shared) (H:Hp) (E:XK):Cx where
 prog:=P
 w:=w
 K:=K
 mg:=mg
 base:=base
 A:=A.deeper (envOfC qual scope s.heap.objs.size f cd)
 N:=N
 ZO:=s
 ZM:=H
 env:=envOfC qual scope s.heap.objs.size f cd
 outer:=outer
 stack:=envOfC qual scope s.heap.objs.size f cd :: outer
 ex:=[]
 calm:=true
 fn:=fun _=>true
 pn:=[]
 xe:=fun e s'=>wpAny (model P w) (A.deeper (envOfC qual scope s.heap.objs.size f cd)) (leaving (envOfC qual scope s.heap.objs.size f cd) e) (fun _ s''=>CX outer H s E e s'') (fun e' s''=>CX outer H s E e' s'') s'
theorem j0 {sc:Scope} {n:Nat} {x:Str} (h:sc.names.lookup x=some .cell):∃ c,(cellsFrom n sc.names []).lookup x=some c:=by
 have q:=PySem.W.cellsFrom_some sc.names n [] (.inl h);exact Option.isSome_iff_exists.mp q
theorem tD {CX:CXT} {P:Program} {w:World} {K:Fg} {mg:Str->Option Value} {base:Heap} {N ps:List Str} {qual:Str} {scope:Scope} {f:Addr} {cd:Value} {A:Around} {outer:List Env} {s s1:Shared} {H:Hp} {E:XK} {us:List Value} {vs:List V}
  (S:aq N ps scope) (hd:A.handled=none) (e0:t9 P w K mg base A outer s H) (hl:vs.length=ps.length) (r:Vals vs us)
  (x:InCallC s s.heap.objs.size (bindL (envOfC qual scope s.heap.objs.size f cd).kindOf (ps.zip us) fun _=>none) (cellsFrom (s.heap.objs.size+1) scope.names []) (bindC (envOfC qual scope s.heap.objs.size f cd).kindOf (ps.zip us) fun _=>none) s1) :
  Inv (ml CX P w K mg base N qual scope f cd A outer s H E) [] (start N vs) H s1:=by
 have hpl:ps.length<=N.length:=by have:=congrArg List.length S.pre;rw [JH] at this;omega
 obtain ⟨h1,tk,rfl,hk⟩:=x.done;have noA:∀ b:Addr,b ∉ (ml CX P w K mg base N qual scope f cd A outer s H E).ex:=fun b z=>absurd (show b∈([]:List Addr) from z) (by simp)
 refine ⟨⟨e0.mod,S.kind,rfl,rfl,Il _,fun y z c h1 h2=>?_,fun y hy=>?_,fun y c _ h=>?_,fun _=>hd,Around.frames_deeper e0.frames,.inr ⟨rfl,rfl⟩,fun b z=>absurd z (noA b),e0.bs,e0.bsz,fun b _ _=>noA b,fun b z=>absurd z (noA b),e0.mT,e0.frf,e0.tabs⟩,
  rfl,e0.bare,Un.kept hk,⟨_,x.toInCall.ns,fun i y v h1 h2 h3=>?_⟩,fun y c h=>⟨_,x.cell y c h⟩,e0.hok.fresh (Il _),fun y c h=>?_,fun p hp=>absurd (show p∈([]:List (Addr×Obj)) from hp) (by simp),e0.hok.kept hk,?_⟩
 ·exact name_of_addr x.apart (Jr h1) (Jr h2)
 ·have hy:scope.names.lookup y=some .cell\/scope.names.lookup y=some .free:=hy;rcases hy with hy | hy
  ·exact j0 hy
  ·exact absurd rfl (S.Cn _ (Jr hy))
 ·exact J6 (x.above y c (Jr h))
 ·have hi:i < vs.length:=by
   unfold start at h2;by_cases hi:i < vs.length
   ·exact hi
   ·rw [Iu (by simpa using hi)] at h2;rw [Kg] at h2;split at h2 <;> cases h2
  have ha:vs[i]?=some v:=by
   unfold start at h2;rw [IZ (by simpa using hi),Ik] at h2;cases e:vs[i]? with
   | none=>rw [e] at h2;cases h2
   | some a=>rw [e] at h2;cases h2;rfl
  obtain ⟨u,hu,rv⟩:=r.get ha;have hp:ps[i]?=some y:=by
   rw [<- S.pre,List.getElem?_take_of_lt (by omega)];exact h1
  have ndP:ps.Nodup:=by rw [<- S.pre];exact S.nd.sublist (List.take_sublist _ _)
  refine ⟨u,rv,?_⟩;rcases S.par y (IF hp) with k | k
  ·exact .inl ⟨k,lP ndP hp hu k⟩
  ·obtain ⟨c,e⟩:=j0 (n:=s.heap.objs.size+1) k;refine .inr ⟨.inl k,c,e,?_⟩;have q:=x.cell y c e;rw [lD ndP hp hu (by show scope.names.lookup y≠_;rw [k];decide)] at q;exact q
 ·exact e0.hok.fresh (J6 (x.above y c (Jr h)))
 ·unfold start;show _=N.length;rw [Io,Ic,IP];omega
theorem Bm {CX:CXT} {P:Program} {w:World} {K:Fg} {mg:Str->Option Value} {base:Heap} {k:Nat} {f:Addr} {name qual:Str} {params:Arguments} {body:List Stmt} {scope:Scope} {dV kV doc pm cdv ct oc:Value} {an od:Option Addr}
  {osl:Array (Option Value)} {N ps:List Str} {sp:Sp} (lk:K.lookup f=some ⟨oc,od,.func (PySem.W.fnOf name qual params body scope dV kV doc pm an cdv ct),osl⟩) (hcd:PySem.W.codeIn K cdv qual=true) (S:aq N ps scope)
  (len:∀ vs H Q E,sp vs H Q E->vs.length=ps.length)
  (gJ:∀ (A:Around) (outer:List Env) (s:Shared) (H:Hp) (vs:List V) (Q:VK) (E:XK),cZ k (A.deeper (envOfC qual scope s.heap.objs.size f cdv))->sp vs H Q E ->
   ∃ t,PSs (ml CX P w K mg base N qual scope f cdv A outer s H E) body t/\t { nx:=fun _ H'=>Q .non H',rt:=Q } (start N vs) H) :
  bK P w K mg base CX (k+1) f (PySem.W.fnOf name qual params body scope dV kV doc pm an cdv ct) ps sp:=by
 refine ⟨len,fun A outer s H args us vs Q E hr e0 hb r hsp=>?_⟩;have hl:=len _ _ _ _ hsp;have KX:K.In s.heap:=e0.mod.kin.keeps fun b o e=>(e0.bs b o e).1;have lim:s.heap.NoLimit:=e0.mod.nolimit.keeps fun b o e=>(e0.bs b o e).1;have hkind:∀ y∈ps.zip us,scope.names.lookup y.1=some .local\/(scope.names.lookup y.1=some .cell/\((cellsFrom (s.heap.objs.size+1) scope.names []).lookup y.1).isSome=true):=fun ⟨n,v⟩ hy=>by
  rcases S.par n (Kx hy).1 with q | q
  ·exact .inl q
  ·exact .inr ⟨q,PySem.W.cellsFrom_some _ _ _ (.inl q)⟩
 refine codeAny_call_function hr.depth (KX _ _ lk) rfl S.co S.gen rfl (PySem.W.codeRec_of KX hcd) (hb _ _ _ _ ?_);refine wpAny_newFunctionEnv_cells S.kind hkind fun env he s1 x=>?_;subst he;refine ⟨lim.keeps x.toInCall.keep,codeAny_func ?_⟩;obtain ⟨t,ht,hq⟩:=gJ A outer s H vs Q E (hr.deeper _) hsp;have I:Inv (ml CX P w K mg base N qual scope f cdv A outer s H E) [] (start N vs) H s1:=tD S hr.hd e0 hl r x;refine Jd (ht [] s1 (start N vs) H _ I hq) (fun fl s' hs=>?_) fun e s' hs=>hs;have fin:∀ {Z':St} {H':Hp} {v:V} {u:Value},Inv (ml CX P w K mg base N qual scope f cdv A outer s H E) [] Z' H' s'->RelV v u->Q v H'->CE outer P w H s Q u s' :=
  fun {Z' H' v u} J rv q=>⟨v,H',J.os,J.bare,J.base,J.hok,rv,q⟩
 cases fl with
 | ret u =>
  obtain ⟨v,Z',H',J,rv,q⟩:=hs;exact fin J rv q
 | next =>
  obtain ⟨Z',H',J,q⟩:=hs;exact fin (v:=V.non) (u:=Value.none) J rfl q
 | brk =>
  obtain ⟨_,_,_,q⟩:=hs;exact False.elim q
 | cont =>
  obtain ⟨_,_,_,q⟩:=hs;exact False.elim q
end L2
namespace L2
open PySem PySem.Spec PyProof.Rows
section
variable {X:Cx} {x:Str} {p pos:Pos} {e:Expr} {es:List Expr} {t:TA} {id T:String} {r:List V->Hp->VK->Prop}
def tCB (r:List V->Hp->VK->Prop) (t:TA):TE:=fun Z H Q=>t Z H fun vs H1=>r vs H1 Q
theorem vL (hc:a8 X (.builtin id) r) (hg:Gl X x) (hm:X.mg x=none) (hv:bootBuiltins x=some (.builtin id)) (ha:PA X (e :: es) t) (hn:x ≠ "__name__" := by decide) (hdb:(x==("__debug__" : Str))=false:=by decide)
  (he:starEach (e :: es) X.env=(false,eval e X.env) :: starEach es X.env:=by rfl) (hpl:(backTo pos (starEach es X.env)).any (·.1)=false:=by rfl):PE X (.Call (.Name x p) (e :: es) [] pos) (tCB r t):=by
 intro pins s Z H Q I h;refine KG (jT I hg hm hv ?_ hn hdb);exact PyProof.Rows.callWith_builtin1 (thn (ha pos pins s Z H _ I h) fun us s1 ⟨vs,H1,I1,r1,q1⟩=>hc pins s1 Z H1 vs us Q I1 r1 q1) he hpl
theorem sV (hc:a8 X (.type T) r) (hg:Gl X x) (hm:X.mg x=none) (hv:bootBuiltins x=some (.type T)) (ha:PA X (e :: es) t) (hn:x ≠ "__name__" := by decide) (hdb:(x==("__debug__" : Str))=false:=by decide)
  (he:starEach (e :: es) X.env=(false,eval e X.env) :: starEach es X.env:=by rfl) (hpl:(backTo pos (starEach es X.env)).any (·.1)=false:=by rfl):PE X (.Call (.Name x p) (e :: es) [] pos) (tCB r t):=by
 intro pins s Z H Q I h;refine KG (jT I hg hm hv ?_ hn hdb);exact KA (thn (ha pos pins s Z H _ I h) fun us s1 ⟨vs,H1,I1,r1,q1⟩=>hc pins s1 Z H1 vs us Q I1 r1 q1) he hpl
end
end L2
namespace HT
open PySem PyProof.Rows
section
variable {prog:Program} {w:World} {A:Around} {E:Value->Shared->Prop} {s:Shared}
theorem xE {t b:Addr} {vs ws:List Value} {Q:Value->Shared->Prop} (ht:IsTup s.heap t vs.toArray) (hb:IsTup s.heap b ws.toArray) (hv:vs≠[])
  (h1:ws=[]->Q (.ref t) s) (h2:ws≠[]->Q (.ref s.heap.objs.size) { s with heap:=s.heap.push { cls:=.type "tuple", data:=.seq (vs++ws).toArray } })
  (hsz:vs.length+ws.length<=sizeLine):wpAny (model prog w) A (binaryOp .Add (.ref t) (.ref b)) Q E s:=by
 obtain ⟨⟨cls,dd,data,sl⟩,ho,hc,n,hd⟩:=id ht;obtain ⟨⟨cls2,dd2,data2,sl2⟩,ho2,hc2,n2,hd2⟩:=id hb;simp only at hc hd hc2 hd2;subst hc hd hc2 hd2;have e:vs.toArray++ws.toArray=(vs++ws).toArray:=by simp
 by_cases hw:ws=[]
 ·exact concat_meets ⟨_,ho,rfl⟩ ⟨_,ho2,rfl⟩ noFill_tuple_add seq_tuple_add PySem.F.slot_tuple_add PySem.F.entry_tuple_add (PySem.F.args_tuple_add_2 _ _)
   (tuple_addW1 t b vs.toArray ws.toArray n n2 dd dd2 sl sl2 (by simpa using hv) (by simp [hw])) ⟨ho,ho2,h1 hw⟩
 ·refine concat_meets ⟨_,ho,rfl⟩ ⟨_,ho2,rfl⟩ noFill_tuple_add seq_tuple_add PySem.F.slot_tuple_add PySem.F.entry_tuple_add (PySem.F.args_tuple_add_2 _ _)
   (tuple_addW2 t b vs.toArray ws.toArray n n2 dd dd2 sl sl2 (by simpa using hv) (by simpa using hw) (by rw [Iw,Iw];exact hsz)) ⟨ho,ho2,?_⟩
  rw [e];exact h2 hw
noncomputable def sIx (n d:Nat):Option Int->Nat
 | none=>d
 | some v=>if v < 0 then (v+(n:Int)).toNat else min v.toNat n
theorem xF (n d k:Nat):sIx n d (some (k:Int))=min k n:=by
 show (if (k:Int) < 0 then ((k:Int)+(n:Int)).toNat else min (k:Int).toNat n)=min k n;rw [ID (by omega),IS]
theorem oY (n d:Nat) (hd:d<=n) (o:Option Int):sIx n d o<=n:=by
 cases o with
 | none=>exact hd
 | some v =>
  show (if v < 0 then (v+(n:Int)).toNat else min v.toNat n)<=n;by_cases hv:v < 0
  ·rw [Iy hv];omega
  ·rw [ID hv];exact Nat.min_le_right _ _
theorem rC (v:Int) (n d:Nat):(if v < 0 then max (v+(n:Int)) 0 else min v (n:Int))=((sIx n d (some v):Nat):Int):=by
 show (if v < 0 then max (v+(n:Int)) 0 else min v (n:Int))=(((if v < 0 then (v+(n:Int)).toNat else min v.toNat n):Nat):Int);by_cases hv:v < 0
 ·simp only [Iy hv];omega
 ·simp only [ID hv];omega
theorem p9 (lo hi:Option Int) (n:Nat):Builtin.Slice.sliceAdjust lo hi 1 (n:Int)=(((sIx n 0 lo:Nat):Int),((sIx n n hi:Nat):Int)):=by
 have h1:¬((1:Int) < 0):=by omega
 unfold Builtin.Slice.sliceAdjust;simp only [h1,J8];refine Prod.ext ?_ ?_
 ·cases lo with
  | none=>rfl
  | some v=>exact rC v n 0
 ·cases hi with
  | none=>rfl
  | some v=>exact rC v n n
theorem p0 (i j:Nat):Builtin.Slice.slicePlaces (i:Int) (j:Int) 1=j - i:=by
 unfold Builtin.Slice.slicePlaces;have h1:(1:Int) > 0:=by omega
 simp only [h1,KR,Int.ediv_one];split <;> omega
theorem jP {v:Value} {o:Option Int} {Q:Option Int->Shared->Prop} (p:IsPart v o) (h:Q o s):wpAny (model prog w) A (Builtin.Slice.slicePartIndex v) Q E s:=by
 cases p with
 | none=>exact slicePart_none h
 | int i t=>exact slicePart_int h
theorem c6 {sl:Addr} {vl vu:Value} {lo hi:Option Int} {n:Nat} {Q:Int×Int×Nat->Shared->Prop} (hs:s.heap.IsSliceOf sl vl vu .none) (pl:IsPart vl lo) (pu:IsPart vu hi)
  (h:Q (((sIx n 0 lo:Nat):Int),1,sIx n n hi - sIx n 0 lo) s):wpAny (model prog w) A (Builtin.Slice.sliceApplied (.ref sl) (pure (n:Int))) Q E s:=by
 obtain ⟨os,hos,hcs,hds⟩:=id hs;unfold Builtin.Slice.sliceApplied Builtin.Slice.sliceFields;refine H9 (H9 (wpAny_field hos hds (x:=vl) rfl (H9 (wpAny_field hos hds (x:=vu) rfl (H9 (wpAny_field hos hds (x:=.none) rfl (Ib ?_)))))));refine H9 (slicePart_none ?_);show wpAny _ _ (if ((1:Int)==0)=true then _ else _) _ _ s;rw [ID (by decide)];refine H9 (jP pl (H9 (jP pu (H9 (Ib ?_)))));show wpAny _ _ (match Builtin.Slice.sliceAdjust lo hi 1 (n:Int) with | (lo,hi)=>pure (lo,(1:Int),Builtin.Slice.slicePlaces lo hi 1)) _ _ s;rw [p9 lo hi n];show wpAny _ _ (pure (((sIx n 0 lo:Nat):Int),(1:Int),Builtin.Slice.slicePlaces ((sIx n 0 lo:Nat):Int) ((sIx n n hi:Nat):Int) 1)) _ _ s;rw [p0];exact Ib h
theorem vn (xs:Array Value) (i k:Nat):((List.range k).filterMap fun (m:Nat)=>xs[((i:Int)+(m:Int)*1).toNat]?).toArray=((xs.toList.drop i).take k).toArray:=by
 have e:(fun (m:Nat)=>xs[((i:Int)+(m:Int)*1).toNat]?)=fun m=>xs[i+m]?:=by
  funext m;have:((i:Int)+(m:Int)*1).toNat=i+m:=by omega
  rw [this]
 rw [e];have:=pick_run xs i k;rw [List.filterMap_map] at this;have e2:((fun x=>xs[x]?)∘fun x=>i+x)=fun m=>xs[i+m]?:=rfl;rw [e2] at this;rw [this]
theorem fL {t sl:Addr} {items:Array Value} {vl vu:Value} {lo hi:Option Int} {Q:Value->Shared->Prop} (ht:IsTup s.heap t items) (hs:s.heap.IsSliceOf sl vl vu .none) (pl:IsPart vl lo) (pu:IsPart vu hi)
  (hw:¬(sIx items.size 0 lo=0/\sIx items.size items.size hi=items.size))
  (h:Q (.ref s.heap.objs.size) { s with heap:=s.heap.push { cls:=.type "tuple", data:=.seq ((items.toList.drop (sIx items.size 0 lo)).take (sIx items.size items.size hi - sIx items.size 0 lo)).toArray } })
  (hsz:items.size<=sizeLine):wpAny (model prog w) A (getItem (.ref t) (.ref sl)) Q E s:=by
 have htake:sizeOk (.seq ((items.toList.drop (sIx items.size 0 lo)).take (sIx items.size items.size hi - sIx items.size 0 lo)).toArray):=by
  show ((items.toList.drop (sIx items.size 0 lo)).take (sIx items.size items.size hi - sIx items.size 0 lo)).toArray.size<=sizeLine;rw [Iw,JH,JX,Jn];omega
 have hj:sIx items.size items.size hi<=items.size:=oY _ _ (Il _) hi;obtain ⟨os,hos,hcs,hds⟩:=id hs;have hTs:s.TypeIs (.ref sl) "slice" := ⟨os,hos,hcs⟩;unfold getItem;try with_reducible refine Jj ?_
 first | refine H9 (Ib ?_) | skip
 refine H9 (wpAny_sequenceKey ht.typeIs (by decide) ?_)
 refine H9 (Jb (name:=Str.ofString "__getitem__") ht.typeIs Ko
  (Jf Ko ht.typeIs entry_tuple_getitem ?_ (args_tuple_getitem _ _)))
 show wpAny _ _ (Builtin.Tuple.tupleItemsOf (.ref t)>>=_) _ _ s;refine H9 (tupleItemsOf_ ht ?_);refine H9 (Kh hTs ?_);rw [Iy (by decide)];refine H9 (c6 hs pl pu ?_);have hno:¬((((sIx items.size 0 lo:Nat):Int)==0&&(1:Int)==1&&(sIx items.size items.size hi - sIx items.size 0 lo)==items.size)=true):=by
  intro q;rw [IV,IV] at q;have q1:((sIx items.size 0 lo:Nat):Int)=0:=eq_of_beq q.1.1;have q2:sIx items.size items.size hi - sIx items.size 0 lo=items.size:=eq_of_beq q.2;exact hw ⟨by omega,by omega⟩
 show wpAny _ _ (if (((sIx items.size 0 lo:Nat):Int)==0&&(1:Int)==1&&(sIx items.size items.size hi - sIx items.size 0 lo)==items.size)=true then _ else _) _ _ s;rw [ID hno,vn];first
  | exact H9 (m:=Builtin.Tuple.tupleExact _) (Jg (Ib ⟨_,rfl,Ib h⟩) htake)
  | exact H9 (m:=Builtin.Tuple.tupleExact _) (Jg (H9 (Ib (Ib ⟨_,rfl,Ib h⟩))) htake)
  | exact H9 (H9 (m:=Builtin.Tuple.tupleExact _) (Jg (Ib (Ib ⟨_,rfl,Ib h⟩)) htake))
  | exact H9 (H9 (m:=Builtin.Tuple.tupleExact _) (Jg (Ib ⟨_,rfl,Ib h⟩) htake))
end
end HT
namespace L2
open PySem PySem.Spec PyProof.Rows
abbrev TO:=St->Hp->(Option Int->Hp->Prop)->Prop
def PO (X:Cx) (e:Option Expr) (t:TO):Prop :=
 ∀ (pins:List (Addr×Obj)) (s:Shared) (Z:St) (H:Hp) (Q:Option Int->Hp->Prop),Inv X pins Z H s->t Z H Q ->
  wpAny (model X.prog X.w) X.A (evalPart e X.env) (fun u s'=>∃ o H',Inv X pins Z H' s'/\IsPart u o/\Q o H') X.xe s
def bZ:TO:=fun _ H Q=>Q none H
def iG (t:TE):TO:=fun Z H Q=>t Z H fun x H1=>∃ i,x=.int i/\Q (some i) H1
section
variable {X:Cx} {e:Expr} {te:TE} {lo hi:Option Expr} {tl th:TO} {pos p2:Pos}
theorem xI:PO X none bZ:=by
 intro pins s Z H Q I h;rw [evalPart_none];exact Ib ⟨none,H,I,.none,h⟩
theorem yf (h:PE X e te):PO X (some e) (iG te):=by
 intro pins s Z H Q I hw;rw [evalPart_some];refine thn (h pins s Z H _ I hw) fun u s1 ⟨x,H1,I1,r1,q1⟩=>?_;obtain ⟨i,rfl,q⟩:=q1;obtain ⟨t,rfl⟩:=r1;exact ⟨some i,H1,I1,.int i t,q⟩
def SlR (X:Cx) (r:V->Option Int->Option Int->Hp->VK->Prop):Prop :=
 ∀ (pins:List (Addr×Obj)) (s:Shared) (Z:St) (H:Hp) (x:V) (v vl vu:Value) (lo hi:Option Int) (sl:Addr) (Q:VK),Inv X pins Z H s->RelV x v->s.heap.IsSliceOf sl vl vu .none->IsPart vl lo->IsPart vu hi->r x lo hi H Q ->
  ∃ T id,typeLookup (.type T) "__getitem__" = pure (some (.builtin id))/\s.TypeIs v T/\wpAny (model X.prog X.w) X.A (getItem v (.ref sl)) (EP X pins Z Q) X.xe s
theorem SlR.or {r r':V->Option Int->Option Int->Hp->VK->Prop} (h:SlR X r) (h':SlR X r'):SlR X (fun x lo hi H Q=>r x lo hi H Q\/r' x lo hi H Q):=by
 intro pins s Z H x v vl vu lo hi sl Q I rx hs pl pu q;rcases q with q | q
 ·exact h pins s Z H x v vl vu lo hi sl Q I rx hs pl pu q
 ·exact h' pins s Z H x v vl vu lo hi sl Q I rx hs pl pu q
def tSl (r:V->Option Int->Option Int->Hp->VK->Prop) (te:TE) (tl th:TO):TE:=fun Z H Q=>te Z H fun x H1=>tl Z H1 fun l H2=>th Z H2 fun u H3=>r x l u H3 Q
theorem vf {r:V->Option Int->Option Int->Hp->VK->Prop} (hr:SlR X r) (he:PE X e te) (hl:PO X lo tl) (hu:PO X hi th):PE X (.Subscript e (.Slice lo hi none p2) pos) (tSl r te tl th):=by
 intro pins s Z H Q I h;refine Subscript_ (thn (he pins s Z H _ I h) fun v s1 ⟨x,H1,I1,r1,q1⟩=>?_);refine wpAny_Slice (thn (hl pins s1 Z H1 _ I1 q1) fun vl s2 ⟨l,H2,I2,pl,q2⟩=>thn (hu pins s2 Z H2 _ I2 q2) fun vu s3 ⟨u,H3,I3,pu,q3⟩=>?_);rw [evalPart_none];refine Ib ?_;have I4:Inv X pins Z H3 { s3 with heap:=s3.heap.push { cls:=.type "slice", data:=.fields #[vl,vu,.none] } }:=I3.kept (t':=s3.toks) fun b ob q=>Ia _ q;obtain ⟨T,id,hT,ht,hg⟩:=hr pins { s3 with heap:=s3.heap.push { cls:=.type "slice", data:=.fields #[vl,vu,.none] } } Z H3 x v vl vu l u s3.heap.objs.size Q I4 r1 (Heap.IsSliceOf.new ..) pl pu q3;show wpAny (model X.prog X.w) X.A (subscriptTail e (.Slice lo hi none p2) v (.ref s3.heap.objs.size)) (EP X pins Z Q) X.xe { s3 with heap:=s3.heap.push { cls:=.type "slice", data:=.fields #[vl,vu,.none] } };exact tail_any (ops:=[.ref s3.heap.objs.size,v]) ht hT hg (by with_unfolding_all rfl)
noncomputable def uk (xs:List V) (lo hi:Option Int):List V:=(xs.drop (HT.sIx xs.length 0 lo)).take (HT.sIx xs.length xs.length hi - HT.sIx xs.length 0 lo)
theorem iV (xs:List V) (lo hi:Option Int):(uk xs lo hi).length<=xs.length:=by
 unfold uk;rw [JH,JX];omega
def qa (K:Fg):V->Option Int->Option Int->Hp->VK->Prop:=fun x lo hi H Q=>∃ a xs,x=.ref a/\SqT K H a xs /\
 ¬(HT.sIx xs.length 0 lo=0/\HT.sIx xs.length xs.length hi=xs.length)/\∀ p,H p=none->Q (.ref p) (upd H p (.tup (uk xs lo hi)))
theorem bW:SlR X (qa X.K):=by
 intro pins s Z H x v vl vu lo hi sl Q I rx hs pl pu h;obtain ⟨a,xs,rfl,hx,hw,q⟩:=h;cases rx;obtain ⟨its,r,ht,hz⟩:=I.tuple hx;have hlen:its.toArray.size=xs.length:=by rw [Iw];exact r.length.symm
 refine ⟨"tuple", _,Ko.lookup,ht.typeIs,?_⟩;refine HT.fL ht hs pl pu (by rw [hlen];exact hw) ?_ (by rw [hlen];exact hz);rw [hlen];refine ⟨.ref s.heap.objs.size,_,I.laid (t':=s.toks) (o:=.tup (uk xs lo hi)) (fun b ob q=>Ia _ q) (Il _) ?_,rfl,q _ (I.hok.fresh (Il _))⟩;exact ⟨IM (iV xs lo hi) hz,_,(r.drop (HT.sIx xs.length 0 lo)).take (HT.sIx xs.length xs.length hi - HT.sIx xs.length 0 lo),IsTup.new _ _⟩
def CW (K:Fg):R2:=fun x y H Q=>∃ a b xs ys,x=.ref a/\y=.ref b/\SqT K H a xs/\SqT K H b ys/\xs≠[]/\xs.length+ys.length<=sizeLine /\
 (ys=[]->Q (.ref a) H)/\(ys≠[]->∀ p,H p=none->Q (.ref p) (upd H p (.tup (xs++ys))))
theorem Vals.iK {xs:List V} {us:List Value} (r:Vals xs us):us=[]↔xs=[]:=by
 cases r with
 | nil=>simp
 | cons _ _=>simp
theorem xi:OpR X (binaryOp .Add) (CW X.K):=by
 intro pins s Z H x y v u Q I rx ry h;obtain ⟨a,b,xs,ys,rfl,rfl,ha,hb,hx,hz,q1,q2⟩:=h;cases rx;cases ry;obtain ⟨its,r1,p1,_⟩:=I.tuple ha;obtain ⟨its2,r2,p2,_⟩:=I.tuple hb;refine HT.xE p1 p2 (fun z=>hx (r1.iK.mp z)) (fun z=>⟨.ref a,H,I,rfl,q1 (r2.iK.mp z)⟩) (fun z=>?_) (by rw [<- r1.length,<-r2.length];exact hz);refine ⟨.ref s.heap.objs.size,_,I.laid (t':=s.toks) (o:=.tup (xs++ys)) (fun b ob q=>Ia _ q) (Il _) ?_,rfl,q2 (fun w=>z (r2.iK.mpr w)) _ (I.hok.fresh (Il _))⟩;exact ⟨by rw [Io];exact hz,_,r1.append r2,IsTup.new _ _⟩
end
end L2
namespace L2
open PySem PySem.Spec PyProof.Rows
noncomputable def ixN (n:Nat) (i:Int):Option Nat:=if 0<=i then (if i < n then some i.toNat else none) else if -(n:Int)<=i then some (i+n).toNat else none
noncomputable def atI {α:Type} (xs:List α) (i:Int):Option α:=(ixN xs.length i).bind fun j=>xs[j]?
theorem yy {n:Nat} {i:Int} {j:Nat} (h:ixN n i=some j):seqIndex? i n=some j/\j < n/\-(n:Int)<=i/\i < n:=by
 unfold ixN at h;by_cases h0:0<=i
 ·rw [Iy h0] at h;by_cases h1:i < n
  ·rw [Iy h1] at h;have e:i.toNat=j:=Jm h;exact ⟨by rw [seqIndex_of h0 h1,e],by omega,by omega,h1⟩
  ·rw [ID h1] at h;cases h
 ·rw [ID h0] at h;by_cases h1:-(n:Int)<=i
  ·rw [Iy h1] at h;have e:(i+n).toNat=j:=Jm h;exact ⟨by rw [seqIndex_neg (by omega) h1,e],by omega,h1,by omega⟩
  ·rw [ID h1] at h;cases h
theorem mB {α:Type} {xs:List α} {i:Int} {v:α} (h:atI xs i=some v):∃ j,seqIndex? i xs.length=some j/\xs[j]?=some v/\j < xs.length/\-(xs.length:Int)<=i/\i < xs.length:=by
 unfold atI at h;cases e:ixN xs.length i with
 | none=>rw [e] at h;cases h
 | some j =>
  rw [e] at h;obtain ⟨h1,h2,h3,h4⟩:=yy e;exact ⟨j,h1,h,h2,h3,h4⟩
theorem eZ {α:Type} {xs:List α} {j:Nat} {v:α} (h:xs[j]?=some v):atI xs (j:Int)=some v:=by
 have hj:j < xs.length:=(Ih.mp h).1;have e:ixN xs.length (j:Int)=some j:=by
  unfold ixN;rw [Iy (by omega),Iy (by omega)];simp
 unfold atI;rw [e];exact h
def nq (b:Expr):Prop:=∀ o i,subscripted b false o i=operate [o,i] (getItem o i)
def IxR (X:Cx) (r:R2):Prop :=
 ∀ (value slice:Expr) (pins:List (Addr×Obj)) (s:Shared) (Z:St) (H:Hp) (x y:V) (v u:Value) (Q:VK),Inv X pins Z H s->RelV x v->RelV y u->r x y H Q ->
  subscripted slice false v u=operate [v,u] (getItem v u)->wpAny (model X.prog X.w) X.A (subscriptTail value slice v u) (EP X pins Z Q) X.xe s
def MtR (X:Cx) (id:String) (r:V->List V->Hp->VK->Prop):Prop :=
 ∀ (pins:List (Addr×Obj)) (s:Shared) (Z:St) (H:Hp) (x:V) (xs:List V) (v:Value) (us:List Value) (Q:VK),Inv X pins Z H s->RelV x v->Vals xs us->r x xs H Q ->
  wpAny (model X.prog X.w) X.A (call (.builtin id) (v :: us)) (EP X pins Z Q) X.xe s
section
variable {X:Cx} {a b:Expr} {ta tb:TE} {pos:Pos}
theorem IxR.or {r r':R2} (h:IxR X r) (h':IxR X r'):IxR X (fun x y H Q=>r x y H Q\/r' x y H Q):=by
 intro value slice pins s Z H x y v u Q I rx ry q hs;rcases q with q | q
 ·exact h value slice pins s Z H x y v u Q I rx ry q hs
 ·exact h' value slice pins s Z H x y v u Q I rx ry q hs
theorem E9 {r:R2} (hr:IxR X r) (ha:PE X a ta) (hb:PE X b tb) (hs:nq b):PE X (.Subscript a b pos) (tOp r ta tb):=by
 intro pins s Z H Q I h;exact Subscript_ (E3 ha hb I h fun v u s2 x y H2 I2 rx ry q=>hr a b pins s2 Z H2 x y v u Q I2 rx ry q (hs _ _))
def Gr (K:Fg):R2:=fun x y H Q=>∃ p xs i v,x=.ref p/\y=.int i/\SqL K H p xs/\atI xs i=some v/\Q v H
def GI (K:Fg):R2:=fun x y H Q=>∃ p xs i v,x=.ref p/\y=.int i/\SqT K H p xs/\atI xs i=some v/\Q v H
def GS:R2:=fun x y H Q=>∃ z i c,x=.str z/\y=.int i/\z.length<=sizeLine/\atI z.cps.toList i=some c/\Q (.str ⟨#[c]⟩) H
theorem yB:IxR X (Gr X.K):=by
 intro value slice pins s Z H x y v u Q I rx ry h hs;obtain ⟨p,xs,i,z,rfl,rfl,hq,he,q⟩:=h;cases rx;obtain ⟨t,rfl⟩:=ry;obtain ⟨its,r,pl,hz⟩:=I.list hq;obtain ⟨j,h1,h2,h3,h4,h5⟩:=mB he;obtain ⟨w,ew,rw'⟩:=r.get h2;have hl:=r.length;have hn:=lB;have fin:EP X pins Z Q w s:=⟨z,H,I,rw',q⟩;by_cases h0:0<=i
 ·have hj:i.toNat=j:=by
   rw [seqIndex_of h0 h5] at h1;exact Jm h1
  exact item_listR pl.isList h0 (by omega) (by rw [hj];simpa using ew) fin hs
 ·have hj:(i+(its.toArray.size:Int)).toNat=j:=by
   rw [seqIndex_neg (by omega) h4] at h1;rw [Iw,<-hl];exact Jm h1
  exact subscriptTail_builtinR (x:=w) pl.isList.typeIs slot_list_getitem.lookup
   (wpAny_getItem_list_neg (Q:=fun r s'=>r=w/\EP X pins Z Q r s') pl.isList (by omega) (by rw [Iw] <;> omega) (by omega) (by rw [hj];simpa using ew) ⟨rfl,fin⟩) hs
theorem BX:IxR X (GI X.K):=by
 intro value slice pins s Z H x y v u Q I rx ry h hs;obtain ⟨p,xs,i,z,rfl,rfl,hq,he,q⟩:=h;cases rx;obtain ⟨t,rfl⟩:=ry;obtain ⟨its,r,pl,hz⟩:=I.tuple hq;obtain ⟨j,h1,h2,h3,h4,h5⟩:=mB he;obtain ⟨w,ew,rw'⟩:=r.get h2;have hl:=r.length;have hn:=lB;have fin:EP X pins Z Q w s:=⟨z,H,I,rw',q⟩;exact subscriptTail_builtinR (x:=w) pl.typeIs slot_tuple_getitem.lookup
  (getItem_tuple (j:=j) (Q:=fun r s'=>r=w/\EP X pins Z Q r s') pl (by omega) (by omega) (by rw [Iw,<-hl];exact h1) (by simpa using ew) ⟨rfl,fin⟩) hs
theorem C0:IxR X GS:=by
 intro value slice pins s Z H x y v u Q I rx ry h hs;obtain ⟨z,i,c,rfl,rfl,hz,he,q⟩:=h;obtain ⟨t,rfl⟩:=rx;obtain ⟨t',rfl⟩:=ry;obtain ⟨j,h1,h2,h3,h4,h5⟩:=mB he;have hl:z.cps.toList.length=z.length:=by simp [Str.length]
 rw [hl] at h1 h4 h5;have hn:=lB
 exact tail_any (typeIs_str s z t) slot_str_getitem.lookup (getItem_str (c:=c) (by
  have e1:decide (i < -(2 ^ 63:Int))=false:=IX (by omega);have e2:decide (i>=2 ^ 63)=false:=IX (by omega)
  rw [e1,e2,Bool.or_false]) (by rw [h1];simpa using h2) ⟨.str ⟨#[c]⟩,H,I.tok _,⟨_,rfl⟩,q⟩) hs
def rIx (K:Fg):R2:=fun x y H Q=>Gr K x y H Q\/GI K x y H Q\/GS x y H Q
theorem BR:IxR X (rIx X.K):=yB.or (BX.or C0)
theorem l9 (lo hi:Option Int) (n:Nat):(sliceBounds lo hi none n).1=((HT.sIx n 0 lo:Nat):Int)/\(sliceBounds lo hi none n).2.1=((HT.sIx n n hi:Nat):Int)/\(sliceBounds lo hi none n).2.2=1:=by
 refine ⟨?_,?_,rfl⟩
 ·cases lo with
  | none=>simp [sliceBounds,HT.sIx]
  | some i =>
   simp only [sliceBounds,HT.sIx,Option.getD_none,show (1:Int) > 0 by decide,KR];by_cases h:i < 0
   ·simp only [h,KR] <;> omega
   ·simp only [h,J8] <;> omega
 ·cases hi with
  | none=>simp [sliceBounds,HT.sIx]
  | some i =>
   simp only [sliceBounds,HT.sIx,Option.getD_none,show (1:Int) > 0 by decide,KR];by_cases h:i < 0
   ·simp only [h,KR] <;> omega
   ·simp only [h,J8] <;> omega
theorem kQ (its:List Value) (lo hi:Option Int):slicePick its.toArray lo hi none=((its.drop (HT.sIx its.length 0 lo)).take (HT.sIx its.length its.length hi - HT.sIx its.length 0 lo)).toArray:=by
 obtain ⟨h1,h2,h3⟩:=l9 lo hi its.toArray.size;unfold slicePick;rw [h1,h2,h3];simp only [sliceRange_one,pick_run,Iw] <;> rfl
def qc (K:Fg):V->Option Int->Option Int->Hp->VK->Prop:=fun x lo hi H Q=>∃ a xs,x=.ref a/\SqL K H a xs/\∀ p,H p=none->Q (.ref p) (upd H p (.lst (uk xs lo hi)))
theorem bj:SlR X (qc X.K):=by
 intro pins s Z H x v vl vu lo hi sl Q I rx hs pl pu h;obtain ⟨a,xs,rfl,hx,q⟩:=h;cases rx;obtain ⟨its,r,ht,hz⟩:=I.list hx;have hlen:=r.length;refine ⟨"list", _,slot_list_getitem.lookup,ht.isList.typeIs,?_⟩;refine wpAny_getItem_list_slice ht.isList hs pl pu .none (by simp) ?_ (by rw [Iw] <;> omega);rw [kQ,<-hlen];refine ⟨.ref s.heap.objs.size,_,I.laid (t':=s.toks) (o:=.lst (uk xs lo hi)) (fun b ob q=>Ia _ q) (Il _) ?_,rfl,q _ (I.hok.fresh (Il _))⟩;exact ⟨IM (iV xs lo hi) hz,_,0,(r.drop (HT.sIx xs.length 0 lo)).take (HT.sIx xs.length xs.length hi - HT.sIx xs.length 0 lo),Im _ rfl⟩
theorem lp:a8 X (.type "list") (fun xs H Q=>∃ p ys,xs=[.ref p]/\(SqL X.K H p ys\/SqT X.K H p ys)/\∀ l,H l=none->Q (.ref l) (upd H l (.lst ys))):=by
 intro pins s Z H xs us Q I r h;obtain ⟨p,ys,rfl,hq,q⟩:=h;obtain ⟨u,rfl,rx⟩:=vals1 r;cases rx;have fin:∀ (its:List Value),Vals ys its->ys.length<=sizeLine->∀ (h':Heap) (c':Nat),(∀ b o',s.heap.get? b=some o'->h'.get? b=some o') ->
   h'.get? s.heap.objs.size=some { cls:=.type "list", dict:=none,data:=.seq its.toArray c',slots:=#[] }->EP X pins Z Q (.ref s.heap.objs.size) { s with heap:=h' }:=fun its r' hz h' c' kp e =>
  ⟨.ref s.heap.objs.size,_,I.laid (t':=s.toks) kp (Il _) (show bw X.prog X.w _ h' _ (.lst ys) from ⟨hz,its,c',r',e⟩),rfl,q _ (I.hok.fresh (Il _))⟩
 rcases hq with hq | hq
 ·obtain ⟨its,r',pl,hz⟩:=I.list hq;have hlen:=r'.length;obtain ⟨o,ho,hc,n,hd⟩:=pl.isList;exact call_list_seq p (.inl rfl) ho hc hd (fun h' c' kp e=>fin its r' hz h' c' kp e) (by simp only [Iw] <;> omega)
 ·obtain ⟨its,r',pl,hz⟩:=I.tuple hq;have hlen:=r'.length;obtain ⟨o,ho,hc,n,hd⟩:=pl;exact call_list_seq p (.inr rfl) ho hc hd (fun h' c' kp e=>fin its r' hz h' c' kp e) (by simp only [Iw] <;> omega)
theorem kF:a8 X (.type "tuple") (fun xs H Q=>∃ p ys,xs=[.ref p]/\((SqL X.K H p ys/\∀ l,H l=none->Q (.ref l) (upd H l (.tup ys)))\/(SqT X.K H p ys/\Q (.ref p) H))):=by
 intro pins s Z H xs us Q I r h;obtain ⟨p,ys,rfl,h⟩:=h;obtain ⟨u,rfl,rx⟩:=vals1 r;cases rx;rcases h with ⟨hq,q⟩ | ⟨hq,q⟩
 ·obtain ⟨its,r',pl,hz⟩:=I.list hq;have hlen:=r'.length;refine call_tuple_list pl.isList (fun h' kp=>?_) (by simp only [Iw] <;> omega);have I1:Inv X pins Z H { s with heap:=h' }:=I.kept (t':=s.toks) kp;have I2:Inv X pins Z (upd H h'.objs.size (.tup ys)) { s with heap:=h'.push { cls:=.type "tuple", data:=.seq its.toArray } } :=
   I1.laid (t':=s.toks) (fun b o e=>Ia _ e) (Il _) (show bw X.prog X.w _ _ _ (.tup ys) from ⟨hz,its,r',IsTup.new _ _⟩)
  exact ⟨.ref h'.objs.size,_,I2,rfl,q _ (I1.hok.fresh (Il _))⟩
 ·obtain ⟨its,r',pl,hz⟩:=I.tuple hq;exact call_tuple_same pl ⟨.ref p,H,I,rfl,q⟩
def tyV (K:Fg) (T:String) (x:V) (H:Hp):Prop:=match x with
 | .str _=>T = "str"
 | .int _=>T = "int"
 | .ref p=>(T = "list" /\ ∃ xs,SqL K H p xs)\/(T = "tuple" /\ ∃ o,K.lookup p=some o/\o.cls=.type "tuple" /\ o.dict=none) \/
   (T = "dict" /\ ((∃ kvs,H p=some (.dK kvs))\/(∃ kvs,H p=some (.dT kvs))\/∃ ep xs,H p=some (.dD ep xs)))\/(T = "set" /\ ∃ S n,H p=some (.set S n))
 | _=>False
theorem BE {pins:List (Addr×Obj)} {Z:St} {H:Hp} {s:Shared} {T:String} {x:V} {v:Value} (I:Inv X pins Z H s) (r:RelV x v) (ty:tyV X.K T x H) :
  s.TypeIs v T/\∀ a,v=.ref a->∃ ob,s.heap.get? a=some ob/\ob.dict=none:=by
 cases x with
 | str z =>
  obtain ⟨t,rfl⟩:=r;cases (show T = "str" from ty);exact ⟨typeIs_str s z t,fun _ e=>nomatch e⟩
 | int i =>
  obtain ⟨t,rfl⟩:=r;cases (show T = "int" from ty);exact ⟨typeIs_int s i t,fun _ e=>nomatch e⟩
 | ref p =>
  cases r;rcases ty with ⟨rfl,xs,hq⟩ | ⟨rfl,o,hk,hc,hd⟩ | ⟨rfl,hk⟩ | ⟨rfl,S,n,hk⟩
  ·obtain ⟨its,_,pl,_⟩:=I.list hq;refine ⟨pl.isList.typeIs,fun a e=>?_⟩;cases e;obtain ⟨o,n,e,c,hd,_⟩:=pl;exact ⟨o,e,hd⟩
  ·refine ⟨⟨o,I.kIn p o hk,hc⟩,fun a e=>?_⟩;cases e;exact ⟨o,I.kIn _ o hk,hd⟩
  ·have z:∃ o,s.heap.get? p=some o/\o.ExactDict:=by
    rcases hk with ⟨kvs,hk⟩ | ⟨kvs,hk⟩ | ⟨ep,xs,hk⟩
    ·obtain ⟨_,_,_,_,o,_,_,e,ex,_⟩:=I.hok p _ hk;exact ⟨o,e,ex⟩
    ·obtain ⟨_,_,_,_,o,_,_,e,ex,_⟩:=I.hok p _ hk;exact ⟨o,e,ex⟩
    ·obtain ⟨_,_,_,o,_,e,ex,_⟩:=I.hok p _ hk;exact ⟨o,e,ex⟩
   obtain ⟨o,e,ex⟩:=z;refine ⟨⟨o,e,ex.1⟩,fun a e2=>?_⟩;cases e2;exact ⟨o,e,ex.2.1⟩
  ·obtain ⟨o,_,_,_,e,ex,_⟩:=I.hok p _ hk;refine ⟨⟨o,e,ex.1⟩,fun a e2=>?_⟩;cases e2;exact ⟨o,e,ex.2.1⟩
 | _=>exact False.elim ty
def tBM (K:Fg) (T:String) (r:V->List V->Hp->VK->Prop) (to:TE) (t:TA):TE:=fun Z H Q=>to Z H fun x H1=>tyV K T x H1/\t Z H1 fun xs H2=>r x xs H2 Q
variable {o e:Expr} {es:List Expr} {to:TE} {t:TA} {name:Str} {apos cpos:Pos} {T id:String} {r:V->List V->Hp->VK->Prop}
theorem D8 (pa:PlainAttrs T) (slot:Slot T name id) (hty:typeOf (.builtin id)=pure (.type "method_descriptor")) (hm:MtR X id r) (ho:PE X o to) (ha:PA X (e :: es) t)
  (hbase:attributeBase o name X.env (eval o X.env)=eval o X.env:=by rfl)
  (hfew:((backTo cpos (starEach (e :: es) X.env)).all (fun x=>!x.1)&&(backToKw cpos (keywordEach [] X.env)).all (fun x=>x.1.isSome)
   && decide ((e :: es).length+([]:List Keyword).length+(if ([]:List Keyword).isEmpty then 0 else 1) < 30))=true:=by rfl)
  (hline:(apos.endLine==cpos.line)=true:=by rfl) (hs:starEach (e :: es) X.env=(false,eval e X.env) :: starEach es X.env:=by rfl) (hplain:(backTo cpos (starEach es X.env)).any (·.1)=false:=by rfl) :
  PE X (.Call (.Attribute o name apos) (e :: es) [] cpos) (tBM X.K T r to t):=by
 intro pins s Z H Q I h;refine wpAny_Call_method_late hbase hfew hline rfl (thn (ho pins s Z H _ I h) fun v s1 ⟨x,H1,I1,r1,ty,q1⟩=>?_);obtain ⟨h1,h2⟩:=BE I1 r1 ty;refine ⟨T,id,pa,slot,hty,h1,h2,?_⟩;have hA:=ha cpos pins s1 Z H1 _ I1 q1;rw [hs] at hA ⊢;refine Calls.callWith_builtin (by show (false||(backTo cpos (starEach es X.env)).any (·.1))=false;rw [hplain] <;> rfl) (Calls.evalArgs_plain ?_);exact thn hA fun us s2 ⟨vs,H2,I2,r2,q2⟩=>hm pins s2 Z H2 x vs v us Q I2 r1 r2 q2
end
end L2
namespace L2
open PySem PySem.Spec PyProof.Rows
def MtM (X:Cx) (id:String) (r:V->List V->Hp->VK->Prop):Prop :=
 ∀ (pins:List (Addr×Obj)) (s:Shared) (Z:St) (H:Hp) (x:V) (xs:List V) (v:Value) (us:List Value) (Q:VK),Inv X pins Z H s->RelV x v->Vals xs us->r x xs H Q ->
  wpAny (model X.prog X.w) X.A (call (.builtin id) (v :: us)) (EP X pins Z Q) X.xe s
theorem Vals.one:∀ {x:V} {us:List Value},Vals [x] us->∃ u,us=[u]/\RelV x u
 | _,_,.cons r .nil=>⟨_,rfl,r⟩
theorem Vals.dropLast {xs:List V} {us:List Value} (h:Vals xs us):Vals xs.dropLast us.dropLast:=by
 induction h with
 | nil=>exact .nil
 | cons r t ih =>
  cases t with
  | nil=>exact .nil
  | cons q t'=>exact .cons r ih
section
variable {X:Cx} {pins:List (Addr×Obj)} {Z:St} {H:Hp} {s:Shared} {l b:Addr} {xs ys zs:List V}
theorem Inv.Hi {its its':List Value} {n:Nat} {f:Array Value->Array Value} {t':Nat} (I:Inv X pins Z H s) (hH:H l=some (.lst xs))
  (e:s.heap.get? l=some { cls:=.type "list", data:=.seq its.toArray n }) (hf:f its.toArray=its'.toArray) (hv:Vals ys its') (hz:ys.length<=sizeLine) :
  Inv X pins Z (upd H l (.lst ys)) { s with heap:=s.heap.update l (Obj.mapSeq f),toks:=t' }:=by
 have q:=PySem.IsL.update e f;rw [hf] at q;refine I.write (x:=l) (e:=l) (by rw [hH];exact trivial) (.inl rfl) (fun b' u hb hu=>(Kl s.heap (Obj.mapSeq f) (Ne.symm hb)).trans hu) ⟨_,q⟩ ?_;exact ⟨hz,its',_,hv,q⟩
theorem Inv.GD {its:List Value} {t':Nat} (I:Inv X pins Z H s) (hv:Vals ys its) (hz:ys.length<=sizeLine) :
  Inv X pins Z (upd H s.heap.objs.size (.lst ys)) { s with heap:=s.heap.push { cls:=.type "list", data:=.seq its.toArray },toks:=t' } :=
 I.laid (fun _ _ q=>Ia _ q) (Il _) ⟨hz,its,0,hv,Im _ rfl⟩
theorem Inv.fresh (I:Inv X pins Z H s):H s.heap.objs.size=none:=I.hok.fresh (Il _)
theorem Inv.HH (I:Inv X pins Z H s) (hH:H l=some (.lst xs)):xs.length<=sizeLine/\∃ (its:List Value) (n:Nat),Vals xs its/\xs.length=its.length/\s.heap.get? l=some { cls:=.type "list", data:=.seq its.toArray n }:=by
 obtain ⟨z,its,n,r,e⟩:=I.hok l _ hH;exact ⟨z,its,n,r,r.length,e⟩
end
section
variable {X:Cx}
def r9:V->List V->Hp->VK->Prop:=fun x vs H Q=>∃ l xs y,x=.ref l/\vs=[y]/\H l=some (.lst xs)/\xs.length < sizeLine/\Q .non (upd H l (.lst (xs++[y])))
theorem lH:MtM X "list.append" r9:=by
 intro pins s Z H x vs v us Q I rx rv h;obtain ⟨l,xs,y,rfl,rfl,hH,hz,q⟩:=h;cases rx;obtain ⟨u,rfl,ru⟩:=rv.one;obtain ⟨z,its,n,r,hl,e⟩:=I.HH hH;refine JZ F.slot_list_append ⟨_,e,rfl⟩ F.entry_list_append (F.args_list_append_2 _ _) (PySem.list_append l its.toArray n u (by rw [Iw];omega)) ⟨e,?_⟩;refine ⟨.non,_,I.Hi (its':=its++[u]) hH e (by simp) (r.append (.cons ru .nil)) ?_,rfl,q⟩;rw [Io,JM];omega
end
end L2
namespace L2
open PySem PySem.Spec PyProof.Rows
section
variable {κ:Type} [DecidableEq κ]
noncomputable def putK (kvs:List (κ×V)) (k:κ) (v:V):List (κ×V) :=
 if (kvs.any fun kv=>decide (kv.1=k))=true then kvs.map (fun kv=>if kv.1=k then (kv.1,v) else kv) else kvs++[(k,v)]
theorem m6 (kvs:List (κ×V)) (k:κ) (v:V):(putK kvs k v).length<=kvs.length+1:=by
 unfold putK;split
 ·rw [Ic];omega
 ·rw [Io,IH,K8];omega
theorem KV.any {kvs:List (κ×V)} {vs:List (κ×Value)} (r:KV kvs vs) (k:κ):(kvs.any fun kv=>decide (kv.1=k))=vs.any fun kv=>decide (kv.1=k):=by
 unfold KV at r;induction r with
 | nil=>rfl
 | cons h t ih=>rw [Kr,Kr,ih,h.1]
theorem KV.Hk {kvs:List (κ×V)} {vs:List (κ×Value)} (r:KV kvs vs) (k:κ) {y:V} {u:Value} (ry:RelV y u) :
  KV (kvs.map fun kv=>if kv.1=k then (kv.1,y) else kv) (vs.map fun kv=>if kv.1=k then (kv.1,u) else kv):=by
 unfold KV at r ⊢;induction r with
 | nil=>exact .nil
 | @cons p q ps qs h t ih =>
  rw [List.map_cons,List.map_cons];refine .cons ?_ ih;obtain ⟨h1,h2⟩:=h;by_cases e:p.1=k
  ·rw [Iy e,Iy (h1.symm.trans e)];exact ⟨h1,ry⟩
  ·rw [ID e,ID (fun z=>e (h1.trans z))];exact ⟨h1,h2⟩
theorem KV.put {kvs:List (κ×V)} {vs:List (κ×Value)} (r:KV kvs vs) (k:κ) {y:V} {u:Value} (ry:RelV y u):KV (putK kvs k y) (stored vs k u):=by
 unfold putK stored;rw [r.any k];by_cases e:(vs.any fun kv=>decide (kv.1=k))=true
 ·rw [Iy e,Iy e];exact r.Hk k ry
 ·rw [ID e,ID e];exact Paired.snoc r ⟨rfl,ry⟩
end
theorem DG {P:Program} {w:World} {k:Key} {u:Value} (r:RelV (kV k) u):(az P w).is k u=true:=by
 cases k with
 | inl i=>obtain ⟨t,e⟩:=(show ∃ t,u=Value.int i t from r);subst e;exact mF P w i t
 | inr x=>obtain ⟨t,e⟩:=(show ∃ t,u=Value.str x t from r);subst e;exact jd P w x t
section
variable {X:Cx} {pins:List (Addr×Obj)} {Z:St} {H:Hp} {s:Shared} {a:Addr} {y v:V} {u r:Value} {o:Option V} {A:Around} {E:Value->Shared->Prop}
theorem Inv.big (I:Inv X pins Z H s):sysModules < s.heap.objs.size:=by
 have h:mainGlobals < s.heap.objs.size:=(I.mod.glob.keeps I.bk).lt;exact KC (by decide) h
theorem mM {h':Heap} {t':Nat} {ob:HO} (I:Inv X pins Z H s) (mu:Mut (H a)) (hs:Heap.SameBut a s.heap h') (he:∃ q,h'.get? a=some q) (new:bw X.prog X.w (upd H a ob) h' a ob) :
  Inv X pins Z (upd H a ob) { s with heap:=h',toks:=t' } :=
 I.write (x:=a) (e:=a) mu (.inl rfl) (fun b q hb z=>(hs.2 b hb).trans z) he new
end
def Gi (i:Expr):Prop:=∀ ov iv,subscripted i false ov iv=operate [ov,iv] (getItem ov iv)
theorem yX {prog:Program} {w:World} {A:Around} {E:Value->Shared->Prop} {s:Shared} {env:Env} {value slice:Expr} {pos:Pos} {T id:String} {Q:Value->Shared->Prop}
  (hl:typeLookup (.type T) "__getitem__" = pure (some (.builtin id))) (hs:Gi slice)
  (h:wpAny (model prog w) A (eval value env) (fun o ZW=>wpAny (model prog w) A (eval slice env) (fun i ZU=>ZU.TypeIs o T/\wpAny (model prog w) A (getItem o i) Q E ZU) E ZW) E s) :
  wpAny (model prog w) A (eval (.Subscript value slice pos) env) Q E s:=by
 refine Subscript_ (Jd h (fun o ZW h₁=>Jd h₁ (fun i ZU h₂=>?_) fun _ _ x=>x) fun _ _ x=>x);obtain ⟨hT,h₂⟩:=h₂;unfold subscriptTail;refine H9 ?_;rw [getitemInPython_of_ne hT.not_modules];refine H9 (Kb hT hl ?_);have fin:wpAny (model prog w) A (subscripted slice false o i) (fun r ZZ=>wpAny (model prog w) A (letTemporaryGo value o r>>=fun _=>pure r) Q E ZZ) E ZU:=by
  rw [hs o i];exact wpAny_operating (Jd h₂ (fun r ZZ h₃=>H9 (wpAny_letTemporaryGo (Ib h₃))) fun _ _ x=>x)
 first
  | exact Ib (H9 fin)
  | exact H9 (Ib (H9 fin))
  | exact H9 fin
def oe:List (TE×TE)->St->Hp->(List (V×V)->Hp->Prop)->Prop
 | [],_,H,Q=>Q [] H
 | (tk,tv) :: r,Z,H,Q=>tk Z H fun x H1=>tv Z H1 fun y H2=>oe r Z H2 fun ps H3=>Q ((x,y) :: ps) H3
abbrev VV:List (V×V)->List (Value×Value)->Prop:=Paired fun p q=>RelV p.1 q.1/\RelV p.2 q.2
def PPs (X:Cx) (pos:Pos) (keys:List (Option Expr)) (values:List Expr) (trs:List (TE×TE)):Prop :=
 ∀ (pins:List (Addr×Obj)) (s:Shared) (Z:St) (H:Hp) (Q:List (V×V)->Hp->Prop),Inv X pins Z H s->oe trs Z H Q ->
  wpAny (model X.prog X.w) X.A (evalPairs (pairTrees keys values X.env pos)) (fun vs s'=>∃ ps H',Inv X pins Z H' s'/\VV ps vs/\Q ps H') X.xe s
theorem xB {X:Cx} {pos:Pos}:PPs X pos [] [] []:=fun pins s Z H Q I h=>pairTrees_nil_walk ⟨[],H,I,.nil,h⟩
theorem uV {X:Cx} {pos:Pos} {k v:Expr} {ks:List (Option Expr)} {vs:List Expr} {tk tv:TE} {trs:List (TE×TE)} (hk:PE X k tk) (hv:PE X v tv) (hr:PPs X pos ks vs trs) :
  PPs X pos (some k :: ks) (v :: vs) ((tk,tv) :: trs):=fun pins s Z H Q I h =>
 pairTrees_cons_walk (thn (hk pins s Z H _ I h) fun u s1 ⟨x,H1,I1,rx,q1⟩=>thn (hv pins s1 Z H1 _ I1 q1) fun w2 s2 ⟨y,H2,I2,ry,q2⟩ =>
  thn (hr pins s2 Z H2 _ I2 q2) fun ws s3 ⟨ps,H3,I3,rel,q3⟩=>⟨(x,y) :: ps,H3,I3,.cons ⟨rx,ry⟩ rel,q3⟩)
noncomputable def dX (kvs more:List (Key×V)):List (Key×V):=more.foldl (fun acc kv=>putK acc kv.1 kv.2) kvs
theorem KV.merge:∀ {more:List (Key×V)} {rs:List (Key×Value)} {kvs:List (Key×V)} {vs:List (Key×Value)},KV more rs->KV kvs vs->KV (dX kvs more) (merged vs rs):=by
 intro more rs kvs vs r;unfold KV at r;induction r generalizing kvs vs with
 | nil=>intro q;exact q
 | @cons p q ps qs h t ih =>
  intro r0;have e:KV (putK kvs p.1 p.2) (stored vs q.1 q.2):=by
   have:=r0.put p.1 h.2;rw [<- h.1];exact this
  exact ih e
theorem fq:∀ (more kvs:List (Key×V)),(dX kvs more).length<=kvs.length+more.length
 | [],kvs=>by show kvs.length<=kvs.length+0;omega
 | p :: r,kvs=>by
  have h1:=fq r (putK kvs p.1 p.2);have h2:=m6 kvs p.1 p.2;show (dX (putK kvs p.1 p.2) r).length<=_;rw [IH];omega
theorem jL {P:Program} {w:World}:∀ {kvs:List (Key×V)} {ws:List (Value×Value)},VV (kvs.map fun kv=>(kV kv.1,kv.2)) ws->∃ rs,Carries (az P w) ws rs/\KV kvs rs
 | [],_,r=>by rw [List.map_nil] at r;cases r;exact ⟨[],True.intro,.nil⟩
 | p :: kvs,_,r=>by
  rw [List.map_cons] at r;cases r with
  | @cons a b as bs h t =>
   obtain ⟨rs,c,q⟩:=jL (P:=P) (w:=w) t;obtain ⟨b1,b2⟩:=b;exact ⟨(p.1,b2) :: rs,⟨DG h.1,rfl,c⟩,.cons ⟨rfl,h.2⟩ q⟩
end L2
namespace Att
open PySem PySem.W PySem.Calls PyProof.Rows
theorem il {P:Params} {h:Heap}:∀ (ns:List Int) (vs:List Value),WellAll P h vs (ns.map WData.int)->IntsAre vs ns:=by
 intro ns;induction ns with
 | nil =>
  intro vs w;rw [List.map_nil] at w;cases w;exact .nil
 | cons n ns ih =>
  intro vs w;rw [List.map_cons] at w;cases w with
  | cons a b =>
   cases a;exact .cons _ _ (ih _ b)
theorem qE {l:OpenLaw} {n:Nat} (hn:l.most=some n) {P:Params} {h:Heap} {args:List WData} {vals:List Value}
  (hpre:l.row.toRowW.claim.pre args=true) (hwl:WellAll P h vals args) :
  ∃ a vs ns,vals=[Value.ref a]/\args=[WData.list (ns.map WData.int)]/\h.get? a=some { cls:=.type "list", data:=.seq vs.toArray }/\IntsAre vs ns/\ns.length<=n:=by
 have hsh:WShape.hasAll [] args [.list .int]=true:=(pre_splitW hpre).1;have hc:l.pre.holds [] { args:=args }=true:=(pre_splitW hpre).2;obtain ⟨d,r,rfl,h1,h2⟩:=hasAllW_cons hsh;obtain rfl:=hasAllW_nil h2;obtain ⟨xs,rfl,h3⟩:=hasW_list h1;obtain ⟨ns,rfl⟩:=items_int h3;have hlen:ns.length<=n:=by
  unfold OpenLaw.pre at hc;have h4:(WTm.not (.lt (.lit (.int (n:Int))) (.len (.arg 0)))).holds [] { args:=[.list (ns.map .int)] }=true:=by
   have h4:=(holds_andW hc).1;rw [hn] at h4;exact h4
  have h5:=condW_of h4 (w_not (w_lt w_lit (w_len_list (w_arg rfl))));rw [Ic] at h5;refine Nat.le_of_not_lt fun q=>?_;have q':(n:Int) < ((ns.length:Nat):Int):=by omega
  first
   | (rw [Jh q'] at h5;exact absurd h5 (by decide))
   | (simp at h5;omega)
 cases hwl with
 | cons w1 w2 =>
  cases w2;cases w1 with
  | list ho hall=>exact ⟨_,_,ns,rfl,rfl,ho,il ns _ hall,hlen⟩
theorem rH (l:OpenLaw) (args:List WData):l.row.toRowW.claim.post args (.bool true) args=true :=
 postW_of (r:=l.row.toRowW) (X:=(true==true))
  (show WShape.has [] (.bool true) .bool=true by first | rfl | decide | simp [WShape.has,WShape.arms,WShape.armsAll])
  (show (WTm.eq .res (.lit (.bool true))).value [] { args:=args,res:=some (.bool true),after:=args }=some (.bool (true==true)) from w_eq_bool (w_res rfl) w_lit) rfl
theorem mN {l:OpenLaw} {n:Nat} {q:Program} {loose:List Str} {XP:(Str->Option Value)->Heap->Prop} {YP:World->Heap->Prop} {d:DefRec}
  (hn:l.most=some n) (hdf:d.params.defaults=[])
  (call:∀ (w:World) (ZO ZW:Shared) (mg mb:Str->Option Value) (fa:Addr) (o:Obj) (pm cd doc:Value) (a:Addr) (vs:List Value) (ns:List Int),
   Ground q loose [] XP w ZO mg mb ZW.heap->YP w ZW.heap ->
   ZW.heap.get? fa=some o->o.data=.func (docDef d.name d.params d.body d.scope pm cd doc)->ZW.heap.CodeRec cd d.name->mg d.name=some (.ref fa) ->
   ZW.heap.get? a=some { cls:=.type "list", data:=.seq vs.toArray }->IntsAre vs ns->ns.length<=n->ZW.gens=#[] ->
   codeAny (model l.prog w) callerA (.call (.ref fa) ⟨[.ref a],[]⟩) (fun r s'=>r=.ok (.ret (.bool true))/\OldK ZW.heap s'.heap/\s'.os=ZW.os/\AllBare s'.gens) ZW) :
  WalkO q loose XP YP l.row.toRowW d [] (fun f vs=>PySem.call f vs):=by
 intro w ZO ZW mg mb G Y fa o pm cd doc dV kV ho hd hcd hD hmg hg args vals as hpre hlay hrd hwl hlo;obtain rfl:dV=.none:=Dflts.none hD hdf;obtain rfl:kV=.none:=Dflts.noKw hD;obtain ⟨a,vs,ns,rfl,rfl,hobj,hints,hlen⟩:=qE hn hpre hwl;refine enter_call (Kz (call w ZO ZW mg mb fa o pm cd doc a vs ns G Y ho (fd_plain hd) hcd hmg hobj hints hlen hg) fun r s' hq=>?_);obtain ⟨rfl,h2,h3,h4⟩:=hq;exact ⟨.inl ⟨.bool true,.bool true,[],rfl,fun _=>rfl,.bool true,rH l _,fun _=>⟨List.Pairwise.nil,fun _ hm=>(nomatch hm)⟩⟩,h2,h3,h4⟩
end Att
namespace L2
open PySem PySem.Spec PyProof.Rows
theorem lR:∀ {vs:List Value} {ns:List Int},IntsAre vs ns->Vals (ns.map V.int) vs
 | _,_,.nil=>.nil
 | _,_,.cons n t h=>.cons ⟨t,rfl⟩ (lR h)
def C8 (H:Hp):Prop:=∀ b,H b=none\/(∃ o xs,H b=some (.frz o (.lst xs)))\/∃ q pos,H b=some (.tbl q pos)
noncomputable def qd:Hp:=fun b=>(bX.find? fun t=>t.2.1==b).map fun t=>.tbl t.2.2.1 t.2.2.2
theorem fV {b:Addr} {u:HO} (e:qd b=some u):∃ t∈bX,b=t.2.1/\u=.tbl t.2.2.1 t.2.2.2:=by
 obtain ⟨t,h1,h2⟩:=IK.mp e;have h3:(t.2.1==b)=true:=List.find?_some (p:=fun t:Addr×Addr×Str×Pos=>t.2.1==b) h1;exact ⟨t,KN h1,(KH.mp h3).symm,h2.symm⟩
theorem uX {P:Program} {w:World} {K:Fg} {mg mb:Str->Option Value} {CX:CXT} {k:Nat} {fa a:Addr} {fd:FuncData} {x:Str} {sp:Sp} {ZW:Shared} {vs:List Value} {ns:List Int}
  (KX:K.In ZW.heap) (hns:ZW.heap.Ns mainGlobals mg) (hb:ZW.heap.Ns builtinsNs mb) (hbb:∀ x:Str,x ≠ "__name__" -> mb x=bootBuiltins x) (hlim:ZW.heap.NoLimit) (hg:ZW.gens=#[])
  (ha:ZW.heap.get? a=some { cls:=.type "list", data:=.seq vs.toArray }) (hi:IntsAre vs ns) (hl:ns.length<=sizeLine) (hr:cZ k callerA)
  (F:∀ base:Heap,K.In base->base.Ns mainGlobals mg->bK P w K mg base CX k fa fd [x] sp) (hbind:∀ (s:Shared) (u:Value),BindsTo s fd ⟨[u],[]⟩ [(x,u)])
  (hT:∀ t∈bX,PySem.W.CodeHd ZW.heap t.1 t.2.1/\ZW.heap.get? t.2.1=some (PySem.W.tabObj #[])) (hTK:∀ t∈bX,K.lookup t.2.1=none) (hTH:zo qd)
  (hbm:∃ bm ob,mg "__builtins__" = some (.ref bm)/\bm≠builtinsNs/\ZW.heap.get? bm=some ob/\ob.cls=.type "module" /\ ob.dict=some builtinsNs/\ob.data=.plain)
  (hsp:∀ H:Hp,C8 H->SqL K H a (ns.map V.int)->sp [.ref a] H (fun v _=>v=.bl true) fun _ _ _=>False)
  (hCX:∀ H e s',CX [] H ZW (fun _ _ _=>False) e s'->False) :
  codeAny (model P w) callerA (.call (.ref fa) ⟨[.ref a],[]⟩) (fun r s'=>r=.ok (.ret (.bool true))/\OldK ZW.heap s'.heap/\s'.os=ZW.os/\AllBare s'.gens) ZW:=by
 have rv:=lR hi;have lenV:=hi.length;have tA:∀ t∈bX,t.2.1≠a:=fun t ht z=>by
  have e:=(hT t ht).2;rw [z,ha] at e;cases e
 have core:∀ H:Hp,C8 H->SqL K H a (ns.map V.int)->HOk P w H ZW.heap->(∀ b,H b≠none->b=a\/∃ t∈bX,b=t.2.1)->(H a≠none->K.lookup a=none)->zo H ->
   codeAny (model P w) callerA (.call (.ref fa) ⟨[.ref a],[]⟩) (fun r s'=>r=.ok (.ret (.bool true))/\OldK ZW.heap s'.heap/\s'.os=ZW.os/\AllBare s'.gens) ZW:=by
  intro H hO hS hok hA hK hTb;have base_of:∀ {b:Addr} {o:Obj},ZW.heap.get? b=some o->H b=none->(ux ZW.heap H).get? b=some o:=fun e n=>uF e n;have noA:∀ {b:Addr} {o:Obj} {es:Array DictEntry} {ep:Nat},ZW.heap.get? b=some o->o.data=.dict es ep->H b=none:=fun {b o es ep} e d=>by
   cases q:H b with
   | none=>rfl
   | some u =>
    rcases hA b (by rw [q];simp) with e' | ⟨t,ht,e'⟩
    ·subst e';rw [ha] at e;cases e;have d':Data.seq vs.toArray _=Data.dict es ep:=d;cases d'
    ·subst e';rw [(hT t ht).2] at e;cases e;have d':Data.fields #[]=Data.dict es ep:=d;cases d'
  have nsK:∀ {b:Addr} {m:Str->Option Value},ZW.heap.Ns b m->(ux ZW.heap H).Ns b m:=fun {b m} ⟨o,es,ep,e,d,r⟩=>⟨o,es,ep,base_of e (noA e d),d,r⟩
  have hKb:K.In (ux ZW.heap H):=fun b o e=>base_of (KX b o e) (by
   cases q:H b with
   | none=>rfl
   | some u =>
    rcases hA b (by rw [q];simp) with e' | ⟨t,ht,e'⟩
    ·subst e';rw [hK (by rw [q];simp)] at e;cases e
    ·subst e'
     rw [hTK t ht] at e;cases e)
  have noC:∀ {b:Addr} {o:Obj} {n:String},ZW.heap.get? b=some o->o.cls=.type n->n ≠ "list" -> H b=none:=fun {b o n} e d hn=>by
   cases q:H b with
   | none=>rfl
   | some u =>
    rcases hA b (by rw [q];simp) with e' | ⟨t,ht,e'⟩
    ·subst e';rw [ha] at e;cases e;have d':Value.type "list" = Value.type n:=d;cases d';exact absurd rfl hn
    ·subst e';rw [(hT t ht).2] at e;cases e;cases d
  have hM:Mod K mg (ux ZW.heap H):=⟨hKb,nsK hns,⟨mb,nsK hb,hbb⟩,let ⟨mc,h1,h2⟩:=hlim;⟨mc,nsK h1,h2⟩,
   let ⟨bm,ob,c1,c2,c3,c4,c5⟩:=hbm;⟨bm,ob,c1,c2,base_of c3 (noC c3 c4 (by decide)),c4,c5⟩,
   fun t ht=>let ⟨oc,vc,file,tf,flags,tg,inF,text,tt,c1,c2,c3⟩:=(hT t ht).1;⟨oc,vc,file,tf,flags,tg,inF,text,tt,base_of c1 (noC c1 c2 (by decide)),c2,c3⟩⟩
  have e0:t9 P w K mg (ux ZW.heap H) callerA [] ZW H:=⟨rfl,hM,fun b o e=>xb e,Nat.le_of_eq (qD _ _),trivial,fun b hb=>absurd (show b∈([]:List Addr) from hb) (by simp),hTb,hok,.of_eq hg⟩;refine Kz ((F _ hKb (nsK hns)).run callerA [] ZW H ⟨[.ref a],[]⟩ [.ref a] [.ref a] _ _ hr e0 (hbind ZW (.ref a)) (.cons rfl .nil) (hsp H hO hS)) fun r s' h=>?_;cases r with
  | error e=>exact (hCX H e s' h).elim
  | ok fl =>
   cases fl with
   | next=>exact False.elim h
   | brk=>exact False.elim h
   | cont=>exact False.elim h
   | ret u =>
    obtain ⟨v,H',os,bare,un,hok',r',q⟩:=h;have q':v=.bl true:=q;subst q';obtain rfl:u=Value.bool true:=r';refine ⟨rfl,⟨fun b o e=>?_,fun b o e=>un.there b o e (by simp)⟩,os,bare⟩;cases q:H b with
    | none=>exact .inl (un.keep b o e q (by intro z;exact absurd (show b∈([]:List Addr) from z) (by simp)) (by simp))
    | some u =>
     rcases hO b with z | ⟨ob,xs,z⟩ | ⟨x,y,z⟩
     ·rw [q] at z;cases z
     ·have z2:=un.ll b ob _ z;obtain ⟨e1,_⟩:=hok b _ z;obtain ⟨e2,_⟩:=hok' b _ z2;rw [e] at e1;cases e1;exact .inl e2
     ·obtain ⟨ps,e2,_⟩:=hok' b _ (un.kC b x y z);rcases hA b (by rw [q];simp) with e' | ⟨t,ht,e'⟩
      ·subst e';obtain ⟨ps0,e3,_⟩:=hok b _ z;rw [ha] at e3;cases e3
      ·subst e';have e4:=(hT t ht).2;rw [e] at e4;cases e4;exact .inr (.inl ⟨((hT t ht).1.tab (hT t ht).2).isCodeTable,rfl,#[],ps,rfl,by rw [e2];simp⟩)
 have okT:∀ {H:Hp} {b:Addr} {u:HO},qd b=some u->bw P w H ZW.heap b u:=fun {H b u} e=>by
  obtain ⟨t,ht,rfl,rfl⟩:=fV e;exact ⟨#[],(hT t ht).2,trivial,.inl rfl⟩
 cases hk:K.lookup a with
 | some o =>
  have e:=KX a o hk;rw [ha] at e;cases e;refine core qd (fun b=>?_) (.inr ⟨_,vs.toArray,_,hk,rfl,rfl,rfl,by rw [Iw,lenV];exact hl,by simpa using rv⟩) (fun b u z=>okT z) (fun b z=>?_) (fun z=>?_) hTH
  ·cases q:qd b with
   | none=>exact .inl rfl
   | some u=>obtain ⟨t,_,_,rfl⟩:=fV q;exact .inr (.inr ⟨_,_,rfl⟩)
  ·cases q:qd b with
   | none=>exact absurd q z
   | some u=>obtain ⟨t,ht,e,_⟩:=fV q;exact .inr ⟨t,ht,e⟩
  ·cases q:qd a with
   | none=>exact absurd q z
   | some u=>obtain ⟨t,ht,e,_⟩:=fV q;exact absurd e.symm (tA t ht)
 | none =>
  refine core (fun b=>if b=a then some (.frz { cls:=.type "list", data:=.seq vs.toArray } (.lst (ns.map V.int))) else qd b) (fun b=>?_) (.inl (.inr ⟨{ cls:=.type "list", data:=.seq vs.toArray },Iy rfl⟩)) (fun b u z=>?_) (fun b z=>?_) (fun _=>hk) fun t ht=>(ID (tA t ht)).trans (hTH t ht)
  ·by_cases hb:b=a
   ·exact .inr (.inl ⟨_,_,Iy hb⟩)
   ·cases q:qd b with
    | none=>exact .inl ((ID hb).trans q)
    | some u=>obtain ⟨t,_,_,rfl⟩:=fV q;exact .inr (.inr ⟨_,_,(ID hb).trans q⟩)
  ·by_cases hb:b=a
   ·have z':=(Iy hb).symm.trans z;cases z';subst hb;exact ⟨ha,by rw [Ic];exact hl,vs,_,rv,ha⟩
   ·have z':=(ID hb).symm.trans z;exact okT z'
  ·by_cases hb:b=a
   ·exact .inl hb
   ·cases q:qd b with
    | none=>exact absurd ((ID hb).trans q) z
    | some u=>obtain ⟨t,ht,e,_⟩:=fV q;exact .inr ⟨t,ht,e⟩
end L2
namespace L2
open PySem PySem.Spec PyProof.Rows
abbrev KOf {K:Fg} {h:Heap} (_:K.In h):Fg:=K
theorem yL {l:PySem.W.OpenLaw} {n k:Nat} {q:Program} {loose:List Str} {XP:(Str->Option Value)->Heap->Prop} {YP:World->Heap->Prop} {d:DefRec} {K:Params->Fg} {CX:World->CXT} {sp:World->Sp} {x:Str}
  (hn:l.most=some n) (hn2:n<=sizeLine) (hdf:d.params.defaults=[]) (hr:cZ k callerA)
  (hY:∀ (w:World) (h:Heap),YP w h->(K w.params).In h)
  (hT:∀ (w:World) (h:Heap),YP w h->∀ t∈bX,PySem.W.CodeHd h t.1 t.2.1/\h.get? t.2.1=some (PySem.W.tabObj #[])) (hTK:∀ w:World,∀ t∈bX,(K w.params).lookup t.2.1=none) (hTH:zo qd)
  (F:∀ (w:World) (mg:Str->Option Value) (fa:Addr) (h:Heap),(K w.params).In h->h.Ns mainGlobals mg->mg d.name=some (.ref fa) ->
   ∃ fd:FuncData,(∀ (s:Shared) (u:Value),BindsTo s fd ⟨[u],[]⟩ [(x,u)]) /\
    ∀ base:Heap,(K w.params).In base->base.Ns mainGlobals mg->bK l.prog w (K w.params) mg base (CX w) k fa fd [x] (sp w))
  (hsp:∀ (w:World) (H:Hp) (a:Addr) (ns:List Int),ns.length<=n->C8 H->SqL (K w.params) H a (ns.map V.int)->sp w [.ref a] H (fun v _=>v=.bl true) fun _ _ _=>False)
  (hCX:∀ (w:World) (H:Hp) (s:Shared) (e:Value) (s':Shared),CX w [] H s (fun _ _ _=>False) e s'->False) :
  PySem.W.WalkO q loose XP YP l.row.toRowW d [] (fun f vs=>PySem.call f vs):=by
 refine Att.mN hn hdf fun w ZO ZW mg mb fa o pm cd doc a vs ns G Y ho hd hcd hmg hobj hints hlen hg=>?_;have KX:=hY w _ Y;obtain ⟨fd,hb,hF⟩:=F w mg fa _ KX G.T.g hmg;exact uX KX G.T.g G.T.b G.T.builtins G.T.nolimit hg hobj hints (IM hlen hn2) hr hF hb (hT w _ Y) (hTK w) hTH G.T.bmain (fun H hO hS=>hsp w H a ns hlen hO hS) fun H e s'=>hCX w H ZW e s'
theorem ur {l:PySem.W.OpenLaw} {n k:Nat} {q:Program} {loose:List Str} {XP:(Str->Option Value)->Heap->Prop} {YP:World->Heap->Prop} {d:DefRec} {K:Params->Fg} {CX:CXT} {sp:Fg->Sp} {x:Str}
  (hn:l.most=some n) (hn2:n<=sizeLine) (hdf:d.params.defaults=[]) (hr:cZ k callerA)
  (hY:∀ (w:World) (h:Heap),YP w h->(K w.params).In h)
  (hT:∀ (w:World) (h:Heap),YP w h->∀ t∈bX,PySem.W.CodeHd h t.1 t.2.1/\h.get? t.2.1=some (PySem.W.tabObj #[])) (hTK:∀ w:World,∀ t∈bX,(K w.params).lookup t.2.1=none) (hTH:zo qd)
  (F:∀ (w:World) (mg:Str->Option Value) (fa:Addr) (h:Heap),(K w.params).In h->h.Ns mainGlobals mg->mg d.name=some (.ref fa) ->
   ∃ fd:FuncData,(∀ (s:Shared) (u:Value),BindsTo s fd ⟨[u],[]⟩ [(x,u)]) /\
    ∀ base:Heap,(K w.params).In base->base.Ns mainGlobals mg->bK l.prog w (K w.params) mg base CX k fa fd [x] (sp (K w.params)))
  (hsp:∀ (K:Fg) (H:Hp) (a:Addr) (ns:List Int),ns.length<=n->C8 H->SqL K H a (ns.map V.int)->sp K [.ref a] H (fun v _=>v=.bl true) fun _ _ _=>False)
  (hCX:∀ (H:Hp) (s:Shared) (e:Value) (s':Shared),CX [] H s (fun _ _ _=>False) e s'->False) :
  PySem.W.WalkO q loose XP YP l.row.toRowW d [] (fun f vs=>PySem.call f vs) :=
 yL (K:=K) (CX:=fun _=>CX) (sp:=fun w=>sp (K w.params)) hn hn2 hdf hr hY hT hTK hTH F (fun w H a ns h1 h2 h3=>hsp (K w.params) H a ns h1 h2 h3) fun _ H s e s'=>hCX H s e s'
end L2
namespace L2
open PySem PySem.Spec PyProof.Rows
noncomputable def iN (s:Stmt):Arguments:=match s with
 | .FunctionDef _ a _ _ _ _ _ _ _ _=>a
 | _=>{ posonlyargs:=[],args:=[],vararg:=none,kwonlyargs:=[],kw_defaults:=[],kwarg:=none,defaults:=[] }
noncomputable def a9 (s:Stmt):List Stmt:=match s with
 | .FunctionDef _ _ b _ _ _ _ _ _ _=>b
 | _=>[]
noncomputable def ab (s:Stmt):Scope:=match s with
 | .FunctionDef _ _ _ _ _ _ sc _ _ _=>sc
 | _=>{ kind:=.function,names:=[],isGenerator:=false,isCoroutine:=false }
abbrev CX0:CXT:=fun _ _ _ _ _ _=>False
abbrev E0:XK:=fun _ _ _=>False
theorem uw {X:Cx}:Passes CX0 X E0:=fun _ _ _ _ _ _ _ h=>h.elim
structure Fun (K:Fg) (x qual:Str) (st:Stmt) (f:Addr) (fd:FuncData):Prop where
 ex:∃ (oc:Value) (od:Option Addr) (kV doc pm:Value) (an:Option Addr) (cdv ct:Value) (osl:Array (Option Value)),
  fd=PySem.W.fnOf x qual (iN st) (a9 st) (ab st) .none kV doc pm an cdv ct/\K.lookup f=some ⟨oc,od,.func fd,osl⟩/\PySem.W.codeIn K cdv qual=true
 kp:PySem.W.keepIn K (.ref f)=true
section
variable {P:Program} {w:World} {K:Fg} {mg:Str->Option Value} {base:Heap}
theorem Fun.ok {x qual:Str} {st:Stmt} {f:Addr} {fd:FuncData} {N ps:List Str} {k:Nat} {sp:Sp} (F:Fun K x qual st f fd) (S:aq N ps (ab st)) (len:∀ vs H Q E,sp vs H Q E->vs.length=ps.length)
  (gJ:∀ (cdv:Value) (A:Around) (outer:List Env) (s:Shared) (H:Hp) (vs:List V) (Q:VK) (E:XK),cZ k (A.deeper (envOfC qual (ab st) s.heap.objs.size f cdv))->sp vs H Q E ->
   ∃ t,PSs (ml CX0 P w K mg base N qual (ab st) f cdv A outer s H E).nox (a9 st) t/\t { nx:=fun _ H'=>Q .non H',rt:=Q } (start N vs) H):bK P w K mg base CX0 (k+1) f fd ps sp:=by
 obtain ⟨oc,od,kV,doc,pm,an,cdv,ct,osl,rfl,lk,hcd⟩:=F.ex;refine Bm lk hcd S len fun A outer s H vs Q E hr hsp=>?_;obtain ⟨t,h,q⟩:=gJ cdv A outer s H vs Q E hr hsp;exact ⟨t,h.nox,q⟩
theorem BP {x qual:Str} {st:Stmt} {f:Addr} {oc:Value} {od an:Option Addr} {osl:Array (Option Value)} {kV doc pm cdv ct:Value} (l:K.lookup f=some ⟨oc,od,.func (PySem.W.fnOf x qual (iN st) (a9 st) (ab st) .none kV doc pm an cdv ct),osl⟩)
  (c:PySem.W.codeIn K cdv qual=true) (k:PySem.W.keepIn K (.ref f)=true):Fun K x qual st f (PySem.W.fnOf x qual (iN st) (a9 st) (ab st) .none kV doc pm an cdv ct):=⟨⟨oc,od,kV,doc,pm,an,cdv,ct,osl,rfl,l,c⟩,k⟩
end
section
variable {X:Cx}
theorem pv (i:Nat) {x:Str} {pos:Pos} (hN:X.N[i]?=some x:=by rfl) (hv:Vis X.env.scope x:=by first | exact Or.inl rfl | exact Or.inr (Or.inl rfl) | exact Or.inr (Or.inr rfl)) (hd:(x==("__debug__" : Str))=false:=by decide)
  (hcd:(x==("__classdict__" : Str))=false:=by decide):PE X (.Name x pos) (aj i):=qk hN hv hd hcd
end
def aA (H H':Hp):Prop:=∀ b o,H b=some o->H' b=some o
theorem aA.trans {H H1 H2:Hp} (a:aA H H1) (b:aA H1 H2):aA H H2:=fun c o h=>b c o (a c o h)
theorem aA.free {H H':Hp} (e:aA H H') {l:Addr} (h:H' l=Option.none):H l=Option.none:=by
 cases q:H l with
 | none=>rfl
 | some o =>
  rw [e l o q] at h;cases h
theorem aA.seq {K:Fg} {H H':Hp} {a:Addr} {xs:List V} (e:aA H H') (h:SqL K H a xs):SqL K H' a xs:=by
 rcases h with (h | ⟨o,h⟩) | h
 ·exact .inl (.inl (e _ _ h))
 ·exact .inl (.inr ⟨o,e _ _ h⟩)
 ·exact .inr h
noncomputable def kY (env:Env):List (Str×NameKind)->List (Str×Addr)->List (Str×Addr)
 | [],cs=>cs
 | (n,k) :: r,cs=>kY env r (if k==.free then (n,(env.cells.lookup n).getD 0) :: cs else cs)
theorem dH {env:Env}:∀ (ns:List (Str×NameKind)) (cs:List (Str×Addr)),(∀ y∈ns,y.2=.free->∃ c,env.cells.lookup y.1=some c) ->
  (forIn ns cs (fun (x:Str×NameKind) (r:List (Str×Addr))=>if (x.2==NameKind.free)=true then (cellOf env x.1>>=fun a=>pure (ForInStep.yield ((x.1,a) :: r)):Sem _) else pure (ForInStep.yield r)):Sem (List (Str×Addr)))=pure (kY env ns cs)
 | [],_,_=>rfl
 | (n,k) :: r,cs,h=>by
  rw [List.forIn_cons];by_cases hk:k=.free
  ·subst hk;obtain ⟨c,e⟩:=h (n,.free) IE rfl;have e':env.cells.lookup n=some c:=e;have q:=dH (env:=env) r ((n,c) :: cs) fun y hy=>h y (Ip _ hy);have z:kY env ((n,NameKind.free) :: r) cs=kY env r ((n,c) :: cs):=by
    show kY env r (if (NameKind.free==NameKind.free)=true then (n,(env.cells.lookup n).getD 0) :: cs else cs)=_;rw [Iy (by decide),e'];rfl
   have k:cellOf env n=pure c:=by
    unfold cellOf;rw [e']
   rw [z,<-q];dsimp only;rw [Iy (by decide),k];rfl
  ·have hb:(k==NameKind.free)=false:=by simpa using hk
   have q:=dH (env:=env) r cs fun y hy=>h y (Ip _ hy);have z:kY env ((n,k) :: r) cs=kY env r cs:=by
    show kY env r (if (k==NameKind.free)=true then (n,(env.cells.lookup n).getD 0) :: cs else cs)=_;rw [hb,ID Jp]
   rw [z,<-q];dsimp only;rw [hb,ID Jp];rfl
theorem fM {scope:Scope} {env:Env} (h:∀ y∈scope.names,y.2=.free->∃ c,env.cells.lookup y.1=some c):closureFor scope env=pure (kY env scope.names []):=by
 have q:=dH (env:=env) scope.names [] h;unfold closureFor;show (forIn scope.names [] _>>=_:Sem _)=_;refine Eq.trans (congrArg (fun m:Sem (List (Str×Addr))=>m>>=fun r=>pure r) (Eq.trans ?_ q)) rfl;rfl
theorem kE {env:Env}:∀ (ns:List (Str×NameKind)) (cs:List (Str×Addr)),(∀ y∈ns,y.2=.free->∃ c,env.cells.lookup y.1=some c)->(∀ y c,cs.lookup y=some c->env.cells.lookup y=some c) ->
  ∀ y c,(kY env ns cs).lookup y=some c->env.cells.lookup y=some c
 | [],_,_,g,y,c,e=>g y c e
 | (n,k) :: r,cs,h,g,y,c,e=>by
  refine kE r _ (fun z hz=>h z (Ip _ hz)) (fun z d e'=>?_) y c e;by_cases hk:(k==NameKind.free)=true
  ·rw [Iy hk] at e';rw [K1] at e';obtain ⟨c',ec⟩:=h (n,k) IE (by simpa using hk);have ec':env.cells.lookup n=some c':=ec;cases hz:z==n with
   | true =>
    rw [hz] at e';have hzn:z=n:=by simpa using hz
    subst hzn;rw [ec'] at e' ⊢;exact e'
   | false=>rw [hz] at e';exact g z d e'
  ·rw [ID hk] at e';exact g z d e'
theorem lV {env:Env} {y:Str}:∀ (ns:List (Str×NameKind)) (cs:List (Str×Addr)),(∃ c,cs.lookup y=some c)->∃ c,(kY env ns cs).lookup y=some c
 | [],_,h=>h
 | (n,k) :: r,cs,h=>by
  refine lV r _ ?_;by_cases hk:(k==NameKind.free)=true
  ·rw [Iy hk,K1];cases y==n
   ·exact h
   ·exact ⟨_,rfl⟩
  ·rw [ID hk];exact h
theorem cK {env:Env} {y:Str}:∀ (ns:List (Str×NameKind)) (cs:List (Str×Addr)),(y,NameKind.free)∈ns->∃ c,(kY env ns cs).lookup y=some c
 | [],_,h=>by simp at h
 | (n,k) :: r,cs,h=>by
  rcases Iq.mp h with e | h
  ·cases e;show ∃ c,(kY env r (if (NameKind.free==NameKind.free)=true then (y,(env.cells.lookup y).getD 0) :: cs else cs)).lookup y=some c;refine lV r _ ⟨(env.cells.lookup y).getD 0,?_⟩;rw [Iy (by decide),K1,beq_self_eq_true]
  ·exact cK r _ h
theorem aX {env:Env} {y:Str} {k:NameKind}:∀ (ns:List (Str×NameKind)),
  (ns.map fun (n,k)=>if (k==NameKind.free&&env.scope.kind==.function&&env.kindOf n==some .cell) then (n,NameKind.cell) else (n,k)).lookup y=some k->(y,k)∈ns\/(k=.cell/\(y,NameKind.free)∈ns)
 | [],h=>by simp at h
 | (n,k') :: r,h=>by
  have ih:=fun q=>aX (env:=env) (y:=y) (k:=k) r q;rw [List.map_cons] at h;have h2:=h;have again:=fun q=>(ih q).elim (fun q=>Or.inl (Ip (n,k') q)) fun q=>(Or.inr ⟨q.1,Ip (n,k') q.2⟩:(y,k)∈(n,k') :: r\/(k=.cell/\(y,NameKind.free)∈(n,k') :: r));dsimp only at h2;clear h;by_cases hc:(k'==NameKind.free&&env.scope.kind==.function&&env.kindOf n==some .cell)=true
  ·rw [Iy hc,K1] at h2;cases hy:y==n with
   | true =>
    rw [hy] at h2;have e1:y=n:=by simpa using hy
    have hk:k'=.free:=by
     have:=hc;simp at this;exact this.1.1
    have e2:k=.cell:=(Jm h2).symm;exact .inr ⟨e2,by rw [e1,hk];exact IE⟩
   | false=>rw [hy] at h2;exact again h2
  ·rw [ID hc,K1] at h2;cases hy:y==n with
   | true =>
    rw [hy] at h2;have e1:y=n:=by simpa using hy
    have e2:k'=k:=Jm h2;exact .inl (by rw [e1,e2];exact IE)
   | false=>rw [hy] at h2;exact again h2
noncomputable def cxB (X:Cx) (N':List Str) (scope:Scope) (C:Addr) (s3:Shared) (H3:Hp) (ex:List Addr):Cx :=
  { prog:=X.prog,w:=X.w,K:=X.K,mg:=X.mg,base:=X.base,A:=X.A,N:=N',ZO:=s3,ZM:=H3,env:=compEnvC scope (kY X.env scope.names []) C X.env,outer:=X.stack,stack:=X.stack,ex:=ex,
    fn:=fun _=>false,calm:=true,pn:=[],xe:=fun _ _=>False }
def df (X:Cx) (scope:Scope):List Str->List Nat->Prop
 | [],[]=>True
 | y :: ys,j :: js=>X.N[j]?=some y/\(X.env.scope.names.lookup y=some .cell/\scope.names.lookup y=some .free)/\df X scope ys js
 | _,_=>False
theorem df.get {X:Cx} {scope:Scope}:∀ {ys:List Str} {js:List Nat} {k:Nat} {y:Str},df X scope ys js->ys[k]?=some y->∃ j,js[k]?=some j/\X.N[j]?=some y/\X.env.scope.names.lookup y=some .cell/\scope.names.lookup y=some .free
 | [],_,_,_,_,e=>by simp at e
 | _ :: _,[],_,_,h,_=>False.elim h
 | y :: ys,j :: js,0,z,h,e=>by simp at e;subst e;exact ⟨j,rfl,h.1,h.2.1⟩
 | y :: ys,j :: js,k+1,z,h,e=>by
  obtain ⟨j',e1,e2⟩:=df.get (k:=k) h.2.2 (by simpa using e);exact ⟨j',by simpa using e1,e2⟩
theorem df.len {X:Cx} {scope:Scope}:∀ {ys:List Str} {js:List Nat},df X scope ys js->ys.length=js.length
 | [],[],_=>rfl
 | _ :: _,_ :: _,h=>by simp [df.len h.2.2]
 | [],_ :: _,h=>False.elim h
 | _ :: _,[],h=>False.elim h
noncomputable def bh (js:List Nat) (Z:St):St:=js.map fun j=>(Z[j]?).getD none
structure f7 (X:Cx) (scope:Scope) (x:Str):Prop where
 kind:scope.kind=.function
 cells:∀ y∈scope.names,y.2≠.cell
 locs:∀ y∈scope.names,y.2=.local->scope.names.lookup y.1=some .local
 var:scope.names.lookup x=some .local
 free:∀ y∈scope.names,y.2=.free->X.env.scope.names.lookup y.1=some .cell
def PTs (X:Cx) (ifs:List Expr) (t:TT):Prop :=
 ∀ (pins:List (Addr×Obj)) (s:Shared) (Z:St) (H:Hp) (Q:Bool->Hp->Prop),Inv X pins Z H s->t Z H Q ->
  wpAny (model X.prog X.w) X.A (forIn ifs true fun c r=>if r=true then do let ok<-isTrue c X.env (eval c X.env);pure (ForInStep.yield ok) else pure (ForInStep.yield r)) (TP X pins Z Q) X.xe s
def ui:TT:=fun _ H Q=>Q true H
theorem yW {X:Cx}:PTs X [] ui:=fun _ _ _ H _ I h=>wpAny_tests_nil ⟨H,I,h⟩
theorem yu {X:Cx} {c:Expr} {t:TT} (h:PT X c t):PTs X [c] t:=fun pins s Z H Q I q=>wpAny_tests_one (h pins s Z H Q I q)
theorem sD {X:Cx} {pins:List (Addr×Obj)} {Z:St} {H:Hp} {s3:Shared} {h1:Heap} {tk:Nat} {scope:Scope} {x:Str} {ys:List Str} {js:List Nat} {ex:List Addr} (I:Inv X pins Z H s3) (hc:X.calm=true) (B:f7 X scope x) (cap:df X scope ys js)
  (hns:h1.Ns s3.heap.objs.size (fun _=>none)) (hk:∀ b o,s3.heap.get? b=some o->h1.get? b=some o)
  (hex:∀ b∈ex,b ∉ frs X.stack/\b < s3.heap.objs.size/\(∀ y c,X.env.cells.lookup y=some c->c≠b)/\X.base.get? b=none) :
  Inv (cxB X (x :: ys) scope s3.heap.objs.size s3 H ex) [] (none :: bh js Z) H { s3 with heap:=h1,toks:=tk }:=by
 have hfree:∀ y∈scope.names,y.2=.free->∃ c,X.env.cells.lookup y.1=some c:=fun y hy hf=>I.ok.has y.1 (.inl (B.free y hy hf));have sub:=kE (env:=X.env) scope.names [] hfree (fun _ _ e=>by simp at e)
 refine ⟨⟨I.ok.mod,B.kind,I.ok.glob,I.ok.blt,Il _,fun y z c h1 h2=>I.ok.inj y z c (sub _ _ h1) (sub _ _ h2),fun y hy=>?_,fun y c hf _=>?_,fun _=>I.ok.hd hc,I.ok.frames,.inl rfl,fun b hb=>?_,fun b o e=>I.bs b o e,IM I.ok.bsz I.sz,fun b o e hb=>?_,fun b hb=>(hex b hb).1,I.stack,I.mQ,fun t ht=>I.base.kC _ _ _ (I.ok.tabs t ht)⟩,
  rfl,I.bare,Un.kept hk,⟨_,hns,fun i y v e1 e2 e3=>?_⟩,fun y c e=>?_,I.hok.fresh (Il _),fun y c e=>I.et y c (sub _ _ e),fun p hp=>absurd (show p∈([]:List (Addr×Obj)) from hp) (by simp),I.hok.kept hk,?_⟩
 ·have hy:(relabel scope X.env).names.lookup y=some .cell\/(relabel scope X.env).names.lookup y=some .free:=hy;rcases hy with hy | hy
  ·rcases aX _ hy with q | ⟨_,q⟩
   ·exact absurd rfl (B.cells _ q)
   ·exact cK _ _ q
  ·rcases aX _ hy with q | ⟨q,_⟩
   ·exact cK _ _ q
   ·cases q
 ·exact absurd (show false=true from hf) (by simp)
 ·exact ⟨Iz (hex b hb).2.1,fun y c e=>(hex b hb).2.2.1 y c (sub _ _ e)⟩
 ·have e':X.base.get? b=some o:=e;have:=(hex b hb).2.2.2;rw [e'] at this;cases this
 ·cases i with
  | zero=>simp at e2
  | succ i =>
   have e1':ys[i]?=some y:=by simpa [cxB] using e1
   have e2':(bh js Z)[i]?=some (some v):=by simpa using e2
   obtain ⟨j,ej,en,ec,ef⟩:=cap.get e1';have e4:Z[j]?=some (some v):=by
    unfold bh at e2';rw [Ik,ej] at e2';simp only [Option.map_some,Option.some.injEq] at e2';cases q:Z[j]? with
    | none=>rw [q] at e2';cases e2'
    | some w=>rw [q] at e2';simp at e2';rw [e2']
   obtain ⟨m,hn,hl⟩:=I.loc;obtain ⟨u,r,l⟩:=hl j y v en e4 (.inr (.inl ec));refine ⟨u,r,.inr ?_⟩;rcases l with ⟨kl,_⟩ | ⟨kc,c,ecl,cell⟩
   ·have kl:X.env.scope.names.lookup y=some .local:=kl;rw [ec] at kl;cases kl
   ·have e3:(relabel scope X.env).names.lookup y=some .local\/(relabel scope X.env).names.lookup y=some .cell\/(relabel scope X.env).names.lookup y=some .free:=e3;refine ⟨?_,?_⟩
    ·rcases e3 with q | q | q
     ·rcases aX _ q with q | ⟨q,_⟩
      ·have:=B.locs _ q rfl;rw [ef] at this;cases this
      ·cases q
     ·exact .inl q
     ·exact .inr q
    ·have mem:(y,NameKind.free)∈scope.names:=Jr ef;obtain ⟨c',ec'⟩:=cK (env:=X.env) scope.names [] mem;have:=sub _ _ ec';rw [ecl] at this;cases this;obtain ⟨o,ho,hd⟩:=cell;exact ⟨c,ec',o,hk _ _ ho,hd⟩
 ·obtain ⟨v,o,ho,hd⟩:=I.cell y c (sub _ _ e);exact ⟨v,o,hk _ _ ho,hd⟩
 ·show (none :: bh js Z).length=(x :: ys).length;rw [IH,IH,cap.len];unfold bh;rw [Ic]
def fT (js:List Nat) (wi:TI) (tt:TT) (te:TE):TE:=fun Z H Q=>wi Z H fun J H1=>∃ W:Nat->Nat->List V->Hp->Prop,(∃ m,W 0 m [] H1)/\∀ i m acc H,W i m acc H ->
 (J.stop i H/\acc.length<=sizeLine/\∀ p,H p=none->Q (.ref p) (upd H p (.lst acc)))\/(J.go i H/\acc.length < sizeLine/\∀ x H',J.yld i H x H' ->
  tt (some x :: bh js Z) H' fun b H2=>if b=true then te (some x :: bh js Z) H2 fun y H3=>∃ m',m' < m/\W (i+1) m' (acc++[y]) H3 else ∃ m',m' < m/\W (i+1) m' acc H2)
theorem vD {M:Model} {A:Around} {α β:Type} {E E':Value->Shared->Prop} {a:α} {t:Sem α} {u:Sem β} {Q:α->Shared->Prop} {R:β->Shared->Prop} {s s':Shared} (e:t=pure a) (h:wpAny M A t Q E s) (k:Q a s->wpAny M A u R E' s'):wpAny M A u R E' s':=by
 subst e;exact fun Γ p ZY=>k (h Γ p ZY) Γ p ZY
theorem oR {X:Cx} {pins:List (Addr×Obj)} {Z:St} {H:Hp} {s2:Shared} {elt iter:Expr} {x:Str} {px pos:Pos} {ifs:List Expr} {scope:Scope} {tt:TT} {te:TE} {ys:List Str} {js:List Nat} {it:Addr} {fp:List Addr} {tn:Nat->Heap->Prop} {J:It}
    {Q:VK} {E:Value->Shared->Prop} {RR:Value->Addr->Result->Shared->Prop} (hc:X.calm=true) (B:f7 X scope x) (nd:(x :: ys).Nodup) (cap:df X scope ys js)
    (ht:∀ C s3 H3 ex,PTs (cxB X (x :: ys) scope C s3 H3 ex) ifs tt) (he:∀ C s3 H3 ex,PE (cxB X (x :: ys) scope C s3 H3 ex) elt te)
    (I:Inv X pins Z H s2) (T:Turn X.prog X.w X.K (.Name x px) J fp it tn) (h0:tn 0 s2.heap) (hf:∀ b∈fp,tG X pins H b)
    (W:Nat->Nat->List V->Hp->Prop) (w0:∃ m,W 0 m [] H)
    (turn:∀ i m acc H,W i m acc H->(J.stop i H/\acc.length<=sizeLine/\∀ p,H p=none->Q (.ref p) (upd H p (.lst acc)))\/(J.go i H/\acc.length < sizeLine/\∀ x H',J.yld i H x H' ->
      tt (some x :: bh js Z) H' fun b H2=>if b=true then te (some x :: bh js Z) H2 fun y H3=>∃ m',m' < m/\W (i+1) m' (acc++[y]) H3 else ∃ m',m' < m/\W (i+1) m' acc H2))
    (hRR:∀ (D C:Addr) (H':Hp) (s':Shared) (m':Str->Option Value),s'.heap.Ns C m'->s2.heap.objs.size<=C->C≠D->H' C=none->Inv X pins Z H' s'->Q (.ref D) H'->RR (.ref D) C (.ok .next) s') :
    wpAny (model X.prog X.w) X.A (newList []) (fun acc ZZ=>wpAny (model X.prog X.w) X.A (newFunctionEnv scope X.env.globals (kY X.env scope.names []) [] X.env.qual none .none (some X.env)) (fun cenv s₄ =>
      codeAny (model X.prog X.w) X.A (.compStart (.ListComp elt [⟨.Name x px,iter,ifs,0⟩] scope pos) 0 (.ref it) acc { cenv with scope:=relabel scope X.env }) (RR acc cenv.locals) s₄) E ZZ) E s2:=by
  refine Jg (wpAny_newFunctionEnv B.cells (by intro y hy;simp at hy) (fun h1 hns hsb=>?_) B.kind);dsimp only at hns hsb ⊢;have hD:H s2.heap.objs.size=none:=I.hok.fresh (Il _);generalize hH2:s2.heap.push { cls:=.type "list", dict:=none,data:=.seq ([]:List Value).toArray }=P2 at hns hsb ⊢;have hgetD:P2.get? s2.heap.objs.size=some { cls:=.type "list", dict:=none,data:=.seq ([]:List Value).toArray }:=by rw [<- hH2];exact Im _ rfl
  have hold:∀ b o,s2.heap.get? b=some o->P2.get? b=some o:=fun b o e=>by rw [<- hH2];exact Ia _ e
  have hsz:P2.objs.size=s2.heap.objs.size+1:=by rw [<- hH2,Jv]
  have I3:Inv X pins Z H { s2 with heap:=P2,toks:=s2.toks }:=I.kept hold;generalize hDe:s2.heap.objs.size=D at *;have keep1:∀ b o,P2.get? b=some o->h1.get? b=some o:=fun b o e=>hsb.extBut b o (Iz (Ij e)) (Ia _ e);have hfp:∀ b∈fp,b < D:=fun b hb=>by
    obtain ⟨o,e,_⟩:=T.obj _ _ h0 b hb;rw [<- hDe];exact Ij e
  have hstk:∀ b,b≠X.env.locals->b ∉ X.fs->b ∉ frs X.stack:=fun b h1 h2 z=>(Iq.mp (I.lF b z)).elim h1 h2;have hDl:D≠X.env.locals:=fun z=>absurd I.lt (by rw [hDe,z];exact IU _);have hDfs:D ∉ X.fs:=I.Dx (by rw [hDe];exact Il _);have hDc:∀ y c,X.env.cells.lookup y=some c->c≠D:=fun y c e z=>by
    obtain ⟨v,q⟩:=I.cell y c e;have:=q.lt;rw [z,hDe] at this;exact absurd this (IU _)
  have hex:∀ b∈D :: fp,b ∉ frs X.stack/\b < ({ s2 with heap:=P2,toks:=s2.toks }:Shared).heap.objs.size/\(∀ y c,X.env.cells.lookup y=some c->c≠b)/\X.base.get? b=none:=fun b hb=>by
    rcases Iq.mp hb with rfl | hb
    · refine ⟨hstk _ hDl hDfs,by show _ < P2.objs.size;rw [hsz];exact JV _,hDc,?_⟩;cases q:X.base.get? b with
      | none=>rfl
      | some o =>
        have:=Ij (I.bk b o q);rw [hDe] at this;exact absurd this (IU _)
    · obtain ⟨f0,f1,f2,f3,f4,f5⟩:=hf b hb;refine ⟨hstk _ f1 f2,by show _ < P2.objs.size;rw [hsz];exact J3 (hfp b hb),f4,?_⟩;cases q:X.base.get? b with
      | none=>rfl
      | some o =>
        rcases f3 with z | z
        · exact absurd z (I.ok.zj b o q)
        · exact absurd (Ir (Ij q) (IM I.ok.bsz z)) (IU _)
  have IB:=sD (tk:=s2.toks) (ex:=D :: fp) I3 hc B cap (h1:=h1) hns keep1 hex;have hCD:P2.objs.size≠D:=by rw [hsz];exact Nat.succ_ne_self _
  have start:codeAny (model X.prog X.w) X.A (.compLoop (.ListComp elt [⟨.Name x px,iter,ifs,0⟩] scope pos) 0 (.ref it) (.ref D) (compEnvC scope (kY X.env scope.names []) P2.objs.size X.env)) (RR (.ref D) P2.objs.size) { s2 with heap:=h1,toks:=s2.toks }:=by
    obtain ⟨m0,w0⟩:=w0;refine codeAny_compLoop_tests (fun n s=>∃ i v0 H' acc its k,Inv (cxB X (x :: ys) scope P2.objs.size { s2 with heap:=P2,toks:=s2.toks } H (D :: fp)) [] (v0 :: bh js Z) H' s/\tn i s.heap/\(∀ b∈D :: fp,H' b=none)/\s.heap.get? D=some { cls:=.type "list", data:=.seq its k }/\Vals acc its.toList/\acc.length<=sizeLine/\W i n acc H') ?_ m0 ?_
    · rintro n s ⟨i,v0,H3,acc,its,k,I4,t4,fr4,g4,va,hl4,w4⟩;have hDm:D∈D :: fp:=IE;have exf:=I4.ok.exf;have fsub:∀ b∈D :: fp,b ∉ (cxB X (x :: ys) scope P2.objs.size { s2 with heap:=P2,toks:=s2.toks } H (D :: fp)).fs:=fun b hb=>(hex b hb).1;have stat:∀ {H':Hp} {ob:Obj},(∀ b∈fp,H' b=none)->∀ b∈fp,tG (cxB X (x :: ys) scope P2.objs.size { s2 with heap:=P2,toks:=s2.toks } H (D :: fp)) [(D,ob)] H' b:=fun {H' ob} hn b hb =>
        ⟨hn b hb,(exf b (Ip _ hb)).1,fsub b (Ip _ hb),.inl (Ip _ hb),(exf b (Ip _ hb)).2,fun p hp z=>by
          have hp':p∈[(D,ob)]:=hp;have e:=Ii.mp hp';rw [e] at z
          exact absurd (hfp b hb) (by rw [<- show D=b from z];exact IU _)⟩
      have frp:∀ b∈fp,H3 b=none:=fun b hb=>fr4 b (Ip _ hb);have I5:Inv (cxB X (x :: ys) scope P2.objs.size { s2 with heap:=P2,toks:=s2.toks } H (D :: fp)) [(D,{ cls:=.type "list", data:=.seq its k })] (v0 :: bh js Z) H3 s:=I4.dY fun p hp=>by
        rw [Ii.mp hp];exact ⟨g4,fr4 D hDm,(exf D hDm).1,fsub D hDm,fun v z=>nomatch z⟩
      rcases turn i n acc H3 w4 with ⟨stop,hacc,q⟩ | ⟨go,hacc,step⟩
      · refine Jd (T.done (cxB X (x :: ys) scope P2.objs.size { s2 with heap:=P2,toks:=s2.toks } H (D :: fp)) rfl rfl rfl rfl i _ s _ H3 (fun _ _=>False) I5 (stat frp) t4 stop) (fun r s1 ⟨hr,I6⟩=>?_) (fun _ _ z=>z.elim);subst hr;obtain ⟨m',hn',_⟩:=id I6.loc;have pD:=(I6.pin (D,{ cls:=.type "list", data:=.seq its k }) (IC _ (Ii.mpr rfl))).1;have nD:H3 D=none:=fr4 D hDm;have u:=I6.base;have uu:Un (frs X.stack) (D :: fp) H (upd H3 D (.lst acc)) P2 s1.heap :=
          ⟨u.keep,u.slot,fun b o q n hx=>by rw [ae fun z=>hx (by rw [z];exact hDm)];exact u.free b o q n hx,u.there,
           fun b xs q=>by rw [ae (af (u.oQ b xs q) nD)];exact u.oQ b xs q,fun b o v q=>by rw [ae (af (u.ll b o v q) nD)];exact u.ll b o v q,
           fun b x y q=>by rw [ae (af (u.kC b x y q) nD)];exact u.kC b x y q⟩
        have hok:HOk X.prog X.w (upd H3 D (.lst acc)) s1.heap:=fun b o e=>by
          by_cases hb:b=D
          · subst hb;rw [ai] at e;cases e;exact ⟨hacc,its.toList,k,va,by rw [Array.toArray_toList];exact pD⟩
          · rw [ae hb] at e;exact (I6.hok b o e).jg (fun c v _ q=>q) (fun c q=>by rw [ae (af q nD)];exact q) (fun c xs q=>by rw [ae (af q nD)];exact q) fun c o u vs q _=>by rw [ae (af q nD)];exact q
        have fin:=I3.call (g':=s1.gens) (t':=s1.toks) (d':=s1.drawn) uu hok I6.bare (fun b hb=>by
          rcases Iq.mp hb with z | hb
          · rw [z];refine ⟨.inr (by rw [<- hDe];exact I.sz),hDl,hDc,fun p hp z=>?_⟩;have:=Ij (I.pin p hp).1;rw [z,hDe] at this;exact IU _ this
          · exact ⟨(hf b hb).2.2.2.1,(hf b hb).2.1,(hf b hb).2.2.2.2.1,(hf b hb).2.2.2.2.2⟩)
        have es:({ heap:=s1.heap,gens:=s1.gens,drawn:=s1.drawn,toks:=s1.toks,os:=s2.os }:Shared)=s1:=by
          have:=I6.os;obtain ⟨a1,a2,a3,a4,a5⟩:=s1;have e5:a5=s2.os:=this;rw [e5]
        have fin':Inv X pins Z (upd H3 D (.lst acc)) s1:=es▸fin;exact hRR D P2.objs.size (upd H3 D (.lst acc)) s1 m' hn' (by rw [hsz];exact Nat.le_succ _) hCD (by rw [ae hCD];exact I6.free) fin' (q D nD)
      · refine Jd (T.item (cxB X (x :: ys) scope P2.objs.size { s2 with heap:=P2,toks:=s2.toks } H (D :: fp)) rfl rfl rfl rfl i _ s _ H3 (fun _ _=>False) I5 (stat frp) t4 go) (fun r s1 ⟨u,hr,h4⟩=>?_) (fun _ _ z=>z.elim);subst hr;refine vD (a:=()) rfl h4 fun ⟨x',H5,I6,r6,y6,t6,fr6⟩=>?_;have I7:=I6.pinned (stat fr6) (T.obj _ _ t6);have kx:(relabel scope X.env).names.lookup x=some .local:=lookup_relabel_local B.var;have pg:PG (cxB X (x :: ys) scope P2.objs.size { s2 with heap:=P2,toks:=s2.toks } H (D :: fp)) (.Name x px) (aT 0):=iC nd rfl (.inl kx) (.inr kx);refine Jd (pg _ s1 _ H5 x' u (fun Z' H'=>Z'=some x' :: bh js Z/\H'=H5) I7 r6 ⟨rfl,rfl⟩) (fun _ s2' ⟨Z6,H6,I8,e1,e2⟩=>?_) (fun _ _ z=>z.elim);subst e1 e2;refine Jd (ht _ _ _ _ _ s2' _ _ _ I8 (step x' H6 y6)) (fun b s3' ⟨H7,I9,q9⟩=>?_) (fun _ _ z=>z.elim);have pinsKeep:∀ {Z':St} {H':Hp} {s':Shared},Inv (cxB X (x :: ys) scope P2.objs.size { s2 with heap:=P2,toks:=s2.toks } H (D :: fp)) ([(D,{ cls:=.type "list", data:=.seq its k })]++jE fp s1.heap) Z' H' s' ->
            s'.heap.get? D=some { cls:=.type "list", data:=.seq its k }/\(∀ b∈D :: fp,H' b=none)/\∀ b∈fp,∀ o,s1.heap.get? b=some o->s'.heap.get? b=some o:=fun {Z' H' s'} J=>by
          have pd:=J.pin (D,{ cls:=.type "list", data:=.seq its k }) (IC _ (List.mem_append_left _ (Ii.mpr rfl)));refine ⟨pd.1,fun b hb=>?_,fun b hb o e=>(J.pin (b,o) (IC _ (IC _ (bP hb e)))).1⟩;rcases Iq.mp hb with rfl | hb
          · exact pd.2.1
          · obtain ⟨o,e,_⟩:=T.obj _ _ t6 b hb;exact (J.pin (b,o) (IC _ (IC _ (bP hb e)))).2.1
        cases b with
        | false =>
          rw [ID Jp] at q9;obtain ⟨m',hm,w9⟩:=q9;obtain ⟨p1,p2,p3⟩:=pinsKeep I9;rw [ID Jp];exact ⟨m',hm,i+1,some x',H7,acc,its,k,I9.dY (fun p hp=>absurd hp (by simp)),T.keep _ _ _ t6 p3,p2,p1,va,hl4,w9⟩
        | true =>
          rw [Iy rfl] at q9;rw [Iy rfl];refine Jd (he _ _ _ _ _ s3' _ _ _ I9 q9) (fun y s4' ⟨yv,H8,I10,ry,m',hm,w10⟩=>?_) (fun _ _ z=>z.elim);obtain ⟨p1,p2,p3⟩:=pinsKeep I10;have hsize:its.size=acc.length:=by rw [va.length];simp
          have I11:=I10.dY (pins':=[]) (fun p hp=>absurd hp (by simp));refine wpAny_list_append_plain ⟨k,p1⟩ (fun h' hpl hsame=>?_) (by rw [hsize];exact J6 hacc);obtain ⟨k',e'⟩:=hpl;have neD:∀ {b:Addr} {o:HO},H8 b=some o->b≠D:=fun e z=>by rw [z,p2 D hDm] at e;cases e
          refine ⟨m',hm,i+1,some x',H8,acc++[yv],its.push y,k',?_,?_,p2,e',?_,?_,w10⟩
          · refine I11.step (g':=s4'.gens) (t':=s4'.toks) (d':=s4'.drawn) (ch:=[D]) (fun b hb=>?_) (fun b o _ _ hc' e _=>?_) (fun b o _ _ hc' e _=>⟨o.slots,?_⟩) (fun b o hc' e n=>n) (fun b o hc' e=>⟨o,?_⟩) (fun _ _ z=>z) (fun _ _ _ z=>z) (fun _ _ _ z=>z) (fun m hn=>hn.sameBut hsame (Ne.symm (exf D hDm).1)) (fun b o e=>?_) I11.bare
            · rw [Ii.mp hb];exact ⟨.inl hDm,(exf D hDm).1,(exf D hDm).2,fun p hp=>absurd (show p∈([]:List (Addr×Obj)) from hp) (by simp)⟩
            · exact (hsame.2 b fun z=>hc' (Ii.mpr z)).trans e
            · exact (hsame.2 b fun z=>hc' (Ii.mpr z)).trans e
            · exact (hsame.2 b fun z=>hc' (Ii.mpr z)).trans e
            · refine (I11.hok b o e).jg (fun c v hc' q=>(hsame.2 c ?_).trans q) (fun _ q=>q) (fun _ _ q=>q) fun _ _ _ _ q _=>q;rcases hc' with z | z
              · rw [z];exact neD e
              · exact neD z
          · refine T.keep _ _ _ t6 fun b hb o e=>(hsame.2 b ?_).trans (p3 b hb o e);exact Iz (hfp b hb)
          · rw [Km];exact va.append (.cons ry .nil)
          · rw [Io,JM];exact hacc
    · refine ⟨0,none,H,[],#[],_,IB,T.keep _ _ _ h0 (fun b hb o e=>keep1 b o (hold b o e)),fun b hb=>?_,keep1 _ _ hgetD,.nil,JD _,w0⟩;rcases Iq.mp hb with rfl | hb
      · exact hD
      · exact (hf b hb).1
  exact codeAny_compStart_list start (T.self _ 0 _ _ _ (T.keep _ _ _ h0 (fun b hb o e=>keep1 b o (hold b o e))) start)
theorem xG {X:Cx} {elt iter:Expr} {x:Str} {px pos:Pos} {ifs:List Expr} {scope:Scope} {wi:TI} {tt:TT} {te:TE} {ys:List Str} {js:List Nat} (hc:X.calm=true) (hi:PI X (.Name x px) iter wi) (B:f7 X scope x) (nd:(x :: ys).Nodup) (cap:df X scope ys js)
  (ht:∀ C s3 H3 ex,PTs (cxB X (x :: ys) scope C s3 H3 ex) ifs tt) (he:∀ C s3 H3 ex,PE (cxB X (x :: ys) scope C s3 H3 ex) elt te) (hs:∀ x,foldedSetIterable iter X.env x=pure x:=by intro _;rfl) :
  PE X (.ListComp elt [⟨.Name x px,iter,ifs,0⟩] scope pos) (fT js wi tt te):=by
 intro pins s Z H Q I h;have hcl:=fM (scope:=scope) (env:=X.env) fun y hy hf=>I.ok.has y.1 (.inl (B.free y hy hf));rw [eval_ListComp];refine wpAny_comprehension_free (use:=none) rfl hs hcl B.kind B.locs (Jd (hi pins s Z H _ I h) (fun xv s1 h1=>Jd h1 (fun itv s2 h2=>?_) fun _ _ e=>e) fun _ _ e=>e);obtain ⟨it,fp,tn,J,H2,e,I2,T,st2,f2,W,w0,turn⟩:=h2;subst e;refine oR (RR:=fun acc C=>compPost (model X.prog X.w) X.A X.xe none (EP X pins Z Q) acc C) hc B nd cap ht he I2 T st2 f2 W w0 turn ?_;intro D C H' s' m' hn hC hCD hCn I' q;refine ⟨m',hn,fun h' hs'=>⟨.ref D,H',?_,rfl,q⟩⟩;have hL:X.env.locals≠C:=Iz (Ir I2.lt hC);have neC:∀ {b:Addr} {o:HO},H' b=some o->b≠C:=fun e z=>by rw [z,hCn] at e;cases e
 refine I'.step (g':=s'.gens) (t':=s'.toks) (d':=s'.drawn) (ch:=[C]) (fun b hb=>?_) (fun b o _ _ hc' e _=>?_) (fun b o _ _ hc' e _=>⟨o.slots,?_⟩) (fun b o hc' e n=>n) (fun b o hc' e=>⟨o,?_⟩) (fun _ _ z=>z) (fun _ _ _ z=>z) (fun _ _ _ z=>z) (fun m hn=>hn.sameBut hs' hL) (fun b o e=>?_) I'.bare
 ·rw [Ii.mp hb];refine ⟨.inr (IM I2.sz hC),Ne.symm hL,fun y c e z=>?_,fun p hp z=>?_⟩
  ·obtain ⟨v,q⟩:=I2.cell y c e;have:=q.lt;rw [z] at this;exact absurd (Ir this hC) (IU _)
  ·have:=Ij (I2.pin p hp).1;rw [z] at this;exact absurd (Ir this hC) (IU _)
 ·exact (hs'.2 b fun z=>hc' (Ii.mpr z)).trans e
 ·exact (hs'.2 b fun z=>hc' (Ii.mpr z)).trans e
 ·exact (hs'.2 b fun z=>hc' (Ii.mpr z)).trans e
 ·refine (I'.hok b o e).jg (fun c v hc' q=>(hs'.2 c ?_).trans q) (fun _ q=>q) (fun _ _ q=>q) fun _ _ _ _ q _=>q;rcases hc' with z | z
  ·rw [z];exact neC e
  ·exact neC z
theorem xY {X:Cx} {elt iter:Expr} {x y:Str} {px py pos spos:Pos} {ifs:List Expr} {scope:Scope} {wi:TI} {tt:TT} {te:TE} {ys:List Str} {js:List Nat} {i:Nat} (hN:X.N.Nodup) (hi':X.N[i]?=some y) (hy:X.env.scope.names.lookup y=some .local)
  (hsw:swapsWith (.ListComp elt [⟨.Name x px,iter,ifs,0⟩] scope pos) (some (.Name y py)) spos.line X.env=pure true) (hc:X.calm=true) (hi:PI X (.Name x px) iter wi) (B:f7 X scope x) (nd:(x :: ys).Nodup) (cap:df X scope ys js)
  (ht:∀ C s3 H3 ex,PTs (cxB X (x :: ys) scope C s3 H3 ex) ifs tt) (he:∀ C s3 H3 ex,PE (cxB X (x :: ys) scope C s3 H3 ex) elt te) (hs:∀ x,foldedSetIterable iter X.env x=pure x:=by intro _;rfl) :
  PS X (.Assign [.Name y py] (.ListComp elt [⟨.Name x px,iter,ifs,0⟩] scope pos) spos) (iM (fT js wi tt te) (aT i)):=by
 intro pins s Z H Dn I h;have hcl:=fM (scope:=scope) (env:=X.env) fun y hy hf=>I.ok.has y.1 (.inl (B.free y hy hf));rw [exec_Assign_Name_used _ _ _ _ hsw];refine H9 (wpAny_standAt (H9 ?_));show wpAny _ X.A (do let _<-comprehension (.ListComp elt [⟨.Name x px,iter,ifs,0⟩] scope pos) scope X.env _ (newList []) false (eval iter X.env) (some (assign (.Name y py) X.env))) _ _ s
 refine H9 (Jd (wpAny_comprehension_free (use:=some (assign (.Name y py) X.env)) (Q:=fun _ s'=>SP X pins Dn .next s') rfl hs hcl B.kind B.locs
  (Jd (hi pins s Z H _ I h) (fun xv s1 h1=>Jd h1 (fun itv s2 h2=>?_) fun _ _ e=>e) fun _ _ e=>e)) (fun _ s' hq=>Ib (Ib hq)) fun _ _ e=>e)
 obtain ⟨it,fp,tn,J,H2,e,I2,T,st2,f2,W,w0,turn⟩:=h2;subst e;refine oR (Q:=fun x H1=>aT i x Z H1 Dn.nx) (RR:=fun acc C=>compPost (model X.prog X.w) X.A X.xe (some (assign (.Name y py) X.env)) (fun _ s'=>SP X pins Dn .next s') acc C) hc B nd cap ht he I2 T st2 f2 W w0 turn ?_;intro D C H' s' m' hn hC hCD hCn I' q;have hL:X.env.locals≠C:=Iz (Ir I2.lt hC);have hCfs:C ∉ X.fs:=I2.Dx hC;obtain ⟨oC,esC,epC,hoC,hdC,restC⟩:=id hn;have I'':Inv X (pins++[(C,oC)]) Z H' s':=I'.dY fun p hp=>by
  rcases IL.mp hp with z | z
  ·exact I'.pin p (IC _ z)
  ·rw [Ii.mp z];exact ⟨hoC,hCn,Ne.symm hL,hCfs,fun v z=>by rw [hdC] at z;cases z⟩
 show wpAny _ X.A (assign (.Name y py) X.env (.ref D)) _ _ _;refine Jd (iC (pos:=py) hN hi' (.inl hy) (.inr hy) _ s' Z H' (.ref D) (.ref D) Dn.nx I'' rfl q) (fun _ s3 ⟨Z3,H3,I3,q3⟩=>?_) fun _ _ e=>e;have pC:=I3.pin (C,oC) (IC _ (IC _ (Ii.mpr rfl)));have hn3:s3.heap.Ns C m':=⟨oC,esC,epC,pC.1,hdC,restC⟩;have hCn3:H3 C=none:=pC.2.1;refine ⟨m',hn3,fun h' hs'=>⟨Z3,H3,?_,q3⟩⟩;have I4:=I3.hJ;have neC:∀ {b:Addr} {o:HO},H3 b=some o->b≠C:=fun e z=>by rw [z,hCn3] at e;cases e
 refine I4.step (g':=s3.gens) (t':=s3.toks) (d':=s3.drawn) (ch:=[C]) (fun b hb=>?_) (fun b o _ _ hc' e _=>?_) (fun b o _ _ hc' e _=>⟨o.slots,?_⟩) (fun b o hc' e n=>n) (fun b o hc' e=>⟨o,?_⟩) (fun _ _ z=>z) (fun _ _ _ z=>z) (fun _ _ _ z=>z) (fun m hn=>hn.sameBut hs' hL) (fun b o e=>?_) I4.bare
 ·rw [Ii.mp hb];refine ⟨.inr (IM I2.sz hC),Ne.symm hL,fun y c e z=>?_,fun p hp z=>?_⟩
  ·obtain ⟨v,q⟩:=I2.cell y c e;have:=q.lt;rw [z] at this;exact absurd (Ir this hC) (IU _)
  ·have:=Ij (I2.pin p hp).1;rw [z] at this;exact absurd (Ir this hC) (IU _)
 ·exact (hs'.2 b fun z=>hc' (Ii.mpr z)).trans e
 ·exact (hs'.2 b fun z=>hc' (Ii.mpr z)).trans e
 ·exact (hs'.2 b fun z=>hc' (Ii.mpr z)).trans e
 ·refine (I4.hok b o e).jg (fun c v hc' q=>(hs'.2 c ?_).trans q) (fun _ q=>q) (fun _ _ q=>q) fun _ _ _ _ q _=>q;rcases hc' with z | z
  ·rw [z];exact neC e
  ·exact neC z
def Its (x:Str):It:=⟨fun i _=>i < x.length,fun i H v H'=>H'=H/\∃ c,x.cps[i]?=some c/\v=.str ⟨#[c]⟩,fun i _=>x.length<=i⟩
def Hd (tl:TE):TI:=fun Z H R=>tl Z H fun x H1=>∃ z,x=.str z/\R (Its z) H1
section
variable {X:Cx}
theorem tP:OpR X (compareOp .LtE) (fun x y H Q=>∃ i j,x=.str i/\y=.str j/\Q (.bl (!(decide (j.cps.toList < i.cps.toList)))) H):=by
 intro pins s Z H x y v u Q I rx ry h;obtain ⟨i,j,rfl,rfl,q⟩:=h;obtain ⟨t,rfl⟩:=rx;obtain ⟨t',rfl⟩:=ry;exact P.le_str ⟨.bl _,H,I,rfl,q⟩
theorem OpR.or' {f:Value->Value->Sem Value} {r r':R2} (h:OpR X f r) (h':OpR X f r'):OpR X f (fun x y H Q=>r x y H Q\/r' x y H Q):=by
 intro pins s Z H x y v u Q I rx ry q;rcases q with q | q
 ·exact h pins s Z H x y v u Q I rx ry q
 ·exact h' pins s Z H x y v u Q I rx ry q
theorem vd:OpR X (binaryOp .FloorDiv) (rI (fun _ j=>0 < j/\j.natAbs.log2 < 9000) fun i j=>.int (i / j)):=opI fun i j _ _ _ _ _ hc q=>by
 have h1:(0:Int) < j:=hc.1;exact floordiv_int (by omega) (by rw [Int.fdiv_eq_ediv_of_nonneg i (by omega)];exact q) (.inl (PyProof.noPylong_of_log2 hc.2))
theorem qM (hc:X.calm=true):a8 X (.builtin "all") (fun xs H Q=>∃ (a:Addr) (bs:List Bool),xs=[.ref a]/\SqL X.K H a (bs.map V.bl)/\Q (.bl (bs.all id)) H):=by
 intro pins s Z H xs us Q I r h;obtain ⟨a,bs,rfl,hq,q⟩:=h;obtain ⟨u,rfl,r1⟩:=vals1 r;cases (show u=Value.ref a from r1);obtain ⟨its,rv,p,hz⟩:=I.list hq;have ha:a < s.heap.objs.size:=by
  obtain ⟨o,e,_⟩:=p.isList;exact Ij e
 refine call_all_walk (KP p.isList ?_);refine ⟨s.heap.objs.size,_,_,_,_,_,fun i=>(bs[i]?).getD true,rfl,Walks.list (show X.A.in1.handled=none from I.ok.hd hc) s.heap.objs.size a (Iz ha) its.toArray,⟨⟨_,Im _ rfl,rfl,rfl⟩,p.isList.push _⟩,?_,?_⟩
 ·intro i v s' Q' E' hv hQ;have hv':its[i]?=some v:=by simpa using hv
  have hi:i < its.length:=(Ih.mp hv').1;have hb:i < bs.length:=by have:=rv.length;rw [Ic] at this;omega
  obtain ⟨u,hu,ru⟩:=rv.get (i:=i) (x:=.bl bs[i]) (by rw [Ik,Ie hb];rfl);rw [hv'] at hu;cases hu;cases (show v=Value.bool bs[i] from ru);dsimp only at hQ;rw [Ie hb] at hQ;exact JQ hQ
 ·intro h' tk kk;have e:(List.range its.toArray.size).all (fun i=>(bs[i]?).getD true)=bs.all id:=by
   have hl:its.toArray.size=bs.length:=by rw [Iw,<-rv.length,Ic]
   rw [hl,Bool.eq_iff_iff,JY,JY];constructor
   ·intro h b hb;obtain ⟨i,hi,e⟩:=List.mem_iff_getElem.mp hb;have:=h i (List.mem_range.mpr hi);rw [Ie hi,e] at this;exact this
   ·intro h i hi;rw [Ie (List.mem_range.mp hi)];exact h _ (List.getElem_mem _)
  rw [e];have I1:Inv X pins Z H { s with heap:=s.heap.push { cls:=.type "list_iterator", data:=.fields #[.ref a,rawInt 0] },toks:=s.toks }:=I.kept fun b o e=>Ia _ e;have hn:H s.heap.objs.size=none:=I.hok.fresh (Il _)
  have I2:Inv X pins Z H { s with heap:=h',toks:=tk }:=I.kept fun b o e=>kk b o (by
   intro z;have:=Ii.mp z;rw [this] at e
   exact absurd (Ij e) (IU _)) (Ia _ e)
  exact ⟨.bl _,H,I2,rfl,q⟩
noncomputable def v9 (x:Str) (lo hi:Option Int):Str:=⟨((x.cps.toList.drop (HT.sIx x.length 0 lo)).take (HT.sIx x.length x.length hi - HT.sIx x.length 0 lo)).toArray⟩
theorem DM (lo hi:Option Int) (n:Nat):Builtin.Str.strSliceIndices lo hi 1 n=(List.range (HT.sIx n n hi - HT.sIx n 0 lo)).map (HT.sIx n 0 lo+·):=by
 rw [<- sliceRange_one];unfold Builtin.Str.strSliceIndices;dsimp only;have h1:(1:Int) > 0:=by decide
 have e0:(match lo with | none=>(if (1:Int) > 0 then 0 else (n:Int) - 1) | some i=>if (1:Int) > 0 then max 0 (min (if i < 0 then i+(n:Int) else i) (n:Int)) else max (-1) (min (if i < 0 then i+(n:Int) else i) ((n:Int) - 1)))=((HT.sIx n 0 lo:Nat):Int):=by
  cases lo with
  | none=>simp [HT.sIx]
  | some i =>
   simp only [HT.sIx,h1,KR];by_cases h:i < 0
   ·simp only [h,KR] <;> omega
   ·simp only [h,J8] <;> omega
 have e1:(match hi with | none=>(if (1:Int) > 0 then (n:Int) else -1) | some i=>if (1:Int) > 0 then max 0 (min (if i < 0 then i+(n:Int) else i) (n:Int)) else max (-1) (min (if i < 0 then i+(n:Int) else i) ((n:Int) - 1)))=((HT.sIx n n hi:Nat):Int):=by
  cases hi with
  | none=>simp [HT.sIx]
  | some i =>
   simp only [HT.sIx,h1,KR];by_cases h:i < 0
   ·simp only [h,KR] <;> omega
   ·simp only [h,J8] <;> omega
 rw [<- e0,<-e1];cases lo <;> cases hi <;> rfl
theorem oY (n:Nat) (v:Option Int):HT.sIx n n v<=n/\HT.sIx n 0 v<=n:=by
 cases v with
 | none=>simp [HT.sIx]
 | some i =>
  simp only [HT.sIx];split <;> omega
def qb:V->Option Int->Option Int->Hp->VK->Prop:=fun x lo hi H Q=>∃ z,x=.str z/\z.length<=sizeLine/\Q (.str (v9 z lo hi)) H
theorem iE (x:Str) (lo hi:Option Int):(v9 x lo hi).length<=x.length:=by
 have e:x.cps.toList.length=x.length:=by simp [Str.length]
 show (((x.cps.toList.drop _).take _).toArray).size<=x.length;rw [Iw,JH,JX,e];omega
theorem bR:SlR X qb:=by
 intro pins s Z H x v vl vu lo hi sl Q I rx hs pl pu h;obtain ⟨z,rfl,hz,q⟩:=h;obtain ⟨t,rfl⟩:=rx;refine ⟨"str", _,F.slot_str_getitem.lookup,typeIs_str _ _ _,?_⟩;obtain ⟨l,el,el'⟩:∃ l:Option (Int×Tok),l.map (·.1)=lo/\vl=partValue l:=by
  cases pl with
  | none=>exact ⟨none,rfl,rfl⟩
  | int i t=>exact ⟨some (i,t),rfl,rfl⟩
 obtain ⟨u,eu,eu'⟩:∃ l:Option (Int×Tok),l.map (·.1)=hi/\vu=partValue l:=by
  cases pu with
  | none=>exact ⟨none,rfl,rfl⟩
  | int i t=>exact ⟨some (i,t),rfl,rfl⟩
 subst el' eu';obtain ⟨o,h1,h2,h3⟩:=hs;refine wpAny_getItem_str_slice (l:=l) (u:=u) (st:=none) ⟨o,h1,h2,h3⟩ rfl ?_;have pk:slicePicked z l u none=(List.range (HT.sIx z.length z.length hi - HT.sIx z.length 0 lo)).map (HT.sIx z.length 0 lo+·):=by
  rw [<- DM,<-el,<-eu];rfl
 have ez:z.cps.toList.length=z.length:=by simp [Str.length]
 have cut:(⟨((slicePicked z l u none).filterMap (z.cps[·]?)).toArray⟩:Str)=v9 z lo hi:=by
  rw [pk,pick_run];rfl
 unfold sliceMade;split
 ·rename_i hc;have hl:(slicePicked z l u none).length=z.length:=by
   have:=(J5.mp hc).2;simpa using this
  rw [pk,Ic,JR] at hl;have b1:=oY z.length hi;have b2:=oY z.length lo;have h0:HT.sIx z.length 0 lo=0\/z.length=0:=by omega
  have e:v9 z lo hi=z:=by
   unfold v9;rcases h0 with h0 | h0
   ·rw [h0,List.drop_zero,Kk (by omega)]
   ·have hn:z.cps.toList=[]:=List.eq_nil_of_length_eq_zero (by omega);rw [hn];have:z.cps=#[]:=by
     have:=congrArg List.toArray hn;simpa using this
    obtain ⟨c⟩:=z;simp only at this;subst this;simp
  rw [e] at q;exact ⟨.str z,H,I,⟨t,rfl⟩,q⟩
 ·rw [cut];exact ⟨IM (iE _ _ _) hz,⟨.str _,H,I.tok _,⟨_,rfl⟩,q⟩⟩
end
mutual
def Dn (p:Addr) (H:Hp):PyData->V->Prop
 | .none,v=>v=.non
 | .bool b,v=>v=.bl b
 | .int i,v=>v=.int i
 | .str x,v=>v=.str x
 | .list ds,v=>∃ a xs,v=.ref a/\a≠p/\H a=some (.lst xs)/\DnL p H ds xs
 | .tuple ds,v=>∃ a xs,v=.ref a/\a≠p/\H a=some (.tup xs)/\DnL p H ds xs
 | .dict kvs,v=>kvs=[]/\∃ a,v=.ref a/\a≠p/\H a=some (.dK [])
def DnL (p:Addr) (H:Hp):List PyData->List V->Prop
 | [],vs=>vs=[]
 | d :: ds,vs=>∃ v r,vs=v :: r/\Dn p H d v/\DnL p H ds r
end
open PySem PySem.Spec PyProof.Rows
def rOr (r r':R2):R2:=fun x y H Q=>r x y H Q\/r' x y H Q
def fR (r r':V->Option Int->Option Int->Hp->VK->Prop):V->Option Int->Option Int->Hp->VK->Prop:=fun x l u H Q=>r x l u H Q\/r' x l u H Q
def Au:R2:=fun x y H Q=>∃ i j,x=.str i/\y=.str j/\i.length+j.length<=sizeLine/\Q (.str (i++j)) H
def Gv:R2:=fun x y H Q=>∃ i j,x=.str i/\y=.str j/\Q (.bl (decide (i.cps.toList < j.cps.toList))) H
def GV:R2:=fun x y H Q=>∃ i j,x=.str i/\y=.str j/\Q (.bl (!(decide (j.cps.toList < i.cps.toList)))) H
def Hw:R2:=fun x y H Q=>∃ i j,x=.str i/\y=.str j/\Q (.bl (!(Builtin.Str.occurrences j i 0 j.length 1).isEmpty)) H
def GF (K:Fg):List V->Hp->VK->Prop:=fun xs H Q=>∃ (a:Addr) (bs:List Bool),xs=[.ref a]/\SqL K H a (bs.map V.bl)/\Q (.bl (bs.all id)) H
def Bz (K:Fg):List V->Hp->VK->Prop:=fun xs H Q=>∃ x n,xs=[x]/\GO K x H n/\Q (.int n) H
def D5:List V->Hp->VK->Prop:=fun xs H Q=>∃ i,xs=[.int i]/\Q (.int (if i < 0 then -i else i)) H
section
variable {X:Cx}
theorem orR {f:Value->Value->Sem Value} {r r':R2} (h:OpR X f r) (h':OpR X f r'):OpR X f (rOr r r'):=OpR.or' h h'
theorem orS {r r':V->Option Int->Option Int->Hp->VK->Prop} (h:SlR X r) (h':SlR X r'):SlR X (fR r r'):=SlR.or h h'
theorem yj:OpR X (binaryOp .Add) Au:=pb
theorem AQ:OpR X (compareOp .Lt) Gv:=qI
theorem Ci:OpR X (compareOp .LtE) GV:=tP
theorem zS:OpR X (compareOp .In) Hw:=t7
theorem tK (hc:X.calm=true):a8 X (.builtin "all") (GF X.K):=qM hc
theorem qq:a8 X (.builtin "len") (Bz X.K):=vz
theorem tu:a8 X (.builtin "abs") D5:=uA
end
end L2
namespace L2
open PySem
noncomputable def oS (sc scope:Scope) (x:Str):Bool :=
 (scope.kind==.function)&&scope.names.all (fun y=>y.2 != .cell)&&scope.names.all (fun y=>y.2 != .local||scope.names.lookup y.1==some .local)&&(scope.names.lookup x==some .local)&&scope.names.all (fun y=>y.2 != .free||sc.names.lookup y.1==some .cell)
theorem bsc {X:Cx} {sc scope:Scope} {x:Str} (e:X.env.scope=sc) (h:oS sc scope x=true):f7 X scope x:=by
 unfold oS at h;simp only [IV,JY,K9,bne_iff_ne,KH,ne_eq] at h;obtain ⟨⟨⟨⟨h1,h2⟩,h3⟩,h4⟩,h5⟩:=h;exact ⟨h1,fun y hy=>h2 y hy,fun y hy e=>(h3 y hy).resolve_left fun z=>z e,h4,fun y hy e'=>by rw [e];exact (h5 y hy).resolve_left fun z=>z e'⟩
end L2
namespace L2
open PySem
theorem ba {e:Expr} {es:List Expr} {env:Env} (h:PySem.W.isStarred e=false):starEach (e :: es) env=(false,eval e env) :: starEach es env:=by
 cases e <;> first | rfl | exact absurd h (by simp [PySem.W.isStarred])
theorem bG {pos:Pos} {env:Env}:∀ {es:List Expr},es.all (fun e=>!PySem.W.isStarred e)=true->(backTo pos (starEach es env)).any (·.1)=false
 | [],_=>rfl
 | e :: es,h=>by
  rw [List.all_cons,IV] at h;rw [ba (by simpa using h.1)];have ih:=bG (pos:=pos) (env:=env) h.2;unfold backTo at ih ⊢;rw [List.map_cons,Kr,ih];rfl
open PySem.Spec PyProof.Rows
noncomputable def tyN:PyData->String
 | .none => "NoneType" | .bool _ => "bool" | .int _ => "int" | .str _ => "str" | .list _ => "list" | .tuple _ => "tuple" | .dict _ => "dict"
noncomputable def isS:PyData->Bool | .str _=>true | _=>false
noncomputable def isI:PyData->Bool | .int _=>true | .bool _=>true | _=>false
noncomputable def isB:PyData->Bool | .bool _=>true | _=>false
noncomputable def isT:PyData->Bool | .tuple _=>true | _=>false
noncomputable def isL:PyData->Bool | .list _=>true | _=>false
section
variable {K:Fg}
theorem D2 (d:PyData):PySem.W.kitOne K (.type (tyN d)) (.type "str")=some (isS d):=by cases d <;> with_unfolding_all rfl
theorem DU (d:PyData):PySem.W.kitOne K (.type (tyN d)) (.type "int")=some (isI d):=by cases d <;> with_unfolding_all rfl
theorem DY (d:PyData):PySem.W.kitOne K (.type (tyN d)) (.type "bool")=some (isB d):=by cases d <;> with_unfolding_all rfl
theorem D1 (d:PyData):PySem.W.kitOne K (.type (tyN d)) (.type "tuple")=some (isT d):=by cases d <;> with_unfolding_all rfl
theorem F6 (d:PyData):PySem.W.kitOne K (.type (tyN d)) (.type "list")=some (isL d):=by cases d <;> with_unfolding_all rfl
variable {p:Addr} {H:Hp} {d:PyData} {v:V} {Q:VK}
end
structure JE (X:Cx) (e:Expr) (t:TE):Prop where
 h:PE X e t
structure JT (X:Cx) (e:Expr) (t:TT):Prop where
 h:PT X e t
structure JW (X:Cx) (e:Expr) (t:TT):Prop where
 h:PW X e t
structure JA (X:Cx) (es:List Expr) (t:TA):Prop where
 h:PA X es t
structure JS (X:Cx) (s:Stmt) (t:TS):Prop where
 h:PS X s t
structure JSs (X:Cx) (s:List Stmt) (t:TS):Prop where
 h:PSs X s t
structure JG (X:Cx) (e:Expr) (t:TG):Prop where
 h:PG X e t
structure JI (X:Cx) (tg e:Expr) (t:TI):Prop where
 h:PI X tg e t
structure JO (X:Cx) (e:Option Expr) (t:TO):Prop where
 h:PO X e t
structure JC (X:Cx) (N:List Str) (scope:Scope) (e:Expr) (t:TE):Prop where
 h:∀ C s3 H3 ex,PE (cxB X N scope C s3 H3 ex) e t
structure JTs (X:Cx) (N:List Str) (scope:Scope) (e:List Expr) (t:TT):Prop where
 h:∀ C s3 H3 ex,PTs (cxB X N scope C s3 H3 ex) e t
structure JP (X:Cx) (pos:Pos) (ks:List (Option Expr)) (vs:List Expr) (t:List (TE×TE)):Prop where
 h:PPs X pos ks vs t
section
variable {X:Cx} {e a b c:Expr} {es rest:List Expr} {te ta tb tc:TE} {tA tB':TT} {t:TA} {x:Str} {p pos:Pos} {id T:String} {r:List V->Hp->VK->Prop} {CX:CXT} {k:Nat} {f:Addr} {fd:FuncData} {ps:List Str} {sp:Sp} {ds:List Value} {dvs:List V} {E:XK}
theorem Dz (i:Nat) (hN:X.N[i]?=some x) (hv:Vis X.env.scope x) (hd:(x==("__debug__" : Str))=false) (hcd:(x==("__classdict__" : Str))=false):JE X (.Name x pos) (aj i):=⟨qk hN hv hd hcd⟩
theorem aE {i j}:JE X (.Constant (.int i) j pos) (tC (.int i)):=⟨Ba⟩
theorem eBl {b j}:JE X (.Constant (.bool b) j pos) (tC (.bl b)):=⟨DD⟩
theorem Dd {j}:JE X (.Constant .none j pos) (tC .non):=⟨zw⟩
theorem ao {x j}:JE X (.Constant (.str x) j pos) (tC (.str x)):=⟨zU⟩
theorem ag:JA X [] aP:=⟨C3⟩
theorem eA (ha:JE X e te) (hr:JA X es t) (h:PySem.W.isStarred e=false):JA X (e :: es) (aa te t):=⟨yV ha.h hr.h (ba h)⟩
theorem Br (F:bK X.prog X.w X.K X.mg X.base CX k f fd ps sp) (hr:cZ k X.A) (hg:Gl X x) (hm:X.mg x=some (.ref f)) (hk:PySem.W.keepIn X.K (.ref f)=true) (hb:Binds X.K fd ps ds) (hd:Vals dvs ds) (hx:Passes CX X E)
  (ha:JA X (e :: es) t) (h1:PySem.W.isStarred e=false) (h2:es.all (fun e=>!PySem.W.isStarred e)=true) (hdb:(x==("__debug__" : Str))=false):JE X (.Call (.Name x p) (e :: es) [] pos) (br sp dvs E t) :=
 ⟨yS F hr hg hm hk hb hd hx ha.h hdb (ba h1) (bG h2)⟩
theorem eB (hc:a8 X (.builtin id) r) (hg:Gl X x) (hm:X.mg x=none) (hv:bootBuiltins x=some (.builtin id)) (ha:JA X (e :: es) t) (h1:PySem.W.isStarred e=false) (h2:es.all (fun e=>!PySem.W.isStarred e)=true)
  (hn:x ≠ "__name__") (hdb:(x==("__debug__" : Str))=false):JE X (.Call (.Name x p) (e :: es) [] pos) (tCB r t):=⟨vL hc hg hm hv ha.h hn hdb (ba h1) (bG h2)⟩
theorem eTy (hc:a8 X (.type T) r) (hg:Gl X x) (hm:X.mg x=none) (hv:bootBuiltins x=some (.type T)) (ha:JA X (e :: es) t) (h1:PySem.W.isStarred e=false) (h2:es.all (fun e=>!PySem.W.isStarred e)=true)
  (hn:x ≠ "__name__") (hdb:(x==("__debug__" : Str))=false):JE X (.Call (.Name x p) (e :: es) [] pos) (tCB r t):=⟨sV hc hg hm hv ha.h hn hdb (ba h1) (bG h2)⟩
theorem eR1 {tg a:Expr} {ta:TA} (hg:Gl X "range") (hm:X.mg "range" = none) (ha:JA X [a] ta) (h:PySem.W.isStarred a=false):JI X tg (.Call (.Name "range" p) [a] [] pos) (pX ta):=⟨qO hg hm ha.h (ba h)⟩
theorem eIL {tg:Expr} (h:JE X e te):JI X tg e (jm X.K te):=⟨xR h.h⟩
theorem eIT {tg:Expr} (h:JE X e te):JI X tg e (CU X.K te):=⟨A7 h.h⟩
theorem y7 {v:V} {u:Value} (hg:Gl X x) (hm:X.mg x=some u) (r:RelV v u) (hd:(x==("__debug__" : Str))=false):JE X (.Name x pos) (tC v):=⟨yw hg hm r hd⟩
theorem Gh {v:V} {u:Value} (hg:Gl X x) (hm:X.mg x=none) (hv:bootBuiltins x=some u) (r:RelV v u) (hn:x ≠ "__name__") (hd:(x==("__debug__" : Str))=false):JE X (.Name x pos) (tC v):=⟨yC hg hm hv r hn hd⟩
theorem eOp {op:Operator} {r:R2} (ho:OpR X (binaryOp op) r) (ha:JE X a ta) (hb:JE X b tb):JE X (.BinOp a op b pos) (tOp r ta tb):=⟨Ek ho ha.h hb.h⟩
theorem eUn {op:UnaryOp} {r:V->Hp->VK->Prop} (ho:UnR X (unaryOp op) r) (ha:JE X a ta):JE X (.UnaryOp op a pos) (tUn r ta):=⟨Eu ho ha.h⟩
theorem BN (ha:JE X a ta):JE X (.UnaryOp .Not a pos) (x6 ta):=⟨BM ha.h⟩
theorem uB {op} (h:JE X a te):JE X (.BoolOp op [a] pos) te:=⟨BA h.h⟩
theorem uj (ha:JE X a ta) (hb:JE X (.BoolOp .And (b :: rest) pos) tb):JE X (.BoolOp .And (a :: b :: rest) pos) (xk ta tb):=⟨CL ha.h hb.h⟩
theorem eIf (hc:JT X c tA) (ha:JE X a ta) (hb:JE X b tb):JE X (.IfExp c a b pos) (tIf tA ta tb):=⟨vm hc.h ha.h hb.h⟩
theorem jf {op:CmpOp} {r:R2} (ho:OpR X (compareOp op) r) (ha:JE X a ta) (hb:JE X b tb) (hm:behindInMarks op b=false):JE X (.Compare a [op] [b] pos) (tOp r ta tb):=⟨yi ho ha.h hb.h hm⟩
theorem jr {op:CmpOp} {r:R2} (ho:OpR X (compareOp op) r) (ha:JE X a ta) (hb:JE X b tb) (hm:behindInMarks op b=false):JT X (.Compare a [op] [b] pos) (lG (tOp r ta tb)):=⟨ym ho ha.h hb.h hm⟩
theorem zV {op op':CmpOp} {r r':R2} (ho:OpR X (compareOp op) r) (ho':OpR X (compareOp op') r') (ha:JE X a ta) (hb:JE X b tb) (hc:JE X c tc) (hm:lastMarks [op,op'] [b,c]=false):JE X (.Compare a [op,op'] [b,c] pos) (qr r r' ta tb tc):=⟨uG ho ho' ha.h hb.h hc.h hm⟩
theorem p7 (h:JE X e te) (he:∀ whole,isTrue e X.env whole=(do let v<-whole;standAt e.pos;holding [v] (truthy v))):JT X e (tB te):=⟨z8 h.h he⟩
theorem cD (ha:JT X a tA):JT X (.UnaryOp .Not a pos) (pJ tA):=⟨AK ha.h⟩
theorem se (ha:JT X a tA):JW X (.BoolOp .And [a] pos) tA:=⟨pw_and1 ha.h⟩
theorem lU (ha:JT X a tA):JW X (.BoolOp .Or [a] pos) tA:=⟨pw_or1 ha.h⟩
theorem xj (ha:JT X a tA) (hb:JW X (.BoolOp .And (b :: rest) pos) tB'):JW X (.BoolOp .And (a :: b :: rest) pos) (z7 tA tB'):=⟨pw_and ha.h hb.h⟩
theorem vh (ha:JT X a tA) (hb:JW X (.BoolOp .Or (b :: rest) pos) tB'):JW X (.BoolOp .Or (a :: b :: rest) pos) (tOr tA tB'):=⟨pw_or ha.h hb.h⟩
theorem eW (h:JW X e tA):JT X e tA:=⟨PW.pt h.h⟩
theorem au {x1} (h:JA X es t):JE X (.Tuple es x1 pos) (eD t):=⟨Ag h.h⟩
theorem mZ (h:JA X es t):JE X (.List es pos) (yp t):=⟨AO h.h⟩
theorem eIx {r:R2} (hr:IxR X r) (ha:JE X a ta) (hb:JE X b tb) (hs:nq b):JE X (.Subscript a b pos) (tOp r ta tb):=⟨E9 hr ha.h hb.h hs⟩
theorem mG:JO X none bZ:=⟨xI⟩
theorem eP (h:JE X e te):JO X (some e) (iG te):=⟨yf h.h⟩
theorem eSl {p2:Pos} {lo hi:Option Expr} {tl th:TO} {r:V->Option Int->Option Int->Hp->VK->Prop} (hr:SlR X r) (he:JE X e te) (hl:JO X lo tl) (hu:JO X hi th):JE X (.Subscript e (.Slice lo hi none p2) pos) (tSl r te tl th):=⟨vf hr he.h hl.h hu.h⟩
theorem ePN:JP X pos [] [] []:=⟨xB⟩
theorem ePC {k v:Expr} {ks:List (Option Expr)} {vs:List Expr} {tk tv:TE} {trs:List (TE×TE)} (hk:JE X k tk) (hv:JE X v tv) (hr:JP X pos ks vs trs):JP X pos (some k :: ks) (v :: vs) ((tk,tv) :: trs):=⟨uV hk.h hv.h hr.h⟩
theorem nW {i:Nat} {pos':Pos} (he:JE X e te) (hN:X.N.Nodup) (hi:X.N[i]?=some x) (hx:Loc X.env.scope x) (hs:swapsWith e (some (.Name x pos')) pos.line X.env=pure false) (hf:X.fn x=true\/X.env.scope.names.lookup x=some .local) :
  JS X (.Assign [.Name x pos'] e pos) (iM te (aT i)):=⟨CG hN hi hx he.h hs hf⟩
theorem Fu {iter tg:Expr} {body:List Stmt} {wi:TI} {g:TG} {tb:TS} (hi:JI X tg iter wi) (hg:JG X tg g) (hb:JSs X body tb) (hp:PassesOwn (model X.prog X.w) X.A X.env X.xe) (hc:X.calm=true) (hs:∀ x,foldedSetIterable iter X.env x=pure x):JS X (.For tg iter body [] pos) (xW wi g tb):=⟨zA hp hc hi.h hg.h hb.h hs⟩
theorem cA {a b:List Stmt} {tc:TT} {t u:TS} (hc:JT X c tc) (ha:JSs X a t) (hb:JSs X b u):JS X (.If c a b pos) (pV tc t u):=⟨FN hc.h ha.h hb.h⟩
theorem bx (he:JE X e te):JS X (.Return (some e) pos) (jH te):=⟨Bv he.h⟩
theorem eGN {i:Nat} (hN:X.N.Nodup) (hi:X.N[i]?=some x) (hx:Loc X.env.scope x) (hf:X.fn x=true\/X.env.scope.names.lookup x=some .local):JG X (.Name x pos) (aT i):=⟨iC hN hi hx hf⟩
theorem Bt (he:JE X e te) (hs:swapsWith e none pos.line X.env=pure false):JS X (.Expr e pos) (uz te):=⟨xn he.h hs⟩
theorem cz:JSs X [] fU:=⟨xh⟩
theorem aU {s:Stmt} {t:TS} (h:JS X s t):JSs X [s] t:=⟨xN h.h⟩
theorem aG {s:Stmt} {rest:List Stmt} {t u:TS} (h:JS X s t) (hr:JSs X rest u):JSs X (s :: rest) (fI t u):=⟨vE h.h hr.h⟩
theorem lb {elt iter:Expr} {px:Pos} {ifs:List Expr} {scope:Scope} {wi:TI} {tt:TT} {js:List Nat} (ys:List Str) (hi:JI X (.Name x px) iter wi) (ht:JTs X (x :: ys) scope ifs tt) (he:JC X (x :: ys) scope elt te)
  (hc:X.calm=true) (B:f7 X scope x) (nd:(x :: ys).Nodup) (cap:df X scope ys js) (hs:∀ x,foldedSetIterable iter X.env x=pure x):JE X (.ListComp elt [⟨.Name x px,iter,ifs,0⟩] scope pos) (fT js wi tt te):=⟨xG hc hi.h B nd cap ht.h he.h hs⟩
theorem yh {elt iter:Expr} {y:Str} {px py spos:Pos} {ifs:List Expr} {scope:Scope} {wi:TI} {tt:TT} {js:List Nat} {i:Nat} (ys:List Str) (hi:JI X (.Name x px) iter wi) (ht:JTs X (x :: ys) scope ifs tt) (he:JC X (x :: ys) scope elt te)
  (hN:X.N.Nodup) (hi':X.N[i]?=some y) (hy:X.env.scope.names.lookup y=some .local) (hsw:swapsWith (.ListComp elt [⟨.Name x px,iter,ifs,0⟩] scope pos) (some (.Name y py)) spos.line X.env=pure true)
  (hc:X.calm=true) (B:f7 X scope x) (nd:(x :: ys).Nodup) (cap:df X scope ys js) (hs:∀ x,foldedSetIterable iter X.env x=pure x):JS X (.Assign [.Name y py] (.ListComp elt [⟨.Name x px,iter,ifs,0⟩] scope pos) spos) (iM (fT js wi tt te) (aT i)):=⟨xY hN hi' hy hsw hc hi.h B nd cap ht.h he.h hs⟩
theorem eC {N:List Str} {scope:Scope} (h:∀ C s3 H3 ex,JE (cxB X N scope C s3 H3 ex) e te):JC X N scope e te:=⟨fun C s3 H3 ex=>(h C s3 H3 ex).h⟩
theorem eT0 {N:List Str} {scope:Scope}:JTs X N scope [] ui:=⟨fun _ _ _ _=>yW⟩
theorem eT1 {N:List Str} {scope:Scope} (h:∀ C s3 H3 ex,JT (cxB X N scope C s3 H3 ex) e tA):JTs X N scope [e] tA:=⟨fun C s3 H3 ex=>yu (h C s3 H3 ex).h⟩
theorem eBM {apos cpos:Pos} {o:Expr} {name:Str} {to:TE} {r:V->List V->Hp->VK->Prop} (ho:JE X o to) (ha:JA X (e :: es) t) (hm:MtR X id r) (pa:PlainAttrs T) (slot:Slot T name id) (hty:typeOf (.builtin id)=pure (.type "method_descriptor"))
  (hbase:attributeBase o name X.env (eval o X.env)=eval o X.env)
  (hfew:((backTo cpos (starEach (e :: es) X.env)).all (fun x=>!x.1)&&(backToKw cpos (keywordEach [] X.env)).all (fun x=>x.1.isSome)
   && decide ((e :: es).length+([]:List Keyword).length+(if ([]:List Keyword).isEmpty then 0 else 1) < 30))=true)
  (hline:(apos.endLine==cpos.line)=true) (h1:PySem.W.isStarred e=false) (h2:es.all (fun e=>!PySem.W.isStarred e)=true):JE X (.Call (.Attribute o name apos) (e :: es) [] cpos) (tBM X.K T r to t):=⟨D8 pa slot hty hm ho.h ha.h hbase hfew hline (ba h1) (bG h2)⟩
end
theorem E2 {b:Bool} {A B:Prop} (e:b=true) (h:A):if b=true then A else B:=by rw [Iy e];exact h
theorem pO {b:Bool} {A B:Prop} (e:b=false) (h:B):if b=true then A else B:=by rw [ID (by rw [e];exact Jp)];exact h
theorem ig {b:Bool} {A B:Prop} (h1:b=true->A) (h2:b=false->B):if b=true then A else B:=by
 cases b with
 | true=>rw [Iy rfl];exact h1 rfl
 | false=>rw [ID Jp];exact h2 rfl
section
variable {r r':R2} {x y:V} {H:Hp} {Q:VK}
theorem Cs {K:Fg} {z:Str} (l:z.length<=sizeLine) (h:Q (.int z.length) H):Bz K [.str z] H Q:=⟨_,_,rfl,⟨l,rfl⟩,h⟩
theorem Cq {K:Fg} {p:Addr} {xs:List V} (s:SqL K H p xs) (h:Q (.int xs.length) H):Bz K [.ref p] H Q:=⟨_,_,rfl,.inl ⟨xs,s,rfl⟩,h⟩
theorem Cm {K:Fg} {p:Addr} {xs:List V} (s:SqT K H p xs) (h:Q (.int xs.length) H):Bz K [.ref p] H Q:=⟨_,_,rfl,.inr ⟨xs,s,rfl⟩,h⟩
theorem Fq {i:Int} (h:Q (.int (if i < 0 then -i else i)) H):D5 [.int i] H Q:=⟨i,rfl,h⟩
end
theorem Fun.okJ {P:Program} {w:World} {K:Fg} {mg:Str->Option Value} {base:Heap} {x qual:Str} {st:Stmt} {f:Addr} {fd:FuncData} {N ps:List Str} {k:Nat} {sp:Sp} (F:Fun K x qual st f fd) (S:aq N ps (ab st)) (len:∀ vs H Q E,sp vs H Q E->vs.length=ps.length)
  (gJ:∀ (cdv:Value) (A:Around) (outer:List Env) (s:Shared) (H:Hp) (vs:List V) (Q:VK) (E:XK),cZ k (A.deeper (envOfC qual (ab st) s.heap.objs.size f cdv))->sp vs H Q E ->
   ∃ t,JSs (ml CX0 P w K mg base N qual (ab st) f cdv A outer s H E).nox (a9 st) t/\t { nx:=fun _ H'=>Q .non H',rt:=Q } (start N vs) H):bK P w K mg base CX0 (k+1) f fd ps sp :=
 F.ok S len fun cdv A outer s H vs Q E hr h=>let ⟨t,j,q⟩:=gJ cdv A outer s H vs Q E hr h;⟨t,j.h,q⟩
theorem jC:∀ {ss:List Str} {us:List Value},Vals (ss.map V.str) us->StrsAre us ss
 | [],_,r=>by cases r;exact .nil
 | s :: ss,_,r=>by
  cases r with
  | cons r1 r2 =>
   obtain ⟨t,rfl⟩:=r1;exact .cons _ _ (jC r2)
theorem rp:∀ {ss:List Str} {us:List Value},StrsAre us ss->Vals (ss.map V.str) us
 | [],_,r=>by cases r;exact .nil
 | s :: ss,_,r=>by
  cases r with
  | cons _ _ r2=>exact .cons ⟨_,rfl⟩ (rp r2)
section
variable {X:Cx}
def CO (K:Fg):List V->Hp->VK->Prop:=fun xs H Q=>∃ p ys,xs=[.ref p]/\(SqL K H p ys\/SqT K H p ys)/\∀ l,H l=none->Q (.ref l) (upd H l (.lst ys))
def v7 (K:Fg):List V->Hp->VK->Prop:=fun xs H Q=>∃ p ys,xs=[.ref p]/\((SqL K H p ys/\∀ l,H l=none->Q (.ref l) (upd H l (.tup ys)))\/(SqT K H p ys/\Q (.ref p) H))
theorem ph:a8 X (.type "list") (CO X.K):=lp
theorem mL:a8 X (.type "tuple") (v7 X.K):=kF
end
structure hZ (X:Cx) (scope:Scope) (xs:List Str):Prop where
 kind:scope.kind=.function
 cells:∀ y∈scope.names,y.2≠.cell
 locs:∀ y∈scope.names,y.2=.local->scope.names.lookup y.1=some .local
 free:∀ y∈scope.names,y.2=.free->X.env.scope.names.lookup y.1=some .cell
noncomputable def fZ (xs:List Str):St:=xs.map fun _=>none
theorem pW {X:Cx} {pins:List (Addr×Obj)} {Z:St} {H:Hp} {s3:Shared} {h1:Heap} {tk:Nat} {scope:Scope} {xs ys:List Str} {js:List Nat} {ex:List Addr} (I:Inv X pins Z H s3) (hc:X.calm=true) (B:hZ X scope xs) (cap:df X scope ys js)
  (hns:h1.Ns s3.heap.objs.size (fun _=>none)) (hk:∀ b o,s3.heap.get? b=some o->h1.get? b=some o)
  (hex:∀ b∈ex,b ∉ frs X.stack/\b < s3.heap.objs.size/\(∀ y c,X.env.cells.lookup y=some c->c≠b)/\X.base.get? b=none) :
  Inv (cxB X (xs++ys) scope s3.heap.objs.size s3 H ex) [] (fZ xs++bh js Z) H { s3 with heap:=h1,toks:=tk }:=by
 have hfree:∀ y∈scope.names,y.2=.free->∃ c,X.env.cells.lookup y.1=some c:=fun y hy hf=>I.ok.has y.1 (.inl (B.free y hy hf));have sub:=kE (env:=X.env) scope.names [] hfree (fun _ _ e=>by simp at e)
 refine ⟨⟨I.ok.mod,B.kind,I.ok.glob,I.ok.blt,Il _,fun y z c h1 h2=>I.ok.inj y z c (sub _ _ h1) (sub _ _ h2),fun y hy=>?_,fun y c hf _=>?_,fun _=>I.ok.hd hc,I.ok.frames,.inl rfl,fun b hb=>?_,fun b o e=>I.bs b o e,IM I.ok.bsz I.sz,fun b o e hb=>?_,fun b hb=>(hex b hb).1,I.stack,I.mQ,fun t ht=>I.base.kC _ _ _ (I.ok.tabs t ht)⟩,
  rfl,I.bare,Un.kept hk,⟨_,hns,fun i y v e1 e2 e3=>?_⟩,fun y c e=>?_,I.hok.fresh (Il _),fun y c e=>I.et y c (sub _ _ e),fun p hp=>absurd (show p∈([]:List (Addr×Obj)) from hp) (by simp),I.hok.kept hk,?_⟩
 ·have hy:(relabel scope X.env).names.lookup y=some .cell\/(relabel scope X.env).names.lookup y=some .free:=hy;rcases hy with hy | hy
  ·rcases aX _ hy with q | ⟨_,q⟩
   ·exact absurd rfl (B.cells _ q)
   ·exact cK _ _ q
  ·rcases aX _ hy with q | ⟨q,_⟩
   ·exact cK _ _ q
   ·cases q
 ·exact absurd (show false=true from hf) (by simp)
 ·exact ⟨Iz (hex b hb).2.1,fun y c e=>(hex b hb).2.2.1 y c (sub _ _ e)⟩
 ·have e':X.base.get? b=some o:=e;have:=(hex b hb).2.2.2;rw [e'] at this;cases this
 ·have hnl:(fZ xs).length=xs.length:=by unfold fZ;rw [Ic]
  by_cases hi:i < xs.length
  ·rw [IZ (by rw [hnl];exact hi)] at e2;unfold fZ at e2;rw [Ik,Ie hi] at e2;cases e2
  ·have hi':xs.length<=i:=Nat.le_of_not_lt hi;have e1':ys[i - xs.length]?=some y:=by
    have e1:(xs++ys)[i]?=some y:=e1
    rwa [Iu hi'] at e1
   have e2':(bh js Z)[i - xs.length]?=some (some v):=by
    rwa [Iu (by rw [hnl];exact hi'),hnl] at e2
   obtain ⟨j,ej,en,ec,ef⟩:=cap.get e1';have e4:Z[j]?=some (some v):=by
    unfold bh at e2';rw [Ik,ej] at e2';simp only [Option.map_some,Option.some.injEq] at e2';cases q:Z[j]? with
    | none=>rw [q] at e2';cases e2'
    | some w=>rw [q] at e2';simp at e2';rw [e2']
   obtain ⟨m,hn,hl⟩:=I.loc;obtain ⟨u,r,l⟩:=hl j y v en e4 (.inr (.inl ec));refine ⟨u,r,.inr ?_⟩;rcases l with ⟨kl,_⟩ | ⟨kc,c,ecl,cell⟩
   ·have kl:X.env.scope.names.lookup y=some .local:=kl;rw [ec] at kl;cases kl
   ·have e3:(relabel scope X.env).names.lookup y=some .local\/(relabel scope X.env).names.lookup y=some .cell\/(relabel scope X.env).names.lookup y=some .free:=e3;refine ⟨?_,?_⟩
    ·rcases e3 with q | q | q
     ·rcases aX _ q with q | ⟨q,_⟩
      ·have:=B.locs _ q rfl;rw [ef] at this;cases this
      ·cases q
     ·exact .inl q
     ·exact .inr q
    ·have mem:(y,NameKind.free)∈scope.names:=Jr ef;obtain ⟨c',ec'⟩:=cK (env:=X.env) scope.names [] mem;have:=sub _ _ ec';rw [ecl] at this;cases this;obtain ⟨o,ho,hd⟩:=cell;exact ⟨c,ec',o,hk _ _ ho,hd⟩
 ·obtain ⟨v,o,ho,hd⟩:=I.cell y c (sub _ _ e);exact ⟨v,o,hk _ _ ho,hd⟩
 ·show (fZ xs++bh js Z).length=(xs++ys).length;rw [Io,Io,cap.len];unfold bh fZ;rw [Ic,Ic]
def oZ (n:List Str) (js:List Nat) (wi:TI) (g:TG) (te:TE):TE:=fun Z H Q=>wi Z H fun J H1=>∃ W:Nat->Nat->St->List V->Hp->Prop,(∃ m,W 0 m (fZ n++bh js Z) [] H1)/\∀ i m ZB acc H,W i m ZB acc H ->
 (J.stop i H/\acc.length<=sizeLine/\∀ p,H p=none->Q (.ref p) (upd H p (.lst acc)))\/(J.go i H/\acc.length < sizeLine/\∀ x H',J.yld i H x H' ->
  g x ZB H' fun Z2 H2=>te Z2 H2 fun y H3=>∃ m',m' < m/\W (i+1) m' Z2 (acc++[y]) H3)
theorem qS {X:Cx} {pins:List (Addr×Obj)} {Z:St} {H:Hp} {s2:Shared} {elt iter:Expr} {es:List Expr} {ek} {tp pos:Pos} {scope:Scope} {g:TG} {te:TE} {xs ys:List Str} {js:List Nat} {it:Addr} {fp:List Addr} {tn:Nat->Heap->Prop} {J:It}
    {Q:VK} {E:Value->Shared->Prop} {RR:Value->Addr->Result->Shared->Prop} (hc:X.calm=true) (B:hZ X scope xs) (cap:df X scope ys js)
    (hg:∀ C s3 H3 ex,PG (cxB X (xs++ys) scope C s3 H3 ex) (.Tuple es ek tp) g) (he:∀ C s3 H3 ex,PE (cxB X (xs++ys) scope C s3 H3 ex) elt te)
    (I:Inv X pins Z H s2) (T:Turn X.prog X.w X.K (.Tuple es ek tp) J fp it tn) (h0:tn 0 s2.heap) (hf:∀ b∈fp,tG X pins H b)
    (W:Nat->Nat->St->List V->Hp->Prop) (w0:∃ m,W 0 m (fZ xs++bh js Z) [] H)
    (turn:∀ i m ZB acc H,W i m ZB acc H->(J.stop i H/\acc.length<=sizeLine/\∀ p,H p=none->Q (.ref p) (upd H p (.lst acc)))\/(J.go i H/\acc.length < sizeLine/\∀ x H',J.yld i H x H' ->
      g x ZB H' fun Z2 H2=>te Z2 H2 fun y H3=>∃ m',m' < m/\W (i+1) m' Z2 (acc++[y]) H3))
    (hRR:∀ (D C:Addr) (H':Hp) (s':Shared) (m':Str->Option Value),s'.heap.Ns C m'->s2.heap.objs.size<=C->C≠D->H' C=none->Inv X pins Z H' s'->Q (.ref D) H'->RR (.ref D) C (.ok .next) s') :
    wpAny (model X.prog X.w) X.A (newList []) (fun acc ZZ=>wpAny (model X.prog X.w) X.A (newFunctionEnv scope X.env.globals (kY X.env scope.names []) [] X.env.qual none .none (some X.env)) (fun cenv s₄ =>
      codeAny (model X.prog X.w) X.A (.compStart (.ListComp elt [⟨.Tuple es ek tp,iter,[],0⟩] scope pos) 0 (.ref it) acc { cenv with scope:=relabel scope X.env }) (RR acc cenv.locals) s₄) E ZZ) E s2:=by
  refine Jg (wpAny_newFunctionEnv B.cells (by intro y hy;simp at hy) (fun h1 hns hsb=>?_) B.kind);dsimp only at hns hsb ⊢;have hD:H s2.heap.objs.size=none:=I.hok.fresh (Il _);generalize hH2:s2.heap.push { cls:=.type "list", dict:=none,data:=.seq ([]:List Value).toArray }=P2 at hns hsb ⊢;have hgetD:P2.get? s2.heap.objs.size=some { cls:=.type "list", dict:=none,data:=.seq ([]:List Value).toArray }:=by rw [<- hH2];exact Im _ rfl
  have hold:∀ b o,s2.heap.get? b=some o->P2.get? b=some o:=fun b o e=>by rw [<- hH2];exact Ia _ e
  have hsz:P2.objs.size=s2.heap.objs.size+1:=by rw [<- hH2,Jv]
  have I3:Inv X pins Z H { s2 with heap:=P2,toks:=s2.toks }:=I.kept hold;generalize hDe:s2.heap.objs.size=D at *;have keep1:∀ b o,P2.get? b=some o->h1.get? b=some o:=fun b o e=>hsb.extBut b o (Iz (Ij e)) (Ia _ e);have hfp:∀ b∈fp,b < D:=fun b hb=>by
    obtain ⟨o,e,_⟩:=T.obj _ _ h0 b hb;rw [<- hDe];exact Ij e
  have hstk:∀ b,b≠X.env.locals->b ∉ X.fs->b ∉ frs X.stack:=fun b h1 h2 z=>(Iq.mp (I.lF b z)).elim h1 h2;have hDl:D≠X.env.locals:=fun z=>absurd I.lt (by rw [hDe,z];exact IU _);have hDfs:D ∉ X.fs:=I.Dx (by rw [hDe];exact Il _);have hDc:∀ y c,X.env.cells.lookup y=some c->c≠D:=fun y c e z=>by
    obtain ⟨v,q⟩:=I.cell y c e;have:=q.lt;rw [z,hDe] at this;exact absurd this (IU _)
  have hex:∀ b∈D :: fp,b ∉ frs X.stack/\b < ({ s2 with heap:=P2,toks:=s2.toks }:Shared).heap.objs.size/\(∀ y c,X.env.cells.lookup y=some c->c≠b)/\X.base.get? b=none:=fun b hb=>by
    rcases Iq.mp hb with rfl | hb
    · refine ⟨hstk _ hDl hDfs,by show _ < P2.objs.size;rw [hsz];exact JV _,hDc,?_⟩;cases q:X.base.get? b with
      | none=>rfl
      | some o =>
        have:=Ij (I.bk b o q);rw [hDe] at this;exact absurd this (IU _)
    · obtain ⟨f0,f1,f2,f3,f4,f5⟩:=hf b hb;refine ⟨hstk _ f1 f2,by show _ < P2.objs.size;rw [hsz];exact J3 (hfp b hb),f4,?_⟩;cases q:X.base.get? b with
      | none=>rfl
      | some o =>
        rcases f3 with z | z
        · exact absurd z (I.ok.zj b o q)
        · exact absurd (Ir (Ij q) (IM I.ok.bsz z)) (IU _)
  have IB:=pW (tk:=s2.toks) (ex:=D :: fp) I3 hc B cap (h1:=h1) hns keep1 hex;have hCD:P2.objs.size≠D:=by rw [hsz];exact Nat.succ_ne_self _
  have start:codeAny (model X.prog X.w) X.A (.compLoop (.ListComp elt [⟨.Tuple es ek tp,iter,[],0⟩] scope pos) 0 (.ref it) (.ref D) (compEnvC scope (kY X.env scope.names []) P2.objs.size X.env)) (RR (.ref D) P2.objs.size) { s2 with heap:=h1,toks:=s2.toks }:=by
    obtain ⟨m0,w0⟩:=w0;refine LCp.codeAny_compLoop_pair (fun n s=>∃ i ZB H' acc its k,Inv (cxB X (xs++ys) scope P2.objs.size { s2 with heap:=P2,toks:=s2.toks } H (D :: fp)) [] ZB H' s/\tn i s.heap/\(∀ b∈D :: fp,H' b=none)/\s.heap.get? D=some { cls:=.type "list", data:=.seq its k }/\Vals acc its.toList/\acc.length<=sizeLine/\W i n ZB acc H') ?_ m0 ?_
    · rintro n s ⟨i,ZB,H3,acc,its,k,I4,t4,fr4,g4,va,hl4,w4⟩;have hDm:D∈D :: fp:=IE;have exf:=I4.ok.exf;have fsub:∀ b∈D :: fp,b ∉ (cxB X (xs++ys) scope P2.objs.size { s2 with heap:=P2,toks:=s2.toks } H (D :: fp)).fs:=fun b hb=>(hex b hb).1;have stat:∀ {H':Hp} {ob:Obj},(∀ b∈fp,H' b=none)->∀ b∈fp,tG (cxB X (xs++ys) scope P2.objs.size { s2 with heap:=P2,toks:=s2.toks } H (D :: fp)) [(D,ob)] H' b:=fun {H' ob} hn b hb =>
        ⟨hn b hb,(exf b (Ip _ hb)).1,fsub b (Ip _ hb),.inl (Ip _ hb),(exf b (Ip _ hb)).2,fun p hp z=>by
          have hp':p∈[(D,ob)]:=hp;have e:=Ii.mp hp';rw [e] at z
          exact absurd (hfp b hb) (by rw [<- show D=b from z];exact IU _)⟩
      have frp:∀ b∈fp,H3 b=none:=fun b hb=>fr4 b (Ip _ hb);have I5:Inv (cxB X (xs++ys) scope P2.objs.size { s2 with heap:=P2,toks:=s2.toks } H (D :: fp)) [(D,{ cls:=.type "list", data:=.seq its k })] ZB H3 s:=I4.dY fun p hp=>by
        rw [Ii.mp hp];exact ⟨g4,fr4 D hDm,(exf D hDm).1,fsub D hDm,fun v z=>nomatch z⟩
      rcases turn i n ZB acc H3 w4 with ⟨stop,hacc,q⟩ | ⟨go,hacc,step⟩
      · refine Jd (T.done (cxB X (xs++ys) scope P2.objs.size { s2 with heap:=P2,toks:=s2.toks } H (D :: fp)) rfl rfl rfl rfl i _ s _ H3 (fun _ _=>False) I5 (stat frp) t4 stop) (fun r s1 ⟨hr,I6⟩=>?_) (fun _ _ z=>z.elim);subst hr;obtain ⟨m',hn',_⟩:=id I6.loc;have pD:=(I6.pin (D,{ cls:=.type "list", data:=.seq its k }) (IC _ (Ii.mpr rfl))).1;have nD:H3 D=none:=fr4 D hDm;have u:=I6.base;have uu:Un (frs X.stack) (D :: fp) H (upd H3 D (.lst acc)) P2 s1.heap :=
          ⟨u.keep,u.slot,fun b o q n hx=>by rw [ae fun z=>hx (by rw [z];exact hDm)];exact u.free b o q n hx,u.there,
           fun b xs q=>by rw [ae (af (u.oQ b xs q) nD)];exact u.oQ b xs q,fun b o v q=>by rw [ae (af (u.ll b o v q) nD)];exact u.ll b o v q,
           fun b x y q=>by rw [ae (af (u.kC b x y q) nD)];exact u.kC b x y q⟩
        have hok:HOk X.prog X.w (upd H3 D (.lst acc)) s1.heap:=fun b o e=>by
          by_cases hb:b=D
          · subst hb;rw [ai] at e;cases e;exact ⟨hacc,its.toList,k,va,by rw [Array.toArray_toList];exact pD⟩
          · rw [ae hb] at e;exact (I6.hok b o e).jg (fun c v _ q=>q) (fun c q=>by rw [ae (af q nD)];exact q) (fun c xs q=>by rw [ae (af q nD)];exact q) fun c o u vs q _=>by rw [ae (af q nD)];exact q
        have fin:=I3.call (g':=s1.gens) (t':=s1.toks) (d':=s1.drawn) uu hok I6.bare (fun b hb=>by
          rcases Iq.mp hb with z | hb
          · rw [z];refine ⟨.inr (by rw [<- hDe];exact I.sz),hDl,hDc,fun p hp z=>?_⟩;have:=Ij (I.pin p hp).1;rw [z,hDe] at this;exact IU _ this
          · exact ⟨(hf b hb).2.2.2.1,(hf b hb).2.1,(hf b hb).2.2.2.2.1,(hf b hb).2.2.2.2.2⟩)
        have es':({ heap:=s1.heap,gens:=s1.gens,drawn:=s1.drawn,toks:=s1.toks,os:=s2.os }:Shared)=s1:=by
          have:=I6.os;obtain ⟨a1,a2,a3,a4,a5⟩:=s1;have e5:a5=s2.os:=this;rw [e5]
        have fin':Inv X pins Z (upd H3 D (.lst acc)) s1:=es'▸fin;exact hRR D P2.objs.size (upd H3 D (.lst acc)) s1 m' hn' (by rw [hsz];exact Nat.le_succ _) hCD (by rw [ae hCD];exact I6.free) fin' (q D nD)
      · refine Jd (T.item (cxB X (xs++ys) scope P2.objs.size { s2 with heap:=P2,toks:=s2.toks } H (D :: fp)) rfl rfl rfl rfl i _ s _ H3 (fun _ _=>False) I5 (stat frp) t4 go) (fun r s1 ⟨u,hr,h4⟩=>?_) (fun _ _ z=>z.elim);subst hr;refine Jd h4 (fun _ s1' ⟨x',H5,I6,r6,y6,t6,fr6⟩=>?_) (fun _ _ z=>z.elim);have I7:=I6.pinned (stat fr6) (T.obj _ _ t6);refine Jd (hg _ _ _ _ _ s1' _ H5 x' u _ I7 r6 (step x' H5 y6)) (fun _ s2' ⟨Z6,H6,I8,q8⟩=>?_) (fun _ _ z=>z.elim);have pinsKeep:∀ {Z':St} {H':Hp} {s':Shared},Inv (cxB X (xs++ys) scope P2.objs.size { s2 with heap:=P2,toks:=s2.toks } H (D :: fp)) ([(D,{ cls:=.type "list", data:=.seq its k })]++jE fp s1'.heap) Z' H' s' ->
            s'.heap.get? D=some { cls:=.type "list", data:=.seq its k }/\(∀ b∈D :: fp,H' b=none)/\∀ b∈fp,∀ o,s1'.heap.get? b=some o->s'.heap.get? b=some o:=fun {Z' H' s'} J=>by
          have pd:=J.pin (D,{ cls:=.type "list", data:=.seq its k }) (IC _ (List.mem_append_left _ (Ii.mpr rfl)));refine ⟨pd.1,fun b hb=>?_,fun b hb o e=>(J.pin (b,o) (IC _ (IC _ (bP hb e)))).1⟩;rcases Iq.mp hb with rfl | hb
          · exact pd.2.1
          · obtain ⟨o,e,_⟩:=T.obj _ _ t6 b hb;exact (J.pin (b,o) (IC _ (IC _ (bP hb e)))).2.1
        refine Jd (he _ _ _ _ _ s2' _ _ _ I8 q8) (fun y s4' ⟨yv,H8,I10,ry,m',hm,w10⟩=>?_) (fun _ _ z=>z.elim);obtain ⟨p1,p2,p3⟩:=pinsKeep I10;have hsize:its.size=acc.length:=by rw [va.length];simp
        have I11:=I10.dY (pins':=[]) (fun p hp=>absurd hp (by simp));refine wpAny_list_append_plain ⟨k,p1⟩ (fun h' hpl hsame=>?_) (by rw [hsize];exact J6 hacc);obtain ⟨k',e'⟩:=hpl;have neD:∀ {b:Addr} {o:HO},H8 b=some o->b≠D:=fun e z=>by rw [z,p2 D hDm] at e;cases e
        refine ⟨m',hm,i+1,Z6,H8,acc++[yv],its.push y,k',?_,?_,p2,e',?_,?_,w10⟩
        · refine I11.step (g':=s4'.gens) (t':=s4'.toks) (d':=s4'.drawn) (ch:=[D]) (fun b hb=>?_) (fun b o _ _ hc' e _=>?_) (fun b o _ _ hc' e _=>⟨o.slots,?_⟩) (fun b o hc' e n=>n) (fun b o hc' e=>⟨o,?_⟩) (fun _ _ z=>z) (fun _ _ _ z=>z) (fun _ _ _ z=>z) (fun m hn=>hn.sameBut hsame (Ne.symm (exf D hDm).1)) (fun b o e=>?_) I11.bare
          · rw [Ii.mp hb];exact ⟨.inl hDm,(exf D hDm).1,(exf D hDm).2,fun p hp=>absurd (show p∈([]:List (Addr×Obj)) from hp) (by simp)⟩
          · exact (hsame.2 b fun z=>hc' (Ii.mpr z)).trans e
          · exact (hsame.2 b fun z=>hc' (Ii.mpr z)).trans e
          · exact (hsame.2 b fun z=>hc' (Ii.mpr z)).trans e
          · refine (I11.hok b o e).jg (fun c v hc' q=>(hsame.2 c ?_).trans q) (fun _ q=>q) (fun _ _ q=>q) fun _ _ _ _ q _=>q;rcases hc' with z | z
            · rw [z];exact neD e
            · exact neD z
        · refine T.keep _ _ _ t6 fun b hb o e=>(hsame.2 b ?_).trans (p3 b hb o e);exact Iz (hfp b hb)
        · rw [Km];exact va.append (.cons ry .nil)
        · rw [Io,JM];exact hacc
    · refine ⟨0,fZ xs++bh js Z,H,[],#[],_,IB,T.keep _ _ _ h0 (fun b hb o e=>keep1 b o (hold b o e)),fun b hb=>?_,keep1 _ _ hgetD,.nil,JD _,w0⟩;rcases Iq.mp hb with rfl | hb
      · exact hD
      · exact (hf b hb).1
  exact codeAny_compStart_list start (T.self _ 0 _ _ _ (T.keep _ _ _ h0 (fun b hb o e=>keep1 b o (hold b o e))) start)
theorem vB {X:Cx} {elt iter:Expr} {es:List Expr} {ek} {tp pos:Pos} {scope:Scope} {wi:TI} {g:TG} {te:TE} {xs ys:List Str} {js:List Nat} (hc:X.calm=true) (hi:PI X (.Tuple es ek tp) iter wi) (B:hZ X scope xs) (cap:df X scope ys js)
  (hg:∀ C s3 H3 ex,PG (cxB X (xs++ys) scope C s3 H3 ex) (.Tuple es ek tp) g) (he:∀ C s3 H3 ex,PE (cxB X (xs++ys) scope C s3 H3 ex) elt te) (hs:∀ x,foldedSetIterable iter X.env x=pure x) :
  PE X (.ListComp elt [⟨.Tuple es ek tp,iter,[],0⟩] scope pos) (oZ xs js wi g te):=by
 intro pins s Z H Q I h;have hcl:=fM (scope:=scope) (env:=X.env) fun y hy hf=>I.ok.has y.1 (.inl (B.free y hy hf));rw [eval_ListComp];refine wpAny_comprehension_free (use:=none) rfl hs hcl B.kind B.locs (Jd (hi pins s Z H _ I h) (fun xv s1 h1=>Jd h1 (fun itv s2 h2=>?_) fun _ _ e=>e) fun _ _ e=>e);obtain ⟨it,fp,tn,J,H2,e,I2,T,st2,f2,W,w0,turn⟩:=h2;subst e;refine qS (RR:=fun acc C=>compPost (model X.prog X.w) X.A X.xe none (EP X pins Z Q) acc C) hc B cap hg he I2 T st2 f2 W w0 turn ?_;intro D C H' s' m' hn hC hCD hCn I' q;refine ⟨m',hn,fun h' hs'=>⟨.ref D,H',?_,rfl,q⟩⟩;have hL:X.env.locals≠C:=Iz (Ir I2.lt hC);have neC:∀ {b:Addr} {o:HO},H' b=some o->b≠C:=fun e z=>by rw [z,hCn] at e;cases e
 refine I'.step (g':=s'.gens) (t':=s'.toks) (d':=s'.drawn) (ch:=[C]) (fun b hb=>?_) (fun b o _ _ hc' e _=>?_) (fun b o _ _ hc' e _=>⟨o.slots,?_⟩) (fun b o hc' e n=>n) (fun b o hc' e=>⟨o,?_⟩) (fun _ _ z=>z) (fun _ _ _ z=>z) (fun _ _ _ z=>z) (fun m hn=>hn.sameBut hs' hL) (fun b o e=>?_) I'.bare
 ·rw [Ii.mp hb];refine ⟨.inr (IM I2.sz hC),Ne.symm hL,fun y c e z=>?_,fun p hp z=>?_⟩
  ·obtain ⟨v,q⟩:=I2.cell y c e;have:=q.lt;rw [z] at this;exact absurd (Ir this hC) (IU _)
  ·have:=Ij (I2.pin p hp).1;rw [z] at this;exact absurd (Ir this hC) (IU _)
 ·exact (hs'.2 b fun z=>hc' (Ii.mpr z)).trans e
 ·exact (hs'.2 b fun z=>hc' (Ii.mpr z)).trans e
 ·exact (hs'.2 b fun z=>hc' (Ii.mpr z)).trans e
 ·refine (I'.hok b o e).jg (fun c v hc' q=>(hs'.2 c ?_).trans q) (fun _ q=>q) (fun _ _ q=>q) fun _ _ _ _ q _=>q;rcases hc' with z | z
  ·rw [z];exact neC e
  ·exact neC z
structure JGs (X:Cx) (N:List Str) (scope:Scope) (es:List Expr) (t:TGs):Prop where
 h:∀ C s3 H3 ex,PGs (cxB X N scope C s3 H3 ex) es t
theorem HC {X:Cx} {N:List Str} {scope:Scope}:JGs X N scope [] AM:=⟨fun _ _ _ _=>tF⟩
theorem EY {X:Cx} {N:List Str} {scope:Scope} {es:List Expr} {u:TGs} {i:Nat} {x:Str} {px:Pos} (nd:N.Nodup) (hi:N[i]?=some x) (hv:scope.names.lookup x=some .local) (h:JGs X N scope es u):JGs X N scope (.Name x px :: es) (mP (aT i) u) :=
 ⟨fun C s3 H3 ex=>nN (iC nd hi (.inl (lookup_relabel_local hv)) (.inr (lookup_relabel_local hv))) (h.h C s3 H3 ex) rfl⟩
theorem C4 {X:Cx} {elt iter:Expr} {es:List Expr} {ek} {tp pos:Pos} {scope:Scope} {wi:TI} {u:TGs} {te:TE} {js:List Nat} {n:Nat} (xs ys:List Str) (hi:JI X (.Tuple es ek tp) iter wi) (hg:JGs X (xs++ys) scope es u) (he:JC X (xs++ys) scope elt te) (hc:X.calm=true) (B:hZ X scope xs) (cap:df X scope ys js)
  (hn:∀ env,(assignEach es env).length=n) (hst:∀ env,(assignEach es env).findIdx? (·.1)=none) (hs:∀ x,foldedSetIterable iter X.env x=pure x) :
  JE X (.ListComp elt [⟨.Tuple es ek tp,iter,[],0⟩] scope pos) (oZ xs js wi (zZ X.K n u) te) :=
 ⟨vB hc hi.h B cap (fun C s3 H3 ex=>wu rfl (hg.h C s3 H3 ex) (hn _) (hst _)) he.h hs⟩
noncomputable def lO (sc scope:Scope):Bool :=
 (scope.kind==.function)&&scope.names.all (fun y=>y.2 != .cell)&&scope.names.all (fun y=>y.2 != .local||scope.names.lookup y.1==some .local)&&scope.names.all (fun y=>y.2 != .free||sc.names.lookup y.1==some .cell)
theorem HJ {X:Cx} {sc scope:Scope} {xs:List Str} (e:X.env.scope=sc) (h:lO sc scope=true):hZ X scope xs:=by
 unfold lO at h;simp only [IV,JY,K9,bne_iff_ne,KH,ne_eq] at h;obtain ⟨⟨⟨h1,h2⟩,h3⟩,h5⟩:=h;exact ⟨h1,fun y hy=>h2 y hy,fun y hy e=>(h3 y hy).resolve_left fun z=>z e,fun y hy e'=>by rw [e];exact (h5 y hy).resolve_left fun z=>z e'⟩
def Hm (K:Fg) (te:TE):TT:=fun Z H Q=>te Z H fun x H'=>∃ k,Ga K x H' k/\Q k H'
structure JGl (X:Cx) (es:List Expr) (t:TGs):Prop where
 h:PGs X es t
section
variable {X:Cx} {es:List Expr} {t:TGs} {pos:Pos} {x:Str} {i:Nat}
theorem Ho:JGl X [] AM:=⟨tF⟩
theorem GQ (hN:X.N.Nodup) (hi:X.N[i]?=some x) (hx:Loc X.env.scope x) (hf:X.fn x=true\/X.env.scope.names.lookup x=some .local) (h:JGl X es t):JGl X (.Name x pos :: es) (mP (aT i) t):=⟨nN (iC hN hi hx hf) h.h rfl⟩
theorem eGT {n:Nat} {k} (hc:X.calm=true) (h:JGl X es t) (hn:(assignEach es X.env).length=n) (hst:(assignEach es X.env).findIdx? (·.1)=none):JG X (.Tuple es k pos) (zZ X.K n t):=⟨wu hc h.h hn hst⟩
end
section
variable {X:Cx}
def A0:List V->Hp->VK->Prop:=fun xs H Q=>(∃ i:Int,xs=[.int i]/\i.natAbs.log2 < 1920/\Q (.str (toString i)) H)\/(xs=[.non]/\Q (.str "None") H)\/∃ x,xs=[.str x]/\Q (.str x) H
theorem sG:a8 X (.type "str") A0:=by
 intro pins s Z H xs us Q I r h;rcases h with ⟨i,rfl,hz,q⟩ | ⟨rfl,q⟩ | ⟨x,rfl,q⟩
 ·obtain ⟨u,rfl,t,rfl⟩:=vals1 r;exact PySem.P.str_of_int hz ⟨.str _,H,I.tok _,⟨_,rfl⟩,q⟩
 ·obtain ⟨u,rfl,r1⟩:=vals1 r;cases r1;exact PySem.P.str_of_none ⟨.str _,H,I.tok _,⟨_,rfl⟩,q⟩
 ·obtain ⟨u,rfl,t,rfl⟩:=vals1 r;exact PySem.P.str_of_str ⟨.str _,H,I,⟨_,rfl⟩,q⟩
def tFs:List TE->Str->TE
 | [],out=>fun _ H Q=>out.length<=sizeLine/\Q (.str out) H
 | t :: ts,out=>fun Z H Q=>t Z H fun x H1=>∃ y,x=.str y/\(out++y).length<=sizeLine/\tFs ts (out++y) Z H1 Q
def PFs (X:Cx) (vs:List Expr) (ts:List TE):Prop :=
 ∀ (pins:List (Addr×Obj)) (s:Shared) (Z:St) (H:Hp) (Q:VK) (out:Str),Inv X pins Z H s->tFs ts out Z H Q->wpAny (model X.prog X.w) X.A (joinParts out (evalEach vs X.env)) (EP X pins Z Q) X.xe s
theorem yF:PFs X [] []:=by
 intro pins s Z H Q out I h;exact joinParts_nil ⟨.str out,H,I.tok _,⟨_,rfl⟩,h.2⟩ h.1
theorem vj {v:Expr} {vs:List Expr} {t:TE} {ts:List TE} (hv:PE X v t) (hr:PFs X vs ts):PFs X (v :: vs) (t :: ts):=by
 intro pins s Z H Q out I h;show wpAny _ _ (joinParts out (eval v X.env :: evalEach vs X.env)) _ _ s;refine joinParts_cons (thn (hv pins s Z H _ I h) fun u s1 ⟨x,H1,I1,r1,y,ex,hz,q⟩=>?_);subst ex;obtain ⟨t',rfl⟩:=r1;exact ⟨hz,hr pins s1 Z H1 Q _ I1 q⟩
end
structure JF (X:Cx) (vs:List Expr) (ts:List TE):Prop where
 h:PFs X vs ts
section
variable {X:Cx}
theorem eF0:JF X [] []:=⟨yF⟩
theorem eFc {v:Expr} {vs:List Expr} {t:TE} {ts:List TE} (hv:JE X v t) (hr:JF X vs ts):JF X (v :: vs) (t :: ts):=⟨vj hv.h hr.h⟩
end
section
variable {X:Cx}
def Bg (K:Fg):R2:=fun x y H Q=>∃ l b xs zs,x=.ref l/\y=.ref b/\SqL K H l xs/\SqL K H b zs/\xs.length+zs.length<=sizeLine/\∀ p,H p=none->Q (.ref p) (upd H p (.lst (xs++zs)))
theorem xC:OpR X (binaryOp .Add) (Bg X.K):=by
 intro pins s Z H x y v u Q I rx ry h;obtain ⟨l,b,xs,zs,rfl,rfl,hH,hB,hz,q⟩:=h;cases rx;cases ry;obtain ⟨its,r,p,_⟩:=I.list hH;obtain ⟨its2,r2,p2,_⟩:=I.list hB;obtain ⟨⟨cls,dd,data,sl⟩,n,ho,hc,hd0,hd⟩:=p;obtain ⟨⟨cls2,dd2,data2,sl2⟩,n2,ho2,hc2,hd02,hd2⟩:=p2;simp only at hc hd hc2 hd2;subst hc hd hc2 hd2;have e:its.toArray++its2.toArray=(its++its2).toArray:=by simp
 refine concat_meets ⟨_,ho,rfl⟩ ⟨_,ho2,rfl⟩ noFill_list_add seq_list_add PySem.F.slot_list_add PySem.F.entry_list_add (PySem.F.args_list_add_2 _ _) (list_addW l b its.toArray its2.toArray n n2 dd dd2 sl sl2 (by rw [Iw,Iw,<-r.length,<-r2.length];exact hz)) ⟨ho,ho2,?_⟩;rw [e];exact ⟨.ref _,_,I.GD (t':=s.toks) (r.append r2) (by rw [Io];omega),rfl,q _ I.fresh⟩
end
mutual
noncomputable def hkB:PyData->Bool
 | .int _=>true
 | .str _=>true
 | .tuple ds=>ug ds
 | _=>false
noncomputable def ug:List PyData->Bool
 | []=>true
 | d :: ds=>hkB d&&ug ds
end
theorem jY:∀ {ds:List PyData},ug ds=true↔∀ d∈ds,hkB d=true
 | []=>by simp [ug]
 | d :: ds=>by simp [ug,jY (ds:=ds)]
noncomputable def kyB (d:PyData):Bool:=hkB d&&d.canLay0&&decide (d.depth<=6)
noncomputable def hk6 (d:PyData):Bool:=hkB d&&decide (d.depth<=6)
mutual
theorem gC:∀ (d e:PyData),hkB d=true->hkB e=true->(PyData.eqv d e=true↔d=e)
 | .int i,e,_,h=>by
  cases e with
  | int j=>simp [PyData.eqv]
  | str y=>simp [PyData.eqv]
  | tuple es=>simp [PyData.eqv]
  | _=>cases h
 | .str x,e,_,h=>by
  cases e with
  | int j=>simp [PyData.eqv]
  | str y=>simp [PyData.eqv]
  | tuple es=>simp [PyData.eqv]
  | _=>cases h
 | .tuple ds,e,h1,h=>by
  cases e with
  | int j=>simp [PyData.eqv]
  | str y=>simp [PyData.eqv]
  | tuple es=>simp only [PyData.eqv,PyData.tuple.injEq];exact rl ds es h1 h
  | _=>cases h
 | .none,_,h,_=>by cases h
 | .bool _,_,h,_=>by cases h
 | .list _,_,h,_=>by cases h
 | .dict _,_,h,_=>by cases h
theorem rl:∀ (ds es:List PyData),ug ds=true->ug es=true->(PyData.eqvAll ds es=true↔ds=es)
 | [],[],_,_=>by simp [PyData.eqvAll]
 | [],_ :: _,_,_=>by simp [PyData.eqvAll]
 | _ :: _,[],_,_=>by simp [PyData.eqvAll]
 | d :: ds,e :: es,h1,h2=>by
  simp only [ug,IV] at h1 h2;rw [PyData.eqvAll,IV,gC d e h1.1 h2.1,rl ds es h1.2 h2.2,List.cons.injEq]
end
theorem k8 {d:PyData} {ds:List PyData} (h:d∈ds):d.depth+1<=(PyData.tuple ds).depth:=by
 have:∀ {ds:List PyData},d∈ds->d.depth<=PyData.depthAll ds:=by
  intro ds;induction ds with
  | nil=>intro h;cases h
  | cons x xs ih =>
   intro h;rw [PyData.depthAll];rcases Iq.mp h with rfl | h
   ·exact Nat.le_max_left _ _
   ·exact IM (ih h) (Nat.le_max_right _ _)
 rw [PyData.depth];have:=this h;omega
theorem gW {h:Heap}:∀ {vs:List Value} {ds:List PyData} {as:List Addr},ReadsAll h vs ds as->vs.length=ds.length/\∀ (i:Nat) (v:Value),vs[i]?=some v->∃ d bs,ds[i]?=some d/\Reads h v d bs
 | _,_,_,.nil=>⟨rfl,fun i v e=>by simp at e⟩
 | _,_,_,.cons r t=>by
  obtain ⟨l,f⟩:=gW t;refine ⟨by simp [l],fun i v e=>?_⟩;cases i with
  | zero=>simp at e;subst e;exact ⟨_,_,rfl,r⟩
  | succ i=>simpa using f i v (by simpa using e)
section
variable {P:Program} {w:World} {A:Around} {E:Value->Shared->Prop} {s:Shared}
theorem rX:∀ (n:Nat) {d:PyData} {v:Value} {as:List Addr} {Q:Bool->Shared->Prop},Reads s.heap v d as->hkB d=true->d.depth<=n->Q true s->wpAny (model P w) A (eqIsQuiet n v) Q E s:=by
 intro n;induction n with
 | zero =>
  intro d v as Q r h hd q;cases r with
  | int i t=>rw [eqIsQuiet_byValue _ rfl];exact Ib q
  | str x t=>rw [eqIsQuiet_byValue _ rfl];exact Ib q
  | tuple _ _ _ _=>rw [PyData.depth] at hd;omega
  | _=>cases h
 | succ n ih =>
  intro d v as Q r h hd q;cases r with
  | int i t=>rw [eqIsQuiet_byValue _ rfl];exact Ib q
  | str x t=>rw [eqIsQuiet_byValue _ rfl];exact Ib q
  | @tuple a o vs k xs as ho hc hdt ra =>
   have hT:s.TypeIs (.ref a) "tuple" := ⟨o,ho,hc⟩;unfold eqIsQuiet;refine H9 (Kb hT F.slot_tuple_eq.lookup ?_);show wpAny _ _ (isInstance (.ref a) (.type "tuple")>>=_) _ _ s;refine H9 (KZ hT isSubtype_tuple_tuple ?_);simp only [Bool.not_true,Kf,J8];refine H9 (wpAny_seqItems ho hdt (H9 ?_));show wpAny _ _ (forIn vs _ _) _ _ s;rw [<- Array.forIn_toList];have hx:=jY.mp h;refine K0 _ (fun rest r s'=>r.1=none/\s'=s/\∀ u∈rest,u∈vs.toList) _ ?_ ?_ _ _ ⟨rfl,rfl,fun _ z=>z⟩
   ·rintro u rest r s' ⟨hr,rfl,hall⟩;obtain ⟨i,hi⟩:=Js.mp (hall u IE);obtain ⟨d',bs,e1,r1⟩:=(gW ra).2 i u hi;have hm:=IF e1;refine H9 (ih r1 (hx d' hm) (by have:=k8 hm;omega) ?_);simp only [Bool.not_true,Kf,J8];exact Ib ⟨rfl,rfl,fun y hy=>hall y (Ip _ hy)⟩
   ·rintro ⟨r1,r2⟩ s' ⟨hr,rfl,_⟩;simp only at hr;subst hr;exact Ib q
  | _=>cases h
theorem vY:∀ (n:Nat) {A:Around} {s:Shared} {E:Value->Shared->Prop} {d:PyData} {v:Value} {as:List Addr} {Q:Int->Shared->Prop},Reads s.heap v d as->hkB d=true->d.depth<=n->A.units+n < cLine ->
  (∀ t,Q (b7 w d) { s with toks:=t })->wpAny (model P w) A (pyHash v) Q E s:=by
 intro n;induction n with
 | zero =>
  intro A s E d v as Q r h hd hu q;cases r with
  | int i t=>exact wpAny_pyHash_int (q _)
  | str x t=>exact wpAny_pyHash_str (q _)
  | tuple _ _ _ _=>rw [PyData.depth] at hd;omega
  | _=>cases h
 | succ n ih =>
  intro A s E d v as Q r h hd hu q;cases r with
  | int i t=>exact wpAny_pyHash_int (q _)
  | str x t=>exact wpAny_pyHash_str (q _)
  | @tuple a o vs k xs as ho hc hdt ra =>
   have hT:s.TypeIs (.ref a) "tuple" := ⟨o,ho,hc⟩;have hx:=jY.mp h;unfold pyHash;first | unfold pyHashByItsType | skip
   first | refine H9 (wpAny_cRoomFor_or (.inr (by omega)) ?_) | skip
   refine H9 (Kb hT F.slot_tuple_hash.lookup ?_);show wpAny _ _ (if (some (Value.builtin "tuple.__hash__")==some Value.none)=true then _ else _) Q E s;rw [ID (by rw [beq_builtin_none];exact Jp)];refine H9 (Kb hT F.slot_tuple_hash.lookup ?_);show wpAny _ _ (callSpecialIfBoundUnlessNone? (.ref a) "__hash__" _>>=_) Q E s;refine H9 (wpAny_callSpecialIfBoundUnlessNone?_slot hT F.slot_tuple_hash (Jf F.slot_tuple_hash hT F.entry_tuple_hash ?_ (F.args_tuple_hash_1 _)));show wpAny _ _ (Builtin.Tuple.tupleItemsOf (.ref a)>>=_) _ _ s;refine H9 (wpAny_tupleItemsOf ho hdt (H9 ?_));rw [<- Array.forIn_toList];have hap:∀ (l m:List PyData),cH w (l++m)=cH w l++cH w m:=by
    intro l m;induction l with
    | nil=>rfl
    | cons x l ihl=>rw [List.cons_append,cH,cH,ihl];rfl
   refine K0 _ (fun rest (b:Array Int) s'=>∃ i,rest=vs.toList.drop i/\b.toList=cH w (xs.take i)/\∃ t,s'={ s with toks:=t }) _ ?_ ?_ _ _ ⟨0,rfl,rfl,_,rfl⟩
   ·rintro u rest b s' ⟨i,hr,hb,t,rfl⟩;have hi:vs.toList[i]?=some u:=by
     have:(vs.toList.drop i)[0]?=some u:=by rw [<- hr];rfl
     simpa using this
    obtain ⟨d',bs,e1,r1⟩:=(gW ra).2 i u hi;have hm:=IF e1;refine H9 (ih (s:={ s with toks:=t }) r1 (hx d' hm) (by have:=k8 hm;omega) (by have:A.in1.units=A.units+1:=rfl;omega) fun t'=>?_);have nx:rest=vs.toList.drop (i+1)/\(b.push (b7 w d')).toList=cH w (xs.take (i+1))/\∃ t'',({ s with toks:=t' }:Shared)={ s with toks:=t'' }:=by
     refine ⟨?_,?_,_,rfl⟩
     ·have:=congrArg List.tail hr;simpa [List.tail_drop] using this
     ·rw [List.take_add_one,e1,hap,Km,hb];rfl
    first
     | exact Ib ⟨i+1,nx⟩
     | exact H9 (Ib (Ib ⟨i+1,nx⟩))
   ·rintro b s' ⟨i,hr,hb,t,rfl⟩;have hi:vs.toList.length<=i:=by
     have:=congrArg List.length hr;simp at this;simpa using (by omega:vs.size<=i)
    rw [Kk (by rw [<- (gW ra).1];exact hi)] at hb;show wpAny _ _ (retInt (Builtin.Tuple.tupleHashOf b.toList)) _ _ _;rw [hb];refine wpAny_ret_mkInt ?_;have q':=q;rw [b7] at q';unfold reduceHash at q';show wpAny _ _ (if (decide (-(2:Int) ^ 63<=Builtin.Tuple.tupleHashOf (cH w xs))&&decide (Builtin.Tuple.tupleHashOf (cH w xs) < 2 ^ 63))=true then _ else _) Q E _;by_cases hc:(decide (-(2:Int) ^ 63<=Builtin.Tuple.tupleHashOf (cH w xs))&&decide (Builtin.Tuple.tupleHashOf (cH w xs) < 2 ^ 63))=true
    ·rw [Iy hc];rw [Iy hc] at q';exact Ib (q' _)
    ·rw [ID hc];rw [ID hc] at q';exact H9 (JJ (Ib (q' _)))
  | _=>cases h
end
open PySem PySem.Spec PyProof.Rows
theorem aC {d:PyData}:kyB d=true↔hkB d=true/\d.canLay0=true/\d.depth<=6:=by simp [kyB,and_assoc]
section
variable {P:Program} {w:World} {A:Around} {E:Value->Shared->Prop} {s:Shared}
structure zk (w:World) (h:Heap) (es:Array DictEntry) (ks:List PyData):Prop where
 len:es.size=ks.length
 nd:ks.Nodup
 at_:∀ (j:Nat) (k:PyData),ks[j]?=some k->kyB k=true/\∃ e bs,es[j]?=some e/\e.hash=b7 w k/\Reads h e.key k bs
theorem zk.at' {h:Heap} {es:Array DictEntry} {ks:List PyData} (N:zk w h es ks) {j:Nat} {e:DictEntry} (he:es[j]?=some e):∃ k bs,ks[j]?=some k/\kyB k=true/\e.hash=b7 w k/\Reads h e.key k bs:=by
 have hj:j < ks.length:=by rw [<- N.len];exact (Array.getElem?_eq_some_iff.mp he).1
 obtain ⟨a,e',bs,b,c,r⟩:=N.at_ j _ (Ie hj);rw [he] at b;cases b;exact ⟨_,bs,Ie hj,a,c,r⟩
theorem zk.one {h:Heap} {es:Array DictEntry} {ks:List PyData} (N:zk w h es ks) {i j:Nat} {k:PyData} (hi:ks[i]?=some k) (hj:ks[j]?=some k):i=j :=
 (List.getElem?_inj (Ih.mp hi).1 N.nd).mp (hi.trans hj.symm)
theorem yx {key key':Value} {k k':PyData} {as bs:List Addr} (hu:A.units+6 < cLine) (r:Reads s.heap key k as) (r':Reads s.heap key' k' bs) (h:kyB k=true) (h':kyB k'=true):SeqAt.EqAt A s key' key (PyData.eqv k' k):=by
 rw [aC] at h h';exact SeqAt.eqAt_reads k' k A s key' key bs as r' r h'.2.1 h.2.1 (by have:=Nat.min_le_right k'.depth k.depth;omega)
theorem BD {key:Value} {k:PyData} {as:List Addr} {st:List Value} {Q:Bool->Shared->Prop} (r:Reads s.heap key k as) (h:kyB k=true) (hst:∀ v∈st,∃ k' bs,Reads s.heap v k' bs/\kyB k'=true) (q:Q false s) :
  wpAny (model P w) A (tableMayTell key st) Q E s:=by
 rw [aC] at h;unfold tableMayTell;split
 ·exact Ib q
 ·refine H9 (rX 8 r h.1 (by omega) ?_);rw [ID (by simp)];refine H9 (K0 _ (fun rest b s'=>s'=s/\b=(none,())/\∀ v∈rest,v∈st) _ ?_ ?_ _ _ ⟨rfl,rfl,fun _ z=>z⟩)
  ·rintro v rest b s' ⟨rfl,rfl,hr⟩;obtain ⟨k',bs,r',h'⟩:=hst v (hr v IE);rw [aC] at h';refine H9 (rX 8 r' h'.1 (by omega) ?_);rw [ID (by simp)];exact Ib ⟨rfl,rfl,fun v hv=>hr v (Ip _ hv)⟩
  ·rintro b s' ⟨rfl,rfl,_⟩;exact Ib q
theorem r8 {h:Heap} {v:Value} {x:Str} {as:List Addr} (r:Reads h v (.str x) as):∃ t,v=.str x t:=by cases r;exact ⟨_,rfl⟩
theorem ng {h:Heap} {v:Value} {x:Str} {k:PyData} {as:List Addr} (r:Reads h v k as) (hk:hkB k=true) (hp:v.isStr x=true):k=.str x:=by
 cases r with
 | str y t=>simp [Value.isStr] at hp;simp [hp]
 | int i t=>simp [Value.isStr] at hp
 | tuple _ _ _ _=>simp [Value.isStr] at hp
 | _=>cases hk
theorem tW {α:Type} {c:Prop} [Decidable c] {x y:Sem α} {Q:α->Shared->Prop} (hx:wpAny (model P w) A x Q E s) (hy:wpAny (model P w) A y Q E s):wpAny (model P w) A (if c then x else y) Q E s:=by
 split
 ·exact hx
 ·exact hy
theorem Ah {α:Type} {c:Prop} [Decidable c] {m:Sem Bool} {f:Bool->Sem α} {Q:α->Shared->Prop} (hm:∀ Q':Bool->Shared->Prop,Q' false s->wpAny (model P w) A m Q' E s) (h:wpAny (model P w) A (f false) Q E s) :
  wpAny (model P w) A (if c then (pure false:Sem Bool)>>=f else m>>=f) Q E s:=tW (H9 (Ib h)) (H9 (hm _ h))
theorem vO {w0:World} {d:Addr} {o:Obj} {es:Array DictEntry} {ep:Nat} {ks:List PyData} {k:PyData} {key:Value} {as:List Addr} {Q:Option Nat->Shared->Prop}
  (hu:A.units+6 < cLine) (hk:Reads s.heap key k as) (hky:kyB k=true) (ho:s.heap.get? d=some o) (hd:o.data=.dict es ep) (N:zk w0 s.heap es ks)
  (hnone:(∀ j:Nat,ks[j]?≠some k)->Q none s) (hsome:∀ j:Nat,ks[j]?=some k->Q (some j) s):wpAny (model P w) A (dictFind d key (b7 w0 k)) Q E s:=by
 have hk3:=aC.mp hky;have hsz:=N.len;have hash_at:∀ j:Nat,ks[j]?=some k->((es[j]?.map (·.hash))==some (b7 w0 k))=true:=fun j hj=>by
  obtain ⟨_,e,bs,he,hh,_⟩:=N.at_ j k hj;rw [he];simp [hh]
 have same:∀ {k'},kyB k'=true->(PyData.eqv k' k=true↔k'=k):=fun h'=>gC _ _ (aC.mp h').1 hk3.1;have done:∀ i:Nat,i<=es.size->(∀ j:Nat,j < i->ks[j]?≠some k)->[]=(List.range' i (es.size - i)).filter (fun i=>(es[i]?.map (·.hash))==some (b7 w0 k))->∀ j:Nat,ks[j]?≠some k:=by
  intro i hi hno hr j hj;rcases Kj j i with h | h
  ·exact hno j h hj
  ·have hjl:j < es.size:=by rw [hsz];exact (Ih.mp hj).1
   have:=List.filter_eq_nil_iff.mp hr.symm j (List.mem_range'_1.mpr ⟨h,by omega⟩);exact this (hash_at j hj)
 have skip:∀ {i x:Nat},(∀ j:Nat,j < i->ks[j]?≠some k)->(∀ j:Nat,i<=j->j < x->((es[j]?.map (·.hash))==some (b7 w0 k))=false)->∀ j:Nat,j < x->ks[j]?≠some k:=by
  intro i x hno hs j hjx hj;rcases Kj j i with h | h
  ·exact hno j h hj
  ·have:=hs j h hjx;rw [hash_at j hj] at this;cases this
 have step:∀ {x:Nat} {k':PyData},ks[x]?=some k'->k'≠k->(∀ j:Nat,j < x->ks[j]?≠some k)->∀ j:Nat,j < x+1->ks[j]?≠some k:=by
  intro x k' hx hne hno j hj hjk;rcases Kj j x with h | h
  ·exact hno j h hjk
  ·have:j=x:=by omega
   subst this;rw [hx] at hjk;cases hjk;exact hne rfl
 have plain:wpAny (model P w) A (dictWalkPlain d key (b7 w0 k) es (placesWithHash es.size (fun i=>es[i]?.map (·.hash)) (b7 w0 k))) Q E s:=by
  unfold dictWalkPlain
  refine H9 (K0 _ (fun rest b s'=>s'=s/\b=(none,())/\∃ i:Nat,rest=(List.range' i (es.size - i)).filter (fun i=>(es[i]?.map (·.hash))==some (b7 w0 k))/\i<=es.size/\∀ j:Nat,j < i->ks[j]?≠some k) _ ?_ ?_ _ _
   ⟨rfl,rfl,0,by rw [placesWithHash,List.range_eq_range',Nat.sub_zero],JD _,fun _ h=>absurd h (Nat.not_lt_zero _)⟩)
  ·rintro x rest b s' ⟨rfl,rfl,i,hr,hi,hno⟩;obtain ⟨hix,hxn,hpx,hskip,hrest⟩:=filter_range'_cons _ _ _ _ _ hr.symm;have hlt:x < es.size:=by omega
   have hex:es[x]?=some es[x]:=Jk hlt;obtain ⟨k',bs,hkx,hk',hh,hr'⟩:=N.at' hex;have hno':=skip hno hskip;have hrest':rest=(List.range' (x+1) (es.size - (x+1))).filter (fun i=>(es[i]?.map (·.hash))==some (b7 w0 k)):=by rw [hrest];congr 2;omega
   rw [hex] at hpx ⊢;have hhx:(es[x].hash==b7 w0 k)=true:=by simpa using hpx
   dsimp only;rw [Iy hhx];refine H9 (JN ho hd (H9 (yx hu hk hr' hky hk' _ _ _ _ (H9 (JN ho hd ?_)))));rw [ID (by simp)];by_cases z:k'=k
   ·subst z;rw [(same hky).mpr rfl];first | rw [Iy rfl] | skip
    exact H9 (JJ (Ib (Ib (hsome x hkx))))
   ·have:PyData.eqv k' k=false:=by
     cases q:PyData.eqv k' k with
     | false=>rfl
     | true=>exact absurd ((same hk').mp q) z
    rw [this];rw [ID (by simp)];exact H9 (JJ (Ib ⟨rfl,rfl,x+1,hrest',hlt,step hkx z hno'⟩))
  ·rintro b s' ⟨rfl,rfl,i,hr,hi,hno⟩;exact Ib (hnone (done i hi hno hr))
 have hst:∀ v∈(placesWithHash es.size (fun i=>es[i]?.map (·.hash)) (b7 w0 k)).filterMap (fun i=>es[i]?.map (·.key)),∃ k' bs,Reads s.heap v k' bs/\kyB k'=true:=by
  intro v hv;obtain ⟨i,_,hi⟩:=List.mem_filterMap.mp hv;obtain ⟨e,he,rfl⟩:=IK.mp hi;obtain ⟨k',bs,_,h1,_,h2⟩:=N.at' he;exact ⟨k',bs,h2,h1⟩
 unfold dictFind;try with_reducible refine Jj ?_
 refine H9 (KQ ho hd ?_);have shape:(∃ i t,key=.int i t)\/(∃ x t,key=.str x t/\k=.str x)\/∃ a,key=.ref a:=by
  cases hk with
  | int i t=>exact .inl ⟨i,t,rfl⟩
  | str x t=>exact .inr (.inl ⟨x,t,rfl,rfl⟩)
  | tuple _ _ _ _=>exact .inr (.inr ⟨_,rfl⟩)
  | _=>cases hk3.1
 rcases shape with ⟨i,t,rfl⟩ | ⟨x,t,rfl,ek⟩ | ⟨a,rfl⟩;refine tW plain ?_
 rotate_left
 refine tW ?_ (tW plain ?_)
 ·subst ek;unfold foundByValue;cases hf:es.findIdx? (·.key.isStr x) with
  | none =>
   refine Ib (hnone fun j hj=>?_);obtain ⟨_,e,bs,he,_,r⟩:=N.at_ j _ hj;have:=Array.findIdx?_eq_none_iff.mp hf e (Array.mem_of_getElem? he);obtain ⟨t',e'⟩:=r8 r;rw [e'] at this;simp [Value.isStr] at this
  | some i =>
   have hi:=(Array.findIdx?_eq_some_iff_getElem.mp hf);obtain ⟨hlt,hp,_⟩:=hi;have hex:es[i]?=some es[i]:=Jk hlt;obtain ⟨k',bs,hkx,hk',hh,hr'⟩:=N.at' hex;have e1:k'=.str x:=ng hr' (aC.mp hk').1 hp;subst e1;dsimp only;rw [hex];dsimp only;refine H9 (JN ho hd (H9 (yx hu hk hr' hky hk' _ _ _ _ (H9 (JN ho hd ?_)))));rw [ID (by simp),(same hky).mpr rfl];first | rw [Iy rfl] | skip
   exact H9 (JJ (Ib (hsome i hkx)))
 rotate_left
 refine tW plain ?_;have hany:¬(es.any fun e=>e.key==Value.ref a&&e.hash != b7 w0 k)=true:=by
  rw [<- Array.any_toList,K3];rintro ⟨e,hin,hc⟩;obtain ⟨j,hj⟩:=Js.mp hin;obtain ⟨k',bs,_,_,h3,h4⟩:=N.at' (j:=j) (e:=e) (by simpa using hj);simp only [IV,KH,bne_iff_ne,ne_eq] at hc;rw [hc.1] at h4;exact hc.2 (by rw [h3,(PySem.Reads.unique h4 _ _ hk).1])
 dsimp only;rw [ID hany]
 all_goals
  refine Ah (fun Q' q=>BD hk hky hst q) ?_;try dsimp only
  rw [ID (by simp)]
  refine H9 (K0 _ (fun rest b s'=>s'=s/\∃ (i:Nat) (hit:Option Nat),b=(none,hit)/\rest=(List.range' i (es.size - i)).filter (fun i=>(es[i]?.map (·.hash))==some (b7 w0 k))/\i<=es.size /\
    ((hit=none/\∀ j:Nat,j < i->ks[j]?≠some k)\/∃ j,hit=some j/\j < i/\ks[j]?=some k)) _ ?_ ?_ _ _
   ⟨rfl,0,none,rfl,by rw [placesWithHash,List.range_eq_range',Nat.sub_zero],JD _,.inl ⟨rfl,fun _ h=>absurd h (Nat.not_lt_zero _)⟩⟩)
  ·rintro x rest b s' ⟨rfl,i,hit,rfl,hr,hi,hH⟩;obtain ⟨hix,hxn,hpx,hskip,hrest⟩:=filter_range'_cons _ _ _ _ _ hr.symm;have hlt:x < es.size:=by omega
   have hex:es[x]?=some es[x]:=Jk hlt;obtain ⟨k',bs,hkx,hk',hh,hr'⟩:=N.at' hex;have hrest':rest=(List.range' (x+1) (es.size - (x+1))).filter (fun i=>(es[i]?.map (·.hash))==some (b7 w0 k)):=by rw [hrest];congr 2;omega
   rw [hex] at hpx ⊢;have hhx:=(show (es[x].hash==b7 w0 k)=true by simpa using hpx);dsimp only;rw [Iy hhx];refine H9 (JN ho hd (H9 (yx hu hk hr' hky hk' _ _ _ _ (H9 (JN ho hd ?_)))));rw [ID (by simp)];cases q:PyData.eqv k' k with
   | true =>
    have z:=(same hk').mp q;rw [z] at hkx;first | rw [Iy rfl] | skip
    have h0:hit=none:=by
     rcases hH with ⟨h0,_⟩ | ⟨j,_,hj,hjk⟩
     ·exact h0
     ·exact absurd (N.one hjk hkx) (by omega)
    subst h0;simp only [Option.isSome_none,Kf,J8];first | refine H9 (Ib ?_) | skip
    refine H9 (JJ ?_);split
    ·exact Ib (Ib (hsome x hkx))
    ·exact Ib ⟨rfl,x+1,some x,rfl,hrest',hlt,.inr ⟨x,rfl,JV x,hkx⟩⟩
   | false =>
    rw [ID (by simp)];have z:k'≠k:=fun e=>by rw [(same hk').mpr e] at q;cases q
    have st:(hit=none/\∀ j:Nat,j < x+1->ks[j]?≠some k)\/∃ j,hit=some j/\j < x+1/\ks[j]?=some k:=by
     rcases hH with ⟨h0,hno⟩ | ⟨j,h0,hj,hjk⟩
     ·exact .inl ⟨h0,step hkx z (skip hno hskip)⟩
     ·exact .inr ⟨j,h0,by omega,hjk⟩
    refine H9 (JJ ?_);first | rw [ID (by simp)] | skip
    first
     | exact Ib ⟨rfl,x+1,hit,rfl,hrest',hlt,st⟩
     | exact H9 (Ib (Ib ⟨rfl,x+1,hit,rfl,hrest',hlt,st⟩))
  ·rintro b s' ⟨rfl,i,hit,rfl,hr,hi,hH⟩;rcases hH with ⟨rfl,hno⟩ | ⟨j,rfl,_,hj⟩
   ·exact Ib (hnone (done i hi hno hr))
   ·exact Ib (hsome j hj)
end
open PySem PySem.Spec PyProof.Rows
noncomputable def kD:Key->PyData | .inl i=>.int i | .inr x=>.str x
noncomputable def cvK (kv:Key×V):PyData×V×V:=(kD kv.1,kV kv.1,kv.2)
theorem wa {a b:Key} (h:kD a=kD b):a=b:=by
 cases a <;> cases b <;> simp [kD] at h <;> simp [h]
theorem mU (w:World) (k:Key):b7 w (kD k)=Gz w k:=by cases k <;> rfl
theorem kg {P:Program} {w:World} {H:Hp} (h:Heap) (hb:sysModules < h.objs.size):bw P w H (h.push { cls:=.type "dict", data:=.dict #[] }) h.objs.size (.dD 0 []) :=
 ⟨JD _,beq_eq_false_iff_ne.mpr (Ne.symm (Iz hb)),List.nodup_nil,_,#[],Im _ rfl,⟨rfl,rfl,rfl⟩,rfl,.nil⟩
theorem lj {P:Program} {w:World}:∀ {kvs:List (Key×V)} {vs:List (Key×Value)} {es:List DictEntry},KV kvs vs->Pairs (az P w) es vs->(∀ e∈es,∃ k,(az P w).is k e.key=true/\e.hash=(az P w).hash k)->Paired (uS w) (kvs.map cvK) es
 | [],_,_,r,q,_=>by cases r;cases q;exact .nil
 | p :: kvs,_,es,r,q,h=>by
  cases r with
  | cons r t =>
   cases q with
   | @cons e kv es' kvs' h1 h2 h3 =>
    obtain ⟨k,hk,hh⟩:=h e IE;have e1:k=p.1:=by rw [r.1];exact (az P w).inj _ _ _ hk h1
    subst e1;refine .cons ⟨?_,?_,?_⟩ (lj t h3 fun e he=>h e (Ip _ he))
    ·rw [hh];exact (mU w _).symm
    ·show RelV (kV p.1) e.key;rcases aD (show lC p.1 e.key=true from hk) with ⟨i,t,e1,e2⟩ | ⟨x,t,e1,e2⟩
     ·rw [e1,e2];exact ⟨t,rfl⟩
     ·rw [e1,e2];exact ⟨t,rfl⟩
    ·show RelV p.2 e.val;rw [h2];exact r.2
theorem Fx {P:Program} {w:World} {H:Hp} {h:Heap} {a:Addr} {kvs:List (Key×V)} {vs:List (Key×Value)} (z:kvs.length<=sizeLine) (hd:(a==sysModules)=false) (rel:KV kvs vs) (dd:h.DictOf (az P w) a vs) :
  ∃ ep,bw P w H h a (.dD ep (kvs.map cvK)):=by
 obtain ⟨o,es,ep,h1,h2,h3,h4,h5,h6⟩:=dd;refine ⟨ep,by rw [Ic];exact z,hd,?_,o,es,h1,h2,h3,lj rel h5 fun e he=>h4 e (Array.mem_toList_iff.mp he)⟩;have e1:vs.map (·.1)=kvs.map (·.1):=by
  clear h5 h6 z;unfold KV at rel;induction rel with
  | nil=>rfl
  | cons r t ih=>rw [List.map_cons,List.map_cons,ih,r.1]
 rw [e1] at h6;rw [Jl];have:(kvs.map ((fun x:PyData×V×V=>x.1)∘cvK))=(kvs.map (·.1)).map kD:=by rw [Jl];rfl
 rw [this];exact List.Pairwise.map kD (fun _ _ n z=>n (wa z)) h6
def wt:TE:=fun _ H Q=>∀ p,H p=none->Q (.ref p) (upd H p (.dD 0 []))
def oP (trs:List (TE×TE)):TE:=fun Z H Q=>∀ p,H p=none->oe trs Z (upd H p (.dD 0 [])) fun ps H2=>H2 p=some (.dD 0 [])/\∃ kvs:List (Key×V),ps=kvs.map (fun kv=>(kV kv.1,kv.2))/\kvs.length<=15/\∀ ep,Q (.ref p) (upd H2 p (.dD ep ((dX [] kvs).map cvK)))
section
variable {X:Cx} {pos:Pos}
theorem vK:PE X (.Dict [] [] pos) wt:=fun pins s Z H Q I h =>
 wpAny_Dict_empty ⟨.ref s.heap.objs.size,_,I.laid (o:=.dD 0 []) (t':=s.toks) (fun _ _ q=>Ia _ q) (Il _) (kg s.heap I.big),rfl,h _ (I.hok.fresh (Il _))⟩
theorem vg {keys:List (Option Expr)} {values:List Expr} {trs:List (TE×TE)} (h:PPs X pos keys values trs) (hall:keys.all (·.isSome)=true) (hl:keys.length=values.length) (h0:keys≠[])
  (h15:keys.length<=15):PE X (.Dict keys values pos) (oP trs):=by
 intro pins s Z H Q I q;have hn:=I.hok.fresh (Il s.heap.objs.size);have I1:=I.laid (o:=.dD 0 []) (h':=s.heap.push { cls:=.type "dict", data:=.dict #[] }) (t':=s.toks) (fun _ _ q=>Ia _ q) (Il _) (kg s.heap I.big);refine wpAny_Dict_walk (knd:=az X.prog X.w) hall hl h0 h15 (thn (h pins _ Z _ _ I1 (q _ hn)) fun ws s2 ⟨ps,H2,I2,rel,e,kvs,ep,lk,q2⟩=>?_);subst ep;obtain ⟨rs,c,rk⟩:=jL (P:=X.prog) (w:=X.w) rel;obtain ⟨z,hd,nd,o,es,g1,g2,g3,g4⟩:=(show bw X.prog X.w H2 s2.heap s.heap.objs.size (.dD 0 []) from I2.hok _ _ e);have ees:es=#[]:=by
  cases es with
  | mk l=>cases g4;rfl
 subst ees;have dd:s2.heap.DictOf (az X.prog X.w) s.heap.objs.size []:=⟨o,#[],0,g1,g2,g3,fun e he=>by simp at he,.nil,List.nodup_nil⟩;refine ⟨rs,c,dd,fun h' dd' hs=>?_⟩;have hz:(dX [] kvs).length<=sizeLine:=by
  have h1:=fq kvs [];rw [K8] at h1;rw [IQ];omega
 have he:∃ q,h'.get? s.heap.objs.size=some q:=let ⟨q,_,_,hq,_⟩:=dd';⟨q,hq⟩
 obtain ⟨ep,new⟩:=Fx (H:=upd H2 s.heap.objs.size (.dD 0 [])) hz hd (rk.merge .nil) dd';exact ⟨.ref s.heap.objs.size,_,mM I2 (by rw [e];exact True.intro) hs he (ob:=.dD ep ((dX [] kvs).map cvK)) new,rfl,q2 ep⟩
end
noncomputable def oy (xs:List (PyData×V×V)) (k:PyData):Option V:=(xs.find? fun x=>PyData.eqv x.1 k).map (·.2.2)
noncomputable def mn (xs:List (PyData×V×V)) (k:PyData) (j v:V):List (PyData×V×V) :=
 if (xs.any fun x=>PyData.eqv x.1 k)=true then xs.map (fun x=>if PyData.eqv x.1 k=true then (x.1,x.2.1,v) else x) else xs++[(k,j,v)]
def iq (h:Heap) (xs:List (PyData×V×V)):Prop:=∀ x∈xs,kyB x.1=true/\∀ u,RelV x.2.1 u->∃ bs,Reads h u x.1 bs
section
variable {X:Cx} {pins:List (Addr×Obj)} {Z:St} {H:Hp} {s:Shared} {a:Addr} {A:Around} {E:Value->Shared->Prop} {ep:Nat} {xs:List (PyData×V×V)} {k:PyData} {u:Value} {as:List Addr}
theorem fF {α β:Type} {R:α->β->Prop}:∀ {l:List α} {m:List β},Paired R l m->∀ (j:Nat) (x:α),l[j]?=some x->∃ y,m[j]?=some y/\R x y
 | _,_,.nil,j,x,e=>by simp at e
 | _,_,.cons r t,0,x,e=>by simp at e;subst e;exact ⟨_,rfl,r⟩
 | _,_,.cons r t,j+1,x,e=>by simpa using fF t j x (by simpa using e)
theorem tM {P:Program} {w:World} {h:Heap} {es:Array DictEntry} (kr:iq h xs) (nd:(xs.map (·.1)).Nodup) (r:Paired (uS w) xs es.toList):zk w h es (xs.map (·.1)) where
 len:=by rw [Ic,J9 r];simp
 nd:=nd
 at_:=fun j k e=>by
  rw [Ik] at e;obtain ⟨x,hx,rfl⟩:=IK.mp e;obtain ⟨en,h1,h2,h3,h4⟩:=fF r j x hx;obtain ⟨k1,k2⟩:=kr x (IF hx);obtain ⟨bs,r1⟩:=k2 _ h3;exact ⟨k1,en,bs,by simpa using h1,h2,r1⟩
theorem qZ {j:Nat} (kr:iq s.heap xs) (nd:(xs.map (·.1)).Nodup) (ky:kyB k=true) (hj:(xs.map (·.1))[j]?=some k):∃ x,xs[j]?=some x/\x.1=k/\xs.find? (fun x=>PyData.eqv x.1 k)=some x:=by
 rw [Ik] at hj;obtain ⟨x,hx,rfl⟩:=IK.mp hj;refine ⟨x,hx,rfl,?_⟩;rw [List.find?_eq_some_iff_getElem];obtain ⟨hl,e⟩:=Ih.mp hx;refine ⟨(gC _ _ (aC.mp ky).1 (aC.mp ky).1).mpr rfl,j,hl,e,fun i hi=>?_⟩;have hil:i < xs.length:=by omega
 cases q:PyData.eqv xs[i].1 x.1 with
 | false=>rfl
 | true =>
  have z:=(gC _ _ (aC.mp (kr _ (List.getElem_mem hil)).1).1 (aC.mp ky).1).mp q;have e1:(xs.map (·.1))[i]?=some x.1:=by rw [Ik,Ie hil,Option.map_some,z]
  have e2:(xs.map (·.1))[j]?=some x.1:=by rw [Ik,hx];rfl
  have:=(List.getElem?_inj (by rw [Ic];exact hil) nd).mp (e1.trans e2.symm);omega
theorem rQ (kr:iq s.heap xs) (ky:kyB k=true) (h:∀ j:Nat,(xs.map (·.1))[j]?≠some k):xs.find? (fun x=>PyData.eqv x.1 k)=none:=by
 rw [Ke];intro x hx q;have z:=(gC _ _ (aC.mp (kr x hx).1).1 (aC.mp ky).1).mp q;obtain ⟨j,hj⟩:=Js.mp hx;exact h j (by rw [Ik,hj,Option.map_some,z])
theorem AI {Q:Option Value->Shared->Prop} (hu:A.units+6 < cLine) (I:Inv X pins Z H s) (e:H a=some (.dD ep xs)) (kr:iq s.heap xs) (hk:Reads s.heap u k as) (ky:kyB k=true)
  (q:∀ t ov,Ft (oy xs k) ov->Q ov { s with toks:=t }):wpAny (model X.prog X.w) A (dictGet a u) Q E s:=by
 obtain ⟨z,hd,nd,o,es,g1,g2,g3,g4⟩:=(show bw X.prog X.w H s.heap a (.dD ep xs) from I.hok _ _ e);unfold dictGet;refine Jj (H9 (vY 6 hk (aC.mp ky).1 (aC.mp ky).2.2 hu fun t=>?_));refine H9 (vO (s:={ s with toks:=t }) hu hk ky g1 g3 (tM (P:=X.prog) kr nd g4) (fun hno=>?_) fun j hj=>?_)
 ·refine Ib (q _ _ ?_);unfold oy;rw [rQ (s:=s) kr ky hno];exact True.intro
 ·obtain ⟨x,hx,e1,e2⟩:=qZ (s:=s) kr nd ky hj;obtain ⟨en,h1,h2,h3,h4⟩:=fF g4 j x hx;refine H9 (KQ (s:={ s with toks:=t }) g1 g3 (Ib (q _ _ ?_)));unfold oy;rw [e2,show es[j]?=some en by simpa using h1];exact h4
theorem iO (I:Inv X pins Z H s) (e:H a=some (.dD ep xs)):s.TypeIs (.ref a) "dict" /\ (a==sysModules)=false:=by
 obtain ⟨z,hd,nd,o,es,g1,g2,g3,g4⟩:=(show bw X.prog X.w H s.heap a (.dD ep xs) from I.hok _ _ e);exact ⟨⟨o,g1,g2.1⟩,hd⟩
theorem AD {v:V} {Q:Value->Shared->Prop} (hu:A.units+7 < cLine) (I:Inv X pins Z H s) (e:H a=some (.dD ep xs)) (kr:iq s.heap xs) (hk:Reads s.heap u k as) (ky:kyB k=true) (hv:oy xs k=some v)
  (q:∀ t w',RelV v w'->Q w' { s with toks:=t }):wpAny (model X.prog X.w) A (getItem (.ref a) u) Q E s:=by
 obtain ⟨T,_⟩:=iO I e;unfold getItem;refine Jj (H9 (wpAny_sequenceKey T (by decide) (H9 (Jb (name:=Str.ofString "__getitem__") T slot_dict_getitem (Jf slot_dict_getitem T entry_dict_getitem ?_ (args_dict_getitem _ _))))));refine H9 (m:=dictGet a u) (AI (by have:A.in1.units=A.units+1:=rfl;omega) I e kr hk ky fun t ov r=>?_);rw [hv] at r;cases ov with
 | none=>cases r
 | some w'=>exact Ib ⟨w',rfl,Ib (q t w' r)⟩
theorem nX {j v:V}:(mn xs k j v).length<=xs.length+1:=by
 unfold mn;split
 ·rw [Ic];omega
 ·rw [Io];exact Il _
theorem oK {j v:V} (h:xs.find? (fun x=>PyData.eqv x.1 k)=none):mn xs k j v=xs++[(k,j,v)]:=by
 unfold mn;rw [ID];rw [K3];rintro ⟨x,hx,q⟩;exact absurd q (by simpa using Ke.mp h x hx)
theorem oB {j v:V} {x:PyData×V×V} (h:xs.find? (fun x=>PyData.eqv x.1 k)=some x):mn xs k j v=xs.map (fun x=>if PyData.eqv x.1 k=true then (x.1,x.2.1,v) else x):=by
 unfold mn;rw [Iy];rw [K3];exact ⟨x,KN h,by simpa using List.find?_some h⟩
theorem rR {w:World} {h:Heap} {v:V} {r:Value} (ky:kyB k=true) (rv:RelV v r):∀ {xs:List (PyData×V×V)} {es:List DictEntry} {i:Nat},iq h xs->(xs.map (·.1)).Nodup->(xs.map (·.1))[i]?=some k->Paired (uS w) xs es ->
  Paired (uS w) (xs.map (fun x=>if PyData.eqv x.1 k=true then (x.1,x.2.1,v) else x)) (es.modify i fun e=>{ e with val:=r })
 | [],es,i,_,_,hi,_=>by simp at hi
 | x :: xs,es,i,kr,nd,hi,p=>by
  cases p with
  | @cons _ e _ es' h1 h2 =>
   have ky':=(kr x IE).1;rw [List.map_cons,Jo] at nd;have off:∀ {ys:List (PyData×V×V)} {fs:List DictEntry},k ∉ ys.map (·.1)->iq h ys->Paired (uS w) ys fs->Paired (uS w) (ys.map (fun x=>if PyData.eqv x.1 k=true then (x.1,x.2.1,v) else x)) fs:=by
    intro ys fs hn kr' q;have:(ys.map (fun x=>if PyData.eqv x.1 k=true then (x.1,x.2.1,v) else x))=ys:=by
     refine (List.map_congr_left fun y hy=>?_).trans (List.map_id _);rw [ID]
     ·rfl
     ·intro z;exact hn (Ji.mpr ⟨y,hy,(gC _ _ (aC.mp (kr' y hy).1).1 (aC.mp ky).1).mp z⟩)
    rw [this];exact q
   cases i with
   | zero =>
    simp at hi;subst hi;rw [List.map_cons,Iy ((gC _ _ (aC.mp ky).1 (aC.mp ky).1).mpr rfl)];exact .cons ⟨h1.1,h1.2.1,rv⟩ (off nd.1 (fun y hy=>kr y (Ip _ hy)) h2)
   | succ i =>
    have hi':(xs.map (·.1))[i]?=some k:=by simpa using hi
    have ne:x.1≠k:=fun z=>nd.1 (by rw [z];exact IF hi');rw [List.map_cons,ID fun z=>ne ((gC _ _ (aC.mp ky').1 (aC.mp ky).1).mp z)];exact .cons h1 (rR ky rv (fun y hy=>kr y (Ip _ hy)) nd.2 hi' h2)
theorem Ap {j v:V} {r:Value} {Q:Unit->Shared->Prop} (hu:A.units+6 < cLine) (I:Inv X pins Z H s) (e:H a=some (.dD ep xs)) (kr:iq s.heap xs) (hk:Reads s.heap u k as) (ky:kyB k=true) (rj:RelV j u) (rv:RelV v r) (hl:xs.length < sizeLine)
  (q:∀ ep' s',Inv X pins Z (upd H a (.dD ep' (mn xs k j v))) s'->(∀ b o,b≠a->s.heap.get? b=some o->s'.heap.get? b=some o)->Q () s'):wpAny (model X.prog X.w) A (dictSet a u r) Q E s:=by
 obtain ⟨T,hd⟩:=iO I e;obtain ⟨z,_,nd,o,es,g1,g2,g3,g4⟩:=(show bw X.prog X.w H s.heap a (.dD ep xs) from I.hok _ _ e);have hsz:es.size=xs.length:=by rw [J9 g4];simp
 unfold dictSet dictSetHashed;refine Jj (H9 (vY 6 hk (aC.mp ky).1 (aC.mp ky).2.2 hu fun t=>Jj ?_));have hl':(mn xs k j v).length<=sizeLine:=by have:=nX (xs:=xs) (k:=k) (j:=j) (v:=v);omega
 refine H9 (vO (s:={ s with toks:=t }) hu hk ky g1 g3 (tM (P:=X.prog) kr nd g4) (fun hno=>?_) fun i hi=>?_)
 ·have fn:=rQ (s:=s) kr ky hno;refine H9 (JJ (wpAny_updateDictKeys (s:={ s with toks:=t }) (hz:=by omega) g1 g3 (q (ep+1) _ (mM (t':=t) (I.tok t) (by rw [e];exact True.intro) (Jz ..) ⟨_,IG _ g1 (Obj.isFreed_of_dict (Obj.data_mapDictKeys g3 _))⟩ ?_) fun b o hb e=>(Kl _ _ (Ne.symm hb)).trans e)));refine ⟨hl',hd,?_,_,_,IG _ g1 (Obj.isFreed_of_dict (Obj.data_mapDictKeys g3 _)),g2.mapDictKeys _,Obj.data_mapDictKeys g3 _,?_⟩
  ·rw [oK fn,Jx,List.nodup_append];refine ⟨nd,by simp,fun y hy z hz=>?_⟩;simp only [List.map_cons,List.map_nil,Ii] at hz;subst hz;rintro rfl;obtain ⟨i,hi⟩:=Js.mp hy;exact hno i hi
  ·rw [oK fn,Km];exact Paired.snoc g4 ⟨rfl,rj,rv⟩
 ·obtain ⟨x,hx,e1,e2⟩:=qZ (s:=s) kr nd ky hi;refine H9 (JJ (H9 (wpAny_updateDict (s:={ s with toks:=t }) g1 g3 (wpAny_point (q ep _ (mM (t':=t) (I.tok t) (by rw [e];exact True.intro) (Jz ..) ⟨_,IG _ g1 (Obj.isFreed_of_dict (Obj.data_mapDict g3 _))⟩ ?_) fun b o hb e=>(Kl _ _ (Ne.symm hb)).trans e)))));refine ⟨hl',hd,?_,_,_,IG _ g1 (Obj.isFreed_of_dict (Obj.data_mapDict g3 _)),g2.mapDict _,Obj.data_mapDict g3 _,?_⟩
  ·rw [oB e2,Jl];have:(xs.map ((fun x:PyData×V×V=>x.1)∘fun y=>if PyData.eqv y.1 k=true then (y.1,y.2.1,v) else y))=xs.map (·.1):=List.map_congr_left fun y _=>by
    show (if PyData.eqv y.1 k=true then (y.1,y.2.1,v) else y).1=y.1;split <;> rfl
   rw [this];exact nd
  ·rw [oB e2,Array.toList_modify];exact rR ky rv kr nd hi g4
theorem FH {j v:V} {r:Value} {Q:Unit->Shared->Prop} (hu:A.units+7 < cLine) (I:Inv X pins Z H s) (e:H a=some (.dD ep xs)) (kr:iq s.heap xs) (hk:Reads s.heap u k as) (ky:kyB k=true) (rj:RelV j u) (rv:RelV v r) (hl:xs.length < sizeLine)
  (q:∀ ep' s',Inv X pins Z (upd H a (.dD ep' (mn xs k j v))) s'->Q () s'):wpAny (model X.prog X.w) A (setItem (.ref a) u r) Q E s:=by
 obtain ⟨T,hd⟩:=iO I e;unfold setItem;refine Jj (H9 (wpAny_sequenceKey T (by decide) (H9 (Jb (name:=Str.ofString "__setitem__") T slot_dict_setitem (Jf slot_dict_setitem T entry_dict_setitem ?_ (args_dict_setitem _ _ _))))));refine H9 (m:=Builtin.Dict.notOrdered "__setitem__" ⟨[.ref a,u,r],[]⟩) (wpAny_notOrdered_dict T ?_);exact H9 (m:=dictSet a u r) (Ap (by have:A.in1.units=A.units+1:=rfl;omega) I e kr hk ky rj rv hl fun ep' s' I' _=>Ib ⟨.none,rfl,Ib (q ep' s' I')⟩)
end
open PySem PySem.Spec PyProof.Rows
section
variable {P:Program} {w:World} {A:Around} {E:Value->Shared->Prop} {s:Shared} {it d:Addr} {o od:Obj} {es:Array DictEntry} {i ep:Nat}
theorem A5 {Q:Value->Shared->Prop} (hd:(d==sysModules)=false) (g1:s.heap.get? d=some od) (g2:od.ExactDict) (g3:od.data=.dict es ep)
  (q:Q (.ref s.heap.objs.size) { s with heap:=s.heap.push { cls:=.type "dict_keyiterator", data:=.fields #[.ref d,.int 0 0,.int es.size 0,.int ep 0] } }):wpAny (model P w) A (pyIter (.ref d)) Q E s:=by
 have T:s.TypeIs (.ref d) "dict" := ⟨od,g1,g2.1⟩;refine wpAny_pyIter_slot T F.slot_dict_iter (Jf F.slot_dict_iter T F.entry_dict_iter ?_ (F.args_dict_iter_1 _));unfold Builtin.«dict.__iter__» Builtin.Dict.dictSlotNone
 refine H9 (H9 (wpAny_notOrdered_dict T ?_));show wpAny _ _ (pure (Value.ref d):Sem Value) _ _ s;refine Ib ?_;show wpAny _ _ (Builtin.Dict.showsAll d>>=_) _ _ s;unfold Builtin.Dict.showsAll;rw [ID (by rw [hd];exact Jp)];refine H9 (Ib (H9 (KQ g1 g3 (H9 (JN g1 g3 ?_)))));exact H9 (Jg (Ib ⟨_,rfl, "dict_keyiterator", _,⟨_,Im _ rfl,rfl⟩,Ky.lookup,q⟩))
theorem zE {Q:Option Value->Shared->Prop} (hit:s.heap.IsKeyIter it d i es.size ep) (g1:s.heap.get? d=some od) (g3:od.data=.dict es ep) {e:DictEntry} (he:es[i]?=some e)
  (q:∀ h',h'.IsKeyIter it d (i+1) es.size ep->Heap.SameBut it s.heap h'->Q (some e.key) { s with heap:=h' }):wpAny (model P w) A (pyNext (.ref it)) Q E s:=by
 obtain ⟨ob,ho,hc,hd⟩:=id hit;have T:=hit.typeIs;unfold pyNext;refine H9 (KY (Jb (name:=Str.ofString "__next__") T Ky (Jf Ky T F.entry_dict_keyiterator_next ?_ (F.args_dict_keyiterator_next_1 _))));refine H9 (Ib (H9 (H9 ?_)));first | refine H9 (Ks T (Ib (H9 (KD ho hd ?_)))) | refine H9 (KW T (Ib (H9 (KD ho hd ?_))))
 simp only [show Builtin.Dict_items.ownsTuple "dict_keyiterator" = false by decide,Kf,J8];show wpAny _ _ (if (Value.ref d==Value.none)=true then _ else _) _ _ s;rw [ID (show ¬((Value.ref d==Value.none)=true) from Jp)];refine H9 (Ib (H9 (KQ g1 g3 ?_)));rw [ID (by simp)];refine H9 (Ib (H9 (JN g1 g3 ?_)));rw [ID (by simp)];refine Ib ?_;simp only [show ¬((i:Int) < 0) from by omega,J8,IS,he];refine H9 ?_;first | refine H9 (Ks T (Ib (H9 (wpAny_isOneOf_keyiter T ?_)))) | refine H9 (KW T (Ib (H9 (wpAny_isOneOf_keyiter T ?_))))
 show wpAny _ _ (setField (.ref it) 1 (rawInt ((i:Int)+1))>>=_) _ _ s;have hit':(s.heap.update it (Obj.mapFields (·.setIfInBounds 1 (rawInt ((i:Int)+1))))).IsKeyIter it d (i+1) es.size ep :=
  ⟨_,IG _ ho (Obj.isFreed_of_fields (Obj.data_mapFields hd _)),(Obj.cls_mapFields ..).trans hc,by rw [Obj.data_mapFields hd];simp [rawInt]⟩
 refine H9 (wpAny_setField ho hd (by simp) (H9 (Jj ?_)));refine H9 (wpAny_isOneOf_keyiter (s:={ s with heap:=s.heap.update it (Obj.mapFields (·.setIfInBounds 1 (rawInt ((i:Int)+1)))) }) hit'.typeIs ?_);show wpAny _ _ (pure e.key:Sem Value) _ _ _;exact Ib (Ib ⟨_,rfl,Ib (q _ hit' (Jz ..))⟩)
theorem Ej {Q:Option Value->Shared->Prop} (hh:A.handled=none) (hit:s.heap.IsKeyIter it d i es.size ep) (g1:s.heap.get? d=some od) (g3:od.data=.dict es ep) (he:es.size<=i)
  (q:∀ h',Heap.ExtBut it s.heap h'->Q none { s with heap:=h' }):wpAny (model P w) A (pyNext (.ref it)) Q E s:=by
 obtain ⟨ob,ho,hc,hd⟩:=id hit;have T:=hit.typeIs;unfold pyNext;refine H9 (KY (Jb (name:=Str.ofString "__next__") T Ky (Jf Ky T F.entry_dict_keyiterator_next ?_ (F.args_dict_keyiterator_next_1 _))));refine H9 (Ib (H9 (H9 ?_)));first | refine H9 (Ks T (Ib (H9 (KD ho hd ?_)))) | refine H9 (KW T (Ib (H9 (KD ho hd ?_))))
 simp only [show Builtin.Dict_items.ownsTuple "dict_keyiterator" = false by decide,Kf,J8];show wpAny _ _ (if (Value.ref d==Value.none)=true then _ else _) _ _ s;rw [ID (show ¬((Value.ref d==Value.none)=true) from Jp)];refine H9 (Ib (H9 (KQ g1 g3 ?_)));rw [ID (by simp)];refine H9 (Ib (H9 (JN g1 g3 ?_)));rw [ID (by simp)];refine Ib ?_;simp only [show ¬((i:Int) < 0) from by omega,J8,IS,K6 he];refine H9 ?_;first | refine H9 (Ks T (Ib ?_)) | refine H9 (KW T (Ib ?_))
 show wpAny _ _ (setField (.ref it) 0 .none>>=_) _ _ s;refine H9 (wpAny_setField ho hd (by simp) ?_);show wpAny _ _ (newExc (.type "StopIteration") []>>=_) _ _ _;refine H9 ?_;simp only [newExc,newTuple];refine H9 (Jg (H9 (m:=firstArgMember _ _) (wpAny_of_eq (a:=Value.none) (by first | rfl | (simp only [firstArgMember];rfl)) (Jg ?_ (by size_fits)))) (by size_fits));simp only [raiseNew];refine H9 (wpAny_handled ?_);rw [show A.in1.handled=none from hh];refine H9 (Ib (wpAny_throw ?_));refine H9 (KZ (b:=true) (T := "StopIteration") ⟨_,Im _ rfl,rfl⟩ isSubtype_stop ?_);exact Ib (q _ (((Jz ..).extBut.push _).push _))
end
def Itd (a:Addr) (ep:Nat) (xs:List (PyData×V×V)):It :=
 ⟨fun i H=>H a=some (.dD ep xs)/\i < xs.length,fun i H x H'=>H'=H/\(xs[i]?).map (·.2.1)=some x,fun i H=>H a=some (.dD ep xs)/\xs.length<=i⟩
theorem vo {P:Program} {w:World} {K:Fg} {tg:Expr} (a it:Addr) (ep:Nat) (xs:List (PyData×V×V)):Turn P w K tg (Itd a ep xs) [it] it (fun i h=>h.IsKeyIter it a i xs.length ep) where
 mem:=by simp
 obj:=fun i h st b hb=>by
  have e:b=it:=by simpa using hb
  subst e;obtain ⟨o,e,c,d⟩:=st;exact ⟨o,e,fun v z=>by rw [d] at z;cases z⟩
 keep:=fun i h h' st k=>let ⟨o,e,r⟩:=st;⟨o,k it (by simp) o e,r⟩
 item:=by
  intro X hP hw hK hc i pins s Z H E I hf st hg;subst hP hw hK;obtain ⟨f0,f1,f2,f3,f4,f5⟩:=hf it (by simp);obtain ⟨z,hd,nd,o,es,g1,g2,g3,g4⟩:=(show bw X.prog X.w H s.heap a (.dD ep xs) from I.hok _ _ hg.1);have hsz:es.size=xs.length:=by rw [J9 g4];simp
  have hlt:i < xs.length:=hg.2;obtain ⟨en,h1,h2,h3,h4⟩:=fF g4 i xs[i] (Ie hlt);refine zE (by rw [hsz];exact st) g1 g3 (show es[i]?=some en by simpa using h1) fun h' st' sb=>?_;have I1:Inv X pins Z H { s with heap:=h' }:=I.turned (t':=s.toks) (fun b o hb e=>(sb.2 b hb).trans e) f0 f1 f3 f4 f5;rw [hsz] at st';obtain ⟨o2,e2,c2,d2⟩:=id st';exact ⟨en.key,rfl,vb (s:={ s with heap:=h' }) e2 c2 d2 (by decide) ⟨xs[i].2.1,H,I1,h3,⟨rfl,by rw [Ie hlt];rfl⟩,st',fun b hb=>(hf b hb).1⟩⟩
 done:=by
  intro X hP hw hK hc i pins s Z H E I hf st hg;subst hP hw hK;obtain ⟨f0,f1,f2,f3,f4,f5⟩:=hf it (by simp);obtain ⟨z,hd,nd,o,es,g1,g2,g3,g4⟩:=(show bw X.prog X.w H s.heap a (.dD ep xs) from I.hok _ _ hg.1);have hsz:es.size=xs.length:=by rw [J9 g4];simp
  exact Ej (I.ok.hd hc) (by rw [hsz];exact st) g1 g3 (by rw [hsz];exact hg.2) fun h' eb=>⟨rfl,I.turned (t':=s.toks) (fun b o hb e=>eb b o hb e) f0 f1 f3 f4 f5⟩
 self:=fun A i s Q E st h=>by
  refine wpAny_pyIter_slot st.typeIs F.slot_dict_keyiterator_iter (Jf F.slot_dict_keyiterator_iter st.typeIs F.entry_dict_keyiterator_iter ?_ (F.args_dict_keyiterator_iter_1 _));show wpAny _ _ (ret (.ref it)) _ _ s;exact Ib ⟨_,rfl, "dict_keyiterator", _,st.typeIs,Ky.lookup,h⟩
def FQ (tl:TE):TI:=fun Z H R=>tl Z H fun x H1=>∃ a ep xs,x=.ref a/\H1 a=some (.dD ep xs)/\R (Itd a ep xs) H1
theorem zJ {X:Cx} {tg l:Expr} {tl:TE} (hl:PE X l tl):PI X tg l (FQ tl):=by
 intro pins s Z H R I h;refine thn (hl pins s Z H _ I h) fun v s1 ⟨x,H1,I1,r1,a,ep,xs,e,ea,q⟩=>?_;subst e;cases r1;obtain ⟨z,hd,nd,o,es,g1,g2,g3,g4⟩:=(show bw X.prog X.w H1 s1.heap a (.dD ep xs) from I1.hok _ _ ea);have hsz:es.size=xs.length:=by rw [J9 g4];simp
 refine A5 hd g1 g2 g3 ⟨s1.heap.objs.size,[s1.heap.objs.size],_,_,H1,rfl,I1.kept (t':=s1.toks) fun b o e=>Ia _ e,vo a _ ep xs,⟨_,Im _ rfl,rfl,by rw [<- hsz];rfl⟩,fun b hb=>?_,q⟩;have e:b=s1.heap.objs.size:=by simpa using hb
 subst e;exact I1.Bw (Il _) (I1.hok.fresh (Il _))
open PySem PySem.Spec PyProof.Rows
def Itz (K:Fg) (a b:Addr) (xs ys:List V):It :=
 ⟨fun i H=>SqL K H a xs/\SqL K H b ys/\i < xs.length/\i < ys.length,fun i H x H'=>∃ p u v,H p=none/\x=.ref p/\xs[i]?=some u/\ys[i]?=some v/\H'=upd H p (.tup [u,v]),fun i H=>SqL K H a xs/\SqL K H b ys/\(xs.length<=i\/ys.length<=i)⟩
def Hx (K:Fg) (t:TA):TI:=fun Z H R=>t Z H fun vs H1=>∃ a b xs ys,vs=[.ref a,.ref b]/\SqL K H1 a xs/\SqL K H1 b ys/\R (Itz K a b xs ys) H1
open PySem PySem.Spec PyProof.Rows
def TkX (xs:List (PyData×V×V)):Prop:=∀ x∈xs,∃ t,x.1=.str t/\x.2.1=.str t
abbrev VX (xs:List (PyData×V×V)) (vs:List (Key×Value)):Prop:=Paired (fun (x:PyData×V×V) (kv:Key×Value)=>∃ t,x.1=.str t/\x.2.1=.str t/\kv.1=Sum.inr t/\RelV x.2.2 kv.2) xs vs
theorem om {P:Program} {w:World}:∀ {xs:List (PyData×V×V)} {es:List DictEntry},TkX xs->Paired (uS w) xs es->∃ vs,VX xs vs/\Pairs (az P w) es vs/\∀ e∈es,∃ k,(az P w).is k e.key=true/\e.hash=(az P w).hash k
 | [],_,_,q=>by cases q;exact ⟨[],.nil,.nil,fun e he=>by cases he⟩
 | x :: xs,_,tk,q=>by
  cases q with
  | @cons _ e _ es h q =>
   obtain ⟨vs,r1,r2,r3⟩:=om (P:=P) (fun y hy=>tk y (Ip _ hy)) q;obtain ⟨t,e1,e2⟩:=tk x IE;obtain ⟨h1,h2,h3⟩:=h;rw [e2] at h2;rw [e1] at h1;obtain ⟨tk,hk⟩:=h2;have ki:(az P w).is (.inr t) e.key=true:=by rw [hk];exact jd P w t tk
   refine ⟨(.inr t,e.val) :: vs,.cons ⟨t,e1,e2,rfl,h3⟩ r1,.cons ki rfl r2,fun y hy=>?_⟩;rcases Iq.mp hy with rfl | hy
   ·exact ⟨.inr t,ki,h1.trans (mU w (.inr t))⟩
   ·exact r3 y hy
theorem nz:∀ {xs:List (PyData×V×V)} {vs:List (Key×Value)},VX xs vs->xs.map (·.1)=(vs.map (·.1)).map kD
 | [],_,q=>by cases q;rfl
 | x :: xs,_,q=>by
  cases q with
  | @cons _ kv _ vs h q =>
   obtain ⟨t,e1,e2,e3,e4⟩:=h;rw [List.map_cons,List.map_cons,List.map_cons,nz q,e1,e3];rfl
section
variable {X:Cx} {pins:List (Addr×Obj)} {Z:St} {H:Hp} {s:Shared} {a:Addr} {ep:Nat} {xs:List (PyData×V×V)}
theorem Gb (I:Inv X pins Z H s) (e:H a=some (.dD ep xs)) (tk:TkX xs):(a==sysModules)=false/\xs.length<=sizeLine/\∃ vs,VX xs vs/\s.heap.DictAt (az X.prog X.w) a vs ep:=by
 obtain ⟨z,hd,nd,o,es,g1,g2,g3,g4⟩:=(show bw X.prog X.w H s.heap a (.dD ep xs) from I.hok _ _ e);obtain ⟨vs,r1,r2,r3⟩:=om (P:=X.prog) tk g4;refine ⟨hd,z,vs,r1,o,es,g1,g2,g3,fun e he=>r3 e (Array.mem_toList_iff.mpr he),r2,?_⟩;rw [nz r1] at nd;exact List.Pairwise.of_map kD (fun _ _ n z=>n (by rw [z])) nd
end
def Iti (a:Addr) (ep:Nat) (xs:List (PyData×V×V)):It :=
 ⟨fun i H=>H a=some (.dD ep xs)/\TkX xs/\i < xs.length,fun i H x H'=>∃ p y,H p=none/\x=.ref p/\xs[i]?=some y/\H'=upd H p (.tup [y.2.1,y.2.2]),fun i H=>H a=some (.dD ep xs)/\TkX xs/\xs.length<=i⟩
def Hj (tl:TE):TI:=fun Z H R=>tl Z H fun x H1=>∃ a ep xs,x=.ref a/\H1 a=some (.dD ep xs)/\TkX xs/\R (Iti a ep xs) H1
open PySem PySem.Spec PyProof.Rows
section
variable {P:Program} {w:World} {H H':Hp} {h h':Heap} {f:Addr} {o:Obj} {u:HO} {fs ex:List Addr}
noncomputable def off (H:Hp) (f:Addr):Hp:=fun b=>if b=f then none else H b
theorem off_ne {b:Addr} (n:b≠f):off H f b=H b:=ID n
theorem jG:off H f f=none:=Iy rfl
theorem HOk.drop (ok:HOk P w H h) (hf:H f=some (.frz o u)) (hd:∀ vs,o.data≠.fields vs):HOk P w (off H f) h:=fun a x e=>by
 by_cases ha:a=f
 ·rw [ha,jG] at e;cases e
 ·rw [off_ne ha] at e;have ne:∀ {b:Addr} {y:HO},H b=some y->(∀ o u,y≠.frz o u)->b≠f:=fun q n z=>by rw [z,hf] at q;cases q;exact n _ _ rfl
  refine (ok a x e).jg (fun _ _ _ q=>q) (fun b q=>?_) (fun b xs q=>?_) fun b ob v vs q d=>?_
  ·rw [off_ne (ne q fun _ _ z=>by cases z)];exact q
  ·rw [off_ne (ne q fun _ _ z=>by cases z)];exact q
  ·rw [off_ne fun z=>?_];exact q;rw [z,hf] at q;cases q;exact hd _ d
theorem HOk.hold (ok:HOk P w H h) (hn:H f=none) (ho:h.get? f=some o):HOk P w (upd H f (.frz o (.own f))) h:=fun a x e=>by
 by_cases ha:a=f
 ·subst ha;rw [ai] at e;cases e;exact ⟨ho,o,ho⟩
 ·rw [ae ha] at e;exact (ok a x e).jg (fun _ _ _ q=>q) (fun c q=>by rw [ae (af q hn)];exact q) (fun c xs q=>by rw [ae (af q hn)];exact q) fun c o u vs q _=>by rw [ae (af q hn)];exact q
theorem Un.held (un:Un fs ex (upd H f (.frz o (.own f))) H' h h') (hn:H f=none) (ho:h.get? f=some o) (ok:HOk P w H' h'):Un fs ex H (off H' f) h h':=by
 have hz:=un.ll f o _ ai;have hg:h'.get? f=some o:=(ok f _ hz).1;have ne:∀ {b:Addr} {y:HO},H b=some y->b≠f:=fun q z=>by rw [z,hn] at q;cases q
 refine ⟨fun b ob q n hb hx=>?_,fun b ob q n hb hx=>?_,fun b ob q n hx=>?_,fun b ob q hx=>un.there b ob q hx,fun b xs q=>?_,fun b ob v q=>?_,fun b x y q=>?_⟩
 ·by_cases hbf:b=f
  ·subst hbf;rw [ho] at q;cases q;exact hg
  ·exact un.keep b ob q (by rw [ae hbf];exact n) hb hx
 ·by_cases hbf:b=f
  ·subst hbf;rw [ho] at q;cases q;exact ⟨o.slots,hg⟩
  ·exact un.slot b ob q (by rw [ae hbf];exact n) hb hx
 ·by_cases hbf:b=f
  ·rw [hbf];exact jG
  ·rw [off_ne hbf];exact un.free b ob q (by rw [ae hbf];exact n) hx
 ·rw [off_ne (ne q)];exact un.oQ b xs (by rw [ae (ne q)];exact q)
 ·rw [off_ne (ne q)];exact un.ll b ob v (by rw [ae (ne q)];exact q)
 ·rw [off_ne (ne q)];exact un.kC b x y (by rw [ae (ne q)];exact q)
end
open PySem PySem.Spec PySem.Calls PyProof.Rows
def zF (H:Hp) (f:Addr) (q:Str) (mk:Value->Value->Obj):Prop:=∃ c ctv oc u vs t,H f=some (.frz (mk (.ref c) ctv) (.own f))/\H c=some (.frz oc u)/\oc.data=.fields vs/\vs[1]?=some (.str q t)
def GR (q:Str) (mk:Value->Value->Obj):TE:=fun _ H Q=>∀ f H',H f=none->(∀ b o,H b=some o->H' b=some o)->zF H' f q mk->Q (.ref f) H'
section
variable {X:Cx} {pins:List (Addr×Obj)} {Z:St} {H:Hp} {s:Shared}
theorem Inv.tab (I:Inv X pins Z H s) {t:Addr×Addr×Str×Pos} (ht:t∈bX):H t.2.1=some (.tbl t.2.2.1 t.2.2.2):=I.base.kC _ _ _ (I.ok.tabs t ht)
theorem Inv.Ax (I:Inv X pins Z H s) {P:Addr} {ps:Array Value} (hP:s.heap.get? P=some { cls:=.none,data:=.fields ps }):s.heap.BuiltinsAt X.mg P:=by
 obtain ⟨bm,ob,b1,b2,b3,b4,b5,b6⟩:=I.mod.bmain;have b3':=I.bk _ _ b3;refine ⟨bm,ob,b1,b2,fun z=>?_,fun z=>?_,b3',b4,b5,b6⟩
 ·obtain ⟨o,es,ep,e,hd,_⟩:=I.mod.glob;rw [z,e] at b3;cases b3;rw [hd] at b6;cases b6
 ·rw [z,hP] at b3';cases b3';cases b6
theorem Inv.E1 (I:Inv X pins Z H s) {P:Addr} {ps:Array Value} (hP:s.heap.get? P=some { cls:=.none,data:=.fields ps }):mainGlobals≠P:=fun z=>by
 obtain ⟨o,es,ep,e,hd,_⟩:=I.mod.glob.keeps I.bk;rw [z,hP] at e;cases e;cases hd
end
theorem AL {X:Cx} {params:Arguments} {body:Expr} {scope:Scope} {clos:List (Str×Addr)} {t:Addr×Addr×Str×Pos} (ht:t∈bX) (hcode:X.env.code=.ref t.1) (hq:X.env.qual ++ "<lambda>" = t.2.2.1)
  (hdef:defaultsOf params X.env=([],[])) (hcl:closureFor scope X.env=pure clos) :
  PE X (.Lambda params body scope t.2.2.2) (GR t.2.2.1 fun cv ctv=>{ cls:=.type "function", data:=.func (PySem.W.kla_fn "<lambda>" t.2.2.1 params body scope clos ((X.mg "__name__").getD .none) cv ctv) }):=by
 obtain ⟨c,P,q0,pos⟩:=t;subst hq;intro pins s Z H Q I q;have hT:H P=some (.tbl _ pos):=I.tab ht;obtain ⟨ps,hP,tr,cd⟩:=I.hok _ _ hT;have nP:∀ b,H b=none->b≠P:=fun b n z=>by rw [z,hT] at n;cases n
 have C:=(I.ok.mod.hds _ ht).keeps I.bk;refine PySem.W.kla_eval hdef ?_;rcases cd with cd | ⟨c',oc,u,vs,tq,c1,c2,c3,c4⟩
 ·refine PySem.W.kla_makeFunction (mg:=X.mg) hcl I.ok.glob (I.mod.glob.keeps I.bk) hcode C hP tr cd (I.E1 hP) (I.Ax hP) fun c' ctv h' tk hx hge hlt hrec htb=>?_;obtain ⟨c₂,oc,vs,tq,e2,hoc,hd,hv⟩:=hrec;cases e2;have hnc:H c'=none:=I.hok.fresh hge
  have un:Un X.fs [] H (upd H c' (.frz oc (.own c'))) s.heap h':=⟨fun b o e n _ _=>hx b o (nP b n) e,fun b o e n _ _=>⟨o.slots,hx b o (nP b n) e⟩,
   fun b o e n _=>by rw [ae (Iz (Ir (Ij e) hge))];exact n,fun b o e _=>by
    by_cases hb:b=P
    ·exact ⟨_,by rw [hb];exact htb⟩
    ·exact ⟨o,hx b o hb e⟩,
   fun b xs e=>by rw [ae (af e hnc)];exact e,fun b o v e=>by rw [ae (af e hnc)];exact e,fun b x y e=>by rw [ae (af e hnc)];exact e⟩
  have hok1:HOk X.prog X.w (upd H c' (.frz oc (.own c'))) h':=fun a x e=>by
   by_cases ha:a=c'
   ·subst ha;rw [ai] at e;cases e;exact ⟨hoc,oc,hoc⟩
   ·rw [ae ha] at e;by_cases hb:a=P
    ·subst hb;rw [hT] at e;cases e;exact ⟨_,htb,by rw [Array.toList_append];exact TriplesOk_snoc _ _ _ _ tr,.inr ⟨c',oc,.own c',vs,tq,by rw [Array.toList_append];exact codeAmong_snoc _ tr cd,ai,hd,hv⟩⟩
    ·refine (I.hok a x e).jg (fun b v hb' r=>hx b v (fun z=>?_) r) (fun b r=>by rw [ae (af r hnc)];exact r) (fun b xs r=>by rw [ae (af r hnc)];exact r) fun b o v vs r _=>by rw [ae (af r hnc)];exact r
     rcases hb' with z2 | z2
     ·exact hb (z2.symm.trans z)
     ·rw [z,hT] at z2;cases z2
  have I1:=I.un (t':=tk) un hok1;generalize hO:(PySem.W.kla_obj "<lambda>" (X.env.qual ++ "<lambda>") params body scope clos ((X.mg "__name__").getD .none) c' ctv)=O;have hn:upd H c' (.frz oc (.own c')) h'.objs.size=none:=hok1.fresh (Il _);have hn0:H h'.objs.size=none:=by rw [ae (Ju hlt)] at hn;exact hn
  have hpush:(h'.push O).get? h'.objs.size=some O:=Im _ (by rw [<- hO];rfl);have I2:=I1.laid (h':=h'.push O) (t':=tk) (o:=.frz O (.own h'.objs.size)) (fun b o e=>Ia _ e) (Il _) ⟨hpush,O,hpush⟩;refine ⟨.ref h'.objs.size,_,I2,rfl,q _ _ hn0 (fun b o e=>?_) ⟨c',ctv,oc,.own c',vs,tq,by rw [<- hO];exact ai,?_,hd,hv⟩⟩
  ·rw [ae (af e hn0),ae (af e hnc)];exact e
  ·rw [ae (Iz hlt)];exact ai
 ·refine PySem.W.kla_makeFunctionHit (mg:=X.mg) hcl I.ok.glob (I.mod.glob.keeps I.bk) hcode C hP tr c1 (I.Ax hP) fun ctv h' tk hk hsz=>?_;generalize hO:({ cls:=.type "function", data:=.func (PySem.W.kla_fn "<lambda>" (X.env.qual ++ "<lambda>") params body scope clos ((X.mg "__name__").getD .none) (.ref c') ctv) }:Obj)=O;have k2:∀ b o,s.heap.get? b=some o->(h'.push O).get? b=some o:=fun b o e=>Ia _ (hk b o e);have hf:s.heap.objs.size<=h'.objs.size:=hsz;have hn:H h'.objs.size=none:=I.hok.fresh hf;have hpush:(h'.push O).get? h'.objs.size=some O:=Im _ (by rw [<- hO];rfl);refine ⟨.ref h'.objs.size,upd H h'.objs.size (.frz O (.own h'.objs.size)),?_,rfl,q _ _ hn (fun b o e=>by rw [ae (af e hn)];exact e) ⟨c',ctv,oc,u,vs,tq,by rw [ai];exact congrArg (fun z=>some (HO.frz z (HO.own h'.objs.size))) hO.symm,by rw [ae (af c2 hn)];exact c2,c3,c4⟩⟩;exact I.laid k2 hf ⟨hpush,O,hpush⟩
open PySem PySem.Spec PySem.Calls PyProof.Rows
noncomputable def cxL (CX:CXT) (P:Program) (w:World) (K:Fg) (mg:Str->Option Value) (base:Heap) (N:List Str) (qual:Str) (scope:Scope) (f:Addr) (cd:Value) (cl:List (Str×Addr)) (A:Around) (outer:List Env) (s:Shared) (H H0:Hp) (E:XK):Cx where
 prog:=P
 w:=w
 K:=K
 mg:=mg
 base:=base
 A:=A.deeper (PySem.W.envX qual scope s.heap.objs.size f cd cl)
 N:=N
 ZO:=s
 ZM:=H
 env:=PySem.W.envX qual scope s.heap.objs.size f cd cl
 outer:=outer
 stack:=PySem.W.envX qual scope s.heap.objs.size f cd cl :: outer
 ex:=[]
 calm:=true
 fn:=fun _=>false
 pn:=[]
 xe:=fun e s'=>wpAny (model P w) (A.deeper (PySem.W.envX qual scope s.heap.objs.size f cd cl)) (leaving (PySem.W.envX qual scope s.heap.objs.size f cd cl) e) (fun _ s''=>CX outer H0 s E e s'') (fun e' s''=>CX outer H0 s E e' s'') s'
structure g8 (ps:List Str) (g:Str) (scope:Scope):Prop where
 kind:scope.kind=.function
 co:scope.isCoroutine=false
 gen:scope.isGenerator=false
 cell:∀ x∈scope.names,x.2≠.cell
 par:∀ y∈ps,scope.names.lookup y=some .local
 cap:scope.names.lookup g=some .free
 one:∀ y,scope.names.lookup y=some .free->y=g
 lk:∀ (us:List Value) (i:Nat) (y:Str) (u:Value),us.length=ps.length->ps[i]?=some y->us[i]?=some u->(ps.zip us).reverse.lookup y=some u
theorem t9.less {P:Program} {w:World} {K:Fg} {mg:Str->Option Value} {base:Heap} {A:Around} {outer:List Env} {s:Shared} {H:Hp} {c:Addr} {o:Obj} {u:HO} (e0:t9 P w K mg base A outer s H) (hc:H c=some (.frz o u)) (hd:∀ vs,o.data≠.fields vs):t9 P w K mg base A outer s (off H c):=by
 have z:∀ b,H b=none->off H c b=none:=fun b n=>by
  by_cases h:b=c
  ·rw [h];exact jG
  ·rw [off_ne h];exact n
 refine ⟨e0.frames,e0.mod,fun b o e=>⟨(e0.bs b o e).1,z b (e0.bs b o e).2⟩,e0.bsz,e0.mT,fun b hb=>z b (e0.frf b hb),fun t ht=>?_,e0.hok.drop hc hd,e0.bare⟩;have q2:=e0.tabs t ht;rw [off_ne fun q=>by rw [q,hc] at q2;cases q2];exact q2
theorem yK {CX:CXT} {P:Program} {w:World} {K:Fg} {mg:Str->Option Value} {base:Heap} {ps:List Str} {g qual:Str} {scope:Scope} {f c:Addr} {cd:Value} {A:Around} {outer:List Env} {s:Shared} {H H0:Hp} {E:XK} {us:List Value} {vs:List V} {wv:V} {uv:Value} {h1:Heap} {tk:Nat} {oc:Obj}
  (S:g8 ps g scope) (hd:A.handled=none) (e0:t9 P w K mg base A outer s H) (hl:vs.length=ps.length) (r:Vals vs us) (hc0:H c=none) (hc:s.heap.get? c=some oc) (hcd:oc.data=.cell (some uv)) (rw:RelV wv uv)
  (hns:h1.Ns s.heap.objs.size fun x=>(ps.zip us).reverse.lookup x) (hk:∀ b o,s.heap.get? b=some o->h1.get? b=some o) :
  Inv (cxL CX P w K mg base (ps++[g]) qual scope f cd [(g,c)] A outer s H H0 E) [] (vs.map some++[some wv]) H { s with heap:=h1,toks:=tk }:=by
 have cl1:∀ x b,([(g,c)]:List (Str×Addr)).lookup x=some b->x=g/\b=c:=fun x b e=>by
  by_cases hx:x=g
  ·subst hx;simp at e;exact ⟨rfl,e.symm⟩
  ·have:(x==g)=false:=beq_false_of_ne hx;simp [List.lookup,this] at e
 have clt:=Ij hc
 refine ⟨⟨e0.mod,S.kind,rfl,rfl,Il _,fun y z b h1 h2=>(cl1 y b h1).1.trans (cl1 z b h2).1.symm,fun y hy=>?_,fun y b q _=>(by cases q),fun _=>hd,Around.frames_deeper e0.frames,.inr ⟨rfl,rfl⟩,fun b z=>absurd (show b∈([]:List Addr) from z) (by simp),e0.bs,e0.bsz,fun b _ _ z=>absurd (show b∈([]:List Addr) from z) (by simp),fun b z=>absurd (show b∈([]:List Addr) from z) (by simp),e0.mT,e0.frf,e0.tabs⟩,
  rfl,e0.bare,Un.kept hk,⟨_,hns,fun i y v h1 h2 h3=>?_⟩,fun y b e=>?_,e0.hok.fresh (Il _),fun y b e=>?_,fun p hp=>absurd (show p∈([]:List (Addr×Obj)) from hp) (by simp),e0.hok.kept hk,?_⟩
 ·have hy:scope.names.lookup y=some .cell\/scope.names.lookup y=some .free:=hy;rcases hy with hy | hy
  ·exact absurd rfl (S.cell _ (Jr hy))
  ·exact ⟨c,by rw [S.one y hy];simp [PySem.W.envX,cxL]⟩
 ·have h1:(ps++[g])[i]?=some y:=h1;by_cases hi:i < ps.length
  ·rw [IZ hi] at h1;rw [IZ (by simpa [hl] using hi),Ik] at h2;obtain ⟨a,ha,e⟩:=IK.mp h2;cases e;obtain ⟨u,hu,rv⟩:=r.get ha;exact ⟨u,rv,.inl ⟨S.par y (IF h1),S.lk us i y u (by rw [<- r.length,hl]) h1 hu⟩⟩
  ·have hi2:i=ps.length:=by
    have:i < (ps++[g]).length:=(Ih.mp h1).1;rw [Io,JM] at this;omega
   subst hi2;rw [Iu (Il _),Nat.sub_self] at h1;rw [Iu (by simp [hl]),Ic,hl,Nat.sub_self] at h2;cases h1;cases h2;exact ⟨uv,rw,.inr ⟨.inr S.cap,c,by simp [PySem.W.envX,cxL],oc,hk _ _ hc,hcd⟩⟩
 ·obtain ⟨rfl,rfl⟩:=cl1 y b e;exact ⟨_,oc,hk _ _ hc,hcd⟩
 ·obtain ⟨rfl,rfl⟩:=cl1 y b e;exact hc0
 ·show (vs.map some++[some wv]).length=(ps++[g]).length;rw [Io,Io,Ic,hl];rfl
theorem yY {CX:CXT} {P:Program} {w:World} {K:Fg} {mg:Str->Option Value} {base:Heap} {k:Nat} {ps:List Str} {g qual name:Str} {params:Arguments} {body:Expr} {scope:Scope} {f c c':Addr} {pm ctv:Value} {A:Around} {outer:List Env} {s:Shared} {H:Hp} {Q:VK} {E:XK} {us:List Value} {vs:List V} {wv:V} {uv:Value} {oc od:Obj} {u2:HO} {cs:Array Value} {tq:Tok} {t:TE}
  (S:g8 ps g scope) (hr:cZ (k+1) A) (e0:t9 P w K mg base A outer s H) (hl:vs.length=ps.length) (r:Vals vs us)
  (hf:H f=some (.frz { cls:=.type "function", data:=.func (PySem.W.kla_fn name qual params body scope [(g,c)] pm (.ref c') ctv) } (.own f))) (h2:H c'=some (.frz od u2)) (h3:od.data=.fields cs) (h4:cs[1]?=some (.str qual tq))
  (hc:H c=some (.frz oc (.own c))) (hcd:oc.data=.cell (some uv)) (rw':RelV wv uv)
  (hb:bindArgs (PySem.W.kla_fn name qual params body scope [(g,c)] pm (.ref c') ctv) ⟨us,[]⟩=pure (ps.zip us))
  (gJ:PE (cxL CX P w K mg base (ps++[g]) qual scope f (.ref c') [(g,c)] A outer s (off H c) H E) body t)
  (ht:t (vs.map some++[some wv]) (off H c) fun v H'=>Q v (upd H' c (.frz oc (.own c)))) :
  codeAny (model P w) A (.call (.ref f) ⟨us,[]⟩) (CR CX outer P w H s Q E) s:=by
 have ndat:∀ vs,oc.data≠.fields vs:=fun vs z=>by rw [hcd] at z;cases z
 have e1:=e0.less hc ndat;have gf:=(e0.hok f _ hf).1;have gc:=(e0.hok c _ hc).1;have gd:=(e0.hok c' _ h2).1;have lim:s.heap.NoLimit:=e0.mod.nolimit.keeps fun b o e=>(e0.bs b o e).1;refine PySem.W.kla_callFunE hr.depth gf rfl S.co S.gen rfl ⟨c',od,cs,tq,rfl,gd,h3,h4⟩ ?_;rw [hb];refine Ib (wpAny_newFunctionEnv S.cell (fun y hy=>S.par _ (Kx hy).1) (fun h₁ hns hsb=>⟨lim.fresh _ hsb,?_⟩) S.kind);have hk₁:∀ b o,s.heap.get? b=some o->h₁.get? b=some o:=fun b o e=>hsb.extBut b o (Iz (Ij e)) (Ia _ e);have I:=yK (CX:=CX) (H0:=H) (E:=E) (f:=f) (qual:=qual) (cd:=.ref c') (tk:=s.toks+(ps.zip us).length) S hr.hd e1 hl r jG gc hcd rw' hns hk₁;refine PySem.W.kla_codeExpr (Jd (gJ [] _ _ _ _ I ht) (fun u s' hq=>?_) fun _ _ y=>y);obtain ⟨v,H',J,rv,q⟩:=hq;have U:Un (frs outer) [] (off H c) H' s.heap s'.heap:=J.base;have hcn:H' c=none:=U.free c oc gc jG (by simp);have hcg:s'.heap.get? c=some oc:=U.keep c oc gc jG (fun z=>by rw [e0.frf c z] at hc;cases hc) (by simp);have ne:∀ {b:Addr},H b=none->b≠c:=fun n z=>by rw [z,hc] at n;cases n
 refine ⟨v,upd H' c (.frz oc (.own c)),J.os,J.bare,⟨fun b o e n hb hx=>U.keep b o e (by rw [off_ne (ne n)];exact n) hb hx,fun b o e n hb hx=>U.slot b o e (by rw [off_ne (ne n)];exact n) hb hx,fun b o e n hx=>by rw [ae (ne n)];exact U.free b o e (by rw [off_ne (ne n)];exact n) hx,fun b o e hx=>U.there b o e hx,fun b xs e=>?_,fun b o v e=>?_,fun b x y e=>?_⟩,J.hok.hold hcn hcg,rv,q⟩
 ·have hb:b≠c:=fun z=>by rw [z,hc] at e;cases e
  rw [ae hb];exact U.oQ b xs (by rw [off_ne hb];exact e)
 ·by_cases hb:b=c
  ·subst hb;rw [ai];rw [hc] at e;exact e
  ·rw [ae hb];exact U.ll b o v (by rw [off_ne hb];exact e)
 ·have hb:b≠c:=fun z=>by rw [z,hc] at e;cases e
  rw [ae hb];exact U.kC b x y (by rw [off_ne hb];exact e)
open PySem PySem.Spec PySem.Calls PyProof.Rows
structure we where
 name:Str
 qual:Str
 params:Arguments
 body:Expr
 scope:Scope
 ps:List Str
 g:Str
abbrev we.obj (L:we) (c c':Addr) (pm ctv:Value):Obj:={ cls:=.type "function", data:=.func (PySem.W.kla_fn L.name L.qual L.params L.body L.scope [(L.g,c)] pm (.ref c') ctv) }
def fH (L:we) (H:Hp) (f c:Addr) (oc:Obj) (wv:V):Prop:=∃ c' pm ctv od u2 cs tq uv,H f=some (.frz (L.obj c c' pm ctv) (.own f))/\H c'=some (.frz od u2)/\od.data=.fields cs/\cs[1]?=some (.str L.qual tq)/\H c=some (.frz oc (.own c))/\oc.data=.cell (some uv)/\RelV wv uv
theorem fH.fn {L:we} {P:Program} {w:World} {H:Hp} {h:Heap} {f c:Addr} {oc:Obj} {wv:V} (x:fH L H f c oc wv) (ok:HOk P w H h):PySem.W.FnAt f h:=by
 obtain ⟨c',pm,ctv,od,u2,cs,tq,uv,h1,_⟩:=x;exact ⟨_,_,_,_,(ok f _ h1).1⟩
open PySem PySem.Spec PySem.Calls PyProof.Rows
section
variable {X:Cx} {CX:CXT} {k:Nat} {f c:Addr} {fd:FuncData} {ps:List Str} {sp:Sp} {E:XK} {g:Str} {wv:V} {oc:Obj}
theorem Inv.FA {pins:List (Addr×Obj)} {Z:St} {H:Hp} {s:Shared} (I:Inv X pins Z H s) (hc:X.env.cells.lookup g=some c) (hfn:X.fn g=true) (ho:s.heap.get? c=some oc) :
  t9 X.prog X.w X.K X.mg X.base X.A X.stack s (upd H c (.frz oc (.own c))):=by
 have hn:=I.et g c hc;have ge:=I.ok.cab g c hfn hc;have e0:=I.zD;have lt:∀ b o,X.ZO.heap.get? b=some o->b≠c:=fun b o e=>Iz (Ir (Ij e) ge);refine ⟨e0.frames,e0.mod,fun b o e=>⟨(e0.bs b o e).1,by rw [ae (lt b o (I.ok.bs b o e).1)];exact (e0.bs b o e).2⟩,e0.bsz,e0.mT,fun b hb=>?_,fun t ht=>?_,I.hok.hold hn ho,e0.bare⟩
 ·rw [ae fun z=>?_];exact e0.frf b hb;rcases Iq.mp (I.lF b hb) with q | q
  ·exact I.cne g c hc (z.symm.trans q)
  ·obtain ⟨o,e,_⟩:=(I.ok.mT.mem q).2;exact lt b o e z
 ·have q:=e0.tabs t ht;rw [ae (af q hn)];exact q
theorem yg {pins:List (Addr×Obj)} {Z:St} {H:Hp} {s:Shared} {Q:VK} {us:List Value} {vs:List V} {uv:Value} (F:bK X.prog X.w X.K X.mg X.base CX k f fd ps sp) (hr:cZ k X.A) (hb:Binds X.K fd ps []) (hx:Passes CX X E)
  (I:Inv X pins Z H s) (r:Vals vs us) (hc:X.env.cells.lookup g=some c) (hfn:X.fn g=true) (ho:s.heap.get? c=some oc) (hod:oc.data=.cell (some uv))
  (hxc:∀ e s',CX X.stack (upd H c (.frz oc (.own c))) s E e s'->CX X.stack H s E e s')
  (h:sp vs (upd H c (.frz oc (.own c))) (fun v H'=>Q v (off H' c)) E):wpAny (model X.prog X.w) X.A (call (.ref f) us) (EP X pins Z Q) X.xe s:=by
 have hn:=I.et g c hc;have hl:us.length=ps.length:=by rw [<- r.length];exact F.len _ _ _ _ h
 have bd:=hb s us I.kIn (by rw [Jy];exact hl);rw [Jy] at bd;refine wpAny_call (Kz (F.run X.A X.stack s _ ⟨us,[]⟩ us vs _ E hr (I.FA hc hfn ho) bd r h) fun r s' hq=>?_);cases r with
 | error e=>exact hx pins Z H s e s' I (hxc e s' hq)
 | ok fl =>
  cases fl with
  | ret u =>
   obtain ⟨v,H',os,bare,un,hok,rv,q⟩:=hq;exact I.after ⟨v,off H' c,os,bare,un.held hn ho hok,hok.drop (un.ll c oc _ ai) (fun vs z=>by rw [hod] at z;cases z),rv,q⟩
  | next=>exact False.elim hq
  | brk=>exact False.elim hq
  | cont=>exact False.elim hq
def Bc (L:we) (j i1 i2 i4 i5:Nat) (v3:V) (sp:Sp) (E:XK):TE:=fun Z H Q=>∃ v1 v2 v4 v5 wv,Z[i1]?=some (some v1)/\Z[i2]?=some (some v2)/\Z[i4]?=some (some v4)/\Z[i5]?=some (some v5)/\Z[j]?=some (some wv)/\∀ f c oc H4,H f=none->H c=none->(∀ b o,H b=some o->H4 b=some o)->fH L H4 f c oc wv->sp [v1,v2,v3,v4,v5,.ref f] H4 (fun v H'=>Q v (off H' c)) E
theorem vG {L:we} {j i1 i2 i4 i5:Nat} {v3:V} {x:Str} {p pos:Pos} {e:Expr} {es:List Expr} {pm:Value} (F:bK X.prog X.w X.K X.mg X.base CX k f fd ps sp) (hr:cZ k X.A) (hg:Gl X x) (hm:X.mg x=some (.ref f)) (hk:PySem.W.keepIn X.K (.ref f)=true) (hb:Binds X.K fd ps []) (hx:Passes CX X E)
  (hxc:∀ H s oc e s',CX X.stack (upd H c (.frz oc (.own c))) s E e s'->CX X.stack H s E e s')
  (ha:PA X (e :: es) (aa (aj i1) (aa (aj i2) (aa (tC v3) (aa (aj i4) (aa (aj i5) (aa (GR L.qual fun cv ctv=>{ cls:=.type "function", data:=.func (PySem.W.kla_fn L.name L.qual L.params L.body L.scope [(L.g,c)] pm cv ctv) }) aP)))))))
  (hc:X.env.cells.lookup L.g=some c) (hfn:X.fn L.g=true) (hN:X.N[j]?=some L.g) (hcl:X.env.scope.names.lookup L.g=some .cell)
  (hdb:(x==("__debug__" : Str))=false:=by decide) (he:starEach (e :: es) X.env=(false,eval e X.env) :: starEach es X.env:=by rfl) (hpl:(backTo pos (starEach es X.env)).any (·.1)=false:=by rfl) :
  PE X (.Call (.Name x p) (e :: es) [] pos) (Bc L j i1 i2 i4 i5 v3 sp E):=by
 intro pins s Z H Q I h;obtain ⟨v1,v2,v4,v5,wv,s1,s2,s4,s5,sj,h⟩:=h;refine KG (mD I hg hm ?_ hdb)
 refine PySem.W.callWith_K (h₀:=X.base) I.ok.mod.kin hk (thn (ha pos pins s Z H (fun vs H1=>∃ fa,vs=[v1,v2,v3,v4,v5,.ref fa]/\H fa=none/\(∀ b o,H b=some o->H1 b=some o)/\zF H1 fa L.qual fun cv ctv=>{ cls:=.type "function", data:=.func (PySem.W.kla_fn L.name L.qual L.params L.body L.scope [(L.g,c)] pm cv ctv) }) I
  ⟨v1,s1,v2,s2,v4,s4,v5,s5,fun fa H' hn hx hl=>⟨fa,rfl,hn,hx,hl⟩⟩) fun us s1 hq=>?_) he hpl
 obtain ⟨vs,H1,I1,r,fa,rfl,hn,hext,c',ctv,od,u2,cs,tq,a1,a2,a3,a4⟩:=hq;refine ⟨I1.kIn,?_⟩;obtain ⟨m,_,hl⟩:=I1.loc;obtain ⟨uv,rv,lk⟩:=hl j L.g wv hN sj (.inr (.inl hcl));have hcn:=I1.et L.g c hc;rcases lk with ⟨q,_⟩ | ⟨_,c2,e2,oc,ho,hod⟩
 ·have q:X.env.scope.names.lookup L.g=some .local:=q;rw [hcl] at q;cases q
 ·rw [hc] at e2;cases e2;refine yg F hr hb hx I1 r hc hfn ho hod (hxc H1 _ oc) (h fa c oc _ hn (I.et L.g c hc) (fun b o q=>?_) ⟨c',pm,ctv,od,u2,cs,tq,uv,?_,?_,a3,a4,ai,hod,rv⟩)
  ·rw [ae (af (hext b o q) hcn)];exact hext b o q
  ·rw [ae (af a1 hcn)];exact a1
  ·rw [ae (af a2 hcn)];exact a2
end
open PySem
def HA (K:Fg) (a:Addr) (xs:List V):Prop:=∃ (o:Obj) (its:Array Value) (n:Nat),K.lookup a=some o/\o.cls=.type "list" /\ o.dict=none/\o.data=.seq its n/\its.size<=sizeLine/\Vals xs its.toList
def LsF (K:Fg) (F:Addr->Prop) (H:Hp) (a:Addr) (xs:List V):Prop:=(¬F a/\Rd H a (.lst xs))\/HA K a xs
mutual
def Dm (K:Fg) (F:Addr->Prop) (H:Hp):PyData->V->Prop
 | .none,v=>v=.non
 | .bool b,v=>v=.bl b
 | .int i,v=>v=.int i
 | .str x,v=>v=.str x/\x.length<=sizeLine/\PyData.strOk x=true
 | .list ds,v=>∃ a xs,v=.ref a/\LsF K F H a xs/\xs.length<=sizeLine/\DmL K F H ds xs
 | .tuple ds,v=>∃ a xs,v=.ref a/\SqT K H a xs/\xs.length<=sizeLine/\DmL K F H ds xs
 | .dict kvs,v=>∃ a ep xs,v=.ref a/\¬F a/\H a=some (.dD ep xs)/\xs.length<=sizeLine/\DmP K F H kvs xs
def DmL (K:Fg) (F:Addr->Prop) (H:Hp):List PyData->List V->Prop
 | [],vs=>vs=[]
 | d :: ds,vs=>∃ v r,vs=v :: r/\Dm K F H d v/\DmL K F H ds r
def DmP (K:Fg) (F:Addr->Prop) (H:Hp):List (PyData×PyData)->List (PyData×V×V)->Prop
 | [],vs=>vs=[]
 | (k,d) :: ds,vs=>∃ j v r,vs=(k,j,v) :: r/\hk6 k=true/\Dm K F H k j/\Dm K F H d v/\DmP K F H ds r
end
noncomputable def Wr:HO->Bool | .lst _=>true | .dD _ _=>true | _=>false
def Pr (F:Addr->Prop) (H H':Hp):Prop:=∀ b o,H b=some o->(¬F b\/Wr o=false)->H' b=some o
section
variable {K:PySem.W.Frag} {F F':Addr->Prop} {H H':Hp}
theorem SqT.pr {a:Addr} {xs:List V} (p:Pr F H H') (h:SqT K H a xs):SqT K H' a xs:=by
 rcases h with (h | ⟨o,h⟩) | h
 ·exact .inl (.inl (p _ _ h (.inr rfl)))
 ·exact .inl (.inr ⟨o,p _ _ h (.inr rfl)⟩)
 ·exact .inr h
theorem LsF.pr {a:Addr} {xs:List V} (p:Pr F H H') (hf:∀ b,F' b->F b) (h:LsF K F H a xs):LsF K F' H' a xs:=by
 rcases h with ⟨n,h | ⟨o,h⟩⟩ | h
 ·exact .inl ⟨fun z=>n (hf _ z),.inl (p _ _ h (.inl n))⟩
 ·exact .inl ⟨fun z=>n (hf _ z),.inr ⟨o,p _ _ h (.inl n)⟩⟩
 ·exact .inr h
mutual
theorem Dm.pr (p:Pr F H H') (hf:∀ b,F' b->F b):∀ {d:PyData} {v:V},Dm K F H d v->Dm K F' H' d v
 | .none,v,h=>h
 | .bool b,v,h=>h
 | .int i,v,h=>h
 | .str x,v,h=>h
 | .list ds,v,h=>by
  obtain ⟨a,xs,e,l,z,r⟩:=h;exact ⟨a,xs,e,l.pr p hf,z,DmL.pr p hf r⟩
 | .tuple ds,v,h=>by
  obtain ⟨a,xs,e,l,z,r⟩:=h;exact ⟨a,xs,e,l.pr p,z,DmL.pr p hf r⟩
 | .dict kvs,v,h=>by
  obtain ⟨a,ep,xs,e,n,l,z,r⟩:=h;exact ⟨a,ep,xs,e,fun q=>n (hf _ q),p _ _ l (.inl n),z,DmP.pr p hf r⟩
theorem DmL.pr (p:Pr F H H') (hf:∀ b,F' b->F b):∀ {ds:List PyData} {vs:List V},DmL K F H ds vs->DmL K F' H' ds vs
 | [],vs,h=>h
 | d :: ds,vs,h=>by
  obtain ⟨v,r,e,h1,h2⟩:=h;exact ⟨v,r,e,Dm.pr p hf h1,DmL.pr p hf h2⟩
theorem DmP.pr (p:Pr F H H') (hf:∀ b,F' b->F b):∀ {ds:List (PyData×PyData)} {vs:List (PyData×V×V)},DmP K F H ds vs->DmP K F' H' ds vs
 | [],vs,h=>h
 | (k,d) :: ds,vs,h=>by
  obtain ⟨j,v,r,e,e2,h0,h1,h2⟩:=h;exact ⟨j,v,r,e,e2,Dm.pr p hf h0,Dm.pr p hf h1,DmP.pr p hf h2⟩
end
theorem LsF.fresh {a c:Addr} {xs:List V} (hc:H c=none) (h:LsF K F H a xs):LsF K (fun b=>F b\/b=c) H a xs:=by
 rcases h with ⟨n,h⟩ | h
 ·refine .inl ⟨fun z=>z.elim n fun e=>?_,h⟩;subst e;rcases h with h | ⟨o,h⟩ <;> (rw [hc] at h;cases h)
 ·exact .inr h
mutual
theorem Dm.fresh {c:Addr} (hc:H c=none):∀ {d:PyData} {v:V},Dm K F H d v->Dm K (fun b=>F b\/b=c) H d v
 | .none,v,h=>h
 | .bool b,v,h=>h
 | .int i,v,h=>h
 | .str x,v,h=>h
 | .list ds,v,h=>by
  obtain ⟨a,xs,e,l,z,r⟩:=h;exact ⟨a,xs,e,l.fresh hc,z,DmL.fresh hc r⟩
 | .tuple ds,v,h=>by
  obtain ⟨a,xs,e,l,z,r⟩:=h;exact ⟨a,xs,e,l,z,DmL.fresh hc r⟩
 | .dict kvs,v,h=>by
  obtain ⟨a,ep,xs,e,n,l,z,r⟩:=h;exact ⟨a,ep,xs,e,fun q=>q.elim n fun q=>(by subst q;rw [hc] at l;cases l),l,z,DmP.fresh hc r⟩
theorem DmL.fresh {c:Addr} (hc:H c=none):∀ {ds:List PyData} {vs:List V},DmL K F H ds vs->DmL K (fun b=>F b\/b=c) H ds vs
 | [],vs,h=>h
 | d :: ds,vs,h=>by
  obtain ⟨v,r,e,h1,h2⟩:=h;exact ⟨v,r,e,Dm.fresh hc h1,DmL.fresh hc h2⟩
theorem DmP.fresh {c:Addr} (hc:H c=none):∀ {ds:List (PyData×PyData)} {vs:List (PyData×V×V)},DmP K F H ds vs->DmP K (fun b=>F b\/b=c) H ds vs
 | [],vs,h=>h
 | (k,d) :: ds,vs,h=>by
  obtain ⟨j,v,r,e,e2,h0,h1,h2⟩:=h;exact ⟨j,v,r,e,e2,Dm.fresh hc h0,Dm.fresh hc h1,DmP.fresh hc h2⟩
end
theorem Pr.refl:Pr F H H:=fun _ _ h _=>h
theorem Pr.trans {H1 H2:Hp} (a:Pr F H H1) (b:Pr F' H1 H2) (hf:∀ b,F' b->F b):Pr F H H2:=fun c o h n=>b c o (a c o h n) (n.imp (fun z q=>z (hf _ q)) id)
theorem Pr.of_same (a:aA H H'):Pr F H H':=fun c o h _=>a c o h
theorem Dm.mono (hf:∀ b,F' b->F b) {d:PyData} {v:V} (h:Dm K F H d v):Dm K F' H d v:=h.pr Pr.refl hf
theorem DmL.mono (hf:∀ b,F' b->F b) {d:List PyData} {v:List V} (h:DmL K F H d v):DmL K F' H d v:=h.pr Pr.refl hf
theorem DmL.len:∀ {ds:List PyData} {vs:List V},DmL K F H ds vs->vs.length=ds.length
 | [],vs,h=>by rw [show vs=[] from h];rfl
 | d :: ds,vs,h=>by
  obtain ⟨v,r,e,h1,h2⟩:=h;rw [e,IH,IH,DmL.len h2]
theorem DmL.get:∀ {ds:List PyData} {vs:List V} {i:Nat} {d:PyData},DmL K F H ds vs->ds[i]?=some d->∃ v,vs[i]?=some v/\Dm K F H d v
 | [],vs,_,_,h,e=>by simp at e
 | d :: ds,vs,0,d',h,e=>by
  obtain ⟨v,r,e1,h1,h2⟩:=h;simp at e;subst e;subst e1;exact ⟨v,rfl,h1⟩
 | d :: ds,vs,i+1,d',h,e=>by
  obtain ⟨v,r,e1,h1,h2⟩:=h;subst e1;obtain ⟨w,q1,q2⟩:=DmL.get (i:=i) h2 (by simpa using e);exact ⟨w,by simpa using q1,q2⟩
theorem DmL.get' {ds:List PyData} {vs:List V} {i:Nat} {v:V} (h:DmL K F H ds vs) (e:vs[i]?=some v):∃ d,ds[i]?=some d/\Dm K F H d v:=by
 have hl:=h.len;have hi:i < vs.length:=(Ih.mp e).1;have hd:ds[i]?=some (ds[i]'(by omega)):=Ie _;obtain ⟨w,e2,q⟩:=h.get hd;rw [e] at e2;cases e2;exact ⟨_,hd,q⟩
theorem DmL.app:∀ {ds es:List PyData} {vs ws:List V},DmL K F H ds vs->DmL K F H es ws->DmL K F H (ds++es) (vs++ws)
 | [],es,vs,ws,h,q=>by rw [show vs=[] from h];exact q
 | d :: ds,es,vs,ws,h,q=>by
  obtain ⟨v,r,e,h1,h2⟩:=h;subst e;exact ⟨v,r++ws,rfl,h1,DmL.app h2 q⟩
theorem DmL.snoc {ds:List PyData} {vs:List V} {d:PyData} {v:V} (h:DmL K F H ds vs) (q:Dm K F H d v):DmL K F H (ds++[d]) (vs++[v]):=h.app ⟨v,[],rfl,q,rfl⟩
def Top (K:PySem.W.Frag) (F:Addr->Prop) (H:Hp):PyData->Addr->Prop
 | .list ds,a=>∃ xs,H a=some (.lst xs)/\xs.length<=sizeLine/\DmL K F H ds xs
 | .dict kvs,a=>∃ ep xs,H a=some (.dD ep xs)/\xs.length<=sizeLine/\DmP K F H kvs xs
 | _,_=>False
def zi (K:PySem.W.Frag) (F:Addr->Prop) (H:Hp):PyData->Addr->Prop
 | .list ds,a=>∃ xs,SqL K H a xs/\xs.length<=sizeLine/\DmL K F H ds xs
 | .dict kvs,a=>∃ ep xs,H a=some (.dD ep xs)/\xs.length<=sizeLine/\DmP K F H kvs xs
 | _,_=>False
def Vw (K:PySem.W.Frag) (F:Addr->Prop) (H:Hp):PyData->V->Prop
 | .list ds,v=>∃ a,v=.ref a/\zi K F H (.list ds) a
 | .dict ds,v=>∃ a,v=.ref a/\zi K F H (.dict ds) a
 | d,v=>Dm K F H d v
theorem Top.r {d:PyData} {a:Addr} (h:Top K F H d a):zi K F H d a:=by
 cases d with
 | list ds=>obtain ⟨xs,e,z,r⟩:=h;exact ⟨xs,.inl (.inl e),z,r⟩
 | dict ds=>exact h
 | _=>exact h
theorem zi.vw {d:PyData} {a:Addr} (h:zi K F H d a):Vw K F H d (.ref a):=by
 cases d with
 | list ds=>exact ⟨a,rfl,h⟩
 | dict ds=>exact ⟨a,rfl,h⟩
 | _=>exact absurd h id
theorem Dm.vw {d:PyData} {v:V} (h:Dm K F H d v):Vw K F H d v:=by
 cases d with
 | list ds =>
  obtain ⟨a,xs,e,l,z,r⟩:=h;refine ⟨a,e,xs,?_,z,r⟩;rcases l with ⟨n,l⟩ | l
  ·exact .inl l
  ·exact .inr l
 | dict ds=>obtain ⟨a,ep,xs,e,n,l,z,r⟩:=h;exact ⟨a,e,ep,xs,l,z,r⟩
 | _=>exact h
theorem Top.dm {d:PyData} {a:Addr} (h:Top K F H d a) (n:¬F a):Dm K F H d (.ref a):=by
 cases d with
 | list ds=>obtain ⟨xs,e,z,r⟩:=h;exact ⟨a,xs,rfl,.inl ⟨n,.inl e⟩,z,r⟩
 | dict ds=>obtain ⟨ep,xs,e,z,r⟩:=h;exact ⟨a,ep,xs,rfl,n,e,z,r⟩
 | _=>exact absurd h id
theorem Top.wr {d:PyData} {a:Addr} (h:Top K F H d a):∃ o,H a=some o/\Wr o=true:=by
 cases d with
 | list ds=>obtain ⟨xs,e,_⟩:=h;exact ⟨_,e,rfl⟩
 | dict ds=>obtain ⟨ep,xs,e,_⟩:=h;exact ⟨_,e,rfl⟩
 | _=>exact absurd h id
theorem Top.pr {d:PyData} {a:Addr} (h:Top K F H d a) (p:Pr F H H') (hf:∀ b,F' b->F b) (ha:∀ o,H a=some o->H' a=some o):Top K F' H' d a:=by
 cases d with
 | list ds=>obtain ⟨xs,e,z,r⟩:=h;exact ⟨xs,ha _ e,z,r.pr p hf⟩
 | dict ds=>obtain ⟨ep,xs,e,z,r⟩:=h;exact ⟨ep,xs,ha _ e,z,r.pr p hf⟩
 | _=>exact absurd h id
theorem Top.fresh {d:PyData} {a c:Addr} (hc:H c=none) (h:Top K F H d a):Top K (fun b=>F b\/b=c) H d a:=by
 cases d with
 | list ds=>obtain ⟨xs,e,z,r⟩:=h;exact ⟨xs,e,z,r.fresh hc⟩
 | dict ds=>obtain ⟨ep,xs,e,z,r⟩:=h;exact ⟨ep,xs,e,z,r.fresh hc⟩
 | _=>exact absurd h id
end
open PySem
def Ht (K:Fg) (tl:TE):TI:=fun Z H R=>jm K tl Z H R\/CU K tl Z H R
inductive Sl where | un | dat (d:PyData) | own (d:PyData) | ino (d:PyData) | ro (d:PyData)
abbrev En:=List Sl
inductive RV where | dat (d:PyData) | bor (i:Nat) | frs (d:PyData)
inductive PR where | dat (d:PyData) | frs (d:PyData)
inductive AV where | dat (d:PyData) | bor (i:Nat)
inductive PM where | dat | bor | ino
noncomputable def PR.rv:PR->RV | .dat d=>.dat d | .frs d=>.frs d
noncomputable def RV.av:RV->AV | .dat d=>.dat d | .frs d=>.dat d | .bor i=>.bor i
structure Fn where
 ms:List PM
 F:List PyData->Option (PR×List PyData)
noncomputable def isFn:PyData->Bool | .dict [(.list _,.none)]=>true | _=>false
noncomputable def xH (env:En) (i:Nat):Option PyData:=match env[i]? with | some (.own d)=>some d | some (.ino d)=>some d | some (.ro d)=>some d | _=>none
noncomputable def cont (env:En) (i:Nat):Option PyData:=match env[i]? with | some (.own d)=>some d | some (.ino d)=>some d | some (.ro d)=>if isFn d=true then none else some d | _=>none
noncomputable def aR (env:En) (i:Nat):Option PyData:=match env[i]? with | some (.own d)=>some d | some (.ino d)=>some d | _=>none
noncomputable def gG (env:En) (i:Nat) (d:PyData):En:=match env[i]? with | some (.own _)=>env.set i (.own d) | some (.ino _)=>env.set i (.ino d) | _=>env
noncomputable def AV.view (env:En):AV->Option PyData | .dat d=>some d | .bor i=>cont env i
noncomputable def RV.view (env:En) (r:RV):Option PyData:=r.av.view env
def mu (env:En) (i:Nat):Prop:=∃ d,env[i]?=some (.own d)\/env[i]?=some (.ino d)
def IA (env:En) (Z:St) (b:Addr):Prop:=∃ i,mu env i/\Z[i]?=some (some (.ref b))
def FF (F0:Addr->Prop) (env:En) (Z:St) (b:Addr):Prop:=F0 b\/∃ (i:Nat) (d:PyData),env[i]?=some (.own d)/\Z[i]?=some (some (.ref b))
noncomputable def ar:we:=⟨"<lambda>", "_law_told.<locals>.<lambda>", ⟨[],[⟨"_law_one_here", none,⟨208,77,208,90⟩⟩,⟨"_law_name", none,⟨208,92,208,101⟩⟩,⟨"_law_said", none,⟨208,103,208,112⟩⟩],none,[],[],none,[]⟩,.BoolOp .And [.Compare (.Name "_law_one_here" ⟨208,114,208,127⟩) [.Eq] [.Constant (.str "a") 0 ⟨208,131,208,134⟩] ⟨208,114,208,134⟩,.Compare (.Call (.Attribute (.Name "_law_claims" ⟨208,139,208,150⟩) "get" ⟨208,139,208,154⟩) [.Name "_law_name" ⟨208,155,208,164⟩,.Name "_law_said" ⟨208,166,208,175⟩] [] ⟨208,139,208,176⟩) [.Eq] [.Name "_law_said" ⟨208,180,208,189⟩] ⟨208,139,208,189⟩] ⟨208,114,208,189⟩,{ kind:=.function,names:=[("_law_one_here", .local),("_law_name", .local),("_law_said", .local),("_law_claims", .free)],isGenerator:=false,isCoroutine:=false,more:=[] },["_law_one_here", "_law_name", "_law_said"], "_law_claims"⟩
def FnR (K:Fg) (F:Addr->Prop) (H:Hp) (d:PyData) (a:Addr):Prop:=∃ c oc wv,fH ar H a c oc wv/\Dm K F H d wv
def fj (K:Fg) (F I:Addr->Prop) (H:Hp):PyData->Addr->Prop
 | .list ds,a=>∃ xs,LsF K I H a xs/\xs.length<=sizeLine/\DmL K F H ds xs
 | .dict kvs,a=>(∃ ep xs,¬I a/\H a=some (.dD ep xs)/\xs.length<=sizeLine/\DmP K F H kvs xs)\/∃ d,kvs=[(.list [d],.none)]/\FnR K F H d a
 | _,_=>False
structure Rel (K:Fg) (F0:Addr->Prop) (ZM:Hp) (I:Addr->Prop) (env:En) (Z:St) (H:Hp):Prop where
 len:env.length=Z.length
 dat:∀ (i:Nat) (d:PyData),env[i]?=some (.dat d)->∃ v,Z[i]?=some (some v)/\Dm K (FF F0 env Z) H d v
 own:∀ (i:Nat) (d:PyData),env[i]?=some (.own d)->∃ a,Z[i]?=some (some (.ref a))/\¬F0 a/\(ZM a=none\/I a)/\Top K (FF F0 env Z) H d a
 ino:∀ (i:Nat) (d:PyData),env[i]?=some (.ino d)->∃ a,Z[i]?=some (some (.ref a))/\F0 a/\I a/\Top K (FF F0 env Z) H d a
 ro:∀ (i:Nat) (d:PyData),env[i]?=some (.ro d)->∃ a,Z[i]?=some (some (.ref a))/\fj K (FF F0 env Z) (IA env Z) H d a
 sep:∀ i j a,mu env i->mu env j->Z[i]?=some (some (.ref a))->Z[j]?=some (some (.ref a))->i=j
 dom:∀ b,F0 b->H b≠none
 dg:∀ b o,ZM b=some o->¬I b->H b=some o
section
variable {K:Fg} {F F' I I' F0:Addr->Prop} {H H' ZM:Hp} {env env':En} {Z Z':St}
theorem fH.ext {L:we} {f c:Addr} {oc:Obj} {wv:V} (x:fH L H f c oc wv) (k:∀ b o u,H b=some (.frz o u)->H' b=some (.frz o u)):fH L H' f c oc wv:=by
 obtain ⟨c',pm,ctv,od,u2,cs,tq,uv,h1,h2,h3,h4,h5,h6⟩:=x;exact ⟨c',pm,ctv,od,u2,cs,tq,uv,k _ _ _ h1,k _ _ _ h2,h3,h4,k _ _ _ h5,h6⟩
theorem fj.r {d:PyData} {a:Addr} (h:fj K F I H d a) (hn:isFn d=false):zi K F H d a:=by
 cases d with
 | list ds =>
  obtain ⟨xs,l,z,r⟩:=h;exact ⟨xs,l.elim (fun q=>.inl q.2) .inr,z,r⟩
 | dict ds =>
  rcases h with ⟨ep,xs,n,l,z,r⟩ | ⟨es,rfl,_⟩
  ·exact ⟨ep,xs,l,z,r⟩
  ·cases hn
 | _=>exact absurd h id
theorem fj.pr {d:PyData} {a:Addr} (h:fj K F I H d a) (p:Pr F H H') (hf:∀ b,F' b->F b) (hi:∀ b,I' b->I b) (k:∀ b o,H b=some o->¬I b->H' b=some o):fj K F' I' H' d a:=by
 cases d with
 | list ds =>
  obtain ⟨xs,l,z,r⟩:=h;refine ⟨xs,?_,z,r.pr p hf⟩;rcases l with ⟨n,l | ⟨o,l⟩⟩ | l
  ·exact .inl ⟨fun q=>n (hi _ q),.inl (k _ _ l n)⟩
  ·exact .inl ⟨fun q=>n (hi _ q),.inr ⟨o,k _ _ l n⟩⟩
  ·exact .inr l
 | dict ds =>
  rcases h with ⟨ep,xs,n,l,z,r⟩ | ⟨es,rfl,c,oc,wv,h1,h2⟩
  ·exact .inl ⟨ep,xs,fun q=>n (hi _ q),k _ _ l n,z,r.pr p hf⟩
  ·exact .inr ⟨es,rfl,c,oc,wv,h1.ext fun b o u e=>p _ _ e (.inr rfl),h2.pr p hf⟩
 | _=>exact absurd h id
theorem fj.fresh {d:PyData} {a c:Addr} (hc:H c=none) (h:fj K F I H d a):fj K (fun b=>F b\/b=c) I H d a:=by
 cases d with
 | list ds=>obtain ⟨xs,e,z,r⟩:=h;exact ⟨xs,e,z,r.fresh hc⟩
 | dict ds =>
  rcases h with ⟨ep,xs,n,e,z,r⟩ | ⟨es,rfl,d,oc,wv,h1,h2⟩
  ·exact .inl ⟨ep,xs,n,e,z,r.fresh hc⟩
  ·exact .inr ⟨es,rfl,d,oc,wv,h1,h2.fresh hc⟩
 | _=>exact absurd h id
theorem Dm.ro {d:PyData} {v:V} (h:Dm K F H d v) (hi:∀ b,I b->F b) (l:(∃ ds,d=.list ds)\/∃ ds,d=.dict ds):∃ a,v=.ref a/\fj K F I H d a:=by
 rcases l with ⟨ds,rfl⟩ | ⟨ds,rfl⟩
 ·obtain ⟨a,xs,e,l,z,r⟩:=h;exact ⟨a,e,xs,l.elim (fun q=>.inl ⟨fun z=>q.1 (hi _ z),q.2⟩) .inr,z,r⟩
 ·obtain ⟨a,ep,xs,e,n,l,z,r⟩:=h;exact ⟨a,e,.inl ⟨ep,xs,fun q=>n (hi _ q),l,z,r⟩⟩
theorem Top.ro {d:PyData} {a:Addr} (h:Top K F H d a) (n:¬I a):fj K F I H d a:=by
 cases d with
 | list ds=>obtain ⟨xs,e,z,r⟩:=h;exact ⟨xs,.inl ⟨n,.inl e⟩,z,r⟩
 | dict ds=>obtain ⟨ep,xs,e,z,r⟩:=h;exact .inl ⟨ep,xs,n,e,z,r⟩
 | _=>exact absurd h id
theorem Rel.ia (R:Rel K F0 ZM I env Z H) {b:Addr} (h:IA env Z b):FF F0 env Z b:=by
 obtain ⟨i,⟨d,e | e⟩,s⟩:=h
 ·exact .inr ⟨i,d,e,s⟩
 ·obtain ⟨a,s',f,_⟩:=R.ino i d e;rw [s] at s';cases s';exact .inl f
theorem Rel.iaT (R:Rel K F0 ZM I env Z H) {b:Addr} (h:IA env Z b):∃ o,H b=some o/\Wr o=true:=by
 obtain ⟨i,⟨d,e | e⟩,s⟩:=h
 ·obtain ⟨a,s',_,_,t⟩:=R.own i d e;rw [s] at s';cases s';exact t.wr
 ·obtain ⟨a,s',_,_,t⟩:=R.ino i d e;rw [s] at s';cases s';exact t.wr
theorem Rel.iaI (R:Rel K F0 ZM I env Z H) {b:Addr} (h:IA env Z b):ZM b=none\/I b:=by
 obtain ⟨i,⟨d,e | e⟩,s⟩:=h
 ·obtain ⟨a,s',_,q,t⟩:=R.own i d e;rw [s] at s';cases s';exact q
 ·obtain ⟨a,s',_,q,t⟩:=R.ino i d e;rw [s] at s';cases s';exact .inr q
theorem Rel.eJ (R:Rel K F0 ZM I env Z H) {b:Addr} (h:FF F0 env Z b):H b≠none:=by
 rcases h with h | ⟨i,d,e,s⟩
 ·exact R.dom b h
 ·obtain ⟨o,q,_⟩:=R.iaT ⟨i,⟨d,.inl e⟩,s⟩;rw [q];exact nofun
theorem Rel.oD (R:Rel K F0 ZM I env Z H) (k:∀ b o,H b=some o->¬IA env Z b->H' b=some o):Pr (FF F0 env Z) H H':=fun b o h n=>k b o h fun q=>by
 rcases n with n | n
 ·exact n (R.ia q)
 ·obtain ⟨o',h',w⟩:=R.iaT q;rw [h] at h';cases h';rw [n] at w;cases w
theorem Rel.rebase (R:Rel K F0 ZM I env Z H):Rel K F0 H (IA env Z) env Z H :=
 ⟨R.len,R.dat,fun i d e=>let ⟨a,s,n,_,t⟩:=R.own i d e;⟨a,s,n,.inr ⟨i,⟨d,.inl e⟩,s⟩,t⟩,fun i d e=>let ⟨a,s,n,_,t⟩:=R.ino i d e;⟨a,s,n,⟨i,⟨d,.inr e⟩,s⟩,t⟩,R.ro,R.sep,R.dom,fun _ _ h _=>h⟩
theorem Rel.oi (R:Rel K F0 ZM I env Z H) {a:Addr} (h:H a=none\/IA env Z a):ZM a=none\/I a:=by
 rcases h with h | h
 ·cases e:ZM a with
  | none=>exact .inl rfl
  | some o =>
   by_cases z:I a
   ·exact .inr z
   ·have:=R.dg a o e z;rw [h] at this;cases this
 ·exact R.iaI h
theorem Rel.bp (R:Rel K F0 ZM I env Z H) (S:Rel K F0 H (IA env Z) env' Z' H'):Rel K F0 ZM I env' Z' H':=by
 refine ⟨S.len,S.dat,fun i d e=>?_,fun i d e=>?_,S.ro,S.sep,S.dom,fun b o h n=>?_⟩
 ·obtain ⟨a,s,n,q,t⟩:=S.own i d e;exact ⟨a,s,n,R.oi q,t⟩
 ·obtain ⟨a,s,n,q,t⟩:=S.ino i d e;refine ⟨a,s,n,?_,t⟩;obtain ⟨j,⟨d',e' | e'⟩,s'⟩:=q
  ·obtain ⟨a',s2,n',_⟩:=R.own j d' e';rw [s'] at s2;cases s2;exact absurd n n'
  ·obtain ⟨a',s2,_,n',_⟩:=R.ino j d' e';rw [s'] at s2;cases s2;exact n'
 ·refine S.dg b o (R.dg b o h n) fun q=>?_;rcases R.iaI q with z | z
  ·rw [h] at z;cases z
  ·exact n z
def Evo:Sl->Sl->Prop
 | .un,s=>s=.un
 | .dat d,s=>s=.dat d
 | .own _,s=>(∃ d,s=.own d)\/(∃ d,s=.dat d)\/s=.un
 | .ino _,s=>∃ d,s=.ino d
 | .ro d,s=>s=.ro d
def KpE (env env':En):Prop:=env'.length=env.length/\∀ (i:Nat) (s:Sl),env[i]?=some s->∃ s',env'[i]?=some s'/\Evo s s'
theorem Evo.refl:∀ s,Evo s s
 | .un=>rfl
 | .dat _=>rfl
 | .own d=>.inl ⟨d,rfl⟩
 | .ino d=>⟨d,rfl⟩
 | .ro _=>rfl
theorem Evo.trans:∀ {a b c:Sl},Evo a b->Evo b c->Evo a c
 | .un,b,c,h,q=>by rw [show b=.un from h] at q;exact q
 | .dat d,b,c,h,q=>by rw [show b=.dat d from h] at q;exact q
 | .own d,b,c,h,q=>by
  rcases h with ⟨d,rfl⟩ | ⟨d,rfl⟩ | rfl
  ·exact q
  ·exact .inr (.inl ⟨d,q⟩)
  ·exact .inr (.inr q)
 | .ino d,b,c,h,q=>by obtain ⟨d,rfl⟩:=h;exact q
 | .ro d,b,c,h,q=>by rw [show b=.ro d from h] at q;exact q
theorem KpE.refl (env:En):KpE env env:=⟨rfl,fun i s e=>⟨s,e,.refl s⟩⟩
theorem KpE.trans {e1 e2 e3:En} (a:KpE e1 e2) (b:KpE e2 e3):KpE e1 e3:=⟨b.1.trans a.1,fun i s e=>by
 obtain ⟨s1,h1,v1⟩:=a.2 i s e;obtain ⟨s2,h2,v2⟩:=b.2 i s1 h1
 exact ⟨s2,h2,v1.trans v2⟩⟩
theorem KpE.back (k:KpE env env') {i:Nat} {s':Sl} (e:env'[i]?=some s'):∃ s,env[i]?=some s/\Evo s s':=by
 have hi:i < env'.length:=(Ih.mp e).1;have:env[i]?=some (env[i]'(by rw [<- k.1];exact hi)):=Ie _;obtain ⟨s2,h2,v⟩:=k.2 i _ this;rw [e] at h2;cases h2;exact ⟨_,this,v⟩
theorem KpE.own (k:KpE env env') {i:Nat} {d:PyData} (e:env'[i]?=some (.own d)):∃ d',env[i]?=some (.own d'):=by
 obtain ⟨s,h,v⟩:=k.back e;cases s with
 | un=>cases v
 | dat _=>cases v
 | own d'=>exact ⟨d',h⟩
 | ino _=>obtain ⟨_,v⟩:=v;cases v
 | ro _=>cases v
theorem KpE.ff (k:KpE env env') {b:Addr} (h:FF F0 env' Z b):FF F0 env Z b:=by
 rcases h with h | ⟨i,d,e,s⟩
 ·exact .inl h
 ·obtain ⟨d',e'⟩:=k.own e;exact .inr ⟨i,d',e',s⟩
theorem KpE.mu (k:KpE env env') {i:Nat} (h:mu env' i):mu env i:=by
 obtain ⟨d,h | h⟩:=h
 ·obtain ⟨d',e⟩:=k.own h;exact ⟨d',.inl e⟩
 ·obtain ⟨s,h,v⟩:=k.back h;cases s with
  | un=>cases v
  | dat _=>cases v
  | own d'=>rcases v with ⟨_,v⟩ | ⟨_,v⟩ | v <;> cases v
  | ino d'=>exact ⟨d',.inr h⟩
  | ro _=>cases v
theorem KpE.ia (k:KpE env env') {b:Addr} (h:IA env' Z b):IA env Z b:=let ⟨i,m,s⟩:=h;⟨i,k.mu m,s⟩
theorem Rel.n4 (R:Rel K F0 ZM I env Z H) (S:Rel K F0 H (IA env Z) env' Z H') (k:KpE env env') {d:PyData} {v:V} (h:Dm K (FF F0 env Z) H d v):Dm K (FF F0 env' Z) H' d v :=
 h.pr (R.oD fun b o e n=>S.dg b o e n) fun _ z=>k.ff z
theorem Rel.same (R:Rel K F0 ZM I env Z H) (s:aA H H'):Rel K F0 ZM I env Z H':=by
 have p:Pr (FF F0 env Z) H H':=Pr.of_same s;refine ⟨R.len,fun i d e=>?_,fun i d e=>?_,fun i d e=>?_,fun i d e=>?_,R.sep,fun b h=>?_,fun b o h n=>s _ _ (R.dg b o h n)⟩
 ·obtain ⟨v,q,r⟩:=R.dat i d e;exact ⟨v,q,r.pr p fun _ z=>z⟩
 ·obtain ⟨a,q,n,w,t⟩:=R.own i d e;exact ⟨a,q,n,w,t.pr p (fun _ z=>z) (fun o z=>s _ _ z)⟩
 ·obtain ⟨a,q,n,w,t⟩:=R.ino i d e;exact ⟨a,q,n,w,t.pr p (fun _ z=>z) (fun o z=>s _ _ z)⟩
 ·obtain ⟨a,q,t⟩:=R.ro i d e;exact ⟨a,q,t.pr p (fun _ z=>z) (fun _ z=>z) (fun b o z _=>s _ _ z)⟩
 ·cases e:H b with
  | none=>exact absurd e (R.dom b h)
  | some o=>rw [s _ _ e];exact nofun
theorem fw {c:Addr}:FF (fun b=>F0 b\/b=c) env Z=fun b=>FF F0 env Z b\/b=c:=by
 funext b;apply propext;constructor
 ·rintro ((h | h) | h)
  ·exact .inl (.inl h)
  ·exact .inr h
  ·exact .inl (.inr h)
 ·rintro ((h | h) | h)
  ·exact .inl (.inl h)
  ·exact .inr h
  ·exact .inl (.inr h)
theorem Rel.fresh (R:Rel K F0 ZM I env Z H) {c:Addr} (hc:H c=none) {H':Hp} (s:aA H H') (hc':H' c≠none):Rel K (fun b=>F0 b\/b=c) ZM I env Z H':=by
 have p:Pr (fun b=>FF F0 env Z b\/b=c) H H':=Pr.of_same s;have na:∀ i a,mu env i->Z[i]?=some (some (.ref a))->a≠c:=fun i a m q z=>by
  obtain ⟨o,h,_⟩:=R.iaT ⟨i,m,q⟩;rw [z,hc] at h;cases h
 refine ⟨R.len,fun i d e=>?_,fun i d e=>?_,fun i d e=>?_,fun i d e=>?_,R.sep,fun b h=>?_,fun b o h n=>s _ _ (R.dg b o h n)⟩
 ·obtain ⟨v,q,r⟩:=R.dat i d e;rw [fw];exact ⟨v,q,(r.fresh hc).pr p fun _ z=>z⟩
 ·obtain ⟨a,q,n,w,t⟩:=R.own i d e;rw [fw];exact ⟨a,q,fun z=>z.elim n (na i a ⟨d,.inl e⟩ q),w,(t.fresh hc).pr p (fun _ z=>z) (fun o z=>s _ _ z)⟩
 ·obtain ⟨a,q,n,w,t⟩:=R.ino i d e;rw [fw];exact ⟨a,q,.inl n,w,(t.fresh hc).pr p (fun _ z=>z) (fun o z=>s _ _ z)⟩
 ·obtain ⟨a,q,t⟩:=R.ro i d e;rw [fw];exact ⟨a,q,(t.fresh hc).pr p (fun _ z=>z) (fun _ z=>z) (fun b o z _=>s _ _ z)⟩
 ·rcases h with h | h
  ·cases e:H b with
   | none=>exact absurd e (R.dom b h)
   | some o=>rw [s _ _ e];exact nofun
  ·rw [h];exact hc'
theorem Rel.less {c:Addr} (R:Rel K (fun b=>F0 b\/b=c) ZM I env Z H) (hi:∀ (i:Nat) (d:PyData),env[i]?=some (.ino d)->Z[i]?≠some (some (.ref c))):Rel K F0 ZM I env Z H:=by
 have hf:∀ b,FF F0 env Z b->FF (fun b=>F0 b\/b=c) env Z b:=fun b z=>by rw [fw];exact .inl z
 refine ⟨R.len,fun i d e=>?_,fun i d e=>?_,fun i d e=>?_,fun i d e=>?_,R.sep,fun b h=>R.dom b (.inl h),R.dg⟩
 ·obtain ⟨v,q,r⟩:=R.dat i d e;exact ⟨v,q,r.mono hf⟩
 ·obtain ⟨a,q,n,w,t⟩:=R.own i d e;exact ⟨a,q,fun z=>n (.inl z),w,t.pr Pr.refl hf fun _ z=>z⟩
 ·obtain ⟨a,q,n,w,t⟩:=R.ino i d e;refine ⟨a,q,?_,w,t.pr Pr.refl hf fun _ z=>z⟩;rcases n with n | n
  ·exact n
  ·exact absurd (n▸q) (hi i d e)
 ·obtain ⟨a,q,t⟩:=R.ro i d e;exact ⟨a,q,t.pr Pr.refl hf (fun _ z=>z) fun _ _ z _=>z⟩
end
open PySem
def uZ (K:Fg) (F:Addr->Prop) (H H':Hp):PR->V->Prop
 | .dat d,v=>Dm K F H' d v
 | .frs d,v=>∃ a,v=.ref a/\H a=none/\Top K (fun b=>F b\/b=a) H' d a
def VwL (K:Fg) (F:Addr->Prop) (H:Hp):List PyData->List V->Prop
 | [],vs=>vs=[]
 | d :: ds,vs=>∃ v r,vs=v :: r/\Vw K F H d v/\VwL K F H ds r
structure Cst where
 d:PyData
 v:V
 ok:∀ (K:Fg) (F:Addr->Prop) (H:Hp),Dm K F H d v
def Cst.i (i:Int):Cst:=⟨.int i,.int i,fun _ _ _=>rfl⟩
def Cst.s (x:Str) (h:x.length<=sizeLine) (h2:PyData.strOk x=true):Cst:=⟨.str x,.str x,fun _ _ _=>⟨rfl,h,h2⟩⟩
def Cst.b (b:Bool):Cst:=⟨.bool b,.bl b,fun _ _ _=>rfl⟩
def Cst.n:Cst:=⟨.none,.non,fun _ _ _=>rfl⟩
structure Prm where
 r:Fg->List V->Hp->VK->Prop
 f:List PyData->Option PR
 ok:∀ (K:Fg) (F:Addr->Prop) (H:Hp) (ds:List PyData) (vs:List V) (pr:PR) (Q:VK),f ds=some pr->VwL K F H ds vs->(∀ b,F b->H b≠none)->(∀ v H',aA H H'->uZ K F H H' pr v->Q v H')->r K vs H Q
structure Mtd where
 T:String
 r:Fg->V->List V->Hp->VK->Prop
 ty:PyData->Bool
 f:PyData->List PyData->Option PR
 zp:∀ (K:Fg) (F:Addr->Prop) (H:Hp) (d:PyData) (v:V),ty d=true->Vw K F H d v->tyV K T v H
 ok:∀ (K:Fg) (F:Addr->Prop) (H:Hp) (d:PyData) (v:V) (ds:List PyData) (vs:List V) (pr:PR) (Q:VK),f d ds=some pr->Vw K F H d v->VwL K F H ds vs->(∀ b,F b->H b≠none)->(∀ v H',aA H H'->uZ K F H H' pr v->Q v H')->r K v vs H Q
def MvL (K:Fg) (F:Addr->Prop) (H:Hp):List (Bool×PyData)->List V->Prop
 | [],vs=>vs=[]
 | (true,d) :: ds,vs=>∃ v r,vs=v :: r/\Dm K F H d v/\MvL K F H ds r
 | (false,d) :: ds,vs=>∃ v r,vs=v :: r/\Vw K F H d v/\MvL K F H ds r
structure Mtr where
 T:String
 r:Fg->V->List V->Hp->VK->Prop
 ty:PyData->Bool
 f:PyData->List (Bool×PyData)->Option (PyData×PyData)
 zp:∀ (K:Fg) (F:Addr->Prop) (H:Hp) (d:PyData) (a:Addr),ty d=true->Top K F H d a->tyV K T (.ref a) H
 ok:∀ (K:Fg) (F:Addr->Prop) (H:Hp) (d:PyData) (a:Addr) (as:List (Bool×PyData)) (vs:List V) (d' x:PyData) (Q:VK),f d as=some (d',x)->F a->Top K F H d a->MvL K F H as vs ->
  (∀ v H',(∀ b o,b≠a->H b=some o->H' b=some o)->Top K F H' d' a->Dm K F H' x v->Q v H')->r K (.ref a) vs H Q
structure wc where
 r:Fg->V->V->V->Hp->(Hp->Prop)->Prop
 f:PyData->PyData->PyData->Option PyData
 ok:∀ (K:Fg) (F:Addr->Prop) (H:Hp) (d:PyData) (a:Addr) (k x:PyData) (vk vx:V) (d':PyData) (Q:Hp->Prop),f d k x=some d'->F a->Top K F H d a->Vw K F H k vk->Dm K F H x vx ->
  (∀ H',(∀ b o,b≠a->H b=some o->H' b=some o)->Top K F H' d' a->Q H')->r K (.ref a) vk vx H Q
mutual
inductive XE where
 | var (i:Nat) | mov (i:Nat) | tke (i:Nat) | cst (c:Cst) | glb (g:Nat)
 | prm (p:Prm) (as:XA) | met (m:Mtd) (o:XE) (as:XA) | mtr (m:Mtr) (i:Nat) (as:XA) | call (f:Fn) (as:XA)
 | tup (as:XA) | lst (as:XA) | dsp (as:XP) | fst (as:XA)
 | ifx (c:XT) (a b:XE) | nc (a b:XE) | orv (a b:XE) | ud (a:XE) | chn (p q:Prm) (a b c:XE) | sl2 (p:Int->Int->Prm) (a b c:XE)
 | cmp (js:List Nat) (it:XI) (c:XT) (e:XE) | zd (n:List Str) (js:List Nat) (it:XI) (e:XE)
inductive XA where | nil | cons (e:XE) (r:XA)
inductive XP where | nil | cons (k e:XE) (r:XP)
inductive XT where | tst (e:XE) | tru (e:XE) | and (a b:XT) | or (a b:XT) | not (a:XT) | yes
inductive XI where | lst (e:XE) | tup (e:XE) | str (e:XE) | rng1 (as:XA) | rng2 (as:XA) | dct (e:XE) | zip (as:XA) | sq (e:XE) | itm (e:XE)
end
inductive XS where
 | skip | seq (a b:XS) | c7 (i:Nat) (e:XE) | mW (i:Nat) (e:XE) | Cc (is:List Nat) (e:XE) | drop (e:XE) | ret (e:XE) | Dp
 | ifs (c:XT) (a b:XS) | fr (i:Nat) (it:XI) (b:XS) | frT (is:List Nat) (it:XI) (b:XS) | wh (n:Nat) (c:XT) (b:XS) | brk | cnt | nev | sto (m:wc) (i:Nat) (k e:XE)
def gNs:List Nat->TGs
 | []=>AM
 | i :: r=>mP (aT i) (gNs r)
def gTp (K:PySem.W.Frag) (is:List Nat):TG:=zZ K is.length (gNs is)
noncomputable def HZ:Nat->List Nat:=List.range
def HD:List TE->TE:=fun ts=>tFs ts Str.empty
def NoE:XK:=fun _ _ _=>False
def uK (K:PySem.W.Frag) (G I:Addr->Prop) (H:Hp) (d:PyData) (v:V):Prop:=match d with
 | .tuple ds=>Dm K G H (.tuple ds) v
 | d=>∃ a,v=.ref a/\fj K G I H d a
def bo (K:PySem.W.Frag) (G I:Addr->Prop) (H:Hp):List PM->List PyData->List V->List Addr->Prop
 | [],[],[],is=>is=[]
 | .dat :: ms,d :: ds,v :: vs,is=>Dm K G H d v/\bo K G I H ms ds vs is
 | .bor :: ms,d :: ds,v :: vs,is=>uK K G I H d v/\bo K G I H ms ds vs is
 | .ino :: ms,d :: ds,v :: vs,is=>∃ a r,v=.ref a/\is=a :: r/\G a/\Top K G H d a/\a ∉ r/\bo K G I H ms ds vs r
 | _,_,_,_=>False
def hU (K:PySem.W.Frag) (G:Addr->Prop) (H:Hp):List PyData->List Addr->Prop
 | [],[]=>True
 | d :: ds,a :: r=>Top K G H d a/\hU K G H ds r
 | _,_=>False
def Ep (K:PySem.W.Frag) (G:Addr->Prop) (H H':Hp) (outs:List PyData) (is:List Addr):PR->V->Prop
 | .dat d,v=>Dm K G H' d v/\hU K G H' outs is
 | .frs d,v=>∃ a,v=.ref a/\H a=none/\Top K (fun b=>G b\/b=a) H' d a/\hU K (fun b=>G b\/b=a) H' outs is
def cU (f:Fn) (K:PySem.W.Frag):Sp:=fun vs H Q _=>∃ (G:Addr->Prop) (ds:List PyData) (is:List Addr) (pr:PR) (outs:List PyData),f.F ds=some (pr,outs)/\bo K G (·∈is) H f.ms ds vs is/\(∀ b,G b->H b≠none) /\
 ∀ v' H',(∀ b o,H b=some o->b ∉ is->H' b=some o)->Ep K G H H' outs is pr v'->Q v' H'
section
variable (K:PySem.W.Frag) (ga:Nat->V)
mutual
noncomputable def rE:XE->TE
 | .var i=>aj i | .mov i=>aj i | .tke i=>aj i | .cst c=>tC c.v | .glb g=>tC (ga g)
 | .prm p as=>tCB (p.r K) (rA as) | .met m o as=>tBM K m.T (m.r K) (rE o) (rA as) | .mtr m i as=>tBM K m.T (m.r K) (aj i) (rA as) | .call f as=>br (cU f K) [] NoE (rA as)
 | .tup as=>eD (rA as) | .lst as=>yp (rA as) | .dsp as=>oP (rP as) | .fst as=>HD (rF as)
 | .ifx c a b=>tIf (rT c) (rE a) (rE b) | .nc a b=>xk (rE a) (rE b) | .orv a b=>HU (rE a) (rE b) | .ud a=>x6 (rE a)
 | .chn p q a b c=>qr (fun x y=>p.r K [x,y]) (fun x y=>q.r K [x,y]) (rE a) (rE b) (rE c)
 | .sl2 p a b c=>fun Z H Q=>rE a Z H fun x H1=>rE b Z H1 fun y H2=>∃ i,y=.int i/\rE c Z H2 fun z H3=>∃ j,z=.int j/\(p i j).r K [x] H3 Q
 | .cmp js it c e=>fT js (rI_ it) (rT c) (rE e) | .zd n js it e=>oZ n js (rI_ it) (gTp K (List.range n.length)) (rE e)
noncomputable def rA:XA->TA
 | .nil=>aP | .cons e r=>aa (rE e) (rA r)
noncomputable def rF:XA->List TE
 | .nil=>[] | .cons e r=>rE e :: rF r
noncomputable def rP:XP->List (TE×TE)
 | .nil=>[] | .cons k e r=>(rE k,rE e) :: rP r
noncomputable def rT:XT->TT
 | .tst e=>tB (rE e) | .tru e=>Hm K (rE e) | .and a b=>z7 (rT a) (rT b) | .or a b=>tOr (rT a) (rT b) | .not a=>pJ (rT a) | .yes=>ui
noncomputable def rI_:XI->TI
 | .lst e=>jm K (rE e) | .tup e=>CU K (rE e) | .str e=>Hd (rE e) | .rng1 as=>pX (rA as) | .rng2 as=>Gd (rA as) | .dct e=>FQ (rE e) | .zip as=>Hx K (rA as) | .sq e=>Ht K (rE e) | .itm e=>Hj (rE e)
end
def rS:XS->TS
 | .skip=>fU | .seq a b=>fI (rS a) (rS b) | .c7 i e=>iM (rE K ga e) (aT i) | .mW i e=>iM (rE K ga e) (aT i) | .Cc is e=>iM (rE K ga e) (gTp K is) | .drop e=>uz (rE K ga e) | .ret e=>jH (rE K ga e) | .Dp=>EL
 | .ifs c a b=>pV (rT K ga c) (rS a) (rS b) | .fr i it b=>xW (rI_ K ga it) (aT i) (rS b) | .frT is it b=>xW (rI_ K ga it) (gTp K is) (rS b) | .wh n c b=>AN (rT K ga c) (rS b) | .brk=>Bs | .cnt=>DE | .nev=>wR
 | .sto m i k e=>fun D Z H=>rE K ga e Z H fun x H1=>aj i Z H1 fun o H2=>rE K ga k Z H2 fun y H3=>m.r K o y x H3 (D.nx Z)
end
noncomputable def F3:PyData->Bool
 | .none=>false | .bool b=>b | .int i=>i != 0 | .str x=>(x.length:Int) != 0 | .list ds=>!ds.isEmpty | .tuple ds=>!ds.isEmpty | .dict ds=>!ds.isEmpty
noncomputable def EH:PyData->Bool | .str _=>true | _=>false
noncomputable def DO:PyData->Bool | .dict _=>true | _=>false
noncomputable def mR (lk:Bool):Sl->Sl
 | .own d=>if lk then .ro d else .ino d
 | .ino d=>if lk then .ro d else .ino d
 | s=>s
noncomputable def cO (env:En) (lock:Option Nat) (js:List Nat):En:=js.map fun j=>mR (decide (lock=some j)) (env[j]?.getD .un)
noncomputable def aM:En->List Nat->En->En
 | env,j :: js,.ino d :: es=>aM (gG env j d) js es
 | env,_ :: js,_ :: es=>aM env js es
 | env,_,_=>env
noncomputable def uf (step:PyData->En->Option (Option PyData×En)):List PyData->En->Option (List PyData×En)
 | [],env=>some ([],env)
 | d :: ds,env=>match step d env with
  | some (y,e1)=>match uf step ds e1 with
   | some (ys,e2)=>some (y.toList++ys,e2)
   | none=>none
  | none=>none
noncomputable def Fm (env:En):PM->AV->Option PyData
 | .dat,.dat d=>some d
 | .bor,.dat (.list d)=>some (.list d)
 | .bor,.dat (.dict d)=>some (.dict d)
 | .bor,.dat (.tuple d)=>some (.tuple d)
 | .bor,.bor i=>xH env i
 | .ino,.bor i=>aR env i
 | _,_=>none
noncomputable def jw (env:En):List PM->List AV->Option (List PyData)
 | [],[]=>some []
 | m :: ms,a :: as=>match Fm env m a,jw env ms as with
  | some d,some ds=>some (d :: ds)
  | _,_=>none
 | _,_=>none
noncomputable def cJ:List PM->List AV->List Nat
 | .ino :: ms,.bor i :: as=>i :: cJ ms as
 | _ :: ms,_ :: as=>cJ ms as
 | _,_=>[]
noncomputable def sR:List PM->List AV->List Nat
 | .bor :: ms,.bor i :: as=>i :: sR ms as
 | _ :: ms,_ :: as=>sR ms as
 | _,_=>[]
noncomputable def da:En->List Nat->List PyData->En
 | env,i :: is,d :: ds=>da (gG env i d) is ds
 | env,_,_=>env
noncomputable def yZ:List Nat->Bool
 | []=>true
 | x :: xs=>!xs.contains x&&yZ xs
noncomputable def ckA (is bs:List Nat) (n:Nat):Bool:=yZ is&&(bs.all (fun i=>!is.contains i)&&n==is.length)
noncomputable def vC (f:Fn) (avs:List AV) (env:En):Option (RV×En) :=
 match jw env f.ms avs with
 | none=>none
 | some ds=>match f.F ds with
  | none=>none
  | some (pr,outs)=>if ckA (cJ f.ms avs) (sR f.ms avs) outs.length=true then some (pr.rv,da env (cJ f.ms avs) outs) else none
noncomputable def aF (env:En):List AV->Option (List PyData)
 | []=>some []
 | a :: as=>match a.view env,aF env as with
  | some d,some ds=>some (d :: ds)
  | _,_=>none
noncomputable def AV.FE:AV->Bool | .dat _=>true | .bor _=>false
noncomputable def e6 (env:En):List AV->Option (List (Bool×PyData))
 | []=>some []
 | a :: as=>match a.view env,e6 env as with
  | some d,some ds=>some ((a.FE,d) :: ds)
  | _,_=>none
noncomputable def mh:List AV->Option (List PyData)
 | []=>some []
 | .dat d :: as=>match mh as with | some ds=>some (d :: ds) | none=>none
 | .bor _ :: _=>none
noncomputable def keyOf:PyData->Option Key | .int i=>some (.inl i) | .str x=>some (.inr x) | _=>none
noncomputable def putD (kvs:List (PyData×PyData)) (k d:PyData):List (PyData×PyData) :=
 if (kvs.any fun kv=>PyData.eqv kv.1 k)=true then kvs.map (fun kv=>if PyData.eqv kv.1 k=true then (kv.1,d) else kv) else kvs++[(k,d)]
noncomputable def getD (kvs:List (PyData×PyData)) (k:PyData):Option PyData:=(kvs.find? fun kv=>PyData.eqv kv.1 k).map (·.2)
noncomputable def bH (env:En):Option Nat->En
 | some i=>match env[i]? with | some (.own d)=>env.set i (.ro d) | some (.ino d)=>env.set i (.ro d) | _=>env
 | none=>env
noncomputable def ax (zD:En) (lock:Option Nat) (env:En):En:=match lock with
 | some i=>match zD[i]?,env[i]? with
  | some (.own _),some (.ro d)=>env.set i (.own d)
  | some (.ino _),some (.ro d)=>env.set i (.ino d)
  | _,_=>env
 | none=>env
noncomputable def iA (t:En->Option (Bool×En)) (b:En->Option (RV×En)) (d:PyData) (ec:En):Option (Option PyData×En):=match t (.dat d :: ec) with
 | some (true,e2)=>match b e2 with
  | some (rv,e3)=>match rv.av with | .dat y=>some (some y,e3.tail) | .bor _=>none
  | none=>none
 | some (false,e2)=>some (none,e2.tail)
 | none=>none
noncomputable def fB (n:Nat) (b:En->Option (RV×En)) (d:PyData) (ec:En):Option (Option PyData×En):=match d with
 | .tuple xs=>if xs.length=n then match b (xs.map .dat++ec) with
   | some (rv,e3)=>match rv.av with | .dat y=>some (some y,e3.drop n) | .bor _=>none
   | none=>none
  else none
 | _=>none
noncomputable def roL (e:En):AV->Option (List PyData)
 | .dat (.list xs)=>some xs
 | .bor i=>match e[i]? with | some (.ro (.list xs))=>some xs | _=>none
 | _=>none
mutual
noncomputable def dE (gd:List PyData):XE->En->Option (RV×En)
 | .var i,env=>match env[i]? with | some (.dat d)=>some (.dat d,env) | some (.own _)=>some (.bor i,env) | some (.ino _)=>some (.bor i,env) | some (.ro _)=>some (.bor i,env) | _=>none
 | .mov i,env=>match env[i]? with | some (.own d)=>some (.dat d,env.set i (.dat d)) | _=>none
 | .tke i,env=>match env[i]? with | some (.own d)=>some (.frs d,env.set i .un) | _=>none
 | .cst c,env=>some (.dat c.d,env)
 | .glb g,env=>match gd[g]? with | some d=>some (.dat d,env) | none=>none
 | .prm p as,env=>match dA gd as env with
  | some (avs,e1)=>match aF e1 avs with
   | some ds=>match p.f ds with | some pr=>some (pr.rv,e1) | none=>none
   | none=>none
  | none=>none
 | .met m o as,env=>match dE gd o env with
  | some (rv,e1)=>match rv.view e1 with
   | some d0=>if m.ty d0=true then match dA gd as e1 with
     | some (avs,e2)=>match rv.view e2,aF e2 avs with
      | some d,some ds=>match m.f d ds with | some pr=>some (pr.rv,e2) | none=>none
      | _,_=>none
     | none=>none
    else none
   | none=>none
  | none=>none
 | .mtr m i as,env=>match aR env i with
  | some d0=>if m.ty d0=true then match dA gd as env with
    | some (avs,e1)=>match aR e1 i,e6 e1 avs with
     | some d,some ds=>match m.f d ds with | some (d',x)=>some (.dat x,gG e1 i d') | none=>none
     | _,_=>none
    | none=>none
   else none
  | none=>none
 | .call f as,env=>match dA gd as env with
  | some (avs,e1)=>vC f avs e1
  | none=>none
 | .tup as,env=>match dA gd as env with
  | some (avs,e1)=>match mh avs with | some ds=>if ds.length<=sizeLine then some (.dat (.tuple ds),e1) else none | none=>none
  | none=>none
 | .lst as,env=>match dA gd as env with
  | some (avs,e1)=>match mh avs with | some ds=>if ds.length<=sizeLine then some (.frs (.list ds),e1) else none | none=>none
  | none=>none
 | .dsp as,env=>match dP gd as env with
  | some (kvs,e1)=>if kvs.length<=15 then some (.frs (.dict (kvs.foldl (fun acc kv=>putD acc (kD kv.1) kv.2) [])),e1) else none
  | none=>none
 | .fst as,env=>match dF gd as Str.empty env with
  | some (x,e1)=>some (.dat (.str x),e1)
  | none=>none
 | .ifx c a b,env=>match dT gd c env with
  | some (true,e1)=>dE gd a e1
  | some (false,e1)=>dE gd b e1
  | none=>none
 | .nc a b,env=>match dE gd a env with
  | some (.dat (.bool true),e1)=>dE gd b e1
  | some (.dat (.bool false),e1)=>some (.dat (.bool false),e1)
  | _=>none
 | .orv a b,env=>match dE gd a env with
  | some (.dat (.bool true),e1)=>some (.dat (.bool true),e1)
  | some (.dat (.bool false),e1)=>dE gd b e1
  | _=>none
 | .ud a,env=>match dE gd a env with
  | some (.dat (.bool x),e1)=>some (.dat (.bool (!x)),e1)
  | _=>none
 | .chn p q a b c,env=>match dE gd a env with
  | some (ra,e1)=>match dE gd b e1 with
   | some (rb,e2)=>match ra.av,rb.av with
    | .dat x,.dat y=>match p.f [x,y] with
     | some (.dat (.bool true))=>match dE gd c e2 with
      | some (rc,e3)=>match rc.av with
       | .dat z=>match q.f [y,z] with | some pr=>some (pr.rv,e3) | none=>none
       | _=>none
      | none=>none
     | some (.dat (.bool false))=>some (.dat (.bool false),e2)
     | _=>none
    | _,_=>none
   | none=>none
  | none=>none
 | .sl2 p a b c,env=>match dE gd a env with
  | some (ra,e1)=>match dE gd b e1 with
   | some (.dat (.int i),e2)=>match dE gd c e2 with
    | some (.dat (.int j),e3)=>match ra.view e3 with
     | some d=>match (p i j).f [d] with | some pr=>some (pr.rv,e3) | none=>none
     | none=>none
    | _=>none
   | _=>none
  | none=>none
 | .cmp js it c e,env=>match dI gd it env with
  | some (ds,lock,e1)=>if js.Nodup then match uf (iA (dT gd c) (dE gd e)) ds (cO e1 lock js) with
    | some (ys,ec)=>some (.frs (.list ys),aM e1 js ec)
    | none=>none
   else none
  | none=>none
 | .zd n js it e,env=>match dI gd it env with
  | some (ds,lock,e1)=>if js.Nodup then match uf (fB n.length (dE gd e)) ds (cO e1 lock js) with
    | some (ys,ec)=>some (.frs (.list ys),aM e1 js ec)
    | none=>none
   else none
  | none=>none
noncomputable def dA (gd:List PyData):XA->En->Option (List AV×En)
 | .nil,env=>some ([],env)
 | .cons e r,env=>match dE gd e env with
  | some (rv,e1)=>match dA gd r e1 with
   | some (avs,e2)=>some (rv.av :: avs,e2)
   | none=>none
  | none=>none
noncomputable def dF (gd:List PyData):XA->Str->En->Option (Str×En)
 | .nil,out,env=>if out.length<=sizeLine then some (out,env) else none
 | .cons e r,out,env=>match dE gd e env with
  | some (.dat (.str x),e1)=>if (out++x).length<=sizeLine then dF gd r (out++x) e1 else none
  | _=>none
noncomputable def dP (gd:List PyData):XP->En->Option (List (Key×PyData)×En)
 | .nil,env=>some ([],env)
 | .cons k e r,env=>match dE gd k env with
  | some (rk,e1)=>match dE gd e e1 with
   | some (rv,e2)=>match dP gd r e2 with
    | some (kvs,e3)=>match rk.av,rv.av with
     | .dat dk,.dat d=>match keyOf dk with | some k=>some ((k,d) :: kvs,e3) | none=>none
     | _,_=>none
    | none=>none
   | none=>none
  | none=>none
noncomputable def dT (gd:List PyData):XT->En->Option (Bool×En)
 | .tst e,env=>match dE gd e env with | some (.dat (.bool b),e1)=>some (b,e1) | _=>none
 | .tru e,env=>match dE gd e env with
  | some (rv,e1)=>match rv.view e1 with | some d=>if DO d=true then none else some (F3 d,e1) | none=>none
  | none=>none
 | .and a b,env=>match dT gd a env with | some (true,e1)=>dT gd b e1 | some (false,e1)=>some (false,e1) | none=>none
 | .or a b,env=>match dT gd a env with | some (true,e1)=>some (true,e1) | some (false,e1)=>dT gd b e1 | none=>none
 | .not a,env=>match dT gd a env with | some (b,e1)=>some (!b,e1) | none=>none
 | .yes,env=>some (true,env)
noncomputable def dI (gd:List PyData):XI->En->Option (List PyData×Option Nat×En)
 | .lst e,env=>match dE gd e env with
  | some (rv,e1)=>match rv.av with
   | .dat (.list ds)=>some (ds,none,e1)
   | .dat _=>none
   | .bor i=>match cont e1 i with | some (.list ds)=>some (ds,some i,e1) | _=>none
  | none=>none
 | .dct e,env=>match dE gd e env with
  | some (rv,e1)=>match rv.av with
   | .dat (.dict kvs)=>some (kvs.map (·.1),none,e1)
   | .dat _=>none
   | .bor i=>match cont e1 i with | some (.dict kvs)=>some (kvs.map (·.1),some i,e1) | _=>none
  | none=>none
 | .tup e,env=>match dE gd e env with
  | some (rv,e1)=>match rv.av with | .dat (.tuple ds)=>some (ds,none,e1) | _=>none
  | none=>none
 | .itm e,env=>match dE gd e env with
  | some (rv,e1)=>match rv.av with | .dat (.dict kvs)=>if (kvs.all fun p=>EH p.1)=true then some (kvs.map fun p=>.tuple [p.1,p.2],none,e1) else none | _=>none
  | none=>none
 | .sq e,env=>match dE gd e env with
  | some (rv,e1)=>match rv.av with
   | .dat (.list ds)=>some (ds,none,e1)
   | .dat (.tuple ds)=>some (ds,none,e1)
   | .dat _=>none
   | .bor i=>match cont e1 i with | some (.list ds)=>some (ds,some i,e1) | _=>none
  | none=>none
 | .str e,env=>match dE gd e env with
  | some (rv,e1)=>match rv.av with | .dat (.str x)=>some (x.cps.toList.map fun c=>.str ⟨#[c]⟩,none,e1) | _=>none
  | none=>none
 | .rng1 as,env=>match dA gd as env with
  | some (avs,e1)=>match avs with | [.dat (.int j)]=>if -(2 ^ 62)<=j/\j<=2 ^ 24 then some ((List.range j.toNat).map fun (k:Nat)=>.int ((0:Int)+(k:Int)),none,e1) else none | _=>none
  | none=>none
 | .zip as,env=>match dA gd as env with
  | some (avs,e1)=>match avs with
   | [x,y]=>match roL e1 x,roL e1 y with | some xs,some ys=>some ((xs.zip ys).map fun p=>.tuple [p.1,p.2],none,e1) | _,_=>none
   | _=>none
  | none=>none
 | .rng2 as,env=>match dA gd as env with
  | some (avs,e1)=>match avs with | [.dat (.int i),.dat (.int j)]=>if -(2 ^ 62)<=i/\i < 2 ^ 62/\-(2 ^ 62)<=j/\j < 2 ^ 62/\j - i<=2 ^ 24 then some ((List.range (j - i).toNat).map fun (k:Nat)=>.int (i+(k:Int)),none,e1) else none | _=>none
  | none=>none
end
noncomputable def lkd (env:En):Option Nat->Bool
 | some i=>match env[i]? with | some (.own _)=>true | some (.ino _)=>true | _=>false
 | none=>false
noncomputable def RV.soft (b:Bool):RV->RV | .frs d=>if b then .dat d else .frs d | r=>r
inductive Out where | nx (env:En) | rt (rv:RV) (env:En) | bk (env:En) | ct (env:En)
noncomputable def Out.map (b:Bool) (f:En->En):Out->Out | .nx e=>.nx (f e) | .rt r e=>.rt (r.soft b) (f e) | .bk e=>.bk (f e) | .ct e=>.ct (f e)
noncomputable def forL (b:PyData->En->Option Out):List PyData->En->Option Out
 | [],env=>some (.nx env)
 | d :: ds,env=>match b d env with
  | some (.nx e)=>forL b ds e
  | some (.ct e)=>forL b ds e
  | some (.bk e)=>some (.nx e)
  | some (.rt r e)=>some (.rt r e)
  | none=>none
noncomputable def whL (t:En->Option (Bool×En)) (b:En->Option Out):Nat->En->Option Out
 | 0,_=>none
 | n+1,env=>match t env with
  | some (true,e1)=>match b e1 with
   | some (.nx e)=>whL t b n e
   | some (.ct e)=>whL t b n e
   | some (.bk e)=>some (.nx e)
   | some (.rt r e)=>some (.rt r e)
   | none=>none
  | some (false,e1)=>some (.nx e1)
  | none=>none
noncomputable def free (env:En) (i:Nat):Bool:=match env[i]? with | some .un=>true | some (.dat _)=>true | some (.own _)=>true | _=>false
noncomputable def fz:En->List Nat->List PyData->Option En
 | env,[],[]=>some env
 | env,i :: is,d :: ds=>if free env i=true then fz (env.set i (.dat d)) is ds else none
 | _,_,_=>none
noncomputable def jS (i:Nat) (b:En->Option Out) (d:PyData) (e:En):Option Out:=if free e i=true then b (e.set i (.dat d)) else none
noncomputable def ja (is:List Nat) (b:En->Option Out) (d:PyData) (e:En):Option Out:=match d with
 | .tuple xs=>match fz e is xs with | some e2=>b e2 | none=>none
 | _=>none
noncomputable def dS (gd:List PyData):XS->En->Option Out
 | .skip,env=>some (.nx env)
 | .seq a b,env=>match dS gd a env with
  | some (.nx e)=>dS gd b e
  | o=>o
 | .c7 i e,env=>match dE gd e env with
  | some (rv,e1)=>match rv.av with | .dat d=>if free e1 i=true then some (.nx (e1.set i (.dat d))) else none | .bor _=>none
  | none=>none
 | .mW i e,env=>match dE gd e env with
  | some (.frs d,e1)=>if free e1 i=true then some (.nx (e1.set i (.own d))) else none
  | _=>none
 | .Cc is e,env=>match dE gd e env with
  | some (rv,e1)=>match rv.av with
   | .dat (.tuple ds)=>match fz e1 is ds with | some e2=>some (.nx e2) | none=>none
   | _=>none
  | none=>none
 | .drop e,env=>match dE gd e env with | some (_,e1)=>some (.nx e1) | none=>none
 | .ret e,env=>match dE gd e env with | some (rv,e1)=>some (.rt rv e1) | none=>none
 | .Dp,env=>some (.rt (.dat .none) env)
 | .ifs c a b,env=>match dT gd c env with
  | some (true,e1)=>dS gd a e1
  | some (false,e1)=>dS gd b e1
  | none=>none
 | .fr i it b,env=>match dI gd it env with
  | some (ds,lock,e1)=>(forL (jS i (dS gd b)) ds (bH e1 lock)).map (Out.map (lkd e1 lock) (ax e1 lock))
  | none=>none
 | .frT is it b,env=>match dI gd it env with
  | some (ds,lock,e1)=>(forL (ja is (dS gd b)) ds (bH e1 lock)).map (Out.map (lkd e1 lock) (ax e1 lock))
  | none=>none
 | .wh n c b,env=>whL (dT gd c) (dS gd b) n env
 | .brk,env=>some (.bk env)
 | .cnt,env=>some (.ct env)
 | .nev,_=>none
 | .sto m i k e,env=>match dE gd e env with
  | some (rv,e1)=>match rv.av with
   | .dat x=>match aR e1 i with
    | some _=>match dE gd k e1 with
     | some (rk,e2)=>match rk.view e2,aR e2 i with
      | some dk,some d=>match m.f d dk x with | some d'=>some (.nx (gG e2 i d')) | none=>none
      | _,_=>none
     | none=>none
    | none=>none
   | .bor _=>none
  | none=>none
noncomputable def xf:PyData->Sl | .tuple ds=>.dat (.tuple ds) | d=>.ro d
noncomputable def ak:List PM->List PyData->Nat->En
 | .dat :: ms,d :: ds,n=>.dat d :: ak ms ds (n - 1)
 | .bor :: ms,d :: ds,n=>xf d :: ak ms ds (n - 1)
 | .ino :: ms,d :: ds,n=>.ino d :: ak ms ds (n - 1)
 | _,_,n=>List.replicate n .un
noncomputable def iX:List PM->En->Option (List PyData)
 | .ino :: ms,.ino d :: es=>match iX ms es with | some ds=>some (d :: ds) | none=>none
 | .ino :: _,_=>none
 | _ :: ms,_ :: es=>iX ms es
 | _,_=>some []
noncomputable def RV.pr:RV->Option PR | .dat d=>some (.dat d) | .frs d=>some (.frs d) | .bor _=>none
noncomputable def c8 (gd:List PyData) (ms:List PM) (n:Nat) (b:XS):Fn where
 ms:=ms
 F:=fun ds=>if ds.length=ms.length then match dS gd b (ak ms ds n) with
   | some (.rt rv env)=>match rv.pr,iX ms env with | some pr,some outs=>some (pr,outs) | _,_=>none
   | some (.nx env)=>match iX ms env with | some outs=>some (.dat .none,outs) | none=>none
   | _=>none
  else none
open PySem
theorem aA.rf (H:Hp):aA H H:=fun _ _ h=>h
theorem aA.nw {H:Hp} {a:Addr} (o:HO) (h:H a=none):aA H (upd H a o):=fun b u q=>by rw [ae (af q h)];exact q
section
variable {K:Fg} {F F' I I' F0:Addr->Prop} {H H' ZM:Hp} {env env':En} {Z Z':St} {ga:Nat->V} {gd:List PyData}
def eG (K:Fg) (F0:Addr->Prop) (ZM:Hp) (I:Addr->Prop) (env:En) (Z:St) (H:Hp):RV->V->Prop
 | .dat d,v=>Dm K (FF F0 env Z) H d v
 | .bor i,v=>Z[i]?=some (some v)
 | .frs d,v=>∃ a,v=.ref a/\Rel K (fun b=>F0 b\/b=a) ZM I env Z H/\Top K (fun b=>FF F0 env Z b\/b=a) H d a/\(ZM a=none\/I a)/\¬FF F0 env Z a/\(∀ (i:Nat) (d':PyData),env[i]?=some (.ino d')->Z[i]?≠some (some (.ref a))) /\
   ∀ (i:Nat) (d':PyData),env[i]?=some (.ro d')->∃ b,Z[i]?=some (some (.ref b))/\fj K (fun b=>FF F0 env Z b\/b=a) (fun b=>IA env Z b\/b=a) H d' b
def vR (K:Fg) (F0:Addr->Prop) (env:En) (Z:St) (H:Hp):AV->V->Prop
 | .dat d,v=>Dm K (FF F0 env Z) H d v
 | .bor i,v=>Z[i]?=some (some v)
def gM (K:Fg) (F0:Addr->Prop) (env:En) (Z:St) (H:Hp):List AV->List V->Prop
 | [],vs=>vs=[]
 | a :: as,vs=>∃ v r,vs=v :: r/\vR K F0 env Z H a v/\gM K F0 env Z H as r
theorem eG.av {rv:RV} {v:V} (h:eG K F0 ZM I env Z H rv v):vR K F0 env Z H rv.av v:=by
 cases rv with
 | dat d=>exact h
 | bor i=>exact h
 | frs d =>
  obtain ⟨a,e,R,t,_,n,_⟩:=h;subst e;exact (t.pr Pr.refl (F':=FF F0 env Z) (fun _ z=>.inl z) (fun _ z=>z)).dm n
theorem vR.keep (R:Rel K F0 ZM I env Z H) (S:Rel K F0 H (IA env Z) env' Z H') (k:KpE env env') {a:AV} {v:V} (h:vR K F0 env Z H a v):vR K F0 env' Z H' a v:=by
 cases a with
 | dat d=>exact R.n4 S k h
 | bor i=>exact h
theorem Rel.FG (R:Rel K F0 ZM I env Z H) {i:Nat} {d:PyData} {v:V} (h:cont env i=some d) (s:Z[i]?=some (some v)):Vw K (FF F0 env Z) H d v:=by
 unfold cont at h;cases e:env[i]? with
 | none=>rw [e] at h;cases h
 | some sl =>
  rw [e] at h;cases sl with
  | un=>cases h
  | dat _=>cases h
  | own d' =>
   cases h;obtain ⟨a,q,_,_,t⟩:=R.own i d e;rw [s] at q;cases q;exact t.r.vw
  | ino d' =>
   cases h;obtain ⟨a,q,_,_,t⟩:=R.ino i d e;rw [s] at q;cases q;exact t.r.vw
  | ro d' =>
   have h:(if isFn d'=true then none else some d')=some d:=h;split at h
   ·cases h
   ·rename_i hf;cases h;obtain ⟨a,q,t⟩:=R.ro i d e;rw [s] at q;cases q;exact (t.r (Bool.not_eq_true _▸hf)).vw
theorem Rel.c0 (R:Rel K F0 ZM I env Z H) {i:Nat} {d:PyData} (h:aR env i=some d):mu env i/\∃ a,Z[i]?=some (some (.ref a))/\FF F0 env Z a/\Top K (FF F0 env Z) H d a:=by
 unfold aR at h;cases e:env[i]? with
 | none=>rw [e] at h;cases h
 | some sl =>
  rw [e] at h;cases sl with
  | un=>cases h
  | dat _=>cases h
  | own d' =>
   cases h;obtain ⟨a,q,_,_,t⟩:=R.own i d e;exact ⟨⟨d,.inl e⟩,a,q,.inr ⟨i,d,e,q⟩,t⟩
  | ino d' =>
   cases h;obtain ⟨a,q,f,_,t⟩:=R.ino i d e;exact ⟨⟨d,.inr e⟩,a,q,.inl f,t⟩
  | ro d'=>cases h
theorem vR.vw (R:Rel K F0 ZM I env Z H) {a:AV} {v:V} {d:PyData} (h:vR K F0 env Z H a v) (e:a.view env=some d):Vw K (FF F0 env Z) H d v:=by
 cases a with
 | dat d'=>cases e;exact Dm.vw h
 | bor i=>exact R.FG e h
theorem gM.vw (R:Rel K F0 ZM I env Z H):∀ {as:List AV} {vs:List V} {ds:List PyData},gM K F0 env Z H as vs->aF env as=some ds->VwL K (FF F0 env Z) H ds vs
 | [],_,ds,h,e=>by cases e;exact h
 | a :: as,_,ds,h,e=>by
  obtain ⟨v,r,rfl,h1,h2⟩:=h;unfold aF at e;cases e1:a.view env with
  | none=>rw [e1] at e;cases e
  | some d =>
   cases e2:aF env as with
   | none=>rw [e1,e2] at e;cases e
   | some ds' =>
    rw [e1,e2] at e;cases e;exact ⟨v,r,rfl,h1.vw R e1,gM.vw R h2 e2⟩
theorem gM.mv (R:Rel K F0 ZM I env Z H):∀ {as:List AV} {vs:List V} {ds:List (Bool×PyData)},gM K F0 env Z H as vs->e6 env as=some ds->MvL K (FF F0 env Z) H ds vs
 | [],_,ds,h,e=>by cases e;exact h
 | a :: as,_,ds,h,e=>by
  obtain ⟨v,r,rfl,h1,h2⟩:=h;unfold e6 at e;cases e1:a.view env with
  | none=>rw [e1] at e;cases e
  | some d =>
   cases e2:e6 env as with
   | none=>rw [e1,e2] at e;cases e
   | some ds' =>
    rw [e1,e2] at e;cases e;have ih:=gM.mv R h2 e2;cases a with
    | dat d'=>cases e1;exact ⟨v,r,rfl,h1,ih⟩
    | bor i=>exact ⟨v,r,rfl,h1.vw R e1,ih⟩
theorem gM.nu:∀ {as:List AV} {vs:List V} {ds:List PyData},gM K F0 env Z H as vs->mh as=some ds->DmL K (FF F0 env Z) H ds vs
 | [],_,ds,h,e=>by cases e;exact h
 | .dat d :: as,_,ds,h,e=>by
  obtain ⟨v,r,rfl,h1,h2⟩:=h;unfold mh at e;cases e2:mh as with
  | none=>rw [e2] at e;cases e
  | some ds' =>
   rw [e2] at e;cases e;exact ⟨v,r,rfl,h1,gM.nu h2 e2⟩
 | .bor i :: as,_,ds,h,e=>by unfold mh at e;cases e
theorem fj.wN {d:PyData} {a c:Addr} (hc:H c=none) (h:fj K F I H d a):fj K F (fun b=>I b\/b=c) H d a:=by
 cases d with
 | list ds=>obtain ⟨xs,e,z,r⟩:=h;exact ⟨xs,e.fresh hc,z,r⟩
 | dict ds =>
  rcases h with ⟨ep,xs,n,e,z,r⟩ | h
  ·exact .inl ⟨ep,xs,fun q=>q.elim n fun q=>(by subst q;rw [hc] at e;cases e),e,z,r⟩
  ·exact .inr h
 | _=>exact absurd h id
theorem Rel.l4 (R:Rel K F0 ZM I env Z H) (s:aA H H') {pr:PR} {v:V} (h:uZ K (FF F0 env Z) H H' pr v):eG K F0 ZM I env Z H' pr.rv v:=by
 cases pr with
 | dat d=>exact h
 | frs d =>
  obtain ⟨a,e,hn,t⟩:=h;refine ⟨a,e,R.fresh hn s ?_,t,R.oi (.inl hn),fun z=>R.eJ z hn,fun i d' e' q=>?_,fun i d' e'=>?_⟩
  ·obtain ⟨o,q,_⟩:=t.wr;rw [q];exact nofun
  ·obtain ⟨o,z,_⟩:=R.iaT ⟨i,⟨d',.inr e'⟩,q⟩;rw [hn] at z;cases z
  ·obtain ⟨b,q,t'⟩:=R.ro i d' e';exact ⟨b,q,((t'.fresh hn).wN hn).pr (Pr.of_same s) (fun _ z=>z) (fun _ z=>z) fun b o z _=>s _ _ z⟩
theorem qQ (env:En) (i:Nat) (d:PyData):KpE env (gG env i d):=by
 unfold gG;cases e:env[i]? with
 | none=>exact KpE.refl _
 | some sl =>
  have hi:i < env.length:=(Ih.mp e).1;cases sl with
  | un=>exact KpE.refl _
  | dat _=>exact KpE.refl _
  | ro _=>exact KpE.refl _
  | own d' =>
   refine ⟨IY,fun j s h=>?_⟩;by_cases z:i=j
   ·subst z;rw [e] at h;cases h;exact ⟨.own d,by rw [Iv hi],.inl ⟨d,rfl⟩⟩
   ·exact ⟨s,by rw [Ig z];exact h,.refl s⟩
  | ino d' =>
   refine ⟨IY,fun j s h=>?_⟩;by_cases z:i=j
   ·subst z;rw [e] at h;cases h;exact ⟨.ino d,by rw [Iv hi],⟨d,rfl⟩⟩
   ·exact ⟨s,by rw [Ig z];exact h,.refl s⟩
def SmK (env env':En):Prop:=env'.length=env.length/\∀ i:Nat,env'[i]?=env[i]?\/(∃ d d',env[i]?=some (.own d)/\env'[i]?=some (.own d'))\/∃ d d',env[i]?=some (.ino d)/\env'[i]?=some (.ino d')
theorem SmK.refl (env:En):SmK env env:=⟨rfl,fun _=>.inl rfl⟩
theorem SmK.trans {e1 e2 e3:En} (a:SmK e1 e2) (b:SmK e2 e3):SmK e1 e3:=⟨b.1.trans a.1,fun i=>by
 rcases b.2 i with h | ⟨d,d',h,h'⟩ | ⟨d,d',h,h'⟩
 ·rw [h];exact a.2 i
 ·rcases a.2 i with q | ⟨c,c',q,q'⟩ | ⟨c,c',q,q'⟩
  ·exact .inr (.inl ⟨d,d',by rw [<- q];exact h,h'⟩)
  ·exact .inr (.inl ⟨c,d',q,h'⟩)
  ·rw [h] at q';cases q'
 ·rcases a.2 i with q | ⟨c,c',q,q'⟩ | ⟨c,c',q,q'⟩
  ·exact .inr (.inr ⟨d,d',by rw [<- q];exact h,h'⟩)
  ·rw [h] at q';cases q'
  ·exact .inr (.inr ⟨c,d',q,h'⟩)⟩
theorem SmK.kp (k:SmK env env'):KpE env env':=⟨k.1,fun i s e=>by
 rcases k.2 i with h | ⟨d,d',h,h'⟩ | ⟨d,d',h,h'⟩
 ·exact ⟨s,by rw [h];exact e,.refl s⟩
 ·rw [e] at h;cases h;exact ⟨_,h',.inl ⟨d',rfl⟩⟩
 ·rw [e] at h;cases h;exact ⟨_,h',⟨d',rfl⟩⟩⟩
theorem SmK.symm (k:SmK env env'):SmK env' env:=⟨k.1.symm,fun i=>by
 rcases k.2 i with h | ⟨d,d',h,h'⟩ | ⟨d,d',h,h'⟩
 ·exact .inl h.symm
 ·exact .inr (.inl ⟨d',d,h',h⟩)
 ·exact .inr (.inr ⟨d',d,h',h⟩)⟩
theorem SmK.ff (k:SmK env env'):FF F0 env' Z=FF F0 env Z:=by
 funext b;exact propext ⟨fun h=>k.kp.ff h,fun h=>k.symm.kp.ff h⟩
theorem SmK.ia (k:SmK env env'):IA env' Z=IA env Z:=by
 funext b;exact propext ⟨fun h=>k.kp.ia h,fun h=>k.symm.kp.ia h⟩
theorem d8 (env:En) (i:Nat) (d:PyData):SmK env (gG env i d):=by
 unfold gG;cases e:env[i]? with
 | none=>exact SmK.refl _
 | some sl =>
  have hi:i < env.length:=(Ih.mp e).1;cases sl with
  | un=>exact SmK.refl _
  | dat _=>exact SmK.refl _
  | ro _=>exact SmK.refl _
  | own d' =>
   refine ⟨IY,fun j=>?_⟩;by_cases z:i=j
   ·subst z;exact .inr (.inl ⟨d',d,e,by rw [Iv hi]⟩)
   ·exact .inl (by rw [Ig z])
  | ino d' =>
   refine ⟨IY,fun j=>?_⟩;by_cases z:i=j
   ·subst z;exact .inr (.inr ⟨d',d,e,by rw [Iv hi]⟩)
   ·exact .inl (by rw [Ig z])
theorem ke {env:En} {i:Nat} {d:PyData} (h:mu env i):aR (gG env i d) i=some d:=by
 unfold gG aR;obtain ⟨d',e | e⟩:=h
 ·have hi:i < env.length:=(Ih.mp e).1;rw [e];simp only;rw [Iv hi]
 ·have hi:i < env.length:=(Ih.mp e).1;rw [e];simp only;rw [Iv hi]
theorem j3 {env:En} {i j:Nat} {d:PyData} (h:j≠i):(gG env i d)[j]?=env[j]?:=by
 unfold gG;split <;> first | rfl | rw [Ig (Ne.symm h)]
theorem nG {env:En} {i:Nat} {d:PyData} (h:aR env i=some d):env[i]?=some (.own d)\/env[i]?=some (.ino d):=by
 unfold aR at h;split at h
 ·rename_i e;cases h;exact .inl e
 ·rename_i e;cases h;exact .inr e
 ·cases h
theorem Rel.chg (R:Rel K F0 ZM I env Z H) (k:SmK env env') (hk:∀ b o,H b=some o->¬IA env Z b->H' b=some o) (ht:∀ i d a,aR env' i=some d->Z[i]?=some (some (.ref a))->Top K (FF F0 env Z) H' d a):Rel K F0 ZM I env' Z H':=by
 have p:=R.oD hk;have eF:=k.ff (F0:=F0) (Z:=Z);have eI:=k.ia (Z:=Z);have mc:∀ {i:Nat} {d:PyData},env'[i]?=some (.own d)\/env'[i]?=some (.ino d)->aR env' i=some d:=fun {i d} h=>by
  unfold aR;rcases h with h | h <;> rw [h]
 refine ⟨k.1.trans R.len,fun i d e=>?_,fun i d e=>?_,fun i d e=>?_,fun i d e=>?_,fun i j a h1 h2 h3 h4=>R.sep i j a (k.kp.mu h1) (k.kp.mu h2) h3 h4,fun b h=>?_,fun b o h n=>?_⟩
 ·rcases k.2 i with q | ⟨c,c',q,q'⟩ | ⟨c,c',q,q'⟩
  ·rw [e] at q;obtain ⟨v,s,r⟩:=R.dat i d q.symm;rw [eF];exact ⟨v,s,r.pr p fun _ z=>z⟩
  ·rw [e] at q';cases q'
  ·rw [e] at q';cases q'
 ·have hm:=mc (.inl e);obtain ⟨d0,e0⟩:=k.kp.own e;obtain ⟨a,s,n,w,_⟩:=R.own i d0 e0;rw [eF];exact ⟨a,s,n,w,ht i d a hm s⟩
 ·have hm:=mc (.inr e);have:∃ d0,env[i]?=some (.ino d0):=by
   rcases k.2 i with q | ⟨c,c',q,q'⟩ | ⟨c,c',q,q'⟩
   ·exact ⟨d,by rw [<- q];exact e⟩
   ·rw [e] at q';cases q'
   ·exact ⟨c,q⟩
  obtain ⟨d0,e0⟩:=this;obtain ⟨a,s,n,w,_⟩:=R.ino i d0 e0;rw [eF];exact ⟨a,s,n,w,ht i d a hm s⟩
 ·have e0:env[i]?=some (.ro d):=by
   rcases k.2 i with q | ⟨c,c',q,q'⟩ | ⟨c,c',q,q'⟩
   ·rw [<- q];exact e
   ·rw [e] at q';cases q'
   ·rw [e] at q';cases q'
  obtain ⟨a,s,t⟩:=R.ro i d e0;rw [eF,eI];exact ⟨a,s,t.pr p (fun _ z=>z) (fun _ z=>z) hk⟩
 ·by_cases z:IA env Z b
  ·obtain ⟨i,m,s⟩:=z;have m':=k.symm.kp.mu m;obtain ⟨d,m'⟩:=m';obtain ⟨o,q,_⟩:=(ht i d b (mc m') s).wr;rw [q];exact nofun
  ·cases e:H b with
   | none=>exact absurd e (R.dom b h)
   | some o=>rw [hk b o e z];exact nofun
 ·refine hk b o (R.dg b o h n) fun z=>?_;rcases R.iaI z with q | q
  ·rw [h] at q;cases q
  ·exact n q
end
open PySem
section
variable {K:Fg} {F F' I I' F0:Addr->Prop} {H H' ZM:Hp} {env env':En} {Z Z':St} {ga:Nat->V} {gd:List PyData}
theorem get_set {α:Type} {l:List α} {i j:Nat} {x y:α} (h:(l.set i x)[j]?=some y):(i=j/\x=y)\/(i≠j/\l[j]?=some y):=by
 by_cases z:i=j
 ·subst z;by_cases hi:i < l.length
  ·rw [Iv hi] at h;exact .inl ⟨rfl,Jm h⟩
  ·rw [La (by rw [IY];omega)] at h;cases h
 ·rw [Ig z] at h;exact .inr ⟨z,h⟩
theorem Rel.sub (R:Rel K F0 ZM I env Z H) (i:Nat) (x:Option V):(∀ b,FF F0 (env.set i .un) (Z.set i x) b->FF F0 env Z b)/\(∀ b,IA (env.set i .un) (Z.set i x) b->IA env Z b):=by
 constructor
 ·rintro b (h | ⟨j,d,e,s⟩)
  ·exact .inl h
  ·rcases get_set e with ⟨_,z⟩ | ⟨n,e⟩
   ·cases z
   ·rw [Ig n] at s;exact .inr ⟨j,d,e,s⟩
 ·rintro b ⟨j,⟨d,e⟩,s⟩;have:∃ d,(env[j]?=some (.own d)\/env[j]?=some (.ino d))/\i≠j:=by
   rcases e with e | e
   ·rcases get_set e with ⟨_,z⟩ | ⟨n,e⟩
    ·cases z
    ·exact ⟨d,.inl e,n⟩
   ·rcases get_set e with ⟨_,z⟩ | ⟨n,e⟩
    ·cases z
    ·exact ⟨d,.inr e,n⟩
  obtain ⟨d,e,n⟩:=this;rw [Ig n] at s;exact ⟨j,⟨d,e⟩,s⟩
theorem Rel.forget (R:Rel K F0 ZM I env Z H) (i:Nat) (x:Option V):Rel K F0 ZM I (env.set i .un) (Z.set i x) H:=by
 obtain ⟨hf,hi⟩:=R.sub i x;have mm:∀ j,mu (env.set i .un) j->mu env j/\i≠j:=fun j h=>by
  obtain ⟨d,e | e⟩:=h
  ·rcases get_set e with ⟨_,z⟩ | ⟨n,e⟩
   ·cases z
   ·exact ⟨⟨d,.inl e⟩,n⟩
  ·rcases get_set e with ⟨_,z⟩ | ⟨n,e⟩
   ·cases z
   ·exact ⟨⟨d,.inr e⟩,n⟩
 refine ⟨by rw [IY,IY];exact R.len,fun j d e=>?_,fun j d e=>?_,fun j d e=>?_,fun j d e=>?_,fun j k a h1 h2 h3 h4=>?_,R.dom,R.dg⟩
 ·rcases get_set e with ⟨_,z⟩ | ⟨n,e⟩
  ·cases z
  obtain ⟨v,s,r⟩:=R.dat j d e;exact ⟨v,by rw [Ig n];exact s,r.mono hf⟩
 ·rcases get_set e with ⟨_,z⟩ | ⟨n,e⟩
  ·cases z
  obtain ⟨a,s,q,w,t⟩:=R.own j d e;exact ⟨a,by rw [Ig n];exact s,q,w,t.pr Pr.refl hf fun _ z=>z⟩
 ·rcases get_set e with ⟨_,z⟩ | ⟨n,e⟩
  ·cases z
  obtain ⟨a,s,q,w,t⟩:=R.ino j d e;exact ⟨a,by rw [Ig n];exact s,q,w,t.pr Pr.refl hf fun _ z=>z⟩
 ·rcases get_set e with ⟨_,z⟩ | ⟨n,e⟩
  ·cases z
  obtain ⟨a,s,t⟩:=R.ro j d e;exact ⟨a,by rw [Ig n];exact s,t.pr Pr.refl hf hi fun _ _ z _=>z⟩
 ·obtain ⟨m1,n1⟩:=mm j h1;obtain ⟨m2,n2⟩:=mm k h2;rw [Ig n1] at h3;rw [Ig n2] at h4;exact R.sep j k a m1 m2 h3 h4
theorem jO {i:Nat} {s:Sl} {x:Option V} (hu:env[i]?=some .un) (hs:∀ d,s≠.own d):FF F0 (env.set i s) (Z.set i x)=FF F0 env Z:=by
 funext b;apply propext;constructor
 ·rintro (h | ⟨j,d,e,q⟩)
  ·exact .inl h
  ·rcases get_set e with ⟨_,z⟩ | ⟨n,e⟩
   ·exact absurd z (hs d)
   ·rw [Ig n] at q;exact .inr ⟨j,d,e,q⟩
 ·rintro (h | ⟨j,d,e,q⟩)
  ·exact .inl h
  ·have n:i≠j:=fun z=>by subst z;rw [hu] at e;cases e
   exact .inr ⟨j,d,by rw [Ig n];exact e,by rw [Ig n];exact q⟩
theorem sU {i:Nat} {s:Sl} {x:Option V} (hu:env[i]?=some .un) (hs:∀ d,s≠.own d/\s≠.ino d):IA (env.set i s) (Z.set i x)=IA env Z:=by
 funext b;apply propext;constructor
 ·rintro ⟨j,⟨d,e | e⟩,q⟩
  ·rcases get_set e with ⟨_,z⟩ | ⟨n,e⟩
   ·exact absurd z (hs d).1
   ·rw [Ig n] at q;exact ⟨j,⟨d,.inl e⟩,q⟩
  ·rcases get_set e with ⟨_,z⟩ | ⟨n,e⟩
   ·exact absurd z (hs d).2
   ·rw [Ig n] at q;exact ⟨j,⟨d,.inr e⟩,q⟩
 ·rintro ⟨j,⟨d,e⟩,q⟩;have n:i≠j:=fun z=>by subst z;rw [hu] at e;rcases e with e | e <;> cases e
  refine ⟨j,⟨d,?_⟩,by rw [Ig n];exact q⟩;rw [Ig n];exact e
theorem Rel.putD (R:Rel K F0 ZM I env Z H) {i:Nat} {d:PyData} {v:V} (hu:env[i]?=some .un) (h:Dm K (FF F0 env Z) H d v):Rel K F0 ZM I (env.set i (.dat d)) (Z.set i (some v)) H:=by
 have hi:i < env.length:=(Ih.mp hu).1;have eF:FF F0 (env.set i (.dat d)) (Z.set i (some v))=FF F0 env Z:=jO hu (fun _=>nofun);have eI:IA (env.set i (.dat d)) (Z.set i (some v))=IA env Z:=sU hu (fun _=>⟨nofun,nofun⟩);have mm:∀ j,mu (env.set i (.dat d)) j->mu env j/\i≠j:=fun j h=>by
  obtain ⟨c,e | e⟩:=h
  ·rcases get_set e with ⟨_,z⟩ | ⟨n,e⟩
   ·cases z
   ·exact ⟨⟨c,.inl e⟩,n⟩
  ·rcases get_set e with ⟨_,z⟩ | ⟨n,e⟩
   ·cases z
   ·exact ⟨⟨c,.inr e⟩,n⟩
 refine ⟨by rw [IY,IY];exact R.len,fun j c e=>?_,fun j c e=>?_,fun j c e=>?_,fun j c e=>?_,fun j k a h1 h2 h3 h4=>?_,R.dom,R.dg⟩
 ·rw [eF];rcases get_set e with ⟨z,y⟩ | ⟨n,e⟩
  ·subst z;cases y;exact ⟨v,Iv (by rw [<- R.len];exact hi),h⟩
  obtain ⟨w,s,r⟩:=R.dat j c e;exact ⟨w,by rw [Ig n];exact s,r⟩
 ·rw [eF];rcases get_set e with ⟨_,z⟩ | ⟨n,e⟩
  ·cases z
  obtain ⟨a,s,q,w,t⟩:=R.own j c e;exact ⟨a,by rw [Ig n];exact s,q,w,t⟩
 ·rw [eF];rcases get_set e with ⟨_,z⟩ | ⟨n,e⟩
  ·cases z
  obtain ⟨a,s,q,w,t⟩:=R.ino j c e;exact ⟨a,by rw [Ig n];exact s,q,w,t⟩
 ·rw [eF,eI];rcases get_set e with ⟨_,z⟩ | ⟨n,e⟩
  ·cases z
  obtain ⟨a,s,t⟩:=R.ro j c e;exact ⟨a,by rw [Ig n];exact s,t⟩
 ·obtain ⟨m1,n1⟩:=mm j h1;obtain ⟨m2,n2⟩:=mm k h2;rw [Ig n1] at h3;rw [Ig n2] at h4;exact R.sep j k a m1 m2 h3 h4
theorem Rel.GA {i:Nat} {d:PyData} {a:Addr} (hu:env[i]?=some .un) (h:eG K F0 ZM I env Z H (.frs d) (.ref a)):Rel K F0 ZM I (env.set i (.own d)) (Z.set i (some (.ref a))) H:=by
 obtain ⟨a',ea,R,t,w,nF,hino,hro⟩:=h;cases ea;have hi:i < env.length:=(Ih.mp hu).1;have his:i < Z.length:=by rw [<- R.len];exact hi
 have eF:FF F0 (env.set i (.own d)) (Z.set i (some (.ref a)))=fun b=>FF F0 env Z b\/b=a:=by
  funext b;apply propext;constructor
  ·rintro (h | ⟨j,c,e,q⟩)
   ·exact .inl (.inl h)
   ·rcases get_set e with ⟨z,y⟩ | ⟨n,e⟩
    ·subst z;rw [Iv his] at q;cases q;exact .inr rfl
    ·rw [Ig n] at q;exact .inl (.inr ⟨j,c,e,q⟩)
  ·rintro ((h | ⟨j,c,e,q⟩) | rfl)
   ·exact .inl h
   ·have n:i≠j:=fun z=>by subst z;rw [hu] at e;cases e
    exact .inr ⟨j,c,by rw [Ig n];exact e,by rw [Ig n];exact q⟩
   ·exact .inr ⟨i,d,Iv hi,Iv his⟩
 have eF2:FF (fun b=>F0 b\/b=a) env Z=fun b=>FF F0 env Z b\/b=a:=fw;have mm:∀ j,mu (env.set i (.own d)) j->i=j\/(mu env j/\i≠j):=fun j h=>by
  obtain ⟨c,e | e⟩:=h
  ·rcases get_set e with ⟨z,_⟩ | ⟨n,e⟩
   ·exact .inl z
   ·exact .inr ⟨⟨c,.inl e⟩,n⟩
  ·rcases get_set e with ⟨z,_⟩ | ⟨n,e⟩
   ·exact .inl z
   ·exact .inr ⟨⟨c,.inr e⟩,n⟩
 have eI:∀ b,IA (env.set i (.own d)) (Z.set i (some (.ref a))) b->IA env Z b\/b=a:=by
  rintro b ⟨j,m,q⟩;rcases mm j m with z | ⟨m',n⟩
  ·subst z;rw [Iv his] at q;cases q;exact .inr rfl
  ·rw [Ig n] at q;exact .inl ⟨j,m',q⟩
 have na:∀ j,mu env j->Z[j]?≠some (some (.ref a)):=fun j m q=>by
  obtain ⟨c,e | e⟩:=m
  ·exact nF (.inr ⟨j,c,e,q⟩)
  ·exact hino j c e q
 refine ⟨by rw [IY,IY];exact R.len,fun j c e=>?_,fun j c e=>?_,fun j c e=>?_,fun j c e=>?_,fun j k b h1 h2 h3 h4=>?_,fun b h=>R.dom b (.inl h),R.dg⟩
 ·rw [eF];rcases get_set e with ⟨_,z⟩ | ⟨n,e⟩
  ·cases z
  obtain ⟨x,s,r⟩:=R.dat j c e;rw [eF2] at r;exact ⟨x,by rw [Ig n];exact s,r⟩
 ·rw [eF];rcases get_set e with ⟨z,y⟩ | ⟨n,e⟩
  ·subst z;cases y;exact ⟨a,Iv his,fun z=>nF (.inl z),w,t⟩
  obtain ⟨b,s,q,w',t'⟩:=R.own j c e;rw [eF2] at t';exact ⟨b,by rw [Ig n];exact s,fun z=>q (.inl z),w',t'⟩
 ·rw [eF];rcases get_set e with ⟨_,z⟩ | ⟨n,e⟩
  ·cases z
  obtain ⟨b,s,q,w',t'⟩:=R.ino j c e;rw [eF2] at t';refine ⟨b,by rw [Ig n];exact s,?_,w',t'⟩;rcases q with q | q
  ·exact q
  ·subst q;exact absurd s (hino j c e)
 ·rw [eF];rcases get_set e with ⟨_,z⟩ | ⟨n,e⟩
  ·cases z
  obtain ⟨b,s,t'⟩:=hro j c e;exact ⟨b,by rw [Ig n];exact s,t'.pr Pr.refl (fun _ z=>z) eI fun _ _ z _=>z⟩
 ·rcases mm j h1 with z1 | ⟨m1,n1⟩
  ·rcases mm k h2 with z2 | ⟨m2,n2⟩
   ·rw [<- z1,<-z2]
   ·rw [<- z1,Iv his] at h3;cases h3;rw [Ig n2] at h4;exact absurd h4 (na k m2)
  ·rw [Ig n1] at h3;rcases mm k h2 with z2 | ⟨m2,n2⟩
   ·rw [<- z2,Iv his] at h4;cases h4;exact absurd h3 (na j m1)
   ·rw [Ig n2] at h4;exact R.sep j k b m1 m2 h3 h4
theorem Rel.take (R:Rel K F0 ZM I env Z H) {i:Nat} {d:PyData} (e:env[i]?=some (.own d)):∃ a,Z[i]?=some (some (.ref a))/\eG K F0 ZM I (env.set i .un) Z H (.frs d) (.ref a):=by
 obtain ⟨a,s,nF0,w,t⟩:=R.own i d e;have hi:i < env.length:=(Ih.mp e).1;have mm:∀ j,mu (env.set i .un) j->mu env j/\i≠j:=fun j h=>by
  obtain ⟨c,e | e⟩:=h
  ·rcases get_set e with ⟨_,z⟩ | ⟨n,e⟩
   ·cases z
   ·exact ⟨⟨c,.inl e⟩,n⟩
  ·rcases get_set e with ⟨_,z⟩ | ⟨n,e⟩
   ·cases z
   ·exact ⟨⟨c,.inr e⟩,n⟩
 have eF:FF F0 env Z=fun b=>FF F0 (env.set i .un) Z b\/b=a:=by
  funext b;apply propext;constructor
  ·rintro (h | ⟨j,c,e',q⟩)
   ·exact .inl (.inl h)
   ·by_cases n:i=j
    ·subst n;rw [s] at q;cases q;exact .inr rfl
    ·exact .inl (.inr ⟨j,c,by rw [Ig n];exact e',q⟩)
  ·rintro ((h | ⟨j,c,e',q⟩) | rfl)
   ·exact .inl h
   ·rcases get_set e' with ⟨_,z⟩ | ⟨n,e'⟩
    ·cases z
    ·exact .inr ⟨j,c,e',q⟩
   ·exact .inr ⟨i,d,e,s⟩
 have eF2:FF (fun b=>F0 b\/b=a) (env.set i .un) Z=FF F0 env Z:=by rw [fw];exact eF.symm
 have na:∀ j,mu (env.set i .un) j->Z[j]?≠some (some (.ref a)):=fun j m q=>by
  obtain ⟨m',n⟩:=mm j m;exact n (R.sep i j a ⟨d,.inl e⟩ m' s q)
 have nF:¬FF F0 (env.set i .un) Z a:=by
  rintro (h | ⟨j,c,e',q⟩)
  ·exact nF0 h
  ·exact na j ⟨c,.inl e'⟩ q
 have ia:∀ b,IA (env.set i .un) Z b->IA env Z b:=fun b ⟨j,m,q⟩=>⟨j,(mm j m).1,q⟩;have ia2:∀ b,(IA (env.set i .un) Z b\/b=a)->IA env Z b:=fun b h=>h.elim (ia b) fun z=>z▸⟨i,⟨d,.inl e⟩,s⟩;have R':Rel K (fun b=>F0 b\/b=a) ZM I (env.set i .un) Z H:=by
  refine ⟨by rw [IY];exact R.len,fun j c e'=>?_,fun j c e'=>?_,fun j c e'=>?_,fun j c e'=>?_,fun j k b h1 h2 h3 h4=>R.sep j k b (mm j h1).1 (mm k h2).1 h3 h4,fun b h=>?_,R.dg⟩
  ·rw [eF2];rcases get_set e' with ⟨_,z⟩ | ⟨n,e'⟩
   ·cases z
   exact R.dat j c e'
  ·rw [eF2];have m:=e';rcases get_set e' with ⟨_,z⟩ | ⟨n,e'⟩
   ·cases z
   obtain ⟨b,s',q,w',t'⟩:=R.own j c e';exact ⟨b,s',fun z=>z.elim q fun z=>na j ⟨c,.inl m⟩ (z▸s'),w',t'⟩
  ·rw [eF2];rcases get_set e' with ⟨_,z⟩ | ⟨n,e'⟩
   ·cases z
   obtain ⟨b,s',q,w',t'⟩:=R.ino j c e';exact ⟨b,s',.inl q,w',t'⟩
  ·rw [eF2];rcases get_set e' with ⟨_,z⟩ | ⟨n,e'⟩
   ·cases z
   obtain ⟨b,s',t'⟩:=R.ro j c e';exact ⟨b,s',t'.pr Pr.refl (fun _ z=>z) ia fun _ _ z _=>z⟩
  ·rcases h with h | h
   ·exact R.dom b h
   ·obtain ⟨o,q,_⟩:=t.wr;rw [h,q];exact nofun
 refine ⟨a,s,a,rfl,R',by rw [eF] at t;exact t,w,nF,fun j c e'=>na j ⟨c,.inr e'⟩,fun j c e'=>?_⟩;rcases get_set e' with ⟨_,z⟩ | ⟨n,e'⟩
 ·cases z
 obtain ⟨b,s',t'⟩:=R.ro j c e';rw [eF] at t';exact ⟨b,s',t'.pr Pr.refl (fun _ z=>z) ia2 fun _ _ z _=>z⟩
theorem eG.rel {d:PyData} {v:V} (h:eG K F0 ZM I env Z H (.frs d) v):Rel K F0 ZM I env Z H:=by
 obtain ⟨a,_,R,_,_,_,hi,_⟩:=h;exact R.less hi
theorem set_same {α:Type} {l:List α} {i:Nat} {x:α} (h:l[i]?=some x):l.set i x=l:=by
 have hi:i < l.length:=(Ih.mp h).1;apply List.ext_getElem?;intro j;by_cases z:i=j
 ·subst z;rw [Iv hi,h]
 ·rw [Ig z]
theorem Rel.mov (R:Rel K F0 ZM I env Z H) {i:Nat} {d:PyData} (e:env[i]?=some (.own d)):∃ a,Z[i]?=some (some (.ref a))/\Rel K F0 ZM I (env.set i (.dat d)) Z H/\Dm K (FF F0 (env.set i (.dat d)) Z) H d (.ref a):=by
 have hi:i < env.length:=(Ih.mp e).1;obtain ⟨a,s,h⟩:=R.take e;have R1:=h.rel;have hu:(env.set i .un)[i]?=some .un:=Iv hi;have hd:Dm K (FF F0 (env.set i .un) Z) H d (.ref a):=eG.av h;have R2:=R1.putD hu hd;rw [JB,set_same s] at R2;refine ⟨a,s,R2,?_⟩;have eF:FF F0 (env.set i (.dat d)) Z=FF F0 (env.set i .un) Z:=by
  have:=jO (F0:=F0) (Z:=Z) (s:=.dat d) (x:=some (.ref a)) hu (fun _=>nofun);rw [JB,set_same s] at this;exact this
 rw [eF];exact hd
theorem wU {i:Nat} {s s':Sl} (e:env[i]?=some s) (v:Evo s s'):KpE env (env.set i s'):=by
 have hi:i < env.length:=(Ih.mp e).1;refine ⟨IY,fun j t h=>?_⟩;by_cases z:i=j
 ·subst z;rw [e] at h;cases h;exact ⟨s',Iv hi,v⟩
 ·exact ⟨t,by rw [Ig z];exact h,.refl t⟩
end
open PySem
theorem kU (x y:Str):(x++y).cps=x.cps++y.cps:=rfl
theorem lK {x y:Str} (h:PyData.strOk x=true) (q:PyData.strOk y=true):PyData.strOk (x++y)=true:=by
 unfold PyData.strOk at h q ⊢;rw [kU,Array.all_append,h,q];rfl
def SE (K:Fg) (ga:Nat->V) (gd:List PyData) (e:XE):Prop:=∀ (env:En) (rv:RV) (env':En),dE gd e env=some (rv,env')->∀ (F0:Addr->Prop) (ZM:Hp) (I:Addr->Prop) (Z:St) (H:Hp) (Q:VK),Rel K F0 ZM I env Z H ->
 (∀ v H',Rel K F0 ZM I env' Z H'->KpE env env'->eG K F0 ZM I env' Z H' rv v->Q v H')->rE K ga e Z H Q
def SA (K:Fg) (ga:Nat->V) (gd:List PyData) (e:XA):Prop:=∀ (env:En) (rv:List AV) (env':En),dA gd e env=some (rv,env')->∀ (F0:Addr->Prop) (ZM:Hp) (I:Addr->Prop) (Z:St) (H:Hp) (Q:List V->Hp->Prop),Rel K F0 ZM I env Z H ->
 (∀ v H',Rel K F0 ZM I env' Z H'->KpE env env'->gM K F0 env' Z H' rv v->Q v H')->rA K ga e Z H Q
def SF (K:Fg) (ga:Nat->V) (gd:List PyData) (e:XA):Prop:=∀ (out:Str) (env:En) (x:Str) (env':En),dF gd e out env=some (x,env')->∀ (F0:Addr->Prop) (ZM:Hp) (I:Addr->Prop) (Z:St) (H:Hp) (Q:VK),Rel K F0 ZM I env Z H ->
 PyData.strOk out=true->(∀ H',Rel K F0 ZM I env' Z H'->KpE env env'->x.length<=sizeLine->PyData.strOk x=true->Q (.str x) H')->tFs (rF K ga e) out Z H Q
def A4 (K:Fg) (F:Addr->Prop) (H:Hp):List (Key×PyData)->List (Key×V)->Prop
 | [],vs=>vs=[]
 | (k,d) :: ds,vs=>∃ v r,vs=(k,v) :: r/\Dm K F H (kD k) (kV k)/\Dm K F H d v/\A4 K F H ds r
def SPs (K:Fg) (ga:Nat->V) (gd:List PyData) (e:XP):Prop:=∀ (env:En) (kvs:List (Key×PyData)) (env':En),dP gd e env=some (kvs,env')->∀ (F0:Addr->Prop) (ZM:Hp) (I:Addr->Prop) (Z:St) (H:Hp) (Q:List (V×V)->Hp->Prop),Rel K F0 ZM I env Z H ->
 (∀ vs H',Rel K F0 ZM I env' Z H'->KpE env env'->A4 K (FF F0 env' Z) H' kvs vs->Q (vs.map fun kv=>(kV kv.1,kv.2)) H')->oe (rP K ga e) Z H Q
def ST (K:Fg) (ga:Nat->V) (gd:List PyData) (e:XT):Prop:=∀ (env:En) (b:Bool) (env':En),dT gd e env=some (b,env')->∀ (F0:Addr->Prop) (ZM:Hp) (I:Addr->Prop) (Z:St) (H:Hp) (Q:Bool->Hp->Prop),Rel K F0 ZM I env Z H ->
 (∀ H',Rel K F0 ZM I env' Z H'->KpE env env'->Q b H')->rT K ga e Z H Q
def ItY (K:Fg) (F:Addr->Prop) (H H' H'':Hp) (d:PyData) (x:V):Prop:=(H''=H'/\Dm K F H d x)\/∃ p u v d1 d2,d=.tuple [d1,d2]/\x=.ref p/\H' p=none/\H''=upd H' p (.tup [u,v])/\Dm K F H d1 u/\Dm K F H d2 v
theorem ItY.dm {K:Fg} {F F2:Addr->Prop} {H H' H'':Hp} {d:PyData} {x:V} (h:ItY K F H H' H'' d x) (T:∀ d v,Dm K F H d v->Dm K F2 H' d v):aA H' H''/\Dm K F2 H'' d x:=by
 rcases h with ⟨rfl,h⟩ | ⟨p,u,v,d1,d2,rfl,rfl,hp,rfl,h1,h2⟩
 ·exact ⟨fun _ _ e=>e,T _ _ h⟩
 ·have sm:aA H' (upd H' p (.tup [u,v])):=fun b o e=>by rw [ae (fun z=>by rw [z,hp] at e;cases e)];exact e
  refine ⟨sm,p,[u,v],rfl,SqT.of ai,Nat.le_of_ble_eq_true rfl,u,_,rfl,?_,v,_,rfl,?_,rfl⟩
  ·exact (T _ _ h1).pr (fun b o e _=>sm b o e) fun _ z=>z
  ·exact (T _ _ h2).pr (fun b o e _=>sm b o e) fun _ z=>z
def ua (K:Fg) (F I:Addr->Prop) (H:Hp) (J:It) (ds:List PyData):Prop:=ds.length<=sizeLine/\∀ H',(∀ b o,H b=some o->¬I b->H' b=some o)->∀ k,(k < ds.length->J.go k H'/\∀ x H'',J.yld k H' x H''->∃ d,ds[k]?=some d/\ItY K F H H' H'' d x)/\(ds.length<=k->J.stop k H')
theorem iw {K:Fg} {F I:Addr->Prop} {H:Hp} {J:It} {ds:List PyData} {vs:List V} (hd:DmL K F H ds vs) (hl:vs.length<=sizeLine) (h:∀ H',(∀ b o,H b=some o->¬I b->H' b=some o)->∀ k,(k < vs.length->J.go k H'/\∀ x H'',J.yld k H' x H''->H''=H'/\vs[k]?=some x)/\(vs.length<=k->J.stop k H')):ua K F I H J ds:=by
 have e:=hd.len;refine ⟨by omega,fun H' k j=>⟨fun hj=>?_,fun hj=>((h H' k j).2 (by omega))⟩⟩;obtain ⟨g,y⟩:=(h H' k j).1 (by omega);refine ⟨g,fun x H'' hx=>?_⟩;obtain ⟨e0,hx2⟩:=y x H'' hx;obtain ⟨d,h1,h2⟩:=hd.get' hx2;exact ⟨d,h1,.inl ⟨e0,h2⟩⟩
def SI (K:Fg) (ga:Nat->V) (gd:List PyData) (e:XI):Prop:=∀ (env:En) (ds:List PyData) (lock:Option Nat) (env':En),dI gd e env=some (ds,lock,env')->∀ (F0:Addr->Prop) (ZM:Hp) (I:Addr->Prop) (Z:St) (H:Hp) (R:It->Hp->Prop),Rel K F0 ZM I env Z H ->
 (∀ J H',Rel K F0 ZM I env' Z H'->KpE env env'->(∀ i,lock=some i->∃ d,cont env' i=some d)->ua K (FF F0 env' Z) (fun b=>IA env' Z b/\∀ i,lock=some i->mu env' i->Z[i]?≠some (some (.ref b))) H' J ds->R J H')->rI_ K ga e Z H R
section
variable {K:Fg} {F F' I I' F0:Addr->Prop} {H H' ZM:Hp} {env env':En} {Z Z':St} {ga:Nat->V} {gd:List PyData}
theorem EV (i:Nat):SE K ga gd (.var i):=by
 intro env rv env' h F0 ZM I Z H Q R q;simp only [dE] at h;split at h
 ·rename_i d e;cases h;obtain ⟨v,s,r⟩:=R.dat i d e;exact ⟨v,s,q v H R (KpE.refl _) r⟩
 ·rename_i d e;cases h;obtain ⟨a,s,_⟩:=R.own i d e;exact ⟨_,s,q _ H R (KpE.refl _) s⟩
 ·rename_i d e;cases h;obtain ⟨a,s,_⟩:=R.ino i d e;exact ⟨_,s,q _ H R (KpE.refl _) s⟩
 ·rename_i d e;cases h;obtain ⟨a,s,_⟩:=R.ro i d e;exact ⟨_,s,q _ H R (KpE.refl _) s⟩
 ·cases h
theorem Ew (i:Nat):SE K ga gd (.mov i):=by
 intro env rv env' h F0 ZM I Z H Q R q;simp only [dE] at h;split at h
 ·rename_i d e;cases h;obtain ⟨a,s,R',r⟩:=R.mov e;exact ⟨_,s,q _ H R' (wU e (.inr (.inl ⟨d,rfl⟩))) r⟩
 ·cases h
theorem ER (i:Nat):SE K ga gd (.tke i):=by
 intro env rv env' h F0 ZM I Z H Q R q;simp only [dE] at h;split at h
 ·rename_i d e;cases h;obtain ⟨a,s,r⟩:=R.take e;exact ⟨_,s,q _ H r.rel (wU e (.inr (.inr rfl))) r⟩
 ·cases h
theorem DL (c:Cst):SE K ga gd (.cst c):=by
 intro env rv env' h F0 ZM I Z H Q R q;simp only [dE] at h;cases h;exact q _ H R (KpE.refl _) (c.ok _ _ _)
theorem DK (hg:∀ g d,gd[g]?=some d->∀ F H,Dm K F H d (ga g)) (g:Nat):SE K ga gd (.glb g):=by
 intro env rv env' h F0 ZM I Z H Q R q;simp only [dE] at h;split at h
 ·rename_i d e;cases h;exact q _ H R (KpE.refl _) (hg g d e _ _)
 ·cases h
theorem DJ {p:Prm} {as:XA} (ih:SA K ga gd as):SE K ga gd (.prm p as):=by
 intro env rv env' h F0 ZM I Z H Q R q;simp only [dE] at h;split at h
 ·rename_i avs e1 h1;split at h
  ·rename_i ds h2;split at h
   ·rename_i pr h3;cases h;refine ih _ _ _ h1 F0 ZM I Z H _ R fun vs H1 R1 k1 a1=>?_;refine p.ok K _ H1 ds vs pr Q h3 (a1.vw R1 h2) (fun b z=>R1.eJ z) fun v H2 s2 hp=>?_;exact q v H2 (R1.same s2) k1 (R1.l4 s2 hp)
   ·cases h
  ·cases h
 ·cases h
theorem Ec {m:Mtd} {o:XE} {as:XA} (io:SE K ga gd o) (ih:SA K ga gd as):SE K ga gd (.met m o as):=by
 intro env rv env' h F0 ZM I Z H Q R q;simp only [dE] at h;split at h
 ·rename_i rv0 e1 h1;split at h
  ·rename_i d0 h2;split at h
   ·rename_i hty;split at h
    ·rename_i avs e2 h3;split at h
     ·rename_i d ds h4 h5;split at h
      ·rename_i pr h6;cases h;refine io _ _ _ h1 F0 ZM I Z H _ R fun v H1 R1 k1 a1=>?_;refine ⟨m.zp K _ H1 d0 v hty (a1.av.vw R1 h2),?_⟩;refine ih _ _ _ h3 F0 _ _ Z H1 _ R1.rebase fun vs H2 S2 k2 a2=>?_;have R2:=R1.bp S2;refine m.ok K _ H2 d v ds vs pr Q h6 ((a1.av.keep R1 S2 k2).vw R2 h4) (a2.vw R2 h5) (fun b z=>R2.eJ z) fun v H3 s3 hp=>?_;exact q v H3 (R2.same s3) (k1.trans k2) (R2.l4 s3 hp)
      ·cases h
     ·cases h
    ·cases h
   ·cases h
  ·cases h
 ·cases h
theorem Rel.Gk (R:Rel K F0 ZM I env Z H) {i:Nat} {d d':PyData} {a:Addr} (hm:aR env i=some d) (s:Z[i]?=some (some (.ref a))) (hk:∀ b o,b≠a->H b=some o->H' b=some o) (ht:Top K (FF F0 env Z) H' d' a):Rel K F0 ZM I (gG env i d') Z H':=by
 obtain ⟨m,a',s',_,_⟩:=R.c0 hm;rw [s] at s';cases s';have hia:IA env Z a:=⟨i,m,s⟩;refine R.chg (d8 env i d') (fun b o e n=>hk b o (fun z=>n (z▸hia)) e) fun j c b hc hs=>?_;by_cases z:j=i
 ·subst z;rw [ke m] at hc;cases hc;rw [s] at hs;cases hs;exact ht
 ·have hc':aR env j=some c:=by
   unfold aR at hc ⊢
   rwa [j3 z] at hc
  obtain ⟨m2,b',s2,_,t2⟩:=R.c0 hc';rw [hs] at s2;cases s2;have nb:b≠a:=fun y=>z (R.sep j i a m2 m (y▸hs) s);refine t2.pr (R.oD fun b' o e n=>hk b' o (fun z=>n (z▸hia)) e) (fun _ z=>z) fun o e=>hk b o nb e
theorem Ey {m:Mtr} {i:Nat} {as:XA} (ih:SA K ga gd as):SE K ga gd (.mtr m i as):=by
 intro env rv env' h F0 ZM I Z H Q R q;simp only [dE] at h;split at h
 ·rename_i d0 h0;split at h
  ·rename_i hty;split at h
   ·rename_i avs e1 h1;split at h
    ·rename_i d ds h2 h3;split at h
     ·rename_i d' pr h4;cases h;obtain ⟨_,a,s,f,t⟩:=R.c0 h0;refine ⟨.ref a,s,m.zp K _ H d0 a hty t,?_⟩;refine ih _ _ _ h1 F0 ZM I Z H _ R fun vs H1 R1 k1 a1=>?_;obtain ⟨m1,a',s',f1,t1⟩:=R1.c0 h2;rw [s] at s';cases s';refine m.ok K _ H1 d a ds vs d' pr Q h4 f1 t1 (a1.mv R1 h3) fun v H2 hk ht hp=>?_;refine q v H2 (R1.Gk h2 s hk ht) (k1.trans (qQ _ _ _)) ?_;show Dm K (FF F0 (gG e1 i d') Z) H2 pr v;rw [(d8 e1 i d').ff (F0:=F0) (Z:=Z)];exact hp
     ·cases h
    ·cases h
   ·cases h
  ·cases h
 ·cases h
noncomputable def adr (Z:St) (i:Nat):Addr:=match Z[i]? with | some (some (.ref a))=>a | _=>0
theorem gz {i:Nat} {a:Addr} (h:Z[i]?=some (some (.ref a))):adr Z i=a:=by unfold adr;rw [h]
theorem jB {ms:List PM} {as:List AV} {ds:List PyData} {m:PM} {a:AV} (h:jw env (m :: ms) (a :: as)=some ds):∃ d r,ds=d :: r/\Fm env m a=some d/\jw env ms as=some r:=by
 unfold jw at h;split at h
 ·rename_i d r e1 e2;cases h;exact ⟨d,r,rfl,e1,e2⟩
 ·cases h
theorem fj.bor {G I:Addr->Prop} {d:PyData} {a:Addr} (h:fj K G I H d a):uK K G I H d (.ref a):=by cases d <;> first | exact ⟨a,rfl,h⟩ | exact absurd h id
theorem CF (R:Rel K F0 ZM I env Z H) (all:List Nat) (hall:∀ i∈all,mu env i):∀ {ms:List PM} {as:List AV} {ds:List PyData} {vs:List V},jw env ms as=some ds->gM K F0 env Z H as vs->(cJ ms as).Nodup->(∀ i∈sR ms as,i ∉ all)->(∀ i∈cJ ms as,i∈all) ->
  bo K (FF F0 env Z) (·∈all.map (adr Z)) H ms ds vs ((cJ ms as).map (adr Z)):=by
 have iAll:∀ b,b∈all.map (adr Z)->IA env Z b:=fun b hb=>by
  obtain ⟨i,hi,e⟩:=Ji.mp hb;have m:=hall i hi;obtain ⟨d,m'⟩:=m;have:∃ a,Z[i]?=some (some (.ref a)):=by
   rcases m' with z | z
   ·obtain ⟨a,s,_⟩:=R.own i d z;exact ⟨a,s⟩
   ·obtain ⟨a,s,_⟩:=R.ino i d z;exact ⟨a,s⟩
  obtain ⟨a,s⟩:=this;rw [gz s] at e;subst e;exact ⟨i,hall i hi,s⟩
 intro ms;induction ms with
 | nil =>
  intro as ds vs h q _ _ _;cases as with
  | nil=>cases h;rw [show vs=[] from q];rfl
  | cons a as=>cases h
 | cons m ms ih =>
  intro as ds vs h q nd hb hi;cases as with
  | nil=>cases h
  | cons a as =>
   obtain ⟨d,r,rfl,h1,h2⟩:=jB h;obtain ⟨v,vr,rfl,q1,q2⟩:=q;cases m with
   | dat =>
    cases a with
    | bor i=>cases h1
    | dat d' =>
     cases h1;exact ⟨q1,ih h2 q2 (by simpa [cJ] using nd) (by simpa [sR] using hb) (by simpa [cJ] using hi)⟩
   | bor =>
    cases a with
    | dat d' =>
     by_cases ct:∃ ts,d'=.tuple ts
     ·obtain ⟨ts,rfl⟩:=ct;cases h1;exact ⟨q1,ih h2 q2 (by simpa [cJ] using nd) (by simpa [sR] using hb) (by simpa [cJ] using hi)⟩
     have l:d'=d/\((∃ ds,d=.list ds)\/∃ ds,d=.dict ds):=by
      cases d' <;> first | exact absurd ⟨_,rfl⟩ ct | (cases h1;exact ⟨rfl,.inl ⟨_,rfl⟩⟩) | (cases h1;exact ⟨rfl,.inr ⟨_,rfl⟩⟩) | cases h1
     obtain ⟨rfl,l⟩:=l;obtain ⟨b,e,t⟩:=Dm.ro (I:=(·∈all.map (adr Z))) q1 (fun b z=>R.ia (iAll b z)) l;exact ⟨by rcases l with ⟨_,rfl⟩ | ⟨_,rfl⟩ <;> exact ⟨b,e,t⟩,ih h2 q2 (by simpa [cJ] using nd) (by simpa [sR] using hb) (by simpa [cJ] using hi)⟩
    | bor i =>
     have h1:xH env i=some d:=h1;have hb':i ∉ all:=hb i (by simp [sR]);refine ⟨?_,ih h2 q2 (by simpa [cJ] using nd) (fun j hj=>hb j (by simp [sR,hj])) (by simpa [cJ] using hi)⟩;unfold xH at h1;have na:∀ a,mu env i->Z[i]?=some (some (.ref a))->a ∉ all.map (adr Z):=fun a m s z=>by
      obtain ⟨j,hj,e⟩:=Ji.mp z;obtain ⟨k,mk,sk⟩:=iAll a z;obtain ⟨dj,mj⟩:=hall j hj;have:∃ c,Z[j]?=some (some (.ref c)):=by
       rcases mj with z | z
       ·obtain ⟨a,s,_⟩:=R.own j dj z;exact ⟨a,s⟩
       ·obtain ⟨a,s,_⟩:=R.ino j dj z;exact ⟨a,s⟩
      obtain ⟨c,sj⟩:=this;rw [gz sj] at e;subst e;have:=R.sep i j c m ⟨dj,mj⟩ s sj;subst this;exact hb' hj
     split at h1
     ·rename_i d' e;cases h1;obtain ⟨a,s,_,_,t⟩:=R.own i d e;rw [show Z[i]?=some (some v) from q1] at s;cases s;exact fj.bor (t.ro (na a ⟨d,.inl e⟩ q1))
     ·rename_i d' e;cases h1;obtain ⟨a,s,_,_,t⟩:=R.ino i d e;rw [show Z[i]?=some (some v) from q1] at s;cases s;exact fj.bor (t.ro (na a ⟨d,.inr e⟩ q1))
     ·rename_i d' e;cases h1;obtain ⟨a,s,t⟩:=R.ro i d e;rw [show Z[i]?=some (some v) from q1] at s;cases s;exact fj.bor (t.pr Pr.refl (fun _ z=>z) iAll fun _ _ z _=>z)
     ·cases h1
   | ino =>
    cases a with
    | dat d'=>cases h1
    | bor i =>
     have h1:aR env i=some d:=h1;obtain ⟨m,b,s,f,t⟩:=R.c0 h1;rw [show Z[i]?=some (some v) from q1] at s;cases s;have nd':i ∉ cJ ms as/\(cJ ms as).Nodup:=by simpa [cJ] using nd
     refine ⟨b,(cJ ms as).map (adr Z),rfl,by simp [cJ,gz q1],f,t,fun z=>?_,ih h2 q2 nd'.2 (by simpa [sR] using hb) (fun j hj=>hi j (by simp [cJ,hj]))⟩;obtain ⟨j,hj,e⟩:=Ji.mp z;obtain ⟨dj,mj⟩:=hall j (hi j (by simp [cJ,hj]));have:∃ c,Z[j]?=some (some (.ref c)):=by
      rcases mj with z | z
      ·obtain ⟨a,s,_⟩:=R.own j dj z;exact ⟨a,s⟩
      ·obtain ⟨a,s,_⟩:=R.ino j dj z;exact ⟨a,s⟩
     obtain ⟨c,sj⟩:=this;rw [gz sj] at e;subst e;have:=R.sep i j c m ⟨dj,mj⟩ q1 sj;subst this;exact nd'.1 hj
theorem rJ:∀ {ms:List PM} {as:List AV} {ds:List PyData},jw env ms as=some ds->∀ i∈cJ ms as,mu env i
 | [],[],_,_,i,h=>by simp [cJ] at h
 | [],_ :: _,_,h,_,_=>by cases h
 | _ :: _,[],_,h,_,_=>by cases h
 | m :: ms,a :: as,_,h,i,hi=>by
  obtain ⟨d,r,rfl,h1,h2⟩:=jB h;have ih:=rJ h2 i;cases m with
  | dat=>exact ih (by simpa [cJ] using hi)
  | bor=>exact ih (by simpa [cJ] using hi)
  | ino =>
   cases a with
   | dat d'=>cases h1
   | bor j =>
    simp only [cJ,Iq] at hi;rcases hi with rfl | hi
    ·rcases nG h1 with e | e
     ·exact ⟨d,.inl e⟩
     ·exact ⟨d,.inr e⟩
    ·exact ih hi
theorem kZ:∀ (env:En) (is:List Nat) (ds:List PyData),SmK env (da env is ds)
 | env,[],ds=>by unfold da;exact SmK.refl _
 | env,i :: is,[]=>by unfold da;exact SmK.refl _
 | env,i :: is,d :: ds=>by unfold da;exact (d8 env i d).trans (kZ _ is ds)
theorem iY:∀ (env:En) (is:List Nat) (ds:List PyData) (j:Nat),j ∉ is->(da env is ds)[j]?=env[j]?
 | env,[],ds,j,_=>by unfold da;rfl
 | env,i :: is,[],j,_=>by unfold da;rfl
 | env,i :: is,d :: ds,j,h=>by
  unfold da;have n:j≠i:=fun z=>h (by rw [z];exact IE);rw [iY _ is ds j (fun z=>h (Ip _ z)),j3 n]
theorem kG {G:Addr->Prop}:∀ {env:En} {is:List Nat} {ds:List PyData} {j:Nat} {c:PyData},is.Nodup->(∀ i∈is,mu env i)->hU K G H ds (is.map (adr Z))->j∈is->aR (da env is ds) j=some c->Top K G H c (adr Z j)
 | env,[],ds,j,c,_,_,_,h,_=>by simp at h
 | env,i :: is,[],j,c,_,_,h,_,_=>by simp [hU] at h
 | env,i :: is,d :: ds,j,c,nd,hm,h,hj,hc=>by
  obtain ⟨n1,nd'⟩:=Jo.mp nd;have h':Top K G H d (adr Z i)/\hU K G H ds (is.map (adr Z)):=h;unfold da at hc;rcases Iq.mp hj with rfl | hj
  ·have e:=iY (gG env j d) is ds j n1;have:aR (gG env j d) j=some c:=by unfold aR at hc ⊢;rwa [e] at hc
   rw [ke (hm j IE)] at this;cases this;exact h'.1
  ·exact kG (env:=gG env i d) nd' (fun k hk=>(d8 env i d).symm.kp.mu (hm k (Ip _ hk))) h'.2 hj hc
theorem gQ:∀ {is:List Nat},yZ is=true->is.Nodup
 | [],_=>List.nodup_nil
 | x :: xs,h=>by
  have h':xs.contains x=false/\yZ xs=true:=by simpa [yZ] using h
  exact Jo.mpr ⟨fun z=>by simp [z] at h',gQ h'.2⟩
theorem y0 {is bs:List Nat} {n:Nat} (h:ckA is bs n=true):is.Nodup/\(∀ i∈bs,i ∉ is)/\n=is.length:=by
 unfold ckA at h;simp only [IV,JY,KH] at h;exact ⟨gQ h.1,fun i hi z=>by have:=h.2.1 i hi;simp [z] at this,h.2.2⟩
theorem s_call {f:Fn} {as:XA} (ih:SA K ga gd as):SE K ga gd (.call f as):=by
 intro env rv env' h F0 ZM I Z H Q R q;simp only [dE] at h;split at h
 ·rename_i avs e1 h1;unfold vC at h;split at h
  ·cases h
  ·rename_i ds h2;split at h
   ·cases h
   ·rename_i pr outs h3;split at h
    ·rename_i hc;obtain ⟨nd,hb,hl⟩:=y0 hc;cases h;refine ih _ _ _ h1 F0 ZM I Z H _ R fun vs H1 R1 k1 a1=>?_;show cU f K (vs++[]) H1 Q NoE;rw [Jy];have hmu:=rJ h2;refine ⟨FF F0 e1 Z,ds,(cJ f.ms avs).map (adr Z),pr,outs,h3,CF R1 (cJ f.ms avs) hmu h2 a1 nd hb (fun _ z=>z),fun b z=>R1.eJ z,fun v H2 hk hr=>?_⟩;have k:=kZ e1 (cJ f.ms avs) outs;have eF:=k.ff (F0:=F0) (Z:=Z);have eI:=k.ia (Z:=Z);have isIA:∀ b,b∈(cJ f.ms avs).map (adr Z)->IA e1 Z b:=fun b hb=>by
      obtain ⟨i,hi,e⟩:=Ji.mp hb;obtain ⟨d,m'⟩:=hmu i hi;have:∃ a,Z[i]?=some (some (.ref a)):=by
       rcases m' with z | z
       ·obtain ⟨a,s,_⟩:=R1.own i d z;exact ⟨a,s⟩
       ·obtain ⟨a,s,_⟩:=R1.ino i d z;exact ⟨a,s⟩
      obtain ⟨a,s⟩:=this;rw [gz s] at e;subst e;exact ⟨i,hmu i hi,s⟩
     have hk':∀ b o,H1 b=some o->¬IA e1 Z b->H2 b=some o:=fun b o e n=>hk b o e fun z=>n (isIA b z);have jg:∀ j d a,j ∉ cJ f.ms avs->aR (da e1 (cJ f.ms avs) outs) j=some d->Z[j]?=some (some (.ref a))->aR e1 j=some d/\a ∉ (cJ f.ms avs).map (adr Z):=fun j d a hj hm hs=>by
      have hm':aR e1 j=some d:=by unfold aR at hm ⊢;rwa [iY _ _ _ _ hj] at hm
      refine ⟨hm',fun z=>?_⟩;obtain ⟨i,hi,e⟩:=Ji.mp z;obtain ⟨i',m2,s2⟩:=isIA a z;obtain ⟨di,mi⟩:=hmu i hi;have:∃ a,Z[i]?=some (some (.ref a)):=by
       rcases mi with z | z
       ·obtain ⟨a,s,_⟩:=R1.own i di z;exact ⟨a,s⟩
       ·obtain ⟨a,s,_⟩:=R1.ino i di z;exact ⟨a,s⟩
      obtain ⟨c,sc⟩:=this;rw [gz sc] at e;subst e;have:=R1.sep j i c (R1.c0 hm').1 ⟨di,mi⟩ hs sc;subst this;exact hj hi
     cases pr with
     | dat d =>
      obtain ⟨hd,ht⟩:=hr;refine q v H2 (R1.chg k hk' fun j c a hm hs=>?_) (k1.trans k.kp) (show Dm K _ H2 d v by rw [eF];exact hd);by_cases hj:j∈cJ f.ms avs
      ·have:=kG nd hmu ht hj hm
       rwa [gz hs] at this
      ·obtain ⟨hm',ha⟩:=jg j c a hj hm hs;obtain ⟨_,a',s',_,t'⟩:=R1.c0 hm';rw [hs] at s';cases s';exact t'.pr (R1.oD hk') (fun _ z=>z) fun o e=>hk a o e ha
     | frs d =>
      obtain ⟨c,ev,hn,td,ht⟩:=hr;obtain ⟨o,ho,_⟩:=td.wr;have sm:aA H1 (upd H1 c o):=aA.nw o hn;have R1c:=R1.fresh (c:=c) hn sm (by rw [ai];exact nofun);have cIA:¬IA e1 Z c:=fun z=>by obtain ⟨o',z,_⟩:=R1.iaT z;rw [hn] at z;cases z
      have hkc:∀ b o',upd H1 c o b=some o'->¬IA e1 Z b->H2 b=some o':=fun b o' e n=>by
       by_cases z:b=c
       ·subst z;rw [ai] at e;cases e;exact ho
       ·rw [ae z] at e;exact hk' b o' e n
      have pF:Pr (fun b=>FF F0 e1 Z b\/b=c) H1 H2:=fun b o' e n=>hk' b o' e fun y=>by
       rcases n with n | n
       ·exact n (.inl (R1.ia y))
       ·obtain ⟨o2,h2,w2⟩:=R1.iaT y;rw [e] at h2;cases h2;rw [n] at w2;cases w2
      have R2c:Rel K (fun b=>F0 b\/b=c) ZM I (da e1 (cJ f.ms avs) outs) Z H2:=by
       refine R1c.chg k hkc fun j c' a hm hs=>?_;rw [fw];by_cases hj:j∈cJ f.ms avs
       ·have:=kG nd hmu ht hj hm
        rwa [gz hs] at this
       ·obtain ⟨hm',ha⟩:=jg j c' a hj hm hs;obtain ⟨_,a',s',_,t'⟩:=R1.c0 hm';rw [hs] at s';cases s';exact (t'.fresh hn).pr pF (fun _ z=>z) fun o e=>hk a o e ha
      have nino:∀ (i:Nat) (d':PyData),(da e1 (cJ f.ms avs) outs)[i]?=some (.ino d')->Z[i]?≠some (some (.ref c)):=fun i d' e' z=>cIA ⟨i,k.kp.mu ⟨d',.inr e'⟩,z⟩;have rv:eG K F0 ZM I (da e1 (cJ f.ms avs) outs) Z H2 (.frs d) v:=by
       refine ⟨c,ev,R2c,by rw [eF];exact td,R1.oi (.inl hn),fun z=>?_,nino,fun i d' e'=>?_⟩
       ·rw [eF] at z;exact R1.eJ z hn
       ·have e0:e1[i]?=some (.ro d'):=by
         rcases k.2 i with y | ⟨_,_,_,y⟩ | ⟨_,_,_,y⟩
         ·rw [<- y];exact e'
         ·rw [e'] at y;cases y
         ·rw [e'] at y;cases y
        obtain ⟨b,s,t⟩:=R1.ro i d' e0;rw [eF,eI];exact ⟨b,s,((t.fresh hn).wN hn).pr pF (fun _ z=>z) (fun _ z=>z) fun b o' e n=>hk' b o' e fun z=>n (.inl z)⟩
      exact q v H2 rv.rel (k1.trans k.kp) rv
    ·cases h
 ·cases h
theorem Ee {as:XA} (ih:SA K ga gd as):SE K ga gd (.tup as):=by
 intro env rv env' h F0 ZM I Z H Q R q;simp only [dE] at h;split at h
 ·rename_i avs e1 h1;split at h
  ·rename_i ds h2;split at h
   ·rename_i hl;cases h;refine ih _ _ _ h1 F0 ZM I Z H _ R fun vs H1 R1 k1 a1=>?_;have dl:=a1.nu h2;have hl':vs.length<=sizeLine:=by rw [dl.len];exact hl
    refine ⟨hl',fun p hp=>?_⟩;have s:=aA.nw (.tup vs) hp;exact q _ _ (R1.same s) k1 ⟨p,vs,rfl,.inl (.inl ai),hl',dl.pr (Pr.of_same s) fun _ z=>z⟩
   ·cases h
  ·cases h
 ·cases h
theorem D9 {as:XA} (ih:SA K ga gd as):SE K ga gd (.lst as):=by
 intro env rv env' h F0 ZM I Z H Q R q;simp only [dE] at h;split at h
 ·rename_i avs e1 h1;split at h
  ·rename_i ds h2;split at h
   ·rename_i hl;cases h;refine ih _ _ _ h1 F0 ZM I Z H _ R fun vs H1 R1 k1 a1=>?_;have dl:=a1.nu h2;have hl':vs.length<=sizeLine:=by rw [dl.len];exact hl
    refine ⟨hl',fun p hp=>?_⟩;have s:=aA.nw (.lst vs) hp;exact q _ _ (R1.same s) k1 (R1.l4 (pr:=.frs (.list ds)) s ⟨p,rfl,hp,vs,ai,hl',(dl.fresh hp).pr (Pr.of_same s) fun _ z=>z⟩)
   ·cases h
  ·cases h
 ·cases h
theorem F9 {as:XA} (ih:SF K ga gd as):SE K ga gd (.fst as):=by
 intro env rv env' h F0 ZM I Z H Q R q;simp only [dE] at h;split at h
 ·rename_i x e1 h1;cases h;exact ih _ _ _ _ h1 F0 ZM I Z H _ R (show PyData.strOk ⟨#[]⟩=true by simp [PyData.strOk]) fun H1 R1 k1 hl ho=>q _ H1 R1 k1 ⟨rfl,hl,ho⟩
 ·cases h
theorem FW:SF K ga gd .nil:=by
 intro out env x env' h F0 ZM I Z H Q R ok q;simp only [dF] at h;split at h
 ·rename_i hl;cases h;exact ⟨hl,q H R (KpE.refl _) hl ok⟩
 ·cases h
theorem zW {e:XE} {r:XA} (ie:SE K ga gd e) (ir:SF K ga gd r):SF K ga gd (.cons e r):=by
 intro out env x env' h F0 ZM I Z H Q R ok q;simp only [dF] at h;split at h
 ·rename_i y e1 h1;split at h
  ·rename_i hl;refine ie _ _ _ h1 F0 ZM I Z H _ R fun v H1 R1 k1 a1=>?_;obtain ⟨rfl,_,oky⟩:=(show v=.str y/\y.length<=sizeLine/\PyData.strOk y=true from a1);refine ⟨y,rfl,hl,?_⟩;exact ir _ _ _ _ h F0 ZM I Z H1 _ R1 (lK ok oky) fun H2 R2 k2 hx=>q H2 R2 (k1.trans k2) hx
  ·cases h
 ·cases h
theorem FC:SA K ga gd .nil:=by
 intro env rv env' h F0 ZM I Z H Q R q;simp only [dA] at h;cases h;exact q [] H R (KpE.refl _) rfl
theorem zK {e:XE} {r:XA} (ie:SE K ga gd e) (ir:SA K ga gd r):SA K ga gd (.cons e r):=by
 intro env rv env' h F0 ZM I Z H Q R q;simp only [dA] at h;split at h
 ·rename_i rv0 e1 h1;split at h
  ·rename_i avs e2 h2;cases h;refine ie _ _ _ h1 F0 ZM I Z H _ R fun v H1 R1 k1 a1=>?_;refine ir _ _ _ h2 F0 _ _ Z H1 _ R1.rebase fun vs H2 S2 k2 a2=>?_;exact q (v :: vs) H2 (R1.bp S2) (k1.trans k2) ⟨v,vs,rfl,a1.av.keep R1 S2 k2,a2⟩
  ·cases h
 ·cases h
end
open PySem
section
variable {K:Fg} {F F' I I' F0:Addr->Prop} {H H' ZM:Hp} {env env':En} {Z Z':St} {ga:Nat->V} {gd:List PyData}
theorem Ff {c:XT} {a b:XE} (ic:ST K ga gd c) (ia:SE K ga gd a) (ib:SE K ga gd b):SE K ga gd (.ifx c a b):=by
 intro env rv env' h F0 ZM I Z H Q R q;simp only [dE] at h;split at h
 ·rename_i e1 h1;refine ic _ _ _ h1 F0 ZM I Z H _ R fun H1 R1 k1=>?_;rw [Iy rfl];exact ia _ _ _ h F0 ZM I Z H1 _ R1 fun v H2 R2 k2 r=>q v H2 R2 (k1.trans k2) r
 ·rename_i e1 h1;refine ic _ _ _ h1 F0 ZM I Z H _ R fun H1 R1 k1=>?_;rw [ID (by decide)];exact ib _ _ _ h F0 ZM I Z H1 _ R1 fun v H2 R2 k2 r=>q v H2 R2 (k1.trans k2) r
 ·cases h
theorem As {a b:XE} (ia:SE K ga gd a) (ib:SE K ga gd b):SE K ga gd (.nc a b):=by
 intro env rv env' h F0 ZM I Z H Q R q;simp only [dE] at h;split at h
 ·rename_i e1 h1;refine ia _ _ _ h1 F0 ZM I Z H _ R fun v H1 R1 k1 r1=>⟨true,r1,?_⟩;rw [Iy rfl];exact ib _ _ _ h F0 ZM I Z H1 _ R1 fun v H2 R2 k2 r=>q v H2 R2 (k1.trans k2) r
 ·rename_i e1 h1;cases h;refine ia _ _ _ h1 F0 ZM I Z H _ R fun v H1 R1 k1 r1=>⟨false,r1,?_⟩;rw [ID (by decide)];exact q _ H1 R1 k1 rfl
 ·cases h
theorem DT {a b:XE} (ia:SE K ga gd a) (ib:SE K ga gd b):SE K ga gd (.orv a b):=by
 intro env rv env' h F0 ZM I Z H Q R q;simp only [dE] at h;split at h
 ·rename_i e1 h1;cases h;refine ia _ _ _ h1 F0 ZM I Z H _ R fun v H1 R1 k1 r1=>⟨true,r1,?_⟩;rw [Iy rfl];exact q _ H1 R1 k1 rfl
 ·rename_i e1 h1;refine ia _ _ _ h1 F0 ZM I Z H _ R fun v H1 R1 k1 r1=>⟨false,r1,?_⟩;rw [ID (by decide)];exact ib _ _ _ h F0 ZM I Z H1 _ R1 fun v H2 R2 k2 r=>q v H2 R2 (k1.trans k2) r
 ·cases h
theorem zQ {a:XE} (ia:SE K ga gd a):SE K ga gd (.ud a):=by
 intro env rv env' h F0 ZM I Z H Q R q;simp only [dE] at h;split at h
 ·rename_i x e1 h1;cases h;exact ia _ _ _ h1 F0 ZM I Z H _ R fun v H1 R1 k1 r1=>⟨x,r1,q _ H1 R1 k1 rfl⟩
 ·cases h
theorem EC {x y:PyData} {u v:V} (hx:Vw K F H x u) (hy:Vw K F H y v):VwL K F H [x,y] [u,v]:=⟨u,[v],rfl,hx,v,[],rfl,hy,rfl⟩
theorem E7 {p p':Prm} {a b c:XE} (ia:SE K ga gd a) (ib:SE K ga gd b) (ic:SE K ga gd c):SE K ga gd (.chn p p' a b c):=by
 intro env rv env' h F0 ZM I Z H Q R q;simp only [dE] at h;split at h
 ·rename_i ra e1 h1;split at h
  ·rename_i rb e2 h2;split at h
   ·rename_i x y hx hy;refine ia _ _ _ h1 F0 ZM I Z H _ R fun v H1 R1 k1 r1=>?_;refine ib _ _ _ h2 F0 _ _ Z H1 _ R1.rebase fun u H2 S2 k2 r2=>?_;have R2:=R1.bp S2;have a1:=r1.av.keep R1 S2 k2;have a2:=r2.av;rw [hx] at a1;rw [hy] at a2;have dx:Dm K (FF F0 e2 Z) H2 x v:=a1;have dy:Dm K (FF F0 e2 Z) H2 y u:=a2;split at h
    ·rename_i hp;split at h
     ·rename_i rc e3 h3;split at h
      ·rename_i z hz;split at h
       ·rename_i pr hq;cases h;refine p.ok K _ H2 _ _ _ _ hp (EC dx.vw dy.vw) (fun b z=>R2.eJ z) fun w H3 s3 hw=>⟨true,hw,?_⟩;rw [Iy rfl];have R3:=R2.same s3;have dy3:Dm K (FF F0 e2 Z) H3 y u:=dy.pr (Pr.of_same s3) fun _ z=>z;refine ic _ _ _ h3 F0 _ _ Z H3 _ R3.rebase fun t H4 S4 k4 r4=>?_;have R4:=R3.bp S4;have a4:=r4.av;rw [hz] at a4;have dz:Dm K (FF F0 env' Z) H4 z t:=a4;refine p'.ok K _ H4 _ _ _ _ hq (EC (R3.n4 S4 k4 dy3).vw dz.vw) (fun b z=>R4.eJ z) fun w H5 s5 hw=>?_;exact q w H5 (R4.same s5) ((k1.trans k2).trans k4) (R4.l4 s5 hw)
       ·cases h
      ·cases h
     ·cases h
    ·rename_i hp;cases h;refine p.ok K _ H2 _ _ _ _ hp (EC dx.vw dy.vw) (fun b z=>R2.eJ z) fun w H3 s3 hw=>⟨false,hw,?_⟩;rw [ID (by decide)];exact q _ H3 (R2.same s3) (k1.trans k2) rfl
    ·cases h
   ·cases h
  ·cases h
 ·cases h
theorem F8 {p:Int->Int->Prm} {a b c:XE} (ia:SE K ga gd a) (ib:SE K ga gd b) (ic:SE K ga gd c):SE K ga gd (.sl2 p a b c):=by
 intro env rv env' h F0 ZM I Z H Q R q;simp only [dE] at h;split at h
 ·rename_i ra e1 h1;split at h
  ·rename_i i e2 h2;split at h
   ·rename_i j e3 h3;split at h
    ·rename_i d hv;split at h
     ·rename_i pr hp;cases h;refine ia _ _ _ h1 F0 ZM I Z H _ R fun v H1 R1 k1 r1=>?_;refine ib _ _ _ h2 F0 _ _ Z H1 _ R1.rebase fun u H2 S2 k2 r2=>⟨i,r2,?_⟩;have R2:=R1.bp S2;have a1:=r1.av.keep R1 S2 k2;refine ic _ _ _ h3 F0 _ _ Z H2 _ R2.rebase fun w H3 S3 k3 r3=>⟨j,r3,?_⟩;have R3:=R2.bp S3;have a2:=a1.keep R2 S3 k3;refine (p i j).ok K _ H3 [d] [v] pr Q hp ⟨v,[],rfl,a2.vw R3 hv,rfl⟩ (fun b z=>R3.eJ z) fun w H4 s4 hw=>?_;exact q w H4 (R3.same s4) ((k1.trans k2).trans k3) (R3.l4 s4 hw)
     ·cases h
    ·cases h
   ·cases h
  ·cases h
 ·cases h
theorem FZ {e:XE} (ie:SE K ga gd e):ST K ga gd (.tst e):=by
 intro env b env' h F0 ZM I Z H Q R q;simp only [dT] at h;split at h
 ·rename_i x e1 h1;cases h;exact ie _ _ _ h1 F0 ZM I Z H _ R fun v H1 R1 k1 r1=>⟨_,r1,q H1 R1 k1⟩
 ·cases h
theorem jQ {ds:List PyData} {vs:List V} (h:DmL K F H ds vs):vs.isEmpty=ds.isEmpty:=by
 cases ds with
 | nil=>rw [show vs=[] from h];rfl
 | cons d ds=>obtain ⟨v,r,rfl,_⟩:=h;rfl
theorem Vw.tru {d:PyData} {v:V} (h:Vw K F H d v) (nd:DO d≠true):Ga K v H (F3 d):=by
 cases d with
 | none=>rw [show v=.non from h];rfl
 | bool b=>rw [show v=.bl b from h];rfl
 | int i=>rw [show v=.int i from h];rfl
 | str x=>obtain ⟨rfl,hl,_⟩:=(show v=.str x/\x.length<=sizeLine/\PyData.strOk x=true from h);exact ⟨hl,rfl⟩
 | list ds=>obtain ⟨a,rfl,xs,e,_,r⟩:=h;exact .inl ⟨xs,e,by rw [jQ r];rfl⟩
 | tuple ds=>obtain ⟨a,xs,rfl,e,_,r⟩:=h;exact .inr (.inl ⟨xs,e,by rw [jQ r];rfl⟩)
 | dict ds=>exact absurd rfl nd
theorem Er {e:XE} (ie:SE K ga gd e):ST K ga gd (.tru e):=by
 intro env b env' h F0 ZM I Z H Q R q;simp only [dT] at h;split at h
 ·rename_i x e1 h1;split at h
  ·rename_i d h2;split at h
   ·cases h
   ·rename_i nd;cases h;exact ie _ _ _ h1 F0 ZM I Z H _ R fun v H1 R1 k1 r1=>⟨_,(r1.av.vw R1 h2).tru nd,q H1 R1 k1⟩
  ·cases h
 ·cases h
theorem DW {a b:XT} (ia:ST K ga gd a) (ib:ST K ga gd b):ST K ga gd (.and a b):=by
 intro env x env' h F0 ZM I Z H Q R q;simp only [dT] at h;split at h
 ·rename_i e1 h1;refine ia _ _ _ h1 F0 ZM I Z H _ R fun H1 R1 k1=>?_;rw [Iy rfl];exact ib _ _ _ h F0 ZM I Z H1 _ R1 fun H2 R2 k2=>q H2 R2 (k1.trans k2)
 ·rename_i e1 h1;cases h;refine ia _ _ _ h1 F0 ZM I Z H _ R fun H1 R1 k1=>?_;rw [ID (by decide)];exact q H1 R1 k1
 ·cases h
theorem HI {a b:XT} (ia:ST K ga gd a) (ib:ST K ga gd b):ST K ga gd (.or a b):=by
 intro env x env' h F0 ZM I Z H Q R q;simp only [dT] at h;split at h
 ·rename_i e1 h1;cases h;refine ia _ _ _ h1 F0 ZM I Z H _ R fun H1 R1 k1=>?_;rw [Iy rfl];exact q H1 R1 k1
 ·rename_i e1 h1;refine ia _ _ _ h1 F0 ZM I Z H _ R fun H1 R1 k1=>?_;rw [ID (by decide)];exact ib _ _ _ h F0 ZM I Z H1 _ R1 fun H2 R2 k2=>q H2 R2 (k1.trans k2)
 ·cases h
theorem D6 {a:XT} (ia:ST K ga gd a):ST K ga gd (.not a):=by
 intro env x env' h F0 ZM I Z H Q R q;simp only [dT] at h;split at h
 ·rename_i b e1 h1;cases h;exact ia _ _ _ h1 F0 ZM I Z H _ R fun H1 R1 k1=>q H1 R1 k1
 ·cases h
theorem Ex:ST K ga gd .yes:=by
 intro env x env' h F0 ZM I Z H Q R q;simp only [dT] at h;cases h;exact q H R (KpE.refl _)
theorem vQ {a:Addr} {vs:List V} {ds:List PyData} (hd:DmL K F H ds vs) (hl:vs.length<=sizeLine) (h:∀ H',(∀ b o,H b=some o->¬I b->H' b=some o)->SqL K H' a vs):ua K F I H (Itl K a) ds :=
 iw hd hl fun H' k j=>⟨fun hj=>⟨⟨vs,vs[j],h H' k,Ie hj⟩,fun x H'' y=>⟨y.1,y.2 vs (h H' k)⟩⟩,fun hj=>⟨vs,h H' k,hj⟩⟩
theorem B7 {a:Addr} {vs:List V} {ds:List PyData} (hd:DmL K F H ds vs) (hl:vs.length<=sizeLine) (h:∀ H',(∀ b o,H b=some o->¬I b->H' b=some o)->SqT K H' a vs):ua K F I H (Itt K a) ds :=
 iw hd hl fun H' k j=>⟨fun hj=>⟨⟨vs,vs[j],h H' k,Ie hj⟩,fun x H'' y=>⟨y.1,y.2 vs (h H' k)⟩⟩,fun hj=>⟨vs,h H' k,hj⟩⟩
theorem yJ {e:XE} (ie:SE K ga gd e):SI K ga gd (.lst e):=by
 intro env ds lock env' h F0 ZM I Z H Q R q;simp only [dI] at h;split at h
 ·rename_i rv e1 h1;split at h
  ·rename_i ds' hv;cases h;refine ie _ _ _ h1 F0 ZM I Z H _ R fun v H1 R1 k1 r1=>?_;have a1:=r1.av;rw [hv] at a1;obtain ⟨a,xs,rfl,l,z,r⟩:=(show Dm K (FF F0 env' Z) H1 (.list ds) v from a1);refine ⟨a,rfl,⟨xs,l.elim (fun q=>.inl q.2) .inr⟩,q _ H1 R1 k1 (fun i z=>by cases z) (vQ r z fun H' k=>?_)⟩;rcases l with ⟨n,l | ⟨o,l⟩⟩ | l
   ·exact .inl (.inl (k _ _ l fun z=>n (R1.ia z.1)))
   ·exact .inl (.inr ⟨o,k _ _ l fun z=>n (R1.ia z.1)⟩)
   ·exact .inr l
  ·cases h
  ·rename_i i hv;split at h
   ·rename_i ds' hc;cases h;refine ie _ _ _ h1 F0 ZM I Z H _ R fun v H1 R1 k1 r1=>?_;have a1:=r1.av;rw [hv] at a1;have s:Z[i]?=some (some v):=a1;unfold cont at hc;have fin:∀ a xs,v=.ref a->DmL K (FF F0 env' Z) H1 ds xs->xs.length<=sizeLine->(∀ H',(∀ b o,H1 b=some o->¬(IA env' Z b/\∀ j,some i=some j->mu env' j->Z[j]?≠some (some (.ref b)))->H' b=some o)->SqL K H' a xs)->(∃ d,cont env' i=some d) ->
      ∃ a,v=.ref a/\(∃ xs,SqL K H1 a xs)/\Q (Itl K a) H1:=fun a xs ev r z k hcd =>
     ⟨a,ev,⟨xs,k H1 fun _ _ e _=>e⟩,q _ H1 R1 k1 (fun j hj=>by cases hj;exact hcd) (vQ r z k)⟩
    split at hc
    ·rename_i d e;cases hc;obtain ⟨a,s',_,_,xs,t,z,r⟩:=R1.own i _ e;rw [s] at s';cases s';exact fin a xs rfl r z (fun H' k=>.inl (.inl (k _ _ t fun y=>y.2 i rfl ⟨_,.inl e⟩ s))) ⟨_,by unfold cont;rw [e]⟩
    ·rename_i d e;cases hc;obtain ⟨a,s',_,_,xs,t,z,r⟩:=R1.ino i _ e;rw [s] at s';cases s';exact fin a xs rfl r z (fun H' k=>.inl (.inl (k _ _ t fun y=>y.2 i rfl ⟨_,.inr e⟩ s))) ⟨_,by unfold cont;rw [e]⟩
    ·rename_i d e;split at hc
     ·cases hc
     ·rename_i hf;cases hc;obtain ⟨a,s',xs,l,z,r⟩:=R1.ro i _ e;rw [s] at s';cases s';refine fin a xs rfl r z (fun H' k=>?_) ⟨_,by unfold cont;rw [e];exact ID hf⟩;rcases l with ⟨n,l | ⟨o,l⟩⟩ | l
      ·exact .inl (.inl (k _ _ l fun z=>n z.1))
      ·exact .inl (.inr ⟨o,k _ _ l fun z=>n z.1⟩)
      ·exact .inr l
    ·cases hc
   ·cases h
 ·cases h
theorem qu:∀ {kvs:List (PyData×PyData)} {xs:List (PyData×V×V)},DmP K F H kvs xs->DmL K F H (kvs.map (·.1)) (xs.map (·.2.1))
 | [],xs,h=>by rw [show xs=[] from h];rfl
 | (k,d) :: kvs,xs,h=>by
  obtain ⟨j,v,r,rfl,_,h0,_,h2⟩:=h;exact ⟨j,_,rfl,h0,qu h2⟩
theorem wK {a:Addr} {ep:Nat} {xs:List (PyData×V×V)} {kvs:List (PyData×PyData)} (hd:DmP K F H kvs xs) (hl:xs.length<=sizeLine) (h:∀ H':Hp,(∀ b o,H b=some o->¬I b->H' b=some o)->H' a=some (.dD ep xs)):ua K F I H (Itd a ep xs) (kvs.map (·.1)) :=
 iw (vs:=xs.map (·.2.1)) (qu hd) (by rw [Ic];exact hl) fun H' k j=>⟨fun hj=>⟨⟨h H' k,by rw [Ic] at hj;exact hj⟩,fun x H'' y=>⟨y.1,by rw [Ik];exact y.2⟩⟩,fun hj=>⟨h H' k,by rw [Ic] at hj;exact hj⟩⟩
theorem Ez {e:XE} (ie:SE K ga gd e):SI K ga gd (.dct e):=by
 intro env ds lock env' h F0 ZM I Z H Q R q;simp only [dI] at h;split at h
 ·rename_i rv e1 h1;split at h
  ·rename_i kvs hv;cases h;refine ie _ _ _ h1 F0 ZM I Z H _ R fun v H1 R1 k1 r1=>?_;have a1:=r1.av;rw [hv] at a1;obtain ⟨a,ep,xs,rfl,n,l,z,r⟩:=(show Dm K (FF F0 env' Z) H1 (.dict kvs) v from a1);exact ⟨a,ep,xs,rfl,l,q _ H1 R1 k1 (fun i z=>by cases z) (wK r z fun H' k=>k _ _ l fun z=>n (R1.ia z.1))⟩
  ·cases h
  ·rename_i i hv;split at h
   ·rename_i kvs hc;cases h;refine ie _ _ _ h1 F0 ZM I Z H _ R fun v H1 R1 k1 r1=>?_;have a1:=r1.av;rw [hv] at a1;have s:Z[i]?=some (some v):=a1;unfold cont at hc;have fin:∀ a ep xs,v=.ref a->DmP K (FF F0 env' Z) H1 kvs xs->xs.length<=sizeLine->(∀ H':Hp,(∀ b o,H1 b=some o->¬(IA env' Z b/\∀ j,some i=some j->mu env' j->Z[j]?≠some (some (.ref b)))->H' b=some o)->H' a=some (.dD ep xs))->(∃ d,cont env' i=some d) ->
      ∃ a ep xs,v=.ref a/\H1 a=some (.dD ep xs)/\Q (Itd a ep xs) H1:=fun a ep xs ev r z k hcd =>
     ⟨a,ep,xs,ev,k H1 fun _ _ e _=>e,q _ H1 R1 k1 (fun j hj=>by cases hj;exact hcd) (wK r z k)⟩
    split at hc
    ·rename_i d e;cases hc;obtain ⟨a,s',_,_,ep,xs,t,z,r⟩:=R1.own i _ e;rw [s] at s';cases s';exact fin a ep xs rfl r z (fun H' k=>k _ _ t fun y=>y.2 i rfl ⟨_,.inl e⟩ s) ⟨_,by unfold cont;rw [e]⟩
    ·rename_i d e;cases hc;obtain ⟨a,s',_,_,ep,xs,t,z,r⟩:=R1.ino i _ e;rw [s] at s';cases s';exact fin a ep xs rfl r z (fun H' k=>k _ _ t fun y=>y.2 i rfl ⟨_,.inr e⟩ s) ⟨_,by unfold cont;rw [e]⟩
    ·rename_i d e;split at hc
     ·cases hc
     ·rename_i hf;cases hc;obtain ⟨a,s',t⟩:=R1.ro i _ e;rw [s] at s';cases s';rcases t with ⟨ep,xs,n,l,z,r⟩ | ⟨es,rfl,_⟩
      ·exact fin a ep xs rfl r z (fun H' k=>k _ _ l fun z=>n z.1) ⟨_,by unfold cont;rw [e];exact ID hf⟩
      ·exact absurd rfl hf
    ·cases hc
   ·cases h
 ·cases h
theorem uN:∀ {kvs:List (PyData×PyData)} {xs:List (PyData×V×V)},DmP K F H kvs xs->(kvs.all fun p=>EH p.1)=true->TkX xs
 | [],xs,h,_=>by rw [show xs=[] from h];intro x hx;cases hx
 | (k,d) :: kvs,xs,h,hk=>by
  obtain ⟨j,v,r,rfl,_,h0,_,h2⟩:=h;rw [List.all_cons,IV] at hk;intro x hx;rcases Iq.mp hx with rfl | hx
  ·cases k with
   | str t=>exact ⟨t,rfl,h0.1⟩
   | _=>cases hk.1
  ·exact uN h2 hk.2 x hx
theorem wC:∀ {kvs:List (PyData×PyData)} {xs:List (PyData×V×V)} {i:Nat} {x:PyData×V×V},DmP K F H kvs xs->xs[i]?=some x->∃ k d,kvs[i]?=some (k,d)/\Dm K F H k x.2.1/\Dm K F H d x.2.2
 | [],xs,i,x,h,e=>by rw [show xs=[] from h] at e;cases e
 | (k,d) :: kvs,xs,i,x,h,e=>by
  obtain ⟨j,v,r,rfl,_,h0,h1,h2⟩:=h;cases i with
  | zero=>cases e;exact ⟨k,d,rfl,h0,h1⟩
  | succ i=>exact wC (i:=i) h2 e
theorem qt:∀ {kvs:List (PyData×PyData)} {xs:List (PyData×V×V)},DmP K F H kvs xs->kvs.length=xs.length
 | [],xs,h=>by rw [show xs=[] from h];rfl
 | (k,d) :: kvs,xs,h=>by
  obtain ⟨j,v,r,rfl,_,_,_,h2⟩:=h;rw [IH,IH,qt h2]
theorem Cw {a:Addr} {ep:Nat} {xs:List (PyData×V×V)} {kvs:List (PyData×PyData)} (hd:DmP K F H kvs xs) (tk:TkX xs) (hl:xs.length<=sizeLine) (h:∀ H':Hp,(∀ b o,H b=some o->¬I b->H' b=some o)->H' a=some (.dD ep xs)):ua K F I H (Iti a ep xs) (kvs.map fun p=>.tuple [p.1,p.2]):=by
 have el:(kvs.map fun p=>PyData.tuple [p.1,p.2]).length=xs.length:=by rw [Ic,qt hd]
 refine ⟨by rw [el];exact hl,fun H' k j=>⟨fun hj=>?_,fun hj=>?_⟩⟩
 ·rw [el] at hj;refine ⟨⟨h H' k,tk,hj⟩,?_⟩;rintro x H'' ⟨p,y,hp,rfl,hy,rfl⟩;obtain ⟨c,d,e1,d1,d2⟩:=wC hd hy;refine ⟨.tuple [c,d],?_,.inr ⟨p,y.2.1,y.2.2,c,d,rfl,rfl,hp,rfl,d1,d2⟩⟩;rw [Ik,e1];rfl
 ·rw [el] at hj;exact ⟨h H' k,tk,hj⟩
theorem DZ {e:XE} (ie:SE K ga gd e):SI K ga gd (.itm e):=by
 intro env ds lock env' h F0 ZM I Z H Q R q;simp only [dI] at h;split at h
 ·rename_i rv e1 h1;split at h
  ·rename_i kvs hv;split at h
   ·rename_i hk;cases h;refine ie _ _ _ h1 F0 ZM I Z H _ R fun v H1 R1 k1 r1=>?_;have a1:=r1.av;rw [hv] at a1;obtain ⟨a,ep,xs,rfl,n,l,z,r⟩:=(show Dm K (FF F0 env' Z) H1 (.dict kvs) v from a1);exact ⟨a,ep,xs,rfl,l,uN r hk,q _ H1 R1 k1 (fun i z=>by cases z) (Cw r (uN r hk) z fun H' k=>k _ _ l fun z=>n (R1.ia z.1))⟩
   ·cases h
  ·cases h
 ·cases h
theorem Bo {e:XE} (ie:SE K ga gd e):SI K ga gd (.tup e):=by
 intro env ds lock env' h F0 ZM I Z H Q R q;simp only [dI] at h;split at h
 ·rename_i rv e1 h1;split at h
  ·rename_i ds' hv;cases h;refine ie _ _ _ h1 F0 ZM I Z H _ R fun v H1 R1 k1 r1=>?_;have a1:=r1.av;rw [hv] at a1;obtain ⟨a,xs,rfl,l,z,r⟩:=(show Dm K (FF F0 env' Z) H1 (.tuple ds) v from a1);refine ⟨a,rfl,⟨xs,l⟩,q _ H1 R1 k1 (fun i z=>by cases z) (B7 r z fun H' k=>?_)⟩;exact l.pr (R1.oD fun b o e n=>k b o e fun z=>n z.1)
  ·cases h
 ·cases h
theorem Hf {e:XE} (ie:SE K ga gd e):SI K ga gd (.sq e):=by
 intro env ds lock env' h F0 ZM I Z H Q R q;simp only [dI] at h;split at h
 ·rename_i rv e1 h1;split at h
  ·rename_i ds' hv;exact .inl (yJ ie env ds lock env' (by simp only [dI,h1,hv];exact h) F0 ZM I Z H Q R q)
  ·rename_i ds' hv;exact .inr (Bo ie env ds lock env' (by simp only [dI,h1,hv];exact h) F0 ZM I Z H Q R q)
  ·cases h
  ·rename_i i hv;exact .inl (yJ ie env ds lock env' (by simp only [dI,h1,hv];exact h) F0 ZM I Z H Q R q)
 ·cases h
theorem xt:∀ {cs:List Nat},(∀ c∈cs,c < 0x110000)->DmL K F H (cs.map fun c=>.str ⟨#[c]⟩) (cs.map fun c=>.str ⟨#[c]⟩)
 | [],_=>rfl
 | c :: cs,h=>⟨_,_,rfl,⟨rfl,by show 1<=sizeLine;decide,by have:=h c IE;simp [PyData.strOk,this]⟩,xt fun x hx=>h x (Ip _ hx)⟩
theorem fu {x:Str} (h:PyData.strOk x=true):∀ c∈x.cps.toList,c < 0x110000:=fun c hc=>by
 unfold PyData.strOk at h;have:=Array.all_eq_true'.mp h c (by simpa using hc);simpa using this
theorem DI {e:XE} (ie:SE K ga gd e):SI K ga gd (.str e):=by
 intro env ds lock env' h F0 ZM I Z H Q R q;simp only [dI] at h;split at h
 ·rename_i rv e1 h1;split at h
  ·rename_i x hv;cases h;refine ie _ _ _ h1 F0 ZM I Z H _ R fun v H1 R1 k1 r1=>?_;have a1:=r1.av;rw [hv] at a1;obtain ⟨rfl,hl,ok⟩:=(show v=.str x/\x.length<=sizeLine/\PyData.strOk x=true from a1);have ez:x.cps.toList.length=x.length:=by simp [Str.length]
   refine ⟨x,rfl,q _ H1 R1 k1 (fun i z=>by cases z) (iw (xt (fu ok)) (by rw [Ic,ez];exact hl) fun H' k j=>⟨fun hj=>?_,fun hj=>?_⟩)⟩
   ·rw [Ic,ez] at hj;refine ⟨hj,fun y H'' hy=>?_⟩;obtain ⟨e,c,hc,rfl⟩:=hy;refine ⟨e,?_⟩;rw [Ik];have:x.cps.toList[j]?=some c:=by rw [<- hc];simp
    rw [this];rfl
   ·rw [Ic,ez] at hj;exact hj
  ·cases h
 ·cases h
theorem wb {f:Nat->Int}:∀ {cs:List Nat},DmL K F H (cs.map fun c=>.int (f c)) (cs.map fun c=>.int (f c))
 | []=>rfl
 | c :: cs=>⟨_,_,rfl,rfl,wb⟩
theorem vT {lo:Int} {n:Nat} (hn:n<=sizeLine):ua K F I H (Itr lo n) ((List.range n).map fun (k:Nat)=>.int (lo+(k:Int))):=by
 refine iw (vs:=(List.range n).map fun (k:Nat)=>.int (lo+(k:Int))) (wb (f:=fun k=>lo+(k:Int))) (by rw [Ic,JR];exact hn) fun H' k j=>⟨fun hj=>?_,fun hj=>?_⟩
 ·rw [Ic,JR] at hj;refine ⟨hj,fun y H'' hy=>⟨hy.1,?_⟩⟩;rw [Ik,List.getElem?_range hj,hy.2];rfl
 ·rw [Ic,JR] at hj;exact hj
theorem Aj {as:XA} (ia:SA K ga gd as):SI K ga gd (.rng1 as):=by
 intro env ds lock env' h F0 ZM I Z H Q R q;simp only [dI] at h;split at h
 ·rename_i avs e1 h1;split at h
  ·rename_i j;split at h
   ·rename_i hj;cases h;refine ia _ _ _ h1 F0 ZM I Z H _ R fun vs H1 R1 k1 a1=>?_;obtain ⟨v,r,rfl,hv,rfl⟩:=a1;have hv:v=.int j:=hv;subst hv;refine ⟨j,rfl,hj.1,by have:=hj.2;omega,q _ H1 R1 k1 (fun i z=>by cases z) (vT ?_)⟩;have:=hj.2;show j.toNat<=2 ^ 24;omega
   ·cases h
  ·cases h
 ·cases h
theorem Am {a b:Addr} {xs ys:List V} {ds es:List PyData} (hd:DmL K F H ds xs) (he:DmL K F H es ys) (hl:xs.length<=sizeLine) (h1:∀ H',(∀ b o,H b=some o->¬I b->H' b=some o)->SqL K H' a xs) (h2:∀ H',(∀ b o,H b=some o->¬I b->H' b=some o)->SqL K H' b ys):ua K F I H (Itz K a b xs ys) ((ds.zip es).map fun p=>.tuple [p.1,p.2]):=by
 have e1:=hd.len;have e2:=he.len;have el:((ds.zip es).map fun p=>PyData.tuple [p.1,p.2]).length=min xs.length ys.length:=by rw [Ic,List.length_zip,e1,e2]
 refine ⟨by rw [el];omega,fun H' k j=>⟨fun hj=>?_,fun hj=>?_⟩⟩
 ·rw [el] at hj;refine ⟨⟨h1 H' k,h2 H' k,by omega,by omega⟩,?_⟩;rintro x H'' ⟨p,u,v,hp,rfl,hu,hv,rfl⟩;obtain ⟨d,d1,d2⟩:=hd.get' hu;obtain ⟨e,e3,e4⟩:=he.get' hv;refine ⟨.tuple [d,e],?_,.inr ⟨p,u,v,d,e,rfl,rfl,hp,rfl,d2,e4⟩⟩;rw [Ik,show (ds.zip es)[j]?=some (d,e) from List.getElem?_zip_eq_some.mpr ⟨d1,e3⟩];rfl
 ·rw [el] at hj;exact ⟨h1 H' k,h2 H' k,by omega⟩
theorem E5 {as:XA} (ia:SA K ga gd as):SI K ga gd (.zip as):=by
 intro env ds lock env' h F0 ZM I Z H Q R q;simp only [dI] at h;split at h
 ·rename_i avs e1 h1;split at h
  ·rename_i x y;split at h
   ·rename_i xs ys hx hy;cases h;refine ia _ _ _ h1 F0 ZM I Z H _ R fun vs H1 R1 k1 a1=>?_;obtain ⟨v,r,rfl,hv,w,r2,rfl,hw,rfl⟩:=a1;have one:∀ {x:AV} {xs:List PyData} {v:V},roL env' x=some xs->vR K F0 env' Z H1 x v->∃ a us,v=.ref a/\us.length<=sizeLine/\DmL K (FF F0 env' Z) H1 xs us/\∀ H',(∀ b o,H1 b=some o->¬(IA env' Z b/\∀ i,none=some i->mu env' i->Z[i]?≠some (some (.ref b)))->H' b=some o)->SqL K H' a us:=by
     intro x xs v hx hv;unfold roL at hx;split at hx
     ·cases hx;obtain ⟨a,us,rfl,l,z,r⟩:=(show Dm K (FF F0 env' Z) H1 (.list xs) v from hv);refine ⟨a,us,rfl,z,r,fun H' k=>?_⟩;rcases l with ⟨n,l | ⟨o,l⟩⟩ | l
      ·exact .inl (.inl (k _ _ l fun z=>n (R1.ia z.1)))
      ·exact .inl (.inr ⟨o,k _ _ l fun z=>n (R1.ia z.1)⟩)
      ·exact .inr l
     ·rename_i i;split at hx
      ·rename_i e;cases hx;have s:Z[i]?=some (some v):=hv;obtain ⟨a,s',us,l,z,r⟩:=R1.ro i _ e;rw [s] at s';cases s';refine ⟨a,us,rfl,z,r,fun H' k=>?_⟩;rcases l with ⟨n,l | ⟨o,l⟩⟩ | l
       ·exact .inl (.inl (k _ _ l fun z=>n z.1))
       ·exact .inl (.inr ⟨o,k _ _ l fun z=>n z.1⟩)
       ·exact .inr l
      ·cases hx
     ·cases hx
    obtain ⟨a,us,rfl,za,ra,sa⟩:=one hx hv;obtain ⟨b,ws,rfl,zb,rb,sb⟩:=one hy hw;exact ⟨a,b,us,ws,rfl,sa H1 fun _ _ e _=>e,sb H1 fun _ _ e _=>e,q _ H1 R1 k1 (fun i z=>by cases z) (Am ra rb za sa sb)⟩
   ·cases h
  ·cases h
 ·cases h
theorem Cr {as:XA} (ia:SA K ga gd as):SI K ga gd (.rng2 as):=by
 intro env ds lock env' h F0 ZM I Z H Q R q;simp only [dI] at h;split at h
 ·rename_i avs e1 h1;split at h
  ·rename_i i j;split at h
   ·rename_i hj;cases h;refine ia _ _ _ h1 F0 ZM I Z H _ R fun vs H1 R1 k1 a1=>?_;obtain ⟨v,r,rfl,hv,w,r2,rfl,hw,rfl⟩:=a1;have hv:v=.int i:=hv;have hw:w=.int j:=hw;subst hv hw;refine ⟨i,j,rfl,⟨hj.1,hj.2.1,hj.2.2.1,hj.2.2.2.1⟩,q _ H1 R1 k1 (fun i z=>by cases z) (vT ?_)⟩;have:=hj.2.2.2.2;show (j - i).toNat<=2 ^ 24;omega
   ·cases h
  ·cases h
 ·cases h
end
open PySem
section
variable {K:Fg} {F F' I I' F0:Addr->Prop} {H H' ZM:Hp} {env env':En} {Z Z':St} {ga:Nat->V} {gd:List PyData}
theorem eG.carry {d:PyData} {p:Addr} (h:eG K F0 ZM I env Z H (.frs d) (.ref p)) (S:Rel K (fun b=>F0 b\/b=p) H (IA env Z) env' Z H') (k:KpE env env'):eG K F0 ZM I env' Z H' (.frs d) (.ref p):=by
 obtain ⟨a,ea,R,t,w,nF,hi,hr⟩:=h;cases ea;have cIA:¬IA env Z p:=fun z=>by
  obtain ⟨i,⟨c,e | e⟩,s⟩:=z
  ·exact nF (.inr ⟨i,c,e,s⟩)
  ·exact hi i c e s
 have R':=R.bp S;have hk:∀ b o,H b=some o->¬IA env Z b->H' b=some o:=S.dg;have pF:Pr (fun b=>FF F0 env Z b\/b=p) H H':=by
  have:=R.oD hk
  rwa [fw] at this
 have hf:∀ b,(FF F0 env' Z b\/b=p)->(FF F0 env Z b\/b=p):=fun b z=>z.imp (fun z=>k.ff z) id;refine ⟨p,rfl,R',t.pr pF hf fun o e=>hk p o e cIA,w,fun z=>nF (k.ff z),fun i c e s=>cIA ⟨i,k.mu ⟨c,.inr e⟩,s⟩,fun i c e=>?_⟩;obtain ⟨s,e0,ev⟩:=k.back e;have es:s=.ro c:=by
  cases s with
  | un=>cases ev
  | dat _=>cases ev
  | own _=>rcases ev with ⟨_,v⟩ | ⟨_,v⟩ | v <;> cases v
  | ino _=>obtain ⟨_,v⟩:=ev;cases v
  | ro d'=>cases ev;rfl
 subst es;obtain ⟨b,q,t'⟩:=hr i c e0;exact ⟨b,q,t'.pr pF hf (fun b z=>z.imp (fun z=>k.ia z) id) fun b o e n=>hk b o e fun z=>n (.inl z)⟩
theorem eG.put {d d':PyData} {p:Addr} {o:HO} (h:eG K F0 ZM I env Z H (.frs d) (.ref p)) (ht:Top K (fun b=>FF F0 env Z b\/b=p) (upd H p o) d' p):eG K F0 ZM I env Z (upd H p o) (.frs d') (.ref p):=by
 obtain ⟨a,ea,R,t,w,nF,hi,hr⟩:=h;cases ea;have cIA:¬IA env Z p:=fun z=>by
  obtain ⟨i,⟨c,e | e⟩,s⟩:=z
  ·exact nF (.inr ⟨i,c,e,s⟩)
  ·exact hi i c e s
 have pF:Pr (fun b=>FF F0 env Z b\/b=p) H (upd H p o):=fun b u e n=>by
  by_cases z:b=p
  ·subst z;rcases n with n | n
   ·exact absurd (.inr rfl) n
   ·obtain ⟨o',h',w'⟩:=t.wr;rw [e] at h';cases h';rw [n] at w';cases w'
  ·rw [ae z];exact e
 have eF:FF (fun b=>F0 b\/b=p) env Z=fun b=>FF F0 env Z b\/b=p:=fw;have nea:∀ i b,mu env i->Z[i]?=some (some (.ref b))->b≠p:=fun i b m s z=>cIA (z▸⟨i,m,s⟩);have hro:∀ (i:Nat) (d':PyData),env[i]?=some (.ro d')->∃ b,Z[i]?=some (some (.ref b))/\fj K (fun b=>FF F0 env Z b\/b=p) (fun b=>IA env Z b\/b=p) (upd H p o) d' b:=fun i c e=>by
  obtain ⟨b,q,t'⟩:=hr i c e;exact ⟨b,q,t'.pr pF (fun _ z=>z) (fun _ z=>z) fun b u e n=>by rw [ae (fun z=>n (.inr z))];exact e⟩
 refine ⟨p,rfl,⟨R.len,fun i c e=>?_,fun i c e=>?_,fun i c e=>?_,fun i c e=>?_,R.sep,fun b hb=>?_,fun b u e n=>?_⟩,ht,w,nF,hi,hro⟩
 ·obtain ⟨v,s,r⟩:=R.dat i c e;rw [eF] at r ⊢;exact ⟨v,s,r.pr pF fun _ z=>z⟩
 ·obtain ⟨b,s,n,w',t'⟩:=R.own i c e;rw [eF] at t' ⊢;exact ⟨b,s,n,w',t'.pr pF (fun _ z=>z) fun u e'=>by rw [ae (nea i b ⟨c,.inl e⟩ s)];exact e'⟩
 ·obtain ⟨b,s,n,w',t'⟩:=R.ino i c e;rw [eF] at t' ⊢;exact ⟨b,s,n,w',t'.pr pF (fun _ z=>z) fun u e'=>by rw [ae (nea i b ⟨c,.inr e⟩ s)];exact e'⟩
 ·obtain ⟨b,s,t'⟩:=hro i c e;rw [eF];exact ⟨b,s,t'.pr Pr.refl (fun _ z=>z) (fun _ z=>.inl z) fun _ _ z _=>z⟩
 ·by_cases z:b=p
  ·subst z;rw [ai];exact nofun
  ·rw [ae z];exact R.dom b hb
 ·have:=R.dg b u e n;by_cases z:b=p
  ·subst z;rcases w with w | w
   ·rw [e] at w;cases w
   ·exact absurd w n
  ·rw [ae z];exact this
theorem vZ (a b:Key):PyData.eqv (kD a) (kD b)=decide (a=b):=by
 cases a with
 | inl i=>cases b with
  | inl j=>by_cases z:i=j <;> simp [kD,PyData.eqv,z]
  | inr y=>simp [kD,PyData.eqv]
 | inr x=>cases b with
  | inl j=>simp [kD,PyData.eqv]
  | inr y=>by_cases z:x=y <;> simp [kD,PyData.eqv,z]
theorem wz {k:PyData}:∀ {ds:List (PyData×PyData)} {xs:List (PyData×V×V)},DmP K F H ds xs->(ds.any fun kv=>PyData.eqv kv.1 k)=xs.any fun x=>PyData.eqv x.1 k
 | [],xs,h=>by rw [show xs=[] from h];rfl
 | (k',d) :: ds,xs,h=>by
  obtain ⟨j,v,r,rfl,_,_,_,h2⟩:=h;rw [Kr,Kr,wz h2]
theorem tN {k d:PyData} {v:V} (hd:Dm K F H d v):∀ {ds:List (PyData×PyData)} {xs:List (PyData×V×V)},DmP K F H ds xs->DmP K F H (ds.map fun kv=>if PyData.eqv kv.1 k=true then (kv.1,d) else kv) (xs.map fun x=>if PyData.eqv x.1 k=true then (x.1,x.2.1,v) else x)
 | [],xs,h=>by rw [show xs=[] from h];rfl
 | (k',d') :: ds,xs,h=>by
  obtain ⟨j,w,r,rfl,e,h0,h1,h2⟩:=h;rw [List.map_cons,List.map_cons];by_cases z:PyData.eqv k' k=true
  ·rw [Iy z,Iy z];exact ⟨j,v,_,rfl,e,h0,hd,tN hd h2⟩
  ·rw [ID z,ID z];exact ⟨j,w,_,rfl,e,h0,h1,tN hd h2⟩
theorem wB {k d:PyData} {j v:V} (hk:hk6 k=true) (hj:Dm K F H k j) (hd:Dm K F H d v):∀ {ds:List (PyData×PyData)} {xs:List (PyData×V×V)},DmP K F H ds xs->DmP K F H (ds++[(k,d)]) (xs++[(k,j,v)])
 | [],xs,h=>by rw [show xs=[] from h];exact ⟨j,v,[],rfl,hk,hj,hd,rfl⟩
 | (k',d') :: ds,xs,h=>by
  obtain ⟨i,w,r,rfl,e,h0,h1,h2⟩:=h;exact ⟨i,w,_,rfl,e,h0,h1,wB hk hj hd h2⟩
theorem qJ {k d:PyData} {j v:V} {ds:List (PyData×PyData)} {xs:List (PyData×V×V)} (h:DmP K F H ds xs) (hk:hk6 k=true) (hj:Dm K F H k j) (hd:Dm K F H d v):DmP K F H (putD ds k d) (mn xs k j v):=by
 unfold putD mn;rw [wz h];split
 ·exact tN hd h
 ·exact wB hk hj hd h
theorem B9 {kvs:List (Key×V)} {k:Key} {v:V}:(putK kvs k v).map cvK=mn (kvs.map cvK) (kD k) (kV k) v:=by
 unfold putK mn;have e:((kvs.map cvK).any fun x=>PyData.eqv x.1 (kD k))=kvs.any fun kv=>decide (kv.1=k):=by
  rw [List.any_map];congr 1;funext kv;exact vZ _ _
 rw [e];split
 ·rw [Jl,Jl];refine List.map_congr_left fun kv _=>?_;show cvK (if kv.1=k then (kv.1,v) else kv)=if PyData.eqv (kD kv.1) (kD k)=true then _ else _
  rw [vZ];by_cases z:kv.1=k
  ·rw [Iy z,Iy (Jh z)];rfl
  ·rw [ID z,ID (by simp [z])]
 ·rw [Jx];rfl
theorem uD {kvs:List (Key×V)} {k:Key} {v:V}:(putK kvs k v).length<=kvs.length+1:=by
 unfold putK;split
 ·rw [Ic];exact Nat.le_succ _
 ·rw [Io];exact Il _
theorem AS (k:Key):hk6 (kD k)=true:=by cases k <;> rfl
theorem oo:∀ {kvs:List (Key×PyData)} {vs:List (Key×V)} {ds:List (PyData×PyData)} {xs:List (Key×V)},A4 K F H kvs vs->DmP K F H ds (xs.map cvK)->DmP K F H (kvs.foldl (fun acc kv=>putD acc (kD kv.1) kv.2) ds) ((dX xs vs).map cvK)/\(dX xs vs).length<=xs.length+vs.length
 | [],vs,ds,xs,h,q=>by rw [show vs=[] from h];exact ⟨q,Il _⟩
 | (k,d) :: kvs,vs,ds,xs,h,q=>by
  obtain ⟨v,r,rfl,h0,h1,h2⟩:=h;have:=oo h2 (xs:=putK xs k v) (by rw [B9];exact qJ q (AS k) h0 h1);refine ⟨this.1,IM this.2 ?_⟩;have:=uD (kvs:=xs) (k:=k) (v:=v);rw [IH];omega
theorem A4.len:∀ {kvs:List (Key×PyData)} {vs:List (Key×V)},A4 K F H kvs vs->vs.length=kvs.length
 | [],vs,h=>by rw [show vs=[] from h];rfl
 | (k,d) :: kvs,vs,h=>by
  obtain ⟨v,r,rfl,h0,h1,h2⟩:=h;rw [IH,IH,h2.len]
theorem Fd:SPs K ga gd .nil:=by
 intro env kvs env' h F0 ZM I Z H Q R q;simp only [dP] at h;cases h;exact q [] H R (KpE.refl _) rfl
theorem Cg {k e:XE} {r:XP} (ik:SE K ga gd k) (ie:SE K ga gd e) (ir:SPs K ga gd r):SPs K ga gd (.cons k e r):=by
 intro env kvs env' h F0 ZM I Z H Q R q;simp only [dP] at h;split at h
 ·rename_i rk e1 h1;split at h
  ·rename_i rv e2 h2;split at h
   ·rename_i kvs' e3 h3;split at h
    ·rename_i dk d hk hd;split at h
     ·rename_i key hkey;cases h;refine ik _ _ _ h1 F0 ZM I Z H _ R fun v H1 R1 k1 r1=>?_;refine ie _ _ _ h2 F0 _ _ Z H1 _ R1.rebase fun u H2 S2 k2 r2=>?_;have R2:=R1.bp S2;refine ir _ _ _ h3 F0 _ _ Z H2 _ R2.rebase fun vs H3 S3 k3 r3=>?_;have a1:=r1.av;rw [hk] at a1;have a2:=r2.av;rw [hd] at a2;have ev:v=kV key:=by
       cases dk with
       | int i=>cases hkey;exact (show v=.int i from a1)
       | str x=>cases hkey;exact (show v=.str x/\_ from a1).1
       | _=>cases hkey
      have dd:Dm K (FF F0 env' Z) H3 d u:=R2.n4 S3 k3 a2;have dk':Dm K (FF F0 env' Z) H3 (kD key) (kV key):=by
       cases dk with
       | int i=>cases hkey;rfl
       | str x=>cases hkey;exact ⟨rfl,(show v=.str x/\_ from a1).2⟩
       | _=>cases hkey
      rw [ev];exact q ((key,u) :: vs) H3 (R2.bp S3) ((k1.trans k2).trans k3) ⟨u,vs,rfl,dk',dd,r3⟩
     ·cases h
    ·cases h
   ·cases h
  ·cases h
 ·cases h
theorem EI {as:XP} (ih:SPs K ga gd as):SE K ga gd (.dsp as):=by
 intro env rv env' h F0 ZM I Z H Q R q;simp only [dE] at h;split at h
 ·rename_i kvs e1 h1;split at h
  ·rename_i hl;cases h;intro p hp;have s:=aA.nw (.dD 0 []) hp;have r0:eG K F0 ZM I env Z (upd H p (.dD 0 [])) (.frs (.dict [])) (.ref p):=R.l4 (pr:=.frs (.dict [])) s ⟨p,rfl,hp,0,[],ai,by decide,rfl⟩;have R0:=r0;obtain ⟨a,ea,R0,_,_,nF,hi,_⟩:=R0;cases ea;have cIA:¬IA env Z p:=fun z=>by
    obtain ⟨i,⟨c,e | e⟩,s⟩:=z
    ·exact nF (.inr ⟨i,c,e,s⟩)
    ·exact hi i c e s
   refine ih _ _ _ h1 _ _ _ Z _ _ R0.rebase fun vs H2 S2 k2 ps=>?_;have r2:=r0.carry S2 k2;rw [fw] at ps;have hm:=oo ps (xs:=[]) (show DmP K (fun b=>FF F0 env' Z b\/b=p) H2 [] [] from rfl);have hlen:(dX [] vs).length<=15:=by
    have:=hm.2;rw [ps.len] at this;simp only [K8] at this;omega
   refine ⟨S2.dg p _ ai cIA,vs,rfl,by rw [ps.len];exact hl,fun ep=>?_⟩;have r3:eG K F0 ZM I env' Z (upd H2 p (.dD ep ((dX [] vs).map cvK))) (.frs (.dict (kvs.foldl (fun acc kv=>putD acc (kD kv.1) kv.2) []))) (.ref p):=by
    refine r2.put ⟨ep,(dX [] vs).map cvK,ai,by rw [Ic];exact IM hlen (by decide),hm.1.pr ?_ fun _ z=>z⟩;intro b u e n;by_cases z:b=p
    ·subst z;rcases n with n | n
     ·exact absurd (.inr rfl) n
     ·have:=S2.dg b _ ai cIA;rw [e] at this;cases this;cases n
    ·rw [ae z];exact e
   exact q _ _ r3.rel k2 r3
  ·cases h
 ·cases h
end
open PySem
section
variable {K:Fg} {F F' I I' F0:Addr->Prop} {H H' ZM:Hp} {env env':En} {Z Z':St} {ga:Nat->V} {gd:List PyData}
theorem lu {α:Type}:∀ {l:List α} {i j:Nat} {x:α},l.Nodup->l[i]?=some x->l[j]?=some x->i=j
 | [],_,_,_,_,h,_=>by simp at h
 | y :: l,0,0,_,_,_,_=>rfl
 | y :: l,0,j+1,x,nd,h1,h2=>by
  simp at h1 h2;subst h1;exact absurd (IF h2) (Jo.mp nd).1
 | y :: l,i+1,0,x,nd,h1,h2=>by
  simp at h1 h2;subst h2;exact absurd (IF h1) (Jo.mp nd).1
 | y :: l,i+1,j+1,x,nd,h1,h2=>by
  simp at h1 h2;rw [lu (Jo.mp nd).2 h1 h2]
def noOwn (env:En):Prop:=∀ (i:Nat) (d:PyData),env[i]?≠some (.own d)
theorem cV (h:noOwn env):FF F0 env Z=F0:=by
 funext b;apply propext;constructor
 ·rintro (q | ⟨i,d,e,_⟩)
  ·exact q
  ·exact absurd e (h i d)
 ·exact .inl
theorem noOwn.kp (h:noOwn env) (k:KpE env env'):noOwn env':=fun i d e=>by
 obtain ⟨d',e'⟩:=k.own e;exact h i d' e'
def pG:Sl->Prop | .dat _=>True | .un=>True | _=>False
theorem gO {pre:En} {ps:St} (hp:∀ s∈pre,pG s) (hl:pre.length=ps.length):FF F0 (pre++env) (ps++Z)=FF F0 env Z:=by
 funext b;apply propext;constructor
 ·rintro (q | ⟨i,d,e,s⟩)
  ·exact .inl q
  ·by_cases hi:i < pre.length
   ·rw [IZ hi] at e;have:=hp _ (IF e);exact absurd this id
   ·rw [Iu (by omega)] at e;rw [Iu (by omega),<-hl] at s;exact .inr ⟨_,d,e,s⟩
 ·rintro (q | ⟨i,d,e,s⟩)
  ·exact .inl q
  ·refine .inr ⟨pre.length+i,d,?_,?_⟩
   ·rw [Iu (by omega)];simpa using e
   ·rw [Iu (by omega),hl];simpa using s
theorem kW {pre:En} (hp:∀ s∈pre,pG s) {i:Nat} (h:mu (pre++env) i):pre.length<=i/\mu env (i - pre.length):=by
 obtain ⟨d,h⟩:=h;by_cases hi:i < pre.length
 ·rw [IZ hi] at h;rcases h with h | h <;> exact absurd (hp _ (IF h)) id
 ·rw [Iu (by omega)] at h;exact ⟨by omega,d,h⟩
theorem ox {pre:En} {ps:St} (hp:∀ s∈pre,pG s) (hl:pre.length=ps.length):IA (pre++env) (ps++Z)=IA env Z:=by
 funext b;apply propext;constructor
 ·rintro ⟨i,m,s⟩;obtain ⟨hi,m'⟩:=kW hp m;rw [Iu (by omega),<-hl] at s;exact ⟨_,m',s⟩
 ·rintro ⟨i,⟨d,m⟩,s⟩;refine ⟨pre.length+i,⟨d,?_⟩,?_⟩
  ·rw [Iu (by omega)];simpa using m
  ·rw [Iu (by omega),hl];simpa using s
theorem Rel.front (R:Rel K F0 ZM I env Z H) {ds:List PyData} {vs:List V} (h:DmL K (FF F0 env Z) H ds vs):Rel K F0 ZM I (ds.map .dat++env) (vs.map some++Z) H:=by
 have hp:∀ s∈(ds.map Sl.dat),pG s:=fun s hs=>by obtain ⟨d,_,rfl⟩:=Ji.mp hs;trivial
 have hl:(ds.map Sl.dat).length=(vs.map some).length:=by rw [Ic,Ic,h.len]
 have hl2:(ds.map Sl.dat).length=ds.length:=Ic _;have eF:=gO (F0:=F0) (env:=env) (Z:=Z) hp hl;have eI:=ox (env:=env) (Z:=Z) hp hl;have back:∀ {i:Nat} {s:Sl},(ds.map Sl.dat++env)[i]?=some s->(∀ d,s≠.dat d)->(ds.map Sl.dat).length<=i/\env[i - (ds.map Sl.dat).length]?=some s:=fun {i s} e n=>by
  by_cases hi:i < (ds.map Sl.dat).length
  ·rw [IZ hi] at e;obtain ⟨d,_,z⟩:=Ji.mp (IF e);exact absurd z.symm (n d)
  ·rw [Iu (by omega)] at e;exact ⟨by omega,e⟩
 have fs:∀ {i:Nat} {x:Option V},(ds.map Sl.dat).length<=i->Z[i - (ds.map Sl.dat).length]?=some x->(vs.map some++Z)[i]?=some x:=fun {i x} hi e=>by
  rw [Iu (by omega),<-hl];exact e
 refine ⟨by rw [Io,Io,hl,R.len],fun i d e=>?_,fun i d e=>?_,fun i d e=>?_,fun i d e=>?_,fun i j a h1 h2 h3 h4=>?_,R.dom,R.dg⟩
 ·rw [eF];by_cases hi:i < (ds.map Sl.dat).length
  ·rw [IZ hi,Ik] at e;cases e2:ds[i]? with
   | none=>rw [e2] at e;cases e
   | some d' =>
    rw [e2] at e;cases e;obtain ⟨v,q,r⟩:=h.get e2;refine ⟨v,?_,r⟩;rw [IZ (by omega),Ik,q];rfl
  ·rw [Iu (by omega)] at e;obtain ⟨v,s,r⟩:=R.dat _ d e;exact ⟨v,fs (by omega) s,r⟩
 ·rw [eF];obtain ⟨hi,e⟩:=back e (fun _=>nofun);obtain ⟨a,s,q⟩:=R.own _ d e;exact ⟨a,fs hi s,q⟩
 ·rw [eF];obtain ⟨hi,e⟩:=back e (fun _=>nofun);obtain ⟨a,s,q⟩:=R.ino _ d e;exact ⟨a,fs hi s,q⟩
 ·rw [eF,eI];obtain ⟨hi,e⟩:=back e (fun _=>nofun);obtain ⟨a,s,q⟩:=R.ro _ d e;exact ⟨a,fs hi s,q⟩
 ·obtain ⟨i1,m1⟩:=kW hp h1;obtain ⟨i2,m2⟩:=kW hp h2;rw [Iu (by omega),<-hl] at h3 h4;have:=R.sep _ _ a m1 m2 h3 h4;omega
theorem Rel.behind {pre:En} {ps:St} (R:Rel K F0 ZM I (pre++env) (ps++Z) H) (hp:∀ s∈pre,pG s) (hl:pre.length=ps.length):Rel K F0 ZM I env Z H:=by
 have eF:=gO (F0:=F0) (env:=env) (Z:=Z) hp hl;have eI:=ox (env:=env) (Z:=Z) hp hl;have up:∀ {i:Nat} {s:Sl},env[i]?=some s->(pre++env)[pre.length+i]?=some s:=fun {i s} e=>by
  rw [Iu (by omega)];simpa using e
 have dn:∀ {i:Nat} {x:Option V},(ps++Z)[pre.length+i]?=some x->Z[i]?=some x:=fun {i x} e=>by
  rw [Iu (by omega),hl] at e;simpa using e
 have us:∀ {i:Nat} {x:Option V},Z[i]?=some x->(ps++Z)[pre.length+i]?=some x:=fun {i x} e=>by
  rw [Iu (by omega),hl];simpa using e
 refine ⟨by have:=R.len;rw [Io,Io,hl] at this;omega,fun i d e=>?_,fun i d e=>?_,fun i d e=>?_,fun i d e=>?_,fun i j a h1 h2 h3 h4=>?_,R.dom,R.dg⟩
 ·obtain ⟨v,s,r⟩:=R.dat _ d (up e);rw [eF] at r;exact ⟨v,dn s,r⟩
 ·obtain ⟨v,s,r⟩:=R.own _ d (up e);rw [eF] at r;exact ⟨v,dn s,r⟩
 ·obtain ⟨v,s,r⟩:=R.ino _ d (up e);rw [eF] at r;exact ⟨v,dn s,r⟩
 ·obtain ⟨v,s,r⟩:=R.ro _ d (up e);rw [eF,eI] at r;exact ⟨v,dn s,r⟩
 ·obtain ⟨d1,m1⟩:=h1;obtain ⟨d2,m2⟩:=h2;have:=R.sep (pre.length+i) (pre.length+j) a ⟨d1,m1.imp up up⟩ ⟨d2,m2.imp up up⟩ (us h3) (us h4);omega
theorem KpE.front {ds:List PyData} {e':En} (k:KpE (ds.map .dat++env) e'):∃ env',e'=ds.map .dat++env'/\KpE env env':=by
 have hlen:=k.1;rw [Io,Ic] at hlen;refine ⟨e'.drop ds.length,?_,?_,fun i s e=>?_⟩
 ·apply List.ext_getElem?;intro i;by_cases hi:i < ds.length
  ·have hm:(ds.map Sl.dat++env)[i]?=some (.dat ds[i]):=by
    rw [IZ (by rw [Ic];exact hi),Ik,Ie hi];rfl
   obtain ⟨s',h',ev⟩:=k.2 i _ hm;have ev:s'=.dat ds[i]:=ev;rw [h',ev,IZ (by rw [Ic];exact hi),Ik,Ie hi];rfl
  ·rw [Iu (by rw [Ic];omega),List.getElem?_drop,Ic];congr 1;omega
 ·rw [JX];omega
 ·obtain ⟨s',h',ev⟩:=k.2 (ds.length+i) s (by rw [Iu (by rw [Ic];omega),Ic];simpa using e);exact ⟨s',by rw [List.getElem?_drop];exact h',ev⟩
theorem fc {lock:Option Nat} {js:List Nat} {k:Nat} {s:Sl} (h:(cO env lock js)[k]?=some s):∃ j,js[k]?=some j/\s=mR (decide (lock=some j)) (env[j]?.getD .un):=by
 unfold cO at h;rw [Ik] at h;cases e:js[k]? with
 | none=>rw [e] at h;cases h
 | some j=>rw [e] at h;cases h;exact ⟨j,rfl,rfl⟩
theorem oA {js:List Nat} {k j:Nat} (h:js[k]?=some j):(bh js Z)[k]?=some ((Z[j]?).getD none):=by
 unfold bh;rw [Ik,h];rfl
theorem cC {lock:Option Nat} {js:List Nat}:noOwn (cO env lock js):=fun k d e=>by
 obtain ⟨j,_,e'⟩:=fc e;cases h:env[j]?.getD .un with
 | un=>rw [h] at e';cases e'
 | dat _=>rw [h] at e';cases e'
 | own c=>rw [h] at e';unfold mR at e';simp only at e';split at e' <;> cases e'
 | ino c=>rw [h] at e';unfold mR at e';simp only at e';split at e' <;> cases e'
 | ro _=>rw [h] at e';cases e'
theorem getD_some {j:Nat} {s:Sl} (h:env[j]?.getD .un=s) (n:s≠.un):env[j]?=some s:=by
 cases e:env[j]? with
 | none=>rw [e] at h;exact absurd h.symm n
 | some t=>rw [e] at h;cases h;rfl
theorem o6 {lock:Option Nat} {js:List Nat} {k:Nat} {d:PyData} (h:(cO env lock js)[k]?=some (.ino d)):∃ j,js[k]?=some j/\lock≠some j/\(env[j]?=some (.own d)\/env[j]?=some (.ino d)):=by
 obtain ⟨j,hj,e'⟩:=fc h;refine ⟨j,hj,?_⟩;cases h:env[j]?.getD .un with
 | un=>rw [h] at e';cases e'
 | dat _=>rw [h] at e';cases e'
 | own c =>
  rw [h] at e';unfold mR at e';simp only at e';split at e'
  ·cases e'
  ·rename_i n;cases e';exact ⟨by simpa using n,.inl (getD_some h nofun)⟩
 | ino c =>
  rw [h] at e';unfold mR at e';simp only at e';split at e'
  ·cases e'
  ·rename_i n;cases e';exact ⟨by simpa using n,.inr (getD_some h nofun)⟩
 | ro _=>rw [h] at e';cases e'
theorem dJ {lock:Option Nat} {js:List Nat} {k:Nat} (h:mu (cO env lock js) k):∃ j,js[k]?=some j/\lock≠some j/\mu env j:=by
 obtain ⟨d,h | h⟩:=h
 ·exact absurd h (cC k d)
 ·obtain ⟨j,h1,h2,h3⟩:=o6 h;exact ⟨j,h1,h2,d,h3⟩
theorem bE {js:List Nat} {k j:Nat} {a:Addr} (h:js[k]?=some j) (e:(bh js Z)[k]?=some (some (.ref a))):Z[j]?=some (some (.ref a)):=by
 rw [oA h] at e;cases q:Z[j]? with
 | none=>rw [q] at e;cases e
 | some x=>rw [q] at e;cases e;rfl
theorem cI {js:List Nat} {k j:Nat} {v:V} (h:js[k]?=some j) (e:Z[j]?=some (some v)):(bh js Z)[k]?=some (some v):=by rw [oA h,e];rfl
theorem Rel.bh (R:Rel K F0 ZM I env Z H) {lock:Option Nat} {js:List Nat} (nd:js.Nodup):Rel K (FF F0 env Z) H (IA (cO env lock js) (L2.bh js Z)) (cO env lock js) (L2.bh js Z) H:=by
 have eF:FF (FF F0 env Z) (cO env lock js) (L2.bh js Z)=FF F0 env Z:=cV cC;have sub:∀ b,IA (cO env lock js) (L2.bh js Z) b->IA env Z b:=fun b ⟨k,m,s⟩=>by
  obtain ⟨j,hj,_,mj⟩:=dJ m;exact ⟨j,mj,bE hj s⟩
 refine ⟨by unfold cO L2.bh;rw [Ic,Ic],fun k d e=>?_,fun k d e=>absurd e (cC k d),fun k d e=>?_,fun k d e=>?_,fun k l a h1 h2 h3 h4=>?_,fun b h=>R.eJ h,fun _ _ h _=>h⟩
 ·rw [eF];obtain ⟨j,hj,e'⟩:=fc e;have ej:env[j]?=some (.dat d):=by
   cases h:env[j]?.getD .un with
   | un=>rw [h] at e';cases e'
   | dat c=>rw [h] at e';cases e';exact getD_some h nofun
   | own c=>rw [h] at e';unfold mR at e';simp only at e';split at e' <;> cases e'
   | ino c=>rw [h] at e';unfold mR at e';simp only at e';split at e' <;> cases e'
   | ro _=>rw [h] at e';cases e'
  obtain ⟨v,s,r⟩:=R.dat j d ej;exact ⟨v,cI hj s,r⟩
 ·rw [eF];obtain ⟨j,hj,_,ej⟩:=o6 e;have:∃ a,Z[j]?=some (some (.ref a))/\FF F0 env Z a/\Top K (FF F0 env Z) H d a:=by
   rcases ej with ej | ej
   ·obtain ⟨a,s,_,_,t⟩:=R.own j d ej;exact ⟨a,s,.inr ⟨j,d,ej,s⟩,t⟩
   ·obtain ⟨a,s,f,_,t⟩:=R.ino j d ej;exact ⟨a,s,.inl f,t⟩
  obtain ⟨a,s,f,t⟩:=this;exact ⟨a,cI hj s,f,⟨k,⟨d,.inr e⟩,cI hj s⟩,t⟩
 ·rw [eF];obtain ⟨j,hj,e'⟩:=fc e;have lk:∀ a,lock=some j->mu env j->Z[j]?=some (some (.ref a))->¬IA (cO env lock js) (L2.bh js Z) a:=fun a hl m s ⟨k',m',s'⟩=>by
   obtain ⟨j',hj',hn,mj'⟩:=dJ m';have:=R.sep j' j a mj' m (bE hj' s') s;subst this;exact hn hl
  cases h:env[j]?.getD .un with
  | un=>rw [h] at e';cases e'
  | dat c=>rw [h] at e';cases e'
  | own c =>
   rw [h] at e';unfold mR at e';simp only at e';split at e'
   ·rename_i n;cases e';have ej:=getD_some h nofun;obtain ⟨a,s,_,_,t⟩:=R.own j d ej;exact ⟨a,cI hj s,t.ro (lk a (by simpa using n) ⟨d,.inl ej⟩ s)⟩
   ·cases e'
  | ino c =>
   rw [h] at e';unfold mR at e';simp only at e';split at e'
   ·rename_i n;cases e';have ej:=getD_some h nofun;obtain ⟨a,s,_,_,t⟩:=R.ino j d ej;exact ⟨a,cI hj s,t.ro (lk a (by simpa using n) ⟨d,.inr ej⟩ s)⟩
   ·cases e'
  | ro c =>
   rw [h] at e';cases e';obtain ⟨a,s,t⟩:=R.ro j d (getD_some h nofun);exact ⟨a,cI hj s,t.pr Pr.refl (fun _ z=>z) sub fun _ _ z _=>z⟩
 ·obtain ⟨j1,e1,_,m1⟩:=dJ h1;obtain ⟨j2,e2,_,m2⟩:=dJ h2;have:=R.sep j1 j2 a m1 m2 (bE e1 h3) (bE e2 h4);subst this;exact lu nd e1 e2
theorem aV:∀ (env:En) (js:List Nat) (es:En),SmK env (aM env js es)
 | env,[],es=>by unfold aM;exact SmK.refl _
 | env,j :: js,[]=>by unfold aM;exact SmK.refl _
 | env,j :: js,s :: es=>by
  cases s with
  | ino d=>unfold aM;exact (d8 env j d).trans (aV _ js es)
  | un=>unfold aM;exact aV _ js es
  | dat _=>unfold aM;exact aV _ js es
  | own _=>unfold aM;exact aV _ js es
  | ro _=>unfold aM;exact aV _ js es
theorem aY:∀ (env:En) (js:List Nat) (es:En) (i:Nat),i ∉ js->(aM env js es)[i]?=env[i]?
 | env,[],es,i,_=>by unfold aM;rfl
 | env,j :: js,[],i,_=>by unfold aM;rfl
 | env,j :: js,s :: es,i,h=>by
  have n:i≠j:=fun z=>h (by rw [z];exact IE);have n':i ∉ js:=fun z=>h (Ip _ z);cases s with
  | ino d=>unfold aM;rw [aY _ js es i n',j3 n]
  | un=>unfold aM;exact aY _ js es i n'
  | dat _=>unfold aM;exact aY _ js es i n'
  | own _=>unfold aM;exact aY _ js es i n'
  | ro _=>unfold aM;exact aY _ js es i n'
theorem d6:∀ (env:En) (js:List Nat) (es:En) (k i:Nat) (s:Sl),js.Nodup->js[k]?=some i->es[k]?=some s->(∀ d,s=.ino d->mu env i->aR (aM env js es) i=some d)/\((∀ d,s≠.ino d)->(aM env js es)[i]?=env[i]?)
 | env,[],es,k,i,s,_,h,_=>by simp at h
 | env,j :: js,[],k,i,s,_,_,h=>by simp at h
 | env,j :: js,t :: es,0,i,s,nd,h,h'=>by
  obtain ⟨n1,nd'⟩:=Jo.mp nd;simp at h h';subst h h';constructor
  ·rintro d rfl m;unfold aM;have:=aY (gG env j d) js es j n1;unfold aR;rw [this];exact ke m
  ·intro hn;cases t with
   | ino d=>exact absurd rfl (hn d)
   | un=>unfold aM;exact aY _ js es j n1
   | dat _=>unfold aM;exact aY _ js es j n1
   | own _=>unfold aM;exact aY _ js es j n1
   | ro _=>unfold aM;exact aY _ js es j n1
 | env,j :: js,t :: es,k+1,i,s,nd,h,h'=>by
  obtain ⟨n1,nd'⟩:=Jo.mp nd;simp at h h';have hi:i∈js:=IF h;have ne:i≠j:=fun z=>n1 (z▸hi);cases t with
  | ino d =>
   unfold aM;have ih:=d6 (gG env j d) js es k i s nd' h h';refine ⟨fun d' e m=>ih.1 d' e ((d8 env j d).symm.kp.mu m),fun hn=>?_⟩;rw [ih.2 hn,j3 ne]
  | un=>unfold aM;exact d6 env js es k i s nd' h h'
  | dat _=>unfold aM;exact d6 env js es k i s nd' h h'
  | own _=>unfold aM;exact d6 env js es k i s nd' h h'
  | ro _=>unfold aM;exact d6 env js es k i s nd' h h'
theorem KpE.EN (k:KpE env env') {i:Nat} {d:PyData} (e:env[i]?=some (.ino d)):∃ d',env'[i]?=some (.ino d'):=by
 obtain ⟨s',h,ev⟩:=k.2 i _ e;obtain ⟨d',rfl⟩:=ev;exact ⟨d',h⟩
theorem Rel.back (R:Rel K F0 ZM I env Z H) {lock:Option Nat} {js:List Nat} {ec:En} (nd:js.Nodup) (S:Rel K (FF F0 env Z) H (IA (cO env lock js) (L2.bh js Z)) ec (L2.bh js Z) H') (k:KpE (cO env lock js) ec):Rel K F0 ZM I (aM env js ec) Z H':=by
 have sub:∀ b,IA (cO env lock js) (L2.bh js Z) b->IA env Z b:=fun b ⟨k,m,s⟩=>by
  obtain ⟨j,hj,_,mj⟩:=dJ m;exact ⟨j,mj,bE hj s⟩
 have hk:∀ b o,H b=some o->¬IA env Z b->H' b=some o:=fun b o e n=>S.dg b o e fun z=>n (sub b z);have eFc:FF (FF F0 env Z) ec (L2.bh js Z)=FF F0 env Z:=cV (cC.kp k);refine R.chg (aV env js ec) hk fun i d a hm hs=>?_;have sm:=aV env js ec;have mi:mu env i:=sm.kp.mu ((nG hm).elim (fun e=>⟨d,.inl e⟩) fun e=>⟨d,.inr e⟩);have jg:(aM env js ec)[i]?=env[i]?->¬IA (cO env lock js) (L2.bh js Z) a->Top K (FF F0 env Z) H' d a:=fun e n=>by
  have hm':aR env i=some d:=by unfold aR at hm ⊢;rwa [e] at hm
  obtain ⟨_,a',s',_,t⟩:=R.c0 hm';rw [hs] at s';cases s';exact t.pr (R.oD hk) (fun _ z=>z) fun o e=>S.dg a o e n
 by_cases hi:i∈js
 ·obtain ⟨p,hp⟩:=Js.mp hi;have hlen:ec.length=js.length:=by rw [k.1];unfold cO;rw [Ic]
  have hpl:p < js.length:=(Ih.mp hp).1;have he:ec[p]?=some (ec[p]'(by omega)):=Ie _;obtain ⟨b1,b2⟩:=d6 env js ec p i _ nd hp he;by_cases hl:lock=some i
  ·-- locked
   refine jg (b2 fun d' z=>?_) ?_
   ·rw [z] at he;obtain ⟨s,e0,ev⟩:=k.back he;obtain ⟨j,hj,e'⟩:=fc e0;rw [hp] at hj;cases hj;obtain ⟨c,hc | hc⟩:=mi
    ·rw [hc] at e';simp only [Option.getD_some,mR,hl,decide_true,KR] at e';subst e';cases ev
    ·rw [hc] at e';simp only [Option.getD_some,mR,hl,decide_true,KR] at e';subst e';cases ev
   ·rintro ⟨q,mq,sq⟩;obtain ⟨j',hj',hn,mj'⟩:=dJ mq;have:=R.sep j' i a mj' mi (bE hj' sq) hs;subst this;exact hn hl
  ·have:∃ c,(cO env lock js)[p]?=some (.ino c):=by
    unfold cO;rw [Ik,hp];obtain ⟨c,hc | hc⟩:=mi
    ·exact ⟨c,by rw [Option.map_some,hc];simp [mR,hl]⟩
    ·exact ⟨c,by rw [Option.map_some,hc];simp [mR,hl]⟩
   obtain ⟨c,hc⟩:=this;obtain ⟨d',hd'⟩:=k.EN hc;rw [he] at hd';have ed:=b1 d' (Jm hd') mi;rw [hm] at ed;cases ed;obtain ⟨a',s',_,_,t⟩:=S.ino p d (by rw [he];exact hd');have:=bE hp s';rw [hs] at this;cases this
   rwa [eFc] at t
 ·refine jg (aY env js ec i hi) ?_;rintro ⟨q,mq,sq⟩;obtain ⟨j',hj',hn,mj'⟩:=dJ mq;have:=R.sep j' i a mj' mi (bE hj' sq) hs;subst this;exact hi (IF hj')
end
open PySem
section
variable {K:Fg} {F F' I I' F0:Addr->Prop} {H H' ZM H1:Hp} {env env' e1:En} {Z Z':St} {ga:Nat->V} {gd:List PyData}
def D3 (K:Fg) (F:Addr->Prop) (H:Hp) (acc:List V):Option PyData->List V->Prop
 | none,acc'=>acc'=acc
 | some d,acc'=>∃ v,acc'=acc++[v]/\Dm K F H d v
theorem tJ {step:PyData->En->Option (Option PyData×En)} {ds ys:List PyData} {ec:En} {lock:Option Nat} {js:List Nat} {J:It} {Q:VK} {τ:Type} {TI:τ->Prop} {t0:τ} {body:τ->List V->V->Hp->(τ->List V->Hp->Prop)->Prop} (ht0:TI t0)
  (R1:Rel K F0 ZM I e1 Z H1) (nd:js.Nodup) (hit:ua K (FF F0 e1 Z) (fun b=>IA e1 Z b/\∀ i,lock=some i->mu e1 i->Z[i]?≠some (some (.ref b))) H1 J ds) (h2:uf step ds (cO e1 lock js)=some (ys,ec))
  (turn:∀ t acc d envc y envc' x H',TI t->step d envc=some (y,envc')->Rel K (FF F0 e1 Z) H1 (IA (cO e1 lock js) (bh js Z)) envc (bh js Z) H'->noOwn envc->Dm K (FF F0 e1 Z) H' d x->∀ N:τ->List V->Hp->Prop,
   (∀ t' acc' H2,TI t'->Rel K (FF F0 e1 Z) H1 (IA (cO e1 lock js) (bh js Z)) envc' (bh js Z) H2->KpE envc envc'->Pr (FF F0 e1 Z) H' H2->D3 K (FF F0 e1 Z) H2 acc y acc'->N t' acc' H2)->body t acc x H' N)
  (fin:∀ acc H',Rel K F0 ZM I (aM e1 js ec) Z H'->DmL K (FF F0 e1 Z) H' ys acc->acc.length<=sizeLine->∀ p,H' p=none->Q (.ref p) (upd H' p (.lst acc))) :
  ∃ W:Nat->Nat->τ->List V->Hp->Prop,(∃ m,W 0 m t0 [] H1)/\∀ i m t acc H,W i m t acc H ->
   (J.stop i H/\acc.length<=sizeLine/\∀ p,H p=none->Q (.ref p) (upd H p (.lst acc)))\/(J.go i H/\acc.length < sizeLine/\∀ x H',J.yld i H x H'->body t acc x H' fun t' acc' H2=>∃ m',m' < m/\W (i+1) m' t' acc' H2):=by
 obtain ⟨hvl,hturn⟩:=hit;have sub:∀ b,IA (cO e1 lock js) (bh js Z) b->IA e1 Z b/\∀ i,lock=some i->mu e1 i->Z[i]?≠some (some (.ref b)):=fun b ⟨k,m,s⟩=>by
  obtain ⟨j,hj,hn,mj⟩:=dJ m;refine ⟨⟨j,mj,bE hj s⟩,fun i hl mi si=>?_⟩;have:=R1.sep j i b mj mi (bE hj s) si;subst this;exact hn hl
 have Rc0:=R1.bh (lock:=lock) nd
 refine ⟨fun i m t acc H'=>TI t/\m=ds.length - i/\i<=ds.length/\acc.length<=i/\∃ envc done rest,uf step (ds.drop i) envc=some (rest,ec)/\ys=done++rest/\Rel K (FF F0 e1 Z) H1 (IA (cO e1 lock js) (bh js Z)) envc (bh js Z) H'/\KpE (cO e1 lock js) envc/\DmL K (FF F0 e1 Z) H' done acc,
  ⟨ds.length,ht0,rfl,JD _,Il _,cO e1 lock js,[],ys,h2,rfl,Rc0,KpE.refl _,rfl⟩,?_⟩
 rintro i m t acc H' ⟨hti,rfl,hi,hal,envc,done,rest,hc,hy,Rc,kc,hacc⟩;have hkept:∀ b o,H1 b=some o->¬(IA e1 Z b/\∀ i,lock=some i->mu e1 i->Z[i]?≠some (some (.ref b)))->H' b=some o:=fun b o e n=>Rc.dg b o e fun z=>n (sub b z);by_cases hlt:i < ds.length
 ·right;obtain ⟨go,yld⟩:=(hturn H' hkept i).1 (by omega);refine ⟨go,by omega,fun x H'' hx=>?_⟩;obtain ⟨d,hd,hy9⟩:=yld x H'' hx;obtain ⟨sm,hdx'⟩:=hy9.dm (F2:=FF F0 e1 Z) fun d v h=>h.pr (R1.oD fun b o e n=>hkept b o e fun z=>n z.1) fun _ z=>z;have Rc:=Rc.same sm;have hacc:=hacc.pr (fun b o e _=>sm b o e) fun _ z=>z;have ed:ds.drop i=d :: ds.drop (i+1):=by
   rw [KO hlt];obtain ⟨_,q⟩:=Ih.mp hd;rw [q]
  rw [ed] at hc;unfold uf at hc;split at hc
  ·rename_i y envc' hs;split at hc
   ·rename_i ys' e2 hr;cases hc;refine turn t acc d envc y envc' x H'' hti hs Rc (cC.kp kc) hdx' _ fun t' acc' H2 ht' R2 k2 p2 ha=>⟨_,by omega,ht',rfl,by omega,?_,envc',done++y.toList,ys',hr,by rw [hy,KU],R2,kc.trans k2,?_⟩
    ·cases y with
     | none=>rw [show acc'=acc from ha];omega
     | some dy=>obtain ⟨v,rfl,_⟩:=ha;rw [Io];simp;omega
    ·have hacc':=hacc.pr p2 fun _ z=>z;cases y with
     | none=>rw [show acc'=acc from ha];simpa using hacc'
     | some dy=>obtain ⟨v,rfl,hv⟩:=ha;exact hacc'.snoc hv
   ·cases hc
  ·cases hc
 ·left;have e:i=ds.length:=by omega
  subst e;have hz:acc.length<=sizeLine:=by omega
  rw [List.drop_length] at hc;unfold uf at hc;cases hc;rw [Jy] at hy;subst hy;exact ⟨(hturn H' hkept _).2 (by omega),hz,fin acc H' (R1.back nd Rc kc) hacc hz⟩
theorem FY {js:List Nat} {it:XI} {c:XT} {e:XE} (ii:SI K ga gd it) (ic:ST K ga gd c) (ie:SE K ga gd e):SE K ga gd (.cmp js it c e):=by
 intro env rv env' h F0 ZM I Z H Q R q;simp only [dE] at h;split at h
 ·rename_i ds lock e1 h1;split at h
  ·rename_i nd;split at h
   ·rename_i ys ec h2;cases h;refine ii _ _ _ _ h1 F0 ZM I Z H _ R fun J H1 R1 k1 _ hit=>?_;refine Exists.elim (tJ (Q:=Q) (τ:=Unit) (TI:=fun _=>True) (t0:=()) (body:=fun _ acc x H' N=>rT K ga c (some x :: bh js Z) H' fun b H2=>if b=true then rE K ga e (some x :: bh js Z) H2 fun y H3=>N () (acc++[y]) H3 else N () acc H2) trivial R1 nd hit h2 ?_ ?_) fun W hw=>?_
    rotate_right 1
    ·obtain ⟨w0,hW⟩:=hw;exact ⟨fun i m acc H=>W i m () acc H,w0,fun i m acc H w=>hW i m () acc H w⟩
    ·intro _ acc d envc y envc' x H' _ hs Rc no hd N hN;have eF:FF (FF F0 e1 Z) envc (bh js Z)=FF F0 e1 Z:=cV no;have Rx:Rel K (FF F0 e1 Z) H1 (IA (cO e1 lock js) (bh js Z)) (.dat d :: envc) (some x :: bh js Z) H':=Rc.front (ds:=[d]) (vs:=[x]) ⟨x,[],rfl,by rw [eF];exact hd,rfl⟩;have frontF:∀ {e2:En},KpE envc e2->FF (FF F0 e1 Z) (.dat d :: e2) (some x :: bh js Z)=FF F0 e1 Z:=fun {e2} k=>by
      have:=gO (F0:=FF F0 e1 Z) (env:=e2) (Z:=bh js Z) (pre:=[.dat d]) (ps:=[some x]) (fun s hs=>by rw [Ii.mp hs];trivial) rfl;exact this.trans (cV (no.kp k))
     unfold iA at hs;split at hs
     ·rename_i e2 hT;split at hs
      ·rename_i rv e3 hE;split at hs
       ·rename_i dy hv;cases hs;refine ic _ _ _ hT _ _ _ _ H' _ Rx.rebase fun H2 S2 k2=>?_;rw [Iy rfl];have R2:=Rx.bp S2;refine ie _ _ _ hE _ _ _ _ H2 _ R2.rebase fun v H3 S3 k3 r3=>?_;have R3:=R2.bp S3;obtain ⟨ex,e3',kx⟩:=(k2.trans k3).front (ds:=[d]);have k23:=k2.trans k3;subst e3';have ht:(([d].map Sl.dat)++ex).tail=ex:=rfl;obtain ⟨e2x,e2',k2x⟩:=k2.front (ds:=[d]);have p12:Pr (FF F0 e1 Z) H' H2:=by have:=Rx.oD S2.dg;rwa [frontF (KpE.refl _)] at this
        have p23:Pr (FF F0 e1 Z) H2 H3:=by
         have:=R2.oD S3.dg;rw [e2'] at this
         rwa [show FF (FF F0 e1 Z) ([d].map Sl.dat++e2x) (some x :: bh js Z)=FF F0 e1 Z from frontF k2x] at this
        have a3:=r3.av;rw [hv] at a3;have dv:Dm K (FF F0 e1 Z) H3 dy v:=by
         have:Dm K (FF (FF F0 e1 Z) ([d].map Sl.dat++ex) (some x :: bh js Z)) H3 dy v:=a3
         rwa [show FF (FF F0 e1 Z) ([d].map Sl.dat++ex) (some x :: bh js Z)=FF F0 e1 Z from frontF kx] at this
        exact hN () _ H3 trivial (R3.behind (pre:=[.dat d]) (ps:=[some x]) (fun s hs=>by rw [Ii.mp hs];trivial) rfl) kx (p12.trans p23 fun _ z=>z) ⟨v,rfl,dv⟩
       ·cases hs
      ·cases hs
     ·rename_i e2 hT;cases hs;refine ic _ _ _ hT _ _ _ _ H' _ Rx.rebase fun H2 S2 k2=>?_;rw [ID (by decide)];have R2:=Rx.bp S2;obtain ⟨ex,e2',kx⟩:=k2.front (ds:=[d]);subst e2';have p12:Pr (FF F0 e1 Z) H' H2:=by have:=Rx.oD S2.dg;rwa [frontF (KpE.refl _)] at this
      exact hN () _ H2 trivial (R2.behind (pre:=[.dat d]) (ps:=[some x]) (fun s hs=>by rw [Ii.mp hs];trivial) rfl) kx p12 rfl
     ·cases hs
    ·intro acc H' R' hd hz p hp;have eF:=(aV e1 js ec).ff (F0:=F0) (Z:=Z);have s:=aA.nw (.lst acc) hp;exact q _ _ (R'.same s) (k1.trans (aV e1 js ec).kp) (R'.l4 (pr:=.frs (.list ys)) s ⟨p,rfl,hp,acc,ai,hz,by rw [eF];exact (hd.fresh hp).pr (Pr.of_same s) fun _ z=>z⟩)
   ·cases h
  ·cases h
 ·cases h
noncomputable def zN:St->Nat->List V->St
 | Z,_,[]=>Z
 | Z,k,v :: vs=>zN (Z.set k (some v)) (k+1) vs
theorem lX:∀ {vs:List V} {k:Nat} {Z:St} {H:Hp} {Q:St->Hp->Prop},Q (zN Z k vs) H->gNs (List.range' k vs.length) vs Z H Q
 | [],_,_,_,_,h=>⟨rfl,h⟩
 | v :: vs,k,Z,H,Q,h=>⟨v,vs,rfl,lX (vs:=vs) (k:=k+1) h⟩
theorem ou:∀ {vs:List V} {pre hd tl:St},hd.length=vs.length->zN (pre++(hd++tl)) pre.length vs=pre++(vs.map some++tl)
 | [],pre,hd,tl,h=>by
  have:hd=[]:=List.eq_nil_of_length_eq_zero h;subst this;rfl
 | v :: vs,pre,[],tl,h=>by cases h
 | v :: vs,pre,x :: hd,tl,h=>by
  have hl:hd.length=vs.length:=by simpa using h
  have e:(pre++(x :: hd++tl)).set pre.length (some v)=(pre++[some v])++(hd++tl):=by
   rw [List.set_append_right _ _ (Il _)];simp
  unfold zN;rw [e];have:=ou (vs:=vs) (pre:=pre++[some v]) (hd:=hd) (tl:=tl) hl;rw [Io] at this;rw [show pre.length+1=pre.length+[some v].length from rfl,this];simp
theorem qo (n:List Str):(fZ n).length=n.length:=by unfold fZ;rw [Ic]
theorem BL {n:List Str} {js:List Nat} {it:XI} {e:XE} (ii:SI K ga gd it) (ie:SE K ga gd e):SE K ga gd (.zd n js it e):=by
 intro env rv env' h F0 ZM I Z H Q R q;simp only [dE] at h;split at h
 ·rename_i ds lock e1 h1;split at h
  ·rename_i nd;split at h
   ·rename_i ys ec h2;cases h;refine ii _ _ _ _ h1 F0 ZM I Z H _ R fun J H1 R1 k1 _ hit=>?_;refine Exists.elim (tJ (Q:=Q) (τ:=St) (TI:=fun t=>∃ hd:St,hd.length=n.length/\t=hd++bh js Z) (t0:=fZ n++bh js Z) (body:=fun t acc x H' N=>gTp K (List.range n.length) x t H' fun Z2 H2=>rE K ga e Z2 H2 fun y H3=>N Z2 (acc++[y]) H3) ⟨fZ n,qo n,rfl⟩ R1 nd hit h2 ?_ ?_) fun W hw=>?_
    rotate_right 1
    ·obtain ⟨w0,hW⟩:=hw;exact ⟨W,w0,hW⟩
    ·rintro t acc d envc y envc' x H' ⟨hd,hl,rfl⟩ hs Rc no hdx N hN;have eF:FF (FF F0 e1 Z) envc (bh js Z)=FF F0 e1 Z:=cV no;unfold fB at hs;split at hs
     ·rename_i xs;split at hs
      ·rename_i hxl;split at hs
       ·rename_i rv e3 hE;split at hs
        ·rename_i dy hv;cases hs;obtain ⟨a,vs,rfl,hq,hz,hdl⟩:=hdx;have hvl:vs.length=n.length:=by rw [hdl.len,hxl]
         refine ⟨a,vs,rfl,hq,by rw [JR];exact hvl,?_⟩;rw [List.range_eq_range',<-hvl];refine lX ?_;have es:zN (hd++bh js Z) 0 vs=vs.map some++bh js Z:=ou (pre:=[]) (by rw [hl,hvl]);rw [es];have Rx:Rel K (FF F0 e1 Z) H1 (IA (cO e1 lock js) (bh js Z)) (xs.map .dat++envc) (vs.map some++bh js Z) H':=Rc.front (by rw [eF];exact hdl);have hpre:∀ s∈(xs.map Sl.dat),pG s:=fun s hs=>by obtain ⟨d,_,rfl⟩:=Ji.mp hs;trivial
         have hpl:(xs.map Sl.dat).length=(vs.map some).length:=by rw [Ic,Ic,hdl.len]
         have frontF:∀ {e2:En},KpE envc e2->FF (FF F0 e1 Z) (xs.map .dat++e2) (vs.map some++bh js Z)=FF F0 e1 Z:=fun {e2} k=>(gO hpre hpl).trans (cV (no.kp k));refine ie _ _ _ hE _ _ _ _ H' _ Rx.rebase fun v H3 S3 k3 r3=>?_;have R3:=Rx.bp S3;obtain ⟨ex,e3',kx⟩:=k3.front;subst e3';have p:Pr (FF F0 e1 Z) H' H3:=by have:=Rx.oD S3.dg;rwa [frontF (KpE.refl _)] at this
         have a3:=r3.av;rw [hv] at a3;have dv:Dm K (FF F0 e1 Z) H3 dy v:=by
          have:Dm K (FF (FF F0 e1 Z) (xs.map .dat++ex) (vs.map some++bh js Z)) H3 dy v:=a3
          rwa [frontF kx] at this
         have ed:(xs.map Sl.dat++ex).drop n.length=ex:=by rw [<- hxl,<-Ic (f:=Sl.dat),List.drop_left]
         rw [ed] at hN;exact hN _ _ H3 ⟨vs.map some,by rw [Ic];exact hvl,rfl⟩ (R3.behind hpre hpl) kx p ⟨v,rfl,dv⟩
        ·cases hs
       ·cases hs
      ·cases hs
     ·cases hs
    ·intro acc H' R' hd hz p hp;have eF:=(aV e1 js ec).ff (F0:=F0) (Z:=Z);have s:=aA.nw (.lst acc) hp;exact q _ _ (R'.same s) (k1.trans (aV e1 js ec).kp) (R'.l4 (pr:=.frs (.list ys)) s ⟨p,rfl,hp,acc,ai,hz,by rw [eF];exact (hd.fresh hp).pr (Pr.of_same s) fun _ z=>z⟩)
   ·cases h
  ·cases h
 ·cases h
mutual
theorem sE (hg:∀ g d,gd[g]?=some d->∀ F H,Dm K F H d (ga g)):∀ e:XE,SE K ga gd e
 | .var i=>EV i | .mov i=>Ew i | .tke i=>ER i | .cst c=>DL c | .glb g=>DK hg g
 | .prm p as=>DJ (sA hg as) | .met m o as=>Ec (sE hg o) (sA hg as) | .mtr m i as=>Ey (sA hg as) | .call f as=>s_call (sA hg as)
 | .tup as=>Ee (sA hg as) | .lst as=>D9 (sA hg as) | .dsp as=>EI (sPs hg as) | .fst as=>F9 (sF hg as)
 | .ifx c a b=>Ff (sT hg c) (sE hg a) (sE hg b) | .nc a b=>As (sE hg a) (sE hg b) | .orv a b=>DT (sE hg a) (sE hg b) | .ud a=>zQ (sE hg a)
 | .chn p q a b c=>E7 (sE hg a) (sE hg b) (sE hg c) | .sl2 p a b c=>F8 (sE hg a) (sE hg b) (sE hg c)
 | .cmp js it c e=>FY (sI hg it) (sT hg c) (sE hg e) | .zd n js it e=>BL (sI hg it) (sE hg e)
theorem sA (hg:∀ g d,gd[g]?=some d->∀ F H,Dm K F H d (ga g)):∀ e:XA,SA K ga gd e
 | .nil=>FC | .cons e r=>zK (sE hg e) (sA hg r)
theorem sF (hg:∀ g d,gd[g]?=some d->∀ F H,Dm K F H d (ga g)):∀ e:XA,SF K ga gd e
 | .nil=>FW | .cons e r=>zW (sE hg e) (sF hg r)
theorem sPs (hg:∀ g d,gd[g]?=some d->∀ F H,Dm K F H d (ga g)):∀ e:XP,SPs K ga gd e
 | .nil=>Fd | .cons k e r=>Cg (sE hg k) (sE hg e) (sPs hg r)
theorem sT (hg:∀ g d,gd[g]?=some d->∀ F H,Dm K F H d (ga g)):∀ e:XT,ST K ga gd e
 | .tst e=>FZ (sE hg e) | .tru e=>Er (sE hg e) | .and a b=>DW (sT hg a) (sT hg b) | .or a b=>HI (sT hg a) (sT hg b) | .not a=>D6 (sT hg a) | .yes=>Ex
theorem sI (hg:∀ g d,gd[g]?=some d->∀ F H,Dm K F H d (ga g)):∀ e:XI,SI K ga gd e
 | .lst e=>yJ (sE hg e) | .tup e=>Bo (sE hg e) | .str e=>DI (sE hg e) | .rng1 as=>Aj (sA hg as) | .rng2 as=>Cr (sA hg as) | .dct e=>Ez (sE hg e) | .sq e=>Hf (sE hg e) | .itm e=>DZ (sE hg e) | .zip as=>E5 (sA hg as)
end
end
open PySem
section
variable {K:Fg} {F F' I I' F0:Addr->Prop} {H H' ZM H1:Hp} {env env' e1:En} {Z Z':St} {ga:Nat->V} {gd:List PyData}
theorem LsF.aZ {a:Addr} {xs:List V} (h:LsF K F H a xs):LsF K (fun b=>F b\/H b=none) H a xs:=by
 rcases h with ⟨n,h⟩ | h
 ·refine .inl ⟨fun z=>z.elim n fun e=>?_,h⟩;rcases h with h | ⟨o,h⟩ <;> (rw [e] at h;cases h)
 ·exact .inr h
mutual
theorem Dm.aZ:∀ {d:PyData} {v:V},Dm K F H d v->Dm K (fun b=>F b\/H b=none) H d v
 | .none,v,h=>h
 | .bool b,v,h=>h
 | .int i,v,h=>h
 | .str x,v,h=>h
 | .list ds,v,h=>by
  obtain ⟨a,xs,e,l,z,r⟩:=h;exact ⟨a,xs,e,l.aZ,z,DmL.aZ r⟩
 | .tuple ds,v,h=>by
  obtain ⟨a,xs,e,l,z,r⟩:=h;exact ⟨a,xs,e,l,z,DmL.aZ r⟩
 | .dict kvs,v,h=>by
  obtain ⟨a,ep,xs,e,n,l,z,r⟩:=h;exact ⟨a,ep,xs,e,fun q=>q.elim n fun q=>(by rw [q] at l;cases l),l,z,DmP.aZ r⟩
theorem DmL.aZ:∀ {ds:List PyData} {vs:List V},DmL K F H ds vs->DmL K (fun b=>F b\/H b=none) H ds vs
 | [],vs,h=>h
 | d :: ds,vs,h=>by
  obtain ⟨v,r,e,h1,h2⟩:=h;exact ⟨v,r,e,Dm.aZ h1,DmL.aZ h2⟩
theorem DmP.aZ:∀ {ds:List (PyData×PyData)} {vs:List (PyData×V×V)},DmP K F H ds vs->DmP K (fun b=>F b\/H b=none) H ds vs
 | [],vs,h=>h
 | (k,d) :: ds,vs,h=>by
  obtain ⟨j,v,r,e,e2,h0,h1,h2⟩:=h;exact ⟨j,v,r,e,e2,Dm.aZ h0,Dm.aZ h1,DmP.aZ h2⟩
end
theorem Top.aZ {d:PyData} {a:Addr} (h:Top K F H d a):Top K (fun b=>F b\/H b=none) H d a:=by
 cases d with
 | list ds=>obtain ⟨xs,e,z,r⟩:=h;exact ⟨xs,e,z,r.aZ⟩
 | dict ds=>obtain ⟨ep,xs,e,z,r⟩:=h;exact ⟨ep,xs,e,z,r.aZ⟩
 | _=>exact absurd h id
theorem fj.aZ {d:PyData} {a:Addr} (h:fj K F I H d a):fj K (fun b=>F b\/H b=none) (fun b=>I b\/H b=none) H d a:=by
 cases d with
 | list ds=>obtain ⟨xs,e,z,r⟩:=h;exact ⟨xs,e.aZ,z,r.aZ⟩
 | dict ds =>
  rcases h with ⟨ep,xs,n,e,z,r⟩ | ⟨es,q,c,oc,wv,h1,h2⟩
  ·exact .inl ⟨ep,xs,fun q=>q.elim n fun q=>(by rw [q] at e;cases e),e,z,r.aZ⟩
  ·exact .inr ⟨es,q,c,oc,wv,h1,h2.aZ⟩
 | _=>exact absurd h id
theorem Pr.Gs (p:Pr F H H') (h:∀ b,F b->F' b):Pr F' H H':=fun b o e n=>p b o e (n.imp (fun z q=>z (h _ q)) id)
def Evs:Sl->Sl->Prop
 | .ino _,s=>∃ d,s=.ino d
 | .ro d,s=>s=.ro d
 | _,s=>(∀ d,s≠.ino d)/\∀ d,s≠.ro d
def Bl:Sl->Prop | .ino _=>True | .ro _=>True | _=>False
def KpS (env:En) (Z:St) (env':En) (Z':St):Prop:=env'.length=env.length/\∀ (i:Nat) (s:Sl),env[i]?=some s->∃ s',env'[i]?=some s'/\Evs s s'/\(Bl s->Z'[i]?=Z[i]?)
theorem Evs.refl:∀ s,Evs s s
 | .un=>⟨fun _=>nofun,fun _=>nofun⟩
 | .dat _=>⟨fun _=>nofun,fun _=>nofun⟩
 | .own d=>⟨fun _=>nofun,fun _=>nofun⟩
 | .ino d=>⟨d,rfl⟩
 | .ro _=>rfl
def soft (s:Sl):Prop:=(∀ d,s≠.ino d)/\∀ d,s≠.ro d
theorem Evs.soft {s s':Sl} (h:Evs s s') (q:L2.soft s):L2.soft s':=by
 cases s with
 | ino d=>exact absurd rfl (q.1 d)
 | ro d=>exact absurd rfl (q.2 d)
 | _=>exact h
theorem Evs.of {s s':Sl} (q:L2.soft s) (q':L2.soft s'):Evs s s':=by
 cases s with
 | ino d=>exact absurd rfl (q.1 d)
 | ro d=>exact absurd rfl (q.2 d)
 | _=>exact q'
theorem Evs.trans {a b c:Sl} (h:Evs a b) (q:Evs b c):Evs a c:=by
 cases a with
 | ino d=>obtain ⟨d',rfl⟩:=h;exact q
 | ro d=>rw [show b=.ro d from h] at q;exact q
 | un=>exact Evs.of ⟨fun _=>nofun,fun _=>nofun⟩ (q.soft h)
 | dat _=>exact Evs.of ⟨fun _=>nofun,fun _=>nofun⟩ (q.soft h)
 | own _=>exact Evs.of ⟨fun _=>nofun,fun _=>nofun⟩ (q.soft h)
theorem Evs.Bl {a b:Sl} (h:Evs a b) (q:L2.Bl a):L2.Bl b:=by
 cases a with
 | ino d=>obtain ⟨d',rfl⟩:=h;trivial
 | ro d=>rw [show b=.ro d from h];trivial
 | _=>exact absurd q id
theorem KpS.refl (env:En) (Z:St):KpS env Z env Z:=⟨rfl,fun i s e=>⟨s,e,.refl s,fun _=>rfl⟩⟩
theorem KpS.trans {a b c:En} {x y z:St} (h:KpS a x b y) (q:KpS b y c z):KpS a x c z:=⟨q.1.trans h.1,fun i s e=>by
 obtain ⟨s1,e1,v1,w1⟩:=h.2 i s e;obtain ⟨s2,e2,v2,w2⟩:=q.2 i s1 e1
 exact ⟨s2,e2,v1.trans v2,fun t=>(w2 (v1.Bl t)).trans (w1 t)⟩⟩
theorem KpE.s (k:KpE env env'):KpS env Z env' Z:=⟨k.1,fun i s e=>by
 obtain ⟨s',e',v⟩:=k.2 i s e;refine ⟨s',e',?_,fun _=>rfl⟩;cases s with
 | un=>rw [show s'=.un from v];exact .refl _
 | dat d=>rw [show s'=.dat d from v];exact .refl _
 | own d=>rcases v with ⟨d',rfl⟩ | ⟨d',rfl⟩ | rfl <;> exact ⟨fun _=>nofun,fun _=>nofun⟩
 | ino d=>exact v
 | ro d=>exact v⟩
theorem iU {i:Nat} (h:free env i=true):∃ s,env[i]?=some s/\L2.soft s:=by
 unfold free at h;split at h
 ·rename_i e;exact ⟨_,e,fun _=>nofun,fun _=>nofun⟩
 ·rename_i e;exact ⟨_,e,fun _=>nofun,fun _=>nofun⟩
 ·rename_i e;exact ⟨_,e,fun _=>nofun,fun _=>nofun⟩
 ·cases h
theorem s8 {i:Nat} {s s':Sl} {x:Option V} (e:env[i]?=some s) (q:L2.soft s) (q':L2.soft s'):KpS env Z (env.set i s') (Z.set i x):=by
 have hi:i < env.length:=(Ih.mp e).1;refine ⟨IY,fun j t h=>?_⟩;by_cases z:i=j
 ·subst z;rw [e] at h;cases h;refine ⟨s',Iv hi,.of q q',fun t=>?_⟩;cases s with
  | ino d=>exact absurd rfl (q.1 d)
  | ro d=>exact absurd rfl (q.2 d)
  | _=>exact absurd t id
 ·exact ⟨t,by rw [Ig z];exact h,.refl t,fun _=>by rw [Ig z]⟩
def lq (K:Fg) (F0:Addr->Prop) (ZM:Hp) (I:Addr->Prop) (env:En) (Z:St) (D:Ends):Out->Prop
 | .nx e=>∀ Z' H',Rel K F0 ZM I e Z' H'->KpS env Z e Z'->D.nx Z' H'
 | .bk e=>∀ Z' H',Rel K F0 ZM I e Z' H'->KpS env Z e Z'->D.bk Z' H'
 | .ct e=>∀ Z' H',Rel K F0 ZM I e Z' H'->KpS env Z e Z'->D.ct Z' H'
 | .rt rv e=>∀ v Z' H',Rel K F0 ZM I e Z' H'->KpS env Z e Z'->eG K F0 ZM I e Z' H' rv v->D.rt v H'
def SS (K:Fg) (ga:Nat->V) (gd:List PyData) (s:XS):Prop:=∀ (env:En) (out:Out),dS gd s env=some out->∀ (F0:Addr->Prop) (ZM:Hp) (I:Addr->Prop) (Z:St) (H:Hp) (D:Ends),Rel K F0 ZM I env Z H->lq K F0 ZM I env Z D out->rS K ga s D Z H
theorem lq.from {D:Ends} {out:Out} (k:KpS env Z env' Z') (h:lq K F0 ZM I env Z D out):lq K F0 ZM I env' Z' D out:=by
 cases out with
 | nx e=>exact fun s h1 r q=>h s h1 r (k.trans q)
 | bk e=>exact fun s h1 r q=>h s h1 r (k.trans q)
 | ct e=>exact fun s h1 r q=>h s h1 r (k.trans q)
 | rt rv e=>exact fun v s h1 r q w=>h v s h1 r (k.trans q) w
theorem CQ {a b:XS} (ia:SS K ga gd a) (ib:SS K ga gd b):SS K ga gd (.seq a b):=by
 intro env out h F0 ZM I Z H D R q;simp only [dS] at h;split at h
 ·rename_i e h1;refine ia _ _ h1 F0 ZM I Z H _ R fun Z' H' R' k'=>?_;exact ib _ _ h F0 ZM I Z' H' D R' (q.from k')
 ·rename_i hn;refine ia _ _ h F0 ZM I Z H _ R ?_;cases out with
  | nx e=>exact absurd h (hn e)
  | bk e=>exact q
  | ct e=>exact q
  | rt rv e=>exact q
theorem Rel.FL (R:Rel K F0 ZM I env Z H) {i:Nat} {d:PyData} {v:V} (hf:free env i=true) (h:Dm K (FF F0 env Z) H d v):Rel K F0 ZM I (env.set i (.dat d)) (Z.set i (some v)) H/\KpS env Z (env.set i (.dat d)) (Z.set i (some v)):=by
 obtain ⟨s,e,q⟩:=iU hf;have hi:i < env.length:=(Ih.mp e).1;have R1:=R.forget i (some v);have:=R1.putD (i:=i) (d:=d) (v:=v) (Iv hi) (h.mono (R.sub i _).1);rw [JB,JB] at this;exact ⟨this,s8 e q ⟨fun _=>nofun,fun _=>nofun⟩⟩
theorem x3 {i:Nat} {e:XE} (ie:SE K ga gd e):SS K ga gd (.c7 i e):=by
 intro env out h F0 ZM I Z H D R q;simp only [dS] at h;split at h
 ·rename_i rv e1 h1;split at h
  ·rename_i d hv;split at h
   ·rename_i hf;cases h;refine ie _ _ _ h1 F0 ZM I Z H _ R fun v H1 R1 k1 r1=>?_;have a1:=r1.av;rw [hv] at a1;obtain ⟨R2,k2⟩:=R1.FL hf (show Dm K _ H1 d v from a1);exact q _ H1 R2 (k1.s.trans k2)
   ·cases h
  ·cases h
 ·cases h
theorem eG.forget {d:PyData} {v:V} (h:eG K F0 ZM I env Z H (.frs d) v) (i:Nat) (x:Option V) (hs:∀ s,env[i]?=some s->L2.soft s):eG K F0 ZM I (env.set i .un) (Z.set i x) H (.frs d) v:=by
 obtain ⟨a,ea,R,t,w,nF,hi,hr⟩:=h;have R0:=R.less hi;obtain ⟨hf,hia⟩:=R0.sub i x;have hf':∀ b,(FF F0 (env.set i .un) (Z.set i x) b\/b=a)->(FF F0 env Z b\/b=a):=fun b z=>z.imp (hf b) id;refine ⟨a,ea,R.forget i x,t.pr Pr.refl hf' fun _ z=>z,w,fun z=>nF (hf _ z),fun j c e s=>?_,fun j c e=>?_⟩
 ·rcases get_set e with ⟨_,z⟩ | ⟨n,e⟩
  ·cases z
  ·rw [Ig n] at s;exact hi j c e s
 ·rcases get_set e with ⟨_,z⟩ | ⟨n,e⟩
  ·cases z
  ·obtain ⟨b,s,r⟩:=hr j c e;exact ⟨b,by rw [Ig n];exact s,r.pr Pr.refl hf' (fun b z=>z.imp (hia b) id) fun _ _ z _=>z⟩
theorem xP {i:Nat} {e:XE} (ie:SE K ga gd e):SS K ga gd (.mW i e):=by
 intro env out h F0 ZM I Z H D R q;simp only [dS] at h;split at h
 ·rename_i d e1 h1;split at h
  ·rename_i hf;cases h;refine ie _ _ _ h1 F0 ZM I Z H _ R fun v H1 R1 k1 r1=>?_;obtain ⟨s,e,qs⟩:=iU hf;have hi:i < e1.length:=(Ih.mp e).1;have ev:∃ a,v=.ref a:=let ⟨a,e,_⟩:=r1;⟨a,e⟩
   obtain ⟨a,rfl⟩:=ev;have r2:=r1.forget i (some (.ref a)) (fun s' h=>by rw [e] at h;cases h;exact qs);have R2:=Rel.GA (i:=i) (Iv hi) r2;rw [JB,JB] at R2;exact q _ H1 R2 (k1.s.trans (s8 e qs ⟨fun _=>nofun,fun _=>nofun⟩))
  ·cases h
 ·cases h
theorem mJ:∀ {is:List Nat} {ds:List PyData} {vs:List V} {env env':En} {Z:St} {Q:St->Hp->Prop},fz env is ds=some env'->Rel K F0 ZM I env Z H->DmL K (FF F0 env Z) H ds vs->(∀ Z',Rel K F0 ZM I env' Z' H->KpS env Z env' Z'->Q Z' H)->gNs is vs Z H Q
 | [],[],vs,env,env',Z,Q,h,R,hd,q=>by
  cases h;exact ⟨hd,q Z R (KpS.refl _ _)⟩
 | [],d :: ds,vs,env,env',Z,Q,h,R,hd,q=>by cases h
 | i :: is,[],vs,env,env',Z,Q,h,R,hd,q=>by cases h
 | i :: is,d :: ds,vs,env,env',Z,Q,h,R,hd,q=>by
  unfold fz at h;split at h
  ·rename_i hf;obtain ⟨v,r,rfl,h1,h2⟩:=hd;obtain ⟨R1,k1⟩:=R.FL hf h1;obtain ⟨s,e,qs⟩:=iU hf;refine ⟨v,r,rfl,?_⟩;refine mJ h R1 (h2.mono fun b z=>?_) fun Z' R' k'=>q Z' R' (k1.trans k');rcases z with z | ⟨j,c,e',s'⟩
   ·exact .inl z
   ·rcases get_set e' with ⟨_,y⟩ | ⟨n,e'⟩
    ·cases y
    ·rw [Ig n] at s';exact .inr ⟨j,c,e',s'⟩
  ·cases h
theorem y8 {is:List Nat} {e:XE} (ie:SE K ga gd e):SS K ga gd (.Cc is e):=by
 intro env out h F0 ZM I Z H D R q;simp only [dS] at h;split at h
 ·rename_i rv e1 h1;split at h
  ·rename_i ds hv;split at h
   ·rename_i e2 hset;cases h;refine ie _ _ _ h1 F0 ZM I Z H _ R fun v H1 R1 k1 r1=>?_;have a1:=r1.av;rw [hv] at a1;obtain ⟨a,xs,rfl,l,z,r⟩:=(show Dm K (FF F0 e1 Z) H1 (.tuple ds) v from a1);have hlen:∀ {is:List Nat} {ds:List PyData} {e e':En},fz e is ds=some e'->is.length=ds.length:=by
     intro is;induction is with
     | nil=>intro ds e e' h;cases ds with
      | nil=>rfl
      | cons _ _=>cases h
     | cons i is ih=>intro ds e e' h;cases ds with
      | nil=>cases h
      | cons d ds =>
       unfold fz at h;split at h
       ·rw [IH,IH,ih h]
       ·cases h
    exact ⟨a,xs,rfl,l,by rw [r.len,hlen hset],mJ hset R1 r fun Z' R' k'=>q Z' H1 R' (k1.s.trans k')⟩
   ·cases h
  ·cases h
 ·cases h
theorem y3 {e:XE} (ie:SE K ga gd e):SS K ga gd (.drop e):=by
 intro env out h F0 ZM I Z H D R q;simp only [dS] at h;split at h
 ·rename_i rv e1 h1;cases h;exact ie _ _ _ h1 F0 ZM I Z H _ R fun v H1 R1 k1 r1=>q Z H1 R1 k1.s
 ·cases h
theorem A6 {e:XE} (ie:SE K ga gd e):SS K ga gd (.ret e):=by
 intro env out h F0 ZM I Z H D R q;simp only [dS] at h;split at h
 ·rename_i rv e1 h1;cases h;exact ie _ _ _ h1 F0 ZM I Z H _ R fun v H1 R1 k1 r1=>q v Z H1 R1 k1.s r1
 ·cases h
theorem Cj {c:XT} {a b:XS} (ic:ST K ga gd c) (ia:SS K ga gd a) (ib:SS K ga gd b):SS K ga gd (.ifs c a b):=by
 intro env out h F0 ZM I Z H D R q;simp only [dS] at h;split at h
 ·rename_i e1 h1;refine ic _ _ _ h1 F0 ZM I Z H _ R fun H1 R1 k1=>?_;rw [Iy rfl];exact ia _ _ h F0 ZM I Z H1 D R1 (q.from k1.s)
 ·rename_i e1 h1;refine ic _ _ _ h1 F0 ZM I Z H _ R fun H1 R1 k1=>?_;rw [ID (by decide)];exact ib _ _ h F0 ZM I Z H1 D R1 (q.from k1.s)
 ·cases h
theorem AR {m:wc} {i:Nat} {k e:XE} (ik:SE K ga gd k) (ie:SE K ga gd e):SS K ga gd (.sto m i k e):=by
 intro env out h F0 ZM I Z H D R q;simp only [dS] at h;split at h
 ·rename_i rv e1 h1;split at h
  ·rename_i x hv;split at h
   ·rename_i d0 hm0;split at h
    ·rename_i rk e2 h2;split at h
     ·rename_i dk d hvk hm;split at h
      ·rename_i d' hf;cases h;refine ie _ _ _ h1 F0 ZM I Z H _ R fun v H1 R1 k1 r1=>?_;obtain ⟨_,a,s,_⟩:=R1.c0 hm0;refine ⟨.ref a,s,?_⟩;refine ik _ _ _ h2 F0 _ _ Z H1 _ R1.rebase fun u H2 S2 k2 r2=>?_;have R2:=R1.bp S2;have a1:=r1.av;rw [hv] at a1;have dx:=R1.n4 S2 k2 (show Dm K _ H1 x v from a1);obtain ⟨m2,a',s',f2,t2⟩:=R2.c0 hm;rw [s] at s';cases s';refine m.ok K _ H2 d a dk x u v d' _ hf f2 t2 (r2.av.vw R2 hvk) dx fun H3 hk ht=>?_;exact q Z H3 (R2.Gk hm s hk ht) ((k1.trans k2).trans (qQ _ _ _)).s
      ·cases h
     ·cases h
    ·cases h
   ·cases h
  ·cases h
 ·cases h
theorem EZ {n:Nat} {c:XT} {b:XS} (ic:ST K ga gd c) (ib:SS K ga gd b):SS K ga gd (.wh n c b):=by
 intro env out h F0 ZM I Z H D R q;simp only [dS] at h;refine ⟨fun m Z' H'=>∃ env',whL (dT gd c) (dS gd b) m env'=some out/\Rel K F0 ZM I env' Z' H'/\KpS env Z env' Z',⟨n,env,h,R,KpS.refl _ _⟩,?_⟩;rintro m Z' H' ⟨env',hw,R',k'⟩;cases m with
 | zero=>cases hw
 | succ m =>
  unfold whL at hw;split at hw
  ·rename_i e1 h1;refine ic _ _ _ h1 F0 ZM I Z' H' _ R' fun H2 R2 k2=>?_;rw [Iy rfl];refine ⟨fun Z3 H3=>∃ env3,whL (dT gd c) (dS gd b) m env3=some out/\Rel K F0 ZM I env3 Z3 H3/\KpS env Z env3 Z3,fun Z3 H3 z=>⟨m,JV _,z⟩,?_⟩;split at hw
   ·rename_i e hb;exact ib _ _ hb F0 ZM I Z' H2 _ R2 fun Z3 H3 R3 k3=>⟨e,hw,R3,(k'.trans k2.s).trans k3⟩
   ·rename_i e hb;exact ib _ _ hb F0 ZM I Z' H2 _ R2 fun Z3 H3 R3 k3=>⟨e,hw,R3,(k'.trans k2.s).trans k3⟩
   ·rename_i e hb;cases hw;exact ib _ _ hb F0 ZM I Z' H2 _ R2 fun Z3 H3 R3 k3=>q Z3 H3 R3 ((k'.trans k2.s).trans k3)
   ·rename_i r e hb;cases hw;exact ib _ _ hb F0 ZM I Z' H2 _ R2 fun v Z3 H3 R3 k3 r3=>q v Z3 H3 R3 ((k'.trans k2.s).trans k3) r3
   ·cases hw
  ·rename_i e1 h1;cases hw;refine ic _ _ _ h1 F0 ZM I Z' H' _ R' fun H2 R2 k2=>?_;rw [ID (by decide)];exact q Z' H2 R2 (k'.trans k2.s)
  ·cases hw
end
open PySem
section
variable {K:Fg} {F F' I I' F0:Addr->Prop} {H H' ZM H1:Hp} {env env' e1:En} {Z Z':St} {ga:Nat->V} {gd:List PyData}
theorem Rel.FV (R:Rel K F0 ZM I env Z H) (h:∀ b,I b->I' b):Rel K F0 ZM I' env Z H :=
 ⟨R.len,R.dat,fun i d e=>let ⟨a,s,n,w,t⟩:=R.own i d e;⟨a,s,n,w.imp id (h _),t⟩,fun i d e=>let ⟨a,s,n,w,t⟩:=R.ino i d e;⟨a,s,n,h _ w,t⟩,R.ro,R.sep,R.dom,fun b o e n=>R.dg b o e fun z=>n (h _ z)⟩
theorem Rel.eqF {F1:Addr->Prop} (R:Rel K F0 ZM I env Z H) (h:∀ b,F0 b↔F1 b):Rel K F1 ZM I env Z H:=by
 have:F0=F1:=funext fun b=>propext (h b);exact this▸R
theorem Rel.Ei (R:Rel K F0 ZM I env Z H) {i:Nat} {d:PyData} {a:Addr} (hu:env[i]?=some .un) (s:Z[i]?=some (some (.ref a))) (h:fj K (FF F0 env Z) (IA env Z) H d a):Rel K F0 ZM I (env.set i (.ro d)) Z H:=by
 have hi:i < env.length:=(Ih.mp hu).1;have eF:FF F0 (env.set i (.ro d)) Z=FF F0 env Z:=by
  have:=jO (F0:=F0) (Z:=Z) (s:=.ro d) (x:=some (.ref a)) hu (fun _=>nofun)
  rwa [set_same s] at this
 have eI:IA (env.set i (.ro d)) Z=IA env Z:=by
  have:=sU (Z:=Z) (s:=.ro d) (x:=some (.ref a)) hu (fun _=>⟨nofun,nofun⟩)
  rwa [set_same s] at this
 have mm:∀ j,mu (env.set i (.ro d)) j->mu env j:=fun j h=>by
  obtain ⟨c,e | e⟩:=h
  ·rcases get_set e with ⟨_,z⟩ | ⟨n,e⟩
   ·cases z
   ·exact ⟨c,.inl e⟩
  ·rcases get_set e with ⟨_,z⟩ | ⟨n,e⟩
   ·cases z
   ·exact ⟨c,.inr e⟩
 refine ⟨by rw [IY];exact R.len,fun j c e=>?_,fun j c e=>?_,fun j c e=>?_,fun j c e=>?_,fun j k b h1 h2 h3 h4=>R.sep j k b (mm j h1) (mm k h2) h3 h4,R.dom,R.dg⟩
 ·rw [eF];rcases get_set e with ⟨_,z⟩ | ⟨n,e⟩
  ·cases z
  exact R.dat j c e
 ·rw [eF];rcases get_set e with ⟨_,z⟩ | ⟨n,e⟩
  ·cases z
  exact R.own j c e
 ·rw [eF];rcases get_set e with ⟨_,z⟩ | ⟨n,e⟩
  ·cases z
  exact R.ino j c e
 ·rw [eF,eI];rcases get_set e with ⟨z,y⟩ | ⟨n,e⟩
  ·subst z;cases y;exact ⟨a,s,h⟩
  exact R.ro j c e
theorem Rel.GY (R:Rel K F0 ZM I env Z H) {i:Nat} {d:PyData} {a:Addr} (hu:env[i]?=some .un) (s:Z[i]?=some (some (.ref a))) (h:Top K (FF F0 env Z) H d a) (hF:F0 a) (hI:I a) (na:∀ j,mu env j->Z[j]?≠some (some (.ref a)))
  (hro:∀ (j:Nat) (c:PyData),env[j]?=some (.ro c)->∃ b,Z[j]?=some (some (.ref b))/\fj K (FF F0 env Z) (fun b=>IA env Z b\/b=a) H c b):Rel K F0 ZM I (env.set i (.ino d)) Z H:=by
 have hi:i < env.length:=(Ih.mp hu).1;have eF:FF F0 (env.set i (.ino d)) Z=FF F0 env Z:=by
  have:=jO (F0:=F0) (Z:=Z) (s:=.ino d) (x:=some (.ref a)) hu (fun _=>nofun)
  rwa [set_same s] at this
 have mm:∀ j,mu (env.set i (.ino d)) j->i=j\/(mu env j/\i≠j):=fun j h=>by
  obtain ⟨c,e | e⟩:=h
  ·rcases get_set e with ⟨z,_⟩ | ⟨n,e⟩
   ·exact .inl z
   ·exact .inr ⟨⟨c,.inl e⟩,n⟩
  ·rcases get_set e with ⟨z,_⟩ | ⟨n,e⟩
   ·exact .inl z
   ·exact .inr ⟨⟨c,.inr e⟩,n⟩
 have eI:∀ b,IA (env.set i (.ino d)) Z b->IA env Z b\/b=a:=by
  rintro b ⟨j,m,q⟩;rcases mm j m with z | ⟨m',n⟩
  ·subst z;rw [s] at q;cases q;exact .inr rfl
  ·exact .inl ⟨j,m',q⟩
 refine ⟨by rw [IY];exact R.len,fun j c e=>?_,fun j c e=>?_,fun j c e=>?_,fun j c e=>?_,fun j k b h1 h2 h3 h4=>?_,R.dom,R.dg⟩
 ·rw [eF];rcases get_set e with ⟨_,z⟩ | ⟨n,e⟩
  ·cases z
  exact R.dat j c e
 ·rw [eF];rcases get_set e with ⟨_,z⟩ | ⟨n,e⟩
  ·cases z
  exact R.own j c e
 ·rw [eF];rcases get_set e with ⟨z,y⟩ | ⟨n,e⟩
  ·subst z;cases y;exact ⟨a,s,hF,hI,h⟩
  exact R.ino j c e
 ·rw [eF];rcases get_set e with ⟨_,z⟩ | ⟨n,e⟩
  ·cases z
  obtain ⟨b,q,r⟩:=hro j c e;exact ⟨b,q,r.pr Pr.refl (fun _ z=>z) eI fun _ _ z _=>z⟩
 ·rcases mm j h1 with z1 | ⟨m1,n1⟩
  ·rcases mm k h2 with z2 | ⟨m2,n2⟩
   ·rw [<- z1,<-z2]
   ·rw [<- z1,s] at h3;cases h3;exact absurd h4 (na k m2)
  ·rcases mm k h2 with z2 | ⟨m2,n2⟩
   ·rw [<- z2,s] at h4;cases h4;exact absurd h3 (na j m1)
   ·exact R.sep j k b m1 m2 h3 h4
structure Lk (K:Fg) (F0:Addr->Prop) (ZM:Hp) (I:Addr->Prop) (e1:En) (Z:St) (H1:Hp) (lock:Option Nat) (F1:Addr->Prop):Prop where
 rel:Rel K F1 ZM I (bH e1 lock) Z H1
 ff:FF F1 (bH e1 lock) Z=FF F0 e1 Z
 ia:∀ b,IA (bH e1 lock) Z b->IA e1 Z b/\∀ i,lock=some i->mu e1 i->Z[i]?≠some (some (.ref b))
 un:∀ env' Z' H',Rel K F1 H1 (IA (bH e1 lock) Z) env' Z' H'->KpS (bH e1 lock) Z env' Z'->Rel K F0 ZM I (ax e1 lock env') Z' H'/\KpS e1 Z (ax e1 lock env') Z'/\FF F0 (ax e1 lock env') Z'=FF F1 env' Z'
theorem Lk.rn (R:Rel K F0 ZM I e1 Z H1) {lock:Option Nat} (h1:bH e1 lock=e1) (h2:∀ env',ax e1 lock env'=env') (h3:∀ i,lock=some i->¬mu e1 i):Lk K F0 ZM I e1 Z H1 lock F0 :=
 ⟨by rw [h1];exact R,by rw [h1],fun b hb=>by rw [h1] at hb;exact ⟨hb,fun i hi m=>absurd m (h3 i hi)⟩,fun env' Z' H' S k=>by rw [h1] at S k;rw [h2];exact ⟨R.bp S,k,rfl⟩⟩
theorem Lk.BC (R:Rel K F0 ZM I e1 Z H1) {i:Nat} {d:PyData} {a:Addr} (e:e1[i]?=some (.own d)\/e1[i]?=some (.ino d)) (s:Z[i]?=some (some (.ref a))):Lk K F0 ZM I e1 Z H1 (some i) (fun b=>F0 b\/b=a):=by
 have hi:i < e1.length:=by rcases e with e | e <;> exact (Ih.mp e).1
 have mi:mu e1 i:=⟨d,e⟩;have el:bH e1 (some i)=e1.set i (.ro d):=by simp only [bH];rcases e with e | e <;> rw [e]
 have hm:aR e1 i=some d:=by unfold aR;rcases e with e | e <;> rw [e]
 obtain ⟨_,a',s',fa,ta⟩:=R.c0 hm;rw [s] at s';cases s';have hu:(e1.set i .un)[i]?=some .un:=Iv hi;have mmu:∀ j,mu (e1.set i .un) j->mu e1 j/\i≠j:=fun j h=>by
  obtain ⟨c,e | e⟩:=h
  ·rcases get_set e with ⟨_,z⟩ | ⟨n,e⟩
   ·cases z
   ·exact ⟨⟨c,.inl e⟩,n⟩
  ·rcases get_set e with ⟨_,z⟩ | ⟨n,e⟩
   ·cases z
   ·exact ⟨⟨c,.inr e⟩,n⟩
 have nIA:¬IA (e1.set i .un) Z a:=fun ⟨j,m,q⟩=>(mmu j m).2 (R.sep i j a mi (mmu j m).1 s q);have eFu:FF (fun b=>F0 b\/b=a) (e1.set i .un) Z=FF F0 e1 Z:=by
  funext b;apply propext;constructor
  ·rintro ((h | h) | ⟨j,c,e',q⟩)
   ·exact .inl h
   ·exact h▸fa
   ·rcases get_set e' with ⟨_,z⟩ | ⟨n,e'⟩
    ·cases z
    ·exact .inr ⟨j,c,e',q⟩
  ·rintro (h | ⟨j,c,e',q⟩)
   ·exact .inl (.inl h)
   ·by_cases n:i=j
    ·subst n;rw [s] at q;cases q;exact .inl (.inr rfl)
    ·exact .inr ⟨j,c,by rw [Ig n];exact e',q⟩
 have Ru:Rel K (fun b=>F0 b\/b=a) ZM I (e1.set i .un) Z H1:=by
  rcases e with e | e
  ·obtain ⟨a2,s2,r⟩:=R.take e;rw [s] at s2;cases s2;obtain ⟨a3,ea,R',_⟩:=r;cases ea;exact R'
  ·have:=R.forget i (some (.ref a));rw [set_same s] at this;obtain ⟨a2,s2,f2,_⟩:=R.ino i d e;rw [s] at s2;cases s2;exact this.eqF fun b=>⟨.inl,fun z=>z.elim id fun z=>z▸f2⟩
 have Rl:Rel K (fun b=>F0 b\/b=a) ZM I (e1.set i (.ro d)) Z H1:=by
  have:=Ru.Ei (d:=d) hu s (by rw [eFu];exact ta.ro nIA)
  rwa [JB] at this
 have eFl:FF (fun b=>F0 b\/b=a) (e1.set i (.ro d)) Z=FF F0 e1 Z:=by
  rw [<- eFu];have:=jO (F0:=fun b=>F0 b\/b=a) (Z:=Z) (s:=.ro d) (x:=some (.ref a)) hu (fun _=>nofun)
  rwa [set_same s,JB] at this
 have eIl:IA (e1.set i (.ro d)) Z=IA (e1.set i .un) Z:=by
  have:=sU (Z:=Z) (s:=.ro d) (x:=some (.ref a)) hu (fun _=>⟨nofun,nofun⟩)
  rwa [set_same s,JB] at this
 have iaSub:∀ b,IA (e1.set i (.ro d)) Z b->IA e1 Z b:=fun b hb=>by rw [eIl] at hb;obtain ⟨j,m,q⟩:=hb;exact ⟨j,(mmu j m).1,q⟩
 refine ⟨by rw [el];exact Rl,by rw [el];exact eFl,fun b hb=>?_,fun env' Z' H' S k=>?_⟩
 ·rw [el,eIl] at hb;obtain ⟨j,m,q⟩:=hb;refine ⟨⟨j,(mmu j m).1,q⟩,fun i' hi' mi' si'=>?_⟩;cases hi';exact (mmu j m).2 (R.sep i j b mi (mmu j m).1 si' q)
 ·rw [el] at S k;have hro:(e1.set i (.ro d))[i]?=some (.ro d):=Iv hi;obtain ⟨si,he,hv,hs⟩:=k.2 i _ hro;have hv:si=.ro d:=hv;subst hv;have hs:=(hs trivial).trans s;have hi':i < env'.length:=(Ih.mp he).1;have na1:¬IA (e1.set i (.ro d)) Z a:=by rw [eIl];exact nIA
  have keepA:∀ o,H1 a=some o->H' a=some o:=fun o z=>S.dg a o z na1;have fSub:∀ b,FF (fun b=>F0 b\/b=a) env' Z' b->(FF F0 e1 Z b\/H1 b=none):=fun b z=>by
   rcases z with (z | z) | ⟨j,c,e',q⟩
   ·exact .inl (.inl z)
   ·exact .inl (z▸fa)
   ·obtain ⟨b',q',_,w,_⟩:=S.own j c e';rw [q] at q';cases q';rcases w with w | w
    ·exact .inr w
    ·exact .inl (R.ia (iaSub b w))
  have pF:Pr (fun b=>FF F0 e1 Z b\/H1 b=none) H1 H':=(R.oD fun b o z n=>S.dg b o z fun y=>n (iaSub b y)).Gs fun b z=>.inl z;have tA:Top K (FF (fun b=>F0 b\/b=a) env' Z') H' d a:=ta.aZ.pr pF fSub keepA;have iaEnd:∀ b,IA env' Z' b->(IA e1 Z b\/H1 b=none):=fun b z=>by
   rcases S.iaI z with w | w
   ·exact .inr w
   ·exact .inl (iaSub b w)
  have roOld:∀ (j:Nat) (c:PyData),env'[j]?=some (.ro c)->i≠j->∃ b,Z'[j]?=some (some (.ref b))/\fj K (FF (fun b=>F0 b\/b=a) env' Z') (fun b=>IA env' Z' b\/b=a) H' c b:=fun j c e' n=>by
   have hj:j < e1.length:=by
    have:=(Ih.mp e').1;rw [k.1,IY] at this;exact this
   have e0:(e1.set i (.ro d))[j]?=some e1[j]:=by rw [Ig n];exact Ie hj
   obtain ⟨s',h',v',w'⟩:=k.2 j _ e0;rw [e'] at h';cases h';have es:e1[j]=.ro c:=by
    cases hh:e1[j] with
    | ino _=>rw [hh] at v';obtain ⟨_,z⟩:=v';cases z
    | ro c'=>rw [hh] at v';have:Sl.ro c=.ro c':=v';rw [this]
    | un=>rw [hh] at v';exact absurd rfl (v'.2 c)
    | dat _=>rw [hh] at v';exact absurd rfl (v'.2 c)
    | own _=>rw [hh] at v';exact absurd rfl (v'.2 c)
   have er:e1[j]?=some (.ro c):=by rw [Ie hj,es]
   obtain ⟨b,q,r⟩:=R.ro j c er;rw [es] at w';refine ⟨b,(w' trivial).trans q,r.aZ.pr pF fSub (fun b z=>?_) fun b o z n=>S.dg b o z fun y=>n (.inl (iaSub b y))⟩;rcases z with z | z
   ·exact iaEnd b z
   ·exact .inl (z▸⟨i,mi,s⟩)
  have inoNe:∀ (j:Nat) (c:PyData),env'[j]?=some (.ino c)->Z'[j]?≠some (some (.ref a)):=fun j c e' q=>by
   have n:i≠j:=fun z=>by subst z;rw [he] at e';cases e'
   have hj:j < e1.length:=by
    have:=(Ih.mp e').1;rw [k.1,IY] at this;exact this
   have e0:(e1.set i (.ro d))[j]?=some e1[j]:=by rw [Ig n];exact Ie hj
   obtain ⟨s',h',v',w'⟩:=k.2 j _ e0;rw [e'] at h';cases h';have es:∃ c',e1[j]=.ino c':=by
    cases hh:e1[j] with
    | ino c'=>exact ⟨c',rfl⟩
    | ro c'=>rw [hh] at v';cases v'
    | un=>rw [hh] at v';exact absurd rfl (v'.1 c)
    | dat _=>rw [hh] at v';exact absurd rfl (v'.1 c)
    | own _=>rw [hh] at v';exact absurd rfl (v'.1 c)
   obtain ⟨c',es⟩:=es;have er:e1[j]?=some (.ino c'):=by rw [Ie hj,es]
   rw [es] at w';rw [w' trivial] at q;exact n (R.sep i j a mi ⟨c',.inr er⟩ s q)
  have Sf:Rel K (fun b=>F0 b\/b=a) H1 (IA e1 Z) (env'.set i .un) Z' H':=by
   have:=S.forget i (some (.ref a));rw [set_same hs] at this;exact this.FV iaSub
  have hu':(env'.set i .un)[i]?=some .un:=Iv hi';have eFe:FF (fun b=>F0 b\/b=a) (env'.set i .un) Z'=FF (fun b=>F0 b\/b=a) env' Z':=by
   funext b;apply propext;constructor
   ·rintro (h | ⟨j,c,e',q⟩)
    ·exact .inl h
    ·rcases get_set e' with ⟨_,z⟩ | ⟨n,e'⟩
     ·cases z
     ·exact .inr ⟨j,c,e',q⟩
   ·rintro (h | ⟨j,c,e',q⟩)
    ·exact .inl h
    ·have n:i≠j:=fun z=>by subst z;rw [he] at e';cases e'
     exact .inr ⟨j,c,by rw [Ig n];exact e',q⟩
  have iaE:∀ b,IA (env'.set i .un) Z' b->IA env' Z' b:=by
   rintro b ⟨j,⟨c,m⟩,q⟩;refine ⟨j,⟨c,?_⟩,q⟩;rcases m with m | m
   ·rcases get_set m with ⟨_,z⟩ | ⟨n,m⟩
    ·cases z
    ·exact .inl m
   ·rcases get_set m with ⟨_,z⟩ | ⟨n,m⟩
    ·cases z
    ·exact .inr m
  have kEnd:∀ t:Sl,Evs (e1[i]) t->KpS e1 Z (env'.set i t) Z':=fun t ht=>by
   refine ⟨by rw [IY,k.1,IY],fun j s0 e0=>?_⟩;by_cases z:i=j
   ·subst z;rw [Ie hi] at e0;cases e0;exact ⟨t,Iv hi',ht,fun _=>hs.trans s.symm⟩
   ·obtain ⟨s',h',v',w'⟩:=k.2 j s0 (by rw [Ig z];exact e0);exact ⟨s',by rw [Ig z];exact h',v',w'⟩
  rcases e with e | e
  ·have eu:ax e1 (some i) env'=env'.set i (.own d):=by simp only [ax];rw [e,he]
   obtain ⟨a2,s2,nF,_⟩:=R.own i d e;rw [s] at s2;cases s2;have nFF:¬FF F0 (env'.set i .un) Z' a:=by
    rintro (h | ⟨j,c,e',q⟩)
    ·exact nF h
    ·obtain ⟨b',q',n',_⟩:=Sf.own j c e';rw [q] at q';cases q';exact n' (.inr rfl)
   have rv:eG K F0 H1 (IA e1 Z) (env'.set i .un) Z' H' (.frs d) (.ref a):=by
    refine ⟨a,rfl,Sf,?_,.inr ⟨i,mi,s⟩,nFF,fun j c e' q=>?_,fun j c e'=>?_⟩
    ·rw [<- fw,eFe];exact tA
    ·rcases get_set e' with ⟨_,z⟩ | ⟨n,e'⟩
     ·cases z
     ·exact inoNe j c e' q
    ·rcases get_set e' with ⟨_,z⟩ | ⟨n,e'⟩
     ·cases z
     ·obtain ⟨b,q,r⟩:=roOld j c e' n;refine ⟨b,q,?_⟩;rw [<- fw,eFe];exact r.pr Pr.refl (fun _ z=>z) (fun b z=>z.imp (iaE b) id) fun _ _ z _=>z
   have Rn:=Rel.GA hu' rv;rw [JB,set_same hs] at Rn;rw [eu];refine ⟨R.bp Rn,kEnd _ ?_,?_⟩
   ·have:e1[i]=.own d:=by have:=Ie hi;rw [e] at this;exact (Jm this).symm
    rw [this];exact ⟨fun _=>nofun,fun _=>nofun⟩
   ·rw [<- eFe,fw];funext b;apply propext;constructor
    ·rintro (h | ⟨j,c,e',q⟩)
     ·exact .inl (.inl h)
     ·rcases get_set e' with ⟨z,_⟩ | ⟨n,e'⟩
      ·subst z;rw [hs] at q;cases q;exact .inr rfl
      ·exact .inl (.inr ⟨j,c,by rw [Ig n];exact e',q⟩)
    ·rintro ((h | ⟨j,c,e',q⟩) | rfl)
     ·exact .inl h
     ·rcases get_set e' with ⟨_,z⟩ | ⟨n,e'⟩
      ·cases z
      ·exact .inr ⟨j,c,by rw [Ig n];exact e',q⟩
     ·exact .inr ⟨i,d,Iv hi',hs⟩
  ·have eu:ax e1 (some i) env'=env'.set i (.ino d):=by simp only [ax];rw [e,he]
   obtain ⟨a2,s2,f2,i2,_⟩:=R.ino i d e;rw [s] at s2;cases s2;have Sf2:Rel K F0 H1 (IA e1 Z) (env'.set i .un) Z' H':=Sf.eqF fun b=>⟨fun z=>z.elim id fun z=>z▸f2,.inl⟩;have eF0:FF F0 (env'.set i .un) Z'=FF (fun b=>F0 b\/b=a) env' Z':=by
    rw [<- eFe];have:(fun b=>F0 b\/b=a)=F0:=funext fun b=>propext ⟨fun z=>z.elim id fun z=>z▸f2,.inl⟩;rw [this]
   have Rn:=Sf2.GY (d:=d) hu' hs (by rw [eF0];exact tA) f2 ⟨i,mi,s⟩ (fun j m q=>?_) (fun j c e'=>?_)
   ·rw [JB] at Rn;rw [eu];refine ⟨R.bp Rn,kEnd _ ?_,?_⟩
    ·have:e1[i]=.ino d:=by have:=Ie hi;rw [e] at this;exact (Jm this).symm
     rw [this];exact ⟨d,rfl⟩
    ·rw [<- eF0];have:=jO (F0:=F0) (Z:=Z') (s:=.ino d) (x:=some (.ref a)) hu' (fun _=>nofun)
     rwa [set_same hs,JB] at this
   ·obtain ⟨c,m | m⟩:=m
    ·obtain ⟨b',q',n',_⟩:=Sf.own j c m;rw [q] at q';cases q';exact n' (.inr rfl)
    ·rcases get_set m with ⟨_,z⟩ | ⟨n,m⟩
     ·cases z
     ·exact inoNe j c m q
   ·rcases get_set e' with ⟨_,z⟩ | ⟨n,e'⟩
    ·cases z
    ·obtain ⟨b,q,r⟩:=roOld j c e' n;refine ⟨b,q,?_⟩;rw [eF0];exact r.pr Pr.refl (fun _ z=>z) (fun b z=>z.imp (iaE b) id) fun _ _ z _=>z
theorem Lk.of (R:Rel K F0 ZM I e1 Z H1) (lock:Option Nat):∃ F1,Lk K F0 ZM I e1 Z H1 lock F1/\(lkd e1 lock=false->F1=F0/\bH e1 lock=e1/\∀ env',ax e1 lock env'=env'):=by
 cases lock with
 | none=>exact ⟨F0,Lk.rn R rfl (fun _=>rfl) (fun i z=>by cases z),fun _=>⟨rfl,rfl,fun _=>rfl⟩⟩
 | some i =>
  cases e:e1[i]? with
  | none =>
   have h1:bH e1 (some i)=e1:=by simp only [bH];rw [e]
   have h2:∀ env',ax e1 (some i) env'=env':=fun env'=>by simp only [ax];rw [e]
   exact ⟨F0,Lk.rn R h1 h2 (fun j z m=>by cases z;obtain ⟨d,m | m⟩:=m <;> (rw [e] at m;cases m)),fun _=>⟨rfl,h1,h2⟩⟩
  | some s =>
   cases s with
   | own d =>
    obtain ⟨a,q,_⟩:=R.own i d e;exact ⟨_,Lk.BC R (.inl e) q,fun z=>by simp only [lkd] at z;rw [e] at z;cases z⟩
   | ino d =>
    obtain ⟨a,q,_⟩:=R.ino i d e;exact ⟨_,Lk.BC R (.inr e) q,fun z=>by simp only [lkd] at z;rw [e] at z;cases z⟩
   | un =>
    have h1:bH e1 (some i)=e1:=by simp only [bH];rw [e]
    have h2:∀ env',ax e1 (some i) env'=env':=fun env'=>by simp only [ax];rw [e]
    exact ⟨F0,Lk.rn R h1 h2 (fun j z m=>by cases z;obtain ⟨d,m | m⟩:=m <;> (rw [e] at m;cases m)),fun _=>⟨rfl,h1,h2⟩⟩
   | dat d =>
    have h1:bH e1 (some i)=e1:=by simp only [bH];rw [e]
    have h2:∀ env',ax e1 (some i) env'=env':=fun env'=>by simp only [ax];rw [e]
    exact ⟨F0,Lk.rn R h1 h2 (fun j z m=>by cases z;obtain ⟨d,m | m⟩:=m <;> (rw [e] at m;cases m)),fun _=>⟨rfl,h1,h2⟩⟩
   | ro d =>
    have h1:bH e1 (some i)=e1:=by simp only [bH];rw [e]
    have h2:∀ env',ax e1 (some i) env'=env':=fun env'=>by simp only [ax];rw [e]
    exact ⟨F0,Lk.rn R h1 h2 (fun j z m=>by cases z;obtain ⟨d,m | m⟩:=m <;> (rw [e] at m;cases m)),fun _=>⟨rfl,h1,h2⟩⟩
theorem tV {b:PyData->En->Option Out} {ds:List PyData} {out:Out} {J:It} {F1 I1:Addr->Prop} {el:En} {g:TG} {tb:TS} {D:Ends} (R:Rel K F1 H1 I1 el Z H1) (hI:I1=IA el Z) (hit:ua K (FF F1 el Z) I1 H1 J ds) (h:forL b ds el=some out)
  (turn:∀ d o env' Z' H' x,b d env'=some o->Rel K F1 H1 I1 env' Z' H'->KpS el Z env' Z'->Dm K (FF F1 env' Z') H' d x->∀ D':Ends,lq K F1 H1 I1 env' Z' D' o->g x Z' H' fun Z2 H2=>tb D' Z2 H2)
  (q:lq K F1 H1 I1 el Z D out) :
  ∃ W:Nat->Nat->St->Hp->Prop,(∃ m,W 0 m Z H1)/\∀ i m Z H,W i m Z H ->
   (J.stop i H/\D.nx Z H)\/(J.go i H/\∃ N:St->Hp->Prop,(∀ Z' H',N Z' H'->∃ m',m' < m/\W (i+1) m' Z' H')/\∀ x H',J.yld i H x H'->g x Z H' fun Z2 H2=>tb { D with nx:=N,ct:=N,bk:=D.nx } Z2 H2):=by
 subst hI;obtain ⟨hvl,hturn⟩:=hit;refine ⟨fun i m Z' H'=>m=ds.length - i/\i<=ds.length/\∃ env',forL b (ds.drop i) env'=some out/\Rel K F1 H1 (IA el Z) env' Z' H'/\KpS el Z env' Z',⟨ds.length,rfl,JD _,el,h,R,KpS.refl _ _⟩,?_⟩;rintro i m Z' H' ⟨rfl,hi,env',hf,R',k'⟩;have hkept:∀ b o,H1 b=some o->¬IA el Z b->H' b=some o:=R'.dg;by_cases hlt:i < ds.length
 ·right;obtain ⟨go,yld⟩:=(hturn H' hkept i).1 (by omega);refine ⟨go,fun Z3 H3=>(ds.length - (i+1))=ds.length - (i+1)/\i+1<=ds.length/\∃ env',forL b (ds.drop (i+1)) env'=some out/\Rel K F1 H1 (IA el Z) env' Z3 H3/\KpS el Z env' Z3,fun Z3 H3 z=>⟨ds.length - (i+1),by omega,z⟩,fun x H'' hx=>?_⟩;obtain ⟨d,hd,hy9⟩:=yld x H'' hx;have fSub:∀ b,FF F1 env' Z' b->(FF F1 el Z b\/H1 b=none):=fun b z=>by
   rcases z with z | ⟨j,c,e',s'⟩
   ·exact .inl (.inl z)
   ·obtain ⟨b',q',_,w,_⟩:=R'.own j c e';rw [s'] at q';cases q';exact w.elim .inr fun w=>.inl (R.ia w)
  obtain ⟨sm,hdx'⟩:=hy9.dm (F2:=FF F1 env' Z') fun d v h=>h.aZ.pr ((R.oD hkept).Gs fun b z=>.inl z) fSub;have R':=R'.same sm;have ed:ds.drop i=d :: ds.drop (i+1):=by
   rw [KO hlt];obtain ⟨_,z⟩:=Ih.mp hd;rw [z]
  rw [ed] at hf;unfold forL at hf;split at hf
  ·rename_i e hb;exact turn d _ env' Z' H'' x hb R' k' hdx' _ fun Z3 H3 R3 k3=>⟨rfl,by omega,e,hf,R3,k'.trans k3⟩
  ·rename_i e hb;exact turn d _ env' Z' H'' x hb R' k' hdx' _ fun Z3 H3 R3 k3=>⟨rfl,by omega,e,hf,R3,k'.trans k3⟩
  ·rename_i e hb;cases hf;exact turn d _ env' Z' H'' x hb R' k' hdx' _ fun Z3 H3 R3 k3=>q Z3 H3 R3 (k'.trans k3)
  ·rename_i r e hb;cases hf;exact turn d _ env' Z' H'' x hb R' k' hdx' _ fun v Z3 H3 R3 k3 r3=>q v Z3 H3 R3 (k'.trans k3) r3
  ·cases hf
 ·left;have e:i=ds.length:=by omega
  subst e;rw [List.drop_length] at hf;unfold forL at hf;cases hf;exact ⟨(hturn H' hkept _).2 (by omega),q Z' H' R' k'⟩
theorem eG.unl {rv:RV} {v:V} {F1:Addr->Prop} {e2:En} (h:eG K F1 ZM I env Z H rv v) (hn:∀ d,rv≠.frs d) (eF:FF F0 e2 Z=FF F1 env Z) {H₁:Hp} {I₁:Addr->Prop}:eG K F0 H₁ I₁ e2 Z H rv v:=by
 cases rv with
 | dat d=>show Dm K _ H d v;rw [eF];exact h
 | bor i=>exact h
 | frs d=>exact absurd rfl (hn d)
theorem eG.EJ {rv:RV} {v:V} (h:eG K F0 ZM I env Z H rv v):eG K F0 ZM I env Z H (rv.soft true) v:=by
 cases rv with
 | dat d=>exact h
 | bor i=>exact h
 | frs d=>exact h.av
theorem eG.bp {rv:RV} {v:V} (R:Rel K F0 ZM I env Z H) (h:eG K F0 H (IA env Z) env' Z' H' rv v):eG K F0 ZM I env' Z' H' rv v:=by
 cases rv with
 | dat d=>exact h
 | bor i=>exact h
 | frs d =>
  obtain ⟨a,ea,S,t,w,nF,hi,hr⟩:=h;have S0:=R.bp (S.less hi);refine ⟨a,ea,⟨S.len,S.dat,fun i c e=>?_,fun i c e=>?_,S.ro,S.sep,S.dom,S0.dg⟩,t,R.oi w,nF,hi,hr⟩
  ·obtain ⟨b,s,n,w',t'⟩:=S.own i c e;exact ⟨b,s,n,R.oi w',t'⟩
  ·obtain ⟨b,s,n,w',t'⟩:=S.ino i c e;obtain ⟨b2,s2,_,i2,_⟩:=S0.ino i c e;rw [s] at s2;cases s2;exact ⟨b,s,n,i2,t'⟩
theorem Lk.out {lock:Option Nat} {F1:Addr->Prop} {D:Ends} {out:Out} (R1:Rel K F0 ZM I e1 Z H1) (L:Lk K F0 ZM I e1 Z H1 lock F1) (hno:lkd e1 lock=false->F1=F0/\bH e1 lock=e1/\∀ env',ax e1 lock env'=env')
  (q:lq K F0 ZM I e1 Z D (out.map (lkd e1 lock) (ax e1 lock))):lq K F1 H1 (IA (bH e1 lock) Z) (bH e1 lock) Z D out:=by
 cases out with
 | nx e=>exact fun Z' H' R' k'=>let ⟨A,B,_⟩:=L.un e Z' H' R' k';q Z' H' A B
 | bk e=>exact fun Z' H' R' k'=>let ⟨A,B,_⟩:=L.un e Z' H' R' k';q Z' H' A B
 | ct e=>exact fun Z' H' R' k'=>let ⟨A,B,_⟩:=L.un e Z' H' R' k';q Z' H' A B
 | rt rv e =>
  intro v Z' H' R' k' r;obtain ⟨A,B,C⟩:=L.un e Z' H' R' k';refine q v Z' H' A B ?_;cases hl:lkd e1 lock with
  | true=>exact r.EJ.unl (fun d z=>by cases rv <;> cases z) C
  | false =>
   obtain ⟨rfl,h1,h2⟩:=hno hl;rw [h1] at r;rw [h2];have:rv.soft false=rv:=by cases rv <;> rfl
   rw [this];exact r.bp R1
theorem DH {i:Nat} {it:XI} {b:XS} (ii:SI K ga gd it) (ib:SS K ga gd b):SS K ga gd (.fr i it b):=by
 intro env out h F0 ZM I Z H D R q;simp only [dS] at h;split at h
 ·rename_i ds lock e1 h1;cases ho:forL (jS i (dS gd b)) ds (bH e1 lock) with
  | none=>rw [ho] at h;cases h
  | some o =>
   rw [ho] at h;cases h;refine ii _ _ _ _ h1 F0 ZM I Z H _ R fun J H1 R1 k1 _ hit=>?_;obtain ⟨F1,L,hno⟩:=Lk.of R1 lock;have Rb:=L.rel.rebase;refine tV Rb rfl ?_ ho ?_ (L.out R1 hno (q.from k1.s))
   ·rw [L.ff];obtain ⟨a2,a3⟩:=hit;exact ⟨a2,fun H' hk=>a3 H' fun b o e n=>hk b o e fun z=>n (L.ia b z)⟩
   ·intro d o env' Z' H' x hb R' k' hd D' hD;unfold jS at hb;split at hb
    ·rename_i hf;obtain ⟨R2,k2⟩:=R'.FL hf hd;exact ib _ _ hb _ _ _ _ H' D' R2 (hD.from k2)
    ·cases hb
 ·cases h
theorem BI {is:List Nat} {it:XI} {b:XS} (ii:SI K ga gd it) (ib:SS K ga gd b):SS K ga gd (.frT is it b):=by
 intro env out h F0 ZM I Z H D R q;simp only [dS] at h;split at h
 ·rename_i ds lock e1 h1
  ·obtain ⟨o,ho,e0⟩:=IK.mp h;subst e0;refine ii _ _ _ _ h1 F0 ZM I Z H _ R fun J H1 R1 k1 _ hit=>?_;obtain ⟨F1,L,hno⟩:=Lk.of R1 lock;have Rb:=L.rel.rebase;refine tV Rb rfl ?_ ho ?_ (L.out R1 hno (q.from k1.s))
   ·rw [L.ff];obtain ⟨a2,a3⟩:=hit;exact ⟨a2,fun H' hk=>a3 H' fun b o e n=>hk b o e fun z=>n (L.ia b z)⟩
   ·intro d o env' Z' H' x hb R' k' hd D' hD;unfold ja at hb;split at hb
    ·rename_i xs;split at hb
     ·rename_i e2 hset;obtain ⟨a,vs,rfl,l,z,r⟩:=hd;have hlen:∀ {is:List Nat} {ds:List PyData} {e e':En},fz e is ds=some e'->is.length=ds.length:=by
       intro is;induction is with
       | nil=>intro ds e e' h;cases ds with
        | nil=>rfl
        | cons _ _=>cases h
       | cons i is ih=>intro ds e e' h;cases ds with
        | nil=>cases h
        | cons d ds =>
         unfold fz at h;split at h
         ·rw [IH,IH,ih h]
         ·cases h
      exact ⟨a,vs,rfl,l,by rw [r.len,hlen hset],mJ hset R' r fun Z2 R2 k2=>ib _ _ hb _ _ _ _ H' D' R2 (hD.from k2)⟩
     ·cases hb
    ·cases hb
 ·cases h
theorem sS (hg:∀ g d,gd[g]?=some d->∀ F H,Dm K F H d (ga g)):∀ s:XS,SS K ga gd s
 | .skip=>fun env out h F0 ZM I Z H D R q=>by cases h;exact q Z H R (KpS.refl _ _)
 | .seq a b=>CQ (sS hg a) (sS hg b)
 | .c7 i e=>x3 (sE hg e) | .mW i e=>xP (sE hg e) | .Cc is e=>y8 (sE hg e) | .drop e=>y3 (sE hg e) | .ret e=>A6 (sE hg e)
 | .Dp=>fun env out h F0 ZM I Z H D R q=>by cases h;exact q .non Z H R (KpS.refl _ _) rfl
 | .ifs c a b=>Cj (sT hg c) (sS hg a) (sS hg b)
 | .fr i it b=>DH (sI hg it) (sS hg b) | .frT is it b=>BI (sI hg it) (sS hg b) | .wh n c b=>EZ (sT hg c) (sS hg b)
 | .brk=>fun env out h F0 ZM I Z H D R q=>by cases h;exact q Z H R (KpS.refl _ _)
 | .cnt=>fun env out h F0 ZM I Z H D R q=>by cases h;exact q Z H R (KpS.refl _ _)
 | .nev=>fun env out h F0 ZM I Z H D R q=>by cases h
 | .sto m i k e=>AR (sE hg k) (sE hg e)
end
open PySem
section
variable {K:Fg} {F F' G I I' F0:Addr->Prop} {H H' ZM H1:Hp} {env env' e1:En} {Z Z':St} {ga:Nat->V} {gd:List PyData}
theorem cB:∀ {ms:List PM} {ds:List PyData} {n:Nat},ds.length=ms.length->ms.length<=n->(ak ms ds n).length=n
 | [],[],n,_,_=>by simp [ak]
 | [],_ :: _,n,h,_=>by cases h
 | _ :: _,[],n,h,_=>by cases h
 | m :: ms,d :: ds,n,h,hn=>by
  have ih:=cB (ms:=ms) (ds:=ds) (n:=n - 1) (by simpa using h) (by simp at hn;omega);simp at hn;cases m <;> (simp only [ak,IH,ih];omega)
theorem bo.len:∀ {ms:List PM} {ds:List PyData} {vs:List V} {is:List Addr},bo K G I H ms ds vs is->ds.length=ms.length/\vs.length=ms.length
 | [],[],[],_,_=>⟨rfl,rfl⟩
 | [],[],_ :: _,_,h=>by exact absurd h id
 | [],_ :: _,_,_,h=>by exact absurd h id
 | m :: ms,[],_,_,h=>by cases m <;> exact absurd h id
 | m :: ms,d :: ds,[],_,h=>by cases m <;> exact absurd h id
 | .dat :: ms,d :: ds,v :: vs,is,h=>by obtain ⟨a,b⟩:=bo.len h.2;exact ⟨by simp [a],by simp [b]⟩
 | .bor :: ms,d :: ds,v :: vs,is,h=>by obtain ⟨a,b⟩:=bo.len h.2;exact ⟨by simp [a],by simp [b]⟩
 | .ino :: ms,d :: ds,v :: vs,is,h=>by obtain ⟨_,_,_,_,_,_,_,h⟩:=h;obtain ⟨a,b⟩:=bo.len h;exact ⟨by simp [a],by simp [b]⟩
def At (K:Fg) (G I:Addr->Prop) (H:Hp) (is:List Addr) (s:Sl) (x:Option V):Prop:=match s with
 | .un=>True
 | .dat d=>∃ v,x=some v/\Dm K G H d v
 | .ino d=>∃ a,x=some (.ref a)/\a∈is/\G a/\Top K G H d a
 | .ro d=>∃ a,x=some (.ref a)/\fj K G I H d a
 | .own _=>False
theorem At.more {is is':List Addr} {s:Sl} {x:Option V} (h:At K G I H is s x) (q:∀ a∈is,a∈is'):At K G I H is' s x:=by
 cases s with
 | ino d=>obtain ⟨a,e,m,r⟩:=h;exact ⟨a,e,q a m,r⟩
 | _=>exact h
theorem bQ:∀ {ms:List PM} {ds:List PyData} {vs:List V} {is:List Addr} {n:Nat} {tl:St},bo K G I H ms ds vs is->∀ {i:Nat} {s:Sl},(ak ms ds n)[i]?=some s->∀ {x:Option V},(vs.map some++tl)[i]?=some x->At K G I H is s x
 | [],[],[],is,n,tl,h,i,s,e,x,_=>by
  simp only [ak,Kg] at e;split at e
  ·cases e;trivial
  ·cases e
 | [],[],_ :: _,_,_,_,h,_,_,_,_,_=>by exact absurd h id
 | [],_ :: _,_,_,_,_,h,_,_,_,_,_=>by exact absurd h id
 | m :: ms,[],_,_,_,_,h,_,_,_,_,_=>by cases m <;> exact absurd h id
 | m :: ms,d :: ds,[],_,_,_,h,_,_,_,_,_=>by cases m <;> exact absurd h id
 | .dat :: ms,d :: ds,v :: vs,is,n,tl,h,0,s,e,x,ex=>by
  simp [ak] at e ex;subst e ex;exact ⟨v,rfl,h.1⟩
 | .dat :: ms,d :: ds,v :: vs,is,n,tl,h,i+1,s,e,x,ex=>by
  simp [ak] at e;exact bQ h.2 e (by simpa using ex)
 | .bor :: ms,d :: ds,v :: vs,is,n,tl,h,0,s,e,x,ex=>by
  simp [ak] at e ex;subst e ex;have h1:uK K G I H d v:=h.1;cases d <;> first | exact h1 | exact ⟨v,rfl,h1⟩ | (obtain ⟨a,rfl,r⟩:=h1;exact ⟨a,rfl,r⟩)
 | .bor :: ms,d :: ds,v :: vs,is,n,tl,h,i+1,s,e,x,ex=>by
  simp [ak] at e;exact bQ h.2 e (by simpa using ex)
 | .ino :: ms,d :: ds,v :: vs,is,n,tl,h,0,s,e,x,ex=>by
  simp [ak] at e ex;subst e ex;obtain ⟨a,r,rfl,rfl,g,t,_,_⟩:=h;exact ⟨a,rfl,IE,g,t⟩
 | .ino :: ms,d :: ds,v :: vs,is,n,tl,h,i+1,s,e,x,ex=>by
  simp [ak] at e;obtain ⟨a,r,rfl,rfl,g,t,_,h⟩:=h;exact (bQ h e (by simpa using ex)).more fun b hb=>Ip _ hb
theorem jR:∀ {ms:List PM} {ds:List PyData} {vs:List V} {is:List Addr} {n:Nat} {tl:St},bo K G I H ms ds vs is->∀ {i j:Nat} {c c':PyData} {a:Addr},(ak ms ds n)[i]?=some (.ino c)->(ak ms ds n)[j]?=some (.ino c') ->
  (vs.map some++tl)[i]?=some (some (.ref a))->(vs.map some++tl)[j]?=some (some (.ref a))->i=j
 | [],[],[],is,n,tl,h,i,j,c,c',a,e,_,_,_=>by
  simp only [ak,Kg] at e;split at e <;> cases e
 | [],[],_ :: _,_,_,_,h,_,_,_,_,_,_,_,_,_=>by exact absurd h id
 | [],_ :: _,_,_,_,_,h,_,_,_,_,_,_,_,_,_=>by exact absurd h id
 | m :: ms,[],_,_,_,_,h,_,_,_,_,_,_,_,_,_=>by cases m <;> exact absurd h id
 | m :: ms,d :: ds,[],_,_,_,h,_,_,_,_,_,_,_,_,_=>by cases m <;> exact absurd h id
 | m :: ms,d :: ds,v :: vs,is,n,tl,h,0,0,c,c',a,e,e',s,s'=>rfl
 | m :: ms,d :: ds,v :: vs,is,n,tl,h,i+1,j+1,c,c',a,e,e',s,s'=>by
  have hr:∃ r,bo K G I H ms ds vs r:=by
   cases m with
   | dat=>exact ⟨is,h.2⟩
   | bor=>exact ⟨is,h.2⟩
   | ino=>obtain ⟨_,r,_,_,_,_,_,h⟩:=h;exact ⟨r,h⟩
  obtain ⟨r,hr⟩:=hr;have:i=j:=jR (n:=n - 1) (tl:=tl) hr (by cases m <;> simpa [ak] using e) (by cases m <;> simpa [ak] using e') (by simpa using s) (by simpa using s');rw [this]
 | m :: ms,d :: ds,v :: vs,is,n,tl,h,0,j+1,c,c',a,e,e',s,s'=>by
  cases m with
  | dat=>simp [ak] at e
  | bor=>cases d <;> simp [ak,xf] at e
  | ino =>
   obtain ⟨b,r,rfl,rfl,g,t,nr,h⟩:=h;simp [ak] at e' s;subst s;obtain ⟨a',ea,m',_⟩:=bQ (tl:=tl) h e' (by simpa using s');cases ea;exact absurd m' nr
 | m :: ms,d :: ds,v :: vs,is,n,tl,h,i+1,0,c,c',a,e,e',s,s'=>by
  cases m with
  | dat=>simp [ak] at e'
  | bor=>cases d <;> simp [ak,xf] at e'
  | ino =>
   obtain ⟨b,r,rfl,rfl,g,t,nr,h⟩:=h;simp [ak] at e s';subst s';obtain ⟨a',ea,m',_⟩:=bQ (tl:=tl) h e (by simpa using s);cases ea;exact absurd m' nr
theorem fO {G':Addr->Prop}:∀ {ms:List PM} {ds:List PyData} {vs:List V} {is:List Addr} {n:Nat} {tl:St} {env':En} {Z':St} {outs:List PyData},bo K G I H ms ds vs is->ms.length<=env'.length ->
  (∀ (i:Nat) (c:PyData),(ak ms ds n)[i]?=some (.ino c)->∃ c',env'[i]?=some (.ino c')/\Z'[i]?=(vs.map some++tl)[i]?)->(∀ (i:Nat) (c:PyData) (a:Addr),env'[i]?=some (.ino c)->Z'[i]?=some (some (.ref a))->Top K G' H' c a) ->
  iX ms env'=some outs->hU K G' H' outs is
 | [],[],[],is,n,tl,env',Z',outs,h,_,_,_,e=>by
  rw [show is=[] from h];cases env' <;> (simp only [iX] at e;cases e;trivial)
 | [],[],_ :: _,_,_,_,_,_,_,h,_,_,_,_=>by exact absurd h id
 | [],_ :: _,_,_,_,_,_,_,_,h,_,_,_,_=>by exact absurd h id
 | m :: ms,[],_,_,_,_,_,_,_,h,_,_,_,_=>by cases m <;> exact absurd h id
 | m :: ms,d :: ds,[],_,_,_,_,_,_,h,_,_,_,_=>by cases m <;> exact absurd h id
 | m :: ms,d :: ds,v :: vs,is,n,tl,[],Z',outs,h,hl,h1,h2,e=>by simp at hl
 | m :: ms,d :: ds,v :: vs,is,n,tl,s :: es,Z',outs,h,hl,h1,h2,e=>by
  have hl':ms.length<=es.length:=by simpa using hl
  have t1:∀ (i:Nat) (c:PyData),(ak ms ds (n - 1))[i]?=some (.ino c)->∃ c',es[i]?=some (.ino c')/\Z'.tail[i]?=(vs.map some++tl)[i]?:=fun i c z=>by
   obtain ⟨c',e',q⟩:=h1 (i+1) c (by cases m <;> simpa [ak] using z);exact ⟨c',by simpa using e',by simpa using q⟩
  have t2:∀ (i:Nat) (c:PyData) (a:Addr),es[i]?=some (.ino c)->Z'.tail[i]?=some (some (.ref a))->Top K G' H' c a:=fun i c a z q=>h2 (i+1) c a (by simpa using z) (by simpa using q);cases m with
  | dat=>exact fO h.2 hl' t1 t2 (by simpa [iX] using e)
  | bor=>exact fO h.2 hl' t1 t2 (by simpa [iX] using e)
  | ino =>
   obtain ⟨b,r,rfl,rfl,g,t,nr,h⟩:=h;obtain ⟨c',e',q⟩:=h1 0 d (by simp [ak]);simp at e' q;subst e';simp only [iX] at e;split at e
   ·rename_i os ho;cases e;exact ⟨h2 0 c' b (by simp) (by simpa using q),fO h hl' t1 t2 ho⟩
   ·cases e
theorem cP (hg:∀ g d,gd[g]?=some d->∀ F H,Dm K F H d (ga g)) {ms:List PM} {N:List Str} {b:XS} {vs:List V} {H:Hp} {Q:VK} {E:XK} (h:cU (c8 gd ms N.length b) K vs H Q E) (hn:ms.length<=N.length) :
  rS K ga b { nx:=fun _ H'=>Q .non H',rt:=Q } (start N vs) H:=by
 obtain ⟨G,ds,is,pr,outs,hF,ha,hd,post⟩:=h;have ha:bo K G (·∈is) H ms ds vs is:=ha;obtain ⟨hl1,hl2⟩:=ha.len;have hstart:start N vs=vs.map some++List.replicate (N.length - vs.length) none:=rfl;have no:noOwn (ak ms ds N.length):=fun i d e=>by
  have hi:i < (ak ms ds N.length).length:=(Ih.mp e).1;rw [cB hl1 hn] at hi;have hx:(vs.map some++List.replicate (N.length - vs.length) none)[i]?=some ((vs.map some++List.replicate (N.length - vs.length) none)[i]'(by rw [Io,Ic,IP];omega)):=Ie _;exact (bQ ha e hx:False)
 have at':∀ {i:Nat} {s:Sl},(ak ms ds N.length)[i]?=some s->∃ x,(start N vs)[i]?=some x/\At K G (·∈is) H is s x:=fun {i s} e=>by
  have hi:i < (ak ms ds N.length).length:=(Ih.mp e).1;rw [cB hl1 hn] at hi;have hx:(start N vs)[i]?=some ((start N vs)[i]'(by rw [hstart,Io,Ic,IP];omega)):=Ie _;exact ⟨_,hx,bQ ha e hx⟩
 have eF:FF G (ak ms ds N.length) (start N vs)=G:=cV no;have muI:∀ i,mu (ak ms ds N.length) i->∃ c,(ak ms ds N.length)[i]?=some (.ino c):=fun i ⟨c,m⟩=>m.elim (fun z=>absurd z (no i c)) fun z=>⟨c,z⟩;have R:Rel K G H (·∈is) (ak ms ds N.length) (start N vs) H:=by
  refine ⟨by rw [cB hl1 hn,hstart,Io,Ic,IP];omega,fun i d e=>?_,fun i d e=>absurd e (no i d),fun i d e=>?_,fun i d e=>?_,fun i j a h1 h2 h3 h4=>?_,hd,fun _ _ h _=>h⟩
  ·rw [eF];obtain ⟨x,hx,v,rfl,r⟩:=at' e;exact ⟨v,hx,r⟩
  ·rw [eF];obtain ⟨x,hx,a,rfl,m,g,t⟩:=at' e;exact ⟨a,hx,g,m,t⟩
  ·rw [eF];obtain ⟨x,hx,a,rfl,r⟩:=at' e;refine ⟨a,hx,r.pr Pr.refl (fun _ z=>z) (fun b hb=>?_) fun _ _ z _=>z⟩;obtain ⟨j,m,s⟩:=hb;obtain ⟨c,m⟩:=muI j m;obtain ⟨x,hx,a,rfl,m,g,t⟩:=at' m;rw [s] at hx;cases hx;exact m
  ·obtain ⟨c,m1⟩:=muI i h1;obtain ⟨c',m2⟩:=muI j h2;exact jR ha m1 m2 h3 h4
 simp only [c8] at hF;rw [Iy hl1] at hF
 ·have inoK:∀ {env':En} {Z':St},KpS (ak ms ds N.length) (start N vs) env' Z'->∀ (i:Nat) (c:PyData),(ak ms ds N.length)[i]?=some (.ino c)->∃ c',env'[i]?=some (.ino c')/\Z'[i]?=(vs.map some++List.replicate (N.length - vs.length) none)[i]?:=fun {env' Z'} k i c e=>by
   obtain ⟨s',e',v,w⟩:=k.2 i _ e;obtain ⟨c',rfl⟩:=v;exact ⟨c',e',w trivial⟩
  have hlE:∀ {env':En} {Z':St},KpS (ak ms ds N.length) (start N vs) env' Z'->ms.length<=env'.length:=fun {env' Z'} k=>by rw [k.1,cB hl1 hn];exact hn
  split at hF
  ·rename_i rv env' hS;split at hF
   ·rename_i pr' outs' hpr houts;cases hF;refine sS hg b _ _ hS G H (·∈is) _ H _ R fun v Z' H' R' k' r'=>?_;have mono:∀ b,G b->FF G env' Z' b:=fun b z=>.inl z;cases rv with
    | bor i=>cases hpr
    | dat d =>
     cases hpr
     exact post v H' (fun b o e n=>R'.dg b o e n) ⟨Dm.mono mono r',fO ha (hlE k') (inoK k') (fun i c a e s=>by
      obtain ⟨a',s',_,_,t⟩:=R'.ino i c e;rw [s] at s';cases s'
      exact t.pr Pr.refl mono fun _ z=>z) houts⟩
    | frs d =>
     cases hpr;obtain ⟨a,rfl,Ra,t,w,nF,hino,_⟩:=r';have mono':∀ b,(G b\/b=a)->FF (fun b=>G b\/b=a) env' Z' b:=fun b z=>.inl z
     refine post _ H' (fun b o e n=>R'.dg b o e n) ⟨a,rfl,?_,t.pr Pr.refl (fun b z=>z.imp (mono b) id) (fun _ z=>z),fO ha (hlE k') (inoK k') (fun i c a' e s=>by
      obtain ⟨a2,s',_,_,t'⟩:=Ra.ino i c e;rw [s] at s';cases s'
      exact t'.pr Pr.refl mono' fun _ z=>z) houts⟩
     rcases w with w | w
     ·exact w
     ·-- it would be one that was handed in to be changed
      exfalso;have key:∀ {ms:List PM} {ds:List PyData} {vs:List V} {is:List Addr} {I:Addr->Prop} {n:Nat} {tl:St},bo K G I H ms ds vs is->a∈is->∃ (i:Nat) (c:PyData),(ak ms ds n)[i]?=some (.ino c)/\(vs.map some++tl)[i]?=some (some (.ref a)):=by
       intro ms;induction ms with
       | nil =>
        intro ds vs is I n tl h m;cases ds with
        | cons _ _=>exact absurd h id
        | nil=>cases vs with
         | cons _ _=>exact absurd h id
         | nil=>rw [show is=[] from h] at m;cases m
       | cons p ms ih =>
        intro ds vs is I n tl h m;cases ds with
        | nil=>cases p <;> exact absurd h id
        | cons d ds =>
         cases vs with
         | nil=>cases p <;> exact absurd h id
         | cons v vs =>
          cases p with
          | dat=>obtain ⟨i,c,e,s⟩:=ih (n:=n - 1) (tl:=tl) h.2 m;exact ⟨i+1,c,by simpa [ak] using e,by simpa using s⟩
          | bor=>obtain ⟨i,c,e,s⟩:=ih (n:=n - 1) (tl:=tl) h.2 m;exact ⟨i+1,c,by simpa [ak] using e,by simpa using s⟩
          | ino =>
           obtain ⟨b,r,rfl,rfl,g,t,nr,h⟩:=h;rcases Iq.mp m with rfl | m
           ·exact ⟨0,d,by simp [ak],by simp⟩
           ·obtain ⟨i,c,e,s⟩:=ih (n:=n - 1) (tl:=tl) h m;exact ⟨i+1,c,by simpa [ak] using e,by simpa using s⟩
      obtain ⟨i,c,e,s⟩:=key (n:=N.length) (tl:=List.replicate (N.length - vs.length) none) ha w;obtain ⟨c',e',s'⟩:=inoK k' i c e;exact hino i c' e' (s'.trans s)
   ·cases hF
  ·rename_i env' hS;split at hF
   ·rename_i outs' houts;cases hF;refine sS hg b _ _ hS G H (·∈is) _ H _ R fun Z' H' R' k'=>?_;have mono:∀ b,G b->FF G env' Z' b:=fun b z=>.inl z
    exact post .non H' (fun b o e n=>R'.dg b o e n) ⟨rfl,fO ha (hlE k') (inoK k') (fun i c a e s=>by
      obtain ⟨a',s',_,_,t⟩:=R'.ino i c e;rw [s] at s';cases s'
      exact t.pr Pr.refl mono fun _ z=>z) houts⟩
   ·cases hF
  ·cases hF
theorem b9 {f:Fn} {vs:List V} {H:Hp} {Q:VK} {E:XK} (h:cU f K vs H Q E):vs.length=f.ms.length:=by
 obtain ⟨G,ds,is,pr,outs,_,ha,_⟩:=h;exact ha.len.2
end
open PySem PySem.Spec PyProof.Rows
noncomputable def Prm.two (r:Fg->R2) (f:PyData->PyData->Option PR) (ok:∀ (K:Fg) (F:Addr->Prop) (H:Hp) (x y:PyData) (u v:V) (pr:PR) (Q:VK),f x y=some pr->Vw K F H x u->Vw K F H y v->(∀ b,F b->H b≠none)->(∀ w H',aA H H'->uZ K F H H' pr w->Q w H')->r K u v H Q):Prm where
 r:=fun K vs H Q=>match vs with | [u,v]=>r K u v H Q | _=>False
 f:=fun ds=>match ds with | [x,y]=>f x y | _=>none
 ok:=fun K F H ds vs pr Q hf hv hd q=>by
  match ds,hf with
  | [x,y],hf =>
   obtain ⟨u,r1,rfl,h1,v,r2,rfl,h2,rfl⟩:=hv;exact ok K F H x y u v pr Q hf h1 h2 hd q
noncomputable def Prm.one (r:Fg->V->Hp->VK->Prop) (f:PyData->Option PR) (ok:∀ (K:Fg) (F:Addr->Prop) (H:Hp) (x:PyData) (u:V) (pr:PR) (Q:VK),f x=some pr->Vw K F H x u->(∀ b,F b->H b≠none)->(∀ w H',aA H H'->uZ K F H H' pr w->Q w H')->r K u H Q):Prm where
 r:=fun K vs H Q=>match vs with | [u]=>r K u H Q | _=>False
 f:=fun ds=>match ds with | [x]=>f x | _=>none
 ok:=fun K F H ds vs pr Q hf hv hd q=>by
  match ds,hf with
  | [x],hf =>
   obtain ⟨u,r1,rfl,h1,rfl⟩:=hv;exact ok K F H x u pr Q hf h1 hd q
section
variable {K:Fg} {F F':Addr->Prop} {H:Hp}
theorem vInt {i:Int} {v:V} (h:Vw K F H (.int i) v):v=.int i:=h
theorem vBl {b:Bool} {v:V} (h:Vw K F H (.bool b) v):v=.bl b:=h
theorem Gy {v:V} (h:Vw K F H .none v):v=.non:=h
theorem vStr {x:Str} {v:V} (h:Vw K F H (.str x) v):v=.str x/\x.length<=sizeLine/\PyData.strOk x=true:=h
theorem mH {ds:List PyData} {v:V} (h:Vw K F H (.list ds) v):∃ a xs,v=.ref a/\SqL K H a xs/\xs.length<=sizeLine/\DmL K F H ds xs:=let ⟨a,e,xs,r⟩:=h;⟨a,xs,e,r⟩
theorem nR {ds:List PyData} {v:V} (h:Vw K F H (.tuple ds) v):∃ a xs,v=.ref a/\SqT K H a xs/\xs.length<=sizeLine/\DmL K F H ds xs:=h
theorem zg {p:Addr} {xs:List V} {ds:List PyData} (hp:H p=none) (hz:xs.length<=sizeLine) (h:DmL K F H ds xs):uZ K F H (upd H p (.lst xs)) (.frs (.list ds)) (.ref p) :=
 ⟨p,rfl,hp,xs,ai,hz,(h.fresh hp).pr (Pr.of_same (aA.nw _ hp)) fun _ z=>z⟩
theorem Ai {p:Addr} {xs:List V} {ds:List PyData} (hp:H p=none) (hz:xs.length<=sizeLine) (h:DmL K F H ds xs):uZ K F H (upd H p (.tup xs)) (.dat (.tuple ds)) (.ref p) :=
 ⟨p,xs,rfl,.inl (.inl ai),hz,h.pr (Pr.of_same (aA.nw _ hp)) fun _ z=>z⟩
end
noncomputable def Fe:PyData->PyData->Option PR
 | .int i,.int j=>some (.dat (.int (i+j)))
 | .str x,.str y=>if x.length+y.length<=sizeLine then some (.dat (.str (x++y))) else none
 | .list xs,.list ys=>if xs.length+ys.length<=sizeLine then some (.frs (.list (xs++ys))) else none
 | .tuple (x :: xs),.tuple ys=>if (x :: xs).length+ys.length<=sizeLine then some (.dat (.tuple ((x :: xs)++ys))) else none
 | _,_=>none
def z9 (K:Fg):R2:=rOr (rI0 fun i j=>.int (i+j)) (rOr Au (rOr (Bg K) (CW K)))
theorem iJ (x y:Str):(x++y).length=x.length+y.length:=by
 show (x.cps++y.cps).size=_;rw [Array.size_append];rfl
noncomputable def cy:Prm:=Prm.two z9 Fe fun K F H x y u v pr Q hf hx hy hd q=>by
 unfold Fe at hf;split at hf
 ·cases hf;rw [vInt hx,vInt hy];exact .inl ⟨_,_,rfl,rfl,q _ H (aA.rf H) rfl⟩
 ·split at hf
  ·rename_i x y hl;cases hf;obtain ⟨rfl,l1,o1⟩:=vStr hx;obtain ⟨rfl,l2,o2⟩:=vStr hy;exact .inr (.inl ⟨_,_,rfl,rfl,hl,q _ H (aA.rf H) ⟨rfl,by rw [iJ];exact hl,lK o1 o2⟩⟩)
  ·cases hf
 ·split at hf
  ·rename_i xs ys hl;cases hf;obtain ⟨a,us,rfl,s1,z1,d1⟩:=mH hx;obtain ⟨b,ws,rfl,s2,z2,d2⟩:=mH hy;have hl':us.length+ws.length<=sizeLine:=by rw [d1.len,d2.len];exact hl
   exact .inr (.inr (.inl ⟨a,b,us,ws,rfl,rfl,s1,s2,hl',fun p hp=>q _ _ (aA.nw _ hp) (zg hp (by rw [Io];exact hl') (d1.app d2))⟩))
  ·cases hf
 ·split at hf
  ·rename_i x xs ys hl;cases hf;obtain ⟨a,us,rfl,s1,z1,d1⟩:=nR hx;obtain ⟨b,ws,rfl,s2,z2,d2⟩:=nR hy;have hl':us.length+ws.length<=sizeLine:=by rw [d1.len,d2.len];exact hl
   have hne:us≠[]:=fun z=>by rw [z] at d1;obtain ⟨v,r,e,_⟩:=d1;cases e
   refine .inr (.inr (.inr ⟨a,b,us,ws,rfl,rfl,s1,s2,hne,hl',fun z=>?_,fun z p hp=>q _ _ (aA.nw _ hp) (Ai hp (by rw [Io];exact hl') (d1.app d2))⟩));subst z;have hys:ys=[]:=by
    cases ys with
    | nil=>rfl
    | cons y ys=>obtain ⟨v,r,e,_⟩:=d2;cases e
   subst hys;exact q _ H (aA.rf H) ⟨a,us,rfl,s1,z1,by rw [Jy];exact d1⟩
  ·cases hf
 ·cases hf
theorem aw {X:Cx}:OpR X (binaryOp .Add) (fun x y=>cy.r X.K [x,y]):=orR BF (orR yj (orR xC xi))
noncomputable def zm (c:Int->Int->Bool) (g:Int->Int->PyData):PyData->PyData->Option PR
 | .int i,.int j=>if c i j=true then some (.dat (g i j)) else none
 | _,_=>none
noncomputable def Prm.ints (C:Int->Int->Prop) (c:Int->Int->Bool) (hc:∀ i j,c i j=true->C i j) (g:Int->Int->Int):Prm:=Prm.two (fun _=>rI C fun i j=>.int (g i j)) (zm c fun i j=>.int (g i j)) fun K F H x y u v pr Q hf hx hy hd q=>by
 unfold zm at hf;split at hf
 ·split at hf
  ·rename_i h;cases hf;rw [vInt hx,vInt hy];exact ⟨_,_,rfl,rfl,hc _ _ h,q _ H (aA.rf H) rfl⟩
  ·cases hf
 ·cases hf
noncomputable def Prm.Aw (g:Int->Int->Bool):Prm:=Prm.two (fun _=>rI0 fun i j=>.bl (g i j)) (zm (fun _ _=>true) fun i j=>.bool (g i j)) fun K F H x y u v pr Q hf hx hy hd q=>by
 unfold zm at hf;split at hf
 ·rw [Iy rfl] at hf;cases hf;rw [vInt hx,vInt hy];exact ⟨_,_,rfl,rfl,q _ H (aA.rf H) rfl⟩
 ·cases hf
noncomputable def GX:Prm:=Prm.two (fun _=>rI0 fun i j=>.int (i - j)) (zm (fun _ _=>true) fun i j=>.int (i - j)) fun K F H x y u v pr Q hf hx hy hd q=>by
 unfold zm at hf;split at hf
 ·rw [Iy rfl] at hf;cases hf;rw [vInt hx,vInt hy];exact ⟨_,_,rfl,rfl,q _ H (aA.rf H) rfl⟩
 ·cases hf
theorem xZ {X:Cx}:OpR X (binaryOp .Sub) (fun x y=>GX.r X.K [x,y]):=AG
noncomputable def mulC (i j:Int):Bool:=(decide (-(2 ^ 64) < i)&&decide (i < 2 ^ 64))||(decide (-(2 ^ 64) < j)&&decide (j < 2 ^ 64))
noncomputable def xA:Prm:=Prm.ints BK mulC (fun i j h=>by simpa [mulC,BK,K9,IV,KS] using h) (fun i j=>i*j)
theorem fQ {X:Cx}:OpR X (binaryOp .Mult) (fun x y=>xA.r X.K [x,y]):=B5
noncomputable def uc:Prm:=Prm.ints (fun _ j=>0 < j) (fun _ j=>decide (0 < j)) (fun i j h=>by simpa using h) (fun i j=>i % j)
theorem cQ {X:Cx}:OpR X (binaryOp .Mod) (fun x y=>uc.r X.K [x,y]):=CZ
noncomputable def vJ:Prm:=Prm.ints (fun _ j=>0 < j/\j.natAbs.log2 < 9000) (fun _ j=>decide (0 < j)&&decide (j < 2 ^ 200)) (fun i j h=>by
 simp only [IV,KS] at h;refine ⟨h.1,?_⟩;have hz:j.natAbs≠0:=by omega
 have:j.natAbs < 2 ^ 200:=by omega
 exact Ir ((Nat.log2_lt hz).mpr this) (by decide)) (fun i j=>i / j)
theorem jW {X:Cx}:OpR X (binaryOp .FloorDiv) (fun x y=>vJ.r X.K [x,y]):=vd
noncomputable def Gq:Prm:=Prm.ints Gw (fun i j=>decide (0<=j)&&decide (j<=1000000)&&decide (i.natAbs < 2 ^ 64)) (fun i j h=>by simp only [IV,KS] at h;exact ⟨h.1.1,h.1.2,h.2⟩) (fun i j=>i ^ j.toNat)
theorem yM {X:Cx}:OpR X (binaryOp .Pow) (fun x y=>Gq.r X.K [x,y]):=Cf
noncomputable def zq:Prm:=Prm.one (fun _=>rU fun i=>.int (-i)) (fun x=>match x with | .int i=>some (.dat (.int (-i))) | _=>none) fun K F H x u pr Q hf hx hd q=>by
 split at hf
 ·cases hf;rw [vInt hx];exact ⟨_,rfl,q _ H (aA.rf H) rfl⟩
 ·cases hf
noncomputable def De (g:Int->Int->Bool) (h:Str->Str->Bool):PyData->PyData->Option PR
 | .int i,.int j=>some (.dat (.bool (g i j)))
 | .str x,.str y=>some (.dat (.bool (h x y)))
 | _,_=>none
noncomputable def ltS (x y:Str):Bool:=decide (x.cps.toList < y.cps.toList)
noncomputable def leS (x y:Str):Bool:=!decide (y.cps.toList < x.cps.toList)
noncomputable def ltP:Prm:=Prm.two (fun _=>rOr (rI0 fun i j=>.bl (decide (i < j))) Gv) (De (fun i j=>decide (i < j)) ltS) fun K F H x y u v pr Q hf hx hy hd q=>by
 unfold De at hf;split at hf
 ·cases hf;rw [vInt hx,vInt hy];exact .inl ⟨_,_,rfl,rfl,q _ H (aA.rf H) rfl⟩
 ·cases hf;rw [(vStr hx).1,(vStr hy).1];exact .inr ⟨_,_,rfl,rfl,q _ H (aA.rf H) rfl⟩
 ·cases hf
theorem wD {X:Cx}:OpR X (compareOp .Lt) (fun x y=>ltP.r X.K [x,y]):=orR EO AQ
noncomputable def leP:Prm:=Prm.two (fun _=>rOr (rI0 fun i j=>.bl (decide (i<=j))) GV) (De (fun i j=>decide (i<=j)) leS) fun K F H x y u v pr Q hf hx hy hd q=>by
 unfold De at hf;split at hf
 ·cases hf;rw [vInt hx,vInt hy];exact .inl ⟨_,_,rfl,rfl,q _ H (aA.rf H) rfl⟩
 ·cases hf;rw [(vStr hx).1,(vStr hy).1];exact .inr ⟨_,_,rfl,rfl,q _ H (aA.rf H) rfl⟩
 ·cases hf
theorem vS {X:Cx}:OpR X (compareOp .LtE) (fun x y=>leP.r X.K [x,y]):=orR FT Ci
noncomputable def gtP:Prm:=Prm.Aw fun i j=>decide (i > j)
theorem rM {X:Cx}:OpR X (compareOp .Gt) (fun x y=>gtP.r X.K [x,y]):=EM
noncomputable def geP:Prm:=Prm.Aw fun i j=>decide (i>=j)
theorem qz {X:Cx}:OpR X (compareOp .GtE) (fun x y=>geP.r X.K [x,y]):=Fj
mutual
noncomputable def noD:PyData->Bool
 | .dict _=>false
 | .list xs=>gb xs
 | .tuple xs=>gb xs
 | _=>true
noncomputable def gb:List PyData->Bool
 | []=>true
 | x :: xs=>noD x&&gb xs
end
section
variable {K:Fg} {F:Addr->Prop} {H:Hp}
mutual
theorem Dm.lay:∀ {d:PyData} {v:V},Dm K F H d v->noD d=true->d.canLay0=true
 | .none,v,h,_=>by simp [PyData.canLay0]
 | .bool b,v,h,_=>by simp [PyData.canLay0]
 | .int i,v,h,_=>by simp [PyData.canLay0]
 | .str x,v,h,_=>by simpa [PyData.canLay0] using h.2.2
 | .list ds,v,h,n=>by obtain ⟨a,xs,e,l,z,r⟩:=h;simpa [PyData.canLay0] using DmL.lay r (by simpa [noD] using n)
 | .tuple ds,v,h,n=>by obtain ⟨a,xs,e,l,z,r⟩:=h;simpa [PyData.canLay0] using DmL.lay r (by simpa [noD] using n)
 | .dict kvs,v,h,n=>by simp [noD] at n
theorem DmL.lay:∀ {ds:List PyData} {vs:List V},DmL K F H ds vs->gb ds=true->PyData.canLayAll0 ds=true
 | [],vs,h,_=>by simp [PyData.canLayAll0]
 | d :: ds,vs,h,n=>by
  obtain ⟨v,r,e,h1,h2⟩:=h;have n':noD d=true/\gb ds=true:=by simpa [gb] using n
  simp [PyData.canLayAll0,Dm.lay h1 n'.1,DmL.lay h2 n'.2]
end
theorem Vw.lay {d:PyData} {v:V} (h:Vw K F H d v) (n:noD d=true):d.canLay0=true:=by
 cases d with
 | list ds=>obtain ⟨a,xs,e,l,z,r⟩:=mH h;simpa [PyData.canLay0] using DmL.lay r (by simpa [noD] using n)
 | dict ds=>simp [noD] at n
 | _=>exact Dm.lay (K:=K) (F:=F) (H:=H) h n
variable {X:Cx} {pins:List (Addr×Obj)} {Z:St} {s:Shared}
mutual
theorem Dm.reads (I:Inv X pins Z H s):∀ {d:PyData} {v:V} {u:Value},Dm X.K F H d v->noD d=true->RelV v u->∃ as,Reads s.heap u d as
 | .none,v,u,hd,_,r=>by
  have e:v=.non:=hd;subst e;cases (show u=Value.none from r);exact ⟨_,.none⟩
 | .bool b,v,u,hd,_,r=>by
  have e:v=.bl b:=hd;subst e;cases (show u=Value.bool b from r);exact ⟨_,.bool b⟩
 | .int i,v,u,hd,_,r=>by
  have e:v=.int i:=hd;subst e;obtain ⟨t,e⟩:=(show ∃ t,u=Value.int i t from r);subst e;exact ⟨_,.int i t⟩
 | .str y,v,u,hd,_,r=>by
  have e:v=.str y:=hd.1;subst e;obtain ⟨t,e⟩:=(show ∃ t,u=Value.str y t from r);subst e;exact ⟨_,.str y t⟩
 | .list ds,v,u,hd,n,r=>by
  obtain ⟨a,xs,e,l,z,rs⟩:=hd;subst e;cases (show u=Value.ref a from r);obtain ⟨its,rv,⟨o,k,h1,h2,h3,h4⟩,_⟩:=I.list (l.elim (fun q=>.inl q.2) .inr);obtain ⟨as,ra⟩:=DmL.reads I rs (by simpa [noD] using n) rv;exact ⟨_,.list h1 h2 h4 (by simpa using ra)⟩
 | .tuple ds,v,u,hd,n,r=>by
  obtain ⟨a,xs,e,l,z,rs⟩:=hd;subst e;cases (show u=Value.ref a from r);obtain ⟨its,rv,⟨o,h1,h2,k,h4⟩,_⟩:=I.tuple l;obtain ⟨as,ra⟩:=DmL.reads I rs (by simpa [noD] using n) rv;exact ⟨_,.tuple h1 h2 h4 (by simpa using ra)⟩
 | .dict kvs,v,u,hd,n,r=>by simp [noD] at n
theorem DmL.reads (I:Inv X pins Z H s):∀ {ds:List PyData} {vs:List V} {us:List Value},DmL X.K F H ds vs->gb ds=true->Vals vs us->∃ as,ReadsAll s.heap us ds as
 | [],vs,us,hd,_,r=>by
  have e:vs=[]:=hd;subst e;cases r;exact ⟨_,.nil⟩
 | d :: ds,vs,us,hd,n,r=>by
  obtain ⟨v,rr,e,h1,h2⟩:=hd;have n':noD d=true/\gb ds=true:=by simpa [gb] using n
  subst e;cases r with
  | cons r1 r2 =>
   obtain ⟨as,q1⟩:=Dm.reads I h1 n'.1 r1;obtain ⟨bs,q2⟩:=DmL.reads I h2 n'.2 r2;exact ⟨_,.cons q1 q2⟩
end
theorem Vw.reads (I:Inv X pins Z H s) {d:PyData} {v:V} {u:Value} (h:Vw X.K F H d v) (n:noD d=true) (r:RelV v u):∃ as,Reads s.heap u d as:=by
 cases d with
 | list ds =>
  obtain ⟨a,xs,rfl,l,z,rs⟩:=mH h;cases (show u=Value.ref a from r);obtain ⟨its,rv,⟨o,k,h1,h2,h3,h4⟩,_⟩:=I.list l;obtain ⟨as,ra⟩:=DmL.reads I rs (by simpa [noD] using n) rv;exact ⟨_,.list h1 h2 h4 (by simpa using ra)⟩
 | dict ds=>simp [noD] at n
 | _=>exact Dm.reads (F:=F) I h n r
end
noncomputable def gU (d:PyData):Bool:=noD d&&decide (d.depth<=64)
def Hb (neg:Bool) (K:Fg):R2:=fun x y H Q=>∃ F d e,Vw K F H d x/\Vw K F H e y/\gU d=true/\gU e=true/\Q (.bl (if neg then !PyData.eqv d e else PyData.eqv d e)) H
noncomputable def eqD (neg:Bool) (d e:PyData):Option PR:=if gU d=true/\gU e=true then some (.dat (.bool (if neg then !PyData.eqv d e else PyData.eqv d e))) else none
noncomputable def Dc (neg:Bool):Prm:=Prm.two (Hb neg) (eqD neg) fun K F H x y u v pr Q hf hx hy hd q=>by
 unfold eqD at hf;split at hf
 ·rename_i h;cases hf;exact ⟨F,x,y,hx,hy,h.1,h.2,q _ H (aA.rf H) rfl⟩
 ·cases hf
noncomputable abbrev eqP:Prm:=Dc false
noncomputable abbrev neP:Prm:=Dc true
theorem fi {K:Fg} {F:Addr->Prop} {H:Hp} {d:PyData} {v:V} (h:Vw K F H d v) (o:gU d=true):SeqAt.shaped d=true:=by
 have o':noD d=true/\d.depth<=64:=by simpa [gU] using o
 simp [SeqAt.shaped,h.lay o'.1,o'.2]
theorem aB {X:Cx} (hu:X.A.units+64 < cLine):OpR X (compareOp .Eq) (fun x y=>eqP.r X.K [x,y]):=by
 intro pins s Z H x y v u Q I rx ry h;obtain ⟨F,d,e,h1,h2,o1,o2,hq⟩:=h;obtain ⟨as,r1⟩:=h1.reads I (by have:=o1;simp [gU] at this;exact this.1) rx;obtain ⟨bs,r2⟩:=h2.reads I (by have:=o2;simp [gU] at this;exact this.1) ry;exact SeqAt.compareEq_shaped r1 r2 (fi h1 o1) (fi h2 o2) hu ⟨.bl _,H,I,rfl,hq⟩
theorem n8 {X:Cx} (hu:X.A.units+64 < cLine):OpR X (compareOp .NotEq) (fun x y=>neP.r X.K [x,y]):=by
 intro pins s Z H x y v u Q I rx ry h;obtain ⟨F,d,e,h1,h2,o1,o2,hq⟩:=h;obtain ⟨as,r1⟩:=h1.reads I (by have:=o1;simp [gU] at this;exact this.1) rx;obtain ⟨bs,r2⟩:=h2.reads I (by have:=o2;simp [gU] at this;exact this.1) ry;exact SeqAt.compareNe_shaped r1 r2 (fi h1 o1) (fi h2 o2) hu ⟨.bl _,H,I,rfl,hq⟩
noncomputable def ixD:PyData->PyData->Option PR
 | .list xs,.int i=>(atI xs i).map .dat
 | .tuple xs,.int i=>(atI xs i).map .dat
 | .str x,.int i=>(atI x.cps.toList i).map fun c=>.dat (.str ⟨#[c]⟩)
 | _,_=>none
theorem wo {K:Fg} {F:Addr->Prop} {H:Hp} {ds:List PyData} {xs:List V} {i:Int} {d:PyData} (h:DmL K F H ds xs) (e:atI ds i=some d):∃ v,atI xs i=some v/\Dm K F H d v:=by
 unfold atI at e ⊢;rw [h.len];cases q:ixN ds.length i with
 | none=>rw [q] at e;cases e
 | some j =>
  rw [q] at e;have e:ds[j]?=some d:=e;exact h.get e
theorem ya {α:Type} {xs:List α} {i:Int} {x:α} (e:atI xs i=some x):x∈xs:=by
 unfold atI at e;cases q:ixN xs.length i with
 | none=>rw [q] at e;cases e
 | some j=>rw [q] at e;exact IF (show xs[j]?=some x from e)
noncomputable def ixP:Prm:=Prm.two rIx ixD fun K F H x y u v pr Q hf hx hy hd q=>by
 unfold ixD at hf;split at hf
 ·obtain ⟨d,e,rfl⟩:=IK.mp hf;obtain ⟨a,us,rfl,s1,z1,d1⟩:=mH hx;rw [vInt hy];obtain ⟨v,ev,dv⟩:=wo d1 e;exact .inl ⟨a,us,_,v,rfl,rfl,s1,ev,q _ H (aA.rf H) dv⟩
 ·obtain ⟨d,e,rfl⟩:=IK.mp hf;obtain ⟨a,us,rfl,s1,z1,d1⟩:=nR hx;rw [vInt hy];obtain ⟨v,ev,dv⟩:=wo d1 e;exact .inr (.inl ⟨a,us,_,v,rfl,rfl,s1,ev,q _ H (aA.rf H) dv⟩)
 ·rename_i x i;obtain ⟨c,e,rfl⟩:=IK.mp hf;obtain ⟨rfl,l1,o1⟩:=vStr hx;rw [vInt hy];have hc:=fu o1 c (ya e);exact .inr (.inr ⟨_,_,c,rfl,rfl,l1,e,q _ H (aA.rf H) ⟨rfl,by show 1<=sizeLine;decide,by simp [PyData.strOk,hc]⟩⟩)
 ·cases hf
theorem aJ {X:Cx}:IxR X (fun x y=>ixP.r X.K [x,y]):=BR
noncomputable def cutD {α:Type} (xs:List α) (lo hi:Option Int):List α:=(xs.drop (HT.sIx xs.length 0 lo)).take (HT.sIx xs.length xs.length hi - HT.sIx xs.length 0 lo)
noncomputable def slD (lo hi:Option Int):PyData->Option PR
 | .list xs=>some (.frs (.list (cutD xs lo hi)))
 | .tuple xs=>if HT.sIx xs.length 0 lo=0/\HT.sIx xs.length xs.length hi=xs.length then none else some (.dat (.tuple (cutD xs lo hi)))
 | .str x=>some (.dat (.str (v9 x lo hi)))
 | _=>none
def FD (K:Fg) (lo hi:Option Int):V->Hp->VK->Prop:=fun x H Q=>fR qb (fR (qc K) (qa K)) x lo hi H Q
section
variable {K:Fg} {F:Addr->Prop} {H:Hp}
theorem DmL.drop:∀ {ds:List PyData} {xs:List V} (n:Nat),DmL K F H ds xs->DmL K F H (ds.drop n) (xs.drop n)
 | ds,xs,0,h=>h
 | [],xs,n+1,h=>by rw [show xs=[] from h];rfl
 | d :: ds,xs,n+1,h=>by obtain ⟨v,r,rfl,_,h2⟩:=h;exact DmL.drop n h2
theorem DmL.take:∀ {ds:List PyData} {xs:List V} (n:Nat),DmL K F H ds xs->DmL K F H (ds.take n) (xs.take n)
 | ds,xs,0,h=>by rw [List.take_zero,List.take_zero];rfl
 | [],xs,n+1,h=>by rw [show xs=[] from h];rfl
 | d :: ds,xs,n+1,h=>by obtain ⟨v,r,rfl,h1,h2⟩:=h;exact ⟨v,_,rfl,h1,DmL.take n h2⟩
theorem DmL.cut {ds:List PyData} {xs:List V} (lo hi:Option Int) (h:DmL K F H ds xs):DmL K F H (cutD ds lo hi) (uk xs lo hi):=by
 unfold cutD uk;rw [h.len];exact (h.drop _).take _
theorem kJ (xs:List V) (lo hi:Option Int):(uk xs lo hi).length<=xs.length:=by
 unfold uk;rw [JH,JX];omega
theorem sL {x:Str} (lo hi:Option Int) (h:PyData.strOk x=true):PyData.strOk (v9 x lo hi)=true:=by
 have hm:=fu h;unfold PyData.strOk v9;rw [Array.all_eq_true'];intro c hc;have:c∈(x.cps.toList.drop (HT.sIx x.length 0 lo)).take (HT.sIx x.length x.length hi - HT.sIx x.length 0 lo):=by simpa using hc
 have:=hm c (Kt (List.mem_of_mem_take this));simpa using this
theorem yq {lo hi:Option Int} {x:PyData} {u:V} {pr:PR} {Q:VK} (hf:slD lo hi x=some pr) (hx:Vw K F H x u) (q:∀ w H',aA H H'->uZ K F H H' pr w->Q w H'):FD K lo hi u H Q:=by
 unfold slD at hf;split at hf
 ·cases hf;obtain ⟨a,us,rfl,s1,z1,d1⟩:=mH hx;exact .inr (.inl ⟨a,us,rfl,s1,fun p hp=>q _ _ (aA.nw _ hp) (zg hp (IM (kJ _ _ _) z1) (d1.cut lo hi))⟩)
 ·split at hf
  ·cases hf
  rename_i hn;cases hf;obtain ⟨a,us,rfl,s1,z1,d1⟩:=nR hx;exact .inr (.inr ⟨a,us,rfl,s1,by rw [d1.len];exact hn,fun p hp=>q _ _ (aA.nw _ hp) (Ai hp (IM (kJ _ _ _) z1) (d1.cut lo hi))⟩)
 ·cases hf;obtain ⟨rfl,l1,o1⟩:=vStr hx;exact .inl ⟨_,rfl,l1,q _ H (aA.rf H) ⟨rfl,IM (iE _ _ _) l1,sL lo hi o1⟩⟩
 ·cases hf
end
noncomputable def ub:Prm:=Prm.two (fun K x y H Q=>∃ i,y=.int i/\FD K (some i) none x H Q) (fun x y=>match y with | .int i=>slD (some i) none x | _=>none) fun K F H x y u v pr Q hf hx hy hd q=>by
 split at hf
 ·exact ⟨_,vInt hy,yq hf hx q⟩
 ·cases hf
noncomputable def Fw:Prm:=Prm.two (fun K x y H Q=>∃ i,y=.int i/\FD K none (some i) x H Q) (fun x y=>match y with | .int i=>slD none (some i) x | _=>none) fun K F H x y u v pr Q hf hx hy hd q=>by
 split at hf
 ·exact ⟨_,vInt hy,yq hf hx q⟩
 ·cases hf
noncomputable def GK:PyData->Option PR
 | .str x=>some (.dat (.int x.length))
 | .list xs=>some (.dat (.int xs.length))
 | .tuple xs=>some (.dat (.int xs.length))
 | _=>none
noncomputable def jJ:Prm:=Prm.one (fun K x=>Bz K [x]) GK fun K F H x u pr Q hf hx hd q=>by
 unfold GK at hf;split at hf
 ·cases hf;obtain ⟨rfl,l1,o1⟩:=vStr hx;exact Cs l1 (q _ H (aA.rf H) rfl)
 ·cases hf;obtain ⟨a,us,rfl,s1,z1,d1⟩:=mH hx;exact Cq s1 (q _ H (aA.rf H) (by rw [d1.len];rfl))
 ·cases hf;obtain ⟨a,us,rfl,s1,z1,d1⟩:=nR hx;exact Cm s1 (q _ H (aA.rf H) (by rw [d1.len];rfl))
 ·cases hf
theorem jI {X:Cx} {f:Value} {r:List V->Hp->VK->Prop} {r':V->Hp->VK->Prop} (h:a8 X f r) (e:∀ x H Q,r' x H Q->r [x] H Q):a8 X f (fun vs H Q=>match vs with | [u]=>r' u H Q | _=>False):=by
 intro pins s Z H xs us Q I rv q
 match xs,q with
 | [x],q=>exact h pins s Z H [x] us Q I rv (e x H Q q)
theorem bf {X:Cx}:a8 X (.builtin "len") (jJ.r X.K):=jI qq fun _ _ _ h=>h
noncomputable def Dv:Prm:=Prm.one (fun _ x=>D5 [x]) (fun x=>match x with | .int i=>some (.dat (.int (if i < 0 then -i else i))) | _=>none) fun K F H x u pr Q hf hx hd q=>by
 split at hf
 ·cases hf;rw [vInt hx];exact Fq (q _ H (aA.rf H) rfl)
 ·cases hf
theorem m5 {X:Cx}:a8 X (.builtin "abs") (Dv.r X.K):=jI tu fun _ _ _ h=>h
noncomputable def zc (T:String) (x:PyData):Option PR:=match T with
 | "str" => some (.dat (.bool (isS x)))
 | "int" => some (.dat (.bool (isI x)))
 | "bool" => some (.dat (.bool (isB x)))
 | "tuple" => some (.dat (.bool (isT x)))
 | "list" => some (.dat (.bool (isL x)))
 | _=>none
def F5 (T:String) (K:Fg):V->Hp->VK->Prop:=fun x H Q=>∃ F d b,Vw K F H d x/\zc T d=some (.dat (.bool b))/\Q (.bl b) H
theorem FX {T:String} {d:PyData} {pr:PR} (h:zc T d=some pr):∃ b,pr=.dat (.bool b):=by
 unfold zc at h;split at h <;> first | (cases h;exact ⟨_,rfl⟩) | cases h
noncomputable def tZ (T:String):Prm:=Prm.one (F5 T) (zc T) fun K F H x u pr Q hf hx hd q=>by
 obtain ⟨b,rfl⟩:=FX hf;exact ⟨F,x,b,hx,hf,q _ H (aA.rf H) rfl⟩
theorem yo {K:Fg} {T:String} {d:PyData} {b:Bool} (h:zc T d=some (.dat (.bool b))):PySem.W.kitOne K (.type (tyN d)) (.type T)=some b:=by
 unfold zc at h;split at h
 ·cases h;exact D2 d
 ·cases h;exact DU d
 ·cases h;exact DY d
 ·cases h;exact D1 d
 ·cases h;exact F6 d
 ·cases h
def Ha (K:Fg):List V->Hp->VK->Prop:=fun vs H Q=>match vs with | [x,.ty T]=>(tZ T).r K [x] H Q | _=>False
theorem xg {X:Cx}:a8 X (.builtin "isinstance") (Ha X.K):=by
 intro pins s Z H xs us Q I r h
 match xs,h with
 | [x,.ty T'],h =>
  obtain ⟨F,d,b,hv,hb,q⟩:=h;obtain ⟨u,w',rfl,r1,r2⟩:=vals2 r;cases (show w'=Value.type T' from r2);have e:=yo (K:=X.K) hb;have fin:∀ tk,EP X pins Z Q (.bool b) { s with toks:=tk }:=fun tk=>⟨.bl b,H,I.tok _,rfl,q⟩;cases d with
  | none=>rw [Gy hv] at r1;cases (show u=Value.none from r1);exact Kd PySem.W.kitx_none I.kIn True.intro e (fun z=>nomatch z) fin
  | bool y=>rw [vBl hv] at r1;cases (show u=Value.bool y from r1);exact Kd PySem.W.kitx_bool I.kIn True.intro e (fun z=>nomatch z) fin
  | int i=>rw [vInt hv] at r1;obtain ⟨t,q⟩:=(show ∃ t,u=Value.int i t from r1);cases q;exact Kd PySem.W.kitx_int I.kIn True.intro e (fun z=>nomatch z) fin
  | str y=>rw [(vStr hv).1] at r1;obtain ⟨t,q⟩:=(show ∃ t,u=Value.str y t from r1);cases q;exact Kd PySem.W.kitx_str I.kIn True.intro e (fun z=>nomatch z) fin
  | list ds =>
   obtain ⟨a,xs,rfl,l,z,rs⟩:=mH hv;cases (show u=Value.ref a from r1);obtain ⟨its,rv,⟨o,k,h1,h2,h3,h4⟩,_⟩:=I.list l;exact Kd PySem.W.kitx_list I.kIn ⟨o,h1,h2⟩ e (fun z=>nomatch z) fin
  | tuple ds =>
   obtain ⟨a,xs,rfl,l,z,rs⟩:=nR hv;cases (show u=Value.ref a from r1);obtain ⟨its,rv,⟨o,h1,h2,k,h4⟩,_⟩:=I.tuple l;exact Kd PySem.W.kitx_tuple I.kIn ⟨o,h1,h2⟩ e (fun z=>nomatch z) fin
  | dict ds =>
   obtain ⟨a,rfl,ep,xs,ea,_⟩:=hv;cases (show u=Value.ref a from r1);obtain ⟨_,_,_,o,es,h1,h2,_⟩:=(show bw X.prog X.w H s.heap a (.dD ep xs) from I.hok a _ ea);exact Kd PySem.W.kitx_dict I.kIn ⟨o,h1,h2.1⟩ e (fun z=>nomatch z) fin
noncomputable def chars (x:Str):List PyData:=x.cps.toList.map fun c=>.str ⟨#[c]⟩
noncomputable def fg (x:Str):List V:=x.cps.toList.map fun c=>.str ⟨#[c]⟩
def CM (K:Fg):V->Hp->VK->Prop:=fun x H Q=>CO K [x] H Q\/∃ z,x=.str z/\z.length<=sizeLine/\∀ p,H p=none->Q (.ref p) (upd H p (.lst (fg z)))
noncomputable def Cy:PyData->Option PR
 | .list xs=>some (.frs (.list xs))
 | .tuple xs=>some (.frs (.list xs))
 | .str x=>some (.frs (.list (chars x)))
 | _=>none
noncomputable def qL:Prm:=Prm.one CM Cy fun K F H x u pr Q hf hx hd q=>by
 unfold Cy at hf;split at hf
 ·cases hf;obtain ⟨a,us,rfl,s1,z1,d1⟩:=mH hx;exact .inl ⟨a,us,rfl,.inl s1,fun p hp=>q _ _ (aA.nw _ hp) (zg hp z1 d1)⟩
 ·cases hf;obtain ⟨a,us,rfl,s1,z1,d1⟩:=nR hx;exact .inl ⟨a,us,rfl,.inr s1,fun p hp=>q _ _ (aA.nw _ hp) (zg hp z1 d1)⟩
 ·cases hf;obtain ⟨rfl,l1,o1⟩:=vStr hx;refine .inr ⟨_,rfl,l1,fun p hp=>q _ _ (aA.nw _ hp) (zg hp ?_ (xt (fu o1)))⟩;rw [show (fg _).length=_ from Ic _];simpa [Str.length] using l1
 ·cases hf
theorem oX:∀ {xs:List V} {us:List Value},xs.length=us.length->(∀ (i:Nat) (x:V) (u:Value),xs[i]?=some x->us[i]?=some u->RelV x u)->Vals xs us
 | [],[],_,_=>.nil
 | [],_ :: _,h,_=>by cases h
 | _ :: _,[],h,_=>by cases h
 | x :: xs,u :: us,h,q=>.cons (q 0 x u rfl rfl) (oX (by simpa using h) fun i y w h1 h2=>q (i+1) y w (by simpa using h1) (by simpa using h2))
theorem pS {z:Str} {acc:Array Value} (h:ItemsOf (SignAt z) acc z.cps.size):Vals (fg z) acc.toList:=by
 refine oX ?_ fun i x u h1 h2=>?_
 ·rw [show (fg z).length=_ from Ic _];simp [h.1]
 ·obtain ⟨c,t,hc,rfl⟩:=h.2 i u (by simpa using h2);unfold fg at h1;rw [Ik] at h1;have:z.cps.toList[i]?=some c:=by rw [<- hc];simp
  rw [this] at h1;cases h1;exact ⟨t,rfl⟩
theorem lJ {X:Cx} (hc:X.calm=true):a8 X (.type "list") (fun xs H Q=>∃ z,xs=[.str z]/\z.length<=sizeLine/\∀ p,H p=none->Q (.ref p) (upd H p (.lst (fg z)))):=by
 intro pins s Z H xs us Q I r h;obtain ⟨z,rfl,hl,q⟩:=h;obtain ⟨u,rfl,r1⟩:=vals1 r;obtain ⟨t,rfl⟩:=r1;have hz:(fg z).length<=sizeLine:=by rw [show (fg z).length=_ from Ic _];simpa [Str.length] using hl
 refine call_list_str (I.ok.hd hc) z t (fun h' tk acc' c' hk hS hacc=>?_) hl;refine ⟨.ref s.heap.objs.size,_,I.laid (t':=tk) hk (Il _) (show bw X.prog X.w _ h' _ (.lst (fg z)) from ⟨hz,acc'.toList,c',?_,by rw [Array.toArray_toList];exact hS⟩),rfl,q _ (I.hok.fresh (Il _))⟩;exact pS hacc
theorem uY {X:Cx} {f:Value} {r r':List V->Hp->VK->Prop} (h:a8 X f r) (h':a8 X f r'):a8 X f (fun xs H Q=>r xs H Q\/r' xs H Q):=by
 intro pins s Z H xs us Q I rv q;rcases q with q | q
 ·exact h pins s Z H xs us Q I rv q
 ·exact h' pins s Z H xs us Q I rv q
theorem ko {X:Cx} (hc:X.calm=true):a8 X (.type "list") (qL.r X.K):=jI (uY ph (lJ hc)) fun x H Q h=>h.imp id fun ⟨z,e,r⟩=>⟨z,by rw [e],r⟩
noncomputable def wA:PyData->Option PR
 | .list xs=>some (.dat (.tuple xs))
 | .tuple xs=>some (.dat (.tuple xs))
 | _=>none
noncomputable def lL:Prm:=Prm.one (fun K x=>v7 K [x]) wA fun K F H x u pr Q hf hx hd q=>by
 unfold wA at hf;split at hf
 ·cases hf;obtain ⟨a,us,rfl,s1,z1,d1⟩:=mH hx;exact ⟨a,us,rfl,.inl ⟨s1,fun p hp=>q _ _ (aA.nw _ hp) (Ai hp z1 d1)⟩⟩
 ·cases hf;obtain ⟨a,us,rfl,s1,z1,d1⟩:=nR hx;exact ⟨a,us,rfl,.inr ⟨s1,q _ H (aA.rf H) ⟨a,us,rfl,s1,z1,d1⟩⟩⟩
 ·cases hf
theorem i8 {X:Cx}:a8 X (.type "tuple") (lL.r X.K):=jI mL fun _ _ _ h=>h
noncomputable def jU (i:Int):Str:=Str.ofString (toString i)
theorem pP {i:Int} {k:Nat} (hk:0 < k) (h:i.natAbs < 10 ^ k):(jU i).length<=k+1:=by
 unfold jU;rw [PySem.ofString_length];exact int_text_length_le10 hk h
theorem bD (s:String):PyData.strOk (Str.ofString s)=true:=by
 rw [Str.ofString_eq_toList];unfold PyData.strOk;rw [Array.all_eq_true'];intro c hc;have:c∈s.toList.map Char.toNat:=by simpa using hc
 obtain ⟨ch,_,rfl⟩:=Ji.mp this;have:=ch.valid;simp only [KS];rcases this with h | ⟨_,h⟩
 ·show ch.val.toNat < _;have:ch.val.toNat < 0xD800:=h;omega
 ·exact h
noncomputable def GN:PyData->Option PR
 | .int i=>if i.natAbs < 10 ^ 400 then some (.dat (.str (jU i))) else none
 | .str x=>some (.dat (.str x))
 | .none=>some (.dat (.str "None"))
 | _=>none
noncomputable def Ef:Prm:=Prm.one (fun _ x=>A0 [x]) GN fun K F H x u pr Q hf hx hd q=>by
 unfold GN at hf;split at hf
 ·split at hf
  ·rename_i i hi;cases hf;rw [vInt hx];have hlog:i.natAbs.log2 < 1920:=by
    by_cases e:i.natAbs=0
    ·rw [e];decide
    ·exact Ir ((Nat.log2_lt e).mpr (KC hi (by decide +kernel:(10:Nat) ^ 400 < 2 ^ 1900))) (by decide)
   exact .inl ⟨i,rfl,hlog,q _ H (aA.rf H) ⟨rfl,IM (pP (k:=400) (by decide) hi) (by decide),bD _⟩⟩
  ·cases hf
 ·cases hf;obtain ⟨rfl,l1,o1⟩:=vStr hx;exact .inr (.inr ⟨_,rfl,q _ H (aA.rf H) ⟨rfl,l1,o1⟩⟩)
 ·cases hf;rw [Gy hx];exact .inr (.inl ⟨rfl,q _ H (aA.rf H) ⟨rfl,by decide,bD _⟩⟩)
 ·cases hf
theorem xa {X:Cx}:a8 X (.type "str") (Ef.r X.K):=jI sG fun _ _ _ h=>h
noncomputable def iW:List PyData->Option (List Bool)
 | []=>some []
 | .bool b :: r=>match iW r with | some bs=>some (b :: bs) | none=>none
 | _ :: _=>none
theorem qN {K:Fg} {F:Addr->Prop} {H:Hp}:∀ {ds:List PyData} {xs:List V} {bs:List Bool},iW ds=some bs->DmL K F H ds xs->xs=bs.map V.bl
 | [],xs,bs,h,q=>by cases h;exact q
 | .bool b :: r,xs,bs,h,q=>by
  unfold iW at h;split at h
  ·rename_i bs' h';cases h;obtain ⟨v,vr,rfl,h1,h2⟩:=q;rw [qN h' h2,show v=.bl b from h1];rfl
  ·cases h
 | .none :: r,xs,bs,h,q=>by cases h
 | .int _ :: r,xs,bs,h,q=>by cases h
 | .str _ :: r,xs,bs,h,q=>by cases h
 | .list _ :: r,xs,bs,h,q=>by cases h
 | .tuple _ :: r,xs,bs,h,q=>by cases h
 | .dict _ :: r,xs,bs,h,q=>by cases h
noncomputable def zt:Prm:=Prm.one (fun K x=>GF K [x]) (fun x=>match x with | .list ds=>(iW ds).map fun bs=>.dat (.bool (bs.all id)) | _=>none) fun K F H x u pr Q hf hx hd q=>by
 split at hf
 ·obtain ⟨bs,e,rfl⟩:=IK.mp hf;obtain ⟨a,us,rfl,s1,z1,d1⟩:=mH hx;rw [qN e d1] at s1;exact ⟨a,bs,rfl,s1,q _ H (aA.rf H) rfl⟩
 ·cases hf
theorem sP {X:Cx} (hc:X.calm=true):a8 X (.builtin "all") (zt.r X.K):=jI (tK hc) fun _ _ _ h=>h
theorem oM {K:Fg} {F:Addr->Prop} {H:Hp} {k:PyData}:∀ {ds:List (PyData×PyData)} {xs:List (PyData×V×V)},DmP K F H ds xs->(∀ d,getD ds k=some d->∃ v,oy xs k=some v/\Dm K F H d v)/\(getD ds k=none->oy xs k=none)
 | [],xs,h=>by
  rw [show xs=[] from h];exact ⟨fun d e=>(nomatch e),fun _=>rfl⟩
 | (k',d') :: ds,xs,h=>by
  obtain ⟨j,v,r,rfl,e,_,h1,h2⟩:=h;have ih:=oM (k:=k) h2;unfold getD oy at ih ⊢;rw [List.find?_cons,List.find?_cons];cases PyData.eqv k' k with
  | true=>exact ⟨fun d e=>(by cases e;exact ⟨v,rfl,h1⟩),fun e=>(nomatch e)⟩
  | false=>exact ih
mutual
theorem iI:∀ (d:PyData),hkB d=true->noD d=true
 | .int _,_=>rfl
 | .str _,_=>rfl
 | .tuple ds,h=>by rw [noD];exact rh ds h
 | .none,h=>by cases h
 | .bool _,h=>by cases h
 | .list _,h=>by cases h
 | .dict _,h=>by cases h
theorem rh:∀ (ds:List PyData),ug ds=true->gb ds=true
 | [],_=>rfl
 | d :: ds,h=>by
  simp only [ug,IV] at h;rw [gb,iI d h.1,rh ds h.2];rfl
end
theorem fX {d:PyData}:hk6 d=true↔hkB d=true/\d.depth<=6:=by simp [hk6]
theorem qC {K:Fg} {F:Addr->Prop} {H:Hp} {d:PyData} {v:V} (h:Vw K F H d v) (hk:hk6 d=true):kyB d=true:=by
 rw [fX] at hk;exact aC.mpr ⟨hk.1,h.lay (iI d hk.1),hk.2⟩
theorem sf {X:Cx} {pins:List (Addr×Obj)} {Z:St} {s:Shared} {F:Addr->Prop} {H:Hp} (I:Inv X pins Z H s):∀ {ds:List (PyData×PyData)} {xs:List (PyData×V×V)},DmP X.K F H ds xs->iq s.heap xs
 | [],xs,h=>by rw [show xs=[] from h];intro x hx;cases hx
 | (k,d) :: ds,xs,h=>by
  obtain ⟨j,v,r,rfl,hk,h0,_,h2⟩:=h;intro x hx;rcases Iq.mp hx with rfl | hx
  ·exact ⟨qC h0.vw hk,fun u ru=>h0.reads I (iI _ (fX.mp hk).1) ru⟩
  ·exact sf I h2 x hx
def Ds (K:Fg) (H:Hp) (x y:V) (k:PyData) (a:Addr) (ep:Nat) (xs:List (PyData×V×V)):Prop:=∃ (F:Addr->Prop) (kvs:List (PyData×PyData)),x=.ref a/\H a=some (.dD ep xs)/\DmP K F H kvs xs/\Vw K F H k y/\hk6 k=true
noncomputable def BW:PyData->PyData->Option PR
 | .dict kvs,k=>if hk6 k=true then (getD kvs k).map .dat else none
 | _,_=>none
def Bi (K:Fg):R2:=fun x y H Q=>∃ k a ep xs v,Ds K H x y k a ep xs/\oy xs k=some v/\Q v H
noncomputable def iF:Prm:=Prm.two Bi BW fun K F H x y u v pr Q hf hx hy hd q=>by
 unfold BW at hf;split at hf
 ·split at hf
  ·rename_i kvs _ hk;obtain ⟨d,e,rfl⟩:=IK.mp hf;obtain ⟨a,rfl,ep,xs,ea,_,r⟩:=hx;obtain ⟨w,ew,dw⟩:=(oM r).1 d e;exact ⟨_,a,ep,xs,w,⟨F,_,rfl,ea,r,hy,hk⟩,ew,q _ H (aA.rf H) dw⟩
  ·cases hf
 ·cases hf
def Eh (neg:Bool) (K:Fg):R2:=fun y x H Q=>∃ k a ep xs,Ds K H x y k a ep xs/\Q (.bl (if neg then !(oy xs k).isSome else (oy xs k).isSome)) H
noncomputable def HY (neg:Bool):Prm:=Prm.two (Eh neg) (fun k d=>match d with
  | .dict kvs=>if hk6 k=true then some (.dat (.bool (if neg then !(getD kvs k).isSome else (getD kvs k).isSome))) else none
  | _=>none) fun K F H y x v u pr Q hf hy hx hd q=>by
 split at hf
 ·rename_i kvs;split at hf
  ·rename_i hk;cases hf;obtain ⟨a,rfl,ep,xs,ea,_,r⟩:=hx;have g:=oM (k:=y) r;refine ⟨_,a,ep,xs,⟨F,kvs,rfl,ea,r,hy,hk⟩,q _ H (aA.rf H) ?_⟩;have e:(oy xs y).isSome=(getD kvs y).isSome:=by
    cases z:getD kvs y with
    | none=>rw [g.2 z];rfl
    | some d=>obtain ⟨w,ew,_⟩:=g.1 d z;rw [ew];rfl
   rw [e];cases neg <;> rfl
  ·cases hf
 ·cases hf
section
variable {X:Cx} {a b o i e value:Expr} {pos pos':Pos} {ta tb td ty tv:TE}
theorem kK (hu:X.A.units+64 < cLine) (ho:JE X a ta) (hi:JE X b tb) (hs:Gi b):JE X (.Subscript a b pos) (tOp (fun x y=>iF.r X.K [x,y]) ta tb):=⟨by
 intro pins s Z H Q I h;refine yX PySem.F.slot_dict_getitem.lookup hs (thn (ho.h pins s Z H _ I h) fun u s1 ⟨x,H1,I1,rx,q1⟩=>thn (hi.h pins s1 Z H1 _ I1 q1) fun iv s2 ⟨y,H2,I2,ry,k,p,ep,xs,v,⟨F,kvs,ex,ea,r,hk,hk6'⟩,gv,q2⟩=>?_);subst ex;obtain rfl:u=Value.ref p:=rx;obtain ⟨as,rk⟩:=hk.reads I2 (iI _ (fX.mp hk6').1) ry
 exact ⟨(iO I2 ea).1,AD (by omega) I2 ea (sf I2 r) rk (qC hk hk6') gv fun t w' rw'=>⟨v,H2,I2.tok t,rw',q2⟩⟩⟩
theorem uL:JE X (.Dict [] [] pos) wt:=⟨vK⟩
theorem l5 {keys:List (Option Expr)} {values:List Expr} {trs:List (TE×TE)} (h:JP X pos keys values trs) (hall:keys.all (·.isSome)=true) (hl:keys.length=values.length) (h0:keys≠[]) (h15:keys.length<=15):JE X (.Dict keys values pos) (oP trs):=⟨vg h.h hall hl h0 h15⟩
end
theorem nZ {K:Fg} {F:Addr->Prop} {H:Hp}:∀ {ds:List (PyData×PyData)} {xs:List (PyData×V×V)},DmP K F H ds xs->xs.length=ds.length
 | [],xs,h=>by rw [show xs=[] from h];rfl
 | (k,d) :: ds,xs,h=>by obtain ⟨j,v,r,rfl,_,_,_,h2⟩:=h;rw [IH,IH,nZ h2]
theorem Fb {K:Fg} {F:Addr->Prop} {H:Hp} {d:PyData} {v:V} (h:Vw K F H d v) (hk:hk6 d=true):Dm K F H d v:=by
 cases d with
 | list ds=>cases hk
 | dict ds=>cases hk
 | _=>exact h
noncomputable def pE:wc where
 r:=fun K o y x H Q=>∃ k a ep xs,Ds K H o y k a ep xs/\xs.length < sizeLine/\∀ ep',Q (upd H a (.dD ep' (mn xs k y x)))
 f:=fun d k x=>match d with
  | .dict kvs=>if hk6 k=true/\kvs.length < sizeLine then some (.dict (putD kvs k x)) else none
  | _=>none
 ok:=fun K F H d a k x vk vx d' Q hf ha ht hk hx q=>by
  split at hf
  ·split at hf
   ·rename_i kvs h;cases hf;obtain ⟨ep,xs,ea,z,r⟩:=ht;have hlen:xs.length < sizeLine:=by rw [nZ r];exact h.2
    refine ⟨k,a,ep,xs,⟨F,kvs,rfl,ea,r,hk,h.1⟩,hlen,fun ep'=>q _ (fun b o n e=>by rw [ae n];exact e) ?_⟩;have p:Pr F H (upd H a (.dD ep' (mn xs k vk vx))):=fun b o e n=>by
     by_cases y:b=a
     ·subst y;rcases n with n | n
      ·exact absurd ha n
      ·rw [ea] at e;cases e;cases n
     ·rw [ae y];exact e
    exact ⟨_,_,ai,by have:=nX (xs:=xs) (k:=k) (j:=vk) (v:=vx);omega,(qJ r h.1 (Fb hk h.1) hx).pr p fun _ z=>z⟩
   ·cases hf
  ·cases hf
def Es (K:Fg) (td ty tv:TE):TS:=fun D Z H=>tv Z H fun v H1=>td Z H1 fun x H2=>ty Z H2 fun y H3=>pE.r K x y v H3 (D.nx Z)
theorem vi {X:Cx} {o i value:Expr} {pos pos':Pos} {td ty tv:TE} (hu:X.A.units+64 < cLine) (ho:JE X o td) (hi:JE X i ty) (hv:JE X value tv) (hs:swapsWith value (some (.Subscript o i pos')) pos.line X.env=pure false) :
  JS X (.Assign [.Subscript o i pos'] value pos) (Es X.K td ty tv):=⟨by
 intro pins s Z H D I h;refine wpAny_Assign_Subscript (thn (hv.h pins s Z H _ I h) fun r s1 ⟨v,H1,I1,rv,q1⟩=>thn (ho.h pins s1 Z H1 _ I1 q1) fun u s2 ⟨x,H2,I2,rx,q2⟩=>thn (hi.h pins s2 Z H2 _ I2 q2) fun iv s3 ⟨y,H3,I3,ry,k,p,ep,xs,⟨F,kvs,ex,ea,r,hk,hk6'⟩,hl,q3⟩=>?_) hs;subst ex;obtain rfl:u=Value.ref p:=rx;obtain ⟨as,rk⟩:=hk.reads I3 (iI _ (fX.mp hk6').1) ry
 exact FH (by omega) I3 ea (sf I3 r) rk (qC hk hk6') ry rv hl fun ep' s4 I4=>⟨Z,_,I4,q3 ep'⟩⟩
theorem wq {F:Addr->Prop} {H:Hp} {a:Addr} {o o':HO} (ha:F a) (e:H a=some o') (w:Wr o'=true):Pr F H (upd H a o):=fun b u q n=>by
 by_cases y:b=a
 ·subst y;rcases n with n | n
  ·exact absurd ha n
  ·rw [e] at q;cases q;rw [n] at w;cases w
 ·rw [ae y];exact q
theorem wH {K:Fg} {F:Addr->Prop} {H:Hp} {d:PyData} {a:Addr} (h:isL d=true) (t:Top K F H d a):tyV K "list" (.ref a) H:=by
 cases d with
 | list ds=>obtain ⟨xs,e,_⟩:=t;exact .inl ⟨rfl,xs,.inl (.inl e)⟩
 | _=>cases h
noncomputable def C6:Mtr where
 T := "list"
 r:=fun _=>r9
 ty:=isL
 f:=fun d as=>match d,as with
  | .list xs,[(true,x)]=>if xs.length < sizeLine then some (.list (xs++[x]),.none) else none
  | _,_=>none
 zp:=fun K F H d a h t=>wH h t
 ok:=fun K F H d a as vs d' x Q hf ha ht hv q=>by
  split at hf
  ·split at hf
   ·rename_i hl;cases hf;obtain ⟨v,r,rfl,hv,rfl⟩:=hv;obtain ⟨xs,ea,z,rx⟩:=ht;refine ⟨a,xs,v,rfl,rfl,ea,by rw [rx.len];exact hl,q _ _ (fun b o n e=>by rw [ae n];exact e) ⟨_,ai,by rw [Io,rx.len];simp;omega,(rx.snoc hv).pr (wq ha ea rfl) fun _ z=>z⟩ rfl⟩
   ·cases hf
  ·cases hf
noncomputable def strsOf:List PyData->Option (List Str)
 | []=>some []
 | .str x :: r=>match strsOf r with | some xs=>some (x :: xs) | none=>none
 | _ :: _=>none
theorem wW {K:Fg} {F:Addr->Prop} {H:Hp}:∀ {ds:List PyData} {xs:List V} {ss:List Str},strsOf ds=some ss->DmL K F H ds xs->xs=ss.map V.str/\∀ s∈ss,PyData.strOk s=true
 | [],xs,bs,h,q=>by cases h;exact ⟨q,fun s z=>by cases z⟩
 | .str b :: r,xs,bs,h,q=>by
  unfold strsOf at h;split at h
  ·rename_i bs' h';cases h;obtain ⟨v,vr,rfl,h1,h2⟩:=q;obtain ⟨i1,i2⟩:=wW h' h2;refine ⟨by rw [i1,show v=.str b from h1.1];rfl,fun s z=>?_⟩;rcases Iq.mp z with rfl | z
   ·exact h1.2.2
   ·exact i2 s z
  ·cases h
 | .none :: r,xs,bs,h,q=>by cases h
 | .int _ :: r,xs,bs,h,q=>by cases h
 | .bool _ :: r,xs,bs,h,q=>by cases h
 | .list _ :: r,xs,bs,h,q=>by cases h
 | .tuple _ :: r,xs,bs,h,q=>by cases h
 | .dict _ :: r,xs,bs,h,q=>by cases h
noncomputable def Fn.no (ms:List PM):Fn:=⟨ms,fun _=>none⟩
theorem vW {K:Fg} {F:Addr->Prop} {H:Hp}:∀ {ns:List Int},DmL K F H (ns.map .int) (ns.map .int)
 | []=>rfl
 | n :: ns=>⟨_,_,rfl,rfl,vW⟩
theorem BU {f:Fn} {K:Fg} {H:Hp} {a:Addr} {ns:List Int} (hm:f.ms=[.dat]) (hl:ns.length<=63) (hS:SqL K H a (ns.map V.int)) (hF:f.F [.list (ns.map .int)]=some (.dat (.bool true),[])):cU f K [.ref a] H (fun v _=>v=.bl true) fun _ _ _=>False:=by
 refine ⟨fun _=>False,[.list (ns.map .int)],[],.dat (.bool true),[],hF,?_,fun _ h=>absurd h id,fun v' H' _ r=>r.1⟩;rw [hm];refine ⟨⟨a,ns.map .int,rfl,?_,?_,vW⟩,rfl⟩
 ·rcases hS with hS | hS
  ·exact .inl ⟨id,hS⟩
  ·exact .inr hS
 ·rw [Ic];exact IM hl (by decide)
open PySem PySem.Spec PyProof.Rows
section
variable {X:Cx} {pos:Pos} {s:Stmt}
theorem jN:JS X s wR:=⟨fun _ _ _ _ _ _ h=>absurd h id⟩
end
open PySem PySem.Spec PyProof.Rows
noncomputable def Dq (d:PyData):Bool:=noD d&&decide (d.depth<=32)
noncomputable def AU (ds:List PyData) (x:PyData):Bool:=ds.any fun d=>PyData.eqv d x
noncomputable def ngB (neg b:Bool):Bool:=if neg then !b else b
def Hu (neg:Bool) (K:Fg):R2:=rOr (fun x y H Q=>∃ i j,x=.str i/\y=.str j/\Q (.bl (ngB neg (!(Builtin.Str.occurrences j i 0 j.length 1).isEmpty))) H)
 fun x y H Q=>∃ (p:Addr) (xs:List V) (F:Addr->Prop) (d:PyData) (ds:List PyData),y=.ref p/\(SqL K H p xs\/SqT K H p xs)/\Vw K F H d x/\DmL K F H ds xs/\Dq d=true/\gb ds=true/\Q (.bl (ngB neg (AU ds d))) H
noncomputable def inD (neg:Bool):PyData->PyData->Option PR
 | .str i,.str j=>some (.dat (.bool (ngB neg (!(Builtin.Str.occurrences j i 0 j.length 1).isEmpty))))
 | x,.list ds=>if Dq x=true/\gb ds=true then some (.dat (.bool (ngB neg (AU ds x)))) else none
 | x,.tuple ds=>if Dq x=true/\gb ds=true then some (.dat (.bool (ngB neg (AU ds x)))) else none
 | _,_=>none
noncomputable def HB (neg:Bool):Prm:=Prm.two (Hu neg) (inD neg) fun K F H x y u v pr Q hf hx hy hd q=>by
 unfold inD at hf;split at hf
 ·cases hf;exact .inl ⟨_,_,(vStr hx).1,(vStr hy).1,q _ H (aA.rf H) rfl⟩
 ·split at hf
  ·rename_i h;cases hf;obtain ⟨a,us,rfl,s1,z1,d1⟩:=mH hy;exact .inr ⟨a,us,F,_,_,rfl,.inl s1,hx,d1,h.1,h.2,q _ H (aA.rf H) rfl⟩
  ·cases hf
 ·split at hf
  ·rename_i h;cases hf;obtain ⟨a,us,rfl,s1,z1,d1⟩:=nR hy;exact .inr ⟨a,us,F,_,_,rfl,.inr s1,hx,d1,h.1,h.2,q _ H (aA.rf H) rfl⟩
  ·cases hf
 ·cases hf
noncomputable abbrev inP:Prm:=HB false
open Classical in
noncomputable def eqR (h:Heap) (x:PyData) (u:Value):Bool:=if q:∃ d as,Reads h u d as then PyData.eqv (Classical.choose q) x else false
theorem wO {h:Heap} {x d:PyData} {u:Value} {as:List Addr} (r:Reads h u d as):eqR h x u=PyData.eqv d x:=by
 have q:∃ d as,Reads h u d as:=⟨d,as,r⟩;unfold eqR;rw [dif_pos q];obtain ⟨bs,r2⟩:=Classical.choose_spec q;rw [(PySem.Reads.unique r _ _ r2).1]
section
variable {X:Cx} {pins:List (Addr×Obj)} {Z:St} {s:Shared} {H:Hp} {F:Addr->Prop}
theorem nh (I:Inv X pins Z H s) (x:PyData):∀ {ds:List PyData} {xs:List V} {us:List Value},DmL X.K F H ds xs->gb ds=true->Vals xs us->us.any (eqR s.heap x)=AU ds x
 | [],xs,us,h,_,r=>by rw [show xs=[] from h] at r;cases r;rfl
 | d :: ds,xs,us,h,n,r=>by
  obtain ⟨v,t,rfl,h1,h2⟩:=h;have n':noD d=true/\gb ds=true:=by simpa [gb] using n
  cases r with
  | cons r1 r2 =>
   obtain ⟨as,ra⟩:=h1.reads I n'.1 r1;rw [Kr,wO ra,nh I x h2 n'.2 r2];rfl
theorem m3 (I:Inv X pins Z H s) {A:Around} {x:PyData} {b:Value} {bs:List Addr} (rb:Reads s.heap b x bs) (hb:x.canLay0=true) (hu:A.units+x.depth < cLine):∀ {ds:List PyData} {xs:List V} {us:List Value},DmL X.K F H ds xs->gb ds=true->Vals xs us->∀ u∈us,SeqAt.EqAt A s u b (eqR s.heap x u)
 | [],xs,us,h,_,r=>by rw [show xs=[] from h] at r;cases r;intro u hu;cases hu
 | d :: ds,xs,us,h,n,r=>by
  obtain ⟨v,t,rfl,h1,h2⟩:=h;have n':noD d=true/\gb ds=true:=by simpa [gb] using n
  cases r with
  | cons r1 r2 =>
   intro u hm;rcases Iq.mp hm with rfl | hm
   ·obtain ⟨as,ra⟩:=h1.reads I n'.1 r1;rw [wO ra];exact SeqAt.eqAt_reads d x A s _ b as bs ra rb (h1.lay n'.1) hb (by omega)
   ·exact m3 I rb hb hu h2 n'.2 r2 u hm
end
theorem jD {X:Cx} (hu:X.A.units+64 < cLine):OpR X (compareOp .In) (fun x y=>inP.r X.K [x,y]):=by
 refine orR zS ?_;intro pins s Z H x y v u Q I rx ry h;obtain ⟨p,xs,F,d,ds,rfl,hq,hd,hs,o1,o2,q⟩:=h;have o1':noD d=true/\d.depth<=32:=by simpa [Dq] using o1
 cases ry;obtain ⟨bs,rb⟩:=hd.reads I o1'.1 rx;rcases hq with hq | hq
 ·obtain ⟨its,r,pl,hz⟩:=I.list hq;refine SeqAt.in_listAt (eqR s.heap d) pl.isList (fun w hw=>m3 I rb (hd.lay o1'.1) (by have:X.A.in1.units=X.A.units+1:=rfl;omega) hs o2 r w (by simpa using hw)) ⟨.bl _,H,I,rfl,?_⟩;rw [show its.toArray.any (eqR s.heap d)=its.any (eqR s.heap d) by simp,nh I d hs o2 r];exact q
 ·obtain ⟨its,r,pl,hz⟩:=I.tuple hq;refine SeqAt.in_tupleAt (eqR s.heap d) pl (fun w hw=>m3 I rb (hd.lay o1'.1) (by have:X.A.in1.units=X.A.units+1:=rfl;omega) hs o2 r w (by simpa using hw)) ⟨.bl _,H,I,rfl,?_⟩;rw [show its.toArray.any (eqR s.heap d)=its.any (eqR s.heap d) by simp,nh I d hs o2 r];exact q
theorem bK.no {P:Program} {w:World} {K:Fg} {mg:Str->Option Value} {base:Heap} {k:Nat} {f:Addr} {fd:FuncData} {ps:List Str} {sp:Sp} {x qual:Str} {st:Stmt} {N:List Str} (F:Fun K x qual st f fd) (S:aq N ps (ab st)) (h:∀ vs H Q E,¬sp vs H Q E):bK P w K mg base CX0 (k+1) f fd ps sp :=
 F.okJ S (fun vs H Q E z=>(h vs H Q E z).elim) (fun cdv A outer s H vs Q E hr z=>(h vs H Q E z).elim)
open PySem PySem.Spec PyProof.Rows
noncomputable def gL (ww:World):Bool:=ww.params.followText "set-order"
structure C9 (ww:World) (tb:SetTable) (n:Nat):Prop where
 fit:tb.fits n=true
 led:tb.led=!gL ww
 pln:n≠0->tb.plain=false
theorem j8 (tb:SetTable) (n:Nat):(tb.orStandIn n).led=tb.led:=by
 unfold SetTable.orStandIn;split <;> rfl
theorem xK (tb:SetTable) (es:Array (Int×Value)) (hs:Int) (x:Value):(layNew tb es hs x).2.1.led=tb.led:=by
 unfold layNew;cases q:tb.freeSlot hs with
 | none=>rfl
 | some p =>
  obtain ⟨sl,wd⟩:=p;exact j8 _ _
theorem rg (tb:SetTable) (es:Array (Int×Value)) (k:Nat):(relayAll tb es k).2.1.led=tb.led/\(tb.plain=false->(relayAll tb es k).2.1.plain=false):=by
 unfold relayAll;cases q:tb.relaid (es.map (·.1)) k with
 | none=>exact ⟨rfl,fun _=>rfl⟩
 | some p =>
  obtain ⟨t2,ord⟩:=p;dsimp only;split
  ·unfold SetTable.relaid SetTable.laid at q;cases ho:SetTable.layClean (SetTable.sizeAbove k - 1) (es.map (·.1)) with
   | none=>rw [ho] at q;cases q
   | some ow =>
    rw [ho] at q;simp only [Option.bind_eq_bind,Option.bind_some,Option.pure_def,Option.some.injEq,Prod.mk.injEq] at q;obtain ⟨rfl,_⟩:=q;exact ⟨rfl,fun z=>z⟩
  ·exact ⟨rfl,fun _=>rfl⟩
def de (pr:Program) (ww:World) (h:Heap) (a:Addr) (ss:List Str):Prop :=
 ∃ ob es ep tb,h.get? a=some ob/\ob.ExactSet/\ob.data=.set es ep tb/\ElemsOf (strKind pr ww) es.toList/\(∃ zs,StrsAre (es.toList.map (·.2)) zs/\zs.Perm ss)/\es.size < scanBound/\C9 ww tb es.size
noncomputable def kX (ss:List Str) (x:Str):List Str:=if x∈ss then ss else ss++[x]
theorem oU {x:Str}:∀ {es:List (Int×Value)} {zs:List Str},StrsAre (es.map (·.2)) zs->((∃ e∈es,Value.isStrOf x e.2=true)↔x∈zs)
 | [],[],_=>by simp
 | e :: es,_,h=>by
  obtain ⟨hs,v⟩:=e;rw [List.map_cons] at h;cases h with
  | cons y tk h =>
   have ih:=oU (x:=x) h;have hd:Value.isStrOf x (.str y tk)=true↔x=y:=by
    constructor
    ·intro q;obtain ⟨_,q⟩:=Value.isStrOf_shape q;injection q with q _;exact q.symm
    ·rintro rfl;simp [Value.isStrOf]
   simp only [Iq,exists_eq_or_imp];rw [ih];exact or_congr hd Iff.rfl
theorem cG:∀ {us vs:List Value},us.Perm vs->∀ {zs:List Str},StrsAre vs zs->∃ ws,StrsAre us ws/\ws.Perm zs
 | _,_,.nil,zs,h=>by cases h;exact ⟨[],.nil,.nil⟩
 | _,_,.cons v p,zs,h=>by
  cases h with
  | cons y tk h =>
   obtain ⟨ws,a,b⟩:=cG p h;exact ⟨y :: ws,.cons y tk a,.cons y b⟩
 | _,_,.swap v u l,zs,h=>by
  cases h with
  | cons y tk h =>
   cases h with
   | cons z tk' h=>exact ⟨_,.cons z tk' (.cons y tk h),.swap _ _ _⟩
 | _,_,.trans p q,zs,h=>by
  obtain ⟨ws,a,b⟩:=cG q h;obtain ⟨vs,c,d⟩:=cG p a;exact ⟨vs,c,d.trans b⟩
theorem strs_snoc {x:Str} {tk:Tok}:∀ {us:List Value} {zs:List Str},StrsAre us zs->StrsAre (us++[.str x tk]) (zs++[x])
 | _,_,.nil=>.cons x tk .nil
 | _,_,.cons y t h=>.cons y t (strs_snoc h)
theorem bU:∀ {us:List Value} {zs:List Str},StrsAre us zs->us.length=zs.length
 | _,_,.nil=>rfl
 | _,_,.cons y t h=>by rw [IH,IH,bU h]
section
variable {pr:Program} {ww:World} {AA:Around} {EE:Value->Shared->Prop} {st:Shared}
theorem de.size {h:Heap} {a:Addr} {ss:List Str} (z:de pr ww h a ss):∃ ob es ep tb,h.get? a=some ob/\ob.data=.set es ep tb/\es.size=ss.length:=by
 obtain ⟨ob,es,ep,tb,h1,_,h2,_,⟨zs,h3,h4⟩,_⟩:=z;refine ⟨ob,es,ep,tb,h1,h2,?_⟩;have:=bU h3;rw [Ic,Jn] at this;rw [this,h4.length_eq]
theorem rB {a:Addr} {ob:Obj} {es es':Array (Int×Value)} {ep:Nat} {tb tb':SetTable} {ss:List Str} {h:Heap} (ho:h.get? a=some ob) (hx:ob.ExactSet) (hd:ob.data=.set es ep tb)
  (he:ElemsOf (strKind pr ww) es'.toList) (hz:∃ zs,StrsAre (es'.toList.map (·.2)) zs/\zs.Perm ss) (hb:es'.size < scanBound) (ht:C9 ww tb' es'.size) :
  (h.update a (Obj.putSet es' tb')).get? a=some { ob with data:=.set es' (ep+1) tb' }/\de pr ww (h.update a (Obj.putSet es' tb')) a ss:=by
 have hg:(h.update a (Obj.putSet es' tb')).get? a=some { ob with data:=.set es' (ep+1) tb' }:=by
  have q:=IG (Obj.putSet es' tb') ho (by rw [putSet_of es' tb' hd];rfl);rw [putSet_of es' tb' hd] at q;exact q
 exact ⟨hg,_,es',ep+1,tb',hg,hx,rfl,he,hz,hb,ht⟩
theorem wX {gg:Bool->Sem Unit} (hg:∀ (b:Bool) (s1:Shared) (Q':Unit->Shared->Prop),Q' () s1->wpAny (model pr ww) AA (gg b) Q' EE s1)
  {a:Addr} {ob:Obj} {es e1:Array (Int×Value)} {ep:Nat} {tb t2:SetTable} {ss:List Str} {wd:Bool} {RR:Option Bool->Shared->Prop} (ho:st.heap.get? a=some ob) (hx:ob.ExactSet) (hd:ob.data=.set es ep tb)
  (he:ElemsOf (strKind pr ww) e1.toList) (hz:∃ zs,StrsAre (e1.toList.map (·.2)) zs/\zs.Perm ss) (hb:e1.size < scanBound) (ht:C9 ww t2 e1.size) (hp:t2.plain=false)
  (h:∀ h',Heap.SameBut a st.heap h'->de pr ww h' a ss->RR (some true) { st with heap:=h' }) :
  wpAny (model pr ww) AA (do
    storeSet a e1 t2
    if (!wd&&t2.tooFull)=true then do
      gg (relayAll t2 e1 (SetTable.grown e1.size)).2.2
      storeSet a (relayAll t2 e1 (SetTable.grown e1.size)).1 (relayAll t2 e1 (SetTable.grown e1.size)).2.1
      pure (some true)
     else pure (some true)) RR EE st:=by
 refine H9 (wpAny_storeSet_of ho hd ?_ (fits_of_scanBound hb));obtain ⟨ho1,hS1⟩:=rB (pr:=pr) (ww:=ww) ho hx hd he hz hb ht;have sb:=Jz st.heap a (Obj.putSet e1 t2);split
 ·have pm:=relayAll_perm t2 e1 (SetTable.grown e1.size);have ft:=relayAll_fits t2 e1 (SetTable.grown e1.size);have ld:=rg t2 e1 (SetTable.grown e1.size);generalize relayAll t2 e1 (SetTable.grown e1.size)=Y at pm ft ld ⊢;obtain ⟨e2,t3,gv⟩:=Y;dsimp only at pm ft ld ⊢;have sz:e2.size=e1.size:=by rw [<- Jn,pm.length_eq,Jn]
  have hb2:e2.size < scanBound:=by rw [sz];exact hb
  have hz2:∃ zs,StrsAre (e2.toList.map (·.2)) zs/\zs.Perm ss:=by
   obtain ⟨zs,z1,z2⟩:=hz;obtain ⟨ws,w1,w2⟩:=cG (pm.map (·.2)) z1;exact ⟨ws,w1,w2.trans z2⟩
  refine H9 (hg _ _ _ ?_);refine H9 (wpAny_storeSet_of ho1 rfl ?_ (fits_of_scanBound hb2));obtain ⟨_,hS2⟩:=rB (pr:=pr) (ww:=ww) (tb':=t3) ho1 hx rfl (he.perm pm) hz2 hb2 ⟨ft,ld.1.trans ht.led,fun _=>ld.2 hp⟩;exact Ib (h _ (sb.trans (Jz _ a _)) hS2)
 ·exact Ib (h _ sb hS1)
theorem Fc {a:Addr} {ss:List Str} {x:Str} {tk:Tok} {Q:Bool->Shared->Prop} (hS:de pr ww st.heap a ss) (room:ss.length+1 < scanBound)
  (h:∀ b h',Heap.SameBut a st.heap h'->de pr ww h' a (kX ss x)->Q b { st with heap:=h' }) :
  wpAny (model pr ww) AA (setAddHashed a (.str x tk) (hashStr ww x)) Q EE st:=by
 obtain ⟨ob,es,ep,tb,ho,hx,hd,he,⟨zs,hz1,hz2⟩,hb,ht⟩:=hS;have key:(strKind pr ww).is x (.str x tk)=true:=by show Value.isStrOf x (.str x tk)=true;simp [Value.isStrOf]
 have sc:(Value.str x tk).scannable=true:=rfl;have sz:es.size=ss.length:=by
  have:=bU hz1;rw [Ic,Jn] at this;rw [this,hz2.length_eq]
 unfold setAddHashed setAddHashedIn;refine Jj (H9 (Ki ho hd ht.fit ?_));dsimp only;rw [byScan_of sc hb he];simp only [↓reduceIte];unfold setAddByScan;refine H9 ?_;refine H9 (JJ ?_);refine H9 (wpAny_setScan_of (knd:=strKind pr ww) (k:=x) key ho hd ht.fit he ?_);have mem:(∃ e∈es.toList,Value.isStrOf x e.2=true)↔x∈ss:=(oU hz1).trans hz2.mem_iff;cases hr:List.findIdx? (fun e:Int×Value=>(strKind pr ww).is x e.2) es.toList with
 | some j =>
  dsimp only;obtain ⟨hj,hpj,_⟩:=List.findIdx?_eq_some_iff_getElem.mp hr;have hin:x∈ss:=mem.mp ⟨es.toList[j],List.getElem_mem hj,hpj⟩;refine Ib (Ib ?_);have q:=h false st.heap (Heap.SameBut.refl a st.heap) ⟨ob,es,ep,tb,ho,hx,hd,he,⟨zs,hz1,by unfold kX;rw [Iy hin];exact hz2⟩,hb,ht⟩;cases st;exact q
 | none =>
  dsimp only;have hin:x ∉ ss:=fun hh=>by
   obtain ⟨e,hm,hp⟩:=mem.mpr hh;have:=List.findIdx?_eq_none_iff.mp hr e hm;rw [show (strKind pr ww).is x e.2=true from hp] at this;cases this
  have gw:∀ (b:Bool) (s1:Shared) (Q':Unit->Shared->Prop),Q' () s1->wpAny (model pr ww) AA (match b with | true=>rule "set.scan.the-table-gave-way" | false=>pure ()) Q' EE s1 :=
   fun b s1 Q' hq=>by cases b <;> first | exact Ib hq | exact JJ hq
  have pm:=layNew_perm tb es (hashStr ww x) (.str x tk);have ft:=layNew_fits tb es (hashStr ww x) (.str x tk);have ld:=xK tb es (hashStr ww x) (.str x tk);have hkk:(strKind pr ww).hash x=hashStr ww x:=rfl;generalize layNew tb es (hashStr ww x) (.str x tk)=Y at pm ft ld ⊢;obtain ⟨e1,t1,wd,gv⟩:=Y;dsimp only at pm ft ld ⊢;rw [Km] at pm;have he1:ElemsOf (strKind pr ww) e1.toList:=(he.push key sc).perm pm;have sz1:e1.size=ss.length+1:=by rw [<- Jn,pm.length_eq,Io,Jn,sz];rfl
  have hz':∃ zs,StrsAre (e1.toList.map (·.2)) zs/\zs.Perm (kX ss x):=by
   have p2:=pm.map (·.2);rw [Jx] at p2;obtain ⟨ws,w1,w2⟩:=cG p2 (strs_snoc (x:=x) (tk:=tk) hz1);refine ⟨ws,w1,w2.trans ?_⟩;unfold kX;rw [ID hin];exact hz2.append_right _
  have hb1:e1.size < scanBound:=by rw [sz1];exact room
  refine H9 (gw _ _ _ ?_);split
  ·refine H9 ?_;rw [hashByValue_scannable 8 sc];refine Ib ?_;refine wX (gg:=fun b=>match b with | true=>rule "set.scan.the-table-gave-way" | false=>pure ()) gw ho hx hd he1 hz' hb1 (t2:={ t1 with plain:=false }) ⟨SetTable.fits_plain_off ft,ld.trans ht.led,fun _=>rfl⟩ rfl ?_;intro h' sb hS';dsimp only;exact Ib (h _ h' sb hS')
  ·rename_i npl;have npl:t1.plain=false:=by simpa using npl
   refine H9 (Ib ?_);simp only [↓reduceIte];refine wX (gg:=fun b=>match b with | true=>rule "set.scan.the-table-gave-way" | false=>pure ()) gw ho hx hd he1 hz' hb1 (t2:=t1) ⟨ft,ld.trans ht.led,fun _=>npl⟩ npl ?_;intro h' sb hS';dsimp only;exact Ib (h _ h' sb hS')
end
open PySem PySem.Spec PyProof.Rows
noncomputable def uQ (val:Nat->Str) (i:Nat):List Str:=((List.range i).map val).foldl kX []
theorem l6 (val:Nat->Str) (i:Nat):uQ val (i+1)=kX (uQ val i) (val i):=by
 unfold uQ;rw [List.range_succ,Jx,List.foldl_append];rfl
theorem nU (val:Nat->Str):∀ i,(uQ val i).length<=i
 | 0=>Il _
 | i+1=>by
  have ih:=nU val i;rw [l6];unfold kX;split
  ·omega
  ·rw [Io];show _+1<=_;omega
section
variable {pr:Program} {ww:World} {AA:Around} {RR:Result->Shared->Prop} {IT:Addr} {fp wr:List Addr} {GG:Array GenState->Array GenState->Prop} {n:Nat} {PP:Nat->Value->Prop} {SS:Nat->Shared->Prop}
theorem de.at {h h':Heap} {a:Addr} {ss:List Str} (z:de pr ww h a ss) (k:∀ o,h.get? a=some o->h'.get? a=some o):de pr ww h' a ss:=by
 obtain ⟨ob,es,ep,tb,ho,r⟩:=z;exact ⟨ob,es,ep,tb,k _ ho,r⟩
theorem Fp (W:WalksS pr ww AA.in1 IT fp wr GG n PP SS) (a:Addr) (ha:a ∉ fp) (val:Nat->Str) (hv:∀ i v,PP i v->∃ t,v=.str (val i) t) (hb:n+1 < scanBound) :
  ∀ (k i:Nat) (s:Shared),n - i=k->i<=n->SS i s->de pr ww s.heap a (uQ val i) ->
   (∀ s',Moved (a :: wr) GG s s'->de pr ww s'.heap a (uQ val n)->RR (.ok (.ret .none)) s') ->
   codeAny (model pr ww) AA (.builtin "set.update.loop" ⟨[.ref a,.ref IT],[]⟩) RR s:=by
 have haw:a ∉ wr:=fun z=>ha (W.sub _ z);have hsb:∀ b∈wr,b∈a :: wr:=fun b z=>Ip _ z;intro k;induction k with
 | zero =>
  intro i s hk hi hst hS hR;obtain rfl:i=n:=by omega
  refine Jw F.entry_set_update_loop ?_;rw [Jq F.plain_set_update_loop _];show wpAny _ AA.in1 (pyNext (.ref IT)>>=_) _ _ s;refine H9 (W.done s _ _ hst fun s' hm=>?_);exact Ib (hR s' (hm.mono hsb) (hS.at fun o q=>hm.heap a _ haw q))
 | succ k ih =>
  intro i s hk hi hst hS hR;have hlt:i < n:=by omega
  refine Jw F.entry_set_update_loop ?_;rw [Jq F.plain_set_update_loop _];show wpAny _ AA.in1 (pyNext (.ref IT)>>=_) _ _ s;refine H9 (W.item i s _ _ hlt hst fun v s' hP hst' hm=>?_);obtain ⟨t,rfl⟩:=hv i v hP;have hS':de pr ww s'.heap a (uQ val i):=hS.at fun o q=>hm.heap a _ haw q;show wpAny _ AA.in1 (holding [Value.str (val i) t] (setAdd a (.str (val i) t))>>=_) _ _ s';refine H9 (Jj ?_);unfold setAdd;refine Jj ?_;refine H9 ((strKind pr ww).pyHash (k:=val i) (by show Value.isStrOf (val i) (.str (val i) t)=true;simp [Value.isStrOf]) ?_);refine Fc (st:={ s' with toks:=s'.toks+1 }) hS' (by have:=nU val i;omega) fun bb h' hsm hS2=>?_;rw [<- l6] at hS2;refine Ib ⟨J0 F.plain_set_update_loop _,ih (i+1) _ (by omega) hlt (W.frame _ s' _ _ hst' (Nat.le_succ _) fun b hb o e=>?_) hS2 fun s'' hm'' hS''=>?_⟩
  ·rw [hsm.2 b (fun z:b=a=>ha (by rw [<- z];exact hb))];exact e
  ·refine hR s'' (Moved.trans W.gtrans ((hm.mono hsb).then_heap (Nat.le_succ _) fun b o hb e=>?_) hm'') hS'';rw [hsm.2 b (fun z:b=a=>hb (by rw [z];exact IE))];exact e
end
theorem sO:∀ {us:List Value} {zs:List Str},StrsAre us zs->∀ (i:Nat) (v:Value),us[i]?=some v->∃ t,v=.str (zs.getD i Str.empty) t
 | _,_,.nil,i,v,h=>by simp at h
 | _,_,.cons y t h,0,v,q=>by
  simp only [List.getElem?_cons_zero,Option.some.injEq] at q;exact ⟨t,q.symm⟩
 | _,_,.cons y t h,i+1,v,q=>by
  simp only [List.getElem?_cons_succ] at q;exact sO h i v q
theorem map_getD (ss:List Str):(List.range ss.length).map (fun i=>ss.getD i Str.empty)=ss:=by
 apply List.ext_getElem
 ·simp
 ·intro i h1 h2;simp [h2]
section
variable {pr:Program} {ww:World} {AA:Around} {EE:Value->Shared->Prop} {st:Shared}
noncomputable abbrev gF (ww:World):Obj:={ cls:=.type "set", dict:=none,data:=.set #[] 0 (.fresh 0 0 (!gL ww)) }
theorem ES (v:Value) {Q:Value->Shared->Prop} (h:Q (.ref st.heap.objs.size) { st with heap:=st.heap.push (gF ww) }) :
  codeAny (model pr ww) AA (.call (.builtin "set.__new__") ⟨[.type "set", v],[]⟩) (wants Q EE) st:=by
 refine codeAny_of_tree ?_;show wpAny _ AA.in1 (do checkBuiltinCall "set.__new__" ⟨[.type "set", v],[]⟩;again (.builtin "set.__new__" ⟨[.type "set", v],[]⟩)) _ _ st;refine H9 (wpAny_of_eq (F.newCall_set_1 v) (Ib ⟨J0 F.plain_set_new _,Jw F.entry_set_new ?_⟩));rw [Jq F.plain_set_new _];unfold Builtin.«set.__new__» Builtin.Frozenset.newClass
 have hsub:=sub_set_self;obtain ⟨h0,g0,d0,t0,o0⟩:=st;dsimp only at h ⊢
 wp_walk
 refine wpAny_askSetting (Ib ?_);dsimp only;simp only [newObj];refine H9 (wpAny_alloc (Ib ?_));exact Ib h
theorem yb {h:Heap} {a:Addr} (hg:h.get? a=some (gF ww)):de pr ww h a [] :=
 ⟨_,#[],0,_,hg,⟨rfl,rfl,rfl⟩,rfl,fun e he=>by simp at he,⟨[],.nil,.nil⟩,by decide,⟨rfl,rfl,fun z=>absurd rfl z⟩⟩
theorem sv {l:Addr} {its:Array Value} {ss:List Str} {Q:Value->Shared->Prop} (hh:AA.handled=none) (hl:st.heap.IsList l its) (hi:StrsAre its.toList ss) (hb:its.size+1 < scanBound)
  (h:∀ (h':Heap) (tk:Nat),de pr ww h' st.heap.objs.size (ss.foldl kX [])->(∀ b o,b < st.heap.objs.size->st.heap.get? b=some o->h'.get? b=some o)->Q (.ref st.heap.objs.size) { st with heap:=h',toks:=tk }) :
  wpAny (model pr ww) AA (call (.type "set") [.ref l]) Q EE st:=by
 obtain ⟨cc,tl,hmro⟩:=F.called_set.mro;have hmade:=F.called_set.made;have hsub:=F.called_set.sub;refine wpAny_call (codeAny_of_tree ?_);show wpAny _ _ (callAny (.type "set") _) _ _ _;refine Ib ⟨Code.quiet_builtin _ (by decide +kernel),Jw F.entry_type_call ?_⟩;rw [Around.under_plain (weight_type_call_type "set" [.ref l] []) rfl];have h1:=F.called_set.notType;have h2:=F.called_set.canCreate;have hct:=F.typeCall_set_1 (.ref l)
 repeat (any_goals (first | assumption | wp_step))
 refine Kz (ES (.ref l) (EE:=EE) (Q:=fun obj s1=>obj=.ref st.heap.objs.size/\s1={ st with heap:=st.heap.push (gF ww) }) ⟨rfl,rfl⟩) fun r s1 hr=>?_;cases r with
 | error e=>exact hr
 | ok fl =>
  cases fl with
  | ret obj =>
   obtain ⟨rfl,rfl⟩:=hr;have hS:(st.heap.push (gF ww)).get? st.heap.objs.size=some (gF ww):=Im _ rfl;have hT:Shared.TypeIs { st with heap:=st.heap.push (gF ww) } (.ref st.heap.objs.size) "set" := ⟨_,hS,rfl⟩;have hli:=F.called_set.init.lookup;have hbi:=F.called_set.init.bind (.ref st.heap.objs.size)
   repeat (any_goals (first | assumption | wp_step))
   refine Kz (codeAny_call_builtin (R:=wants (fun r s2=>r=.none/\∃ h' tk,s2={ st with heap:=h',toks:=tk }/\de pr ww h' st.heap.objs.size (ss.foldl kX []) /\
     (∀ b o,b < st.heap.objs.size->st.heap.get? b=some o->h'.get? b=some o)) EE) F.called_set.init.plain F.entry_set_init (check_set_init_1 hT ?_)) fun r2 s2 hr2=>?_
   ·obtain ⟨ol,hol,hcl,nl,hdl⟩:=hl;obtain ⟨c1,c2,c3,c4⟩:=ol;simp only at hcl hdl;subst hcl;subst hdl;have hol2:(st.heap.push (gF ww)).get? l=some { cls:=.type "list", dict:=c2,data:=.seq its nl,slots:=c4 }:=Ia _ hol;have hsls:=F.sub_list_set;have hslf:=F.sub_list_frozenset;have hne:(Value.type "list" == Value.type "dict")=false:=by decide
    have hl1:(st.heap.push (gF ww)).IsList l its:=⟨_,hol2,rfl,nl,rfl⟩;unfold Builtin.«set.__init__» noKeywords Builtin.Frozenset.updateFrom
    generalize hPI:pyIter=PI
    wp_walk
    subst hPI;refine KP hl1 ?_;refine H9 (wpAny_runValue ?_);have hlS:l < st.heap.objs.size:=Ij hol;have hh3:AA.in1.in1.in1.handled=none:=by simp [hh]
    have sz1:(st.heap.push (gF ww)).objs.size=st.heap.objs.size+1:=Jv ..;have hneI:l≠(st.heap.push (gF ww)).objs.size:=by rw [sz1];exact Iz (J3 hlS)
    have hSf:st.heap.objs.size ∉ [(st.heap.push (gF ww)).objs.size,l]:=by
     rw [sz1];simp only [Iq,Ii,Ja,JK,not_or];exact ⟨Iz (JV _),Ju hlS⟩
    have hval:∀ (i:Nat) (v:Value),its[i]?=some v->∃ t,v=.str ((fun i=>ss.getD i Str.empty) i) t:=fun i v hv=>sO hi i v (by rw [J2];exact hv);have hmet:uQ (fun i=>ss.getD i Str.empty) its.size=ss.foldl kX []:=by
     have e1:its.size=ss.length:=by rw [<- bU hi,Jn]
     rw [e1];unfold uQ;rw [map_getD]
    refine Fp ((Walks.list hh3 _ l hneI its).toS) st.heap.objs.size hSf (fun i=>ss.getD i Str.empty) hval hb (its.size - 0) 0 _ (by omega) (JD _)
     ⟨⟨_,Im _ rfl,rfl,rfl⟩,(hl1.push _)⟩ (yb (Ia _ hS)) ?hR
    intro s' hm hS';rw [hmet] at hS';obtain ⟨h',g',d',tk',os'⟩:=s';have eg:g'=st.gens:=hm.gens;have ed:d'=st.drawn:=hm.drawn;have eo:os'=st.os:=hm.os;subst eg;subst ed;subst eo;show wpAny _ _ _ _ _ _;refine Ib ?_;show wpAny _ _ (ret Value.none) _ _ _;refine Ib ⟨rfl,h',tk',rfl,hS',fun b o hb e=>?_⟩;have hb1:b≠st.heap.objs.size:=Iz hb;have hb2:b≠(st.heap.push (gF ww)).objs.size:=by rw [sz1];exact Iz (J3 hb)
    exact hm.heap b o (by simp only [Iq,Ii,Ja,JK,not_or];exact ⟨hb1,hb2⟩) (Ia _ (Ia _ e))
   ·cases r2 with
    | error e=>exact hr2
    | ok fl2 =>
     cases fl2 with
     | ret r =>
      obtain ⟨rfl,h',tk,rfl,hS',hk'⟩:=hr2
      repeat (any_goals (first | assumption | wp_step))
      exact h _ _ hS' hk'
     | _=>exact hr2.elim
  | _=>exact hr.elim
end
open PySem PySem.Spec PyProof.Rows
namespace SF
theorem e7:Slot "set_iterator" "__next__" "set_iterator.__next__" :=
 .of (owner := "set_iterator") (n := "__next__") (by rw [Kw,J1];kernel_rfl) (by decide +kernel) (by decide +kernel) (by decide +kernel) (by first | exact .inl (by decide +kernel) | exact .inr (by decide +kernel)) (by rw [isSubtype_type];kernel_rfl)
theorem sx:entryFor table "set_iterator.__next__" = some Builtin.«set_iterator.__next__»:=entryFor_of_tree (by kernel_rfl)
theorem qY (v:Value):argsOk "set_iterator.__next__" ⟨[v],[]⟩:=by kernel_rfl
theorem xJ:entryFor table "set.__iter__" = some Builtin.«frozenset.__iter__»:=entryFor_alias (id' := "frozenset.__iter__") (by kernel_rfl) rfl (by decide +kernel) (by kernel_rfl)
theorem xp:typeLookup (.type "set") "__len__" = pure (some (.builtin "set.__len__")):=by rw [Kw,J1];kernel_rfl
end SF
theorem D4 {M:Model} {AA:Around} {EE:Value->Shared->Prop} {st:Shared} {src:Source} {n:Nat} {Q:Nat->Shared->Prop} (hn:n≠0) (h:∀ k d',k < n->Q k { st with drawn:=d' }):wpAny M AA (choose src n) Q EE st:=fun _ _ _=>by
 unfold choose;exact ⟨hn,h _ _ (Nat.mod_lt _ (Nat.pos_of_ne_zero hn))⟩
theorem fS {α:Type}:∀ (xs:List α) (i:Nat) (h:i < xs.length),(xs[i] :: xs.eraseIdx i).Perm xs
 | x :: xs,0,h=>by simp
 | x :: xs,i+1,h=>by
  have ih:=fS xs i (by simpa using h);simp only [List.getElem_cons_succ,List.eraseIdx_cons_succ];exact (List.Perm.swap _ _ _).trans (ih.cons x)
theorem rW {α:Type} {M:Model} {AA:Around} {EE:Value->Shared->Prop}:∀ (n:Nat) (xs:List α) {st:Shared} {Q:List α->Shared->Prop},xs.length=n->(∀ ys d',ys.Perm xs->Q ys { st with drawn:=d' })->wpAny M AA (drawOrder n xs) Q EE st
 | 0,xs,st,Q,hn,h=>by
  obtain rfl:xs=[]:=K2.mp hn;unfold drawOrder;have q:=h [] st.drawn .nil;cases st;exact Ib q
 | n+1,[],st,Q,hn,h=>by simp at hn
 | n+1,x :: xs,st,Q,hn,h=>by
  unfold drawOrder;refine H9 (D4 (by simp) fun k d' hk=>?_);have hk':(x :: xs)[k]?=some (x :: xs)[k]:=Ie hk;rw [hk'];dsimp only;refine H9 (rW n _ (by rw [List.length_eraseIdx_of_lt hk,hn];rfl) fun ys d2 hp=>?_);refine Ib (h _ d2 ?_);exact (hp.cons _).trans (fS _ _ hk)
theorem rN {α:Type} (nx:Nat->Nat):∀ (f k:Nat) (left:List α) (out:Array α),left.length=f->(pickOrder.go nx f k left out).toList.Perm (out.toList++left)
 | 0,k,left,out,h=>by
  obtain rfl:left=[]:=K2.mp h;unfold pickOrder.go;simp
 | f+1,k,left,out,h=>by
  unfold pickOrder.go;have hlt:nx k % left.length < left.length:=Nat.mod_lt _ (by omega);rw [Ie hlt];dsimp only;refine (rN nx f (k+1) _ _ (by rw [List.length_eraseIdx_of_lt hlt,h];rfl)).trans ?_;rw [Km,KU];exact (fS _ _ hlt).append_left _
theorem qB {α:Type} (nx:Nat->Nat) (xs:Array α):(pickOrder nx xs).toList.Perm xs.toList:=by
 unfold pickOrder;have:=rN nx xs.size 0 xs.toList #[] (by simp);simpa using this
theorem wk (j:Nat):SetTable.below #[j] 0=0/\SetTable.below #[j] (j+1)=1:=by
 unfold SetTable.below;constructor
 ·show SetTable.below.go #[j] 0 1 0 1=0;simp [SetTable.below.go]
 ·show SetTable.below.go #[j] (j+1) 1 0 1=1;simp [SetTable.below.go]
abbrev CB (f0:Value) (i:Nat) (d:Value) (n ep:Nat):Obj:={ cls:=.type "set_iterator", dict:=none,data:=.fields #[f0,.int i 0,d,.int n 0,.int ep 0],slots:=#[] }
def Way (ww:World) (h:Heap) (d:Addr) (es:Array (Int×Value)) (ep:Nat) (tb:SetTable) (vs:List Value) (T:Addr) (f0:Value) (i:Nat):Prop :=
 (gL ww=true/\f0=.int 0 0/\vs=(pickOrder (ww.params.setOrder d ep) es).toList.map (·.2)) \/
 (gL ww=false/\(!tb.plain&&decide (es.size > 1))=true/\∃ ps:List Nat,f0=.ref T/\h.get? T=some { cls:=.type "tuple", data:=.seq (ps.map fun (k:Nat)=>rawInt k).toArray }/\(∀ p∈ps,p < es.size)/\vs=ps.map fun p=>(es.getD p (0,.none)).2) \/
 (gL ww=false/\es.size<=1/\tb.led=true/\(∃ k:Nat,f0=.int k 0/\SetTable.below tb.place k=i)/\vs=es.toList.map (·.2))
section
variable {pr:Program} {ww:World} {AA:Around} {EE:Value->Shared->Prop} {st:Shared}
theorem sbt {Q:Bool->Shared->Prop} (h:Q (gL ww) st):wpAny (model pr ww) AA setsByText Q EE st:=by
 unfold setsByText;exact H9 (wpAny_askSetting (Ib h))
theorem snA {d:Addr} {ob:Obj} {es:Array (Int×Value)} {ep sl g:Nat} {tb:SetTable} {Q:Option (Value×Nat)->Shared->Prop} (hd:st.heap.get? d=some ob) (hdd:ob.data=.set es ep tb) (hf:tb.fits es.size=true) (hb:gL ww=true)
  (h:Q (((pickOrder (ww.params.setOrder d ep) es)[g]?).map fun e=>(e.2,sl)) st):wpAny (model pr ww) AA (setNext d sl g ep) Q EE st:=by
 unfold setNext;refine H9 (Ki hd hdd hf ?_);dsimp only;refine H9 (sbt ?_);rw [hb,Iy rfl,ID (by simp)];unfold setWalk;refine H9 (H9 (Ki hd hdd hf ?_));dsimp only;refine H9 (sbt ?_);rw [hb,Iy rfl];refine H9 (wpAny_askSetting (Ib ?_));exact Ib h
theorem snC {d:Addr} {ob:Obj} {es:Array (Int×Value)} {ep sl g:Nat} {tb:SetTable} {Q:Option (Value×Nat)->Shared->Prop} (hd:st.heap.get? d=some ob) (hdd:ob.data=.set es ep tb) (hf:tb.fits es.size=true) (hb:gL ww=false) (h1:es.size<=1) (hl:tb.led=true)
  (h:Q (match es[SetTable.below tb.place sl]?,tb.place[SetTable.below tb.place sl]? with | some (_,x),some j=>some (x,j+1) | _,_=>none) st):wpAny (model pr ww) AA (setNext d sl g ep) Q EE st:=by
 unfold setNext;refine H9 (Ki hd hdd hf ?_);dsimp only;refine H9 (sbt ?_);rw [hb,ID (by simp)];show wpAny _ _ (if (!tb.plain&&decide (es.size > 1))=true then _ else _) _ _ _;rw [ID (by have:decide (es.size > 1)=false:=IX (by omega);rw [this,KL];simp)];refine H9 ?_;show wpAny _ _ (if (!tb.led&&!es.isEmpty)=true then _ else _) _ _ _;rw [hl,ID (by simp)];refine Ib ?_;exact Ib h
theorem snB {d:Addr} {ob:Obj} {es:Array (Int×Value)} {ep p:Nat} {tb:SetTable} {Q:Value->Shared->Prop} {e:Int×Value} (hd:st.heap.get? d=some ob) (hdd:ob.data=.set es ep tb) (hf:tb.fits es.size=true) (he:es[p]?=some e)
  (h:Q e.2 st):wpAny (model pr ww) AA (setNextDrawn d p ep) Q EE st:=by
 unfold setNextDrawn;refine H9 (Ki hd hdd hf ?_);dsimp only;rw [ID (by simp),he];exact Ib h
theorem zX {IT d T:Addr} {f0:Value} {i ep:Nat} {es:Array (Int×Value)} {tb:SetTable} {ob:Obj} {vs:List Value} {Q:Option Value->Shared->Prop}
  (hit:st.heap.get? IT=some (CB f0 i (.ref d) es.size ep)) (hd:st.heap.get? d=some ob) (hdd:ob.data=.set es ep tb) (hf:tb.fits es.size=true) (hw:Way ww st.heap d es ep tb vs T f0 i) {v:Value} (hv:vs[i]?=some v)
  (h:∀ f1 h',h'.get? IT=some (CB f1 (i+1) (.ref d) es.size ep)->Heap.SameBut IT st.heap h'->Way ww h' d es ep tb vs T f1 (i+1)->Q (some v) { st with heap:=h' }) :
  wpAny (model pr ww) AA (pyNext (.ref IT)) Q EE st:=by
 have hT:st.TypeIs (.ref IT) "set_iterator" := ⟨_,hit,rfl⟩;unfold pyNext;refine H9 (KY (Jb (name:=Str.ofString "__next__") hT SF.e7 (Jf SF.e7 hT SF.sx ?_ (SF.qY _))));unfold Builtin.«set_iterator.__next__»
 refine H9 (m:=slotArgs "__next__" 0 ⟨[.ref IT],[]⟩) (Ib ?_);dsimp only;refine H9 (KD hit rfl ?_);dsimp only;refine H9 (wpAny_setEntries_of hd hdd hf ?_);rw [ID (by simp)];simp only [IS];rcases hw with ⟨hb,rfl,rfl⟩ | ⟨hb,hdr,ps,rfl,hTo,hps,rfl⟩ | ⟨hb,h1,hl,⟨k,rfl,hk⟩,rfl⟩
 ·dsimp only;refine H9 (snA hd hdd hf hb ?_);rw [Ik,J2] at hv;obtain ⟨e,he,rfl⟩:=IK.mp hv;rw [he];dsimp only [Option.map_some];refine H9 (Jt hit (by simp) fun h1 g1 s1=>?_);refine H9 (Jt g1 (by simp) fun h2 g2 s2=>?_);refine Ib ⟨_,rfl,Ib (h (.int 0 0) h2 ?_ (s1.trans s2) (.inl ⟨hb,rfl,rfl⟩))⟩;exact g2
 ·dsimp only;refine H9 (wpAny_seqItems hTo rfl ?_);dsimp only;rw [Ik] at hv;obtain ⟨p,hp,hpv⟩:=IK.mp hv;have hpl:p < es.size:=hps p (IF hp);have e1:((ps.map fun (k:Nat)=>rawInt k).toArray)[i]?=some (.int p 0):=by
   rw [Kp,Ik,hp];rfl
  rw [e1];dsimp only;have e2:es[p]?=some (es.getD p (0,.none)):=by
   rw [Array.getD_eq_getD_getElem?,Jk hpl];rfl
  refine H9 (snB (p:=(p:Int).toNat) hd hdd hf (by rw [IS];exact e2) ?_);refine H9 (Jt hit (by simp) fun h1 g1 s1=>?_);have hne:T≠IT:=fun z=>by rw [z,hit] at hTo;exact absurd (congrArg Obj.cls (Jm hTo)) (show ¬(Value.type "set_iterator" = Value.type "tuple") from by decide)
  rw [hpv];exact Ib ⟨_,rfl,Ib (h (.ref T) h1 g1 s1 (.inr (.inl ⟨hb,hdr,ps,rfl,by rw [s1.2 T hne];exact hTo,hps,rfl⟩)))⟩
 ·dsimp only;refine H9 (snC (sl:=(k:Int).toNat) hd hdd hf hb h1 hl ?_);rw [Ik,J2] at hv;obtain ⟨e,he,rfl⟩:=IK.mp hv;have hi:i < es.size:=by
   rcases Kj i es.size with z | z
   ·exact z
   ·rw [K6 z] at he;cases he
  obtain rfl:i=0:=by omega
  have hpl:tb.place.size=es.size:=by
   simp only [SetTable.fits,IV,KH] at hf;exact hf.1
  obtain ⟨j,hj⟩:∃ j,tb.place=#[j]:=by
   have:tb.place.size=1:=by omega
   exact Array.size_eq_one_iff.mp this
  rw [IS,hk,he,hj];obtain ⟨hs,x⟩:=e;refine H9 (Jt hit (by simp) fun h1 g1 s1=>?_);refine H9 (Jt g1 (by simp) fun h2 g2 s2=>?_);exact Ib ⟨_,rfl,Ib (h (.int ((j+1:Nat):Int) 0) h2 g2 (s1.trans s2) (.inr (.inr ⟨hb,by assumption,hl,⟨j+1,rfl,by rw [hj];exact (wk j).2⟩,rfl⟩)))⟩
theorem sZ {Q:Option Value->Shared->Prop} {IT:Addr} (hh:AA.handled=none) (h:∀ h',Heap.ExtBut IT st.heap h'->Q none { st with heap:=h' }) :
  wpAny (model pr ww) AA.in1 (do
     let z<-newExc (Value.type "StopIteration") []
     raiseNew z:Sem Fin)
  (fun fin s'=>∃ v,fin=Fin.done (Flow.ret v)/\wpAny (model pr ww) AA (pure (some v)) Q EE s')
  (fun e s' =>
   wpAny (model pr ww) AA
    (do
     let z<-isInstance e (Value.type "StopIteration")
     if z=true then pure none else throw e)
    Q EE s')
  st:=by
 refine H9 ?_;simp only [newExc,newTuple];refine H9 (Jg ?_ (by size_fits));refine H9 (m:=firstArgMember _ _) (wpAny_of_eq (a:=Value.none) (by first | rfl | (simp only [firstArgMember];rfl)) ?_);refine Jg ?_ (by size_fits);simp only [raiseNew];refine H9 (wpAny_handled ?_);rw [show AA.in1.handled=none from hh];refine H9 (Ib (wpAny_throw ?_));refine H9 (KZ (T := "StopIteration") (b:=true) ⟨_,Im _ rfl,rfl⟩ isSubtype_stop ?_);rw [Iy rfl];exact Ib (h _ fun b o _ e=>Ia _ (Ia _ e))
theorem Dy {IT d T:Addr} {f0:Value} {i ep:Nat} {es:Array (Int×Value)} {tb:SetTable} {ob:Obj} {vs:List Value} {Q:Option Value->Shared->Prop} (hh:AA.handled=none)
  (hit:st.heap.get? IT=some (CB f0 i (.ref d) es.size ep)) (hd:st.heap.get? d=some ob) (hdd:ob.data=.set es ep tb) (hf:tb.fits es.size=true) (hw:Way ww st.heap d es ep tb vs T f0 i) (hv:vs[i]?=none)
  (h:∀ h',Heap.ExtBut IT st.heap h'->Q none { st with heap:=h' }) :
  wpAny (model pr ww) AA (pyNext (.ref IT)) Q EE st:=by
 have hT:st.TypeIs (.ref IT) "set_iterator" := ⟨_,hit,rfl⟩;unfold pyNext;refine H9 (KY (Jb (name:=Str.ofString "__next__") hT SF.e7 (Jf SF.e7 hT SF.sx ?_ (SF.qY _))));unfold Builtin.«set_iterator.__next__»
 refine H9 (m:=slotArgs "__next__" 0 ⟨[.ref IT],[]⟩) (Ib ?_);dsimp only;refine H9 (KD hit rfl ?_);dsimp only;refine H9 (wpAny_setEntries_of hd hdd hf ?_);rw [ID (by simp)];simp only [IS];have fin:∀ h1,Heap.SameBut IT st.heap h1->∀ h',Heap.ExtBut IT h1 h'->Q none { st with heap:=h' }:=fun h1 s1 h' x=>h h' fun b o hb e=>x b o hb (by rw [s1.2 b hb];exact e);rcases hw with ⟨hb,rfl,rfl⟩ | ⟨hb,hdr,ps,rfl,hTo,hps,rfl⟩ | ⟨hb,h1,hl,⟨k,rfl,hk⟩,rfl⟩
 ·dsimp only;refine H9 (snA hd hdd hf hb ?_);rw [Ik,J2] at hv;rw [K5.mp hv];dsimp only [Option.map_none];refine H9 (Jt hit (by simp) fun h1 g1 s1=>?_);exact sZ (IT:=IT) (st:={ st with heap:=h1 }) hh (fin h1 s1)
 ·dsimp only;refine H9 (wpAny_seqItems hTo rfl ?_);dsimp only;rw [Ik] at hv;have e1:((ps.map fun (k:Nat)=>rawInt k).toArray)[i]?=none:=by
   rw [Kp,Ik,K5.mp hv];rfl
  rw [e1];dsimp only;refine H9 (Jt hit (by simp) fun h1 g1 s1=>?_);refine H9 (Jt g1 (by simp) fun h2 g2 s2=>?_);exact sZ (IT:=IT) (st:={ st with heap:=h2 }) hh (fin h2 (s1.trans s2))
 ·dsimp only;refine H9 (snC (sl:=(k:Int).toNat) hd hdd hf hb h1 hl ?_);rw [Ik,J2] at hv;have hv:=K5.mp hv;rw [IS,hk,hv];refine H9 (Jt hit (by simp) fun h1 g1 s1=>?_);exact sZ (IT:=IT) (st:={ st with heap:=h1 }) hh (fin h1 s1)
end
open PySem PySem.Spec PyProof.Rows
namespace SF
theorem wQ:Slot "set_iterator" "__iter__" "set_iterator.__iter__" :=
 .of (owner := "set_iterator") (n := "__iter__") (by rw [Kw,J1];kernel_rfl) (by decide +kernel) (by decide +kernel) (by decide +kernel) (by first | exact .inl (by decide +kernel) | exact .inr (by decide +kernel)) (by rw [isSubtype_type];kernel_rfl)
theorem BZ:entryFor table "set_iterator.__iter__" = some Builtin.«dict_keyiterator.__iter__»:=entryFor_alias (id' := "dict_keyiterator.__iter__") (by kernel_rfl) rfl (by decide +kernel) (by kernel_rfl)
theorem By (v:Value):argsOk "set_iterator.__iter__" ⟨[v],[]⟩:=by kernel_rfl
end SF
section
variable {pr:Program} {ww:World} {AA:Around} {EE:Value->Shared->Prop} {st:Shared}
theorem Way.frame {h h':Heap} {d T:Addr} {es:Array (Int×Value)} {ep i:Nat} {tb:SetTable} {vs:List Value} {f0:Value} (w:Way ww h d es ep tb vs T f0 i) (k:∀ o,h.get? T=some o->h'.get? T=some o):Way ww h' d es ep tb vs T f0 i:=by
 rcases w with w | ⟨hb,hdr,ps,e,hTo,r⟩ | w
 ·exact .inl w
 ·exact .inr (.inl ⟨hb,hdr,ps,e,k _ hTo,r⟩)
 ·exact .inr (.inr w)
theorem Ct (hh:AA.handled=none) (IT d T:Addr) (h1:d≠IT) (h2:T≠IT) {es:Array (Int×Value)} {ep:Nat} {tb:SetTable} {ob:Obj} (hdd:ob.data=.set es ep tb) (hf:tb.fits es.size=true) (vs:List Value) :
  WalksS pr ww AA IT [IT,d,T] [IT] (fun a b=>b=a) vs.length (fun i v=>vs[i]?=some v) (fun i s=>∃ f0,s.heap.get? IT=some (CB f0 i (.ref d) es.size ep)/\s.heap.get? d=some ob/\Way ww s.heap d es ep tb vs T f0 i) where
 sub:=fun b hb=>by simp at hb;simp [hb]
 grefl:=fun _=>rfl
 gtrans:=fun _ _ _ x y=>y.trans x
 frame:=fun i s h' tk st _ k=>by
  obtain ⟨f0,a,b,c⟩:=st;exact ⟨f0,k IT (by simp) _ a,k d (by simp) _ b,c.frame (k T (by simp))⟩
 item:=fun i s Q E hi st hQ=>by
  obtain ⟨f0,a,b,c⟩:=st;refine zX a b hdd hf c (v:=vs[i]) (Ie hi) fun f1 h' g1 s1 w1=>?_;exact hQ _ _ (Ie hi) ⟨f1,g1,by show h'.get? d=_;rw [s1.2 d h1];exact b,w1⟩ ⟨fun b' o hb e=>by show h'.get? b'=_;rw [s1.2 b' (fun z=>hb (by simp [z]))];exact e,rfl,rfl,rfl,Il _⟩
 done:=fun s Q E st hQ=>by
  obtain ⟨f0,a,b,c⟩:=st;refine Dy hh a b hdd hf c (La (Il _)) fun h' x=>?_;exact hQ _ ⟨fun b' o hb e=>x b' o (fun z=>hb (by simp [z])) e,rfl,rfl,rfl,Il _⟩
 self:=fun i s Q E st hQ=>by
  obtain ⟨f0,a,b,c⟩:=st;have hT:s.TypeIs (.ref IT) "set_iterator" := ⟨_,a,rfl⟩;refine wpAny_pyIter_slot hT SF.wQ (Jf SF.wQ hT SF.BZ ?_ (SF.By _));show wpAny _ _ (ret (.ref IT)) _ _ s;exact Ib ⟨_,rfl, "set_iterator", _,hT,SF.e7.lookup,hQ⟩
theorem range_getD (es:Array (Int×Value)):(List.range es.size).map (fun p=>(es.getD p (0,.none)).2)=es.toList.map (·.2):=by
 apply List.ext_getElem
 ·simp
 ·intro i h1 h2;have h3:i < es.size:=by simpa using h1
  simp [h3]
theorem CV {d:Addr} {es:Array (Int×Value)} {ep:Nat} {tb:SetTable} {ob:Obj} {Q:Value->Shared->Prop} (hd:st.heap.get? d=some ob) (hc:ob.ExactSet) (hdd:ob.data=.set es ep tb) (ht:C9 ww tb es.size) (hsz:es.size < scanBound)
  (h:∀ vs f0 T IT h' d',vs.Perm (es.toList.map (·.2))->h'.get? IT=some (CB f0 0 (.ref d) es.size ep)->Way ww h' d es ep tb vs T f0 0->st.heap.objs.size<=IT->T≠IT->(T=d\/st.heap.objs.size<=T)->(∀ b o,st.heap.get? b=some o->h'.get? b=some o)->Q (.ref IT) { st with heap:=h',drawn:=d' }) :
  wpAny (model pr ww) AA (pyIter (.ref d)) Q EE st:=by
 have hT:st.TypeIs (.ref d) "set" := ⟨_,hd,hc.1⟩;have hlt:d < st.heap.objs.size:=Ij hd;refine wpAny_pyIter_slot hT F.slot_set_iter (Jf F.slot_set_iter hT SF.xJ ?_ (F.args_set_iter_1 _));unfold Builtin.«frozenset.__iter__» Builtin.Frozenset.slot0 Builtin.Frozenset.sizeOf
 refine H9 (H9 (m:=slotArgs "__iter__" 0 ⟨[.ref d],[]⟩) (Ib (Ib ?_)));refine H9 (H9 (wpAny_setEntries_of hd hdd ht.fit (Ib ?_)));unfold setDrawn;refine H9 (H9 (Ki hd hdd ht.fit ?_));dsimp only;refine H9 (sbt (Ib ?_));show wpAny _ _ (if (!gL ww&&(!tb.plain&&decide (es.size > 1)))=true then _ else _) _ _ _;have hpl:tb.place.size=es.size:=by
  have hf:=ht.fit;simp only [SetTable.fits,IV,KH] at hf;exact hf.1
 split
 ·rename_i hdr;simp only [IV,Bool.not_eq_true'] at hdr;obtain ⟨hb,hdr⟩:=hdr;refine H9 (rW es.size (List.range es.size) (by simp) fun ps d' hps=>?_);have hpsl:ps.length=es.size:=by rw [hps.length_eq,JR]
  refine H9 (wpAny_newTuple ?_ (by rw [Ic,hpsl];exact fits_of_scanBound hsz));have g0:(st.heap.push { cls:=.type "tuple", data:=.seq (ps.map fun (k:Nat)=>rawInt k).toArray }).get? d=some ob:=Ia _ hd;refine H9 (wpAny_setEpoch_of (s:={ st with heap:=st.heap.push { cls:=.type "tuple", data:=.seq (ps.map fun (k:Nat)=>rawInt k).toArray },drawn:=d' }) g0 hdd ht.fit ?_);refine H9 (m:=newFields _ _) (Jg ?_ (by size_fits));have e1:(st.heap.push { cls:=.type "tuple", data:=.seq (ps.map fun (k:Nat)=>rawInt k).toArray }).objs.size=st.heap.objs.size+1:=Jv ..;have gT:(st.heap.push { cls:=.type "tuple", data:=.seq (ps.map fun (k:Nat)=>rawInt k).toArray }).get? st.heap.objs.size=some { cls:=.type "tuple", data:=.seq (ps.map fun (k:Nat)=>rawInt k).toArray }:=Im _ rfl;refine Ib ⟨_,rfl, "set_iterator", _,⟨_,Im _ rfl,rfl⟩,SF.e7.lookup,?_⟩;refine h (ps.map fun p=>(es.getD p (0,.none)).2) (.ref st.heap.objs.size) st.heap.objs.size _ _ d' ?_ (Im _ rfl) (.inr (.inl ⟨hb,by rw [IV,Bool.not_eq_true'];exact hdr,ps,rfl,Ia _ gT,fun p hp=>by have:=hps.mem_iff.mp hp;simpa using this,rfl⟩)) ?_ ?_ (.inr (Il _)) fun b o e=>Ia _ (Ia _ e)
  ·rw [<- range_getD];exact hps.map _
  ·show st.heap.objs.size<=(st.heap.push _).objs.size;rw [e1];exact Nat.le_succ _
  ·show st.heap.objs.size≠(st.heap.push _).objs.size;rw [e1];exact Iz (JV _)
 ·rename_i hdr;refine H9 (Ib ?_);refine H9 (wpAny_setEpoch_of hd hdd ht.fit ?_);refine H9 (m:=newFields _ _) (Jg ?_ (by size_fits));refine Ib ⟨_,rfl, "set_iterator", _,⟨_,Im _ rfl,rfl⟩,SF.e7.lookup,?_⟩;have fin:∀ vs:List Value,vs.Perm (es.toList.map (·.2))->(gL ww=true/\vs=(pickOrder (ww.params.setOrder d ep) es).toList.map (·.2)\/gL ww=false/\es.size<=1/\vs=es.toList.map (·.2))->Q (.ref st.heap.objs.size) { st with heap:=st.heap.push { cls:=.type "set_iterator", data:=.fields #[rawInt 0,rawInt 0,.ref d,rawInt es.size,rawInt ep] } }:=by
   intro vs pm cs;refine h vs (.int 0 0) d _ _ st.drawn pm (Im _ rfl) ?_ (Il _) (Iz hlt) (.inl rfl) fun b o e=>Ia _ e;rcases cs with ⟨hb,rfl⟩ | ⟨hb,h1,rfl⟩
   ·exact .inl ⟨hb,rfl,rfl⟩
   ·refine .inr (.inr ⟨hb,h1,by rw [ht.led,hb];rfl,⟨0,rfl,?_⟩,rfl⟩);rcases Kj 0 es.size with z | z
    ·obtain ⟨j,hj⟩:∃ j,tb.place=#[j]:=Array.size_eq_one_iff.mp (by omega);rw [hj];exact (wk j).1
    ·have:tb.place=#[]:=Array.size_eq_zero_iff.mp (by omega);rw [this];rfl
  cases hb:gL ww with
  | true=>exact fin _ ((qB _ es).map _) (.inl ⟨hb,rfl⟩)
  | false =>
   refine fin _ (List.Perm.refl _) (.inr ⟨hb,?_,rfl⟩);rcases Kj 1 es.size with z | z
   ·have hp:=ht.pln (by omega);rw [hb,hp,Jh z] at hdr;exact absurd rfl hdr
   ·exact z
theorem AX {d:Addr} {ss:List Str} {Q:List Value->Shared->Prop} (hh:AA.handled=none) (hS:de pr ww st.heap d ss)
  (h:∀ vs ss' h' d' tk,StrsAre vs ss'->ss'.Perm ss->st.heap.objs.size<=h'.objs.size->(∀ b o,st.heap.get? b=some o->h'.get? b=some o)->Q vs { st with heap:=h',drawn:=d',toks:=tk }) :
  wpAny (model pr ww) AA (collect (.ref d)) Q EE st:=by
 obtain ⟨ob,es,ep,tb,ho,hx,hdd,he,⟨zs,hz1,hz2⟩,hb,ht⟩:=hS;unfold collect;refine H9 (wpAny_runValue (Jw F.entry_proto_collect ?_));rw [Jq F.plain_proto_collect _];show wpAny _ AA.in1 (newList []>>=fun l=>again (.builtin "list.__iadd__" ⟨[l,.ref d],[]⟩)) _ _ st;refine H9 (Jg ?_);refine Ib ⟨J0 F.plain_list_iadd _,Jw F.entry_list_iadd ?_⟩;rw [Jq F.plain_list_iadd _];have hlt:d < st.heap.objs.size:=Ij ho;have ne:st.heap.objs.size≠d:=Ju hlt;have g1:(st.heap.push { cls:=.type "list", data:=.seq ([]:List Value).toArray }).get? d=some ob:=Ia _ ho;have g2:(st.heap.push { cls:=.type "list", data:=.seq ([]:List Value).toArray }).get? st.heap.objs.size=some { cls:=.type "list", data:=.seq ([]:List Value).toArray }:=Im _ rfl;have e1:(st.heap.push { cls:=.type "list", data:=.seq ([]:List Value).toArray }).objs.size=st.heap.objs.size+1:=Jv ..;have sr:Builtin.List.listSameRef (.ref st.heap.objs.size) (.ref d)=false:=by simp [Builtin.List.listSameRef,ne]
 show wpAny _ AA.in1 (Builtin.List.listExtendWith (.ref st.heap.objs.size) (.ref d) (.ref st.heap.objs.size)) _ _ _;unfold Builtin.List.listExtendWith;have hT:∀ (s:Shared),s.heap.get? d=some ob->s.TypeIs (.ref d) "set" := fun s z=>⟨_,z,hx.1⟩;refine H9 (Kh (hT _ g1) ?_);rw [ID (by rw [sr];decide)];refine H9 (CV (st:={ st with heap:=st.heap.push { cls:=.type "list", data:=.seq ([]:List Value).toArray } }) g1 hx hdd ht hb fun vs f0 T IT h' d' pm gI wy lI nT lT kp=>?_);refine H9 (Jj ?_);unfold Builtin.List.listLengthHint;refine H9 (Kb (hT _ (kp _ _ g1)) SF.xp ?_)
 (generalize hid:("set.__len__" : String)=id0;(fail_if_success (clear hid id0));wp_delta;rw [show splitId id0=some ("set", "__len__") from by subst hid;decide +kernel];subst hid)
 refine H9 (KZ (b:=true) (hT _ (kp _ _ g1)) sub_set_self ?_);show wpAny _ _ (typeOf (.ref d)>>=_) _ _ _;refine H9 (Kh (hT _ (kp _ _ g1)) ?_);refine Ib ?_;show wpAny _ AA.in1 (rule "list.extend.makes-room" >>= fun _=>Builtin.List.listTouch (.ref st.heap.objs.size)>>=fun _=>again (.builtin "list.extend.loop" ⟨[.ref st.heap.objs.size,.ref IT,.ref st.heap.objs.size],[]⟩)) _ _ _;refine H9 (JJ ?_);have g3:h'.get? st.heap.objs.size=some { cls:=.type "list", data:=.seq ([]:List Value).toArray }:=kp _ _ g2;refine H9 ?_;show wpAny _ AA.in1 (updateSeq st.heap.objs.size (·.push .none)>>=fun _=>updateSeq st.heap.objs.size (·.pop)) _ _ _;refine H9 (Kv g3 rfl ?_);have g4:=IG (Obj.mapSeq (·.push Value.none)) g3 rfl;refine Kv g4 rfl ?_;have g5:=IG (Obj.mapSeq (·.pop)) g4 rfl;have oth:∀ b o,b≠st.heap.objs.size->h'.get? b=some o->((h'.update st.heap.objs.size (Obj.mapSeq (·.push Value.none))).update st.heap.objs.size (Obj.mapSeq (·.pop))).get? b=some o :=
  fun b o hb e=>(Kl _ _ (Ne.symm hb)).trans ((Kl _ _ (Ne.symm hb)).trans e)
 have lI:st.heap.objs.size+1<=IT:=by rw [<- e1];exact lI
 have nI:IT≠st.heap.objs.size:=Ju lI;have nT2:T≠st.heap.objs.size:=by
  rcases lT with z | z
  ·rw [z];exact Ne.symm ne
  ·have z:st.heap.objs.size+1<=T:=by rw [<- e1];exact z
   exact Ju z
 have nd:d≠IT:=Iz (Ir (J3 hlt) lI);have hh2:AA.in1.handled=none:=hh;have hsl:vs.length<=sizeLine:=by
  rw [pm.length_eq,Ic,Jn];exact fits_of_scanBound hb
 refine Ib ⟨J0 J7 _,codeAny_extend_loopS (Ct hh2 IT d T nd nT hdd ht.fit vs) hsl st.heap.objs.size (by simp [ne,Ne.symm nI,Ne.symm nT2]) _ vs.length 0 _ _ _ rfl (JD _)
  ⟨f0,oth _ _ nI gI,oth _ _ (Ne.symm ne) (kp _ _ g1),wy.frame fun o e=>oth _ _ nT2 e⟩ g5 (ItemsOf.nil _) fun s' acc' c' hm hS' hacc=>?_⟩
 show wpAny _ AA (load st.heap.objs.size>>=_) _ _ s';refine H9 (wpAny_load hS' ?_);have eacc:acc'.toList=vs:=by
  apply List.ext_getElem?;intro j;rw [J2];rcases Kj j acc'.size with z | z
  ·rw [Jk z];exact (hacc.2 j _ (Jk z)).symm
  ·rw [K6 z];exact (La (by rw [<- hacc.1];exact z)).symm
 refine Ib ?_;show Q acc'.toList s';rw [eacc];obtain ⟨ws,w1,w2⟩:=cG pm hz1;obtain ⟨h2,gn,dr,tk,os⟩:=s';have eg:gn=st.gens:=hm.gens;have ed:dr=d':=hm.drawn;have eo:os=st.os:=hm.os;subst eg;subst ed;subst eo;refine h vs ws h2 dr tk w1 (w2.trans hz2) (J6 (Ij hS')) fun b o e=>hm.heap b o ?_ (oth b o ?_ (kp _ _ (Ia _ e)))
 ·have hb:b < st.heap.objs.size:=Ij e;simp only [Iq,Ja,JK,not_or];exact ⟨Iz hb,Iz (Ir (J3 hb) lI)⟩
 ·exact Iz (Ij e)
end
open PySem PySem.Spec PyProof.Rows
noncomputable def leT (x y:Str):Bool:=!ltCps y.cps.toList x.cps.toList
theorem kh (x y:Str):leT x y=true↔x.cps.toList<=y.cps.toList:=by
 unfold leT;rw [ltCps_eq,Bool.not_eq_true',decide_eq_false_iff_not];exact List.not_lt
theorem k9 {x y z:Str} (h:leT x y=true) (h':leT y z=true):leT x z=true:=by
 rw [kh] at *;exact List.le_trans h h'
theorem ql (x y:Str):leT x y=true\/leT y x=true:=by
 rw [kh,kh];exact List.le_total _ _
theorem vy {x y:Str} (h:leT x y=true) (h':leT y x=true):x=y:=by
 rw [kh] at *;have:=List.le_antisymm h h';cases x;cases y;simp only [Str.mk.injEq];exact Array.toList_inj.mp this
noncomputable def wY (x:Str):List Str->List Str
 | []=>[x]
 | y :: r=>if leT x y=true then x :: y :: r else y :: wY x r
noncomputable def oa:List Str->List Str
 | []=>[]
 | x :: r=>wY x (oa r)
theorem iH (x:Str):∀ l:List Str,(wY x l).Perm (x :: l)
 | []=>List.Perm.refl _
 | y :: r=>by
  unfold wY;split
  ·exact List.Perm.refl _
  ·exact ((iH x r).cons y).trans (List.Perm.swap ..)
theorem dO:∀ l:List Str,(oa l).Perm l
 | []=>List.Perm.refl _
 | x :: r=>(iH x _).trans ((dO r).cons x)
theorem tX (x:Str):∀ l:List Str,l.Pairwise (fun a b=>leT a b=true)->(wY x l).Pairwise fun a b=>leT a b=true
 | [],_=>by simp [wY]
 | y :: r,h=>by
  obtain ⟨h1,h2⟩:=KI.mp h;unfold wY;split
  ·rename_i c;refine KI.mpr ⟨fun b hb=>?_,h⟩;rcases Iq.mp hb with rfl | hb
   ·exact c
   ·exact k9 c (h1 b hb)
  ·rename_i c;refine KI.mpr ⟨fun b hb=>?_,tX x r h2⟩;rcases Iq.mp ((iH x r).mem_iff.mp hb) with rfl | hb
   ·exact (ql b y).resolve_left c
   ·exact h1 b hb
theorem qK:∀ l:List Str,(oa l).Pairwise fun a b=>leT a b=true
 | []=>by simp [oa]
 | x :: r=>tX x _ (qK r)
theorem lM:∀ (p:Str) (l:List Str),risingS p l=true->(p :: l).Pairwise fun a b=>leT a b=true
 | p,[],_=>by simp
 | p,x :: r,h=>by
  have h:(!ltCps x.cps.toList p.cps.toList&&risingS x r)=true:=h;rw [IV] at h;have ih:=lM x r h.2;refine KI.mpr ⟨fun b hb=>?_,ih⟩;rcases Iq.mp hb with rfl | hb
  ·exact h.1
  ·exact k9 h.1 ((KI.mp ih).1 b hb)
theorem qm:∀ {l:List Str},sortedS l=true->l.Pairwise fun a b=>leT a b=true
 | [],_=>by simp
 | x :: r,h=>lM x r h
theorem sY {l l':List Str} (h:sortedS l=true) (p:l.Perm l'):l=oa l' :=
 List.Perm.eq_of_pairwise (fun _ _ _ _ a b=>vy a b) (qm h) (qK l') (p.trans (dO l').symm)
noncomputable def iS (ss:List Str):List Str:=ss.foldl kX []
theorem gj (x:Str):∀ (ss acc:List Str),x∈ss.foldl kX acc↔x∈acc\/x∈ss
 | [],acc=>by simp
 | y :: r,acc=>by
  rw [List.foldl_cons,gj x r];have:x∈kX acc y↔x∈acc\/x=y:=by
   unfold kX;split
   ·rename_i h;constructor
    ·exact .inl
    ·rintro (h' | rfl)
     ·exact h'
     ·exact h
   ·simp
  rw [this,Iq,or_assoc]
theorem uI {x:Str} {ss:List Str}:x∈iS ss↔x∈ss:=by
 unfold iS;rw [gj];simp
theorem gr:∀ (ss acc:List Str),(ss.foldl kX acc).length<=acc.length+ss.length
 | [],acc=>by simp
 | y :: r,acc=>by
  rw [List.foldl_cons];have:=gr r (kX acc y);have h:(kX acc y).length<=acc.length+1:=by
   unfold kX;split
   ·omega
   ·simp
  rw [IH];omega
theorem oE (ss:List Str):(iS ss).length<=ss.length:=by
 have:=gr ss [];unfold iS;simpa using this
section
variable {pr:Program} {ww:World} {AA:Around} {EE:Value->Shared->Prop} {st:Shared}
theorem zB {d:Addr} {ss:List Str} {Q:Value->Shared->Prop} (hh:AA.handled=none) (hS:de pr ww st.heap d ss) (h64:ss.length < 64)
  (h:∀ (out:List Value) h' d' tk p e,StrsAre out (oa ss)->(∀ b o,st.heap.get? b=some o->h'.get? b=some o)->st.heap.objs.size<=p->h'.get? p=some (seqObj "list" out.toArray e)->Q (.ref p) { st with heap:=h',drawn:=d',toks:=tk }) :
  wpAny (model pr ww) AA (call (.builtin "sorted") [.ref d]) Q EE st:=by
 refine Calls.call_function_entry kind_sorted plain_sorted entry_sorted (args_sorted1 _) ?_;unfold Builtin.«sorted»
 refine H9 (m:=checkCount "sorted" 1 1 _) (Ib ?_);refine H9 (AX hh hS fun vs ss' h1 d1 tk h2 h3 le h4=>?_);have hl:vs.length < 64:=by rw [bU h2,h3.length_eq];exact h64
 refine H9 (wpAny_newList ?_ (by rw [IQ];omega));have g1:(h1.push (seqObj "list" vs.toArray 0)).get? h1.objs.size=some (seqObj "list" vs.toArray 0):=Im _ rfl;refine H9 (Jj (Jf slot_list_sort ⟨_,g1,rfl⟩ entry_list_sort (list_sort_treeK strKind_oneLt g1 h2.keysOf (fun v1 v2 rest e=>keyKind_strs (by rw [<- e];exact h2)) hl fun st' a1 a2=>⟨_,rfl,?_⟩) (args_list_sort _)));obtain ⟨zs,z1,z2,z3⟩:=sorted_out_str h2 a1 a2;have ez:zs=oa ss:=sY z3 (z2.trans h3);rw [ez] at z1;obtain ⟨e,he⟩:=sortedHeap_at (out:=(arrOf st').map (·.2)) (vs:=vs) (n:=0) g1;refine Ib ⟨_,rfl,h _ _ d1 tk h1.objs.size e z1 (fun b o q=>?_) le ?_⟩
 ·have lt:b < h1.objs.size:=Ij (h4 b o q);rw [sortedHeap_old (Iz lt) (by rw [size_push'];exact J3 lt)];exact Ia _ (h4 b o q)
 ·rw [Array.toArray_toList];exact he
end
open PySem PySem.Spec PyProof.Rows
theorem sg:∀ {ds:List PyData} {ss:List Str},strsOf ds=some ss->ds=ss.map .str
 | [],ss,h=>by cases h;rfl
 | d :: ds,ss,h=>by
  unfold strsOf at h;split at h
  ·cases h;rename_i e;cases e
  ·rename_i x r e;cases e;split at h
   ·rename_i xs hx;cases h;rw [sg hx];rfl
   ·cases h
  ·cases h
theorem rV {K:Fg} {F:Addr->Prop} {H:Hp}:∀ {ss:List Str},(∀ s∈ss,s.length<=sizeLine/\PyData.strOk s=true)->DmL K F H (ss.map .str) (ss.map V.str)
 | [],_=>rfl
 | s :: ss,h=>⟨_,_,rfl,⟨rfl,h s IE⟩,rV fun x hx=>h x (Ip _ hx)⟩
theorem wV {K:Fg} {F:Addr->Prop} {H:Hp}:∀ {ss:List Str} {us:List V},DmL K F H (ss.map .str) us->∀ s∈ss,s.length<=sizeLine/\PyData.strOk s=true
 | [],_,_,s,hs=>by cases hs
 | s :: ss,us,h,x,hx=>by
  obtain ⟨v,r,rfl,h1,h2⟩:=h;rcases Iq.mp hx with rfl | hx
  ·exact h1.2
  ·exact wV h2 x hx
noncomputable def Hc:PyData->Option PR
 | .list ds=>match strsOf ds with | some ss=>if ss.length < 64 then some (.frs (.list ((oa ss).map .str))) else none | none=>none
 | _=>none
noncomputable def Dl (X:Cx) (p:Addr) (ss:List Str):HO:=.ext fun h=>de X.prog X.w h p ss
def Eb (X:Cx):List V->Hp->VK->Prop:=fun xs H Q=>∃ (a:Addr) (ss:List Str),xs=[.ref a]/\SqL X.K H a (ss.map V.str)/\ss.length < 1000/\∀ p,H p=none->Q (.ref p) (upd H p (Dl X p (iS ss)))
theorem tU {X:Cx} (hc:X.calm=true):a8 X (.type "set") (Eb X):=by
 intro pins s Z H xs us Q I r h;obtain ⟨a,ss,rfl,hq,hl,q⟩:=h;obtain ⟨u,rfl,r1⟩:=vals1 r;cases (show u=Value.ref a from r1);obtain ⟨its,rv,p,hz⟩:=I.list hq;have hS:=jC rv;have hl2:its.length=ss.length:=by rw [<- rv.length,Ic]
 refine sv (I.ok.hd hc) p.isList (by simpa using hS) (by show its.toArray.size+1 < 4096;rw [Iw];omega) fun h' tk hS' hk=>?_;have hn:H s.heap.objs.size=none:=I.hok.fresh (Il _);refine ⟨.ref s.heap.objs.size,_,I.laid (t':=tk) (o:=Dl X s.heap.objs.size (iS ss)) (fun b o hb=>hk b o (Ij hb) hb) (Il _) ?_,rfl,q _ hn⟩;obtain ⟨ob,es,ep,tb,ho,_⟩:=hS'.size;exact ⟨hS',⟨_,ho⟩,fun h1 h2 z k=>z.at k⟩
def Be (X:Cx):List V->Hp->VK->Prop:=fun xs H Q=>∃ (d:Addr) (ss:List Str),xs=[.ref d]/\H d=some (Dl X d ss)/\ss.length < 64/\∀ p,H p=none->Q (.ref p) (upd H p (.lst ((oa ss).map V.str)))
theorem Inv.drew {X:Cx} {pins:List (Addr×Obj)} {Z:St} {H:Hp} {s:Shared} {d':Drawn} (I:Inv X pins Z H s):Inv X pins Z H { s with drawn:=d' } :=
 ⟨I.ok,I.os,I.bare,I.base,I.loc,I.cell,I.free,I.et,I.pin,I.hok,I.len⟩
theorem pU {X:Cx} (hc:X.calm=true):a8 X (.builtin "sorted") (Be X):=by
 intro pins s Z H xs us Q I r h;obtain ⟨d,ss,rfl,hq,h64,q⟩:=h;obtain ⟨u,rfl,r1⟩:=vals1 r;cases (show u=Value.ref d from r1);obtain ⟨hS,_⟩:=I.hok _ _ hq;refine zB (I.ok.hd hc) hS h64 fun out h' d' tk p e ho hk hp hg=>?_;have hn:H p=none:=I.hok.fresh hp;refine ⟨.ref p,_,Inv.drew (d':=d') (I.laid (t':=tk) (o:=.lst ((oa ss).map V.str)) hk hp ?_),rfl,q _ hn⟩;exact ⟨by rw [Ic,(dO ss).length_eq,IQ];omega,out,e,rp ho,hg⟩
def rSS (K:Fg):V->Hp->VK->Prop:=fun x H Q=>∃ (a:Addr) (ss:List Str),x=.ref a/\SqL K H a (ss.map V.str)/\ss.length < 64/\∀ H1 p,aA H H1->H1 p=none->Q (.ref p) (upd H1 p (.lst ((oa (iS ss)).map V.str)))
noncomputable def Af:PyData->Option PR
 | .list ds=>match strsOf ds with | some ss=>if ss.length < 64 then some (.frs (.list ((oa (iS ss)).map .str))) else none | none=>none
 | _=>none
noncomputable def zH:Prm:=Prm.one rSS Af fun K F H x u pr Q hf hx hd q=>by
 unfold Af at hf;split at hf
 ·rename_i ds;split at hf
  ·rename_i ss hss;split at hf
   ·rename_i h64;cases hf;obtain ⟨a,us,rfl,s1,z1,d1⟩:=mH hx;obtain ⟨e,os⟩:=wW hss d1;rw [e] at s1;rw [sg hss] at d1;refine ⟨a,ss,rfl,s1,h64,fun H1 p sm hp=>?_⟩;have hp0:H p=none:=sm.free hp;have dl:DmL K F H ((oa (iS ss)).map .str) ((oa (iS ss)).map V.str):=rV fun s hs=>wV d1 s (uI.mp ((dO _).mem_iff.mp hs));refine q _ _ (sm.trans (aA.nw _ hp)) ?_;refine ⟨p,rfl,hp0,_,ai,?_,(dl.fresh hp0).pr (Pr.of_same (sm.trans (aA.nw _ hp))) fun _ z=>z⟩;rw [Ic,(dO _).length_eq,IQ];have:=oE ss;omega
   ·cases hf
  ·cases hf
 ·cases hf
theorem eSS {X:Cx} {e:Expr} {te:TE} {p1 p2 pos1 pos2:Pos} (hc:X.calm=true) (hg1:Gl X "sorted") (hm1:X.mg "sorted" = none) (hg2:Gl X "set") (hm2:X.mg "set" = none) (h:PySem.W.isStarred e=false) (ha:JE X e te) :
  JE X (.Call (.Name "sorted" p1) [.Call (.Name "set" p2) [e] [] pos2] [] pos1) (tCB (zH.r X.K) (aa te aP)):=by
 let te':TE:=fun Z H P=>∃ P0:VK,te Z H P0/\∀ x H1,P0 x H1->P x H1
 have ha':JE X e te':=⟨fun pins s Z H P I ⟨P0,h0,h1⟩=>Jd (ha.h pins s Z H P0 I h0) (fun v s' ⟨x,H',I',r,q⟩=>⟨x,H',I',r,h1 _ _ q⟩) fun _ _ z=>z⟩;have inner:=eTy (p:=p2) (pos:=pos2) (tU hc) hg2 hm2 (by decide +kernel) (eA ha' ag h) h rfl (by decide) rfl;have outer:=eB (p:=p1) (pos:=pos1) (pU hc) hg1 hm1 (by decide +kernel) (eA inner ag rfl) rfl rfl (by decide) rfl;refine ⟨?_⟩;intro pins s Z H Q I hT;refine outer.h pins s Z H Q I ⟨_,hT,fun x H1 z=>?_⟩;have z:rSS X.K x H1 Q:=z;obtain ⟨a,ss,rfl,sq,h64,q⟩:=z;refine ⟨a,ss,rfl,sq,by omega,fun p hp=>?_⟩;refine ⟨p,iS ss,rfl,ai,by have:=oE ss;omega,fun p2 hp2=>?_⟩;exact q _ p2 (aA.nw _ hp) hp2
open PySem PySem.Spec PyProof.Rows
def GJ (neg:Bool):R2:=fun x y H Q=>∃ a b:Bool,x=.bl a/\y=.bl b/\Q (.bl (if neg then !(a==b) else a==b)) H
theorem qR {X:Cx}:OpR X (compareOp .IsNot) (GJ true):=by
 intro pins s Z H x y v u Q I rx ry h;obtain ⟨a,b,rfl,rfl,q⟩:=h;cases rx;cases ry;exact Ib ⟨.bl _,H,I,by cases a <;> cases b <;> rfl,q⟩
noncomputable def Gp (neg:Bool):PyData->PyData->Option PR
 | .bool a,.bool b=>some (.dat (.bool (if neg then !(a==b) else a==b)))
 | _,_=>none
noncomputable def FK (neg:Bool):Prm:=Prm.two (fun _=>GJ neg) (Gp neg) fun K F H x y u v pr Q hf hx hy hd q=>by
 unfold Gp at hf;split at hf
 ·cases hf;rw [vBl hx,vBl hy];exact ⟨_,_,rfl,rfl,q _ H (aA.rf H) rfl⟩
 ·cases hf
noncomputable abbrev fW:Prm:=FK true
theorem cF {X:Cx}:OpR X (compareOp .IsNot) (fun x y=>fW.r X.K [x,y]):=qR
noncomputable def uC:Prm where
 r:=fun _ vs H Q=>match vs with | []=>∀ p,H p=none->Q (.ref p) (upd H p (.dD 0 [])) | _=>False
 f:=fun ds=>match ds with | []=>some (.frs (.dict [])) | _=>none
 ok:=fun K F H ds vs pr Q hf hv hd q=>by
  match ds,hf with
  | [],hf =>
   cases hf;rw [show vs=[] from hv];exact fun p hp=>q _ _ (aA.nw _ hp) ⟨p,rfl,hp,0,[],ai,JD _,rfl⟩
open PySem PySem.Spec PyProof.Rows
noncomputable def gH {α:Type} (n:Nat) (xs:List α):List α:=(List.replicate n xs).flatten
theorem nL {α:Type} (n:Nat) (xs:List α):(gH n xs).length=n*xs.length:=by
 unfold gH;induction n with
 | zero=>simp
 | succ n ih=>rw [List.replicate_succ,J4,Io,ih,Nat.succ_mul,Nat.add_comm]
theorem Gn (n:Nat) (vs:List Value):List.foldl (fun x1 x2:Array Value=>x1++x2) #[] (List.replicate n vs.toArray)=(gH n vs).toArray:=by
 have:∀ (n:Nat) (acc:List Value),List.foldl (fun x1 x2:Array Value=>x1++x2) acc.toArray (List.replicate n vs.toArray)=(acc++gH n vs).toArray:=by
  intro n;induction n with
  | zero=>intro acc;simp [gH]
  | succ n ih =>
   intro acc;rw [List.replicate_succ,List.foldl_cons];have e:acc.toArray++vs.toArray=(acc++vs).toArray:=by simp
   rw [e,ih];unfold gH;rw [List.replicate_succ,J4,KU]
 have:=this n [];simpa using this
theorem mI {xs:List V} {vs:List Value} (r:Vals xs vs):∀ n,Vals (gH n xs) (gH n vs)
 | 0=>.nil
 | n+1=>by
  unfold gH;rw [List.replicate_succ,List.replicate_succ,J4,J4];exact r.append (mI r n)
theorem sN (l:Addr) (items:Array Value) (n:Nat) (dd:Option Addr) (sl:Array (Option Value)) (x:Int) (u:Tok) (hc0:¬(!Builtin.List.listFitsIndex x)=true) (hc1:¬items.size*x.toNat > (2 ^ 63 - 1) / 8) (hc2:¬Builtin.List.listTooLong (items.size*x.toNat)=true) :
  Meets (Builtin.«list.__mul__» ⟨[.ref l,.int x u],[]⟩) (fun _ R s=>s.heap.get? l=some { cls:=.type "list", dict:=dd,data:=.seq items n,slots:=sl }/\R (.ok (.ret (Value.ref s.heap.objs.size))) { s with heap:=s.heap.push { cls:=Value.type "list", data:=Data.seq (List.foldl (fun x1 x2=>x1++x2) #[] (List.replicate (if items.isEmpty=true then 0 else x.toNat) items)) },toks:=s.toks }) :=
 .of_wp fun prog w A R s h=>by
  obtain ⟨hp,g,d,tk,os⟩:=s;obtain ⟨hl,h⟩:=h;have hsz:=AutoListH.joined_fits hc2
  wp_walk;refine Kc (IX (Nat.not_lt.mpr hsz)) ?_;wp_walk;exact ⟨_,rfl,h⟩
theorem tw (a:Int) (t:Tok) (l:Addr) (items:Array Value) (n:Nat) (dd:Option Addr) (sl:Array (Option Value)) :
  Meets (Builtin.«int.__rmul__» ⟨[.int a t,.ref l],[]⟩) (fun _ R s=>s.heap.get? l=some { cls:=.type "list", dict:=dd,data:=.seq items n,slots:=sl }/\R (.ok (.ret Value.notImplemented)) s) :=
 .of_wp fun prog w A R s h=>by obtain ⟨hp,g,d,tk,os⟩:=s;obtain ⟨hl,h⟩:=h;wp_walk;exact ⟨_,rfl,h⟩
theorem tY (a:Int) (t:Tok) (l:Addr) (items:Array Value) (n:Nat) (dd:Option Addr) (sl:Array (Option Value)) :
  Meets (Builtin.«int.__rmul__» ⟨[.int a t,.ref l],[]⟩) (fun _ R s=>s.heap.get? l=some { cls:=.type "tuple", dict:=dd,data:=.seq items n,slots:=sl }/\R (.ok (.ret Value.notImplemented)) s) :=
 .of_wp fun prog w A R s h=>by obtain ⟨hp,g,d,tk,os⟩:=s;obtain ⟨hl,h⟩:=h;wp_walk;exact ⟨_,rfl,h⟩
theorem gK:fillsNumberSlot (.type "tuple") "mul" = pure false :=
 PySem.fillsNumberSlot_seq (id := "tuple.__mul__") (r:=some (.builtin "tuple.__rmul__")) F.slot_tuple_mul.lookup (by decide +kernel) F.slot_tuple_rmul.lookup (by decide +kernel)
theorem k6:seqRepeat? (.type "tuple")=pure (some (.builtin "tuple.__mul__")):=by
 unfold seqRepeat?;rw [PySem.seqSlot_of (T := "tuple") (name := "__mul__") (id := "tuple.__mul__") F.slot_tuple_mul.lookup (by decide +kernel),PySem.seqSlot_of (T := "tuple") (name := "__rmul__") (id := "tuple.__rmul__") F.slot_tuple_rmul.lookup (by decide +kernel)];rfl
theorem p4 (l:Addr) (items:Array Value) (n:Nat) (dd:Option Addr) (sl:Array (Option Value)) (u:Tok) (h0:items.isEmpty=false) :
  Meets (Builtin.«tuple.__mul__» ⟨[.ref l,.int 0 u],[]⟩) (fun _ R s=>s.heap.get? l=some { cls:=.type "tuple", dict:=dd,data:=.seq items n,slots:=sl }/\R (.ok (.ret (Value.ref s.heap.objs.size))) { s with heap:=s.heap.push { cls:=Value.type "tuple", data:=Data.seq #[] },toks:=s.toks }) :=
 .of_wp fun prog w A R s h=>by obtain ⟨hp,g,d,tk,os⟩:=s;obtain ⟨hl,h⟩:=h;wp_walk;exact ⟨_,rfl,h⟩
theorem pH (l:Addr) (items:Array Value) (n:Nat) (dd:Option Addr) (sl:Array (Option Value)) (u:Tok) :
  Meets (Builtin.«tuple.__mul__» ⟨[.ref l,.int 1 u],[]⟩) (fun _ R s=>s.heap.get? l=some { cls:=.type "tuple", dict:=dd,data:=.seq items n,slots:=sl }/\R (.ok (.ret (Value.ref l))) s) :=
 .of_wp fun prog w A R s h=>by obtain ⟨hp,g,d,tk,os⟩:=s;obtain ⟨hl,h⟩:=h;wp_walk;exact ⟨_,rfl,h⟩
theorem pL (l:Addr) (items:Array Value) (n:Nat) (dd:Option Addr) (sl:Array (Option Value)) (x:Int) (u:Tok) (h0:items.isEmpty=false) (h1:2<=x) (h2:(items.size:Int)*x<=1000) :
  Meets (Builtin.«tuple.__mul__» ⟨[.ref l,.int x u],[]⟩) (fun _ R s=>s.heap.get? l=some { cls:=.type "tuple", dict:=dd,data:=.seq items n,slots:=sl }/\R (.ok (.ret (Value.ref s.heap.objs.size))) { s with heap:=s.heap.push { cls:=Value.type "tuple", data:=Data.seq (List.foldl (fun x1 x2=>x1++x2) #[] (List.replicate x.toNat items)) },toks:=s.toks }) :=
 .of_wp fun prog w A R s h=>by
  obtain ⟨hp,g,d,tk,os⟩:=s;obtain ⟨hl,h⟩:=h;have hz:1<=items.size:=by
   rcases Nat.eq_zero_or_pos items.size with z | z
   ·rw [Array.isEmpty,z] at h0;cases h0
   ·exact z
  have hx:x<=1000:=by
   have:x<=(items.size:Int)*x:=by
    have:=Int.mul_le_mul_of_nonneg_right (show (1:Int)<=items.size by omega) (show 0<=x by omega);omega
   omega
  have e1:(decide (x < -(2 ^ 63))||decide (x>=2 ^ 63))=false:=by simp;omega
  have e2:(items.isEmpty||x==1)=false:=by rw [h0];simp;omega
  have e3:(decide (x<=0)||items.isEmpty)=false:=by rw [h0];simp;omega
  have e4:¬(items.size:Int)*x > (2 ^ 63 - 1) / 8:=by omega
  have e5:Builtin.Tuple.tupleTooMany ((items.size:Int)*x)=false:=by unfold Builtin.Tuple.tupleTooMany;rw [IQ];simp;omega
  wp_walk
  refine Kc (by rw [e1];rfl) ?_
  wp_walk
  refine Kc (by rw [e2];rfl) ?_
  wp_walk
  refine Kc (by rw [e3];rfl) ?_;refine Kc (IX e4) ?_;refine Kc (by rw [e5];rfl) ?_
  wp_walk
  refine Kc (IX ?_) ?_
  ·rw [AutoListH.size_joined,IQ];have:((x.toNat*items.size:Nat):Int)=(items.size:Int)*x:=by
    rw [Int.natCast_mul,JU (by omega),Int.mul_comm]
   simp only [Iw,K8];omega
  wp_walk
  exact ⟨_,rfl,h⟩
def AZ (K:Fg):R2:=fun x y H Q=>∃ (a:Addr) (xs:List V) (n:Int),x=.ref a/\y=.int n/\0<=n/\(xs.length:Int)*n<=1000/\n<=1000/\((SqL K H a xs/\∀ p,H p=none->Q (.ref p) (upd H p (.lst (gH n.toNat xs))))\/(SqT K H a xs/\xs≠[]/\(n=1->Q (.ref a) H)/\(n≠1->∀ p,H p=none->Q (.ref p) (upd H p (.tup (gH n.toNat xs))))))
theorem kn {α:Type} {xs:List α} {n:Int} (h0:0<=n) (h:(xs.length:Int)*n<=1000):(gH n.toNat xs).length<=1000:=by
 rw [nL];have:((n.toNat*xs.length:Nat):Int)=(xs.length:Int)*n:=by rw [Int.natCast_mul,JU h0,Int.mul_comm]
 omega
theorem yR {X:Cx}:OpR X (binaryOp .Mult) (AZ X.K):=by
 intro pins s Z H x y v u Q I rx ry h;obtain ⟨a,xs,n,rfl,rfl,h0,hz,hn,hL | ⟨hT,hne,q1,q2⟩⟩:=h
 ·obtain ⟨hL,q⟩:=hL;cases rx;obtain ⟨t,rfl⟩:=ry;obtain ⟨its,r,p,_⟩:=I.list hL;obtain ⟨⟨cls,dd,data,sl⟩,k,ho,hc,hd0,hd⟩:=p;simp only at hc hd;subst hc hd;have hsz:(its.toArray.size:Int)*n<=1000:=by rw [Iw,<-r.length];exact hz
  have hsz2:its.toArray.size*n.toNat<=1000:=by
   have:((its.toArray.size*n.toNat:Nat):Int)=(its.toArray.size:Int)*n:=by rw [Int.natCast_mul,JU h0]
   omega
  refine wpAny_binaryOp_repeat_ref (T := "list") (U := "int") (by decide) ⟨_,ho,rfl⟩ (fun s'=>typeIs_int s' n t) noFill_list_mul F.fills_int_mul F.slot_int_rmul repeat_list F.slot_int_index.lookup
   (JZ F.slot_int_rmul (typeIs_int s n t) F.entry_int_rmul (F.args_int_rmul_2 _ _) (tw n t a its.toArray k dd sl)
   ⟨ho,rfl,⟨_,ho,rfl⟩,JZ F.slot_list_mul ⟨_,ho,rfl⟩ F.entry_list_mul (F.args_list_mul_2 _ _)
    (sN a its.toArray k dd sl n t (by simp [Builtin.List.listFitsIndex];omega) (by omega) (by simp [Builtin.List.listTooLong,sizeLine] at hsz2 ⊢;omega))
    ⟨ho,?_⟩⟩)
  have e:List.foldl (fun x1 x2:Array Value=>x1++x2) #[] (List.replicate (if its.toArray.isEmpty=true then 0 else n.toNat) its.toArray)=(gH n.toNat its).toArray:=by
   split
   ·rename_i c;have:its=[]:=by simpa using c
    subst this;have:∀ m,gH m ([]:List Value)=[]:=fun m=>K2.mp (by rw [nL];simp);rw [this];rfl
   ·exact Gn _ _
  rw [e];refine ⟨.ref _,_,I.GD (t':=s.toks) (mI r n.toNat) ?_,rfl,q _ I.fresh⟩;have:=kn (xs:=xs) h0 hz;rw [IQ];omega
 ·cases rx;obtain ⟨t,rfl⟩:=ry;obtain ⟨its,r,p,_⟩:=I.tuple hT;obtain ⟨⟨cls,dd,data,sl⟩,ho,hc,k,hd⟩:=p;simp only at hc hd;subst hc hd;have hit:its≠[]:=fun z=>hne (r.iK.mp z);have hie:its.toArray.isEmpty=false:=by simpa using hit
  have go:∀ {R:Value->Shared->Prop},wpAny (model X.prog X.w) X.A (call (.builtin "tuple.__mul__") [.ref a,.int n t]) R X.xe s->wpAny (model X.prog X.w) X.A (binaryOp .Mult (.ref a) (.int n t)) R X.xe s:=fun hh =>
   wpAny_binaryOp_repeat_ref (T := "tuple") (U := "int") (by decide) ⟨_,ho,rfl⟩ (fun s'=>typeIs_int s' n t) gK F.fills_int_mul F.slot_int_rmul k6 F.slot_int_index.lookup
    (JZ F.slot_int_rmul (typeIs_int s n t) F.entry_int_rmul (F.args_int_rmul_2 _ _) (tY n t a its.toArray k dd sl) ⟨ho,rfl,⟨_,ho,rfl⟩,hh⟩)
  refine go ?_;by_cases h1:n=1
  ·subst h1;exact JZ F.slot_tuple_mul ⟨_,ho,rfl⟩ F.entry_tuple_mul (F.args_tuple_mul_2 _ _) (pH a its.toArray k dd sl t) ⟨ho,.ref a,H,I,rfl,q1 rfl⟩
  ·by_cases h2:n=0
   ·subst h2;refine JZ F.slot_tuple_mul ⟨_,ho,rfl⟩ F.entry_tuple_mul (F.args_tuple_mul_2 _ _) (p4 a its.toArray k dd sl t hie) ⟨ho,?_⟩;refine ⟨.ref s.heap.objs.size,_,I.laid (t':=s.toks) (o:=.tup []) (fun b ob q=>Ia _ q) (Il _) ?_,rfl,q2 h1 _ (I.hok.fresh (Il _))⟩;exact ⟨JD _,[],.nil,IsTup.new _ _⟩
   ·refine JZ F.slot_tuple_mul ⟨_,ho,rfl⟩ F.entry_tuple_mul (F.args_tuple_mul_2 _ _) (pL a its.toArray k dd sl n t hie (by omega) (by rw [Iw,<-r.length];exact hz)) ⟨ho,?_⟩;rw [Gn];refine ⟨.ref s.heap.objs.size,_,I.laid (t':=s.toks) (o:=.tup (gH n.toNat xs)) (fun b ob q=>Ia _ q) (Il _) ?_,rfl,q2 h1 _ (I.hok.fresh (Il _))⟩;refine ⟨?_,_,mI r n.toNat,IsTup.new _ _⟩;have:=kn (xs:=xs) h0 hz;rw [IQ];omega
theorem DmL.rep {K:Fg} {F:Addr->Prop} {H:Hp} {ds:List PyData} {xs:List V} (h:DmL K F H ds xs):∀ n,DmL K F H (gH n ds) (gH n xs)
 | 0=>rfl
 | n+1=>by
  unfold gH;rw [List.replicate_succ,List.replicate_succ,J4,J4];exact h.app (DmL.rep h n)
noncomputable def GW:PyData->PyData->Option PR
 | .list xs,.int n=>if 0<=n/\(xs.length:Int)*n<=1000/\n<=1000 then some (.frs (.list (gH n.toNat xs))) else none
 | .tuple (x :: xs),.int n=>if 0<=n/\((x :: xs).length:Int)*n<=1000/\n<=1000 then some (.dat (.tuple (gH n.toNat (x :: xs)))) else none
 | _,_=>none
theorem ve {α:Type} (xs:List α):gH 1 xs=xs:=by simp [gH]
noncomputable def zf:Prm:=Prm.two AZ GW fun K F H x y u v pr Q hf hx hy hd q=>by
 unfold GW at hf;split at hf
 ·split at hf
  ·rename_i xs n h;cases hf;obtain ⟨a,us,rfl,s1,z1,d1⟩:=mH hx;rw [vInt hy];refine ⟨a,us,n,rfl,rfl,h.1,by rw [d1.len];exact h.2.1,h.2.2,.inl ⟨s1,fun p hp=>q _ _ (aA.nw _ hp) (zg hp ?_ (d1.rep _))⟩⟩;have:=kn (xs:=us) h.1 (by rw [d1.len];exact h.2.1);rw [IQ];omega
  ·cases hf
 ·split at hf
  ·rename_i x xs n h;cases hf;obtain ⟨a,us,rfl,s1,z1,d1⟩:=nR hx;rw [vInt hy];have hne:us≠[]:=fun z=>by rw [z] at d1;obtain ⟨v,r,e,_⟩:=d1;cases e
   refine ⟨a,us,n,rfl,rfl,h.1,by rw [d1.len];exact h.2.1,h.2.2,.inr ⟨s1,hne,fun e=>?_,fun _ p hp=>q _ _ (aA.nw _ hp) (Ai hp ?_ (d1.rep _))⟩⟩
   ·subst e;exact q _ H (aA.rf H) ⟨a,us,rfl,s1,z1,by rw [show (1:Int).toNat=1 from rfl,ve];exact d1⟩
   ·have:=kn (xs:=us) h.1 (by rw [d1.len];exact h.2.1);rw [IQ];omega
  ·cases hf
 ·cases hf
theorem mO {X:Cx}:OpR X (binaryOp .Mult) (fun x y=>zf.r X.K [x,y]):=yR
theorem pj (t b:Addr) (items2:Array Value) (n n2:Nat) (dd dd2:Option Addr) (sl sl2:Array (Option Value)) :
  Meets (Builtin.«tuple.__add__» ⟨[.ref t,.ref b],[]⟩) (fun _ R s=>s.heap.get? t=some { cls:=.type "tuple", dict:=dd,data:=.seq #[] n,slots:=sl }/\s.heap.get? b=some { cls:=.type "tuple", dict:=dd2,data:=.seq items2 n2,slots:=sl2 }/\R (.ok (.ret (Value.ref b))) s) :=
 .of_wp fun prog w A R s h=>by obtain ⟨hp,g,d,tk,os⟩:=s;obtain ⟨hl,hb,h⟩:=h;have f1:=AutoSeq1.idx_int;have f2:=AutoSeq1.sub_tuple_tuple;have f3:=AutoSeq1.sub_list_list;have f4:=AutoSeq1.sub_tuple_list;have f5:=AutoSeq1.sub_list_tuple;wp_walk using wpAny_loadPart' hl,wpAny_loadPart' hb;exact ⟨_,rfl,h⟩
def BG (K:Fg):R2:=fun x y H Q=>∃ (a b:Addr) (ys:List V),x=.ref a/\y=.ref b/\SqT K H a []/\SqT K H b ys/\Q (.ref b) H
theorem yN {X:Cx}:OpR X (binaryOp .Add) (BG X.K):=by
 intro pins s Z H x y v u Q I rx ry h;obtain ⟨a,b,ys,rfl,rfl,ha,hb,q⟩:=h;cases rx;cases ry;obtain ⟨its,r1,p1,_⟩:=I.tuple ha;obtain ⟨its2,r2,p2,_⟩:=I.tuple hb;have e0:its=[]:=r1.iK.mpr rfl;subst e0;obtain ⟨⟨cls,dd,data,sl⟩,ho,hc,n,hd⟩:=p1;obtain ⟨⟨cls2,dd2,data2,sl2⟩,ho2,hc2,n2,hd2⟩:=p2;simp only at hc hd hc2 hd2;subst hc hd hc2 hd2;exact concat_meets ⟨_,ho,rfl⟩ ⟨_,ho2,rfl⟩ noFill_tuple_add seq_tuple_add PySem.F.slot_tuple_add PySem.F.entry_tuple_add (PySem.F.args_tuple_add_2 _ _)
  (pj a b its2.toArray n n2 dd dd2 sl sl2) ⟨ho,ho2,.ref b,H,I,rfl,q⟩
noncomputable def x4:PyData->PyData->Option PR
 | .tuple [],.tuple ys=>some (.dat (.tuple ys))
 | x,y=>Fe x y
noncomputable def lg:Prm:=Prm.two (fun K=>rOr (z9 K) (BG K)) x4 fun K F H x y u v pr Q hf hx hy hd q=>by
 unfold x4 at hf;split at hf
 ·cases hf;obtain ⟨a,us,rfl,s1,z1,d1⟩:=nR hx;obtain ⟨b,ws,rfl,s2,z2,d2⟩:=nR hy;rw [show us=[] from d1] at s1;exact .inr ⟨a,b,ws,rfl,rfl,s1,s2,q _ H (aA.rf H) ⟨b,ws,rfl,s2,z2,d2⟩⟩
 ·exact .inl (cy.ok K F H [x,y] [u,v] pr Q hf ⟨u,_,rfl,hx,v,_,rfl,hy,rfl⟩ hd q)
theorem fe {X:Cx}:OpR X (binaryOp .Add) (fun x y=>lg.r X.K [x,y]):=orR aw yN
theorem Gx {X:Cx} {e:Expr} {te:TE} {T:String} {p p2 pos:Pos} (hg:Gl X "isinstance") (hm:X.mg "isinstance" = none) (ha:JE X e te) (hs:PySem.W.isStarred e=false) (hb:JE X (.Name (Str.ofString T) p2) (tC (.ty T))):JE X (.Call (.Name "isinstance" p) [e,.Name (Str.ofString T) p2] [] pos) (tCB ((tZ T).r X.K) (aa te aP)) :=
 ⟨(eB xg hg hm (by decide +kernel) (eA ha (eA hb ag rfl) hs) hs rfl (by decide) rfl).h⟩
end L2
end
section
namespace HT
open PySem PySem.Spec PyProof.Rows
section
variable {prog:Program} {w:World} {A:Around} {E:Value->Shared->Prop} {s:Shared}
theorem eV {t sl:Addr} {items:Array Value} {vl vu:Value} {lo hi:Option Int} {Q:Value->Shared->Prop} (ht:IsTup s.heap t items) (hs:s.heap.IsSliceOf sl vl vu .none) (pl:IsPart vl lo) (pu:IsPart vu hi)
  (hw:sIx items.size 0 lo=0/\sIx items.size items.size hi=items.size) (h:Q (.ref t) s):wpAny (model prog w) A (getItem (.ref t) (.ref sl)) Q E s:=by
 obtain ⟨os,hos,hcs,hds⟩:=id hs;have hTs:s.TypeIs (.ref sl) "slice" := ⟨os,hos,hcs⟩;unfold getItem;try with_reducible refine Jj ?_
 first | refine H9 (Ib ?_) | skip
 refine H9 (wpAny_sequenceKey ht.typeIs (by decide) ?_)
 refine H9 (Jb (name:=Str.ofString "__getitem__") ht.typeIs Ko
  (Jf Ko ht.typeIs entry_tuple_getitem ?_ (args_tuple_getitem _ _)))
 show wpAny _ _ (Builtin.Tuple.tupleItemsOf (.ref t)>>=_) _ _ s;refine H9 (tupleItemsOf_ ht ?_);refine H9 (Kh hTs ?_);rw [Iy (by decide)];refine H9 (c6 hs pl pu ?_);have hyes:((((sIx items.size 0 lo:Nat):Int)==0&&(1:Int)==1&&(sIx items.size items.size hi - sIx items.size 0 lo)==items.size)=true):=by
  rw [hw.1,hw.2];simp
 show wpAny _ _ (if (((sIx items.size 0 lo:Nat):Int)==0&&(1:Int)==1&&(sIx items.size items.size hi - sIx items.size 0 lo)==items.size)=true then _ else _) _ _ s;rw [Iy hyes];refine H9 (m:=Builtin.Tuple.tupleIsExact (.ref t)) (H9 (Kh ht.typeIs (Ib ?_)));rw [Iy (by decide)];refine H9 (JJ ?_);first
  | exact Ib ⟨_,rfl,Ib h⟩
  | exact H9 (Ib (Ib ⟨_,rfl,Ib h⟩))
end
end HT
namespace L2
open PySem PySem.Spec PyProof.Rows
noncomputable def intsOf:List PyData->Option (List Int)
 | []=>some []
 | .int i :: r=>match intsOf r with | some is=>some (i :: is) | none=>none
 | _ :: _=>none
def Av (K:Fg):V->Option Int->Option Int->Hp->VK->Prop:=fun x lo hi H Q=>∃ a xs,x=.ref a/\SqT K H a xs/\(HT.sIx xs.length 0 lo=0/\HT.sIx xs.length xs.length hi=xs.length)/\Q (.ref a) H
theorem mC {X:Cx}:SlR X (Av X.K):=by
 intro pins s Z H x v vl vu lo hi sl Q I rx hs pl pu h;obtain ⟨a,xs,rfl,hx,hw,q⟩:=h;cases rx;obtain ⟨its,r,ht,hz⟩:=I.tuple hx;have hlen:its.toArray.size=xs.length:=by rw [Iw];exact r.length.symm
 refine ⟨"tuple", _,Ko.lookup,ht.typeIs,?_⟩;exact HT.eV ht hs pl pu (by rw [hlen];exact hw) ⟨.ref a,H,I,rfl,q⟩
noncomputable def Eg (lo hi:Option Int):PyData->Option PR
 | .tuple xs=>some (.dat (.tuple (cutD xs lo hi)))
 | x=>slD lo hi x
def GP (K:Fg) (lo hi:Option Int):V->Hp->VK->Prop:=fun x H Q=>fR qb (fR (qc K) (fR (qa K) (Av K))) x lo hi H Q
theorem Cu {K:Fg} {F:Addr->Prop} {H:Hp} {lo hi:Option Int} {x:PyData} {u:V} {pr:PR} {Q:VK} (hf:Eg lo hi x=some pr) (hx:Vw K F H x u) (q:∀ w H',aA H H'->uZ K F H H' pr w->Q w H'):GP K lo hi u H Q:=by
 unfold Eg at hf;split at hf
 ·rename_i xs;cases hf;obtain ⟨a,us,rfl,s1,z1,d1⟩:=nR hx;by_cases c:HT.sIx xs.length 0 lo=0/\HT.sIx xs.length xs.length hi=xs.length
  ·refine .inr (.inr (.inr ⟨a,us,rfl,s1,by rw [d1.len];exact c,q _ H (aA.rf H) ⟨a,us,rfl,s1,z1,?_⟩⟩));unfold cutD;rw [c.1,c.2,List.drop_zero,Nat.sub_zero,List.take_length];exact d1
  ·exact .inr (.inr (.inl ⟨a,us,rfl,s1,by rw [d1.len];exact c,fun p hp=>q _ _ (aA.nw _ hp) (Ai hp (IM (kJ _ _ _) z1) (d1.cut lo hi))⟩))
 ·rcases yq hf hx q with h | h | h
  ·exact .inl h
  ·exact .inr (.inl h)
  ·exact .inr (.inr (.inl h))
noncomputable def D0:Prm:=Prm.two (fun K x y H Q=>∃ i,y=.int i/\GP K none (some i) x H Q) (fun x y=>match y with | .int i=>Eg none (some i) x | _=>none) fun K F H x y u v pr Q hf hx hy hd q=>by
 split at hf
 ·exact ⟨_,vInt hy,Cu hf hx q⟩
 ·cases hf
noncomputable def C7 {α:Type} (xs:List α) (i:Nat) (y:α):List α:=xs.take i++y :: xs.drop i
def yP:V->List V->Hp->VK->Prop:=fun x vs H Q=>∃ (l:Addr) (xs:List V) (i:Nat) (y:V),x=.ref l/\vs=[.int i,y]/\H l=some (.lst xs)/\xs.length < sizeLine/\i<=xs.length/\Q .non (upd H l (.lst (C7 xs i y)))
theorem w8 {α:Type} {xs:List α} {i:Nat} {y:α} (h:i<=xs.length):(C7 xs i y).length=xs.length+1:=by
 simp [C7];omega
noncomputable def HX:Mtr where
 T := "list"
 r:=fun _=>yP
 ty:=isL
 f:=fun d as=>match d,as with
  | .list xs,[(_,.int i),(true,x)]=>if xs.length < sizeLine/\0<=i/\i<=xs.length then some (.list (C7 xs i.toNat x),.none) else none
  | _,_=>none
 zp:=fun K F H d a h t=>wH h t
 ok:=fun K F H d a as vs d' x Q hf ha ht hv q=>by
  split at hf
  ·rename_i ds bb i y;split at hf
   ·rename_i hl;cases hf;obtain ⟨xs,ea,z,rx⟩:=ht;have hv2:∃ v,vs=[.int i,v]/\Dm K F H y v:=by
     cases bb with
     | true=>obtain ⟨v1,r1,rfl,h1,v2,r2,rfl,h2,rfl⟩:=hv;exact ⟨v2,by rw [show v1=.int i from h1],h2⟩
     | false=>obtain ⟨v1,r1,rfl,h1,v2,r2,rfl,h2,rfl⟩:=hv;exact ⟨v2,by rw [show v1=.int i from h1],h2⟩
    obtain ⟨v,rfl,hd⟩:=hv2;have hi:i.toNat<=xs.length:=by rw [rx.len];omega
    have e1:((i.toNat:Nat):Int)=i:=JU hl.2.1;refine ⟨a,xs,i.toNat,v,rfl,by rw [e1],ea,by rw [rx.len];exact hl.1,hi,q _ _ (fun b o n e=>by rw [ae n];exact e) ⟨_,ai,by rw [w8 hi,rx.len];omega,DmL.pr (wq ha ea rfl) (fun _ z=>z) ?_⟩ rfl⟩;have tk:∀ {ds:List PyData} {xs:List V} (n:Nat),DmL K F H ds xs->DmL K F H (ds.take n) (xs.take n)/\DmL K F H (ds.drop n) (xs.drop n):=by
     intro ds;induction ds with
     | nil=>intro xs n h;rw [show xs=[] from h];simp [DmL]
     | cons d ds ih =>
      intro xs n h;obtain ⟨v,r,rfl,h1,h2⟩:=h;cases n with
      | zero=>exact ⟨rfl,v,r,rfl,h1,h2⟩
      | succ n=>exact ⟨⟨v,_,rfl,h1,(ih n h2).1⟩,(ih n h2).2⟩
    exact (tk _ rx).1.app ⟨v,_,rfl,hd,(tk _ rx).2⟩
   ·cases hf
  ·cases hf
theorem eID {X:Cx} {tg e:Expr} {te:TE} (h:JE X e te):JI X tg e (FQ te):=⟨zJ h.h⟩
noncomputable def pQ (x:Str) (n:Nat):Str:=⟨(List.replicate n x.cps.toList).flatten.toArray⟩
theorem oq (x:Str) (n:Nat):(pQ x n).length=n*x.length:=by
 show ((List.replicate n x.cps.toList).flatten.toArray).size=n*x.cps.size;simp
theorem k0:∀ (l:List (Array Nat)) (a:Array Nat),(l.foldl (·++·) a).toList=a.toList++(l.map (·.toList)).flatten
 | [],a=>by simp
 | x :: l,a=>by rw [List.foldl_cons,k0 l];simp
theorem yc (x:Str) (n:Nat):Txt.mul x n=pQ x n:=by
 have ext:∀ {a b:Str},a.cps.toList=b.cps.toList->a=b:=by
  intro a b h;cases a;cases b;congr 1;exact Array.toList_inj.mp h
 unfold Txt.mul;by_cases h1:(n:Int) < 1
 ·rw [Iy h1];have:n=0:=by omega
  subst this;exact ext rfl
 ·rw [ID h1];by_cases h2:((n:Int)==1||x.length==0)=true
  ·rw [Iy h2];simp only [K9,KH] at h2;refine ext ?_;rcases h2 with h2 | h2
   ·have:n=1:=by omega
    subst this;simp [pQ]
   ·have:x.cps.toList=[]:=by
     have:x.cps.toList.length=0:=by simpa [Str.length] using h2
     exact K2.mp this
    simp [pQ,this]
  ·rw [ID h2];refine ext ?_;show ((List.replicate (n:Int).toNat x.cps).foldl (·++·) #[]).toList=_;rw [k0];simp [pQ]
def B8:R2:=fun x y H Q=>∃ (z:Str) (n:Nat),x=.str z/\y=.int n/\n<=1000/\z.length<=1000/\Q (.str (pQ z n)) H
theorem x5 {X:Cx}:OpR X (binaryOp .Mult) B8:=by
 intro pins s Z H x y v u Q I rx ry h;obtain ⟨z,n,rfl,rfl,h1,h2,q⟩:=h;obtain ⟨t,rfl⟩:=rx;obtain ⟨t',rfl⟩:=ry;refine SB.mul ⟨by simp;omega,fun a b=>?_,fun a b=>?_⟩ fun t'' k=>⟨.str _,H,I.tok k,⟨t'',by rw [yc]⟩,q⟩
 ·have hn:(0:Int) < n:=by omega
  rw [Int.not_lt];refine Int.le_ediv_of_mul_le hn ?_;have:(z.length:Int)*n<=1000*1000:=Int.mul_le_mul (by omega) (by omega) (by omega) (by omega);omega
 ·have:z.length*(n:Int).toNat<=1000*1000:=Nat.mul_le_mul h2 (by omega);have hs:sizeLine=16777216:=IQ;simp only [Builtin.Str.tooLong];simp;rw [IS] at this;omega
theorem p6 {x:Str} {n:Nat} (h:PyData.strOk x=true):PyData.strOk (pQ x n)=true:=by
 unfold PyData.strOk at h ⊢;rw [Array.all_eq_true'] at h ⊢;intro c hc;have:c∈(List.replicate n x.cps.toList).flatten:=by simpa [pQ] using hc
 obtain ⟨l,hl,hcl⟩:=List.mem_flatten.mp this;rw [(List.mem_replicate.mp hl).2] at hcl;exact h c (by simpa using hcl)
noncomputable def yI:Prm:=Prm.two (fun _=>B8) (fun x y=>match x,y with | .str z,.int n=>if 0<=n/\n<=1000/\z.length<=1000 then some (.dat (.str (pQ z n.toNat))) else none | _,_=>none) fun K F H x y u v pr Q hf hx hy hd q=>by
 split at hf
 ·rename_i z n;split at hf
  ·rename_i h;cases hf;obtain ⟨ex,hl,ho⟩:=vStr hx;have ey:=vInt hy;have e1:((n.toNat:Nat):Int)=n:=JU h.1;refine ⟨z,n.toNat,ex,by rw [e1];exact ey,by omega,h.2.2,q _ H (aA.rf H) ⟨rfl,?_,p6 ho⟩⟩;rw [oq];have:n.toNat*z.length<=1000*1000:=Nat.mul_le_mul (by omega) h.2.2;have hs:sizeLine=16777216:=IQ;omega
  ·cases hf
 ·cases hf
theorem u9 {X:Cx}:OpR X (binaryOp .Mult) (fun x y=>yI.r X.K [x,y]):=x5
theorem ye:typeLookup (.type "list") "keys" = pure none:=by rw [Kw,J1];kernel_rfl
theorem yD {prog:Program} {w:World} {A:Around} {E:Value->Shared->Prop} {s:Shared} {a:Addr} {o:Obj} {xs:Array Value} {k:Nat} {Q:Option Value->Shared->Prop}
  (hx:s.heap.get? a=some o) (hc:o.cls=.type "list") (hdat:o.data=.seq xs k) (hd:o.dict=none) (hA:A.handled=none)
  (h:∀ h' tk,(∀ b u,s.heap.get? b=some u->h'.get? b=some u)->Q none { s with heap:=h',toks:=tk }):wpAny (model prog w) A (getAttr? (.ref a) "keys") Q E s:=by
 obtain ⟨c,dct,dat,sl⟩:=o;simp only at hc hdat hd;subst hc hdat hd;obtain ⟨hp,g,d,tk,os⟩:=s;have hT:∀ tk',(⟨hp,g,d,tk',os⟩:Shared).TypeIs (.ref a) "list" := fun _=>⟨_,hx,rfl⟩;have f1:=sub_AttributeError;have f3:=F.slot_list_getattribute.lookup;have f4:=F.slot_list_getattribute.bind (.ref a);have f5:=am_list_getattr_none;unfold getAttr? getAttrBy? getAttrBy
 repeat (any_goals (first | assumption | exact hT _ | ((with_reducible show wpAny _ _ (call (Value.builtin "list.__getattribute__") _ _) _ _ _);refine JZ F.slot_list_getattribute (hT _) am_entry_list_getattribute (F.args_list_getattribute_2 _ _) (meets_getattribute_miss_list a xs k sl "keys" _ ye (by decide +kernel)) ⟨hx,hA,fun h' tk' e hx'=>?_⟩) | wp_step))
 obtain ⟨t',u',he⟩:=hx'.there;show wpAny _ _ (getattributeRaised _ _ _ _ _ _ _) _ _ _;unfold getattributeRaised
 repeat (any_goals (first | assumption | wp_step))
 exact h _ _ hx'.keeps
theorem nS:entryFor table "dict.update.loop" = some Builtin.«dict.update.loop»:=entryFor_of_tree (by kernel_rfl)
theorem gZ:plainId "dict.update.loop" = true:=by decide +kernel
def Dr (K:Fg) (F:Addr->Prop) (H:Hp):List (PyData×PyData)->List V->Prop
 | [],vs=>vs=[]
 | (k,d) :: ps,vs=>∃ p j v r,vs=.ref p :: r/\SqT K H p [j,v]/\Dm K F H k j/\hk6 k=true/\Dm K F H d v/\Dr K F H ps r
noncomputable def j4 (kvs ps:List (PyData×PyData)):List (PyData×PyData):=ps.foldl (fun acc p=>putD acc p.1 p.2) kvs
theorem oG {kvs:List (PyData×PyData)} {k d:PyData}:(putD kvs k d).length<=kvs.length+1:=by
 unfold putD;split
 ·rw [Ic];omega
 ·rw [Io];exact Il _
theorem me:∀ {ps kvs:List (PyData×PyData)},(j4 kvs ps).length<=kvs.length+ps.length
 | [],kvs=>Il _
 | p :: ps,kvs=>by
  have h:=me (ps:=ps) (kvs:=putD kvs p.1 p.2);have:=oG (kvs:=kvs) (k:=p.1) (d:=p.2);rw [IH];show (j4 (putD kvs p.1 p.2) ps).length<=_;omega
section
variable {X:Cx} {pins:List (Addr×Obj)} {Z:St} {H:Hp} {A:Around} {F:Addr->Prop} {D IT l:Addr} {vs:List V} {R:Result->Shared->Prop}
theorem yQ (hu:A.units+8 < cLine) (hh:A.handled=none) (hD:H D=none) (hDI:IT≠D) (hl:SqL X.K H l vs) (hf:tG X pins H IT) :
  ∀ (ps:List (PyData×PyData)) (i:Nat) (kvs:List (PyData×PyData)) (xs:List (PyData×V×V)) (ep:Nat) (s:Shared),Dr X.K F H ps (vs.drop i)->DmP X.K F H kvs xs->kvs.length+ps.length<=1000 ->
   Inv X pins Z (upd H D (.dD ep xs)) s->s.heap.IsListIter IT l i ->
   (∀ ep' xs' s',Inv X pins Z (upd H D (.dD ep' xs')) s'->DmP X.K F H (j4 kvs ps) xs'->R (.ok (.ret .none)) s') ->
   codeAny (model X.prog X.w) A (.builtin "dict.update.loop" ⟨[.ref D,.ref IT,rawInt i,.none],[]⟩) R s:=by
 obtain ⟨f0,f1,f2,f3,f4,f5⟩:=hf;intro ps;induction ps with
 | nil =>
  intro i kvs xs ep s hp dp hn I st q;obtain ⟨its,rv,p,hz⟩:=I.list ((aA.nw (.dD ep xs) hD).seq hl);have hl':=rv.length;have hp:vs.drop i=[]:=hp;have hi:vs.length<=i:=Ku.mp hp;refine Jw nS ?_;rw [Jq gZ _];show wpAny _ A.in1 (pyNext (.ref IT)>>=_) _ _ s;refine H9 (wpAny_pyNext_list_end hh st p.isList (by simp;omega) fun h' eb=>?_);have I1:Inv X pins Z (upd H D (.dD ep xs)) { s with heap:=h' }:=I.turned (t':=s.toks) (fun b o hb e=>eb b o hb e) (by rw [ae hDI];exact f0) f1 f3 f4 f5;exact H9 (Ib (Ib (q ep xs _ I1 dp)))
 | cons kd ps ih =>
  obtain ⟨k,d⟩:=kd;intro i kvs xs ep s hp dp hn I st q;obtain ⟨its,rv,p,hz⟩:=I.list ((aA.nw (.dD ep xs) hD).seq hl);obtain ⟨pa,j,v,r,er,sq,dk,hk,dd,hr⟩:=hp;have hx:vs[i]?=some (.ref pa):=by
   have:=congrArg (·[0]?) er;simpa using this
  have er':vs.drop (i+1)=r:=by
   have:=congrArg List.tail er;simpa using this
  obtain ⟨u,eu,ru⟩:=rv.get hx;obtain rfl:u=Value.ref pa:=ru;refine Jw nS ?_;rw [Jq gZ _];show wpAny _ A.in1 (pyNext (.ref IT)>>=_) _ _ s;refine H9 (wpAny_pyNext_list_item st p.isList (x:=.ref pa) (by simpa using eu) fun h' st' sb=>?_);have I1:Inv X pins Z (upd H D (.dD ep xs)) { s with heap:=h' }:=I.turned (t':=s.toks) (fun b o hb e=>(sb.2 b hb).trans e) (by rw [ae hDI];exact f0) f1 f3 f4 f5;have pr:Pr F H (upd H D (.dD ep xs)):=Pr.of_same (aA.nw _ hD);obtain ⟨ts,tv,tp,tz⟩:=I1.tuple (sq.pr pr);cases tv with
  | @cons _ u1 _ ts t1 tv =>
  cases tv with
  | @cons _ u2 _ ts t2 tv =>
  cases tv;obtain ⟨ot,ht,hct,nt,hdt⟩:=tp;have dk':=dk.pr pr fun _ z=>z;obtain ⟨as,rk⟩:=dk'.reads I1 (iI _ (fX.mp hk).1) t1;refine H9 (Jj (H9 (wpAny_tryCatch ?_)));unfold Builtin.Dict.pairItems;refine H9 (Kh (T := "tuple") ⟨ot,ht,hct⟩ ?_);rw [Iy (by decide)];refine H9 (wpAny_seqItems ht hdt (Ib ?_));show wpAny _ A.in1 (holding [u1,u2] (dictSet D u1 u2)) _ _ _;refine Jj (Ap (xs:=xs) (ep:=ep) (j:=j) (v:=v) (by have:A.in1.units=A.units+1:=rfl;omega) I1 ai (sf I1 (dp.pr pr fun _ z=>z)) rk (qC dk'.vw hk) t1 t2 (by rw [nZ dp];have:=IQ;omega) fun ep' s' I' kp=>?_);rw [yU] at I';refine Ib ⟨J0 gZ _,?_⟩;refine ih (i+1) (putD kvs k d) (mn xs k j v) ep' s' (by rw [er'];exact hr) (qJ dp hk dk dd) (by have:=oG (kvs:=kvs) (k:=k) (d:=d);rw [IH] at hn;omega) I' (st'.at fun o e=>kp IT o hDI e) q
end
def rDL (K:Fg):V->Hp->VK->Prop:=fun u H Q=>∃ (a:Addr) (vs:List V) (F:Addr->Prop) (ps:List (PyData×PyData)),u=.ref a/\SqL K H a vs/\Dr K F H ps vs/\ps.length<=1000/\∀ D ep xs,H D=none->DmP K F H (j4 [] ps) xs->Q (.ref D) (upd H D (.dD ep xs))
noncomputable def mX:List PyData->Option (List (PyData×PyData))
 | []=>some []
 | .tuple [k,d] :: r=>if hk6 k=true then (match mX r with | some ps=>some ((k,d) :: ps) | none=>none) else none
 | _ :: _=>none
theorem BY {K:Fg} {F:Addr->Prop} {H:Hp}:∀ {ds:List PyData} {vs:List V} {ps:List (PyData×PyData)},mX ds=some ps->DmL K F H ds vs->Dr K F H ps vs
 | [],vs,ps,h,d=>by cases h;exact d
 | x :: ds,vs,ps,h,hd=>by
  unfold mX at h;split at h
  ·cases ‹_=[]›
  ·rename_i k d r e;cases e;split at h
   ·rename_i hk;split at h
    ·rename_i qs hq;cases h;obtain ⟨v,rs,rfl,h1,h2⟩:=hd;obtain ⟨p,us,rfl,s1,z1,d1⟩:=nR h1;obtain ⟨j,r1,rfl,dj,w,r2,rfl,dw,rfl⟩:=d1;exact ⟨p,j,w,rs,rfl,s1,dj,hk,dw,BY hq h2⟩
    ·cases h
   ·cases h
  ·cases h
noncomputable def lY:Prm:=Prm.one rDL (fun x=>match x with | .list ds=>(match mX ds with | some ps=>if ps.length<=1000 then some (.frs (.dict (j4 [] ps))) else none | none=>none) | _=>none) fun K F H x u pr Q hf hx hd q=>by
 split at hf
 ·rename_i ds;split at hf
  ·rename_i ps hps;split at hf
   ·rename_i hl;cases hf;obtain ⟨a,us,rfl,s1,z1,d1⟩:=mH hx;refine ⟨a,us,F,ps,rfl,s1,BY hps d1,hl,fun D ep xs hD dp=>q _ _ (aA.nw _ hD) ⟨D,rfl,hD,ep,xs,ai,?_,(dp.fresh hD).pr (Pr.of_same (aA.nw _ hD)) fun _ z=>z⟩⟩;rw [nZ dp];have:=me (ps:=ps) (kvs:=[]);have:=IQ;rw [K8] at *;omega
   ·cases hf
  ·cases hf
 ·cases hf
theorem lA {X:Cx} (hu:X.A.units+64 < cLine) (hc:X.calm=true):a8 X (.type "dict") (lY.r X.K):=by
 intro pins s Z H xs us Q I rv q
 match xs,q with
 | [x],q =>
  obtain ⟨l,vs,G,ps,rfl,sq,pv,hl,q⟩:=(show rDL X.K x H Q from q);cases rv with
  | cons r0 r1 =>
  cases r1;have r0:_=Value.ref l:=r0;subst r0;have hD:=I.hok.fresh (Il s.heap.objs.size);have I1:=I.laid (o:=.dD 0 []) (h':=s.heap.push { cls:=.type "dict", data:=.dict #[] }) (t':=s.toks) (fun _ _ q=>Ia _ q) (Il _) (kg s.heap I.big);refine callType_codes (Q₁:=fun obj ZW=>obj=.ref s.heap.objs.size/\ZW={ s with heap:=s.heap.push { cls:=.type "dict", data:=.dict #[] } }) F.kt_called_dict (F.kt_typeCall_dict_1 _) F.entry_dict_init (kt_code_dict_new _ ⟨rfl,rfl⟩) ?_;rintro obj ZW ⟨rfl,rfl⟩;obtain ⟨its,rvl,⟨ol,nl,g1,g2,g3,g4⟩,hz⟩:=I1.list ((aA.nw (.dD 0 []) hD).seq sq);have hT:Shared.TypeIs { s with heap:=s.heap.push { cls:=.type "dict", data:=.dict #[] } } (.ref s.heap.objs.size) "dict" := ⟨_,Im _ rfl,rfl⟩;refine ⟨hT,F.args_dict_init_2 _ _,?_⟩;unfold Builtin.«dict.__init__»
  refine H9 ?_;unfold Builtin.Dict.selfAndRest;refine H9 (wpAny_notOrdered_dict hT ?_);show wpAny _ _ (pure (s.heap.objs.size,[Value.ref l])) _ _ _;refine Ib ?_;show wpAny _ _ (Builtin.Dict.updateFrom "dict.__init__" s.heap.objs.size (.ref l) [] .none) _ _ _;unfold Builtin.Dict.updateFrom;refine H9 (Kh (T := "list") ⟨ol,g1,g2⟩ ?_);rw [Iy (by decide)];have hh:X.A.handled=none:=I.ok.hd hc;refine H9 (yD g1 g2 g4 g3 (by simp [hh]) fun h' tk kp=>?_);rw [Iy (show (none:Option Value).isNone=true from rfl)];have I2:Inv X pins Z (upd H s.heap.objs.size (.dD 0 [])) { s with heap:=h',toks:=tk }:=I1.kept (t':=tk) kp;refine H9 (JJ (H9 (KP (l:=l) ⟨ol,kp _ _ g1,g2,nl,g4⟩ ?_)));refine Ib ⟨J0 gZ _,?_⟩;have I3:Inv X pins Z (upd H s.heap.objs.size (.dD 0 [])) { s with heap:=h'.push { cls:=.type "list_iterator", data:=.fields #[.ref l,.int 0 0] },toks:=tk }:=I2.kept (t':=tk) fun b o e=>Ia _ e;have hsz:s.heap.objs.size < h'.objs.size:=Ij (kp _ _ (Im _ rfl));refine yQ (X:=X) (pins:=pins) (Z:=Z) (H:=H) (F:=G) (D:=s.heap.objs.size) (IT:=h'.objs.size) (l:=l) (vs:=vs) (by have:X.A.in1.units=X.A.units+1:=rfl;omega) (by simp [hh]) hD (Ju hsz) sq (I2.Bw (Il _) (I.hok.fresh (J6 hsz))) ps 0 [] [] 0 _ (by simpa using pv) rfl (by simpa using hl) I3 ⟨_,Im _ rfl,rfl,rfl⟩ fun ep' xs' s' I' dp=>?_;exact ⟨rfl,.ref _,_,I',rfl,q _ ep' xs' hD dp⟩
section
variable {X:Cx} {pins:List (Addr×Obj)} {Z:St} {H:Hp} {s:Shared} {a:Addr} {ep:Nat} {xs:List (PyData×V×V)} {k:PyData} {u:Value} {as:List Addr} {A:Around} {E:Value->Shared->Prop}
def B4 (K:Fg):V->List V->Hp->VK->Prop:=fun o vs H Q=>∃ y z k a ep xs,vs=[y,z]/\Ds K H o y k a ep xs/\Q ((oy xs k).getD z) H
theorem Cz {v:V} {d:Value} {Q:Value->Shared->Prop} (hu:A.units+8 < cLine) (I:Inv X pins Z H s) (e:H a=some (.dD ep xs)) (kr:iq s.heap xs) (hk:Reads s.heap u k as) (ky:kyB k=true) (hv:RelV v d)
  (q:∀ t r,RelV ((oy xs k).getD v) r->Q r { s with toks:=t }):wpAny (model X.prog X.w) A (call (.builtin "dict.get") [.ref a,u,d]) Q E s:=by
 obtain ⟨T,hd⟩:=iO I e;refine Jf PySem.F.slot_dict_get T PySem.F.entry_dict_get ?_ (PySem.F.args_dict_get_3 _ _ _);refine H9 (m:=dictGet a u) (AI (by have:A.in1.units=A.units+1:=rfl;omega) I e kr hk ky fun t ov r=>?_);cases hv':oy xs k with
 | some w =>
  rw [hv'] at r;cases ov with
  | none=>cases r
  | some w'=>exact Ib ⟨_,rfl,q t w' (by rw [hv'];exact r)⟩
 | none =>
  rw [hv'] at r;cases ov with
  | some w'=>cases r
  | none =>
   show wpAny _ _ (Builtin.Dict.missed a u>>=_) _ _ _;exact H9 (wpAny_missed_other hd (Ib ⟨_,rfl,q t d (by rw [hv'];exact hv)⟩))
theorem wZ (hu:X.A.units+64 < cLine):MtR X "dict.get" (B4 X.K):=by
 intro pins s Z H x vs v us Q I rx rv h;obtain ⟨y,z,k,a,ep,xs,rfl,⟨F,kvs,rfl,ea,r,hk,hk6'⟩,q⟩:=h;cases rv with
 | cons ry rv =>
 cases rv with
 | cons rz rv =>
 cases rv;cases rx;obtain ⟨as,rk⟩:=hk.reads I (iI _ (fX.mp hk6').1) ry;exact Cz (by omega) I ea (sf I r) rk (qC hk hk6') rz fun t w rw=>⟨_,_,I.tok _,rw,q⟩
end
noncomputable def FP:PyData->Bool | .dict _=>true | _=>false
def CK (K:Fg):V->Hp->VK->Prop:=fun u H Q=>∃ (a:Addr) (ep:Nat) (xs:List (PyData×V×V)),u=.ref a/\H a=some (.dD ep xs)/\TkX xs/\xs.length<=sizeLine/\∀ D ep',H D=none->Q (.ref D) (upd H D (.dD ep' xs))
noncomputable def zM:Prm:=Prm.one CK (fun x=>match x with | .dict kvs=>if (kvs.all fun p=>EH p.1)=true then some (.frs (.dict kvs)) else none | _=>none) fun K F H x u pr Q hf hx hd q=>by
 split at hf
 ·rename_i kvs;split at hf
  ·rename_i hk;cases hf;obtain ⟨a,rfl,ep,xs,ea,z,dp⟩:=hx;refine ⟨a,ep,xs,rfl,ea,uN dp hk,z,fun D ep' hD=>q _ _ (aA.nw _ hD) ⟨D,rfl,hD,ep',xs,ai,z,?_⟩⟩;exact (dp.fresh hD).pr (Pr.of_same (aA.nw _ hD)) fun _ z=>z
  ·cases hf
 ·cases hf
theorem zC {P:Program} {w:World}:∀ {xs:List (PyData×V×V)} {vs:List (Key×Value)} {es:List DictEntry},VX xs vs->Pairs (az P w) es vs->(∀ e∈es,∃ k,(az P w).is k e.key=true/\e.hash=(az P w).hash k)->Paired (uS w) xs es
 | [],_,_,r,q,_=>by cases r;cases q;exact .nil
 | x :: xs,_,_,r,q,h=>by
  cases r with
  | @cons _ kv _ vs r1 r2 =>
  cases q with
  | @cons e _ es _ h1 h2 h3 =>
   obtain ⟨t,e1,e2,e3,e4⟩:=r1;obtain ⟨k,hk,hh⟩:=h e IE;have ek:k=kv.1:=(az P w).inj _ _ _ hk h1;subst ek;rw [e3] at hk hh;refine .cons ⟨?_,?_,?_⟩ (zC r2 h3 fun e he=>h e (Ip _ he))
   ·rw [hh,e1];exact (mU w (.inr t)).symm
   ·rw [e2];rcases aD (show lC (.inr t) e.key=true from hk) with ⟨i,t',q,_⟩ | ⟨y,t',q,q2⟩
    ·cases q
    ·cases q;exact ⟨t',q2⟩
   ·rw [h2];exact e4
theorem uO {X:Cx}:a8 X (.type "dict") (zM.r X.K):=by
 intro pins s Z H xs us Q I rv q
 match xs,q with
 | [x],q =>
  obtain ⟨a,ep,ys,rfl,ea,tk,z,q⟩:=(show CK X.K x H Q from q);cases rv with
  | cons r0 r1 =>
  cases r1;have r0:_=Value.ref a:=r0;subst r0;obtain ⟨hd,_,vs,r1,dat⟩:=Gb I ea tk;have hlen:vs.length=ys.length:=(J9 r1).symm;refine kt_call_dict (knd:=az X.prog X.w) hd dat.dictOf (by rw [hlen];exact z) fun h' dd' hs=>?_;obtain ⟨o,es,ep',h1,h2,h3,h4,h5,h6⟩:=dd';have hb:(s.heap.objs.size==sysModules)=false:=beq_eq_false_iff_ne.mpr (Ne.symm (Iz I.big));have keep:∀ b u,s.heap.get? b=some u->h'.get? b=some u:=fun b u e=>(hs.2 b (Iz (Ij e))).trans (Ia _ e);refine ⟨.ref _,_,I.laid (t':=s.toks) (o:=.dD ep' ys) keep (Il _) ⟨z,hb,?_,o,es,h1,h2,h3,zC r1 h5 fun e he=>h4 e (Array.mem_toList_iff.mp he)⟩,rfl,q _ ep' (I.hok.fresh (Il _))⟩;rw [nz r1];exact List.Pairwise.map kD (fun _ _ n z=>n (wa z)) h6
structure Kn where
 nx:En->Prop
 rt:RV->En->Prop
 bk:En->Prop
 ct:En->Prop
def Kn.at (E:Kn):Out->Prop | .nx e=>E.nx e | .rt r e=>E.rt r e | .bk e=>E.bk e | .ct e=>E.ct e
def WS (gd:List PyData) (s:XS) (env:En) (E:Kn):Prop:=∃ o,dS gd s env=some o/\E.at o
def WE (gd:List PyData) (e:XE) (env:En) (Q:RV->En->Prop):Prop:=∃ r e',dE gd e env=some (r,e')/\Q r e'
def WA (gd:List PyData) (e:XA) (env:En) (Q:List AV->En->Prop):Prop:=∃ r e',dA gd e env=some (r,e')/\Q r e'
def WT (gd:List PyData) (e:XT) (env:En) (Q:Bool->En->Prop):Prop:=∃ r e',dT gd e env=some (r,e')/\Q r e'
def WI (gd:List PyData) (e:XI) (env:En) (Q:List PyData->Option Nat->En->Prop):Prop:=∃ ds lk e',dI gd e env=some (ds,lk,e')/\Q ds lk e'
def WF (f:Fn) (ds:List PyData) (Q:PR->List PyData->Prop):Prop:=∃ pr outs,f.F ds=some (pr,outs)/\Q pr outs
def WPr (p:Prm) (avs:List AV) (e:En) (Q:RV->En->Prop):Prop:=∃ ds pr,aF e avs=some ds/\p.f ds=some pr/\Q pr.rv e
def Bh (i:Nat) (r:RV) (e:En) (N:En->Prop):Prop:=∃ d,r.av=.dat d/\free e i=true/\N (e.set i (.dat d))
def su (i:Nat) (r:RV) (e:En) (N:En->Prop):Prop:=∃ d,r=.frs d/\free e i=true/\N (e.set i (.own d))
def DA (b:PyData->En->Option Out) (ds:List PyData) (lk:Option Nat) (e1:En) (E:Kn):Prop:=∃ o,forL b ds (bH e1 lk)=some o/\E.at (o.map (lkd e1 lk) (ax e1 lk))
def pT (f:Fn) (avs:List AV) (e:En) (Q:RV->En->Prop):Prop:=∃ rv e',vC f avs e=some (rv,e')/\Q rv e'
def Df (ms:List PM) (QF:PR->List PyData->Prop) (r:RV) (e:En):Prop:=∃ pr outs,r.pr=some pr/\iX ms e=some outs/\QF pr outs
def uo (ms:List PM) (QF:PR->List PyData->Prop) (e:En):Prop:=∃ outs,iX ms e=some outs/\QF (.dat .none) outs
def zx (m:wc) (i:Nat) (v:PyData) (rk:RV) (e2:En) (N:En->Prop):Prop:=∃ dk d d',rk.view e2=some dk/\aR e2 i=some d/\m.f d dk v=some d'/\N (gG e2 i d')
def Dw (gd:List PyData) (m:wc) (i:Nat) (a:XE) (r:RV) (e:En) (N:En->Prop):Prop:=∃ v,r.av=.dat v/\(aR e i).isSome=true/\WE gd a e fun rk e2=>zx m i v rk e2 N
def Dg (m:Mtd) (r:RV) (avs:List AV) (e2:En) (Q:RV->En->Prop):Prop:=∃ d ds pr,r.view e2=some d/\aF e2 avs=some ds/\m.f d ds=some pr/\Q pr.rv e2
def Du (gd:List PyData) (m:Mtd) (as:XA) (r:RV) (e:En) (Q:RV->En->Prop):Prop:=∃ d0,r.view e=some d0/\m.ty d0=true/\WA gd as e fun avs e2=>Dg m r avs e2 Q
def WMr (m:Mtr) (i:Nat) (avs:List AV) (e2:En) (Q:RV->En->Prop):Prop:=∃ d ds d' x,aR e2 i=some d/\e6 e2 avs=some ds/\m.f d ds=some (d',x)/\Q (.dat x) (gG e2 i d')
def WTp (mk:List PyData->RV) (avs:List AV) (e:En) (Q:RV->En->Prop):Prop:=∃ ds,mh avs=some ds/\ds.length<=sizeLine/\Q (mk ds) e
def Dh (is:List Nat) (r:RV) (e:En) (N:En->Prop):Prop:=∃ ds e2,r.av=.dat (.tuple ds)/\fz e is ds=some e2/\N e2
section
variable {gd:List PyData} {env e1:En} {E:Kn} {Q:RV->En->Prop} {QA:List AV->En->Prop} {QT:Bool->En->Prop} {QI:List PyData->Option Nat->En->Prop} {i:Nat} {d:PyData} {a b c:XE} {as:XA} {s t:XS} {p:Prm} {f:Fn} {x y:XT}
theorem hG {ms:List PM} {n:Nat} {ds:List PyData} {QF:PR->List PyData->Prop} (hl:ds.length=ms.length) (h:WS gd s (ak ms ds n) ⟨uo ms QF,Df ms QF,fun _=>False,fun _=>False⟩):WF (c8 gd ms n s) ds QF:=by
 obtain ⟨o,ho,q⟩:=h;unfold WF c8;simp only;rw [Iy hl,ho];cases o with
 | nx e=>obtain ⟨outs,h1,h2⟩:=q;simp only [h1];exact ⟨_,_,rfl,h2⟩
 | rt r e=>obtain ⟨pr,outs,h1,h2,h3⟩:=q;simp only [h1,h2];exact ⟨_,_,rfl,h3⟩
 | bk e=>exact absurd q id
 | ct e=>exact absurd q id
theorem Bn (h:WS gd s env { E with nx:=fun e=>WS gd t e E }):WS gd (.seq s t) env E:=by
 obtain ⟨o,ho,q⟩:=h;unfold WS;simp only [dS,ho];cases o with
 | nx e=>exact q
 | rt r e=>exact ⟨_,rfl,q⟩
 | bk e=>exact ⟨_,rfl,q⟩
 | ct e=>exact ⟨_,rfl,q⟩
theorem zG (h:∀ N:En->Prop,N=(fun e=>WS gd t e E)->WS gd s env { E with nx:=N }):WS gd (.seq s t) env E:=Bn (h _ rfl)
theorem zl {e:En} {x y:AV} {i:Int} {xs:List PyData} (h1:aF e [x,y]=some [.list xs,.int i]) (h:atI xs i=some d) (q:Q (.dat d) e):WPr ixP [x,y] e Q:=⟨_,.dat d,h1,by show (atI xs i).map PR.dat=_;rw [h];rfl,q⟩
theorem p5 {e:En} {x y:AV} {i:Int} {xs:List PyData} (h1:aF e [x,y]=some [.tuple xs,.int i]) (h:atI xs i=some d) (q:Q (.dat d) e):WPr ixP [x,y] e Q:=⟨_,.dat d,h1,by show (atI xs i).map PR.dat=_;rw [h];rfl,q⟩
theorem FU {e:En} {x y:AV} {i:Int} {z:Str} {c:Nat} (h1:aF e [x,y]=some [.str z,.int i]) (h:atI z.cps.toList i=some c) (q:Q (.dat (.str ⟨#[c]⟩)) e):WPr ixP [x,y] e Q:=⟨_,.dat (.str ⟨#[c]⟩),h1,by show (atI z.cps.toList i).map _=_;rw [h];rfl,q⟩
theorem Ay (h:E.nx env):WS gd .skip env E:=⟨_,rfl,h⟩
theorem DC (h:E.bk env):WS gd .brk env E:=⟨_,rfl,h⟩
theorem DQ (h:E.ct env):WS gd .cnt env E:=⟨_,rfl,h⟩
theorem B6 (h:E.rt (.dat .none) env):WS gd .Dp env E:=⟨_,rfl,h⟩
theorem Ck (h:WE gd a env fun r e=>Bh i r e E.nx):WS gd (.c7 i a) env E:=by
 obtain ⟨r,e',h1,d,h2,h3,h4⟩:=h;unfold WS;simp only [dS,h1,h2];rw [Iy h3];exact ⟨_,rfl,h4⟩
theorem Cv (h:WE gd a env fun r e=>su i r e E.nx):WS gd (.mW i a) env E:=by
 obtain ⟨r,e',h1,d,rfl,h3,h4⟩:=h;unfold WS;simp only [dS,h1];rw [Iy h3];exact ⟨_,rfl,h4⟩
theorem A2 {is:List Nat} (h:WE gd a env fun r e=>Dh is r e E.nx):WS gd (.Cc is a) env E:=by
 obtain ⟨r,e',h1,ds,e2,h2,h3,h4⟩:=h;unfold WS;simp only [dS,h1,h2,h3];exact ⟨_,rfl,h4⟩
theorem Bx (h:WE gd a env fun _ e=>E.nx e):WS gd (.drop a) env E:=by
 obtain ⟨r,e',h1,h2⟩:=h;unfold WS;simp only [dS,h1];exact ⟨_,rfl,h2⟩
theorem E6 (h:WE gd a env E.rt):WS gd (.ret a) env E:=by
 obtain ⟨r,e',h1,h2⟩:=h;unfold WS;simp only [dS,h1];exact ⟨_,rfl,h2⟩
theorem Fi (h:WT gd x env fun b e=>if b=true then WS gd s e E else WS gd t e E):WS gd (.ifs x s t) env E:=by
 obtain ⟨b,e',h1,h2⟩:=h;unfold WS;simp only [dS,h1];cases b with
 | true=>exact h2
 | false=>exact h2
theorem Hv {it:XI} (h:WI gd it env fun ds lk e=>DA (jS i (dS gd s)) ds lk e E):WS gd (.fr i it s) env E:=by
 obtain ⟨ds,lk,e',h1,o,h2,h3⟩:=h;unfold WS;simp only [dS,h1,h2];exact ⟨_,rfl,h3⟩
theorem Fv {is:List Nat} {it:XI} (h:WI gd it env fun ds lk e=>DA (ja is (dS gd s)) ds lk e E):WS gd (.frT is it s) env E:=by
 obtain ⟨ds,lk,e',h1,o,h2,h3⟩:=h;unfold WS;simp only [dS,h1,h2];exact ⟨_,rfl,h3⟩
theorem Eo {m:wc} (h:WE gd b env fun r e=>Dw gd m i a r e E.nx):WS gd (.sto m i a b) env E:=by
 obtain ⟨r,e',h1,v,h2,h3,rk,e2,h4,dk,d,d',h5,h6,h7,h8⟩:=h;obtain ⟨d0,hd0⟩:=Option.isSome_iff_exists.mp h3;unfold WS;simp only [dS,h1,h2,hd0,h4,h5,h6,h7];exact ⟨_,rfl,h8⟩
theorem w_var (h:env[i]?=some (.dat d)) (q:Q (.dat d) env):WE gd (.var i) env Q:=⟨_,_,by simp only [dE,h],q⟩
theorem CS (h:env[i]?=some (.own d)) (q:Q (.bor i) env):WE gd (.var i) env Q:=⟨_,_,by simp only [dE,h],q⟩
theorem Bj (h:env[i]?=some (.ino d)) (q:Q (.bor i) env):WE gd (.var i) env Q:=⟨_,_,by simp only [dE,h],q⟩
theorem CC (h:env[i]?=some (.ro d)) (q:Q (.bor i) env):WE gd (.var i) env Q:=⟨_,_,by simp only [dE,h],q⟩
theorem DF (h:env[i]?=some (.own d)) (q:Q (.dat d) (env.set i (.dat d))):WE gd (.mov i) env Q:=⟨_,_,by simp only [dE,h],q⟩
theorem DX (h:env[i]?=some (.own d)) (q:Q (.frs d) (env.set i .un)):WE gd (.tke i) env Q:=⟨_,_,by simp only [dE,h],q⟩
theorem D7 {c:Cst} (q:Q (.dat c.d) env):WE gd (.cst c) env Q:=⟨_,_,rfl,q⟩
theorem E8 {g:Nat} (h:gd[g]?=some d) (q:Q (.dat d) env):WE gd (.glb g) env Q:=⟨_,_,by simp only [dE,h],q⟩
theorem Fs (h:WA gd as env fun avs e=>WPr p avs e Q):WE gd (.prm p as) env Q:=by
 obtain ⟨avs,e',h1,ds,pr,h2,h3,h4⟩:=h;exact ⟨_,_,by simp only [dE,h1,h2,h3],h4⟩
theorem Bu (h:WA gd as env fun avs e=>pT f avs e Q):WE gd (.call f as) env Q:=by
 obtain ⟨avs,e',h1,rv,e2,h2,h3⟩:=h;exact ⟨_,_,by simp only [dE,h1];exact h2,h3⟩
theorem ah {avs:List AV} {ds:List PyData} {is:List Nat} (h1:jw e1 f.ms avs=some ds) (h2:cJ f.ms avs=is) (h:WF f ds fun pr outs=>ckA is (sR f.ms avs) outs.length=true/\Q pr.rv (da e1 is outs)):pT f avs e1 Q:=by
 obtain ⟨pr,outs,h3,h4,h5⟩:=h;subst h2;unfold pT vC;simp only [h1,h3];rw [Iy h4];exact ⟨_,_,rfl,h5⟩
theorem FI {m:Mtd} {o:XE} (h:WE gd o env fun r e=>Du gd m as r e Q):WE gd (.met m o as) env Q:=by
 obtain ⟨r,e',h1,d0,h2,h3,avs,e2,h4,d,ds,pr,h5,h6,h7,h8⟩:=h;exact ⟨_,_,by simp only [dE,h1,h2];rw [Iy h3];simp only [h4,h5,h6,h7],h8⟩
theorem DV {m:Mtr} (h0:aR env i=some d) (h1:m.ty d=true) (h:WA gd as env fun avs e2=>WMr m i avs e2 Q):WE gd (.mtr m i as) env Q:=by
 obtain ⟨avs,e2,h4,d,ds,d',x,h5,h6,h7,h8⟩:=h;exact ⟨_,_,by simp only [dE,h0];rw [Iy h1];simp only [h4,h5,h6,h7],h8⟩
theorem AJ (h:WA gd as env fun avs e=>WTp (fun ds=>.dat (.tuple ds)) avs e Q):WE gd (.tup as) env Q:=by
 obtain ⟨avs,e2,h4,ds,h5,h6,h7⟩:=h;exact ⟨_,_,by simp only [dE,h4,h5];rw [Iy h6],h7⟩
theorem Co (h:WA gd as env fun avs e=>WTp (fun ds=>.frs (.list ds)) avs e Q):WE gd (.lst as) env Q:=by
 obtain ⟨avs,e2,h4,ds,h5,h6,h7⟩:=h;exact ⟨_,_,by simp only [dE,h4,h5];rw [Iy h6],h7⟩
theorem FJ (h:WT gd x env fun k e=>if k=true then WE gd a e Q else WE gd b e Q):WE gd (.ifx x a b) env Q:=by
 obtain ⟨k,e',h1,h2⟩:=h;unfold WE;simp only [dE,h1];cases k with
 | true=>exact h2
 | false=>exact h2
theorem BJ (h:WE gd a env fun r e=>∃ k,r=.dat (.bool k)/\if k=true then WE gd b e Q else Q (.dat (.bool false)) e):WE gd (.nc a b) env Q:=by
 obtain ⟨r,e',h1,k,rfl,h2⟩:=h;unfold WE;cases k with
 | true=>simp only [dE,h1];exact h2
 | false=>simp only [dE,h1];exact ⟨_,_,rfl,h2⟩
theorem Gf (h:WE gd a env fun r e=>∃ k,r=.dat (.bool k)/\if k=true then Q (.dat (.bool true)) e else WE gd b e Q):WE gd (.orv a b) env Q:=by
 obtain ⟨r,e',h1,k,rfl,h2⟩:=h;unfold WE;cases k with
 | true=>simp only [dE,h1];exact ⟨_,_,rfl,h2⟩
 | false=>simp only [dE,h1];exact h2
theorem Al (h:WE gd a env fun r e=>∃ k,r=.dat (.bool k)/\Q (.dat (.bool (!k))) e):WE gd (.ud a) env Q:=by
 obtain ⟨r,e',h1,k,rfl,h2⟩:=h;exact ⟨_,_,by simp only [dE,h1],h2⟩
theorem Gg {p':Prm} (h:WE gd a env fun r e=>WE gd b e fun r2 e2=>∃ x y k,r.av=.dat x/\r2.av=.dat y/\p.f [x,y]=some (.dat (.bool k))/\if k=true then WE gd c e2 fun r3 e3=>∃ z pr,r3.av=.dat z/\p'.f [y,z]=some pr/\Q pr.rv e3 else Q (.dat (.bool false)) e2):WE gd (.chn p p' a b c) env Q:=by
 obtain ⟨r,e',h1,r2,e2,h2,x,y,k,h3,h4,h5,h6⟩:=h;unfold WE;cases k with
 | true =>
  rw [Iy rfl] at h6;obtain ⟨r3,e3,h7,z,pr,h8,h9,h10⟩:=h6;simp only [dE,h1,h2,h3,h4,h5,h7,h8,h9];exact ⟨_,_,rfl,h10⟩
 | false =>
  rw [ID (by decide)] at h6;simp only [dE,h1,h2,h3,h4,h5];exact ⟨_,_,rfl,h6⟩
theorem EF {g:Int->Int->Prm} (h:WE gd a env fun r e=>WE gd b e fun r2 e2=>∃ i,r2=.dat (.int i)/\WE gd c e2 fun r3 e3=>∃ j,r3=.dat (.int j)/\∃ d pr,r.view e3=some d/\(g i j).f [d]=some pr/\Q pr.rv e3):WE gd (.sl2 g a b c) env Q:=by
 obtain ⟨r,e',h1,r2,e2,h2,i,rfl,r3,e3,h3,j,rfl,d,pr,h4,h5,h6⟩:=h;exact ⟨_,_,by simp only [dE,h1,h2,h3,h4,h5],h6⟩
theorem FO {ps:XP} (h:∃ kvs e1,dP gd ps env=some (kvs,e1)/\kvs.length<=15/\Q (.frs (.dict (kvs.foldl (fun acc kv=>putD acc (kD kv.1) kv.2) []))) e1):WE gd (.dsp ps) env Q:=by
 obtain ⟨x,e1,h1,h2,h3⟩:=h;exact ⟨_,_,by simp only [dE,h1];rw [Iy h2],h3⟩
def AW (st:PyData->En->Option (Option PyData×En)) (js:List Nat) (ds:List PyData) (lk:Option Nat) (e1:En) (Q:RV->En->Prop):Prop :=
 ∃ ys ec,uf st ds (cO e1 lk js)=some (ys,ec)/\Q (.frs (.list ys)) (aM e1 js ec)
theorem EX {js:List Nat} {it:XI} (hn:yZ js=true) (h:WI gd it env fun ds lk e1=>AW (iA (dT gd x) (dE gd a)) js ds lk e1 Q):WE gd (.cmp js it x a) env Q:=by
 obtain ⟨ds,lk,e1,h1,ys,ec,h2,h3⟩:=h;refine ⟨_,_,?_,h3⟩;simp only [dE,h1];rw [Iy (gQ hn),h2]
theorem zI {n:List Str} {js:List Nat} {it:XI} (hn:yZ js=true) (h:WI gd it env fun ds lk e1=>AW (fB n.length (dE gd a)) js ds lk e1 Q):WE gd (.zd n js it a) env Q:=by
 obtain ⟨ds,lk,e1,h1,ys,ec,h2,h3⟩:=h;refine ⟨_,_,?_,h3⟩;simp only [dE,h1];rw [Iy (gQ hn),h2]
def nv (st:PyData->En->Option (Option PyData×En)) (d:PyData) (ec:En) (Q:Option PyData->En->Prop):Prop:=∃ y e,st d ec=some (y,e)/\Q y e
theorem cf {QS:Option PyData->En->Prop} {ec:En} (h:WT gd x (.dat d :: ec) fun k e2=>if k=true then WE gd a e2 fun r e3=>∃ y,r.av=.dat y/\QS (some y) e3.tail else QS none e2.tail):nv (iA (dT gd x) (dE gd a)) d ec QS:=by
 obtain ⟨k,e2,h1,h2⟩:=h;unfold nv iA;rw [h1];cases k with
 | true =>
  rw [Iy rfl] at h2;obtain ⟨r,e3,h3,y,h4,h5⟩:=h2;simp only [h3,h4];exact ⟨_,_,rfl,h5⟩
 | false =>
  rw [ID (by decide)] at h2;exact ⟨_,_,rfl,h2⟩
theorem yE {QS:Option PyData->En->Prop} {ec:En} {n:Nat} {xs:List PyData} (hl:xs.length=n) (h:WE gd a (xs.map .dat++ec) fun r e3=>∃ y,r.av=.dat y/\QS (some y) (e3.drop n)):nv (fB n (dE gd a)) (.tuple xs) ec QS:=by
 obtain ⟨r,e3,h3,y,h4,h5⟩:=h;unfold nv fB;simp only;rw [Iy hl];simp only [h3,h4];exact ⟨_,_,rfl,h5⟩
theorem rG {st:PyData->En->Option (Option PyData×En)} {js:List Nat} {ds:List PyData} {lk:Option Nat} (Inv:Nat->List PyData->En->Prop) (h0:Inv 0 [] (cO e1 lk js))
  (hs:∀ i d ys ec,ds[i]?=some d->Inv i ys ec->nv st d ec fun y e=>Inv (i+1) (ys++y.toList) e)
  (hq:∀ ys ec,Inv ds.length ys ec->Q (.frs (.list ys)) (aM e1 js ec)):AW st js ds lk e1 Q:=by
 have key:∀ (rest:List PyData) (i:Nat) (ys:List PyData) (ec:En),ds.drop i=rest->i<=ds.length->Inv i ys ec->∃ zs ec',uf st rest ec=some (zs,ec')/\Inv ds.length (ys++zs) ec':=by
  intro rest;induction rest with
  | nil =>
   intro i ys ec hd hi hI;have:ds.length<=i:=Ku.mp hd;have:i=ds.length:=by omega
   subst this;exact ⟨[],ec,rfl,by rw [Jy];exact hI⟩
  | cons d rest ih =>
   intro i ys ec hd hi hI;have hlt:i < ds.length:=by
    apply Classical.byContradiction;intro h;rw [Ku.mpr (by omega)] at hd;cases hd
   rw [KO hlt] at hd;injection hd with hd1 hd2;obtain ⟨y,e,h1,h2⟩:=hs i d ys ec (by rw [Ie hlt,hd1]) hI;obtain ⟨zs,ec',h3,h4⟩:=ih (i+1) _ e hd2 hlt h2;refine ⟨y.toList++zs,ec',?_,by rw [<- KU];exact h4⟩;unfold uf;simp only [h1,h3]
 obtain ⟨zs,ec,h1,h2⟩:=key ds 0 [] _ rfl (JD _) h0;exact ⟨zs,ec,h1,hq zs ec h2⟩
def WB (b:PyData->En->Option Out) (d:PyData) (e:En) (E:Kn):Prop:=∃ o,b d e=some o/\E.at o
theorem FR {e:En} (hf:free e i=true) (h:WS gd s (e.set i (.dat d)) E):WB (jS i (dS gd s)) d e E:=by
 obtain ⟨o,h1,h2⟩:=h;exact ⟨o,by unfold jS;rw [Iy hf];exact h1,h2⟩
theorem A3 {e e2:En} {is:List Nat} {xs:List PyData} (hf:fz e is xs=some e2) (h:WS gd s e2 E):WB (ja is (dS gd s)) (.tuple xs) e E:=by
 obtain ⟨o,h1,h2⟩:=h;exact ⟨o,by unfold ja;simp only [hf];exact h1,h2⟩
theorem fP {b:PyData->En->Option Out} {ds:List PyData} {lk:Option Nat} (Inv:Nat->En->Prop) (h0:Inv 0 (bH e1 lk))
  (hs:∀ i d e,ds[i]?=some d->Inv i e->WB b d e ⟨Inv (i+1),fun r e=>E.rt (r.soft (lkd e1 lk)) (ax e1 lk e),fun e=>E.nx (ax e1 lk e),Inv (i+1)⟩)
  (hq:∀ e,Inv ds.length e->E.nx (ax e1 lk e)):DA b ds lk e1 E:=by
 have key:∀ (rest:List PyData) (i:Nat) (e:En),ds.drop i=rest->i<=ds.length->Inv i e->∃ o,forL b rest e=some o/\E.at (o.map (lkd e1 lk) (ax e1 lk)):=by
  intro rest;induction rest with
  | nil =>
   intro i e hd hi hI;have:ds.length<=i:=Ku.mp hd;have:i=ds.length:=by omega
   subst this;exact ⟨_,rfl,hq e hI⟩
  | cons d rest ih =>
   intro i e hd hi hI;have hlt:i < ds.length:=by
    apply Classical.byContradiction;intro h;rw [Ku.mpr (by omega)] at hd;cases hd
   rw [KO hlt] at hd;injection hd with hd1 hd2;obtain ⟨o,h1,h2⟩:=hs i d e (by rw [Ie hlt,hd1]) hI;unfold forL;simp only [h1];cases o with
   | nx e'=>exact ih (i+1) e' hd2 hlt h2
   | ct e'=>exact ih (i+1) e' hd2 hlt h2
   | bk e'=>exact ⟨_,rfl,h2⟩
   | rt r e'=>exact ⟨_,rfl,h2⟩
 exact key ds 0 _ rfl (JD _) h0
theorem Et (q:QA [] env):WA gd .nil env QA:=⟨_,_,rfl,q⟩
theorem Ad (h:WE gd a env fun r e=>WA gd as e fun avs e2=>QA (r.av :: avs) e2):WA gd (.cons a as) env QA:=by
 obtain ⟨r,e',h1,avs,e2,h2,h3⟩:=h;exact ⟨_,_,by simp only [dA,h1,h2],h3⟩
theorem Ge (h:WE gd a env fun r e=>∃ k,r=.dat (.bool k)/\QT k e):WT gd (.tst a) env QT:=by
 obtain ⟨r,e',h1,k,rfl,h2⟩:=h;exact ⟨_,_,by simp only [dT,h1],h2⟩
theorem Fh (h:WE gd a env fun r e=>∃ d,r.view e=some d/\DO d=false/\QT (F3 d) e):WT gd (.tru a) env QT:=by
 obtain ⟨r,e',h1,d,h2,h4,h3⟩:=h;exact ⟨_,e',by simp only [dT,h1,h2,h4];rfl,h3⟩
theorem w_and (h:WT gd x env fun k e=>if k=true then WT gd y e QT else QT false e):WT gd (.and x y) env QT:=by
 obtain ⟨k,e',h1,h2⟩:=h;unfold WT;cases k with
 | true=>simp only [dT,h1];exact h2
 | false=>simp only [dT,h1];exact ⟨_,_,rfl,h2⟩
theorem w_or (h:WT gd x env fun k e=>if k=true then QT true e else WT gd y e QT):WT gd (.or x y) env QT:=by
 obtain ⟨k,e',h1,h2⟩:=h;unfold WT;cases k with
 | true=>simp only [dT,h1];exact ⟨_,_,rfl,h2⟩
 | false=>simp only [dT,h1];exact h2
theorem w_not (h:WT gd x env fun k e=>QT (!k) e):WT gd (.not x) env QT:=by
 obtain ⟨k,e',h1,h2⟩:=h;exact ⟨_,_,by simp only [dT,h1],h2⟩
theorem DR (h:QT true env):WT gd .yes env QT:=⟨_,_,rfl,h⟩
def An (r:RV) (e:En) (QI:List PyData->Option Nat->En->Prop):Prop:=(∃ ds,r.av=.dat (.list ds)/\QI ds none e)\/∃ i ds,r.av=.bor i/\cont e i=some (.list ds)/\QI ds (some i) e
theorem GZ (h:WE gd a env fun r e=>An r e QI):WI gd (.lst a) env QI:=by
 obtain ⟨r,e',h1,⟨ds,h2,h3⟩ | ⟨i,ds,h2,h3,h4⟩⟩:=h
 ·exact ⟨_,_,_,by simp only [dI,h1,h2],h3⟩
 ·exact ⟨_,_,_,by simp only [dI,h1,h2,h3],h4⟩
theorem fN {r:RV} {e:En} {ds:List PyData} (h:r.av=.dat (.list ds)) (q:QI ds none e):An r e QI:=.inl ⟨ds,h,q⟩
theorem HE (h:WE gd a env fun r e=>∃ ds,r.av=.dat (.tuple ds)/\QI ds none e):WI gd (.tup a) env QI:=by
 obtain ⟨r,e',h1,ds,h2,h3⟩:=h;exact ⟨_,_,_,by simp only [dI,h1,h2],h3⟩
def WSq (r:RV) (e:En) (QI:List PyData->Option Nat->En->Prop):Prop:=An r e QI\/∃ ds,r.av=.dat (.tuple ds)/\QI ds none e
theorem Hh (h:WE gd a env fun r e=>WSq r e QI):WI gd (.sq a) env QI:=by
 obtain ⟨r,e',h1,(⟨ds,h2,h3⟩ | ⟨i,ds,h2,h3,h4⟩) | ⟨ds,h2,h3⟩⟩:=h
 ·exact ⟨_,_,_,by simp only [dI,h1,h2],h3⟩
 ·exact ⟨_,_,_,by simp only [dI,h1,h2,h3],h4⟩
 ·exact ⟨_,_,_,by simp only [dI,h1,h2],h3⟩
theorem Hs (h:WE gd a env fun r e=>∃ z,r.av=.dat (.str z)/\QI (z.cps.toList.map fun c=>.str ⟨#[c]⟩) none e):WI gd (.str a) env QI:=by
 obtain ⟨r,e',h1,ds,h2,h3⟩:=h;exact ⟨_,_,_,by simp only [dI,h1,h2],h3⟩
theorem He (h:WA gd as env fun avs e=>∃ j:Int,avs=[.dat (.int j)]/\(-(2 ^ 62)<=j/\j<=2 ^ 24)/\QI ((List.range j.toNat).map fun (k:Nat)=>.int ((0:Int)+(k:Int))) none e):WI gd (.rng1 as) env QI:=by
 obtain ⟨r,e',h1,j,rfl,h2,h3⟩:=h;exact ⟨_,_,_,by simp only [dI,h1];rw [Iy h2],h3⟩
end
theorem uH {e:En} {i:Nat} {s:Sl} (h:e[i]?=some s) (q:soft s):free e i=true:=by
 unfold free;rw [h];cases s with
 | ino d=>exact absurd rfl (q.1 d)
 | ro d=>exact absurd rfl (q.2 d)
 | _=>rfl
theorem Fz:soft .un:=⟨fun _=>nofun,fun _=>nofun⟩
theorem EU {d:PyData}:soft (.dat d):=⟨fun _=>nofun,fun _=>nofun⟩
theorem Fy {d:PyData}:soft (.own d):=⟨fun _=>nofun,fun _=>nofun⟩
theorem F4 {e:En} {i:Nat} {avs:List AV} {xs:List PyData} {d:PyData} {Q:RV->En->Prop} (h1:aR e i=some (.list xs)) (h2:xs.length < sizeLine) (h3:e6 e avs=some [(true,d)]) (q:Q (.dat .none) (gG e i (.list (xs++[d])))):WMr C6 i avs e Q :=
 ⟨_,_,.list (xs++[d]),.none,h1,h3,by show (if xs.length < sizeLine then _ else _)=_;rw [Iy h2],q⟩
theorem vV {e:En} {x y:AV} {xs ys:List PyData} {Q:RV->En->Prop} (h1:aF e [x,y]=some [.list xs,.list ys]) (h2:xs.length+ys.length<=sizeLine) (q:Q (.frs (.list (xs++ys))) e):WPr cy [x,y] e Q :=
 ⟨_,.frs (.list (xs++ys)),h1,by show (if xs.length+ys.length<=sizeLine then _ else _)=_;rw [Iy h2],q⟩
theorem wI {e:En} {x y:AV} {xs ys:Str} {Q:RV->En->Prop} (h1:aF e [x,y]=some [.str xs,.str ys]) (h2:xs.length+ys.length<=sizeLine) (q:Q (.dat (.str (xs++ys))) e):WPr cy [x,y] e Q :=
 ⟨_,.dat (.str (xs++ys)),h1,by show (if xs.length+ys.length<=sizeLine then _ else _)=_;rw [Iy h2],q⟩
theorem w_eq {e:En} {x y:AV} {d d':PyData} {Q:RV->En->Prop} (h1:aF e [x,y]=some [d,d']) (h2:gU d=true) (h3:gU d'=true) (q:Q (.dat (.bool (PyData.eqv d d'))) e):WPr eqP [x,y] e Q :=
 ⟨_,.dat (.bool (PyData.eqv d d')),h1,by show (if gU d=true/\gU d'=true then _ else _)=_;rw [Iy ⟨h2,h3⟩];rfl,q⟩
theorem HG {e:En} {x y:AV} {d d':PyData} {Q:RV->En->Prop} (h1:aF e [x,y]=some [d,d']) (h2:gU d=true) (h3:gU d'=true) (q:Q (.dat (.bool (!PyData.eqv d d'))) e):WPr neP [x,y] e Q :=
 ⟨_,.dat (.bool (!PyData.eqv d d')),h1,by show (if gU d=true/\gU d'=true then _ else _)=_;rw [Iy ⟨h2,h3⟩];rfl,q⟩
theorem jX {n i:Nat} {d:PyData} (h:((List.range n).map fun (k:Nat)=>PyData.int ((0:Int)+(k:Int)))[i]?=some d):d=.int i/\i < n:=by
 rw [Ik] at h;cases q:(List.range n)[i]? with
 | none=>rw [q] at h;cases h
 | some j =>
  rw [q] at h;obtain ⟨hi,e⟩:=Ih.mp q;rw [JR] at hi;have:j=i:=by rw [<- e];simp
  subst this;cases h;exact ⟨by simp,hi⟩
theorem kP {α:Type} {xs:List α} {k:Int} (h:0<=k):cutD xs none (some k)=xs.take k.toNat:=by
 unfold cutD;simp only [HT.sIx,List.drop_zero,Nat.sub_zero];rw [ID (by omega)];by_cases z:k.toNat<=xs.length
 ·congr 1;omega
 ·rw [Kk (by omega),Kk (by omega)]
theorem d7:∀ {ds:List PyData},gb ds=true↔∀ d∈ds,noD d=true
 | []=>by simp [gb]
 | d :: ds=>by simp [gb,d7 (ds:=ds)]
theorem sJ {d:PyData} (h1:noD d=true) (h2:d.depth<=64):gU d=true:=by simp [gU,h1,h2]
section
variable {gd:List PyData} {env e1:En} {Q:RV->En->Prop} {a:XE} {as:XA}
theorem C1 {x:AV} {i:Int} (h1:aF e1 [x]=some [.int i]) (h2:i.natAbs < 10 ^ 400) (q:Q (.dat (.str (jU i))) e1):WPr Ef [x] e1 Q :=
 ⟨_,.dat (.str (jU i)),h1,by show (if i.natAbs < 10 ^ 400 then _ else _)=_;rw [Iy h2],q⟩
theorem qW {e:En} {x y:AV} {z:PyData} {xs ys:List PyData} (h1:aF e [x,y]=some [.tuple (z :: xs),.tuple ys]) (h2:(z :: xs).length+ys.length<=sizeLine) (q:Q (.dat (.tuple ((z :: xs)++ys))) e):WPr cy [x,y] e Q :=
 ⟨_,.dat (.tuple ((z :: xs)++ys)),h1,by show (if (z :: xs).length+ys.length<=sizeLine then _ else _)=_;rw [Iy h2],q⟩
theorem xO {e:En} {x y:AV} {i:Int} {xs:List PyData} (h1:aF e [x,y]=some [.tuple xs,.int i]) (h0:0 < i) (h2:i.toNat<=xs.length) (q:Q (.dat (.tuple (xs.drop i.toNat))) e):WPr ub [x,y] e Q:=by
 refine ⟨_,.dat (.tuple (xs.drop i.toNat)),h1,?_,q⟩;show (if HT.sIx xs.length 0 (some i)=0/\HT.sIx xs.length xs.length none=xs.length then none else some (PR.dat (.tuple (cutD xs (some i) none))))=_;have e1:HT.sIx xs.length 0 (some i)=i.toNat:=by
  simp only [HT.sIx];rw [ID (by omega)];omega
 rw [ID (by rw [e1];omega)];unfold cutD;rw [e1];have:HT.sIx xs.length xs.length none=xs.length:=rfl;rw [this,Kk (by rw [JX];omega)]
end
theorem jy:∀ bs:List Bool,iW (bs.map .bool)=some bs
 | []=>rfl
 | b :: bs=>by
  rw [List.map_cons];unfold iW;rw [jy bs]
def qf:List (Option Sl)->En->Prop
 | [],e=>e=[]
 | some s :: r,e=>∃ e',qf r e'/\e=s :: e'
 | none :: r,e=>∃ x e',soft x/\qf r e'/\e=x :: e'
def u7:List (Option Sl)->(En->Prop)->Prop
 | [],P=>P []
 | some s :: ts,P=>u7 ts fun e=>P (s :: e)
 | none :: ts,P=>∀ s,soft s->u7 ts fun e=>P (s :: e)
theorem qf.out:∀ {ts:List (Option Sl)} {e:En} {P:En->Prop},qf ts e->u7 ts P->P e
 | [],_,_,h,q=>by cases (show _=_ from h);exact q
 | some s :: ts,e,P,h,q=>by obtain ⟨r,hr,rfl⟩:=h;exact hr.out (P:=fun e=>P (s :: e)) q
 | none :: ts,e,P,h,q=>by obtain ⟨s,r,hs,hr,rfl⟩:=h;exact hr.out (P:=fun e=>P (s :: e)) (q s hs)
section
variable {gd:List PyData} {e e':En} {E:Kn} {Q:RV->En->Prop} {QA:List AV->En->Prop} {QT:Bool->En->Prop} {QI:List PyData->Option Nat->En->Prop} {N:En->Prop} {i:Nat} {r:RV}
theorem AB (h:e=e') (q:Bh i r e' N):Bh i r e N:=h▸q
theorem xm (h:e=e') (q:su i r e' N):su i r e N:=h▸q
theorem zP {is:List Nat} (h:e=e') (q:Dh is r e' N):Dh is r e N:=h▸q
theorem HM {as:XA} (h:e=e') (q:WA gd as e' QA):WA gd as e QA:=h▸q
theorem Hy {a:XE} (h:e=e') (q:WE gd a e' Q):WE gd a e Q:=h▸q
theorem HK {s:XS} (h:e=e') (q:WS gd s e' E):WS gd s e E:=h▸q
theorem Hl {t:XT} (h:e=e') (q:WT gd t e' QT):WT gd t e QT:=h▸q
theorem HP {t:XI} (h:e=e') (q:WI gd t e' QI):WI gd t e QI:=h▸q
theorem EK {p:Prm} {avs:List AV} (h:e=e') (q:WPr p avs e' Q):WPr p avs e Q:=h▸q
theorem yH {f:Fn} {avs:List AV} (h:e=e') (q:pT f avs e' Q):pT f avs e Q:=h▸q
theorem ED {mk:List PyData->RV} {avs:List AV} (h:e=e') (q:WTp mk avs e' Q):WTp mk avs e Q:=h▸q
theorem DS {m:Mtr} {avs:List AV} (h:e=e') (q:WMr m i avs e' Q):WMr m i avs e Q:=h▸q
theorem ET {m:Mtd} {avs:List AV} (h:e=e') (q:Dg m r avs e' Q):Dg m r avs e Q:=h▸q
theorem Ae {m:Mtd} {as:XA} (h:e=e') (q:Du gd m as r e' Q):Du gd m as r e Q:=h▸q
theorem zL {ms:List PM} {QF:PR->List PyData->Prop} (h:e=e') (q:Df ms QF r e'):Df ms QF r e:=h▸q
theorem xq {ms:List PM} {QF:PR->List PyData->Prop} (h:e=e') (q:uo ms QF e'):uo ms QF e:=h▸q
theorem CJ (h:e=e') (q:An r e' QI):An r e QI:=h▸q
theorem Ao {m:wc} {a:XE} (h:e=e') (q:Dw gd m i a r e' N):Dw gd m i a r e N:=h▸q
theorem Aq {m:wc} {v:PyData} (h:e=e') (q:zx m i v r e' N):zx m i v r e N:=h▸q
end
theorem isEq {b:Bool} {avs:List AV} {e:En} {Q:RV->En->Prop} (h:WPr (Dc b) avs e Q):WPr (Dc b) avs e Q:=h
theorem pN {env e2:En} {i:Nat} {is:List Nat} {d:PyData} {ds:List PyData} (h:free env i=true) (q:fz (env.set i (.dat d)) is ds=some e2):fz env (i :: is) (d :: ds)=some e2:=by
 simp only [fz];rw [Iy h];exact q
theorem at0 {x:PyData} {xs:List PyData}:atI (x :: xs) 0=some x:=by
 unfold atI ixN;rw [Iy (Int.le_refl _),Iy (by rw [IH];omega)];rfl
theorem e8 {x y:Str}:PyData.eqv (.str x) (.str y)=decide (x=y):=by
 simp only [PyData.eqv];rfl
def Gj (p:Prm) (r r2:RV) (k:PyData->Bool->Prop):Prop:=∃ x y b,r.av=.dat x/\r2.av=.dat y/\p.f [x,y]=some (.dat (.bool b))/\k y b
def GH (p:Prm) (y:PyData) (r:RV) (e:En) (Q:RV->En->Prop):Prop:=∃ z pr,r.av=.dat z/\p.f [y,z]=some pr/\Q pr.rv e
theorem z6 {gd:List PyData} {env:En} {p p':Prm} {a b c:XE} {Q:RV->En->Prop} (h:WE gd a env fun r e=>WE gd b e fun r2 e2=>Gj p r r2 fun y k=>if k=true then WE gd c e2 fun r3 e3=>GH p' y r3 e3 Q else Q (.dat (.bool false)) e2):WE gd (.chn p p' a b c) env Q:=by
 refine Gg ?_;obtain ⟨r,e,h1,r2,e2,h2,x,y,k,h3,h4,h5,h6⟩:=h;exact ⟨r,e,h1,r2,e2,h2,x,y,k,h3,h4,h5,h6⟩
theorem w_all {e:En} {x:AV} {bs:List Bool} {Q:RV->En->Prop} (h1:aF e [x]=some [.list (bs.map .bool)]) (q:Q (.dat (.bool (bs.all id))) e):WPr zt [x] e Q:=by
 refine ⟨_,.dat (.bool (bs.all id)),h1,?_,q⟩;show (iW (bs.map .bool)).map _=_;rw [jy];rfl
theorem take_snoc {α:Type} {xs:List α} {i:Nat} {x:α} (h:xs[i]?=some x):xs.take i++[x]=xs.take (i+1):=by
 rw [List.take_add_one,h];rfl
section
variable {gd:List PyData} {a:XE} {env:En} {QI:List PyData->Option Nat->En->Prop}
def Hq (r:RV) (e:En) (QI:List PyData->Option Nat->En->Prop):Prop:=(∃ kvs,r.av=.dat (.dict kvs)/\QI (kvs.map (·.1)) none e)\/∃ i kvs,r.av=.bor i/\cont e i=some (.dict kvs)/\QI (kvs.map (·.1)) (some i) e
theorem HL (h:WE gd a env fun r e=>Hq r e QI):WI gd (.dct a) env QI:=by
 obtain ⟨r,e',h1,⟨kvs,h2,h3⟩ | ⟨i,kvs,h2,h4,h3⟩⟩:=h
 ·exact ⟨_,_,_,by simp only [dI,h1,h2],h3⟩
 ·exact ⟨_,_,_,by simp only [dI,h1,h2,h4],h3⟩
end
def WPs (gd:List PyData) (ps:XP) (env:En) (R:List (Key×PyData)->En->Prop):Prop:=∃ kvs e1,dP gd ps env=some (kvs,e1)/\R kvs e1
theorem n5 {gd:List PyData} {ps:XP} {env:En} {Q:RV->En->Prop} (h:WPs gd ps env fun kvs e1=>kvs.length<=15/\Q (.frs (.dict (kvs.foldl (fun acc kv=>putD acc (kD kv.1) kv.2) []))) e1):WE gd (.dsp ps) env Q:=FO h
theorem uM {gd:List PyData} {env:En} {R:List (Key×PyData)->En->Prop} (h:R [] env):WPs gd .nil env R:=⟨_,_,rfl,h⟩
theorem qG {gd:List PyData} {k a:XE} {ps:XP} {env:En} {R:List (Key×PyData)->En->Prop} (h:WE gd k env fun rk e1=>WE gd a e1 fun rv e2=>WPs gd ps e2 fun kvs e3=>∃ dk d key,rk.av=.dat dk/\rv.av=.dat d/\keyOf dk=some key/\R ((key,d) :: kvs) e3):WPs gd (.cons k a ps) env R:=by
 obtain ⟨rk,e1,h1,rv,e2,h2,kvs,e3,h3,dk,d,key,h4,h5,h6,h7⟩:=h;exact ⟨_,_,by simp only [dP,h1,h2,h3,h4,h5,h6],h7⟩
theorem Ca {e:En} {x y:AV} {k d:PyData} {kvs:List (PyData×PyData)} {Q:RV->En->Prop} (h1:aF e [x,y]=some [.dict kvs,k]) (h2:hk6 k=true) (h3:getD kvs k=some d) (q:Q (.dat d) e):WPr iF [x,y] e Q :=
 ⟨_,.dat d,h1,by show (if hk6 k=true then (getD kvs k).map PR.dat else none)=_;rw [Iy h2,h3];rfl,q⟩
theorem Ce {i:Nat} {v k:PyData} {rk:RV} {e2:En} {N:En->Prop} {kvs:List (PyData×PyData)} (h1:rk.view e2=some k) (h2:aR e2 i=some (.dict kvs)) (h3:hk6 k=true) (h4:kvs.length < sizeLine) (q:N (gG e2 i (.dict (putD kvs k v)))):zx pE i v rk e2 N :=
 ⟨_,_,_,h1,h2,by show (if hk6 k=true/\kvs.length < sizeLine then some (PyData.dict (putD kvs k v)) else none)=_;rw [Iy ⟨h3,h4⟩],q⟩
theorem BS {e:En} {x y:AV} {z:Str} {n:Int} {Q:RV->En->Prop} (h1:aF e [x,y]=some [.str z,.int n]) (h2:0<=n) (h3:n<=1000) (h4:z.length<=1000) (q:Q (.dat (.str (pQ z n.toNat))) e):WPr yI [x,y] e Q :=
 ⟨_,.dat _,h1,by show (if 0<=n/\n<=1000/\z.length<=1000 then some (PR.dat (.str (pQ z n.toNat))) else none)=_;rw [Iy ⟨h2,h3,h4⟩],q⟩
open PySem.W
noncomputable def at_ (p:Array Nat) (i:Nat):Nat:=p.getD i 0
def HR (avs:List AV) (e:En) (QI:List PyData->Option Nat->En->Prop):Prop:=∃ x y xs ys,avs=[x,y]/\roL e x=some xs/\roL e y=some ys/\QI ((xs.zip ys).map fun p=>.tuple [p.1,p.2]) none e
theorem HW {gd:List PyData} {as:XA} {env:En} {QI:List PyData->Option Nat->En->Prop} (h:WA gd as env fun avs e=>HR avs e QI):WI gd (.zip as) env QI:=by
 obtain ⟨avs,e',h1,x,y,xs,ys,rfl,h3,h4,h2⟩:=h;exact ⟨_,_,_,by simp only [dI,h1,h3,h4],h2⟩
section
variable {X:Cx} {x:Str} {p pos:Pos} {e:Expr} {es:List Expr} {t:TA} {f:Addr} {fd:FuncData} {ps:List Str} {sp:Sp} {k m:Nat} {r:List V->Hp->VK->Prop} {id T:String}
theorem eVx (i:Nat) (a:X.N[i]?=some x:=by exact rfl) (b:Vis X.env.scope x:=by exact .inl rfl) (c:(x==("__debug__" : Str))=false:=by exact rfl) (d:(x==("__classdict__" : Str))=false:=by exact rfl):JE X (.Name x pos) (aj i):=Dz i a b c d
theorem eVy (i:Nat) (a:X.N[i]?=some x:=by exact rfl) (b:Vis X.env.scope x:=by exact .inr (.inl rfl)) (c:(x==("__debug__" : Str))=false:=by exact rfl) (d:(x==("__classdict__" : Str))=false:=by exact rfl):JE X (.Name x pos) (aj i):=Dz i a b c d
theorem eCl (F:bK X.prog X.w X.K X.mg X.base CX0 k f fd ps sp) (hr:cZ m X.A) (hm:X.mg x=some (.ref f)) (hk:PySem.W.keepIn X.K (.ref f)=true) (hb:Binds X.K fd ps []) (ha:JA X (e :: es) t)
  (a:k<=m:=by omega) (b:Gl X x:=by exact rfl) (h1:PySem.W.isStarred e=false:=by exact rfl) (h2:es.all (fun e=>!PySem.W.isStarred e)=true:=by exact rfl) (c:(x==("__debug__" : Str))=false:=by exact rfl):JE X (.Call (.Name x p) (e :: es) [] pos) (br sp [] E0 t) :=
 Br F (hr.mono a) b hm hk hb .nil uw ha h1 h2 c
theorem eBs (hc:a8 X (.builtin id) r) (hm:X.mg x=none) (ha:JA X (e :: es) t) (a:Gl X x:=by exact rfl) (hv:bootBuiltins x=some (.builtin id):=by decide +kernel) (h1:PySem.W.isStarred e=false:=by exact rfl) (h2:es.all (fun e=>!PySem.W.isStarred e)=true:=by exact rfl)
  (hn:x ≠ "__name__" := by decide) (c:(x==("__debug__" : Str))=false:=by exact rfl):JE X (.Call (.Name x p) (e :: es) [] pos) (tCB r t):=eB hc a hm hv ha h1 h2 hn c
theorem eTs (hc:a8 X (.type T) r) (hm:X.mg x=none) (ha:JA X (e :: es) t) (a:Gl X x:=by exact rfl) (hv:bootBuiltins x=some (.type T):=by decide +kernel) (h1:PySem.W.isStarred e=false:=by exact rfl) (h2:es.all (fun e=>!PySem.W.isStarred e)=true:=by exact rfl)
  (hn:x ≠ "__name__" := by decide) (c:(x==("__debug__" : Str))=false:=by exact rfl):JE X (.Call (.Name x p) (e :: es) [] pos) (tCB r t):=eTy hc a hm hv ha h1 h2 hn c
end
theorem Fun.okX {P:Program} {w:World} {K:Fg} {mg:Str->Option Value} {base:Heap} {x qual:Str} {st:Stmt} {f:Addr} {fd:FuncData} {N ps:List Str} {k:Nat} {b:XS} {gd:List PyData} {ga:Nat->V} {ms:List PM} {rd:TS}
  (F:Fun K x qual st f fd) (S:aq N ps (ab st)) (hg:∀ g d,gd[g]?=some d->∀ F H,Dm K F H d (ga g)) (e:rd=rS K ga b)
  (j:∀ {cdv:Value} {A:Around} {outer:List Env} {s:Shared} {H:Hp} {E:XK},cZ k (A.deeper (envOfC qual (ab st) s.heap.objs.size f cdv))->JSs (ml CX0 P w K mg base N qual (ab st) f cdv A outer s H E).nox (a9 st) rd)
  (hl:ms.length<=N.length:=by decide) (hp:ms.length=ps.length:=by exact rfl):bK P w K mg base CX0 (k+1) f fd ps (cU (c8 gd ms N.length b) K) :=
 F.okJ S (fun vs H Q E h=>(b9 h).trans hp) fun cdv A outer s H vs Q E hr h=>⟨rd,j hr,by rw [e];exact cP (N:=N) hg h hl⟩
structure Fa (K:Fg) (mg:Str->Option Value) (x:Str) (st:Stmt) (ps:List Str) (a:Addr×FuncData):Prop where
 F:Fun K x x st a.1 a.2
 c:∀ us:List Value,us.length=ps.length->bindArgs a.2 ⟨us,[]⟩=pure (ps.zip us)
 m:mg x=some (.ref a.1)
section
variable {K:Fg} {mg:Str->Option Value} {x:Str} {st:Stmt} {ps:List Str} {a:Addr×FuncData} {h:Heap} {f:Addr} {od an:Option Addr} {sl:Array (Option Value)} {oc kV dc pm cd ct:Value}
theorem Fa.b (D:Fa K mg x st ps a):Binds K a.2 ps []:=.all D.c
def zu (K:Fg) (mg:Str->Option Value):List (Str×Stmt×List Str)->Prop
 | []=>True
 | (x,st,ps) :: r=>(∃ a,Fa K mg x st ps a)/\zu K mg r
theorem Fo {r:List (Str×Stmt×List Str)} (X:K.In h) (G:h.Ns mainGlobals mg) (a:PySem.W.nsIn K mainGlobals x=some (some (.ref f))) (l:K.lookup f=some ⟨oc,od,.func (PySem.W.fnOf x x (iN st) (a9 st) (ab st) .none kV dc pm an cd ct),sl⟩) (c:PySem.W.codeIn K cd x=true) (k:PySem.W.keepIn K (.ref f)=true)
  (hb:∀ (kV dc pm:Value) (an:Option Addr) (cd ct:Value) (us:List Value),us.length=ps.length->bindArgs (PySem.W.fnOf x x (iN st) (a9 st) (ab st) .none kV dc pm an cd ct) ⟨us,[]⟩=pure (ps.zip us)) (hr:zu K mg r):zu K mg ((x,st,ps) :: r) :=
 ⟨⟨(f,_),BP l c k,hb _ _ _ _ _ _,PySem.W.mg_of X G a⟩,hr⟩
theorem Ar (a0:Addr×FuncData):∀ {l:List (Str×Stmt×List Str)},zu K mg l->∃ f:Nat->Addr×FuncData,∀ i {x st ps},l[i]?=some (x,st,ps)->Fa K mg x st ps (f i)
 | [],_=>⟨fun _=>a0,fun i x st ps h=>by cases h⟩
 | (y,st,ps) :: r,⟨⟨a,ha⟩,hr⟩=>by
  obtain ⟨f,hf⟩:=Ar a0 hr;refine ⟨fun i=>i.casesOn a f,fun i x st ps h=>?_⟩;cases i with
  | zero=>cases h;exact ha
  | succ i=>exact hf i h
theorem Hg {e:Str×Stmt×List Str} {l:List (Str×Stmt×List Str)} (D:zu K mg (e :: l)):∃ f:Nat->Addr×FuncData,∀ i {x st ps},(e :: l)[i]?=some (x,st,ps)->Fa K mg x st ps (f i):=by
 obtain ⟨y,st,ps⟩:=e;have ⟨⟨a,_⟩,_⟩:=D;exact Ar a D
end
theorem us1 {P:List Value->Prop} (h:∀ a,P [a]):∀ us:List Value,us.length=1->P us
 | [a],_=>h a
theorem us2 {P:List Value->Prop} (h:∀ a b,P [a,b]):∀ us:List Value,us.length=2->P us
 | [a,b],_=>h a b
theorem us3 {P:List Value->Prop} (h:∀ a b c,P [a,b,c]):∀ us:List Value,us.length=3->P us
 | [a,b,c],_=>h a b c
theorem us4 {P:List Value->Prop} (h:∀ a b c d,P [a,b,c,d]):∀ us:List Value,us.length=4->P us
 | [a,b,c,d],_=>h a b c d
theorem us5 {P:List Value->Prop} (h:∀ a b c d e,P [a,b,c,d,e]):∀ us:List Value,us.length=5->P us
 | [a,b,c,d,e],_=>h a b c d e
theorem scm {N P:List Str} {sc:Scope} (a:sc.kind=.function:=by exact rfl) (b:sc.isCoroutine=false:=by exact rfl) (c:sc.isGenerator=false:=by exact rfl) (d:N.Nodup:=by decide +kernel) (e:N.take P.length=P:=by exact rfl) (f:∀ x∈P,sc.names.lookup x=some .local\/sc.names.lookup x=some .cell:=by decide +kernel) (g:∀ y∈sc.names,y.2≠.free:=by decide +kernel):aq N P sc:=⟨a,b,c,d,e,f,g⟩
theorem Fa.ok {P:Program} {w:World} {K:Fg} {mg:Str->Option Value} {base:Heap} {x:Str} {st:Stmt} {a:Addr×FuncData} {N ps:List Str} {k:Nat} {b:XS} {gd:List PyData} {ga:Nat->V} {ms:List PM}
  (D:Fa K mg x st ps a) (S:aq N ps (ab st)) (hg:∀ g d,gd[g]?=some d->∀ F H,Dm K F H d (ga g))
  (j:∀ {cdv:Value} {A:Around} {outer:List Env} {s:Shared} {H:Hp} {E:XK},cZ k (A.deeper (envOfC x (ab st) s.heap.objs.size a.1 cdv))->JSs (ml CX0 P w K mg base N x (ab st) a.1 cdv A outer s H E).nox (a9 st) (rS K ga b))
  (hl:ms.length<=N.length:=by decide) (hp:ms.length=ps.length:=by exact rfl):bK P w K mg base CX0 (k+1) a.1 a.2 ps (cU (c8 gd ms N.length b) K) :=
 D.F.okX S hg rfl j hl hp
section
variable {X:Cx} {x:Str} {p p2 pos pos':Pos} {e a b:Expr} {es:List Expr} {t:TA} {te ta tb:TE} {ps:List Str} {sp:Sp} {k m i:Nat} {r:List V->Hp->VK->Prop} {T:String} {st:Stmt} {q:Addr×FuncData}
theorem eCx (F:bK X.prog X.w X.K X.mg X.base CX0 k q.1 q.2 ps sp) (hr:cZ m X.A) (D:Fa X.K X.mg x st ps q) (ha:JA X (e :: es) t)
  (a:k<=m:=by omega) (b:Gl X x:=by exact rfl) (h1:PySem.W.isStarred e=false:=by exact rfl) (h2:es.all (fun e=>!PySem.W.isStarred e)=true:=by exact rfl) (c:(x==("__debug__" : Str))=false:=by exact rfl):JE X (.Call (.Name x p) (e :: es) [] pos) (br sp [] E0 t) :=
 Br F (hr.mono a) b D.m D.F.kp D.b .nil uw ha h1 h2 c
theorem eAx (ha:JE X e te) (hr:JA X es t) (h:PySem.W.isStarred e=false:=by exact rfl):JA X (e :: es) (aa te t):=eA ha hr h
theorem eIy (ha:JE X a ta) (hb:JE X b tb) (hs:nq b:=by exact fun _ _=>rfl):JE X (.Subscript a b pos) (tOp (fun x y=>ixP.r X.K [x,y]) ta tb):=eIx aJ ha hb hs
theorem eSx (hN:X.N.Nodup) (i:Nat) (he:JE X e te) (hi:X.N[i]?=some x:=by exact rfl) (hx:Loc X.env.scope x:=by exact .inl rfl) (hs:swapsWith e (some (.Name x pos')) pos.line X.env=pure false:=by exact rfl) (hf:X.fn x=true\/X.env.scope.names.lookup x=some .local:=by exact .inl rfl) :
  JS X (.Assign [.Name x pos'] e pos) (iM te (aT i)):=nW he hN hi hx hs hf
theorem eSy (hN:X.N.Nodup) (i:Nat) (he:JE X e te) (hi:X.N[i]?=some x:=by exact rfl) (hx:Loc X.env.scope x:=by exact .inr rfl) (hs:swapsWith e (some (.Name x pos')) pos.line X.env=pure false:=by exact rfl) (hf:X.fn x=true\/X.env.scope.names.lookup x=some .local:=by exact .inl rfl) :
  JS X (.Assign [.Name x pos'] e pos) (iM te (aT i)):=nW he hN hi hx hs hf
theorem eGx (hN:X.N.Nodup) (i:Nat) (hi:X.N[i]?=some x:=by exact rfl) (hx:Loc X.env.scope x:=by exact .inl rfl) (hf:X.fn x=true\/X.env.scope.names.lookup x=some .local:=by exact .inl rfl):JG X (.Name x pos) (aT i):=eGN hN hi hx hf
theorem eTx {op:CmpOp} {r:R2} (ho:OpR X (compareOp op) r) (ha:JE X a ta) (hb:JE X b tb) (hm:behindInMarks op b=false:=by exact aO _):JT X (.Compare a [op] [b] pos) (lG (tOp r ta tb)):=jr ho ha hb hm
theorem eUx (h:JE X e te) (he:∀ whole,isTrue e X.env whole=(do let v<-whole;standAt e.pos;holding [v] (truthy v)):=by exact fun _=>rfl):JT X e (tB te):=p7 h he
theorem eIz (hm:X.mg "isinstance" = none) (ha:JE X e te) (hz:X.mg (Str.ofString T)=none) (hg:Gl X "isinstance" := by exact rfl) (hs:PySem.W.isStarred e=false:=by exact rfl)
  (h1:Gl X (Str.ofString T):=by exact rfl) (h2:bootBuiltins (Str.ofString T)=some (.type T):=by decide +kernel) (h3:Str.ofString T ≠ "__name__" := by decide) (h4:(Str.ofString T==("__debug__" : Str))=false:=by exact rfl):JE X (.Call (.Name "isinstance" p) [e,.Name (Str.ofString T) p2] [] pos) (tCB ((tZ T).r X.K) (aa te aP)) :=
 Gx hg hm ha hs (Gh h1 hz h2 rfl h3 h4)
theorem eFx {iter tg:Expr} {body:List Stmt} {wi:TI} {g:TG} {tb:TS} (hi:JI X tg iter wi) (hg:JG X tg g) (hb:JSs X body tb) (hp:PassesOwn (model X.prog X.w) X.A X.env X.xe:=by exact PassesOwn.never) (hc:X.calm=true:=by exact rfl) (hs:∀ x,foldedSetIterable iter X.env x=pure x:=by exact fun _=>rfl):JS X (.For tg iter body [] pos) (xW wi g tb):=Fu hi hg hb hp hc hs
theorem eUy (ha:JE X a ta):JE X (.UnaryOp .USub a pos) (tCB (zq.r X.K) (aa ta aP)):=eUn AH ha
theorem eKx {elt iter:Expr} {px:Pos} {ifs:List Expr} {scope:Scope} {wi:TI} {tt:TT} {js:List Nat} (ys:List Str) (hi:JI X (.Name x px) iter wi) (ht:JTs X (x :: ys) scope ifs tt) (he:JC X (x :: ys) scope elt te) (B:f7 X scope x) (cap:df X scope ys js)
  (hc:X.calm=true:=by exact rfl) (nd:(x :: ys).Nodup:=by decide +kernel) (hs:∀ x,foldedSetIterable iter X.env x=pure x:=by exact fun _=>rfl):JE X (.ListComp elt [⟨.Name x px,iter,ifs,0⟩] scope pos) (fT js wi tt te):=lb ys hi ht he hc B nd cap hs
end
abbrev vr (i:Nat):XE:=.var i
abbrev ci (i:Int):XE:=.cst (.i i)
abbrev cs (x:String) (h:(Str.ofString x).length<=sizeLine:=by decide +kernel):XE:=.cst (.s x h (bD x))
abbrev p1 (p:Prm) (a:XE):XE:=.prm p (.cons a .nil)
abbrev p2 (p:Prm) (a b:XE):XE:=.prm p (.cons a (.cons b .nil))
abbrev fnD (d:PyData):PyData:=.dict [(.list [d],.none)]
noncomputable def ms6:List PM->Bool | [.dat,.dat,.dat,.dat,.dat,.bor]=>true | _=>false
theorem EG {K:Fg} {F F':Addr->Prop} {H:Hp} {d:PyData} {v:V} (h:Vw K F H d v) (hf:∀ b,F' b->F b/\v≠.ref b):Dm K F' H d v:=by
 have hg:∀ b,F' b->F b:=fun b z=>(hf b z).1;cases d with
 | list ds =>
  obtain ⟨a,rfl,xs,sq,z,dl⟩:=h;exact ⟨a,xs,rfl,sq.imp (fun r=>⟨fun q=>(hf a q).2 rfl,r⟩) id,z,dl.pr Pr.refl hg⟩
 | dict kvs =>
  obtain ⟨a,rfl,ep,xs,e,z,dp⟩:=h;exact ⟨a,ep,xs,rfl,fun q=>(hf a q).2 rfl,e,z,dp.pr Pr.refl hg⟩
 | _=>exact Dm.pr Pr.refl hg h
noncomputable def x9 (fn:Fn):Prm where
 r:=fun K vs H Q=>∃ v1 v2 v3 v4 v5 wv,vs=[v1,v2,v3,v4,v5,wv]/\∀ f c oc H4,H f=none->H c=none->(∀ b o,H b=some o->H4 b=some o)->fH ar H4 f c oc wv->cU fn K [v1,v2,v3,v4,v5,.ref f] H4 (fun v H'=>Q v (off H' c)) NoE
 f:=fun ds=>match ds with
  | [d1,d2,d3,d4,d5,d]=>if ms6 fn.ms=true then match fn.F [d1,d2,d3,d4,d5,fnD d] with | some (.dat (.bool x),[])=>some (.dat (.bool x)) | _=>none else none
  | _=>none
 ok:=fun K F H ds vs pr Q hf hv hd q=>by
  split at hf
  ·rename_i d1 d2 d3 d4 d5 d;split at hf
   ·rename_i hm;split at hf
    ·rename_i x hF;cases hf;obtain ⟨v1,r1,rfl,h1,v2,r2,rfl,h2,v3,r3,rfl,h3,v4,r4,rfl,h4,v5,r5,rfl,h5,wv,r6,rfl,h6,e⟩:=hv;have e:r6=[]:=e;subst e;have hms:fn.ms=[.dat,.dat,.dat,.dat,.dat,.bor]:=by
      unfold ms6 at hm;split at hm
      ·assumption
      ·cases hm
     refine ⟨v1,v2,v3,v4,v5,wv,rfl,fun f c oc H4 hf hc ext hL=>?_⟩;have pr:Pr (fun b=>F b/\∀ v∈[v1,v2,v3,v4,v5,wv],v≠.ref b) H H4:=fun b o e _=>ext b o e;have hg:∀ v∈[v1,v2,v3,v4,v5,wv],∀ b,(F b/\∀ v∈[v1,v2,v3,v4,v5,wv],v≠.ref b)->F b/\v≠.ref b:=fun v hv b z=>⟨z.1,z.2 v hv⟩;have go:∀ {d:PyData} {v:V},v∈[v1,v2,v3,v4,v5,wv]->Vw K F H d v->Dm K (fun b=>F b/\∀ v∈[v1,v2,v3,v4,v5,wv],v≠.ref b) H4 d v:=fun hv h=>(EG h (hg _ hv)).pr pr fun _ z=>z;refine ⟨fun b=>F b/\∀ v∈[v1,v2,v3,v4,v5,wv],v≠.ref b,[d1,d2,d3,d4,d5,fnD d],[],.dat (.bool x),[],hF,?_,?_,fun v' H' hk hr=>?_⟩
     ·rw [hms];exact ⟨go (by simp) h1,go (by simp) h2,go (by simp) h3,go (by simp) h4,go (by simp) h5,⟨f,rfl,.inr ⟨d,rfl,c,oc,wv,hL,go (by simp) h6⟩⟩,rfl⟩
     ·intro b hb;cases e:H b with
      | none=>exact absurd e (hd b hb.1)
      | some o=>rw [ext b o e];exact fun z=>nomatch z
     ·refine q v' (off H' c) (fun b o e=>?_) hr.1;rw [off_ne fun z=>by rw [z,hc] at e;cases e];exact hk b o (ext b o e) (by simp)
    ·cases hf
   ·cases hf
  ·cases hf
open PySem.Calls
section
variable {K:Fg} {F:Addr->Prop} {H:Hp} {c:Addr} {oc:Obj}
theorem wx (hc:H c=some (.frz oc (.own c))) {a:Addr} {u:HO} (h:Rd H a u) (n:u≠.own c) (n2:∀ o v,u≠.frz o v):Rd (off H c) a u:=by
 rcases h with h | ⟨o,h⟩
 ·refine .inl ?_;rw [off_ne fun z=>by rw [z,hc] at h;cases h;exact n2 _ _ rfl];exact h
 ·refine .inr ⟨o,?_⟩;rw [off_ne fun z=>by rw [z,hc] at h;cases h;exact n rfl];exact h
mutual
theorem Dm.qe (hc:H c=some (.frz oc (.own c))):∀ {d:PyData} {v:V},Dm K F H d v->Dm K F (off H c) d v
 | .none,v,h=>h
 | .bool b,v,h=>h
 | .int i,v,h=>h
 | .str x,v,h=>h
 | .list ds,v,h=>by
  obtain ⟨a,xs,e,l,z,r⟩:=h;exact ⟨a,xs,e,l.imp (fun q=>⟨q.1,wx hc q.2 (fun z=>by cases z) fun _ _ z=>by cases z⟩) id,z,DmL.qe hc r⟩
 | .tuple ds,v,h=>by
  obtain ⟨a,xs,e,l,z,r⟩:=h;exact ⟨a,xs,e,l.imp (fun q=>wx hc q (fun z=>by cases z) fun _ _ z=>by cases z) id,z,DmL.qe hc r⟩
 | .dict kvs,v,h=>by
  obtain ⟨a,ep,xs,e,n,l,z,r⟩:=h;exact ⟨a,ep,xs,e,n,by rw [off_ne fun q=>by rw [q,hc] at l;cases l];exact l,z,DmP.qe hc r⟩
theorem DmL.qe (hc:H c=some (.frz oc (.own c))):∀ {ds:List PyData} {vs:List V},DmL K F H ds vs->DmL K F (off H c) ds vs
 | [],vs,h=>h
 | d :: ds,vs,h=>by
  obtain ⟨v,r,e,h1,h2⟩:=h;exact ⟨v,r,e,Dm.qe hc h1,DmL.qe hc h2⟩
theorem DmP.qe (hc:H c=some (.frz oc (.own c))):∀ {ds:List (PyData×PyData)} {vs:List (PyData×V×V)},DmP K F H ds vs->DmP K F (off H c) ds vs
 | [],vs,h=>h
 | (k,d) :: ds,vs,h=>by
  obtain ⟨j,v,r,e,e2,h0,h1,h2⟩:=h;exact ⟨j,v,r,e,e2,Dm.qe hc h0,Dm.qe hc h1,DmP.qe hc h2⟩
end
end
open PySem PySem.Spec PySem.Calls PyProof.Rows
noncomputable def C5:PyData->Option PyData | .dict [(.list [d],.none)]=>some d | _=>none
theorem yl {d e:PyData} (h:C5 d=some e):d=fnD e:=by
 unfold C5 at h;split at h
 ·cases h;rfl
 ·cases h
abbrev nu (n:Nat):List PM:=List.replicate n .dat
noncomputable def bl1:Option (PR×List PyData)->Option (PR×List PyData) | some (.dat (.bool x),[])=>some (.dat (.bool x),[]) | _=>none
theorem A1 {o:Option (PR×List PyData)} {r:PR×List PyData} (h:bl1 o=some r):∃ x,o=some (.dat (.bool x),[])/\r=(.dat (.bool x),[]):=by
 unfold bl1 at h;split at h
 ·cases h;exact ⟨_,rfl,rfl⟩
 ·cases h
noncomputable def Dj (n:Nat) (g:Fn):Fn where
 ms:=.bor :: nu n
 F:=fun ds=>match ds with
  | d0 :: r=>(C5 d0).bind fun d=>bl1 (g.F (r++[d]))
  | _=>none
section
variable {K:Fg} {F I:Addr->Prop} {H:Hp}
theorem oI:∀ {n:Nat} {ds:List PyData} {vs:List V} {is:List Addr},bo K F I H (nu n) ds vs is->DmL K F H ds vs/\vs.length=n/\is=[]
 | 0,[],[],is,h=>⟨rfl,rfl,h⟩
 | n+1,d :: ds,v :: vs,is,h=>by
  obtain ⟨h1,h2⟩:=(show Dm K F H d v/\bo K F I H (nu n) ds vs is from h);obtain ⟨a,b,c⟩:=oI h2;exact ⟨⟨v,vs,rfl,h1,a⟩,by rw [IH,b],c⟩
 | 0,_ :: _,_,is,h=>(show False from h).elim
 | 0,[],_ :: _,is,h=>(show False from h).elim
 | n+1,[],_,is,h=>(show False from h).elim
 | n+1,_ :: _,[],is,h=>(show False from h).elim
theorem og:∀ {ds:List PyData} {vs:List V},DmL K F H ds vs->bo K F I H (nu vs.length) ds vs []
 | [],vs,h=>by rw [show vs=[] from h];exact rfl
 | d :: ds,vs,h=>by
  obtain ⟨v,r,rfl,h1,h2⟩:=h;exact ⟨h1,og h2⟩
end
theorem DN {n:Nat} {g:Fn} {K:Fg} {v:V} {vs:List V} {H:Hp} {Q:VK} (hg:g.ms=nu (n+1)) (h:cU (Dj n g) K (v :: vs) H Q NoE) :
  ∃ f c oc wv,v=.ref f/\fH ar H f c oc wv/\vs.length=n/\cU g K (vs++[wv]) (off H c) (fun v H'=>Q v (upd H' c (.frz oc (.own c)))) NoE:=by
 obtain ⟨G,ds,is,pr,outs,hF,ha,hd,q⟩:=h;cases ds with
 | nil=>cases hF
 | cons d0 r =>
  obtain ⟨d,h1,h2⟩:=Option.bind_eq_some_iff.mp (show ((C5 d0).bind fun d=>bl1 (g.F (r++[d])))=some (pr,outs) from hF);obtain ⟨x,h3,e⟩:=A1 h2;cases e;have e0:=yl h1;subst e0;obtain ⟨⟨f,rfl,hb⟩,har⟩:=(show uK K G (·∈is) H (fnD d) v/\bo K G (·∈is) H (nu n) r vs is from ha);obtain ⟨hr,hl,rfl⟩:=oI har;rcases hb with ⟨ep,xs,_,_,_,hk⟩ | ⟨d',e,hb⟩
  ·obtain ⟨j,w,r,_,hk,_⟩:=hk;exact absurd (show false=true from hk) nofun
  ·cases e;obtain ⟨c,oc,wv,hL,hw⟩:=hb;have hL':=hL;obtain ⟨c',pm,ctv,od,u2,cs,tq,uv,_,_,_,_,hc,_⟩:=hL';refine ⟨f,c,oc,wv,rfl,hL,hl,fun b=>G b/\b≠c,r++[d],[],.dat (.bool x),[],h3,?_,fun b hb=>by rw [off_ne hb.2];exact hd b hb.1,fun v' H' hs hv=>?_⟩
   ·rw [hg,show n+1=(vs++[wv]).length by rw [Io,hl];rfl];exact og (((DmL.qe hc hr).pr Pr.refl fun b z=>z.1).snoc ((Dm.qe hc hw).pr Pr.refl fun b z=>z.1))
   ·refine q v' _ (fun b o e _=>?_) ⟨hv.1,trivial⟩;by_cases hb:b=c
    ·subst hb;rw [ai];rw [hc] at e;exact e
    ·rw [ae hb];exact hs b o (by rw [off_ne hb];exact e) (by simp)
theorem pZ {M:Model} {A:Around} {E:Value->Shared->Prop} {s:Shared} {env:Env} {pos:Pos} {first:List Value} {Q:Value->Shared->Prop} {f:Value} {P:Heap->Prop} {e:Expr} {rest:List Expr}
  (hk:∀ h,P h->∃ k,(k=Keeper.frame\/k=Keeper.machine\/k=Keeper.boundFrame)/\PySem.W.Looks M h (keeperOf f) k) (h:wpAny M A (spliced (backTo pos (starEach (e :: rest) env))) (fun vs ZW=>P ZW.heap/\wpAny M A (call f (first++vs)) Q E ZW) E s)
  (he:starEach (e :: rest) env=(false,eval e env) :: starEach rest env) (hplain:(backTo pos (starEach rest env)).any (·.1)=false) :
  wpAny M A (callWith pos f first (backTo pos (starEach (e :: rest) env)) []) Q E s:=by
 rw [he] at h ⊢;exact PySem.W.callWith_of (by show ((false||(backTo pos (starEach rest env)).any (·.1))||false)=false;rw [hplain];rfl) hk (evalArgs_plain h)
theorem pz {N:List Str} {vs:List V} (h:vs.length=N.length):start N vs=vs.map some:=by
 unfold start;rw [h,Nat.sub_self,List.replicate_zero,Jy]
theorem E4 {X:Cx} {CX:CXT} {k i n:Nat} {x:Str} {p pos:Pos} {e:Expr} {es:List Expr} {t:TA} {ir:XE} {gd:List PyData} {ga:Nat->V} (S:g8 ar.ps ar.g ar.scope) (h2:ar.ps.length=n) (hr:cZ (k+1) X.A) (hx:Passes CX X NoE)
  (hg:∀ g d,gd[g]?=some d->∀ F H,Dm X.K F H d (ga g))
  (hb:∀ (c c':Addr) (pm ctv:Value) (us:List Value),us.length=ar.ps.length->bindArgs (PySem.W.kla_fn ar.name ar.qual ar.params ar.body ar.scope [(ar.g,c)] pm (.ref c') ctv) ⟨us,[]⟩=pure (ar.ps.zip us))
  (gJ:∀ (f c c':Addr) (s:Shared) (H:Hp),PE (cxL CX X.prog X.w X.K X.mg X.base (ar.ps++[ar.g]) ar.qual ar.scope f (.ref c') [(ar.g,c)] X.A X.stack s (off H c) H NoE) ar.body (rE X.K ga ir))
  (hv:PE X (.Name x p) (aj i)) (ha:PA X (e :: es) t) (he:starEach (e :: es) X.env=(false,eval e X.env) :: starEach es X.env:=by rfl) (hpl:(backTo pos (starEach es X.env)).any (·.1)=false:=by rfl) :
  PE X (.Call (.Name x p) (e :: es) [] pos) (br (cU (Dj n (c8 gd (nu (n+1)) (n+1) (.ret ir))) X.K) [] NoE (aa (aj i) t)):=by
 intro pins s Z H Q I h;obtain ⟨v,hs,h⟩:=h;refine KG (thn (hv pins s Z H (fun v' H'=>v'=v/\H'=H) I ⟨_,hs,rfl,rfl⟩) fun u s0 hq=>?_);obtain ⟨v',H',I0,rv,rfl,rfl⟩:=hq;refine pZ (P:=fun h=>∃ a,u=.ref a/\PySem.W.FnAt a h) (fun h ⟨a,e,q⟩=>by subst e;exact PySem.W.keeps_F h q) (thn (ha pos pins s0 Z _ _ I0 h) fun us s1 hq=>?_) he hpl;obtain ⟨vs,H1,I1,r,q⟩:=hq;dsimp only at q;rw [Jy] at q;obtain ⟨f,c,oc,wv,rfl,hL,hlen,q⟩:=DN rfl q;obtain rfl:u=Value.ref f:=rv;refine ⟨⟨f,rfl,hL.fn I1.hok⟩,?_⟩;obtain ⟨c',pm,ctv,od,u2,cs,tq,uv,g1,g2,g3,g4,g5,g6,g7⟩:=hL;have hN:(ar.ps++[ar.g]).length=n+1:=by rw [Io,h2];rfl
 have q1:=cP (N:=ar.ps++[ar.g]) (E:=NoE) hg (by rw [hN];exact q) (by rw [hN,IP];exact Il _);rw [pz (by rw [hN,Io,hlen];rfl),Jx] at q1;refine wpAny_call (Kz (yY (CX:=CX) (E:=NoE) (Q:=Q) S hr I1.zD (by rw [hlen,h2]) r g1 g2 g3 g4 g5 g6 g7 (hb _ _ _ _ _ (by show us.length=_;rw [<- r.length,hlen,h2])) (gJ f c c' s1 H1) q1) fun r s' hq=>?_);cases r with
 | error e=>exact hx pins Z H1 s1 e s' I1 hq
 | ok fl =>
  cases fl with
  | ret u=>exact I1.after hq
  | next=>exact False.elim hq
  | brk=>exact False.elim hq
  | cont=>exact False.elim hq
open PySem.W
theorem us6 {P:List Value->Prop} (h:∀ a b c d e f,P [a,b,c,d,e,f]):∀ us:List Value,us.length=6->P us
 | [a,b,c,d,e,f],_=>h a b c d e f
section
variable {X:Cx} {k i:Nat} {p pos kpos:Pos} {e:Expr} {es:List Expr} {te:TE} {t:Addr×Addr×Str×Pos} {params:Arguments} {body:Expr} {scope:Scope} {x0 x:Str} {ir:XE} {gd:List PyData} {ga:Nat->V}
structure Ab (P:Program) (w:World) (K:Frag) (mg:Str->Option Value) (base:Heap) (n:Nat) (ga:Nat->V) (ir:XE):Prop where
 S:g8 ar.ps ar.g ar.scope
 h2:ar.ps.length=n
 hb:∀ (c c':Addr) (pm ctv:Value) (us:List Value),us.length=ar.ps.length->bindArgs (kla_fn ar.name ar.qual ar.params ar.body ar.scope [(ar.g,c)] pm (.ref c') ctv) ⟨us,[]⟩=pure (ar.ps.zip us)
 gJ:∀ {k:Nat} (f c c':Addr) (A:Around) (outer:List Env) (s:Shared) (H:Hp),cZ k (A.deeper (envX ar.qual ar.scope s.heap.objs.size f (.ref c') [(ar.g,c)]))->JE (cxL CX0 P w K mg base (ar.ps++[ar.g]) ar.qual ar.scope f (.ref c') [(ar.g,c)] A outer s (off H c) H NoE) ar.body (rE K ga ir)
theorem eKc {n:Nat} {ta:TA} (L:Ab X.prog X.w X.K X.mg X.base n ga ir) (hg:∀ g d,gd[g]?=some d->∀ F H,Dm X.K F H d (ga g)) (hr:cZ (k+1) X.A) (i:Nat) (ha:JA X (e :: es) ta) (a:X.N[i]?=some x:=by exact rfl) (b:Vis X.env.scope x:=by exact .inl rfl)
  (h1:isStarred e=false:=by exact rfl) (h2:es.all (fun e=>!isStarred e)=true:=by exact rfl) (c:(x==("__debug__" : Str))=false:=by exact rfl) (d:(x==("__classdict__" : Str))=false:=by exact rfl) :
  JE X (.Call (.Name x p) (e :: es) [] pos) (br (cU (Dj n (c8 gd (nu (n+1)) (n+1) (.ret ir))) X.K) [] NoE (aa (aj i) ta)) :=
 ⟨E4 (CX:=CX0) L.S L.h2 hr uw hg L.hb (fun f c c' s H=>(L.gJ f c c' _ _ s H (hr.deeper _)).h) (qk a b c d) ha.h (ba h1) (bG h2)⟩
theorem EB {fn:Fn} {q:Addr×FuncData} {m i1 i2 i4 i5 j:Nat} {v3:V} {st:Stmt} {ps:List Str} {a1 a2 a4 a5:Str} {q1 q2 q4 q5:Pos} {e3:Expr} (F:bK X.prog X.w X.K X.mg X.base CX0 k q.1 q.2 ps (cU fn X.K)) (hr:cZ m X.A) (D:Fa X.K X.mg x st ps q) (ht:t∈bX) (hcode:X.env.code=.ref t.1) (e1:t.2.2.1=ar.qual) (e2 : "<lambda>" = ar.name)
  (hcl:X.env.scope.names.lookup ar.g=some .cell) (hC:∀ c,X.env.cells.lookup ar.g=some c->closureFor ar.scope X.env=pure [(ar.g,c)]) (hE:∃ c,X.env.cells.lookup ar.g=some c)
  (v1:JE X (.Name a1 q1) (aj i1)) (v2:JE X (.Name a2 q2) (aj i2)) (h3:JE X e3 (tC v3)) (v4:JE X (.Name a4 q4) (aj i4)) (v5:JE X (.Name a5 q5) (aj i5)) (hN:X.N[j]?=some ar.g) (hs3:isStarred e3=false:=by exact rfl)
  (a:k<=m:=by omega) (b:Gl X x:=by exact rfl) (hq:X.env.qual ++ "<lambda>" = t.2.2.1:=by exact rfl) (hdef:defaultsOf ar.params X.env=([],[]):=by exact rfl) (hfn:X.fn ar.g=true:=by exact rfl) (c:(x==("__debug__" : Str))=false:=by exact rfl) :
  JE X (.Call (.Name x p) [.Name a1 q1,.Name a2 q2,e3,.Name a4 q4,.Name a5 q5,.Lambda ar.params ar.body ar.scope t.2.2.2] [] pos) (tCB ((x9 fn).r X.K) (aa (aj i1) (aa (aj i2) (aa (tC v3) (aa (aj i4) (aa (aj i5) (aa (aj j) aP))))))):=by
 obtain ⟨cl,hc⟩:=hE;have pl:=AL (X:=X) (body:=ar.body) ht hcode hq hdef (hC cl hc);rw [e1,e2] at pl;have ha:=(eA v1 (eA v2 (eA h3 (eA v4 (eA v5 (eA ⟨pl⟩ ag rfl) rfl) rfl) hs3) rfl) rfl).h;have P:=vG (L:=ar) (j:=j) (p:=p) (pos:=pos) (E:=NoE) F (hr.mono a) b D.m D.F.kp D.b uw (fun H s oc e s' h=>h.elim) ha hc hfn hN hcl c (ba rfl) (bG (by show ((!isStarred (Expr.Name a2 q2))&&((!isStarred e3)&&_))=true;rw [hs3];rfl));refine ⟨fun pins s Z H Q I h=>P pins s Z H Q I ?_⟩;obtain ⟨w1,s1,w2,s2,w4,s4,w5,s5,w6,s6,u1,u2,u3,u4,u5,wv,e,h⟩:=h;cases e;exact ⟨_,_,_,_,_,s1,s2,s4,s5,s6,h⟩
end
section
variable {P:Program} {w:World} {K:Frag} {mg:Str->Option Value} {base:Heap} {x:Str} {st:Stmt} {a:Addr×FuncData} {N ps:List Str} {k:Nat} {b:XS} {gd:List PyData} {ga:Nat->V} {ms:List PM} {c:Addr}
theorem Fa.code {h:Heap} {f:Addr} {oc:Value} {od:Option Addr} {fd:FuncData} {sl:Array (Option Value)} (D:Fa K mg x st ps a) (X:K.In h) (G:h.Ns mainGlobals mg) (n:nsIn K mainGlobals x=some (some (.ref f))) (l:K.lookup f=some ⟨oc,od,.func fd,sl⟩) (hc:fd.code=.ref c):a.2.code=.ref c:=by
 have m:=mg_of X G n;rw [D.m] at m;cases m;obtain ⟨oc,od,kV,doc,pm,an,cdv,ct,osl,e,lk,hcd⟩:=D.F.ex;rw [l] at lk;cases lk;exact hc
theorem Fa.okC (D:Fa K mg x st ps a) (hc:a.2.code=.ref c) (S:aq N ps (ab st)) (hg:∀ g d,gd[g]?=some d->∀ F H,Dm K F H d (ga g))
  (j:∀ {A:Around} {outer:List Env} {s:Shared} {H:Hp} {E:XK},cZ k (A.deeper (envOfC x (ab st) s.heap.objs.size a.1 (.ref c)))->JSs (ml CX0 P w K mg base N x (ab st) a.1 (.ref c) A outer s H E).nox (a9 st) (rS K ga b))
  (hl:ms.length<=N.length:=by decide) (hp:ms.length=ps.length:=by exact rfl):bK P w K mg base CX0 (k+1) a.1 a.2 ps (cU (c8 gd ms N.length b) K):=by
 obtain ⟨a1,a2⟩:=a;obtain ⟨oc,od,kV,doc,pm,an,cdv,ct,osl,e,lk,hcd⟩:=D.F.ex;have e:a2=_:=e;subst e;have hc:cdv=.ref c:=hc;subst hc;exact Bm lk hcd S (fun vs H Q E h=>(b9 h).trans hp) fun A outer s H vs Q E hr h=>⟨_,(j hr).h.nox,cP (N:=N) hg h hl⟩
end
section
variable {prog:Program} {w:World} {A:Around} {E:Value->Shared->Prop} {s:Shared}
theorem jt {it t:Addr} {i n:Nat} {items:Array Value} {x:Value} {od pd:Option Addr} {os ps:Array (Option Value)} (h3:items[i]?=some x):Meets (Builtin.«tuple_iterator.__next__» ⟨[.ref it],[]⟩) fun _ R s=>s.heap.get? it=some ⟨.type "tuple_iterator", od,.fields #[.ref t,.int i 0],os⟩/\s.heap.get? t=some ⟨.type "tuple", pd,.seq items n,ps⟩/\∀ h':Heap,h'.IsTupleIter it t (i+1)->Heap.SameBut it s.heap h'->R (.ok (.ret x)) { s with heap:=h' } :=
 .of_wp fun prog w A R s h=>by
  obtain ⟨hp,g,d,tk,os⟩:=s;obtain ⟨h1,h2,h⟩:=h
  wp_walk
  simp only [IS,h3]
  wp_walk
  exact ⟨_,rfl,h _ ⟨_,IG _ h1 rfl,rfl,rfl⟩ (Jz _ _ _)⟩
theorem j5 {it t:Addr} {i n:Nat} {items:Array Value} {od pd:Option Addr} {os ps:Array (Option Value)} (h3:items[i]?=none):Meets (Builtin.«tuple_iterator.__next__» ⟨[.ref it],[]⟩) fun A R s=>A.handled=none/\s.heap.get? it=some ⟨.type "tuple_iterator", od,.fields #[.ref t,.int i 0],os⟩/\s.heap.get? t=some ⟨.type "tuple", pd,.seq items n,ps⟩/\∀ (h':Heap) (e:Addr),Heap.ExtBut it s.heap h'->(∃ o,h'.get? e=some o/\o.cls=.type "StopIteration")->R (.error (.ref e)) { s with heap:=h' } :=
 .of_wp fun prog w A R s h=>by
  obtain ⟨hp,g,d,tk,os⟩:=s;obtain ⟨h0,h1,h2,h⟩:=h
  wp_walk
  simp only [IS,h3]
  wp_walk
  exact wpAny_raiseNew_none h0 (h _ _ (((Jz _ _ _).extBut.push _).push _) ⟨_,Im _ rfl,rfl⟩)
theorem i6 {it t:Addr} {i:Nat} {items:Array Value} {x:Value} {Q:Value->Shared->Prop} (h1:s.heap.IsTupleIter it t i) (h2:s.heap.IsTuple t items) (h3:items[i]?=some x)
  (hq:∀ h':Heap,h'.IsTupleIter it t (i+1)->Heap.SameBut it s.heap h'->Q x { s with heap:=h' }):wpAny (model prog w) A (Builtin.SmallTypes.nextOf (.ref it)) Q E s:=by
 unfold Builtin.SmallTypes.nextOf;refine H9 (Jb h1.typeIs KJ ?_);have ht:=h1.typeIs;obtain ⟨⟨_,od,_,osl⟩,ho,rfl,rfl⟩:=h1;obtain ⟨⟨_,pd,_,psl⟩,hpp,rfl,⟨n,rfl⟩⟩:=h2;refine JZ KJ ht F.entry_tuple_iterator_next (F.args_tuple_iterator_next_1 _) (jt h3) ⟨ho,hpp,fun h' a b=>?_⟩;exact Ib (hq h' a b)
theorem ju {it t:Addr} {i:Nat} {items:Array Value} {Q:Value->Shared->Prop} (h0:A.handled=none) (h1:s.heap.IsTupleIter it t i) (h2:s.heap.IsTuple t items) (h3:items[i]?=none)
  (hq:∀ (h':Heap) (e:Addr),Heap.ExtBut it s.heap h'->(∃ o,h'.get? e=some o/\o.cls=.type "StopIteration")->E (.ref e) { s with heap:=h' }):wpAny (model prog w) A (Builtin.SmallTypes.nextOf (.ref it)) Q E s:=by
 unfold Builtin.SmallTypes.nextOf;refine H9 (Jb h1.typeIs KJ ?_);have ht:=h1.typeIs;obtain ⟨⟨_,od,_,osl⟩,ho,rfl,rfl⟩:=h1;obtain ⟨⟨_,pd,_,psl⟩,hpp,rfl,⟨n,rfl⟩⟩:=h2;exact JZ KJ ht F.entry_tuple_iterator_next (F.args_tuple_iterator_next_1 _) (j5 h3) ⟨h0,ho,hpp,hq⟩
end
structure ItS (prog:Program) (w:World) (i l:Addr) (xs:Array Value) (S:Nat->Heap->Prop):Prop where
 nx:∀ {A:Around} {E:Value->Shared->Prop} {s:Shared} {k:Nat} {x:Value} {Q:Value->Shared->Prop},S k s.heap->xs[k]?=some x->(∀ h':Heap,S (k+1) h'->Heap.SameBut i s.heap h'->Q x { s with heap:=h' })->wpAny (model prog w) A (Builtin.SmallTypes.nextOf (.ref i)) Q E s
 en:∀ {A:Around} {E:Value->Shared->Prop} {s:Shared} {k:Nat} {Q:Value->Shared->Prop},A.handled=none->S k s.heap->xs[k]?=none->(∀ (h':Heap) (e:Addr),Heap.ExtBut i s.heap h'->(∃ o,h'.get? e=some o/\o.cls=.type "StopIteration")->E (.ref e) { s with heap:=h' })->wpAny (model prog w) A (Builtin.SmallTypes.nextOf (.ref i)) Q E s
 keep:∀ {k:Nat} {h h':Heap},S k h->(∀ b,b=i\/b=l->∀ o,h.get? b=some o->h'.get? b=some o)->S k h'
theorem ItS.nx' {prog:Program} {w:World} {i l:Addr} {xs:Array Value} {S:Nat->Heap->Prop} {A:Around} {E:Value->Shared->Prop} {s:Shared} {k:Nat} {x v:Value} {Q:Value->Shared->Prop} (I:ItS prog w i l xs S) (h:S k s.heap) (hx:xs[k]?=some x) (hv:v=.ref i) (q:∀ h':Heap,S (k+1) h'->Heap.SameBut i s.heap h'->Q x { s with heap:=h' }):wpAny (model prog w) A (Builtin.SmallTypes.nextOf v) Q E s:=by
 subst hv;exact I.nx h hx q
theorem zY {prog:Program} {w:World} {i l:Addr} {xs:Array Value}:ItS prog w i l xs fun k h=>h.IsTupleIter i l k/\h.IsTuple l xs/\i≠l where
 nx:=fun h hx q=>i6 h.1 h.2.1 hx fun h' a b=>q h' ⟨a,h.2.1.extBut b.extBut h.2.2.symm,h.2.2⟩ b
 en:=fun h0 h hx q=>ju h0 h.1 h.2.1 hx q
 keep:=fun h k=>⟨h.1.at fun o e=>k _ (.inl rfl) o e,(let ⟨o,e,r⟩:=h.2.1;⟨o,k _ (.inr rfl) o e,r⟩),h.2.2⟩
theorem zT {prog:Program} {w:World} {i l:Addr} {xs:Array Value}:ItS prog w i l xs fun k h=>h.IsListIter i l k/\h.IsList l xs/\i≠l where
 nx:=fun h hx q=>wpAny_nextOf_list_item h.1 h.2.1 hx fun h' a b=>q h' ⟨a,h.2.1.extBut b.extBut h.2.2.symm,h.2.2⟩ b
 en:=fun h0 h hx q=>wpAny_nextOf_list_end h0 h.1 h.2.1 hx fun h' e a b=>q h' e a b
 keep:=fun h k=>⟨h.1.at fun o e=>k _ (.inl rfl) o e,(let ⟨o,e,r⟩:=h.2.1;⟨o,k _ (.inr rfl) o e,r⟩),h.2.2⟩
theorem ap {n b l m:Nat} (j:Nat) (h:b=n+m\/b=l) (hl:l < n) (hj:j≠m):n+j≠b:=by omega
theorem uh {n b j:Nat} (h:b < n\/b=n+3\/n+5 < b) (hj:j=0\/j=1\/j=2\/j=4\/j=5):n+j≠b:=by omega
theorem nn {n i j:Nat} (h:i≠j):n+i≠n+j:=by omega
abbrev oj (h:Heap) (T:Addr) (a b c:Value):Prop:=h.get? T=some ⟨.type "tuple", none,.seq #[a,b,c] 0,#[]⟩
abbrev Zp (h:Heap) (n:Nat) (v b:Value):Prop:=h.get? (n+5)=some ⟨.type "zip", none,.fields #[v,b,.bool false,.ref (n+3),.ref (n+4)],#[]⟩
section
variable {prog:Program} {w:World} {A:Around} {E:Value->Shared->Prop} {s:Shared} {n k:Nat} {l1 l2 l3:Addr} {xs ys zs:Array Value} {S1 S2 S3:Nat->Heap->Prop} {x y z a b c:Value}
theorem o9 {Q:Value->Shared->Prop} (hl:l1 < n/\l2 < n/\l3 < n) (I1:ItS prog w n l1 xs S1) (I2:ItS prog w (n+1) l2 ys S2) (I3:ItS prog w (n+2) l3 zs S3)
  (hz:Zp s.heap n .none (.bool false)) (ht:oj s.heap (n+3) (.ref n) (.ref (n+1)) (.ref (n+2))) (ho:oj s.heap (n+4) a b c) (h1:S1 k s.heap) (h2:S2 k s.heap) (h3:S3 k s.heap) (hx:xs[k]?=some x) (hy:ys[k]?=some y) (hw:zs[k]?=some z)
  (hq:∀ (h':Heap),Zp h' n (rawInt s.heap.objs.size) (.bool false)->S1 (k+1) h'->S2 (k+1) h'->S3 (k+1) h'->oj h' s.heap.objs.size x y z->(∀ (b:Addr) (o:Obj),b < n\/b=n+3\/n+5 < b->s.heap.get? b=some o->h'.get? b=some o)->Q (.ref s.heap.objs.size) { s with heap:=h' }) :
  wpAny (model prog w) A (Builtin.«zip.__next__» ⟨[.ref (n+5)],[]⟩) (fun fin s'=>∃ v,fin=.done (.ret v)/\Q v s') E s:=by
 obtain ⟨hp,g,d,tk,os⟩:=s;obtain ⟨hl1,hl2,hl3⟩:=hl;have k1:∀ {f:Obj->Obj},S1 k (hp.update (n+5) f):=I1.keep h1 fun b hb o e=>IJ _ (ap (m:=0) 5 hb hl1 (by decide)) e
 wp_walk using wpAny_onRaise,I1.nx k1 hx
 intro ha sa ea;have u1:∀ (b:Addr) (o:Obj),n+5≠b->n+0≠b->hp.get? b=some o->ha.get? b=some o:=fun b o h5 h0 e=>(ea.2 _ (Ne.symm h0)).trans (IJ _ h5 e);have z1:ha.get? (n+5)=some ⟨.type "zip", none,.fields #[.ellipsis,.bool false,.bool false,.ref (n+3),.ref (n+4)],#[]⟩:=(ea.2 _ (nn (j:=0) (by decide))).trans (IG _ hz rfl);have t1:ha.get? (n+4)=some ⟨.type "tuple", none,.seq #[a,b,c] 0,#[]⟩:=u1 _ _ (nn (by decide)) (nn (by decide)) ho;have k2:∀ {f:Obj->Obj},S2 k (ha.update (n+4) f):=I2.keep (I2.keep h2 fun b hb o e=>u1 b o (ap (m:=1) 5 hb hl2 (by decide)) (ap (m:=1) 0 hb hl2 (by decide)) e) fun b hb o e=>IJ _ (ap (m:=1) 4 hb hl2 (by decide)) e
 wp_walk using wpAny_onRaise,I2.nx k2 hy
 intro hb sb eb;have u2:∀ (b:Addr) (o:Obj),n+4≠b->n+1≠b->ha.get? b=some o->hb.get? b=some o:=fun b o h5 h0 e=>(eb.2 _ (Ne.symm h0)).trans (IJ _ h5 e);have z2:=u2 _ _ (nn (by decide)) (nn (by decide)) z1;have t2:hb.get? (n+4)=some ⟨.type "tuple", none,.seq #[x,b,c] 0,#[]⟩:=(eb.2 _ (nn (by decide))).trans (IG _ t1 rfl);have k3:∀ {f:Obj->Obj},S3 k (hb.update (n+4) f):=I3.keep (I3.keep (I3.keep h3 fun b hb o e=>u1 b o (ap (m:=2) 5 hb hl3 (by decide)) (ap (m:=2) 0 hb hl3 (by decide)) e) fun b hb o e=>u2 b o (ap (m:=2) 4 hb hl3 (by decide)) (ap (m:=2) 1 hb hl3 (by decide)) e) fun b hb o e=>IJ _ (ap (m:=2) 4 hb hl3 (by decide)) e
 wp_walk using wpAny_onRaise,I3.nx k3 hw
 intro hc sc ec;have u3:∀ (b:Addr) (o:Obj),n+4≠b->n+2≠b->hb.get? b=some o->hc.get? b=some o:=fun b o h5 h0 e=>(ec.2 _ (Ne.symm h0)).trans (IJ _ h5 e);have z3:=u3 _ _ (nn (by decide)) (nn (by decide)) z2;have t3:hc.get? (n+4)=some ⟨.type "tuple", none,.seq #[x,y,c] 0,#[]⟩:=(ec.2 _ (nn (by decide))).trans (IG _ t2 rfl)
 wp_walk
 have es:hc.objs.size=hp.objs.size:=ec.1.trans ((K4 _ _ _).trans (eb.1.trans ((K4 _ _ _).trans (ea.1.trans (K4 _ _ _)))));have es2:(hc.update (n+4) (Obj.mapSeq fun x:Array Value=>x.setIfInBounds (0+1+1) z)).objs.size=hp.objs.size:=(K4 _ _ _).trans es;rw [es2];generalize e9:(hc.update (n+4) (Obj.mapSeq fun x:Array Value=>x.setIfInBounds (0+1+1) z)).push { cls:=Value.type "tuple", data:=Data.seq ((fun x:Array Value=>x.setIfInBounds (0+1+1) z) #[x,y,c]).toList.toArray }=hd;have hk:∀ (b:Addr) (o:Obj),n+4≠b->hc.get? b=some o->hd.get? b=some o:=fun b o h e=>by rw [<- e9];exact Ia _ (IJ _ h e)
 have ze:=hk _ _ (nn (by decide)) z3;have hn:hd.get? hp.objs.size=some ⟨.type "tuple", none,.seq #[x,y,z] 0,#[]⟩:=by rw [<- e9,<-es2];exact Im _ rfl
 have lz:n+5 < hp.objs.size:=Ij hz;have up:∀ {f f':Obj->Obj} (b:Addr) (o:Obj),n+5≠b->hd.get? b=some o->((hd.update (n+5) f).update (n+5) f').get? b=some o:=fun b o h e=>IJ _ h (IJ _ h e)
 wp_walk
 refine ⟨_,rfl,hq _ ?_ ?_ ?_ ?_ ?_ ?_⟩
 ·exact IG _ (IG _ ze rfl) rfl
 ·exact I1.keep (I1.keep (I1.keep (I1.keep sa fun b q o e=>u2 b o (ap (m:=0) 4 q hl1 (by decide)) (ap (m:=0) 1 q hl1 (by decide)) e) fun b q o e=>u3 b o (ap (m:=0) 4 q hl1 (by decide)) (ap (m:=0) 2 q hl1 (by decide)) e) fun b q o e=>hk b o (ap (m:=0) 4 q hl1 (by decide)) e) fun b q o e=>up b o (ap (m:=0) 5 q hl1 (by decide)) e
 ·exact I2.keep (I2.keep (I2.keep sb fun b q o e=>u3 b o (ap (m:=1) 4 q hl2 (by decide)) (ap (m:=1) 2 q hl2 (by decide)) e) fun b q o e=>hk b o (ap (m:=1) 4 q hl2 (by decide)) e) fun b q o e=>up b o (ap (m:=1) 5 q hl2 (by decide)) e
 ·exact I3.keep (I3.keep sc fun b q o e=>hk b o (ap (m:=2) 4 q hl3 (by decide)) e) fun b q o e=>up b o (ap (m:=2) 5 q hl3 (by decide)) e
 ·exact up _ _ (Iz lz) hn
 ·intro b o h e;have h:∀ j,j=0\/j=1\/j=2\/j=4\/j=5->n+j≠b:=fun j hj=>uh h hj;exact up _ _ (h 5 (by decide)) (hk _ _ (h 4 (by decide)) (u3 _ _ (h 4 (by decide)) (h 2 (by decide)) (u2 _ _ (h 4 (by decide)) (h 1 (by decide)) (u1 _ _ (h 5 (by decide)) (h 0 (by decide)) e))))
theorem alive {Q:Option Obj->Shared->Prop} {T:Addr} {oT:Obj} (hT:s.heap.get? T=some oT) (h:Q (some oT) s):wpAny (model prog w) A (Sem.loadIfAlive ((T:Int)).toNat Sem.pure) Q E s:=fun Γ p _=>by
 rw [Sem.wp_loadIfAlive,show s.heap.get? ((T:Int).toNat)=some oT from hT];exact Ib (M:=model prog w) (A:=A) (E:=E) h Γ p ‹_›
theorem oH {Q:Bool->Shared->Prop} {T:Addr} {oT:Obj} {v:Bool} (hz:Zp s.heap n (rawInt T) (.bool v)) (hT:s.heap.get? T=some oT)
  (q:∀ h':Heap,Zp h' n (rawInt T) (.bool true)->h'.objs.size=s.heap.objs.size->(∀ (b:Addr) (o:Obj),n+5≠b->s.heap.get? b=some o->h'.get? b=some o)->Q false { s with heap:=h' }):wpAny (model prog w) A (Builtin.SmallTypes.ownedTupleIsFree (.ref (n+5))) Q E s:=by
 obtain ⟨hp,g,d,tk,os⟩:=s;cases v with
 | true =>
  wp_walk using alive hT
  exact q hp hz rfl fun b o _ e=>e
 | false =>
  wp_walk using alive hT
  exact q _ (IG _ hz rfl) (K4 _ _ _) fun b o h e=>IJ _ h e
theorem pI {Q:Value->Shared->Prop} {T:Addr} {oT:Obj} {v:Bool} (hl:l1 < n/\l2 < n/\l3 < n) (I1:ItS prog w n l1 xs S1) (I2:ItS prog w (n+1) l2 ys S2) (I3:ItS prog w (n+2) l3 zs S3)
  (hz:Zp s.heap n (rawInt T) (.bool v)) (hT:s.heap.get? T=some oT) (ht:oj s.heap (n+3) (.ref n) (.ref (n+1)) (.ref (n+2))) (h1:S1 k s.heap) (h2:S2 k s.heap) (h3:S3 k s.heap) (hx:xs[k]?=some x) (hy:ys[k]?=some y) (hw:zs[k]?=some z)
  (hq:∀ (h':Heap),Zp h' n (rawInt T) (.bool true)->S1 (k+1) h'->S2 (k+1) h'->S3 (k+1) h'->oj h' s.heap.objs.size x y z->(∀ (b:Addr) (o:Obj),b < n\/b=n+3\/n+5 < b->s.heap.get? b=some o->h'.get? b=some o)->Q (.ref s.heap.objs.size) { s with heap:=h' }) :
  wpAny (model prog w) A (Builtin.«zip.__next__» ⟨[.ref (n+5)],[]⟩) (fun fin s'=>∃ v,fin=.done (.ret v)/\Q v s') E s:=by
 obtain ⟨hp,g,d,tk,os⟩:=s;obtain ⟨hl1,hl2,hl3⟩:=hl
 wp_walk using oH hz hT
 intro h0 z0 s0 u0;have k1:S1 k h0:=I1.keep h1 fun b hb o e=>u0 b o (ap (m:=0) 5 hb hl1 (by decide)) e
 wp_walk using I1.nx' k1 hx
 ·rfl
 intro ha sa ea;have u1:∀ (b:Addr) (o:Obj),n+0≠b->h0.get? b=some o->ha.get? b=some o:=fun b o h0 e=>(ea.2 _ (Ne.symm h0)).trans e;have k2:S2 k ha:=I2.keep (I2.keep h2 fun b hb o e=>u0 b o (ap (m:=1) 5 hb hl2 (by decide)) e) fun b hb o e=>u1 b o (ap (m:=1) 0 hb hl2 (by decide)) e
 wp_walk using I2.nx' k2 hy
 ·rfl
 intro hb sb eb;have u2:∀ (b:Addr) (o:Obj),n+1≠b->ha.get? b=some o->hb.get? b=some o:=fun b o h0 e=>(eb.2 _ (Ne.symm h0)).trans e;have k3:S3 k hb:=I3.keep (I3.keep (I3.keep h3 fun b hb o e=>u0 b o (ap (m:=2) 5 hb hl3 (by decide)) e) fun b hb o e=>u1 b o (ap (m:=2) 0 hb hl3 (by decide)) e) fun b hb o e=>u2 b o (ap (m:=2) 1 hb hl3 (by decide)) e
 wp_walk using I3.nx' k3 hw
 ·rfl
 intro hc sc ec;have u3:∀ (b:Addr) (o:Obj),n+2≠b->hb.get? b=some o->hc.get? b=some o:=fun b o h0 e=>(ec.2 _ (Ne.symm h0)).trans e
 wp_walk
 have es:hc.objs.size=hp.objs.size:=ec.1.trans (eb.1.trans (ea.1.trans s0));have pk:∀ (b:Addr) (o:Obj),hc.get? b=some o->(hc.push ⟨.type "tuple", none,.seq #[x,y,z] 0,#[]⟩).get? b=some o:=fun b o e=>Ia _ e;have hn:(hc.push ⟨.type "tuple", none,.seq #[x,y,z] 0,#[]⟩).get? hc.objs.size=some ⟨.type "tuple", none,.seq #[x,y,z] 0,#[]⟩:=Im _ rfl;refine ⟨_,rfl,?_⟩;show Q (.ref hc.objs.size) { heap:=hc.push ⟨.type "tuple", none,.seq #[x,y,z] 0,#[]⟩,gens:=g,drawn:=d,toks:=tk,os:=os };rw [es] at hn ⊢;refine hq _ ?_ ?_ ?_ ?_ hn fun b o h e=>?_
 ·exact pk _ _ (u3 _ _ (nn (by decide)) (u2 _ _ (nn (by decide)) (u1 _ _ (nn (by decide)) z0)))
 ·exact I1.keep (I1.keep (I1.keep sa fun b q o e=>u2 b o (ap (m:=0) 1 q hl1 (by decide)) e) fun b q o e=>u3 b o (ap (m:=0) 2 q hl1 (by decide)) e) fun b q o e=>pk b o e
 ·exact I2.keep (I2.keep sb fun b q o e=>u3 b o (ap (m:=1) 2 q hl2 (by decide)) e) fun b q o e=>pk b o e
 ·exact I3.keep sc fun b q o e=>pk b o e
 ·exact pk _ _ (u3 _ _ (uh h (by decide)) (u2 _ _ (uh h (by decide)) (u1 _ _ (uh h (by decide)) (u0 _ _ (uh h (by decide)) e))))
end
theorem ItS.en' {prog:Program} {w:World} {i l:Addr} {xs:Array Value} {S:Nat->Heap->Prop} {A:Around} {E:Value->Shared->Prop} {s:Shared} {k:Nat} {v:Value} {Q:Value->Shared->Prop} (I:ItS prog w i l xs S) (h0:A.handled=none) (h:S k s.heap) (hx:xs[k]?=none) (hv:v=.ref i) (q:∀ (h':Heap) (e:Addr),Heap.ExtBut i s.heap h'->(∃ o,h'.get? e=some o/\o.cls=.type "StopIteration")->E (.ref e) { s with heap:=h' }):wpAny (model prog w) A (Builtin.SmallTypes.nextOf v) Q E s:=by
 subst hv;exact I.en h0 h hx q
section
variable {prog:Program} {w:World} {A:Around} {E:Value->Shared->Prop} {s:Shared} {n k:Nat} {l1 l2 l3:Addr} {xs ys zs:Array Value} {S1 S2 S3:Nat->Heap->Prop} {x y z:Value}
def ZSt (n:Nat) (S1 S2 S3:Nat->Heap->Prop) (k:Nat) (h:Heap):Prop:=oj h (n+3) (.ref n) (.ref (n+1)) (.ref (n+2))/\S1 k h/\S2 k h/\S3 k h/\((∃ a b c,Zp h n .none (.bool false)/\oj h (n+4) a b c)\/∃ (T:Addr) (oT:Obj) (v:Bool),Zp h n (rawInt T) (.bool v)/\h.get? T=some oT/\n+5 < T)
theorem qh {Q:Value->Shared->Prop} (hl:l1 < n/\l2 < n/\l3 < n) (I1:ItS prog w n l1 xs S1) (I2:ItS prog w (n+1) l2 ys S2) (I3:ItS prog w (n+2) l3 zs S3) (st:ZSt n S1 S2 S3 k s.heap) (hx:xs[k]?=some x) (hy:ys[k]?=some y) (hw:zs[k]?=some z)
  (hq:∀ (h':Heap),ZSt n S1 S2 S3 (k+1) h'->oj h' s.heap.objs.size x y z->(∀ (b:Addr) (o:Obj),b < n\/n+5 < b->s.heap.get? b=some o->h'.get? b=some o)->Q (.ref s.heap.objs.size) { s with heap:=h' }) :
  wpAny (model prog w) A (Builtin.«zip.__next__» ⟨[.ref (n+5)],[]⟩) (fun fin s'=>∃ v,fin=.done (.ret v)/\Q v s') E s:=by
 obtain ⟨ht,h1,h2,h3,⟨a,b,c,hz,ho⟩ | ⟨T,oT,v,hz,hT,hn⟩⟩:=st
 ·refine o9 hl I1 I2 I3 hz ht ho h1 h2 h3 hx hy hw fun h' a1 a2 a3 a4 a5 a6=>hq h' ⟨a6 _ _ (.inr (.inl rfl)) ht,a2,a3,a4,.inr ⟨s.heap.objs.size,_,false,a1,a5,Ij hz⟩⟩ a5 fun b o h e=>a6 b o (h.elim .inl fun z=>.inr (.inr z)) e
 ·refine pI hl I1 I2 I3 hz hT ht h1 h2 h3 hx hy hw fun h' a1 a2 a3 a4 a5 a6=>hq h' ⟨a6 _ _ (.inr (.inl rfl)) ht,a2,a3,a4,.inr ⟨T,oT,true,a1,a6 _ _ (.inr (.inr hn)) hT,hn⟩⟩ a5 fun b o h e=>a6 b o (h.elim .inl fun z=>.inr (.inr z)) e
theorem uq {Q:Fin->Shared->Prop} (h0:A.handled=none) (hl:l1 < n) (I1:ItS prog w n l1 xs S1) (st:ZSt n S1 S2 S3 k s.heap) (hx:xs[k]?=none)
  (hq:∀ (h':Heap) (e:Addr),(∀ (b:Addr) (o:Obj),b < n\/n+5 < b->s.heap.get? b=some o->h'.get? b=some o)->(∃ o,h'.get? e=some o/\o.cls=.type "StopIteration")->E (.ref e) { s with heap:=h' }) :
  wpAny (model prog w) A (Builtin.«zip.__next__» ⟨[.ref (n+5)],[]⟩) Q E s:=by
 obtain ⟨hp,g,d,tk,os⟩:=s;obtain ⟨ht,h1,h2,h3,⟨a,b,c,hz,ho⟩ | ⟨T,oT,v,hz,hT,hn⟩⟩:=st
 ·have k1:∀ {f:Obj->Obj},S1 k (hp.update (n+5) f):=I1.keep h1 fun b hb o e=>IJ _ (ap (m:=0) 5 hb hl (by decide)) e
  wp_walk using wpAny_onRaise,I1.en h0 k1 hx
  intro ha e ea eo;obtain ⟨⟨_,o2,o3,o4⟩,eo,rfl⟩:=eo;have z1:ha.get? (n+5)=some ⟨.type "zip", none,.fields #[.ellipsis,.bool false,.bool false,.ref (n+3),.ref (n+4)],#[]⟩:=ea _ _ (nn (j:=0) (by decide)) (IG _ hz rfl)
  wp_walk
  have ne:n+5≠e:=fun q=>by have w:=(q▸z1).symm.trans eo;simp at w
  exact hq _ _ (fun b o h q=>IJ _ (uh (h.elim .inl fun z=>.inr (.inr z)) (by decide)) (ea _ _ (Ne.symm (uh (j:=0) (h.elim .inl fun z=>.inr (.inr z)) (by decide))) (IJ _ (uh (h.elim .inl fun z=>.inr (.inr z)) (by decide)) q))) ⟨_,IJ _ ne eo,rfl⟩
 ·wp_walk using oH hz hT
  intro h9 z0 s0 u0;have k1:S1 k h9:=I1.keep h1 fun b hb o e=>u0 b o (ap (m:=0) 5 hb hl (by decide)) e
  wp_walk using I1.en' h0 k1 hx
  ·rfl
  intro ha e ea eo;exact hq _ _ (fun b o h q=>ea _ _ (Ne.symm (uh (j:=0) (h.elim .inl fun z=>.inr (.inr z)) (by decide))) (u0 _ _ (uh (h.elim .inl fun z=>.inr (.inr z)) (by decide)) q)) eo
theorem j9 {h h':Heap} (I1:ItS prog w n l1 xs S1) (I2:ItS prog w (n+1) l2 ys S2) (I3:ItS prog w (n+2) l3 zs S3) (hl:l1 < n/\l2 < n/\l3 < n) (st:ZSt n S1 S2 S3 k h) (kp:∀ b,b < n+6->∀ o,h.get? b=some o->h'.get? b=some o) (al:∀ (b:Addr) (o:Obj),h.get? b=some o->∃ o',h'.get? b=some o'):ZSt n S1 S2 S3 k h':=by
 have q:∀ {i l b:Nat},l < n->i < 3->b=n+i\/b=l->b < n+6:=by omega
 obtain ⟨ht,h1,h2,h3,r⟩:=st;refine ⟨kp _ (Nat.add_lt_add_left (by decide) n) _ ht,I1.keep h1 fun b hb o e=>kp b (q (i:=0) hl.1 (by decide) hb) o e,I2.keep h2 fun b hb o e=>kp b (q (i:=1) hl.2.1 (by decide) hb) o e,I3.keep h3 fun b hb o e=>kp b (q (i:=2) hl.2.2 (by decide) hb) o e,?_⟩;rcases r with ⟨a,b,c,hz,ho⟩ | ⟨T,oT,v,hz,hT,hn⟩
 ·exact .inl ⟨a,b,c,kp _ (Nat.add_lt_add_left (by decide) n) _ hz,kp _ (Nat.add_lt_add_left (by decide) n) _ ho⟩
 ·obtain ⟨o',e⟩:=al _ _ hT;exact .inr ⟨T,o',v,kp _ (Nat.add_lt_add_left (by decide) n) _ hz,e,hn⟩
theorem gR (st:ZSt n S1 S2 S3 k s.heap):s.TypeIs (.ref (n+5)) "zip" := by
 obtain ⟨_,_,_,_,⟨_,_,_,hz,_⟩ | ⟨_,_,_,hz,_⟩⟩:=st <;> exact ⟨_,hz,rfl⟩
theorem pR {Q:Option Value->Shared->Prop} (hl:l1 < n/\l2 < n/\l3 < n) (I1:∀ prog w,ItS prog w n l1 xs S1) (I2:∀ prog w,ItS prog w (n+1) l2 ys S2) (I3:∀ prog w,ItS prog w (n+2) l3 zs S3) (st:ZSt n S1 S2 S3 k s.heap) (hx:xs[k]?=some x) (hy:ys[k]?=some y) (hw:zs[k]?=some z)
  (hq:∀ (h':Heap),ZSt n S1 S2 S3 (k+1) h'->oj h' s.heap.objs.size x y z->(∀ (b:Addr) (o:Obj),b < n\/n+5 < b->s.heap.get? b=some o->h'.get? b=some o)->Q (some (.ref s.heap.objs.size)) { s with heap:=h' }):wpAny (model prog w) A (pyNext (.ref (n+5))) Q E s:=by
 unfold pyNext;refine H9 (KY (Jb (gR st) F.slot_zip_next ?_));refine JZ (S:=fun _ R s'=>s'=s/\∀ (h':Heap),ZSt n S1 S2 S3 (k+1) h'->oj h' s.heap.objs.size x y z->(∀ (b:Addr) (o:Obj),b < n\/n+5 < b->s.heap.get? b=some o->h'.get? b=some o)->R (.ok (.ret (.ref s.heap.objs.size))) { s with heap:=h' }) F.slot_zip_next (gR st) F.entry_zip_next (F.args_zip_next_1 _) (.of_wp fun prog w A R s' h=>?_) ⟨rfl,fun h' a1 a2 a3=>Ib (hq h' a1 a2 a3)⟩;obtain ⟨rfl,h⟩:=h;exact qh (Q:=fun v s'=>R (.ok (.ret v)) s') hl (I1 _ _) (I2 _ _) (I3 _ _) st hx hy hw h
theorem sd {Q:Option Value->Shared->Prop} (h0:A.handled=none) (hl:l1 < n) (I1:∀ prog w,ItS prog w n l1 xs S1) (st:ZSt n S1 S2 S3 k s.heap) (hx:xs[k]?=none)
  (hq:∀ (h':Heap),(∀ (b:Addr) (o:Obj),b < n\/n+5 < b->s.heap.get? b=some o->h'.get? b=some o)->Q none { s with heap:=h' }):wpAny (model prog w) A (pyNext (.ref (n+5))) Q E s:=by
 unfold pyNext;refine H9 (KY (Jb (gR st) F.slot_zip_next ?_));refine JZ (S:=fun A R s'=>A.handled=none/\s'=s/\∀ (h':Heap) (e:Addr),(∀ (b:Addr) (o:Obj),b < n\/n+5 < b->s.heap.get? b=some o->h'.get? b=some o)->(∃ o,h'.get? e=some o/\o.cls=.type "StopIteration")->R (.error (.ref e)) { s with heap:=h' }) F.slot_zip_next (gR st) F.entry_zip_next (F.args_zip_next_1 _) (.of_wp fun prog w A R s' h=>?_) ⟨h0,rfl,fun h' e a1 a2=>?_⟩
 ·obtain ⟨h0,rfl,h⟩:=h;exact uq (E:=fun e s'=>R (.error e) s') h0 hl (I1 _ _) st hx h
 ·obtain ⟨o,e1,e2⟩:=a2;refine H9 (KZ (T := "StopIteration") ⟨_,e1,e2⟩ (by rfl) ?_);exact Ib (hq h' a1)
theorem Aa {R:Result->Shared->Prop} {S:Addr} {res:Value} {m:Nat} (h0:A.handled=none) (hl:l1 < n/\l2 < n/\l3 < n) (I1:∀ prog w,ItS prog w n l1 xs S1) (I2:∀ prog w,ItS prog w (n+1) l2 ys S2) (I3:∀ prog w,ItS prog w (n+2) l3 zs S3) (hx:xs.size=m) (hy:ys.size=m) (hw:zs.size=m) (hS:n+5 < S) (hm:m<=1000)
  (hR:∀ (h':Heap) (acc:List Addr) (c:Nat),acc.length=m->acc.Nodup/\(∀ T∈acc,n+5 < T/\T≠S)->h'.get? S=some ⟨.type "list", none,.seq (acc.map Value.ref).toArray c,#[]⟩->(∀ (j:Nat) (T:Addr),acc[j]?=some T->∃ x y z,xs[j]?=some x/\ys[j]?=some y/\zs[j]?=some z/\oj h' T x y z)->(∀ (b:Addr) (o:Obj),b < n->s.heap.get? b=some o->h'.get? b=some o)->R (.ok (.ret res)) { s with heap:=h' }) :
  ∀ (d:Nat) (acc:List Addr) (c:Nat) (h:Heap),acc.length+d=m->acc.Nodup->ZSt n S1 S2 S3 acc.length h->h.get? S=some ⟨.type "list", none,.seq (acc.map Value.ref).toArray c,#[]⟩->(∀ (j:Nat) (T:Addr),acc[j]?=some T->n+5 < T/\T≠S/\∃ x y z,xs[j]?=some x/\ys[j]?=some y/\zs[j]?=some z/\oj h T x y z)->(∀ (b:Addr) (o:Obj),b < n->s.heap.get? b=some o->h.get? b=some o) ->
   codeAny (model prog w) A (.builtin "list.extend.loop" ⟨[.ref S,.ref (n+5),res],[]⟩) R { s with heap:=h }
 | 0,acc,c,h,hd,nd,st,gS,ga,gk=>by
  refine Jw F.entry_extend_loop ?_;rw [Jq J7 _];show wpAny _ A.in1 (pyNext (.ref (n+5))>>=_) _ _ _;refine H9 (sd (A:=A.in1) h0 hl.1 I1 st (K6 (by omega)) fun h' k=>?_);exact Ib (hR h' acc c (by omega) ⟨nd,fun T hT=>let ⟨j,hj⟩:=Js.mp hT;let ⟨t1,t2,_⟩:=ga j T hj;⟨t1,t2⟩⟩ (k _ _ (.inr hS) gS) (fun j T e=>let ⟨t1,_,x,y,z,a1,a2,a3,a4⟩:=ga j T e;⟨x,y,z,a1,a2,a3,k _ _ (.inr t1) a4⟩) fun b o hb e=>k _ _ (.inl hb) (gk b o hb e))
 | d+1,acc,c,h,hd,nd,st,gS,ga,gk=>by
  refine Jw F.entry_extend_loop ?_;rw [Jq J7 _];show wpAny _ A.in1 (pyNext (.ref (n+5))>>=_) _ _ _;have gx:=Jk (xs:=xs) (i:=acc.length) (by omega);have gy:=Jk (xs:=ys) (i:=acc.length) (by omega);have gw:=Jk (xs:=zs) (i:=acc.length) (by omega);refine H9 (pR hl I1 I2 I3 st gx gy gw fun h' st' tr k=>?_);have gS':=k _ _ (.inr hS) gS;have lS:S < h.objs.size:=Ij gS;have tS:h.objs.size≠S:=Ju lS;have t5:n+5 < h.objs.size:=KC hS lS;show wpAny _ A.in1 (updateSeq S (·.push (.ref h.objs.size))>>=_) _ _ _;refine H9 ?_;obtain ⟨c2,hc2⟩:∃ c2,(h'.update S (Obj.mapSeq (·.push (.ref h.objs.size)))).get? S=some ⟨.type "list", none,.seq ((acc.map Value.ref).toArray.push (.ref h.objs.size)) c2,#[]⟩:=⟨_,IG _ gS' rfl⟩;have oth:∀ (b:Addr) (o:Obj),S≠b->h'.get? b=some o->(h'.update S (Obj.mapSeq (·.push (.ref h.objs.size)))).get? b=some o:=fun b o hb e=>IJ _ hb e;refine Kv gS' rfl (Ib ⟨J0 J7 _,Aa h0 hl I1 I2 I3 hx hy hw hS hm hR d (acc++[h.objs.size]) c2 _ (by rw [Io,JM];omega) (List.nodup_append.mpr ⟨nd,by simp,fun x hx y hy e=>?_⟩) ?_ ?_ (fun j T e=>?_) fun b o hb e=>oth b o (Ju (KC (Ir hb (Kq n 5)) hS)) (k _ _ (.inl hb) (gk b o hb e))⟩) (by simp;rw [IQ];omega) (by simp;rw [IQ];omega)
  ·obtain ⟨j,hj⟩:=Js.mp hx;obtain ⟨_,_,x',y',z',_,_,_,a4⟩:=ga j x hj;exact absurd (Ij a4) (by rw [e,Ii.mp hy];exact IU _)
  ·rw [Io,JM];refine j9 (I1 prog w) (I2 prog w) (I3 prog w) hl st' (fun b hb o e=>oth b o (Ju (Ir hb hS)) e) fun b o e=>?_;by_cases hb:S=b
   ·exact ⟨_,by rw [<- hb];exact hc2⟩
   ·exact ⟨o,oth b o hb e⟩
  ·rw [hc2];simp
  ·rw [List.getElem?_append] at e;split at e
   ·obtain ⟨t1,t2,x,y,z,a1,a2,a3,a4⟩:=ga j T e;exact ⟨t1,t2,x,y,z,a1,a2,a3,oth _ _ (Ne.symm t2) (k _ _ (.inr t1) a4)⟩
   ·have hj:j=acc.length:=by
     have:=(Ih.mp e).1;rw [JM] at this;omega
    subst hj;rw [Nat.sub_self] at e;cases e;exact ⟨t5,tS,_,_,_,gx,gy,gw,oth _ _ (Ne.symm tS) tr⟩
end
structure Ibl (l:Addr) (xs:Array Value) (ok:Heap->Prop) (o:Obj) (S:Addr->Nat->Heap->Prop):Prop where
 iter:∀ {prog:Program} {w:World} {A:Around} {E:Value->Shared->Prop} {s:Shared} {Q:Value->Shared->Prop},ok s.heap->Q (.ref s.heap.objs.size) { s with heap:=s.heap.push o }->wpAny (model prog w) A (pyIter (.ref l)) Q E s
 st:∀ {h:Heap},ok h->S h.objs.size 0 (h.push o)
 keep:∀ {h h':Heap},ok h->(∀ c o,h.get? c=some o->h'.get? c=some o)->ok h'
 lt:∀ {h:Heap},ok h->l < h.objs.size
 fr:o.isFreed=false
 its:∀ i prog w,ItS prog w i l xs (S i)
theorem yT {l:Addr} {xs:Array Value}:Ibl l xs (fun h=>h.IsTuple l xs) ⟨.type "tuple_iterator", none,.fields #[.ref l,.int 0 0],#[]⟩ fun i k h=>h.IsTupleIter i l k/\h.IsTuple l xs/\i≠l where
 iter:=fun h q=>wpAny_pyIter_tuple h q
 st:=fun {h} hk=>⟨⟨_,Im _ rfl,rfl,rfl⟩,(let ⟨o,e,r⟩:=hk;⟨o,Ia _ e,r⟩),(let ⟨o,e,r⟩:=hk;Ju (Ij e))⟩
 keep:=fun ⟨o,e,r⟩ k=>⟨o,k _ _ e,r⟩
 lt:=fun ⟨o,e,r⟩=>Ij e
 fr:=rfl
 its:=fun i prog w=>zY
theorem xM {l:Addr} {xs:Array Value}:Ibl l xs (fun h=>h.IsList l xs) ⟨.type "list_iterator", none,.fields #[.ref l,.int 0 0],#[]⟩ fun i k h=>h.IsListIter i l k/\h.IsList l xs/\i≠l where
 iter:=fun h q=>KP h q
 st:=fun {h} hk=>⟨⟨_,Im _ rfl,rfl,rfl⟩,(let ⟨o,e,r⟩:=hk;⟨o,Ia _ e,r⟩),(let ⟨o,e,r⟩:=hk;Ju (Ij e))⟩
 keep:=fun ⟨o,e,r⟩ k=>⟨o,k _ _ e,r⟩
 lt:=fun ⟨o,e,r⟩=>Ij e
 fr:=rfl
 its:=fun i prog w=>zT
section
variable {l1 l2 l3:Addr} {xs ys zs:Array Value} {k1 k2 k3:Heap->Prop} {o1 o2 o3:Obj} {S1 S2 S3:Addr->Nat->Heap->Prop}
abbrev zh (h:Heap) (o1 o2 o3:Obj):Heap:=(((((h.push o1).push o2).push o3).push ⟨.type "tuple", none,.seq #[.ref h.objs.size,.ref (h.push o1).objs.size,.ref ((h.push o1).push o2).objs.size] 0,#[]⟩).push ⟨.type "tuple", none,.seq #[.none,.none,.none] 0,#[]⟩)
theorem jk (B1:Ibl l1 xs k1 o1 S1) (B2:Ibl l2 ys k2 o2 S2) (B3:Ibl l3 zs k3 o3 S3):Meets (Builtin.«zip.__new__» ⟨[.type "zip", .ref l1,.ref l2,.ref l3],[]⟩) fun _ R s=>k1 s.heap/\k2 s.heap/\k3 s.heap /\
  R (.ok (.ret (.ref (zh s.heap o1 o2 o3).objs.size))) { s with heap:=(zh s.heap o1 o2 o3).push ⟨.type "zip", none,.fields #[.none,.bool false,.bool false,.ref (((s.heap.push o1).push o2).push o3).objs.size,.ref ((((s.heap.push o1).push o2).push o3).push ⟨.type "tuple", none,.seq #[.ref s.heap.objs.size,.ref (s.heap.push o1).objs.size,.ref ((s.heap.push o1).push o2).objs.size] 0,#[]⟩).objs.size],#[]⟩ } :=
 .of_wp fun prog w A R s h=>by
  obtain ⟨hp,g,d,tk,os⟩:=s;obtain ⟨h1,h2,h3,h⟩:=h;have f1:=PySem.sub_zip;have p2:k2 (hp.push o1):=B2.keep h2 fun _ _ e=>Ia _ e;have p3:k3 ((hp.push o1).push o2):=B3.keep h3 fun _ _ e=>Ia _ (Ia _ e)
  wp_walk using B1.iter h1,B2.iter p2,B3.iter p3
  exact ⟨_,rfl,h⟩
end
theorem El (a b c d:Value):argsOk "object.__init__" ⟨[a,b,c,d],[]⟩:=by
 unfold argsOk;rw [signature?_of (id := "object.__init__") (n:=['_','_','t','i','n','i','_','_']) (o:=['t','c','e','j','b','o']) (by kernel_rfl) PySem.F.owner_object]
 kernel_rfl
theorem pA:typeLookup (.type "zip") "__len__" = pure none:=by rw [Kw,J1];kernel_rfl
theorem nj:typeLookup (.type "zip") "__length_hint__" = pure none:=by rw [Kw,J1];kernel_rfl
section
variable {prog:Program} {w:World} {A:Around} {E:Value->Shared->Prop} {s:Shared} {l1 l2 l3:Addr} {xs ys zs:Array Value} {k1 k2 k3:Heap->Prop} {o1 o2 o3:Obj} {S1 S2 S3:Addr->Nat->Heap->Prop}
theorem sX {Q:Value->Shared->Prop} (B1:Ibl l1 xs k1 o1 S1) (B2:Ibl l2 ys k2 o2 S2) (B3:Ibl l3 zs k3 o3 S3) (h1:k1 s.heap) (h2:k2 s.heap) (h3:k3 s.heap)
  (hq:∀ h':Heap,ZSt s.heap.objs.size (S1 s.heap.objs.size) (S2 (s.heap.objs.size+1)) (S3 (s.heap.objs.size+2)) 0 h'->h'.objs.size=s.heap.objs.size+6->(∀ (b:Addr) (o:Obj),s.heap.get? b=some o->h'.get? b=some o)->Q (.ref (s.heap.objs.size+5)) { s with heap:=h' }):wpAny (model prog w) A (call (.type "zip") [.ref l1,.ref l2,.ref l3]) Q E s:=by
 have gp:∀ {h:Heap} {o:Obj} {n:Nat},h.objs.size=n->o.isFreed=false->(h.push o).get? n=some o:=by rintro h o _ rfl f;exact Im _ f
 refine callType_new F.called_zip rfl rfl (by with_unfolding_all rfl) (fun obj=>El _ _ _ _) F.entry_zip_new (jk B1 B2 B3) ⟨h1,h2,h3,⟨⟨_,Im _ rfl,rfl⟩,?_⟩⟩;have p2:k2 (s.heap.push o1):=B2.keep h2 fun _ _ e=>Ia _ e;have p3:k3 ((s.heap.push o1).push o2):=B3.keep h3 fun _ _ e=>Ia _ (Ia _ e);have q1:=B1.st h1;have q2:=B2.st p2;have q3:=B3.st p3;have z1:(s.heap.push o1).objs.size=s.heap.objs.size+1:=Jv ..;have z2:((s.heap.push o1).push o2).objs.size=s.heap.objs.size+2:=by rw [Jv,z1]
 have z3:(((s.heap.push o1).push o2).push o3).objs.size=s.heap.objs.size+3:=by rw [Jv,z2]
 rw [z1] at q2;rw [z2] at q3;dsimp only [zh];rw [z1,z2,z3];generalize e4:(((s.heap.push o1).push o2).push o3).push ⟨.type "tuple", none,.seq #[.ref s.heap.objs.size,.ref (s.heap.objs.size+1),.ref (s.heap.objs.size+2)] 0,#[]⟩=h4;have z4:h4.objs.size=s.heap.objs.size+4:=by rw [<- e4,Jv,z3]
 have g4:oj h4 (s.heap.objs.size+3) (.ref s.heap.objs.size) (.ref (s.heap.objs.size+1)) (.ref (s.heap.objs.size+2)):=by rw [<- e4];exact gp z3 rfl
 have k4:∀ (b:Addr) (o:Obj),(((s.heap.push o1).push o2).push o3).get? b=some o->h4.get? b=some o:=fun b o e=>by rw [<- e4];exact Ia _ e
 rw [z4];have z5:(h4.push ⟨.type "tuple", none,.seq #[.none,.none,.none] 0,#[]⟩).objs.size=s.heap.objs.size+5:=by rw [Jv,z4]
 rw [z5];refine hq _ ⟨Ia _ (Ia _ g4),?_,?_,?_,.inl ⟨.none,.none,.none,gp z5 rfl,Ia _ (gp z4 rfl)⟩⟩ (by rw [Jv,z5]) fun b o e=>Ia _ (Ia _ (k4 _ _ (Ia _ (Ia _ (Ia _ e)))))
 ·exact (B1.its _ prog w).keep q1 fun b _ o e=>Ia _ (Ia _ (k4 _ _ (Ia _ (Ia _ e))))
 ·exact (B2.its _ prog w).keep q2 fun b _ o e=>Ia _ (Ia _ (k4 _ _ (Ia _ e)))
 ·exact (B3.its _ prog w).keep q3 fun b _ o e=>Ia _ (Ia _ (k4 _ _ e))
theorem rO {n m:Nat} {Q:Value->Shared->Prop} {T1 T2 T3:Nat->Heap->Prop} (h0:A.handled=none) (hl:l1 < n/\l2 < n/\l3 < n) (I1:∀ prog w,ItS prog w n l1 xs T1) (I2:∀ prog w,ItS prog w (n+1) l2 ys T2) (I3:∀ prog w,ItS prog w (n+2) l3 zs T3) (hx:xs.size=m) (hy:ys.size=m) (hw:zs.size=m) (hm:m<=1000) (st:ZSt n T1 T2 T3 0 s.heap) (hz:Zp s.heap n .none (.bool false))
  (hq:∀ (h':Heap) (acc:List Addr) (c:Nat),acc.length=m->acc.Nodup/\(∀ T∈acc,n+5 < T/\T≠s.heap.objs.size)->h'.get? s.heap.objs.size=some ⟨.type "list", none,.seq (acc.map Value.ref).toArray c,#[]⟩->(∀ (j:Nat) (T:Addr),acc[j]?=some T->∃ x y z,xs[j]?=some x/\ys[j]?=some y/\zs[j]?=some z/\oj h' T x y z)->(∀ (b:Addr) (o:Obj),b < n->s.heap.get? b=some o->h'.get? b=some o)->Q (.ref s.heap.objs.size) { s with heap:=h' }) :
  wpAny (model prog w) A (call (.type "list") [.ref (n+5)]) Q E s:=by
 have lz:n+5 < s.heap.objs.size:=Ij hz;refine callType_codes (Q₁:=fun obj ZW=>obj=.ref s.heap.objs.size/\ZW={ s with heap:=s.heap.push { cls:=.type "list", data:=.seq #[] } }) F.called_list (F.typeCall_list_1 _) F.entry_list_init
  (code_list_new _ ⟨rfl,rfl⟩) fun obj ZW h₁=>?_
 obtain ⟨rfl,rfl⟩:=h₁;generalize eS:s.heap.objs.size=S at *;have hS:(s.heap.push { cls:=.type "list", data:=.seq #[] }).get? S=some { cls:=.type "list", data:=.seq #[] }:=by rw [<- eS];exact Im _ rfl
 have hp0:∀ (b:Addr) (o:Obj),s.heap.get? b=some o->(s.heap.push { cls:=.type "list", data:=.seq #[] }).get? b=some o:=fun b o e=>Ia _ e;refine ⟨⟨_,hS,rfl⟩,F.args_list_init_2 _ _,?_⟩;show wpAny _ _ (do let old<-Builtin.List.listItems (.ref S);Builtin.List.listUpdate (.ref S) (fun _=>#[]);letGo old.toList.reverse;Builtin.List.listExtendWith (.ref S) (.ref (n+5)) .none) _ _ _;refine H9 ?_;unfold Builtin.List.listItems;refine H9 (wpAny_seqItems hS rfl (Ib ?_));show wpAny _ _ (updateSeq S (fun _=>#[])>>=fun _=>letGo (#[]:Array Value).toList.reverse>>=fun _=>Builtin.List.listExtendWith (.ref S) (.ref (n+5)) .none) _ _ _;refine H9 (Kv hS rfl ?_);have hS2:=IG (Obj.mapSeq (fun _=>(#[]:Array Value))) hS rfl;have oth:∀ (b:Addr) (o:Obj),S≠b->s.heap.get? b=some o->((s.heap.push { cls:=.type "list", data:=.seq #[] }).update S (Obj.mapSeq (fun _=>(#[]:Array Value)))).get? b=some o:=fun b o hb e=>IJ _ hb (hp0 b o e);have lt6:∀ {b:Nat},b < n+6->S≠b:=fun {b} h=>by omega
 have al:∀ (b:Addr) (o:Obj),s.heap.get? b=some o->S≠b:=fun b o e=>by have:=Ij e;rw [eS] at this;exact Ju this
 have st2:=j9 (I1 prog w) (I2 prog w) (I3 prog w) hl st (fun b hb o e=>oth b o (lt6 hb) e) fun b o e=>⟨o,oth b o (al b o e) e⟩;have hz2:=oth _ _ (lt6 (JV _)) hz;generalize (s.heap.push { cls:=.type "list", data:=.seq #[] }).update S (Obj.mapSeq (fun _=>(#[]:Array Value)))=h2 at *;refine H9 (wpAny_letGo ?_);have key:∀ (h:Heap) (c:Nat),ZSt n T1 T2 T3 0 h->h.get? S=some ⟨.type "list", none,.seq #[] c,#[]⟩->(∀ (b:Addr) (o:Obj),b < n->s.heap.get? b=some o->h.get? b=some o)->codeAny (model prog w) A.in1 (.builtin "list.extend.loop" ⟨[.ref S,.ref (n+5),.none],[]⟩) (wants (fun r ZU=>r=Value.none/\Q (.ref S) ZU) E) { s with heap:=h }:=fun h c st gS gk =>
  Aa (s:=s) (A:=A.in1) h0 hl I1 I2 I3 hx hy hw lz hm (fun h' acc c a1 a0 a2 a3 a4=>⟨rfl,hq h' acc c a1 a0 a2 a3 a4⟩) m [] c h (by simp) List.nodup_nil st gS (fun j T e=>by simp at e) gk
 unfold Builtin.List.listExtendWith;have hT:(⟨h2,s.gens,s.drawn,s.toks,s.os⟩:Shared).TypeIs (.ref (n+5)) "zip" := ⟨_,hz2,rfl⟩;refine H9 (Kh (T := "zip") hT ?_);have e1:Builtin.List.listSameRef (.ref S) (.ref (n+5))=false:=by simp [Builtin.List.listSameRef,lt6 (JV (n+5))]
 have e2:(Value.type "zip" == Value.type "list")=false:=by decide
 have e3:(Value.type "zip" == Value.type "tuple")=false:=by decide
 simp only [e1,e2,e3,Bool.or_false,Kf,J8];refine H9 (wpAny_pyIter_zip hz2 ?_);refine H9 (Jj ?_);unfold Builtin.List.listLengthHint;refine H9 (Kb hT pA ?_);show wpAny _ _ (specialOf (Value.ref (n+5)) (Str.ofString "__length_hint__")>>=_) _ _ _;refine H9 (Kb hT nj ?_);refine Ib ?_;have gk:∀ (b:Addr) (o:Obj),b < n->s.heap.get? b=some o->h2.get? b=some o:=fun b o hb e=>oth b o (lt6 (Ir hb (Kq n 6))) e;refine wpAny_ite_split (fun _=>?_) (fun _=>Ib ⟨J0 J7 _,key _ _ st2 hS2 gk⟩);refine H9 (JJ ?_);refine H9 ?_;show wpAny _ _ (updateSeq S (·.push .none)>>=fun _=>updateSeq S (·.pop)) _ _ _;refine H9 (Kv hS2 rfl ?_);have hS3:=IG (Obj.mapSeq (·.push Value.none)) hS2 rfl;refine Kv (hz:=by seq_fits) hS3 rfl ?_;have hS4:=IG (Obj.mapSeq (·.pop)) hS3 rfl;have up:∀ (b:Addr) (o:Obj),S≠b->h2.get? b=some o->((h2.update S (Obj.mapSeq (·.push Value.none))).update S (Obj.mapSeq (·.pop))).get? b=some o:=fun b o hb e=>IJ _ hb (IJ _ hb e);refine Ib ⟨J0 J7 _,key _ _ (j9 (I1 prog w) (I2 prog w) (I3 prog w) hl st2 (fun b hb o e=>up b o (lt6 hb) e) fun b o e=>?_) hS4 fun b o hb e=>up b o (lt6 (Ir hb (Kq n 6))) (gk b o hb e)⟩;by_cases hb:S=b
 ·exact ⟨_,by rw [<- hb];exact hS4⟩
 ·exact ⟨o,up b o hb e⟩
end
def Sq2 (K:Fg) (H:Hp) (a:Addr) (xs:List V):Prop:=SqL K H a xs\/SqT K H a xs
section
variable {X:Cx} {pins:List (Addr×Obj)} {Z:List (Option V)} {H H':Hp} {s:Shared} {h':Heap}
theorem Inv.HS {N:Addr->Prop} (I:Inv X pins Z H s) (hk:∀ b o,s.heap.get? b=some o->h'.get? b=some o) (hN:∀ b,N b->s.heap.objs.size<=b) (hs:∀ b,¬N b->H' b=H b) (new:∀ b o,N b->H' b=some o->bw X.prog X.w H' h' b o):Inv X pins Z H' { s with heap:=h' }/\aA H H':=by
 have fr:∀ b,N b->H b=none:=fun b hb=>I.hok.fresh (hN b hb);have sub:∀ b o,H b=some o->H' b=some o:=fun b o e=>by
  by_cases hb:N b
  ·rw [fr b hb] at e;cases e
  ·rw [hs b hb];exact e
 refine ⟨I.step (t':=s.toks) (g':=s.gens) (d':=s.drawn) (ch:=[]) (fun b hb=>absurd hb (by simp)) (fun b o _ _ _ e _=>hk b o e) (fun b o _ _ _ e _=>⟨o.slots,hk b o e⟩) (fun b o _ e n=>?_) (fun b o _ e=>⟨o,hk b o e⟩) (fun b xs e=>sub b _ e) (fun b o u e=>sub b _ e) (fun b x y e=>sub b _ e) (fun m hm=>?_) (fun b o e=>?_) I.bare,sub⟩
 ·rw [hs b fun hb=>absurd (Ij e) (Nat.not_lt.mpr (hN b hb))];exact n
 ·obtain ⟨o,es,ep,ho,r⟩:=hm;exact ⟨o,es,ep,hk _ o ho,r⟩
 ·by_cases hb:N b
  ·exact new b o hb e
  ·rw [hs b hb] at e;exact (I.hok b o e).jg (fun c v _ q=>hk c v q) (fun c q=>sub c _ q) (fun c xs q=>sub c _ q) fun c o u vs q _=>sub c _ q
theorem Inv.ibl {a:Addr} {xs:List V} (I:Inv X pins Z H s) (h:Sq2 X.K H a xs):∃ (its:List Value) (k:Heap->Prop) (o:Obj) (S:Addr->Nat->Heap->Prop),Vals xs its/\Ibl a its.toArray k o S/\k s.heap:=by
 rcases h with h | h
 ·obtain ⟨its,r,p,_⟩:=I.list h;exact ⟨its,_,_,_,r,xM,p.isList⟩
 ·obtain ⟨its,r,p,_⟩:=I.tuple h;exact ⟨its,_,_,_,r,yT,p⟩
end
noncomputable def ip:List V->List V->List V->List (List V)
 | x :: xs,y :: ys,z :: zs=>[x,y,z] :: ip xs ys zs
 | _,_,_=>[]
theorem lE:∀ {xs ys zs:List V} {j:Nat} {x y z:V},xs[j]?=some x->ys[j]?=some y->zs[j]?=some z->(ip xs ys zs)[j]?=some [x,y,z]
 | x :: xs,y :: ys,z :: zs,0,_,_,_,h1,h2,h3=>by cases h1;cases h2;cases h3;rfl
 | x :: xs,y :: ys,z :: zs,j+1,_,_,_,h1,h2,h3=>by
  have:=lE (xs:=xs) (ys:=ys) (zs:=zs) (j:=j) (by simpa using h1) (by simpa using h2) (by simpa using h3);simpa [ip] using this
 | [],_,_,_,_,_,_,h,_,_=>by simp at h
 | _ :: _,[],_,_,_,_,_,_,h,_=>by simp at h
 | _ :: _,_ :: _,[],_,_,_,_,_,_,h=>by simp at h
theorem l7:∀ {xs ys zs:List V} {m:Nat},xs.length=m->ys.length=m->zs.length=m->(ip xs ys zs).length=m
 | [],[],[],m,h,_,_=>h
 | x :: xs,y :: ys,z :: zs,m+1,h1,h2,h3=>by rw [ip,IH,l7 (m:=m) (by simpa using h1) (by simpa using h2) (by simpa using h3)]
 | x :: xs,y :: ys,z :: zs,0,h1,_,_=>by simp at h1
 | [],_ :: _,_,m,h1,h2,_=>by simp at h1 h2;omega
 | [],[],_ :: _,m,h1,_,h3=>by simp at h1 h3;omega
 | _ :: _,[],_,m,h1,h2,_=>by simp at h1 h2;omega
 | _ :: _,_ :: _,[],m,_,h2,h3=>by simp at h2 h3;omega
theorem md:∀ acc:List Addr,Vals (acc.map V.ref) (acc.map Value.ref)
 | []=>.nil
 | a :: r=>.cons rfl (md r)
def rZ3 (K:Fg):List V->Hp->VK->Prop:=fun us H Q=>∃ (a b c:Addr) (xs ys zs:List V) (m:Nat),us=[.ref a,.ref b,.ref c]/\Sq2 K H a xs/\Sq2 K H b ys/\Sq2 K H c zs/\xs.length=m/\ys.length=m/\zs.length=m/\m<=1000 /\
 ∀ (H':Hp) (D:Addr) (Ts:List Addr),aA H H'->H D=none->H' D=some (.lst (Ts.map V.ref))->Ts.length=m->(∀ (j:Nat) (T:Addr) (r:List V),Ts[j]?=some T->(ip xs ys zs)[j]?=some r->H' T=some (.tup r))->Q (.ref D) H'
theorem eZ3 {X:Cx} {a b c:Expr} {t:TA} {p1 p2 pos1 pos2:Pos} (hh:X.A.handled=none) (hg1:Gl X "list") (hm1:X.mg "list" = none) (hg2:Gl X "zip") (hm2:X.mg "zip" = none) (h1:PySem.W.isStarred a=false) (h2:[b,c].all (fun e=>!PySem.W.isStarred e)=true) (ha:JA X [a,b,c] t) :
  JE X (.Call (.Name "list" p1) [.Call (.Name "zip" p2) [a,b,c] [] pos2] [] pos1) (tCB (rZ3 X.K) t):=by
 refine ⟨?_⟩;intro pins s Z H Q I hT;refine Call_ (jT I hg1 hm1 (show bootBuiltins "list" = some (.type "list") by decide +kernel) (KA ?_ rfl rfl) (by decide) (by decide));refine Calls.spliced_cons ?_;refine Call_ (jT I hg2 hm2 (show bootBuiltins "zip" = some (.type "zip") by decide +kernel) (KA (thn (ha.h pos2 pins s Z H _ I hT) fun us s1 ⟨vs,H1,I1,r1,q1⟩=>?_) (ba h1) (bG h2)) (by decide) (by decide));obtain ⟨a,b,c,xs,ys,zs,m,rfl,q2,q3,q4,l1,l2,l3,hm,q⟩:=q1;obtain ⟨u1,v1,rfl,e1,u2,v2,rfl,e2,u3,v3,rfl,e3,e4⟩:∃ u1 v1,us=u1 :: v1/\u1=Value.ref a/\∃ u2 v2,v1=u2 :: v2/\u2=Value.ref b/\∃ u3 v3,v2=u3 :: v3/\u3=Value.ref c/\v3=[]:=by
  cases r1 with
  | cons r1 r=>cases r with
   | cons r2 r=>cases r with
    | cons r3 r=>cases r;exact ⟨_,_,rfl,r1,_,_,rfl,r2,_,_,rfl,r3,rfl⟩
 subst e1 e2 e3 e4;obtain ⟨ix,k1,o1,S1,rx,B1,p1⟩:=I1.ibl q2;obtain ⟨iy,k2,o2,S2,ry,B2,p2⟩:=I1.ibl q3;obtain ⟨iz,k3,o3,S3,rz,B3,p3⟩:=I1.ibl q4;have lx:ix.toArray.size=m:=by rw [Iw,<-rx.length,l1]
 have ly:iy.toArray.size=m:=by rw [Iw,<-ry.length,l2]
 have lw:iz.toArray.size=m:=by rw [Iw,<-rz.length,l3]
 refine sX B1 B2 B3 p1 p2 p3 fun h2 st hz2 hk2=>?_;refine Calls.spliced_nil ?_;have hz:Zp h2 s1.heap.objs.size .none (.bool false):=by
  obtain ⟨_,_,_,_,⟨_,_,_,hz,_⟩ | ⟨T,oT,v,hz,hT,hn⟩⟩:=st
  ·exact hz
  ·exact absurd (Ij hT) (by rw [hz2];exact Nat.not_lt.mpr hn)
 refine rO (s:={ s1 with heap:=h2 }) hh ⟨B1.lt p1,B2.lt p2,B3.lt p3⟩ (B1.its _) (B2.its _) (B3.its _) lx ly lw hm st hz fun h' acc cc la nd gS gT gk=>?_;have hD:h2.objs.size=s1.heap.objs.size+6:=hz2;have hk:∀ (b:Addr) (o:Obj),s1.heap.get? b=some o->h'.get? b=some o:=fun b o e=>gk b o (Ij e) (hk2 b o e);have lr:=l7 l1 l2 l3;have key:∃ H':Hp,H' h2.objs.size=some (.lst (acc.map V.ref))/\(∀ (j:Nat) (T:Addr) (r:List V),acc[j]?=some T->(ip xs ys zs)[j]?=some r->H' T=some (.tup r))/\Inv X pins Z H' { s1 with heap:=h' }/\aA H1 H':=by
  let Hn:Hp:=fun b=>if b=h2.objs.size then some (.lst (acc.map V.ref)) else if b∈acc then (((ip xs ys zs)[acc.idxOf b]?).map HO.tup) else H1 b
  have hT:∀ (j:Nat) (T:Addr) (r:List V),acc[j]?=some T->(ip xs ys zs)[j]?=some r->Hn T=some (.tup r):=fun j T r hj hr=>by
   have hm:=IF hj;have ej:acc.idxOf T=j:=by
    obtain ⟨hlt,rfl⟩:=Ih.mp hj;exact List.Nodup.idxOf_getElem nd.1 _ _
   show (if T=h2.objs.size then _ else _)=_;rw [ID (nd.2 T hm).2,Iy hm,ej,hr];rfl
  refine ⟨Hn,Iy rfl,hT,I1.HS (N:=fun b=>b=h2.objs.size\/b∈acc) hk (fun b hb=>?_) (fun b hb=>?_) fun b o hb e=>?_⟩
  ·rcases hb with hb | hb
   ·rw [hb,hD];exact Kq _ _
   ·exact J6 (Nat.lt_of_le_of_lt (Kq _ 5) (nd.2 b hb).1)
  ·show (if b=h2.objs.size then _ else _)=_;rw [ID fun z=>hb (.inl z),ID fun z=>hb (.inr z)]
  ·by_cases hb':b=h2.objs.size
   ·have e:(if b=h2.objs.size then some (HO.lst (acc.map V.ref)) else _)=some o:=e;rw [Iy hb'] at e;cases e;exact ⟨by rw [Ic,la,IQ];omega,acc.map Value.ref,cc,md acc,by rw [hb'];exact gS⟩
   ·obtain ⟨j,hj⟩:=Js.mp (hb.resolve_left hb');obtain ⟨x,y,z,a1,a2,a3,a4⟩:=gT j b hj;have hjm:j < m:=by rw [<- la];exact (Ih.mp hj).1
    have b1:=Ie (l:=xs) (i:=j) (by omega);have b2:=Ie (l:=ys) (i:=j) (by omega);have b3:=Ie (l:=zs) (i:=j) (by omega);obtain ⟨w1,c1,d1⟩:=rx.get b1;obtain ⟨w2,c2,d2⟩:=ry.get b2;obtain ⟨w3,c3,d3⟩:=rz.get b3;rw [Kp,c1] at a1;rw [Kp,c2] at a2;rw [Kp,c3] at a3;cases a1;cases a2;cases a3;rw [hT j b _ hj (lE b1 b2 b3)] at e;cases e;exact ⟨by show 3<=sizeLine;decide,[_,_,_],.cons d1 (.cons d2 (.cons d3 .nil)),_,a4,rfl,0,rfl⟩
 obtain ⟨H',g1,g2,I2,sm⟩:=key;exact ⟨.ref h2.objs.size,H',I2,rfl,q H' _ acc sm (I1.hok.fresh (by rw [hD];exact Kq _ _)) g1 la g2⟩
noncomputable def Dk:PyData->Option (List PyData) | .list ds=>some ds | .tuple ds=>some ds | _=>none
theorem sM {K:Fg} {F:Addr->Prop} {H:Hp} {d:PyData} {v:V} {ds:List PyData} (h:Dk d=some ds) (hv:Vw K F H d v):∃ a xs,v=.ref a/\Sq2 K H a xs/\xs.length=ds.length/\DmL K F H ds xs:=by
 cases d with
 | list es=>cases h;obtain ⟨a,rfl,xs,sq,z,dl⟩:=hv;exact ⟨a,xs,rfl,.inl sq,dl.len,dl⟩
 | tuple es=>cases h;obtain ⟨a,xs,rfl,sq,z,dl⟩:=hv;exact ⟨a,xs,rfl,.inr sq,dl.len,dl⟩
 | _=>cases h
noncomputable def pq:List PyData->List PyData->List PyData->List PyData
 | x :: xs,y :: ys,z :: zs=>.tuple [x,y,z] :: pq xs ys zs
 | _,_,_=>[]
theorem qw {K:Fg} {F:Addr->Prop} {H:Hp}:∀ {ds es fs:List PyData} {xs ys zs:List V} {Ts:List Addr} {m:Nat},ds.length=m->es.length=m->fs.length=m->Ts.length=m->DmL K F H ds xs->DmL K F H es ys->DmL K F H fs zs->(∀ (j:Nat) (T:Addr) (r:List V),Ts[j]?=some T->(ip xs ys zs)[j]?=some r->H T=some (.tup r))->DmL K F H (pq ds es fs) (Ts.map V.ref)
 | [],es,fs,xs,ys,zs,Ts,m,h1,h2,h3,h4,_,_,_,_=>by
  have:Ts=[]:=List.eq_nil_of_length_eq_zero (by rw [h4,<-h1];rfl);rw [this];unfold pq;rfl
 | d :: ds,e :: es,f :: fs,xs,ys,zs,T :: Ts,m,h1,h2,h3,h4,hx,hy,hz,g=>by
  obtain ⟨x,xr,rfl,x1,x2⟩:=hx;obtain ⟨y,yr,rfl,y1,y2⟩:=hy;obtain ⟨z,zr,rfl,z1,z2⟩:=hz;refine ⟨.ref T,_,rfl,⟨T,[x,y,z],rfl,.inl (.inl (g 0 T _ rfl rfl)),by show 3<=sizeLine;decide,_,_,rfl,x1,_,_,rfl,y1,_,_,rfl,z1,rfl⟩,?_⟩;cases m with
  | zero=>cases h1
  | succ m=>exact qw (m:=m) (by simpa using h1) (by simpa using h2) (by simpa using h3) (by simpa using h4) x2 y2 z2 fun j T r a b=>g (j+1) T r (by simpa using a) (by simpa [ip] using b)
 | _ :: _,[],_,_,_,_,_,m,h1,h2,_,_,_,_,_,_=>by simp at h1 h2;omega
 | _ :: _,_ :: _,[],_,_,_,_,m,h1,_,h3,_,_,_,_,_=>by simp at h1 h3;omega
 | _ :: _,_ :: _,_ :: _,_,_,_,[],m,h1,_,_,h4,_,_,_,_=>by simp at h1 h4;omega
noncomputable def xw:Prm where
 r:=rZ3
 f:=fun ds=>match ds with
  | [a,b,c]=>match Dk a,Dk b,Dk c with
   | some xs,some ys,some zs=>if xs.length<=1000/\ys.length=xs.length/\zs.length=xs.length then some (.frs (.list (pq xs ys zs))) else none
   | _,_,_=>none
  | _=>none
 ok:=by
  intro K F H ds vs pr Q hf hv hF q;split at hf
  ·rename_i a b c;split at hf
   ·rename_i xs ys zs e1 e2 e3;split at hf
    ·rename_i hc;cases hf;obtain ⟨v1,r1,rfl,h1,v2,r2,rfl,h2,v3,r3,rfl,h3,e⟩:=hv;have e:r3=[]:=e;subst e;obtain ⟨a,us,rfl,s1,n1,d1⟩:=sM e1 h1;obtain ⟨b,ws,rfl,s2,n2,d2⟩:=sM e2 h2;obtain ⟨c,zz,rfl,s3,n3,d3⟩:=sM e3 h3;refine ⟨a,b,c,us,ws,zz,xs.length,rfl,s1,s2,s3,n1,n2.trans hc.2.1,n3.trans hc.2.2,hc.1,fun H' D Ts sm hD gD gl gT=>?_⟩;have pr:∀ {d v},DmL K F H d v->DmL K (fun b=>F b\/b=D) H' d v:=fun h=>(h.fresh hD).pr (fun b o e _=>sm b o e) fun _ z=>z;refine q _ H' sm ⟨D,rfl,hD,_,gD,by rw [Ic,gl,IQ];omega,qw (m:=xs.length) rfl hc.2.1 hc.2.2 gl (pr d1) (pr d2) (pr d3) gT⟩
    ·cases hf
   ·cases hf
  ·cases hf
noncomputable def Ea:Mtd where
 T := "dict"
 r:=B4
 ty:=FP
 f:=fun d as=>match d,as with
  | .dict kvs,[.str k,.bool x]=>if hk6 (.str k)=true then some (.dat ((getD kvs (.str k)).getD (.bool x))) else none
  | _,_=>none
 zp:=fun K F H d v h t=>by
  cases d with
  | dict kvs=>obtain ⟨a,rfl,ep,xs,e,_⟩:=t;exact .inr (.inr (.inl ⟨rfl,.inr (.inr ⟨ep,xs,e⟩)⟩))
  | _=>cases h
 ok:=fun K F H d v ds vs pr Q hf hx hv hd q=>by
  split at hf
  ·rename_i kvs k x;split at hf
   ·rename_i hk;cases hf;obtain ⟨a,rfl,ep,xs,ea,z,r⟩:=hx;obtain ⟨y,r1,rfl,hy,w,r2,rfl,hw,rfl⟩:=hv;have g:=oM (k:=.str k) r;refine ⟨y,w,.str k,a,ep,xs,rfl,⟨F,kvs,rfl,ea,r,hy,hk⟩,q _ H (aA.rf H) ?_⟩;cases z:getD kvs (.str k) with
    | none=>rw [g.2 z];exact vBl hw
    | some d=>obtain ⟨v,ev,dv⟩:=g.1 d z;rw [ev];exact dv
   ·cases hf
  ·cases hf
end L2
end
set_option bootstrap.genMatcherCode true
section
namespace K44
open PySem PySem.Spec PyProof.Rows L2
noncomputable def top (i:Nat):Stmt:=PySem.Challenge.pw_webshapes_k44_conditions_of_parts.main.body.getD i (.Pass ⟨0,0,0,0⟩)
noncomputable abbrev gs:Stmt:=top 6
noncomputable abbrev hX:Stmt:=top 10
noncomputable abbrev dM:Stmt:=top 20
noncomputable abbrev dW:Stmt:=top 23
noncomputable abbrev cx:Stmt:=top 27
noncomputable abbrev fD:Stmt:=top 29
noncomputable abbrev gm:Stmt:=top 30
noncomputable abbrev aS:Stmt:=top 31
noncomputable abbrev aL:Stmt:=top 32
noncomputable abbrev bq:Stmt:=top 33
noncomputable abbrev bc:Stmt:=top 34
noncomputable abbrev aK:Stmt:=top 35
noncomputable abbrev aQ:Stmt:=top 36
noncomputable abbrev k5:Stmt:=top 42
noncomputable abbrev t8:Stmt:=top 44
noncomputable abbrev nC:Stmt:=top 45
noncomputable abbrev oW:Stmt:=top 46
noncomputable abbrev i7:Stmt:=top 47
noncomputable abbrev qy:Stmt:=top 48
noncomputable abbrev jF:Stmt:=top 49
noncomputable abbrev dC:Stmt:=top 50
noncomputable abbrev g9:Stmt:=top 51
noncomputable abbrev eU:Stmt:=top 52
noncomputable abbrev jA:Stmt:=top 53
noncomputable abbrev sQ:Stmt:=top 54
noncomputable def dfs:List (Str×Stmt×List Str):=[("is_whole", gs,["thing"]),("kind_of", hX,["node"]),("bonds_of", dM,["web", "node"]),("keeps_bound", dW,["form", "node"]),("keeps_form", cx,["web", "form", "node", "kept"]),("is_headed", fD,["reason", "word", "length"]),("is_place", gm,["thing", "forms"]),("parts_show", aS,["web", "forms", "node", "verdicts", "reasons", "rests"]),("alone_shows", aL,["web", "forms", "node", "reason", "rests"]),("two_shows", bq,["web", "forms", "node", "reason", "rests"]),("part_shows", bc,["web", "forms", "node", "verdict", "reason", "rests"]),("every_shows", aK,["web", "forms", "node", "verdict", "reason", "rests"]),("listed_shows", aQ,["web", "form", "node", "verdict", "reason", "rests"]),("shows", k5,["web", "form", "node", "verdict", "reason", "rests"]),("_law_pen", t8,["_law_script"]),("_law_draw", nC,["_law_pen_here", "_law_many"]),("_law_told", oW,["_law_form", "_law_verdict", "_law_reason", "_law_claims"]),("_law_names", i7,["_law_pen_here", "_law_many"]),("_law_all", qy,["_law_form", "_law_verdict", "_law_good", "_law_bad", "_law_claims"]),("_law_places", jF,["_law_many", "_law_at"]),("_law_every", dC,["_law_word", "_law_names_here", "_law_verdict", "_law_kept"]),("_law_part", g9,["_law_word", "_law_names_here", "_law_verdict", "_law_kept"]),("_law_one", eU,["_law_names_here"]),("_law_single", jA,["_law_pen_here", "_law_names_here"]),("law", sQ,["_law_script"])]
structure Adr where
 f:Nat->Addr×FuncData
 kq:Addr
 iB:Addr
structure Txt (K:Fg) (mg:Str->Option Value) (t:Adr):Prop where
 d:∀ i {x st ps},dfs[i]?=some (x,st,ps)->Fa K mg x st ps (t.f i)
 Bf:(t.f 16).2.code=.ref 247
 z_abs:mg "abs" = none
 z_all:mg "all" = none
 z_bool:mg "bool" = none
 z_dict:mg "dict" = none
 z_int:mg "int" = none
 z_isinstance:mg "isinstance" = none
 z_len:mg "len" = none
 z_list:mg "list" = none
 z_range:mg "range" = none
 z_set:mg "set" = none
 z_sorted:mg "sorted" = none
 z_str:mg "str" = none
 z_tuple:mg "tuple" = none
 z_zip:mg "zip" = none
 g_KINDS:mg "KINDS" = some (.ref t.kq)
 g_LISTS:mg "LISTS" = some (.ref t.iB)
 s_KINDS:∀ H,SqT K H t.kq [.str "number", .str "said", .str "thing"]
 s_LISTS:∀ H,SqT K H t.iB [.str "all", .str "some", .str "one", .str "none"]
theorem my:aq ["thing"] ["thing"] (ab gs):=scm
theorem p8:aq ["node"] ["node"] (ab hX):=scm
theorem ny:aq ["web", "node"] ["web", "node"] (ab dM):=scm
theorem jl:aq ["form", "node"] ["form", "node"] (ab dW):=scm
theorem fh:aq ["web", "form", "node", "kept", "head"] ["web", "form", "node", "kept"] (ab cx):=scm
theorem lW:aq ["reason", "word", "length"] ["reason", "word", "length"] (ab fD):=scm
theorem nA:aq ["thing", "forms"] ["thing", "forms"] (ab gm):=scm
theorem fy:aq ["web", "forms", "node", "verdicts", "reasons", "rests", "triples"] ["web", "forms", "node", "verdicts", "reasons", "rests"] (ab aS):=scm
theorem eQ:aq ["web", "forms", "node", "reason", "rests", "verdicts"] ["web", "forms", "node", "reason", "rests"] (ab aL):=scm
theorem lQ:aq ["web", "forms", "node", "reason", "rests"] ["web", "forms", "node", "reason", "rests"] (ab bq):=scm
theorem kL:aq ["web", "forms", "node", "verdict", "reason", "rests"] ["web", "forms", "node", "verdict", "reason", "rests"] (ab bc):=scm
theorem jx:aq ["web", "forms", "node", "verdict", "reason", "rests"] ["web", "forms", "node", "verdict", "reason", "rests"] (ab aK):=scm
theorem du:aq ["web", "form", "node", "verdict", "reason", "rests", "head"] ["web", "form", "node", "verdict", "reason", "rests"] (ab aQ):=scm
theorem j6:aq ["web", "form", "node", "verdict", "reason", "rests", "head"] ["web", "form", "node", "verdict", "reason", "rests"] (ab k5):=scm
theorem CY:aq ["_law_script"] ["_law_script"] (ab t8):=scm
theorem eX:aq ["_law_pen_here", "_law_many", "_law_found", "_law_place", "_law_cell", "_law_one_here", "_law_two"] ["_law_pen_here", "_law_many"] (ab nC):=scm
theorem qU:aq ["_law_form", "_law_verdict", "_law_reason", "_law_claims", "_law_web"] ["_law_form", "_law_verdict", "_law_reason", "_law_claims"] (ab oW):=scm
theorem kR:aq ["_law_pen_here", "_law_many", "_law_letters", "_law_begin"] ["_law_pen_here", "_law_many"] (ab i7):=scm
theorem o5:aq ["_law_form", "_law_verdict", "_law_good", "_law_bad", "_law_claims", "_law_reason", "_law_name", "_law_other"] ["_law_form", "_law_verdict", "_law_good", "_law_bad", "_law_claims"] (ab qy):=scm
theorem qV:aq ["_law_many", "_law_at"] ["_law_many", "_law_at"] (ab jF):=scm
theorem fx:aq ["_law_word", "_law_names_here", "_law_verdict", "_law_kept", "_law_whys", "_law_form", "_law_bad"] ["_law_word", "_law_names_here", "_law_verdict", "_law_kept"] (ab dC):=scm
theorem f6:aq ["_law_word", "_law_names_here", "_law_verdict", "_law_kept", "_law_form", "_law_at", "_law_bad", "_law_found"] ["_law_word", "_law_names_here", "_law_verdict", "_law_kept"] (ab g9):=scm
theorem cb:aq ["_law_names_here", "_law_many", "_law_form", "_law_whys", "_law_at", "_law_claims", "_law_bad", "_law_other", "_law_good"] ["_law_names_here"] (ab eU):=scm
theorem bJ:aq ["_law_pen_here", "_law_names_here", "_law_name", "_law_verdict", "_law_bad", "_law_so", "_law_form", "_law_due"] ["_law_pen_here", "_law_names_here"] (ab jA):=scm
theorem nQ:aq ["_law_script", "_law_pen_here", "_law_names_here"] ["_law_script"] (ab sQ):=scm
noncomputable def gds:List PyData:=[.tuple [PyData.str "number", PyData.str "said", PyData.str "thing"],.tuple [PyData.str "all", PyData.str "some", PyData.str "one", PyData.str "none"]]
noncomputable def gav (t:Adr):Nat->V:=fun g=>([.ref t.kq,.ref t.iB]:List V)[g]?.getD .non
theorem bI {K:Fg} {mg:Str->Option Value} {t:Adr} (T:Txt K mg t):∀ g d,gds[g]?=some d->∀ F H,Dm K F H d (gav t g):=by
 intro g d h F H;rcases g with _ | g
 ·cases h;exact ⟨_,_,rfl,T.s_KINDS H,by decide,⟨_,_,rfl,⟨rfl,by decide +kernel,bD _⟩,⟨_,_,rfl,⟨rfl,by decide +kernel,bD _⟩,⟨_,_,rfl,⟨rfl,by decide +kernel,bD _⟩,rfl⟩⟩⟩⟩
 rcases g with _ | g
 ·cases h;exact ⟨_,_,rfl,T.s_LISTS H,by decide,⟨_,_,rfl,⟨rfl,by decide +kernel,bD _⟩,⟨_,_,rfl,⟨rfl,by decide +kernel,bD _⟩,⟨_,_,rfl,⟨rfl,by decide +kernel,bD _⟩,⟨_,_,rfl,⟨rfl,by decide +kernel,bD _⟩,rfl⟩⟩⟩⟩⟩
 cases h
theorem zR {env:Env} (c:Addr) (h:env.cells.lookup ar.g=some c):closureFor ar.scope env=pure [(ar.g,c)]:=by
 show closureFor { kind:=.function,names:=[("_law_one_here", .local),("_law_name", .local),("_law_said", .local),("_law_claims", .free)],isGenerator:=false,isCoroutine:=false,more:=[] } env=_;have h:env.cells.lookup ("_law_claims" : Str)=some c:=h;simp [closureFor,cellOf,h];rfl
noncomputable def rq:XE:=(.nc (.prm eqP (.cons (vr 0) (.cons (cs "a") .nil))) (.prm eqP (.cons (.met Ea (vr 3) (.cons (vr 1) (.cons (vr 2) .nil))) (.cons (vr 2) .nil))))
noncomputable def Bk:Fn:=Dj 3 (c8 gds (nu 4) 4 (.ret rq))
theorem B0 {P:Program} {w:World} {K:Fg} {mg:Str->Option Value} {base:Heap} {ga:Nat->V}:Ab P w K mg base 3 ga rq where
 S:=⟨rfl,rfl,rfl,by decide +kernel,by decide +kernel,rfl,fun y h=>by
  have h:List.lookup y [(("_law_one_here" : Str),NameKind.local),("_law_name", .local),("_law_said", .local),("_law_claims", .free)]=some .free:=h;have m:=Jr h;simp at m;exact m,fun us i y u hl h1 h2=>match us,i with
  | [_,_,_],0=>by cases h1;cases h2;rfl
  | [_,_,_],1=>by cases h1;cases h2;rfl
  | [_,_,_],2=>by cases h1;cases h2;rfl
  | [_,_,_],i+3=>by simp [ar] at h1⟩
 h2:=rfl
 hb:=fun _ _ _ _ us hl=>match us,hl with | [_,_,_],_=>rfl
 gJ:=fun _ _ _ _ _ _ _ hr=>uj (jf (aB hr.units) (eVx 0) ao (aO _)) (uB (jf (aB hr.units) (eBM (Dz 3 rfl (.inr (.inr rfl)) rfl rfl) (eAx (eVx 1) (eAx (eVx 2) ag)) (wZ hr.units) PySem.F.plainAttrs_dict PySem.F.slot_dict_get PySem.F.type_dict_get rfl rfl rfl rfl rfl) (eVx 2) (aO _)))
noncomputable def iQ:XS :=
 (.ret (.nc (p1 (tZ "int") (vr 0)) (.ud (p1 (tZ "bool") (vr 0)))))
noncomputable def eY:Fn:=c8 gds [.dat] 1 iQ
def mK (K:Fg):Sp:=cU eY K
noncomputable def pM:XS :=
 (.seq (.ifs (.tst (p1 (tZ "str") (vr 0))) (.ret (cs "thing")) .skip)
  (.seq (.ifs (.tst (p1 (tZ "tuple") (vr 0))) (.ret (cs "said")) .skip)
  (.ret (cs "number"))))
noncomputable def fY:Fn:=c8 gds [.dat] 1 pM
def pe (K:Fg):Sp:=cU fY K
noncomputable def mS:XS :=
 (.ret (p1 zH (.cmp [1] (.tup (vr 0)) (.tst (p2 eqP (p2 ixP (vr 0) (ci 0)) (vr 1))) (p2 ixP (vr 0) (ci 1)))))
noncomputable def ij:Fn:=c8 gds [.dat,.dat] 2 mS
def ni (K:Fg):Sp:=cU ij K
noncomputable def ji:XS :=
 (.seq (.ifs (.tst (p2 neP (.call fY (.cons (vr 1) .nil)) (cs "number"))) (.ret (.cst (.b false))) .skip)
  (.ret (.ifx (.tst (p2 eqP (p2 ixP (vr 0) (ci 0)) (cs "from"))) (p2 geP (vr 1) (p2 ixP (vr 0) (ci 1))) (p2 leP (vr 1) (p2 ixP (vr 0) (ci 1))))))
noncomputable def eE:Fn:=c8 gds [.dat,.dat] 2 ji
def jv (K:Fg):Sp:=cU eE K
noncomputable def jV:XS :=
 (.seq (.c7 4 (p2 ixP (vr 1) (ci 0)))
  (.seq (.ifs (.tst (p2 eqP (vr 4) (cs "any"))) (.ret (.cst (.b true))) .skip)
  (.seq (.ifs (.tst (p2 inP (vr 4) (.glb 0))) (.ret (p2 eqP (.call fY (.cons (vr 2) .nil)) (vr 4))) .skip)
  (.seq (.ifs (.tst (p2 inP (vr 4) (.tup (.cons (cs "from") (.cons (cs "upto") .nil))))) (.ret (.call eE (.cons (vr 1) (.cons (vr 2) .nil)))) .skip)
  (.seq (.ifs (.tst (p2 eqP (vr 4) (cs "is"))) (.ret (p2 eqP (vr 2) (p2 ixP (vr 1) (ci 1)))) .skip)
  (.seq (.ifs (.tst (p2 eqP (vr 4) (cs "keeps"))) .nev .skip)
  (.seq (.ifs (.tst (p2 eqP (vr 4) (cs "not"))) .nev .skip)
  (.seq (.ifs (.tst (p2 eqP (vr 4) (cs "closed"))) (.ret (p1 zt (.cmp [1] (.lst (.call ij (.cons (vr 0) (.cons (vr 2) .nil)))) .yes (p2 inP (vr 0) (p2 ixP (vr 1) (ci 1)))))) .skip)
  (.seq (.ifs (.tst (p2 inP (vr 4) (.glb 1))) .nev .skip)
  .nev)))))))))
noncomputable def cL:Fn:=c8 gds [.dat,.dat,.dat,.dat] 5 jV
def j7 (K:Fg):Sp:=cU cL K
noncomputable def gB:XS :=
 (.ret (.nc (p1 (tZ "tuple") (vr 0)) (.nc (p2 eqP (p1 jJ (vr 0)) (vr 2)) (p2 eqP (p2 ixP (vr 0) (ci 0)) (vr 1)))))
noncomputable def aW:Fn:=c8 gds [.dat,.dat,.dat] 3 gB
def bF (K:Fg):Sp:=cU aW K
noncomputable def iP:XS :=
 (.ret (.nc (.call eY (.cons (vr 0) .nil)) (.chn leP ltP (ci 0) (vr 0) (p1 jJ (vr 1)))))
noncomputable def bC:Fn:=c8 gds [.dat,.dat] 2 iP
def bS (K:Fg):Sp:=cU bC K
noncomputable def cN (F_shows:Fn):XS :=
 (.seq (.ifs (.or (.not (.tst (p1 (tZ "tuple") (vr 4)))) (.tst (p2 neP (p1 jJ (vr 4)) (p1 jJ (vr 1))))) (.ret (.cst (.b false))) .skip)
  (.seq (.c7 6 (.prm xw (.cons (vr 1) (.cons (vr 3) (.cons (vr 4) .nil)))))
  (.ret (p1 zt (.zd ["form", "verdict", "reason"] [0,2,5] (.lst (vr 6)) (.call F_shows (.cons (vr 3) (.cons (vr 0) (.cons (vr 4) (.cons (vr 1) (.cons (vr 2) (.cons (vr 5) .nil))))))))))))
noncomputable def cu (F_parts_show:Fn):XS :=
 (.seq (.ifs (.or (.not (.tst (.call aW (.cons (vr 3) (.cons (cs "alone") (.cons (ci 3) .nil)))))) (.not (.tst (.call bC (.cons (p2 ixP (vr 3) (ci 1)) (.cons (vr 1) .nil)))))) (.ret (.cst (.b false))) .skip)
  (.seq (.c7 5 (.cmp [3] (.rng1 (.cons (p1 jJ (vr 1)) .nil)) .yes (p2 eqP (vr 0) (p2 ixP (vr 1) (ci 1)))))
  (.ret (.call F_parts_show (.cons (vr 0) (.cons (vr 1) (.cons (vr 2) (.cons (vr 5) (.cons (p2 ixP (vr 3) (ci 2)) (.cons (vr 4) .nil))))))))))
noncomputable def dQ (F_parts_show:Fn):XS :=
 (.seq (.ifs (.or (.not (.tst (.call bC (.cons (p2 ixP (vr 3) (ci 1)) (.cons (vr 1) .nil))))) (.or (.not (.tst (.call bC (.cons (p2 ixP (vr 3) (ci 2)) (.cons (vr 1) .nil))))) (.tst (p2 geP (p2 ixP (vr 3) (ci 1)) (p2 ixP (vr 3) (ci 2)))))) (.ret (.cst (.b false))) .skip)
  (.ret (.call F_parts_show (.cons (vr 0) (.cons (.tup (.cons (p2 ixP (vr 1) (p2 ixP (vr 3) (ci 1))) (.cons (p2 ixP (vr 1) (p2 ixP (vr 3) (ci 2))) .nil))) (.cons (vr 2) (.cons (.tup (.cons (.cst (.b true)) (.cons (.cst (.b true)) .nil))) (.cons (p2 ub (vr 3) (ci 3)) (.cons (vr 4) .nil)))))))))
noncomputable def cT (F_shows:Fn):XS :=
 (.seq (.ifs (.or (.not (.tst (.call aW (.cons (vr 4) (.cons (cs "part") (.cons (ci 3) .nil)))))) (.not (.tst (.call bC (.cons (p2 ixP (vr 4) (ci 1)) (.cons (vr 1) .nil)))))) (.ret (.cst (.b false))) .skip)
  (.ret (.call F_shows (.cons (vr 0) (.cons (p2 ixP (vr 1) (p2 ixP (vr 4) (ci 1))) (.cons (vr 2) (.cons (vr 3) (.cons (p2 ixP (vr 4) (ci 2)) (.cons (vr 5) .nil)))))))))
noncomputable def cp (F_parts_show:Fn):XS :=
 (.seq (.ifs (.not (.tst (.call aW (.cons (vr 4) (.cons (cs "every") (.cons (ci 2) .nil)))))) (.ret (.cst (.b false))) .skip)
  (.ret (.call F_parts_show (.cons (vr 0) (.cons (vr 1) (.cons (vr 2) (.cons (.cmp [3] (.tup (vr 1)) .yes (vr 1)) (.cons (p2 ixP (vr 4) (ci 1)) (.cons (vr 5) .nil)))))))))
noncomputable def bT (F_alone_shows:Fn) (F_two_shows:Fn) (F_every_shows:Fn) (F_part_shows:Fn):XS :=
 (.seq (.c7 6 (p2 ixP (vr 1) (ci 0)))
  (.seq (.ifs (.and (.tst (p2 eqP (vr 6) (cs "one"))) (.tst (vr 3))) (.ret (.call F_alone_shows (.cons (vr 0) (.cons (p2 ixP (vr 1) (ci 1)) (.cons (vr 2) (.cons (vr 4) (.cons (vr 5) .nil))))))) .skip)
  (.seq (.ifs (.and (.tst (p2 eqP (vr 6) (cs "one"))) (.tst (.call aW (.cons (vr 4) (.cons (cs "two") (.cons (ci 5) .nil)))))) (.ret (.call F_two_shows (.cons (vr 0) (.cons (p2 ixP (vr 1) (ci 1)) (.cons (vr 2) (.cons (vr 4) (.cons (vr 5) .nil))))))) .skip)
  (.seq (.ifs (.tst (p2 eqP (vr 3) (p2 inP (vr 6) (.tup (.cons (cs "all") (.cons (cs "none") .nil)))))) (.ret (.call F_every_shows (.cons (vr 0) (.cons (p2 ixP (vr 1) (ci 1)) (.cons (vr 2) (.cons (p2 eqP (vr 6) (cs "all")) (.cons (vr 4) (.cons (vr 5) .nil)))))))) .skip)
  (.ret (.call F_part_shows (.cons (vr 0) (.cons (p2 ixP (vr 1) (ci 1)) (.cons (vr 2) (.cons (p2 neP (vr 6) (cs "all")) (.cons (vr 4) (.cons (vr 5) .nil))))))))))))
noncomputable def fk (F_shows:Fn) (F_listed_shows:Fn):XS :=
 (.seq (.c7 6 (p2 ixP (vr 1) (ci 0)))
  (.seq (.ifs (.tst (p2 eqP (vr 6) (cs "keeps"))) (.ret (.nc (p2 eqP (vr 4) (.tup (.cons (cs "claim") .nil))) (.call Bk (.cons (vr 5) (.cons (vr 2) (.cons (p2 ixP (vr 1) (ci 1)) (.cons (vr 3) .nil))))))) .skip)
  (.seq (.ifs (.tst (p2 eqP (vr 6) (cs "not"))) (.ret (.nc (.call aW (.cons (vr 4) (.cons (cs "turn") (.cons (ci 2) .nil)))) (.call F_shows (.cons (vr 0) (.cons (p2 ixP (vr 1) (ci 1)) (.cons (vr 2) (.cons (.ud (vr 3)) (.cons (p2 ixP (vr 4) (ci 1)) (.cons (vr 5) .nil))))))))) .skip)
  (.seq (.ifs (.tst (p2 inP (vr 6) (.glb 1))) (.ret (.call F_listed_shows (.cons (vr 0) (.cons (vr 1) (.cons (vr 2) (.cons (vr 3) (.cons (vr 4) (.cons (vr 5) .nil)))))))) .skip)
  (.seq (.ifs (.tst (p2 eqP (vr 6) (cs "many"))) .nev .skip)
  (.seq (.ifs (.tst (p2 eqP (vr 6) (cs "each"))) .nev .skip)
  (.ret (.nc (p2 eqP (vr 4) (.tup (.cons (cs "plain") .nil))) (p2 eqP (.call cL (.cons (vr 0) (.cons (vr 1) (.cons (vr 2) (.cons (.cst .n) .nil))))) (vr 3))))))))))
noncomputable def a7 (F_shows:Fn):Fn:=c8 gds [.dat,.dat,.dat,.dat,.dat,.bor] 7 (cN F_shows)
noncomputable def cg (F_shows:Fn):Fn:=c8 gds [.dat,.dat,.dat,.dat,.bor] 6 (cu (a7 F_shows))
noncomputable def dR (F_shows:Fn):Fn:=c8 gds [.dat,.dat,.dat,.dat,.bor] 5 (dQ (a7 F_shows))
noncomputable def cM (F_shows:Fn):Fn:=c8 gds [.dat,.dat,.dat,.dat,.dat,.bor] 6 (cT F_shows)
noncomputable def cj (F_shows:Fn):Fn:=c8 gds [.dat,.dat,.dat,.dat,.dat,.bor] 6 (cp (a7 F_shows))
noncomputable def bV (F_shows:Fn):Fn:=c8 gds [.dat,.dat,.dat,.dat,.dat,.bor] 7 (bT (cg F_shows) (dR F_shows) (cj F_shows) (cM F_shows))
noncomputable def ay:Nat->Fn
 | 0=>Fn.no [.dat,.dat,.dat,.dat,.dat,.bor]
 | n+1=>c8 gds [.dat,.dat,.dat,.dat,.dat,.bor] 7 (fk (ay n) (bV (ay n)))
noncomputable def bO (n:Nat):Fn:=a7 (ay n)
noncomputable def eT (n:Nat):Fn:=cg (ay n)
noncomputable def gh (n:Nat):Fn:=dR (ay n)
noncomputable def fG (n:Nat):Fn:=cM (ay n)
noncomputable def eH (n:Nat):Fn:=cj (ay n)
noncomputable def iD (n:Nat):Fn:=bV (ay n)
def bL (K:Fg) (n:Nat):Sp:=cU (bO n) K
def eM (K:Fg) (n:Nat):Sp:=cU (eT n) K
def gE (K:Fg) (n:Nat):Sp:=cU (gh n) K
def fC (K:Fg) (n:Nat):Sp:=cU (fG n) K
def eL (K:Fg) (n:Nat):Sp:=cU (eH n) K
def iZ (K:Fg) (n:Nat):Sp:=cU (iD n) K
def gX (K:Fg) (n:Nat):Sp:=cU (ay n) K
noncomputable def BH:XS :=
 (.ret (.dsp (.cons (cs "cells") (p2 Fw (vr 0) (ci 63)) (.cons (cs "place") (ci 0) (.cons (cs "rest") (ci 0) .nil)))))
noncomputable def nH:Fn:=c8 gds [.dat] 1 BH
def CH (K:Fg):Sp:=cU nH K
noncomputable def qX:XS :=
 (.seq (.ifs (.tst (p2 gtP (p2 iF (vr 0) (cs "rest")) (ci 0))) (.seq (.c7 2 (p2 uc (p2 iF (vr 0) (cs "rest")) (vr 1)))
  (.seq (.sto pE 0 (cs "rest") (p2 vJ (p2 iF (vr 0) (cs "rest")) (vr 1)))
  (.ret (vr 2)))) .skip)
  (.seq (.c7 3 (p2 iF (vr 0) (cs "place")))
  (.seq (.sto pE 0 (cs "place") (p2 cy (vr 3) (ci 1)))
  (.seq (.c7 4 (ci 0))
  (.seq (.ifs (.tst (p2 gtP (p1 jJ (p2 iF (vr 0) (cs "cells"))) (ci 0))) (.c7 4 (p2 ixP (p2 iF (vr 0) (cs "cells")) (p2 uc (vr 3) (p1 jJ (p2 iF (vr 0) (cs "cells")))))) .skip)
  (.seq (.ifs (.and (.tst (p2 ltP (vr 3) (p1 jJ (p2 iF (vr 0) (cs "cells"))))) (.tst (p2 geP (p1 Dv (vr 4)) (p2 Gq (ci 10) (ci 18))))) (.seq (.sto pE 0 (cs "rest") (p2 vJ (p1 Dv (vr 4)) (vr 1)))
  (.ret (p2 uc (p1 Dv (vr 4)) (vr 1)))) .skip)
  (.seq (.c7 5 (p2 uc (p2 xA (p2 cy (p2 uc (vr 4) (ci 1000000007)) (ci 1)) (p2 cy (p2 xA (ci 7919) (vr 3)) (ci 104729))) (ci 2147483647)))
  (.seq (.c7 6 (p2 uc (p2 cy (p2 cy (p2 xA (vr 5) (vr 5)) (p2 xA (ci 48271) (vr 3))) (ci 11)) (ci 2147483629)))
  (.ret (p2 uc (p2 vJ (p2 uc (p2 xA (vr 6) (vr 6)) (ci 1073741789)) (ci 5)) (vr 1)))))))))))
noncomputable def dG:Fn:=c8 gds [.ino,.dat] 7 qX
def xu (K:Fg):Sp:=cU dG K
noncomputable def tm:XS :=
 (.seq (.c7 4 (.tup (.cons (.tup (.cons (cs "a") (.cons (cs "to") (.cons (cs "b") .nil)))) .nil)))
  (.ret (.prm (x9 (ay 2)) (.cons (vr 4) (.cons (vr 0) (.cons (cs "a") (.cons (vr 1) (.cons (vr 2) (.cons (vr 3) .nil)))))))))
noncomputable def cm:Fn:=c8 gds [.dat,.dat,.dat,.bor] 5 tm
def xX (K:Fg):Sp:=cU cm K
noncomputable def oz:XS :=
 (.seq (.c7 2 (cs "abcdefghijklmnopqrstuvwxyz"))
  (.seq (.c7 3 (.call dG (.cons (vr 0) (.cons (ci 26) .nil))))
  (.ret (.cmp [2,0,3] (.rng1 (.cons (vr 1) .nil)) .yes (p2 cy (p2 ixP (vr 1) (p2 uc (p2 cy (vr 3) (p2 xA (ci 7) (vr 0))) (ci 26))) (p2 yI (cs "x") (.call dG (.cons (vr 2) (.cons (ci 7) .nil)))))))))
noncomputable def kf:Fn:=c8 gds [.ino,.dat] 4 oz
def vp (K:Fg):Sp:=cU kf K
noncomputable def wG:XS :=
 (.seq (.ifs (.or (.tst (p2 fW (.call cm (.cons (vr 0) (.cons (vr 1) (.cons (vr 2) (.cons (vr 4) .nil))))) (.cst (.b true)))) (.tst (p2 fW (.call cm (.cons (vr 0) (.cons (vr 1) (.cons (vr 2) (.cons (.prm uC .nil) .nil))))) (.cst (.b true))))) (.ret (.cst (.b false))) .skip)
  (.seq (.ifs (.tst (p2 fW (.call cm (.cons (vr 0) (.cons (.ud (vr 1)) (.cons (vr 2) (.cons (vr 4) .nil))))) (.cst (.b false)))) (.ret (.cst (.b false))) .skip)
  (.seq (.fr 5 (.lst (p2 cy (vr 3) (.lst (.cons (p2 cy (vr 2) (.tup (.cons (ci 0) .nil))) (.cons (p1 qL (vr 2)) (.cons (p2 Fw (vr 2) (p1 zq (ci 1))) (.cons (p2 cy (.tup (.cons (p2 cy (p2 ixP (vr 2) (ci 0)) (cs "s")) .nil)) (p2 ub (vr 2) (ci 1))) (.cons (.cst .n) (.cons (ci 7) (.cons (cs "claim") (.cons (.tup .nil) .nil))))))))))) (.ifs (.tst (p2 fW (.call cm (.cons (vr 0) (.cons (vr 1) (.cons (vr 5) (.cons (.prm uC .nil) .nil))))) (.cst (.b false)))) (.ret (.cst (.b false))) .skip))
  (.seq (.fr 6 (.dct (vr 4)) (.seq (.mW 7 (p1 zM (vr 4)))
  (.seq (.sto pE 7 (vr 6) (.ud (p2 iF (vr 4) (vr 6))))
  (.ifs (.tst (p2 fW (.call cm (.cons (vr 0) (.cons (vr 1) (.cons (vr 2) (.cons (vr 7) .nil))))) (.cst (.b false)))) (.ret (.cst (.b false))) .skip))))
  (.ret (.cst (.b true)))))))
noncomputable def bA:Fn:=c8 gds [.dat,.dat,.dat,.bor,.dat] 8 wG
def sH (K:Fg):Sp:=cU bA K
noncomputable def l0:XS :=
 (.ret (.lst (.cons (p1 zq (ci 1)) (.cons (vr 0) (.cons (p2 cy (vr 0) (ci 7)) (.cons (p2 eqP (vr 1) (ci 1)) (.cons (.cst .n) (.cons (p1 Ef (vr 1)) (.cons (.tup (.cons (vr 1) .nil)) (.cons (p2 GX (p1 zq (ci 1)) (vr 1)) .nil))))))))))
noncomputable def dN:Fn:=c8 gds [.dat,.dat] 2 l0
def iL (K:Fg):Sp:=cU dN K
noncomputable def n6:XS :=
 (.seq (.c7 4 (p2 zf (.tup (.cons (.tup (.cons (cs "claim") .nil)) .nil)) (p1 jJ (vr 1))))
  (.seq (.c7 5 (.tup (.cons (vr 0) (.cons (p1 lL (.cmp [] (.lst (vr 1)) .yes (.tup (.cons (cs "keeps") (.cons (vr 0) .nil))))) .nil))))
  (.seq (.mW 6 (.lst (.cons (.tup (.cons (cs "every") (.cons (p2 lg (vr 4) (.tup (.cons (.tup (.cons (cs "claim") .nil)) .nil))) .nil))) (.cons (.tup (.cons (cs "every") (.cons (p1 qL (vr 4)) .nil))) .nil))))
  (.seq (.mW 6 (p2 lg (vr 6) (.cmp [4] (.rng1 (.cons (p1 jJ (vr 4)) .nil)) .yes (.tup (.cons (cs "every") (.cons (p2 lg (p2 lg (p2 Fw (vr 1) (vr 0)) (.tup (.cons (.tup (.cons (cs "plain") .nil)) .nil))) (p2 ub (vr 1) (p2 lg (vr 0) (ci 1)))) .nil))))))
  (.seq (.ifs (.tst (p2 gtP (p1 jJ (vr 4)) (ci 0))) (.drop (.mtr C6 6 (.cons (.tup (.cons (cs "every") (.cons (p2 ub (vr 4) (ci 1)) .nil))) .nil))) .skip)
  (.ret (.call bA (.cons (vr 5) (.cons (vr 2) (.cons (.tup (.cons (cs "every") (.cons (vr 4) .nil))) (.cons (vr 6) (.cons (p1 lY (.cmp [3] (.lst (vr 1)) .yes (.tup (.cons (vr 0) (.cons (vr 1) .nil))))) .nil))))))))))))
noncomputable def cW:Fn:=c8 gds [.dat,.dat,.dat,.dat] 7 n6
def nO (K:Fg):Sp:=cU cW K
noncomputable def rm:XS :=
 (.seq (.c7 4 (.tup (.cons (vr 0) (.cons (p1 lL (.cmp [] (.lst (vr 1)) .yes (.tup (.cons (cs "keeps") (.cons (vr 0) .nil))))) .nil))))
  (.seq (.fr 5 (.rng1 (.cons (p1 jJ (vr 1)) .nil)) (.seq (.c7 6 (.cmp [] (.lst (.call dN (.cons (p1 jJ (vr 1)) (.cons (vr 5) .nil)))) .yes (.tup (.cons (cs "part") (.cons (vr 0) (.cons (.tup (.cons (cs "claim") .nil)) .nil))))))
  (.seq (.c7 6 (p2 cy (vr 6) (.lst (.cons (.tup (.cons (cs "part") (.cons (vr 5) (.cons (.tup (.cons (cs "plain") .nil)) .nil)))) (.cons (.tup (.cons (cs "every") (.cons (p2 zf (.tup (.cons (.tup (.cons (cs "claim") .nil)) .nil)) (p1 jJ (vr 1))) .nil))) .nil)))))
  (.ifs (.not (.tst (.call bA (.cons (vr 4) (.cons (vr 2) (.cons (.tup (.cons (cs "part") (.cons (vr 5) (.cons (.tup (.cons (cs "claim") .nil)) .nil)))) (.cons (vr 6) (.cons (.dsp (.cons (p2 ixP (vr 1) (vr 5)) (vr 3) .nil)) .nil)))))))) (.ret (.cst (.b false))) .skip))))
  (.seq (.c7 7 (.call cm (.cons (vr 4) (.cons (vr 2) (.cons (.tup (.cons (cs "part") (.cons (ci 0) (.cons (.tup (.cons (cs "claim") .nil)) .nil)))) (.cons (.prm uC .nil) .nil))))))
  (.ret (.nc (p1 (tZ "bool") (vr 7)) (p2 eqP (vr 7) (p2 neP (vr 1) (.lst .nil))))))))
noncomputable def fK:Fn:=c8 gds [.dat,.dat,.dat,.dat] 8 rm
def xU (K:Fg):Sp:=cU fK K
noncomputable def wL:XS :=
 (.seq (.c7 1 (p1 jJ (vr 0)))
  (.seq (.c7 2 (.tup (.cons (cs "one") (.cons (p1 lL (.cmp [] (.lst (vr 0)) .yes (.tup (.cons (cs "keeps") (.cons (vr 0) .nil))))) .nil))))
  (.seq (.c7 3 (p2 zf (.tup (.cons (.tup (.cons (cs "claim") .nil)) .nil)) (vr 1)))
  (.seq (.fr 4 (.rng1 (.cons (vr 1) .nil)) (.seq (.c7 5 (p1 lY (.cmp [0,4] (.lst (vr 0)) .yes (.tup (.cons (vr 0) (.cons (p2 eqP (vr 0) (p2 ixP (vr 1) (vr 2))) .nil))))))
  (.seq (.mW 6 (.cmp [3] (.lst (.call dN (.cons (vr 1) (.cons (vr 4) .nil)))) .yes (.tup (.cons (cs "alone") (.cons (vr 0) (.cons (vr 1) .nil))))))
  (.seq (.mW 6 (p2 cy (vr 6) (.lst (.cons (.tup (.cons (cs "alone") (.cons (vr 4) (.cons (p2 cy (vr 3) (p2 D0 (vr 3) (ci 1))) .nil)))) (.cons (.tup (.cons (cs "alone") (.cons (vr 4) (.cons (p2 ub (vr 3) (ci 1)) .nil)))) (.cons (.tup (.cons (cs "alone") (.cons (vr 4) (.cons (p1 qL (vr 3)) .nil)))) .nil))))))
  (.seq (.drop (.mtr C6 6 (.cons (.tup (.cons (cs "every") (.cons (vr 3) .nil))) .nil)))
  (.seq (.ifs (.not (.tst (.call bA (.cons (vr 2) (.cons (.cst (.b true)) (.cons (.tup (.cons (cs "alone") (.cons (vr 4) (.cons (vr 3) .nil)))) (.cons (vr 6) (.cons (vr 5) .nil)))))))) (.ret (.cst (.b false))) .skip)
  (.fr 7 (.rng1 (.cons (vr 4) .nil)) (.seq (.c7 8 (.tup (.cons (cs "two") (.cons (vr 7) (.cons (vr 4) (.cons (.tup (.cons (cs "claim") .nil)) (.cons (.tup (.cons (cs "claim") .nil)) .nil)))))))
  (.seq (.mW 6 (.lst (.cons (p2 cy (.tup (.cons (cs "two") (.cons (vr 4) (.cons (vr 7) .nil)))) (p2 ub (vr 8) (ci 3))) (.cons (p2 cy (.tup (.cons (cs "two") (.cons (vr 4) (.cons (vr 4) .nil)))) (p2 ub (vr 8) (ci 3))) (.cons (.tup (.cons (cs "part") (.cons (vr 4) (.cons (.tup (.cons (cs "claim") .nil)) .nil)))) .nil)))))
  (.seq (.mW 6 (p2 cy (vr 6) (.lst (.cons (p2 cy (p2 D0 (vr 8) (ci 3)) (.tup (.cons (.tup (.cons (cs "claim") .nil)) (.cons (.tup (.cons (cs "plain") .nil)) .nil)))) (.cons (p2 cy (p2 D0 (vr 8) (ci 3)) (.tup (.cons (.tup (.cons (cs "plain") .nil)) (.cons (.tup (.cons (cs "claim") .nil)) .nil)))) (.cons (.tup (.cons (cs "alone") (.cons (vr 4) (.cons (vr 3) .nil)))) .nil))))))
  (.seq (.mW 6 (p2 cy (vr 6) (.cmp [4,8] (.lst (.lst (.cons (p1 zq (ci 1)) (.cons (p2 eqP (vr 7) (ci 1)) (.cons (.cst .n) (.cons (vr 1) .nil)))))) .yes (p2 cy (.tup (.cons (cs "two") (.cons (vr 0) (.cons (vr 1) .nil)))) (p2 ub (vr 2) (ci 3))))))
  (.seq (.mW 6 (p2 cy (vr 6) (.cmp [7,8] (.lst (.call dN (.cons (vr 1) (.cons (vr 4) .nil)))) .yes (p2 cy (.tup (.cons (cs "two") (.cons (vr 1) (.cons (vr 0) .nil)))) (p2 ub (vr 2) (ci 3))))))
  (.ifs (.not (.tst (.call bA (.cons (vr 2) (.cons (.cst (.b false)) (.cons (vr 8) (.cons (vr 6) (.cons (.dsp (.cons (p2 ixP (vr 0) (vr 7)) (.cst (.b true)) (.cons (p2 ixP (vr 0) (vr 4)) (.cst (.b true)) .nil))) .nil)))))))) (.ret (.cst (.b false))) .skip)))))))))))))
  (.ret (.call cW (.cons (cs "one") (.cons (vr 0) (.cons (.cst (.b false)) (.cons (.cst (.b false)) .nil))))))))))
noncomputable def sh:Fn:=c8 gds [.dat] 9 wL
def CI (K:Fg):Sp:=cU sh K
noncomputable def ma:XS :=
 (.seq (.c7 2 (p2 ixP (vr 1) (ci 0)))
  (.seq (.c7 3 (p2 eqP (.call dG (.cons (vr 0) (.cons (ci 2) .nil))) (ci 0)))
  (.seq (.c7 4 (.lst (.cons (.tup (.cons (cs "turn") (.cons (.tup (.cons (cs "plain") .nil)) .nil))) (.cons (.tup (.cons (cs "turn") (.cons (cs "claim") .nil))) (.cons (.tup (.cons (cs "claim") .nil)) (.cons (.tup (.cons (cs "plain") .nil)) .nil))))))
  (.seq (.ifs (.not (.tst (.call bA (.cons (.tup (.cons (cs "not") (.cons (.tup (.cons (cs "keeps") (.cons (vr 2) .nil))) .nil))) (.cons (vr 3) (.cons (.tup (.cons (cs "turn") (.cons (.tup (.cons (cs "claim") .nil)) .nil))) (.cons (vr 4) (.cons (.dsp (.cons (vr 2) (.ud (vr 3)) .nil)) .nil)))))))) (.ret (.cst (.b false))) .skip)
  (.seq (.c7 4 (.lst (.cons (.tup (.cons (cs "plain") .nil)) (.cons (.tup (.cons (cs "claim") (.cons (vr 2) .nil))) (.cons (.tup (.cons (cs "turn") (.cons (.tup (.cons (cs "claim") .nil)) .nil))) .nil)))))
  (.seq (.ifs (.not (.tst (.call bA (.cons (.tup (.cons (cs "keeps") (.cons (vr 2) .nil))) (.cons (vr 3) (.cons (.tup (.cons (cs "claim") .nil)) (.cons (vr 4) (.cons (.dsp (.cons (vr 2) (vr 3) .nil)) .nil)))))))) (.ret (.cst (.b false))) .skip)
  (.seq (.c7 5 (.lst (.cons (.tup (.cons (.tup (.cons (cs "any") .nil)) (.cons (.cst (.b true)) .nil))) (.cons (.tup (.cons (.tup (.cons (cs "thing") .nil)) (.cons (.cst (.b true)) .nil))) (.cons (.tup (.cons (.tup (.cons (cs "number") .nil)) (.cons (.cst (.b false)) .nil))) (.cons (.tup (.cons (.tup (.cons (cs "said") .nil)) (.cons (.cst (.b false)) .nil))) (.cons (.tup (.cons (.tup (.cons (cs "from") (.cons (p1 zq (ci 9)) .nil))) (.cons (.cst (.b false)) .nil))) (.cons (.tup (.cons (.tup (.cons (cs "upto") (.cons (ci 9) .nil))) (.cons (.cst (.b false)) .nil))) (.cons (.tup (.cons (.tup (.cons (cs "is") (.cons (cs "a") .nil))) (.cons (.cst (.b true)) .nil))) (.cons (.tup (.cons (.tup (.cons (cs "is") (.cons (cs "b") .nil))) (.cons (.cst (.b false)) .nil))) (.cons (.tup (.cons (.tup (.cons (cs "closed") (.cons (.tup (.cons (cs "to") .nil)) .nil))) (.cons (.cst (.b true)) .nil))) (.cons (.tup (.cons (.tup (.cons (cs "closed") (.cons (.tup (.cons (cs "at") .nil)) .nil))) (.cons (.cst (.b false)) .nil))) (.cons (.tup (.cons (.tup (.cons (cs "closed") (.cons (.tup (.cons (cs "at") (.cons (cs "to") .nil))) .nil))) (.cons (.cst (.b true)) .nil))) (.cons (.tup (.cons (.tup (.cons (cs "closed") (.cons (.tup .nil) .nil))) (.cons (.cst (.b false)) .nil))) .nil))))))))))))))
  (.seq (.frT [6,7] (.lst (vr 5)) (.ifs (.not (.tst (.call bA (.cons (vr 6) (.cons (vr 7) (.cons (.tup (.cons (cs "plain") .nil)) (.cons (.lst (.cons (.tup (.cons (cs "claim") .nil)) (.cons (.tup (.cons (cs "every") (.cons (.tup .nil) .nil))) (.cons (.tup (.cons (cs "bound") .nil)) .nil)))) (.cons (.prm uC .nil) .nil)))))))) (.ret (.cst (.b false))) .skip))
  (.ret (.cst (.b true)))))))))))
noncomputable def i0:Fn:=c8 gds [.ino,.dat] 8 ma
def qF (K:Fg):Sp:=cU i0 K
noncomputable def wF:XS :=
 (.seq (.mW 1 (.call nH (.cons (vr 0) .nil)))
  (.seq (.c7 2 (.call kf (.cons (vr 1) (.cons (p2 cy (ci 1) (.call dG (.cons (vr 1) (.cons (ci 6) .nil)))) .nil))))
  (.seq (.ifs (.tst (p2 eqP (.call dG (.cons (vr 1) (.cons (ci 6) .nil))) (ci 0))) (.c7 2 (.lst .nil)) .skip)
  (.seq (.ifs (.or (.not (.tst (.call cW (.cons (cs "all") (.cons (vr 2) (.cons (.cst (.b true)) (.cons (.cst (.b true)) .nil))))))) (.not (.tst (.call fK (.cons (cs "all") (.cons (vr 2) (.cons (.cst (.b false)) (.cons (.cst (.b false)) .nil)))))))) (.ret (.cst (.b false))) .skip)
  (.seq (.ifs (.or (.not (.tst (.call cW (.cons (cs "some") (.cons (vr 2) (.cons (.cst (.b false)) (.cons (.cst (.b false)) .nil))))))) (.not (.tst (.call fK (.cons (cs "some") (.cons (vr 2) (.cons (.cst (.b true)) (.cons (.cst (.b true)) .nil)))))))) (.ret (.cst (.b false))) .skip)
  (.seq (.ifs (.or (.not (.tst (.call cW (.cons (cs "none") (.cons (vr 2) (.cons (.cst (.b true)) (.cons (.cst (.b false)) .nil))))))) (.not (.tst (.call fK (.cons (cs "none") (.cons (vr 2) (.cons (.cst (.b false)) (.cons (.cst (.b true)) .nil)))))))) (.ret (.cst (.b false))) .skip)
  (.ret (.nc (.call sh (.cons (vr 2) .nil)) (.call i0 (.cons (vr 1) (.cons (p2 cy (vr 2) (.lst (.cons (cs "q") .nil))) .nil)))))))))))
noncomputable def wM:Fn:=c8 gds [.dat] 3 wF
def qg (K:Fg):Sp:=cU wM K
section
variable (P:Program) (w:World) (K:Fg) (mg:Str->Option Value) (base:Heap) (t:Adr)
abbrev jM:=bK P w K mg base CX0 1 (t.f 0).1 (t.f 0).2 ["thing"] (mK K)
abbrev iu:=bK P w K mg base CX0 1 (t.f 1).1 (t.f 1).2 ["node"] (pe K)
abbrev jK:=bK P w K mg base CX0 1 (t.f 2).1 (t.f 2).2 ["web", "node"] (ni K)
abbrev fo:=bK P w K mg base CX0 2 (t.f 3).1 (t.f 3).2 ["form", "node"] (jv K)
abbrev gq:=bK P w K mg base CX0 3 (t.f 4).1 (t.f 4).2 ["web", "form", "node", "kept"] (j7 K)
abbrev aH:=bK P w K mg base CX0 1 (t.f 5).1 (t.f 5).2 ["reason", "word", "length"] (bF K)
abbrev bB:=bK P w K mg base CX0 2 (t.f 6).1 (t.f 6).2 ["thing", "forms"] (bS K)
abbrev aN (l n:Nat):=bK P w K mg base CX0 l (t.f 7).1 (t.f 7).2 ["web", "forms", "node", "verdicts", "reasons", "rests"] (bL K n)
abbrev bM (l n:Nat):=bK P w K mg base CX0 l (t.f 8).1 (t.f 8).2 ["web", "forms", "node", "reason", "rests"] (eM K n)
abbrev cS (l n:Nat):=bK P w K mg base CX0 l (t.f 9).1 (t.f 9).2 ["web", "forms", "node", "reason", "rests"] (gE K n)
abbrev b8 (l n:Nat):=bK P w K mg base CX0 l (t.f 10).1 (t.f 10).2 ["web", "forms", "node", "verdict", "reason", "rests"] (fC K n)
abbrev bN (l n:Nat):=bK P w K mg base CX0 l (t.f 11).1 (t.f 11).2 ["web", "forms", "node", "verdict", "reason", "rests"] (eL K n)
abbrev cw (l n:Nat):=bK P w K mg base CX0 l (t.f 12).1 (t.f 12).2 ["web", "form", "node", "verdict", "reason", "rests"] (iZ K n)
abbrev cX (l n:Nat):=bK P w K mg base CX0 l (t.f 13).1 (t.f 13).2 ["web", "form", "node", "verdict", "reason", "rests"] (gX K n)
abbrev Az:=bK P w K mg base CX0 1 (t.f 14).1 (t.f 14).2 ["_law_script"] (CH K)
abbrev oJ:=bK P w K mg base CX0 1 (t.f 15).1 (t.f 15).2 ["_law_pen_here", "_law_many"] (xu K)
abbrev qx:=bK P w K mg base CX0 13 (t.f 16).1 (t.f 16).2 ["_law_form", "_law_verdict", "_law_reason", "_law_claims"] (xX K)
abbrev tO:=bK P w K mg base CX0 2 (t.f 17).1 (t.f 17).2 ["_law_pen_here", "_law_many"] (vp K)
abbrev tE:=bK P w K mg base CX0 14 (t.f 18).1 (t.f 18).2 ["_law_form", "_law_verdict", "_law_good", "_law_bad", "_law_claims"] (sH K)
abbrev kT:=bK P w K mg base CX0 1 (t.f 19).1 (t.f 19).2 ["_law_many", "_law_at"] (iL K)
abbrev m4:=bK P w K mg base CX0 15 (t.f 20).1 (t.f 20).2 ["_law_word", "_law_names_here", "_law_verdict", "_law_kept"] (nO K)
abbrev wj:=bK P w K mg base CX0 15 (t.f 21).1 (t.f 21).2 ["_law_word", "_law_names_here", "_law_verdict", "_law_kept"] (xU K)
abbrev CP:=bK P w K mg base CX0 16 (t.f 22).1 (t.f 22).2 ["_law_names_here"] (CI K)
abbrev oV:=bK P w K mg base CX0 15 (t.f 23).1 (t.f 23).2 ["_law_pen_here", "_law_names_here"] (qF K)
abbrev Ed:=bK P w K mg base CX0 17 (t.f 24).1 (t.f 24).2 ["_law_script"] (qg K)
end
section
variable {P:Program} {w:World} {K:Fg} {mg:Str->Option Value} {base:Heap} {t:Adr} {n:Nat} {cdv:Value} {A:Around} {outer:List Env} {s:Shared} {H:Hp} {E:XK}
theorem mE (T:Txt K mg t):jM P w K mg base t :=
 (T.d 0 rfl).ok my (bI T) fun hr=>aU (bx (uj (eIz T.z_isinstance (eVx 0) T.z_int) (uB (BN (eIz T.z_isinstance (eVx 0) T.z_bool)))))
theorem o7 (T:Txt K mg t):iu P w K mg base t :=
 (T.d 1 rfl).ok p8 (bI T) fun hr=>aG (cA (eUx (eIz T.z_isinstance (eVx 0) T.z_str)) (aU (bx ao)) cz) (aG (cA (eUx (eIz T.z_isinstance (eVx 0) T.z_tuple)) (aU (bx ao)) cz) (aU (bx ao)))
theorem mz (T:Txt K mg t):jK P w K mg base t :=
 (T.d 2 rfl).ok ny (bI T) fun hr=>aU (bx (eSS rfl rfl T.z_sorted rfl T.z_set rfl (eKx ["node"] (eIT (eVx 0)) (eT1 fun _ _ _ _=>(eTx (aB hr.units) (eIx aJ (eVx 0) aE (fun _ _=>rfl)) (eVy 1))) (eC fun _ _ _ _=>(eIy (eVx 0) aE)) (bsc (sc:=ab dM) rfl (by decide +kernel)) ⟨rfl,⟨rfl,rfl⟩,trivial⟩)))
theorem jj (T:Txt K mg t) (G1:iu P w K mg base t):fo P w K mg base t :=
 (T.d 3 rfl).ok jl (bI T) fun hr=>aG (cA (eTx (n8 hr.units) (eCx G1 hr (T.d 1 rfl) (eAx (eVx 1) ag)) ao) (aU (bx eBl)) cz) (aU (bx (eIf (eTx (aB hr.units) (eIy (eVx 0) aE) ao) (jf qz (eVx 1) (eIy (eVx 0) aE) (aO _)) (jf vS (eVx 1) (eIy (eVx 0) aE) (aO _)))))
theorem jZ (T:Txt K mg t) (G1:iu P w K mg base t) (G3:fo P w K mg base t) (G2:jK P w K mg base t):gq P w K mg base t :=
 (T.d 4 rfl).ok fh (bI T) fun hr=>aG (eSx fh.nd 4 (eIy (eVy 1) aE)) (aG (cA (eTx (aB hr.units) (eVx 4) ao) (aU (bx eBl)) cz) (aG (cA (jr (jD hr.units) (eVx 4) (y7 (v:=.ref t.kq) rfl T.g_KINDS rfl rfl) (by with_unfolding_all rfl)) (aU (bx (jf (aB hr.units) (eCx G1 hr (T.d 1 rfl) (eAx (eVx 2) ag)) (eVx 4) (aO _)))) cz) (aG (cA (jr (jD hr.units) (eVx 4) (au (eAx ao (eAx ao ag))) (by with_unfolding_all rfl)) (aU (bx (eCx G3 hr (T.d 3 rfl) (eAx (eVy 1) (eAx (eVx 2) ag))))) cz) (aG (cA (eTx (aB hr.units) (eVx 4) ao) (aU (bx (jf (aB hr.units) (eVx 2) (eIy (eVy 1) aE) (aO _)))) cz) (aG (cA (eTx (aB hr.units) (eVx 4) ao) (aU jN) cz) (aG (cA (eTx (aB hr.units) (eVx 4) ao) (aU jN) cz) (aG (cA (eTx (aB hr.units) (eVx 4) ao) (aU (bx (eBs (sP rfl) T.z_all (eAx (eKx ["form"] (eIL (eCx G2 hr (T.d 2 rfl) (eAx (eVx 0) (eAx (eVx 2) ag)))) eT0 (eC fun _ _ _ _=>(jf (jD hr.units) (eVx 0) (eIy (eVy 1) aE) (by with_unfolding_all rfl))) (bsc (sc:=ab cx) rfl (by decide +kernel)) ⟨rfl,⟨rfl,rfl⟩,trivial⟩) ag)))) cz) (aG (cA (jr (jD hr.units) (eVx 4) (y7 (v:=.ref t.iB) rfl T.g_LISTS rfl rfl) (by with_unfolding_all rfl)) (aU jN) cz) (aU jN)))))))))
theorem mf (T:Txt K mg t):aH P w K mg base t :=
 (T.d 5 rfl).ok lW (bI T) fun hr=>aU (bx (uj (eIz T.z_isinstance (eVx 0) T.z_tuple) (uj (jf (aB hr.units) (eBs bf T.z_len (eAx (eVx 0) ag)) (eVx 2) (aO _)) (uB (jf (aB hr.units) (eIy (eVx 0) aE) (eVx 1) (aO _))))))
theorem m7 (T:Txt K mg t) (G0:jM P w K mg base t):bB P w K mg base t :=
 (T.d 6 rfl).ok nA (bI T) fun hr=>aU (bx (uj (eCx G0 hr (T.d 0 rfl) (eAx (eVx 0) ag)) (uB (zV vS wD aE (eVx 0) (eBs bf T.z_len (eAx (eVx 1) ag)) (by with_unfolding_all rfl)))))
def cR (K:Fg) (t:Adr) (n:Nat):TS :=
 (fI (pV (tOr (pJ (tB (tCB ((tZ "tuple").r K) (aa (aj 4) aP)))) (lG (tOp (fun x y=>neP.r K [x,y]) (tCB (jJ.r K) (aa (aj 4) aP)) (tCB (jJ.r K) (aa (aj 1) aP))))) (jH (tC (.bl false))) fU)
  (fI (iM (tCB (xw.r K) (aa (aj 1) (aa (aj 3) (aa (aj 4) aP)))) (aT 6))
  (jH (tCB (zt.r K) (aa (oZ ["form", "verdict", "reason"] [0,2,5] (jm K (aj 6)) (zZ K 3 (mP (aT 0) (mP (aT 1) (mP (aT 2) AM)))) (br (gX K n) [] E0 (aa (aj 3) (aa (aj 0) (aa (aj 4) (aa (aj 1) (aa (aj 2) (aa (aj 5) aP)))))))) aP)))))
theorem jo (T:Txt K mg t) (G13:cX P w K mg base t (4+4*n) n) (hr:cZ (4+4*n) (A.deeper (envOfC "parts_show" (ab aS) s.heap.objs.size (t.f 7).1 cdv))):JSs (ml CX0 P w K mg base ["web", "forms", "node", "verdicts", "reasons", "rests", "triples"] "parts_show" (ab aS) (t.f 7).1 cdv A outer s H E).nox (a9 aS) (cR K t n):=by
 unfold cR;refine aG ?_ ?_
 ·refine cA ?_ ?_ ?_
  ·exact (eW (vh (cD (p7 (Gx rfl T.z_isinstance (eVx 4) rfl (Gh (v:=.ty "tuple") rfl T.z_tuple (by decide +kernel) rfl (by decide) rfl)) (fun _=>rfl))) (lU (jr (n8 hr.units) (eBs bf T.z_len (eA (eVx 4) ag rfl)) (eBs bf T.z_len (eA (eVx 1) ag rfl)) (aO _)))))
  ·refine aU ?_;exact (bx eBl)
  ·exact cz
 ·refine aG ?_ ?_
  ·refine nW (i:=6) ?_ fy.nd rfl (Or.inl rfl) rfl (Or.inl rfl);exact (eZ3 hr.hd rfl T.z_list rfl T.z_zip rfl rfl (eA (eVx 1) (eA (eVx 3) (eA (eVx 4) ag rfl) rfl) rfl))
  ·refine aU ?_;exact (bx (eBs (sP rfl) T.z_all (eA (C4 (n:=3) (js:=[0,2,5]) ["form", "verdict", "reason"] ["web", "node", "rests"] (eIL (eVx 6)) (EY (i:=0) (by decide +kernel) rfl rfl (EY (i:=1) (by decide +kernel) rfl rfl (EY (i:=2) (by decide +kernel) rfl rfl HC))) (eC fun _ _ _ _=>(eCl G13 hr (T.d 13 rfl).m (T.d 13 rfl).F.kp (T.d 13 rfl).b (eA (eVy 3) (eA (eVx 0) (eA (eVy 4) (eA (eVx 1) (eA (eVx 2) (eA (eVy 5) ag rfl) rfl) rfl) rfl) rfl) rfl))) rfl (HJ (sc:=ab aS) rfl (by decide +kernel)) ⟨rfl,⟨rfl,rfl⟩,⟨rfl,⟨rfl,rfl⟩,⟨rfl,⟨rfl,rfl⟩,trivial⟩⟩⟩ (fun _=>rfl) (fun _=>rfl) (fun _=>rfl)) ag rfl)))
theorem fA (T:Txt K mg t) (G13:cX P w K mg base t (4+4*n) n):aN P w K mg base t (5+4*n) n :=
 ((T.d 7 rfl).F.okJ fy (fun vs H Q E h=>b9 h) (fun cdv A outer s H vs Q E hr h=>⟨_,jo T G13 hr,by rw [show cR K t n=rS K (gav t) (cN (ay n)) from rfl];exact cP (N:=["web", "forms", "node", "verdicts", "reasons", "rests", "triples"]) (bI T) h (by decide)⟩):aN P w K mg base t ((4+4*n)+1) n).mono (by omega)
def cq (K:Fg) (t:Adr) (n:Nat):TS :=
 (fI (pV (tOr (pJ (tB (br (bF K) [] E0 (aa (aj 3) (aa (tC (.str "alone")) (aa (tC (.int 3)) aP)))))) (pJ (tB (br (bS K) [] E0 (aa (tOp (fun x y=>ixP.r K [x,y]) (aj 3) (tC (.int 1))) (aa (aj 1) aP)))))) (jH (tC (.bl false))) fU)
  (fI (iM (fT [3] (pX (aa (tCB (jJ.r K) (aa (aj 1) aP)) aP)) ui (tOp (fun x y=>eqP.r K [x,y]) (aj 0) (tOp (fun x y=>ixP.r K [x,y]) (aj 1) (tC (.int 1))))) (aT 5))
  (jH (br (bL K n) [] E0 (aa (aj 0) (aa (aj 1) (aa (aj 2) (aa (aj 5) (aa (tOp (fun x y=>ixP.r K [x,y]) (aj 3) (tC (.int 2))) (aa (aj 4) aP))))))))))
theorem hV (T:Txt K mg t) (G5:aH P w K mg base t) (G6:bB P w K mg base t) (G7:aN P w K mg base t (5+4*n) n) (hr:cZ (5+4*n) (A.deeper (envOfC "alone_shows" (ab aL) s.heap.objs.size (t.f 8).1 cdv))):JSs (ml CX0 P w K mg base ["web", "forms", "node", "reason", "rests", "verdicts"] "alone_shows" (ab aL) (t.f 8).1 cdv A outer s H E).nox (a9 aL) (cq K t n):=by
 unfold cq;refine aG ?_ ?_
 ·refine cA ?_ ?_ ?_
  ·exact (eW (vh (cD (p7 (eCl G5 hr (T.d 5 rfl).m (T.d 5 rfl).F.kp (T.d 5 rfl).b (eA (eVy 3) (eA ao (eA aE ag rfl) rfl) rfl)) (fun _=>rfl))) (lU (cD (p7 (eCl G6 hr (T.d 6 rfl).m (T.d 6 rfl).F.kp (T.d 6 rfl).b (eA (eIx aJ (eVy 3) aE (fun _ _=>rfl)) (eA (eVx 1) ag rfl) rfl)) (fun _=>rfl))))))
  ·refine aU ?_;exact (bx eBl)
  ·exact cz
 ·refine aG ?_ ?_
  ·exact (yh (i:=5) ["reason"] (eR1 rfl T.z_range (eA (eBs bf T.z_len (eA (eVx 1) ag rfl)) ag rfl) rfl) eT0 (eC fun _ _ _ _=>(jf (aB hr.units) (eVx 0) (eIx aJ (eVy 1) aE (fun _ _=>rfl)) (aO _))) eQ.nd rfl rfl rfl rfl (bsc (sc:=ab aL) rfl (by decide +kernel)) (by decide +kernel) ⟨rfl,⟨rfl,rfl⟩,trivial⟩ (fun _=>rfl))
  ·refine aU ?_;exact (bx (eCl G7 hr (T.d 7 rfl).m (T.d 7 rfl).F.kp (T.d 7 rfl).b (eA (eVx 0) (eA (eVx 1) (eA (eVx 2) (eA (eVx 5) (eA (eIx aJ (eVy 3) aE (fun _ _=>rfl)) (eA (eVx 4) ag rfl) rfl) rfl) rfl) rfl) rfl)))
theorem eK (T:Txt K mg t) (G5:aH P w K mg base t) (G6:bB P w K mg base t) (G7:aN P w K mg base t (5+4*n) n):bM P w K mg base t (6+4*n) n :=
 ((T.d 8 rfl).F.okJ eQ (fun vs H Q E h=>b9 h) (fun cdv A outer s H vs Q E hr h=>⟨_,hV T G5 G6 G7 hr,by rw [show cq K t n=rS K (gav t) (cu (bO n)) from rfl];exact cP (N:=["web", "forms", "node", "reason", "rests", "verdicts"]) (bI T) h (by decide)⟩):bM P w K mg base t ((5+4*n)+1) n).mono (by omega)
def dB (K:Fg) (t:Adr) (n:Nat):TS :=
 (fI (pV (tOr (pJ (tB (br (bS K) [] E0 (aa (tOp (fun x y=>ixP.r K [x,y]) (aj 3) (tC (.int 1))) (aa (aj 1) aP))))) (tOr (pJ (tB (br (bS K) [] E0 (aa (tOp (fun x y=>ixP.r K [x,y]) (aj 3) (tC (.int 2))) (aa (aj 1) aP))))) (lG (tOp (fun x y=>geP.r K [x,y]) (tOp (fun x y=>ixP.r K [x,y]) (aj 3) (tC (.int 1))) (tOp (fun x y=>ixP.r K [x,y]) (aj 3) (tC (.int 2))))))) (jH (tC (.bl false))) fU)
  (jH (br (bL K n) [] E0 (aa (aj 0) (aa (eD (aa (tOp (fun x y=>ixP.r K [x,y]) (aj 1) (tOp (fun x y=>ixP.r K [x,y]) (aj 3) (tC (.int 1)))) (aa (tOp (fun x y=>ixP.r K [x,y]) (aj 1) (tOp (fun x y=>ixP.r K [x,y]) (aj 3) (tC (.int 2)))) aP))) (aa (aj 2) (aa (eD (aa (tC (.bl true)) (aa (tC (.bl true)) aP))) (aa (tSl (fR qb (fR (qc K) (qa K))) (aj 3) (iG (tC (.int 3))) bZ) (aa (aj 4) aP)))))))))
theorem kB (T:Txt K mg t) (G6:bB P w K mg base t) (G7:aN P w K mg base t (5+4*n) n) (hr:cZ (5+4*n) (A.deeper (envOfC "two_shows" (ab bq) s.heap.objs.size (t.f 9).1 cdv))):JSs (ml CX0 P w K mg base ["web", "forms", "node", "reason", "rests"] "two_shows" (ab bq) (t.f 9).1 cdv A outer s H E).nox (a9 bq) (dB K t n):=by
 unfold dB;refine aG ?_ ?_
 ·refine cA ?_ ?_ ?_
  ·exact (eW (vh (cD (p7 (eCl G6 hr (T.d 6 rfl).m (T.d 6 rfl).F.kp (T.d 6 rfl).b (eA (eIx aJ (eVx 3) aE (fun _ _=>rfl)) (eA (eVx 1) ag rfl) rfl)) (fun _=>rfl))) (vh (cD (p7 (eCl G6 hr (T.d 6 rfl).m (T.d 6 rfl).F.kp (T.d 6 rfl).b (eA (eIx aJ (eVx 3) aE (fun _ _=>rfl)) (eA (eVx 1) ag rfl) rfl)) (fun _=>rfl))) (lU (jr qz (eIx aJ (eVx 3) aE (fun _ _=>rfl)) (eIx aJ (eVx 3) aE (fun _ _=>rfl)) (aO _))))))
  ·refine aU ?_;exact (bx eBl)
  ·exact cz
 ·refine aU ?_;exact (bx (eCl G7 hr (T.d 7 rfl).m (T.d 7 rfl).F.kp (T.d 7 rfl).b (eA (eVx 0) (eA (au (eA (eIx aJ (eVx 1) (eIx aJ (eVx 3) aE (fun _ _=>rfl)) (fun _ _=>rfl)) (eA (eIx aJ (eVx 1) (eIx aJ (eVx 3) aE (fun _ _=>rfl)) (fun _ _=>rfl)) ag rfl) rfl)) (eA (eVx 2) (eA (au (eA eBl (eA eBl ag rfl) rfl)) (eA (eSl (orS bR (orS bj bW)) (eVx 3) (eP aE) mG) (eA (eVx 4) ag rfl) rfl) rfl) rfl) rfl) rfl)))
theorem gA (T:Txt K mg t) (G6:bB P w K mg base t) (G7:aN P w K mg base t (5+4*n) n):cS P w K mg base t (6+4*n) n :=
 ((T.d 9 rfl).F.okJ lQ (fun vs H Q E h=>b9 h) (fun cdv A outer s H vs Q E hr h=>⟨_,kB T G6 G7 hr,by rw [show dB K t n=rS K (gav t) (dQ (bO n)) from rfl];exact cP (N:=["web", "forms", "node", "reason", "rests"]) (bI T) h (by decide)⟩):cS P w K mg base t ((5+4*n)+1) n).mono (by omega)
def cY (K:Fg) (t:Adr) (n:Nat):TS :=
 (fI (pV (tOr (pJ (tB (br (bF K) [] E0 (aa (aj 4) (aa (tC (.str "part")) (aa (tC (.int 3)) aP)))))) (pJ (tB (br (bS K) [] E0 (aa (tOp (fun x y=>ixP.r K [x,y]) (aj 4) (tC (.int 1))) (aa (aj 1) aP)))))) (jH (tC (.bl false))) fU)
  (jH (br (gX K n) [] E0 (aa (aj 0) (aa (tOp (fun x y=>ixP.r K [x,y]) (aj 1) (tOp (fun x y=>ixP.r K [x,y]) (aj 4) (tC (.int 1)))) (aa (aj 2) (aa (aj 3) (aa (tOp (fun x y=>ixP.r K [x,y]) (aj 4) (tC (.int 2))) (aa (aj 5) aP)))))))))
theorem jq (T:Txt K mg t) (G5:aH P w K mg base t) (G6:bB P w K mg base t) (G13:cX P w K mg base t (4+4*n) n) (hr:cZ (4+4*n) (A.deeper (envOfC "part_shows" (ab bc) s.heap.objs.size (t.f 10).1 cdv))):JSs (ml CX0 P w K mg base ["web", "forms", "node", "verdict", "reason", "rests"] "part_shows" (ab bc) (t.f 10).1 cdv A outer s H E).nox (a9 bc) (cY K t n):=by
 unfold cY;refine aG ?_ ?_
 ·refine cA ?_ ?_ ?_
  ·exact (eW (vh (cD (p7 (eCl G5 hr (T.d 5 rfl).m (T.d 5 rfl).F.kp (T.d 5 rfl).b (eA (eVx 4) (eA ao (eA aE ag rfl) rfl) rfl)) (fun _=>rfl))) (lU (cD (p7 (eCl G6 hr (T.d 6 rfl).m (T.d 6 rfl).F.kp (T.d 6 rfl).b (eA (eIx aJ (eVx 4) aE (fun _ _=>rfl)) (eA (eVx 1) ag rfl) rfl)) (fun _=>rfl))))))
  ·refine aU ?_;exact (bx eBl)
  ·exact cz
 ·refine aU ?_;exact (bx (eCl G13 hr (T.d 13 rfl).m (T.d 13 rfl).F.kp (T.d 13 rfl).b (eA (eVx 0) (eA (eIx aJ (eVx 1) (eIx aJ (eVx 4) aE (fun _ _=>rfl)) (fun _ _=>rfl)) (eA (eVx 2) (eA (eVx 3) (eA (eIx aJ (eVx 4) aE (fun _ _=>rfl)) (eA (eVx 5) ag rfl) rfl) rfl) rfl) rfl) rfl)))
theorem fE (T:Txt K mg t) (G5:aH P w K mg base t) (G6:bB P w K mg base t) (G13:cX P w K mg base t (4+4*n) n):b8 P w K mg base t (5+4*n) n :=
 ((T.d 10 rfl).F.okJ kL (fun vs H Q E h=>b9 h) (fun cdv A outer s H vs Q E hr h=>⟨_,jq T G5 G6 G13 hr,by rw [show cY K t n=rS K (gav t) (cT (ay n)) from rfl];exact cP (N:=["web", "forms", "node", "verdict", "reason", "rests"]) (bI T) h (by decide)⟩):b8 P w K mg base t ((4+4*n)+1) n).mono (by omega)
def ck (K:Fg) (t:Adr) (n:Nat):TS :=
 (fI (pV (pJ (tB (br (bF K) [] E0 (aa (aj 4) (aa (tC (.str "every")) (aa (tC (.int 2)) aP)))))) (jH (tC (.bl false))) fU)
  (jH (br (bL K n) [] E0 (aa (aj 0) (aa (aj 1) (aa (aj 2) (aa (fT [3] (CU K (aj 1)) ui (aj 1)) (aa (tOp (fun x y=>ixP.r K [x,y]) (aj 4) (tC (.int 1))) (aa (aj 5) aP)))))))))
theorem jb (T:Txt K mg t) (G5:aH P w K mg base t) (G7:aN P w K mg base t (5+4*n) n) (hr:cZ (5+4*n) (A.deeper (envOfC "every_shows" (ab aK) s.heap.objs.size (t.f 11).1 cdv))):JSs (ml CX0 P w K mg base ["web", "forms", "node", "verdict", "reason", "rests"] "every_shows" (ab aK) (t.f 11).1 cdv A outer s H E).nox (a9 aK) (ck K t n):=by
 unfold ck;refine aG ?_ ?_
 ·refine cA ?_ ?_ ?_
  ·exact (cD (p7 (eCl G5 hr (T.d 5 rfl).m (T.d 5 rfl).F.kp (T.d 5 rfl).b (eA (eVx 4) (eA ao (eA aE ag rfl) rfl) rfl)) (fun _=>rfl)))
  ·refine aU ?_;exact (bx eBl)
  ·exact cz
 ·refine aU ?_;exact (bx (eCl G7 hr (T.d 7 rfl).m (T.d 7 rfl).F.kp (T.d 7 rfl).b (eA (eVx 0) (eA (eVx 1) (eA (eVx 2) (eA (lb ["verdict"] (eIT (eVx 1)) eT0 (eC fun _ _ _ _=>(eVy 1)) rfl (bsc (sc:=ab aK) rfl (by decide +kernel)) (by decide +kernel) ⟨rfl,⟨rfl,rfl⟩,trivial⟩ (fun _=>rfl)) (eA (eIx aJ (eVx 4) aE (fun _ _=>rfl)) (eA (eVx 5) ag rfl) rfl) rfl) rfl) rfl) rfl)))
theorem eO (T:Txt K mg t) (G5:aH P w K mg base t) (G7:aN P w K mg base t (5+4*n) n):bN P w K mg base t (6+4*n) n :=
 ((T.d 11 rfl).F.okJ jx (fun vs H Q E h=>b9 h) (fun cdv A outer s H vs Q E hr h=>⟨_,jb T G5 G7 hr,by rw [show ck K t n=rS K (gav t) (cp (bO n)) from rfl];exact cP (N:=["web", "forms", "node", "verdict", "reason", "rests"]) (bI T) h (by decide)⟩):bN P w K mg base t ((5+4*n)+1) n).mono (by omega)
def bY (K:Fg) (t:Adr) (n:Nat):TS :=
 (fI (iM (tOp (fun x y=>ixP.r K [x,y]) (aj 1) (tC (.int 0))) (aT 6))
  (fI (pV (z7 (lG (tOp (fun x y=>eqP.r K [x,y]) (aj 6) (tC (.str "one")))) (tB (aj 3))) (jH (br (eM K n) [] E0 (aa (aj 0) (aa (tOp (fun x y=>ixP.r K [x,y]) (aj 1) (tC (.int 1))) (aa (aj 2) (aa (aj 4) (aa (aj 5) aP))))))) fU)
  (fI (pV (z7 (lG (tOp (fun x y=>eqP.r K [x,y]) (aj 6) (tC (.str "one")))) (tB (br (bF K) [] E0 (aa (aj 4) (aa (tC (.str "two")) (aa (tC (.int 5)) aP)))))) (jH (br (gE K n) [] E0 (aa (aj 0) (aa (tOp (fun x y=>ixP.r K [x,y]) (aj 1) (tC (.int 1))) (aa (aj 2) (aa (aj 4) (aa (aj 5) aP))))))) fU)
  (fI (pV (lG (tOp (fun x y=>eqP.r K [x,y]) (aj 3) (tOp (fun x y=>inP.r K [x,y]) (aj 6) (eD (aa (tC (.str "all")) (aa (tC (.str "none")) aP)))))) (jH (br (eL K n) [] E0 (aa (aj 0) (aa (tOp (fun x y=>ixP.r K [x,y]) (aj 1) (tC (.int 1))) (aa (aj 2) (aa (tOp (fun x y=>eqP.r K [x,y]) (aj 6) (tC (.str "all"))) (aa (aj 4) (aa (aj 5) aP)))))))) fU)
  (jH (br (fC K n) [] E0 (aa (aj 0) (aa (tOp (fun x y=>ixP.r K [x,y]) (aj 1) (tC (.int 1))) (aa (aj 2) (aa (tOp (fun x y=>neP.r K [x,y]) (aj 6) (tC (.str "all"))) (aa (aj 4) (aa (aj 5) aP))))))))))))
theorem gN (T:Txt K mg t) (G8:bM P w K mg base t (6+4*n) n) (G5:aH P w K mg base t) (G9:cS P w K mg base t (6+4*n) n) (G11:bN P w K mg base t (6+4*n) n) (G10:b8 P w K mg base t (5+4*n) n) (hr:cZ (6+4*n) (A.deeper (envOfC "listed_shows" (ab aQ) s.heap.objs.size (t.f 12).1 cdv))):JSs (ml CX0 P w K mg base ["web", "form", "node", "verdict", "reason", "rests", "head"] "listed_shows" (ab aQ) (t.f 12).1 cdv A outer s H E).nox (a9 aQ) (bY K t n):=by
 unfold bY;refine aG ?_ ?_
 ·refine nW (i:=6) ?_ du.nd rfl (Or.inl rfl) rfl (Or.inl rfl);exact (eIx aJ (eVx 1) aE (fun _ _=>rfl))
 ·refine aG ?_ ?_
  ·refine cA ?_ ?_ ?_
   ·exact (eW (xj (jr (aB hr.units) (eVx 6) ao (aO _)) (se (p7 (eVx 3) (fun _=>rfl)))))
   ·refine aU ?_;exact (bx (eCl G8 hr (T.d 8 rfl).m (T.d 8 rfl).F.kp (T.d 8 rfl).b (eA (eVx 0) (eA (eIx aJ (eVx 1) aE (fun _ _=>rfl)) (eA (eVx 2) (eA (eVx 4) (eA (eVx 5) ag rfl) rfl) rfl) rfl) rfl)))
   ·exact cz
  ·refine aG ?_ ?_
   ·refine cA ?_ ?_ ?_
    ·exact (eW (xj (jr (aB hr.units) (eVx 6) ao (aO _)) (se (p7 (eCl G5 hr (T.d 5 rfl).m (T.d 5 rfl).F.kp (T.d 5 rfl).b (eA (eVx 4) (eA ao (eA aE ag rfl) rfl) rfl)) (fun _=>rfl)))))
    ·refine aU ?_;exact (bx (eCl G9 hr (T.d 9 rfl).m (T.d 9 rfl).F.kp (T.d 9 rfl).b (eA (eVx 0) (eA (eIx aJ (eVx 1) aE (fun _ _=>rfl)) (eA (eVx 2) (eA (eVx 4) (eA (eVx 5) ag rfl) rfl) rfl) rfl) rfl)))
    ·exact cz
   ·refine aG ?_ ?_
    ·refine cA ?_ ?_ ?_
     ·exact (jr (aB hr.units) (eVx 3) (jf (jD hr.units) (eVx 6) (au (eA ao (eA ao ag rfl) rfl)) (by with_unfolding_all rfl)) (aO _))
     ·refine aU ?_;exact (bx (eCl G11 hr (T.d 11 rfl).m (T.d 11 rfl).F.kp (T.d 11 rfl).b (eA (eVx 0) (eA (eIx aJ (eVx 1) aE (fun _ _=>rfl)) (eA (eVx 2) (eA (jf (aB hr.units) (eVx 6) ao (aO _)) (eA (eVx 4) (eA (eVx 5) ag rfl) rfl) rfl) rfl) rfl) rfl)))
     ·exact cz
    ·refine aU ?_;exact (bx (eCl G10 hr (T.d 10 rfl).m (T.d 10 rfl).F.kp (T.d 10 rfl).b (eA (eVx 0) (eA (eIx aJ (eVx 1) aE (fun _ _=>rfl)) (eA (eVx 2) (eA (jf (n8 hr.units) (eVx 6) ao (aO _)) (eA (eVx 4) (eA (eVx 5) ag rfl) rfl) rfl) rfl) rfl) rfl)))
theorem dt (T:Txt K mg t) (G8:bM P w K mg base t (6+4*n) n) (G5:aH P w K mg base t) (G9:cS P w K mg base t (6+4*n) n) (G11:bN P w K mg base t (6+4*n) n) (G10:b8 P w K mg base t (5+4*n) n):cw P w K mg base t (7+4*n) n :=
 ((T.d 12 rfl).F.okJ du (fun vs H Q E h=>b9 h) (fun cdv A outer s H vs Q E hr h=>⟨_,gN T G8 G5 G9 G11 G10 hr,by rw [show bY K t n=rS K (gav t) (bT (eT n) (gh n) (eH n) (fG n)) from rfl];exact cP (N:=["web", "form", "node", "verdict", "reason", "rests", "head"]) (bI T) h (by decide)⟩):cw P w K mg base t ((6+4*n)+1) n).mono (by omega)
theorem u6 (T:Txt K mg t) (G5:aH P w K mg base t) (G13:cX P w K mg base t (4+4*n) n) (G12:cw P w K mg base t (7+4*n) n) (G4:gq P w K mg base t):cX P w K mg base t (4+4*(n+1)) (n+1) :=
 ((T.d 13 rfl).ok j6 (bI T) fun hr=>aG (eSx j6.nd 6 (eIy (eVx 1) aE)) (aG (cA (eTx (aB hr.units) (eVx 6) ao) (aU (bx (uj (jf (aB hr.units) (eVx 4) (au (eAx ao ag)) (aO _)) (uB (eKc (k:=0) B0 (bI T) (hr.mono (by omega)) 5 (eAx (eVx 2) (eAx (eIy (eVx 1) aE) (eAx (eVx 3) ag)))))))) cz) (aG (cA (eTx (aB hr.units) (eVx 6) ao) (aU (bx (uj (eCx G5 hr (T.d 5 rfl) (eAx (eVx 4) (eAx ao (eAx aE ag)))) (uB (eCx G13 hr (T.d 13 rfl) (eAx (eVx 0) (eAx (eIy (eVx 1) aE) (eAx (eVx 2) (eAx (BN (eVx 3)) (eAx (eIy (eVx 4) aE) (eAx (eVx 5) ag))))))))))) cz) (aG (cA (jr (jD hr.units) (eVx 6) (y7 (v:=.ref t.iB) rfl T.g_LISTS rfl rfl) (by with_unfolding_all rfl)) (aU (bx (eCx G12 hr (T.d 12 rfl) (eAx (eVx 0) (eAx (eVx 1) (eAx (eVx 2) (eAx (eVx 3) (eAx (eVx 4) (eAx (eVx 5) ag))))))))) cz) (aG (cA (eTx (aB hr.units) (eVx 6) ao) (aU jN) cz) (aG (cA (eTx (aB hr.units) (eVx 6) ao) (aU jN) cz) (aU (bx (uj (jf (aB hr.units) (eVx 4) (au (eAx ao ag)) (aO _)) (uB (jf (aB hr.units) (eCx G4 hr (T.d 4 rfl) (eAx (eVx 0) (eAx (eVx 1) (eAx (eVx 2) (eAx Dd ag))))) (eVx 3) (aO _))))))))))):cX P w K mg base t ((7+4*n)+1) (n+1)).mono (by omega)
theorem xc (T:Txt K mg t):cX P w K mg base t (3+1) 0 :=
 bK.no (k:=3) (T.d 13 rfl).F j6 fun vs H Q E h=>by obtain ⟨G,ds,is,pr,outs,hF,_⟩:=h;cases hF
theorem BQ (T:Txt K mg t):Az P w K mg base t :=
 (T.d 14 rfl).ok CY (bI T) fun hr=>aU (bx (l5 (ePC ao (eSl (orS bR (orS bj bW)) (eVx 0) mG (eP aE)) (ePC ao aE (ePC ao aE ePN))) (by rfl) (by rfl) (by simp) (by decide)))
theorem yk (T:Txt K mg t):oJ P w K mg base t :=
 (T.d 15 rfl).ok eX (bI T) fun hr=>aG (cA (eTx rM (kK hr.units (eVx 0) ao (fun _ _=>rfl)) aE) (aG (eSx eX.nd 2 (eOp cQ (kK hr.units (eVx 0) ao (fun _ _=>rfl)) (eVx 1))) (aG (vi hr.units (eVx 0) ao (eOp jW (kK hr.units (eVx 0) ao (fun _ _=>rfl)) (eVx 1)) rfl) (aU (bx (eVx 2))))) cz) (aG (eSx eX.nd 3 (kK hr.units (eVx 0) ao (fun _ _=>rfl))) (aG (vi hr.units (eVx 0) ao (eOp aw (eVx 3) aE) rfl) (aG (eSx eX.nd 4 aE) (aG (cA (eTx rM (eBs bf T.z_len (eAx (kK hr.units (eVx 0) ao (fun _ _=>rfl)) ag)) aE) (aU (eSx eX.nd 4 (eIy (kK hr.units (eVx 0) ao (fun _ _=>rfl)) (eOp cQ (eVx 3) (eBs bf T.z_len (eAx (kK hr.units (eVx 0) ao (fun _ _=>rfl)) ag)))))) cz) (aG (cA (eW (xj (eTx wD (eVx 3) (eBs bf T.z_len (eAx (kK hr.units (eVx 0) ao (fun _ _=>rfl)) ag))) (se (eTx qz (eBs m5 T.z_abs (eAx (eVx 4) ag)) (eOp yM aE aE))))) (aG (vi hr.units (eVx 0) ao (eOp jW (eBs m5 T.z_abs (eAx (eVx 4) ag)) (eVx 1)) rfl) (aU (bx (eOp cQ (eBs m5 T.z_abs (eAx (eVx 4) ag)) (eVx 1))))) cz) (aG (eSx eX.nd 5 (eOp cQ (eOp fQ (eOp aw (eOp cQ (eVx 4) aE) aE) (eOp aw (eOp fQ aE (eVx 3)) aE)) aE)) (aG (eSx eX.nd 6 (eOp cQ (eOp aw (eOp aw (eOp fQ (eVx 5) (eVx 5)) (eOp fQ aE (eVx 3))) aE) aE)) (aU (bx (eOp cQ (eOp jW (eOp cQ (eOp fQ (eVx 6) (eVx 6)) aE) aE) (eVx 1)))))))))))
theorem xV (T:Txt K mg t) (G13:cX P w K mg base t 12 2):qx P w K mg base t :=
 (T.d 16 rfl).okC T.Bf qU (bI T) fun hr=>aG (eSx qU.nd 4 (au (eAx (au (eAx ao (eA ao (eA ao ag rfl) rfl))) ag))) (aU (bx (EB G13 hr (T.d 13 rfl) IE rfl rfl rfl rfl zR (j0 rfl) (eVx 4) (eVx 0) ao (eVx 1) (eVx 2) rfl)))
theorem vv (T:Txt K mg t) (G15:oJ P w K mg base t):tO P w K mg base t :=
 (T.d 17 rfl).ok kR (bI T) fun hr=>aG (eSy kR.nd 2 ao) (aG (eSy kR.nd 3 (eCx G15 hr (T.d 15 rfl) (eAx (eVy 0) (eAx aE ag)))) (aU (bx (eKx ["_law_letters", "_law_pen_here", "_law_begin"] (eR1 rfl T.z_range (eAx (eVx 1) ag) rfl) eT0 (eC fun _ _ _ _=>(eOp aw (eIy (eVy 1) (eOp cQ (eOp aw (eVy 3) (eOp fQ aE (eVx 0))) aE)) (eOp u9 ao (eCx G15 hr (T.d 15 rfl) (eAx (eVy 2) (eAx aE ag)))))) (bsc (sc:=ab i7) rfl (by decide +kernel)) ⟨rfl,⟨rfl,rfl⟩,⟨rfl,⟨rfl,rfl⟩,⟨rfl,⟨rfl,rfl⟩,trivial⟩⟩⟩))))
theorem Bp (T:Txt K mg t) (G16:qx P w K mg base t):tE P w K mg base t :=
 (T.d 18 rfl).ok o5 (bI T) fun hr=>aG (cA (eW (vh (eTx cF (eCx G16 hr (T.d 16 rfl) (eAx (eVx 0) (eAx (eVx 1) (eA (eVx 2) (eA (eVx 4) ag rfl) rfl)))) eBl) (lU (eTx cF (eCx G16 hr (T.d 16 rfl) (eAx (eVx 0) (eAx (eVx 1) (eA (eVx 2) (eA uL ag rfl) rfl)))) eBl)))) (aU (bx eBl)) cz) (aG (cA (eTx cF (eCx G16 hr (T.d 16 rfl) (eAx (eVx 0) (eAx (BN (eVx 1)) (eAx (eVx 2) (eA (eVx 4) ag rfl))))) eBl) (aU (bx eBl)) cz) (aG (eFx (eIL (eOp aw (eVx 3) (mZ (eAx (eOp aw (eVx 2) (au (eAx aE ag))) (eAx (eTs (ko rfl) T.z_list (eAx (eVx 2) ag)) (eAx (eSl (orS bR (orS bj bW)) (eVx 2) mG (eP (eUy aE))) (eAx (eOp aw (au (eA (eOp aw (eIx aJ (eVx 2) aE (fun _ _=>rfl)) ao) ag rfl)) (eSl (orS bR (orS bj bW)) (eVx 2) (eP aE) mG)) (eA Dd (eA aE (eA ao (eA (au ag) ag rfl) rfl) rfl) rfl)))))))) (eGx o5.nd 5) (aU (cA (eTx cF (eCx G16 hr (T.d 16 rfl) (eAx (eVx 0) (eAx (eVx 1) (eAx (eVx 5) (eAx uL ag))))) eBl) (aU (bx eBl)) cz))) (aG (eFx (eID (eVx 4)) (eGx o5.nd 6) (aG (eSx o5.nd 7 (eTs uO T.z_dict (eAx (eVx 4) ag))) (aG (vi hr.units (eVx 7) (eVx 6) (BN (kK hr.units (eVx 4) (eVx 6) (fun _ _=>rfl))) rfl) (aU (cA (eTx cF (eCx G16 hr (T.d 16 rfl) (eAx (eVx 0) (eAx (eVx 1) (eAx (eVx 2) (eAx (eVx 7) ag))))) eBl) (aU (bx eBl)) cz))))) (aU (bx eBl)))))
theorem sW (T:Txt K mg t):kT P w K mg base t :=
 (T.d 19 rfl).ok qV (bI T) fun hr=>aU (bx (mZ (eAx (eUy aE) (eAx (eVx 0) (eA (eOp aw (eVx 0) aE) (eA (jf (aB hr.units) (eVx 1) aE (aO _)) (eA Dd (eA (eTs xa T.z_str (eA (eVx 1) ag rfl)) (eA (au (eA (eVx 1) ag rfl)) (eA (eOp xZ (eUy aE) (eVx 1)) ag rfl) rfl) rfl) rfl) rfl) rfl)))))
theorem uE (T:Txt K mg t) (G18:tE P w K mg base t):m4 P w K mg base t :=
 (T.d 20 rfl).ok fx (bI T) fun hr=>aG (eSy fx.nd 4 (eOp mO (au (eAx (au (eAx ao ag)) ag)) (eBs bf T.z_len (eAx (eVx 1) ag)))) (aG (eSx fx.nd 5 (au (eAx (eVx 0) (eAx (eTs i8 T.z_tuple (eAx (lb [] (eIL (eVx 1)) eT0 (eC fun _ _ _ _=>(au (eA ao (eA (eVx 0) ag rfl) rfl))) rfl (bsc (sc:=ab dC) rfl (by decide +kernel)) (by decide +kernel) trivial (fun _=>rfl)) ag)) ag)))) (aG (eSx fx.nd 6 (mZ (eAx (au (eAx ao (eAx (eOp fe (eVy 4) (au (eAx (au (eA ao ag rfl)) ag))) ag))) (eAx (au (eAx ao (eAx (eTs (ko rfl) T.z_list (eA (eVy 4) ag rfl)) ag))) ag)))) (aG (eSx fx.nd 6 (eOp fe (eVx 6) (eKx ["_law_whys"] (eR1 rfl T.z_range (eAx (eBs bf T.z_len (eAx (eVy 4) ag)) ag) rfl) eT0 (eC fun _ _ _ _=>(au (eAx ao (eAx (eOp fe (eOp fe (eSl (orS bR (orS bj bW)) (eVy 1) mG (eP (eVx 0))) (au (eAx (au (eAx ao ag)) ag))) (eSl (orS bR (orS bj bW)) (eVy 1) (eP (eOp fe (eVx 0) aE)) mG)) ag)))) (bsc (sc:=ab dC) rfl (by decide +kernel)) ⟨rfl,⟨rfl,rfl⟩,trivial⟩))) (aG (cA (eTx rM (eBs bf T.z_len (eAx (eVy 4) ag)) aE) (aU (Bt (eBM (eVx 6) (eAx (au (eAx ao (eAx (eSl (orS bR (orS bj bW)) (eVy 4) (eP aE) mG) ag))) ag) lH PySem.F.plainAttrs_list PySem.F.slot_list_append PySem.F.type_list_append rfl rfl rfl rfl rfl) rfl)) cz) (aU (bx (eCx G18 hr (T.d 18 rfl) (eAx (eVx 5) (eAx (eVx 2) (eAx (au (eAx ao (eAx (eVy 4) ag))) (eAx (eVx 6) (eAx (eTs (lA hr.units rfl) T.z_dict (eAx (eKx ["_law_kept"] (eIL (eVx 1)) eT0 (eC fun _ _ _ _=>(au (eA (eVx 0) (eA (eVy 1) ag rfl) rfl))) (bsc (sc:=ab dC) rfl (by decide +kernel)) ⟨rfl,⟨rfl,rfl⟩,trivial⟩) ag)) ag))))))))))))
theorem xQ (T:Txt K mg t) (G19:kT P w K mg base t) (G18:tE P w K mg base t) (G16:qx P w K mg base t):wj P w K mg base t :=
 (T.d 21 rfl).ok f6 (bI T) fun hr=>aG (eSx f6.nd 4 (au (eAx (eVx 0) (eAx (eTs i8 T.z_tuple (eA (lb [] (eIL (eVx 1)) eT0 (eC fun _ _ _ _=>(au (eA ao (eA (eVx 0) ag rfl) rfl))) rfl (bsc (sc:=ab g9) rfl (by decide +kernel)) (by decide +kernel) trivial (fun _=>rfl)) ag rfl)) ag)))) (aG (eFx (eR1 rfl T.z_range (eAx (eBs bf T.z_len (eAx (eVx 1) ag)) ag) rfl) (eGx f6.nd 5) (aG (yh (i:=6) [] (eIL (eCx G19 hr (T.d 19 rfl) (eAx (eBs bf T.z_len (eAx (eVx 1) ag)) (eAx (eVx 5) ag)))) eT0 (eC fun _ _ _ _=>(au (eAx ao (eAx (eVx 0) (eAx (au (eAx ao ag)) ag))))) f6.nd rfl rfl rfl rfl (bsc (sc:=ab g9) rfl (by decide +kernel)) (by decide +kernel) trivial (fun _=>rfl)) (aG (eSx f6.nd 6 (eOp aw (eVx 6) (mZ (eAx (au (eAx ao (eAx (eVx 5) (eAx (au (eAx ao ag)) ag)))) (eAx (au (eAx ao (eAx (eOp mO (au (eAx (au (eA ao ag rfl)) ag)) (eBs bf T.z_len (eAx (eVx 1) ag))) ag))) ag))))) (aU (cA (cD (eUx (eCx G18 hr (T.d 18 rfl) (eAx (eVx 4) (eAx (eVx 2) (eAx (au (eAx ao (eAx (eVx 5) (eAx (au (eA ao ag rfl)) ag)))) (eAx (eVx 6) (eAx (l5 (ePC (eIy (eVx 1) (eVx 5)) (eVx 3) ePN) (by rfl) (by rfl) (by simp) (by decide)) ag)))))))) (aU (bx eBl)) cz))))) (aG (eSx f6.nd 7 (eCx G16 hr (T.d 16 rfl) (eAx (eVx 4) (eAx (eVx 2) (eAx (au (eAx ao (eA aE (eA (au (eA ao ag rfl)) ag rfl) rfl))) (eAx uL ag)))))) (aU (bx (uj (eIz T.z_isinstance (eVx 7) T.z_bool) (uB (jf (aB hr.units) (eVx 7) (jf (n8 hr.units) (eVx 1) (mZ ag) (aO _)) (aO _))))))))
def vP (K:Fg) (t:Adr):TS :=
 (fI (iM (tCB (jJ.r K) (aa (aj 0) aP)) (aT 1))
  (fI (iM (eD (aa (tC (.str "one")) (aa (tCB (lL.r K) (aa (fT [] (jm K (aj 0)) ui (eD (aa (tC (.str "keeps")) (aa (aj 0) aP)))) aP)) aP))) (aT 2))
  (fI (iM (tOp (fun x y=>zf.r K [x,y]) (eD (aa (eD (aa (tC (.str "claim")) aP)) aP)) (aj 1)) (aT 3))
  (fI (xW (pX (aa (aj 1) aP)) (aT 4) (fI (iM (tCB (lY.r K) (aa (fT [0,4] (jm K (aj 0)) ui (eD (aa (aj 0) (aa (tOp (fun x y=>eqP.r K [x,y]) (aj 0) (tOp (fun x y=>ixP.r K [x,y]) (aj 1) (aj 2))) aP)))) aP)) (aT 5))
  (fI (iM (fT [3] (jm K (br (iL K) [] E0 (aa (aj 1) (aa (aj 4) aP)))) ui (eD (aa (tC (.str "alone")) (aa (aj 0) (aa (aj 1) aP))))) (aT 6))
  (fI (iM (tOp (fun x y=>cy.r K [x,y]) (aj 6) (yp (aa (eD (aa (tC (.str "alone")) (aa (aj 4) (aa (tOp (fun x y=>cy.r K [x,y]) (aj 3) (tSl (fR qb (fR (qc K) (fR (qa K) (Av K)))) (aj 3) bZ (iG (tC (.int 1))))) aP)))) (aa (eD (aa (tC (.str "alone")) (aa (aj 4) (aa (tSl (fR qb (fR (qc K) (qa K))) (aj 3) (iG (tC (.int 1))) bZ) aP)))) (aa (eD (aa (tC (.str "alone")) (aa (aj 4) (aa (tCB (qL.r K) (aa (aj 3) aP)) aP)))) aP))))) (aT 6))
  (fI (uz (tBM K "list" (C6.r K) (aj 6) (aa (eD (aa (tC (.str "every")) (aa (aj 3) aP))) aP)))
  (fI (pV (pJ (tB (br (sH K) [] E0 (aa (aj 2) (aa (tC (.bl true)) (aa (eD (aa (tC (.str "alone")) (aa (aj 4) (aa (aj 3) aP)))) (aa (aj 6) (aa (aj 5) aP)))))))) (jH (tC (.bl false))) fU)
  (xW (pX (aa (aj 4) aP)) (aT 7) (fI (iM (eD (aa (tC (.str "two")) (aa (aj 7) (aa (aj 4) (aa (eD (aa (tC (.str "claim")) aP)) (aa (eD (aa (tC (.str "claim")) aP)) aP)))))) (aT 8))
  (fI (iM (yp (aa (tOp (fun x y=>cy.r K [x,y]) (eD (aa (tC (.str "two")) (aa (aj 4) (aa (aj 7) aP)))) (tSl (fR qb (fR (qc K) (qa K))) (aj 8) (iG (tC (.int 3))) bZ)) (aa (tOp (fun x y=>cy.r K [x,y]) (eD (aa (tC (.str "two")) (aa (aj 4) (aa (aj 4) aP)))) (tSl (fR qb (fR (qc K) (qa K))) (aj 8) (iG (tC (.int 3))) bZ)) (aa (eD (aa (tC (.str "part")) (aa (aj 4) (aa (eD (aa (tC (.str "claim")) aP)) aP)))) aP)))) (aT 6))
  (fI (iM (tOp (fun x y=>cy.r K [x,y]) (aj 6) (yp (aa (tOp (fun x y=>cy.r K [x,y]) (tSl (fR qb (fR (qc K) (fR (qa K) (Av K)))) (aj 8) bZ (iG (tC (.int 3)))) (eD (aa (eD (aa (tC (.str "claim")) aP)) (aa (eD (aa (tC (.str "plain")) aP)) aP)))) (aa (tOp (fun x y=>cy.r K [x,y]) (tSl (fR qb (fR (qc K) (fR (qa K) (Av K)))) (aj 8) bZ (iG (tC (.int 3)))) (eD (aa (eD (aa (tC (.str "plain")) aP)) (aa (eD (aa (tC (.str "claim")) aP)) aP)))) (aa (eD (aa (tC (.str "alone")) (aa (aj 4) (aa (aj 3) aP)))) aP))))) (aT 6))
  (fI (iM (tOp (fun x y=>cy.r K [x,y]) (aj 6) (fT [4,8] (jm K (yp (aa (tUn (rU fun i=>.int (-i)) (tC (.int 1))) (aa (tOp (fun x y=>eqP.r K [x,y]) (aj 7) (tC (.int 1))) (aa (tC .non) (aa (aj 1) aP)))))) ui (tOp (fun x y=>cy.r K [x,y]) (eD (aa (tC (.str "two")) (aa (aj 0) (aa (aj 1) aP)))) (tSl (fR qb (fR (qc K) (qa K))) (aj 2) (iG (tC (.int 3))) bZ)))) (aT 6))
  (fI (iM (tOp (fun x y=>cy.r K [x,y]) (aj 6) (fT [7,8] (jm K (br (iL K) [] E0 (aa (aj 1) (aa (aj 4) aP)))) ui (tOp (fun x y=>cy.r K [x,y]) (eD (aa (tC (.str "two")) (aa (aj 1) (aa (aj 0) aP)))) (tSl (fR qb (fR (qc K) (qa K))) (aj 2) (iG (tC (.int 3))) bZ)))) (aT 6))
  (pV (pJ (tB (br (sH K) [] E0 (aa (aj 2) (aa (tC (.bl false)) (aa (aj 8) (aa (aj 6) (aa (oP (((tOp (fun x y=>ixP.r K [x,y]) (aj 0) (aj 7)),(tC (.bl true))) :: (((tOp (fun x y=>ixP.r K [x,y]) (aj 0) (aj 4)),(tC (.bl true))) :: []))) aP)))))))) (jH (tC (.bl false))) fU)))))))))))))
  (jH (br (nO K) [] E0 (aa (tC (.str "one")) (aa (aj 0) (aa (tC (.bl false)) (aa (tC (.bl false)) aP))))))))))
theorem Bd (T:Txt K mg t) (G19:kT P w K mg base t) (G18:tE P w K mg base t) (G20:m4 P w K mg base t):CP P w K mg base t:=by
 refine (T.d 22 rfl).F.okX cb (bI T) (rd:=vP K t) rfl fun hr=>?_;unfold vP;refine aG ?_ ?_
 ·refine nW (i:=1) ?_ cb.nd rfl (Or.inl rfl) rfl (Or.inl rfl);exact (eBs bf T.z_len (eA (eVy 0) ag rfl))
 ·refine aG ?_ ?_
  ·refine nW (i:=2) ?_ cb.nd rfl (Or.inl rfl) rfl (Or.inl rfl);exact (au (eA ao (eA (eTs i8 T.z_tuple (eA (lb [] (eIL (eVy 0)) eT0 (eC fun _ _ _ _=>(au (eA ao (eA (eVx 0) ag rfl) rfl))) rfl (bsc (sc:=ab eU) rfl (by decide +kernel)) (by decide +kernel) trivial (fun _=>rfl)) ag rfl)) ag rfl) rfl))
  ·refine aG ?_ ?_
   ·refine nW (i:=3) ?_ cb.nd rfl (Or.inr rfl) rfl (Or.inl rfl);exact (eOp mO (au (eA (au (eA ao ag rfl)) ag rfl)) (eVx 1))
   ·refine aG ?_ ?_
    ·refine Fu ?_ (eGN (i:=4) cb.nd rfl (Or.inr rfl) (Or.inl rfl)) ?_ PassesOwn.never rfl (fun _=>rfl)
     ·exact (eR1 rfl T.z_range (eA (eVx 1) ag rfl) rfl)
     ·refine aG ?_ ?_
      ·refine nW (i:=5) ?_ cb.nd rfl (Or.inl rfl) rfl (Or.inl rfl);exact (eTs (lA hr.units rfl) T.z_dict (eA (lb ["_law_names_here", "_law_at"] (eIL (eVy 0)) eT0 (eC fun _ _ _ _=>(au (eA (eVx 0) (eA (jf (aB hr.units) (eVx 0) (eIx aJ (eVy 1) (eVy 2) (fun _ _=>rfl)) (aO _)) ag rfl) rfl))) rfl (bsc (sc:=ab eU) rfl (by decide +kernel)) (by decide +kernel) ⟨rfl,⟨rfl,rfl⟩,⟨rfl,⟨rfl,rfl⟩,trivial⟩⟩ (fun _=>rfl)) ag rfl))
      ·refine aG ?_ ?_
       ·exact (yh (i:=6) ["_law_whys"] (eIL (eCl G19 hr (T.d 19 rfl).m (T.d 19 rfl).F.kp (T.d 19 rfl).b (eA (eVx 1) (eA (eVy 4) ag rfl) rfl))) eT0 (eC fun _ _ _ _=>(au (eA ao (eA (eVx 0) (eA (eVy 1) ag rfl) rfl) rfl))) cb.nd rfl rfl rfl rfl (bsc (sc:=ab eU) rfl (by decide +kernel)) (by decide +kernel) ⟨rfl,⟨rfl,rfl⟩,trivial⟩ (fun _=>rfl))
       ·refine aG ?_ ?_
        ·refine nW (i:=6) ?_ cb.nd rfl (Or.inl rfl) rfl (Or.inl rfl);exact (eOp aw (eVx 6) (mZ (eA (au (eA ao (eA (eVy 4) (eA (eOp aw (eVy 3) (eSl (orS bR (orS bj (orS bW mC))) (eVy 3) mG (eP aE))) ag rfl) rfl) rfl)) (eA (au (eA ao (eA (eVy 4) (eA (eSl (orS bR (orS bj bW)) (eVy 3) (eP aE) mG) ag rfl) rfl) rfl)) (eA (au (eA ao (eA (eVy 4) (eA (eTs (ko rfl) T.z_list (eA (eVy 3) ag rfl)) ag rfl) rfl) rfl)) ag rfl) rfl) rfl)))
        ·refine aG ?_ ?_
         ·exact (Bt (eBM (eVx 6) (eA (au (eA ao (eA (eVy 3) ag rfl) rfl)) ag rfl) lH PySem.F.plainAttrs_list PySem.F.slot_list_append PySem.F.type_list_append rfl rfl rfl rfl rfl) rfl)
         ·refine aG ?_ ?_
          ·refine cA ?_ ?_ ?_
           ·exact (cD (p7 (eCl G18 hr (T.d 18 rfl).m (T.d 18 rfl).F.kp (T.d 18 rfl).b (eA (eVx 2) (eA eBl (eA (au (eA ao (eA (eVy 4) (eA (eVy 3) ag rfl) rfl) rfl)) (eA (eVx 6) (eA (eVx 5) ag rfl) rfl) rfl) rfl) rfl)) (fun _=>rfl)))
           ·refine aU ?_;exact (bx eBl)
           ·exact cz
          ·refine aU ?_;refine Fu ?_ (eGN (i:=7) cb.nd rfl (Or.inr rfl) (Or.inl rfl)) ?_ PassesOwn.never rfl (fun _=>rfl)
           ·exact (eR1 rfl T.z_range (eA (eVy 4) ag rfl) rfl)
           ·refine aG ?_ ?_
            ·refine nW (i:=8) ?_ cb.nd rfl (Or.inr rfl) rfl (Or.inl rfl);exact (au (eA ao (eA (eVy 7) (eA (eVy 4) (eA (au (eA ao ag rfl)) (eA (au (eA ao ag rfl)) ag rfl) rfl) rfl) rfl) rfl))
            ·refine aG ?_ ?_
             ·refine nW (i:=6) ?_ cb.nd rfl (Or.inl rfl) rfl (Or.inl rfl);exact (mZ (eA (eOp aw (au (eA ao (eA (eVy 4) (eA (eVy 7) ag rfl) rfl) rfl)) (eSl (orS bR (orS bj bW)) (eVy 8) (eP aE) mG)) (eA (eOp aw (au (eA ao (eA (eVy 4) (eA (eVy 4) ag rfl) rfl) rfl)) (eSl (orS bR (orS bj bW)) (eVy 8) (eP aE) mG)) (eA (au (eA ao (eA (eVy 4) (eA (au (eA ao ag rfl)) ag rfl) rfl) rfl)) ag rfl) rfl) rfl))
             ·refine aG ?_ ?_
              ·refine nW (i:=6) ?_ cb.nd rfl (Or.inl rfl) rfl (Or.inl rfl);exact (eOp aw (eVx 6) (mZ (eA (eOp aw (eSl (orS bR (orS bj (orS bW mC))) (eVy 8) mG (eP aE)) (au (eA (au (eA ao ag rfl)) (eA (au (eA ao ag rfl)) ag rfl) rfl))) (eA (eOp aw (eSl (orS bR (orS bj (orS bW mC))) (eVy 8) mG (eP aE)) (au (eA (au (eA ao ag rfl)) (eA (au (eA ao ag rfl)) ag rfl) rfl))) (eA (au (eA ao (eA (eVy 4) (eA (eVy 3) ag rfl) rfl) rfl)) ag rfl) rfl) rfl)))
              ·refine aG ?_ ?_
               ·refine nW (i:=6) ?_ cb.nd rfl (Or.inl rfl) rfl (Or.inl rfl);exact (eOp aw (eVx 6) (lb ["_law_at", "_law_good"] (eIL (mZ (eA (eUy aE) (eA (jf (aB hr.units) (eVy 7) aE (aO _)) (eA Dd (eA (eVx 1) ag rfl) rfl) rfl) rfl))) eT0 (eC fun _ _ _ _=>(eOp aw (au (eA ao (eA (eVx 0) (eA (eVy 1) ag rfl) rfl) rfl)) (eSl (orS bR (orS bj bW)) (eVy 2) (eP aE) mG))) rfl (bsc (sc:=ab eU) rfl (by decide +kernel)) (by decide +kernel) ⟨rfl,⟨rfl,rfl⟩,⟨rfl,⟨rfl,rfl⟩,trivial⟩⟩ (fun _=>rfl)))
               ·refine aG ?_ ?_
                ·refine nW (i:=6) ?_ cb.nd rfl (Or.inl rfl) rfl (Or.inl rfl);exact (eOp aw (eVx 6) (lb ["_law_other", "_law_good"] (eIL (eCl G19 hr (T.d 19 rfl).m (T.d 19 rfl).F.kp (T.d 19 rfl).b (eA (eVx 1) (eA (eVy 4) ag rfl) rfl))) eT0 (eC fun _ _ _ _=>(eOp aw (au (eA ao (eA (eVy 1) (eA (eVx 0) ag rfl) rfl) rfl)) (eSl (orS bR (orS bj bW)) (eVy 2) (eP aE) mG))) rfl (bsc (sc:=ab eU) rfl (by decide +kernel)) (by decide +kernel) ⟨rfl,⟨rfl,rfl⟩,⟨rfl,⟨rfl,rfl⟩,trivial⟩⟩ (fun _=>rfl)))
                ·refine aU ?_;refine cA ?_ ?_ ?_
                 ·exact (cD (p7 (eCl G18 hr (T.d 18 rfl).m (T.d 18 rfl).F.kp (T.d 18 rfl).b (eA (eVx 2) (eA eBl (eA (eVy 8) (eA (eVx 6) (eA (l5 (ePC (eIx aJ (eVy 0) (eVy 7) (fun _ _=>rfl)) eBl (ePC (eIx aJ (eVy 0) (eVy 4) (fun _ _=>rfl)) eBl ePN)) (by rfl) (by rfl) (by simp) (by decide)) ag rfl) rfl) rfl) rfl) rfl)) (fun _=>rfl)))
                 ·refine aU ?_;exact (bx eBl)
                 ·exact cz
    ·refine aU ?_;exact (bx (eCl G20 hr (T.d 20 rfl).m (T.d 20 rfl).F.kp (T.d 20 rfl).b (eA ao (eA (eVy 0) (eA eBl (eA eBl ag rfl) rfl) rfl) rfl)))
theorem qA (T:Txt K mg t) (G15:oJ P w K mg base t) (G18:tE P w K mg base t):oV P w K mg base t :=
 (T.d 23 rfl).ok bJ (bI T) fun hr=>aG (eSx bJ.nd 2 (eIy (eVx 1) aE)) (aG (eSx bJ.nd 3 (jf (aB hr.units) (eCx G15 hr (T.d 15 rfl) (eAx (eVx 0) (eAx aE ag))) aE (aO _))) (aG (eSx bJ.nd 4 (mZ (eAx (au (eAx ao (eAx (au (eAx ao ag)) ag))) (eAx (au (eAx ao (eAx ao ag))) (eAx (au (eAx ao ag)) (eAx (au (eA ao ag rfl)) ag)))))) (aG (cA (cD (eUx (eCx G18 hr (T.d 18 rfl) (eAx (au (eAx ao (eAx (au (eAx ao (eAx (eVx 2) ag))) ag))) (eAx (eVx 3) (eAx (au (eAx ao (eAx (au (eA ao ag rfl)) ag))) (eAx (eVx 4) (eAx (l5 (ePC (eVx 2) (BN (eVx 3)) ePN) (by rfl) (by rfl) (by simp) (by decide)) ag)))))))) (aU (bx eBl)) cz) (aG (eSx bJ.nd 4 (mZ (eAx (au (eAx ao ag)) (eAx (au (eAx ao (eAx (eVx 2) ag))) (eAx (au (eAx ao (eAx (au (eAx ao ag)) ag))) ag))))) (aG (cA (cD (eUx (eCx G18 hr (T.d 18 rfl) (eAx (au (eAx ao (eAx (eVx 2) ag))) (eAx (eVx 3) (eAx (au (eAx ao ag)) (eAx (eVx 4) (eAx (l5 (ePC (eVx 2) (eVx 3) ePN) (by rfl) (by rfl) (by simp) (by decide)) ag)))))))) (aU (bx eBl)) cz) (aG (eSx bJ.nd 5 (mZ (eAx (au (eAx (au (eAx ao ag)) (eAx eBl ag))) (eAx (au (eAx (au (eAx ao ag)) (eAx eBl ag))) (eAx (au (eAx (au (eAx ao ag)) (eAx eBl ag))) (eAx (au (eAx (au (eAx ao ag)) (eAx eBl ag))) (eAx (au (eAx (au (eAx ao (eAx (eUy aE) ag))) (eAx eBl ag))) (eAx (au (eAx (au (eAx ao (eA aE ag rfl))) (eAx eBl ag))) (eAx (au (eAx (au (eA ao (eA ao ag rfl) rfl)) (eA eBl ag rfl))) (eAx (au (eA (au (eA ao (eA ao ag rfl) rfl)) (eA eBl ag rfl) rfl)) (eA (au (eA (au (eA ao (eA (au (eA ao ag rfl)) ag rfl) rfl)) (eA eBl ag rfl) rfl)) (eA (au (eA (au (eA ao (eA (au (eA ao ag rfl)) ag rfl) rfl)) (eA eBl ag rfl) rfl)) (eA (au (eA (au (eA ao (eA (au (eA ao (eA ao ag rfl) rfl)) ag rfl) rfl)) (eA eBl ag rfl) rfl)) (eA (au (eA (au (eA ao (eA (au ag) ag rfl) rfl)) (eA eBl ag rfl) rfl)) ag rfl) rfl) rfl) rfl))))))))))) (aG (eFx (eIL (eVx 5)) (eGT (n:=2) rfl (GQ (i:=6) bJ.nd rfl (Or.inl rfl) (Or.inl rfl) (GQ (i:=7) bJ.nd rfl (Or.inl rfl) (Or.inl rfl) Ho)) rfl rfl) (aU (cA (cD (eUx (eCx G18 hr (T.d 18 rfl) (eAx (eVx 6) (eAx (eVx 7) (eAx (au (eAx ao ag)) (eAx (mZ (eAx (au (eAx ao ag)) (eAx (au (eAx ao (eAx (au ag) ag))) (eAx (au (eAx ao ag)) ag)))) (eAx uL ag)))))))) (aU (bx eBl)) cz))) (aU (bx eBl)))))))))
theorem A9 (T:Txt K mg t) (G14:Az P w K mg base t) (G17:tO P w K mg base t) (G15:oJ P w K mg base t) (G20:m4 P w K mg base t) (G21:wj P w K mg base t) (G22:CP P w K mg base t) (G23:oV P w K mg base t):Ed P w K mg base t :=
 (T.d 24 rfl).ok nQ (bI T) fun hr=>aG (eSx nQ.nd 1 (eCx G14 hr (T.d 14 rfl) (eAx (eVx 0) ag))) (aG (eSx nQ.nd 2 (eCx G17 hr (T.d 17 rfl) (eAx (eVx 1) (eAx (eOp aw aE (eCx G15 hr (T.d 15 rfl) (eAx (eVx 1) (eA aE ag rfl)))) ag)))) (aG (cA (eTx (aB hr.units) (eCx G15 hr (T.d 15 rfl) (eAx (eVx 1) (eAx aE ag))) aE) (aU (eSx nQ.nd 2 (mZ ag))) cz) (aG (cA (eW (vh (cD (eUx (eCx G20 hr (T.d 20 rfl) (eAx ao (eAx (eVx 2) (eAx eBl (eAx eBl ag))))))) (lU (cD (eUx (eCx G21 hr (T.d 21 rfl) (eAx ao (eAx (eVx 2) (eAx eBl (eAx eBl ag)))))))))) (aU (bx eBl)) cz) (aG (cA (eW (vh (cD (eUx (eCx G20 hr (T.d 20 rfl) (eAx ao (eAx (eVx 2) (eAx eBl (eAx eBl ag))))))) (lU (cD (eUx (eCx G21 hr (T.d 21 rfl) (eAx ao (eAx (eVx 2) (eAx eBl (eAx eBl ag)))))))))) (aU (bx eBl)) cz) (aG (cA (eW (vh (cD (eUx (eCx G20 hr (T.d 20 rfl) (eAx ao (eAx (eVx 2) (eAx eBl (eAx eBl ag))))))) (lU (cD (eUx (eCx G21 hr (T.d 21 rfl) (eAx ao (eAx (eVx 2) (eAx eBl (eAx eBl ag)))))))))) (aU (bx eBl)) cz) (aU (bx (uj (eCx G22 hr (T.d 22 rfl) (eAx (eVx 2) ag)) (uB (eCx G23 hr (T.d 23 rfl) (eAx (eVx 1) (eAx (eOp aw (eVx 2) (mZ (eAx ao ag))) ag))))))))))))
end
theorem BV {P:Program} {w:World} {K:Fg} {mg:Str->Option Value} {base:Heap} {t:Adr} (T:Txt K mg t):bK P w K mg base CX0 17 (t.f 24).1 (t.f 24).2 ["_law_script"] (qg K):=by
 have h0:=BQ (P:=P) (w:=w) (base:=base) T;have h1:=yk (P:=P) (w:=w) (base:=base) T;have h2:=vv (P:=P) (w:=w) (base:=base) T h1;have h3:=mf (P:=P) (w:=w) (base:=base) T;have h4:=mE (P:=P) (w:=w) (base:=base) T;have h5:=m7 (P:=P) (w:=w) (base:=base) T h4;have h6:=o7 (P:=P) (w:=w) (base:=base) T;have h7:=jj (P:=P) (w:=w) (base:=base) T h6;have h8:=mz (P:=P) (w:=w) (base:=base) T;have h9:=jZ (P:=P) (w:=w) (base:=base) T h6 h7 h8;have m_shows:∀ n,bK P w K mg base CX0 (4+4*n) (t.f 13).1 (t.f 13).2 ["web", "form", "node", "verdict", "reason", "rests"] (gX K n):=by
  intro n;induction n with
  | zero=>exact (xc T).mono (by omega)
  | succ n h16 =>
   have h10:=fA (n:=n) T h16;have h11:=eK (n:=n) T h3 h5 h10;have h12:=gA (n:=n) T h5 h10;have h13:=fE (n:=n) T h3 h5 h16;have h14:=eO (n:=n) T h3 h10;have h15:=dt (n:=n) T h11 h3 h12 h14 h13;exact (u6 (n:=n) T h3 h16 h15 h9).mono (by omega)
 have h16:=m_shows 2;have h10:=fA (n:=2) T h16;have h11:=eK (n:=2) T h3 h5 h10;have h12:=gA (n:=2) T h5 h10;have h13:=fE (n:=2) T h3 h5 h16;have h14:=eO (n:=2) T h3 h10;have h15:=dt (n:=2) T h11 h3 h12 h14 h13;have h23:=xV (P:=P) (w:=w) (base:=base) T h16;have h24:=Bp (P:=P) (w:=w) (base:=base) T h23;have h25:=uE (P:=P) (w:=w) (base:=base) T h24;have h26:=sW (P:=P) (w:=w) (base:=base) T;have h27:=xQ (P:=P) (w:=w) (base:=base) T h26 h24 h23;have h28:=Bd (P:=P) (w:=w) (base:=base) T h26 h24 h25;have h29:=qA (P:=P) (w:=w) (base:=base) T h1 h24;have h30:=A9 (P:=P) (w:=w) (base:=base) T h0 h2 h1 h25 h27 h28 h29;exact h30
theorem AY {K:Fg} {h:Heap} {mg:Str->Option Value} (X:K.In h) (G:h.Ns mainGlobals mg) (D:zu K mg dfs)
  {f_told:Addr} {oc_told:Value} {od_told:Option Addr} {fd_told:FuncData} {sl_told:Array (Option Value)} (n_told:PySem.W.nsIn K mainGlobals "_law_told" = some (some (.ref f_told))) (l_told:K.lookup f_told=some ⟨oc_told,od_told,.func fd_told,sl_told⟩) (c_told:fd_told.code=.ref 247)
  (z_abs:PySem.W.nsIn K mainGlobals "abs" = some none)
  (z_all:PySem.W.nsIn K mainGlobals "all" = some none)
  (z_bool:PySem.W.nsIn K mainGlobals "bool" = some none)
  (z_dict:PySem.W.nsIn K mainGlobals "dict" = some none)
  (z_int:PySem.W.nsIn K mainGlobals "int" = some none)
  (z_isinstance:PySem.W.nsIn K mainGlobals "isinstance" = some none)
  (z_len:PySem.W.nsIn K mainGlobals "len" = some none)
  (z_list:PySem.W.nsIn K mainGlobals "list" = some none)
  (z_range:PySem.W.nsIn K mainGlobals "range" = some none)
  (z_set:PySem.W.nsIn K mainGlobals "set" = some none)
  (z_sorted:PySem.W.nsIn K mainGlobals "sorted" = some none)
  (z_str:PySem.W.nsIn K mainGlobals "str" = some none)
  (z_tuple:PySem.W.nsIn K mainGlobals "tuple" = some none)
  (z_zip:PySem.W.nsIn K mainGlobals "zip" = some none)
  {ca_KINDS:Addr} (g_KINDS:PySem.W.nsIn K mainGlobals "KINDS" = some (some (.ref ca_KINDS)))
  {od_KINDS:Option Addr} {sl_KINDS:Array (Option Value)} {nn_KINDS:Nat} {tt_KINDS_0:Tok} {tt_KINDS_1:Tok} {tt_KINDS_2:Tok} (s_KINDS:K.lookup ca_KINDS=some ⟨.type "tuple", od_KINDS,.seq #[.str "number" tt_KINDS_0,.str "said" tt_KINDS_1,.str "thing" tt_KINDS_2] nn_KINDS,sl_KINDS⟩)
  {ca_LISTS:Addr} (g_LISTS:PySem.W.nsIn K mainGlobals "LISTS" = some (some (.ref ca_LISTS)))
  {od_LISTS:Option Addr} {sl_LISTS:Array (Option Value)} {nn_LISTS:Nat} {tt_LISTS_0:Tok} {tt_LISTS_1:Tok} {tt_LISTS_2:Tok} {tt_LISTS_3:Tok} (s_LISTS:K.lookup ca_LISTS=some ⟨.type "tuple", od_LISTS,.seq #[.str "all" tt_LISTS_0,.str "some" tt_LISTS_1,.str "one" tt_LISTS_2,.str "none" tt_LISTS_3] nn_LISTS,sl_LISTS⟩)
  : ∃ t:Adr,(∀ (s:Shared) (u:Value),BindsTo s (t.f 24).2 ⟨[u],[]⟩ [("_law_script", u)])/\Txt K mg t:=by
 obtain ⟨f,hf⟩:=Hg D
 exact ⟨⟨f,ca_KINDS,ca_LISTS⟩,fun s u=>.of_eq ((hf 24 rfl).c [u] rfl),⟨hf,
  (hf 16 rfl).code X G n_told l_told c_told,
  Je X G z_abs,
  Je X G z_all,
  Je X G z_bool,
  Je X G z_dict,
  Je X G z_int,
  Je X G z_isinstance,
  Je X G z_len,
  Je X G z_list,
  Je X G z_range,
  Je X G z_set,
  Je X G z_sorted,
  Je X G z_str,
  Je X G z_tuple,
  Je X G z_zip,
  PySem.W.mg_of X G g_KINDS,
  PySem.W.mg_of X G g_LISTS,
  fun H=>Or.inr ⟨_,_,_,s_KINDS,rfl,rfl,(by show 3<=sizeLine;decide),(.cons ⟨_,rfl⟩ (.cons ⟨_,rfl⟩ (.cons ⟨_,rfl⟩ .nil)))⟩,
  fun H=>Or.inr ⟨_,_,_,s_LISTS,rfl,rfl,(by show 4<=sizeLine;decide),(.cons ⟨_,rfl⟩ (.cons ⟨_,rfl⟩ (.cons ⟨_,rfl⟩ (.cons ⟨_,rfl⟩ .nil))))⟩⟩⟩
local macro_rules | `(tactic| walk_at "e")=>`(tactic| (case e9=>exact rfl))
local macro_rules | `(tactic| walk_at "p")=>`(tactic| first | with_reducible refine Bn ?_ | walk_at "p0")
local macro_rules | `(tactic| walk_at "p0")=>`(tactic| first
 | (with_reducible first | refine Ay ?_ | refine Ck ?_ | refine Cv ?_ | refine A2 ?_ | refine Bx ?_ | refine E6 ?_ | refine B6 ?_ | refine Fi ?_ | refine Hv ?_ | refine Fv ?_ | refine Eo ?_ | refine DC ?_ | refine DQ ?_ | refine Et ?_ | refine Ad ?_ | refine D7 ?_)
 | ((with_reducible refine w_var (d:=?d9) ?e9 ?_);walk_at "e") | ((with_reducible refine Bj (d:=?d9) ?e9 ?_);walk_at "e") | ((with_reducible refine CS (d:=?d9) ?e9 ?_);walk_at "e") | ((with_reducible refine CC (d:=?d9) ?e9 ?_);walk_at "e")
 | ((with_reducible refine DF (d:=?d9) ?e9 ?_);walk_at "e") | ((with_reducible refine DX (d:=?d9) ?e9 ?_);walk_at "e") | ((with_reducible refine E8 (d:=?d9) ?e9 ?_);walk_at "e")
 | (with_reducible first | refine Fs ?_ | refine Bu ?_ | refine FI ?_) | ((with_reducible refine DV (d:=?d9) ?e9 ?f9 ?_);walk_at "e"; (case f9=>exact rfl))
 | (with_reducible first | refine AJ ?_ | refine Co ?_ | refine FJ ?_ | refine BJ ?_ | refine Gf ?_ | refine Al ?_ | refine z6 ?_ | refine EF ?_ | refine EX rfl ?_ | refine zI rfl ?_ | refine Ge ?_ | refine Fh ?_ | refine w_and ?_ | refine w_or ?_ | refine w_not ?_ | refine DR ?_ | refine HW ?_ | refine HL ?_ | refine GZ ?_ | refine HE ?_ | refine Hh ?_ | refine Hs ?_ | refine He ?_)
 | walk_at "q")
local macro_rules | `(tactic| walk_at "q0")=>`(tactic| first
 | ((with_reducible refine E2 ?e9 ?_);walk_at "e") | ((with_reducible refine pO ?e9 ?_);walk_at "e")
 | ((show WPr _ _ _ _);refine ⟨_,_,rfl,rfl,?_⟩) | ((show WPr _ _ _ _);(refine ⟨_,_,rfl,Iy ?c9,?_⟩);(case c9=>walk_at "c")) | ((show Df _ _ _ _);refine ⟨_,_,rfl,rfl,?_⟩) | ((show uo _ _ _);refine ⟨_,rfl,?_⟩) | ((show Dw _ _ _ _ _ _ _);refine ⟨_,rfl,rfl,?_⟩) | ((show zx _ _ _ _ _ _);refine ⟨_,_,_,rfl,rfl,rfl,?_⟩) | ((show Du _ _ _ _ _ _);refine ⟨_,rfl,rfl,?_⟩) | ((show Dg _ _ _ _ _);refine ⟨_,_,_,rfl,rfl,rfl,?_⟩) | ((show WMr _ _ _ _ _);refine ⟨_,_,_,_,rfl,rfl,rfl,?_⟩) | ((show WTp _ _ _ _);refine ⟨_,rfl,Nat.le_of_ble_eq_true rfl,?_⟩) | ((show Dh _ _ _ _);refine ⟨_,_,rfl,rfl,?_⟩) | ((show Bh _ _ _ _);refine ⟨_,rfl,rfl,?_⟩) | ((show su _ _ _ _);refine ⟨_,rfl,rfl,?_⟩)
 | ((with_reducible refine ⟨_,rfl,?_⟩)))
local macro_rules | `(tactic| walk_at "pp")=>`(tactic| repeat walk_at "p")
local macro_rules | `(tactic| walk_at "c")=>`(tactic| first | exact rfl | assumption | (simp only [mulC,K9,IV,KS] <;> omega))
local macro_rules | `(tactic| walk_at "pz")=>`(tactic| repeat walk_at "p0")
local macro_rules | `(tactic| walk_at "n=")=>`(tactic| ((try dsimp only [Cst.i,Cst.s,Cst.b,Cst.n,RV.av,ak,List.replicate_succ,List.replicate_zero,da,gG,ax,bH,aM,cO,mR,List.set_cons_zero,List.set_cons_succ,List.getElem?_cons_zero,List.getElem?_cons_succ,List.map_cons,List.map_nil,List.tail_cons,Option.getD_some,decide_true,decide_false,List.drop_succ_cons,List.drop_zero]);exact rfl))
local macro_rules | `(tactic| walk_at "n")=>`(tactic| ((with_reducible first | refine AB (e':=?e9) ?h9 ?_ | refine xm (e':=?e9) ?h9 ?_ | refine zP (e':=?e9) ?h9 ?_ | refine HM (e':=?e9) ?h9 ?_ | refine Hy (e':=?e9) ?h9 ?_ | refine HK (e':=?e9) ?h9 ?_ | refine Hl (e':=?e9) ?h9 ?_ | refine HP (e':=?e9) ?h9 ?_ | refine EK (e':=?e9) ?h9 ?_ | refine yH (e':=?e9) ?h9 ?_ | refine ED (e':=?e9) ?h9 ?_ | refine DS (e':=?e9) ?h9 ?_ | refine ET (e':=?e9) ?h9 ?_ | refine Ae (e':=?e9) ?h9 ?_ | refine zL (e':=?e9) ?h9 ?_ | refine xq (e':=?e9) ?h9 ?_ | refine CJ (e':=?e9) ?h9 ?_ | refine Ao (e':=?e9) ?h9 ?_ | refine Aq (e':=?e9) ?h9 ?_);(case h9=>walk_at "n=")))
local macro_rules | `(tactic| walk_at "soft")=>`(tactic| first | exact Fz | exact EU | exact Fy | assumption)
local macro_rules | `(tactic| walk_at "l")=>`(tactic| (rename_i h9;apply qf.out h9;clear h9;dsimp only [u7];intros))
local macro_rules | `(tactic| walk_at "L1")=>`(tactic| first | exact (rfl:qf [] []) | refine ⟨_,?_,rfl⟩ | ((refine ⟨_,_,?s9,?_,rfl⟩);(case s9=>walk_at "soft")))
local macro_rules | `(tactic| walk_at "L")=>`(tactic| repeat walk_at "L1")
local macro_rules | `(tactic| walk_at "q")=>`(tactic| first | walk_at "q0" | ((show Gj _ _ _ _);refine ⟨_,_,_,rfl,rfl,rfl,?_⟩) | ((show GH _ _ _ _ _);refine ⟨_,_,rfl,rfl,?_⟩) | ((show Bh _ _ _ _);(refine ⟨_,rfl,uH rfl ?s9,?_⟩);(case s9=>walk_at "soft")) | ((show su _ _ _ _);(refine ⟨_,rfl,uH rfl ?s9,?_⟩);(case s9=>walk_at "soft")))
local macro_rules | `(tactic| walk_at "fT1")=>`(tactic| ((refine pN ?f9 ?_);(case f9=>((refine uH rfl ?s9);(case s9=>walk_at "soft")))))
local macro_rules | `(tactic| walk_at "fT")=>`(tactic| ((refine A3 (e2:=?e9) ?h9 ?_);(case h9=>((repeat walk_at "fT1");exact rfl))))
local macro_rules | `(tactic| walk_at "f")=>`(tactic| ((refine FR ?h9 ?_);(case h9=>((refine uH rfl ?s9);(case s9=>walk_at "soft")));walk_at "n"))
local macro_rules | `(tactic| walk_at "ps1")=>`(tactic| ((fail_if_success (with_reducible refine isEq ?_));walk_at "p"))
local macro_rules | `(tactic| walk_at "ps")=>`(tactic| repeat walk_at "ps1")
noncomputable def vU (cs:List Int) (p r:Int):PyData:=.dict [(.str "cells", .list (cs.map .int)),(.str "place", .int p),(.str "rest", .int r)]
theorem HF {cs:List Int} {p:Int} (h:0 < cs.length):∃ c,atI (cs.map PyData.int) (p % (((cs.map PyData.int).length:Nat):Int))=some (.int c):=by
 have hn:(((cs.map PyData.int).length:Nat):Int)=cs.length:=by rw [Ic]
 rw [hn];have hj0:=Int.emod_nonneg p (by omega:(cs.length:Int)≠0);have hj1:=Int.emod_lt_of_pos p (by omega:(0:Int) < cs.length);have hj2:(p % (cs.length:Int)).toNat < cs.length:=by omega
 have ej:p % (cs.length:Int)=(((p % (cs.length:Int)).toNat:Nat):Int):=by omega
 refine ⟨cs[(p % (cs.length:Int)).toNat],?_⟩;have:=eZ (xs:=cs.map PyData.int) (j:=(p % (cs.length:Int)).toNat) (v:=.int cs[(p % (cs.length:Int)).toNat]) (by rw [Ik,Ie hj2];rfl)
 rwa [<- ej] at this
theorem x8 {cs:List Int} {p r m:Int} {Q:PR->List PyData->Prop} (hp:0<=p) (hr:0<=r) (h0:0 < m) (hm:m < 2 ^ 200) (q:∀ v p' r',0<=v->v < m->0<=p'->0<=r'->Q (.dat (.int v)) [vU cs p' r']):WF dG [vU cs p r,.int m] Q:=by
 refine hG rfl ?_;have m0:∀ x:Int,0<=x % m/\x % m < m:=fun x=>⟨Int.emod_nonneg _ (by omega),Int.emod_lt_of_pos _ h0⟩;have d0:∀ x:Int,0<=x->0<=x / m:=fun x h=>Int.ediv_nonneg h (Int.le_of_lt h0);unfold qX;walk_at "pp";refine ig (fun e0=>?_) (fun e0=>?_)
 ·walk_at "pp";exact q _ _ _ (m0 r).1 (m0 r).2 hp (d0 r hr)
 ·walk_at "pp";have fin:∀ c:Int,0<=(if c < 0 then -c else c):=fun c=>by split <;> omega
  refine ig (fun e1=>?_) (fun e1=>?_)
  ·have h1:(0:Int) < (((cs.map PyData.int).length:Nat):Int):=Jc e1;obtain ⟨c,hc⟩:=HF (cs:=cs) (p:=p) (by rw [Ic] at h1;omega);walk_at "pp";refine zl rfl hc ?_;clear hc;walk_at "pp";refine ig (fun e2=>?_) (fun e2=>?_)
   ·walk_at "pp";refine ig (fun e3=>?_) (fun e3=>?_)
    ·walk_at "pp";exact q _ _ _ (m0 _).1 (m0 _).2 (by omega) (d0 _ (fin c))
    ·walk_at "pp";exact q _ _ _ (m0 _).1 (m0 _).2 (by omega) hr
   ·walk_at "pp";exact q _ _ _ (m0 _).1 (m0 _).2 (by omega) hr
  ·walk_at "pp";refine ig (fun e2=>?_) (fun e2=>?_)
   ·walk_at "pp";exact q _ _ _ (m0 _).1 (m0 _).2 (by omega) hr
   ·walk_at "pp";exact q _ _ _ (m0 _).1 (m0 _).2 (by omega) hr
theorem zO {ns:List Int} {Q:PR->List PyData->Prop} (q:Q (.frs (vU (ns.take 63) 0 0)) []):WF nH [.list (ns.map .int)] Q:=by
 refine ⟨.frs (vU (ns.take 63) 0 0),[],?_,q⟩;have:nH.F [.list (ns.map .int)]=some (.frs (.dict [(.str "cells", .list (cutD (ns.map .int) none (some 63))),(.str "place", .int 0),(.str "rest", .int 0)]),[]):=rfl;rw [this,kP (by decide),<-List.map_take];rfl
def lN (cs:List Int) (d:PyData):Prop:=∃ p l:Int,d=vU cs p l/\0<=p/\0<=l
theorem Fl {cs:List Int} {pn:PyData} {m:Int} {e1:En} {Q:RV->En->Prop} {i:Nat} (hi:aR e1 i=some pn) (hP:lN cs pn) (h0:0 < m) (hm:m < 2 ^ 200) (q:∀ v pn',lN cs pn'->0<=v->v < m->Q (.dat (.int v)) (gG e1 i pn')):pT dG [.bor i,.dat (.int m)] e1 Q:=by
 obtain ⟨p,l,rfl,hp,hl⟩:=hP;refine ah (ds:=[vU cs p l,.int m]) (is:=[i]) ?_ rfl (x8 hp hl h0 hm fun v p' l' a b c d=>⟨?_,q v _ ⟨p',l',rfl,c,d⟩ a b⟩)
 ·show jw e1 [.ino,.dat] _=_;simp only [jw,Fm,hi]
 ·rfl
def Ltr (x:Str):Prop:=∀ c∈x.cps.toList,97<=c/\c<=122
abbrev abc:Str := "abcdefghijklmnopqrstuvwxyz"
theorem rZ (x y:Str):(x++y).length=x.length+y.length:=iJ x y
theorem kU (x y:Str):(x++y).cps.toList=x.cps.toList++y.cps.toList:=by
 show (x.cps++y.cps).toList=_;simp
theorem mV (c:Nat):(⟨#[c]⟩:Str).length=1:=rfl
theorem xS {x y:Str} (hx:Ltr x) (hy:Ltr y):Ltr (x++y):=fun c hc=>by
 rw [kU] at hc;rcases IL.mp hc with h | h
 ·exact hx c h
 ·exact hy c h
theorem AE:∀ n < 26,abc.cps.toList[n]?=some (97+n):=by decide +kernel
theorem AF {r:Int} (h0:0<=r) (h1:r < 26):atI abc.cps.toList r=some (97+r.toNat):=by
 have:=eZ (xs:=abc.cps.toList) (j:=r.toNat) (AE r.toNat (by omega))
 rwa [JU h0] at this
theorem Hz {r:Int} (h0:0<=r) (h1:r < 26):Ltr ⟨#[97+r.toNat]⟩:=fun c hc=>by
 have:c=97+r.toNat:=by simpa using hc
 omega
def Stp (i:Int):Prop:=i=1\/i=3\/i=5\/i=7\/i=9\/i=11\/i=15\/i=17\/i=19\/i=21\/i=23\/i=25
theorem y9 {st sp:Int} {i j:Nat} (h:Stp sp) (hi:i < 26) (hj:j < 26) (e:(st+sp*i) % 26=(st+sp*j) % 26):i=j:=by
 unfold Stp at h;rcases h with rfl | rfl | rfl | rfl | rfl | rfl | rfl | rfl | rfl | rfl | rfl | rfl <;> omega
def NmK (S:Nat) (st sp:Int) (k:Nat) (x:Str):Prop:=Ltr x/\x.length<=8/\S < x.length/\x.cps.toList[S]?=some (97+((st+sp*k) % 26).toNat)
theorem ri {S:Nat} {st sp:Int} {xs:List Str} (hs:Stp sp) (hl:xs.length<=26) (h:∀ k x,xs[k]?=some x->NmK S st sp k x):xs.Nodup:=by
 refine List.pairwise_iff_getElem.mpr fun i j hi hj hij e=>?_;have a:=(h i _ (Ie hi)).2.2.2;have b:=(h j _ (Ie hj)).2.2.2;rw [e,b] at a;injection a with a;have:=y9 (i:=i) (j:=j) (st:=st) hs (by omega) (by omega) (by omega);omega
local macro_rules | `(tactic| walk_at "d")=>`(tactic| ((repeat walk_at "p");(refine Fl (cs:=?c9) (pn:=?n9) (m:=?m9) (hi:=?hi9) (hP:=?hP9) ?h09 ?hm9 ?_);(case hi9=>exact rfl);(case hP9=>assumption);(case h09=>first | decide | omega);(case hm9=>first | decide | omega)))
theorem xD (n:Nat):Ltr (pQ (Str.ofString "x") n):=fun c hc=>by
 have hc:c∈(List.replicate n (Str.ofString "x").cps.toList).flatten:=hc;obtain ⟨l,hl,hc⟩:=List.mem_flatten.mp hc;rw [Ka hl] at hc;have e:(Str.ofString "x").cps.toList=[120]:=by decide
 rw [e,Ii] at hc;omega
theorem eqI (a b:Int):PyData.eqv (.int a) (.int b)=decide (a=b):=by simp [PyData.eqv];rfl
theorem vI {cs:List Int} {pn:PyData} {m:Int} {Q:PR->List PyData->Prop} (hP:lN cs pn) (h0:0<=m) (hm:m<=8) (q:∀ (xs:List Str) pn',lN cs pn'->(xs.length:Int)=m->xs.Nodup->Q (.frs (.list (xs.map .str))) [pn']):WF kf [pn,.int m] Q:=by
 refine hG rfl ?_;unfold oz;walk_at "d";intro bg pn1 hP1 a0 a1;walk_at "n";walk_at "pp";refine ⟨⟨by omega,by omega⟩,?_⟩;refine rG (fun i ys ec=>∃ (xs:List Str) (pn':PyData),ys=xs.map .str/\xs.length=i/\(∀ k x,xs[k]?=some x->NmK 0 bg 7 k x)/\lN cs pn'/\ec=[.dat (.str abc),.ino pn',.dat (.int bg)]) ⟨[],pn1,rfl,rfl,fun k x h=>by simp at h,hP1,rfl⟩ ?_ ?_
 ·rintro i d ys ec hd ⟨xs,pn',rfl,hl,hx,hP',rfl⟩;obtain ⟨rfl,hi⟩:=jX hd;refine cf ?_;walk_at "pp";refine FU rfl (AF (r:=(bg+7*i) % 26) (by omega) (by omega)) ?_;walk_at "d";intro v pn2 hP2 b0 b1;walk_at "n";walk_at "pp";refine BS rfl b0 (by omega) (by decide) ?_;have lm:=oq (Str.ofString "x") v.toNat;rw [show (Str.ofString "x").length=1 from by decide,Nat.mul_one] at lm;walk_at "pp";refine wI rfl (by rw [mV,lm];show _<=2 ^ 24;omega) ?_;refine ⟨_,rfl,xs++[⟨#[97+((bg+7*i) % 26).toNat]⟩++pQ (Str.ofString "x") v.toNat],pn2,by rw [Jx];rfl,by rw [Io,hl];rfl,fun k x h=>?_,hP2,rfl⟩;rcases Kj k xs.length with z | z
  ·rw [IZ z] at h;exact hx k x h
  ·rw [Iu z] at h;have hk:k - xs.length=0:=by
    rcases Nat.eq_zero_or_pos (k - xs.length) with y | y
    ·exact y
    ·rw [La (by simp;omega)] at h;cases h
   rw [hk] at h;have hk2:k=i:=by omega
   subst hk2;cases h;refine ⟨xS (Hz (by omega) (by omega)) (xD _),by rw [rZ,mV,lm];omega,by rw [rZ,mV];omega,by rw [kU];rfl⟩
 rintro ys ec ⟨xs,pn',rfl,hl,hx,hP',rfl⟩;rw [Ic,JR] at hl;walk_at "pp";exact q xs pn' hP' (by omega) (ri (S:=0) (st:=bg) (sp:=7) (.inr (.inr (.inr (.inl rfl)))) (by omega) hx)
theorem vA {d:PyData} {Q:PR->List PyData->Prop} (q:Q (.dat (.bool (match d with | .int _=>true | _=>false))) []):WF eY [d] Q:=by
 refine hG rfl ?_;unfold iQ;cases d <;> (walk_at "pp"; exact q)
noncomputable def hdB (r:PyData) (w:Str) (n:Nat):Bool:=match r with | .tuple (x :: xs)=>decide ((x :: xs).length=n)&&PyData.eqv x (.str w) | _=>false
theorem F7 {e:En} {x y:AV} {a:PyData} {w:Str} {Q:RV->En->Prop} (h1:aF e [x,y]=some [a,.str w]) (h2:gU a=true) (q:Q (.dat (.bool (PyData.eqv a (.str w)))) e):WPr eqP [x,y] e Q:=w_eq h1 h2 rfl q
def RO (r:PyData):Prop:=noD r=true/\r.depth<=20
theorem dU {r:PyData} {w:Str} {n:Nat} {Q:PR->List PyData->Prop} (hr:RO r) (hn:0 < n) (q:Q (.dat (.bool (hdB r w n))) []):WF aW [r,.str w,.int n] Q:=by
 refine hG rfl ?_;unfold gB;cases r with
 | tuple ds =>
  cases ds with
  | nil =>
   walk_at "pp";refine ig (fun c=>?_) fun c=>?_
   ·have c:PyData.eqv (.int (([]:List PyData).length:Nat)) (.int n)=true:=c;rw [eqI] at c;have:=Jc c;simp at this;omega
   ·walk_at "pp";exact q
  | cons x xs =>
   have hx:gU x=true:=sJ (by have:=hr.1;simp [noD,gb] at this;exact this.1) (by have:=hr.2;simp [PyData.depth,PyData.depthAll] at this;omega);walk_at "pp";refine ig (fun c=>?_) fun c=>?_
   ·have c:PyData.eqv (.int ((x :: xs).length:Nat)) (.int n)=true:=c;rw [eqI] at c;have e:(x :: xs).length=n:=by have:=Jc c;omega
    walk_at "pp";refine p5 rfl at0 ?_;walk_at "ps";refine F7 rfl hx ?_;dsimp only [hdB] at q;rw [Jh e,IW] at q;walk_at "pp";exact q
   ·have c:PyData.eqv (.int ((x :: xs).length:Nat)) (.int n)=false:=c;rw [eqI] at c;have e:¬(x :: xs).length=n:=by have:=of_decide_eq_false c;omega
    dsimp only [hdB] at q;rw [IX e,II] at q;walk_at "pp";exact q
 | _=>walk_at "pp"; exact q
noncomputable def plB (d:PyData) (m:Nat):Bool:=match d with | .int i=>decide (0<=i)&&decide (i < m) | _=>false
theorem gP {d:PyData} {fs:List PyData} {Q:PR->List PyData->Prop} (q:Q (.dat (.bool (plB d fs.length))) []):WF bC [d,.tuple fs] Q:=by
 refine hG rfl ?_;unfold iP;walk_at "pp";refine ah (ds:=[d]) (is:=[]) rfl rfl (vA ⟨rfl,?_⟩);cases d with
 | int i =>
  dsimp only [plB] at q;walk_at "pp";refine ig (fun c=>?_) fun c=>?_
  ·rw [show decide (0<=i)=true from c,IW] at q;walk_at "pp";exact q
  ·rw [show decide (0<=i)=false from c,II] at q;walk_at "pp";exact q
 | _=>walk_at "pp"; exact q
abbrev Cl:=List (Str×Bool)
abbrev CD (c:Cl):PyData:=.dict (c.map fun p=>(PyData.str p.1,PyData.bool p.2))
noncomputable def gtB (c:Cl) (nm:Str) (v:Bool):Bool:=match c.find? (fun p=>decide (p.1=nm)) with | some p=>p.2 | none=>v
noncomputable def rst (c:Cl) (nm:Str) (v:Bool):Bool:=PyData.eqv (.bool (gtB c nm v)) (.bool v)
theorem tT (c:Cl) (nm:Str) (v:Bool):(L2.getD (c.map fun p=>(PyData.str p.1,PyData.bool p.2)) (.str nm)).getD (.bool v)=.bool (gtB c nm v):=by
 unfold L2.getD gtB;rw [List.find?_map];have e:(fun kv:PyData×PyData=>PyData.eqv kv.1 (.str nm))∘(fun p:Str×Bool=>(PyData.str p.1,PyData.bool p.2))=fun p=>decide (p.1=nm):=by
  funext p;exact e8
 rw [e];cases c.find? (fun p=>decide (p.1=nm)) <;> rfl
theorem DP {c:Cl} {nm:Str} {v:Bool} {Q:PR->List PyData->Prop} (q:Q (.dat (.bool (rst c nm v))) []):WF Bk [fnD (CD c),.str "a", .str nm,.bool v] Q:=by
 have h:WF (c8 gds (nu 4) 4 (.ret rq)) [.str "a", .str nm,.bool v,CD c] fun pr outs=>pr=.dat (.bool (rst c nm v))/\outs=[]:=by
  refine hG rfl ?_;unfold rq;walk_at "pp";rw [tT];walk_at "pp";exact ⟨rfl,rfl⟩
 obtain ⟨pr,outs,hF,rfl,rfl⟩:=h;refine ⟨.dat (.bool (rst c nm v)),[],?_,q⟩;show bl1 ((c8 gds (nu 4) 4 (.ret rq)).F [.str "a", .str nm,.bool v,CD c])=_;rw [hF];rfl
abbrev clm:PyData:=.tuple [.str "claim"]
abbrev pln:PyData:=.tuple [.str "plain"]
abbrev kpF (nm:Str):PyData:=.tuple [.str "keeps", .str nm]
abbrev WEB:PyData:=.tuple [.tuple [.str "a", .str "to", .str "b"]]
noncomputable def kpB (c:Cl) (nm:Str) (v:Bool) (r:PyData):Bool:=PyData.eqv r clm&&rst c nm v
def xo (n:Nat) (f:PyData) (v:Bool) (r:PyData) (c:Cl) (b:Bool):Prop:=∀ {Q:PR->List PyData->Prop},Q (.dat (.bool b)) []->WF (ay n) [WEB,f,.str "a", .bool v,r,fnD (CD c)] Q
theorem RO.ok {r:PyData} (h:RO r):gU r=true:=sJ h.1 (IM h.2 (by decide))
theorem CN {e:En} {x y:AV} {a:PyData} {w:Str} {Q:RV->En->Prop} (h1:aF e [x,y]=some [a,.tuple [.str w]]) (h2:gU a=true) (q:Q (.dat (.bool (PyData.eqv a (.tuple [.str w])))) e):WPr eqP [x,y] e Q:=w_eq h1 h2 rfl q
theorem eh {n:Nat} {nm:Str} {v:Bool} {r:PyData} {c:Cl} (hr:RO r):xo (n+1) (kpF nm) v r c (kpB c nm v r):=by
 intro Q q;refine hG rfl ?_;unfold fk;walk_at "pp";refine CN rfl hr.ok ?_;unfold kpB at q;refine ⟨_,rfl,?_⟩;refine ig (fun e=>?_) fun e=>?_
 ·rw [show PyData.eqv r clm=true from e,IW] at q;walk_at "pp";refine ah (ds:=[fnD (CD c),.str "a", .str nm,.bool v]) (is:=[]) rfl rfl (DP ⟨rfl,?_⟩);walk_at "pp";exact q
 ·rw [show PyData.eqv r clm=false from e,II] at q;walk_at "pp";exact q
section
variable {α:Type} {st:PyData->En->Option (Option PyData×En)} {js:List Nat} {lk:Option Nat} {e1:En} {Q:RV->En->Prop}
theorem yA (xs:List α) (enc:α->PyData) (p:α->Bool) (g:α->PyData)
  (hs:∀ x∈xs,nv st (enc x) (cO e1 lk js) fun y e=>(y=if p x=true then some (g x) else none)/\e=cO e1 lk js) (hq:Q (.frs (.list ((xs.filter p).map g))) e1) (hb:aM e1 js (cO e1 lk js)=e1:=by exact rfl):AW st js (xs.map enc) lk e1 Q:=by
 refine rG (fun i ys ec=>ys=((xs.take i).filter p).map g/\ec=cO e1 lk js) ⟨rfl,rfl⟩ ?_ ?_
 ·rintro i d ys ec hd ⟨rfl,rfl⟩;rw [Ik] at hd;obtain ⟨x,hx,rfl⟩:=IK.mp hd;obtain ⟨y,e,h1,rfl,rfl⟩:=hs x (IF hx);refine ⟨_,_,h1,?_,rfl⟩;rw [<- take_snoc hx,List.filter_append,Jx];cases z:p x <;> simp [z]
 ·rintro ys ec ⟨rfl,rfl⟩;rw [Ic,List.take_length,hb];exact hq
theorem bu (xs:List α) (enc:α->PyData) (g:α->PyData)
  (hs:∀ x∈xs,nv st (enc x) (cO e1 lk js) fun y e=>y=some (g x)/\e=cO e1 lk js) (hq:Q (.frs (.list (xs.map g))) e1) (hb:aM e1 js (cO e1 lk js)=e1:=by exact rfl):AW st js (xs.map enc) lk e1 Q :=
 yA xs enc (fun _=>true) g (fun x hx=>by obtain ⟨y,e,h1,rfl,rfl⟩:=hs x hx;exact ⟨_,_,h1,rfl,rfl⟩) (by rw [List.filter_eq_self.mpr fun _ _=>rfl];exact hq) hb
end
theorem CA {α:Type} {e:En} {x:AV} {xs:List α} {b:α->Bool} {Q:RV->En->Prop} (h1:aF e [x]=some [.list (xs.map fun y=>.bool (b y))]) (q:Q (.dat (.bool (xs.all b))) e):WPr zt [x] e Q :=
 w_all (bs:=xs.map b) (by rw [Jl];exact h1) (by rw [List.all_map];exact q)
theorem nf {b:Bool} (h:(!b)=false):b=true:=by cases b;cases h;rfl
theorem nt {b:Bool} (h:(!b)=true):b=false:=by cases b;rfl;cases h
noncomputable def at1 (r:PyData):PyData:=match r with | .tuple (_ :: y :: _)=>y | _=>.none
noncomputable def ntB (c:Cl) (nm:Str) (v:Bool) (r:PyData):Bool:=hdB r "turn" 2&&kpB c nm (!v) (at1 r)
theorem hd2 {r:PyData} {w:Str} (h:hdB r w 2=true):∃ x y,r=.tuple [x,y]:=by
 unfold hdB at h;split at h
 ·rename_i x xs;have:=Jc (J5.mp h).1
  match xs,this with
  | [y],_=>exact ⟨x,y,rfl⟩
  | [],h=>simp at h
  | _ :: _ :: _,h=>simp at h
 ·cases h
theorem mY {d:PyData}:∀ {ds:List PyData},d∈ds->d.depth<=PyData.depthAll ds
 | x :: xs,h=>by
  simp only [PyData.depthAll];rcases Iq.mp h with rfl | h
  ·omega
  ·have:=mY h;omega
theorem RO.sub {ds:List PyData} (h:RO (.tuple ds)) {d:PyData} (hd:d∈ds):RO d:=by
 have h1:gb ds=true:=h.1;refine ⟨d7.mp h1 d hd,?_⟩;have h2:=h.2;have:=mY hd;simp only [PyData.depth] at h2;omega
theorem vt {n:Nat} {nm:Str} {v:Bool} {r:PyData} {c:Cl} (hr:RO r):xo (n+1+1) (.tuple [.str "not", kpF nm]) v r c (ntB c nm v r):=by
 intro Q q;refine hG rfl ?_;unfold fk;walk_at "pp";refine ah (ds:=[r,.str "turn", .int 2]) (is:=[]) rfl rfl (dU (n:=2) hr (by decide) ⟨rfl,?_⟩);walk_at "pp";unfold ntB at q;refine ig (fun e=>?_) fun e=>?_
 ·rw [show hdB r "turn" 2=true from e,IW] at q;obtain ⟨x,y,rfl⟩:=hd2 e;walk_at "pp";refine ah (ds:=[WEB,kpF nm,.str "a", .bool (!v),y,fnD (CD c)]) (is:=[]) rfl rfl (eh (hr.sub (by simp)) ⟨rfl,?_⟩);walk_at "pp";exact q
 ·rw [show hdB r "turn" 2=false from e,II] at q;walk_at "pp";exact q
noncomputable def prB (c:Cl) (l:List (Str×Bool)) (r:PyData):Bool:=match r with | .tuple rs=>decide (rs.length=l.length)&&((l.zip rs).all fun p=>kpB c p.1.1 p.1.2 p.2) | _=>false
abbrev tr3 (p:(Str×Bool)×PyData):PyData:=.tuple [kpF p.1.1,.bool p.1.2,p.2]
theorem oh:∀ {l:List (Str×Bool)} {rs:List PyData},rs.length=l.length->pq (l.map fun p=>kpF p.1) (l.map fun p=>.bool p.2) rs=(l.zip rs).map tr3
 | [],[],_=>rfl
 | p :: l,r :: rs,h=>by
  rw [List.map_cons,List.map_cons,pq,oh (by simpa using h)];rfl
 | [],_ :: _,h=>by simp at h
 | _ :: _,[],h=>by simp at h
theorem nM {n:Nat} {l:List (Str×Bool)} {d r:PyData} {c:Cl} {Q:PR->List PyData->Prop} (hr:RO r) (hl:l.length<=100) (hd:d=.list (l.map fun p=>.bool p.2)\/d=.tuple (l.map fun p=>.bool p.2)) (q:Q (.dat (.bool (prB c l r))) []):WF (a7 (ay (n+1))) [WEB,.tuple (l.map fun p=>kpF p.1),.str "a", d,r,fnD (CD c)] Q:=by
 refine hG rfl ?_;unfold cN;cases r with
 | tuple rs =>
  dsimp only [prB] at q;walk_at "pp";refine ig (fun e=>?_) fun e=>?_
  ·have e:PyData.eqv (.int rs.length) (.int (l.map fun p=>kpF p.1).length)=false:=nt e;rw [eqI,Ic] at e;rw [IX (by have:=of_decide_eq_false e;omega),II] at q;walk_at "pp";exact q
  ·have e:PyData.eqv (.int rs.length) (.int (l.map fun p=>kpF p.1).length)=true:=nf e;rw [eqI,Ic] at e;have e:rs.length=l.length:=by have:=Jc e;omega
   rw [Jh e,IW] at q;have hz:xw.f [.tuple (l.map fun p=>kpF p.1),d,.tuple rs]=some (.frs (.list ((l.zip rs).map tr3))):=by
    rw [<- oh e];have c3:(l.map fun p=>kpF p.1).length<=1000/\(l.map fun p=>PyData.bool p.2).length=(l.map fun p=>kpF p.1).length/\rs.length=(l.map fun p=>kpF p.1).length:=by
     rw [Ic,Ic];exact ⟨by omega,rfl,e⟩
    rcases hd with rfl | rfl <;> exact Iy c3
   walk_at "pp";refine ⟨_,_,rfl,hz,?_⟩;walk_at "pp";refine fN rfl (bu (l.zip rs) tr3 (fun p=>.bool (kpB c p.1.1 p.1.2 p.2)) (fun p hp=>?_) ?_)
   ·refine yE rfl ?_;walk_at "pp";refine ah (ds:=[WEB,kpF p.1.1,.str "a", .bool p.1.2,p.2,fnD (CD c)]) (is:=[]) rfl rfl (eh (hr.sub (Kx hp).2) ⟨rfl,?_⟩);exact ⟨_,rfl,rfl,rfl⟩
   ·walk_at "pp";refine CA rfl ?_;walk_at "pp";exact q
 | _=>walk_at "pp"; exact q
noncomputable def at2 (r:PyData):PyData:=match r with | .tuple (_ :: _ :: y :: _)=>y | _=>.none
theorem hd3 {r:PyData} {w:Str} (h:hdB r w 3=true):∃ x y z,r=.tuple [x,y,z]:=by
 unfold hdB at h;split at h
 ·rename_i x xs;have:=Jc (J5.mp h).1
  match xs,this with
  | [y,z],_=>exact ⟨x,y,z,rfl⟩
  | [],h=>simp at h
  | [_],h=>simp at h
  | _ :: _ :: _ :: _,h=>simp at h
 ·cases h
theorem kz {d:PyData} {m:Nat} (h:plB d m=true):∃ i:Nat,d=.int i/\i < m:=by
 unfold plB at h;split at h
 ·rename_i i;obtain ⟨h1,h2⟩:=J5.mp h;have h1:=Jc h1;have h2:=Jc h2;exact ⟨i.toNat,by rw [JU h1],by omega⟩
 ·cases h
section
variable {n:Nat} {ns:List Str} {v:Bool} {r:PyData} {c:Cl} {Q:PR->List PyData->Prop}
noncomputable def cE (c:Cl) (ns:List Str) (v:Bool) (r:PyData):Bool:=hdB r "every" 2&&prB c (ns.map fun x=>(x,v)) (at1 r)
theorem kN (hr:RO r) (hl:ns.length<=100) (q:Q (.dat (.bool (cE c ns v r))) []):WF (cj (ay (n+1))) [WEB,.tuple (ns.map kpF),.str "a", .bool v,r,fnD (CD c)] Q:=by
 refine hG rfl ?_;unfold cp;walk_at "pp";refine ah (ds:=[r,.str "every", .int 2]) (is:=[]) rfl rfl (dU (n:=2) hr (by decide) ⟨rfl,?_⟩);walk_at "pp";unfold cE at q;refine ig (fun e=>?_) fun e=>?_
 ·rw [nt e,II] at q;walk_at "pp";exact q
 ·have e:=nf e;rw [e,IW] at q;obtain ⟨x,y,rfl⟩:=hd2 e;walk_at "pp";refine bu ns kpF (fun _=>.bool v) (fun p hp=>?_) ?_
  ·refine cf ?_;walk_at "pp";exact ⟨rfl,rfl⟩
  ·walk_at "pp";refine ah (ds:=[WEB,.tuple (ns.map kpF),.str "a", .list (ns.map fun _=>.bool v),y,fnD (CD c)]) (is:=[]) rfl rfl ?_;have e1:ns.map kpF=(ns.map fun x=>(x,v)).map fun p=>kpF p.1:=by rw [Jl];rfl
   have e2:(ns.map fun _=>PyData.bool v)=(ns.map fun x=>(x,v)).map fun p=>.bool p.2:=by rw [Jl];rfl
   rw [e1,e2];refine nM (n:=n) (hr.sub (by simp)) (by rw [Ic];exact hl) (.inl rfl) ⟨rfl,?_⟩;walk_at "pp";exact q
noncomputable def jc (c:Cl) (ns:List Str) (v:Bool) (r:PyData):Bool:=hdB r "part" 3&&(plB (at1 r) ns.length&&kpB c (match at1 r with | .int i=>ns.getD i.toNat "" | _ => "") v (at2 r))
theorem qi (hr:RO r) (q:Q (.dat (.bool (jc c ns v r))) []):WF (cM (ay (n+1))) [WEB,.tuple (ns.map kpF),.str "a", .bool v,r,fnD (CD c)] Q:=by
 refine hG rfl ?_;unfold cT;walk_at "pp";refine ah (ds:=[r,.str "part", .int 3]) (is:=[]) rfl rfl (dU (n:=3) hr (by decide) ⟨rfl,?_⟩);walk_at "pp";unfold jc at q;refine ig (fun e=>?_) fun e=>?_
 ·rw [nt e,II] at q;walk_at "pp";exact q
 ·have e:=nf e;rw [e,IW] at q;obtain ⟨x,y,z,rfl⟩:=hd3 e;walk_at "pp";refine ah (ds:=[y,.tuple (ns.map kpF)]) (is:=[]) rfl rfl (gP ⟨rfl,?_⟩);rw [Ic];walk_at "pp";refine ig (fun e2=>?_) fun e2=>?_
  ·rw [show plB (at1 (.tuple [x,y,z])) ns.length=false from nt e2,II] at q;walk_at "pp";exact q
  ·have e2:=nf e2;rw [show plB (at1 (.tuple [x,y,z])) ns.length=true from e2,IW] at q;obtain ⟨i,rfl,hi⟩:=kz e2;have ei:atI (ns.map kpF) (i:Int)=some (kpF (ns.getD i "")):=eZ (by rw [Ik,JL,Ie hi];rfl);walk_at "pp";refine p5 rfl ei ?_;walk_at "pp";refine ah (ds:=[WEB,kpF (ns.getD i ""),.str "a", .bool v,z,fnD (CD c)]) (is:=[]) rfl rfl (eh (hr.sub (by simp)) ⟨rfl,?_⟩);walk_at "pp";exact q
end
theorem kA {m:Nat}:∀ {ds:List PyData},(∀ d∈ds,d.depth<=m)->PyData.depthAll ds<=m
 | [],_=>by simp [PyData.depthAll]
 | x :: xs,h=>by
  simp only [PyData.depthAll];have:=h x (by simp);have:=kA (ds:=xs) fun d hd=>h d (by simp [hd]);omega
theorem RO.cut {ds es:List PyData} (h:RO (.tuple ds)) (hs:∀ d∈es,d∈ds):RO (.tuple es):=by
 have h1:gb ds=true:=h.1;refine ⟨d7.mpr fun d hd=>d7.mp h1 d (hs d hd),?_⟩;have h2:=h.2;simp only [PyData.depth] at h2 ⊢;have:=kA (m:=PyData.depthAll ds) fun d hd=>mY (hs d hd);omega
noncomputable def iOf (d:PyData):Int:=match d with | .int i=>i | _=>0
section
variable {n:Nat} {ns:List Str} {v:Bool} {r:PyData} {c:Cl} {Q:PR->List PyData->Prop}
theorem wg {bs:List Bool} {d:PyData} (hr:RO r) (hl:ns.length<=100) (hb:bs.length=ns.length) (hd:d=.list (bs.map .bool)\/d=.tuple (bs.map .bool)) (q:Q (.dat (.bool (prB c (ns.zip bs) r))) []):WF (a7 (ay (n+1))) [WEB,.tuple (ns.map kpF),.str "a", d,r,fnD (CD c)] Q:=by
 have e1:ns.map kpF=(ns.zip bs).map fun p=>kpF p.1:=by
  have:=congrArg (List.map kpF) (List.map_fst_zip (l₁:=ns) (l₂:=bs) (by omega));rw [Jl] at this;exact this.symm
 have e2:bs.map PyData.bool=(ns.zip bs).map fun p=>.bool p.2:=by
  have:=congrArg (List.map PyData.bool) (List.map_snd_zip (l₁:=ns) (l₂:=bs) (by omega));rw [Jl] at this;exact this.symm
 rw [e2] at hd;rw [e1];exact nM hr (by rw [List.length_zip];omega) hd q
noncomputable def isAt (m:Nat) (i:Int):List Bool:=(List.range m).map fun (k:Nat)=>PyData.eqv (.int ((0:Int)+(k:Int))) (.int i)
noncomputable def dq (c:Cl) (ns:List Str) (r:PyData):Bool:=hdB r "alone" 3&&(plB (at1 r) ns.length&&prB c (ns.zip (isAt ns.length (iOf (at1 r)))) (at2 r))
theorem uW (hr:RO r) (hl:ns.length<=100) (q:Q (.dat (.bool (dq c ns r))) []):WF (cg (ay (n+1))) [WEB,.tuple (ns.map kpF),.str "a", r,fnD (CD c)] Q:=by
 refine hG rfl ?_;unfold cu;walk_at "pp";refine ah (ds:=[r,.str "alone", .int 3]) (is:=[]) rfl rfl (dU (n:=3) hr (by decide) ⟨rfl,?_⟩);walk_at "pp";unfold dq at q;refine ig (fun e=>?_) fun e=>?_
 ·rw [nt e,II] at q;walk_at "pp";exact q
 ·have e:=nf e;rw [e,IW] at q;obtain ⟨x,y,z,rfl⟩:=hd3 e;walk_at "pp";refine ah (ds:=[y,.tuple (ns.map kpF)]) (is:=[]) rfl rfl (gP ⟨rfl,?_⟩);rw [Ic];walk_at "pp";refine ig (fun e2=>?_) fun e2=>?_
  ·rw [show plB (at1 (.tuple [x,y,z])) ns.length=false from nt e2,II] at q;walk_at "pp";exact q
  ·have e2:=nf e2;rw [show plB (at1 (.tuple [x,y,z])) ns.length=true from e2,IW] at q;obtain ⟨i,rfl,hi⟩:=kz e2;walk_at "pp";refine ⟨⟨by omega,by rw [Ic];omega⟩,?_⟩;rw [Ic];rw [IS];refine bu (List.range ns.length) (fun (k:Nat)=>.int ((0:Int)+(k:Int))) (fun (k:Nat)=>.bool (PyData.eqv (.int ((0:Int)+(k:Int))) (.int i))) (fun k _=>?_) ?_
   ·refine cf ?_;walk_at "pp";exact ⟨rfl,rfl⟩
   ·have e3:((List.range ns.length).map fun (k:Nat)=>PyData.bool (PyData.eqv (.int ((0:Int)+(k:Int))) (.int i)))=(isAt ns.length i).map .bool:=by
     unfold isAt;rw [Jl];rfl
    rw [e3];walk_at "pp";refine ah (ds:=[WEB,.tuple (ns.map kpF),.str "a", .list ((isAt ns.length i).map .bool),z,fnD (CD c)]) (is:=[]) rfl rfl (wg (n:=n) (hr.sub (by simp)) hl (by simp [isAt]) (.inl rfl) ⟨rfl,?_⟩);walk_at "pp";exact q
theorem hd5 {w:Str} (h:hdB r w 5=true):∃ x y z u t,r=.tuple [x,y,z,u,t]:=by
 unfold hdB at h;split at h
 ·rename_i x xs;have:=Jc (J5.mp h).1
  match xs,this with
  | [y,z,u,t],_=>exact ⟨x,y,z,u,t,rfl⟩
  | [],h=>simp at h
  | [_],h=>simp at h
  | [_,_],h=>simp at h
  | [_,_,_],h=>simp at h
  | _ :: _ :: _ :: _ :: _ :: _,h=>simp at h
 ·cases h
noncomputable def nmA (ns:List Str) (d:PyData):Str:=ns.getD (iOf d).toNat ""
noncomputable def dr3 (r:PyData):PyData:=match r with | .tuple ds=>.tuple (ds.drop 3) | _=>.none
noncomputable def Bb (c:Cl) (ns:List Str) (r:PyData):Bool:=plB (at1 r) ns.length&&(plB (at2 r) ns.length&&(!decide (iOf (at1 r)>=iOf (at2 r))&&prB c [(nmA ns (at1 r),true),(nmA ns (at2 r),true)] (dr3 r)))
theorem BO {x y z u t:PyData} (h:r=.tuple [x,y,z,u,t]) (hr:RO r) (q:Q (.dat (.bool (Bb c ns r))) []):WF (dR (ay (n+1))) [WEB,.tuple (ns.map kpF),.str "a", r,fnD (CD c)] Q:=by
 subst h;refine hG rfl ?_;unfold dQ;unfold Bb at q;walk_at "pp";refine ah (ds:=[y,.tuple (ns.map kpF)]) (is:=[]) rfl rfl (gP ⟨rfl,?_⟩);rw [Ic];walk_at "pp";refine ig (fun e=>?_) fun e=>?_
 ·rw [show plB (at1 (.tuple [x,y,z,u,t])) ns.length=false from nt e,II] at q;walk_at "pp";exact q
 have e:=nf e;rw [show plB (at1 (.tuple [x,y,z,u,t])) ns.length=true from e,IW] at q;obtain ⟨i,rfl,hi⟩:=kz e;walk_at "pp";refine ah (ds:=[z,.tuple (ns.map kpF)]) (is:=[]) rfl rfl (gP ⟨rfl,?_⟩);rw [Ic];walk_at "pp";refine ig (fun e2=>?_) fun e2=>?_
 ·rw [show plB (at2 (.tuple [x,.int i,z,u,t])) ns.length=false from nt e2,II] at q;walk_at "pp";exact q
 have e2:=nf e2;rw [show plB (at2 (.tuple [x,.int i,z,u,t])) ns.length=true from e2,IW] at q;obtain ⟨j,rfl,hj⟩:=kz e2;have ei:∀ k:Nat,k < ns.length->atI (ns.map kpF) (k:Int)=some (kpF (ns.getD k "")):=fun k hk=>eZ (by rw [Ik,JL,Ie hk];rfl);walk_at "pp";refine ig (fun e3=>?_) fun e3=>?_
 ·rw [show decide (iOf (at1 (.tuple [x,.int i,.int j,u,t]))>=iOf (at2 (.tuple [x,.int i,.int j,u,t])))=true from e3,Bool.not_true,II] at q;walk_at "pp";exact q
 rw [show decide (iOf (at1 (.tuple [x,.int i,.int j,u,t]))>=iOf (at2 (.tuple [x,.int i,.int j,u,t])))=false from e3,Bool.not_false,IW] at q;walk_at "pp";refine p5 rfl (ei i hi) ?_;walk_at "pp";refine p5 rfl (ei j hj) ?_;walk_at "pp";refine ah (ds:=[WEB,.tuple ([ns.getD i "", ns.getD j ""].map kpF),.str "a", .tuple ([true,true].map .bool),.tuple [u,t],fnD (CD c)]) (is:=[]) rfl rfl (wg (n:=n) (bs:=[true,true]) ?_ (by simp) rfl (.inr rfl) ⟨rfl,?_⟩)
 ·exact hr.cut (by simp)
 walk_at "pp";exact q
end
inductive Wd | all | some | none | one
noncomputable def Wd.s:Wd->Str | .all => "all" | .some => "some" | .none => "none" | .one => "one"
noncomputable def lsB (c:Cl) (w:Wd) (ns:List Str) (v:Bool) (r:PyData):Bool:=match w,v with
 | .one,true=>dq c ns r
 | .one,false=>if hdB r "two" 5=true then Bb c ns r else cE c ns false r
 | .all,true=>cE c ns true r
 | .all,false=>jc c ns false r
 | .some,false=>cE c ns false r
 | .some,true=>jc c ns true r
 | .none,true=>cE c ns false r
 | .none,false=>jc c ns true r
noncomputable abbrev lsF (w:Wd) (ns:List Str):PyData:=.tuple [.str (Wd.s w),.tuple (ns.map kpF)]
theorem qP {n:Nat} {w:Wd} {ns:List Str} {v:Bool} {r:PyData} {c:Cl} {Q:PR->List PyData->Prop} (hr:RO r) (hl:ns.length<=100) (q:Q (.dat (.bool (lsB c w ns v r))) []):WF (bV (ay (n+1))) [WEB,lsF w ns,.str "a", .bool v,r,fnD (CD c)] Q:=by
 refine hG rfl ?_;unfold bT;cases w <;> cases v <;> walk_at "pp"
 case one.true =>
  refine ah (ds:=[WEB,.tuple (ns.map kpF),.str "a", r,fnD (CD c)]) (is:=[]) rfl rfl (uW (n:=n) hr hl ⟨rfl,?_⟩);walk_at "pp";exact q
 case one.false =>
  refine ah (ds:=[r,.str "two", .int 5]) (is:=[]) rfl rfl (dU (n:=5) hr (by decide) ⟨rfl,?_⟩);walk_at "pp";dsimp only [lsB] at q;refine ig (fun e=>?_) fun e=>?_
  ·rw [Iy e] at q;obtain ⟨x,y,z,u,t,e5⟩:=hd5 e;walk_at "pp";refine ah (ds:=[WEB,.tuple (ns.map kpF),.str "a", r,fnD (CD c)]) (is:=[]) rfl rfl (BO (n:=n) e5 hr ⟨rfl,?_⟩);walk_at "pp";exact q
  ·rw [ID (by rw [show hdB r "two" 5=false from e];decide)] at q;walk_at "pp";refine ah (ds:=[WEB,.tuple (ns.map kpF),.str "a", .bool false,r,fnD (CD c)]) (is:=[]) rfl rfl (kN (n:=n) hr hl ⟨rfl,?_⟩);walk_at "pp";exact q
 all_goals first
  | (refine ah (ds:=[WEB,.tuple (ns.map kpF),.str "a", .bool true,r,fnD (CD c)]) (is:=[]) rfl rfl (kN (n:=n) hr hl ⟨rfl,?_⟩);walk_at "pp"; exact q)
  | (refine ah (ds:=[WEB,.tuple (ns.map kpF),.str "a", .bool false,r,fnD (CD c)]) (is:=[]) rfl rfl (kN (n:=n) hr hl ⟨rfl,?_⟩);walk_at "pp"; exact q)
  | (refine ah (ds:=[WEB,.tuple (ns.map kpF),.str "a", .bool true,r,fnD (CD c)]) (is:=[]) rfl rfl (qi (n:=n) hr ⟨rfl,?_⟩);walk_at "pp"; exact q)
  | (refine ah (ds:=[WEB,.tuple (ns.map kpF),.str "a", .bool false,r,fnD (CD c)]) (is:=[]) rfl rfl (qi (n:=n) hr ⟨rfl,?_⟩);walk_at "pp"; exact q)
theorem dh {n:Nat} {w:Wd} {ns:List Str} {v:Bool} {r:PyData} {c:Cl} (hr:RO r) (hl:ns.length<=100):xo (n+1+1) (lsF w ns) v r c (lsB c w ns v r):=by
 intro Q q;refine hG rfl ?_;unfold fk;cases w <;> (walk_at "pp"; refine ah (ds:=[WEB,lsF _ ns,.str "a", .bool v,r,fnD (CD c)]) (is:=[]) rfl rfl (qP hr hl ⟨rfl,?_⟩);walk_at "pp"; exact q)
theorem fJ {f r:PyData} {v b:Bool} {c:Cl} {Q:PR->List PyData->Prop} (h:xo 2 f v r c b) (q:Q (.dat (.bool b)) []):WF cm [f,.bool v,r,CD c] Q:=by
 obtain ⟨pr,outs,hF,rfl,rfl⟩:=h (Q:=fun pr outs=>pr=.dat (.bool b)/\outs=[]) ⟨rfl,rfl⟩;refine hG rfl ?_;unfold tm;walk_at "pp";refine ⟨[WEB,f,.str "a", .bool v,r,CD c],.dat (.bool b),?_,?_,?_⟩
 ·rcases c with _ | ⟨p,_ | ⟨p2,c⟩⟩ <;> rfl
 ·dsimp only [x9];rw [Iy (show ms6 (ay 2).ms=true from rfl),hF]
 ·walk_at "pp";exact q
section
variable {n:Nat} {v b:Bool} {r:PyData} {c:Cl}
noncomputable def plD (r:PyData) (b v:Bool):Bool:=PyData.eqv r pln&&PyData.eqv (.bool b) (.bool v)
theorem o8 {w:Str} {xs:List PyData} (h1:PyData.eqv (.str w) (.str "keeps")=false) (h2:PyData.eqv (.str w) (.str "not")=false) (h3:AU [.str "all", .str "some", .str "one", .str "none"] (.str w)=false) (h4:PyData.eqv (.str w) (.str "many")=false) (h5:PyData.eqv (.str w) (.str "each")=false) (hk:cL.F [WEB,.tuple (.str w :: xs),.str "a", .none]=some (.dat (.bool b),[])) (hr:RO r):xo (n+1) (.tuple (.str w :: xs)) v r c (plD r b v):=by
 intro Q q;refine hG rfl ?_;unfold fk;walk_at "pp";refine p5 rfl at0 ?_;walk_at "pp";refine pO h1 ?_;walk_at "pp";refine pO h2 ?_;walk_at "pp";refine pO h3 ?_;walk_at "pp";refine pO h4 ?_;walk_at "pp";refine pO h5 ?_;walk_at "pp";refine CN rfl hr.ok ?_;unfold plD at q;refine ⟨_,rfl,?_⟩;refine ig (fun e=>?_) fun e=>?_
 ·rw [show PyData.eqv r pln=true from e,IW] at q;walk_at "pp";refine ah (ds:=[WEB,.tuple (.str w :: xs),.str "a", .none]) (is:=[]) rfl rfl ⟨.dat (.bool b),[],hk,rfl,?_⟩;walk_at "pp";exact q
 ·rw [show PyData.eqv r pln=false from e,II] at q;walk_at "pp";exact q
noncomputable def pls:List (Str×List PyData×Bool):=[("any", [],true),("thing", [],true),("number", [],false),("said", [],false),("from", [.int (-9)],false),("upto", [.int 9],false),("is", [.str "a"],true),("is", [.str "b"],false),("closed", [.tuple [.str "to"]],true),("closed", [.tuple [.str "at"]],false),("closed", [.tuple [.str "at", .str "to"]],true),("closed", [.tuple []],false)]
theorem uU {p:Str×List PyData×Bool} (hp:p∈pls) (hr:RO r):xo (n+1) (.tuple (.str p.1 :: p.2.1)) v r c (plD r p.2.2 v):=by
 simp only [pls,Iq,Ja,JK] at hp;rcases hp with rfl | rfl | rfl | rfl | rfl | rfl | rfl | rfl | rfl | rfl | rfl | rfl <;> exact o8 (by decide +kernel) (by decide +kernel) (by decide +kernel) (by decide +kernel) (by decide +kernel) rfl hr
end
def DB (f:PyData) (S:Cl->Bool->PyData->Bool):Prop:=∀ {c:Cl} {v:Bool} {r:PyData},RO r->xo 2 f v r c (S c v r)
noncomputable def exs (w:Str) (xs:List PyData):List PyData:=[.tuple ((.str w :: xs)++[.int 0]),.list (.str w :: xs),.tuple (cutD (.str w :: xs) none (some (-1))),.tuple ([.str (w ++ "s")]++xs),.none,.int 7,.str "claim", .tuple []]
noncomputable def wJ (c:Cl) (nm:Str) (b:Bool):Cl:=c.map fun p=>if p.1=nm then (p.1,b) else p
theorem Cd {c:Cl} {p:Str×Bool} {b:Bool} (hp:p∈c):putD (c.map fun p=>(PyData.str p.1,PyData.bool p.2)) (.str p.1) (.bool b)=(wJ c p.1 b).map fun p=>(PyData.str p.1,PyData.bool p.2):=by
 unfold putD wJ;rw [Iy (by rw [List.any_map,K3];exact ⟨p,hp,e8.trans (Jh rfl)⟩),Jl,Jl];refine List.map_congr_left fun x _=>?_;have e:PyData.eqv (.str x.1) (.str p.1)=decide (x.1=p.1):=e8;by_cases z:x.1=p.1
 ·simp [z,PyData.eqv]
 ·simp [e,z]
theorem BB {c:Cl} {p:Str×Bool} (hp:p∈c):L2.getD (c.map fun p=>(PyData.str p.1,PyData.bool p.2)) (.str p.1)=some (.bool (gtB c p.1 true)):=by
 have h:=tT c p.1 true;cases z:L2.getD (c.map fun p=>(PyData.str p.1,PyData.bool p.2)) (.str p.1) with
 | some d=>rw [z] at h;exact congrArg some h
 | none =>
  unfold L2.getD at z;rw [K5,Ke] at z;exact absurd (e8.trans (Jh rfl)) (z _ (List.mem_map_of_mem hp))
theorem fb {f:PyData} {S:Cl->Bool->PyData->Bool} {v:Bool} {w:Str} {xs bs:List PyData} {c:Cl} {Q:PR->List PyData->Prop} (hS:DB f S) (hg:RO (.tuple (.str w :: xs))) (hx:xs.length<=100) (hw:w.length<=100) (hl:bs.length<=100) (hb:∀ r∈bs++exs w xs,RO r/\S [] v r=false)
  (h1:S c v (.tuple (.str w :: xs))=true) (h2:S [] v (.tuple (.str w :: xs))=true) (h3:S c (!v) (.tuple (.str w :: xs))=false) (hf:∀ p∈c,S (wJ c p.1 (!gtB c p.1 true)) v (.tuple (.str w :: xs))=false) (hc:c.length<=100) (q:Q (.dat (.bool true)) []):WF bA [f,.bool v,.tuple (.str w :: xs),.list bs,CD c] Q:=by
 refine hG rfl ?_;unfold wG;walk_at "pp";refine ah (ds:=[f,.bool v,.tuple (.str w :: xs),CD c]) (is:=[]) rfl rfl (fJ (hS hg) ⟨rfl,?_⟩);rw [h1];walk_at "pp";refine ah (ds:=[f,.bool v,.tuple (.str w :: xs),CD []]) (is:=[]) rfl rfl (fJ (hS hg) ⟨rfl,?_⟩);rw [h2];walk_at "pp";refine ah (ds:=[f,.bool !v,.tuple (.str w :: xs),CD c]) (is:=[]) rfl rfl (fJ (hS hg) ⟨rfl,?_⟩);rw [h3];walk_at "pp";refine qW (z:=.str w) (xs:=xs) (ys:=[.int 0]) rfl (by rw [IQ];simp;omega) ?_;walk_at "pp";have cn:¬(HT.sIx (PyData.str w :: xs).length 0 none=0/\HT.sIx (PyData.str w :: xs).length (PyData.str w :: xs).length (some (-1))=(PyData.str w :: xs).length):=by
  simp [HT.sIx];omega
 refine ⟨_,.dat (.tuple (cutD (.str w :: xs) none (some (-1)))),rfl,ID cn,?_⟩;walk_at "pp";refine p5 rfl at0 ?_;walk_at "pp";refine wI (xs:=w) (ys := "s") rfl (by rw [IQ];show w.length+1<=_;omega) ?_;walk_at "pp";have e1:cutD (.str w :: xs) (some 1) none=xs:=by
  show ((PyData.str w :: xs).drop (HT.sIx (xs.length+1) 0 (some 1))).take (xs.length+1 - HT.sIx (xs.length+1) 0 (some 1))=xs;rw [show HT.sIx (xs.length+1) 0 (some 1)=1 from by show min 1 (xs.length+1)=1;omega];simp
 rw [e1];refine qW (z:=.str (w ++ "s")) (xs:=[]) (ys:=xs) rfl (by rw [IQ];simp;omega) ?_;walk_at "pp";refine vV (xs:=bs) (ys:=exs w xs) rfl (by rw [IQ];simp [exs];omega) ?_;walk_at "pp";refine fN rfl ?_;refine fP (fun i e=>qf [some (.dat f),some (.dat (.bool v)),some (.dat (.tuple (.str w :: xs))),some (.ro (.list bs)),some (.dat (CD c)),none,none,none] e) (by walk_at "L") ?_ ?_
 ·rintro i d e hd _;walk_at "l";obtain ⟨hd1,hd2⟩:=hb d (IF hd);walk_at "f";walk_at "pp";refine ah (ds:=[f,.bool v,d,CD []]) (is:=[]) rfl rfl (fJ (hS hd1) ⟨rfl,?_⟩);rw [hd2];walk_at "n";walk_at "pp";walk_at "L"
 rintro e _;walk_at "l";walk_at "n";walk_at "pp";refine .inl ⟨_,rfl,fP (fun i e=>qf [some (.dat f),some (.dat (.bool v)),some (.dat (.tuple (.str w :: xs))),some (.ro (.list bs)),some (.dat (CD c)),none,none,none] e) (by walk_at "L") ?_ ?_⟩
 ·rintro i d e hd _;walk_at "l";rw [Jl,Ik] at hd;obtain ⟨p,hp,rfl⟩:=IK.mp hd;have hp:=IF hp;walk_at "f";walk_at "pp";refine ⟨_,.frs (CD c),rfl,Iy (by rw [List.all_map,JY];intro x _;rfl),?_⟩;walk_at "pp";refine Ca (k:=.str p.1) rfl rfl (BB hp) ?_;walk_at "pp";refine Ce (k:=.str p.1) (kvs:=c.map fun p=>(PyData.str p.1,PyData.bool p.2)) rfl rfl rfl (by rw [IQ,Ic];omega) ?_;rw [Cd hp];walk_at "n";walk_at "pp";refine ah (ds:=[f,.bool v,.tuple (.str w :: xs),CD (wJ c p.1 (!gtB c p.1 true))]) (is:=[]) rfl rfl (fJ (hS hg) ⟨rfl,?_⟩);rw [hf p hp];walk_at "n";walk_at "pp";walk_at "L"
 rintro e _;walk_at "l";walk_at "n";walk_at "pp";exact q
noncomputable def mr (m a:Int):List PyData:=[.int (-1),.int m,.int (m+7),.bool (PyData.eqv (.int a) (.int 1)),.none,.str (jU a),.tuple [.int a],.int (-1 - a)]
theorem i3 {m a:Int} {Q:PR->List PyData->Prop} (h0:0<=a) (h1:a<=100) (q:Q (.frs (.list (mr m a))) []):WF dN [.int m,.int a] Q:=by
 refine hG rfl ?_;unfold l0;walk_at "pp";refine C1 rfl (Nat.lt_of_le_of_lt (by omega:a.natAbs<=100) (by decide +kernel)) ?_;walk_at "pp";exact q
def RD (m:Nat) (r:PyData):Prop:=noD r=true/\r.depth<=m
theorem nJ {m:Nat} {a:Int} {d:PyData} (h0:0<=a) (h:d∈mr m a):plB d m=false/\RD 5 d:=by
 simp only [mr,Iq,Ja,JK] at h;have n1:∀ i:Int,i < 0\/(m:Int)<=i->plB (.int i) m=false/\RD 5 (.int i):=fun i hi=>by
  refine ⟨?_,rfl,by simp [PyData.depth]⟩;show (decide (0<=i)&&decide (i < m))=false;rcases hi with hi | hi
  ·rw [IX (by omega)];rfl
  ·rw [IX (by omega:¬i < m),KL]
 rcases h with rfl | rfl | rfl | rfl | rfl | rfl | rfl | rfl
 ·exact n1 _ (.inl (by decide))
 ·exact n1 _ (.inr (by omega))
 ·exact n1 _ (.inr (by omega))
 ·exact ⟨rfl,rfl,by simp [PyData.depth]⟩
 ·exact ⟨rfl,rfl,by simp [PyData.depth]⟩
 ·exact ⟨rfl,rfl,by simp [PyData.depth]⟩
 ·exact ⟨rfl,rfl,by simp [PyData.depth,PyData.depthAll]⟩
 ·exact n1 _ (.inl (by omega))
theorem zy (s:Str):RO (.str s):=⟨rfl,by simp [PyData.depth]⟩
theorem Bq (i:Int):RO (.int i):=⟨rfl,by simp [PyData.depth]⟩
theorem RD.ro {m:Nat} {r:PyData} (h:RD m r) (hm:m<=20:=by decide):RO r:=⟨h.1,IM h.2 hm⟩
theorem bz {m:Nat} {ds:List PyData} (h:∀ d∈ds,RD m d):RD (m+1) (.tuple ds):=by
 refine ⟨d7.mpr fun d hd=>(h d hd).1,?_⟩;have:=kA fun d hd=>(h d hd).2;simp only [PyData.depth];omega
theorem n0 {m:Nat} {ds:List PyData} (h:∀ d∈ds,RD m d):RD (m+1) (.list ds):=by
 refine ⟨d7.mpr fun d hd=>(h d hd).1,?_⟩;have:=kA fun d hd=>(h d hd).2;simp only [PyData.depth];omega
abbrev enC (p:Str×Bool):PyData:=.tuple [.str p.1,.bool p.2]
abbrev kvC (p:Str×Bool):PyData×PyData:=(.str p.1,.bool p.2)
theorem rD:∀ ps:Cl,mX (ps.map enC)=some (ps.map kvC)
 | []=>rfl
 | h :: hs=>by
  show (if hk6 (.str h.1)=true then (match mX (hs.map enC) with | some ps=>some ((.str h.1,.bool h.2) :: ps) | none=>none) else none)=_;rw [rD hs];exact Iy (show hk6 (.str h.1)=true from rfl)
theorem nE:∀ {ps acc:Cl},((acc++ps).map (·.1)).Nodup->j4 (acc.map kvC) (ps.map kvC)=(acc++ps).map kvC
 | [],acc,_=>by rw [Jy];rfl
 | h :: hs,acc,nd=>by
  have e:acc++h :: hs=(acc++[h])++hs:=by simp
  have hn:∀ y∈acc,y.1≠h.1:=fun y hy z=>by
   rw [Jx,List.nodup_append] at nd;exact nd.2.2 _ (List.mem_map_of_mem hy) _ (by rw [List.map_cons];exact IE) z
  show j4 (putD (acc.map kvC) (kvC h).1 (kvC h).2) (hs.map kvC)=_;have ep:putD (acc.map kvC) (kvC h).1 (kvC h).2=(acc++[h]).map kvC:=by
   unfold putD;rw [ID,Jx]
   ·rfl
   ·rw [List.any_map,K3];rintro ⟨y,hy,e⟩;exact hn y hy (Jc (e8.symm.trans e))
  rw [ep,e];exact nE (by rw [<- e];exact nd)
theorem m8 {e:En} {x:AV} {ps:Cl} {Q:RV->En->Prop} (h1:aF e [x]=some [.list (ps.map enC)]) (nd:(ps.map (·.1)).Nodup) (hl:ps.length<=1000) (q:Q (.frs (CD ps)) e):WPr lY [x] e Q:=by
 refine ⟨_,.frs (CD ps),h1,?_,q⟩;show (match mX (ps.map enC) with | some ps=>if ps.length<=1000 then some (PR.frs (.dict (j4 [] ps))) else none | none=>none)=_;rw [rD];show (if (ps.map kvC).length<=1000 then _ else _)=_;rw [Iy (by rw [Ic];exact hl),show j4 [] (ps.map kvC)=ps.map kvC from nE (acc:=[]) nd]
theorem k7 {c:Cl} {nm:Str} {b v:Bool} (h:∃ p∈c,p.1=nm):gtB (wJ c nm b) nm v=b:=by
 unfold gtB wJ;rw [List.find?_map];have e:((fun p:Str×Bool=>decide (p.1=nm))∘fun p=>if p.1=nm then (p.1,b) else p)=fun p=>decide (p.1=nm):=by
  funext p;show decide ((if p.1=nm then (p.1,b) else p).1=nm)=_;split <;> rfl
 rw [e];obtain ⟨p,hp,hn⟩:=h;cases z:c.find? (fun p=>decide (p.1=nm)) with
 | none=>exact absurd (Jh hn) (Ke.mp z p hp)
 | some y =>
  have:y.1=nm:=Jc (List.find?_some (p:=fun p:Str×Bool=>decide (p.1=nm)) z);show (if y.1=nm then (y.1,b) else y).2=b;rw [Iy this]
theorem qH {c:Cl} {nm:Str} {k:Bool} (h:∀ p∈c,p.2=k):gtB c nm k=k:=by
 unfold gtB;split
 ·rename_i p hp;exact h p (KN hp)
 ·rfl
theorem xy {α:Type} (z:α) (n:Nat):gH n [z]=List.replicate n z:=by
 unfold gH;induction n with
 | zero=>rfl
 | succ n ih=>rw [List.replicate_succ,J4,ih,List.replicate_succ];rfl
theorem yO {e:En} {x y:AV} {z:PyData} {n:Nat} {Q:RV->En->Prop} (h1:aF e [x,y]=some [.tuple [z],.int n]) (h2:n<=100) (q:Q (.dat (.tuple (List.replicate n z))) e):WPr zf [x,y] e Q:=by
 refine ⟨_,.dat (.tuple (List.replicate n z)),h1,?_,q⟩;show (if 0<=(n:Int)/\((([z]:List PyData).length:Nat):Int)*n<=1000/\(n:Int)<=1000 then some (PR.dat (.tuple (gH (n:Int).toNat [z]))) else none)=_;rw [Iy ⟨by omega,by simp;omega,by omega⟩,xy,IS]
theorem rL {e:En} {x y:AV} {xs ys:List PyData} {Q:RV->En->Prop} (h1:aF e [x,y]=some [.tuple xs,.tuple ys]) (h2:xs.length+ys.length<=1000) (q:Q (.dat (.tuple (xs++ys))) e):WPr lg [x,y] e Q:=by
 refine ⟨_,.dat (.tuple (xs++ys)),h1,?_,q⟩;show x4 (.tuple xs) (.tuple ys)=_;cases xs with
 | nil=>rfl
 | cons x xs =>
  show (if (x :: xs).length+ys.length<=sizeLine then _ else _)=_;rw [Iy (by rw [IQ];omega)]
theorem y4 {e:En} {x y:AV} {xs ys:List PyData} {Q:RV->En->Prop} (h1:aF e [x,y]=some [.list xs,.list ys]) (h2:xs.length+ys.length<=1000) (q:Q (.frs (.list (xs++ys))) e):WPr lg [x,y] e Q:=by
 refine ⟨_,.frs (.list (xs++ys)),h1,?_,q⟩;show (if xs.length+ys.length<=sizeLine then _ else _)=_;rw [Iy (by rw [IQ];omega)]
abbrev WH (m:Nat):List PyData:=List.replicate m clm
abbrev pk (m k:Nat):PyData:=.tuple [.str "every", .tuple ((WH m).take k++[pln]++(WH m).drop (k+1))]
abbrev ebs (m:Nat):List PyData:=[.tuple [.str "every", .tuple (WH m++[clm])],.tuple [.str "every", .list (WH m)]]++(List.range m).map (pk m)
theorem C2 {w:Wd} {ns:List Str} {v k:Bool} {Q:PR->List PyData->Prop} (hl:ns.length<=20) (nd:ns.Nodup) (h:∀ {Q:PR->List PyData->Prop},Q (.dat (.bool true)) []->∀ bs,(bs=ebs ns.length\/bs=ebs ns.length++[.tuple [.str "every", .tuple ((WH ns.length).drop 1)]]/\0 < ns.length)->WF bA [lsF w ns,.bool v,.tuple [.str "every", .tuple (WH ns.length)],.list bs,CD (ns.map fun x=>(x,k))] Q) (q:Q (.dat (.bool true)) []):WF cW [.str w.s,.list (ns.map .str),.bool v,.bool k] Q:=by
 refine hG rfl ?_;unfold n6;walk_at "pp";refine yO (n:=(ns.map PyData.str).length) rfl (by rw [Ic];omega) ?_;rw [Ic];walk_at "pp";refine fN rfl (bu ns .str kpF (fun x _=>?_) ?_)
 ·refine cf ?_;walk_at "pp";exact ⟨rfl,rfl⟩
 walk_at "n";walk_at "pp";refine rL (xs:=WH ns.length) (ys:=[clm]) rfl (by simp;omega) ?_;walk_at "pp";rw [IP];refine ⟨⟨by omega,by omega⟩,?_⟩;rw [IS];refine bu (List.range ns.length) (fun (k:Nat)=>.int ((0:Int)+(k:Int))) (pk ns.length) (fun k hk=>?_) ?_
 ·have hk:=List.mem_range.mp hk;refine cf ?_;walk_at "pp";have cn:¬(HT.sIx (WH ns.length).length 0 none=0/\HT.sIx (WH ns.length).length (WH ns.length).length (some ((0:Int)+(k:Int)))=(WH ns.length).length):=by
   rw [Int.zero_add,HT.xF,IP];omega
  refine ⟨_,.dat (.tuple (cutD (WH ns.length) none (some ((0:Int)+(k:Int))))),rfl,ID cn,?_⟩;rw [kP (by omega),Int.zero_add,IS];walk_at "pp";refine rL (xs:=(WH ns.length).take k) (ys:=[pln]) rfl (by rw [JH];simp;omega) ?_;walk_at "pp";refine xO (xs:=WH ns.length) (i:=(k:Int)+1) rfl (by omega) (by rw [IP];omega) ?_;rw [show ((k:Int)+1).toNat=k+1 from by omega];walk_at "pp";refine rL (xs:=(WH ns.length).take k++[pln]) (ys:=(WH ns.length).drop (k+1)) rfl (by rw [Io,JH,JX,IP];simp;omega) ?_;walk_at "pp";exact ⟨rfl,rfl⟩
 walk_at "n";walk_at "pp";refine y4 (xs:=_) (ys:=(List.range ns.length).map (pk ns.length)) rfl (by simp;omega) ?_;walk_at "n";walk_at "pp";have nd2:((ns.map fun x=>(x,k)).map (·.1)).Nodup:=by rw [Jl];exact (List.map_id ns).symm▸nd
 have ec:(ns.map fun x=>enC (x,k))=(ns.map fun x=>(x,k)).map enC:=by rw [Jl];rfl
 refine ig (fun e=>?_) fun e=>?_
 ·have e:0 < ns.length:=by
   have e:decide (((WH ns.length).length:Int) > 0)=true:=e;rw [IP] at e;have:=Jc e;omega
  walk_at "pp";refine xO (xs:=WH ns.length) (i:=1) rfl (by decide) (by rw [IP];exact e) ?_;walk_at "pp";refine F4 rfl (by rw [IQ];simp;omega) rfl ?_;walk_at "n";walk_at "pp";refine fN rfl (bu ns .str (fun x=>enC (x,k)) (fun x _=>?_) ?_)
  ·refine cf ?_;walk_at "pp";exact ⟨rfl,rfl⟩
  rw [ec];walk_at "pp";refine m8 (ps:=ns.map fun x=>(x,k)) rfl nd2 (by rw [Ic];omega) ?_;walk_at "pp";refine ah (is:=[]) rfl rfl (h ⟨rfl,?_⟩ _ (.inr ⟨rfl,e⟩));walk_at "pp";exact q
 ·walk_at "pp";refine fN rfl (bu ns .str (fun x=>enC (x,k)) (fun x _=>?_) ?_)
  ·refine cf ?_;walk_at "pp";exact ⟨rfl,rfl⟩
  rw [ec];walk_at "pp";refine m8 (ps:=ns.map fun x=>(x,k)) rfl nd2 (by rw [Ic];omega) ?_;walk_at "pp";refine ah (is:=[]) rfl rfl (h ⟨rfl,?_⟩ _ (.inl rfl));walk_at "pp";exact q
theorem kj {c:Cl} {nm:Str} {v:Bool} (h:gtB c nm v=v):rst c nm v=true:=by
 unfold rst;rw [h];cases v <;> rfl
theorem lh {c:Cl} {nm:Str} {v:Bool} (h:gtB c nm v=!v):rst c nm v=false:=by
 unfold rst;rw [h];cases v <;> rfl
theorem aI {c:Cl} {nm:Str} {v:Bool}:kpB c nm v clm=rst c nm v:=by
 unfold kpB;rw [show PyData.eqv clm clm=true from by decide +kernel,IW]
theorem dZ {c:Cl} {nm:Str} {v:Bool}:kpB c nm v pln=false:=by
 unfold kpB;rw [show PyData.eqv pln clm=false from by decide +kernel,II]
theorem uP {c:Cl} {p:Str×Bool} {k v:Bool} (h:∀ p∈c,p.2=k) (hp:p∈c):gtB c p.1 v=k:=by
 unfold gtB;cases z:c.find? (fun q=>decide (q.1=p.1)) with
 | none=>exact absurd (Jh rfl) (Ke.mp z p hp)
 | some y=>exact h y (KN z)
theorem nK {c:Cl} {l:List (Str×Bool)} {rs:List PyData} (h:rs.length≠l.length):prB c l (.tuple rs)=false:=by
 dsimp only [prB];rw [IX h,II]
theorem mw {c:Cl} {l:List (Str×Bool)} (h:∀ p∈l,rst c p.1 p.2=true):prB c l (.tuple (WH l.length))=true:=by
 dsimp only [prB];rw [Jh (by rw [IP]),IW,JY];intro p hp;have:=Kx (a:=p.1) (b:=p.2) hp;rw [Ka this.2,aI];exact h _ this.1
theorem iR {c:Cl} {l:List (Str×Bool)} {rs:List PyData} {i:Nat} {p:Str×Bool} {r:PyData} (h1:l[i]?=some p) (h2:rs[i]?=some r) (h:kpB c p.1 p.2 r=false):prB c l (.tuple rs)=false:=by
 dsimp only [prB];have:((l.zip rs).all fun p=>kpB c p.1.1 p.1.2 p.2)=false:=by
  rw [List.all_eq_false];refine ⟨(p,r),IF (i:=i) (by rw [List.getElem?_zip_eq_some];exact ⟨h1,h2⟩),?_⟩;rw [h];decide
 rw [this,KL]
theorem fm {y:PyData} (h:RD 5 y):RO (.tuple [.str "every", y]):=by
 refine (bz (m:=5) fun d hd=>?_).ro;simp at hd;rcases hd with rfl | rfl
 ·exact ⟨rfl,by simp [PyData.depth]⟩
 ·exact h
theorem ka:RD 4 clm/\RD 4 pln:=⟨⟨rfl,by simp [PyData.depth,PyData.depthAll]⟩,⟨rfl,by simp [PyData.depth,PyData.depthAll]⟩⟩
theorem i9 {w:Str} {xs:List PyData} (h:∀ d∈xs,RD 5 d):∀ r∈exs w xs,RO r:=by
 have hs:∀ s:Str,RD 5 (.str s):=fun s=>⟨rfl,by simp [PyData.depth]⟩;have hi:∀ s:Int,RD 5 (.int s):=fun s=>⟨rfl,by simp [PyData.depth]⟩;have hc:∀ d∈PyData.str w :: xs,RD 5 d:=fun d hd=>by
  rcases Iq.mp hd with rfl | hd
  ·exact hs w
  ·exact h d hd
 intro r hr;simp only [exs,Iq,Ja,JK] at hr;rcases hr with rfl | rfl | rfl | rfl | rfl | rfl | rfl | rfl
 ·refine (bz (m:=5) fun d hd=>?_).ro;rcases IL.mp hd with hd | hd
  ·exact hc d hd
  ·rw [Ii.mp hd];exact hi 0
 ·exact (n0 hc).ro
 ·refine (bz (m:=5) fun d hd=>hc d ?_).ro;unfold L2.cutD at hd;exact Kt (List.mem_of_mem_take hd)
 ·refine (bz (m:=5) fun d hd=>?_).ro;rcases IL.mp hd with hd | hd
  ·rw [Ii.mp hd];exact hs _
  ·exact h d hd
 ·exact ⟨rfl,by simp [PyData.depth]⟩
 ·exact Bq 7
 ·exact zy "claim"
 ·exact ⟨rfl,by simp [PyData.depth,PyData.depthAll]⟩
theorem nB {w u:Str} {n:Nat} {xs:List PyData} {r:PyData} (he:((exs w xs).all fun r=>!hdB r u n)=true) (hr:r∈exs w xs):hdB r u n=false:=nt (JY.mp he r hr)
theorem kM {c:Cl} {ns:List Str} {k:Bool} {y:PyData}:cE c ns k (.tuple [.str "every", y])=prB c (ns.map fun x=>(x,k)) y:=by
 unfold cE;rw [show hdB (.tuple [.str "every", y]) "every" 2=true from rfl,IW];rfl
theorem kH {c:Cl} {ns:List Str} {k:Bool} {r:PyData} (h:hdB r "every" 2=false):cE c ns k r=false:=by
 unfold cE;rw [h,II]
theorem tQ {w:Wd} {ns:List Str} {v k:Bool} {bs:List PyData} {Q:PR->List PyData->Prop} (he:∀ c r,hdB r "two" 5=false->lsB c w ns v r=cE c ns k r) (ho:∀ c r,hdB r "every" 2=true->lsB c w ns (!v) r=false) (hl:ns.length<=20) (q:Q (.dat (.bool true)) []) (hb:bs=ebs ns.length\/bs=ebs ns.length++[.tuple [.str "every", .tuple ((WH ns.length).drop 1)]]/\0 < ns.length):WF bA [lsF w ns,.bool v,.tuple [.str "every", .tuple (WH ns.length)],.list bs,CD (ns.map fun x=>(x,k))] Q:=by
 have wm:∀ d∈WH ns.length,RD 4 d:=fun d hd=>(Ka hd)▸ka.1;have ew:WH ns.length=WH (ns.map fun x=>(x,k)).length:=by rw [Ic]
 have lk:∀ p∈ns.map (fun x=>(x,k)),p.2=k:=fun p hp=>by
  obtain ⟨x,_,rfl⟩:=Ji.mp hp;rfl
 have t2:∀ y,hdB (.tuple [.str "every", y]) "two" 5=false:=fun y=>rfl;have bad:∀ y,RD 5 y->prB [] (ns.map fun x=>(x,k)) y=false->RO (.tuple [.str "every", y])/\lsB [] w ns v (.tuple [.str "every", y])=false:=fun y h1 h2=>⟨fm h1,by rw [he _ _ (t2 y),kM];exact h2⟩;have goodc:∀ c:Cl,(∀ p∈c,p.2=k)->lsB c w ns v (.tuple [.str "every", .tuple (WH ns.length)])=true:=fun c hc=>by
  rw [he _ _ (t2 _),kM,ew];exact mw fun p hp=>kj (by rw [lk p hp];exact qH hc)
 have b1:∀ r∈ebs ns.length,RO r/\lsB [] w ns v r=false:=fun r hr=>by
  rcases IL.mp hr with hr | hr
  ·simp only [Iq,Ja,JK] at hr;rcases hr with rfl | rfl
   ·refine bad _ (bz (m:=4) fun d hd=>?_) (nK (by simp));rcases IL.mp hd with hd | hd
    ·exact wm d hd
    ·rw [Ii.mp hd];exact ka.1
   ·exact bad _ (n0 (m:=4) wm) rfl
  ·obtain ⟨i,hi,rfl⟩:=Ji.mp hr;have hi:=List.mem_range.mp hi;refine bad _ (bz (m:=4) fun d hd=>?_) (iR (i:=i) (p:=(ns[i],k)) (r:=pln) (by rw [Ik,Ie hi];rfl) ?_ dZ)
   ·rcases IL.mp hd with hd | hd
    ·rcases IL.mp hd with hd | hd
     ·exact wm d (List.mem_of_mem_take hd)
     ·rw [Ii.mp hd];exact ka.2
    ·exact wm d (Kt hd)
   ·have:((WH ns.length).take i).length=i:=by rw [JH,IP];omega
    rw [KU,Iu (by omega),this,Nat.sub_self];rfl
 refine fb (S:=fun c v r=>lsB c w ns v r) (fun hr=>dh hr (by omega)) (fm (bz (m:=4) wm)) (by simp) (by decide +kernel) ?_ (fun r hr=>?_) (goodc _ lk) (goodc _ fun p hp=>by cases hp) (ho _ _ rfl) (fun p hp=>?_) (by rw [Ic];omega) q
 ·rcases hb with rfl | ⟨rfl,_⟩ <;> simp <;> omega
 ·rcases IL.mp hr with hr | hr
  ·rcases hb with rfl | ⟨rfl,h0⟩
   ·exact b1 r hr
   ·rcases IL.mp hr with hr | hr
    ·exact b1 r hr
    ·rw [Ii.mp hr];exact bad _ (bz (m:=4) fun d hd=>wm d (Kt hd)) (nK (by simp;omega))
  ·exact ⟨i9 (fun d hd=>by rw [Ii.mp hd];exact bz (m:=4) wm) r hr,(he _ _ (nB rfl hr)).trans (kH (nB rfl hr))⟩
 ·obtain ⟨x,hx,rfl⟩:=Ji.mp hp;obtain ⟨i,hi,rfl⟩:=List.mem_iff_getElem.mp hx;show lsB _ w ns v _=false;rw [he _ _ (t2 _),kM,uP lk hp];refine iR (i:=i) (p:=(ns[i],k)) (r:=clm) (by rw [Ik,Ie hi];rfl) (by rw [Kg,Iy hi]) ?_;rw [aI];exact lh (k7 ⟨_,hp,rfl⟩)
theorem km {w u:Str} {n m:Nat} {r:PyData} (h:hdB r w n=true) (hn:n≠m):hdB r u m=false:=by
 unfold hdB at h ⊢;split at h
 ·have:=Jc (J5.mp h).1;rw [IX (by omega),II]
 ·cases h
theorem je {c:Cl} {ns:List Str} {v:Bool} {r:PyData} (h:hdB r "part" 3=false):jc c ns v r=false:=by
 unfold jc;rw [h,II]
theorem gY {c:Cl} {ns:List Str} {r:PyData} (h:hdB r "alone" 3=false):dq c ns r=false:=by
 unfold dq;rw [h,II]
def EvW (w:Wd) (v k:Bool):Prop:=(w=.all/\v=true/\k=true)\/(w=.some/\v=false/\k=false)\/(w=.none/\v=true/\k=false)\/(w=.one/\v=false/\k=false)
theorem fv {w:Wd} {ns:List Str} {v k:Bool} {Q:PR->List PyData->Prop} (hw:EvW w v k) (hl:ns.length<=20) (nd:ns.Nodup) (q:Q (.dat (.bool true)) []):WF cW [.str w.s,.list (ns.map .str),.bool v,.bool k] Q:=by
 refine C2 hl nd (fun q bs hb=>tQ (fun c r h=>?_) (fun c r h=>?_) hl q hb) q
 ·rcases hw with ⟨rfl,rfl,rfl⟩ | ⟨rfl,rfl,rfl⟩ | ⟨rfl,rfl,rfl⟩ | ⟨rfl,rfl,rfl⟩
  ·rfl
  ·rfl
  ·rfl
  ·show (if hdB r "two" 5=true then _ else _)=_;rw [h];rfl
 ·rcases hw with ⟨rfl,rfl,rfl⟩ | ⟨rfl,rfl,rfl⟩ | ⟨rfl,rfl,rfl⟩ | ⟨rfl,rfl,rfl⟩
  ·exact je (km h (by decide))
  ·exact je (km h (by decide))
  ·exact je (km h (by decide))
  ·exact gY (km h (by decide))
theorem yz (ds:List PyData):PyData.eqv (.list ds) (.list [])=ds.isEmpty:=by cases ds <;> simp [PyData.eqv,PyData.eqvAll]
theorem EA {e:En} {x y:AV} {ds:List PyData} {Q:RV->En->Prop} (h1:aF e [x,y]=some [.list ds,.list []]) (h:∀ d∈ds,RD 18 d) (q:Q (.dat (.bool (!ds.isEmpty))) e):WPr neP [x,y] e Q:=HG h1 (n0 h).ro.ok rfl (by rw [yz];exact q)
theorem Em {w:Wd} {ns:List Str} {v k:Bool} {Q:PR->List PyData->Prop} (hl:ns.length<=20) (h:∀ {Q:PR->List PyData->Prop},Q (.dat (.bool true)) []->∀ i,(hi:i < ns.length)->WF bA [lsF w ns,.bool v,.tuple [.str "part", .int i,clm],.list (((mr ns.length i).map fun d=>.tuple [.str "part", d,clm])++[.tuple [.str "part", .int i,pln],.tuple [.str "every", .tuple (WH ns.length)]]),CD [(ns[i],k)]] Q) (ht:∀ {Q:PR->List PyData->Prop},Q (.dat (.bool (decide (0 < ns.length)))) []->WF cm [lsF w ns,.bool v,.tuple [.str "part", .int 0,clm],CD []] Q) (q:Q (.dat (.bool true)) []):WF fK [.str w.s,.list (ns.map .str),.bool v,.bool k] Q:=by
 refine hG rfl ?_;unfold rm;walk_at "pp";refine fN rfl (bu ns .str kpF (fun x _=>?_) ?_)
 ·refine cf ?_;walk_at "pp";exact ⟨rfl,rfl⟩
 walk_at "n";walk_at "pp";rw [Ic];refine ⟨⟨by omega,by omega⟩,?_⟩;refine fP (fun i e=>qf [some (.dat (.str w.s)),some (.dat (.list (ns.map .str))),some (.dat (.bool v)),some (.dat (.bool k)),some (.dat (lsF w ns)),none,none,none] e) (by walk_at "L") ?_ ?_
 ·rintro i d e hd _;walk_at "l";obtain ⟨rfl,hi⟩:=jX hd;rw [IS] at hi;walk_at "f";walk_at "pp";refine ah (ds:=[.int ns.length,.int i]) (is:=[]) (by rw [Ic];rfl) rfl (i3 (by omega) (by omega) ⟨rfl,?_⟩);walk_at "n";walk_at "pp";refine fN rfl (bu (mr ns.length i) id (fun d=>.tuple [.str "part", d,clm]) (fun x _=>?_) ?_)
  ·refine cf ?_;walk_at "pp";exact ⟨rfl,rfl⟩
  walk_at "n";walk_at "pp";refine yO (n:=(ns.map PyData.str).length) rfl (by rw [Ic];omega) ?_;rw [Ic];walk_at "pp";have ei:atI (ns.map PyData.str) (i:Int)=some (.str ns[i]):=eZ (by rw [Ik,Ie hi];rfl);refine n5 (qG ?_);walk_at "pp";refine zl rfl ei ?_;walk_at "pp";refine uM ?_;refine ⟨_,_,_,rfl,rfl,rfl,by simp,?_⟩;walk_at "pp";refine ah (is:=[]) rfl rfl (h ⟨rfl,?_⟩ i hi);walk_at "pp";walk_at "L"
 rintro e _;walk_at "l";walk_at "n";walk_at "pp";refine ah (is:=[]) rfl rfl (ht ⟨rfl,?_⟩);walk_at "n";walk_at "pp";refine EA rfl (fun d hd=>by obtain ⟨x,_,rfl⟩:=Ji.mp hd;exact ⟨rfl,by simp [PyData.depth]⟩) ?_;have ee:(!(ns.map PyData.str).isEmpty)=decide (0 < ns.length):=by cases ns <;> rfl
 rw [ee];walk_at "pp";cases decide (0 < ns.length) <;> exact q
theorem jh {w:Str} {xs:List PyData} (h:∀ d∈xs,RD 5 d):RO (.tuple (.str w :: xs)):=by
 refine (bz (m:=5) fun d hd=>?_).ro;rcases Iq.mp hd with rfl | hd
 ·exact ⟨rfl,by simp [PyData.depth]⟩
 ·exact h d hd
theorem jn {i:Int}:RD 5 (.int i):=⟨rfl,by simp [PyData.depth]⟩
theorem eR:RD 5 clm/\RD 5 pln:=⟨⟨ka.1.1,IM ka.1.2 (by decide)⟩,⟨ka.2.1,IM ka.2.2 (by decide)⟩⟩
theorem sy {x y:PyData} (h1:RD 5 x) (h2:RD 5 y):∀ d∈[x,y],RD 5 d:=fun d hd=>by
 rcases Iq.mp hd with rfl | hd
 ·exact h1
 ·rw [Ii.mp hd];exact h2
theorem vH {i m:Nat} (h:i < m):plB (.int i) m=true:=by
 show (decide (0<=(i:Int))&&decide ((i:Int) < m))=true;rw [Jh (by omega),Jh (by omega)];rfl
theorem getD_at {ns:List Str} {i:Nat} (hi:i < ns.length):ns.getD (i:Int).toNat "" = ns[i]:=by
 rw [IS,JL,Ie hi];rfl
theorem mx {c:Cl} {ns:List Str} {k:Bool} {d x:PyData}:jc c ns k (.tuple [.str "part", d,x])=(plB d ns.length&&kpB c (match d with | .int i=>ns.getD i.toNat "" | _ => "") k x):=by
 unfold jc;rw [show hdB (.tuple [.str "part", d,x]) "part" 3=true from rfl,IW];rfl
theorem kO {c:Cl} {ns:List Str} {k:Bool} {i:Nat} {x:PyData} (hi:i < ns.length):jc c ns k (.tuple [.str "part", .int i,x])=kpB c ns[i] k x:=by
 rw [mx,vH hi,IW];show kpB c (ns.getD (i:Int).toNat "") k x=_;rw [getD_at hi]
def PtW (w:Wd) (v k:Bool):Prop:=(w=.all/\v=false/\k=false)\/(w=.some/\v=true/\k=true)\/(w=.none/\v=false/\k=true)
section
variable {w:Wd} {v k:Bool} {ns:List Str} {Q:PR->List PyData->Prop}
theorem nk (h:PtW w v k) (c:Cl) (ns:List Str) (r:PyData):lsB c w ns v r=jc c ns k r:=by
 rcases h with ⟨rfl,rfl,rfl⟩ | ⟨rfl,rfl,rfl⟩ | ⟨rfl,rfl,rfl⟩ <;> rfl
theorem EW (h:PtW w v k) {c:Cl} {r:PyData} (hr:hdB r "every" 2=false):lsB c w ns (!v) r=false:=by
 rcases h with ⟨rfl,rfl,rfl⟩ | ⟨rfl,rfl,rfl⟩ | ⟨rfl,rfl,rfl⟩ <;> exact kH hr
theorem uR {i:Nat} (hw:PtW w v k) (hl:ns.length<=20) (hi:i < ns.length) (q:Q (.dat (.bool true)) []):WF bA [lsF w ns,.bool v,.tuple [.str "part", .int i,clm],.list (((mr ns.length i).map fun d=>.tuple [.str "part", d,clm])++[.tuple [.str "part", .int i,pln],.tuple [.str "every", .tuple (WH ns.length)]]),CD [(ns[i],k)]] Q:=by
 have lk:∀ p∈[(ns[i],k)],p.2=k:=fun p hp=>by rw [Ii.mp hp]
 have good:∀ c:Cl,gtB c ns[i] k=k->lsB c w ns v (.tuple [.str "part", .int i,clm])=true:=fun c hc=>(nk hw _ _ _).trans ((kO hi).trans (aI.trans (kj hc)));refine fb (S:=fun c v r=>lsB c w ns v r) (fun hr=>dh hr (by omega)) (jh (sy jn eR.1)) (by simp) (by decide +kernel) (by simp [mr]) (fun r hr=>?_) (good _ (qH lk)) (good _ rfl) (EW hw rfl) (fun p hp=>?_) (by simp) q
 ·rcases IL.mp hr with hr | hr
  ·rcases IL.mp hr with hr | hr
   ·obtain ⟨d,hd,rfl⟩:=Ji.mp hr;have z:=nJ (by omega) hd;exact ⟨jh (sy z.2 eR.1),(nk hw _ _ _).trans (by rw [mx,z.1,II])⟩
   ·rcases Iq.mp hr with rfl | hr
    ·exact ⟨jh (sy jn eR.2),(nk hw _ _ _).trans ((kO hi).trans dZ)⟩
    ·rw [Ii.mp hr];exact ⟨fm (bz (m:=4) fun d hd=>(Ka hd)▸ka.1),(nk hw _ _ _).trans (je rfl)⟩
  ·exact ⟨i9 (sy jn eR.1) r hr,(nk hw _ _ _).trans (je (nB rfl hr))⟩
 ·have e:=Ii.mp hp;refine (nk hw _ _ _).trans ((kO hi).trans (aI.trans (lh ?_)));rw [uP lk hp,e];exact k7 ⟨_,List.mem_singleton_self _,rfl⟩
theorem qp (hw:PtW w v k) (hl:ns.length<=20) (q:Q (.dat (.bool (decide (0 < ns.length)))) []):WF cm [lsF w ns,.bool v,.tuple [.str "part", .int 0,clm],CD []] Q:=by
 refine fJ (dh (jh (sy jn eR.1)) (by omega)) ?_;have e:lsB [] w ns v (.tuple [.str "part", .int 0,clm])=decide (0 < ns.length):=by
  rw [nk hw];rcases Nat.eq_zero_or_pos ns.length with z | z
  ·rw [mx,z];rfl
  ·rw [Jh z];exact (kO z).trans (aI.trans (kj rfl))
 rw [e];exact q
theorem kb (hw:PtW w v k) (hl:ns.length<=20) (q:Q (.dat (.bool true)) []):WF fK [.str w.s,.list (ns.map .str),.bool v,.bool k] Q :=
 Em hl (fun q i hi=>uR hw hl hi q) (fun q=>qp hw hl q) q
end
abbrev oF (ns:List Str) (i:Nat) (x:Str):Bool:=PyData.eqv (.str x) (.str (ns.getD i ""))
abbrev oC (ns:List Str) (i:Nat):Cl:=ns.map fun x=>(x,oF ns i x)
theorem vM {ns:List Str} {f:Str->Bool} {x:Str} {v:Bool} (hx:x∈ns):gtB (ns.map fun x=>(x,f x)) x v=f x:=by
 unfold gtB;rw [List.find?_map];cases z:ns.find? ((fun p:Str×Bool=>decide (p.1=x))∘fun x=>(x,f x)) with
 | none=>exact absurd (Jh rfl) (Ke.mp z x hx)
 | some y =>
  have:y=x:=Jc (List.find?_some (p:=(fun p:Str×Bool=>decide (p.1=x))∘fun x=>(x,f x)) z);rw [this];rfl
theorem vX {ns:List Str} {i k:Nat} (hk:k < ns.length):(ns.zip (isAt ns.length (i:Int)))[k]?=some (ns[k],PyData.eqv (.int ((0:Int)+(k:Int))) (.int i)):=by
 rw [List.getElem?_zip_eq_some];refine ⟨Ie hk,?_⟩;unfold isAt;rw [Ik,List.getElem?_range hk];rfl
theorem GB {ns:List Str} {i k:Nat} (nd:ns.Nodup) (hi:i < ns.length) (hk:k < ns.length):oF ns i ns[k]=PyData.eqv (.int ((0:Int)+(k:Int))) (.int i):=by
 have e:ns.getD i "" = ns[i]:=by rw [JL,Ie hi];rfl
 show PyData.eqv (.str ns[k]) (.str (ns.getD i ""))=_;rw [eqI,e];refine e8.trans ?_;by_cases z:k=i
 ·subst z;rw [Jh rfl,Jh (by omega)]
 ·rw [IX (fun h=>z ((List.getElem_inj nd).mp h)),IX (by omega)]
theorem iT {ns:List Str} {i:Int}:(ns.zip (isAt ns.length i)).length=ns.length:=by simp [isAt]
theorem nV {c:Cl} {ns:List Str} {d y:PyData}:dq c ns (.tuple [.str "alone", d,y])=(plB d ns.length&&prB c (ns.zip (isAt ns.length (iOf d))) y):=by
 unfold dq;rw [show hdB (.tuple [.str "alone", d,y]) "alone" 3=true from rfl,IW];rfl
theorem ku {c:Cl} {ns:List Str} {i:Nat} {y:PyData} (hi:i < ns.length):dq c ns (.tuple [.str "alone", .int i,y])=prB c (ns.zip (isAt ns.length (i:Int))) y:=by
 rw [nV,vH hi,IW];rfl
noncomputable abbrev abs (m i:Nat):List PyData:=((mr m i).map fun d=>.tuple [.str "alone", d,.tuple (WH m)])++[.tuple [.str "alone", .int i,.tuple (WH m++(WH m).take 1)],.tuple [.str "alone", .int i,.tuple ((WH m).drop 1)],.tuple [.str "alone", .int i,.list (WH m)]]++[.tuple [.str "every", .tuple (WH m)]]
theorem Ak {c:Cl} {ns:List Str} {r:PyData} (h:hdB r "two" 5=false) (h2:hdB r "every" 2=false):lsB c .one ns false r=false:=by
 show (if hdB r "two" 5=true then Bb c ns r else cE c ns false r)=_;rw [h];exact kH h2
theorem kI {m:Nat}:∀ d∈WH m,RD 4 d:=fun d hd=>(Ka hd)▸ka.1
theorem tj {ns:List Str} {i:Nat} {Q:PR->List PyData->Prop} (nd:ns.Nodup) (hl:ns.length<=20) (hi:i < ns.length) (q:Q (.dat (.bool true)) []):WF bA [lsF .one ns,.bool true,.tuple [.str "alone", .int i,.tuple (WH ns.length)],.list (abs ns.length i),CD (oC ns i)] Q:=by
 have ew:∀ i:Int,WH ns.length=WH (ns.zip (isAt ns.length i)).length:=fun i=>by rw [iT]
 have good:∀ c:Cl,(∀ k,(hk:k < ns.length)->gtB c ns[k] (PyData.eqv (.int ((0:Int)+(k:Int))) (.int i))=PyData.eqv (.int ((0:Int)+(k:Int))) (.int i))->lsB c .one ns true (.tuple [.str "alone", .int i,.tuple (WH ns.length)])=true:=fun c hc=>by
  show dq _ _ _=_;rw [ku hi,ew i];refine mw fun p hp=>kj ?_;obtain ⟨k,hk,e⟩:=List.mem_iff_getElem.mp hp;rw [iT] at hk;have:=vX (i:=i) hk;rw [Ie (by rw [iT];exact hk),e] at this;cases this;exact hc k hk
 have bad:∀ y,RD 5 y->prB [] (ns.zip (isAt ns.length (i:Int))) y=false->RO (.tuple [.str "alone", .int i,y])/\lsB [] .one ns true (.tuple [.str "alone", .int i,y])=false:=fun y h1 h2=>⟨jh (sy jn h1),(ku hi).trans h2⟩;refine fb (S:=fun c v r=>lsB c .one ns v r) (fun hr=>dh hr (by omega)) (jh (sy jn (bz (m:=4) kI))) (by simp) (by decide +kernel) (by simp [abs,mr]) (fun r hr=>?_) (good _ fun k hk=>?_) (good _ fun k hk=>rfl) (Ak rfl rfl) (fun p hp=>?_) (by rw [Ic];omega) q
 ·rcases IL.mp hr with hr | hr
  ·rcases IL.mp hr with hr | hr
   ·rcases IL.mp hr with hr | hr
    ·obtain ⟨d,hd,rfl⟩:=Ji.mp hr;have z:=nJ (by omega) hd;exact ⟨jh (sy z.2 (bz (m:=4) kI)),show dq _ _ _=_ by rw [nV,z.1,II]⟩
    ·simp only [Iq,Ja,JK] at hr;rcases hr with rfl | rfl | rfl
     ·refine bad _ (bz (m:=4) fun d hd=>?_) (nK (by rw [iT,Io,JH,IP];omega));rcases IL.mp hd with hd | hd
      ·exact kI d hd
      ·exact kI d (List.mem_of_mem_take hd)
     ·exact bad _ (bz (m:=4) fun d hd=>kI d (Kt hd)) (nK (by rw [iT,JX,IP];omega))
     ·exact bad _ (n0 (m:=4) kI) rfl
   ·rw [Ii.mp hr];exact ⟨fm (bz (m:=4) kI),gY rfl⟩
  ·exact ⟨i9 (sy jn (bz (m:=4) kI)) r hr,gY (nB rfl hr)⟩
 ·exact (vM (List.getElem_mem hk)).trans (GB nd hi hk)
 ·obtain ⟨x,hx,rfl⟩:=Ji.mp hp;obtain ⟨k,hk,rfl⟩:=List.mem_iff_getElem.mp hx;show dq _ _ _=_;rw [ku hi];refine iR (vX hk) (r:=clm) (by rw [Kg,Iy hk]) ?_;rw [aI];refine lh ((k7 ⟨_,hp,rfl⟩).trans ?_);rw [vM hx];exact congrArg _ (GB nd hi hk)
abbrev twR (x y u t:PyData):PyData:=.tuple [.str "two", x,y,u,t]
theorem oN {c:Cl} {ns:List Str} {x y u t:PyData}:lsB c .one ns false (twR x y u t)=(plB x ns.length&&(plB y ns.length&&(!decide (iOf x>=iOf y)&&prB c [(nmA ns x,true),(nmA ns y,true)] (.tuple [u,t])))):=by
 show (if hdB (twR x y u t) "two" 5=true then Bb c ns (twR x y u t) else cE c ns false (twR x y u t))=_;rw [Iy (show hdB (twR x y u t) "two" 5=true from rfl)];rfl
theorem sC {c:Cl} {ns:List Str} {j i:Nat} {u t:PyData} (hj:j < i) (hi:i < ns.length):lsB c .one ns false (twR (.int j) (.int i) u t)=prB c [(ns[j],true),(ns[i],true)] (.tuple [u,t]):=by
 rw [oN,vH (KC hj hi),vH hi,IW,IW];show (!decide ((j:Int)>=(i:Int))&&prB c [(ns.getD (j:Int).toNat "", true),(ns.getD (i:Int).toNat "", true)] (.tuple [u,t]))=_;rw [getD_at (KC hj hi),getD_at hi,IX (by omega)];rfl
theorem vN {c:Cl} {ns:List Str} {j i:Nat} {u t:PyData} (hj:j<=i):lsB c .one ns false (twR (.int i) (.int j) u t)=false:=by
 rw [oN,show decide (iOf (.int i)>=iOf (.int j))=true from Jh (by show (j:Int)<=i;omega),Bool.not_true,II,KL,KL]
noncomputable abbrev tbs (m i j:Nat):List PyData:=[twR (.int i) (.int j) clm clm,twR (.int i) (.int i) clm clm,.tuple [.str "part", .int i,clm]]++[twR (.int j) (.int i) clm pln,twR (.int j) (.int i) pln clm,.tuple [.str "alone", .int i,.tuple (WH m)]]++([.int (-1),.bool (PyData.eqv (.int j) (.int 1)),.none,.int m].map fun d=>twR d (.int i) clm clm)++((mr m i).map fun d=>twR (.int j) d clm clm)
theorem yt {x y u t:PyData} (h1:RD 5 x) (h2:RD 5 y) (h3:RD 5 u) (h4:RD 5 t):∀ d∈[x,y,u,t],RD 5 d:=fun d hd=>by
 simp only [Iq,Ja,JK] at hd;rcases hd with rfl | rfl | rfl | rfl <;> assumption
theorem yG {ns:List Str} {i j:Nat} {Q:PR->List PyData->Prop} (hl:ns.length<=20) (hj:j < i) (hi:i < ns.length) (q:Q (.dat (.bool true)) []):WF bA [lsF .one ns,.bool false,twR (.int j) (.int i) clm clm,.list (tbs ns.length i j),CD [(ns[j],true),(ns[i],true)]] Q:=by
 have lk:∀ p∈[(ns[j],true),(ns[i],true)],p.2=true:=fun p hp=>by
  simp only [Iq,Ja,JK] at hp;rcases hp with rfl | rfl <;> rfl
 have good:∀ c:Cl,(∀ p∈c,p.2=true)->lsB c .one ns false (twR (.int j) (.int i) clm clm)=true:=fun c hc=>by
  rw [sC hj hi];exact mw (l:=[(ns[j],true),(ns[i],true)]) fun p hp=>kj (by rw [lk p hp];exact qH hc)
 have no:∀ r,RO r->hdB r "two" 5=false->hdB r "every" 2=false->RO r/\lsB [] .one ns false r=false:=fun r h1 h2 h3=>⟨h1,Ak h2 h3⟩;have bt:∀ u t,RD 5 u->RD 5 t->prB [] [(ns[j],true),(ns[i],true)] (.tuple [u,t])=false->RO (twR (.int j) (.int i) u t)/\lsB [] .one ns false (twR (.int j) (.int i) u t)=false:=fun u t h1 h2 h3=>⟨jh (yt jn jn h1 h2),(sC hj hi).trans h3⟩;have pn:∀ d,d∈[PyData.int (-1),.bool (PyData.eqv (.int j) (.int 1)),.none,.int ns.length]->d∈mr ns.length j:=fun d hd=>by
  simp only [Iq,Ja,JK] at hd;rcases hd with rfl | rfl | rfl | rfl <;> simp [mr]
 refine fb (S:=fun c v r=>lsB c .one ns v r) (fun hr=>dh hr (by omega)) (jh (yt jn jn eR.1 eR.1)) (by simp) (by decide +kernel) (by simp [tbs,mr]) (fun r hr=>?_) (good _ lk) (good _ fun p hp=>by cases hp) (gY rfl) (fun p hp=>?_) (by simp) q
 ·rcases IL.mp hr with hr | hr
  ·rcases IL.mp hr with hr | hr
   ·rcases IL.mp hr with hr | hr
    ·simp only [IL,Iq,Ja,JK] at hr;rcases hr with (rfl | rfl | rfl) | rfl | rfl | rfl
     ·exact ⟨jh (yt jn jn eR.1 eR.1),vN (J6 hj)⟩
     ·exact ⟨jh (yt jn jn eR.1 eR.1),vN (Il i)⟩
     ·exact no _ (jh (sy jn eR.1)) rfl rfl
     ·exact bt _ _ eR.1 eR.2 (iR (i:=1) rfl rfl dZ)
     ·exact bt _ _ eR.2 eR.1 (iR (i:=0) rfl rfl dZ)
     ·exact no _ (jh (sy jn (bz (m:=4) kI))) rfl rfl
    ·obtain ⟨d,hd,rfl⟩:=Ji.mp hr;have z:=nJ (by omega) (pn d hd);exact ⟨jh (yt z.2 jn eR.1 eR.1),by show lsB _ _ _ _ _=_;rw [oN,z.1,II]⟩
   ·obtain ⟨d,hd,rfl⟩:=Ji.mp hr;have z:=nJ (by omega) hd;exact ⟨jh (yt jn z.2 eR.1 eR.1),by show lsB _ _ _ _ _=_;rw [oN,z.1,II,KL]⟩
  ·exact no r (i9 (yt jn jn eR.1 eR.1) r hr) (nB rfl hr) (nB rfl hr)
 ·have e:∀ {x:Str},(x,true)∈[(ns[j],true),(ns[i],true)]->rst (wJ [(ns[j],true),(ns[i],true)] x (!gtB [(ns[j],true),(ns[i],true)] x true)) x true=false:=fun {x} hx=>by
   refine lh ((k7 ⟨_,hx,rfl⟩).trans ?_);rw [uP (p:=(x,true)) lk hx]
  show lsB _ _ _ _ _=_;rw [sC hj hi];simp only [Iq,Ja,JK] at hp;rcases hp with rfl | rfl
  ·exact iR (i:=0) rfl rfl (aI.trans (e (by simp)))
  ·exact iR (i:=1) rfl rfl (aI.trans (e (by simp)))
theorem put2 {a b:Str} (h:a≠b):putD [(PyData.str a,PyData.bool true)] (.str b) (.bool true)=[(.str a,.bool true),(.str b,.bool true)]:=by
 unfold putD;rw [ID]
 ·rfl
 ·intro z;rw [Kr,List.any_nil,Bool.or_false] at z;exact h (Jc (e8.symm.trans z))
theorem GC {m:Nat} (h:0 < m):WH m=clm :: WH (m - 1):=by
 obtain ⟨k,rfl⟩:∃ k,m=k+1:=⟨m - 1,by omega⟩;rfl
theorem yn {ns:List Str} {Q:PR->List PyData->Prop} (hl:ns.length<=20) (nd:ns.Nodup) (q:Q (.dat (.bool true)) []):WF sh [.list (ns.map .str)] Q:=by
 refine hG rfl ?_;unfold wL;walk_at "pp";refine fN rfl (bu ns .str kpF (fun x _=>?_) ?_)
 ·refine cf ?_;walk_at "pp";exact ⟨rfl,rfl⟩
 walk_at "n";walk_at "pp";refine yO (n:=(ns.map PyData.str).length) rfl (by rw [Ic];omega) ?_;rw [Ic];walk_at "pp";refine ⟨⟨by omega,by omega⟩,?_⟩;refine fP (fun i e=>qf [some (.dat (.list (ns.map .str))),some (.dat (.int ns.length)),some (.dat (lsF .one ns)),some (.dat (.tuple (WH ns.length))),none,none,none,none,none] e) (by walk_at "L") ?_ ?_
 ·rintro i d e hd _;walk_at "l";obtain ⟨rfl,hi⟩:=jX hd;rw [IS] at hi;have ei:atI (ns.map PyData.str) (i:Int)=some (.str (ns.getD i "")):=eZ (by rw [Ik,JL,Ie hi];rfl);have gi:ns.getD i "" = ns[i]:=by rw [JL,Ie hi];rfl
  walk_at "f";walk_at "pp";refine fN rfl (bu ns .str (fun x=>enC (x,oF ns i x)) (fun x _=>?_) ?_)
  ·refine cf ?_;walk_at "pp";refine zl rfl ei ?_;walk_at "pp";exact ⟨rfl,rfl⟩
  have ec:(ns.map fun x=>enC (x,oF ns i x))=(oC ns i).map enC:=by rw [Jl];rfl
  have nd2:((oC ns i).map (·.1)).Nodup:=by rw [Jl];exact (List.map_id ns).symm▸nd
  rw [ec];walk_at "pp";refine m8 (ps:=oC ns i) rfl nd2 (by rw [Ic];omega) ?_;walk_at "pp";refine ah (ds:=[.int ns.length,.int i]) (is:=[]) rfl rfl (i3 (by omega) (by omega) ⟨rfl,?_⟩);walk_at "n";walk_at "pp";refine fN rfl (bu (mr ns.length i) id (fun d=>.tuple [.str "alone", d,.tuple (WH ns.length)]) (fun x _=>?_) ?_)
  ·refine cf ?_;walk_at "pp";exact ⟨rfl,rfl⟩
  walk_at "n";walk_at "pp";rw [kP (by decide)];refine qW (z:=clm) (xs:=WH (ns.length - 1)) (ys:=(WH ns.length).take 1) (by rw [<- GC (by omega)];rfl) (by rw [IQ];simp;omega) ?_;rw [<- GC (by omega)];walk_at "pp";refine xO (xs:=WH ns.length) (i:=1) rfl (by decide) (by rw [IP];omega) ?_;walk_at "pp";refine ah (is:=[]) rfl rfl (tj nd hl hi ⟨rfl,?_⟩);walk_at "pp";refine ⟨⟨by omega,by omega⟩,?_⟩;refine fP (fun _ e=>qf [some (.dat (.list (ns.map .str))),some (.dat (.int ns.length)),some (.dat (lsF .one ns)),some (.dat (.tuple (WH ns.length))),some (.dat (.int i)),none,none,none,none] e) (by walk_at "L") ?_ ?_
  ·rintro j d e hd2 _;walk_at "l";obtain ⟨rfl,hj⟩:=jX hd2;rw [IS] at hj;have ej:atI (ns.map PyData.str) (j:Int)=some (.str ns[j]):=eZ (by rw [Ik,Ie (KC hj hi)];rfl);walk_at "f";walk_at "pp";refine fN rfl (bu [.int (-1),.bool (PyData.eqv (.int j) (.int 1)),.none,.int ns.length] id (fun d=>twR d (.int i) clm clm) (fun x _=>?_) ?_)
   ·refine cf ?_;walk_at "pp";exact ⟨rfl,rfl⟩
   walk_at "n";walk_at "pp";refine ah (ds:=[.int ns.length,.int i]) (is:=[]) rfl rfl (i3 (by omega) (by omega) ⟨rfl,?_⟩);walk_at "n";walk_at "pp";refine fN rfl (bu (mr ns.length i) id (fun d=>twR (.int j) d clm clm) (fun x _=>?_) ?_)
   ·refine cf ?_;walk_at "pp";exact ⟨rfl,rfl⟩
   walk_at "n";walk_at "pp";refine n5 (qG ?_);walk_at "pp";refine zl rfl ej ?_;walk_at "pp";refine qG ?_;walk_at "pp";refine zl rfl ei ?_;rw [gi];walk_at "pp";refine uM ?_;refine ⟨_,_,_,rfl,rfl,rfl,_,_,_,rfl,rfl,rfl,by simp,?_⟩;have ed:List.foldl (fun acc (kv:Key×PyData)=>putD acc (kD kv.1) kv.2) [] [(Sum.inr ns[j],PyData.bool true),(Sum.inr ns[i],PyData.bool true)]=[(.str ns[j],.bool true),(.str ns[i],.bool true)]:=put2 fun z=>Iz hj ((List.getElem_inj nd).mp z);walk_at "pp";refine ah (ds:=[lsF .one ns,.bool false,twR (.int j) (.int i) clm clm,.list (tbs ns.length i j),CD [(ns[j],true),(ns[i],true)]]) (is:=[]) (congrArg (fun k=>some [lsF .one ns,.bool false,twR (.int j) (.int i) clm clm,.list (tbs ns.length i j),PyData.dict k]) ed) rfl (yG hl hj hi ⟨rfl,?_⟩);walk_at "pp";walk_at "L"
  rintro e _;walk_at "l";walk_at "L"
 rintro e _;walk_at "l";walk_at "n";walk_at "pp";refine ah (is:=[]) rfl rfl (fv (w:=.one) (.inr (.inr (.inr ⟨rfl,rfl,rfl⟩))) hl nd ⟨rfl,?_⟩);walk_at "n";walk_at "pp";exact q
theorem zv {x:PyData} (h:RD 5 x):∀ d∈[x],RD 5 d:=fun d hd=>by rw [Ii.mp hd];exact h
theorem pK {c:Cl} {nm:Str} {v:Bool} {y:PyData}:ntB c nm v (.tuple [.str "turn", y])=kpB c nm (!v) y:=by
 unfold ntB;rw [show hdB (.tuple [.str "turn", y]) "turn" 2=true from rfl,IW];rfl
theorem xx {c:Cl} {nm:Str} {v:Bool} {r:PyData} (h:hdB r "turn" 2=false):ntB c nm v r=false:=by
 unfold ntB;rw [h,II]
theorem uJ {c:Cl} {nm:Str} {v:Bool} {r:PyData} (h:PyData.eqv r clm=false):kpB c nm v r=false:=by
 unfold kpB;rw [h,II]
section
variable {nm:Str} {v k:Bool} {Q:PR->List PyData->Prop}
theorem g1:gtB [(nm,k)] nm v=k:=uP (c:=[(nm,k)]) (p:=(nm,k)) (fun p hp=>by rw [Ii.mp hp]) (List.mem_singleton_self _)
theorem g1p {p:Str×Bool} (hp:p∈[(nm,k)]):gtB (wJ [(nm,k)] p.1 (!gtB [(nm,k)] p.1 true)) nm v=!k:=by
 rw [Ii.mp hp,g1];exact k7 ⟨_,List.mem_singleton_self _,rfl⟩
theorem xT (q:Q (.dat (.bool true)) []):WF bA [.tuple [.str "not", kpF nm],.bool v,.tuple [.str "turn", clm],.list [.tuple [.str "turn", pln],.tuple [.str "turn", .str "claim"],clm,pln],CD [(nm,!v)]] Q:=by
 refine fb (S:=fun c v r=>ntB c nm v r) (fun hr=>vt hr) (jh (zv eR.1)) (by simp) (by decide +kernel) (by simp) (fun r hr=>?_) (pK.trans (aI.trans (kj g1))) (pK.trans (aI.trans (kj rfl))) (pK.trans (aI.trans (lh (by rw [g1,Bool.not_not])))) (fun p hp=>pK.trans (aI.trans (lh (g1p hp)))) (by simp) q;rcases IL.mp hr with hr | hr
 ·simp only [Iq,Ja,JK] at hr;rcases hr with rfl | rfl | rfl | rfl
  ·exact ⟨jh (zv eR.2),pK.trans dZ⟩
  ·exact ⟨jh (zv ⟨rfl,by simp [PyData.depth]⟩),pK.trans (uJ (by decide +kernel))⟩
  ·exact ⟨eR.1.ro,xx rfl⟩
  ·exact ⟨eR.2.ro,xx rfl⟩
 ·exact ⟨i9 (zv eR.1) r hr,xx (nB rfl hr)⟩
theorem qT (q:Q (.dat (.bool true)) []):WF bA [kpF nm,.bool v,clm,.list [pln,.tuple [.str "claim", .str nm],.tuple [.str "turn", clm]],CD [(nm,v)]] Q:=by
 refine fb (S:=fun c v r=>kpB c nm v r) (fun hr=>eh hr) eR.1.ro (by simp) (by decide +kernel) (by simp) (fun r hr=>?_) (aI.trans (kj g1)) (aI.trans (kj rfl)) (aI.trans (lh (by rw [g1,Bool.not_not]))) (fun p hp=>aI.trans (lh (g1p hp))) (by simp) q;rcases IL.mp hr with hr | hr
 ·simp only [Iq,Ja,JK] at hr;rcases hr with rfl | rfl | rfl
  ·exact ⟨eR.2.ro,dZ⟩
  ·exact ⟨jh (zv ⟨rfl,by simp [PyData.depth]⟩),uJ (by simp [PyData.eqv,PyData.eqvAll])⟩
  ·exact ⟨jh (zv eR.1),uJ (by decide +kernel)⟩
 ·refine ⟨i9 (fun d hd=>by cases hd) r hr,?_⟩;simp only [exs,Iq,Ja,JK] at hr;rcases hr with rfl | rfl | rfl | rfl | rfl | rfl | rfl | rfl <;> exact uJ (by decide +kernel)
theorem vq {r:PyData} {b v:Bool} (h:PyData.eqv r pln=false):plD r b v=false:=by
 unfold plD;rw [h,II]
theorem plain_all {p:Str×List PyData×Bool} (hp:p∈pls) (q:Q (.dat (.bool true)) []):WF bA [.tuple (.str p.1 :: p.2.1),.bool p.2.2,pln,.list [clm,.tuple [.str "every", .tuple []],.tuple [.str "bound"]],CD []] Q:=by
 have g:plD pln p.2.2 p.2.2=true:=by cases p.2.2 <;> decide +kernel
 refine fb (S:=fun c v r=>plD r p.2.2 v) (fun hr=>uU hp hr) eR.2.ro (by simp) (by decide +kernel) (by simp) (fun r hr=>?_) g g (by show plD pln p.2.2 (!p.2.2)=false;cases p.2.2 <;> decide +kernel) (fun p hp=>by cases hp) (by simp) q;rcases IL.mp hr with hr | hr
 ·simp only [Iq,Ja,JK] at hr;rcases hr with rfl | rfl | rfl
  ·exact ⟨eR.1.ro,vq (by decide +kernel)⟩
  ·exact ⟨fm ⟨rfl,by simp [PyData.depth,PyData.depthAll]⟩,vq (by decide +kernel)⟩
  ·exact ⟨jh (fun d hd=>by cases hd),vq (by decide +kernel)⟩
 ·refine ⟨i9 (fun d hd=>by cases hd) r hr,?_⟩;simp only [exs,Iq,Ja,JK] at hr;rcases hr with rfl | rfl | rfl | rfl | rfl | rfl | rfl | rfl <;> exact vq (by decide +kernel)
end
abbrev plE (p:Str×List PyData×Bool):PyData:=.tuple [.tuple (.str p.1 :: p.2.1),.bool p.2.2]
theorem qj {cs:List Int} {pn:PyData} {x:Str} {xs:List Str} {Q:PR->List PyData->Prop} (hP:lN cs pn) (q:∀ pn',Q (.dat (.bool true)) [pn']):WF i0 [pn,.list ((x :: xs).map .str)] Q:=by
 refine hG rfl ?_;unfold ma;walk_at "pp";refine zl rfl at0 ?_;walk_at "d";intro v pn1 hP1 a0 a1;walk_at "n";walk_at "pp";refine n5 (qG ?_);walk_at "pp";refine uM ?_;refine ⟨_,_,_,rfl,rfl,rfl,by simp,?_⟩;walk_at "pp";refine ah (is:=[]) rfl rfl (xT (nm:=x) (v:=PyData.eqv (.int v) (.int 0)) ⟨rfl,?_⟩);walk_at "pp";refine n5 (qG ?_);walk_at "pp";refine uM ?_;refine ⟨_,_,_,rfl,rfl,rfl,by simp,?_⟩;walk_at "pp";refine ah (is:=[]) rfl rfl (qT (nm:=x) (v:=PyData.eqv (.int v) (.int 0)) ⟨rfl,?_⟩);walk_at "pp";refine fN (ds:=pls.map plE) rfl ?_;refine fP (fun i e=>qf [some (.ino pn1),none,none,none,none,none,none,none] e) (by walk_at "L") ?_ ?_
 ·rintro i d e hd _;walk_at "l";rw [Ik] at hd;obtain ⟨p,hp,rfl⟩:=IK.mp hd;have hp:=IF hp;walk_at "fT";walk_at "pp";refine ah (is:=[]) rfl rfl (plain_all hp ⟨rfl,?_⟩);walk_at "pp";walk_at "L"
 rintro e _;walk_at "l";walk_at "n";walk_at "pp";exact q _
theorem HV (ys:List Str):∃ z zs,ys++[Str.ofString "q"]=z :: zs:=by cases ys <;> exact ⟨_,_,rfl⟩
theorem vF {ns:List Int} (hl:ns.length<=63):WF wM [.list (ns.map .int)] fun pr outs=>pr=.dat (.bool true)/\outs=[]:=by
 refine hG rfl ?_;unfold wF;walk_at "pp";refine ah (is:=[]) rfl rfl (zO ⟨rfl,?_⟩);have hP0:lN (ns.take 63) (vU (ns.take 63) 0 0):=⟨0,0,rfl,by decide,by decide⟩;generalize vU (ns.take 63) 0 0=pn0 at hP0;generalize ns.take 63=cs at hP0;walk_at "n";walk_at "d";intro v pn1 hP1 a0 a1;walk_at "n";walk_at "pp";refine ah (is:=[1]) rfl rfl (vI hP1 (by omega) (by omega) fun xs pn2 hP2 hx nd=>⟨rfl,?_⟩);walk_at "n";walk_at "pz";with_reducible refine zG fun N eN=>?_
 have rest:∀ (ys:List Str) (pn:PyData),ys.length<=20->ys.Nodup->lN cs pn->N ([.dat (.list (ns.map .int)),.own pn,.dat (.list (ys.map .str))]:En):=by
  intro ys pn hy yd hP;rw [eN];walk_at "pp";refine ah (is:=[]) rfl rfl (fv (w:=.all) (.inl ⟨rfl,rfl,rfl⟩) hy yd ⟨rfl,?_⟩);walk_at "pp";refine ah (is:=[]) rfl rfl (kb (w:=.all) (.inl ⟨rfl,rfl,rfl⟩) hy ⟨rfl,?_⟩);walk_at "pp";refine ah (is:=[]) rfl rfl (fv (w:=.some) (.inr (.inl ⟨rfl,rfl,rfl⟩)) hy yd ⟨rfl,?_⟩);walk_at "pp";refine ah (is:=[]) rfl rfl (kb (w:=.some) (.inr (.inl ⟨rfl,rfl,rfl⟩)) hy ⟨rfl,?_⟩);walk_at "pp";refine ah (is:=[]) rfl rfl (fv (w:=.none) (.inr (.inr (.inl ⟨rfl,rfl,rfl⟩))) hy yd ⟨rfl,?_⟩);walk_at "pp";refine ah (is:=[]) rfl rfl (kb (w:=.none) (.inr (.inr ⟨rfl,rfl,rfl⟩)) hy ⟨rfl,?_⟩);walk_at "pp";refine ah (is:=[]) rfl rfl (yn hy yd ⟨rfl,?_⟩);walk_at "pp";refine vV (xs:=ys.map .str) (ys:=[.str "q"]) rfl (by rw [IQ,Ic];simp;omega) ?_;walk_at "pp";have e:ys.map PyData.str++[.str "q"]=(ys++[Str.ofString "q"]).map .str:=by rw [Jx];rfl
  obtain ⟨z,zs,ez⟩:=HV ys;rw [e,ez];refine ah (is:=[1]) rfl rfl (qj hP fun pn'=>⟨rfl,?_⟩);walk_at "pp";exact ⟨rfl,rfl⟩
 walk_at "d";intro u pn3 hP3 b0 b1;walk_at "n";walk_at "pp";refine ig (fun e=>?_) fun e=>?_
 ·walk_at "pp";exact rest [] pn3 (by simp) List.nodup_nil hP3
 ·walk_at "pp";exact rest xs pn3 (by omega) nd hP3
end K44
end
namespace PySem.W.Fast
noncomputable def tw7863841752435210330:=()
noncomputable def tw2820073714998971984:=()
noncomputable def tw3969634433337503112:=()
noncomputable def tw10071329448518603267:=()
noncomputable def tw13657333533550850344:=()
noncomputable def tw9536087403454399854:=()
noncomputable def tw5450622556766561798:=()
noncomputable def tw7409915764568395134:=()
noncomputable def tw7067777945078088246:=()
noncomputable def tw17111506350176667992:=()
noncomputable def tw10667435364563162425:=()
noncomputable def tw16576700416972268456:=()
noncomputable def tw15794274864179861474:=()
noncomputable def tw8798457747332600375:=()
noncomputable def tw11995882239519129896:=()
noncomputable def tw16736530635435073518:=()
noncomputable def tw5349581760394338786:=()
noncomputable def tw5796856703349433718:=()
noncomputable def tw4956364441212977065:=()
noncomputable def tw367752056634523817:=()
noncomputable def tw17667278471641185107:=()
noncomputable def tw7053660777614518364:=()
noncomputable def tw7896649209112462375:=()
noncomputable def tw3251592831185489368:=()
noncomputable def tw8083628365470156770:=()
noncomputable def tw17827832207983538031:=()
noncomputable def tw9489263357314390356:=()
noncomputable def tw11364283845322300406:=()
noncomputable def tw244328211917314101:=()
noncomputable def tw4728921368900118914:=()
noncomputable def tw7298918324810073631:=()
noncomputable def tw13773323167044520727:=()
noncomputable def tw15799629607616201305:=()
noncomputable def tw11081050631241010391:=()
noncomputable def tw12065658619671826288:=()
noncomputable def tw9730878106928209085:=()
noncomputable def tw3397547920160014081:=()
noncomputable def tw10496719925054646924:=()
noncomputable def tw8485739147525900679:=()
noncomputable def tw14308479822726824258:=()
noncomputable def tw6709118677726021761:=()
noncomputable def tw1167673276286134345:=()
noncomputable def tw16927976848818600122:=()
noncomputable def tw13040055500508216753:=()
noncomputable def tw1177064808139166730:=()
noncomputable def tw9529000913319284282:=()
noncomputable def tw9257147044315946095:=()
noncomputable def tw6698127106036153692:=()
noncomputable def tw7750277954137659336:=()
noncomputable def tw4308122295003702308:=()
noncomputable def tw4662319926756277564:=()
noncomputable def tw42616897412485974:=()
noncomputable def tw2976934663223128668:=()
noncomputable def tw9960251420325815701:=()
noncomputable def tw7233255697133044991:=()
noncomputable def tw13728647108823012649:=()
noncomputable def tw1459872279083882956:=()
noncomputable def tw18209381782592374633:=()
noncomputable def tw7734381950779051144:=()
noncomputable def tw17405552399346317425:=()
noncomputable def tw4332732166820353216:=()
noncomputable def tw4362503542208814546:=()
noncomputable def tw15238137989013180086:=()
noncomputable def tw11853583703560153928:=()
noncomputable def tw5870014416711516850:=()
noncomputable def tw5281045524541673952:=()
noncomputable def tw11645810966357687750:=()
noncomputable def tw565067822827587685:=()
noncomputable def tw8232001186848036827:=()
noncomputable def tw18281415510075179930:=()
noncomputable def tw7786848065681195424:=()
noncomputable def tw11260290806241333897:=()
noncomputable def tw7688736393770265592:=()
noncomputable def tw612304788034026626:=()
noncomputable def tw17419199058191394942:=()
noncomputable def tw15928721710693441167:=()
noncomputable def tw6803905589697105211:=()
noncomputable def tw12547796940563173009:=()
noncomputable def tw3016919292477312748:=()
noncomputable def tw4773792786136569721:=()
noncomputable def tw12440857745417908977:=()
noncomputable def tw17066772324553126358:=()
noncomputable def tw13578613629636426828:=()
noncomputable def tw14338023311418952607:=()
noncomputable def tw14833832577514587145:=()
noncomputable def tw11162243245466315978:=()
noncomputable def tw17274449896820689318:=()
noncomputable def tw7530665969744791667:=()
noncomputable def tw12181185847539822710:=()
noncomputable def tw8300712908651697775:=()
noncomputable def tw9847623440450077518:=()
noncomputable def tw2389649274262078619:=()
noncomputable def tw160040833943613878:=()
noncomputable def tw5724318137840873141:=()
noncomputable def tw9520173209496086288:=()
noncomputable def tw6229129989306110321:=()
noncomputable def tw53430516246126253:=()
noncomputable def tw7225806377532841718:=()
noncomputable def tw10502981000959400247:=()
noncomputable def tw6303321933784884856:=()
noncomputable def tw2244500630750972696:=()
noncomputable def tw14056213945710534590:=()
noncomputable def tw12505737515956174902:=()
noncomputable def tw8930070543232306084:=()
noncomputable def tw4054229658077625391:=()
noncomputable def tw3410965149746894867:=()
noncomputable def tw1161403293380370341:=()
noncomputable def tw3124086905724369839:=()
noncomputable def tw16762806334098413743:=()
noncomputable def tw14045125703449803542:=()
noncomputable def tw7101032187302933847:=()
noncomputable def tw14678527617773353163:=()
noncomputable def tw16434673689721514795:=()
noncomputable def tw14986583830119192775:=()
noncomputable def tw9974278329647148794:=()
noncomputable def tw17990984670748094574:=()
noncomputable def tw17840867663208817214:=()
end PySem.W.Fast
open PySem PySem.W PyProof.Rows
set_option maxRecDepth 100000 in
set_option maxHeartbeats 0 in
theorem PySem.Challenge.cw_webshapes_k44_conditions_of_parts_holds : PySem.Challenge.rw_webshapes_k44_conditions_of_parts.Holds := by
  w_on; (refine holds_law L2.ws fun said => ?_); k_head; (case hw => w_witness2)
  k_fill
  refine L2.ur (l := PySem.Challenge.rw_webshapes_k44_conditions_of_parts) (n := 63) (k := 17) (x := "_law_script") (CX := L2.CX0) (sp := K44.qg) rfl (by decide) rfl ⟨rfl, by decide, by decide, rfl⟩ (fun w h Y => PySem.W.km_in_of Y) ?T ?TK ?TH ?F ?S ?C
  case T => exact fun w h Y => List.forall_mem_cons.mpr ⟨⟨codeHd_of_K (km_in_of Y) (by kernel_rfl), km_tabs_of Y 243 (by k_mem)⟩, fun _ h => nomatch h⟩
  case TK => exact fun w => List.forall_mem_cons.mpr ⟨by first | k_is | kernel_rfl, fun _ h => nomatch h⟩
  case TH => exact List.forall_mem_cons.mpr ⟨rfl, fun _ h => nomatch h⟩
  case F =>
    intro w mg fa h KX G hmg;have TT : ∃ t : K44.Adr, (∀ (s : Shared) (u : Value), BindsTo s (t.f 24).2 ⟨[u], []⟩ [("_law_script", u)]) ∧ K44.Txt (L2.KOf KX) mg t := by
      dsimp only [L2.KOf];refine' K44.AY KX G ?D ?n_told ?l_told ?c_told ?z_abs ?z_all ?z_bool ?z_dict ?z_int ?z_isinstance ?z_len ?z_list ?z_range ?z_set ?z_sorted ?z_str ?z_tuple ?z_zip ?g_KINDS ?s_KINDS ?g_LISTS ?s_LISTS
      (case D => (iterate 25 refine L2.Fo KX G (by k_is) (by k_is) (by k_is) (by k_is) (by first | exact fun _ _ _ _ _ _ => L2.us1 fun _ => rfl | exact fun _ _ _ _ _ _ => L2.us2 fun _ _ => rfl | exact fun _ _ _ _ _ _ => L2.us3 fun _ _ _ => rfl | exact fun _ _ _ _ _ _ => L2.us4 fun _ _ _ _ => rfl | exact fun _ _ _ _ _ _ => L2.us5 fun _ _ _ _ _ => rfl | exact fun _ _ _ _ _ _ => L2.us6 fun _ _ _ _ _ _ => rfl) ?_); exact True.intro)
      (case n_told => k_is)
      (case l_told => k_is)
      (case c_told => exact rfl)
      (case z_abs => k_is)
      (case z_all => k_is)
      (case z_bool => k_is)
      (case z_dict => k_is)
      (case z_int => k_is)
      (case z_isinstance => k_is)
      (case z_len => k_is)
      (case z_list => k_is)
      (case z_range => k_is)
      (case z_set => k_is)
      (case z_sorted => k_is)
      (case z_str => k_is)
      (case z_tuple => k_is)
      (case z_zip => k_is)
      (case g_KINDS => k_is)
      (case s_KINDS => k_is)
      (case g_LISTS => k_is)
      (case s_LISTS => k_is)
    obtain ⟨t, hb, T⟩ := TT;have e : some (Value.ref fa) = some (Value.ref (t.f 24).1) := hmg.symm.trans (T.d 24 rfl).m;have e' : fa = (t.f 24).1 := by injection e with e; injection e
    subst e';exact ⟨(t.f 24).2, hb, fun base _ _ => K44.BV T⟩
  case S => exact fun K H a ns hl _ hS => L2.BU rfl hl hS (by obtain ⟨pr, outs, h, rfl, rfl⟩ := K44.vF hl; exact h)
  case C => exact fun _ _ _ _ z => z

