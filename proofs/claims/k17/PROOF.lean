import PyProof.Rows.All
import Wide.All
import OpenK.AllK
import Wide.FinOn
import Lean
import PyProof.EqAt
import PyProof.EqKinds
import PyProof.TupleCall
import PyProof.ConsumeWalk
import PyProof.EqLayable
import PyProof.ReprRoads
import PyProof.StrWalks
import PyProof.SliceStr2
import PyProof.StrLawsIn
import PyProof.StrLawsRepr
import PyProof.SliceList
import PyProof.Rows.FStr
import PyProof.CallStr
import PyProof.Rows.SeqMore
import PyProof.ListStr
import PyProof.Claim2Refuses
import PyProof.Rows.SetFrom
import PyProof.Rows.StrMeet
import PyProof.WalksMore
import PyProof.StrCalls
import PyProof.ListMulRoad
import PyProof.MaxThree
import PyProof.Rows.SumAny
import PyProof.AutoSeq1
import PyProof.StrBlock2
import PyProof.ZipIter
import PyProof.Rows.ZipGen
import PyProof.Rows.CallKwBuiltin
import PyProof.Rows.SortRuns
import KE.KLcPair
import PyProof.DictItems
import PyProof.DictItemsLoops
import KE.KDictOf
import PyProof.AttrMissHeap
import KE.KDictList
import PyProof.DictValues
import PyProof.WalkInts
import PyProof.SetRoads
import PyProof.DictTruth
import KE.KIsAll
import PySem.Challenge.RW_webshapes_k17_whole_forms_put_together
set_option compiler.extract_closed false
set_option bootstrap.genMatcherCode false
set_option Elab.async false
set_option linter.all false
set_option maxRecDepth 100000
set_option maxHeartbeats 4000000
section
open PySem PySem.Spec PyProof.Rows PySem.W
theorem Jk:type_of% @wpAny_bind:=@wpAny_bind
theorem Jl:type_of% @List.getElem?_eq_getElem:=@List.getElem?_eq_getElem
theorem Jm:type_of% @List.length_map:=@List.length_map
theorem Jn:type_of% @wpAny_pure:=@wpAny_pure
theorem Jo:type_of% @List.getElem?_eq_some_iff:=@List.getElem?_eq_some_iff
theorem Jp:type_of% @Heap.get?_push_of_some:=@Heap.get?_push_of_some
theorem Jq:type_of% @List.getElem?_set_ne:=@List.getElem?_set_ne
theorem Jr:type_of% @List.mem_cons_of_mem:=@List.mem_cons_of_mem
theorem Js:type_of% @List.length_append:=@List.length_append
theorem Jt:type_of% @Nat.le_refl:=@Nat.le_refl
theorem Ju:type_of% @List.mem_cons_self:=@List.mem_cons_self
theorem Jv:type_of% @List.mem_singleton:=@List.mem_singleton
theorem Jw:type_of% @List.getElem?_map:=@List.getElem?_map
theorem Jx:type_of% @if_pos:=@if_pos
theorem Jy:type_of% @List.mem_of_getElem?:=@List.mem_of_getElem?
theorem Jz:type_of% @List.size_toArray:=@List.size_toArray
theorem JB:type_of% @Heap.lt_size:=@Heap.lt_size
theorem JD:type_of% @if_neg:=@if_neg
theorem JH:type_of% @List.getElem?_append_right:=@List.getElem?_append_right
theorem JJ:type_of% @List.mem_cons:=@List.mem_cons
theorem JK:type_of% @List.getElem?_set_self:=@List.getElem?_set_self
theorem JL:type_of% @List.length_cons:=@List.length_cons
theorem JM:type_of% @Option.map_eq_some_iff:=@Option.map_eq_some_iff
theorem JN:type_of% @Heap.get?_push_size:=@Heap.get?_push_size
theorem JQ:type_of% @Array.length_toList:=@Array.length_toList
theorem JR:type_of% @Array.getElem?_eq_getElem:=@Array.getElem?_eq_getElem
theorem JU:type_of% @Bool.and_eq_true:=@Bool.and_eq_true
theorem JV:type_of% @List.mem_map:=@List.mem_map
theorem JX:type_of% @Nat.lt_of_lt_of_le:=@Nat.lt_of_lt_of_le
theorem JY:type_of% @Nat.ne_of_lt:=@Nat.ne_of_lt
theorem JZ:type_of% @List.mem_append_right:=@List.mem_append_right
theorem J0:type_of% @List.mem_iff_getElem?:=@List.mem_iff_getElem?
theorem J1:type_of% @wpAny_mono:=@wpAny_mono
theorem J2:type_of% @decide_eq_true:=@decide_eq_true
theorem J3:type_of% @Array.getD_eq_getD_getElem?:=@Array.getD_eq_getD_getElem?
theorem J4:type_of% @Bool.false_eq_true:=@Bool.false_eq_true
theorem J5:type_of% @List.getD_eq_getElem?_getD:=@List.getD_eq_getElem?_getD
theorem J6:type_of% @Nat.le_trans:=@Nat.le_trans
theorem J7:type_of% @List.length_set:=@List.length_set
theorem J8:type_of% @List.length_take:=@List.length_take
theorem J9:type_of% @Nat.zero_le:=@Nat.zero_le
theorem Ka:type_of% @List.getElem?_append_left:=@List.getElem?_append_left
theorem Kb:type_of% @List.map_append:=@List.map_append
theorem Kc:type_of% @wpAny_holding:=@wpAny_holding
theorem Kd:type_of% @Array.getElem?_toList:=@Array.getElem?_toList
theorem Ke:type_of% @PySem.W.mg_none_of:=@PySem.W.mg_none_of
theorem Kf:type_of% @decide_eq_false:=@decide_eq_false
theorem Kg:type_of% @List.mem_append:=@List.mem_append
theorem Kh:type_of% @List.length_range:=@List.length_range
theorem Ki:type_of% @Classical.byContradiction:=@Classical.byContradiction
theorem Kj:type_of% @wpAny_call_entry:=@wpAny_call_entry
theorem Kk:type_of% @sizeLine_eq:=@sizeLine_eq
theorem Kl:type_of% @Heap.get?_update_self:=@Heap.get?_update_self
theorem Km:type_of% @List.map_map:=@List.map_map
theorem Ko:type_of% @List.all_eq_true:=@List.all_eq_true
theorem Kp:type_of% @wpAny_newObj_type:=@wpAny_newObj_type
theorem Kq:type_of% @Option.some.inj:=@Option.some.inj
theorem Kr:type_of% @List.nodup_cons:=@List.nodup_cons
theorem Ks:type_of% @Nat.lt_irrefl:=@Nat.lt_irrefl
theorem Kt:type_of% @List.getElem?_eq_none:=@List.getElem?_eq_none
theorem Ku:type_of% @wpAny_truthy_bool:=@wpAny_truthy_bool
theorem Kv:type_of% @if_false:=@if_false
theorem Kw:type_of% @Bool.false_ne_true:=@Bool.false_ne_true
theorem Kx:type_of% @wpAny_setState_of:=@wpAny_setState_of
theorem Ky:type_of% @Nat.lt_succ_of_lt:=@Nat.lt_succ_of_lt
theorem Kz:type_of% @Nat.le_succ:=@Nat.le_succ
theorem KA:type_of% @List.mem_nil_iff:=@List.mem_nil_iff
theorem KC:type_of% @PySem.W.mg_of:=@PySem.W.mg_of
theorem KD:type_of% @List.take_of_length_le:=@List.take_of_length_le
theorem KH:type_of% @wpAny_setField_rec:=@wpAny_setField_rec
theorem KI:type_of% @wpAny_forIn_list:=@wpAny_forIn_list
theorem KJ:type_of% @List.pairwise_cons:=@List.pairwise_cons
theorem KL:type_of% @List.mem_filterMap:=@List.mem_filterMap
theorem KN:type_of% @Nat.lt_or_ge:=@Nat.lt_or_ge
theorem KO:type_of% @List.mem_of_mem_take:=@List.mem_of_mem_take
theorem KP:type_of% @List.mem_append_left:=@List.mem_append_left
theorem KQ:type_of% @decide_eq_true_eq:=@decide_eq_true_eq
theorem KR:type_of% @Heap.SameBut.update:=@Heap.SameBut.update
theorem KU:type_of% @Heap.get?_update_other:=@Heap.get?_update_other
theorem KW:type_of% @List.length_drop:=@List.length_drop
theorem KY:type_of% @List.take_append_drop:=@List.take_append_drop
theorem KZ:type_of% @wpAny_specialOf:=@wpAny_specialOf
theorem K0:type_of% @wpAny_dictEpoch:=@wpAny_dictEpoch
theorem K1:type_of% @List.foldl_cons:=@List.foldl_cons
theorem K2:type_of% @List.append_nil:=@List.append_nil
theorem K3:type_of% @List.pairwise_map:=@List.pairwise_map
theorem K4:type_of% @List.flatMap_cons:=@List.flatMap_cons
theorem K5:type_of% @Around.under_plainId:=@Around.under_plainId
theorem K6:type_of% @List.toList_toArray:=@List.toList_toArray
theorem K7:type_of% @wpAny_callSpecial?_slot:=@wpAny_callSpecial?_slot
theorem K8:type_of% @PySem.F.plainAttrs_list:=@PySem.F.plainAttrs_list
theorem K9:type_of% @List.take_length:=@List.take_length
theorem La:type_of% @List.mem_flatMap:=@List.mem_flatMap
theorem Lb:type_of% @List.getElem_mem:=@List.getElem_mem
theorem Lc:type_of% @List.any_eq_true:=@List.any_eq_true
theorem Ld:type_of% @F.plain_set_update_loop:=@F.plain_set_update_loop
theorem Le:type_of% @wpAny_rule:=@wpAny_rule
theorem Lg:type_of% @codeAny_builtin:=@codeAny_builtin
theorem Lh:type_of% @if_true:=@if_true
theorem Li:type_of% @Int.toNat_natCast:=@Int.toNat_natCast
theorem Lj:type_of% @Bool.eq_false_iff:=@Bool.eq_false_iff
theorem Lk:type_of% @or_false:=@or_false
theorem Ll:type_of% @List.drop_eq_nil_iff:=@List.drop_eq_nil_iff
theorem Lm:type_of% @Array.toArray_toList:=@Array.toArray_toList
theorem Ln:type_of% @Array.perm_iff_toList_perm:=@Array.perm_iff_toList_perm
theorem Lo:type_of% @List.drop_eq_getElem_cons:=@List.drop_eq_getElem_cons
theorem Lp:type_of% @PySem.mem_of_lookup:=@PySem.mem_of_lookup
theorem Lq:type_of% @List.map_congr_left:=@List.map_congr_left
theorem Lr:type_of% @PyProof.Rows.Reads.keeps:=@PyProof.Rows.Reads.keeps
theorem Lu:type_of% @List.sum_cons:=@List.sum_cons
theorem Lv:type_of% @List.Perm.eq_of_pairwise:=@List.Perm.eq_of_pairwise
theorem Lw:type_of% @Bool.not_true:=@Bool.not_true
theorem Lx:type_of% @PySem.W.kia_one:=@PySem.W.kia_one
theorem Ly:type_of% @List.getElem?_drop:=@List.getElem?_drop
theorem Lz:type_of% @Array.forIn_toList:=@Array.forIn_toList
theorem LA:type_of% @List.set_set:=@List.set_set
theorem LB:type_of% @List.flatten_cons:=@List.flatten_cons
theorem LC:type_of% @List.ext_getElem?:=@List.ext_getElem?
theorem LD:type_of% @List.Perm.refl:=@List.Perm.refl
theorem LF:type_of% @Array.toList_push:=@Array.toList_push
theorem LG:type_of% @PySem.F.slot_dict_get:=@PySem.F.slot_dict_get
theorem LH:type_of% @Nat.le_of_ble_eq_true:=@Nat.le_of_ble_eq_true
theorem LI:type_of% @take_snoc:=@take_snoc
theorem LJ:type_of% @List.Nodup.length_le_of_subset:=@List.Nodup.length_le_of_subset
theorem LK:type_of% @Array.toList_inj:=@Array.toList_inj
theorem LL:type_of% @List.any_cons:=@List.any_cons
theorem LM:type_of% @Bool.true_and:=@Bool.true_and
theorem LN:type_of% @wpAny_typeNameOfWhole_keyiter:=@wpAny_typeNameOfWhole_keyiter
theorem LO:type_of% @F.slot_dict_keyiterator_next:=@F.slot_dict_keyiterator_next
theorem LP:type_of% @List.length_flatMap:=@List.length_flatMap
theorem LQ:type_of% @List.flatMap_append:=@List.flatMap_append
theorem LR:type_of% @wpAny_seqItems:=@wpAny_seqItems
theorem LS:type_of% @wpAny_fieldsOf:=@wpAny_fieldsOf
theorem LU:type_of% @of_decide_eq_false:=@of_decide_eq_false
theorem LV:type_of% @beq_iff_eq:=@beq_iff_eq
theorem LW:type_of% @List.perm_ext_iff_of_nodup:=@List.perm_ext_iff_of_nodup
theorem LX:type_of% @Array.getElem?_eq_some_iff:=@Array.getElem?_eq_some_iff
theorem LY:type_of% @wpAny_dictEntries:=@wpAny_dictEntries
theorem LZ:type_of% @wpAny_typeNameOf_keyiter:=@wpAny_typeNameOf_keyiter
theorem L0:type_of% @PySem.F.type_list_append:=@PySem.F.type_list_append
theorem L3:type_of% @PySem.F.slot_list_append:=@PySem.F.slot_list_append
theorem L4:type_of% @wpAny_pyHash_str:=@wpAny_pyHash_str
theorem L5:type_of% @wpAny_pyHash_int:=@wpAny_pyHash_int
theorem L6:type_of% @List.lookup_cons:=@List.lookup_cons
theorem L7:type_of% @F.entry_set_update_loop:=@F.entry_set_update_loop
theorem L8:type_of% @Option.map_eq_none_iff:=@Option.map_eq_none_iff
theorem L9:type_of% @Nat.le_of_lt:=@Nat.le_of_lt
theorem Ma:type_of% @Array.getElem?_eq_none:=@Array.getElem?_eq_none
theorem Mb:type_of% @wpAny_passesOwn:=@wpAny_passesOwn
theorem Mc:type_of% @Bool.or_eq_true:=@Bool.or_eq_true
theorem Me:type_of% @List.length_replicate:=@List.length_replicate
theorem Mf:type_of% @List.cons_lt_cons_iff:=@List.cons_lt_cons_iff
end
section
namespace L2
abbrev Fg:=PySem.W.Frag
set_option maxRecDepth 100000 in
set_option maxHeartbeats 0 in
theorem ws:PySem.W.OpenLaw.wellSaid PySem.Challenge.rw_webshapes_k17_whole_forms_put_together=true:=by decide +kernel
open PySem PySem.Spec PyProof.Rows
abbrev Key:=Sum Int Str
noncomputable def mD:Key->Value->Bool
 | .inl k,v=>Value.isInt k v
 | .inr x,v=>Value.isStrOf x v
noncomputable def Ho (w:World):Key->Int
 | .inl k=>hashInt k
 | .inr x=>hashStr w x
theorem aK:∀ {k:Key} {v:Value},mD k v=true->(∃ i t,k=Sum.inl i/\v=Value.int i t)\/(∃ x t,k=Sum.inr x/\v=Value.str x t)
 | .inl i,v,h=>by
  obtain ⟨t,e⟩:=Value.isInt_shape (k:=i) (v:=v) h;exact .inl ⟨i,t,rfl,e⟩
 | .inr x,v,h=>by
  obtain ⟨t,e⟩:=Value.isStrOf_shape (x:=x) (v:=v) h;exact .inr ⟨x,t,rfl,e⟩
theorem uq (i:Int) (t:Tok):mD (.inl i) (.int i t)=true:=by simp [mD,Value.isInt]
theorem sa (x:Str) (t:Tok):mD (.inr x) (.str x t)=true:=by simp [mD,Value.isStrOf]
theorem CO (a b:Int):decide ((Sum.inl a:Key)=Sum.inl b)=(a==b):=by
 by_cases e:a=b
 ·subst e;simp
 ·have h:¬(Sum.inl a:Key)=Sum.inl b:=fun q=>e (Sum.inl.inj q);rw [Kf h];exact (beq_eq_false_iff_ne.mpr e).symm
theorem C3 (a b:Str):decide ((Sum.inr a:Key)=Sum.inr b)=decide (a=b):=by
 by_cases e:a=b
 ·subst e;simp
 ·have h:¬(Sum.inr a:Key)=Sum.inr b:=fun q=>e (Sum.inr.inj q);rw [Kf h,Kf e]
theorem Bm (a:Int) (b:Str):decide ((Sum.inl a:Key)=Sum.inr b)=false:=Kf (fun q=>nomatch q)
theorem Ci (a:Str) (b:Int):decide ((Sum.inr a:Key)=Sum.inl b)=false:=Kf (fun q=>nomatch q)
noncomputable def bp (prog:Program) (w:World):PySem.KeyKind prog w Key where
 is:=mD
 hash:=Ho w
 inj:=fun v a b ha hb=>by
  rcases aK ha with ⟨i,t,rfl,rfl⟩ | ⟨x,t,rfl,rfl⟩
  ·rcases aK hb with ⟨j,u,rfl,e⟩ | ⟨y,u,rfl,e⟩
   ·injection e with e1 _;rw [e1]
   ·exact nomatch e
  ·rcases aK hb with ⟨j,u,rfl,e⟩ | ⟨y,u,rfl,e⟩
   ·exact nomatch e
   ·injection e with e1 _;rw [e1]
 byValue:=fun k v h=>by
  rcases aK h with ⟨i,t,rfl,rfl⟩ | ⟨x,t,rfl,rfl⟩ <;> rfl
 pyHash:=fun hv h=>by
  rcases aK hv with ⟨i,t,rfl,rfl⟩ | ⟨x,t,rfl,rfl⟩
  ·exact L5 h
  ·exact L4 h
 eqBool:=fun hu hv h=>by
  rcases aK hu with ⟨i,t,rfl,rfl⟩ | ⟨x,t,rfl,rfl⟩
  ·rcases aK hv with ⟨j,u,rfl,rfl⟩ | ⟨y,u,rfl,rfl⟩
   ·rw [CO] at h;exact wpAny_eqBool_int h
   ·rw [Bm] at h;exact SeqAt.EqAt.int_str i t y u _ _ _ _ h
  ·rcases aK hv with ⟨j,u,rfl,rfl⟩ | ⟨y,u,rfl,rfl⟩
   ·rw [Ci] at h;exact SeqAt.EqAt.str_int x t j u _ _ _ _ h
   ·rw [C3] at h;exact wpAny_eqBool_str h
 «strs»:=fun k x t v h=>by
  rcases aK h with ⟨i,u,rfl,e⟩ | ⟨y,u,rfl,e⟩
  ·exact nomatch e
  ·injection e with e1 _;subst e1;cases v <;> rfl
theorem nj (prog:Program) (w:World) (i:Int) (t:Tok):(bp prog w).is (.inl i) (.int i t)=true:=uq i t
theorem nB (prog:Program) (w:World) (x:Str) (t:Tok):(bp prog w).is (.inr x) (.str x t)=true:=sa x t
end L2
namespace L2
open PySem PySem.Spec PyProof.Rows
inductive V where
 | non | bl (b:Bool) | int (i:Int) | str (x:Str) | byt (b:Array UInt8) | flt (b:UInt64) | ref (a:Addr) | ty (n:String)
 deriving DecidableEq
def RelV:V->Value->Prop
 | .non,u=>u=Value.none
 | .bl b,u=>u=Value.bool b
 | .int i,u=>∃ t,u=Value.int i t
 | .str x,u=>∃ t,u=Value.str x t
 | .byt b,u=>∃ t,u=Value.bytes b t
 | .flt b,u=>∃ t,u=Value.float b t
 | .ref a,u=>u=Value.ref a
 | .ty n,u=>u=Value.type n
abbrev Vals:List V->List Value->Prop:=Paired RelV
theorem Vals.length {xs:List V} {us:List Value} (r:Vals xs us):xs.length=us.length:=Paired.length r
theorem Vals.get:∀ {xs:List V} {us:List Value} {i:Nat} {x:V},Vals xs us->xs[i]?=some x->∃ u,us[i]?=some u/\RelV x u
 | _,_,_,_,.nil,e=>by simp at e
 | _,_,0,_,.cons r _,e=>by simp at e;subst e;exact ⟨_,rfl,r⟩
 | _,_,i+1,x,.cons _ t,e=>by
  obtain ⟨u,h1,h2⟩:=Vals.get (i:=i) (x:=x) t (by simpa using e);exact ⟨u,by simpa using h1,h2⟩
theorem Vals.set (r:RelV x u):∀ {xs:List V} {us:List Value} (i:Nat),Vals xs us->Vals (xs.set i x) (us.set i u)
 | _,_,_,.nil=>.nil
 | _,_,0,.cons _ t=>.cons r t
 | _,_,i+1,.cons q t=>.cons q (Vals.set r i t)
theorem Vals.append:∀ {xs ys:List V} {us ws:List Value},Vals xs us->Vals ys ws->Vals (xs++ys) (us++ws)
 | _,_,_,_,.nil,s=>s
 | _,_,_,_,.cons r t,s=>.cons r (Vals.append t s)
theorem Vals.take:∀ {xs:List V} {us:List Value} (n:Nat),Vals xs us->Vals (xs.take n) (us.take n)
 | _,_,0,_=>.nil
 | _,_,_+1,.nil=>.nil
 | _,_,n+1,.cons r t=>.cons r (Vals.take n t)
theorem Vals.drop:∀ {xs:List V} {us:List Value} (n:Nat),Vals xs us->Vals (xs.drop n) (us.drop n)
 | _,_,0,r=>r
 | _,_,_+1,.nil=>.nil
 | _,_,n+1,.cons _ t=>Vals.drop n t
def GC:Option V->Option Value->Prop
 | some v,some u=>RelV v u
 | none,none=>True
 | _,_=>False
def KV {κ:Type}:List (κ×V)->List (κ×Value)->Prop:=Paired fun (p:κ×V) (q:κ×Value)=>p.1=q.1/\RelV p.2 q.2
noncomputable def kV:Key->V
 | .inl i=>.int i
 | .inr x=>.str x
mutual
noncomputable def az (w:World):PyData->Int
 | .int i=>hashInt i
 | .str x=>hashStr w x
 | .tuple ds=>reduceHash (Builtin.Tuple.tupleHashOf (aV w ds))
 | _=>0
noncomputable def aV (w:World):List PyData->List Int
 | []=>[]
 | d :: ds=>az w d :: aV w ds
end
def y7 (w:World) (x:PyData×V×V) (e:DictEntry):Prop:=e.hash=az w x.1/\RelV x.2.1 e.key/\RelV x.2.2 e.val
inductive HO where
 /-- a list -/
 | lst (xs:List V)
 /-- a tuple (never changes) -/
 | tup (xs:List V)
 /-- a dict whose keys are ints and texts;one whose keys are tuples of ints and texts (the empty one is both) -/
 | dK (kvs:List (Key×V)) | dT (kvs:List (List Key×V))
 /-- a dict by any hashable data: its epoch;the keys as data and as values,what they hold -/
 | dD (ep:Nat) (xs:List (PyData×V×V))
 /-- a set of ints: its members,its size -/
 | set (S:Int->Bool) (n:Nat)
 /-- an instance of the class at C,its dict at dx,its attributes -/
 | ins (C dx:Addr) (fs:List (Str×V))
 /-- the dict of the instance at x -/
 | own (x:Addr)
 /-- the dict of an exception -/
 | xd (fs:List (Str×V))
 /-- a bound method,f of x -/
 | met (f x:Addr)
 /-- a range object lo,lo+1,.. below hi -/
 | rng (lo hi:Int)
 /-- a thing that is known to the object (the script;a dict while a loop walks it): read,never written while it is so -/
 | frz (o:Obj) (u:HO)
 /-- a code object's table -/
 | tbl (ps:Array Value)
 /-- any other thing,by what is true of its one object (a def of one's own: Ai a S n:=HO.ext fun h=>..) -/
 | ext (φ:Heap->Prop)
abbrev Hp:=Addr->Option HO
noncomputable def upd (H:Hp) (a:Addr) (o:HO):Hp:=fun b=>if b=a then some o else H b
theorem ak:upd H a o a=some o:=by unfold upd;rw [Jx rfl]
theorem ax (h:b≠a):upd H a o b=H b:=by unfold upd;rw [JD h]
theorem aN {H:Hp} {a b:Addr} {o:HO} (h:H a=some o) (h':H b=none):a≠b:=by
 intro e;subst e;rw [h] at h';cases h'
section
variable (P:Program) (w:World)
def bJ (H:Hp) (h:Heap) (a:Addr):HO->Prop
 | .lst xs=>xs.length<=sizeLine/\∃ (its:List Value) (n:Nat),Vals xs its/\h.get? a=some { cls:=.type "list", data:=.seq its.toArray n }
 | .tup xs=>xs.length<=sizeLine/\∃ its:List Value,Vals xs its/\IsTup h a its.toArray
 | .dK kvs=>kvs.length<=sizeLine/\(a==sysModules)=false/\∃ vs,KV kvs vs/\h.DictOf (bp P w) a vs
 | .dT kvs=>kvs.length<=sizeLine/\(a==sysModules)=false/\∃ xs:List (List Key×Addr×Value),
   Paired (fun (p:List Key×V) (q:List Key×Addr×Value)=>p.1=q.1/\H q.2.1=some (.tup (p.1.map kV))/\RelV p.2 q.2.2) kvs xs /\
   ∃ o es ep,h.get? a=some o/\o.ExactDict/\o.data=.dict es ep/\es.toList=xs.map (entryOfKey (tupleKind (bp P w)))/\(xs.map (·.1)).Nodup
 | .dD ep xs=>xs.length<=sizeLine/\(a==sysModules)=false/\(xs.map (·.1)).Nodup/\∃ o es,h.get? a=some o/\o.ExactDict/\o.data=.dict es ep/\Paired (y7 w) xs es.toList
 | .set S n=>h.SetOf (intKind P w) a S n
 | .ins C dx fs=>H dx=some (.own a)/\fs.length<=1000/\dx≠a/\h.get? a=some (PySem.W.instObj C dx) /\
   ∃ mA,h.Ns1 dx mA/\(∀ f,GC (fs.lookup f) (mA f))/\PySem.Within mA (fs.map (·.1))
 | .own _=>∃ o,h.get? a=some o
 | .xd fs=>∃ mA,h.Ns1 a mA/\∀ f,GC (fs.lookup f) (mA f)
 | .rng lo hi=>∃ t u v,h.get? a=some { cls:=.type "range", data:=.fields #[.int lo t,.int hi u,.int 1 v] }
 | .frz o u=>h.get? a=some o/\bJ H h a u
 | .tbl ps=>h.get? a=some { cls:=.none,data:=.fields ps }
 | .met f x=>h.get? a=some (PySem.W.methodObj (.ref f) (.ref x))
 | .ext φ=>φ h/\(∃ o,h.get? a=some o)/\∀ h1 h2:Heap,φ h1->(∀ o,h1.get? a=some o->h2.get? a=some o)->φ h2
def HOk (H:Hp) (h:Heap):Prop:=∀ a o,H a=some o->bJ P w H h a o
end
section
variable {P:Program} {w:World} {H H':Hp} {h h':Heap} {a:Addr} {o:HO}
theorem bJ.lt (x:bJ P w H h a o):a < h.objs.size:=by
 cases o with
 | lst xs=>obtain ⟨_,_,_,_,e⟩:=x;exact JB e
 | tup xs=>obtain ⟨_,_,_,p⟩:=x;exact p.lt
 | dK kvs=>obtain ⟨_,_,_,_,o,_,_,e,_⟩:=x;exact JB e
 | dT kvs=>obtain ⟨_,_,_,_,o,_,_,e,_⟩:=x;exact JB e
 | dD ep xs=>obtain ⟨_,_,_,o,_,e,_⟩:=x;exact JB e
 | set S n=>obtain ⟨o,_,_,_,e,_⟩:=x;exact JB e
 | ins C dx fs=>obtain ⟨_,_,_,e,_⟩:=x;exact JB e
 | own y=>obtain ⟨_,e⟩:=x;exact JB e
 | xd fs=>obtain ⟨_,⟨_,_,_,e,_⟩,_⟩:=x;exact JB e
 | rng lo hi=>obtain ⟨_,_,_,e⟩:=x;exact JB e
 | frz ob u=>obtain ⟨e,_⟩:=x;exact JB e
 | tbl ps=>exact JB (show h.get? a=some _ from x)
 | met f y=>exact JB (show h.get? a=some _ from x)
 | ext φ=>obtain ⟨_,⟨_,e⟩,_⟩:=x;exact JB e
theorem Paired.Hj {α β:Type} {F G:α->β->Prop}:∀ {l₁:List α} {l₂:List β},Paired F l₁ l₂->(∀ a b,F a b->G a b)->Paired G l₁ l₂
 | _,_,.nil,_=>.nil
 | _,_,.cons r t,f=>.cons (f _ _ r) (Paired.Hj t f)
theorem bJ.oN (x:bJ P w H h a o) (k:∀ b u,(b=a\/H b=some (.own a))->h.get? b=some u->h'.get? b=some u)
  (ho:∀ b,H b=some (.own a)->H' b=some (.own a)) (ht:∀ b xs,H b=some (.tup xs)->H' b=some (.tup xs)):bJ P w H' h' a o:=by
 induction o with
 | lst xs=>obtain ⟨z,its,n,r,e⟩:=x;exact ⟨z,its,n,r,k _ _ (.inl rfl) e⟩
 | tup xs=>obtain ⟨z,its,r,ob,e,c⟩:=x;exact ⟨z,its,r,ob,k _ _ (.inl rfl) e,c⟩
 | dK kvs=>obtain ⟨z,y,vs,r,ob,es,ep,e,c⟩:=x;exact ⟨z,y,vs,r,ob,es,ep,k _ _ (.inl rfl) e,c⟩
 | dT kvs =>
  obtain ⟨z,y,xs,r,ob,es,ep,e,c⟩:=x;exact ⟨z,y,xs,Paired.Hj r fun p q z=>⟨z.1,ht _ _ z.2.1,z.2.2⟩,ob,es,ep,k _ _ (.inl rfl) e,c⟩
 | dD ep xs=>obtain ⟨z,y,nd,ob,es,e,c⟩:=x;exact ⟨z,y,nd,ob,es,k _ _ (.inl rfl) e,c⟩
 | set S n=>obtain ⟨ob,es,ep,t,e,c⟩:=x;exact ⟨ob,es,ep,t,k _ _ (.inl rfl) e,c⟩
 | ins C dx fs =>
  obtain ⟨d,z,ne,e,mA,⟨od,es,ep,e2,c⟩,r⟩:=x;exact ⟨ho _ d,z,ne,k _ _ (.inl rfl) e,mA,⟨od,es,ep,k _ _ (.inr d) e2,c⟩,r⟩
 | own y=>obtain ⟨ob,e⟩:=x;exact ⟨ob,k _ _ (.inl rfl) e⟩
 | xd fs=>obtain ⟨mA,⟨od,es,ep,e,c⟩,r⟩:=x;exact ⟨mA,⟨od,es,ep,k _ _ (.inl rfl) e,c⟩,r⟩
 | rng lo hi=>obtain ⟨t,u,v,e⟩:=x;exact ⟨t,u,v,k _ _ (.inl rfl) e⟩
 | frz ob u ih=>obtain ⟨e,q⟩:=x;exact ⟨k _ _ (.inl rfl) e,ih q⟩
 | tbl ps =>
  have e:h.get? a=some { cls:=.none,data:=.fields ps }:=x;show h'.get? a=some { cls:=.none,data:=.fields ps };exact k a _ (.inl rfl) e
 | met f y =>
  have e:h.get? a=some (PySem.W.methodObj (.ref f) (.ref y)):=x;show h'.get? a=some (PySem.W.methodObj (.ref f) (.ref y));exact k a _ (.inl rfl) e
 | ext φ=>obtain ⟨p,⟨o,e⟩,st⟩:=x;exact ⟨st _ _ p fun o q=>k _ _ (.inl rfl) q,⟨o,k _ _ (.inl rfl) e⟩,st⟩
theorem HOk.lt (x:HOk P w H h) (e:H a=some o):a < h.objs.size:=(x a o e).lt
theorem HOk.fresh (x:HOk P w H h) (e:h.objs.size<=a):H a=none:=by
 cases q:H a with
 | none=>rfl
 | some u=>exact absurd (JX (x.lt q) e) (Ks _)
theorem HOk.kept (x:HOk P w H h) (k:∀ b u,h.get? b=some u->h'.get? b=some u):HOk P w H h':=fun a o e =>
 (x a o e).oN (fun b u _ q=>k b u q) (fun _ q=>q) fun _ _ q=>q
theorem HOk.laid (x:HOk P w H h) (k:∀ b u,h.get? b=some u->h'.get? b=some u) (hp:h.objs.size<=a) (new:bJ P w (upd H a o) h' a o):HOk P w (upd H a o) h':=fun b u e=>by
 have hn:=x.fresh hp;by_cases hb:b=a
 ·subst hb;rw [ak] at e;cases e;exact new
 ·rw [ax hb] at e;exact (x b u e).oN (fun c v _ q=>k c v q) (fun c q=>by rw [ax (aN q hn)];exact q) fun c xs q=>by rw [ax (aN q hn)];exact q
end
def Rd (H:Hp) (a:Addr) (u:HO):Prop:=H a=some u\/∃ o,H a=some (.frz o u)
theorem Rd.ok (r:Rd H a u) (x:HOk P w H h):bJ P w H h a u:=by
 rcases r with r | ⟨o,r⟩
 ·exact x a u r
 ·obtain ⟨_,q⟩:=x a _ r;exact q
def Mut:Option HO->Prop
 | some (.lst _)=>True
 | some (.dK _)=>True
 | some (.dT _)=>True
 | some (.dD _ _)=>True
 | some (.set _ _)=>True
 | some (.ins _ _ _)=>True
 | some (.ext _)=>True
 | _=>False
section
variable {P:Program} {w:World} {H:Hp} {h h':Heap} {x e:Addr} {o':HO}
theorem HOk.write (ok:HOk P w H h) (mu:Mut (H x)) (he:e=x\/H e=some (.own x)) (k:∀ b u,b≠e->h.get? b=some u->h'.get? b=some u) (heo:∃ u,h'.get? e=some u)
  (new:bJ P w (upd H x o') h' x o'):HOk P w (upd H x o') h':=fun b u q=>by
 have nown:∀ c y,H c=some (.own y)->c≠x:=fun c y r z=>by subst z;rw [r] at mu;exact mu
 have ntup:∀ c xs,H c=some (.tup xs)->c≠x:=fun c xs r z=>by subst z;rw [r] at mu;exact mu
 by_cases hb:b=x
 ·subst hb;rw [ak] at q;cases q;exact new
 ·rw [ax hb] at q;by_cases hbe:b=e
  ·have q':H b=some (.own x):=by
    rcases he with z | z
    ·exact absurd (hbe.trans z) hb
    ·rw [hbe];exact z
   rw [q] at q';cases q';obtain ⟨v,hv⟩:=heo;exact ⟨v,by rw [hbe];exact hv⟩
  ·refine (ok b u q).oN (fun c v hc r=>k c v ?_ r) (fun c r=>by rw [ax (nown c b r)];exact r) fun c xs r=>by rw [ax (ntup c xs r)];exact r
   rcases hc with rfl | hc
   ·exact hbe
   ·rintro rfl;rcases he with z | z
    ·exact nown c b hc z
    ·rw [hc] at z;cases z;exact hb rfl
end
structure Un (fs ex:List Addr) (H H':Hp) (h h':Heap):Prop where
 keep:∀ b o,h.get? b=some o->H b=none->b ∉ fs->b ∉ ex->h'.get? b=some o
 slot:∀ b o,h.get? b=some o->H b=none->b∈fs->b ∉ ex->∃ sl,h'.get? b=some { o with slots:=sl }
 free:∀ b o,h.get? b=some o->H b=none->b ∉ ex->H' b=none
 there:∀ b o,h.get? b=some o->b ∉ ex->∃ o',h'.get? b=some o'
 uY:∀ b xs,H b=some (.tup xs)->H' b=some (.tup xs)
 uB:∀ b o u,H b=some (.frz o u)->H' b=some (.frz o u)
 wF:∀ b ps,H b=some (.tbl ps)->∃ more,H' b=some (.tbl (ps++more))
section
variable {fs fs' ex ex':List Addr} {H H1 H2:Hp} {h h1 h2 h':Heap} {a x e:Addr} {o:HO}
theorem Un.any (u:Un fs ex H H1 h h1) {b:Addr} {ob:Obj} (q:h.get? b=some ob) (n:H b=none) (hx:b ∉ ex):∃ sl,h1.get? b=some { ob with slots:=sl }:=by
 by_cases hb:b∈fs
 ·exact u.slot b ob q n hb hx
 ·exact ⟨ob.slots,u.keep b ob q n hb hx⟩
theorem Un.kept (k:∀ b u,h.get? b=some u->h'.get? b=some u):Un fs ex H H h h' :=
 ⟨fun b ob q _ _ _=>k b ob q,fun b ob q _ _ _=>⟨ob.slots,k b ob q⟩,fun _ _ _ n _=>n,fun b ob q _=>⟨ob,k b ob q⟩,fun _ _ q=>q,fun _ _ _ q=>q,fun _ ps q=>⟨#[],by rw [q];simp⟩⟩
theorem Un.refl:Un fs ex H H h h:=Un.kept fun _ _ q=>q
theorem Un.laid (k:∀ b u,h.get? b=some u->h'.get? b=some u) (hp:h.objs.size<=a) (hn:H a=none):Un fs ex H (upd H a o) h h' where
 keep:=fun b u q _ _ _=>k b u q
 slot:=fun b u q _ _ _=>⟨u.slots,k b u q⟩
 free:=fun b u q n _=>by rw [ax (JY (JX (JB q) hp))];exact n
 there:=fun b u q _=>⟨u,k b u q⟩
 uY:=fun b xs q=>by rw [ax (aN q hn)];exact q
 uB:=fun b u xs q=>by rw [ax (aN q hn)];exact q
 wF:=fun b ps q=>⟨#[],by rw [ax (aN q hn),q];simp⟩
theorem Un.write (mu:Mut (H x)) (he:e=x\/H e=some (.own x)) (k:∀ b u,b≠e->h.get? b=some u->h'.get? b=some u) (heo:∃ u,h'.get? e=some u):Un fs ex H (upd H x o) h h':=by
 have hx:∀ b,H b=none->b≠x:=fun b n z=>by subst z;rw [n] at mu;exact mu
 have hb:∀ b,H b=none->b≠e:=fun b n z=>by
  subst z;rcases he with r | r
  ·exact hx b n r
  ·rw [n] at r;cases r
 have hm:∀ b u,H b=some u->¬Mut (some u)->b≠x:=fun b u q nm z=>by subst z;rw [q] at mu;exact nm mu
 refine ⟨fun b u q n _ _=>k b u (hb b n) q,fun b u q n _ _=>⟨u.slots,k b u (hb b n) q⟩,fun b u q n _=>by rw [ax (hx b n)];exact n,fun b u q _=>?_,
  fun b xs q=>by rw [ax (hm b _ q fun z=>z)];exact q,fun b u xs q=>by rw [ax (hm b _ q fun z=>z)];exact q,fun b ps q=>⟨#[],by rw [ax (hm b _ q fun z=>z),q];simp⟩⟩
 by_cases hbe:b=e
 ·subst hbe;exact heo
 ·exact ⟨u,k b u hbe q⟩
end
noncomputable def trk (h:Heap) (H:Hp):List Addr:=(List.range h.objs.size).filter fun a=>(H a).isSome
noncomputable def wH (h:Heap) (H:Hp):Heap:=PySem.W.hideAll h (trk h H)
theorem tN (h:Heap) (H:Hp):(wH h H).objs.size=h.objs.size:=PySem.W.hideAll_size _ _
theorem wG (e:h.get? b=some o) (n:H b=none):(wH h H).get? b=some o :=
 PySem.W.hideAll_get _ e fun hm=>by
  have q:(H b).isSome=true:=(List.mem_filter.mp hm).2;rw [n] at q;simp at q
theorem xY (e:(wH h H).get? b=some o):h.get? b=some o/\H b=none:=by
 have e':h.get? b=some o:=PySem.W.of_hideAll (trk h H) e;refine ⟨e',?_⟩;cases q:H b with
 | none=>rfl
 | some x =>
  have hm:b∈trk h H:=List.mem_filter.mpr ⟨List.mem_range.mpr (JB e'),by simp [q]⟩;have z:(wH h H).get? b=none:=PySem.W.hideAll_none (trk h H) hm;rw [z] at e;cases e
noncomputable def x4 (g h:Heap) (L:Addr):List (Addr×Obj):=(List.range h.objs.size).filterMap fun a=>if a=L\/(g.get? a).isSome=true then none else (h.get? a).map fun o=>(a,o)
noncomputable def rest (g h:Heap) (L d:Addr):List (Addr×Obj):=(x4 g h L).filter fun p=>decide (p.1≠d)
end L2
namespace L2
open PySem PySem.Spec PyProof.Rows
structure Mod (K:Fg) (mg:Str->Option Value) (base:Heap):Prop where
 kin:K.In base
 glob:base.Ns mainGlobals mg
 blt:∃ mb,base.Ns builtinsNs mb/\∀ x:Str,x ≠ "__name__" -> mb x=bootBuiltins x
 nolimit:base.NoLimit
structure Cx where
 prog:Program
 w:World
 K:Fg
 mg:Str->Option Value
 base:Heap
 A:Around
 N:List Str
 ZY:Shared
 ZW:Hp
 env:Env
 outer:List Env
 stack:List Env
 ex:List Addr
 fn:Str->Bool
 calm:Bool
 pn:List (Addr×Obj)
 xe:Value->Shared->Prop
noncomputable def frs (l:List Env):List Addr:=l.filterMap (·.frame)
noncomputable abbrev Cx.fs (X:Cx):List Addr:=frs X.outer
def Vis (sc:Scope) (x:Str):Prop:=sc.names.lookup x=some .local\/sc.names.lookup x=some .cell\/sc.names.lookup x=some .free
def Loc (sc:Scope) (x:Str):Prop:=sc.names.lookup x=some .local\/sc.names.lookup x=some .cell
def Look (env:Env) (h:Heap) (m:Str->Option Value) (x:Str) (u:Value):Prop :=
 (env.kindOf x=some .local/\m x=some u)\/((env.kindOf x=some .cell\/env.kindOf x=some .free)/\∃ c,env.cells.lookup x=some c/\h.IsCell c (some u))
structure Cx.Ok (X:Cx):Prop where
 mod:Mod X.K X.mg X.base
 kind:X.env.scope.kind=.function
 glob:X.env.globals=mainGlobals
 blt:X.env.builtins=builtinsNs
 above:X.ZY.heap.objs.size<=X.env.locals
 inj:∀ x y c,X.env.cells.lookup x=some c->X.env.cells.lookup y=some c->x=y
 has:∀ x,(X.env.kindOf x=some .cell\/X.env.kindOf x=some .free)->∃ c,X.env.cells.lookup x=some c
 cab:∀ x c,X.fn x=true->X.env.cells.lookup x=some c->X.ZY.heap.objs.size<=c
 hd:X.calm=true->X.A.handled=none
 frames:X.A.frames=some X.stack
 stk:X.stack=X.outer\/(X.stack=X.env :: X.outer/\X.env.frame=some X.env.locals)
 exf:∀ b∈X.ex,b≠X.env.locals/\∀ x c,X.env.cells.lookup x=some c->c≠b
 bs:∀ b o,X.base.get? b=some o->X.ZY.heap.get? b=some o/\X.ZW b=none
 bsz:X.base.objs.size<=X.ZY.heap.objs.size
 Ax:∀ b o,X.base.get? b=some o->b ∉ X.ex
 DP:∀ b∈X.ex,b ∉ X.fs
 r8:X.ZY.heap.FunFrames X.base X.outer
 frf:∀ b∈X.fs,X.ZW b=none
structure Inv (X:Cx) (pins:List (Addr×Obj)) (Z:List (Option V)) (H:Hp) (s:Shared):Prop where
 ok:X.Ok
 os:s.os=X.ZY.os
 bare:AllBare s.gens
 base:Un X.fs X.ex X.ZW H X.ZY.heap s.heap
 loc:∃ m,s.heap.Ns X.env.locals m/\∀ (i:Nat) (x:Str) (v:V),X.N[i]?=some x->Z[i]?=some (some v)->Vis X.env.scope x->∃ u,RelV v u/\Look X.env s.heap m x u
 cell:∀ x c,X.env.cells.lookup x=some c->∃ v,s.heap.IsCell c v
 free:H X.env.locals=none
 gG:∀ x c,X.env.cells.lookup x=some c->H c=none
 pin:∀ p∈X.pn++pins,s.heap.get? p.1=some p.2/\H p.1=none/\p.1≠X.env.locals/\p.1 ∉ X.fs/\∀ v,p.2.data≠.cell v
 hok:HOk X.prog X.w H s.heap
 len:Z.length=X.N.length
section
variable {X:Cx} {pins:List (Addr×Obj)} {Z:List (Option V)} {H H':Hp} {s:Shared} {h':Heap}
theorem Cx.Ok.Im (ok:X.Ok) (e:X.base.get? b=some o):b ∉ X.fs:=fun hb=>by
 have:=(ok.r8.mem hb).1;rw [e] at this;cases this
theorem Inv.bs (I:Inv X pins Z H s):∀ b o,X.base.get? b=some o->s.heap.get? b=some o/\H b=none:=fun b o e =>
 ⟨I.base.keep b o (I.ok.bs b o e).1 (I.ok.bs b o e).2 (I.ok.Im e) (I.ok.Ax b o e),I.base.free b o (I.ok.bs b o e).1 (I.ok.bs b o e).2 (I.ok.Ax b o e)⟩
theorem Inv.bk (I:Inv X pins Z H s):∀ b o,X.base.get? b=some o->s.heap.get? b=some o:=fun b o e=>(I.bs b o e).1
theorem Inv.mod (I:Inv X pins Z H s):Mod X.K X.mg X.base:=I.ok.mod
theorem Inv.kIn (I:Inv X pins Z H s):X.K.In s.heap:=I.ok.mod.kin.keeps I.bk
theorem Inv.lt (I:Inv X pins Z H s):X.env.locals < s.heap.objs.size:=let ⟨_,hn,_⟩:=I.loc;hn.lt
theorem Inv.sz (I:Inv X pins Z H s):X.ZY.heap.objs.size<=s.heap.objs.size:=J6 I.ok.above (L9 I.lt)
theorem Inv.Fp (I:Inv X pins Z H s) (h:s.heap.objs.size<=a):a ∉ X.fs:=fun hb=>by
 obtain ⟨_,o,ho,_⟩:=I.ok.r8.mem hb;exact absurd (JX (JB ho) (J6 I.sz h)) (Ks _)
theorem Inv.cne (I:Inv X pins Z H s):∀ x c,X.env.cells.lookup x=some c->c≠X.env.locals:=fun x c e z=>by
 obtain ⟨v,o,ho,hd⟩:=I.cell x c e;obtain ⟨m,⟨o',es,ep,ho',hd',_⟩,_⟩:=I.loc;rw [z,ho'] at ho;cases ho;rw [hd'] at hd;cases hd
theorem Inv.r8 (I:Inv X pins Z H s):s.heap.FunFrames X.base X.outer:=by
 have all:∀ (l:List Env),(∀ b∈frs l,b∈X.fs)->X.ZY.heap.FunFrames X.base l->s.heap.FunFrames X.base l:=by
  intro l;induction l with
  | nil=>intro _ _;trivial
  | cons env r ih =>
   intro hs hl;obtain ⟨hk,⟨L,o,hf,hn,ho,hd⟩,hr⟩:=hl;have hL:L∈X.fs:=hs L (by unfold frs;rw [List.filterMap_cons,hf];exact Ju);obtain ⟨sl,e⟩:=I.base.slot L o ho (I.ok.frf L hL) hL fun z=>I.ok.DP L z hL;exact ⟨hk,⟨L,_,hf,hn,e,hd⟩,ih (fun b hb=>hs b (by unfold frs;rw [List.filterMap_cons,hf];exact Jr _ hb)) hr⟩
 exact all X.outer (fun _ hb=>hb) I.ok.r8
theorem Inv.stack (I:Inv X pins Z H s):s.heap.FunFrames X.base X.stack:=by
 rcases I.ok.stk with e | ⟨e,hf⟩
 ·rw [e];exact I.r8
 ·rw [e];obtain ⟨m,hn,_⟩:=I.loc;refine .cons (by rw [I.ok.kind];decide) hf hn ?_ I.r8;exact Heap.get?_none_of_le (J6 I.ok.bsz I.ok.above)
theorem Inv.tH (I:Inv X pins Z H s):∀ b∈frs X.stack,b∈X.env.locals :: X.fs:=fun b hb=>by
 rcases I.ok.stk with e | ⟨e,hf⟩
 ·rw [e] at hb;exact Jr _ hb
 ·rw [e] at hb;unfold frs at hb;rw [List.filterMap_cons,hf] at hb;exact hb
theorem Inv.qW (I:Inv X pins Z H s):∀ b∈frs X.stack,H b=none:=fun b hb=>by
 rcases JJ.mp (I.tH b hb) with e | hb
 ·rw [e];exact I.free
 ·obtain ⟨_,o,ho,_⟩:=I.ok.r8.mem hb;exact I.base.free b o ho (I.ok.frf b hb) fun z=>I.ok.DP b z hb
theorem Inv.step {g':Array GenState} {t':Nat} {d':Drawn} {ch:List Addr} (I:Inv X pins Z H s)
  (hch:∀ b∈ch,(b∈X.ex\/X.ZY.heap.objs.size<=b)/\b≠X.env.locals/\(∀ x c,X.env.cells.lookup x=some c->c≠b)/\∀ p∈X.pn++pins,p.1≠b)
  (keep:∀ b o,b≠X.env.locals->b ∉ X.fs->b ∉ ch->s.heap.get? b=some o->H b=none->h'.get? b=some o)
  (slot:∀ b o,b≠X.env.locals->b∈X.fs->b ∉ ch->s.heap.get? b=some o->H b=none->∃ sl,h'.get? b=some { o with slots:=sl }) (free:∀ b o,b ∉ ch->s.heap.get? b=some o->H b=none->H' b=none)
  (there:∀ b o,b ∉ ch->s.heap.get? b=some o->∃ o',h'.get? b=some o')
  (uY:∀ b xs,H b=some (.tup xs)->H' b=some (.tup xs)) (uB:∀ b o u,H b=some (.frz o u)->H' b=some (.frz o u)) (wF:∀ b ps,H b=some (.tbl ps)->∃ more,H' b=some (.tbl (ps++more)))
  (ns:∀ m,s.heap.Ns X.env.locals m->h'.Ns X.env.locals m) (hok:HOk X.prog X.w H' h') (hg:AllBare g') :
  Inv X pins Z H' { s with heap:=h',gens:=g',drawn:=d',toks:=t' }:=by
 have neL:∀ b o,X.ZY.heap.get? b=some o->b≠X.env.locals:=fun b o e=>JY (JX (JB e) I.ok.above);have neC:∀ b o,X.ZY.heap.get? b=some o->b ∉ X.ex->b ∉ ch:=fun b o e hx hb=>by
  rcases (hch b hb).1 with z | z
  ·exact hx z
  ·exact absurd (JX (JB e) z) (Ks _)
 have cellK:∀ x c,X.env.cells.lookup x=some c->∀ v,s.heap.IsCell c v->h'.IsCell c v:=fun x c e v ⟨o,ho,hd⟩=>by
  have nch:c ∉ ch:=fun z=>(hch c z).2.2.1 x c e rfl;by_cases hc:c∈X.fs
  ·obtain ⟨sl,q⟩:=slot c o (I.cne x c e) hc nch ho (I.gG x c e);exact ⟨_,q,hd⟩
  ·exact ⟨o,keep c o (I.cne x c e) hc nch ho (I.gG x c e),hd⟩
 refine ⟨I.ok,I.os,hg,⟨fun b o e n hb hx=>?_,fun b o e n hb hx=>?_,fun b o e n hx=>?_,fun b o e hx=>?_,fun b xs e=>uY b xs (I.base.uY b xs e),fun b o xs e=>uB b o xs (I.base.uB b o xs e),fun b ps e=>?_⟩,?_,fun x c e=>?_,?_,fun x c e=>?_,fun p hp=>?_,hok,I.len⟩
 ·exact keep b o (neL b o e) hb (neC b o e hx) (I.base.keep b o e n hb hx) (I.base.free b o e n hx)
 ·obtain ⟨sl,e1⟩:=I.base.slot b o e n hb hx;obtain ⟨sl',e2⟩:=slot b _ (neL b o e) hb (neC b o e hx) e1 (I.base.free b o e n hx);exact ⟨sl',e2⟩
 ·obtain ⟨o',e1⟩:=I.base.there b o e hx;exact free b o' (neC b o e hx) e1 (I.base.free b o e n hx)
 ·obtain ⟨o',e1⟩:=I.base.there b o e hx;exact there b o' (neC b o e hx) e1
 ·obtain ⟨m1,e1⟩:=I.base.wF b ps e;obtain ⟨m2,e2⟩:=wF b _ e1;exact ⟨m1++m2,by rw [e2,Array.append_assoc]⟩
 ·obtain ⟨m,hn,hl⟩:=I.loc;refine ⟨m,ns m hn,fun i x v e1 e2 e3=>?_⟩;obtain ⟨u,r,l⟩:=hl i x v e1 e2 e3;refine ⟨u,r,?_⟩;rcases l with l | ⟨k,c,e,z⟩
  ·exact .inl l
  ·exact .inr ⟨k,c,e,cellK x c e _ z⟩
 ·obtain ⟨v,z⟩:=I.cell x c e;exact ⟨v,cellK x c e v z⟩
 ·obtain ⟨m,⟨o,_,_,ho,_⟩,_⟩:=I.loc;exact free _ o (fun z=>(hch _ z).2.1 rfl) ho I.free
 ·obtain ⟨v,o,ho,hd⟩:=I.cell x c e;exact free c o (fun z=>(hch c z).2.2.1 x c e rfl) ho (I.gG x c e)
 ·obtain ⟨e,n,ne,nf,d⟩:=I.pin p hp;have nch:p.1 ∉ ch:=fun z=>(hch p.1 z).2.2.2 p hp rfl;exact ⟨keep p.1 p.2 ne nf nch e n,free p.1 p.2 nch e n,ne,nf,d⟩
theorem Inv.un {t':Nat} (I:Inv X pins Z H s) (u:Un X.fs [] H H' s.heap h') (hok:HOk X.prog X.w H' h'):Inv X pins Z H' { s with heap:=h',toks:=t' }:=by
 obtain ⟨m,⟨o,es,ep,ho,r⟩,_⟩:=id I.loc;obtain ⟨sl,hL⟩:=u.any ho I.free (by simp)
 exact I.step (g':=s.gens) (d':=s.drawn) (ch:=[]) (fun _ z=>nomatch z) (fun b o _ hb _ e n=>u.keep b o e n hb (by simp)) (fun b o _ hb _ e n=>u.slot b o e n hb (by simp)) (fun b o _ e n=>u.free b o e n (by simp)) (fun b o _ e=>u.there b o e (by simp)) u.uY u.uB u.wF (fun m' hm=>by
  obtain ⟨o',es',ep',ho',r'⟩:=hm;rw [ho] at ho';cases ho'
  exact ⟨_,es',ep',hL,r'⟩) hok I.bare
theorem Inv.call {g':Array GenState} {t':Nat} {d':Drawn} {ch:List Addr} (I:Inv X pins Z H s) (u:Un (frs X.stack) ch H H' s.heap h') (hok:HOk X.prog X.w H' h') (hg:AllBare g')
  (hch:∀ b∈ch,(b∈X.ex\/X.ZY.heap.objs.size<=b)/\b≠X.env.locals/\(∀ x c,X.env.cells.lookup x=some c->c≠b)/\∀ p∈X.pn++pins,p.1≠b) :
  Inv X pins Z H' { s with heap:=h',gens:=g',drawn:=d',toks:=t' }:=by
 obtain ⟨m,⟨o,es,ep,ho,r⟩,_⟩:=id I.loc;obtain ⟨sl,hL⟩:=u.any ho I.free fun z=>(hch _ z).2.1 rfl
 exact I.step (ch:=ch) hch (fun b o hL hb hc e n=>u.keep b o e n (fun z=>(JJ.mp (I.tH b z)).elim hL hb) hc) (fun b o _ _ hc e n=>u.any e n hc) (fun b o hc e n=>u.free b o e n hc) (fun b o hc e=>u.there b o e hc) u.uY u.uB u.wF (fun m' hm=>by
  obtain ⟨o',es',ep',ho',r'⟩:=hm;rw [ho] at ho';cases ho'
  exact ⟨_,es',ep',hL,r'⟩) hok hg
theorem Inv.turned {t':Nat} {it:Addr} (I:Inv X pins Z H s) (k:∀ b o,b≠it->s.heap.get? b=some o->h'.get? b=some o) (hn:H it=none) (hL:it≠X.env.locals)
  (h1:it∈X.ex\/X.ZY.heap.objs.size<=it) (h2:∀ x c,X.env.cells.lookup x=some c->c≠it) (h3:∀ p∈X.pn++pins,p.1≠it):Inv X pins Z H { s with heap:=h',toks:=t' }:=by
 have nit:∀ b u,H b=some u->b≠it:=fun b u e z=>by rw [z,hn] at e;cases e
 refine I.step (g':=s.gens) (d':=s.drawn) (ch:=[it]) (fun b hb=>?_) (fun b o _ _ hc e _=>k b o (fun z=>hc (by simp [z])) e) (fun b o _ _ hc e _=>⟨o.slots,k b o (fun z=>hc (by simp [z])) e⟩) (fun _ _ _ _ n=>n)
  (fun b o hc e=>⟨o,k b o (fun z=>hc (by simp [z])) e⟩) (fun _ _ e=>e) (fun _ _ _ e=>e) (fun b ps e=>⟨#[],by rw [e];simp⟩) (fun m hm=>?_) (fun b u e=>?_) I.bare
 ·have e:b=it:=by simpa using hb
  subst e;exact ⟨h1,hL,h2,h3⟩
 ·obtain ⟨o,es,ep,ho,r⟩:=hm;exact ⟨o,es,ep,k _ o (Ne.symm hL) ho,r⟩
 ·refine (I.hok b u e).oN (fun c v hc q=>k c v ?_ q) (fun _ q=>q) fun _ _ q=>q;rcases hc with z | z
  ·rw [z];exact nit b u e
  ·exact nit c _ z
theorem Inv.tok (I:Inv X pins Z H s) (t:Nat):Inv X pins Z H { s with toks:=t }:=I.un (h':=s.heap) (t':=t) Un.refl I.hok
theorem Inv.kept (I:Inv X pins Z H s) (k:∀ b u,s.heap.get? b=some u->h'.get? b=some u):Inv X pins Z H { s with heap:=h',toks:=t' }:=I.un (Un.kept k) (I.hok.kept k)
theorem Inv.laid (I:Inv X pins Z H s) (k:∀ b u,s.heap.get? b=some u->h'.get? b=some u) (hp:s.heap.objs.size<=a) (new:bJ X.prog X.w (upd H a o) h' a o) :
  Inv X pins Z (upd H a o) { s with heap:=h',toks:=t' }:=I.un (Un.laid k hp (I.hok.fresh hp)) (I.hok.laid k hp new)
theorem Inv.write (I:Inv X pins Z H s) (mu:Mut (H x)) (he:e=x\/H e=some (.own x)) (k:∀ b u,b≠e->s.heap.get? b=some u->h'.get? b=some u) (heo:∃ u,h'.get? e=some u)
  (new:bJ X.prog X.w (upd H x o) h' x o):Inv X pins Z (upd H x o) { s with heap:=h',toks:=t' }:=I.un (Un.write mu he k heo) (I.hok.write mu he k heo new)
theorem Inv.fM (I:Inv X pins Z H s) (h:∀ p∈pins',s.heap.get? p.1=some p.2/\H p.1=none/\p.1≠X.env.locals/\p.1 ∉ X.fs/\∀ v,p.2.data≠.cell v):Inv X pins' Z H s :=
 ⟨I.ok,I.os,I.bare,I.base,I.loc,I.cell,I.free,I.gG,fun p hp=>(Kg.mp hp).elim (fun z=>I.pin p (KP _ z)) (h p),I.hok,I.len⟩
theorem nZ {N:List Str} (hN:N.Nodup) {i j:Nat} {x:Str} (a:N[i]?=some x) (b:N[j]?=some x):i=j:=by
 obtain ⟨h1,e1⟩:=Jo.mp a;obtain ⟨h2,e2⟩:=Jo.mp b;exact (List.getElem_inj hN).mp (e1.trans e2.symm)
theorem sY {M:Model} {A:Around} {E:Value->Shared->Prop} {i:Nat} {x:Str} {v:V} {u:Value} {Q:Unit->Shared->Prop} (I:Inv X pins Z H s) (hN:X.N.Nodup) (hi:X.N[i]?=some x) (hx:Loc X.env.scope x) (r:RelV v u)
  (h:∀ s',Inv X pins (Z.set i (some v)) H s'->(∃ a,Heap.SameBut a s.heap s'.heap/\(a=X.env.locals\/X.env.cells.lookup x=some a))->Q () s') (hf:X.fn x=true\/X.env.scope.names.lookup x=some .local:=by first | exact .inl rfl | exact .inr rfl | assumption):wpAny M A (storeName X.env x u) Q E s:=by
 obtain ⟨m,hn,hl⟩:=id I.loc;have hcls:(X.env.scope.kind==.class||(X.env.scope.kind==.module&&X.env.locals != X.env.globals))=false:=by rw [I.ok.kind];rfl
 have hiZ:i < Z.length:=by rw [I.len];exact (Jo.mp hi).1
 have cne:=I.cne;have tracked:∀ {a:Addr} {h':Heap},(∃ o,s.heap.get? a=some o/\H a=none)->Heap.SameBut a s.heap h'->HOk X.prog X.w H h':=fun {a h'} ha hs b ob e=>by
  obtain ⟨_,_,hfree⟩:=ha;refine (I.hok b ob e).oN (fun c w' hc q=>(hs.2 c ?_).trans q) (fun _ q=>q) fun _ _ q=>q;rintro rfl;rcases hc with rfl | hc
  ·rw [hfree] at e;cases e
  ·rw [hfree] at hc;cases hc
 rcases hx with hk | hk
 ·refine wpAny_storeName_local hk hn (fun h' hn' hs=>?_) hcls;obtain ⟨oL,_,_,hoL,_⟩:=id hn;refine h _ ⟨I.ok,I.os,I.bare,⟨fun b o e n hb hx=>?_,fun b o e n hb hx=>?_,I.base.free,fun b o e hx=>?_,I.base.uY,I.base.uB,I.base.wF⟩,⟨_,hn',fun j y v' e1 e2 e3=>?_⟩,fun y c e=>?_,I.free,I.gG,fun p hp=>?_,tracked ⟨oL,hoL,I.free⟩ hs,by simpa using I.len⟩ ⟨_,hs,.inl rfl⟩
  ·exact (hs.2 b (JY (JX (JB e) I.ok.above))).trans (I.base.keep b o e n hb hx)
  ·obtain ⟨sl,e1⟩:=I.base.slot b o e n hb hx;exact ⟨sl,(hs.2 b (JY (JX (JB e) I.ok.above))).trans e1⟩
  ·obtain ⟨o',e1⟩:=I.base.there b o e hx;exact ⟨o',(hs.2 b (JY (JX (JB e) I.ok.above))).trans e1⟩
  ·by_cases hj:j=i
   ·subst hj;rw [hi] at e1;cases e1;rw [JK hiZ] at e2;cases e2;exact ⟨u,r,.inl ⟨hk,by simp⟩⟩
   ·rw [Jq (Ne.symm hj)] at e2;obtain ⟨u',r',q⟩:=hl j y v' e1 e2 e3;refine ⟨u',r',?_⟩;rcases q with ⟨k,e⟩ | ⟨k,c,e,z⟩
    ·refine .inl ⟨k,?_⟩;have:y≠x:=fun e=>hj (nZ hN e1 (e▸hi));simp [this,e]
    ·exact .inr ⟨k,c,e,z.sameBut hs (cne y c e)⟩
  ·obtain ⟨w',z⟩:=I.cell y c e;exact ⟨w',z.sameBut hs (cne y c e)⟩
  ·obtain ⟨e,n,ne,nf,d⟩:=I.pin p hp;exact ⟨(hs.2 p.1 ne).trans e,n,ne,nf,d⟩
 ·have hfn:X.fn x=true:=by
   rcases hf with z | z
   ·exact z
   ·rw [z] at hk;cases hk
  obtain ⟨c,hc⟩:=I.ok.has x (.inl hk);obtain ⟨w',z⟩:=I.cell x c hc;refine wpAny_storeName_cell I.ok.kind hk hc z (fun h' hc' hs=>?_);obtain ⟨oc,hoc,hocd⟩:=id z;refine h { s with heap:=h' } ⟨I.ok,I.os,I.bare,⟨fun b o e n hb hx=>?_,fun b o e n hb hx=>?_,I.base.free,fun b o e hx=>?_,I.base.uY,I.base.uB,I.base.wF⟩,⟨m,hn.sameBut hs (Ne.symm (cne x c hc)),fun j y v' e1 e2 e3=>?_⟩,fun y c' e=>?_,I.free,I.gG,fun p hp=>?_,tracked ⟨oc,hoc,I.gG x c hc⟩ hs,by simpa using I.len⟩ ⟨c,hs,.inr hc⟩
  ·exact (hs.2 b (JY (JX (JB e) (I.ok.cab x c hfn hc)))).trans (I.base.keep b o e n hb hx)
  ·obtain ⟨sl,e1⟩:=I.base.slot b o e n hb hx;exact ⟨sl,(hs.2 b (JY (JX (JB e) (I.ok.cab x c hfn hc)))).trans e1⟩
  ·obtain ⟨o',e1⟩:=I.base.there b o e hx;exact ⟨o',(hs.2 b (JY (JX (JB e) (I.ok.cab x c hfn hc)))).trans e1⟩
  ·by_cases hj:j=i
   ·subst hj;rw [hi] at e1;cases e1;rw [JK hiZ] at e2;cases e2;exact ⟨u,r,.inr ⟨.inl hk,c,hc,hc'⟩⟩
   ·rw [Jq (Ne.symm hj)] at e2;obtain ⟨u',r',q⟩:=hl j y v' e1 e2 e3;refine ⟨u',r',?_⟩;rcases q with q | ⟨k,c',e,z'⟩
    ·exact .inl q
    ·refine .inr ⟨k,c',e,z'.sameBut hs ?_⟩;rintro rfl;exact hj (nZ hN e1 (I.ok.inj _ _ _ e hc▸hi))
  ·by_cases hcc:c'=c
   ·subst hcc;exact ⟨_,hc'⟩
   ·obtain ⟨w2,z2⟩:=I.cell y c' e;exact ⟨w2,z2.sameBut hs hcc⟩
  ·obtain ⟨e,n,ne,nf,d⟩:=I.pin p hp;refine ⟨(hs.2 p.1 ?_).trans e,n,ne,nf,d⟩;intro q;rw [q,hoc] at e;have q':oc=p.2:=Kq e;exact d w' (by rw [<- q'];exact hocd)
theorem o9 {M:Model} {A:Around} {E:Value->Shared->Prop} {i:Nat} {x:Str} {v:V} {u:Value} {Q:Unit->Shared->Prop} (I:Inv X pins Z H s) (hN:X.N.Nodup) (hi:X.N[i]?=some x) (hx:Loc X.env.scope x) (r:RelV v u)
  (h:∀ s',Inv X pins (Z.set i (some v)) H s'->Q () s') (hf:X.fn x=true\/X.env.scope.names.lookup x=some .local:=by first | exact .inl rfl | exact .inr rfl | assumption):wpAny M A (storeName X.env x u) Q E s :=
 sY I hN hi hx r (fun s' I' _=>h s' I') hf
end
abbrev XK:=Value->Option Addr->Hp->Prop
abbrev St:=List (Option V)
abbrev VK:=V->Hp->Prop
abbrev TE:=St->Hp->VK->Prop
abbrev TT:=St->Hp->(Bool->Hp->Prop)->Prop
abbrev TA:=St->Hp->(List V->Hp->Prop)->Prop
structure Ends where
 nx:St->Hp->Prop
 rt:VK
 bk:St->Hp->Prop:=fun _ _=>False
 ct:St->Hp->Prop:=fun _ _=>False
abbrev TS:=Ends->St->Hp->Prop
def EP (X:Cx) (pins:List (Addr×Obj)) (Z:St) (Q:VK) (u:Value) (s':Shared):Prop:=∃ v H',Inv X pins Z H' s'/\RelV v u/\Q v H'
def TP (X:Cx) (pins:List (Addr×Obj)) (Z:St) (Q:Bool->Hp->Prop) (b:Bool) (s':Shared):Prop:=∃ H',Inv X pins Z H' s'/\Q b H'
def AP (X:Cx) (pins:List (Addr×Obj)) (Z:St) (Q:List V->Hp->Prop) (us:List Value) (s':Shared):Prop:=∃ vs H',Inv X pins Z H' s'/\Vals vs us/\Q vs H'
def SP (X:Cx) (pins:List (Addr×Obj)) (D:Ends) (f:Flow) (s':Shared):Prop :=
 match f with
 | .next=>∃ Z' H',Inv X pins Z' H' s'/\D.nx Z' H'
 | .brk=>∃ Z' H',Inv X pins Z' H' s'/\D.bk Z' H'
 | .cont=>∃ Z' H',Inv X pins Z' H' s'/\D.ct Z' H'
 | .ret u=>∃ v Z' H',Inv X pins Z' H' s'/\RelV v u/\D.rt v H'
def PE (X:Cx) (e:Expr) (t:TE):Prop :=
 ∀ (pins:List (Addr×Obj)) (s:Shared) (Z:St) (H:Hp) (Q:VK),Inv X pins Z H s->t Z H Q->wpAny (model X.prog X.w) X.A (eval e X.env) (EP X pins Z Q) X.xe s
def PT (X:Cx) (e:Expr) (t:TT):Prop :=
 ∀ (pins:List (Addr×Obj)) (s:Shared) (Z:St) (H:Hp) (Q:Bool->Hp->Prop),Inv X pins Z H s->t Z H Q->wpAny (model X.prog X.w) X.A (isTrue e X.env (eval e X.env)) (TP X pins Z Q) X.xe s
def PW (X:Cx) (e:Expr) (t:TT):Prop :=
 ∀ (whole:Sem Value) (pins:List (Addr×Obj)) (s:Shared) (Z:St) (H:Hp) (Q:Bool->Hp->Prop),Inv X pins Z H s->t Z H Q->wpAny (model X.prog X.w) X.A (isTrue e X.env whole) (TP X pins Z Q) X.xe s
theorem PW.pt (h:PW X e t):PT X e t:=h _
def PA (X:Cx) (es:List Expr) (t:TA):Prop :=
 ∀ (pos:Pos) (pins:List (Addr×Obj)) (s:Shared) (Z:St) (H:Hp) (Q:List V->Hp->Prop),Inv X pins Z H s->t Z H Q->wpAny (model X.prog X.w) X.A (spliced (backTo pos (starEach es X.env))) (AP X pins Z Q) X.xe s
def PS (X:Cx) (st:Stmt) (t:TS):Prop :=
 ∀ (pins:List (Addr×Obj)) (s:Shared) (Z:St) (H:Hp) (D:Ends),Inv X pins Z H s->t D Z H->wpAny (model X.prog X.w) X.A (exec st X.env) (SP X pins D) X.xe s
def PSs (X:Cx) (st:List Stmt) (t:TS):Prop :=
 ∀ (pins:List (Addr×Obj)) (s:Shared) (Z:St) (H:Hp) (D:Ends),Inv X pins Z H s->t D Z H->wpAny (model X.prog X.w) X.A (execs st X.env) (SP X pins D) X.xe s
theorem thn {α:Type} {t:Sem α} {Q Q':α->Shared->Prop} {M:Model} {A:Around} {E:Value->Shared->Prop} {s:Shared} (h:wpAny M A t Q E s) (hQ:∀ a s,Q a s->Q' a s):wpAny M A t Q' E s:=J1 h hQ fun _ _ x=>x
end L2
namespace L2
open PySem PySem.Spec PyProof.Rows
section
variable {X:Cx}
theorem bin {a b:Expr} {ta tb:TE} (ha:PE X a ta) (hb:PE X b tb) {pins:List (Addr×Obj)} {s:Shared} {Z:St} {H:Hp} {R:V->V->Hp->Prop} (I:Inv X pins Z H s) (h:ta Z H fun x H1=>tb Z H1 fun y H2=>R x y H2)
  {α:Type} {Q:α->Shared->Prop} {f:Value->Value->Sem α}
  (hf:∀ v u s2 x y H2,Inv X pins Z H2 s2->RelV x v->RelV y u->R x y H2->wpAny (model X.prog X.w) X.A (f v u) Q X.xe s2) :
  wpAny (model X.prog X.w) X.A (eval a X.env) (fun v ZJ=>wpAny (model X.prog X.w) X.A (eval b X.env) (fun u ZU=>wpAny (model X.prog X.w) X.A (f v u) Q X.xe ZU) X.xe ZJ) X.xe s:=by
 refine thn (ha pins s Z H _ I h) fun v s1 ⟨x,H1,I1,r1,q1⟩=>?_;refine thn (hb pins s1 Z H1 _ I1 q1) fun u s2 ⟨y,H2,I2,r2,q2⟩=>?_;exact hf v u s2 x y H2 I2 r1 r2 q2
def mV (i:Nat):TE:=fun Z H Q=>∃ v,Z[i]?=some (some v)/\Q v H
def tC (v:V):TE:=fun _ H Q=>Q v H
theorem xa (hN:X.N[i]?=some x) (hv:Vis X.env.scope x) (hd:(x==("__debug__" : Str))=false:=by decide) (hcd:(x==("__classdict__" : Str))=false:=by decide):PE X (.Name x pos) (mV i):=by
 intro pins s Z H Q I h;obtain ⟨v,e,h⟩:=h;obtain ⟨m,hn,hl⟩:=I.loc;obtain ⟨u,r,l⟩:=hl i x v hN e hv;have fin:EP X pins Z Q u s:=⟨v,H,I,r,h⟩;rcases l with ⟨hk,hm⟩ | ⟨hk,c,hc,hcell⟩
 ·exact wpAny_Name (wpAny_loadName_local I.ok.kind hk hn hm fin) hd
 ·rcases hk with hk | hk
  ·exact wpAny_Name (wpAny_loadName_cell I.ok.kind hk hc hcell fin) hd
  ·exact wpAny_Name (wpAny_loadName_free I.ok.kind hk hc hcell fin hcd) hd
theorem Bo {i j pos}:PE X (.Constant (.int i) j pos) (tC (.int i)):=fun _ _ _ H _ I h=>wpAny_Constant_int ⟨.int i,H,I.tok _,⟨_,rfl⟩,h⟩
theorem GL {b j pos}:PE X (.Constant (.bool b) j pos) (tC (.bl b)):=fun _ _ _ H _ I h=>Constant_bool ⟨.bl b,H,I,rfl,h⟩
theorem Cs {j pos}:PE X (.Constant .none j pos) (tC .non):=fun _ _ _ H _ I h=>Constant_none ⟨.non,H,I,rfl,h⟩
theorem BR {x j pos}:PE X (.Constant (.str x) j pos) (tC (.str x)):=fun _ _ _ H _ I h=>Calls.Constant_str ⟨.str x,H,I.tok _,⟨_,rfl⟩,h⟩
def Gl (X:Cx) (x:Str):Prop:=X.env.kindOf x=some .globalImplicit
theorem uw (I:Inv X pins Z H s) (hg:Gl X x) (hm:X.mg x=some u) (h:Q u s)
  (hd:(x==("__debug__" : Str))=false:=by decide):wpAny (model X.prog X.w) X.A (eval (.Name x pos) X.env) Q E s :=
 Calls.Name_function_global I.ok.kind hg (Calls.loadGlobal_global (by rw [I.ok.glob];exact I.mod.glob.keeps I.bk) hm h) hd
theorem pz (I:Inv X pins Z H s) (hg:Gl X x) (hm:X.mg x=none) (hv:bootBuiltins x=some u) (h:Q u s)
  (hn:x ≠ "__name__" := by decide) (hd:(x==("__debug__" : Str))=false:=by decide):wpAny (model X.prog X.w) X.A (eval (.Name x pos) X.env) Q E s:=by
 obtain ⟨mb,h1,h2⟩:=I.mod.blt;exact Calls.Name_function_global I.ok.kind hg (Calls.loadGlobal_builtin (by rw [I.ok.glob];exact I.mod.glob.keeps I.bk) hm (by rw [I.ok.blt];exact h1.keeps I.bk) ((h2 x hn).trans hv) h) hd
theorem yl (hg:Gl X x) (hm:X.mg x=some u) (r:RelV v u) (hd:(x==("__debug__" : Str))=false:=by decide):PE X (.Name x pos) (tC v) :=
 fun _ _ _ H _ I h=>uw I hg hm ⟨v,H,I,r,h⟩ hd
theorem yI (hg:Gl X x) (hm:X.mg x=none) (hv:bootBuiltins x=some u) (r:RelV v u) (hn:x ≠ "__name__" := by decide) (hd:(x==("__debug__" : Str))=false:=by decide):PE X (.Name x pos) (tC v) :=
 fun _ _ _ H _ I h=>pz I hg hm hv ⟨v,H,I,r,h⟩ hn hd
variable {a b:Expr} {ta tb:TE} {pos:Pos}
def PC (X:Cx) (op:CmpOp) (a b:Expr) (t:TE):Prop :=
 ∀ (pins:List (Addr×Obj)) (s:Shared) (Z:St) (H:Hp) (Q:VK),Inv X pins Z H s->t Z H Q ->
  wpAny (model X.prog X.w) X.A (eval a X.env) (fun v ZJ=>wpAny (model X.prog X.w) X.A (eval b X.env) (fun u ZU=>wpAny (model X.prog X.w) X.A (compareOp op v u) (EP X pins Z Q) X.xe ZU) X.xe ZJ) X.xe s
theorem vW (b:Expr) {op:CmpOp} (h:op≠.In) (h2:op≠.NotIn):behindInMarks op b=false:=by
 have e1:(op==CmpOp.In)=false:=by cases op <;> first | rfl | exact absurd rfl h
 have e2:(op==CmpOp.NotIn)=false:=by cases op <;> first | rfl | exact absurd rfl h2
 cases b <;> simp [behindInMarks,e1,e2]
def tB (t:TE):TT:=fun Z H Q=>t Z H fun x H1=>∃ c,x=.bl c/\Q c H1
theorem Hy {op:CmpOp} {t:TE} (h:PC X op a b t) (h1:behindInMarks op b=false:=by first | exact vW _ (by decide) (by decide) | rfl):PT X (.Compare a [op] [b] pos) (tB t):=by
 intro pins s Z H Q I hw;refine wpAny_isTrue_Compare1 (thn (h pins s Z H _ I hw) fun v s1 h1=>thn h1 fun u s2 h2=>thn h2 fun c s3 ⟨x,H1,I1,r1,q1⟩=>?_) h1;obtain ⟨d,rfl,q⟩:=q1;cases r1;exact Ku ⟨H1,I1,q⟩
theorem B7 {e:Expr} {t:TE} (h:PE X e t) (he:∀ whole,isTrue e X.env whole=(do let v<-whole;standAt e.pos;holding [v] (truthy v)):=by intro _;rfl):PT X e (tB t):=by
 intro pins s Z H Q I hw;refine isTrue_plain (thn (h pins s Z H _ I hw) fun v s1 ⟨x,H1,I1,r1,q1⟩=>?_) (he _);obtain ⟨d,rfl,q⟩:=q1;cases r1;exact Ku ⟨H1,I1,q⟩
variable {tA tB':TT} {rest:List Expr}
def Fh (t u:TT):TT:=fun Z H Q=>t Z H fun c H1=>if c=true then u Z H1 Q else Q false H1
def tOr (t u:TT):TT:=fun Z H Q=>t Z H fun c H1=>if c=true then Q true H1 else u Z H1 Q
def FC (t:TT):TT:=fun Z H Q=>t Z H fun c H1=>Q (!c) H1
theorem pw_and1 (ha:PT X a tA):PW X (.BoolOp .And [a] pos) tA:=by
 intro wh pins s Z H Q I h;refine isTrue_and (thn (ha pins s Z H Q I h) fun c s1 e=>?_);cases c with
 | true=>exact isTrue_and_nil e
 | false=>exact e
theorem pw_or1 (ha:PT X a tA):PW X (.BoolOp .Or [a] pos) tA:=by
 intro wh pins s Z H Q I h;refine isTrue_or (thn (ha pins s Z H Q I h) fun c s1 e=>?_);cases c with
 | false=>exact isTrue_or_nil e
 | true=>exact e
theorem pw_and (ha:PT X a tA) (hb:PW X (.BoolOp .And (b :: rest) pos) tB'):PW X (.BoolOp .And (a :: b :: rest) pos) (Fh tA tB'):=by
 intro wh pins s Z H Q I h;refine isTrue_and (thn (ha pins s Z H _ I h) fun c s1 ⟨H1,I1,q1⟩=>?_);cases c with
 | true=>exact hb wh pins s1 Z H1 Q I1 q1
 | false=>exact ⟨H1,I1,q1⟩
theorem pw_or (ha:PT X a tA) (hb:PW X (.BoolOp .Or (b :: rest) pos) tB'):PW X (.BoolOp .Or (a :: b :: rest) pos) (tOr tA tB'):=by
 intro wh pins s Z H Q I h;refine isTrue_or (thn (ha pins s Z H _ I h) fun c s1 ⟨H1,I1,q1⟩=>?_);cases c with
 | true=>exact ⟨H1,I1,q1⟩
 | false=>exact hb wh pins s1 Z H1 Q I1 q1
theorem Cw (ha:PT X a tA):PT X (.UnaryOp .Not a pos) (FC tA):=by
 intro pins s Z H Q I h;exact isTrue_not (ha pins s Z H (fun c H1=>Q (!c) H1) I h)
def zY (ta tb:TE):TE:=fun Z H Q=>ta Z H fun x H1=>∃ c,x=.bl c/\if c=true then tb Z H1 Q else Q (.bl false) H1
def GK (ta tb:TE):TE:=fun Z H Q=>ta Z H fun x H1=>∃ c,x=.bl c/\if c=true then Q (.bl true) H1 else tb Z H1 Q
def yH (ta:TE):TE:=fun Z H Q=>ta Z H fun x H1=>∃ c,x=.bl c/\Q (.bl (!c)) H1
theorem BZ {op} (h:PE X a t):PE X (.BoolOp op [a] pos) t:=fun pins s Z H Q I hw=>BoolOp_one (h pins s Z H Q I hw)
theorem Ce (ha:PE X a ta) (hb:PE X (.BoolOp .And (b :: rest) pos) tb):PE X (.BoolOp .And (a :: b :: rest) pos) (zY ta tb):=by
 intro pins s Z H Q I h;refine BoolOp_and (thn (ha pins s Z H _ I h) fun v s1 ⟨x,H1,I1,r1,q1⟩=>?_);obtain ⟨c,rfl,q1⟩:=q1;cases r1;refine Ku ?_;cases c with
 | true=>exact hb pins s1 Z H1 Q I1 q1
 | false=>exact ⟨.bl false,H1,I1,rfl,q1⟩
theorem Ga (ha:PE X a ta) (hb:PE X (.BoolOp .Or (b :: rest) pos) tb):PE X (.BoolOp .Or (a :: b :: rest) pos) (GK ta tb):=by
 intro pins s Z H Q I h;refine BoolOp_or (thn (ha pins s Z H _ I h) fun v s1 ⟨x,H1,I1,r1,q1⟩=>?_);obtain ⟨c,rfl,q1⟩:=q1;cases r1;refine Ku ?_;cases c with
 | false=>exact hb pins s1 Z H1 Q I1 q1
 | true=>exact ⟨.bl true,H1,I1,rfl,q1⟩
theorem C5 (ha:PE X a ta):PE X (.UnaryOp .Not a pos) (yH ta):=by
 intro pins s Z H Q I h;refine UnaryOp_ (thn (ha pins s Z H _ I h) fun v s1 ⟨x,H1,I1,r1,q1⟩=>?_);obtain ⟨c,rfl,q1⟩:=q1;cases r1;exact not_of (Ku ⟨.bl (!c),H1,I1,rfl,q1⟩)
def tIf (t:TT) (ta tb:TE):TE:=fun Z H Q=>t Z H fun c H1=>if c=true then ta Z H1 Q else tb Z H1 Q
theorem vD {c:Expr} (hc:PT X c tA) (ha:PE X a ta) (hb:PE X b tb):PE X (.IfExp c a b pos) (tIf tA ta tb):=by
 intro pins s Z H Q I h;refine wpAny_IfExp (thn (hc pins s Z H _ I h) fun d s1 ⟨H1,I1,q1⟩=>?_);cases d with
 | true=>exact ha pins s1 Z H1 Q I1 q1
 | false=>exact hb pins s1 Z H1 Q I1 q1
end
end L2
namespace L2
open PySem PySem.Spec PyProof.Rows
def SqL (K:Fg) (H:Hp) (a:Addr) (xs:List V):Prop :=
 Rd H a (.lst xs) \/
  ∃ (o:Obj) (its:Array Value) (n:Nat),K.lookup a=some o/\o.cls=.type "list" /\ o.dict=none/\o.data=.seq its n/\its.size<=sizeLine/\Vals xs its.toList
def SqT (K:Fg) (H:Hp) (a:Addr) (xs:List V):Prop :=
 Rd H a (.tup xs) \/
  ∃ (o:Obj) (its:Array Value) (n:Nat),K.lookup a=some o/\o.cls=.type "tuple" /\ o.data=.seq its n/\its.size<=sizeLine/\Vals xs its.toList
noncomputable def Ig:Value->Option V
 | .none=>some .non
 | .bool b=>some (.bl b)
 | .int i _=>some (.int i)
 | .str x _=>some (.str x)
 | .bytes b _=>some (.byt b)
 | .float b _=>some (.flt b)
 | .ref a=>some (.ref a)
 | .type n=>some (.ty n)
 | _=>none
theorem RelV.abs (r:RelV x u):Ig u=some x:=by
 cases x with
 | non=>cases r;rfl
 | bl _=>cases r;rfl
 | int _=>obtain ⟨t,rfl⟩:=r;rfl
 | str _=>obtain ⟨t,rfl⟩:=r;rfl
 | byt _=>obtain ⟨t,rfl⟩:=r;rfl
 | flt _=>obtain ⟨t,rfl⟩:=r;rfl
 | ref _=>cases r;rfl
 | ty _=>cases r;rfl
theorem RelV.inj {x y:V} {u:Value} (r:RelV x u) (q:RelV y u):x=y:=Kq (r.abs.symm.trans q.abs)
theorem Vals.inj:∀ {xs ys:List V} {us:List Value},Vals xs us->Vals ys us->xs=ys
 | _,_,_,.nil,.nil=>rfl
 | _,_,_,.cons r t,.cons r' t'=>by rw [r.inj r',Vals.inj t t']
section
variable {X:Cx} {pins:List (Addr×Obj)} {Z:St} {H:Hp} {s:Shared} {a:Addr} {xs ys:List V}
theorem SqT.of {K:Fg} (h:H a=some (.tup xs)):SqT K H a xs:=.inl (.inl h)
theorem Inv.list (I:Inv X pins Z H s) (h:SqL X.K H a xs):∃ its:List Value,Vals xs its/\PlainL s.heap a its.toArray/\xs.length<=sizeLine:=by
 rcases h with h | ⟨o,its,n,hk,hc,hd,hs,hz,r⟩
 ·obtain ⟨z,its,n,r,e⟩:=h.ok I.hok;exact ⟨its,r,⟨_,n,e,rfl,rfl,rfl⟩,z⟩
 ·refine ⟨its.toList,r,⟨o,n,I.kIn a o hk,hc,hd,by simpa using hs⟩,?_⟩;have e:=r.length;simp only [JQ] at e;omega
theorem Inv.tuple (I:Inv X pins Z H s) (h:SqT X.K H a xs):∃ its:List Value,Vals xs its/\IsTup s.heap a its.toArray/\xs.length<=sizeLine:=by
 rcases h with h | ⟨o,its,n,hk,hc,hs,hz,r⟩
 ·obtain ⟨z,its,r,p⟩:=h.ok I.hok;exact ⟨its,r,p,z⟩
 ·refine ⟨its.toList,r,⟨o,I.kIn a o hk,hc,n,by simpa using hs⟩,?_⟩;have e:=r.length;simp only [JQ] at e;omega
theorem Inv.vt (I:Inv X pins Z H s) (h:SqL X.K H a xs) (h':SqL X.K H a ys):xs=ys:=by
 obtain ⟨its,r,⟨o,n,e,_,_,d⟩,_⟩:=I.list h;obtain ⟨its',r',⟨o',n',e',_,_,d'⟩,_⟩:=I.list h';rw [e] at e';cases e';rw [d] at d';injection d' with d1 _;have:its=its':=by simpa using congrArg Array.toList d1
 subst this;exact r.inj r'
theorem Inv.uC (I:Inv X pins Z H s) (h:SqT X.K H a xs) (h':SqT X.K H a ys):xs=ys:=by
 obtain ⟨its,r,⟨o,e,_,n,d⟩,_⟩:=I.tuple h;obtain ⟨its',r',⟨o',e',_,n',d'⟩,_⟩:=I.tuple h';rw [e] at e';cases e';rw [d] at d';injection d' with d1 _;have:its=its':=by simpa using congrArg Array.toList d1
 subst this;exact r.inj r'
end
abbrev Cx.uS (X:Cx) (E:Value->Shared->Prop):Cx:={ X with xe:=E }
abbrev Cx.nox (X:Cx):Cx:=X.uS fun _ _=>False
theorem Cx.Ok.uS {X:Cx} (ok:X.Ok) (E:Value->Shared->Prop):(X.uS E).Ok :=
 ⟨ok.mod,ok.kind,ok.glob,ok.blt,ok.above,ok.inj,ok.has,ok.cab,ok.hd,ok.frames,ok.stk,ok.exf,ok.bs,ok.bsz,ok.Ax,ok.DP,ok.r8,ok.frf⟩
theorem Cx.Ok.gA {X:Cx} {E:Value->Shared->Prop} (ok:(X.uS E).Ok):X.Ok :=
 ⟨ok.mod,ok.kind,ok.glob,ok.blt,ok.above,ok.inj,ok.has,ok.cab,ok.hd,ok.frames,ok.stk,ok.exf,ok.bs,ok.bsz,ok.Ax,ok.DP,ok.r8,ok.frf⟩
section
variable {X:Cx} {pins:List (Addr×Obj)} {Z:St} {H:Hp} {s:Shared} {E:Value->Shared->Prop}
theorem Inv.uS (I:Inv X pins Z H s) (E:Value->Shared->Prop):Inv (X.uS E) pins Z H s:=⟨I.ok.uS E,I.os,I.bare,I.base,I.loc,I.cell,I.free,I.gG,I.pin,I.hok,I.len⟩
theorem Inv.gA (I:Inv (X.uS E) pins Z H s):Inv X pins Z H s:=⟨I.ok.gA,I.os,I.bare,I.base,I.loc,I.cell,I.free,I.gG,I.pin,I.hok,I.len⟩
theorem SP.gA (h:SP (X.uS E) pins D f s'):SP X pins D f s':=by
 cases f with
 | next=>obtain ⟨Z',H',I,q⟩:=h;exact ⟨Z',H',I.gA,q⟩
 | brk=>obtain ⟨Z',H',I,q⟩:=h;exact ⟨Z',H',I.gA,q⟩
 | cont=>obtain ⟨Z',H',I,q⟩:=h;exact ⟨Z',H',I.gA,q⟩
 | ret u=>obtain ⟨v,Z',H',I,r,q⟩:=h;exact ⟨v,Z',H',I.gA,r,q⟩
theorem PSs.nox {st:List Stmt} {t:TS} (h:PSs X.nox st t):PSs X st t:=fun pins s Z H D I hw =>
 J1 (h pins s Z H D (I.uS _) hw) (fun _ _ q=>q.gA) fun _ _ z=>False.elim z
end
section
variable {X:Cx} {st:Stmt} {rest:List Stmt} {t u:TS} {e:Expr} {te:TE} {pos:Pos}
def zc:TS:=fun D Z H=>D.nx Z H
def F6 (t u:TS):TS:=fun D Z H=>t { D with nx:=u D } Z H
theorem yb:PSs X [] zc:=fun _ _ Z H _ I h=>wpAny_execs_nil ⟨Z,H,I,h⟩
theorem wq (h1:PS X st t) (h2:PSs X rest u):PSs X (st :: rest) (F6 t u):=by
 intro pins s Z H D I h;refine wpAny_execs_cons (thn (h1 pins s Z H { D with nx:=u D } I h) fun f s1 q=>?_);cases f with
 | next =>
  obtain ⟨Z',H',I',q⟩:=q;exact h2 pins s1 Z' H' D I' q
 | ret v=>exact q
 | brk=>exact q
 | cont=>exact q
theorem zd (h1:PS X st t):PSs X [st] t:=by
 intro pins s Z H D I h;refine wpAny_execs_cons (thn (h1 pins s Z H D I h) fun f s1 q=>?_);cases f with
 | next=>exact wpAny_execs_nil q
 | ret v=>exact q
 | brk=>exact q
 | cont=>exact q
theorem Inv.quiet {pins:List (Addr×Obj)} {Z:St} {H:Hp} {s:Shared} (I:Inv X pins Z H s):interactive X.env=false:=by simp [interactive,I.ok.kind]
def yx (te:TE):TS:=fun D Z H=>te Z H fun _ H1=>D.nx Z H1
theorem zx (he:PE X e te) (hs:swapsWith e none pos.line X.env=pure false:=by rfl):PS X (.Expr e pos) (yx te):=by
 intro pins s Z H D I h;exact wpAny_Expr_any (thn (he pins s Z H _ I h) fun v s1 ⟨x,H1,I1,r1,q1⟩=>⟨Z,H1,I1,q1⟩) I.quiet hs
def FP (te:TE):TS:=fun D Z H=>te Z H D.rt
theorem DA (he:PE X e te):PS X (.Return (some e) pos) (FP te):=by
 intro pins s Z H D I h;exact wpAny_Return_some (thn (he pins s Z H _ I h) fun v s1 ⟨x,H1,I1,r1,q1⟩=>⟨x,Z,H1,I1,r1,q1⟩)
def EF:TS:=fun D _ H=>D.rt .non H
def Fx (c:TT) (t u:TS):TS:=fun D Z H=>c Z H fun b H1=>if b=true then t D Z H1 else u D Z H1
theorem GD {c:Expr} {a b:List Stmt} {tc:TT} (hc:PT X c tc) (ha:PSs X a t) (hb:PSs X b u):PS X (.If c a b pos) (Fx tc t u):=by
 intro pins s Z H D I h;refine wpAny_If (thn (hc pins s Z H _ I h) fun d s1 ⟨H1,I1,q1⟩=>?_);cases d with
 | true=>exact ha pins s1 Z H1 D I1 q1
 | false=>exact hb pins s1 Z H1 D I1 q1
end
abbrev TG:=V->St->Hp->(St->Hp->Prop)->Prop
abbrev TGs:=List V->St->Hp->(St->Hp->Prop)->Prop
def PG (X:Cx) (target:Expr) (t:TG):Prop :=
 ∀ (pins:List (Addr×Obj)) (s:Shared) (Z:St) (H:Hp) (v:V) (u:Value) (Q:St->Hp->Prop),Inv X pins Z H s->RelV v u->t v Z H Q ->
  wpAny (model X.prog X.w) X.A (assign target X.env u) (fun _ s'=>∃ Z' H',Inv X pins Z' H' s'/\Q Z' H') X.xe s
def PGs (X:Cx) (ts:List Expr) (t:TGs):Prop :=
 ∀ (pins:List (Addr×Obj)) (s:Shared) (Z:St) (H:Hp) (vs:List V) (us:List Value) (Q:St->Hp->Prop),Inv X pins Z H s->Vals vs us->t vs Z H Q ->
  wpAny (model X.prog X.w) X.A (assignInOrder ((assignEach ts X.env).map (·.2)) us) (fun _ s'=>∃ Z' H',Inv X pins Z' H' s'/\Q Z' H') X.xe s
abbrev Eb:=V->V->V->Hp->(Hp->Prop)->Prop
def GJ (X:Cx) (t:Eb):Prop :=
 ∀ (pins:List (Addr×Obj)) (s:Shared) (Z:St) (H:Hp) (o i v:V) (ov iv u:Value) (Q:Hp->Prop),Inv X pins Z H s->RelV o ov->RelV i iv->RelV v u->t o i v H Q ->
  wpAny (model X.prog X.w) X.A (setItem ov iv u) (fun _ s'=>∃ H',Inv X pins Z H' s'/\Q H') X.xe s
section
variable {X:Cx} {pos:Pos}
def c6 (i:Nat):TG:=fun v Z H Q=>Q (Z.set i (some v)) H
theorem iY (hN:X.N.Nodup) (hi:X.N[i]?=some x) (hx:Loc X.env.scope x) (hf:X.fn x=true\/X.env.scope.names.lookup x=some .local:=by first | exact .inl rfl | exact .inr rfl | assumption):PG X (.Name x pos) (c6 i):=by
 intro pins s Z H v u Q I r h;exact wpAny_assign_Name (o9 I hN hi hx r (fun s' I'=>⟨_,H,I',h⟩) hf)
def Ed:TGs:=fun vs Z H Q=>vs=[]/\Q Z H
def vc (t:TG) (u:TGs):TGs:=fun vs Z H Q=>∃ v r,vs=v :: r/\t v Z H fun Z' H'=>u r Z' H' Q
theorem qX:PGs X [] Ed:=by
 intro pins s Z H vs us Q I r h;obtain ⟨e,h⟩:=h;subst e;cases r;exact assignInOrder_nil ⟨Z,H,I,h⟩
theorem oA {e:Expr} {es:List Expr} {t:TG} {u:TGs} (h1:PG X e t) (h2:PGs X es u)
  (hs:(assignEach (e :: es) X.env).map (·.2)=assign e X.env :: (assignEach es X.env).map (·.2):=by rfl):PGs X (e :: es) (vc t u):=by
 intro pins s Z H vs us Q I r h;obtain ⟨v,vr,e1,h⟩:=h;subst e1;cases r with
 | cons r rr =>
  rw [hs];refine assignInOrder_cons (thn (h1 pins s Z H _ _ _ I r h) fun _ s1 ⟨Z1,H1,I1,q1⟩=>?_);exact h2 pins s1 Z1 H1 _ _ Q I1 rr q1
def Ea (K:Fg) (n:Nat) (t:TGs):TG:=fun v Z H Q=>∃ a xs,v=.ref a/\SqT K H a xs/\xs.length=n/\t xs Z H Q
theorem xh (hc:X.calm=true) (h:PGs X es t)
  (hn:(assignEach es X.env).length=n:=by rfl) (hst:(assignEach es X.env).findIdx? (·.1)=none:=by rfl):PG X (.Tuple es k pos) (Ea X.K n t):=by
 intro pins s Z H v u Q I r hw;obtain ⟨a,xs,e1,hq,hl,hw⟩:=hw;subst e1;cases r;obtain ⟨its,rv,ht,hz⟩:=I.tuple hq;refine assign_Tuple_tuple (I.ok.hd hc) ht (by simp [hn,<-hl,rv.length]) hst fun h' hx=>?_;have I1:Inv X pins Z H { s with heap:=h' }:=I.kept (t':=s.toks) fun b o e=>hx b o (JY (JB e)) e;exact h pins _ Z H xs _ Q I1 (by simpa using rv) hw
def HJ (to ti:TE) (t:Eb):TG:=fun v Z H Q=>to Z H fun o H1=>ti Z H1 fun i H2=>t o i v H2 fun H3=>Q Z H3
theorem BP {o i:Expr} {to ti:TE} {t:Eb} (ho:PE X o to) (hi:PE X i ti) (hs:GJ X t)
  (ha:∀ v,assign (.Subscript o i pos) X.env v=(do
   let ov<-holding [v] (eval o X.env)
   let iv<-holding [v,ov] (eval i X.env)
   standAt pos
   holding [v,ov,iv] (setItem ov iv v)
   release [v,ov,iv] []):=by intro _;rfl):PG X (.Subscript o i pos) (HJ to ti t):=by
 intro pins s Z H v u Q I r h;rw [ha];refine Jk (Kc (thn (ho pins s Z H _ I h) fun ov s1 ⟨x,H1,I1,r1,q1⟩=>?_));refine Jk (Kc (thn (hi pins s1 Z H1 _ I1 q1) fun iv s2 ⟨y,H2,I2,r2,q2⟩=>?_));refine Jk (wpAny_standAt (Jk (Kc (thn (hs pins s2 Z H2 x y v ov iv u _ I2 r1 r2 r q2) fun _ s3 ⟨H3,I3,q3⟩=>?_))));exact wpAny_release ⟨Z,H3,I3,q3⟩
def rZ (te:TE) (g:TG):TS:=fun D Z H=>te Z H fun x H1=>g x Z H1 D.nx
theorem Bc {tg e:Expr} {te:TE} {g:TG} (he:PE X e te) (hg:PG X tg g) (hs:swapsWithSole [tg] e pos.line X.env=pure false:=by rfl) (hw:swappedStores [tg] e X.env=pure none:=by rfl)
  (h1:(assignEach [tg] X.env).map (·.2)=[assign tg X.env]:=by rfl):PS X (.Assign [tg] e pos) (rZ te g):=by
 intro pins s Z H D I h;refine wpAny_Assign_stores (thn (he pins s Z H _ I h) fun v s1 ⟨x,H1,I1,r1,q1⟩=>?_) hs hw;rw [h1];exact thn (hg pins s1 Z H1 x v _ I1 r1 q1) fun _ s2 q=>q
theorem AB {i:Nat} {x:Str} {e:Expr} {te:TE} {pos':Pos} (hN:X.N.Nodup) (hi:X.N[i]?=some x) (hx:Loc X.env.scope x) (he:PE X e te) (hs:swapsWith e (some (.Name x pos')) pos.line X.env=pure false:=by rfl) (hf:X.fn x=true\/X.env.scope.names.lookup x=some .local:=by first | exact .inl rfl | exact .inr rfl | assumption) :
  PS X (.Assign [.Name x pos'] e pos) (rZ te (c6 i)):=by
 intro pins s Z H D I h;refine wpAny_Assign_Name (thn (he pins s Z H _ I h) fun v s1 ⟨y,H1,I1,r1,q1⟩=>?_) hs;exact o9 I1 hN hi hx r1 (fun s2 I2=>⟨_,H1,I2,q1⟩) hf
end
structure It where
 go:Nat->Hp->Prop
 yld:Nat->Hp->V->Hp->Prop
 stop:Nat->Hp->Prop
def uV (X:Cx) (pins:List (Addr×Obj)) (H:Hp) (b:Addr):Prop :=
 H b=none/\b≠X.env.locals/\b ∉ X.fs/\(b∈X.ex\/X.ZY.heap.objs.size<=b)/\(∀ x c,X.env.cells.lookup x=some c->c≠b)/\∀ p∈X.pn++pins,p.1≠b
theorem Inv.Ec (I:Inv X pins Z H s) (hb:s.heap.objs.size<=b) (hn:H' b=none):uV X pins H' b:=by
 refine ⟨hn,Nat.ne_of_gt (JX I.lt hb),I.Fp hb,.inr (J6 I.sz hb),fun x c e z=>?_,fun p hp z=>?_⟩
 ·obtain ⟨v,q⟩:=I.cell x c e;exact absurd (JX q.lt (by rw [z];exact hb)) (Ks _)
 ·exact absurd (JX (JB (I.pin p hp).1) (by rw [z];exact hb)) (Ks _)
structure Turn (P:Program) (w:World) (K:Fg) (tg:Expr) (J:It) (fp:List Addr) (it:Addr) (tn:Nat->Heap->Prop):Prop where
 mem:it∈fp
 obj:∀ i h,tn i h->∀ b∈fp,∃ o,h.get? b=some o/\∀ v,o.data≠.cell v
 keep:∀ i h h',tn i h->(∀ b∈fp,∀ o,h.get? b=some o->h'.get? b=some o)->tn i h'
 item:∀ (X:Cx),X.prog=P->X.w=w->X.K=K->X.calm=true->∀ (i:Nat) (pins:List (Addr×Obj)) (s:Shared) (Z:St) (H:Hp) (E:Value->Shared->Prop),Inv X pins Z H s->(∀ b∈fp,uV X pins H b)->tn i s.heap->J.go i H ->
  wpAny (model P w) X.A (pyNext (.ref it)) (fun r s1=>∃ u,r=some u /\
   wpAny (model P w) X.A (letOwnedTupleGo tg (.ref it) u) (fun _ s2=>∃ x H',Inv X pins Z H' s2/\RelV x u/\J.yld i H x H'/\tn (i+1) s2.heap/\∀ b∈fp,H' b=none) E s1) E s
 done:∀ (X:Cx),X.prog=P->X.w=w->X.K=K->X.calm=true->∀ (i:Nat) (pins:List (Addr×Obj)) (s:Shared) (Z:St) (H:Hp) (E:Value->Shared->Prop),Inv X pins Z H s->(∀ b∈fp,uV X pins H b)->tn i s.heap->J.stop i H ->
  wpAny (model P w) X.A (pyNext (.ref it)) (fun r s1=>r=none/\Inv X pins Z H s1) E s
 self:∀ (A:Around) (i:Nat) (s:Shared) (Q:Value->Shared->Prop) (E:Value->Shared->Prop),tn i s.heap->Q (.ref it) s->wpAny (model P w) A (pyIter (.ref it)) Q E s
abbrev TI:=St->Hp->(It->Hp->Prop)->Prop
def PIE (X:Cx) (pins:List (Addr×Obj)) (Z:St) (tg:Expr) (R:It->Hp->Prop) (itv:Value) (s2:Shared):Prop :=
 ∃ (it:Addr) (fp:List Addr) (tn:Nat->Heap->Prop) (J:It) (H':Hp),itv=.ref it/\Inv X pins Z H' s2/\Turn X.prog X.w X.K tg J fp it tn/\tn 0 s2.heap/\(∀ b∈fp,uV X pins H' b)/\R J H'
def PI (X:Cx) (tg iter:Expr) (wi:TI):Prop :=
 ∀ (pins:List (Addr×Obj)) (s:Shared) (Z:St) (H:Hp) (R:It->Hp->Prop),Inv X pins Z H s->wi Z H R ->
  wpAny (model X.prog X.w) X.A (eval iter X.env) (fun v s1=>wpAny (model X.prog X.w) X.A (pyIter v) (PIE X pins Z tg R) X.xe s1) X.xe s
theorem zO (ho:s.heap.get? it=some o) (hc:o.cls=.type n) (hd:o.data=.fields vs)
    (hn:["enumerate", "zip", "dict_itemiterator", "dict_reverseitemiterator", "odict_iterator", "itertools.zip_longest", "itertools.pairwise"].contains n=false) (hQ:Q () s):wpAny M A (letOwnedTupleGo tg (.ref it) u) Q E s:=by
  unfold letOwnedTupleGo;cases tg <;> first
    | exact Jn hQ
    | (cases u <;> first
        | exact Jn hQ
        | (refine Jk (wpAny_load ho ?_)
           rw [hc,hd];show wpAny M A (if (["enumerate", "zip", "dict_itemiterator", "dict_reverseitemiterator", "odict_iterator", "itertools.zip_longest", "itertools.pairwise"].contains n&&vs[0]?==some (rawInt _))=true then _ else _) Q E s;rw [JD (by intro h;rw [hn,Bool.false_and] at h;cases h)]
           exact Jn hQ))
def Itl (K:Fg) (a:Addr):It :=
 ⟨fun i H=>∃ xs x,SqL K H a xs/\xs[i]?=some x,fun i H x H'=>H'=H/\∀ xs,SqL K H a xs->xs[i]?=some x,fun i H=>∃ xs,SqL K H a xs/\xs.length<=i⟩
def Itt (K:Fg) (a:Addr):It :=
 ⟨fun i H=>∃ xs x,SqT K H a xs/\xs[i]?=some x,fun i H x H'=>H'=H/\∀ xs,SqT K H a xs->xs[i]?=some x,fun i H=>∃ xs,SqT K H a xs/\xs.length<=i⟩
def Itr (lo:Int) (n:Nat):It:=⟨fun i _=>i < n,fun i H x H'=>H'=H/\x=.int (lo+i),fun i _=>n<=i⟩
theorem tU {P:Program} {w:World} {K:Fg} {tg:Expr} (a it:Addr):Turn P w K tg (Itl K a) [it] it (fun i h=>h.IsListIter it a i) where
 mem:=by simp
 obj:=fun i h st b hb=>by
  have e:b=it:=by simpa using hb
  subst e;obtain ⟨o,e,c,d⟩:=st;exact ⟨o,e,fun v z=>by rw [d] at z;cases z⟩
 keep:=fun i h h' st k=>st.at fun o e=>k it (by simp) o e
 item:=by
  intro X hP hw hK hc i pins s Z H E I hf st hg;subst hP hw hK;obtain ⟨xs,x,hq,hx⟩:=hg;obtain ⟨its,rv,p,hz⟩:=I.list hq;obtain ⟨u,hu,ru⟩:=rv.get hx;obtain ⟨f0,f1,f2,f3,f4,f5⟩:=hf it (by simp);refine wpAny_pyNext_list_item st p.isList (x:=u) (by simpa using hu) fun h' st' sb=>?_;have I1:Inv X pins Z H { s with heap:=h' }:=I.turned (t':=s.toks) (fun b o hb e=>(sb.2 b hb).trans e) f0 f1 f3 f4 f5;obtain ⟨o,e,c,d⟩:=id st';exact ⟨u,rfl,zO (s:={ s with heap:=h' }) e c d (by decide) ⟨x,H,I1,ru,⟨rfl,fun ys hy=>by rw [I.vt hy hq];exact hx⟩,st',fun b hb=>(hf b hb).1⟩⟩
 done:=by
  intro X hP hw hK hc i pins s Z H E I hf st hg;subst hP hw hK;obtain ⟨xs,hq,hx⟩:=hg;obtain ⟨its,rv,p,hz⟩:=I.list hq;obtain ⟨f0,f1,f2,f3,f4,f5⟩:=hf it (by simp);have hl:=rv.length;exact wpAny_pyNext_list_end (I.ok.hd hc) st p.isList (by simp;omega) fun h' eb=>⟨rfl,I.turned (t':=s.toks) (fun b o hb e=>eb b o hb e) f0 f1 f3 f4 f5⟩
 self:=fun _ _ _ _ _ st h=>wpAny_pyIter_listiter st h
theorem pQ {P:Program} {w:World} {K:Fg} {tg:Expr} (a it:Addr):Turn P w K tg (Itt K a) [it] it (fun i h=>h.IsTupleIter it a i) where
 mem:=by simp
 obj:=fun i h st b hb=>by
  have e:b=it:=by simpa using hb
  subst e;obtain ⟨o,e,c,d⟩:=st;exact ⟨o,e,fun v z=>by rw [d] at z;cases z⟩
 keep:=fun i h h' st k=>st.at fun o e=>k it (by simp) o e
 item:=by
  intro X hP hw hK hc i pins s Z H E I hf st hg;subst hP hw hK;obtain ⟨xs,x,hq,hx⟩:=hg;obtain ⟨its,rv,p,hz⟩:=I.tuple hq;obtain ⟨u,hu,ru⟩:=rv.get hx;obtain ⟨f0,f1,f2,f3,f4,f5⟩:=hf it (by simp);refine wpAny_pyNext_tuple_item st (show s.heap.IsTuple a its.toArray from p) (x:=u) (by simpa using hu) fun h' st' sb=>?_;have I1:Inv X pins Z H { s with heap:=h' }:=I.turned (t':=s.toks) (fun b o hb e=>(sb.2 b hb).trans e) f0 f1 f3 f4 f5;obtain ⟨o,e,c,d⟩:=id st';exact ⟨u,rfl,zO (s:={ s with heap:=h' }) e c d (by decide) ⟨x,H,I1,ru,⟨rfl,fun ys hy=>by rw [I.uC hy hq];exact hx⟩,st',fun b hb=>(hf b hb).1⟩⟩
 done:=by
  intro X hP hw hK hc i pins s Z H E I hf st hg;subst hP hw hK;obtain ⟨xs,hq,hx⟩:=hg;obtain ⟨its,rv,p,hz⟩:=I.tuple hq;obtain ⟨f0,f1,f2,f3,f4,f5⟩:=hf it (by simp);have hl:=rv.length;exact wpAny_pyNext_tuple_end (I.ok.hd hc) st (show s.heap.IsTuple a its.toArray from p) (by simp;omega) fun h' eb=>⟨rfl,I.turned (t':=s.toks) (fun b o hb e=>eb b o hb e) f0 f1 f3 f4 f5⟩
 self:=fun _ _ _ _ _ st h=>wpAny_pyIter_tupleiter st h
theorem p0 {P:Program} {w:World} {K:Fg} {tg:Expr} (it:Addr) (lo:Int) (n:Nat):Turn P w K tg (Itr lo n) [it] it (fun i h=>IsRangeIter h it (lo+(i:Nat)*1) ((n:Int) - (i:Nat)) 1) where
 mem:=by simp
 obj:=fun i h st b hb=>by
  have e:b=it:=by simpa using hb
  subst e
  exact ⟨_,st,fun v z=>by
   have z':Data.fields _=Data.cell v:=z
   cases z'⟩
 keep:=fun i h h' st k=>k it (by simp) _ st
 item:=by
  intro X hP hw hK hc i pins s Z H E I hf st hg;subst hP hw hK;obtain ⟨f0,f1,f2,f3,f4,f5⟩:=hf it (by simp);have W:=Walks.range (prog:=X.prog) (w:=X.w) (I.ok.hd hc) it lo 1 n;refine W.item i s _ _ hg st fun v h' tk hv st' kk=>?_;obtain ⟨t,rfl⟩:=hv;have I1:Inv X pins Z H { s with heap:=h',toks:=tk }:=I.turned (fun b o hb e=>kk b o (by simpa using hb) e) f0 f1 f3 f4 f5;refine ⟨_,rfl,zO (s:={ s with heap:=h',toks:=tk }) (n := "range_iterator") st' rfl rfl (by decide) ⟨.int (lo+i),H,I1,⟨t,?_⟩,⟨rfl,rfl⟩,st',fun b hb=>(hf b hb).1⟩⟩;rw [Int.mul_one]
 done:=by
  intro X hP hw hK hc i pins s Z H E I hf st hg;subst hP hw hK;obtain ⟨f0,f1,f2,f3,f4,f5⟩:=hf it (by simp);exact wpAny_pyNext_range_end (I.ok.hd hc) st (by have:n<=i:=hg;omega) fun h' eb=>⟨rfl,I.turned (t':=s.toks) (fun b o hb e=>eb b o hb e) f0 f1 f3 f4 f5⟩
 self:=fun _ _ _ _ _ st h=>wpAny_pyIter_rangeiter st h
end L2
namespace L2
open PySem PySem.Spec PyProof.Rows
section
variable {X:Cx} {tg:Expr}
def z6 (K:Fg) (tl:TE):TI:=fun Z H R=>tl Z H fun x H1=>∃ a,x=.ref a/\(∃ xs,SqL K H1 a xs)/\R (Itl K a) H1
def Eo (K:Fg) (tl:TE):TI:=fun Z H R=>tl Z H fun x H1=>∃ a,x=.ref a/\(∃ xs,SqT K H1 a xs)/\R (Itt K a) H1
theorem yV {l:Expr} {tl:TE} (hl:PE X l tl):PI X tg l (z6 X.K tl):=by
 intro pins s Z H R I h;refine thn (hl pins s Z H _ I h) fun v s1 ⟨x,H1,I1,r1,q1⟩=>?_;obtain ⟨a,e,⟨xs,hq⟩,q⟩:=q1;subst e;cases r1;obtain ⟨its,rv,p,hz⟩:=I1.list hq;refine wpAny_pyIter_list p.isList ?_;refine ⟨s1.heap.objs.size,[s1.heap.objs.size],_,_,H1,rfl,I1.kept (t':=s1.toks) fun b o e=>Jp _ e,tU a _,⟨_,JN _ rfl,rfl,rfl⟩,fun b hb=>?_,q⟩;have e:b=s1.heap.objs.size:=by simpa using hb
 subst e;exact I1.Ec (Jt _) (I1.hok.fresh (Jt _))
theorem Aw {l:Expr} {tl:TE} (hl:PE X l tl):PI X tg l (Eo X.K tl):=by
 intro pins s Z H R I h;refine thn (hl pins s Z H _ I h) fun v s1 ⟨x,H1,I1,r1,q1⟩=>?_;obtain ⟨a,e,⟨xs,hq⟩,q⟩:=q1;subst e;cases r1;obtain ⟨its,rv,p,hz⟩:=I1.tuple hq;refine wpAny_pyIter_tuple (show s1.heap.IsTuple a its.toArray from p) ?_;refine ⟨s1.heap.objs.size,[s1.heap.objs.size],_,_,H1,rfl,I1.kept (t':=s1.toks) fun b o e=>Jp _ e,pQ a _,⟨_,JN _ rfl,rfl,rfl⟩,fun b hb=>?_,q⟩;have e:b=s1.heap.objs.size:=by simpa using hb
 subst e;exact I1.Ec (Jt _) (I1.hok.fresh (Jt _))
theorem vM {pins:List (Addr×Obj)} {Z:St} {H:Hp} {s:Shared} {R:It->Hp->Prop} {E:Value->Shared->Prop} {lo hi:Int} {t u v:Tok} {tk:Nat} (I:Inv X pins Z H s) (h1:-(2 ^ 62)<=lo) (h2:lo < 2 ^ 62) (h3:-(2 ^ 62)<=hi) (h4:hi < 2 ^ 62)
  (q:R (Itr lo (hi - lo).toNat) H):wpAny (model X.prog X.w) X.A (pyIter (.ref s.heap.objs.size)) (PIE X pins Z tg R) E { s with heap:=s.heap.push { cls:=.type "range", data:=.fields #[.int lo t,.int hi u,.int 1 v] },toks:=tk }:=by
 refine wpAny_pyIter_range (IsRange.new ..) (small_one h1 h2 h3 h4) ?_;have I1:Inv X pins Z H { s with heap:=s.heap.push { cls:=.type "range", data:=.fields #[.int lo t,.int hi u,.int 1 v] },toks:=tk }:=I.kept fun b o e=>Jp _ e
 refine ⟨(s.heap.push { cls:=.type "range", data:=.fields #[.int lo t,.int hi u,.int 1 v] }).objs.size,[(s.heap.push { cls:=.type "range", data:=.fields #[.int lo t,.int hi u,.int 1 v] }).objs.size],_,_,H,rfl,
  I1.kept (t':=tk) fun b o e=>Jp _ e,p0 _ lo (hi - lo).toNat,?_,fun b hb=>?_,q⟩
 ·have e1:lo+((0:Nat):Int)*1=lo:=by simp
  have e2:(((hi - lo).toNat:Nat):Int) - ((0:Nat):Int)=Builtin.Range.rangeSize lo hi 1:=by rw [rangeSize_one];split <;> omega
  show IsRangeIter _ _ (lo+((0:Nat):Int)*1) ((((hi - lo).toNat:Nat):Int) - ((0:Nat):Int)) 1;rw [e1,e2];exact JN _ rfl
 ·have e:b=(s.heap.push { cls:=.type "range", data:=.fields #[.int lo t,.int hi u,.int 1 v] }).objs.size:=by simpa using hb
  subst e;exact I1.Ec (Jt _) (I1.hok.fresh (Jt _))
def yy (ta:TA):TI:=fun Z H R=>ta Z H fun vs H1=>∃ j:Int,vs=[.int j]/\-(2 ^ 62)<=j/\j < 2 ^ 62/\R (Itr 0 j.toNat) H1
theorem rl {a:Expr} {ta:TA} {p pos:Pos} (hg:Gl X "range") (hm:X.mg "range" = none) (ha:PA X [a] ta) (hs:starEach [a] X.env=[(false,eval a X.env)]:=by rfl):PI X tg (.Call (.Name "range" p) [a] [] pos) (yy ta):=by
 intro pins s Z H R I h;refine Call_ (pz I hg hm boot_range (PyProof.Rows.callWith_type1 (thn (ha pos pins s Z H _ I h) fun us s1 ⟨vs,H1,I1,r1,q1⟩=>?_) hs rfl));obtain ⟨j,e,q1,q2,q⟩:=q1;subst e;cases r1 with
 | cons r rr =>
  cases rr;obtain ⟨t,rfl⟩:=r;exact call_range_1 (vM I1 (by omega) (by omega) q1 q2 (by simpa using q))
def CF (wi:TI) (g:TG) (tb:TS):TS:=fun D Z H=>wi Z H fun J H1=>∃ W:Nat->Nat->St->Hp->Prop,(∃ m,W 0 m Z H1)/\∀ i m Z H,W i m Z H ->
 (J.stop i H/\D.nx Z H)\/(J.go i H/\∃ N:St->Hp->Prop,(∀ Z' H',N Z' H'->∃ m',m' < m/\W (i+1) m' Z' H')/\∀ x H',J.yld i H x H'->g x Z H' fun Z2 H2=>tb { D with nx:=N,ct:=N,bk:=D.nx } Z2 H2)
noncomputable def lQ (fp:List Addr) (h:Heap):List (Addr×Obj):=fp.filterMap fun b=>(h.get? b).map fun o=>(b,o)
theorem dZ (hb:b∈fp) (e:h.get? b=some o):(b,o)∈lQ fp h:=KL.mpr ⟨b,hb,by rw [e];rfl⟩
theorem tm (hp:p∈lQ fp h):p.1∈fp/\h.get? p.1=some p.2:=by
 obtain ⟨b,hb,e⟩:=KL.mp hp;cases q:h.get? b with
 | none=>rw [q] at e;cases e
 | some o =>
  rw [q] at e;have e':(b,o)=p:=Kq e;subst e';exact ⟨hb,q⟩
theorem Inv.pinned (I:Inv X pins Z H s) (hf:∀ b∈fp,uV X pins H b) (ho:∀ b∈fp,∃ o,s.heap.get? b=some o/\∀ v,o.data≠.cell v):Inv X (pins++lQ fp s.heap) Z H s :=
 I.fM fun p hp=>(Kg.mp hp).elim (fun z=>I.pin p (JZ _ z)) fun z=>by
  obtain ⟨hb,e⟩:=tm z;obtain ⟨f0,f1,f2,_⟩:=hf p.1 hb;obtain ⟨o,e',d⟩:=ho p.1 hb;rw [e] at e';cases e';exact ⟨e,f0,f1,f2,d⟩
theorem Inv.gK (I:Inv X (pins++pl) Z H s):Inv X pins Z H s:=I.fM fun p hp=>I.pin p (JZ _ (KP _ hp))
theorem BW {iter:Expr} {body:List Stmt} {wi:TI} {g:TG} {tb:TS} {pos:Pos} (hp:PassesOwn (model X.prog X.w) X.A X.env X.xe) (hc:X.calm=true) (hi:PI X tg iter wi) (hg:PG X tg g) (hb:PSs X body tb)
  (hs:∀ x,foldedSetIterable iter X.env x=pure x:=by intro _;rfl):PS X (.For tg iter body [] pos) (CF wi g tb):=by
 intro pins s Z H D I h;refine wpAny_For (thn (hi pins s Z H _ I h) fun v s1 h1=>thn h1 fun itv s2 h2=>?_) hs;obtain ⟨it,fp,tn,J,H2,e,I2,T,st2,f2,W,⟨m0,w0⟩,turn⟩:=h2;subst e;have stat:∀ {H':Hp},(∀ b∈fp,H' b=none)->∀ b∈fp,uV X pins H' b:=fun hn b hb=>⟨hn b hb,(f2 b hb).2⟩;refine codeAny_forLoop_any (fun n s'=>∃ i Z' H',Inv X pins Z' H' s'/\tn i s'.heap/\(∀ b∈fp,H' b=none)/\W i n Z' H') ?_ m0 ⟨0,Z,H2,I2,st2,fun b hb=>(f2 b hb).1,w0⟩;rintro n s3 ⟨i,Z3,H3,I3,st3,fr3,w3⟩;rcases turn i n Z3 H3 w3 with ⟨stop,qn⟩ | ⟨go,N,hN,step⟩
 ·refine Mb hp (thn (T.done X rfl rfl rfl hc i pins s3 Z3 H3 X.xe I3 (stat fr3) st3 stop) fun r s4 ⟨hr,I4⟩=>?_);subst hr;exact wpAny_execs_nil ⟨Z3,H3,I4,qn⟩
 ·refine Mb hp (thn (T.item X rfl rfl rfl hc i pins s3 Z3 H3 X.xe I3 (stat fr3) st3 go) fun r s4 ⟨u,hr,h4⟩=>?_);subst hr;refine Mb hp (thn h4 fun _ s5 ⟨x,H5,I5,r5,y5,st5,fr5⟩=>?_);have I5':=I5.pinned (stat fr5) (T.obj _ _ st5);refine Mb hp (thn (hg _ s5 Z3 H5 x u _ I5' r5 (step x H5 y5)) fun _ s6 ⟨Z6,H6,I6,q6⟩=>?_);refine Mb hp (thn (hb _ s6 Z6 H6 _ I6 q6) fun f s7 q7=>?_);have again:∀ {Z7:St} {H7:Hp},Inv X (pins++lQ fp s5.heap) Z7 H7 s7->N Z7 H7->∃ m,m < n/\∃ i Z' H',Inv X pins Z' H' s7/\tn i s7.heap/\(∀ b∈fp,H' b=none)/\W i m Z' H':=fun {Z7 H7} I7 n7=>by
   obtain ⟨m',hm,w7⟩:=hN Z7 H7 n7;refine ⟨m',hm,i+1,Z7,H7,I7.gK,T.keep _ _ _ st5 fun b hb o e=>(I7.pin (b,o) (JZ _ (JZ _ (dZ hb e)))).1,fun b hb=>?_,w7⟩;obtain ⟨o,e,d⟩:=T.obj _ _ st5 b hb;exact (I7.pin (b,o) (JZ _ (JZ _ (dZ hb e)))).2.1
  cases f with
  | next=>obtain ⟨Z7,H7,I7,n7⟩:=q7;exact again I7 n7
  | cont=>obtain ⟨Z7,H7,I7,n7⟩:=q7;exact again I7 n7
  | brk=>obtain ⟨Z7,H7,I7,q7⟩:=q7;exact ⟨Z7,H7,I7.gK,q7⟩
  | ret v=>obtain ⟨x7,Z7,H7,I7,r7,q7⟩:=q7;exact ⟨x7,Z7,H7,I7.gK,r7,q7⟩
end
end L2
namespace L2
open PySem PySem.Spec PyProof.Rows
abbrev R2:=V->V->Hp->VK->Prop
def OpR (X:Cx) (f:Value->Value->Sem Value) (r:R2):Prop :=
 ∀ (pins:List (Addr×Obj)) (s:Shared) (Z:St) (H:Hp) (x y:V) (v u:Value) (Q:VK),Inv X pins Z H s->RelV x v->RelV y u->r x y H Q ->
  wpAny (model X.prog X.w) X.A (f v u) (EP X pins Z Q) X.xe s
def aB (X:Cx) (f:Value) (r:List V->Hp->VK->Prop):Prop :=
 ∀ (pins:List (Addr×Obj)) (s:Shared) (Z:St) (H:Hp) (xs:List V) (us:List Value) (Q:VK),Inv X pins Z H s->Vals xs us->r xs H Q ->
  wpAny (model X.prog X.w) X.A (call f us) (EP X pins Z Q) X.xe s
def Il (X:Cx) (r:V->Hp->(Bool->Hp->Prop)->Prop):Prop :=
 ∀ (pins:List (Addr×Obj)) (s:Shared) (Z:St) (H:Hp) (x:V) (v:Value) (Q:Bool->Hp->Prop),Inv X pins Z H s->RelV x v->r x H Q ->
  wpAny (model X.prog X.w) X.A (truthy v) (TP X pins Z Q) X.xe s
def tOp (r:R2) (ta tb:TE):TE:=fun Z H Q=>ta Z H fun x H1=>tb Z H1 fun y H2=>r x y H2 Q
def rI (C:Int->Int->Prop) (g:Int->Int->V):R2:=fun x y H Q=>∃ i j,x=.int i/\y=.int j/\C i j/\Q (g i j) H
def rI0 (g:Int->Int->V):R2:=fun x y H Q=>∃ i j,x=.int i/\y=.int j/\Q (g i j) H
def rU (g:Int->V):V->Hp->VK->Prop:=fun x H Q=>∃ i,x=.int i/\Q (g i) H
section
variable {X:Cx} {a b c:Expr} {ta tb tc:TE} {pos:Pos}
theorem ES (ha:PE X a ta) (hb:PE X b tb) {pins:List (Addr×Obj)} {s:Shared} {Z:St} {H:Hp} {R:V->V->Hp->Prop} (I:Inv X pins Z H s)
  (h:ta Z H fun x H1=>tb Z H1 fun y H2=>R x y H2) {Q:Value->Shared->Prop} {f:Value->Value->Sem Value}
  (hf:∀ v u s2 x y H2,Inv X pins Z H2 s2->RelV x v->RelV y u->R x y H2->wpAny (model X.prog X.w) X.A (f v u) Q X.xe s2) :
  wpAny (model X.prog X.w) X.A (eval a X.env) (fun v ZJ=>wpAny (model X.prog X.w) X.A (eval b X.env) (fun u ZU=>wpAny (model X.prog X.w) X.A (f v u) Q X.xe ZU) X.xe ZJ) X.xe s:=by
 refine thn (ha pins s Z H _ I h) fun v s1 ⟨x,H1,I1,r1,q1⟩=>?_;refine thn (hb pins s1 Z H1 _ I1 q1) fun u s2 ⟨y,H2,I2,r2,q2⟩=>?_;exact hf v u s2 x y H2 I2 r1 r2 q2
theorem Fv {op:Operator} {r:R2} (ho:OpR X (binaryOp op) r) (ha:PE X a ta) (hb:PE X b tb):PE X (.BinOp a op b pos) (tOp r ta tb):=by
 intro pins s Z H Q I h;exact wpAny_BinOp (ES ha hb I h fun v u s2 x y H2 I2 rx ry q=>ho pins s2 Z H2 x y v u Q I2 rx ry q)
theorem opI {f:Value->Value->Sem Value} {C:Int->Int->Prop} {g:Int->Int->Int}
  (rule:∀ (i j:Int) (t u:Tok) (s:Shared) (Q:Value->Shared->Prop) (E:Value->Shared->Prop),C i j->Q (.int (g i j) s.toks) { s with toks:=s.toks+1 }->wpAny (model X.prog X.w) X.A (f (.int i t) (.int j u)) Q E s) :
  OpR X f (rI C fun i j=>.int (g i j)):=by
 intro pins s Z H x y v u Q I rx ry h;obtain ⟨i,j,rfl,rfl,hc,q⟩:=h;obtain ⟨t,rfl⟩:=rx;obtain ⟨t',rfl⟩:=ry;exact rule i j t t' s _ _ hc ⟨.int (g i j),H,I.tok _,⟨_,rfl⟩,q⟩
theorem Hq {f:Value->Value->Sem Value} {g:Int->Int->Int}
  (rule:∀ (i j:Int) (t u:Tok) (s:Shared) (Q:Value->Shared->Prop) (E:Value->Shared->Prop),Q (.int (g i j) s.toks) { s with toks:=s.toks+1 }->wpAny (model X.prog X.w) X.A (f (.int i t) (.int j u)) Q E s) :
  OpR X f (rI0 fun i j=>.int (g i j)):=by
 intro pins s Z H x y v u Q I rx ry h;obtain ⟨i,j,rfl,rfl,q⟩:=h;obtain ⟨t,rfl⟩:=rx;obtain ⟨t',rfl⟩:=ry;exact rule i j t t' s _ _ ⟨.int (g i j),H,I.tok _,⟨_,rfl⟩,q⟩
theorem DZ {f:Value->Value->Sem Value} {g:Int->Int->Bool}
  (rule:∀ (i j:Int) (t u:Tok) (s:Shared) (Q:Value->Shared->Prop) (E:Value->Shared->Prop),Q (.bool (g i j)) s->wpAny (model X.prog X.w) X.A (f (.int i t) (.int j u)) Q E s) :
  OpR X f (rI0 fun i j=>.bl (g i j)):=by
 intro pins s Z H x y v u Q I rx ry h;obtain ⟨i,j,rfl,rfl,q⟩:=h;obtain ⟨t,rfl⟩:=rx;obtain ⟨t',rfl⟩:=ry;exact rule i j t t' s _ _ ⟨.bl (g i j),H,I,rfl,q⟩
def HD (i j:Int):Prop:=0<=j/\j<=1000000/\i.natAbs < 2 ^ 64
def AL (i j:Int):Prop:=(-(2 ^ 64) < i/\i < 2 ^ 64)\/(-(2 ^ 64) < j/\j < 2 ^ 64)
theorem AL.ok (h:AL i j):IntMulOk i j:=by
 rcases h with ⟨h1,h2⟩ | ⟨h1,h2⟩
 ·exact .of_left (intBits_le_64 h1 h2)
 ·exact .of_right (intBits_le_64 h1 h2)
theorem B2:OpR X (binaryOp .Add) (rI0 fun i j=>.int (i+j)):=Hq fun _ _ _ _ _ _ _ q=>add_int q
theorem De:OpR X (binaryOp .Sub) (rI0 fun i j=>.int (i - j)):=Hq fun _ _ _ _ _ _ _ q=>sub_int q
theorem Be:OpR X (binaryOp .Mult) (rI AL fun i j=>.int (i*j)):=opI fun _ _ _ _ _ _ _ hc q=>mul_int q hc.ok
theorem BU:OpR X (binaryOp .Mod) (rI (fun _ j=>0 < j) fun i j=>.int (i % j)):=opI fun i j _ _ _ _ _ hc q=>by
 have h1:(0:Int) < j:=hc;exact mod_int' (by omega) (by rw [Int.fmod_eq_emod_of_nonneg i (by omega)];exact q)
theorem CZ:OpR X (binaryOp .Pow) (rI HD fun i j=>.int (i ^ j.toNat)):=opI fun _ _ _ _ _ _ _ hc q=>pow_int_small hc.1 hc.2.1 hc.2.2 q
end
section
variable {X:Cx} {a b c:Expr} {ta tb tc:TE} {pos:Pos}
theorem oe (I:Inv X pins Z H s) (q:Q (.bl k) H) (e:k=k'):EP X pins Z Q (.bool k') s:=by
 subst e;exact ⟨.bl k,H,I,rfl,q⟩
theorem FQ:OpR X (compareOp .Lt) (rI0 fun i j=>.bl (decide (i < j))):=DZ fun _ _ _ _ _ _ _ q=>lt_int q
theorem FJ:OpR X (compareOp .LtE) (rI0 fun i j=>.bl (decide (i<=j))):=DZ fun _ _ _ _ _ _ _ q=>le_int q
theorem Gg:OpR X (compareOp .Gt) (rI0 fun i j=>.bl (decide (j < i))):=DZ fun _ _ _ _ _ _ _ q=>gt_int q
theorem Gu:OpR X (compareOp .GtE) (rI0 fun i j=>.bl (decide (j<=i))):=DZ fun _ _ _ _ _ _ _ q=>ge_int q
theorem tS:OpR X (compareOp .Lt) (fun x y H Q=>∃ i j,x=.str i/\y=.str j/\Q (.bl (decide (i.cps.toList < j.cps.toList))) H):=by
 intro pins s Z H x y v u Q I rx ry h;obtain ⟨i,j,rfl,rfl,q⟩:=h;obtain ⟨t,rfl⟩:=rx;obtain ⟨t',rfl⟩:=ry;exact lt_str (oe I q rfl)
theorem qS:OpR X (compareOp .In) (fun x y H Q=>∃ i j,x=.str i/\y=.str j/\Q (.bl (!(Builtin.Str.occurrences j i 0 j.length 1).isEmpty)) H):=by
 intro pins s Z H x y v u Q I rx ry h;obtain ⟨i,j,rfl,rfl,q⟩:=h;obtain ⟨t,rfl⟩:=rx;obtain ⟨t',rfl⟩:=ry;exact in_str (oe I q rfl)
theorem Cm:OpR X (compareOp .Is) (fun x y H Q=>y=.non/\Q (.bl (decide (x=.non))) H):=by
 intro pins s Z H x y v u Q I rx ry h;obtain ⟨rfl,q⟩:=h;cases ry;refine is_none_gen (oe I q ?_);cases x <;> first
  | (cases rx;rfl)
  | (obtain ⟨t,rfl⟩:=rx;rfl)
theorem yF:OpR X (compareOp .IsNot) (fun x y H Q=>y=.non/\Q (.bl (!decide (x=.non))) H):=by
 intro pins s Z H x y v u Q I rx ry h;obtain ⟨rfl,q⟩:=h;cases ry;refine isnot_none_gen (oe I q ?_);cases x <;> first
  | (cases rx;rfl)
  | (obtain ⟨t,rfl⟩:=rx;rfl)
theorem cm (b:Expr) (h:op≠.In:=by decide) (h2:op≠.NotIn:=by decide):behindInMarks op b=false:=by
 have e1:(op==CmpOp.In)=false:=by cases op <;> first | rfl | exact absurd rfl h
 have e2:(op==CmpOp.NotIn)=false:=by cases op <;> first | rfl | exact absurd rfl h2
 cases b <;> simp [behindInMarks,e1,e2]
theorem Ac {op:CmpOp} {r:R2} (ho:OpR X (compareOp op) r) (ha:PE X a ta) (hb:PE X b tb) (hm:behindInMarks op b=false):PE X (.Compare a [op] [b] pos) (tOp r ta tb):=by
 intro pins s Z H Q I h;exact wpAny_Compare1 (ES ha hb I h fun v u s2 x y H2 I2 rx ry q=>ho pins s2 Z H2 x y v u Q I2 rx ry q) hm
def rp (t:TE):TT:=fun Z H Q=>t Z H fun x H'=>∃ k,x=.bl k/\Q k H'
theorem yr (ho:OpR X (compareOp op) r) (ha:PE X a ta) (hb:PE X b tb) (hm:behindInMarks op b=false):PT X (.Compare a [op] [b] pos) (rp (tOp r ta tb)):=by
 intro pins s Z H Q I h
 refine wpAny_isTrue_Compare1 (thn (ha pins s Z H _ I h) fun v s1 ⟨x,H1,I1,r1,q1⟩=>thn (hb pins s1 Z H1 _ I1 q1) fun u s2 ⟨y,H2,I2,r2,q2⟩ =>
  thn (ho pins s2 Z H2 x y v u _ I2 r1 r2 q2) fun c s3 ⟨z,H3,I3,r3,k,e,q3⟩=>?_) hm
 subst e;cases r3;exact Ku ⟨H3,I3,q3⟩
def lL (r r':R2) (ta tb tc:TE):TE:=fun Z H Q=>ta Z H fun x H1=>tb Z H1 fun y H2=>r x y H2 fun z H3=>∃ k,z=.bl k /\
 (if k=true then tc Z H3 fun w' H4=>r' y w' H4 Q else Q (.bl false) H3)
theorem wj (ho:OpR X (compareOp op) r) (ho':OpR X (compareOp op') r') (ha:PE X a ta) (hb:PE X b tb) (hc:PE X c tc)
  (hm:lastMarks [op,op'] [b,c]=false:=by with_unfolding_all rfl):PE X (.Compare a [op,op'] [b,c] pos) (lL r r' ta tb tc):=by
 intro pins s Z H Q I h
 refine Compare_chain (thn (ha pins s Z H _ I h) fun v s1 ⟨x,H1,I1,r1,q1⟩=>chain_link (thn (hb pins s1 Z H1 _ I1 q1) fun u s2 ⟨y,H2,I2,r2,q2⟩ =>
  thn (ho pins s2 Z H2 x y v u _ I2 r1 r2 q2) fun d s3 ⟨z,H3,I3,r3,k,e,q3⟩=>?_)) hm
 subst e;cases r3;refine Ku ?_;cases k with
 | false=>exact ite_ff ⟨.bl false,H3,I3,rfl,q3⟩
 | true=>exact ite_tt (chain_last (thn (hc pins s3 Z H3 _ I3 q3) fun w' s4 ⟨z',H4,I4,r4,q4⟩=>ho' pins s4 Z H4 y z' u w' Q I4 r2 r4 q4))
theorem vL (ho:OpR X (compareOp op) r) (ho':OpR X (compareOp op') r') (ha:PE X a ta) (hb:PE X b tb) (hc:PE X c tc)
  (hm:lastMarks [op,op'] [b,c]=false:=by with_unfolding_all rfl):PT X (.Compare a [op,op'] [b,c] pos) (rp (lL r r' ta tb tc)):=by
 intro pins s Z H Q I h
 refine isTrue_chain (thn (ha pins s Z H _ I h) fun v s1 ⟨x,H1,I1,r1,q1⟩=>test_link (thn (hb pins s1 Z H1 _ I1 q1) fun u s2 ⟨y,H2,I2,r2,q2⟩ =>
  thn (ho pins s2 Z H2 x y v u _ I2 r1 r2 q2) fun d s3 ⟨z,H3,I3,r3,k,e,q3⟩=>?_)) hm
 subst e;cases r3;refine Ku ?_;cases k with
 | false =>
  obtain ⟨k',e',q'⟩:=q3;cases e';exact ite_ff ⟨H3,I3,q'⟩
 | true =>
  refine ite_tt (test_last (thn (hc pins s3 Z H3 _ I3 q3) fun w' s4 ⟨z',H4,I4,r4,q4⟩=>thn (ho' pins s4 Z H4 y z' u w' _ I4 r2 r4 q4) fun d' s5 ⟨z2,H5,I5,r5,k2,e2,q5⟩=>?_));subst e2;cases r5;exact Ku ⟨H5,I5,q5⟩
def IJ (K:Fg) (x:V) (H:Hp) (k:Bool):Prop :=
 match x with
 | .non=>k=false
 | .bl b=>k=b
 | .int i=>k=(i != 0)
 | .str y=>y.length<=sizeLine/\k=((y.length:Int) != 0)
 | .byt y=>y.size<=sizeLine/\k=((y.size:Int) != 0)
 | .ref p=>(∃ xs,SqL K H p xs/\k=!xs.isEmpty)\/(∃ xs,SqT K H p xs/\k=!xs.isEmpty)\/∃ kvs,H p=some (.dK kvs)/\k=!kvs.isEmpty
 | _=>False
theorem pL {κ:Type} {kvs:List (κ×V)} {vs:List (κ×Value)} (r:KV kvs vs):(!vs.isEmpty)=!kvs.isEmpty:=by
 cases r <;> rfl
theorem jy {xs:List V} {its:List Value} (r:Vals xs its):(!its.toArray.isEmpty)=!xs.isEmpty:=by
 cases r <;> simp
theorem jI:(sizeLine:Nat) < 2 ^ 63:=by rw [Kk];decide
theorem HL:Il X (fun x H Q=>∃ k,IJ X.K x H k/\Q k H):=by
 intro pins s Z H x v Q I rx h;obtain ⟨k,e,q⟩:=h;have hl:=jI;have hs:sizeLine=16777216:=Kk;cases x with
 | non =>
  cases rx;have e':k=false:=e;subst e';exact truthy_none ⟨H,I,q⟩
 | bl b =>
  cases rx;have e':k=b:=e;subst e';exact Ku ⟨H,I,q⟩
 | int i =>
  obtain ⟨t,rfl⟩:=rx;have e':k=(i != 0):=e;subst e';exact PySem.P.truthy_int ⟨H,I,q⟩
 | str y =>
  obtain ⟨t,rfl⟩:=rx;obtain ⟨hy,e'⟩:y.length<=sizeLine/\k=((y.length:Int) != 0):=e;subst e';exact PySem.P.truthy_str (by omega) ⟨H,I.tok _,q⟩
 | byt y =>
  obtain ⟨t,rfl⟩:=rx;obtain ⟨hy,e'⟩:y.size<=sizeLine/\k=((y.size:Int) != 0):=e;subst e';exact PySem.W.truthy_bytes (by omega) ⟨H,I.tok _,q⟩
 | ref p =>
  cases rx;have e':(∃ xs,SqL X.K H p xs/\k=!xs.isEmpty)\/(∃ xs,SqT X.K H p xs/\k=!xs.isEmpty)\/∃ kvs,H p=some (.dK kvs)/\k=!kvs.isEmpty:=e;rcases e' with ⟨xs,hx,e'⟩ | ⟨xs,hx,e'⟩ | ⟨kvs,hx,e'⟩
  ·subst e';obtain ⟨its,r,pl,hz⟩:=I.list hx;have hlen:=r.length;exact wpAny_truthy_list pl.isList (by simp only [Jz];omega) ⟨H,I.tok _,by rw [jy r];exact q⟩
  ·subst e';obtain ⟨its,r,pl,hz⟩:=I.tuple hx;have hlen:=r.length;exact truthy_tuple pl (by simp only [Jz];omega) ⟨H,I.tok _,by rw [jy r];exact q⟩
  ·subst e';obtain ⟨hz,hS,vs,r,m⟩:kvs.length<=sizeLine/\(p==sysModules)=false/\∃ vs,KV kvs vs/\s.heap.DictOf (bp X.prog X.w) p vs:=I.hok p _ hx;have hlen:kvs.length=vs.length:=Paired.length r;exact wpAny_truthy_dict hS m (by omega) ⟨H,I.tok _,by rw [pL r];exact q⟩
 | _=>exact (show False from e).elim
theorem pR:OpR X (binaryOp .Add) (fun x y H Q=>∃ i j,x=.str i/\y=.str j/\i.length+j.length<=sizeLine/\Q (.str (i++j)) H):=by
 intro pins s Z H x y v u Q I rx ry h;obtain ⟨i,j,rfl,rfl,hz,q⟩:=h;obtain ⟨t,rfl⟩:=rx;obtain ⟨t',rfl⟩:=ry;exact add_str (fun t' tk=>⟨.str (i++j),H,I.tok _,⟨_,rfl⟩,q⟩) hz
theorem vals1 (r:Vals [x] us):∃ u,us=[u]/\RelV x u:=by
 cases r with
 | cons r1 r2=>cases r2;exact ⟨_,rfl,r1⟩
theorem vals2 (r:Vals [x,y] us):∃ u w',us=[u,w']/\RelV x u/\RelV y w':=by
 cases r with
 | cons r1 r2 =>
  cases r2 with
  | cons r3 r4=>cases r4;exact ⟨_,_,rfl,r1,r3⟩
theorem vj:aB X (.builtin "abs") (fun xs H Q=>∃ i,xs=[.int i]/\Q (.int (if i < 0 then -i else i)) H):=by
 intro pins s Z H xs us Q I r h;obtain ⟨i,rfl,q⟩:=h;obtain ⟨u,rfl,t,rfl⟩:=vals1 r;exact call_abs_int fun u tk=>⟨.int (if i < 0 then -i else i),H,I.tok _,⟨_,rfl⟩,q⟩
theorem qM (hc:X.calm=true):aB X (.builtin "min") (fun xs H Q=>∃ i j,xs=[.int i,.int j]/\Q (.int (if j < i then j else i)) H):=by
 intro pins s Z H xs us Q I r h;obtain ⟨i,j,rfl,q⟩:=h;obtain ⟨u,w',rfl,⟨t,rfl⟩,⟨t',rfl⟩⟩:=vals2 r;refine min_two_ints (I.ok.hd hc) fun h' tk k=>⟨_,H,I.kept k,?_,q⟩;by_cases hj:j < i
 ·rw [Jx hj,Jx hj];exact ⟨_,rfl⟩
 ·rw [JD hj,JD hj];exact ⟨_,rfl⟩
theorem rL:aB X (.type "int") (fun xs H Q=>(∃ i,xs=[.int i]/\Q (.int i) H)\/∃ k,xs=[.bl k]/\Q (.int (if k then 1 else 0)) H):=by
 intro pins s Z H xs us Q I r h;rcases h with ⟨i,rfl,q⟩ | ⟨k,rfl,q⟩
 ·obtain ⟨u,rfl,t,rfl⟩:=vals1 r;exact call_int_int ⟨.int i,H,I,⟨_,rfl⟩,q⟩
 ·obtain ⟨u,rfl,r1⟩:=vals1 r;cases r1;exact call_int_bool ⟨.int (if k then 1 else 0),H,I.tok _,⟨_,rfl⟩,q⟩
def Hb (K:Fg) (x:V) (H:Hp) (n:Nat):Prop :=
 match x with
 | .str y=>y.length<=sizeLine/\n=y.length
 | .byt y=>y.size<=sizeLine/\n=y.size
 | .ref p=>(∃ xs,SqL K H p xs/\n=xs.length)\/∃ xs,SqT K H p xs/\n=xs.length
 | _=>False
theorem wc:aB X (.builtin "len") (fun xs H Q=>∃ x n,xs=[x]/\Hb X.K x H n/\Q (.int n) H):=by
 intro pins s Z H xs us Q I r h;obtain ⟨x,n,rfl,e,q⟩:=h;obtain ⟨u,rfl,rx⟩:=vals1 r;have hl:=jI;have hs:sizeLine=16777216:=Kk;cases x with
 | str y =>
  obtain ⟨t,rfl⟩:=rx;obtain ⟨hy,e'⟩:y.length<=sizeLine/\n=y.length:=e;subst e';exact len_str (by omega) ⟨.int _,H,I.tok _,⟨_,rfl⟩,q⟩
 | byt y =>
  obtain ⟨t,rfl⟩:=rx;obtain ⟨hy,e'⟩:y.size<=sizeLine/\n=y.size:=e;subst e';exact PySem.W.len_bytes (by omega) ⟨.int _,H,I.tok _,⟨_,rfl⟩,q⟩
 | ref p =>
  cases rx;have e':(∃ xs,SqL X.K H p xs/\n=xs.length)\/∃ xs,SqT X.K H p xs/\n=xs.length:=e;rcases e' with ⟨xs,hx,e'⟩ | ⟨xs,hx,e'⟩
  ·subst e';obtain ⟨its,r',pl,hz⟩:=I.list hx;have hlen:=r'.length;exact Calls.call_len_list pl.isList (by simp only [Jz];omega) ⟨.int xs.length,H,I.tok _,⟨_,by simp only [Jz];rw [hlen]⟩,q⟩
  ·subst e';obtain ⟨its,r',pl,hz⟩:=I.tuple hx;have hlen:=r'.length;exact len_tuple pl (by simp only [Jz];omega) ⟨.int xs.length,H,I.tok _,⟨_,by simp only [Jz];rw [hlen]⟩,q⟩
 | _=>exact (show False from e).elim
end
end L2
namespace L2
open PySem PySem.Spec PyProof.Rows
structure gi (k:Nat) (A:Around):Prop where
 hd:A.handled=none
 dp:A.depth+3*k+5 < recursionLimit
 un:A.units+16*k+200 < cLine
 gd:A.guards=some []
theorem gi.mono (r:gi k A) (h:j<=k):gi j A:=⟨r.hd,by have:=r.dp;omega,by have:=r.un;omega,r.gd⟩
theorem gi.deeper (r:gi (k+1) A) (env:Env):gi k (A.deeper env) :=
 ⟨r.hd,by have:=r.dp;show A.depth+1+3*k+5 < _;omega,by have:=r.un;show A.units+3+16*k+200 < _;omega,r.gd⟩
theorem gi.depth (r:gi k A):A.depth < recursionLimit:=by have:=r.dp;omega
theorem gi.units (r:gi k A):A.units+64 < cLine:=by have:=r.un;omega
def uX:TA:=fun _ H Q=>Q [] H
def fA (ta:TE) (tr:TA):TA:=fun Z H Q=>ta Z H fun x H1=>tr Z H1 fun xs H2=>Q (x :: xs) H2
section
variable {X:Cx} {e:Expr} {es:List Expr} {te:TE} {t:TA} {pos:Pos}
theorem AW:PA X [] uX:=fun _ _ _ _ H Q I h=>Calls.spliced_nil ⟨[],H,I,.nil,h⟩
theorem zg (ha:PE X e te) (hr:PA X es t) (hs:starEach (e :: es) X.env=(false,eval e X.env) :: starEach es X.env:=by rfl):PA X (e :: es) (fA te t):=by
 intro pos pins s Z H Q I h;rw [hs];show wpAny _ _ (spliced ((false,eval e X.env) :: backTo pos (starEach es X.env))) _ _ s;refine Calls.spliced_cons (thn (ha pins s Z H _ I h) fun u s1 ⟨x,H1,I1,r1,q1⟩=>?_);exact thn (hr pos pins s1 Z H1 _ I1 q1) fun us s2 ⟨xs,H2,I2,r2,q2⟩=>⟨x :: xs,H2,I2,.cons r1 r2,q2⟩
def FZ (t:TA):TE:=fun Z H Q=>t Z H fun xs H1=>xs.length<=sizeLine/\∀ p,H1 p=none->Q (.ref p) (upd H1 p (.tup xs))
def ET (t:TA):TE:=fun Z H Q=>t Z H fun xs H1=>xs.length<=sizeLine/\∀ p,H1 p=none->Q (.ref p) (upd H1 p (.lst xs))
theorem By {x1} (h:PA X es t):PE X (.Tuple es x1 pos) (FZ t):=by
 intro pins s Z H Q I hq;refine wpAny_Tuple_spliced (thn (h pos pins s Z H _ I hq) fun us s1 ⟨xs,H1,I1,r,z,q⟩=>⟨by rw [<- r.length];exact z,?_⟩);have hf:H1 s1.heap.objs.size=none:=I1.hok.fresh (Jt _);refine ⟨.ref s1.heap.objs.size,upd H1 s1.heap.objs.size (.tup xs),I1.laid (t':=s1.toks) (fun b u e=>Jp _ e) (Jt _) ?_,rfl,q _ hf⟩;exact ⟨z,us,r,⟨_,JN _ rfl,rfl,_,rfl⟩⟩
theorem BI (h:PA X es t):PE X (.List es pos) (ET t):=by
 intro pins s Z H Q I hq;refine wpAny_List_spliced (thn (h pos pins s Z H _ I hq) fun us s1 ⟨xs,H1,I1,r,z,q⟩=>⟨by rw [<- r.length];exact z,?_⟩);have hf:H1 s1.heap.objs.size=none:=I1.hok.fresh (Jt _);refine ⟨.ref s1.heap.objs.size,upd H1 s1.heap.objs.size (.lst xs),I1.laid (t':=s1.toks) (fun b u e=>Jp _ e) (Jt _) ?_,rfl,q _ hf⟩;exact ⟨z,us,0,r,JN _ rfl⟩
end
abbrev Sp:=List V->Hp->VK->XK->Prop
abbrev CXT:=List Env->Hp->Shared->XK->Value->Shared->Prop
structure D1 (P:Program) (w:World) (K:Fg) (mg:Str->Option Value) (base:Heap) (A:Around) (outer:List Env) (s:Shared) (H:Hp):Prop where
 frames:A.frames=some outer
 mod:Mod K mg base
 bs:∀ b o,base.get? b=some o->s.heap.get? b=some o/\H b=none
 bsz:base.objs.size<=s.heap.objs.size
 r8:s.heap.FunFrames base outer
 frf:∀ b∈frs outer,H b=none
 hok:HOk P w H s.heap
 bare:AllBare s.gens
def CE (outer:List Env) (P:Program) (w:World) (H:Hp) (s:Shared) (Q:VK) (u:Value) (s':Shared):Prop :=
 ∃ v H',s'.os=s.os/\AllBare s'.gens/\Un (frs outer) [] H H' s.heap s'.heap/\HOk P w H' s'.heap/\RelV v u/\Q v H'
def CR (CX:CXT) (outer:List Env) (P:Program) (w:World) (H:Hp) (s:Shared) (Q:VK) (E:XK) (r:Result) (s':Shared):Prop :=
 match r with
 | .ok (.ret u)=>CE outer P w H s Q u s'
 | .ok _=>False
 | .error e=>CX outer H s E e s'
structure gE (P:Program) (w:World) (K:Fg) (mg:Str->Option Value) (base:Heap) (CX:CXT) (k:Nat) (f:Addr) (fd:FuncData) (ps:List Str) (sp:Sp):Prop where
 len:∀ vs H Q E,sp vs H Q E->vs.length=ps.length
 run:∀ (A:Around) (outer:List Env) (s:Shared) (H:Hp) (args:Args) (us:List Value) (vs:List V) (Q:VK) (E:XK),gi k A->D1 P w K mg base A outer s H->BindsTo s fd args (ps.zip us)->Vals vs us->sp vs H Q E ->
  codeAny (model P w) A (.call (.ref f) args) (CR CX outer P w H s Q E) s
theorem gE.mono {P:Program} {w:World} {K:Fg} {mg:Str->Option Value} {base:Heap} {CX:CXT} {j k:Nat} {f:Addr} {fd:FuncData} {ps:List Str} {sp:Sp} (F:gE P w K mg base CX j f fd ps sp) (h:j<=k) :
  gE P w K mg base CX k f fd ps sp:=⟨F.len,fun A outer s H args us vs Q E hr=>F.run A outer s H args us vs Q E (hr.mono h)⟩
section
variable {X:Cx} {pins:List (Addr×Obj)} {Z:St} {H:Hp} {s s':Shared}
theorem Inv.Jd (I:Inv X pins Z H s):D1 X.prog X.w X.K X.mg X.base X.A X.stack s H :=
 ⟨I.ok.frames,I.ok.mod,I.bs,J6 I.ok.bsz I.sz,I.stack,I.qW,I.hok,I.bare⟩
theorem Inv.after (I:Inv X pins Z H s) (h:CE X.stack X.prog X.w H s Q u s'):EP X pins Z Q u s':=by
 obtain ⟨v,H',os,bare,un,hok,r,q⟩:=h;obtain ⟨hh,g,d,t,os'⟩:=s';obtain rfl:os'=s.os:=os;exact ⟨v,H',I.call (h':=hh) (g':=g) (d':=d) (t':=t) (ch:=[]) un hok bare (fun b z=>absurd z (by simp)),r,q⟩
end
def nK (sp:Sp) (dvs:List V) (E:XK) (t:TA):TE:=fun Z H Q=>t Z H fun vs H1=>sp (vs++dvs) H1 Q E
def Binds (K:Fg) (fd:FuncData) (ps:List Str) (ds:List Value):Prop :=
 ∀ (s:Shared) (us:List Value),K.In s.heap->(us++ds).length=ps.length->BindsTo s fd ⟨us,[]⟩ (ps.zip (us++ds))
theorem Binds.all {K:Fg} {fd:FuncData} {ps:List Str} (h:∀ us:List Value,us.length=ps.length->bindArgs fd ⟨us,[]⟩=pure (ps.zip us)):Binds K fd ps []:=fun s us _ hl=>by
 rw [K2] at hl ⊢;exact .of_eq (h us hl)
def Passes (CX:CXT) (X:Cx) (E:XK):Prop:=∀ (pins:List (Addr×Obj)) (Z:St) (H:Hp) (s:Shared) (e:Value) (s':Shared),Inv X pins Z H s->CX X.stack H s E e s'->X.xe e s'
section
variable {X:Cx} {CX:CXT} {k:Nat} {f C:Addr} {fd:FuncData} {ps:List Str} {sp:Sp} {dvs:List V} {ds:List Value} {E:XK} {x m:Str} {p pos apos:Pos} {e o:Expr} {es:List Expr} {ta:TE} {t:TA}
theorem Cg (F:gE X.prog X.w X.K X.mg X.base CX k f fd ps sp) (hr:gi k X.A) (hb:Binds X.K fd ps ds) (hd:Vals dvs ds) (hx:Passes CX X E)
  (I:Inv X pins Z H s) (r:Vals vs us) (h:sp (vs++dvs) H Q E):wpAny (model X.prog X.w) X.A (call (.ref f) us) (EP X pins Z Q) X.xe s:=by
 have r2:Vals (vs++dvs) (us++ds):=r.append hd;have hl:(us++ds).length=ps.length:=by rw [<- r2.length];exact F.len _ _ _ _ h
 refine wpAny_call (codeAny_mono (F.run X.A X.stack s H ⟨us,[]⟩ (us++ds) (vs++dvs) Q E hr I.Jd (hb s us I.kIn hl) r2 h) fun r s' hq=>?_);cases r with
 | error e=>exact hx pins Z H s e s' I hq
 | ok fl =>
  cases fl with
  | ret u=>exact I.after hq
  | next=>exact False.elim hq
  | brk=>exact False.elim hq
  | cont=>exact False.elim hq
theorem zG (F:gE X.prog X.w X.K X.mg X.base CX k f fd ps sp) (hr:gi k X.A) (hg:Gl X x) (hm:X.mg x=some (.ref f)) (hk:PySem.W.keepIn X.K (.ref f)=true) (hb:Binds X.K fd ps ds) (hd:Vals dvs ds) (hx:Passes CX X E)
  (ha:PA X (e :: es) t) (hdb:(x==("__debug__" : Str))=false:=by decide) (he:starEach (e :: es) X.env=(false,eval e X.env) :: starEach es X.env:=by rfl) (hpl:(backTo pos (starEach es X.env)).any (·.1)=false:=by rfl) :
  PE X (.Call (.Name x p) (e :: es) [] pos) (nK sp dvs E t):=by
 intro pins s Z H Q I h;refine wpAny_Call_Name_kw (uw I hg hm ?_ hdb);refine PySem.W.callWith_K (h₀:=X.base) I.ok.mod.kin hk (thn (ha pos pins s Z H _ I h) fun us s1 ⟨vs,H1,I1,r,q⟩=>⟨I1.kIn,?_⟩) he hpl;exact Cg F hr hb hd hx I1 r q
end
structure cK (N P:List Str) (sc:Scope):Prop where
 kind:sc.kind=.function
 co:sc.isCoroutine=false
 gen:sc.isGenerator=false
 nd:N.Nodup
 pre:N.take P.length=P
 par:∀ x∈P,sc.names.lookup x=some .local\/sc.names.lookup x=some .cell
 CK:∀ y∈sc.names,y.2≠.free
theorem kP {kindOf:Str->Option NameKind} {x:Str}:∀ {binds:List (Str×Value)} {m:Str->Option Value},(∀ v,(x,v) ∉ binds)->bindL kindOf binds m x=m x
 | [],_,_=>rfl
 | (n,v) :: r,m,h=>by
  unfold bindL;rw [kP fun w hw=>h w (Jr _ hw)];split
  ·have:x≠n:=by rintro rfl;exact h v Ju
   simp [this]
  ·rfl
theorem kO {kindOf:Str->Option NameKind} {x:Str}:∀ {binds:List (Str×Value)} {m:Str->Option Value},(∀ v,(x,v) ∉ binds)->bindC kindOf binds m x=m x
 | [],_,_=>rfl
 | (n,v) :: r,m,h=>by
  unfold bindC;rw [kO fun w hw=>h w (Jr _ hw)];split
  ·rfl
  ·have:x≠n:=by rintro rfl;exact h v Ju
   simp [this]
theorem kR {kindOf:Str->Option NameKind} {x:Str} {v:Value}:∀ {P:List Str} {vs:List Value} {i:Nat} {m:Str->Option Value},P.Nodup->P[i]?=some x->vs[i]?=some v->kindOf x=some .local ->
  bindL kindOf (P.zip vs) m x=some v
 | [],_,_,_,_,h,_,_=>by simp at h
 | _ :: _,[],_,_,_,_,h,_=>by simp at h
 | p :: P,w :: vs,0,m,nd,h1,h2,hk=>by
  simp at h1 h2;subst h1;subst h2;show bindL kindOf ((p,w) :: P.zip vs) m p=_;unfold bindL;rw [kP fun v hv=>(Kr.mp nd).1 (List.of_mem_zip hv).1,Jx hk];simp
 | p :: P,w :: vs,i+1,m,nd,h1,h2,hk=>by
  show bindL kindOf ((p,w) :: P.zip vs) m x=_;unfold bindL;exact kR (i:=i) (Kr.mp nd).2 (by simpa using h1) (by simpa using h2) hk
theorem l3 {kindOf:Str->Option NameKind} {x:Str} {v:Value}:∀ {P:List Str} {vs:List Value} {i:Nat} {m:Str->Option Value},P.Nodup->P[i]?=some x->vs[i]?=some v->kindOf x≠some .local ->
  bindC kindOf (P.zip vs) m x=some v
 | [],_,_,_,_,h,_,_=>by simp at h
 | _ :: _,[],_,_,_,_,h,_=>by simp at h
 | p :: P,w :: vs,0,m,nd,h1,h2,hk=>by
  simp at h1 h2;subst h1;subst h2;show bindC kindOf ((p,w) :: P.zip vs) m p=_;unfold bindC;rw [kO fun v hv=>(Kr.mp nd).1 (List.of_mem_zip hv).1,JD hk];simp
 | p :: P,w :: vs,i+1,m,nd,h1,h2,hk=>by
  show bindC kindOf ((p,w) :: P.zip vs) m x=_;unfold bindC;exact l3 (i:=i) (Kr.mp nd).2 (by simpa using h1) (by simpa using h2) hk
noncomputable def start (N:List Str) (vs:List V):St:=vs.map some++List.replicate (N.length - vs.length) none
noncomputable def uZ (CX:CXT) (P:Program) (w:World) (K:Fg) (mg:Str->Option Value) (base:Heap) (N:List Str) (qual:Str) (scope:Scope) (f:Addr) (cd:Value) (A:Around) (outer:List Env) (s:Shared) (H:Hp) (E:XK):Cx where
 prog:=P
 w:=w
 K:=K
 mg:=mg
 base:=base
 A:=A.deeper (envOfC qual scope s.heap.objs.size f cd)
 N:=N
 ZY:=s
 ZW:=H
 env:=envOfC qual scope s.heap.objs.size f cd
 outer:=outer
 stack:=envOfC qual scope s.heap.objs.size f cd :: outer
 ex:=[]
 calm:=true
 fn:=fun _=>true
 pn:=[]
 xe:=fun e s'=>wpAny (model P w) (A.deeper (envOfC qual scope s.heap.objs.size f cd)) (leaving (envOfC qual scope s.heap.objs.size f cd) e) (fun _ s''=>CX outer H s E e s'') (fun e' s''=>CX outer H s E e' s'') s'
theorem pH {sc:Scope} {n:Nat} {x:Str} (h:sc.names.lookup x=some .cell):∃ c,(cellsFrom n sc.names []).lookup x=some c:=by
 have q:=PySem.W.cellsFrom_some sc.names n [] (.inl h);exact Option.isSome_iff_exists.mp q
theorem rH {CX:CXT} {P:Program} {w:World} {K:Fg} {mg:Str->Option Value} {base:Heap} {N ps:List Str} {qual:Str} {scope:Scope} {f:Addr} {cd:Value} {A:Around} {outer:List Env} {s s1:Shared} {H:Hp} {E:XK} {us:List Value} {vs:List V}
  (S:cK N ps scope) (hd:A.handled=none) (e0:D1 P w K mg base A outer s H) (hl:vs.length=ps.length) (r:Vals vs us)
  (x:InCallC s s.heap.objs.size (bindL (envOfC qual scope s.heap.objs.size f cd).kindOf (ps.zip us) fun _=>none) (cellsFrom (s.heap.objs.size+1) scope.names []) (bindC (envOfC qual scope s.heap.objs.size f cd).kindOf (ps.zip us) fun _=>none) s1) :
  Inv (uZ CX P w K mg base N qual scope f cd A outer s H E) [] (start N vs) H s1:=by
 have hpl:ps.length<=N.length:=by have:=congrArg List.length S.pre;rw [J8] at this;omega
 obtain ⟨h1,tk,rfl,hk⟩:=x.done;have noA:∀ b:Addr,b ∉ (uZ CX P w K mg base N qual scope f cd A outer s H E).ex:=fun b z=>absurd (show b∈([]:List Addr) from z) (by simp)
 refine ⟨⟨e0.mod,S.kind,rfl,rfl,Jt _,fun y z c h1 h2=>?_,fun y hy=>?_,fun y c _ h=>?_,fun _=>hd,Around.frames_deeper e0.frames,.inr ⟨rfl,rfl⟩,fun b z=>absurd z (noA b),e0.bs,e0.bsz,fun b _ _=>noA b,fun b z=>absurd z (noA b),e0.r8,e0.frf⟩,
  rfl,e0.bare,Un.kept hk,⟨_,x.toInCall.ns,fun i y v h1 h2 h3=>?_⟩,fun y c h=>⟨_,x.cell y c h⟩,e0.hok.fresh (Jt _),fun y c h=>?_,fun p hp=>absurd (show p∈([]:List (Addr×Obj)) from hp) (by simp),e0.hok.kept hk,?_⟩
 ·exact name_of_addr x.apart (Lp h1) (Lp h2)
 ·have hy:scope.names.lookup y=some .cell\/scope.names.lookup y=some .free:=hy;rcases hy with hy | hy
  ·exact pH hy
  ·exact absurd rfl (S.CK _ (Lp hy))
 ·exact L9 (x.above y c (Lp h))
 ·have hi:i < vs.length:=by
   unfold start at h2;by_cases hi:i < vs.length
   ·exact hi
   ·rw [JH (by simpa using hi)] at h2;rw [List.getElem?_replicate] at h2;split at h2 <;> cases h2
  have ha:vs[i]?=some v:=by
   unfold start at h2;rw [Ka (by simpa using hi),Jw] at h2;cases e:vs[i]? with
   | none=>rw [e] at h2;cases h2
   | some a=>rw [e] at h2;cases h2;rfl
  obtain ⟨u,hu,rv⟩:=r.get ha;have hp:ps[i]?=some y:=by
   rw [<- S.pre,List.getElem?_take_of_lt (by omega)];exact h1
  have ndP:ps.Nodup:=by rw [<- S.pre];exact S.nd.sublist (List.take_sublist _ _)
  refine ⟨u,rv,?_⟩;rcases S.par y (Jy hp) with k | k
  ·exact .inl ⟨k,kR ndP hp hu k⟩
  ·obtain ⟨c,e⟩:=pH (n:=s.heap.objs.size+1) k;refine .inr ⟨.inl k,c,e,?_⟩;have q:=x.cell y c e;rw [l3 ndP hp hu (by show scope.names.lookup y≠_;rw [k];decide)] at q;exact q
 ·exact e0.hok.fresh (L9 (x.above y c (Lp h)))
 ·unfold start;show _=N.length;rw [Js,Jm,Me];omega
theorem FW {CX:CXT} {P:Program} {w:World} {K:Fg} {mg:Str->Option Value} {base:Heap} {k:Nat} {f:Addr} {name qual:Str} {params:Arguments} {body:List Stmt} {scope:Scope} {dV kV doc pm cdv ct oc:Value} {an od:Option Addr}
  {osl:Array (Option Value)} {N ps:List Str} {sp:Sp} (lk:K.lookup f=some ⟨oc,od,.func (PySem.W.fnOf name qual params body scope dV kV doc pm an cdv ct),osl⟩) (hcd:PySem.W.codeIn K cdv qual=true) (S:cK N ps scope)
  (len:∀ vs H Q E,sp vs H Q E->vs.length=ps.length)
  (hbody:∀ (A:Around) (outer:List Env) (s:Shared) (H:Hp) (vs:List V) (Q:VK) (E:XK),gi k (A.deeper (envOfC qual scope s.heap.objs.size f cdv))->sp vs H Q E ->
   ∃ t,PSs (uZ CX P w K mg base N qual scope f cdv A outer s H E) body t/\t { nx:=fun _ H'=>Q .non H',rt:=Q } (start N vs) H) :
  gE P w K mg base CX (k+1) f (PySem.W.fnOf name qual params body scope dV kV doc pm an cdv ct) ps sp:=by
 refine ⟨len,fun A outer s H args us vs Q E hr e0 hb r hsp=>?_⟩;have hl:=len _ _ _ _ hsp;have KX:K.In s.heap:=e0.mod.kin.keeps fun b o e=>(e0.bs b o e).1;have lim:s.heap.NoLimit:=e0.mod.nolimit.keeps fun b o e=>(e0.bs b o e).1;have hkind:∀ y∈ps.zip us,scope.names.lookup y.1=some .local\/(scope.names.lookup y.1=some .cell/\((cellsFrom (s.heap.objs.size+1) scope.names []).lookup y.1).isSome=true):=fun ⟨n,v⟩ hy=>by
  rcases S.par n (List.of_mem_zip hy).1 with q | q
  ·exact .inl q
  ·exact .inr ⟨q,PySem.W.cellsFrom_some _ _ _ (.inl q)⟩
 refine codeAny_call_function hr.depth (KX _ _ lk) rfl S.co S.gen rfl (PySem.W.codeRec_of KX hcd) (hb _ _ _ _ ?_);refine wpAny_newFunctionEnv_cells S.kind hkind fun env he s1 x=>?_;subst he;refine ⟨lim.keeps x.toInCall.keep,codeAny_func ?_⟩;obtain ⟨t,ht,hq⟩:=hbody A outer s H vs Q E (hr.deeper _) hsp;have I:Inv (uZ CX P w K mg base N qual scope f cdv A outer s H E) [] (start N vs) H s1:=rH S hr.hd e0 hl r x;refine J1 (ht [] s1 (start N vs) H _ I hq) (fun fl s' hs=>?_) fun e s' hs=>hs;have fin:∀ {Z':St} {H':Hp} {v:V} {u:Value},Inv (uZ CX P w K mg base N qual scope f cdv A outer s H E) [] Z' H' s'->RelV v u->Q v H'->CE outer P w H s Q u s' :=
  fun {Z' H' v u} J rv q=>⟨v,H',J.os,J.bare,J.base,J.hok,rv,q⟩
 cases fl with
 | ret u =>
  obtain ⟨v,Z',H',J,rv,q⟩:=hs;exact fin J rv q
 | next =>
  obtain ⟨Z',H',J,q⟩:=hs;exact fin (v:=V.non) (u:=Value.none) J rfl q
 | brk =>
  obtain ⟨_,_,_,q⟩:=hs;exact False.elim q
 | cont =>
  obtain ⟨_,_,_,q⟩:=hs;exact False.elim q
end L2
namespace L2
open PySem PySem.Spec PyProof.Rows
section
variable {X:Cx} {x:Str} {p pos:Pos} {e:Expr} {es:List Expr} {t:TA} {id T:String} {r:List V->Hp->VK->Prop}
def tCB (r:List V->Hp->VK->Prop) (t:TA):TE:=fun Z H Q=>t Z H fun vs H1=>r vs H1 Q
theorem wb (hc:aB X (.builtin id) r) (hg:Gl X x) (hm:X.mg x=none) (hv:bootBuiltins x=some (.builtin id)) (ha:PA X (e :: es) t) (hn:x ≠ "__name__" := by decide) (hdb:(x==("__debug__" : Str))=false:=by decide)
  (he:starEach (e :: es) X.env=(false,eval e X.env) :: starEach es X.env:=by rfl) (hpl:(backTo pos (starEach es X.env)).any (·.1)=false:=by rfl):PE X (.Call (.Name x p) (e :: es) [] pos) (tCB r t):=by
 intro pins s Z H Q I h;refine wpAny_Call_Name_kw (pz I hg hm hv ?_ hn hdb);exact PyProof.Rows.callWith_builtin1 (thn (ha pos pins s Z H _ I h) fun us s1 ⟨vs,H1,I1,r1,q1⟩=>hc pins s1 Z H1 vs us Q I1 r1 q1) he hpl
theorem uk (hc:aB X (.type T) r) (hg:Gl X x) (hm:X.mg x=none) (hv:bootBuiltins x=some (.type T)) (ha:PA X (e :: es) t) (hn:x ≠ "__name__" := by decide) (hdb:(x==("__debug__" : Str))=false:=by decide)
  (he:starEach (e :: es) X.env=(false,eval e X.env) :: starEach es X.env:=by rfl) (hpl:(backTo pos (starEach es X.env)).any (·.1)=false:=by rfl):PE X (.Call (.Name x p) (e :: es) [] pos) (tCB r t):=by
 intro pins s Z H Q I h;refine wpAny_Call_Name_kw (pz I hg hm hv ?_ hn hdb);exact PyProof.Rows.callWith_type1 (thn (ha pos pins s Z H _ I h) fun us s1 ⟨vs,H1,I1,r1,q1⟩=>hc pins s1 Z H1 vs us Q I1 r1 q1) he hpl
end
end L2
namespace HT
open PySem PyProof.Rows
section
variable {prog:Program} {w:World} {A:Around} {E:Value->Shared->Prop} {s:Shared}
theorem zI (ht:IsTup s.heap t vs.toArray) (hb:IsTup s.heap b ws.toArray) (hv:vs≠[])
  (h1:ws=[]->Q (.ref t) s) (h2:ws≠[]->Q (.ref s.heap.objs.size) { s with heap:=s.heap.push { cls:=.type "tuple", data:=.seq (vs++ws).toArray } })
  (hsz:vs.length+ws.length<=sizeLine):wpAny (model prog w) A (binaryOp .Add (.ref t) (.ref b)) Q E s:=by
 obtain ⟨⟨cls,dd,data,sl⟩,ho,hc,n,hd⟩:=id ht;obtain ⟨⟨cls2,dd2,data2,sl2⟩,ho2,hc2,n2,hd2⟩:=id hb;simp only at hc hd hc2 hd2;subst hc hd hc2 hd2;have e:vs.toArray++ws.toArray=(vs++ws).toArray:=by simp
 by_cases hw:ws=[]
 ·exact concat_meets ⟨_,ho,rfl⟩ ⟨_,ho2,rfl⟩ noFill_tuple_add seq_tuple_add PySem.F.slot_tuple_add PySem.F.entry_tuple_add (PySem.F.args_tuple_add_2 _ _)
   (tuple_addW1 t b vs.toArray ws.toArray n n2 dd dd2 sl sl2 (by simpa using hv) (by simp [hw])) ⟨ho,ho2,h1 hw⟩
 ·refine concat_meets ⟨_,ho,rfl⟩ ⟨_,ho2,rfl⟩ noFill_tuple_add seq_tuple_add PySem.F.slot_tuple_add PySem.F.entry_tuple_add (PySem.F.args_tuple_add_2 _ _)
   (tuple_addW2 t b vs.toArray ws.toArray n n2 dd dd2 sl sl2 (by simpa using hv) (by simpa using hw) (by rw [Jz,Jz];exact hsz)) ⟨ho,ho2,?_⟩
  rw [e];exact h2 hw
noncomputable def sIx (n d:Nat):Option Int->Nat
 | none=>d
 | some v=>if v < 0 then (v+(n:Int)).toNat else min v.toNat n
theorem n4 (n d:Nat) (hd:d<=n) (o:Option Int):sIx n d o<=n:=by
 cases o with
 | none=>exact hd
 | some v =>
  show (if v < 0 then (v+(n:Int)).toNat else min v.toNat n)<=n;by_cases hv:v < 0
  ·rw [Jx hv];omega
  ·rw [JD hv];exact Nat.min_le_right _ _
theorem qQ (v:Int) (n d:Nat):(if v < 0 then max (v+(n:Int)) 0 else min v (n:Int))=((sIx n d (some v):Nat):Int):=by
 show (if v < 0 then max (v+(n:Int)) 0 else min v (n:Int))=(((if v < 0 then (v+(n:Int)).toNat else min v.toNat n):Nat):Int);by_cases hv:v < 0
 ·simp only [Jx hv];omega
 ·simp only [JD hv];omega
theorem pK (lo hi:Option Int) (n:Nat):Builtin.Slice.sliceAdjust lo hi 1 (n:Int)=(((sIx n 0 lo:Nat):Int),((sIx n n hi:Nat):Int)):=by
 have h1:¬((1:Int) < 0):=by omega
 unfold Builtin.Slice.sliceAdjust;simp only [h1,Kv];refine Prod.ext ?_ ?_
 ·cases lo with
  | none=>rfl
  | some v=>exact qQ v n 0
 ·cases hi with
  | none=>rfl
  | some v=>exact qQ v n n
theorem qe (i j:Nat):Builtin.Slice.slicePlaces (i:Int) (j:Int) 1=j - i:=by
 unfold Builtin.Slice.slicePlaces;have h1:(1:Int) > 0:=by omega
 simp only [h1,Lh,Int.ediv_one];split <;> omega
theorem jG (p:IsPart v o) (h:Q o s):wpAny (model prog w) A (Builtin.Slice.slicePartIndex v) Q E s:=by
 cases p with
 | none=>exact slicePart_none h
 | int i t=>exact slicePart_int h
theorem gD {sl:Addr} {vl vu:Value} {lo hi:Option Int} {n:Nat} {Q:Int×Int×Nat->Shared->Prop} (hs:s.heap.IsSliceOf sl vl vu .none) (pl:IsPart vl lo) (pu:IsPart vu hi)
  (h:Q (((sIx n 0 lo:Nat):Int),1,sIx n n hi - sIx n 0 lo) s):wpAny (model prog w) A (Builtin.Slice.sliceApplied (.ref sl) (pure (n:Int))) Q E s:=by
 obtain ⟨os,hos,hcs,hds⟩:=id hs;unfold Builtin.Slice.sliceApplied Builtin.Slice.sliceFields;refine Jk (Jk (wpAny_field hos hds (x:=vl) rfl (Jk (wpAny_field hos hds (x:=vu) rfl (Jk (wpAny_field hos hds (x:=.none) rfl (Jn ?_)))))));refine Jk (slicePart_none ?_);show wpAny _ _ (if ((1:Int)==0)=true then _ else _) _ _ s;rw [JD (by decide)];refine Jk (jG pl (Jk (jG pu (Jk (Jn ?_)))));show wpAny _ _ (match Builtin.Slice.sliceAdjust lo hi 1 (n:Int) with | (lo,hi)=>pure (lo,(1:Int),Builtin.Slice.slicePlaces lo hi 1)) _ _ s;rw [pK lo hi n];show wpAny _ _ (pure (((sIx n 0 lo:Nat):Int),(1:Int),Builtin.Slice.slicePlaces ((sIx n 0 lo:Nat):Int) ((sIx n n hi:Nat):Int) 1)) _ _ s;rw [qe];exact Jn h
theorem vn (xs:Array Value) (i k:Nat):((List.range k).filterMap fun (m:Nat)=>xs[((i:Int)+(m:Int)*1).toNat]?).toArray=((xs.toList.drop i).take k).toArray:=by
 have e:(fun (m:Nat)=>xs[((i:Int)+(m:Int)*1).toNat]?)=fun m=>xs[i+m]?:=by
  funext m;have:((i:Int)+(m:Int)*1).toNat=i+m:=by omega
  rw [this]
 rw [e];have:=pick_run xs i k;rw [List.filterMap_map] at this;have e2:((fun x=>xs[x]?)∘fun x=>i+x)=fun m=>xs[i+m]?:=rfl;rw [e2] at this;rw [this]
theorem fR {t sl:Addr} {items:Array Value} {vl vu:Value} {lo hi:Option Int} {Q:Value->Shared->Prop} (ht:IsTup s.heap t items) (hs:s.heap.IsSliceOf sl vl vu .none) (pl:IsPart vl lo) (pu:IsPart vu hi)
  (hw:¬(sIx items.size 0 lo=0/\sIx items.size items.size hi=items.size))
  (h:Q (.ref s.heap.objs.size) { s with heap:=s.heap.push { cls:=.type "tuple", data:=.seq ((items.toList.drop (sIx items.size 0 lo)).take (sIx items.size items.size hi - sIx items.size 0 lo)).toArray } })
  (hsz:items.size<=sizeLine):wpAny (model prog w) A (getItem (.ref t) (.ref sl)) Q E s:=by
 have htake:sizeOk (.seq ((items.toList.drop (sIx items.size 0 lo)).take (sIx items.size items.size hi - sIx items.size 0 lo)).toArray):=by
  show ((items.toList.drop (sIx items.size 0 lo)).take (sIx items.size items.size hi - sIx items.size 0 lo)).toArray.size<=sizeLine;rw [Jz,J8,KW,JQ];omega
 have hj:sIx items.size items.size hi<=items.size:=n4 _ _ (Jt _) hi;obtain ⟨os,hos,hcs,hds⟩:=id hs;have hTs:s.TypeIs (.ref sl) "slice" := ⟨os,hos,hcs⟩;unfold getItem;try with_reducible refine Kc ?_
 first | refine Jk (Jn ?_) | skip
 refine Jk (wpAny_sequenceKey ht.typeIs (by decide) ?_)
 refine Jk (K7 (name:=Str.ofString "__getitem__") ht.typeIs PyProof.Rows.slot_tuple_getitem
  (Kj PyProof.Rows.slot_tuple_getitem ht.typeIs entry_tuple_getitem ?_ (args_tuple_getitem _ _)))
 show wpAny _ _ (Builtin.Tuple.tupleItemsOf (.ref t)>>=_) _ _ s;refine Jk (tupleItemsOf_ ht ?_);refine Jk (wpAny_typeOf hTs ?_);rw [Jx (by decide)];refine Jk (gD hs pl pu ?_);have hno:¬((((sIx items.size 0 lo:Nat):Int)==0&&(1:Int)==1&&(sIx items.size items.size hi - sIx items.size 0 lo)==items.size)=true):=by
  intro q;rw [JU,JU] at q;have q1:((sIx items.size 0 lo:Nat):Int)=0:=eq_of_beq q.1.1;have q2:sIx items.size items.size hi - sIx items.size 0 lo=items.size:=eq_of_beq q.2;exact hw ⟨by omega,by omega⟩
 show wpAny _ _ (if (((sIx items.size 0 lo:Nat):Int)==0&&(1:Int)==1&&(sIx items.size items.size hi - sIx items.size 0 lo)==items.size)=true then _ else _) _ _ s;rw [JD hno,vn];first
  | exact Jk (m:=Builtin.Tuple.tupleExact _) (Kp (Jn ⟨_,rfl,Jn h⟩) htake)
  | exact Jk (m:=Builtin.Tuple.tupleExact _) (Kp (Jk (Jn (Jn ⟨_,rfl,Jn h⟩))) htake)
  | exact Jk (Jk (m:=Builtin.Tuple.tupleExact _) (Kp (Jn (Jn ⟨_,rfl,Jn h⟩)) htake))
  | exact Jk (Jk (m:=Builtin.Tuple.tupleExact _) (Kp (Jn ⟨_,rfl,Jn h⟩) htake))
end
end HT
namespace L2
open PySem PySem.Spec PyProof.Rows
abbrev TO:=St->Hp->(Option Int->Hp->Prop)->Prop
def PO (X:Cx) (e:Option Expr) (t:TO):Prop :=
 ∀ (pins:List (Addr×Obj)) (s:Shared) (Z:St) (H:Hp) (Q:Option Int->Hp->Prop),Inv X pins Z H s->t Z H Q ->
  wpAny (model X.prog X.w) X.A (evalPart e X.env) (fun u s'=>∃ o H',Inv X pins Z H' s'/\IsPart u o/\Q o H') X.xe s
def tw:TO:=fun _ H Q=>Q none H
def Dy (t:TE):TO:=fun Z H Q=>t Z H fun x H1=>∃ i,x=.int i/\Q (some i) H1
section
variable {X:Cx} {e:Expr} {te:TE} {lo hi:Option Expr} {tl th:TO} {pos p2:Pos}
theorem yA:PO X none tw:=by
 intro pins s Z H Q I h;rw [evalPart_none];exact Jn ⟨none,H,I,.none,h⟩
theorem y4 (h:PE X e te):PO X (some e) (Dy te):=by
 intro pins s Z H Q I hw;rw [evalPart_some];refine thn (h pins s Z H _ I hw) fun u s1 ⟨x,H1,I1,r1,q1⟩=>?_;obtain ⟨i,rfl,q⟩:=q1;obtain ⟨t,rfl⟩:=r1;exact ⟨some i,H1,I1,.int i t,q⟩
def SlR (X:Cx) (r:V->Option Int->Option Int->Hp->VK->Prop):Prop :=
 ∀ (pins:List (Addr×Obj)) (s:Shared) (Z:St) (H:Hp) (x:V) (v vl vu:Value) (lo hi:Option Int) (sl:Addr) (Q:VK),Inv X pins Z H s->RelV x v->s.heap.IsSliceOf sl vl vu .none->IsPart vl lo->IsPart vu hi->r x lo hi H Q ->
  ∃ T id,typeLookup (.type T) "__getitem__" = pure (some (.builtin id))/\s.TypeIs v T/\wpAny (model X.prog X.w) X.A (getItem v (.ref sl)) (EP X pins Z Q) X.xe s
theorem SlR.or {r r':V->Option Int->Option Int->Hp->VK->Prop} (h:SlR X r) (h':SlR X r'):SlR X (fun x lo hi H Q=>r x lo hi H Q\/r' x lo hi H Q):=by
 intro pins s Z H x v vl vu lo hi sl Q I rx hs pl pu q;rcases q with q | q
 ·exact h pins s Z H x v vl vu lo hi sl Q I rx hs pl pu q
 ·exact h' pins s Z H x v vl vu lo hi sl Q I rx hs pl pu q
def tSl (r:V->Option Int->Option Int->Hp->VK->Prop) (te:TE) (tl th:TO):TE:=fun Z H Q=>te Z H fun x H1=>tl Z H1 fun l H2=>th Z H2 fun u H3=>r x l u H3 Q
theorem vd (hr:SlR X r) (he:PE X e te) (hl:PO X lo tl) (hu:PO X hi th):PE X (.Subscript e (.Slice lo hi none p2) pos) (tSl r te tl th):=by
 intro pins s Z H Q I h;refine Subscript_ (thn (he pins s Z H _ I h) fun v s1 ⟨x,H1,I1,r1,q1⟩=>?_);refine wpAny_Slice (thn (hl pins s1 Z H1 _ I1 q1) fun vl s2 ⟨l,H2,I2,pl,q2⟩=>thn (hu pins s2 Z H2 _ I2 q2) fun vu s3 ⟨u,H3,I3,pu,q3⟩=>?_);rw [evalPart_none];refine Jn ?_;have I4:Inv X pins Z H3 { s3 with heap:=s3.heap.push { cls:=.type "slice", data:=.fields #[vl,vu,.none] } }:=I3.kept (t':=s3.toks) fun b ob q=>Jp _ q;obtain ⟨T,id,hT,ht,hg⟩:=hr pins { s3 with heap:=s3.heap.push { cls:=.type "slice", data:=.fields #[vl,vu,.none] } } Z H3 x v vl vu l u s3.heap.objs.size Q I4 r1 (Heap.IsSliceOf.new ..) pl pu q3;show wpAny (model X.prog X.w) X.A (subscriptTail e (.Slice lo hi none p2) v (.ref s3.heap.objs.size)) (EP X pins Z Q) X.xe { s3 with heap:=s3.heap.push { cls:=.type "slice", data:=.fields #[vl,vu,.none] } };exact tail_any (ops:=[.ref s3.heap.objs.size,v]) ht hT hg (by with_unfolding_all rfl)
noncomputable def uQ (xs:List V) (lo hi:Option Int):List V:=(xs.drop (HT.sIx xs.length 0 lo)).take (HT.sIx xs.length xs.length hi - HT.sIx xs.length 0 lo)
theorem iD (xs:List V) (lo hi:Option Int):(uQ xs lo hi).length<=xs.length:=by
 unfold uQ;rw [J8,KW];omega
def Hr (K:Fg):V->Option Int->Option Int->Hp->VK->Prop:=fun x lo hi H Q=>∃ a xs,x=.ref a/\SqT K H a xs /\
 ¬(HT.sIx xs.length 0 lo=0/\HT.sIx xs.length xs.length hi=xs.length)/\∀ p,H p=none->Q (.ref p) (upd H p (.tup (uQ xs lo hi)))
theorem gr:SlR X (Hr X.K):=by
 intro pins s Z H x v vl vu lo hi sl Q I rx hs pl pu h;obtain ⟨a,xs,rfl,hx,hw,q⟩:=h;cases rx;obtain ⟨its,r,ht,hz⟩:=I.tuple hx;have hlen:its.toArray.size=xs.length:=by rw [Jz];exact r.length.symm
 refine ⟨"tuple", _,PyProof.Rows.slot_tuple_getitem.lookup,ht.typeIs,?_⟩;refine HT.fR ht hs pl pu (by rw [hlen];exact hw) ?_ (by rw [hlen];exact hz);rw [hlen];refine ⟨.ref s.heap.objs.size,_,I.laid (t':=s.toks) (o:=.tup (uQ xs lo hi)) (fun b ob q=>Jp _ q) (Jt _) ?_,rfl,q _ (I.hok.fresh (Jt _))⟩;exact ⟨J6 (iD xs lo hi) hz,_,(r.drop (HT.sIx xs.length 0 lo)).take (HT.sIx xs.length xs.length hi - HT.sIx xs.length 0 lo),IsTup.new _ _⟩
def Bd (K:Fg):R2:=fun x y H Q=>∃ a b xs ys,x=.ref a/\y=.ref b/\SqT K H a xs/\SqT K H b ys/\xs≠[]/\xs.length+ys.length<=sizeLine /\
 (ys=[]->Q (.ref a) H)/\(ys≠[]->∀ p,H p=none->Q (.ref p) (upd H p (.tup (xs++ys))))
theorem Vals.nR (r:Vals xs us):us=[]↔xs=[]:=by
 cases r with
 | nil=>simp
 | cons _ _=>simp
theorem zK:OpR X (binaryOp .Add) (Bd X.K):=by
 intro pins s Z H x y v u Q I rx ry h;obtain ⟨a,b,xs,ys,rfl,rfl,ha,hb,hx,hz,q1,q2⟩:=h;cases rx;cases ry;obtain ⟨its,r1,p1,_⟩:=I.tuple ha;obtain ⟨its2,r2,p2,_⟩:=I.tuple hb;refine HT.zI p1 p2 (fun z=>hx (r1.nR.mp z)) (fun z=>⟨.ref a,H,I,rfl,q1 (r2.nR.mp z)⟩) (fun z=>?_) (by rw [<- r1.length,<-r2.length];exact hz);refine ⟨.ref s.heap.objs.size,_,I.laid (t':=s.toks) (o:=.tup (xs++ys)) (fun b ob q=>Jp _ q) (Jt _) ?_,rfl,q2 (fun w=>z (r2.nR.mpr w)) _ (I.hok.fresh (Jt _))⟩;exact ⟨by rw [Js];exact hz,_,r1.append r2,IsTup.new _ _⟩
end
end L2
namespace L2
open PySem PySem.Spec PyProof.Rows
noncomputable def ixN (n:Nat) (i:Int):Option Nat:=if 0<=i then (if i < n then some i.toNat else none) else if -(n:Int)<=i then some (i+n).toNat else none
noncomputable def atI {α:Type} (xs:List α) (i:Int):Option α:=(ixN xs.length i).bind fun j=>xs[j]?
theorem tO (h:ixN n i=some j):seqIndex? i n=some j/\j < n/\-(n:Int)<=i/\i < n:=by
 unfold ixN at h;by_cases h0:0<=i
 ·rw [Jx h0] at h;by_cases h1:i < n
  ·rw [Jx h1] at h;have e:i.toNat=j:=Kq h;exact ⟨by rw [seqIndex_of h0 h1,e],by omega,by omega,h1⟩
  ·rw [JD h1] at h;cases h
 ·rw [JD h0] at h;by_cases h1:-(n:Int)<=i
  ·rw [Jx h1] at h;have e:(i+n).toNat=j:=Kq h;exact ⟨by rw [seqIndex_neg (by omega) h1,e],by omega,h1,by omega⟩
  ·rw [JD h1] at h;cases h
theorem m8 {α:Type} {xs:List α} {i:Int} {v:α} (h:atI xs i=some v):∃ j,seqIndex? i xs.length=some j/\xs[j]?=some v/\j < xs.length/\-(xs.length:Int)<=i/\i < xs.length:=by
 unfold atI at h;cases e:ixN xs.length i with
 | none=>rw [e] at h;cases h
 | some j =>
  rw [e] at h;obtain ⟨h1,h2,h3,h4⟩:=tO e;exact ⟨j,h1,h,h2,h3,h4⟩
theorem mN {α:Type} {xs:List α} {j:Nat} {v:α} (h:xs[j]?=some v):atI xs (j:Int)=some v:=by
 have hj:j < xs.length:=(Jo.mp h).1;have e:ixN xs.length (j:Int)=some j:=by
  unfold ixN;rw [Jx (by omega),Jx (by omega)];simp
 unfold atI;rw [e];exact h
def ny (b:Expr):Prop:=∀ o i,subscripted b false o i=operate [o,i] (getItem o i)
def IxR (X:Cx) (r:R2):Prop :=
 ∀ (value slice:Expr) (pins:List (Addr×Obj)) (s:Shared) (Z:St) (H:Hp) (x y:V) (v u:Value) (Q:VK),Inv X pins Z H s->RelV x v->RelV y u->r x y H Q ->
  subscripted slice false v u=operate [v,u] (getItem v u)->wpAny (model X.prog X.w) X.A (subscriptTail value slice v u) (EP X pins Z Q) X.xe s
def MtR (X:Cx) (id:String) (r:V->List V->Hp->VK->Prop):Prop :=
 ∀ (pins:List (Addr×Obj)) (s:Shared) (Z:St) (H:Hp) (x:V) (xs:List V) (v:Value) (us:List Value) (Q:VK),Inv X pins Z H s->RelV x v->Vals xs us->r x xs H Q ->
  wpAny (model X.prog X.w) X.A (call (.builtin id) (v :: us)) (EP X pins Z Q) X.xe s
section
variable {X:Cx} {a b:Expr} {ta tb:TE} {pos:Pos}
theorem IxR.or {r r':R2} (h:IxR X r) (h':IxR X r'):IxR X (fun x y H Q=>r x y H Q\/r' x y H Q):=by
 intro value slice pins s Z H x y v u Q I rx ry q hs;rcases q with q | q
 ·exact h value slice pins s Z H x y v u Q I rx ry q hs
 ·exact h' value slice pins s Z H x y v u Q I rx ry q hs
theorem ER (hr:IxR X r) (ha:PE X a ta) (hb:PE X b tb) (hs:ny b):PE X (.Subscript a b pos) (tOp r ta tb):=by
 intro pins s Z H Q I h;exact Subscript_ (ES ha hb I h fun v u s2 x y H2 I2 rx ry q=>hr a b pins s2 Z H2 x y v u Q I2 rx ry q (hs _ _))
def HN (K:Fg):R2:=fun x y H Q=>∃ p xs i v,x=.ref p/\y=.int i/\SqL K H p xs/\atI xs i=some v/\Q v H
def HV (K:Fg):R2:=fun x y H Q=>∃ p xs i v,x=.ref p/\y=.int i/\SqT K H p xs/\atI xs i=some v/\Q v H
def HK:R2:=fun x y H Q=>∃ z i c,x=.str z/\y=.int i/\z.length<=sizeLine/\atI z.cps.toList i=some c/\Q (.str ⟨#[c]⟩) H
theorem zT:IxR X (HN X.K):=by
 intro value slice pins s Z H x y v u Q I rx ry h hs;obtain ⟨p,xs,i,z,rfl,rfl,hq,he,q⟩:=h;cases rx;obtain ⟨t,rfl⟩:=ry;obtain ⟨its,r,pl,hz⟩:=I.list hq;obtain ⟨j,h1,h2,h3,h4,h5⟩:=m8 he;obtain ⟨w,ew,rw'⟩:=r.get h2;have hl:=r.length;have hn:=jI;have fin:EP X pins Z Q w s:=⟨z,H,I,rw',q⟩;by_cases h0:0<=i
 ·have hj:i.toNat=j:=by
   rw [seqIndex_of h0 h5] at h1;exact Kq h1
  exact item_listR pl.isList h0 (by omega) (by rw [hj];simpa using ew) fin hs
 ·have hj:(i+(its.toArray.size:Int)).toNat=j:=by
   rw [seqIndex_neg (by omega) h4] at h1;rw [Jz,<-hl];exact Kq h1
  exact subscriptTail_builtinR (x:=w) pl.isList.typeIs slot_list_getitem.lookup
   (wpAny_getItem_list_neg (Q:=fun r s'=>r=w/\EP X pins Z Q r s') pl.isList (by omega) (by rw [Jz] <;> omega) (by omega) (by rw [hj];simpa using ew) ⟨rfl,fin⟩) hs
theorem Cu:IxR X (HV X.K):=by
 intro value slice pins s Z H x y v u Q I rx ry h hs;obtain ⟨p,xs,i,z,rfl,rfl,hq,he,q⟩:=h;cases rx;obtain ⟨t,rfl⟩:=ry;obtain ⟨its,r,pl,hz⟩:=I.tuple hq;obtain ⟨j,h1,h2,h3,h4,h5⟩:=m8 he;obtain ⟨w,ew,rw'⟩:=r.get h2;have hl:=r.length;have hn:=jI;have fin:EP X pins Z Q w s:=⟨z,H,I,rw',q⟩;exact subscriptTail_builtinR (x:=w) pl.typeIs slot_tuple_getitem.lookup
  (getItem_tuple (j:=j) (Q:=fun r s'=>r=w/\EP X pins Z Q r s') pl (by omega) (by omega) (by rw [Jz,<-hl];exact h1) (by simpa using ew) ⟨rfl,fin⟩) hs
theorem DB:IxR X HK:=by
 intro value slice pins s Z H x y v u Q I rx ry h hs;obtain ⟨z,i,c,rfl,rfl,hz,he,q⟩:=h;obtain ⟨t,rfl⟩:=rx;obtain ⟨t',rfl⟩:=ry;obtain ⟨j,h1,h2,h3,h4,h5⟩:=m8 he;have hl:z.cps.toList.length=z.length:=by simp [Str.length]
 rw [hl] at h1 h4 h5;have hn:=jI
 exact tail_any (typeIs_str s z t) slot_str_getitem.lookup (getItem_str (c:=c) (by
  have e1:decide (i < -(2 ^ 63:Int))=false:=Kf (by omega);have e2:decide (i>=2 ^ 63)=false:=Kf (by omega)
  rw [e1,e2,Bool.or_false]) (by rw [h1];simpa using h2) ⟨.str ⟨#[c]⟩,H,I.tok _,⟨_,rfl⟩,q⟩) hs
def rIx (K:Fg):R2:=fun x y H Q=>HN K x y H Q\/HV K x y H Q\/HK x y H Q
theorem AK:IxR X (rIx X.K):=zT.or (Cu.or DB)
theorem qw (its:List Value) (n j:Nat) (u:Value):Obj.mapSeq (·.setIfInBounds j u) { cls:=.type "list", data:=.seq its.toArray n }={ cls:=.type "list", data:=.seq (its.set j u).toArray n }:=by
 simp [Obj.mapSeq]
theorem Inv.lst (I:Inv X pins Z H s) (h:H p=some (.lst xs)) :
  ∃ (its:List Value) (n:Nat),Vals xs its/\s.heap.get? p=some { cls:=.type "list", data:=.seq its.toArray n }/\xs.length<=sizeLine:=by
 obtain ⟨z,its,n,r,e⟩:=I.hok p _ h;exact ⟨its,n,r,e,z⟩
theorem Inv.CP {pins:List (Addr×Obj)} {Z:St} {H:Hp} {s:Shared} {p:Addr} {xs ys:List V} {its its':List Value} {n n':Nat} {f:Obj->Obj} (I:Inv X pins Z H s) (h:H p=some (.lst xs))
  (ho:s.heap.get? p=some { cls:=.type "list", data:=.seq its.toArray n }) (hf:f { cls:=.type "list", data:=.seq its.toArray n }={ cls:=.type "list", data:=.seq its'.toArray n' }) (r:Vals ys its') (hz:ys.length<=sizeLine) (t:Nat) :
  Inv X pins Z (upd H p (.lst ys)) { s with heap:=s.heap.update p f,toks:=t }:=by
 have e:(s.heap.update p f).get? p=some { cls:=.type "list", data:=.seq its'.toArray n' }:=by
  rw [Kl f ho (by rw [hf] <;> rfl),hf]
 refine I.write (x:=p) (e:=p) (by rw [h];trivial) (.inl rfl) (fun b u hb q=>(KU _ _ (Ne.symm hb)).trans q) ⟨_,e⟩ ?_;exact ⟨hz,its',n',r,e⟩
def CL:V->V->V->Hp->(Hp->Prop)->Prop:=fun o i v H Q=>∃ p xs k j,o=.ref p/\i=.int k/\H p=some (.lst xs)/\ixN xs.length k=some j/\Q (upd H p (.lst (xs.set j v)))
theorem set_list:GJ X CL:=by
 intro pins s Z H o i v ov iv u Q I ro ri rv h;obtain ⟨p,xs,k,j,rfl,rfl,hp,hj,q⟩:=h;cases ro;obtain ⟨t,rfl⟩:=ri;obtain ⟨its,n,r,ho,hz⟩:=I.lst hp;obtain ⟨h1,h2,h3,h4⟩:=tO hj;have hl:=r.length;have hn:=jI;have I':Inv X pins Z (upd H p (.lst (xs.set j v))) { s with heap:=s.heap.update p (Obj.mapSeq (·.setIfInBounds j u)) } :=
  I.CP hp ho (qw its n j u) (r.set rv j) (by rw [J7];exact hz) s.toks
 by_cases h0:0<=k
 ·have hk:k.toNat=j:=by
   rw [seqIndex_of h0 h4] at h1;exact Kq h1
  exact PySem.W.ki_setAt ho h0 (by omega) (by rw [Jz,<-hl];exact h4) (by rw [hk];exact ⟨_,I',q⟩)
 ·have hk:(k+(its.toArray.size:Int)).toNat=j:=by
   rw [seqIndex_neg (by omega) h3] at h1;rw [Jz,<-hl];exact Kq h1
  exact PySem.W.ki_setBack ho (by omega) (by rw [Jz,<-hl];exact h3) (by omega) (by rw [hk];exact ⟨_,I',q⟩)
theorem lZ (lo hi:Option Int) (n:Nat):(sliceBounds lo hi none n).1=((HT.sIx n 0 lo:Nat):Int)/\(sliceBounds lo hi none n).2.1=((HT.sIx n n hi:Nat):Int)/\(sliceBounds lo hi none n).2.2=1:=by
 refine ⟨?_,?_,rfl⟩
 ·cases lo with
  | none=>simp [sliceBounds,HT.sIx]
  | some i =>
   simp only [sliceBounds,HT.sIx,Option.getD_none,show (1:Int) > 0 by decide,Lh];by_cases h:i < 0
   ·simp only [h,Lh] <;> omega
   ·simp only [h,Kv] <;> omega
 ·cases hi with
  | none=>simp [sliceBounds,HT.sIx]
  | some i =>
   simp only [sliceBounds,HT.sIx,Option.getD_none,show (1:Int) > 0 by decide,Lh];by_cases h:i < 0
   ·simp only [h,Lh] <;> omega
   ·simp only [h,Kv] <;> omega
theorem ku (its:List Value) (lo hi:Option Int):slicePick its.toArray lo hi none=((its.drop (HT.sIx its.length 0 lo)).take (HT.sIx its.length its.length hi - HT.sIx its.length 0 lo)).toArray:=by
 obtain ⟨h1,h2,h3⟩:=lZ lo hi its.toArray.size;unfold slicePick;rw [h1,h2,h3];simp only [sliceRange_one,pick_run,Jz] <;> rfl
def Hi (K:Fg):V->Option Int->Option Int->Hp->VK->Prop:=fun x lo hi H Q=>∃ a xs,x=.ref a/\SqL K H a xs/\∀ p,H p=none->Q (.ref p) (upd H p (.lst (uQ xs lo hi)))
theorem df:SlR X (Hi X.K):=by
 intro pins s Z H x v vl vu lo hi sl Q I rx hs pl pu h;obtain ⟨a,xs,rfl,hx,q⟩:=h;cases rx;obtain ⟨its,r,ht,hz⟩:=I.list hx;have hlen:=r.length;refine ⟨"list", _,slot_list_getitem.lookup,ht.isList.typeIs,?_⟩;refine wpAny_getItem_list_slice ht.isList hs pl pu .none (by simp) ?_ (by rw [Jz] <;> omega);rw [ku,<-hlen];refine ⟨.ref s.heap.objs.size,_,I.laid (t':=s.toks) (o:=.lst (uQ xs lo hi)) (fun b ob q=>Jp _ q) (Jt _) ?_,rfl,q _ (I.hok.fresh (Jt _))⟩;exact ⟨J6 (iD xs lo hi) hz,_,0,(r.drop (HT.sIx xs.length 0 lo)).take (HT.sIx xs.length xs.length hi - HT.sIx xs.length 0 lo),JN _ rfl⟩
theorem lh:aB X (.type "list") (fun xs H Q=>∃ p ys,xs=[.ref p]/\(SqL X.K H p ys\/SqT X.K H p ys)/\∀ l,H l=none->Q (.ref l) (upd H l (.lst ys))):=by
 intro pins s Z H xs us Q I r h;obtain ⟨p,ys,rfl,hq,q⟩:=h;obtain ⟨u,rfl,rx⟩:=vals1 r;cases rx;have fin:∀ (its:List Value),Vals ys its->ys.length<=sizeLine->∀ (h':Heap) (c':Nat),(∀ b o',s.heap.get? b=some o'->h'.get? b=some o') ->
   h'.get? s.heap.objs.size=some { cls:=.type "list", dict:=none,data:=.seq its.toArray c',slots:=#[] }->EP X pins Z Q (.ref s.heap.objs.size) { s with heap:=h' }:=fun its r' hz h' c' kp e =>
  ⟨.ref s.heap.objs.size,_,I.laid (t':=s.toks) kp (Jt _) (show bJ X.prog X.w _ h' _ (.lst ys) from ⟨hz,its,c',r',e⟩),rfl,q _ (I.hok.fresh (Jt _))⟩
 rcases hq with hq | hq
 ·obtain ⟨its,r',pl,hz⟩:=I.list hq;have hlen:=r'.length;obtain ⟨o,ho,hc,n,hd⟩:=pl.isList;exact call_list_seq p (.inl rfl) ho hc hd (fun h' c' kp e=>fin its r' hz h' c' kp e) (by simp only [Jz] <;> omega)
 ·obtain ⟨its,r',pl,hz⟩:=I.tuple hq;have hlen:=r'.length;obtain ⟨o,ho,hc,n,hd⟩:=pl;exact call_list_seq p (.inr rfl) ho hc hd (fun h' c' kp e=>fin its r' hz h' c' kp e) (by simp only [Jz] <;> omega)
theorem jW:aB X (.type "tuple") (fun xs H Q=>∃ p ys,xs=[.ref p]/\((SqL X.K H p ys/\∀ l,H l=none->Q (.ref l) (upd H l (.tup ys)))\/(SqT X.K H p ys/\Q (.ref p) H))):=by
 intro pins s Z H xs us Q I r h;obtain ⟨p,ys,rfl,h⟩:=h;obtain ⟨u,rfl,rx⟩:=vals1 r;cases rx;rcases h with ⟨hq,q⟩ | ⟨hq,q⟩
 ·obtain ⟨its,r',pl,hz⟩:=I.list hq;have hlen:=r'.length;refine call_tuple_list pl.isList (fun h' kp=>?_) (by simp only [Jz] <;> omega);have I1:Inv X pins Z H { s with heap:=h' }:=I.kept (t':=s.toks) kp;have I2:Inv X pins Z (upd H h'.objs.size (.tup ys)) { s with heap:=h'.push { cls:=.type "tuple", data:=.seq its.toArray } } :=
   I1.laid (t':=s.toks) (fun b o e=>Jp _ e) (Jt _) (show bJ X.prog X.w _ _ _ (.tup ys) from ⟨hz,its,r',IsTup.new _ _⟩)
  exact ⟨.ref h'.objs.size,_,I2,rfl,q _ (I1.hok.fresh (Jt _))⟩
 ·obtain ⟨its,r',pl,hz⟩:=I.tuple hq;exact call_tuple_same pl ⟨.ref p,H,I,rfl,q⟩
def tyV (K:Fg) (T:String) (x:V) (H:Hp):Prop:=match x with
 | .str _=>T = "str"
 | .int _=>T = "int"
 | .ref p=>(T = "list" /\ ∃ xs,SqL K H p xs)\/(T = "tuple" /\ ∃ o,K.lookup p=some o/\o.cls=.type "tuple" /\ o.dict=none) \/
   (T = "dict" /\ ((∃ kvs,H p=some (.dK kvs))\/(∃ kvs,H p=some (.dT kvs))\/∃ ep xs,H p=some (.dD ep xs)))\/(T = "set" /\ ∃ S n,H p=some (.set S n))
 | _=>False
theorem AM (I:Inv X pins Z H s) (r:RelV x v) (ty:tyV X.K T x H) :
  s.TypeIs v T/\∀ a,v=.ref a->∃ ob,s.heap.get? a=some ob/\ob.dict=none:=by
 cases x with
 | str z =>
  obtain ⟨t,rfl⟩:=r;cases (show T = "str" from ty);exact ⟨typeIs_str s z t,fun _ e=>nomatch e⟩
 | int i =>
  obtain ⟨t,rfl⟩:=r;cases (show T = "int" from ty);exact ⟨typeIs_int s i t,fun _ e=>nomatch e⟩
 | ref p =>
  cases r;rcases ty with ⟨rfl,xs,hq⟩ | ⟨rfl,o,hk,hc,hd⟩ | ⟨rfl,hk⟩ | ⟨rfl,S,n,hk⟩
  ·obtain ⟨its,_,pl,_⟩:=I.list hq;refine ⟨pl.isList.typeIs,fun a e=>?_⟩;cases e;obtain ⟨o,n,e,c,hd,_⟩:=pl;exact ⟨o,e,hd⟩
  ·refine ⟨⟨o,I.kIn p o hk,hc⟩,fun a e=>?_⟩;cases e;exact ⟨o,I.kIn _ o hk,hd⟩
  ·have z:∃ o,s.heap.get? p=some o/\o.ExactDict:=by
    rcases hk with ⟨kvs,hk⟩ | ⟨kvs,hk⟩ | ⟨ep,xs,hk⟩
    ·obtain ⟨_,_,_,_,o,_,_,e,ex,_⟩:=I.hok p _ hk;exact ⟨o,e,ex⟩
    ·obtain ⟨_,_,_,_,o,_,_,e,ex,_⟩:=I.hok p _ hk;exact ⟨o,e,ex⟩
    ·obtain ⟨_,_,_,o,_,e,ex,_⟩:=I.hok p _ hk;exact ⟨o,e,ex⟩
   obtain ⟨o,e,ex⟩:=z;refine ⟨⟨o,e,ex.1⟩,fun a e2=>?_⟩;cases e2;exact ⟨o,e,ex.2.1⟩
  ·obtain ⟨o,_,_,_,e,ex,_⟩:=I.hok p _ hk;refine ⟨⟨o,e,ex.1⟩,fun a e2=>?_⟩;cases e2;exact ⟨o,e,ex.2.1⟩
 | _=>exact False.elim ty
def tBM (K:Fg) (T:String) (r:V->List V->Hp->VK->Prop) (to:TE) (t:TA):TE:=fun Z H Q=>to Z H fun x H1=>tyV K T x H1/\t Z H1 fun xs H2=>r x xs H2 Q
variable {o e:Expr} {es:List Expr} {to:TE} {t:TA} {name:Str} {apos cpos:Pos} {T id:String} {r:V->List V->Hp->VK->Prop}
theorem Fl (pa:PlainAttrs T) (slot:Slot T name id) (hty:typeOf (.builtin id)=pure (.type "method_descriptor")) (hm:MtR X id r) (ho:PE X o to) (ha:PA X (e :: es) t)
  (hbase:attributeBase o name X.env (eval o X.env)=eval o X.env:=by rfl)
  (hfew:((backTo cpos (starEach (e :: es) X.env)).all (fun x=>!x.1)&&(backToKw cpos (keywordEach [] X.env)).all (fun x=>x.1.isSome)
   && decide ((e :: es).length+([]:List Keyword).length+(if ([]:List Keyword).isEmpty then 0 else 1) < 30))=true:=by rfl)
  (hline:(apos.endLine==cpos.line)=true:=by rfl) (hs:starEach (e :: es) X.env=(false,eval e X.env) :: starEach es X.env:=by rfl) (hplain:(backTo cpos (starEach es X.env)).any (·.1)=false:=by rfl) :
  PE X (.Call (.Attribute o name apos) (e :: es) [] cpos) (tBM X.K T r to t):=by
 intro pins s Z H Q I h;refine wpAny_Call_method_late hbase hfew hline rfl (thn (ho pins s Z H _ I h) fun v s1 ⟨x,H1,I1,r1,ty,q1⟩=>?_);obtain ⟨h1,h2⟩:=AM I1 r1 ty;refine ⟨T,id,pa,slot,hty,h1,h2,?_⟩;have hA:=ha cpos pins s1 Z H1 _ I1 q1;rw [hs] at hA ⊢;refine Calls.callWith_builtin (by show (false||(backTo cpos (starEach es X.env)).any (·.1))=false;rw [hplain] <;> rfl) (Calls.evalArgs_plain ?_);exact thn hA fun us s2 ⟨vs,H2,I2,r2,q2⟩=>hm pins s2 Z H2 x vs v us Q I2 r1 r2 q2
end
end L2
namespace L2
open PySem PySem.Spec PyProof.Rows
def MtM (X:Cx) (id:String) (r:V->List V->Hp->VK->Prop):Prop :=
 ∀ (pins:List (Addr×Obj)) (s:Shared) (Z:St) (H:Hp) (x:V) (xs:List V) (v:Value) (us:List Value) (Q:VK),Inv X pins Z H s->RelV x v->Vals xs us->r x xs H Q ->
  wpAny (model X.prog X.w) X.A (call (.builtin id) (v :: us)) (EP X pins Z Q) X.xe s
theorem Vals.one:∀ {x:V} {us:List Value},Vals [x] us->∃ u,us=[u]/\RelV x u
 | _,_,.cons r .nil=>⟨_,rfl,r⟩
section
variable {X:Cx} {pins:List (Addr×Obj)} {Z:St} {H:Hp} {s:Shared} {l b:Addr} {xs ys zs:List V}
theorem Inv.Ha {its its':List Value} {n:Nat} {f:Array Value->Array Value} {t':Nat} (I:Inv X pins Z H s) (hH:H l=some (.lst xs))
  (e:s.heap.get? l=some { cls:=.type "list", data:=.seq its.toArray n }) (hf:f its.toArray=its'.toArray) (hv:Vals ys its') (hz:ys.length<=sizeLine) :
  Inv X pins Z (upd H l (.lst ys)) { s with heap:=s.heap.update l (Obj.mapSeq f),toks:=t' }:=by
 have q:=PySem.IsL.update e f;rw [hf] at q;refine I.write (x:=l) (e:=l) (by rw [hH];exact trivial) (.inl rfl) (fun b' u hb hu=>(KU s.heap (Obj.mapSeq f) (Ne.symm hb)).trans hu) ⟨_,q⟩ ?_;exact ⟨hz,its',_,hv,q⟩
theorem Inv.IZ (I:Inv X pins Z H s) (hv:Vals ys its) (hz:ys.length<=sizeLine) :
  Inv X pins Z (upd H s.heap.objs.size (.lst ys)) { s with heap:=s.heap.push { cls:=.type "list", data:=.seq its.toArray },toks:=t' } :=
 I.laid (fun _ _ q=>Jp _ q) (Jt _) ⟨hz,its,0,hv,JN _ rfl⟩
theorem Inv.fresh (I:Inv X pins Z H s):H s.heap.objs.size=none:=I.hok.fresh (Jt _)
theorem Inv.Hc (I:Inv X pins Z H s) (hH:H l=some (.lst xs)):xs.length<=sizeLine/\∃ (its:List Value) (n:Nat),Vals xs its/\xs.length=its.length/\s.heap.get? l=some { cls:=.type "list", data:=.seq its.toArray n }:=by
 obtain ⟨z,its,n,r,e⟩:=I.hok l _ hH;exact ⟨z,its,n,r,r.length,e⟩
theorem vY (h:n<=sizeLine):Builtin.List.listTooLong n=false:=by
 unfold Builtin.List.listTooLong;exact Kf (by omega)
end
section
variable {X:Cx}
def rN:V->List V->Hp->VK->Prop:=fun x vs H Q=>∃ l xs y,x=.ref l/\vs=[y]/\H l=some (.lst xs)/\xs.length < sizeLine/\Q .non (upd H l (.lst (xs++[y])))
theorem fw:MtM X "list.append" rN:=by
 intro pins s Z H x vs v us Q I rx rv h;obtain ⟨l,xs,y,rfl,rfl,hH,hz,q⟩:=h;cases rx;obtain ⟨u,rfl,ru⟩:=rv.one;obtain ⟨z,its,n,r,hl,e⟩:=I.Hc hH;refine call_meets F.slot_list_append ⟨_,e,rfl⟩ F.entry_list_append (F.args_list_append_2 _ _) (PySem.list_append l its.toArray n u (by rw [Jz];omega)) ⟨e,?_⟩;refine ⟨.non,_,I.Ha (its':=its++[u]) hH e (by simp) (r.append (.cons ru .nil)) ?_,rfl,q⟩;rw [Js,List.length_singleton];omega
end
end L2
namespace L2
open PySem PySem.Spec PyProof.Rows
section
variable {κ:Type} [DecidableEq κ]
noncomputable def putK (kvs:List (κ×V)) (k:κ) (v:V):List (κ×V) :=
 if (kvs.any fun kv=>decide (kv.1=k))=true then kvs.map (fun kv=>if kv.1=k then (kv.1,v) else kv) else kvs++[(k,v)]
theorem nh (kvs:List (κ×V)) (k:κ) (v:V):(putK kvs k v).length<=kvs.length+1:=by
 unfold putK;split
 ·rw [Jm];omega
 ·rw [Js,JL,List.length_nil];omega
theorem KV.any {kvs:List (κ×V)} {vs:List (κ×Value)} (r:KV kvs vs) (k:κ):(kvs.any fun kv=>decide (kv.1=k))=vs.any fun kv=>decide (kv.1=k):=by
 unfold KV at r;induction r with
 | nil=>rfl
 | cons h t ih=>rw [LL,LL,ih,h.1]
theorem KV.Ik (r:KV kvs vs) (k:κ) (ry:RelV y u) :
  KV (kvs.map fun kv=>if kv.1=k then (kv.1,y) else kv) (vs.map fun kv=>if kv.1=k then (kv.1,u) else kv):=by
 unfold KV at r ⊢;induction r with
 | nil=>exact .nil
 | @cons p q ps qs h t ih =>
  rw [List.map_cons,List.map_cons];refine .cons ?_ ih;obtain ⟨h1,h2⟩:=h;by_cases e:p.1=k
  ·rw [Jx e,Jx (h1.symm.trans e)];exact ⟨h1,ry⟩
  ·rw [JD e,JD (fun z=>e (h1.trans z))];exact ⟨h1,h2⟩
theorem KV.put (r:KV kvs vs) (k:κ) (ry:RelV y u):KV (putK kvs k y) (stored vs k u):=by
 unfold putK stored;rw [r.any k];by_cases e:(vs.any fun kv=>decide (kv.1=k))=true
 ·rw [Jx e,Jx e];exact r.Ik k ry
 ·rw [JD e,JD e];exact Paired.snoc r ⟨rfl,ry⟩
end
theorem Gs (r:RelV (kV k) u):(bp P w).is k u=true:=by
 cases k with
 | inl i=>obtain ⟨t,e⟩:=(show ∃ t,u=Value.int i t from r);subst e;exact nj P w i t
 | inr x=>obtain ⟨t,e⟩:=(show ∃ t,u=Value.str x t from r);subst e;exact nB P w x t
section
variable {X:Cx} {pins:List (Addr×Obj)} {Z:St} {H:Hp} {s:Shared} {a:Addr} {y v:V} {u r:Value} {o:Option V} {A:Around} {E:Value->Shared->Prop}
theorem Inv.big (I:Inv X pins Z H s):sysModules < s.heap.objs.size:=by
 have h:mainGlobals < s.heap.objs.size:=(I.mod.glob.keeps I.bk).lt;exact Nat.lt_trans (by decide) h
theorem mw (I:Inv X pins Z H s) (mu:Mut (H a)) (hs:Heap.SameBut a s.heap h') (he:∃ q,h'.get? a=some q) (new:bJ X.prog X.w (upd H a ob) h' a ob) :
  Inv X pins Z (upd H a ob) { s with heap:=h',toks:=t' } :=
 I.write (x:=a) (e:=a) mu (.inl rfl) (fun b q hb z=>(hs.2 b hb).trans z) he new
end
def Hl (i:Expr):Prop:=∀ ov iv,subscripted i false ov iv=operate [ov,iv] (getItem ov iv)
theorem y9 {prog:Program} {w:World} {A:Around} {E:Value->Shared->Prop} {s:Shared} {env:Env} {value slice:Expr} {pos:Pos} {T id:String} {Q:Value->Shared->Prop}
  (hl:typeLookup (.type T) "__getitem__" = pure (some (.builtin id))) (hs:Hl slice)
  (h:wpAny (model prog w) A (eval value env) (fun o ZJ=>wpAny (model prog w) A (eval slice env) (fun i ZU=>ZU.TypeIs o T/\wpAny (model prog w) A (getItem o i) Q E ZU) E ZJ) E s) :
  wpAny (model prog w) A (eval (.Subscript value slice pos) env) Q E s:=by
 refine Subscript_ (J1 h (fun o ZJ h₁=>J1 h₁ (fun i ZU h₂=>?_) fun _ _ x=>x) fun _ _ x=>x);obtain ⟨hT,h₂⟩:=h₂;unfold subscriptTail;refine Jk ?_;rw [getitemInPython_of_ne hT.not_modules];refine Jk (KZ hT hl ?_);have fin:wpAny (model prog w) A (subscripted slice false o i) (fun r ZO=>wpAny (model prog w) A (letTemporaryGo value o r>>=fun _=>pure r) Q E ZO) E ZU:=by
  rw [hs o i];exact wpAny_operating (J1 h₂ (fun r ZO h₃=>Jk (wpAny_letTemporaryGo (Jn h₃))) fun _ _ x=>x)
 first
  | exact Jn (Jk fin)
  | exact Jk (Jn (Jk fin))
  | exact Jk fin
def oX:List (TE×TE)->St->Hp->(List (V×V)->Hp->Prop)->Prop
 | [],_,H,Q=>Q [] H
 | (tk,tv) :: r,Z,H,Q=>tk Z H fun x H1=>tv Z H1 fun y H2=>oX r Z H2 fun ps H3=>Q ((x,y) :: ps) H3
abbrev VV:List (V×V)->List (Value×Value)->Prop:=Paired fun p q=>RelV p.1 q.1/\RelV p.2 q.2
def PPs (X:Cx) (pos:Pos) (keys:List (Option Expr)) (values:List Expr) (trs:List (TE×TE)):Prop :=
 ∀ (pins:List (Addr×Obj)) (s:Shared) (Z:St) (H:Hp) (Q:List (V×V)->Hp->Prop),Inv X pins Z H s->oX trs Z H Q ->
  wpAny (model X.prog X.w) X.A (evalPairs (pairTrees keys values X.env pos)) (fun vs s'=>∃ ps H',Inv X pins Z H' s'/\VV ps vs/\Q ps H') X.xe s
theorem zP:PPs X pos [] [] []:=fun pins s Z H Q I h=>pairTrees_nil_walk ⟨[],H,I,.nil,h⟩
theorem vG (hk:PE X k tk) (hv:PE X v tv) (hr:PPs X pos ks vs trs) :
  PPs X pos (some k :: ks) (v :: vs) ((tk,tv) :: trs):=fun pins s Z H Q I h =>
 pairTrees_cons_walk (thn (hk pins s Z H _ I h) fun u s1 ⟨x,H1,I1,rx,q1⟩=>thn (hv pins s1 Z H1 _ I1 q1) fun w2 s2 ⟨y,H2,I2,ry,q2⟩ =>
  thn (hr pins s2 Z H2 _ I2 q2) fun ws s3 ⟨ps,H3,I3,rel,q3⟩=>⟨(x,y) :: ps,H3,I3,.cons ⟨rx,ry⟩ rel,q3⟩)
noncomputable def cX (kvs more:List (Key×V)):List (Key×V):=more.foldl (fun acc kv=>putK acc kv.1 kv.2) kvs
theorem KV.merge:∀ {more:List (Key×V)} {rs:List (Key×Value)} {kvs:List (Key×V)} {vs:List (Key×Value)},KV more rs->KV kvs vs->KV (cX kvs more) (merged vs rs):=by
 intro more rs kvs vs r;unfold KV at r;induction r generalizing kvs vs with
 | nil=>intro q;exact q
 | @cons p q ps qs h t ih =>
  intro r0;have e:KV (putK kvs p.1 p.2) (stored vs q.1 q.2):=by
   have:=r0.put p.1 h.2;rw [<- h.1];exact this
  exact ih e
theorem fD:∀ (more kvs:List (Key×V)),(cX kvs more).length<=kvs.length+more.length
 | [],kvs=>by show kvs.length<=kvs.length+0;omega
 | p :: r,kvs=>by
  have h1:=fD r (putK kvs p.1 p.2);have h2:=nh kvs p.1 p.2;show (cX (putK kvs p.1 p.2) r).length<=_;rw [JL];omega
theorem jw:∀ {kvs:List (Key×V)} {ws:List (Value×Value)},VV (kvs.map fun kv=>(kV kv.1,kv.2)) ws->∃ rs,Carries (bp P w) ws rs/\KV kvs rs
 | [],_,r=>by rw [List.map_nil] at r;cases r;exact ⟨[],True.intro,.nil⟩
 | p :: kvs,_,r=>by
  rw [List.map_cons] at r;cases r with
  | @cons a b as bs h t =>
   obtain ⟨rs,c,q⟩:=jw (P:=P) (w:=w) t;obtain ⟨b1,b2⟩:=b;exact ⟨(p.1,b2) :: rs,⟨Gs h.1,rfl,c⟩,.cons ⟨rfl,h.2⟩ q⟩
structure M1 (X:Cx) (o:Expr) (m:Str) (apos:Pos) (e:Expr) (cpos:Pos):Prop where
 base:attributeBase o m X.env (eval o X.env)=eval o X.env
 few:((backTo cpos (starEach [e] X.env)).all (fun x=>!x.1)&&(backToKw cpos (keywordEach [] X.env)).all (fun x=>x.1.isSome)
  && decide (([e]:List Expr).length+([]:List Keyword).length+(if ([]:List Keyword).isEmpty then 0 else 1) < 30))=true
 line:(apos.endLine==cpos.line)=true
 trees:backTo cpos (starEach [e] X.env)=[(false,eval e X.env)]
end L2
namespace Att
open PySem PySem.W PySem.Calls PyProof.Rows
theorem iG:∀ (ns:List Int) (vs:List Value),WellAll P h vs (ns.map WData.int)->IntsAre vs ns:=by
 intro ns;induction ns with
 | nil =>
  intro vs w;rw [List.map_nil] at w;cases w;exact .nil
 | cons n ns ih =>
  intro vs w;rw [List.map_cons] at w;cases w with
  | cons a b =>
   cases a;exact .cons _ _ (ih _ b)
theorem sv {l:OpenLaw} {n:Nat} (hn:l.most=some n) {P:Params} {h:Heap} {args:List WData} {vals:List Value}
  (hpre:l.row.toRowW.claim.pre args=true) (hwl:WellAll P h vals args) :
  ∃ a vs ns,vals=[Value.ref a]/\args=[WData.list (ns.map WData.int)]/\h.get? a=some { cls:=.type "list", data:=.seq vs.toArray }/\IntsAre vs ns/\ns.length<=n:=by
 have hsh:WShape.hasAll [] args [.list .int]=true:=(pre_splitW hpre).1;have hc:l.pre.holds [] { args:=args }=true:=(pre_splitW hpre).2;obtain ⟨d,r,rfl,h1,h2⟩:=hasAllW_cons hsh;obtain rfl:=hasAllW_nil h2;obtain ⟨xs,rfl,h3⟩:=hasW_list h1;obtain ⟨ns,rfl⟩:=items_int h3;have hlen:ns.length<=n:=by
  unfold OpenLaw.pre at hc;have h4:(WTm.not (.lt (.lit (.int (n:Int))) (.len (.arg 0)))).holds [] { args:=[.list (ns.map .int)] }=true:=by
   have h4:=(holds_andW hc).1;rw [hn] at h4;exact h4
  have h5:=condW_of h4 (w_not (w_lt w_lit (w_len_list (w_arg rfl))));rw [Jm] at h5;refine Nat.le_of_not_lt fun q=>?_;have q':(n:Int) < ((ns.length:Nat):Int):=by omega
  first
   | (rw [J2 q'] at h5;exact absurd h5 (by decide))
   | (simp at h5;omega)
 cases hwl with
 | cons w1 w2 =>
  cases w2;cases w1 with
  | list ho hall=>exact ⟨_,_,ns,rfl,rfl,ho,iG ns _ hall,hlen⟩
theorem rG (l:OpenLaw) (args:List WData):l.row.toRowW.claim.post args (.bool true) args=true :=
 postW_of (r:=l.row.toRowW) (X:=(true==true))
  (show WShape.has [] (.bool true) .bool=true by first | rfl | decide | simp [WShape.has,WShape.arms,WShape.armsAll])
  (show (WTm.eq .res (.lit (.bool true))).value [] { args:=args,res:=some (.bool true),after:=args }=some (.bool (true==true)) from w_eq_bool (w_res rfl) w_lit) rfl
theorem mS {l:OpenLaw} {n:Nat} {q:Program} {loose:List Str} {XP:(Str->Option Value)->Heap->Prop} {YP:World->Heap->Prop} {d:DefRec}
  (hn:l.most=some n) (hdf:d.params.defaults=[])
  (call:∀ (w:World) (ZY ZJ:Shared) (mg mb:Str->Option Value) (fa:Addr) (o:Obj) (pm cd doc:Value) (a:Addr) (vs:List Value) (ns:List Int),
   Ground q loose [] XP w ZY mg mb ZJ.heap->YP w ZJ.heap ->
   ZJ.heap.get? fa=some o->o.data=.func (docDef d.name d.params d.body d.scope pm cd doc)->ZJ.heap.CodeRec cd d.name->mg d.name=some (.ref fa) ->
   ZJ.heap.get? a=some { cls:=.type "list", data:=.seq vs.toArray }->IntsAre vs ns->ns.length<=n->ZJ.gens=#[] ->
   codeAny (model l.prog w) callerA (.call (.ref fa) ⟨[.ref a],[]⟩) (fun r s'=>r=.ok (.ret (.bool true))/\OldK ZJ.heap s'.heap/\s'.os=ZJ.os/\AllBare s'.gens) ZJ) :
  WalkO q loose XP YP l.row.toRowW d [] (fun f vs=>PySem.call f vs):=by
 intro w ZY ZJ mg mb G Y fa o pm cd doc dV kV ho hd hcd hD hmg hg args vals as hpre hlay hrd hwl hlo;obtain rfl:dV=.none:=Dflts.none hD hdf;obtain rfl:kV=.none:=Dflts.noKw hD;obtain ⟨a,vs,ns,rfl,rfl,hobj,hints,hlen⟩:=sv hn hpre hwl;refine enter_call (codeAny_mono (call w ZY ZJ mg mb fa o pm cd doc a vs ns G Y ho (fd_plain hd) hcd hmg hobj hints hlen hg) fun r s' hq=>?_);obtain ⟨rfl,h2,h3,h4⟩:=hq;exact ⟨.inl ⟨.bool true,.bool true,[],rfl,fun _=>rfl,.bool true,rG l _,fun _=>⟨List.Pairwise.nil,fun _ hm=>(nomatch hm)⟩⟩,h2,h3,h4⟩
end Att
namespace L2
open PySem PySem.Spec PyProof.Rows
theorem lB:∀ {vs:List Value} {ns:List Int},IntsAre vs ns->Vals (ns.map V.int) vs
 | _,_,.nil=>.nil
 | _,_,.cons n t h=>.cons ⟨t,rfl⟩ (lB h)
def D9 (H:Hp):Prop:=∀ b,H b=none\/∃ o xs,H b=some (.frz o (.lst xs))
theorem wC {P:Program} {w:World} {K:Fg} {mg mb:Str->Option Value} {CX:CXT} {k:Nat} {fa a:Addr} {fd:FuncData} {x:Str} {sp:Sp} {ZJ:Shared} {vs:List Value} {ns:List Int}
  (KX:K.In ZJ.heap) (hns:ZJ.heap.Ns mainGlobals mg) (hb:ZJ.heap.Ns builtinsNs mb) (hbb:∀ x:Str,x ≠ "__name__" -> mb x=bootBuiltins x) (hlim:ZJ.heap.NoLimit) (hg:ZJ.gens=#[])
  (ha:ZJ.heap.get? a=some { cls:=.type "list", data:=.seq vs.toArray }) (hi:IntsAre vs ns) (hl:ns.length<=sizeLine) (hr:gi k callerA)
  (F:∀ base:Heap,K.In base->base.Ns mainGlobals mg->gE P w K mg base CX k fa fd [x] sp) (hbind:∀ (s:Shared) (u:Value),BindsTo s fd ⟨[u],[]⟩ [(x,u)])
  (hsp:∀ H:Hp,D9 H->SqL K H a (ns.map V.int)->sp [.ref a] H (fun v _=>v=.bl true) fun _ _ _=>False)
  (hCX:∀ H e s',CX [] H ZJ (fun _ _ _=>False) e s'->False) :
  codeAny (model P w) callerA (.call (.ref fa) ⟨[.ref a],[]⟩) (fun r s'=>r=.ok (.ret (.bool true))/\OldK ZJ.heap s'.heap/\s'.os=ZJ.os/\AllBare s'.gens) ZJ:=by
 have rv:=lB hi;have lenV:=hi.length;have core:∀ H:Hp,D9 H->SqL K H a (ns.map V.int)->HOk P w H ZJ.heap->(∀ b,H b≠none->b=a)->(H a≠none->K.lookup a=none) ->
   codeAny (model P w) callerA (.call (.ref fa) ⟨[.ref a],[]⟩) (fun r s'=>r=.ok (.ret (.bool true))/\OldK ZJ.heap s'.heap/\s'.os=ZJ.os/\AllBare s'.gens) ZJ:=by
  intro H hO hS hok hA hK;have base_of:∀ {b:Addr} {o:Obj},ZJ.heap.get? b=some o->H b=none->(wH ZJ.heap H).get? b=some o:=fun e n=>wG e n;have noA:∀ {b:Addr} {o:Obj} {es:Array DictEntry} {ep:Nat},ZJ.heap.get? b=some o->o.data=.dict es ep->H b=none:=fun {b o es ep} e d=>by
   cases q:H b with
   | none=>rfl
   | some u =>
    have e':b=a:=hA b (by rw [q];simp);subst e';rw [ha] at e;cases e;have d':Data.seq vs.toArray _=Data.dict es ep:=d;cases d'
  have nsK:∀ {b:Addr} {m:Str->Option Value},ZJ.heap.Ns b m->(wH ZJ.heap H).Ns b m:=fun {b m} ⟨o,es,ep,e,d,r⟩=>⟨o,es,ep,base_of e (noA e d),d,r⟩
  have hKb:K.In (wH ZJ.heap H):=fun b o e=>base_of (KX b o e) (by
   cases q:H b with
   | none=>rfl
   | some u =>
    have e':b=a:=hA b (by rw [q];simp);subst e'
    rw [hK (by rw [q];simp)] at e;cases e)
  have hM:Mod K mg (wH ZJ.heap H):=⟨hKb,nsK hns,⟨mb,nsK hb,hbb⟩,let ⟨mc,h1,h2⟩:=hlim;⟨mc,nsK h1,h2⟩⟩;have e0:D1 P w K mg (wH ZJ.heap H) callerA [] ZJ H:=⟨rfl,hM,fun b o e=>xY e,Nat.le_of_eq (tN _ _),trivial,fun b hb=>absurd (show b∈([]:List Addr) from hb) (by simp),hok,.of_eq hg⟩;refine codeAny_mono ((F _ hKb (nsK hns)).run callerA [] ZJ H ⟨[.ref a],[]⟩ [.ref a] [.ref a] _ _ hr e0 (hbind ZJ (.ref a)) (.cons rfl .nil) (hsp H hO hS)) fun r s' h=>?_;cases r with
  | error e=>exact (hCX H e s' h).elim
  | ok fl =>
   cases fl with
   | next=>exact False.elim h
   | brk=>exact False.elim h
   | cont=>exact False.elim h
   | ret u =>
    obtain ⟨v,H',os,bare,un,hok',r',q⟩:=h;have q':v=.bl true:=q;subst q';obtain rfl:u=Value.bool true:=r';refine ⟨rfl,OldK.of_keep fun b o e=>?_,os,bare⟩;cases q:H b with
    | none=>exact un.keep b o e q (by intro z;exact absurd (show b∈([]:List Addr) from z) (by simp)) (by simp)
    | some u =>
     rcases hO b with z | ⟨ob,xs,z⟩
     ·rw [q] at z;cases z
     ·have z2:=un.uB b ob _ z;obtain ⟨e1,_⟩:=hok b _ z;obtain ⟨e2,_⟩:=hok' b _ z2;rw [e] at e1;cases e1;exact e2
 cases hk:K.lookup a with
 | some o =>
  have e:=KX a o hk;rw [ha] at e;cases e;refine core (fun _=>none) (fun _=>.inl rfl) (.inr ⟨_,vs.toArray,_,hk,rfl,rfl,rfl,by rw [Jz,lenV];exact hl,by simpa using rv⟩) (fun b u z=>by have z':(none:Option HO)=some u:=z;cases z') (fun b z=>absurd rfl z) fun z=>absurd rfl z
 | none =>
  refine core (fun b=>if b=a then some (.frz { cls:=.type "list", data:=.seq vs.toArray } (.lst (ns.map V.int))) else none) (fun b=>?_) (.inl (.inr ⟨{ cls:=.type "list", data:=.seq vs.toArray },Jx rfl⟩)) (fun b u z=>?_) (fun b z=>?_) fun _=>hk
  ·by_cases hb:b=a
   ·exact .inr ⟨_,_,Jx hb⟩
   ·exact .inl (JD hb)
  ·by_cases hb:b=a
   ·have z':=(Jx hb).symm.trans z;cases z';subst hb;exact ⟨ha,by rw [Jm];exact hl,vs,_,rv,ha⟩
   ·have z':=(JD hb).symm.trans z;cases z'
  ·by_cases hb:b=a
   ·exact hb
   ·exact absurd (JD hb) z
end L2
namespace L2
open PySem PySem.Spec PyProof.Rows
abbrev KOf {K:Fg} {h:Heap} (_:K.In h):Fg:=K
theorem yX {l:PySem.W.OpenLaw} {n k:Nat} {q:Program} {loose:List Str} {XP:(Str->Option Value)->Heap->Prop} {YP:World->Heap->Prop} {d:DefRec} {K:Params->Fg} {CX:World->CXT} {sp:World->Sp} {x:Str}
  (hn:l.most=some n) (hn2:n<=sizeLine) (hdf:d.params.defaults=[]) (hr:gi k callerA)
  (hY:∀ (w:World) (h:Heap),YP w h->(K w.params).In h)
  (F:∀ (w:World) (mg:Str->Option Value) (fa:Addr) (h:Heap),(K w.params).In h->h.Ns mainGlobals mg->mg d.name=some (.ref fa) ->
   ∃ fd:FuncData,(∀ (s:Shared) (u:Value),BindsTo s fd ⟨[u],[]⟩ [(x,u)]) /\
    ∀ base:Heap,(K w.params).In base->base.Ns mainGlobals mg->gE l.prog w (K w.params) mg base (CX w) k fa fd [x] (sp w))
  (hsp:∀ (w:World) (H:Hp) (a:Addr) (ns:List Int),ns.length<=n->D9 H->SqL (K w.params) H a (ns.map V.int)->sp w [.ref a] H (fun v _=>v=.bl true) fun _ _ _=>False)
  (hCX:∀ (w:World) (H:Hp) (s:Shared) (e:Value) (s':Shared),CX w [] H s (fun _ _ _=>False) e s'->False) :
  PySem.W.WalkO q loose XP YP l.row.toRowW d [] (fun f vs=>PySem.call f vs):=by
 refine Att.mS hn hdf fun w ZY ZJ mg mb fa o pm cd doc a vs ns G Y ho hd hcd hmg hobj hints hlen hg=>?_;have KX:=hY w _ Y;obtain ⟨fd,hb,hF⟩:=F w mg fa _ KX G.T.g hmg;exact wC KX G.T.g G.T.b G.T.builtins G.T.nolimit hg hobj hints (J6 hlen hn2) hr hF hb (fun H hO hS=>hsp w H a ns hlen hO hS) fun H e s'=>hCX w H ZJ e s'
theorem u9 {l:PySem.W.OpenLaw} {n k:Nat} {q:Program} {loose:List Str} {XP:(Str->Option Value)->Heap->Prop} {YP:World->Heap->Prop} {d:DefRec} {K:Params->Fg} {CX:CXT} {sp:Fg->Sp} {x:Str}
  (hn:l.most=some n) (hn2:n<=sizeLine) (hdf:d.params.defaults=[]) (hr:gi k callerA)
  (hY:∀ (w:World) (h:Heap),YP w h->(K w.params).In h)
  (F:∀ (w:World) (mg:Str->Option Value) (fa:Addr) (h:Heap),(K w.params).In h->h.Ns mainGlobals mg->mg d.name=some (.ref fa) ->
   ∃ fd:FuncData,(∀ (s:Shared) (u:Value),BindsTo s fd ⟨[u],[]⟩ [(x,u)]) /\
    ∀ base:Heap,(K w.params).In base->base.Ns mainGlobals mg->gE l.prog w (K w.params) mg base CX k fa fd [x] (sp (K w.params)))
  (hsp:∀ (K:Fg) (H:Hp) (a:Addr) (ns:List Int),ns.length<=n->D9 H->SqL K H a (ns.map V.int)->sp K [.ref a] H (fun v _=>v=.bl true) fun _ _ _=>False)
  (hCX:∀ (H:Hp) (s:Shared) (e:Value) (s':Shared),CX [] H s (fun _ _ _=>False) e s'->False) :
  PySem.W.WalkO q loose XP YP l.row.toRowW d [] (fun f vs=>PySem.call f vs) :=
 yX (K:=K) (CX:=fun _=>CX) (sp:=fun w=>sp (K w.params)) hn hn2 hdf hr hY F (fun w H a ns h1 h2 h3=>hsp (K w.params) H a ns h1 h2 h3) fun _ H s e s'=>hCX H s e s'
end L2
namespace L2
open PySem PySem.Spec PyProof.Rows
noncomputable def gZ (s:Stmt):Arguments:=match s with
 | .FunctionDef _ a _ _ _ _ _ _ _ _=>a
 | _=>{ posonlyargs:=[],args:=[],vararg:=none,kwonlyargs:=[],kw_defaults:=[],kwarg:=none,defaults:=[] }
noncomputable def cL (s:Stmt):List Stmt:=match s with
 | .FunctionDef _ _ b _ _ _ _ _ _ _=>b
 | _=>[]
noncomputable def ae (s:Stmt):Scope:=match s with
 | .FunctionDef _ _ _ _ _ _ sc _ _ _=>sc
 | _=>{ kind:=.function,names:=[],isGenerator:=false,isCoroutine:=false }
abbrev CX0:CXT:=fun _ _ _ _ _ _=>False
abbrev E0:XK:=fun _ _ _=>False
theorem u5:Passes CX0 X E0:=fun _ _ _ _ _ _ _ h=>h.elim
structure Fun (K:Fg) (x qual:Str) (st:Stmt) (f:Addr) (fd:FuncData):Prop where
 ex:∃ (oc:Value) (od:Option Addr) (kV doc pm:Value) (an:Option Addr) (cdv ct:Value) (osl:Array (Option Value)),
  fd=PySem.W.fnOf x qual (gZ st) (cL st) (ae st) .none kV doc pm an cdv ct/\K.lookup f=some ⟨oc,od,.func fd,osl⟩/\PySem.W.codeIn K cdv qual=true
 kp:PySem.W.keepIn K (.ref f)=true
section
variable {P:Program} {w:World} {K:Fg} {mg:Str->Option Value} {base:Heap}
theorem Fun.ok {x qual:Str} {st:Stmt} {f:Addr} {fd:FuncData} {N ps:List Str} {k:Nat} {sp:Sp} (F:Fun K x qual st f fd) (S:cK N ps (ae st)) (len:∀ vs H Q E,sp vs H Q E->vs.length=ps.length)
  (hbody:∀ (cdv:Value) (A:Around) (outer:List Env) (s:Shared) (H:Hp) (vs:List V) (Q:VK) (E:XK),gi k (A.deeper (envOfC qual (ae st) s.heap.objs.size f cdv))->sp vs H Q E ->
   ∃ t,PSs (uZ CX0 P w K mg base N qual (ae st) f cdv A outer s H E).nox (cL st) t/\t { nx:=fun _ H'=>Q .non H',rt:=Q } (start N vs) H):gE P w K mg base CX0 (k+1) f fd ps sp:=by
 obtain ⟨oc,od,kV,doc,pm,an,cdv,ct,osl,rfl,lk,hcd⟩:=F.ex;refine FW lk hcd S len fun A outer s H vs Q E hr hsp=>?_;obtain ⟨t,h,q⟩:=hbody cdv A outer s H vs Q E hr hsp;exact ⟨t,h.nox,q⟩
theorem CD {x qual:Str} {st:Stmt} {f:Addr} {oc:Value} {od an:Option Addr} {osl:Array (Option Value)} {kV doc pm cdv ct:Value} (l:K.lookup f=some ⟨oc,od,.func (PySem.W.fnOf x qual (gZ st) (cL st) (ae st) .none kV doc pm an cdv ct),osl⟩)
  (c:PySem.W.codeIn K cdv qual=true) (k:PySem.W.keepIn K (.ref f)=true):Fun K x qual st f (PySem.W.fnOf x qual (gZ st) (cL st) (ae st) .none kV doc pm an cdv ct):=⟨⟨oc,od,kV,doc,pm,an,cdv,ct,osl,rfl,l,c⟩,k⟩
end
section
variable {X:Cx}
theorem pv (i:Nat) (hN:X.N[i]?=some x:=by rfl) (hv:Vis X.env.scope x:=by first | exact Or.inl rfl | exact Or.inr (Or.inl rfl) | exact Or.inr (Or.inr rfl)) (hd:(x==("__debug__" : Str))=false:=by decide)
  (hcd:(x==("__classdict__" : Str))=false:=by decide):PE X (.Name x pos) (mV i):=xa hN hv hd hcd
end
def aE (H H':Hp):Prop:=∀ b o,H b=some o->H' b=some o
theorem aE.trans (a:aE H H1) (b:aE H1 H2):aE H H2:=fun c o h=>b c o (a c o h)
theorem aE.free (e:aE H H') (h:H' l=Option.none):H l=Option.none:=by
 cases q:H l with
 | none=>rfl
 | some o =>
  rw [e l o q] at h;cases h
noncomputable def kF (env:Env):List (Str×NameKind)->List (Str×Addr)->List (Str×Addr)
 | [],cs=>cs
 | (n,k) :: r,cs=>kF env r (if k==.free then (n,(env.cells.lookup n).getD 0) :: cs else cs)
theorem cZ:∀ (ns:List (Str×NameKind)) (cs:List (Str×Addr)),(∀ y∈ns,y.2=.free->∃ c,env.cells.lookup y.1=some c) ->
  (forIn ns cs (fun (x:Str×NameKind) (r:List (Str×Addr))=>if (x.2==NameKind.free)=true then (cellOf env x.1>>=fun a=>pure (ForInStep.yield ((x.1,a) :: r)):Sem _) else pure (ForInStep.yield r)):Sem (List (Str×Addr)))=pure (kF env ns cs)
 | [],_,_=>rfl
 | (n,k) :: r,cs,h=>by
  rw [List.forIn_cons];by_cases hk:k=.free
  ·subst hk;obtain ⟨c,e⟩:=h (n,.free) Ju rfl;have e':env.cells.lookup n=some c:=e;have q:=cZ (env:=env) r ((n,c) :: cs) fun y hy=>h y (Jr _ hy);have z:kF env ((n,NameKind.free) :: r) cs=kF env r ((n,c) :: cs):=by
    show kF env r (if (NameKind.free==NameKind.free)=true then (n,(env.cells.lookup n).getD 0) :: cs else cs)=_;rw [Jx (by decide),e'];rfl
   have k:cellOf env n=pure c:=by
    unfold cellOf;rw [e']
   rw [z,<-q];dsimp only;rw [Jx (by decide),k];rfl
  ·have hb:(k==NameKind.free)=false:=by simpa using hk
   have q:=cZ (env:=env) r cs fun y hy=>h y (Jr _ hy);have z:kF env ((n,k) :: r) cs=kF env r cs:=by
    show kF env r (if (k==NameKind.free)=true then (n,(env.cells.lookup n).getD 0) :: cs else cs)=_;rw [hb,JD Kw]
   rw [z,<-q];dsimp only;rw [hb,JD Kw];rfl
theorem fZ (h:∀ y∈scope.names,y.2=.free->∃ c,env.cells.lookup y.1=some c):closureFor scope env=pure (kF env scope.names []):=by
 have q:=cZ (env:=env) scope.names [] h;unfold closureFor;show (forIn scope.names [] _>>=_:Sem _)=_;refine Eq.trans (congrArg (fun m:Sem (List (Str×Addr))=>m>>=fun r=>pure r) (Eq.trans ?_ q)) rfl;rfl
theorem oB:∀ (ns:List (Str×NameKind)) (cs:List (Str×Addr)),(∀ y∈ns,y.2=.free->∃ c,env.cells.lookup y.1=some c)->(∀ y c,cs.lookup y=some c->env.cells.lookup y=some c) ->
  ∀ y c,(kF env ns cs).lookup y=some c->env.cells.lookup y=some c
 | [],_,_,g,y,c,e=>g y c e
 | (n,k) :: r,cs,h,g,y,c,e=>by
  refine oB r _ (fun z hz=>h z (Jr _ hz)) (fun z d e'=>?_) y c e;by_cases hk:(k==NameKind.free)=true
  ·rw [Jx hk] at e';rw [L6] at e';obtain ⟨c',ec⟩:=h (n,k) Ju (by simpa using hk);have ec':env.cells.lookup n=some c':=ec;cases hz:z==n with
   | true =>
    rw [hz] at e';have hzn:z=n:=by simpa using hz
    subst hzn;rw [ec'] at e' ⊢;exact e'
   | false=>rw [hz] at e';exact g z d e'
  ·rw [JD hk] at e';exact g z d e'
theorem lz:∀ (ns:List (Str×NameKind)) (cs:List (Str×Addr)),(∃ c,cs.lookup y=some c)->∃ c,(kF env ns cs).lookup y=some c
 | [],_,h=>h
 | (n,k) :: r,cs,h=>by
  refine lz r _ ?_;by_cases hk:(k==NameKind.free)=true
  ·rw [Jx hk,L6];cases y==n
   ·exact h
   ·exact ⟨_,rfl⟩
  ·rw [JD hk];exact h
theorem gM:∀ (ns:List (Str×NameKind)) (cs:List (Str×Addr)),(y,NameKind.free)∈ns->∃ c,(kF env ns cs).lookup y=some c
 | [],_,h=>by simp at h
 | (n,k) :: r,cs,h=>by
  rcases JJ.mp h with e | h
  ·cases e;show ∃ c,(kF env r (if (NameKind.free==NameKind.free)=true then (y,(env.cells.lookup y).getD 0) :: cs else cs)).lookup y=some c;refine lz r _ ⟨(env.cells.lookup y).getD 0,?_⟩;rw [Jx (by decide),L6,beq_self_eq_true]
  ·exact gM r _ h
theorem bE {env:Env} {y:Str} {k:NameKind}:∀ (ns:List (Str×NameKind)),
  (ns.map fun (n,k)=>if (k==NameKind.free&&env.scope.kind==.function&&env.kindOf n==some .cell) then (n,NameKind.cell) else (n,k)).lookup y=some k->(y,k)∈ns\/(k=.cell/\(y,NameKind.free)∈ns)
 | [],h=>by simp at h
 | (n,k') :: r,h=>by
  have ih:=fun q=>bE (env:=env) (y:=y) (k:=k) r q;rw [List.map_cons] at h;have h2:=h;have again:=fun q=>(ih q).elim (fun q=>Or.inl (Jr (n,k') q)) fun q=>(Or.inr ⟨q.1,Jr (n,k') q.2⟩:(y,k)∈(n,k') :: r\/(k=.cell/\(y,NameKind.free)∈(n,k') :: r));dsimp only at h2;clear h;by_cases hc:(k'==NameKind.free&&env.scope.kind==.function&&env.kindOf n==some .cell)=true
  ·rw [Jx hc,L6] at h2;cases hy:y==n with
   | true =>
    rw [hy] at h2;have e1:y=n:=by simpa using hy
    have hk:k'=.free:=by
     have:=hc;simp at this;exact this.1.1
    have e2:k=.cell:=(Kq h2).symm;exact .inr ⟨e2,by rw [e1,hk];exact Ju⟩
   | false=>rw [hy] at h2;exact again h2
  ·rw [JD hc,L6] at h2;cases hy:y==n with
   | true =>
    rw [hy] at h2;have e1:y=n:=by simpa using hy
    have e2:k'=k:=Kq h2;exact .inl (by rw [e1,e2];exact Ju)
   | false=>rw [hy] at h2;exact again h2
noncomputable def cxB (X:Cx) (N':List Str) (scope:Scope) (C:Addr) (s3:Shared) (H3:Hp) (ex:List Addr):Cx :=
  { prog:=X.prog,w:=X.w,K:=X.K,mg:=X.mg,base:=X.base,A:=X.A,N:=N',ZY:=s3,ZW:=H3,env:=compEnvC scope (kF X.env scope.names []) C X.env,outer:=X.stack,stack:=X.stack,ex:=ex,
    fn:=fun _=>false,calm:=true,pn:=[],xe:=fun _ _=>False }
def cR (X:Cx) (scope:Scope):List Str->List Nat->Prop
 | [],[]=>True
 | y :: ys,j :: js=>X.N[j]?=some y/\((X.env.scope.names.lookup y=some .cell/\scope.names.lookup y=some .free)\/¬∃ k,(y,k)∈scope.names)/\cR X scope ys js
 | _,_=>False
theorem EM {names:List (Str×NameKind)} {y:Str} (h:(names.all fun p=>!decide (p.1=y))=true):¬∃ k,(y,k)∈names:=fun ⟨k,hk⟩=>by
 have:=Ko.mp h _ hk;simp at this
theorem cR.get:∀ {ys:List Str} {js:List Nat} {k:Nat} {y:Str},cR X scope ys js->ys[k]?=some y->∃ j,js[k]?=some j/\X.N[j]?=some y/\((X.env.scope.names.lookup y=some .cell/\scope.names.lookup y=some .free)\/¬∃ k,(y,k)∈scope.names)
 | [],_,_,_,_,e=>by simp at e
 | _ :: _,[],_,_,h,_=>False.elim h
 | y :: ys,j :: js,0,z,h,e=>by simp at e;subst e;exact ⟨j,rfl,h.1,h.2.1⟩
 | y :: ys,j :: js,k+1,z,h,e=>by
  obtain ⟨j',e1,e2⟩:=cR.get (k:=k) h.2.2 (by simpa using e);exact ⟨j',by simpa using e1,e2⟩
theorem cR.len:∀ {ys:List Str} {js:List Nat},cR X scope ys js->ys.length=js.length
 | [],[],_=>rfl
 | _ :: _,_ :: _,h=>by simp [cR.len h.2.2]
 | [],_ :: _,h=>False.elim h
 | _ :: _,[],h=>False.elim h
noncomputable def bc (js:List Nat) (Z:St):St:=js.map fun j=>(Z[j]?).getD none
structure iK (X:Cx) (scope:Scope) (x:Str):Prop where
 kind:scope.kind=.function
 cells:∀ y∈scope.names,y.2≠.cell
 locs:∀ y∈scope.names,y.2=.local->scope.names.lookup y.1=some .local
 var:scope.names.lookup x=some .local
 free:∀ y∈scope.names,y.2=.free->X.env.scope.names.lookup y.1=some .cell
def PTs (X:Cx) (ifs:List Expr) (t:TT):Prop :=
 ∀ (pins:List (Addr×Obj)) (s:Shared) (Z:St) (H:Hp) (Q:Bool->Hp->Prop),Inv X pins Z H s->t Z H Q ->
  wpAny (model X.prog X.w) X.A (forIn ifs true fun c r=>if r=true then do let ok<-isTrue c X.env (eval c X.env);pure (ForInStep.yield ok) else pure (ForInStep.yield r)) (TP X pins Z Q) X.xe s
def GF:TT:=fun _ H Q=>Q true H
theorem Ab:PTs X [] GF:=fun _ _ _ H _ I h=>wpAny_tests_nil ⟨H,I,h⟩
theorem yL (h:PT X c t):PTs X [c] t:=fun pins s Z H Q I q=>wpAny_tests_one (h pins s Z H Q I q)
def pY (js:List Nat) (wi:TI) (tt:TT) (te:TE):TE:=fun Z H Q=>wi Z H fun J H1=>∃ W:Nat->Nat->List V->Hp->Prop,(∃ m,W 0 m [] H1)/\∀ i m acc H,W i m acc H ->
 (J.stop i H/\acc.length<=sizeLine/\∀ p,H p=none->Q (.ref p) (upd H p (.lst acc)))\/(J.go i H/\acc.length < sizeLine/\∀ x H',J.yld i H x H' ->
  tt (some x :: bc js Z) H' fun b H2=>if b=true then te (some x :: bc js Z) H2 fun y H3=>∃ m',m' < m/\W (i+1) m' (acc++[y]) H3 else ∃ m',m' < m/\W (i+1) m' acc H2)
theorem oV {M:Model} {A:Around} {α β:Type} {E E':Value->Shared->Prop} {a:α} {t:Sem α} {u:Sem β} {Q:α->Shared->Prop} {R:β->Shared->Prop} {s s':Shared} (e:t=pure a) (h:wpAny M A t Q E s) (k:Q a s->wpAny M A u R E' s'):wpAny M A u R E' s':=by
 subst e;exact fun Γ p ZZ=>k (h Γ p ZZ) Γ p ZZ
structure fO (X:Cx) (scope:Scope) (xs:List Str):Prop where
 kind:scope.kind=.function
 cells:∀ y∈scope.names,y.2≠.cell
 locs:∀ y∈scope.names,y.2=.local->scope.names.lookup y.1=some .local
 free:∀ y∈scope.names,y.2=.free->X.env.scope.names.lookup y.1=some .cell
noncomputable def eL (xs:List Str):St:=xs.map fun _=>none
theorem qd {X:Cx} {pins:List (Addr×Obj)} {Z:St} {H:Hp} {s3:Shared} {h1:Heap} {tk:Nat} {scope:Scope} {xs ys:List Str} {js:List Nat} {ex:List Addr} (I:Inv X pins Z H s3) (hc:X.calm=true) (B:fO X scope xs) (cap:cR X scope ys js)
  (hns:h1.Ns s3.heap.objs.size (fun _=>none)) (hk:∀ b o,s3.heap.get? b=some o->h1.get? b=some o)
  (hex:∀ b∈ex,b ∉ frs X.stack/\b < s3.heap.objs.size/\(∀ y c,X.env.cells.lookup y=some c->c≠b)/\X.base.get? b=none) :
  Inv (cxB X (xs++ys) scope s3.heap.objs.size s3 H ex) [] (eL xs++bc js Z) H { s3 with heap:=h1,toks:=tk }:=by
 have hfree:∀ y∈scope.names,y.2=.free->∃ c,X.env.cells.lookup y.1=some c:=fun y hy hf=>I.ok.has y.1 (.inl (B.free y hy hf));have sub:=oB (env:=X.env) scope.names [] hfree (fun _ _ e=>by simp at e)
 refine ⟨⟨I.ok.mod,B.kind,I.ok.glob,I.ok.blt,Jt _,fun y z c h1 h2=>I.ok.inj y z c (sub _ _ h1) (sub _ _ h2),fun y hy=>?_,fun y c hf _=>?_,fun _=>I.ok.hd hc,I.ok.frames,.inl rfl,fun b hb=>?_,fun b o e=>I.bs b o e,J6 I.ok.bsz I.sz,fun b o e hb=>?_,fun b hb=>(hex b hb).1,I.stack,I.qW⟩,
  rfl,I.bare,Un.kept hk,⟨_,hns,fun i y v e1 e2 e3=>?_⟩,fun y c e=>?_,I.hok.fresh (Jt _),fun y c e=>I.gG y c (sub _ _ e),fun p hp=>absurd (show p∈([]:List (Addr×Obj)) from hp) (by simp),I.hok.kept hk,?_⟩
 ·have hy:(relabel scope X.env).names.lookup y=some .cell\/(relabel scope X.env).names.lookup y=some .free:=hy;rcases hy with hy | hy
  ·rcases bE _ hy with q | ⟨_,q⟩
   ·exact absurd rfl (B.cells _ q)
   ·exact gM _ _ q
  ·rcases bE _ hy with q | ⟨q,_⟩
   ·exact gM _ _ q
   ·cases q
 ·exact absurd (show false=true from hf) (by simp)
 ·exact ⟨JY (hex b hb).2.1,fun y c e=>(hex b hb).2.2.1 y c (sub _ _ e)⟩
 ·have e':X.base.get? b=some o:=e;have:=(hex b hb).2.2.2;rw [e'] at this;cases this
 ·have hnl:(eL xs).length=xs.length:=by unfold eL;rw [Jm]
  by_cases hi:i < xs.length
  ·rw [Ka (by rw [hnl];exact hi)] at e2;unfold eL at e2;rw [Jw,Jl hi] at e2;cases e2
  ·have hi':xs.length<=i:=Nat.le_of_not_lt hi;have e1':ys[i - xs.length]?=some y:=by
    have e1:(xs++ys)[i]?=some y:=e1
    rwa [JH hi'] at e1
   have e2':(bc js Z)[i - xs.length]?=some (some v):=by
    rwa [JH (by rw [hnl];exact hi'),hnl] at e2
   obtain ⟨j,ej,en,⟨ec,ef⟩ | nv⟩:=cap.get e1'
   rotate_left
   ·have e3:(relabel scope X.env).names.lookup y=some .local\/(relabel scope X.env).names.lookup y=some .cell\/(relabel scope X.env).names.lookup y=some .free:=e3;rcases e3 with q | q | q <;> rcases bE _ q with q | ⟨_,q⟩ <;> exact absurd ⟨_,q⟩ nv
   have e4:Z[j]?=some (some v):=by
    unfold bc at e2';rw [Jw,ej] at e2';simp only [Option.map_some,Option.some.injEq] at e2';cases q:Z[j]? with
    | none=>rw [q] at e2';cases e2'
    | some w=>rw [q] at e2';simp at e2';rw [e2']
   obtain ⟨m,hn,hl⟩:=I.loc;obtain ⟨u,r,l⟩:=hl j y v en e4 (.inr (.inl ec));refine ⟨u,r,.inr ?_⟩;rcases l with ⟨kl,_⟩ | ⟨kc,c,ecl,cell⟩
   ·have kl:X.env.scope.names.lookup y=some .local:=kl;rw [ec] at kl;cases kl
   ·have e3:(relabel scope X.env).names.lookup y=some .local\/(relabel scope X.env).names.lookup y=some .cell\/(relabel scope X.env).names.lookup y=some .free:=e3;refine ⟨?_,?_⟩
    ·rcases e3 with q | q | q
     ·rcases bE _ q with q | ⟨q,_⟩
      ·have:=B.locs _ q rfl;rw [ef] at this;cases this
      ·cases q
     ·exact .inl q
     ·exact .inr q
    ·have mem:(y,NameKind.free)∈scope.names:=Lp ef;obtain ⟨c',ec'⟩:=gM (env:=X.env) scope.names [] mem;have:=sub _ _ ec';rw [ecl] at this;cases this;obtain ⟨o,ho,hd⟩:=cell;exact ⟨c,ec',o,hk _ _ ho,hd⟩
 ·obtain ⟨v,o,ho,hd⟩:=I.cell y c (sub _ _ e);exact ⟨v,o,hk _ _ ho,hd⟩
 ·show (eL xs++bc js Z).length=(xs++ys).length;rw [Js,Js,cap.len];unfold bc eL;rw [Jm,Jm]
theorem sh {prog:Program} {w:World} {A:Around} {R:Result->Shared->Prop} {s:Shared} {elt tgt iter:Expr} {ifs:List Expr} {scope:Scope} {pos:Pos} {it acc:Value} {env:Env} (hk:(∃ x px,tgt=.Name x px)\/(∃ es ek tp,tgt=.Tuple es ek tp)/\ifs=[]) (I:Nat->Shared->Prop)
  (turn:∀ n s,I n s->wpAny (model prog w) A (pyNext it) (fun r s1=>match r with
   | none=>R (.ok .next) s1
   | some v=>wpAny (model prog w) A (letOwnedTupleGo tgt it v) (fun _ s1=>wpAny (model prog w) A (assign tgt env v) (fun _ s2 =>
     wpAny (model prog w) A (forIn ifs true fun c r=>if r=true then do let ok<-isTrue c env (eval c env);pure (ForInStep.yield ok) else pure (ForInStep.yield r)) (fun ok s3 =>
      if ok=true then wpAny (model prog w) A (eval elt env) (fun x s4 =>
       wpAny (model prog w) A (call (.builtin "list.append") [acc,x]) (fun _ s5=>∃ m,m < n/\I m s5) (notedBy (model prog w) A env fun e s'=>R (.error e) s') s4) (notedBy (model prog w) A env fun e s'=>R (.error e) s') s3
      else ∃ m,m < n/\I m s3) (notedBy (model prog w) A env fun e s'=>R (.error e) s') s2) (notedBy (model prog w) A env fun e s'=>R (.error e) s') s1) (notedBy (model prog w) A env fun e s'=>R (.error e) s') s1) (notedBy (model prog w) A env fun e s'=>R (.error e) s') s)
  (n:Nat) (h:I n s):codeAny (model prog w) A (.compLoop (.ListComp elt [⟨tgt,iter,ifs,0⟩] scope pos) 0 it acc env) R s:=by
 rcases hk with ⟨x,px,rfl⟩ | ⟨⟨es,ek,tp,rfl⟩,rfl⟩
 ·refine codeAny_compLoop_tests I (fun n s hI=>J1 (turn n s hI) (fun r s1 h1=>?_) fun _ _ z=>z) n h;cases r with
  | none=>exact h1
  | some v=>exact oV (a:=()) rfl h1 fun z=>z
 ·refine LCp.codeAny_compLoop_pair I (fun n s hI=>J1 (turn n s hI) (fun r s1 h1=>?_) fun _ _ z=>z) n h;cases r with
  | none=>exact h1
  | some v=>exact J1 h1 (fun _ _ z=>J1 z (fun _ _ z=>oV (a:=true) rfl z fun z=>z) fun _ _ z=>z) fun _ _ z=>z
theorem l5 {X:Cx} {pins:List (Addr×Obj)} {Z:St} {H:Hp} {s2:Shared} {elt iter tgt:Expr} {ifs:List Expr} {pos:Pos} {scope:Scope} {st:V->St->Hp->(St->Option V->Hp->Prop)->Prop} {xs ys:List Str} {js:List Nat} {it:Addr} {fp:List Addr} {tn:Nat->Heap->Prop} {J:It}
    {Q:VK} {E:Value->Shared->Prop} {RR:Value->Addr->Result->Shared->Prop} (hc:X.calm=true) (B:fO X scope xs) (cap:cR X scope ys js) (hk:(∃ x px,tgt=.Name x px)\/(∃ es ek tp,tgt=.Tuple es ek tp)/\ifs=[]) (Yz:St->Prop) (z0:Yz (eL xs++bc js Z))
    (hst:∀ C s3 H3 ex pins s ZB H x u (K:St->Option V->Hp->Prop),Yz ZB->Inv (cxB X (xs++ys) scope C s3 H3 ex) pins ZB H s->RelV x u->st x ZB H K->wpAny (model X.prog X.w) X.A (assign tgt (cxB X (xs++ys) scope C s3 H3 ex).env u) (fun _ s=>wpAny (model X.prog X.w) X.A (forIn ifs true fun c r=>if r=true then do let ok<-isTrue c (cxB X (xs++ys) scope C s3 H3 ex).env (eval c (cxB X (xs++ys) scope C s3 H3 ex).env);pure (ForInStep.yield ok) else pure (ForInStep.yield r)) (fun b s =>
      if b=true then wpAny (model X.prog X.w) X.A (eval elt (cxB X (xs++ys) scope C s3 H3 ex).env) (fun y s=>∃ Z2 H2 yv,Inv (cxB X (xs++ys) scope C s3 H3 ex) pins Z2 H2 s/\RelV yv y/\Yz Z2/\K Z2 (some yv) H2) (cxB X (xs++ys) scope C s3 H3 ex).xe s
      else ∃ Z2 H2,Inv (cxB X (xs++ys) scope C s3 H3 ex) pins Z2 H2 s/\Yz Z2/\K Z2 none H2) (cxB X (xs++ys) scope C s3 H3 ex).xe s) (cxB X (xs++ys) scope C s3 H3 ex).xe s)
    (I:Inv X pins Z H s2) (T:Turn X.prog X.w X.K tgt J fp it tn) (h0:tn 0 s2.heap) (hf:∀ b∈fp,uV X pins H b)
    (W:Nat->Nat->St->List V->Hp->Prop) (w0:∃ m,W 0 m (eL xs++bc js Z) [] H)
    (turn:∀ i m ZB acc H,Yz ZB->W i m ZB acc H->(J.stop i H/\acc.length<=sizeLine/\∀ p,H p=none->Q (.ref p) (upd H p (.lst acc)))\/(J.go i H/\acc.length < sizeLine/\∀ x H',J.yld i H x H' ->
      st x ZB H' fun Z2 yo H3=>∃ m',m' < m/\W (i+1) m' Z2 (acc++yo.toList) H3))
    (hRR:∀ (D C:Addr) (H':Hp) (s':Shared) (m':Str->Option Value),s'.heap.Ns C m'->s2.heap.objs.size<=C->C≠D->H' C=none->Inv X pins Z H' s'->Q (.ref D) H'->RR (.ref D) C (.ok .next) s') :
    wpAny (model X.prog X.w) X.A (newList []) (fun acc ZO=>wpAny (model X.prog X.w) X.A (newFunctionEnv scope X.env.globals (kF X.env scope.names []) [] X.env.qual none .none (some X.env)) (fun cenv s₄ =>
      codeAny (model X.prog X.w) X.A (.compStart (.ListComp elt [⟨tgt,iter,ifs,0⟩] scope pos) 0 (.ref it) acc { cenv with scope:=relabel scope X.env }) (RR acc cenv.locals) s₄) E ZO) E s2:=by
  refine Kp (wpAny_newFunctionEnv B.cells (by intro y hy;simp at hy) (fun h1 hns hsb=>?_) B.kind);dsimp only at hns hsb ⊢;have hD:H s2.heap.objs.size=none:=I.hok.fresh (Jt _);generalize hH2:s2.heap.push { cls:=.type "list", dict:=none,data:=.seq ([]:List Value).toArray }=P2 at hns hsb ⊢;have hgetD:P2.get? s2.heap.objs.size=some { cls:=.type "list", dict:=none,data:=.seq ([]:List Value).toArray }:=by rw [<- hH2];exact JN _ rfl
  have hold:∀ b o,s2.heap.get? b=some o->P2.get? b=some o:=fun b o e=>by rw [<- hH2];exact Jp _ e
  have hsz:P2.objs.size=s2.heap.objs.size+1:=by rw [<- hH2,Heap.size_push]
  have I3:Inv X pins Z H { s2 with heap:=P2,toks:=s2.toks }:=I.kept hold;generalize hDe:s2.heap.objs.size=D at *;have keep1:∀ b o,P2.get? b=some o->h1.get? b=some o:=fun b o e=>hsb.extBut b o (JY (JB e)) (Jp _ e);have hfp:∀ b∈fp,b < D:=fun b hb=>by
    obtain ⟨o,e,_⟩:=T.obj _ _ h0 b hb;rw [<- hDe];exact JB e
  have hstk:∀ b,b≠X.env.locals->b ∉ X.fs->b ∉ frs X.stack:=fun b h1 h2 z=>(JJ.mp (I.tH b z)).elim h1 h2;have hDl:D≠X.env.locals:=fun z=>absurd I.lt (by rw [hDe,z];exact Ks _);have hDfs:D ∉ X.fs:=I.Fp (by rw [hDe];exact Jt _);have hDc:∀ y c,X.env.cells.lookup y=some c->c≠D:=fun y c e z=>by
    obtain ⟨v,q⟩:=I.cell y c e;have:=q.lt;rw [z,hDe] at this;exact absurd this (Ks _)
  have hex:∀ b∈D :: fp,b ∉ frs X.stack/\b < ({ s2 with heap:=P2,toks:=s2.toks }:Shared).heap.objs.size/\(∀ y c,X.env.cells.lookup y=some c->c≠b)/\X.base.get? b=none:=fun b hb=>by
    rcases JJ.mp hb with rfl | hb
    · refine ⟨hstk _ hDl hDfs,by show _ < P2.objs.size;rw [hsz];exact Nat.lt_succ_self _,hDc,?_⟩;cases q:X.base.get? b with
      | none=>rfl
      | some o =>
        have:=JB (I.bk b o q);rw [hDe] at this;exact absurd this (Ks _)
    · obtain ⟨f0,f1,f2,f3,f4,f5⟩:=hf b hb;refine ⟨hstk _ f1 f2,by show _ < P2.objs.size;rw [hsz];exact Ky (hfp b hb),f4,?_⟩;cases q:X.base.get? b with
      | none=>rfl
      | some o =>
        rcases f3 with z | z
        · exact absurd z (I.ok.Ax b o q)
        · exact absurd (JX (JB q) (J6 I.ok.bsz z)) (Ks _)
  have IB:=qd (tk:=s2.toks) (ex:=D :: fp) I3 hc B cap (h1:=h1) hns keep1 hex;have hCD:P2.objs.size≠D:=by rw [hsz];exact Nat.succ_ne_self _
  have start:codeAny (model X.prog X.w) X.A (.compLoop (.ListComp elt [⟨tgt,iter,ifs,0⟩] scope pos) 0 (.ref it) (.ref D) (compEnvC scope (kF X.env scope.names []) P2.objs.size X.env)) (RR (.ref D) P2.objs.size) { s2 with heap:=h1,toks:=s2.toks }:=by
    obtain ⟨m0,w0⟩:=w0;refine sh hk (fun n s=>∃ i ZB H' acc its k,Inv (cxB X (xs++ys) scope P2.objs.size { s2 with heap:=P2,toks:=s2.toks } H (D :: fp)) [] ZB H' s/\tn i s.heap/\(∀ b∈D :: fp,H' b=none)/\s.heap.get? D=some { cls:=.type "list", data:=.seq its k }/\Vals acc its.toList/\acc.length<=sizeLine/\Yz ZB/\W i n ZB acc H') ?_ m0 ?_
    · rintro n s ⟨i,ZB,H3,acc,its,k,I4,t4,fr4,g4,va,hl4,z4,w4⟩;have hDm:D∈D :: fp:=Ju;have exf:=I4.ok.exf;have fsub:∀ b∈D :: fp,b ∉ (cxB X (xs++ys) scope P2.objs.size { s2 with heap:=P2,toks:=s2.toks } H (D :: fp)).fs:=fun b hb=>(hex b hb).1;have stat:∀ {H':Hp} {ob:Obj},(∀ b∈fp,H' b=none)->∀ b∈fp,uV (cxB X (xs++ys) scope P2.objs.size { s2 with heap:=P2,toks:=s2.toks } H (D :: fp)) [(D,ob)] H' b:=fun {H' ob} hn b hb =>
        ⟨hn b hb,(exf b (Jr _ hb)).1,fsub b (Jr _ hb),.inl (Jr _ hb),(exf b (Jr _ hb)).2,fun p hp z=>by
          have hp':p∈[(D,ob)]:=hp;have e:=Jv.mp hp';rw [e] at z
          exact absurd (hfp b hb) (by rw [<- show D=b from z];exact Ks _)⟩
      have frp:∀ b∈fp,H3 b=none:=fun b hb=>fr4 b (Jr _ hb);have I5:Inv (cxB X (xs++ys) scope P2.objs.size { s2 with heap:=P2,toks:=s2.toks } H (D :: fp)) [(D,{ cls:=.type "list", data:=.seq its k })] ZB H3 s:=I4.fM fun p hp=>by
        rw [Jv.mp hp];exact ⟨g4,fr4 D hDm,(exf D hDm).1,fsub D hDm,fun v z=>nomatch z⟩
      rcases turn i n ZB acc H3 z4 w4 with ⟨stop,hacc,q⟩ | ⟨go,hacc,step⟩
      · refine J1 (T.done (cxB X (xs++ys) scope P2.objs.size { s2 with heap:=P2,toks:=s2.toks } H (D :: fp)) rfl rfl rfl rfl i _ s _ H3 (fun _ _=>False) I5 (stat frp) t4 stop) (fun r s1 ⟨hr,I6⟩=>?_) (fun _ _ z=>z.elim);subst hr;obtain ⟨m',hn',_⟩:=id I6.loc;have pD:=(I6.pin (D,{ cls:=.type "list", data:=.seq its k }) (JZ _ (Jv.mpr rfl))).1;have nD:H3 D=none:=fr4 D hDm;have u:=I6.base;have uu:Un (frs X.stack) (D :: fp) H (upd H3 D (.lst acc)) P2 s1.heap :=
          ⟨u.keep,u.slot,fun b o q n hx=>by rw [ax fun z=>hx (by rw [z];exact hDm)];exact u.free b o q n hx,u.there,
           fun b xs q=>by rw [ax (aN (u.uY b xs q) nD)];exact u.uY b xs q,fun b o v q=>by rw [ax (aN (u.uB b o v q) nD)];exact u.uB b o v q,
           fun b ps q=>by
            obtain ⟨more,z⟩:=u.wF b ps q
            exact ⟨more,by rw [ax (aN z nD)];exact z⟩⟩
        have hok:HOk X.prog X.w (upd H3 D (.lst acc)) s1.heap:=fun b o e=>by
          by_cases hb:b=D
          · subst hb;rw [ak] at e;cases e;exact ⟨hacc,its.toList,k,va,by rw [Lm];exact pD⟩
          · rw [ax hb] at e;exact (I6.hok b o e).oN (fun c v _ q=>q) (fun c q=>by rw [ax (aN q nD)];exact q) fun c xs q=>by rw [ax (aN q nD)];exact q
        have fin:=I3.call (g':=s1.gens) (t':=s1.toks) (d':=s1.drawn) uu hok I6.bare (fun b hb=>by
          rcases JJ.mp hb with z | hb
          · rw [z];refine ⟨.inr (by rw [<- hDe];exact I.sz),hDl,hDc,fun p hp z=>?_⟩;have:=JB (I.pin p hp).1;rw [z,hDe] at this;exact Ks _ this
          · exact ⟨(hf b hb).2.2.2.1,(hf b hb).2.1,(hf b hb).2.2.2.2.1,(hf b hb).2.2.2.2.2⟩)
        have es':({ heap:=s1.heap,gens:=s1.gens,drawn:=s1.drawn,toks:=s1.toks,os:=s2.os }:Shared)=s1:=by
          have:=I6.os;obtain ⟨a1,a2,a3,a4,a5⟩:=s1;have e5:a5=s2.os:=this;rw [e5]
        have fin':Inv X pins Z (upd H3 D (.lst acc)) s1:=es'▸fin;exact hRR D P2.objs.size (upd H3 D (.lst acc)) s1 m' hn' (by rw [hsz];exact Kz _) hCD (by rw [ax hCD];exact I6.free) fin' (q D nD)
      · refine J1 (T.item (cxB X (xs++ys) scope P2.objs.size { s2 with heap:=P2,toks:=s2.toks } H (D :: fp)) rfl rfl rfl rfl i _ s _ H3 (fun _ _=>False) I5 (stat frp) t4 go) (fun r s1 ⟨u,hr,h4⟩=>?_) (fun _ _ z=>z.elim);subst hr;refine J1 h4 (fun _ s1' ⟨x',H5,I6,r6,y6,t6,fr6⟩=>?_) (fun _ _ z=>z.elim);have I7:=I6.pinned (stat fr6) (T.obj _ _ t6);have pinsKeep:∀ {Z':St} {H':Hp} {s':Shared},Inv (cxB X (xs++ys) scope P2.objs.size { s2 with heap:=P2,toks:=s2.toks } H (D :: fp)) ([(D,{ cls:=.type "list", data:=.seq its k })]++lQ fp s1'.heap) Z' H' s' ->
            s'.heap.get? D=some { cls:=.type "list", data:=.seq its k }/\(∀ b∈D :: fp,H' b=none)/\∀ b∈fp,∀ o,s1'.heap.get? b=some o->s'.heap.get? b=some o:=fun {Z' H' s'} J=>by
          have pd:=J.pin (D,{ cls:=.type "list", data:=.seq its k }) (JZ _ (KP _ (Jv.mpr rfl)));refine ⟨pd.1,fun b hb=>?_,fun b hb o e=>(J.pin (b,o) (JZ _ (JZ _ (dZ hb e)))).1⟩;rcases JJ.mp hb with rfl | hb
          · exact pd.2.1
          · obtain ⟨o,e,_⟩:=T.obj _ _ t6 b hb;exact (J.pin (b,o) (JZ _ (JZ _ (dZ hb e)))).2.1
        refine J1 (hst _ _ _ _ _ s1' _ H5 x' u _ z4 I7 r6 (step x' H5 y6)) (fun _ s2' h5=>J1 h5 (fun b s3' h6=>?_) fun _ _ z=>z.elim) (fun _ _ z=>z.elim);cases b with
        | false =>
          rw [JD Kw] at h6 ⊢;obtain ⟨Z6,H7,I9,z9,m',hm,w9⟩:=h6;obtain ⟨p1,p2,p3⟩:=pinsKeep I9;exact ⟨m',hm,i+1,Z6,H7,acc,its,k,I9.fM (fun p hp=>absurd hp (by simp)),T.keep _ _ _ t6 p3,p2,p1,va,hl4,z9,K2 acc▸w9⟩
        | true =>
          rw [Jx rfl] at h6 ⊢;refine J1 h6 (fun y s4' ⟨Z6,H8,yv,I10,ry,z10,m',hm,w10⟩=>?_) (fun _ _ z=>z.elim);obtain ⟨p1,p2,p3⟩:=pinsKeep I10;have hsize:its.size=acc.length:=by rw [va.length];simp
          have I11:=I10.fM (pins':=[]) (fun p hp=>absurd hp (by simp));refine wpAny_list_append_plain ⟨k,p1⟩ (fun h' hpl hsame=>?_) (by rw [hsize];exact L9 hacc);obtain ⟨k',e'⟩:=hpl;have neD:∀ {b:Addr} {o:HO},H8 b=some o->b≠D:=fun e z=>by rw [z,p2 D hDm] at e;cases e
          refine ⟨m',hm,i+1,Z6,H8,acc++[yv],its.push y,k',?_,?_,p2,e',?_,?_,z10,w10⟩
          · refine I11.step (g':=s4'.gens) (t':=s4'.toks) (d':=s4'.drawn) (ch:=[D]) (fun b hb=>?_) (fun b o _ _ hc' e _=>?_) (fun b o _ _ hc' e _=>⟨o.slots,?_⟩) (fun b o hc' e n=>n) (fun b o hc' e=>⟨o,?_⟩) (fun _ _ z=>z) (fun _ _ _ z=>z) (fun b ps z=>⟨#[],by rw [z];simp⟩) (fun m hn=>hn.sameBut hsame (Ne.symm (exf D hDm).1)) (fun b o e=>?_) I11.bare
            · rw [Jv.mp hb];exact ⟨.inl hDm,(exf D hDm).1,(exf D hDm).2,fun p hp=>absurd (show p∈([]:List (Addr×Obj)) from hp) (by simp)⟩
            · exact (hsame.2 b fun z=>hc' (Jv.mpr z)).trans e
            · exact (hsame.2 b fun z=>hc' (Jv.mpr z)).trans e
            · exact (hsame.2 b fun z=>hc' (Jv.mpr z)).trans e
            · refine (I11.hok b o e).oN (fun c v hc' q=>(hsame.2 c ?_).trans q) (fun _ q=>q) fun _ _ q=>q;rcases hc' with z | z
              · rw [z];exact neD e
              · exact neD z
          · refine T.keep _ _ _ t6 fun b hb o e=>(hsame.2 b ?_).trans (p3 b hb o e);exact JY (hfp b hb)
          · rw [LF];exact va.append (.cons ry .nil)
          · rw [Js,List.length_singleton];exact hacc
    · refine ⟨0,eL xs++bc js Z,H,[],#[],_,IB,T.keep _ _ _ h0 (fun b hb o e=>keep1 b o (hold b o e)),fun b hb=>?_,keep1 _ _ hgetD,.nil,J9 _,z0,w0⟩;rcases JJ.mp hb with rfl | hb
      · exact hD
      · exact (hf b hb).1
  exact codeAny_compStart_list start (T.self _ 0 _ _ _ (T.keep _ _ _ h0 (fun b hb o e=>keep1 b o (hold b o e))) start)
theorem oI {X:Cx} {pins:List (Addr×Obj)} {Z:St} {H:Hp} {s2:Shared} {elt iter:Expr} {x:Str} {px pos:Pos} {ifs:List Expr} {scope:Scope} {tt:TT} {te:TE} {ys:List Str} {js:List Nat} {it:Addr} {fp:List Addr} {tn:Nat->Heap->Prop} {J:It}
  {Q:VK} {E:Value->Shared->Prop} {RR:Value->Addr->Result->Shared->Prop} (hc:X.calm=true) (B:iK X scope x) (nd:(x :: ys).Nodup) (cap:cR X scope ys js)
  (ht:∀ C s3 H3 ex,PTs (cxB X (x :: ys) scope C s3 H3 ex) ifs tt) (he:∀ C s3 H3 ex,PE (cxB X (x :: ys) scope C s3 H3 ex) elt te)
  (I:Inv X pins Z H s2) (T:Turn X.prog X.w X.K (.Name x px) J fp it tn) (h0:tn 0 s2.heap) (hf:∀ b∈fp,uV X pins H b)
  (W:Nat->Nat->List V->Hp->Prop) (w0:∃ m,W 0 m [] H)
  (turn:∀ i m acc H,W i m acc H->(J.stop i H/\acc.length<=sizeLine/\∀ p,H p=none->Q (.ref p) (upd H p (.lst acc)))\/(J.go i H/\acc.length < sizeLine/\∀ x H',J.yld i H x H' ->
   tt (some x :: bc js Z) H' fun b H2=>if b=true then te (some x :: bc js Z) H2 fun y H3=>∃ m',m' < m/\W (i+1) m' (acc++[y]) H3 else ∃ m',m' < m/\W (i+1) m' acc H2))
  (hRR:∀ (D C:Addr) (H':Hp) (s':Shared) (m':Str->Option Value),s'.heap.Ns C m'->s2.heap.objs.size<=C->C≠D->H' C=none->Inv X pins Z H' s'->Q (.ref D) H'->RR (.ref D) C (.ok .next) s') :
  wpAny (model X.prog X.w) X.A (newList []) (fun acc ZO=>wpAny (model X.prog X.w) X.A (newFunctionEnv scope X.env.globals (kF X.env scope.names []) [] X.env.qual none .none (some X.env)) (fun cenv s₄ =>
   codeAny (model X.prog X.w) X.A (.compStart (.ListComp elt [⟨.Name x px,iter,ifs,0⟩] scope pos) 0 (.ref it) acc { cenv with scope:=relabel scope X.env }) (RR acc cenv.locals) s₄) E ZO) E s2:=by
 obtain ⟨m0,w0⟩:=w0;refine l5 (xs:=[x]) (st:=fun x' _ H K=>tt (some x' :: bc js Z) H fun b H2=>if b=true then te (some x' :: bc js Z) H2 fun y H3=>K (some x' :: bc js Z) (some y) H3 else K (some x' :: bc js Z) none H2) hc ⟨B.kind,B.cells,B.locs,B.free⟩ cap (.inl ⟨_,_,rfl⟩) (fun ZB=>∃ v0,ZB=v0 :: bc js Z) ⟨none,rfl⟩ (fun C s3 H3 ex pins s ZB H1 x' u K z I' r h=>?_) I T h0 hf (fun i m _ acc H=>W i m acc H) ⟨m0,w0⟩ (fun i m ZB acc H _ w=>?_) hRR
 ·obtain ⟨v0,rfl⟩:=z;have kx:(relabel scope X.env).names.lookup x=some .local:=lookup_relabel_local B.var;have pg:PG (cxB X (x :: ys) scope C s3 H3 ex) (.Name x px) (c6 0):=iY nd rfl (.inl kx) (.inr kx);refine J1 (pg _ s _ H1 x' u (fun Z' H'=>Z'=some x' :: bc js Z/\H'=H1) I' r ⟨rfl,rfl⟩) (fun _ s2' ⟨Z6,H6,I8,e1,e2⟩=>?_) fun _ _ z=>z;subst e1 e2;refine J1 (ht _ _ _ _ _ s2' _ _ _ I8 h) (fun b s3' ⟨H7,I9,q9⟩=>?_) fun _ _ z=>z;cases b with
  | false=>exact ⟨_,H7,I9,⟨_,rfl⟩,q9⟩
  | true=>exact J1 (he _ _ _ _ _ s3' _ _ _ I9 q9) (fun y s4 ⟨yv,H8,I10,ry,q10⟩=>⟨_,H8,yv,I10,ry,⟨_,rfl⟩,q10⟩) fun _ _ z=>z
 ·rcases turn i m acc H w with h | ⟨h1,h2,h3⟩
  ·exact .inl h
  ·refine .inr ⟨h1,h2,fun x' H' y=>?_⟩;have:=h3 x' H' y;show tt _ _ fun b H2=>if b=true then te _ _ fun y H3=>∃ m',m' < m/\W (i+1) m' (acc++[y]) H3 else ∃ m',m' < m/\W (i+1) m' (acc++[]) H2
   rw [K2];exact this
theorem mO (I2:Inv X pins Z H0 s2) (hC:s2.heap.objs.size<=C) (hCn:H' C=none) (I':Inv X pins Z' H' s') (hs':Heap.SameBut C s'.heap h'):Inv X pins Z' H' { s' with heap:=h' }:=by
 have hL:X.env.locals≠C:=JY (JX I2.lt hC);have neC:∀ {b:Addr} {o:HO},H' b=some o->b≠C:=fun e z=>by rw [z,hCn] at e;cases e
 refine I'.step (g':=s'.gens) (t':=s'.toks) (d':=s'.drawn) (ch:=[C]) (fun b hb=>?_) (fun b o _ _ hc' e _=>?_) (fun b o _ _ hc' e _=>⟨o.slots,?_⟩) (fun b o hc' e n=>n) (fun b o hc' e=>⟨o,?_⟩) (fun _ _ z=>z) (fun _ _ _ z=>z) (fun b ps z=>⟨#[],by rw [z];simp⟩) (fun m hn=>hn.sameBut hs' hL) (fun b o e=>?_) I'.bare
 ·rw [Jv.mp hb];refine ⟨.inr (J6 I2.sz hC),Ne.symm hL,fun y c e z=>?_,fun p hp z=>?_⟩
  ·obtain ⟨v,q⟩:=I2.cell y c e;have:=q.lt;rw [z] at this;exact absurd (JX this hC) (Ks _)
  ·have:=JB (I2.pin p hp).1;rw [z] at this;exact absurd (JX this hC) (Ks _)
 ·exact (hs'.2 b fun z=>hc' (Jv.mpr z)).trans e
 ·exact (hs'.2 b fun z=>hc' (Jv.mpr z)).trans e
 ·exact (hs'.2 b fun z=>hc' (Jv.mpr z)).trans e
 ·refine (I'.hok b o e).oN (fun c v hc' q=>(hs'.2 c ?_).trans q) (fun _ q=>q) fun _ _ q=>q;rcases hc' with z | z
  ·rw [z];exact neC e
  ·exact neC z
theorem za (hc:X.calm=true) (hi:PI X (.Name x px) iter wi) (B:iK X scope x) (nd:(x :: ys).Nodup) (cap:cR X scope ys js)
  (ht:∀ C s3 H3 ex,PTs (cxB X (x :: ys) scope C s3 H3 ex) ifs tt) (he:∀ C s3 H3 ex,PE (cxB X (x :: ys) scope C s3 H3 ex) elt te) (hs:∀ x,foldedSetIterable iter X.env x=pure x:=by intro _;rfl) :
  PE X (.ListComp elt [⟨.Name x px,iter,ifs,0⟩] scope pos) (pY js wi tt te):=by
 intro pins s Z H Q I h;have hcl:=fZ (scope:=scope) (env:=X.env) fun y hy hf=>I.ok.has y.1 (.inl (B.free y hy hf));rw [eval_ListComp];refine wpAny_comprehension_free (use:=none) rfl hs hcl B.kind B.locs (J1 (hi pins s Z H _ I h) (fun xv s1 h1=>J1 h1 (fun itv s2 h2=>?_) fun _ _ e=>e) fun _ _ e=>e);obtain ⟨it,fp,tn,J,H2,e,I2,T,st2,f2,W,w0,turn⟩:=h2;subst e;refine oI (RR:=fun acc C=>compPost (model X.prog X.w) X.A X.xe none (EP X pins Z Q) acc C) hc B nd cap ht he I2 T st2 f2 W w0 turn ?_;intro D C H' s' m' hn hC hCD hCn I' q;exact ⟨m',hn,fun h' hs'=>⟨.ref D,H',mO I2 hC hCn I' hs',rfl,q⟩⟩
theorem yR (hN:X.N.Nodup) (hi':X.N[i]?=some y) (hy:X.env.scope.names.lookup y=some .local)
  (hsw:swapsWith (.ListComp elt [⟨.Name x px,iter,ifs,0⟩] scope pos) (some (.Name y py)) spos.line X.env=pure true) (hc:X.calm=true) (hi:PI X (.Name x px) iter wi) (B:iK X scope x) (nd:(x :: ys).Nodup) (cap:cR X scope ys js)
  (ht:∀ C s3 H3 ex,PTs (cxB X (x :: ys) scope C s3 H3 ex) ifs tt) (he:∀ C s3 H3 ex,PE (cxB X (x :: ys) scope C s3 H3 ex) elt te) (hs:∀ x,foldedSetIterable iter X.env x=pure x:=by intro _;rfl) :
  PS X (.Assign [.Name y py] (.ListComp elt [⟨.Name x px,iter,ifs,0⟩] scope pos) spos) (rZ (pY js wi tt te) (c6 i)):=by
 intro pins s Z H Dn I h;have hcl:=fZ (scope:=scope) (env:=X.env) fun y hy hf=>I.ok.has y.1 (.inl (B.free y hy hf));rw [exec_Assign_Name_used _ _ _ _ hsw];refine Jk (wpAny_standAt (Jk ?_));show wpAny _ X.A (do let _<-comprehension (.ListComp elt [⟨.Name x px,iter,ifs,0⟩] scope pos) scope X.env _ (newList []) false (eval iter X.env) (some (assign (.Name y py) X.env))) _ _ s
 refine Jk (J1 (wpAny_comprehension_free (use:=some (assign (.Name y py) X.env)) (Q:=fun _ s'=>SP X pins Dn .next s') rfl hs hcl B.kind B.locs
  (J1 (hi pins s Z H _ I h) (fun xv s1 h1=>J1 h1 (fun itv s2 h2=>?_) fun _ _ e=>e) fun _ _ e=>e)) (fun _ s' hq=>Jn (Jn hq)) fun _ _ e=>e)
 obtain ⟨it,fp,tn,J,H2,e,I2,T,st2,f2,W,w0,turn⟩:=h2;subst e;refine oI (Q:=fun x H1=>c6 i x Z H1 Dn.nx) (RR:=fun acc C=>compPost (model X.prog X.w) X.A X.xe (some (assign (.Name y py) X.env)) (fun _ s'=>SP X pins Dn .next s') acc C) hc B nd cap ht he I2 T st2 f2 W w0 turn ?_;intro D C H' s' m' hn hC hCD hCn I' q;have hL:X.env.locals≠C:=JY (JX I2.lt hC);have hCfs:C ∉ X.fs:=I2.Fp hC;obtain ⟨oC,esC,epC,hoC,hdC,restC⟩:=id hn;have I'':Inv X (pins++[(C,oC)]) Z H' s':=I'.fM fun p hp=>by
  rcases Kg.mp hp with z | z
  ·exact I'.pin p (JZ _ z)
  ·rw [Jv.mp z];exact ⟨hoC,hCn,Ne.symm hL,hCfs,fun v z=>by rw [hdC] at z;cases z⟩
 show wpAny _ X.A (assign (.Name y py) X.env (.ref D)) _ _ _;refine J1 (iY (pos:=py) hN hi' (.inl hy) (.inr hy) _ s' Z H' (.ref D) (.ref D) Dn.nx I'' rfl q) (fun _ s3 ⟨Z3,H3,I3,q3⟩=>?_) fun _ _ e=>e;have pC:=I3.pin (C,oC) (JZ _ (JZ _ (Jv.mpr rfl)));have hn3:s3.heap.Ns C m':=⟨oC,esC,epC,pC.1,hdC,restC⟩;have hCn3:H3 C=none:=pC.2.1;exact ⟨m',hn3,fun h' hs'=>⟨Z3,H3,mO I2 hC hCn3 I3.gK hs',q3⟩⟩
def Its (x:Str):It:=⟨fun i _=>i < x.length,fun i H v H'=>H'=H/\∃ c,x.cps[i]?=some c/\v=.str ⟨#[c]⟩,fun i _=>x.length<=i⟩
theorem vR {P:Program} {w:World} {K:Fg} {y:Str} {py:Pos} {x:Str} {it:Addr} {St:Nat->Heap->Prop} (W:∀ A':Around,A'.handled=none->Walks P w A' it [it] [it] x.cps.size (SignAt x) St)
  (ob:∀ i h,St i h->∃ o,h.get? it=some o/\∀ v,o.data≠.cell v) (hs:∀ (A:Around) i (s:Shared) (Q:Value->Shared->Prop) (E:Value->Shared->Prop),St i s.heap->Q (.ref it) s->wpAny (model P w) A (pyIter (.ref it)) Q E s) :
  Turn P w K (.Name y py) (Its x) [it] it (fun i h=>i<=x.cps.size/\St i h) where
 mem:=by simp
 obj:=fun i h st b hb=>by
  have e:b=it:=by simpa using hb
  subst e;exact ob i h st.2
 keep:=fun i h h' st k=>⟨st.1,(W { depth:=0,frames:=none,guards:=none,units:=0,handled:=none } rfl).frame i h h' st.2 fun b hb o e=>k b hb o e⟩
 item:=by
  intro X hP hw hK hc i pins s Z H E I hf st hg;subst hP hw hK;obtain ⟨f0,f1,f2,f3,f4,f5⟩:=hf it (by simp);refine (W X.A (I.ok.hd hc)).item i s _ _ hg st.2 fun v h' tk hv st' kk=>?_;obtain ⟨c,t,hcps,rfl⟩:=hv;have I1:Inv X pins Z H { s with heap:=h',toks:=tk }:=I.turned (fun b o hb e=>kk b o (by simpa using hb) e) f0 f1 f3 f4 f5;exact ⟨_,rfl,Jn (show _ from ⟨.str ⟨#[c]⟩,H,I1,⟨t,rfl⟩,⟨rfl,c,hcps,rfl⟩,⟨hg,st'⟩,fun b hb=>(hf b hb).1⟩)⟩
 done:=by
  intro X hP hw hK hc i pins s Z H E I hf st hg;subst hP hw hK;obtain ⟨f0,f1,f2,f3,f4,f5⟩:=hf it (by simp);have e:i=x.cps.size:=Nat.le_antisymm st.1 hg;subst e;exact (W X.A (I.ok.hd hc)).done s _ _ st.2 fun h' tk kk=>⟨rfl,I.turned (fun b o hb e=>kk b o (by simpa using hb) e) f0 f1 f3 f4 f5⟩
 self:=fun A i s Q E st h=>hs A i s Q E st.2 h
def Gx (tl:TE):TI:=fun Z H R=>tl Z H fun x H1=>∃ z,x=.str z/\R (Its z) H1
theorem Dg (hl:PE X l tl):PI X (.Name y py) l (Gx tl):=by
 intro pins s Z H R I h;refine thn (hl pins s Z H _ I h) fun v s1 ⟨x,H1,I1,r1,q1⟩=>?_;obtain ⟨z,e,q⟩:=q1;subst e;obtain ⟨t,rfl⟩:=r1;have hn:H1 s1.heap.objs.size=none:=I1.hok.fresh (Jt _);have key:∀ (T:String) (sz:T = "str_ascii_iterator" \/ T = "str_iterator"),PIE X pins Z (.Name y py) R (.ref s1.heap.objs.size) { s1 with heap:=s1.heap.push { cls:=.type T,data:=.fields #[.str z t,.int 0 0] } }:=fun T sz=>by
  have I2:Inv X pins Z H1 { s1 with heap:=s1.heap.push { cls:=.type T,data:=.fields #[.str z t,.int 0 0] },toks:=s1.toks }:=I1.kept fun b o e=>Jp _ e;have st0:(s1.heap.push { cls:=.type T,data:=.fields #[.str z t,.int 0 0] }).IsStrIter s1.heap.objs.size T z t 0:=⟨_,JN _ rfl,rfl,rfl⟩;refine ⟨s1.heap.objs.size,[s1.heap.objs.size],fun i h=>i<=z.cps.size/\h.IsStrIter s1.heap.objs.size T z t i,Its z,H1,rfl,I2,?_,⟨J9 _,st0⟩,fun b hb=>?_,q⟩
  ·refine vR (fun A' hA=>?_) (fun i h st=>?_) fun A i s Q E st hq=>?_
   ·rcases sz with rfl | rfl
    ·exact Walks.strAscii hA _ z t
    ·exact Walks.strWide hA _ z t
   ·obtain ⟨o,e,c,d⟩:=st;exact ⟨o,e,fun v z=>by rw [d] at z;cases z⟩
   ·rcases sz with rfl | rfl
    ·exact wpAny_pyIter_striter_ascii st hq
    ·exact wpAny_pyIter_striter_wide st hq
  ·rw [Jv.mp hb];exact I1.Ec (Jt _) hn
 cases ha:z.cps.all (· < 128)
 ·exact wpAny_pyIter_wide ha (key _ (.inr rfl))
 ·exact wpAny_pyIter_ascii ha (key _ (.inl rfl))
section
variable {X:Cx}
theorem rR:OpR X (compareOp .LtE) (fun x y H Q=>∃ i j,x=.str i/\y=.str j/\Q (.bl (!(decide (j.cps.toList < i.cps.toList)))) H):=by
 intro pins s Z H x y v u Q I rx ry h;obtain ⟨i,j,rfl,rfl,q⟩:=h;obtain ⟨t,rfl⟩:=rx;obtain ⟨t',rfl⟩:=ry;exact P.le_str ⟨.bl _,H,I,rfl,q⟩
theorem OpR.or' (h:OpR X f r) (h':OpR X f r'):OpR X f (fun x y H Q=>r x y H Q\/r' x y H Q):=by
 intro pins s Z H x y v u Q I rx ry q;rcases q with q | q
 ·exact h pins s Z H x y v u Q I rx ry q
 ·exact h' pins s Z H x y v u Q I rx ry q
theorem vZ:OpR X (binaryOp .FloorDiv) (rI (fun _ j=>0 < j/\j.natAbs.log2 < 9000) fun i j=>.int (i / j)):=opI fun i j _ _ _ _ _ hc q=>by
 have h1:(0:Int) < j:=hc.1;exact floordiv_int (by omega) (by rw [Int.fdiv_eq_ediv_of_nonneg i (by omega)];exact q) (.inl (PyProof.noPylong_of_log2 hc.2))
theorem ui (hc:X.calm=true):aB X (.builtin "all") (fun xs H Q=>∃ (a:Addr) (bs:List Bool),xs=[.ref a]/\SqL X.K H a (bs.map V.bl)/\Q (.bl (bs.all id)) H):=by
 intro pins s Z H xs us Q I r h;obtain ⟨a,bs,rfl,hq,q⟩:=h;obtain ⟨u,rfl,r1⟩:=vals1 r;cases (show u=Value.ref a from r1);obtain ⟨its,rv,p,hz⟩:=I.list hq;have ha:a < s.heap.objs.size:=by
  obtain ⟨o,e,_⟩:=p.isList;exact JB e
 refine call_all_walk (wpAny_pyIter_list p.isList ?_);refine ⟨s.heap.objs.size,_,_,_,_,_,fun i=>(bs[i]?).getD true,rfl,Walks.list (show X.A.in1.handled=none from I.ok.hd hc) s.heap.objs.size a (JY ha) its.toArray,⟨⟨_,JN _ rfl,rfl,rfl⟩,p.isList.push _⟩,?_,?_⟩
 ·intro i v s' Q' E' hv hQ;have hv':its[i]?=some v:=by simpa using hv
  have hi:i < its.length:=(Jo.mp hv').1;have hb:i < bs.length:=by have:=rv.length;rw [Jm] at this;omega
  obtain ⟨u,hu,ru⟩:=rv.get (i:=i) (x:=.bl bs[i]) (by rw [Jw,Jl hb];rfl);rw [hv'] at hu;cases hu;cases (show v=Value.bool bs[i] from ru);dsimp only at hQ;rw [Jl hb] at hQ;exact Ku hQ
 ·intro h' tk kk;have e:(List.range its.toArray.size).all (fun i=>(bs[i]?).getD true)=bs.all id:=by
   have hl:its.toArray.size=bs.length:=by rw [Jz,<-rv.length,Jm]
   rw [hl,Bool.eq_iff_iff,Ko,Ko];constructor
   ·intro h b hb;obtain ⟨i,hi,e⟩:=List.mem_iff_getElem.mp hb;have:=h i (List.mem_range.mpr hi);rw [Jl hi,e] at this;exact this
   ·intro h i hi;rw [Jl (List.mem_range.mp hi)];exact h _ (Lb _)
  rw [e];have I1:Inv X pins Z H { s with heap:=s.heap.push { cls:=.type "list_iterator", data:=.fields #[.ref a,rawInt 0] },toks:=s.toks }:=I.kept fun b o e=>Jp _ e;have hn:H s.heap.objs.size=none:=I.hok.fresh (Jt _)
  have I2:Inv X pins Z H { s with heap:=h',toks:=tk }:=I.kept fun b o e=>kk b o (by
   intro z;have:=Jv.mp z;rw [this] at e
   exact absurd (JB e) (Ks _)) (Jp _ e)
  exact ⟨.bl _,H,I2,rfl,q⟩
noncomputable def i6 (x:Str) (lo hi:Option Int):Str:=⟨((x.cps.toList.drop (HT.sIx x.length 0 lo)).take (HT.sIx x.length x.length hi - HT.sIx x.length 0 lo)).toArray⟩
theorem FR (lo hi:Option Int) (n:Nat):Builtin.Str.strSliceIndices lo hi 1 n=(List.range (HT.sIx n n hi - HT.sIx n 0 lo)).map (HT.sIx n 0 lo+·):=by
 rw [<- sliceRange_one];unfold Builtin.Str.strSliceIndices;dsimp only;have h1:(1:Int) > 0:=by decide
 have e0:(match lo with | none=>(if (1:Int) > 0 then 0 else (n:Int) - 1) | some i=>if (1:Int) > 0 then max 0 (min (if i < 0 then i+(n:Int) else i) (n:Int)) else max (-1) (min (if i < 0 then i+(n:Int) else i) ((n:Int) - 1)))=((HT.sIx n 0 lo:Nat):Int):=by
  cases lo with
  | none=>simp [HT.sIx]
  | some i =>
   simp only [HT.sIx,h1,Lh];by_cases h:i < 0
   ·simp only [h,Lh] <;> omega
   ·simp only [h,Kv] <;> omega
 have e1:(match hi with | none=>(if (1:Int) > 0 then (n:Int) else -1) | some i=>if (1:Int) > 0 then max 0 (min (if i < 0 then i+(n:Int) else i) (n:Int)) else max (-1) (min (if i < 0 then i+(n:Int) else i) ((n:Int) - 1)))=((HT.sIx n n hi:Nat):Int):=by
  cases hi with
  | none=>simp [HT.sIx]
  | some i =>
   simp only [HT.sIx,h1,Lh];by_cases h:i < 0
   ·simp only [h,Lh] <;> omega
   ·simp only [h,Kv] <;> omega
 rw [<- e0,<-e1];cases lo <;> cases hi <;> rfl
theorem n4 (n:Nat) (v:Option Int):HT.sIx n n v<=n/\HT.sIx n 0 v<=n:=by
 cases v with
 | none=>simp [HT.sIx]
 | some i =>
  simp only [HT.sIx];split <;> omega
def HX:V->Option Int->Option Int->Hp->VK->Prop:=fun x lo hi H Q=>∃ z,x=.str z/\z.length<=sizeLine/\Q (.str (i6 z lo hi)) H
theorem cC (x:Str) (lo hi:Option Int):(i6 x lo hi).length<=x.length:=by
 have e:x.cps.toList.length=x.length:=by simp [Str.length]
 show (((x.cps.toList.drop _).take _).toArray).size<=x.length;rw [Jz,J8,KW,e];omega
theorem gm:SlR X HX:=by
 intro pins s Z H x v vl vu lo hi sl Q I rx hs pl pu h;obtain ⟨z,rfl,hz,q⟩:=h;obtain ⟨t,rfl⟩:=rx;refine ⟨"str", _,F.slot_str_getitem.lookup,typeIs_str _ _ _,?_⟩;obtain ⟨l,el,el'⟩:∃ l:Option (Int×Tok),l.map (·.1)=lo/\vl=partValue l:=by
  cases pl with
  | none=>exact ⟨none,rfl,rfl⟩
  | int i t=>exact ⟨some (i,t),rfl,rfl⟩
 obtain ⟨u,eu,eu'⟩:∃ l:Option (Int×Tok),l.map (·.1)=hi/\vu=partValue l:=by
  cases pu with
  | none=>exact ⟨none,rfl,rfl⟩
  | int i t=>exact ⟨some (i,t),rfl,rfl⟩
 subst el' eu';obtain ⟨o,h1,h2,h3⟩:=hs;refine wpAny_getItem_str_slice (l:=l) (u:=u) (st:=none) ⟨o,h1,h2,h3⟩ rfl ?_;have pk:slicePicked z l u none=(List.range (HT.sIx z.length z.length hi - HT.sIx z.length 0 lo)).map (HT.sIx z.length 0 lo+·):=by
  rw [<- FR,<-el,<-eu];rfl
 have ez:z.cps.toList.length=z.length:=by simp [Str.length]
 have cut:(⟨((slicePicked z l u none).filterMap (z.cps[·]?)).toArray⟩:Str)=i6 z lo hi:=by
  rw [pk,pick_run];rfl
 unfold sliceMade;split
 ·rename_i hc;have hl:(slicePicked z l u none).length=z.length:=by
   have:=(Bool.and_eq_true_iff.mp hc).2;simpa using this
  rw [pk,Jm,Kh] at hl;have b1:=n4 z.length hi;have b2:=n4 z.length lo;have h0:HT.sIx z.length 0 lo=0\/z.length=0:=by omega
  have e:i6 z lo hi=z:=by
   unfold i6;rcases h0 with h0 | h0
   ·rw [h0,List.drop_zero,KD (by omega)]
   ·have hn:z.cps.toList=[]:=List.eq_nil_of_length_eq_zero (by omega);rw [hn];have:z.cps=#[]:=by
     have:=congrArg List.toArray hn;simpa using this
    obtain ⟨c⟩:=z;simp only at this;subst this;simp
  rw [e] at q;exact ⟨.str z,H,I,⟨t,rfl⟩,q⟩
 ·rw [cut];exact ⟨J6 (cC _ _ _) hz,⟨.str _,H,I.tok _,⟨_,rfl⟩,q⟩⟩
end
mutual
def Dn (p:Addr) (H:Hp):PyData->V->Prop
 | .none,v=>v=.non
 | .bool b,v=>v=.bl b
 | .int i,v=>v=.int i
 | .str x,v=>v=.str x
 | .list ds,v=>∃ a xs,v=.ref a/\a≠p/\H a=some (.lst xs)/\DnL p H ds xs
 | .tuple ds,v=>∃ a xs,v=.ref a/\a≠p/\H a=some (.tup xs)/\DnL p H ds xs
 | .dict kvs,v=>kvs=[]/\∃ a,v=.ref a/\a≠p/\H a=some (.dK [])
def DnL (p:Addr) (H:Hp):List PyData->List V->Prop
 | [],vs=>vs=[]
 | d :: ds,vs=>∃ v r,vs=v :: r/\Dn p H d v/\DnL p H ds r
end
open PySem PySem.Spec PyProof.Rows
def rOr (r r':R2):R2:=fun x y H Q=>r x y H Q\/r' x y H Q
def E6 (r r':V->Option Int->Option Int->Hp->VK->Prop):V->Option Int->Option Int->Hp->VK->Prop:=fun x l u H Q=>r x l u H Q\/r' x l u H Q
def Cn:R2:=fun x y H Q=>∃ i j,x=.str i/\y=.str j/\i.length+j.length<=sizeLine/\Q (.str (i++j)) H
def Hn:R2:=fun x y H Q=>∃ i j,x=.str i/\y=.str j/\Q (.bl (decide (i.cps.toList < j.cps.toList))) H
def Hk:R2:=fun x y H Q=>∃ i j,x=.str i/\y=.str j/\Q (.bl (!(decide (j.cps.toList < i.cps.toList)))) H
def IV:R2:=fun x y H Q=>∃ i j,x=.str i/\y=.str j/\Q (.bl (!(Builtin.Str.occurrences j i 0 j.length 1).isEmpty)) H
def HC (K:Fg):List V->Hp->VK->Prop:=fun xs H Q=>∃ (a:Addr) (bs:List Bool),xs=[.ref a]/\SqL K H a (bs.map V.bl)/\Q (.bl (bs.all id)) H
def Dz (K:Fg):List V->Hp->VK->Prop:=fun xs H Q=>∃ x n,xs=[x]/\Hb K x H n/\Q (.int n) H
def Ez:List V->Hp->VK->Prop:=fun xs H Q=>∃ i,xs=[.int i]/\Q (.int (if i < 0 then -i else i)) H
def Cd:List V->Hp->VK->Prop:=fun xs H Q=>(∃ i,xs=[.int i]/\Q (.int i) H)\/∃ k,xs=[.bl k]/\Q (.int (if k then 1 else 0)) H
section
variable {X:Cx}
theorem orR (h:OpR X f r) (h':OpR X f r'):OpR X f (rOr r r'):=OpR.or' h h'
theorem orS (h:SlR X r) (h':SlR X r'):SlR X (E6 r r'):=SlR.or h h'
theorem yG:OpR X (binaryOp .Add) Cn:=pR
theorem Dd:OpR X (compareOp .Lt) Hn:=tS
theorem CU:OpR X (compareOp .LtE) Hk:=rR
theorem Dq:OpR X (compareOp .In) IV:=qS
theorem sQ (hc:X.calm=true):aB X (.builtin "all") (HC X.K):=ui hc
theorem tG:aB X (.builtin "len") (Dz X.K):=wc
theorem ue:aB X (.builtin "abs") Ez:=vj
theorem rh:aB X (.type "int") Cd:=rL
end
end L2
namespace L2
open PySem
noncomputable def nW (sc scope:Scope) (x:Str):Bool :=
 (scope.kind==.function)&&scope.names.all (fun y=>y.2 != .cell)&&scope.names.all (fun y=>y.2 != .local||scope.names.lookup y.1==some .local)&&(scope.names.lookup x==some .local)&&scope.names.all (fun y=>y.2 != .free||sc.names.lookup y.1==some .cell)
theorem bsc (e:X.env.scope=sc) (h:nW sc scope x=true):iK X scope x:=by
 unfold nW at h;simp only [JU,Ko,Mc,bne_iff_ne,LV,ne_eq] at h;obtain ⟨⟨⟨⟨h1,h2⟩,h3⟩,h4⟩,h5⟩:=h;exact ⟨h1,fun y hy=>h2 y hy,fun y hy e=>(h3 y hy).resolve_left fun z=>z e,h4,fun y hy e'=>by rw [e];exact (h5 y hy).resolve_left fun z=>z e'⟩
end L2
namespace L2
open PySem
theorem bB (h:PySem.W.isStarred e=false):starEach (e :: es) env=(false,eval e env) :: starEach es env:=by
 cases e <;> first | rfl | exact absurd h (by simp [PySem.W.isStarred])
theorem dt:∀ {es:List Expr},es.all (fun e=>!PySem.W.isStarred e)=true->(backTo pos (starEach es env)).any (·.1)=false
 | [],_=>rfl
 | e :: es,h=>by
  rw [List.all_cons,JU] at h;rw [bB (by simpa using h.1)];have ih:=dt (pos:=pos) (env:=env) h.2;unfold backTo at ih ⊢;rw [List.map_cons,LL,ih];rfl
open PySem.Spec PyProof.Rows
noncomputable def tyN:PyData->String
 | .none => "NoneType" | .bool _ => "bool" | .int _ => "int" | .str _ => "str" | .list _ => "list" | .tuple _ => "tuple" | .dict _ => "dict"
noncomputable def isS:PyData->Bool | .str _=>true | _=>false
noncomputable def isI:PyData->Bool | .int _=>true | .bool _=>true | _=>false
noncomputable def isB:PyData->Bool | .bool _=>true | _=>false
noncomputable def isT:PyData->Bool | .tuple _=>true | _=>false
noncomputable def isL:PyData->Bool | .list _=>true | _=>false
section
variable {K:Fg}
theorem Gp (d:PyData):PySem.W.kitOne K (.type (tyN d)) (.type "str")=some (isS d):=by cases d <;> with_unfolding_all rfl
theorem GN (d:PyData):PySem.W.kitOne K (.type (tyN d)) (.type "int")=some (isI d):=by cases d <;> with_unfolding_all rfl
theorem GW (d:PyData):PySem.W.kitOne K (.type (tyN d)) (.type "bool")=some (isB d):=by cases d <;> with_unfolding_all rfl
theorem F9 (d:PyData):PySem.W.kitOne K (.type (tyN d)) (.type "tuple")=some (isT d):=by cases d <;> with_unfolding_all rfl
theorem Ep (d:PyData):PySem.W.kitOne K (.type (tyN d)) (.type "list")=some (isL d):=by cases d <;> with_unfolding_all rfl
variable {p:Addr} {H:Hp} {d:PyData} {v:V} {Q:VK}
end
structure JE (X:Cx) (e:Expr) (t:TE):Prop where
 h:PE X e t
structure JT (X:Cx) (e:Expr) (t:TT):Prop where
 h:PT X e t
structure JW (X:Cx) (e:Expr) (t:TT):Prop where
 h:PW X e t
structure JA (X:Cx) (es:List Expr) (t:TA):Prop where
 h:PA X es t
structure JS (X:Cx) (s:Stmt) (t:TS):Prop where
 h:PS X s t
structure JSs (X:Cx) (s:List Stmt) (t:TS):Prop where
 h:PSs X s t
structure JG (X:Cx) (e:Expr) (t:TG):Prop where
 h:PG X e t
structure JI (X:Cx) (tg e:Expr) (t:TI):Prop where
 h:PI X tg e t
structure JO (X:Cx) (e:Option Expr) (t:TO):Prop where
 h:PO X e t
structure JC (X:Cx) (N:List Str) (scope:Scope) (e:Expr) (t:TE):Prop where
 h:∀ C s3 H3 ex,PE (cxB X N scope C s3 H3 ex) e t
structure JTs (X:Cx) (N:List Str) (scope:Scope) (e:List Expr) (t:TT):Prop where
 h:∀ C s3 H3 ex,PTs (cxB X N scope C s3 H3 ex) e t
structure JP (X:Cx) (pos:Pos) (ks:List (Option Expr)) (vs:List Expr) (t:List (TE×TE)):Prop where
 h:PPs X pos ks vs t
section
variable {X:Cx} {e a b c:Expr} {es rest:List Expr} {te ta tb tc:TE} {tA tB':TT} {t:TA} {x:Str} {p pos:Pos} {id T:String} {r:List V->Hp->VK->Prop} {CX:CXT} {k:Nat} {f:Addr} {fd:FuncData} {ps:List Str} {sp:Sp} {ds:List Value} {dvs:List V} {E:XK}
theorem HH (i:Nat) (hN:X.N[i]?=some x) (hv:Vis X.env.scope x) (hd:(x==("__debug__" : Str))=false) (hcd:(x==("__classdict__" : Str))=false):JE X (.Name x pos) (mV i):=⟨xa hN hv hd hcd⟩
theorem af {i j}:JE X (.Constant (.int i) j pos) (tC (.int i)):=⟨Bo⟩
theorem eBl {b j}:JE X (.Constant (.bool b) j pos) (tC (.bl b)):=⟨GL⟩
theorem Dh {j}:JE X (.Constant .none j pos) (tC .non):=⟨Cs⟩
theorem aH {x j}:JE X (.Constant (.str x) j pos) (tC (.str x)):=⟨BR⟩
theorem ab:JA X [] uX:=⟨AW⟩
theorem eA (ha:JE X e te) (hr:JA X es t) (h:PySem.W.isStarred e=false):JA X (e :: es) (fA te t):=⟨zg ha.h hr.h (bB h)⟩
theorem vO (F:gE X.prog X.w X.K X.mg X.base CX k f fd ps sp) (hr:gi k X.A) (hg:Gl X x) (hm:X.mg x=some (.ref f)) (hk:PySem.W.keepIn X.K (.ref f)=true) (hb:Binds X.K fd ps ds) (hd:Vals dvs ds) (hx:Passes CX X E)
  (ha:JA X (e :: es) t) (h1:PySem.W.isStarred e=false) (h2:es.all (fun e=>!PySem.W.isStarred e)=true) (hdb:(x==("__debug__" : Str))=false):JE X (.Call (.Name x p) (e :: es) [] pos) (nK sp dvs E t) :=
 ⟨zG F hr hg hm hk hb hd hx ha.h hdb (bB h1) (dt h2)⟩
theorem eB (hc:aB X (.builtin id) r) (hg:Gl X x) (hm:X.mg x=none) (hv:bootBuiltins x=some (.builtin id)) (ha:JA X (e :: es) t) (h1:PySem.W.isStarred e=false) (h2:es.all (fun e=>!PySem.W.isStarred e)=true)
  (hn:x ≠ "__name__") (hdb:(x==("__debug__" : Str))=false):JE X (.Call (.Name x p) (e :: es) [] pos) (tCB r t):=⟨wb hc hg hm hv ha.h hn hdb (bB h1) (dt h2)⟩
theorem eTy (hc:aB X (.type T) r) (hg:Gl X x) (hm:X.mg x=none) (hv:bootBuiltins x=some (.type T)) (ha:JA X (e :: es) t) (h1:PySem.W.isStarred e=false) (h2:es.all (fun e=>!PySem.W.isStarred e)=true)
  (hn:x ≠ "__name__") (hdb:(x==("__debug__" : Str))=false):JE X (.Call (.Name x p) (e :: es) [] pos) (tCB r t):=⟨uk hc hg hm hv ha.h hn hdb (bB h1) (dt h2)⟩
theorem eR1 {tg a:Expr} {ta:TA} (hg:Gl X "range") (hm:X.mg "range" = none) (ha:JA X [a] ta) (h:PySem.W.isStarred a=false):JI X tg (.Call (.Name "range" p) [a] [] pos) (yy ta):=⟨rl hg hm ha.h (bB h)⟩
theorem eIL (h:JE X e te):JI X tg e (z6 X.K te):=⟨yV h.h⟩
theorem eIT (h:JE X e te):JI X tg e (Eo X.K te):=⟨Aw h.h⟩
theorem eIS (h:JE X e te):JI X (.Name y py) e (Gx te):=⟨Dg h.h⟩
theorem dB (hg:Gl X x) (hm:X.mg x=some u) (r:RelV v u) (hd:(x==("__debug__" : Str))=false):JE X (.Name x pos) (tC v):=⟨yl hg hm r hd⟩
theorem IK (hg:Gl X x) (hm:X.mg x=none) (hv:bootBuiltins x=some u) (r:RelV v u) (hn:x ≠ "__name__") (hd:(x==("__debug__" : Str))=false):JE X (.Name x pos) (tC v):=⟨yI hg hm hv r hn hd⟩
theorem eOp {op:Operator} {r:R2} (ho:OpR X (binaryOp op) r) (ha:JE X a ta) (hb:JE X b tb):JE X (.BinOp a op b pos) (tOp r ta tb):=⟨Fv ho ha.h hb.h⟩
theorem D5 (ha:JE X a ta):JE X (.UnaryOp .Not a pos) (yH ta):=⟨C5 ha.h⟩
theorem nA {op} (h:JE X a te):JE X (.BoolOp op [a] pos) te:=⟨BZ h.h⟩
theorem nN (ha:JE X a ta) (hb:JE X (.BoolOp .And (b :: rest) pos) tb):JE X (.BoolOp .And (a :: b :: rest) pos) (zY ta tb):=⟨Ce ha.h hb.h⟩
theorem eOr (ha:JE X a ta) (hb:JE X (.BoolOp .Or (b :: rest) pos) tb):JE X (.BoolOp .Or (a :: b :: rest) pos) (GK ta tb):=⟨Ga ha.h hb.h⟩
theorem eIf (hc:JT X c tA) (ha:JE X a ta) (hb:JE X b tb):JE X (.IfExp c a b pos) (tIf tA ta tb):=⟨vD hc.h ha.h hb.h⟩
theorem nY {op:CmpOp} {r:R2} (ho:OpR X (compareOp op) r) (ha:JE X a ta) (hb:JE X b tb) (hm:behindInMarks op b=false):JE X (.Compare a [op] [b] pos) (tOp r ta tb):=⟨Ac ho ha.h hb.h hm⟩
theorem fS {op:CmpOp} {r:R2} (ho:OpR X (compareOp op) r) (ha:JE X a ta) (hb:JE X b tb) (hm:behindInMarks op b=false):JT X (.Compare a [op] [b] pos) (rp (tOp r ta tb)):=⟨yr ho ha.h hb.h hm⟩
theorem xq {op op':CmpOp} {r r':R2} (ho:OpR X (compareOp op) r) (ho':OpR X (compareOp op') r') (ha:JE X a ta) (hb:JE X b tb) (hc:JE X c tc) (hm:lastMarks [op,op'] [b,c]=false):JE X (.Compare a [op,op'] [b,c] pos) (lL r r' ta tb tc):=⟨wj ho ho' ha.h hb.h hc.h hm⟩
theorem sR {op op':CmpOp} {r r':R2} (ho:OpR X (compareOp op) r) (ho':OpR X (compareOp op') r') (ha:JE X a ta) (hb:JE X b tb) (hc:JE X c tc) (hm:lastMarks [op,op'] [b,c]=false):JT X (.Compare a [op,op'] [b,c] pos) (rp (lL r r' ta tb tc)):=⟨vL ho ho' ha.h hb.h hc.h hm⟩
theorem Iv (h:JE X e te) (he:∀ whole,isTrue e X.env whole=(do let v<-whole;standAt e.pos;holding [v] (truthy v))):JT X e (tB te):=⟨B7 h.h he⟩
theorem eM (ha:JT X a tA):JT X (.UnaryOp .Not a pos) (FC tA):=⟨Cw ha.h⟩
theorem jA (ha:JT X a tA):JW X (.BoolOp .And [a] pos) tA:=⟨pw_and1 ha.h⟩
theorem iS (ha:JT X a tA):JW X (.BoolOp .Or [a] pos) tA:=⟨pw_or1 ha.h⟩
theorem pT (ha:JT X a tA) (hb:JW X (.BoolOp .And (b :: rest) pos) tB'):JW X (.BoolOp .And (a :: b :: rest) pos) (Fh tA tB'):=⟨pw_and ha.h hb.h⟩
theorem og (ha:JT X a tA) (hb:JW X (.BoolOp .Or (b :: rest) pos) tB'):JW X (.BoolOp .Or (a :: b :: rest) pos) (tOr tA tB'):=⟨pw_or ha.h hb.h⟩
theorem eW (h:JW X e tA):JT X e tA:=⟨PW.pt h.h⟩
theorem cP {x1} (h:JA X es t):JE X (.Tuple es x1 pos) (FZ t):=⟨By h.h⟩
theorem cS (h:JA X es t):JE X (.List es pos) (ET t):=⟨BI h.h⟩
theorem eIx {r:R2} (hr:IxR X r) (ha:JE X a ta) (hb:JE X b tb) (hs:ny b):JE X (.Subscript a b pos) (tOp r ta tb):=⟨ER hr ha.h hb.h hs⟩
theorem ym:JO X none tw:=⟨yA⟩
theorem eP (h:JE X e te):JO X (some e) (Dy te):=⟨y4 h.h⟩
theorem eSl {p2:Pos} {lo hi:Option Expr} {tl th:TO} {r:V->Option Int->Option Int->Hp->VK->Prop} (hr:SlR X r) (he:JE X e te) (hl:JO X lo tl) (hu:JO X hi th):JE X (.Subscript e (.Slice lo hi none p2) pos) (tSl r te tl th):=⟨vd hr he.h hl.h hu.h⟩
theorem ePN:JP X pos [] [] []:=⟨zP⟩
theorem ePC {k v:Expr} {ks:List (Option Expr)} {vs:List Expr} {tk tv:TE} {trs:List (TE×TE)} (hk:JE X k tk) (hv:JE X v tv) (hr:JP X pos ks vs trs):JP X pos (some k :: ks) (v :: vs) ((tk,tv) :: trs):=⟨vG hk.h hv.h hr.h⟩
theorem Hs (he:JE X e te) (hN:X.N.Nodup) (hi:X.N[i]?=some x) (hx:Loc X.env.scope x) (hs:swapsWith e (some (.Name x pos')) pos.line X.env=pure false) (hf:X.fn x=true\/X.env.scope.names.lookup x=some .local) :
  JS X (.Assign [.Name x pos'] e pos) (rZ te (c6 i)):=⟨AB hN hi hx he.h hs hf⟩
theorem zq (he:JE X e te) (hg:JG X tg g) (hs:swapsWithSole [tg] e pos.line X.env=pure false) (hw:swappedStores [tg] e X.env=pure none) (h1:(assignEach [tg] X.env).map (·.2)=[assign tg X.env]):JS X (.Assign [tg] e pos) (rZ te g):=⟨Bc he.h hg.h hs hw h1⟩
theorem I0 {iter tg:Expr} {body:List Stmt} {wi:TI} {g:TG} {tb:TS} (hi:JI X tg iter wi) (hg:JG X tg g) (hb:JSs X body tb) (hp:PassesOwn (model X.prog X.w) X.A X.env X.xe) (hc:X.calm=true) (hs:∀ x,foldedSetIterable iter X.env x=pure x):JS X (.For tg iter body [] pos) (CF wi g tb):=⟨BW hp hc hi.h hg.h hb.h hs⟩
theorem bD {a b:List Stmt} {tc:TT} {t u:TS} (hc:JT X c tc) (ha:JSs X a t) (hb:JSs X b u):JS X (.If c a b pos) (Fx tc t u):=⟨GD hc.h ha.h hb.h⟩
theorem aJ (he:JE X e te):JS X (.Return (some e) pos) (FP te):=⟨DA he.h⟩
theorem eGN (hN:X.N.Nodup) (hi:X.N[i]?=some x) (hx:Loc X.env.scope x) (hf:X.fn x=true\/X.env.scope.names.lookup x=some .local):JG X (.Name x pos) (c6 i):=⟨iY hN hi hx hf⟩
theorem qj (he:JE X e te) (hs:swapsWith e none pos.line X.env=pure false):JS X (.Expr e pos) (yx te):=⟨zx he.h hs⟩
theorem Aj {o i:Expr} {to ti:TE} {t:Eb} (ho:JE X o to) (hi:JE X i ti) (hs:GJ X t) (ha:∀ v,assign (.Subscript o i pos) X.env v=(do
   let ov<-holding [v] (eval o X.env)
   let iv<-holding [v,ov] (eval i X.env)
   standAt pos
   holding [v,ov,iv] (setItem ov iv v)
   release [v,ov,iv] [])):JG X (.Subscript o i pos) (HJ to ti t):=⟨BP ho.h hi.h hs ha⟩
theorem bH:JSs X [] zc:=⟨yb⟩
theorem aA {s:Stmt} {t:TS} (h:JS X s t):JSs X [s] t:=⟨zd h.h⟩
theorem ay {s:Stmt} {rest:List Stmt} {t u:TS} (h:JS X s t) (hr:JSs X rest u):JSs X (s :: rest) (F6 t u):=⟨wq h.h hr.h⟩
theorem EA (ys:List Str) (hi:JI X (.Name x px) iter wi) (ht:JTs X (x :: ys) scope ifs tt) (he:JC X (x :: ys) scope elt te)
  (hc:X.calm=true) (B:iK X scope x) (nd:(x :: ys).Nodup) (cap:cR X scope ys js) (hs:∀ x,foldedSetIterable iter X.env x=pure x):JE X (.ListComp elt [⟨.Name x px,iter,ifs,0⟩] scope pos) (pY js wi tt te):=⟨za hc hi.h B nd cap ht.h he.h hs⟩
theorem BE (ys:List Str) (hi:JI X (.Name x px) iter wi) (ht:JTs X (x :: ys) scope ifs tt) (he:JC X (x :: ys) scope elt te)
  (hN:X.N.Nodup) (hi':X.N[i]?=some y) (hy:X.env.scope.names.lookup y=some .local) (hsw:swapsWith (.ListComp elt [⟨.Name x px,iter,ifs,0⟩] scope pos) (some (.Name y py)) spos.line X.env=pure true)
  (hc:X.calm=true) (B:iK X scope x) (nd:(x :: ys).Nodup) (cap:cR X scope ys js) (hs:∀ x,foldedSetIterable iter X.env x=pure x):JS X (.Assign [.Name y py] (.ListComp elt [⟨.Name x px,iter,ifs,0⟩] scope pos) spos) (rZ (pY js wi tt te) (c6 i)):=⟨yR hN hi' hy hsw hc hi.h B nd cap ht.h he.h hs⟩
theorem eC (h:∀ C s3 H3 ex,JE (cxB X N scope C s3 H3 ex) e te):JC X N scope e te:=⟨fun C s3 H3 ex=>(h C s3 H3 ex).h⟩
theorem eT0:JTs X N scope [] GF:=⟨fun _ _ _ _=>Ab⟩
theorem eT1 (h:∀ C s3 H3 ex,JT (cxB X N scope C s3 H3 ex) e tA):JTs X N scope [e] tA:=⟨fun C s3 H3 ex=>yL (h C s3 H3 ex).h⟩
theorem eBM {apos cpos:Pos} {o:Expr} {name:Str} {to:TE} {r:V->List V->Hp->VK->Prop} (ho:JE X o to) (ha:JA X (e :: es) t) (hm:MtR X id r) (pa:PlainAttrs T) (slot:Slot T name id) (hty:typeOf (.builtin id)=pure (.type "method_descriptor"))
  (hbase:attributeBase o name X.env (eval o X.env)=eval o X.env)
  (hfew:((backTo cpos (starEach (e :: es) X.env)).all (fun x=>!x.1)&&(backToKw cpos (keywordEach [] X.env)).all (fun x=>x.1.isSome)
   && decide ((e :: es).length+([]:List Keyword).length+(if ([]:List Keyword).isEmpty then 0 else 1) < 30))=true)
  (hline:(apos.endLine==cpos.line)=true) (h1:PySem.W.isStarred e=false) (h2:es.all (fun e=>!PySem.W.isStarred e)=true):JE X (.Call (.Attribute o name apos) (e :: es) [] cpos) (tBM X.K T r to t):=⟨Fl pa slot hty hm ho.h ha.h hbase hfew hline (bB h1) (dt h2)⟩
end
theorem qJ {A B:Prop} (e:b=true) (h:A):if b=true then A else B:=by rw [Jx e];exact h
theorem je {A B:Prop} (e:b=false) (h:B):if b=true then A else B:=by rw [JD (by rw [e];exact Kw)];exact h
theorem fF {A B:Prop} (h1:b=true->A) (h2:b=false->B):if b=true then A else B:=by
 cases b with
 | true=>rw [Jx rfl];exact h1 rfl
 | false=>rw [JD Kw];exact h2 rfl
section
variable {r r':R2} {x y:V} {H:Hp} {Q:VK}
theorem A9 {K:Fg} {z:Str} (l:z.length<=sizeLine) (h:Q (.int z.length) H):Dz K [.str z] H Q:=⟨_,_,rfl,⟨l,rfl⟩,h⟩
theorem Dc {K:Fg} {p:Addr} {xs:List V} (s:SqL K H p xs) (h:Q (.int xs.length) H):Dz K [.ref p] H Q:=⟨_,_,rfl,.inl ⟨xs,s,rfl⟩,h⟩
theorem Ba {K:Fg} {p:Addr} {xs:List V} (s:SqT K H p xs) (h:Q (.int xs.length) H):Dz K [.ref p] H Q:=⟨_,_,rfl,.inr ⟨xs,s,rfl⟩,h⟩
theorem Gv (h:Q (.int (if i < 0 then -i else i)) H):Ez [.int i] H Q:=⟨i,rfl,h⟩
end
theorem Fun.okJ {P:Program} {w:World} {K:Fg} {mg:Str->Option Value} {base:Heap} {x qual:Str} {st:Stmt} {f:Addr} {fd:FuncData} {N ps:List Str} {k:Nat} {sp:Sp} (F:Fun K x qual st f fd) (S:cK N ps (ae st)) (len:∀ vs H Q E,sp vs H Q E->vs.length=ps.length)
  (hbody:∀ (cdv:Value) (A:Around) (outer:List Env) (s:Shared) (H:Hp) (vs:List V) (Q:VK) (E:XK),gi k (A.deeper (envOfC qual (ae st) s.heap.objs.size f cdv))->sp vs H Q E ->
   ∃ t,JSs (uZ CX0 P w K mg base N qual (ae st) f cdv A outer s H E).nox (cL st) t/\t { nx:=fun _ H'=>Q .non H',rt:=Q } (start N vs) H):gE P w K mg base CX0 (k+1) f fd ps sp :=
 F.ok S len fun cdv A outer s H vs Q E hr h=>let ⟨t,j,q⟩:=hbody cdv A outer s H vs Q E hr h;⟨t,j.h,q⟩
theorem bu:∀ {ss:List Str} {us:List Value},Vals (ss.map V.str) us->StrsAre us ss
 | [],_,r=>by cases r;exact .nil
 | s :: ss,_,r=>by
  cases r with
  | cons r1 r2 =>
   obtain ⟨t,rfl⟩:=r1;exact .cons _ _ (bu r2)
theorem mJ:∀ {ss:List Str} {us:List Value},StrsAre us ss->Vals (ss.map V.str) us
 | [],_,r=>by cases r;exact .nil
 | s :: ss,_,r=>by
  cases r with
  | cons _ _ r2=>exact .cons ⟨_,rfl⟩ (mJ r2)
section
variable {X:Cx}
def tD (K:Fg):List V->Hp->VK->Prop:=fun xs H Q=>∃ (a:Addr) (ss:List Str),xs=[.ref a]/\SqL K H a (ss.map V.str)/\ss.length < 64/\∀ p ss',H p=none->ss'.Perm ss->sortedS ss'=true->Q (.ref p) (upd H p (.lst (ss'.map V.str)))
theorem la:aB X (.builtin "sorted") (tD X.K):=by
 intro pins s Z H xs us Q I r h;obtain ⟨a,ss,rfl,hq,h64,q⟩:=h;obtain ⟨u,rfl,r1⟩:=vals1 r;cases (show u=Value.ref a from r1);obtain ⟨its,rv,p,hz⟩:=I.list hq;have hS:=bu rv;have hl:its.length=ss.length:=by rw [<- rv.length,Jm]
 refine sorted_strs p.isList hS (by omega) fun out ss' h1 h2 h3=>?_;obtain ⟨e,he⟩:=sortedAll_at s.heap its out;have hn:H (s.heap.objs.size+1)=none:=I.hok.fresh (Kz _);have hl':ss'.length<=sizeLine:=by rw [h2.length_eq];exact J6 (L9 h64) (by decide)
 refine ⟨.ref (s.heap.objs.size+1),_,I.laid (t':=s.toks) (o:=.lst (ss'.map V.str)) (fun b o hb=>sortedAll_old hb) (Kz _) ?_,rfl,q _ ss' hn h2 h3⟩;exact ⟨by rw [Jm];exact hl',out.toList,e,mJ h1,by rw [Lm];exact he⟩
def sL:V->List V->Hp->VK->Prop:=fun x vs H Q=>∃ z y:Str,x=.str z/\vs=[.str y]/\Q (.bl (decide (y.length<=z.length)&&Builtin.Str.subAt z y 0)) H
theorem sC:MtM X "str.startswith" sL:=by
 intro pins s Z H x vs v us Q I rx rv h;obtain ⟨z,y,rfl,rfl,q⟩:=h;obtain ⟨t,rfl⟩:=rx;obtain ⟨u,rfl,ru⟩:=rv.one;obtain ⟨t',rfl⟩:=ru;refine call_meets F.slot_str_startswith (typeIs_str _ _ _) F.entry_str_startswith (F.args_str_startswith_2 _ _) (gives_str_startswith z y t t').meets ?_;exact ⟨.bl _,H,I,by simp only [Nat.zero_add];rfl,q⟩
def As (K:Fg):List V->Hp->VK->Prop:=fun xs H Q=>∃ p ys,xs=[.ref p]/\(SqL K H p ys\/SqT K H p ys)/\∀ l,H l=none->Q (.ref l) (upd H l (.lst ys))
def wK (K:Fg):List V->Hp->VK->Prop:=fun xs H Q=>∃ p ys,xs=[.ref p]/\((SqL K H p ys/\∀ l,H l=none->Q (.ref l) (upd H l (.tup ys)))\/(SqT K H p ys/\Q (.ref p) H))
def BX:List V->Hp->VK->Prop:=fun xs H Q=>∃ i j,xs=[.int i,.int j]/\Q (.int (if j < i then j else i)) H
def Hw:R2:=fun x y H Q=>y=.non/\Q (.bl (decide (x=.non))) H
def BH:R2:=fun x y H Q=>y=.non/\Q (.bl (!decide (x=.non))) H
theorem pZ:aB X (.type "list") (As X.K):=lh
theorem mR:aB X (.type "tuple") (wK X.K):=jW
theorem qv (hc:X.calm=true):aB X (.builtin "min") BX:=qM hc
theorem zy:OpR X (compareOp .Is) Hw:=Cm
theorem wg:OpR X (compareOp .IsNot) BH:=yF
theorem tP (hc:X.calm=true):aB X (.builtin "any") (fun xs H Q=>∃ (a:Addr) (bs:List Bool),xs=[.ref a]/\SqL X.K H a (bs.map V.bl)/\Q (.bl (bs.any id)) H):=by
 intro pins s Z H xs us Q I r h;obtain ⟨a,bs,rfl,hq,q⟩:=h;obtain ⟨u,rfl,r1⟩:=vals1 r;cases (show u=Value.ref a from r1);obtain ⟨its,rv,p,hz⟩:=I.list hq;have ha:a < s.heap.objs.size:=by
  obtain ⟨o,e,_⟩:=p.isList;exact JB e
 refine call_any_walk (wpAny_pyIter_list p.isList ?_);refine ⟨s.heap.objs.size,_,_,_,_,_,fun i=>(bs[i]?).getD false,rfl,Walks.list (show X.A.in1.handled=none from I.ok.hd hc) s.heap.objs.size a (JY ha) its.toArray,⟨⟨_,JN _ rfl,rfl,rfl⟩,p.isList.push _⟩,?_,?_⟩
 ·intro i v s' Q' E' hv hQ;have hv':its[i]?=some v:=by simpa using hv
  have hi:i < its.length:=(Jo.mp hv').1;have hb:i < bs.length:=by have:=rv.length;rw [Jm] at this;omega
  obtain ⟨u,hu,ru⟩:=rv.get (i:=i) (x:=.bl bs[i]) (by rw [Jw,Jl hb];rfl);rw [hv'] at hu;cases hu;cases (show v=Value.bool bs[i] from ru);dsimp only at hQ;rw [Jl hb] at hQ;exact Ku hQ
 ·intro h' tk kk;have e:(List.range its.toArray.size).any (fun i=>(bs[i]?).getD false)=bs.any id:=by
   have hl:its.toArray.size=bs.length:=by rw [Jz,<-rv.length,Jm]
   rw [hl,Bool.eq_iff_iff,Lc,Lc];constructor
   ·rintro ⟨i,hi,h⟩;rw [Jl (List.mem_range.mp hi)] at h;exact ⟨_,Lb _,h⟩
   ·rintro ⟨b,hb,h⟩;obtain ⟨i,hi,e⟩:=List.mem_iff_getElem.mp hb;refine ⟨i,List.mem_range.mpr hi,?_⟩;rw [Jl hi,e];exact h
  rw [e];have I1:Inv X pins Z H { s with heap:=s.heap.push { cls:=.type "list_iterator", data:=.fields #[.ref a,rawInt 0] },toks:=s.toks }:=I.kept fun b o e=>Jp _ e;have hn:H s.heap.objs.size=none:=I.hok.fresh (Jt _)
  have I2:Inv X pins Z H { s with heap:=h',toks:=tk }:=I.kept fun b o e=>kk b o (by
   intro z;have:=Jv.mp z;rw [this] at e
   exact absurd (JB e) (Ks _)) (Jp _ e)
  exact ⟨.bl _,H,I2,rfl,q⟩
def Hg (K:Fg):List V->Hp->VK->Prop:=fun xs H Q=>∃ (a:Addr) (bs:List Bool),xs=[.ref a]/\SqL K H a (bs.map V.bl)/\Q (.bl (bs.any id)) H
theorem qG (hc:X.calm=true):aB X (.builtin "any") (Hg X.K):=tP hc
end
def uA (n:List Str) (js:List Nat) (wi:TI) (g:TG) (te:TE):TE:=fun Z H Q=>wi Z H fun J H1=>∃ W:Nat->Nat->St->List V->Hp->Prop,(∃ m,W 0 m (eL n++bc js Z) [] H1)/\∀ i m ZB acc H,W i m ZB acc H ->
 (J.stop i H/\acc.length<=sizeLine/\∀ p,H p=none->Q (.ref p) (upd H p (.lst acc)))\/(J.go i H/\acc.length < sizeLine/\∀ x H',J.yld i H x H' ->
  g x ZB H' fun Z2 H2=>te Z2 H2 fun y H3=>∃ m',m' < m/\W (i+1) m' Z2 (acc++[y]) H3)
theorem uO {X:Cx} {pins:List (Addr×Obj)} {Z:St} {H:Hp} {s2:Shared} {elt iter:Expr} {es:List Expr} {ek} {tp pos:Pos} {scope:Scope} {g:TG} {te:TE} {xs ys:List Str} {js:List Nat} {it:Addr} {fp:List Addr} {tn:Nat->Heap->Prop} {J:It}
  {Q:VK} {E:Value->Shared->Prop} {RR:Value->Addr->Result->Shared->Prop} (hc:X.calm=true) (B:fO X scope xs) (cap:cR X scope ys js)
  (hg:∀ C s3 H3 ex,PG (cxB X (xs++ys) scope C s3 H3 ex) (.Tuple es ek tp) g) (he:∀ C s3 H3 ex,PE (cxB X (xs++ys) scope C s3 H3 ex) elt te)
  (I:Inv X pins Z H s2) (T:Turn X.prog X.w X.K (.Tuple es ek tp) J fp it tn) (h0:tn 0 s2.heap) (hf:∀ b∈fp,uV X pins H b)
  (W:Nat->Nat->St->List V->Hp->Prop) (w0:∃ m,W 0 m (eL xs++bc js Z) [] H)
  (turn:∀ i m ZB acc H,W i m ZB acc H->(J.stop i H/\acc.length<=sizeLine/\∀ p,H p=none->Q (.ref p) (upd H p (.lst acc)))\/(J.go i H/\acc.length < sizeLine/\∀ x H',J.yld i H x H' ->
   g x ZB H' fun Z2 H2=>te Z2 H2 fun y H3=>∃ m',m' < m/\W (i+1) m' Z2 (acc++[y]) H3))
  (hRR:∀ (D C:Addr) (H':Hp) (s':Shared) (m':Str->Option Value),s'.heap.Ns C m'->s2.heap.objs.size<=C->C≠D->H' C=none->Inv X pins Z H' s'->Q (.ref D) H'->RR (.ref D) C (.ok .next) s') :
  wpAny (model X.prog X.w) X.A (newList []) (fun acc ZO=>wpAny (model X.prog X.w) X.A (newFunctionEnv scope X.env.globals (kF X.env scope.names []) [] X.env.qual none .none (some X.env)) (fun cenv s₄ =>
   codeAny (model X.prog X.w) X.A (.compStart (.ListComp elt [⟨.Tuple es ek tp,iter,[],0⟩] scope pos) 0 (.ref it) acc { cenv with scope:=relabel scope X.env }) (RR acc cenv.locals) s₄) E ZO) E s2:=l5 (st:=fun x ZB H K=>g x ZB H fun Z2 H2=>te Z2 H2 fun y H3=>K Z2 (some y) H3) hc B cap (.inr ⟨⟨_,_,_,rfl⟩,rfl⟩) (fun _=>True) trivial (fun C s3 H3 ex pins s ZB H1 x u K _ I' r h=>J1 (hg _ _ _ _ _ s _ H1 x u _ I' r h) (fun _ s2 ⟨Z6,H6,I8,q8⟩=>wpAny_tests_nil (J1 (he _ _ _ _ _ s2 _ _ _ I8 q8) (fun y s4 ⟨yv,H8,I10,ry,q10⟩=>⟨_,H8,yv,I10,ry,trivial,q10⟩) fun _ _ z=>z)) fun _ _ z=>z) I T h0 hf W w0 (fun i m ZB acc H _ w=>turn i m ZB acc H w) hRR
theorem we {ek} (hc:X.calm=true) (hi:PI X (.Tuple es ek tp) iter wi) (B:fO X scope xs) (cap:cR X scope ys js)
  (hg:∀ C s3 H3 ex,PG (cxB X (xs++ys) scope C s3 H3 ex) (.Tuple es ek tp) g) (he:∀ C s3 H3 ex,PE (cxB X (xs++ys) scope C s3 H3 ex) elt te) (hs:∀ x,foldedSetIterable iter X.env x=pure x) :
  PE X (.ListComp elt [⟨.Tuple es ek tp,iter,[],0⟩] scope pos) (uA xs js wi g te):=by
 intro pins s Z H Q I h;have hcl:=fZ (scope:=scope) (env:=X.env) fun y hy hf=>I.ok.has y.1 (.inl (B.free y hy hf));rw [eval_ListComp];refine wpAny_comprehension_free (use:=none) rfl hs hcl B.kind B.locs (J1 (hi pins s Z H _ I h) (fun xv s1 h1=>J1 h1 (fun itv s2 h2=>?_) fun _ _ e=>e) fun _ _ e=>e);obtain ⟨it,fp,tn,J,H2,e,I2,T,st2,f2,W,w0,turn⟩:=h2;subst e;refine uO (RR:=fun acc C=>compPost (model X.prog X.w) X.A X.xe none (EP X pins Z Q) acc C) hc B cap hg he I2 T st2 f2 W w0 turn ?_;intro D C H' s' m' hn hC hCD hCn I' q;exact ⟨m',hn,fun h' hs'=>⟨.ref D,H',mO I2 hC hCn I' hs',rfl,q⟩⟩
structure JGs (X:Cx) (N:List Str) (scope:Scope) (es:List Expr) (t:TGs):Prop where
 h:∀ C s3 H3 ex,PGs (cxB X N scope C s3 H3 ex) es t
theorem HM:JGs X N scope [] Ed:=⟨fun _ _ _ _=>qX⟩
theorem D7 (nd:N.Nodup) (hi:N[i]?=some x) (hv:scope.names.lookup x=some .local) (h:JGs X N scope es u):JGs X N scope (.Name x px :: es) (vc (c6 i) u) :=
 ⟨fun C s3 H3 ex=>oA (iY nd hi (.inl (lookup_relabel_local hv)) (.inr (lookup_relabel_local hv))) (h.h C s3 H3 ex) rfl⟩
theorem w6 {ek} (xs ys:List Str) (hi:JI X (.Tuple es ek tp) iter wi) (hg:JGs X (xs++ys) scope es u) (he:JC X (xs++ys) scope elt te) (hc:X.calm=true) (B:fO X scope xs) (cap:cR X scope ys js)
  (hn:∀ env,(assignEach es env).length=n) (hst:∀ env,(assignEach es env).findIdx? (·.1)=none) (hs:∀ x,foldedSetIterable iter X.env x=pure x) :
  JE X (.ListComp elt [⟨.Tuple es ek tp,iter,[],0⟩] scope pos) (uA xs js wi (Ea X.K n u) te) :=
 ⟨we hc hi.h B cap (fun C s3 H3 ex=>xh rfl (hg.h C s3 H3 ex) (hn _) (hst _)) he.h hs⟩
noncomputable def lq (sc scope:Scope):Bool :=
 (scope.kind==.function)&&scope.names.all (fun y=>y.2 != .cell)&&scope.names.all (fun y=>y.2 != .local||scope.names.lookup y.1==some .local)&&scope.names.all (fun y=>y.2 != .free||sc.names.lookup y.1==some .cell)
theorem Hu (e:X.env.scope=sc) (h:lq sc scope=true):fO X scope xs:=by
 unfold lq at h;simp only [JU,Ko,Mc,bne_iff_ne,LV,ne_eq] at h;obtain ⟨⟨⟨h1,h2⟩,h3⟩,h5⟩:=h;exact ⟨h1,fun y hy=>h2 y hy,fun y hy e=>(h3 y hy).resolve_left fun z=>z e,fun y hy e'=>by rw [e];exact (h5 y hy).resolve_left fun z=>z e'⟩
structure JGl (X:Cx) (es:List Expr) (t:TGs):Prop where
 h:PGs X es t
section
variable {X:Cx} {es:List Expr} {t:TGs} {pos:Pos} {x:Str} {i:Nat}
theorem HE:JGl X [] Ed:=⟨qX⟩
theorem Ak (hN:X.N.Nodup) (hi:X.N[i]?=some x) (hx:Loc X.env.scope x) (hf:X.fn x=true\/X.env.scope.names.lookup x=some .local) (h:JGl X es t):JGl X (.Name x pos :: es) (vc (c6 i) t):=⟨oA (iY hN hi hx hf) h.h rfl⟩
theorem eGT {k} (hc:X.calm=true) (h:JGl X es t) (hn:(assignEach es X.env).length=n) (hst:(assignEach es X.env).findIdx? (·.1)=none):JG X (.Tuple es k pos) (Ea X.K n t):=⟨xh hc h.h hn hst⟩
end
section
variable {X:Cx}
def tFs:List TE->Str->TE
 | [],out=>fun _ H Q=>out.length<=sizeLine/\Q (.str out) H
 | t :: ts,out=>fun Z H Q=>t Z H fun x H1=>∃ y,x=.str y/\(out++y).length<=sizeLine/\tFs ts (out++y) Z H1 Q
def PFs (X:Cx) (vs:List Expr) (ts:List TE):Prop :=
 ∀ (pins:List (Addr×Obj)) (s:Shared) (Z:St) (H:Hp) (Q:VK) (out:Str),Inv X pins Z H s->tFs ts out Z H Q->wpAny (model X.prog X.w) X.A (joinParts out (evalEach vs X.env)) (EP X pins Z Q) X.xe s
theorem u3 (hv:PE X v t) (hr:PFs X vs ts):PFs X (v :: vs) (t :: ts):=by
 intro pins s Z H Q out I h;show wpAny _ _ (joinParts out (eval v X.env :: evalEach vs X.env)) _ _ s;refine joinParts_cons (thn (hv pins s Z H _ I h) fun u s1 ⟨x,H1,I1,r1,y,ex,hz,q⟩=>?_);subst ex;obtain ⟨t',rfl⟩:=r1;exact ⟨hz,hr pins s1 Z H1 Q _ I1 q⟩
end
structure JF (X:Cx) (vs:List Expr) (ts:List TE):Prop where
 h:PFs X vs ts
section
variable {X:Cx}
theorem eFc (hv:JE X v t) (hr:JF X vs ts):JF X (v :: vs) (t :: ts):=⟨u3 hv.h hr.h⟩
end
def xf (K:Fg):V->List V->Hp->VK->Prop:=fun x vs H Q=>∃ (z:Str) (a:Addr) (ss:List Str),x=.str z/\vs=[.ref a]/\(SqL K H a (ss.map V.str)\/SqT K H a (ss.map V.str))/\(ss.map (·.length)).sum+ss.length*z.length<=16777216/\Q (.str (Txt.join z ss)) H
theorem wx:MtM X "str.join" (xf X.K):=by
 intro pins s Z H x vs v us Q I rx rv h;obtain ⟨z,a,ss,rfl,rfl,hq,hok,q⟩:=h;obtain ⟨t,rfl⟩:=rx;obtain ⟨u,rfl,ru⟩:=rv.one;cases (show u=Value.ref a from ru);rcases hq with hq | hq
 ·obtain ⟨its,r,p,hz⟩:=I.list hq;exact join_list p.isList (by simpa using bu r) hok fun t' k=>⟨.str _,H,I.tok k,⟨t',rfl⟩,q⟩
 ·obtain ⟨its,r,p,hz⟩:=I.tuple hq;exact join_tuple p (by simpa using bu r) hok fun t' k=>⟨.str _,H,I.tok k,⟨t',rfl⟩,q⟩
section
variable {X:Cx}
def Bp (K:Fg):R2:=fun x y H Q=>∃ l b xs zs,x=.ref l/\y=.ref b/\SqL K H l xs/\SqL K H b zs/\xs.length+zs.length<=sizeLine/\∀ p,H p=none->Q (.ref p) (upd H p (.lst (xs++zs)))
theorem yD:OpR X (binaryOp .Add) (Bp X.K):=by
 intro pins s Z H x y v u Q I rx ry h;obtain ⟨l,b,xs,zs,rfl,rfl,hH,hB,hz,q⟩:=h;cases rx;cases ry;obtain ⟨its,r,p,_⟩:=I.list hH;obtain ⟨its2,r2,p2,_⟩:=I.list hB;obtain ⟨⟨cls,dd,data,sl⟩,n,ho,hc,hd0,hd⟩:=p;obtain ⟨⟨cls2,dd2,data2,sl2⟩,n2,ho2,hc2,hd02,hd2⟩:=p2;simp only at hc hd hc2 hd2;subst hc hd hc2 hd2;have e:its.toArray++its2.toArray=(its++its2).toArray:=by simp
 refine concat_meets ⟨_,ho,rfl⟩ ⟨_,ho2,rfl⟩ noFill_list_add seq_list_add PySem.F.slot_list_add PySem.F.entry_list_add (PySem.F.args_list_add_2 _ _) (list_addW l b its.toArray its2.toArray n n2 dd dd2 sl sl2 (by rw [Jz,Jz,<-r.length,<-r2.length];exact hz)) ⟨ho,ho2,?_⟩;rw [e];exact ⟨.ref _,_,I.IZ (t':=s.toks) (r.append r2) (by rw [Js];omega),rfl,q _ I.fresh⟩
theorem lg (l:Addr) (items:Array Value) (n:Nat) (b:Addr) (items2:Array Value) (n2:Nat) (dd2:Option Addr) (sl2:Array (Option Value)) (hc0:¬(!items.isEmpty&&Builtin.List.listTooLong (items.size+items2.size))=true) (hc1:items.size<=sizeLine) (hs2:items.size+items2.size<=sizeLine+1) :
  Meets (Builtin.«list.extend» ⟨[.ref l,.ref b],[]⟩) (fun _ R s=>s.heap.get? l=some { cls:=.type "list", dict:=none,data:=.seq items n,slots:=#[] }/\s.heap.get? b=some { cls:=.type "list", dict:=dd2,data:=.seq items2 n2,slots:=sl2 }/\R (.ok (.ret Value.none)) { s with heap:=s.heap.update l (Obj.mapSeq fun x=>x++items2),toks:=s.toks }) :=
 .of_wp fun prog w A R s h=>by
  obtain ⟨hp,g,d,tk,os⟩:=s;obtain ⟨hl,hb,h⟩:=h;have f1:=AutoSeq1.idx_int;have f2:=AutoSeq1.sub_tuple_tuple;have f3:=AutoSeq1.sub_list_list;have f4:=AutoSeq1.sub_tuple_list;have f5:=AutoSeq1.sub_list_tuple;have hz':(items++items2).size<=sizeLine+1:=by rw [Array.size_append];exact hs2
  wp_walk using (wpAny_updateSeq hl rfl (hz:=hc1) (_hz':=hz')),wpAny_loadPart' hl,wpAny_loadPart' hb;exact ⟨_,rfl,h⟩
def oR (K:Fg):V->List V->Hp->VK->Prop:=fun x vs H Q=>∃ l b xs zs,x=.ref l/\vs=[.ref b]/\H l=some (.lst xs)/\SqL K H b zs/\xs.length+zs.length<=sizeLine/\Q .non (upd H l (.lst (xs++zs)))
theorem jt:MtM X "list.extend" (oR X.K):=by
 intro pins s Z H x vs v us Q I rx rv h;obtain ⟨l,b,xs,zs,rfl,rfl,hH,hB,hz,q⟩:=h;cases rx;obtain ⟨u,rfl,ru⟩:=rv.one;cases ru;obtain ⟨z,its,n,r,hl,e⟩:=I.Hc hH;obtain ⟨its2,r2,p2,z2⟩:=I.list hB;have hl2:=r2.length;obtain ⟨⟨cls2,dd2,data2,sl2⟩,n2,e2,hc2,hd02,hd2⟩:=p2;simp only at hc2 hd2;subst hc2 hd2;have hsz:its.toArray.size+its2.toArray.size<=sizeLine:=by rw [Jz,Jz];omega
 have hlong:¬(!its.toArray.isEmpty&&Builtin.List.listTooLong (its.toArray.size+its2.toArray.size))=true:=by
  rw [vY hsz,Bool.and_false];exact Kw
 refine call_meets F.slot_list_extend ⟨_,e,rfl⟩ F.entry_list_extend (F.args_list_extend_2 _ _) (lg l its.toArray n b its2.toArray n2 dd2 sl2 hlong (by rw [Jz];omega) (by omega)) ⟨e,e2,?_⟩;refine ⟨.non,_,I.Ha (its':=its++its2) hH e (by simp) (r.append r2) ?_,rfl,q⟩;rw [Js];omega
end
mutual
noncomputable def hkB:PyData->Bool
 | .int _=>true
 | .str _=>true
 | .tuple ds=>uW ds
 | _=>false
noncomputable def uW:List PyData->Bool
 | []=>true
 | d :: ds=>hkB d&&uW ds
end
theorem cM:∀ {ds:List PyData},uW ds=true↔∀ d∈ds,hkB d=true
 | []=>by simp [uW]
 | d :: ds=>by simp [uW,cM (ds:=ds)]
noncomputable def kyB (d:PyData):Bool:=hkB d&&d.canLay0&&decide (d.depth<=6)
noncomputable def hk6 (d:PyData):Bool:=hkB d&&decide (d.depth<=6)
mutual
theorem bX:∀ (d e:PyData),hkB d=true->hkB e=true->(PyData.eqv d e=true↔d=e)
 | .int i,e,_,h=>by
  cases e with
  | int j=>simp [PyData.eqv]
  | str y=>simp [PyData.eqv]
  | tuple es=>simp [PyData.eqv]
  | _=>cases h
 | .str x,e,_,h=>by
  cases e with
  | int j=>simp [PyData.eqv]
  | str y=>simp [PyData.eqv]
  | tuple es=>simp [PyData.eqv]
  | _=>cases h
 | .tuple ds,e,h1,h=>by
  cases e with
  | int j=>simp [PyData.eqv]
  | str y=>simp [PyData.eqv]
  | tuple es=>simp only [PyData.eqv,PyData.tuple.injEq];exact tI ds es h1 h
  | _=>cases h
 | .none,_,h,_=>by cases h
 | .bool _,_,h,_=>by cases h
 | .list _,_,h,_=>by cases h
 | .dict _,_,h,_=>by cases h
theorem tI:∀ (ds es:List PyData),uW ds=true->uW es=true->(PyData.eqvAll ds es=true↔ds=es)
 | [],[],_,_=>by simp [PyData.eqvAll]
 | [],_ :: _,_,_=>by simp [PyData.eqvAll]
 | _ :: _,[],_,_=>by simp [PyData.eqvAll]
 | d :: ds,e :: es,h1,h2=>by
  simp only [uW,JU] at h1 h2;rw [PyData.eqvAll,JU,bX d e h1.1 h2.1,tI ds es h1.2 h2.2,List.cons.injEq]
end
theorem fc (h:d∈ds):d.depth+1<=(PyData.tuple ds).depth:=by
 have:∀ {ds:List PyData},d∈ds->d.depth<=PyData.depthAll ds:=by
  intro ds;induction ds with
  | nil=>intro h;cases h
  | cons x xs ih =>
   intro h;rw [PyData.depthAll];rcases JJ.mp h with rfl | h
   ·exact Nat.le_max_left _ _
   ·exact J6 (ih h) (Nat.le_max_right _ _)
 rw [PyData.depth];have:=this h;omega
theorem bh:∀ {vs:List Value} {ds:List PyData} {as:List Addr},ReadsAll h vs ds as->vs.length=ds.length/\∀ (i:Nat) (v:Value),vs[i]?=some v->∃ d bs,ds[i]?=some d/\Reads h v d bs
 | _,_,_,.nil=>⟨rfl,fun i v e=>by simp at e⟩
 | _,_,_,.cons r t=>by
  obtain ⟨l,f⟩:=bh t;refine ⟨by simp [l],fun i v e=>?_⟩;cases i with
  | zero=>simp at e;subst e;exact ⟨_,_,rfl,r⟩
  | succ i=>simpa using f i v (by simpa using e)
section
variable {P:Program} {w:World} {A:Around} {E:Value->Shared->Prop} {s:Shared}
theorem j8:∀ (n:Nat) {d:PyData} {v:Value} {as:List Addr} {Q:Bool->Shared->Prop},Reads s.heap v d as->hkB d=true->d.depth<=n->Q true s->wpAny (model P w) A (eqIsQuiet n v) Q E s:=by
 intro n;induction n with
 | zero =>
  intro d v as Q r h hd q;cases r with
  | int i t=>rw [eqIsQuiet_byValue _ rfl];exact Jn q
  | str x t=>rw [eqIsQuiet_byValue _ rfl];exact Jn q
  | tuple _ _ _ _=>rw [PyData.depth] at hd;omega
  | _=>cases h
 | succ n ih =>
  intro d v as Q r h hd q;cases r with
  | int i t=>rw [eqIsQuiet_byValue _ rfl];exact Jn q
  | str x t=>rw [eqIsQuiet_byValue _ rfl];exact Jn q
  | @tuple a o vs k xs as ho hc hdt ra =>
   have hT:s.TypeIs (.ref a) "tuple" := ⟨o,ho,hc⟩;unfold eqIsQuiet;refine Jk (KZ hT F.slot_tuple_eq.lookup ?_);show wpAny _ _ (isInstance (.ref a) (.type "tuple")>>=_) _ _ s;refine Jk (wpAny_isInstance hT isSubtype_tuple_tuple ?_);simp only [Lw,J4,Kv];refine Jk (LR ho hdt (Jk ?_));show wpAny _ _ (forIn vs _ _) _ _ s;rw [<- Lz];have hx:=cM.mp h;refine KI _ (fun rest r s'=>r.1=none/\s'=s/\∀ u∈rest,u∈vs.toList) _ ?_ ?_ _ _ ⟨rfl,rfl,fun _ z=>z⟩
   ·rintro u rest r s' ⟨hr,rfl,hall⟩;obtain ⟨i,hi⟩:=J0.mp (hall u Ju);obtain ⟨d',bs,e1,r1⟩:=(bh ra).2 i u hi;have hm:=Jy e1;refine Jk (ih r1 (hx d' hm) (by have:=fc hm;omega) ?_);simp only [Lw,J4,Kv];exact Jn ⟨rfl,rfl,fun y hy=>hall y (Jr _ hy)⟩
   ·rintro ⟨r1,r2⟩ s' ⟨hr,rfl,_⟩;simp only at hr;subst hr;exact Jn q
  | _=>cases h
theorem wV:∀ (n:Nat) {A:Around} {s:Shared} {E:Value->Shared->Prop} {d:PyData} {v:Value} {as:List Addr} {Q:Int->Shared->Prop},Reads s.heap v d as->hkB d=true->d.depth<=n->A.units+n < cLine ->
  (∀ t,Q (az w d) { s with toks:=t })->wpAny (model P w) A (pyHash v) Q E s:=by
 intro n;induction n with
 | zero =>
  intro A s E d v as Q r h hd hu q;cases r with
  | int i t=>exact L5 (q _)
  | str x t=>exact L4 (q _)
  | tuple _ _ _ _=>rw [PyData.depth] at hd;omega
  | _=>cases h
 | succ n ih =>
  intro A s E d v as Q r h hd hu q;cases r with
  | int i t=>exact L5 (q _)
  | str x t=>exact L4 (q _)
  | @tuple a o vs k xs as ho hc hdt ra =>
   have hT:s.TypeIs (.ref a) "tuple" := ⟨o,ho,hc⟩;have hx:=cM.mp h;unfold pyHash;first | unfold pyHashByItsType | skip
   first | refine Jk (wpAny_cRoomFor_or (.inr (by omega)) ?_) | skip
   refine Jk (KZ hT F.slot_tuple_hash.lookup ?_);show wpAny _ _ (if (some (Value.builtin "tuple.__hash__")==some Value.none)=true then _ else _) Q E s;rw [JD (by rw [beq_builtin_none];exact Kw)];refine Jk (KZ hT F.slot_tuple_hash.lookup ?_);show wpAny _ _ (callSpecialIfBoundUnlessNone? (.ref a) "__hash__" _>>=_) Q E s;refine Jk (wpAny_callSpecialIfBoundUnlessNone?_slot hT F.slot_tuple_hash (Kj F.slot_tuple_hash hT F.entry_tuple_hash ?_ (F.args_tuple_hash_1 _)));show wpAny _ _ (Builtin.Tuple.tupleItemsOf (.ref a)>>=_) _ _ s;refine Jk (wpAny_tupleItemsOf ho hdt (Jk ?_));rw [<- Lz];have hap:∀ (l m:List PyData),aV w (l++m)=aV w l++aV w m:=by
    intro l m;induction l with
    | nil=>rfl
    | cons x l ihl=>rw [List.cons_append,aV,aV,ihl];rfl
   refine KI _ (fun rest (b:Array Int) s'=>∃ i,rest=vs.toList.drop i/\b.toList=aV w (xs.take i)/\∃ t,s'={ s with toks:=t }) _ ?_ ?_ _ _ ⟨0,rfl,rfl,_,rfl⟩
   ·rintro u rest b s' ⟨i,hr,hb,t,rfl⟩;have hi:vs.toList[i]?=some u:=by
     have:(vs.toList.drop i)[0]?=some u:=by rw [<- hr];rfl
     simpa using this
    obtain ⟨d',bs,e1,r1⟩:=(bh ra).2 i u hi;have hm:=Jy e1;refine Jk (ih (s:={ s with toks:=t }) r1 (hx d' hm) (by have:=fc hm;omega) (by have:A.in1.units=A.units+1:=rfl;omega) fun t'=>?_);have nx:rest=vs.toList.drop (i+1)/\(b.push (az w d')).toList=aV w (xs.take (i+1))/\∃ t'',({ s with toks:=t' }:Shared)={ s with toks:=t'' }:=by
     refine ⟨?_,?_,_,rfl⟩
     ·have:=congrArg List.tail hr;simpa [List.tail_drop] using this
     ·rw [List.take_add_one,e1,hap,LF,hb];rfl
    first
     | exact Jn ⟨i+1,nx⟩
     | exact Jk (Jn (Jn ⟨i+1,nx⟩))
   ·rintro b s' ⟨i,hr,hb,t,rfl⟩;have hi:vs.toList.length<=i:=by
     have:=congrArg List.length hr;simp at this;simpa using (by omega:vs.size<=i)
    rw [KD (by rw [<- (bh ra).1];exact hi)] at hb;show wpAny _ _ (retInt (Builtin.Tuple.tupleHashOf b.toList)) _ _ _;rw [hb];refine wpAny_ret_mkInt ?_;have q':=q;rw [az] at q';unfold reduceHash at q';show wpAny _ _ (if (decide (-(2:Int) ^ 63<=Builtin.Tuple.tupleHashOf (aV w xs))&&decide (Builtin.Tuple.tupleHashOf (aV w xs) < 2 ^ 63))=true then _ else _) Q E _;by_cases hc:(decide (-(2:Int) ^ 63<=Builtin.Tuple.tupleHashOf (aV w xs))&&decide (Builtin.Tuple.tupleHashOf (aV w xs) < 2 ^ 63))=true
    ·rw [Jx hc];rw [Jx hc] at q';exact Jn (q' _)
    ·rw [JD hc];rw [JD hc] at q';exact Jk (Le (Jn (q' _)))
  | _=>cases h
end
open PySem PySem.Spec PyProof.Rows
theorem ai {d:PyData}:kyB d=true↔hkB d=true/\d.canLay0=true/\d.depth<=6:=by simp [kyB,and_assoc]
section
variable {P:Program} {w:World} {A:Around} {E:Value->Shared->Prop} {s:Shared}
structure Am (w:World) (h:Heap) (es:Array DictEntry) (ks:List PyData):Prop where
 len:es.size=ks.length
 nd:ks.Nodup
 at_:∀ (j:Nat) (k:PyData),ks[j]?=some k->kyB k=true/\∃ e bs,es[j]?=some e/\e.hash=az w k/\Reads h e.key k bs
theorem Am.at' {h:Heap} {es:Array DictEntry} {ks:List PyData} (N:Am w h es ks) {j:Nat} {e:DictEntry} (he:es[j]?=some e):∃ k bs,ks[j]?=some k/\kyB k=true/\e.hash=az w k/\Reads h e.key k bs:=by
 have hj:j < ks.length:=by rw [<- N.len];exact (LX.mp he).1
 obtain ⟨a,e',bs,b,c,r⟩:=N.at_ j _ (Jl hj);rw [he] at b;cases b;exact ⟨_,bs,Jl hj,a,c,r⟩
theorem Am.one {h:Heap} {es:Array DictEntry} {ks:List PyData} (N:Am w h es ks) {i j:Nat} {k:PyData} (hi:ks[i]?=some k) (hj:ks[j]?=some k):i=j :=
 (List.getElem?_inj (Jo.mp hi).1 N.nd).mp (hi.trans hj.symm)
theorem v9 {key key':Value} {k k':PyData} {as bs:List Addr} (hu:A.units+6 < cLine) (r:Reads s.heap key k as) (r':Reads s.heap key' k' bs) (h:kyB k=true) (h':kyB k'=true):SeqAt.EqAt A s key' key (PyData.eqv k' k):=by
 rw [ai] at h h';exact SeqAt.eqAt_reads k' k A s key' key bs as r' r h'.2.1 h.2.1 (by have:=Nat.min_le_right k'.depth k.depth;omega)
theorem AD {key:Value} {k:PyData} {as:List Addr} {st:List Value} {Q:Bool->Shared->Prop} (r:Reads s.heap key k as) (h:kyB k=true) (hst:∀ v∈st,∃ k' bs,Reads s.heap v k' bs/\kyB k'=true) (q:Q false s) :
  wpAny (model P w) A (tableMayTell key st) Q E s:=by
 rw [ai] at h;unfold tableMayTell;split
 ·exact Jn q
 ·refine Jk (j8 8 r h.1 (by omega) ?_);rw [JD (by simp)];refine Jk (KI _ (fun rest b s'=>s'=s/\b=(none,())/\∀ v∈rest,v∈st) _ ?_ ?_ _ _ ⟨rfl,rfl,fun _ z=>z⟩)
  ·rintro v rest b s' ⟨rfl,rfl,hr⟩;obtain ⟨k',bs,r',h'⟩:=hst v (hr v Ju);rw [ai] at h';refine Jk (j8 8 r' h'.1 (by omega) ?_);rw [JD (by simp)];exact Jn ⟨rfl,rfl,fun v hv=>hr v (Jr _ hv)⟩
  ·rintro b s' ⟨rfl,rfl,_⟩;exact Jn q
theorem lU {h:Heap} {v:Value} {x:Str} {as:List Addr} (r:Reads h v (.str x) as):∃ t,v=.str x t:=by cases r;exact ⟨_,rfl⟩
theorem mM {h:Heap} {v:Value} {x:Str} {k:PyData} {as:List Addr} (r:Reads h v k as) (hk:hkB k=true) (hp:v.isStr x=true):k=.str x:=by
 cases r with
 | str y t=>simp [Value.isStr] at hp;simp [hp]
 | int i t=>simp [Value.isStr] at hp
 | tuple _ _ _ _=>simp [Value.isStr] at hp
 | _=>cases hk
theorem qp {α:Type} {c:Prop} [Decidable c] {x y:Sem α} {Q:α->Shared->Prop} (hx:wpAny (model P w) A x Q E s) (hy:wpAny (model P w) A y Q E s):wpAny (model P w) A (if c then x else y) Q E s:=by
 split
 ·exact hx
 ·exact hy
theorem Cb {α:Type} {c:Prop} [Decidable c] {m:Sem Bool} {f:Bool->Sem α} {Q:α->Shared->Prop} (hm:∀ Q':Bool->Shared->Prop,Q' false s->wpAny (model P w) A m Q' E s) (h:wpAny (model P w) A (f false) Q E s) :
  wpAny (model P w) A (if c then (pure false:Sem Bool)>>=f else m>>=f) Q E s:=qp (Jk (Jn h)) (Jk (hm _ h))
theorem xF {w0:World} {d:Addr} {o:Obj} {es:Array DictEntry} {ep:Nat} {ks:List PyData} {k:PyData} {key:Value} {as:List Addr} {Q:Option Nat->Shared->Prop}
  (hu:A.units+6 < cLine) (hk:Reads s.heap key k as) (hky:kyB k=true) (ho:s.heap.get? d=some o) (hd:o.data=.dict es ep) (N:Am w0 s.heap es ks)
  (hnone:(∀ j:Nat,ks[j]?≠some k)->Q none s) (hsome:∀ j:Nat,ks[j]?=some k->Q (some j) s):wpAny (model P w) A (dictFind d key (az w0 k)) Q E s:=by
 have hk3:=ai.mp hky;have hsz:=N.len;have hash_at:∀ j:Nat,ks[j]?=some k->((es[j]?.map (·.hash))==some (az w0 k))=true:=fun j hj=>by
  obtain ⟨_,e,bs,he,hh,_⟩:=N.at_ j k hj;rw [he];simp [hh]
 have same:∀ {k'},kyB k'=true->(PyData.eqv k' k=true↔k'=k):=fun h'=>bX _ _ (ai.mp h').1 hk3.1;have done:∀ i:Nat,i<=es.size->(∀ j:Nat,j < i->ks[j]?≠some k)->[]=(List.range' i (es.size - i)).filter (fun i=>(es[i]?.map (·.hash))==some (az w0 k))->∀ j:Nat,ks[j]?≠some k:=by
  intro i hi hno hr j hj;rcases KN j i with h | h
  ·exact hno j h hj
  ·have hjl:j < es.size:=by rw [hsz];exact (Jo.mp hj).1
   have:=List.filter_eq_nil_iff.mp hr.symm j (List.mem_range'_1.mpr ⟨h,by omega⟩);exact this (hash_at j hj)
 have skip:∀ {i x:Nat},(∀ j:Nat,j < i->ks[j]?≠some k)->(∀ j:Nat,i<=j->j < x->((es[j]?.map (·.hash))==some (az w0 k))=false)->∀ j:Nat,j < x->ks[j]?≠some k:=by
  intro i x hno hs j hjx hj;rcases KN j i with h | h
  ·exact hno j h hj
  ·have:=hs j h hjx;rw [hash_at j hj] at this;cases this
 have step:∀ {x:Nat} {k':PyData},ks[x]?=some k'->k'≠k->(∀ j:Nat,j < x->ks[j]?≠some k)->∀ j:Nat,j < x+1->ks[j]?≠some k:=by
  intro x k' hx hne hno j hj hjk;rcases KN j x with h | h
  ·exact hno j h hjk
  ·have:j=x:=by omega
   subst this;rw [hx] at hjk;cases hjk;exact hne rfl
 have plain:wpAny (model P w) A (dictWalkPlain d key (az w0 k) es (placesWithHash es.size (fun i=>es[i]?.map (·.hash)) (az w0 k))) Q E s:=by
  unfold dictWalkPlain
  refine Jk (KI _ (fun rest b s'=>s'=s/\b=(none,())/\∃ i:Nat,rest=(List.range' i (es.size - i)).filter (fun i=>(es[i]?.map (·.hash))==some (az w0 k))/\i<=es.size/\∀ j:Nat,j < i->ks[j]?≠some k) _ ?_ ?_ _ _
   ⟨rfl,rfl,0,by rw [placesWithHash,List.range_eq_range',Nat.sub_zero],J9 _,fun _ h=>absurd h (Nat.not_lt_zero _)⟩)
  ·rintro x rest b s' ⟨rfl,rfl,i,hr,hi,hno⟩;obtain ⟨hix,hxn,hpx,hskip,hrest⟩:=filter_range'_cons _ _ _ _ _ hr.symm;have hlt:x < es.size:=by omega
   have hex:es[x]?=some es[x]:=JR hlt;obtain ⟨k',bs,hkx,hk',hh,hr'⟩:=N.at' hex;have hno':=skip hno hskip;have hrest':rest=(List.range' (x+1) (es.size - (x+1))).filter (fun i=>(es[i]?.map (·.hash))==some (az w0 k)):=by rw [hrest];congr 2;omega
   rw [hex] at hpx ⊢;have hhx:(es[x].hash==az w0 k)=true:=by simpa using hpx
   dsimp only;rw [Jx hhx];refine Jk (K0 ho hd (Jk (v9 hu hk hr' hky hk' _ _ _ _ (Jk (K0 ho hd ?_)))));rw [JD (by simp)];by_cases z:k'=k
   ·subst z;rw [(same hky).mpr rfl];first | rw [Jx rfl] | skip
    exact Jk (Le (Jn (Jn (hsome x hkx))))
   ·have:PyData.eqv k' k=false:=by
     cases q:PyData.eqv k' k with
     | false=>rfl
     | true=>exact absurd ((same hk').mp q) z
    rw [this];rw [JD (by simp)];exact Jk (Le (Jn ⟨rfl,rfl,x+1,hrest',hlt,step hkx z hno'⟩))
  ·rintro b s' ⟨rfl,rfl,i,hr,hi,hno⟩;exact Jn (hnone (done i hi hno hr))
 have hst:∀ v∈(placesWithHash es.size (fun i=>es[i]?.map (·.hash)) (az w0 k)).filterMap (fun i=>es[i]?.map (·.key)),∃ k' bs,Reads s.heap v k' bs/\kyB k'=true:=by
  intro v hv;obtain ⟨i,_,hi⟩:=KL.mp hv;obtain ⟨e,he,rfl⟩:=JM.mp hi;obtain ⟨k',bs,_,h1,_,h2⟩:=N.at' he;exact ⟨k',bs,h2,h1⟩
 unfold dictFind;try with_reducible refine Kc ?_
 refine Jk (LY ho hd ?_);have shape:(∃ i t,key=.int i t)\/(∃ x t,key=.str x t/\k=.str x)\/∃ a,key=.ref a:=by
  cases hk with
  | int i t=>exact .inl ⟨i,t,rfl⟩
  | str x t=>exact .inr (.inl ⟨x,t,rfl,rfl⟩)
  | tuple _ _ _ _=>exact .inr (.inr ⟨_,rfl⟩)
  | _=>cases hk3.1
 rcases shape with ⟨i,t,rfl⟩ | ⟨x,t,rfl,ek⟩ | ⟨a,rfl⟩;refine qp plain ?_
 rotate_left
 refine qp ?_ (qp plain ?_)
 ·subst ek;unfold foundByValue;cases hf:es.findIdx? (·.key.isStr x) with
  | none =>
   refine Jn (hnone fun j hj=>?_);obtain ⟨_,e,bs,he,_,r⟩:=N.at_ j _ hj;have:=Array.findIdx?_eq_none_iff.mp hf e (Array.mem_of_getElem? he);obtain ⟨t',e'⟩:=lU r;rw [e'] at this;simp [Value.isStr] at this
  | some i =>
   have hi:=(Array.findIdx?_eq_some_iff_getElem.mp hf);obtain ⟨hlt,hp,_⟩:=hi;have hex:es[i]?=some es[i]:=JR hlt;obtain ⟨k',bs,hkx,hk',hh,hr'⟩:=N.at' hex;have e1:k'=.str x:=mM hr' (ai.mp hk').1 hp;subst e1;dsimp only;rw [hex];dsimp only;refine Jk (K0 ho hd (Jk (v9 hu hk hr' hky hk' _ _ _ _ (Jk (K0 ho hd ?_)))));rw [JD (by simp),(same hky).mpr rfl];first | rw [Jx rfl] | skip
   exact Jk (Le (Jn (hsome i hkx)))
 rotate_left
 refine qp plain ?_;have hany:¬(es.any fun e=>e.key==Value.ref a&&e.hash != az w0 k)=true:=by
  rw [<- Array.any_toList,Lc];rintro ⟨e,hin,hc⟩;obtain ⟨j,hj⟩:=J0.mp hin;obtain ⟨k',bs,_,_,h3,h4⟩:=N.at' (j:=j) (e:=e) (by simpa using hj);simp only [JU,LV,bne_iff_ne,ne_eq] at hc;rw [hc.1] at h4;exact hc.2 (by rw [h3,(PySem.Reads.unique h4 _ _ hk).1])
 dsimp only;rw [JD hany]
 all_goals
  refine Cb (fun Q' q=>AD hk hky hst q) ?_;try dsimp only
  rw [JD (by simp)]
  refine Jk (KI _ (fun rest b s'=>s'=s/\∃ (i:Nat) (hit:Option Nat),b=(none,hit)/\rest=(List.range' i (es.size - i)).filter (fun i=>(es[i]?.map (·.hash))==some (az w0 k))/\i<=es.size /\
    ((hit=none/\∀ j:Nat,j < i->ks[j]?≠some k)\/∃ j,hit=some j/\j < i/\ks[j]?=some k)) _ ?_ ?_ _ _
   ⟨rfl,0,none,rfl,by rw [placesWithHash,List.range_eq_range',Nat.sub_zero],J9 _,.inl ⟨rfl,fun _ h=>absurd h (Nat.not_lt_zero _)⟩⟩)
  ·rintro x rest b s' ⟨rfl,i,hit,rfl,hr,hi,hH⟩;obtain ⟨hix,hxn,hpx,hskip,hrest⟩:=filter_range'_cons _ _ _ _ _ hr.symm;have hlt:x < es.size:=by omega
   have hex:es[x]?=some es[x]:=JR hlt;obtain ⟨k',bs,hkx,hk',hh,hr'⟩:=N.at' hex;have hrest':rest=(List.range' (x+1) (es.size - (x+1))).filter (fun i=>(es[i]?.map (·.hash))==some (az w0 k)):=by rw [hrest];congr 2;omega
   rw [hex] at hpx ⊢;have hhx:=(show (es[x].hash==az w0 k)=true by simpa using hpx);dsimp only;rw [Jx hhx];refine Jk (K0 ho hd (Jk (v9 hu hk hr' hky hk' _ _ _ _ (Jk (K0 ho hd ?_)))));rw [JD (by simp)];cases q:PyData.eqv k' k with
   | true =>
    have z:=(same hk').mp q;rw [z] at hkx;first | rw [Jx rfl] | skip
    have h0:hit=none:=by
     rcases hH with ⟨h0,_⟩ | ⟨j,_,hj,hjk⟩
     ·exact h0
     ·exact absurd (N.one hjk hkx) (by omega)
    subst h0;simp only [Option.isSome_none,J4,Kv];first | refine Jk (Jn ?_) | skip
    refine Jk (Le ?_);split
    ·exact Jn (Jn (hsome x hkx))
    ·exact Jn ⟨rfl,x+1,some x,rfl,hrest',hlt,.inr ⟨x,rfl,Nat.lt_succ_self x,hkx⟩⟩
   | false =>
    rw [JD (by simp)];have z:k'≠k:=fun e=>by rw [(same hk').mpr e] at q;cases q
    have st:(hit=none/\∀ j:Nat,j < x+1->ks[j]?≠some k)\/∃ j,hit=some j/\j < x+1/\ks[j]?=some k:=by
     rcases hH with ⟨h0,hno⟩ | ⟨j,h0,hj,hjk⟩
     ·exact .inl ⟨h0,step hkx z (skip hno hskip)⟩
     ·exact .inr ⟨j,h0,by omega,hjk⟩
    refine Jk (Le ?_);first | rw [JD (by simp)] | skip
    first
     | exact Jn ⟨rfl,x+1,hit,rfl,hrest',hlt,st⟩
     | exact Jk (Jn (Jn ⟨rfl,x+1,hit,rfl,hrest',hlt,st⟩))
  ·rintro b s' ⟨rfl,i,hit,rfl,hr,hi,hH⟩;rcases hH with ⟨rfl,hno⟩ | ⟨j,rfl,_,hj⟩
   ·exact Jn (hnone (done i hi hno hr))
   ·exact Jn (hsome j hj)
end
open PySem PySem.Spec PyProof.Rows
noncomputable def kD:Key->PyData | .inl i=>.int i | .inr x=>.str x
noncomputable def cvK (kv:Key×V):PyData×V×V:=(kD kv.1,kV kv.1,kv.2)
theorem Cf (h:kD a=kD b):a=b:=by
 cases a <;> cases b <;> simp [kD] at h <;> simp [h]
theorem x9 (w:World) (k:Key):az w (kD k)=Ho w k:=by cases k <;> rfl
theorem oM (h:Heap) (hb:sysModules < h.objs.size):bJ P w H (h.push { cls:=.type "dict", data:=.dict #[] }) h.objs.size (.dD 0 []) :=
 ⟨J9 _,beq_eq_false_iff_ne.mpr (Ne.symm (JY hb)),List.nodup_nil,_,#[],JN _ rfl,⟨rfl,rfl,rfl⟩,rfl,.nil⟩
theorem lb:∀ {kvs:List (Key×V)} {vs:List (Key×Value)} {es:List DictEntry},KV kvs vs->Pairs (bp P w) es vs->(∀ e∈es,∃ k,(bp P w).is k e.key=true/\e.hash=(bp P w).hash k)->Paired (y7 w) (kvs.map cvK) es
 | [],_,_,r,q,_=>by cases r;cases q;exact .nil
 | p :: kvs,_,es,r,q,h=>by
  cases r with
  | cons r t =>
   cases q with
   | @cons e kv es' kvs' h1 h2 h3 =>
    obtain ⟨k,hk,hh⟩:=h e Ju;have e1:k=p.1:=by rw [r.1];exact (bp P w).inj _ _ _ hk h1
    subst e1;refine .cons ⟨?_,?_,?_⟩ (lb t h3 fun e he=>h e (Jr _ he))
    ·rw [hh];exact (x9 w _).symm
    ·show RelV (kV p.1) e.key;rcases aK (show mD p.1 e.key=true from hk) with ⟨i,t,e1,e2⟩ | ⟨x,t,e1,e2⟩
     ·rw [e1,e2];exact ⟨t,rfl⟩
     ·rw [e1,e2];exact ⟨t,rfl⟩
    ·show RelV p.2 e.val;rw [h2];exact r.2
theorem GP (z:kvs.length<=sizeLine) (hd:(a==sysModules)=false) (rel:KV kvs vs) (dd:h.DictOf (bp P w) a vs) :
  ∃ ep,bJ P w H h a (.dD ep (kvs.map cvK)):=by
 obtain ⟨o,es,ep,h1,h2,h3,h4,h5,h6⟩:=dd;refine ⟨ep,by rw [Jm];exact z,hd,?_,o,es,h1,h2,h3,lb rel h5 fun e he=>h4 e (Array.mem_toList_iff.mp he)⟩;have e1:vs.map (·.1)=kvs.map (·.1):=by
  clear h5 h6 z;unfold KV at rel;induction rel with
  | nil=>rfl
  | cons r t ih=>rw [List.map_cons,List.map_cons,ih,r.1]
 rw [e1] at h6;rw [Km];have:(kvs.map ((fun x:PyData×V×V=>x.1)∘cvK))=(kvs.map (·.1)).map kD:=by rw [Km];rfl
 rw [this];exact List.Pairwise.map kD (fun _ _ n z=>n (Cf z)) h6
def wI:TE:=fun _ H Q=>∀ p,H p=none->Q (.ref p) (upd H p (.dD 0 []))
def t5 (trs:List (TE×TE)):TE:=fun Z H Q=>∀ p,H p=none->oX trs Z (upd H p (.dD 0 [])) fun ps H2=>H2 p=some (.dD 0 [])/\∃ kvs:List (Key×V),ps=kvs.map (fun kv=>(kV kv.1,kv.2))/\kvs.length<=15/\∀ ep,Q (.ref p) (upd H2 p (.dD ep ((cX [] kvs).map cvK)))
section
variable {X:Cx} {pos:Pos}
theorem vX:PE X (.Dict [] [] pos) wI:=fun pins s Z H Q I h =>
 wpAny_Dict_empty ⟨.ref s.heap.objs.size,_,I.laid (o:=.dD 0 []) (t':=s.toks) (fun _ _ q=>Jp _ q) (Jt _) (oM s.heap I.big),rfl,h _ (I.hok.fresh (Jt _))⟩
theorem u4 (h:PPs X pos keys values trs) (hall:keys.all (·.isSome)=true) (hl:keys.length=values.length) (h0:keys≠[])
  (h15:keys.length<=15):PE X (.Dict keys values pos) (t5 trs):=by
 intro pins s Z H Q I q;have hn:=I.hok.fresh (Jt s.heap.objs.size);have I1:=I.laid (o:=.dD 0 []) (h':=s.heap.push { cls:=.type "dict", data:=.dict #[] }) (t':=s.toks) (fun _ _ q=>Jp _ q) (Jt _) (oM s.heap I.big);refine wpAny_Dict_walk (knd:=bp X.prog X.w) hall hl h0 h15 (thn (h pins _ Z _ _ I1 (q _ hn)) fun ws s2 ⟨ps,H2,I2,rel,e,kvs,ep,lk,q2⟩=>?_);subst ep;obtain ⟨rs,c,rk⟩:=jw (P:=X.prog) (w:=X.w) rel;obtain ⟨z,hd,nd,o,es,g1,g2,g3,g4⟩:=(show bJ X.prog X.w H2 s2.heap s.heap.objs.size (.dD 0 []) from I2.hok _ _ e);have ees:es=#[]:=by
  cases es with
  | mk l=>cases g4;rfl
 subst ees;have dd:s2.heap.DictOf (bp X.prog X.w) s.heap.objs.size []:=⟨o,#[],0,g1,g2,g3,fun e he=>by simp at he,.nil,List.nodup_nil⟩;refine ⟨rs,c,dd,fun h' dd' hs=>?_⟩;have hz:(cX [] kvs).length<=sizeLine:=by
  have h1:=fD kvs [];rw [List.length_nil] at h1;rw [Kk];omega
 have he:∃ q,h'.get? s.heap.objs.size=some q:=let ⟨q,_,_,hq,_⟩:=dd';⟨q,hq⟩
 obtain ⟨ep,new⟩:=GP (H:=upd H2 s.heap.objs.size (.dD 0 [])) hz hd (rk.merge .nil) dd';exact ⟨.ref s.heap.objs.size,_,mw I2 (by rw [e];exact True.intro) hs he (ob:=.dD ep ((cX [] kvs).map cvK)) new,rfl,q2 ep⟩
end
noncomputable def qA (xs:List (PyData×V×V)) (k:PyData):Option V:=(xs.find? fun x=>PyData.eqv x.1 k).map (·.2.2)
noncomputable def nU (xs:List (PyData×V×V)) (k:PyData) (j v:V):List (PyData×V×V) :=
 if (xs.any fun x=>PyData.eqv x.1 k)=true then xs.map (fun x=>if PyData.eqv x.1 k=true then (x.1,x.2.1,v) else x) else xs++[(k,j,v)]
def jd (h:Heap) (xs:List (PyData×V×V)):Prop:=∀ x∈xs,kyB x.1=true/\∀ u,RelV x.2.1 u->∃ bs,Reads h u x.1 bs
section
variable {X:Cx} {pins:List (Addr×Obj)} {Z:St} {H:Hp} {s:Shared} {a:Addr} {A:Around} {E:Value->Shared->Prop} {ep:Nat} {xs:List (PyData×V×V)} {k:PyData} {u:Value} {as:List Addr}
theorem fz {α β:Type} {R:α->β->Prop}:∀ {l:List α} {m:List β},Paired R l m->∀ (j:Nat) (x:α),l[j]?=some x->∃ y,m[j]?=some y/\R x y
 | _,_,.nil,j,x,e=>by simp at e
 | _,_,.cons r t,0,x,e=>by simp at e;subst e;exact ⟨_,rfl,r⟩
 | _,_,.cons r t,j+1,x,e=>by simpa using fz t j x (by simpa using e)
theorem tE {P:Program} {w:World} {h:Heap} {es:Array DictEntry} (kr:jd h xs) (nd:(xs.map (·.1)).Nodup) (r:Paired (y7 w) xs es.toList):Am w h es (xs.map (·.1)) where
 len:=by rw [Jm,Paired.length r];simp
 nd:=nd
 at_:=fun j k e=>by
  rw [Jw] at e;obtain ⟨x,hx,rfl⟩:=JM.mp e;obtain ⟨en,h1,h2,h3,h4⟩:=fz r j x hx;obtain ⟨k1,k2⟩:=kr x (Jy hx);obtain ⟨bs,r1⟩:=k2 _ h3;exact ⟨k1,en,bs,by simpa using h1,h2,r1⟩
theorem t7 {j:Nat} (kr:jd s.heap xs) (nd:(xs.map (·.1)).Nodup) (ky:kyB k=true) (hj:(xs.map (·.1))[j]?=some k):∃ x,xs[j]?=some x/\x.1=k/\xs.find? (fun x=>PyData.eqv x.1 k)=some x:=by
 rw [Jw] at hj;obtain ⟨x,hx,rfl⟩:=JM.mp hj;refine ⟨x,hx,rfl,?_⟩;rw [List.find?_eq_some_iff_getElem];obtain ⟨hl,e⟩:=Jo.mp hx;refine ⟨(bX _ _ (ai.mp ky).1 (ai.mp ky).1).mpr rfl,j,hl,e,fun i hi=>?_⟩;have hil:i < xs.length:=by omega
 cases q:PyData.eqv xs[i].1 x.1 with
 | false=>rfl
 | true =>
  have z:=(bX _ _ (ai.mp (kr _ (Lb hil)).1).1 (ai.mp ky).1).mp q;have e1:(xs.map (·.1))[i]?=some x.1:=by rw [Jw,Jl hil,Option.map_some,z]
  have e2:(xs.map (·.1))[j]?=some x.1:=by rw [Jw,hx];rfl
  have:=(List.getElem?_inj (by rw [Jm];exact hil) nd).mp (e1.trans e2.symm);omega
theorem sF (kr:jd s.heap xs) (ky:kyB k=true) (h:∀ j:Nat,(xs.map (·.1))[j]?≠some k):xs.find? (fun x=>PyData.eqv x.1 k)=none:=by
 rw [List.find?_eq_none];intro x hx q;have z:=(bX _ _ (ai.mp (kr x hx).1).1 (ai.mp ky).1).mp q;obtain ⟨j,hj⟩:=J0.mp hx;exact h j (by rw [Jw,hj,Option.map_some,z])
theorem Gk {Q:Option Value->Shared->Prop} (hu:A.units+6 < cLine) (I:Inv X pins Z H s) (e:H a=some (.dD ep xs)) (kr:jd s.heap xs) (hk:Reads s.heap u k as) (ky:kyB k=true)
  (q:∀ t ov,GC (qA xs k) ov->Q ov { s with toks:=t }):wpAny (model X.prog X.w) A (dictGet a u) Q E s:=by
 obtain ⟨z,hd,nd,o,es,g1,g2,g3,g4⟩:=(show bJ X.prog X.w H s.heap a (.dD ep xs) from I.hok _ _ e);unfold dictGet;refine Kc (Jk (wV 6 hk (ai.mp ky).1 (ai.mp ky).2.2 hu fun t=>?_));refine Jk (xF (s:={ s with toks:=t }) hu hk ky g1 g3 (tE (P:=X.prog) kr nd g4) (fun hno=>?_) fun j hj=>?_)
 ·refine Jn (q _ _ ?_);unfold qA;rw [sF (s:=s) kr ky hno];exact True.intro
 ·obtain ⟨x,hx,e1,e2⟩:=t7 (s:=s) kr nd ky hj;obtain ⟨en,h1,h2,h3,h4⟩:=fz g4 j x hx;refine Jk (LY (s:={ s with toks:=t }) g1 g3 (Jn (q _ _ ?_)));unfold qA;rw [e2,show es[j]?=some en by simpa using h1];exact h4
theorem nQ (I:Inv X pins Z H s) (e:H a=some (.dD ep xs)):s.TypeIs (.ref a) "dict" /\ (a==sysModules)=false:=by
 obtain ⟨z,hd,nd,o,es,g1,g2,g3,g4⟩:=(show bJ X.prog X.w H s.heap a (.dD ep xs) from I.hok _ _ e);exact ⟨⟨o,g1,g2.1⟩,hd⟩
theorem oZ:(nU xs k j v).length<=xs.length+1:=by
 unfold nU;split
 ·rw [Jm];omega
 ·rw [Js];exact Jt _
theorem oU (h:xs.find? (fun x=>PyData.eqv x.1 k)=none):nU xs k j v=xs++[(k,j,v)]:=by
 unfold nU;rw [JD];rw [Lc];rintro ⟨x,hx,q⟩;exact absurd q (by simpa using List.find?_eq_none.mp h x hx)
theorem pA (h:xs.find? (fun x=>PyData.eqv x.1 k)=some x):nU xs k j v=xs.map (fun x=>if PyData.eqv x.1 k=true then (x.1,x.2.1,v) else x):=by
 unfold nU;rw [Jx];rw [Lc];exact ⟨x,List.mem_of_find?_eq_some h,by simpa using List.find?_some h⟩
theorem sD (ky:kyB k=true) (rv:RelV v r):∀ {xs:List (PyData×V×V)} {es:List DictEntry} {i:Nat},jd h xs->(xs.map (·.1)).Nodup->(xs.map (·.1))[i]?=some k->Paired (y7 w) xs es ->
  Paired (y7 w) (xs.map (fun x=>if PyData.eqv x.1 k=true then (x.1,x.2.1,v) else x)) (es.modify i fun e=>{ e with val:=r })
 | [],es,i,_,_,hi,_=>by simp at hi
 | x :: xs,es,i,kr,nd,hi,p=>by
  cases p with
  | @cons _ e _ es' h1 h2 =>
   have ky':=(kr x Ju).1;rw [List.map_cons,Kr] at nd;have off:∀ {ys:List (PyData×V×V)} {fs:List DictEntry},k ∉ ys.map (·.1)->jd h ys->Paired (y7 w) ys fs->Paired (y7 w) (ys.map (fun x=>if PyData.eqv x.1 k=true then (x.1,x.2.1,v) else x)) fs:=by
    intro ys fs hn kr' q;have:(ys.map (fun x=>if PyData.eqv x.1 k=true then (x.1,x.2.1,v) else x))=ys:=by
     refine (Lq fun y hy=>?_).trans (List.map_id _);rw [JD]
     ·rfl
     ·intro z;exact hn (JV.mpr ⟨y,hy,(bX _ _ (ai.mp (kr' y hy).1).1 (ai.mp ky).1).mp z⟩)
    rw [this];exact q
   cases i with
   | zero =>
    simp at hi;subst hi;rw [List.map_cons,Jx ((bX _ _ (ai.mp ky).1 (ai.mp ky).1).mpr rfl)];exact .cons ⟨h1.1,h1.2.1,rv⟩ (off nd.1 (fun y hy=>kr y (Jr _ hy)) h2)
   | succ i =>
    have hi':(xs.map (·.1))[i]?=some k:=by simpa using hi
    have ne:x.1≠k:=fun z=>nd.1 (by rw [z];exact Jy hi');rw [List.map_cons,JD fun z=>ne ((bX _ _ (ai.mp ky').1 (ai.mp ky).1).mp z)];exact .cons h1 (sD ky rv (fun y hy=>kr y (Jr _ hy)) nd.2 hi' h2)
theorem Fi {j v:V} {r:Value} {Q:Unit->Shared->Prop} (hu:A.units+6 < cLine) (I:Inv X pins Z H s) (e:H a=some (.dD ep xs)) (kr:jd s.heap xs) (hk:Reads s.heap u k as) (ky:kyB k=true) (rj:RelV j u) (rv:RelV v r) (hl:xs.length < sizeLine)
  (q:∀ ep' s',Inv X pins Z (upd H a (.dD ep' (nU xs k j v))) s'->(∀ b o,b≠a->s.heap.get? b=some o->s'.heap.get? b=some o)->Q () s'):wpAny (model X.prog X.w) A (dictSet a u r) Q E s:=by
 obtain ⟨T,hd⟩:=nQ I e;obtain ⟨z,_,nd,o,es,g1,g2,g3,g4⟩:=(show bJ X.prog X.w H s.heap a (.dD ep xs) from I.hok _ _ e);have hsz:es.size=xs.length:=by rw [Paired.length g4];simp
 unfold dictSet dictSetHashed;refine Kc (Jk (wV 6 hk (ai.mp ky).1 (ai.mp ky).2.2 hu fun t=>Kc ?_));have hl':(nU xs k j v).length<=sizeLine:=by have:=oZ (xs:=xs) (k:=k) (j:=j) (v:=v);omega
 refine Jk (xF (s:={ s with toks:=t }) hu hk ky g1 g3 (tE (P:=X.prog) kr nd g4) (fun hno=>?_) fun i hi=>?_)
 ·have fn:=sF (s:=s) kr ky hno;refine Jk (Le (wpAny_updateDictKeys (s:={ s with toks:=t }) (hz:=by omega) g1 g3 (q (ep+1) _ (mw (t':=t) (I.tok t) (by rw [e];exact True.intro) (KR ..) ⟨_,Kl _ g1 (Obj.isFreed_of_dict (Obj.data_mapDictKeys g3 _))⟩ ?_) fun b o hb e=>(KU _ _ (Ne.symm hb)).trans e)));refine ⟨hl',hd,?_,_,_,Kl _ g1 (Obj.isFreed_of_dict (Obj.data_mapDictKeys g3 _)),g2.mapDictKeys _,Obj.data_mapDictKeys g3 _,?_⟩
  ·rw [oU fn,Kb,List.nodup_append];refine ⟨nd,by simp,fun y hy z hz=>?_⟩;simp only [List.map_cons,List.map_nil,Jv] at hz;subst hz;rintro rfl;obtain ⟨i,hi⟩:=J0.mp hy;exact hno i hi
  ·rw [oU fn,LF];exact Paired.snoc g4 ⟨rfl,rj,rv⟩
 ·obtain ⟨x,hx,e1,e2⟩:=t7 (s:=s) kr nd ky hi;refine Jk (Le (Jk (wpAny_updateDict (s:={ s with toks:=t }) g1 g3 (wpAny_point (q ep _ (mw (t':=t) (I.tok t) (by rw [e];exact True.intro) (KR ..) ⟨_,Kl _ g1 (Obj.isFreed_of_dict (Obj.data_mapDict g3 _))⟩ ?_) fun b o hb e=>(KU _ _ (Ne.symm hb)).trans e)))));refine ⟨hl',hd,?_,_,_,Kl _ g1 (Obj.isFreed_of_dict (Obj.data_mapDict g3 _)),g2.mapDict _,Obj.data_mapDict g3 _,?_⟩
  ·rw [pA e2,Km];have:(xs.map ((fun x:PyData×V×V=>x.1)∘fun y=>if PyData.eqv y.1 k=true then (y.1,y.2.1,v) else y))=xs.map (·.1):=Lq fun y _=>by
    show (if PyData.eqv y.1 k=true then (y.1,y.2.1,v) else y).1=y.1;split <;> rfl
   rw [this];exact nd
  ·rw [pA e2,Array.toList_modify];exact sD ky rv kr nd hi g4
theorem GI (hu:A.units+7 < cLine) (I:Inv X pins Z H s) (e:H a=some (.dD ep xs)) (kr:jd s.heap xs) (hk:Reads s.heap u k as) (ky:kyB k=true) (rj:RelV j u) (rv:RelV v r) (hl:xs.length < sizeLine)
  (q:∀ ep' s',Inv X pins Z (upd H a (.dD ep' (nU xs k j v))) s'->Q () s'):wpAny (model X.prog X.w) A (setItem (.ref a) u r) Q E s:=by
 obtain ⟨T,hd⟩:=nQ I e;unfold setItem;refine Kc (Jk (wpAny_sequenceKey T (by decide) (Jk (K7 (name:=Str.ofString "__setitem__") T slot_dict_setitem (Kj slot_dict_setitem T entry_dict_setitem ?_ (args_dict_setitem _ _ _))))));refine Jk (m:=Builtin.Dict.notOrdered "__setitem__" ⟨[.ref a,u,r],[]⟩) (wpAny_notOrdered_dict T ?_);exact Jk (m:=dictSet a u r) (Fi (by have:A.in1.units=A.units+1:=rfl;omega) I e kr hk ky rj rv hl fun ep' s' I' _=>Jn ⟨.none,rfl,Jn (q ep' s' I')⟩)
end
open PySem PySem.Spec PyProof.Rows
section
variable {P:Program} {w:World} {A:Around} {E:Value->Shared->Prop} {s:Shared} {it d:Addr} {o od:Obj} {es:Array DictEntry} {i ep:Nat}
theorem Ao (hd:(d==sysModules)=false) (g1:s.heap.get? d=some od) (g2:od.ExactDict) (g3:od.data=.dict es ep)
  (q:Q (.ref s.heap.objs.size) { s with heap:=s.heap.push { cls:=.type "dict_keyiterator", data:=.fields #[.ref d,.int 0 0,.int es.size 0,.int ep 0] } }):wpAny (model P w) A (pyIter (.ref d)) Q E s:=by
 have T:s.TypeIs (.ref d) "dict" := ⟨od,g1,g2.1⟩;refine wpAny_pyIter_slot T F.slot_dict_iter (Kj F.slot_dict_iter T F.entry_dict_iter ?_ (F.args_dict_iter_1 _));unfold Builtin.«dict.__iter__» Builtin.Dict.dictSlotNone
 refine Jk (Jk (wpAny_notOrdered_dict T ?_));show wpAny _ _ (pure (Value.ref d):Sem Value) _ _ s;refine Jn ?_;show wpAny _ _ (Builtin.Dict.showsAll d>>=_) _ _ s;unfold Builtin.Dict.showsAll;rw [JD (by rw [hd];exact Kw)];refine Jk (Jn (Jk (LY g1 g3 (Jk (K0 g1 g3 ?_)))));exact Jk (Kp (Jn ⟨_,rfl, "dict_keyiterator", _,⟨_,JN _ rfl,rfl⟩,LO.lookup,q⟩))
theorem Ds (hit:s.heap.IsKeyIter it d i es.size ep) (g1:s.heap.get? d=some od) (g3:od.data=.dict es ep) (he:es[i]?=some e)
  (q:∀ h',h'.IsKeyIter it d (i+1) es.size ep->Heap.SameBut it s.heap h'->Q (some e.key) { s with heap:=h' }):wpAny (model P w) A (pyNext (.ref it)) Q E s:=by
 obtain ⟨ob,ho,hc,hd⟩:=id hit;have T:=hit.typeIs;unfold pyNext;refine Jk (wpAny_attempt (K7 (name:=Str.ofString "__next__") T LO (Kj LO T F.entry_dict_keyiterator_next ?_ (F.args_dict_keyiterator_next_1 _))));refine Jk (Jn (Jk (Jk ?_)));first | refine Jk (LN T (Jn (Jk (LS ho hd ?_)))) | refine Jk (LZ T (Jn (Jk (LS ho hd ?_))))
 simp only [show Builtin.Dict_items.ownsTuple "dict_keyiterator" = false by decide,J4,Kv];show wpAny _ _ (if (Value.ref d==Value.none)=true then _ else _) _ _ s;rw [JD (show ¬((Value.ref d==Value.none)=true) from Kw)];refine Jk (Jn (Jk (LY g1 g3 ?_)));rw [JD (by simp)];refine Jk (Jn (Jk (K0 g1 g3 ?_)));rw [JD (by simp)];refine Jn ?_;simp only [show ¬((i:Int) < 0) from by omega,Kv,Li,he];refine Jk ?_;first | refine Jk (LN T (Jn (Jk (wpAny_isOneOf_keyiter T ?_)))) | refine Jk (LZ T (Jn (Jk (wpAny_isOneOf_keyiter T ?_))))
 show wpAny _ _ (setField (.ref it) 1 (rawInt ((i:Int)+1))>>=_) _ _ s;have hit':(s.heap.update it (Obj.mapFields (·.setIfInBounds 1 (rawInt ((i:Int)+1))))).IsKeyIter it d (i+1) es.size ep :=
  ⟨_,Kl _ ho (Obj.isFreed_of_fields (Obj.data_mapFields hd _)),(Obj.cls_mapFields ..).trans hc,by rw [Obj.data_mapFields hd];simp [rawInt]⟩
 refine Jk (wpAny_setField ho hd (by simp) (Jk (Kc ?_)));refine Jk (wpAny_isOneOf_keyiter (s:={ s with heap:=s.heap.update it (Obj.mapFields (·.setIfInBounds 1 (rawInt ((i:Int)+1)))) }) hit'.typeIs ?_);show wpAny _ _ (pure e.key:Sem Value) _ _ _;exact Jn (Jn ⟨_,rfl,Jn (q _ hit' (KR ..))⟩)
theorem Ej (hh:A.handled=none) (hit:s.heap.IsKeyIter it d i es.size ep) (g1:s.heap.get? d=some od) (g3:od.data=.dict es ep) (he:es.size<=i)
  (q:∀ h',Heap.ExtBut it s.heap h'->Q none { s with heap:=h' }):wpAny (model P w) A (pyNext (.ref it)) Q E s:=by
 obtain ⟨ob,ho,hc,hd⟩:=id hit;have T:=hit.typeIs;unfold pyNext;refine Jk (wpAny_attempt (K7 (name:=Str.ofString "__next__") T LO (Kj LO T F.entry_dict_keyiterator_next ?_ (F.args_dict_keyiterator_next_1 _))));refine Jk (Jn (Jk (Jk ?_)));first | refine Jk (LN T (Jn (Jk (LS ho hd ?_)))) | refine Jk (LZ T (Jn (Jk (LS ho hd ?_))))
 simp only [show Builtin.Dict_items.ownsTuple "dict_keyiterator" = false by decide,J4,Kv];show wpAny _ _ (if (Value.ref d==Value.none)=true then _ else _) _ _ s;rw [JD (show ¬((Value.ref d==Value.none)=true) from Kw)];refine Jk (Jn (Jk (LY g1 g3 ?_)));rw [JD (by simp)];refine Jk (Jn (Jk (K0 g1 g3 ?_)));rw [JD (by simp)];refine Jn ?_;simp only [show ¬((i:Int) < 0) from by omega,Kv,Li,Ma he];refine Jk ?_;first | refine Jk (LN T (Jn ?_)) | refine Jk (LZ T (Jn ?_))
 show wpAny _ _ (setField (.ref it) 0 .none>>=_) _ _ s;refine Jk (wpAny_setField ho hd (by simp) ?_);show wpAny _ _ (newExc (.type "StopIteration") []>>=_) _ _ _;refine Jk ?_;simp only [newExc,newTuple];refine Jk (Kp (Jk (m:=firstArgMember _ _) (wpAny_of_eq (a:=Value.none) (by first | rfl | (simp only [firstArgMember];rfl)) (Kp ?_ (by size_fits)))) (by size_fits));simp only [raiseNew];refine Jk (wpAny_handled ?_);rw [show A.in1.handled=none from hh];refine Jk (Jn (wpAny_throw ?_));refine Jk (wpAny_isInstance (b:=true) (T := "StopIteration") ⟨_,JN _ rfl,rfl⟩ isSubtype_stop ?_);exact Jn (q _ (((KR ..).extBut.push _).push _))
end
open PySem
def II (K:Fg) (a:Addr) (xs:List V):Prop:=∃ (o:Obj) (its:Array Value) (n:Nat),K.lookup a=some o/\o.cls=.type "list" /\ o.dict=none/\o.data=.seq its n/\its.size<=sizeLine/\Vals xs its.toList
def LsF (K:Fg) (F:Addr->Prop) (H:Hp) (a:Addr) (xs:List V):Prop:=(¬F a/\Rd H a (.lst xs))\/II K a xs
mutual
def Dm (K:Fg) (F:Addr->Prop) (H:Hp):PyData->V->Prop
 | .none,v=>v=.non
 | .bool b,v=>v=.bl b
 | .int i,v=>v=.int i
 | .str x,v=>v=.str x/\x.length<=sizeLine/\PyData.strOk x=true
 | .list ds,v=>∃ a xs,v=.ref a/\LsF K F H a xs/\xs.length<=sizeLine/\DmL K F H ds xs
 | .tuple ds,v=>∃ a xs,v=.ref a/\SqT K H a xs/\xs.length<=sizeLine/\DmL K F H ds xs
 | .dict kvs,v=>∃ a ep xs,v=.ref a/\¬F a/\H a=some (.dD ep xs)/\xs.length<=sizeLine/\DmP K F H kvs xs
def DmL (K:Fg) (F:Addr->Prop) (H:Hp):List PyData->List V->Prop
 | [],vs=>vs=[]
 | d :: ds,vs=>∃ v r,vs=v :: r/\Dm K F H d v/\DmL K F H ds r
def DmP (K:Fg) (F:Addr->Prop) (H:Hp):List (PyData×PyData)->List (PyData×V×V)->Prop
 | [],vs=>vs=[]
 | (k,d) :: ds,vs=>∃ j v r,vs=(k,j,v) :: r/\hk6 k=true/\Dm K F H k j/\Dm K F H d v/\DmP K F H ds r
end
noncomputable def Wr:HO->Bool | .lst _=>true | .dD _ _=>true | _=>false
def Pr (F:Addr->Prop) (H H':Hp):Prop:=∀ b o,H b=some o->(¬F b\/Wr o=false)->H' b=some o
section
variable {K:PySem.W.Frag} {F F':Addr->Prop} {H H':Hp}
theorem SqT.pr (p:Pr F H H') (h:SqT K H a xs):SqT K H' a xs:=by
 rcases h with (h | ⟨o,h⟩) | h
 ·exact .inl (.inl (p _ _ h (.inr rfl)))
 ·exact .inl (.inr ⟨o,p _ _ h (.inr rfl)⟩)
 ·exact .inr h
theorem LsF.pr (p:Pr F H H') (hf:∀ b,F' b->F b) (h:LsF K F H a xs):LsF K F' H' a xs:=by
 rcases h with ⟨n,h | ⟨o,h⟩⟩ | h
 ·exact .inl ⟨fun z=>n (hf _ z),.inl (p _ _ h (.inl n))⟩
 ·exact .inl ⟨fun z=>n (hf _ z),.inr ⟨o,p _ _ h (.inl n)⟩⟩
 ·exact .inr h
mutual
theorem Dm.pr (p:Pr F H H') (hf:∀ b,F' b->F b):∀ {d:PyData} {v:V},Dm K F H d v->Dm K F' H' d v
 | .none,v,h=>h
 | .bool b,v,h=>h
 | .int i,v,h=>h
 | .str x,v,h=>h
 | .list ds,v,h=>by
  obtain ⟨a,xs,e,l,z,r⟩:=h;exact ⟨a,xs,e,l.pr p hf,z,DmL.pr p hf r⟩
 | .tuple ds,v,h=>by
  obtain ⟨a,xs,e,l,z,r⟩:=h;exact ⟨a,xs,e,l.pr p,z,DmL.pr p hf r⟩
 | .dict kvs,v,h=>by
  obtain ⟨a,ep,xs,e,n,l,z,r⟩:=h;exact ⟨a,ep,xs,e,fun q=>n (hf _ q),p _ _ l (.inl n),z,DmP.pr p hf r⟩
theorem DmL.pr (p:Pr F H H') (hf:∀ b,F' b->F b):∀ {ds:List PyData} {vs:List V},DmL K F H ds vs->DmL K F' H' ds vs
 | [],vs,h=>h
 | d :: ds,vs,h=>by
  obtain ⟨v,r,e,h1,h2⟩:=h;exact ⟨v,r,e,Dm.pr p hf h1,DmL.pr p hf h2⟩
theorem DmP.pr (p:Pr F H H') (hf:∀ b,F' b->F b):∀ {ds:List (PyData×PyData)} {vs:List (PyData×V×V)},DmP K F H ds vs->DmP K F' H' ds vs
 | [],vs,h=>h
 | (k,d) :: ds,vs,h=>by
  obtain ⟨j,v,r,e,e2,h0,h1,h2⟩:=h;exact ⟨j,v,r,e,e2,Dm.pr p hf h0,Dm.pr p hf h1,DmP.pr p hf h2⟩
end
theorem LsF.fresh (hc:H c=none) (h:LsF K F H a xs):LsF K (fun b=>F b\/b=c) H a xs:=by
 rcases h with ⟨n,h⟩ | h
 ·refine .inl ⟨fun z=>z.elim n fun e=>?_,h⟩;subst e;rcases h with h | ⟨o,h⟩ <;> (rw [hc] at h;cases h)
 ·exact .inr h
mutual
theorem Dm.fresh (hc:H c=none):∀ {d:PyData} {v:V},Dm K F H d v->Dm K (fun b=>F b\/b=c) H d v
 | .none,v,h=>h
 | .bool b,v,h=>h
 | .int i,v,h=>h
 | .str x,v,h=>h
 | .list ds,v,h=>by
  obtain ⟨a,xs,e,l,z,r⟩:=h;exact ⟨a,xs,e,l.fresh hc,z,DmL.fresh hc r⟩
 | .tuple ds,v,h=>by
  obtain ⟨a,xs,e,l,z,r⟩:=h;exact ⟨a,xs,e,l,z,DmL.fresh hc r⟩
 | .dict kvs,v,h=>by
  obtain ⟨a,ep,xs,e,n,l,z,r⟩:=h;exact ⟨a,ep,xs,e,fun q=>q.elim n fun q=>(by subst q;rw [hc] at l;cases l),l,z,DmP.fresh hc r⟩
theorem DmL.fresh (hc:H c=none):∀ {ds:List PyData} {vs:List V},DmL K F H ds vs->DmL K (fun b=>F b\/b=c) H ds vs
 | [],vs,h=>h
 | d :: ds,vs,h=>by
  obtain ⟨v,r,e,h1,h2⟩:=h;exact ⟨v,r,e,Dm.fresh hc h1,DmL.fresh hc h2⟩
theorem DmP.fresh (hc:H c=none):∀ {ds:List (PyData×PyData)} {vs:List (PyData×V×V)},DmP K F H ds vs->DmP K (fun b=>F b\/b=c) H ds vs
 | [],vs,h=>h
 | (k,d) :: ds,vs,h=>by
  obtain ⟨j,v,r,e,e2,h0,h1,h2⟩:=h;exact ⟨j,v,r,e,e2,Dm.fresh hc h0,Dm.fresh hc h1,DmP.fresh hc h2⟩
end
theorem Pr.refl:Pr F H H:=fun _ _ h _=>h
theorem Pr.trans (a:Pr F H H1) (b:Pr F' H1 H2) (hf:∀ b,F' b->F b):Pr F H H2:=fun c o h n=>b c o (a c o h n) (n.imp (fun z q=>z (hf _ q)) id)
theorem Pr.of_same (a:aE H H'):Pr F H H':=fun c o h _=>a c o h
theorem Dm.mono (hf:∀ b,F' b->F b) (h:Dm K F H d v):Dm K F' H d v:=h.pr Pr.refl hf
theorem DmL.mono (hf:∀ b,F' b->F b) (h:DmL K F H d v):DmL K F' H d v:=h.pr Pr.refl hf
theorem DmL.len:∀ {ds:List PyData} {vs:List V},DmL K F H ds vs->vs.length=ds.length
 | [],vs,h=>by rw [show vs=[] from h];rfl
 | d :: ds,vs,h=>by
  obtain ⟨v,r,e,h1,h2⟩:=h;rw [e,JL,JL,DmL.len h2]
theorem DmL.get:∀ {ds:List PyData} {vs:List V} {i:Nat} {d:PyData},DmL K F H ds vs->ds[i]?=some d->∃ v,vs[i]?=some v/\Dm K F H d v
 | [],vs,_,_,h,e=>by simp at e
 | d :: ds,vs,0,d',h,e=>by
  obtain ⟨v,r,e1,h1,h2⟩:=h;simp at e;subst e;subst e1;exact ⟨v,rfl,h1⟩
 | d :: ds,vs,i+1,d',h,e=>by
  obtain ⟨v,r,e1,h1,h2⟩:=h;subst e1;obtain ⟨w,q1,q2⟩:=DmL.get (i:=i) h2 (by simpa using e);exact ⟨w,by simpa using q1,q2⟩
theorem DmL.get' {ds:List PyData} {vs:List V} {i:Nat} {v:V} (h:DmL K F H ds vs) (e:vs[i]?=some v):∃ d,ds[i]?=some d/\Dm K F H d v:=by
 have hl:=h.len;have hi:i < vs.length:=(Jo.mp e).1;have hd:ds[i]?=some (ds[i]'(by omega)):=Jl _;obtain ⟨w,e2,q⟩:=h.get hd;rw [e] at e2;cases e2;exact ⟨_,hd,q⟩
theorem DmL.app:∀ {ds es:List PyData} {vs ws:List V},DmL K F H ds vs->DmL K F H es ws->DmL K F H (ds++es) (vs++ws)
 | [],es,vs,ws,h,q=>by rw [show vs=[] from h];exact q
 | d :: ds,es,vs,ws,h,q=>by
  obtain ⟨v,r,e,h1,h2⟩:=h;subst e;exact ⟨v,r++ws,rfl,h1,DmL.app h2 q⟩
theorem DmL.snoc (h:DmL K F H ds vs) (q:Dm K F H d v):DmL K F H (ds++[d]) (vs++[v]):=h.app ⟨v,[],rfl,q,rfl⟩
def Top (K:PySem.W.Frag) (F:Addr->Prop) (H:Hp):PyData->Addr->Prop
 | .list ds,a=>∃ xs,H a=some (.lst xs)/\xs.length<=sizeLine/\DmL K F H ds xs
 | .dict kvs,a=>∃ ep xs,H a=some (.dD ep xs)/\xs.length<=sizeLine/\DmP K F H kvs xs
 | _,_=>False
def Ag (K:PySem.W.Frag) (F:Addr->Prop) (H:Hp):PyData->Addr->Prop
 | .list ds,a=>∃ xs,SqL K H a xs/\xs.length<=sizeLine/\DmL K F H ds xs
 | .dict kvs,a=>∃ ep xs,H a=some (.dD ep xs)/\xs.length<=sizeLine/\DmP K F H kvs xs
 | _,_=>False
def Vw (K:PySem.W.Frag) (F:Addr->Prop) (H:Hp):PyData->V->Prop
 | .list ds,v=>∃ a,v=.ref a/\Ag K F H (.list ds) a
 | .dict ds,v=>∃ a,v=.ref a/\Ag K F H (.dict ds) a
 | d,v=>Dm K F H d v
theorem Top.r (h:Top K F H d a):Ag K F H d a:=by
 cases d with
 | list ds=>obtain ⟨xs,e,z,r⟩:=h;exact ⟨xs,.inl (.inl e),z,r⟩
 | dict ds=>exact h
 | _=>exact h
theorem Ag.vw (h:Ag K F H d a):Vw K F H d (.ref a):=by
 cases d with
 | list ds=>exact ⟨a,rfl,h⟩
 | dict ds=>exact ⟨a,rfl,h⟩
 | _=>exact absurd h id
theorem Dm.vw (h:Dm K F H d v):Vw K F H d v:=by
 cases d with
 | list ds =>
  obtain ⟨a,xs,e,l,z,r⟩:=h;refine ⟨a,e,xs,?_,z,r⟩;rcases l with ⟨n,l⟩ | l
  ·exact .inl l
  ·exact .inr l
 | dict ds=>obtain ⟨a,ep,xs,e,n,l,z,r⟩:=h;exact ⟨a,e,ep,xs,l,z,r⟩
 | _=>exact h
theorem Top.dm (h:Top K F H d a) (n:¬F a):Dm K F H d (.ref a):=by
 cases d with
 | list ds=>obtain ⟨xs,e,z,r⟩:=h;exact ⟨a,xs,rfl,.inl ⟨n,.inl e⟩,z,r⟩
 | dict ds=>obtain ⟨ep,xs,e,z,r⟩:=h;exact ⟨a,ep,xs,rfl,n,e,z,r⟩
 | _=>exact absurd h id
theorem Top.wr (h:Top K F H d a):∃ o,H a=some o/\Wr o=true:=by
 cases d with
 | list ds=>obtain ⟨xs,e,_⟩:=h;exact ⟨_,e,rfl⟩
 | dict ds=>obtain ⟨ep,xs,e,_⟩:=h;exact ⟨_,e,rfl⟩
 | _=>exact absurd h id
theorem Top.pr (h:Top K F H d a) (p:Pr F H H') (hf:∀ b,F' b->F b) (ha:∀ o,H a=some o->H' a=some o):Top K F' H' d a:=by
 cases d with
 | list ds=>obtain ⟨xs,e,z,r⟩:=h;exact ⟨xs,ha _ e,z,r.pr p hf⟩
 | dict ds=>obtain ⟨ep,xs,e,z,r⟩:=h;exact ⟨ep,xs,ha _ e,z,r.pr p hf⟩
 | _=>exact absurd h id
theorem Top.fresh (hc:H c=none) (h:Top K F H d a):Top K (fun b=>F b\/b=c) H d a:=by
 cases d with
 | list ds=>obtain ⟨xs,e,z,r⟩:=h;exact ⟨xs,e,z,r.fresh hc⟩
 | dict ds=>obtain ⟨ep,xs,e,z,r⟩:=h;exact ⟨ep,xs,e,z,r.fresh hc⟩
 | _=>exact absurd h id
end
open PySem
inductive Sl where | un | dat (d:PyData) | own (d:PyData) | ino (d:PyData) | ro (d:PyData)
abbrev En:=List Sl
inductive RV where | dat (d:PyData) | bor (i:Nat) | frs (d:PyData)
inductive PR where | dat (d:PyData) | frs (d:PyData)
inductive AV where | dat (d:PyData) | bor (i:Nat)
inductive PM where | dat | bor | ino
noncomputable def PR.rv:PR->RV | .dat d=>.dat d | .frs d=>.frs d
noncomputable def RV.av:RV->AV | .dat d=>.dat d | .frs d=>.dat d | .bor i=>.bor i
structure Fn where
 ms:List PM
 F:List PyData->Option (PR×List PyData)
noncomputable def cont (env:En) (i:Nat):Option PyData:=match env[i]? with | some (.own d)=>some d | some (.ino d)=>some d | some (.ro d)=>some d | _=>none
noncomputable def aU (env:En) (i:Nat):Option PyData:=match env[i]? with | some (.own d)=>some d | some (.ino d)=>some d | _=>none
noncomputable def gq (env:En) (i:Nat) (d:PyData):En:=match env[i]? with | some (.own _)=>env.set i (.own d) | some (.ino _)=>env.set i (.ino d) | _=>env
noncomputable def AV.view (env:En):AV->Option PyData | .dat d=>some d | .bor i=>cont env i
noncomputable def RV.view (env:En) (r:RV):Option PyData:=r.av.view env
def mu (env:En) (i:Nat):Prop:=∃ d,env[i]?=some (.own d)\/env[i]?=some (.ino d)
def IA (env:En) (Z:St) (b:Addr):Prop:=∃ i,mu env i/\Z[i]?=some (some (.ref b))
def FF (F0:Addr->Prop) (env:En) (Z:St) (b:Addr):Prop:=F0 b\/∃ (i:Nat) (d:PyData),env[i]?=some (.own d)/\Z[i]?=some (some (.ref b))
def iO (K:Fg) (F I:Addr->Prop) (H:Hp):PyData->Addr->Prop
 | .list ds,a=>∃ xs,LsF K I H a xs/\xs.length<=sizeLine/\DmL K F H ds xs
 | .dict kvs,a=>∃ ep xs,¬I a/\H a=some (.dD ep xs)/\xs.length<=sizeLine/\DmP K F H kvs xs
 | _,_=>False
structure Rel (K:Fg) (F0:Addr->Prop) (ZW:Hp) (I:Addr->Prop) (env:En) (Z:St) (H:Hp):Prop where
 len:env.length=Z.length
 dat:∀ (i:Nat) (d:PyData),env[i]?=some (.dat d)->∃ v,Z[i]?=some (some v)/\Dm K (FF F0 env Z) H d v
 own:∀ (i:Nat) (d:PyData),env[i]?=some (.own d)->∃ a,Z[i]?=some (some (.ref a))/\¬F0 a/\(ZW a=none\/I a)/\Top K (FF F0 env Z) H d a
 ino:∀ (i:Nat) (d:PyData),env[i]?=some (.ino d)->∃ a,Z[i]?=some (some (.ref a))/\F0 a/\I a/\Top K (FF F0 env Z) H d a
 ro:∀ (i:Nat) (d:PyData),env[i]?=some (.ro d)->∃ a,Z[i]?=some (some (.ref a))/\iO K (FF F0 env Z) (IA env Z) H d a
 sep:∀ i j a,mu env i->mu env j->Z[i]?=some (some (.ref a))->Z[j]?=some (some (.ref a))->i=j
 dom:∀ b,F0 b->H b≠none
 eR:∀ b o,ZW b=some o->¬I b->H b=some o
section
variable {K:Fg} {F F' I I' F0:Addr->Prop} {H H' ZW:Hp} {env env':En} {Z Z':St}
theorem iO.r (h:iO K F I H d a):Ag K F H d a:=by
 cases d with
 | list ds =>
  obtain ⟨xs,l,z,r⟩:=h;exact ⟨xs,l.elim (fun q=>.inl q.2) .inr,z,r⟩
 | dict ds=>obtain ⟨ep,xs,n,l,z,r⟩:=h;exact ⟨ep,xs,l,z,r⟩
 | _=>exact absurd h id
theorem iO.pr (h:iO K F I H d a) (p:Pr F H H') (hf:∀ b,F' b->F b) (hi:∀ b,I' b->I b) (k:∀ b o,H b=some o->¬I b->H' b=some o):iO K F' I' H' d a:=by
 cases d with
 | list ds =>
  obtain ⟨xs,l,z,r⟩:=h;refine ⟨xs,?_,z,r.pr p hf⟩;rcases l with ⟨n,l | ⟨o,l⟩⟩ | l
  ·exact .inl ⟨fun q=>n (hi _ q),.inl (k _ _ l n)⟩
  ·exact .inl ⟨fun q=>n (hi _ q),.inr ⟨o,k _ _ l n⟩⟩
  ·exact .inr l
 | dict ds=>obtain ⟨ep,xs,n,l,z,r⟩:=h;exact ⟨ep,xs,fun q=>n (hi _ q),k _ _ l n,z,r.pr p hf⟩
 | _=>exact absurd h id
theorem iO.fresh (hc:H c=none) (h:iO K F I H d a):iO K (fun b=>F b\/b=c) I H d a:=by
 cases d with
 | list ds=>obtain ⟨xs,e,z,r⟩:=h;exact ⟨xs,e,z,r.fresh hc⟩
 | dict ds=>obtain ⟨ep,xs,n,e,z,r⟩:=h;exact ⟨ep,xs,n,e,z,r.fresh hc⟩
 | _=>exact absurd h id
theorem Dm.ro (h:Dm K F H d v) (hi:∀ b,I b->F b) (l:(∃ ds,d=.list ds)\/∃ ds,d=.dict ds):∃ a,v=.ref a/\iO K F I H d a:=by
 rcases l with ⟨ds,rfl⟩ | ⟨ds,rfl⟩
 ·obtain ⟨a,xs,e,l,z,r⟩:=h;exact ⟨a,e,xs,l.elim (fun q=>.inl ⟨fun z=>q.1 (hi _ z),q.2⟩) .inr,z,r⟩
 ·obtain ⟨a,ep,xs,e,n,l,z,r⟩:=h;exact ⟨a,e,ep,xs,fun q=>n (hi _ q),l,z,r⟩
theorem Top.ro (h:Top K F H d a) (n:¬I a):iO K F I H d a:=by
 cases d with
 | list ds=>obtain ⟨xs,e,z,r⟩:=h;exact ⟨xs,.inl ⟨n,.inl e⟩,z,r⟩
 | dict ds=>obtain ⟨ep,xs,e,z,r⟩:=h;exact ⟨ep,xs,n,e,z,r⟩
 | _=>exact absurd h id
theorem Rel.ia (R:Rel K F0 ZW I env Z H) (h:IA env Z b):FF F0 env Z b:=by
 obtain ⟨i,⟨d,e | e⟩,s⟩:=h
 ·exact .inr ⟨i,d,e,s⟩
 ·obtain ⟨a,s',f,_⟩:=R.ino i d e;rw [s] at s';cases s';exact .inl f
theorem Rel.iaT (R:Rel K F0 ZW I env Z H) (h:IA env Z b):∃ o,H b=some o/\Wr o=true:=by
 obtain ⟨i,⟨d,e | e⟩,s⟩:=h
 ·obtain ⟨a,s',_,_,t⟩:=R.own i d e;rw [s] at s';cases s';exact t.wr
 ·obtain ⟨a,s',_,_,t⟩:=R.ino i d e;rw [s] at s';cases s';exact t.wr
theorem Rel.iaI (R:Rel K F0 ZW I env Z H) (h:IA env Z b):ZW b=none\/I b:=by
 obtain ⟨i,⟨d,e | e⟩,s⟩:=h
 ·obtain ⟨a,s',_,q,t⟩:=R.own i d e;rw [s] at s';cases s';exact q
 ·obtain ⟨a,s',_,q,t⟩:=R.ino i d e;rw [s] at s';cases s';exact .inr q
theorem Rel.d8 (R:Rel K F0 ZW I env Z H) (h:FF F0 env Z b):H b≠none:=by
 rcases h with h | ⟨i,d,e,s⟩
 ·exact R.dom b h
 ·obtain ⟨o,q,_⟩:=R.iaT ⟨i,⟨d,.inl e⟩,s⟩;rw [q];exact nofun
theorem Rel.pN (R:Rel K F0 ZW I env Z H) (k:∀ b o,H b=some o->¬IA env Z b->H' b=some o):Pr (FF F0 env Z) H H':=fun b o h n=>k b o h fun q=>by
 rcases n with n | n
 ·exact n (R.ia q)
 ·obtain ⟨o',h',w⟩:=R.iaT q;rw [h] at h';cases h';rw [n] at w;cases w
theorem Rel.rebase (R:Rel K F0 ZW I env Z H):Rel K F0 H (IA env Z) env Z H :=
 ⟨R.len,R.dat,fun i d e=>let ⟨a,s,n,_,t⟩:=R.own i d e;⟨a,s,n,.inr ⟨i,⟨d,.inl e⟩,s⟩,t⟩,fun i d e=>let ⟨a,s,n,_,t⟩:=R.ino i d e;⟨a,s,n,⟨i,⟨d,.inr e⟩,s⟩,t⟩,R.ro,R.sep,R.dom,fun _ _ h _=>h⟩
theorem Rel.oi (R:Rel K F0 ZW I env Z H) (h:H a=none\/IA env Z a):ZW a=none\/I a:=by
 rcases h with h | h
 ·cases e:ZW a with
  | none=>exact .inl rfl
  | some o =>
   by_cases z:I a
   ·exact .inr z
   ·have:=R.eR a o e z;rw [h] at this;cases this
 ·exact R.iaI h
theorem Rel.a8 (R:Rel K F0 ZW I env Z H) (S:Rel K F0 H (IA env Z) env' Z' H'):Rel K F0 ZW I env' Z' H':=by
 refine ⟨S.len,S.dat,fun i d e=>?_,fun i d e=>?_,S.ro,S.sep,S.dom,fun b o h n=>?_⟩
 ·obtain ⟨a,s,n,q,t⟩:=S.own i d e;exact ⟨a,s,n,R.oi q,t⟩
 ·obtain ⟨a,s,n,q,t⟩:=S.ino i d e;refine ⟨a,s,n,?_,t⟩;obtain ⟨j,⟨d',e' | e'⟩,s'⟩:=q
  ·obtain ⟨a',s2,n',_⟩:=R.own j d' e';rw [s'] at s2;cases s2;exact absurd n n'
  ·obtain ⟨a',s2,_,n',_⟩:=R.ino j d' e';rw [s'] at s2;cases s2;exact n'
 ·refine S.eR b o (R.eR b o h n) fun q=>?_;rcases R.iaI q with z | z
  ·rw [h] at z;cases z
  ·exact n z
def Evo:Sl->Sl->Prop
 | .un,s=>s=.un
 | .dat d,s=>s=.dat d
 | .own _,s=>(∃ d,s=.own d)\/(∃ d,s=.dat d)\/s=.un
 | .ino _,s=>∃ d,s=.ino d
 | .ro d,s=>s=.ro d
def KpE (env env':En):Prop:=env'.length=env.length/\∀ (i:Nat) (s:Sl),env[i]?=some s->∃ s',env'[i]?=some s'/\Evo s s'
theorem Evo.refl:∀ s,Evo s s
 | .un=>rfl
 | .dat _=>rfl
 | .own d=>.inl ⟨d,rfl⟩
 | .ino d=>⟨d,rfl⟩
 | .ro _=>rfl
theorem Evo.trans:∀ {a b c:Sl},Evo a b->Evo b c->Evo a c
 | .un,b,c,h,q=>by rw [show b=.un from h] at q;exact q
 | .dat d,b,c,h,q=>by rw [show b=.dat d from h] at q;exact q
 | .own d,b,c,h,q=>by
  rcases h with ⟨d,rfl⟩ | ⟨d,rfl⟩ | rfl
  ·exact q
  ·exact .inr (.inl ⟨d,q⟩)
  ·exact .inr (.inr q)
 | .ino d,b,c,h,q=>by obtain ⟨d,rfl⟩:=h;exact q
 | .ro d,b,c,h,q=>by rw [show b=.ro d from h] at q;exact q
theorem KpE.refl (env:En):KpE env env:=⟨rfl,fun i s e=>⟨s,e,.refl s⟩⟩
theorem KpE.trans (a:KpE e1 e2) (b:KpE e2 e3):KpE e1 e3:=⟨b.1.trans a.1,fun i s e=>by
 obtain ⟨s1,h1,v1⟩:=a.2 i s e;obtain ⟨s2,h2,v2⟩:=b.2 i s1 h1
 exact ⟨s2,h2,v1.trans v2⟩⟩
theorem KpE.back (k:KpE env env') {i:Nat} {s':Sl} (e:env'[i]?=some s'):∃ s,env[i]?=some s/\Evo s s':=by
 have hi:i < env'.length:=(Jo.mp e).1;have:env[i]?=some (env[i]'(by rw [<- k.1];exact hi)):=Jl _;obtain ⟨s2,h2,v⟩:=k.2 i _ this;rw [e] at h2;cases h2;exact ⟨_,this,v⟩
theorem KpE.own (k:KpE env env') {i:Nat} {d:PyData} (e:env'[i]?=some (.own d)):∃ d',env[i]?=some (.own d'):=by
 obtain ⟨s,h,v⟩:=k.back e;cases s with
 | un=>cases v
 | dat _=>cases v
 | own d'=>exact ⟨d',h⟩
 | ino _=>obtain ⟨_,v⟩:=v;cases v
 | ro _=>cases v
theorem KpE.ff (k:KpE env env') {b:Addr} (h:FF F0 env' Z b):FF F0 env Z b:=by
 rcases h with h | ⟨i,d,e,s⟩
 ·exact .inl h
 ·obtain ⟨d',e'⟩:=k.own e;exact .inr ⟨i,d',e',s⟩
theorem KpE.mu (k:KpE env env') {i:Nat} (h:mu env' i):mu env i:=by
 obtain ⟨d,h | h⟩:=h
 ·obtain ⟨d',e⟩:=k.own h;exact ⟨d',.inl e⟩
 ·obtain ⟨s,h,v⟩:=k.back h;cases s with
  | un=>cases v
  | dat _=>cases v
  | own d'=>rcases v with ⟨_,v⟩ | ⟨_,v⟩ | v <;> cases v
  | ino d'=>exact ⟨d',.inr h⟩
  | ro _=>cases v
theorem KpE.ia (k:KpE env env') (h:IA env' Z b):IA env Z b:=let ⟨i,m,s⟩:=h;⟨i,k.mu m,s⟩
theorem Rel.n5 (R:Rel K F0 ZW I env Z H) (S:Rel K F0 H (IA env Z) env' Z H') (k:KpE env env') (h:Dm K (FF F0 env Z) H d v):Dm K (FF F0 env' Z) H' d v :=
 h.pr (R.pN fun b o e n=>S.eR b o e n) fun _ z=>k.ff z
theorem Rel.same (R:Rel K F0 ZW I env Z H) (s:aE H H'):Rel K F0 ZW I env Z H':=by
 have p:Pr (FF F0 env Z) H H':=Pr.of_same s;refine ⟨R.len,fun i d e=>?_,fun i d e=>?_,fun i d e=>?_,fun i d e=>?_,R.sep,fun b h=>?_,fun b o h n=>s _ _ (R.eR b o h n)⟩
 ·obtain ⟨v,q,r⟩:=R.dat i d e;exact ⟨v,q,r.pr p fun _ z=>z⟩
 ·obtain ⟨a,q,n,w,t⟩:=R.own i d e;exact ⟨a,q,n,w,t.pr p (fun _ z=>z) (fun o z=>s _ _ z)⟩
 ·obtain ⟨a,q,n,w,t⟩:=R.ino i d e;exact ⟨a,q,n,w,t.pr p (fun _ z=>z) (fun o z=>s _ _ z)⟩
 ·obtain ⟨a,q,t⟩:=R.ro i d e;exact ⟨a,q,t.pr p (fun _ z=>z) (fun _ z=>z) (fun b o z _=>s _ _ z)⟩
 ·cases e:H b with
  | none=>exact absurd e (R.dom b h)
  | some o=>rw [s _ _ e];exact nofun
theorem iL:FF (fun b=>F0 b\/b=c) env Z=fun b=>FF F0 env Z b\/b=c:=by
 funext b;apply propext;constructor
 ·rintro ((h | h) | h)
  ·exact .inl (.inl h)
  ·exact .inr h
  ·exact .inl (.inr h)
 ·rintro ((h | h) | h)
  ·exact .inl (.inl h)
  ·exact .inr h
  ·exact .inl (.inr h)
theorem Rel.fresh (R:Rel K F0 ZW I env Z H) (hc:H c=none) (s:aE H H') (hc':H' c≠none):Rel K (fun b=>F0 b\/b=c) ZW I env Z H':=by
 have p:Pr (fun b=>FF F0 env Z b\/b=c) H H':=Pr.of_same s;have na:∀ i a,mu env i->Z[i]?=some (some (.ref a))->a≠c:=fun i a m q z=>by
  obtain ⟨o,h,_⟩:=R.iaT ⟨i,m,q⟩;rw [z,hc] at h;cases h
 refine ⟨R.len,fun i d e=>?_,fun i d e=>?_,fun i d e=>?_,fun i d e=>?_,R.sep,fun b h=>?_,fun b o h n=>s _ _ (R.eR b o h n)⟩
 ·obtain ⟨v,q,r⟩:=R.dat i d e;rw [iL];exact ⟨v,q,(r.fresh hc).pr p fun _ z=>z⟩
 ·obtain ⟨a,q,n,w,t⟩:=R.own i d e;rw [iL];exact ⟨a,q,fun z=>z.elim n (na i a ⟨d,.inl e⟩ q),w,(t.fresh hc).pr p (fun _ z=>z) (fun o z=>s _ _ z)⟩
 ·obtain ⟨a,q,n,w,t⟩:=R.ino i d e;rw [iL];exact ⟨a,q,.inl n,w,(t.fresh hc).pr p (fun _ z=>z) (fun o z=>s _ _ z)⟩
 ·obtain ⟨a,q,t⟩:=R.ro i d e;rw [iL];exact ⟨a,q,(t.fresh hc).pr p (fun _ z=>z) (fun _ z=>z) (fun b o z _=>s _ _ z)⟩
 ·rcases h with h | h
  ·cases e:H b with
   | none=>exact absurd e (R.dom b h)
   | some o=>rw [s _ _ e];exact nofun
  ·rw [h];exact hc'
theorem Rel.less (R:Rel K (fun b=>F0 b\/b=c) ZW I env Z H) (hi:∀ (i:Nat) (d:PyData),env[i]?=some (.ino d)->Z[i]?≠some (some (.ref c))):Rel K F0 ZW I env Z H:=by
 have hf:∀ b,FF F0 env Z b->FF (fun b=>F0 b\/b=c) env Z b:=fun b z=>by rw [iL];exact .inl z
 refine ⟨R.len,fun i d e=>?_,fun i d e=>?_,fun i d e=>?_,fun i d e=>?_,R.sep,fun b h=>R.dom b (.inl h),R.eR⟩
 ·obtain ⟨v,q,r⟩:=R.dat i d e;exact ⟨v,q,r.mono hf⟩
 ·obtain ⟨a,q,n,w,t⟩:=R.own i d e;exact ⟨a,q,fun z=>n (.inl z),w,t.pr Pr.refl hf fun _ z=>z⟩
 ·obtain ⟨a,q,n,w,t⟩:=R.ino i d e;refine ⟨a,q,?_,w,t.pr Pr.refl hf fun _ z=>z⟩;rcases n with n | n
  ·exact n
  ·exact absurd (n▸q) (hi i d e)
 ·obtain ⟨a,q,t⟩:=R.ro i d e;exact ⟨a,q,t.pr Pr.refl hf (fun _ z=>z) fun _ _ z _=>z⟩
end
open PySem
def xk (K:Fg) (F:Addr->Prop) (H H':Hp):PR->V->Prop
 | .dat d,v=>Dm K F H' d v
 | .frs d,v=>∃ a,v=.ref a/\H a=none/\Top K (fun b=>F b\/b=a) H' d a
def VwL (K:Fg) (F:Addr->Prop) (H:Hp):List PyData->List V->Prop
 | [],vs=>vs=[]
 | d :: ds,vs=>∃ v r,vs=v :: r/\Vw K F H d v/\VwL K F H ds r
structure Cst where
 d:PyData
 v:V
 ok:∀ (K:Fg) (F:Addr->Prop) (H:Hp),Dm K F H d v
def Cst.i (i:Int):Cst:=⟨.int i,.int i,fun _ _ _=>rfl⟩
def Cst.s (x:Str) (h:x.length<=sizeLine) (h2:PyData.strOk x=true):Cst:=⟨.str x,.str x,fun _ _ _=>⟨rfl,h,h2⟩⟩
def Cst.b (b:Bool):Cst:=⟨.bool b,.bl b,fun _ _ _=>rfl⟩
def Cst.n:Cst:=⟨.none,.non,fun _ _ _=>rfl⟩
structure Prm where
 r:Fg->List V->Hp->VK->Prop
 f:List PyData->Option PR
 ok:∀ (K:Fg) (F:Addr->Prop) (H:Hp) (ds:List PyData) (vs:List V) (pr:PR) (Q:VK),f ds=some pr->VwL K F H ds vs->(∀ b,F b->H b≠none)->(∀ v H',aE H H'->xk K F H H' pr v->Q v H')->r K vs H Q
structure Mtd where
 T:String
 r:Fg->V->List V->Hp->VK->Prop
 ty:PyData->Bool
 f:PyData->List PyData->Option PR
 xS:∀ (K:Fg) (F:Addr->Prop) (H:Hp) (d:PyData) (v:V),ty d=true->Vw K F H d v->tyV K T v H
 ok:∀ (K:Fg) (F:Addr->Prop) (H:Hp) (d:PyData) (v:V) (ds:List PyData) (vs:List V) (pr:PR) (Q:VK),f d ds=some pr->Vw K F H d v->VwL K F H ds vs->(∀ b,F b->H b≠none)->(∀ v H',aE H H'->xk K F H H' pr v->Q v H')->r K v vs H Q
def MvL (K:Fg) (F:Addr->Prop) (H:Hp):List (Bool×PyData)->List V->Prop
 | [],vs=>vs=[]
 | (true,d) :: ds,vs=>∃ v r,vs=v :: r/\Dm K F H d v/\MvL K F H ds r
 | (false,d) :: ds,vs=>∃ v r,vs=v :: r/\Vw K F H d v/\MvL K F H ds r
structure Mtr where
 T:String
 r:Fg->V->List V->Hp->VK->Prop
 ty:PyData->Bool
 f:PyData->List (Bool×PyData)->Option (PyData×PyData)
 xS:∀ (K:Fg) (F:Addr->Prop) (H:Hp) (d:PyData) (a:Addr),ty d=true->Top K F H d a->tyV K T (.ref a) H
 ok:∀ (K:Fg) (F:Addr->Prop) (H:Hp) (d:PyData) (a:Addr) (as:List (Bool×PyData)) (vs:List V) (d' x:PyData) (Q:VK),f d as=some (d',x)->F a->Top K F H d a->MvL K F H as vs ->
  (∀ v H',(∀ b o,b≠a->H b=some o->H' b=some o)->Top K F H' d' a->Dm K F H' x v->Q v H')->r K (.ref a) vs H Q
structure Ct where
 r:Fg->V->V->V->Hp->(Hp->Prop)->Prop
 f:PyData->PyData->PyData->Option PyData
 ok:∀ (K:Fg) (F:Addr->Prop) (H:Hp) (d:PyData) (a:Addr) (k x:PyData) (vk vx:V) (d':PyData) (Q:Hp->Prop),f d k x=some d'->F a->Top K F H d a->Vw K F H k vk->Dm K F H x vx ->
  (∀ H',(∀ b o,b≠a->H b=some o->H' b=some o)->Top K F H' d' a->Q H')->r K (.ref a) vk vx H Q
mutual
inductive XE where
 | var (i:Nat) | mov (i:Nat) | tke (i:Nat) | cst (c:Cst) | glb (g:Nat)
 | prm (p:Prm) (as:XA) | met (m:Mtd) (o:XE) (as:XA) | mtr (m:Mtr) (i:Nat) (as:XA) | call (f:Fn) (as:XA)
 | tup (as:XA) | lst (as:XA) | dsp (as:XP)
 | ifx (c:XT) (a b:XE) | ji (a b:XE) | orv (a b:XE) | uR (a:XE) | chn (p q:Prm) (a b c:XE) | sl2 (p:Int->Int->Prm) (a b c:XE)
 | cmp (js:List Nat) (it:XI) (c:XT) (e:XE) | zb (n:List Str) (js:List Nat) (it:XI) (e:XE) | gho (i j h:Nat) (l e:XE)
inductive XA where | nil | cons (e:XE) (r:XA)
inductive XP where | nil | cons (k e:XE) (r:XP)
inductive XT where | tst (e:XE) | and (a b:XT) | or (a b:XT) | not (a:XT) | yes
inductive XI where | lst (e:XE) | tup (e:XE) | str (e:XE) | rng1 (as:XA)
end
inductive XS where
 | skip | seq (a b:XS) | br (i:Nat) (e:XE) | uT (i:Nat) (e:XE) | Ad (is:List Nat) (e:XE) | drop (e:XE) | ret (e:XE) | D4
 | ifs (c:XT) (a b:XS) | fr (i:Nat) (it:XI) (b:XS) | frT (is:List Nat) (it:XI) (b:XS) | sto (m:Ct) (i:Nat) (k e:XE)
def gNs:List Nat->TGs
 | []=>Ed
 | i :: r=>vc (c6 i) (gNs r)
def gTp (K:PySem.W.Frag) (is:List Nat):TG:=Ea K is.length (gNs is)
noncomputable def Jh:Nat->List Nat:=List.range
def HA (i j h:Nat) (tl te:TE):TE:=fun Z H Q=>(∃ v,Z[i]?=some (some v))/\(∃ v,Z[j]?=some (some v))/\tl Z H fun v H1=>te (Z.set h (some v)) H1 Q
def NoE:XK:=fun _ _ _=>False
def z7 (K:PySem.W.Frag) (G I:Addr->Prop) (H:Hp) (d:PyData) (v:V):Prop:=match d with
 | .tuple ds=>Dm K G H (.tuple ds) v
 | d=>∃ a,v=.ref a/\iO K G I H d a
def bI (K:PySem.W.Frag) (G I:Addr->Prop) (H:Hp):List PM->List PyData->List V->List Addr->Prop
 | [],[],[],is=>is=[]
 | .dat :: ms,d :: ds,v :: vs,is=>Dm K G H d v/\bI K G I H ms ds vs is
 | .bor :: ms,d :: ds,v :: vs,is=>z7 K G I H d v/\bI K G I H ms ds vs is
 | .ino :: ms,d :: ds,v :: vs,is=>∃ a r,v=.ref a/\is=a :: r/\G a/\Top K G H d a/\a ∉ r/\bI K G I H ms ds vs r
 | _,_,_,_=>False
def g9 (K:PySem.W.Frag) (G:Addr->Prop) (H:Hp):List PyData->List Addr->Prop
 | [],[]=>True
 | d :: ds,a :: r=>Top K G H d a/\g9 K G H ds r
 | _,_=>False
def Fu (K:PySem.W.Frag) (G:Addr->Prop) (H H':Hp) (outs:List PyData) (is:List Addr):PR->V->Prop
 | .dat d,v=>Dm K G H' d v/\g9 K G H' outs is
 | .frs d,v=>∃ a,v=.ref a/\H a=none/\Top K (fun b=>G b\/b=a) H' d a/\g9 K (fun b=>G b\/b=a) H' outs is
def tT (f:Fn) (K:PySem.W.Frag):Sp:=fun vs H Q _=>∃ (G:Addr->Prop) (ds:List PyData) (is:List Addr) (pr:PR) (outs:List PyData),f.F ds=some (pr,outs)/\bI K G (·∈is) H f.ms ds vs is/\(∀ b,G b->H b≠none) /\
 ∀ v' H',(∀ b o,H b=some o->b ∉ is->H' b=some o)->Fu K G H H' outs is pr v'->Q v' H'
section
variable (K:PySem.W.Frag) (ga:Nat->V)
mutual
noncomputable def rE:XE->TE
 | .var i=>mV i | .mov i=>mV i | .tke i=>mV i | .cst c=>tC c.v | .glb g=>tC (ga g)
 | .prm p as=>tCB (p.r K) (rA as) | .met m o as=>tBM K m.T (m.r K) (rE o) (rA as) | .mtr m i as=>tBM K m.T (m.r K) (mV i) (rA as) | .call f as=>nK (tT f K) [] NoE (rA as)
 | .tup as=>FZ (rA as) | .lst as=>ET (rA as) | .dsp as=>t5 (rP as)
 | .ifx c a b=>tIf (rT c) (rE a) (rE b) | .ji a b=>zY (rE a) (rE b) | .orv a b=>GK (rE a) (rE b) | .uR a=>yH (rE a)
 | .chn p q a b c=>lL (fun x y=>p.r K [x,y]) (fun x y=>q.r K [x,y]) (rE a) (rE b) (rE c)
 | .sl2 p a b c=>fun Z H Q=>rE a Z H fun x H1=>rE b Z H1 fun y H2=>∃ i,y=.int i/\rE c Z H2 fun z H3=>∃ j,z=.int j/\(p i j).r K [x] H3 Q
 | .cmp js it c e=>pY js (rI_ it) (rT c) (rE e) | .zb n js it e=>uA n js (rI_ it) (gTp K (List.range n.length)) (rE e) | .gho i j h l e=>HA i j h (rE l) (rE e)
noncomputable def rA:XA->TA
 | .nil=>uX | .cons e r=>fA (rE e) (rA r)
noncomputable def rP:XP->List (TE×TE)
 | .nil=>[] | .cons k e r=>(rE k,rE e) :: rP r
noncomputable def rT:XT->TT
 | .tst e=>tB (rE e) | .and a b=>Fh (rT a) (rT b) | .or a b=>tOr (rT a) (rT b) | .not a=>FC (rT a) | .yes=>GF
noncomputable def rI_:XI->TI
 | .lst e=>z6 K (rE e) | .tup e=>Eo K (rE e) | .str e=>Gx (rE e) | .rng1 as=>yy (rA as)
end
def rS:XS->TS
 | .skip=>zc | .seq a b=>F6 (rS a) (rS b) | .br i e=>rZ (rE K ga e) (c6 i) | .uT i e=>rZ (rE K ga e) (c6 i) | .Ad is e=>rZ (rE K ga e) (gTp K is) | .drop e=>yx (rE K ga e) | .ret e=>FP (rE K ga e) | .D4=>EF
 | .ifs c a b=>Fx (rT K ga c) (rS a) (rS b) | .fr i it b=>CF (rI_ K ga it) (c6 i) (rS b) | .frT is it b=>CF (rI_ K ga it) (gTp K is) (rS b)
 | .sto m i k e=>fun D Z H=>rE K ga e Z H fun x H1=>mV i Z H1 fun o H2=>rE K ga k Z H2 fun y H3=>m.r K o y x H3 (D.nx Z)
end
noncomputable def Ji:PyData->Bool | .str _=>true | _=>false
noncomputable def nJ (lk:Bool):Sl->Sl
 | .own d=>if lk then .ro d else .ino d
 | .ino d=>if lk then .ro d else .ino d
 | s=>s
noncomputable def cg (env:En) (lock:Option Nat) (js:List Nat):En:=js.map fun j=>nJ (decide (lock=some j)) (env[j]?.getD .un)
noncomputable def aP:En->List Nat->En->En
 | env,j :: js,.ino d :: es=>aP (gq env j d) js es
 | env,_ :: js,_ :: es=>aP env js es
 | env,_,_=>env
noncomputable def uU (step:PyData->En->Option (Option PyData×En)):List PyData->En->Option (List PyData×En)
 | [],env=>some ([],env)
 | d :: ds,env=>match step d env with
  | some (y,e1)=>match uU step ds e1 with
   | some (ys,e2)=>some (y.toList++ys,e2)
   | none=>none
  | none=>none
noncomputable def EK (env:En):PM->AV->Option PyData
 | .dat,.dat d=>some d
 | .bor,.dat (.list d)=>some (.list d)
 | .bor,.dat (.dict d)=>some (.dict d)
 | .bor,.dat (.tuple d)=>some (.tuple d)
 | .bor,.bor i=>cont env i
 | .ino,.bor i=>aU env i
 | _,_=>none
noncomputable def i4 (env:En):List PM->List AV->Option (List PyData)
 | [],[]=>some []
 | m :: ms,a :: as=>match EK env m a,i4 env ms as with
  | some d,some ds=>some (d :: ds)
  | _,_=>none
 | _,_=>none
noncomputable def ck:List PM->List AV->List Nat
 | .ino :: ms,.bor i :: as=>i :: ck ms as
 | _ :: ms,_ :: as=>ck ms as
 | _,_=>[]
noncomputable def qB:List PM->List AV->List Nat
 | .bor :: ms,.bor i :: as=>i :: qB ms as
 | _ :: ms,_ :: as=>qB ms as
 | _,_=>[]
noncomputable def cJ:En->List Nat->List PyData->En
 | env,i :: is,d :: ds=>cJ (gq env i d) is ds
 | env,_,_=>env
noncomputable def yc:List Nat->Bool
 | []=>true
 | x :: xs=>!xs.contains x&&yc xs
noncomputable def ckA (is bs:List Nat) (n:Nat):Bool:=yc is&&(bs.all (fun i=>!is.contains i)&&n==is.length)
noncomputable def vh (f:Fn) (avs:List AV) (env:En):Option (RV×En) :=
 match i4 env f.ms avs with
 | none=>none
 | some ds=>match f.F ds with
  | none=>none
  | some (pr,outs)=>if ckA (ck f.ms avs) (qB f.ms avs) outs.length=true then some (pr.rv,cJ env (ck f.ms avs) outs) else none
noncomputable def aO (env:En):List AV->Option (List PyData)
 | []=>some []
 | a :: as=>match a.view env,aO env as with
  | some d,some ds=>some (d :: ds)
  | _,_=>none
noncomputable def AV.Gq:AV->Bool | .dat _=>true | .bor _=>false
noncomputable def de (env:En):List AV->Option (List (Bool×PyData))
 | []=>some []
 | a :: as=>match a.view env,de env as with
  | some d,some ds=>some ((a.Gq,d) :: ds)
  | _,_=>none
noncomputable def ly:List AV->Option (List PyData)
 | []=>some []
 | .dat d :: as=>match ly as with | some ds=>some (d :: ds) | none=>none
 | .bor _ :: _=>none
noncomputable def keyOf:PyData->Option Key | .int i=>some (.inl i) | .str x=>some (.inr x) | _=>none
noncomputable def putD (kvs:List (PyData×PyData)) (k d:PyData):List (PyData×PyData) :=
 if (kvs.any fun kv=>PyData.eqv kv.1 k)=true then kvs.map (fun kv=>if PyData.eqv kv.1 k=true then (kv.1,d) else kv) else kvs++[(k,d)]
noncomputable def getD (kvs:List (PyData×PyData)) (k:PyData):Option PyData:=(kvs.find? fun kv=>PyData.eqv kv.1 k).map (·.2)
noncomputable def ig (t:En->Option (Bool×En)) (b:En->Option (RV×En)) (d:PyData) (ec:En):Option (Option PyData×En):=match t (.dat d :: ec) with
 | some (true,e2)=>match b e2 with
  | some (rv,e3)=>match rv.av with | .dat y=>some (some y,e3.tail) | .bor _=>none
  | none=>none
 | some (false,e2)=>some (none,e2.tail)
 | none=>none
noncomputable def fB (n:Nat) (b:En->Option (RV×En)) (d:PyData) (ec:En):Option (Option PyData×En):=match d with
 | .tuple xs=>if xs.length=n then match b (xs.map .dat++ec) with
   | some (rv,e3)=>match rv.av with | .dat y=>some (some y,e3.drop n) | .bor _=>none
   | none=>none
  else none
 | _=>none
noncomputable def roL (e:En):AV->Option (List PyData)
 | .dat (.list xs)=>some xs
 | .bor i=>match e[i]? with | some (.ro (.list xs))=>some xs | _=>none
 | _=>none
noncomputable def bnd (env:En) (i:Nat):Bool:=match env[i]? with | some .un=>false | some _=>true | none=>false
mutual
noncomputable def dE (gd:List PyData):XE->En->Option (RV×En)
 | .var i,env=>match env[i]? with | some (.dat d)=>some (.dat d,env) | some (.own _)=>some (.bor i,env) | some (.ino _)=>some (.bor i,env) | some (.ro _)=>some (.bor i,env) | _=>none
 | .mov i,env=>match env[i]? with | some (.own d)=>some (.dat d,env.set i (.dat d)) | _=>none
 | .tke i,env=>match env[i]? with | some (.own d)=>some (.frs d,env.set i .un) | _=>none
 | .cst c,env=>some (.dat c.d,env)
 | .glb g,env=>match gd[g]? with | some d=>some (.dat d,env) | none=>none
 | .prm p as,env=>match dA gd as env with
  | some (avs,e1)=>match aO e1 avs with
   | some ds=>match p.f ds with | some pr=>some (pr.rv,e1) | none=>none
   | none=>none
  | none=>none
 | .met m o as,env=>match dE gd o env with
  | some (rv,e1)=>match rv.view e1 with
   | some d0=>if m.ty d0=true then match dA gd as e1 with
     | some (avs,e2)=>match rv.view e2,aO e2 avs with
      | some d,some ds=>match m.f d ds with | some pr=>some (pr.rv,e2) | none=>none
      | _,_=>none
     | none=>none
    else none
   | none=>none
  | none=>none
 | .mtr m i as,env=>match aU env i with
  | some d0=>if m.ty d0=true then match dA gd as env with
    | some (avs,e1)=>match aU e1 i,de e1 avs with
     | some d,some ds=>match m.f d ds with | some (d',x)=>some (.dat x,gq e1 i d') | none=>none
     | _,_=>none
    | none=>none
   else none
  | none=>none
 | .call f as,env=>match dA gd as env with
  | some (avs,e1)=>vh f avs e1
  | none=>none
 | .tup as,env=>match dA gd as env with
  | some (avs,e1)=>match ly avs with | some ds=>if ds.length<=sizeLine then some (.dat (.tuple ds),e1) else none | none=>none
  | none=>none
 | .lst as,env=>match dA gd as env with
  | some (avs,e1)=>match ly avs with | some ds=>if ds.length<=sizeLine then some (.frs (.list ds),e1) else none | none=>none
  | none=>none
 | .dsp as,env=>match dP gd as env with
  | some (kvs,e1)=>if kvs.length<=15 then some (.frs (.dict (kvs.foldl (fun acc kv=>putD acc (kD kv.1) kv.2) [])),e1) else none
  | none=>none
 | .ifx c a b,env=>match dT gd c env with
  | some (true,e1)=>dE gd a e1
  | some (false,e1)=>dE gd b e1
  | none=>none
 | .ji a b,env=>match dE gd a env with
  | some (.dat (.bool true),e1)=>dE gd b e1
  | some (.dat (.bool false),e1)=>some (.dat (.bool false),e1)
  | _=>none
 | .orv a b,env=>match dE gd a env with
  | some (.dat (.bool true),e1)=>some (.dat (.bool true),e1)
  | some (.dat (.bool false),e1)=>dE gd b e1
  | _=>none
 | .uR a,env=>match dE gd a env with
  | some (.dat (.bool x),e1)=>some (.dat (.bool (!x)),e1)
  | _=>none
 | .chn p q a b c,env=>match dE gd a env with
  | some (ra,e1)=>match dE gd b e1 with
   | some (rb,e2)=>match ra.av,rb.av with
    | .dat x,.dat y=>match p.f [x,y] with
     | some (.dat (.bool true))=>match dE gd c e2 with
      | some (rc,e3)=>match rc.av with
       | .dat z=>match q.f [y,z] with | some pr=>some (pr.rv,e3) | none=>none
       | _=>none
      | none=>none
     | some (.dat (.bool false))=>some (.dat (.bool false),e2)
     | _=>none
    | _,_=>none
   | none=>none
  | none=>none
 | .sl2 p a b c,env=>match dE gd a env with
  | some (ra,e1)=>match dE gd b e1 with
   | some (.dat (.int i),e2)=>match dE gd c e2 with
    | some (.dat (.int j),e3)=>match ra.view e3 with
     | some d=>match (p i j).f [d] with | some pr=>some (pr.rv,e3) | none=>none
     | none=>none
    | _=>none
   | _=>none
  | none=>none
 | .cmp js it c e,env=>match dI gd it env with
  | some (ds,lock,e1)=>if js.Nodup then match uU (ig (dT gd c) (dE gd e)) ds (cg e1 lock js) with
    | some (ys,ec)=>some (.frs (.list ys),aP e1 js ec)
    | none=>none
   else none
  | none=>none
 | .zb n js it e,env=>match dI gd it env with
  | some (ds,lock,e1)=>if js.Nodup then match uU (fB n.length (dE gd e)) ds (cg e1 lock js) with
    | some (ys,ec)=>some (.frs (.list ys),aP e1 js ec)
    | none=>none
   else none
  | none=>none
 | .gho i j h l e,env=>if (bnd env i&&bnd env j)=true then match dE gd l env with
   | some (.frs d,e1)=>match e1[h]? with
    | some .un=>match dE gd e (e1.set h (.own d)) with | some (.dat x,e2)=>some (.dat x,e2.set h .un) | _=>none
    | _=>none
   | _=>none
  else none
noncomputable def dA (gd:List PyData):XA->En->Option (List AV×En)
 | .nil,env=>some ([],env)
 | .cons e r,env=>match dE gd e env with
  | some (rv,e1)=>match dA gd r e1 with
   | some (avs,e2)=>some (rv.av :: avs,e2)
   | none=>none
  | none=>none
noncomputable def dP (gd:List PyData):XP->En->Option (List (Key×PyData)×En)
 | .nil,env=>some ([],env)
 | .cons k e r,env=>match dE gd k env with
  | some (rk,e1)=>match dE gd e e1 with
   | some (rv,e2)=>match dP gd r e2 with
    | some (kvs,e3)=>match rk.av,rv.av with
     | .dat dk,.dat d=>match keyOf dk with | some k=>some ((k,d) :: kvs,e3) | none=>none
     | _,_=>none
    | none=>none
   | none=>none
  | none=>none
noncomputable def dT (gd:List PyData):XT->En->Option (Bool×En)
 | .tst e,env=>match dE gd e env with | some (.dat (.bool b),e1)=>some (b,e1) | _=>none
 | .and a b,env=>match dT gd a env with | some (true,e1)=>dT gd b e1 | some (false,e1)=>some (false,e1) | none=>none
 | .or a b,env=>match dT gd a env with | some (true,e1)=>some (true,e1) | some (false,e1)=>dT gd b e1 | none=>none
 | .not a,env=>match dT gd a env with | some (b,e1)=>some (!b,e1) | none=>none
 | .yes,env=>some (true,env)
noncomputable def dI (gd:List PyData):XI->En->Option (List PyData×Option Nat×En)
 | .lst e,env=>match dE gd e env with
  | some (rv,e1)=>match rv.av with
   | .dat (.list ds)=>some (ds,none,e1)
   | .dat _=>none
   | .bor i=>match cont e1 i with | some (.list ds)=>some (ds,some i,e1) | _=>none
  | none=>none
 | .tup e,env=>match dE gd e env with
  | some (rv,e1)=>match rv.av with | .dat (.tuple ds)=>some (ds,none,e1) | _=>none
  | none=>none
 | .str e,env=>match dE gd e env with
  | some (rv,e1)=>match rv.av with | .dat (.str x)=>some (x.cps.toList.map fun c=>.str ⟨#[c]⟩,none,e1) | _=>none
  | none=>none
 | .rng1 as,env=>match dA gd as env with
  | some (avs,e1)=>match avs with | [.dat (.int j)]=>if -(2 ^ 62)<=j/\j<=2 ^ 24 then some ((List.range j.toNat).map fun (k:Nat)=>.int ((0:Int)+(k:Int)),none,e1) else none | _=>none
  | none=>none
end
inductive Out where | nx (env:En) | rt (rv:RV) (env:En) | bk (env:En) | ct (env:En)
noncomputable def forL (b:PyData->En->Option Out):List PyData->En->Option Out
 | [],env=>some (.nx env)
 | d :: ds,env=>match b d env with
  | some (.nx e)=>forL b ds e
  | some (.ct e)=>forL b ds e
  | some (.bk e)=>some (.nx e)
  | some (.rt r e)=>some (.rt r e)
  | none=>none
noncomputable def free (env:En) (i:Nat):Bool:=match env[i]? with | some .un=>true | some (.dat _)=>true | some (.own _)=>true | _=>false
noncomputable def fx:En->List Nat->List PyData->Option En
 | env,[],[]=>some env
 | env,i :: is,d :: ds=>if free env i=true then fx (env.set i (.dat d)) is ds else none
 | _,_,_=>none
noncomputable def lM (i:Nat) (b:En->Option Out) (d:PyData) (e:En):Option Out:=if free e i=true then b (e.set i (.dat d)) else none
noncomputable def iI (is:List Nat) (b:En->Option Out) (d:PyData) (e:En):Option Out:=match d with
 | .tuple xs=>match fx e is xs with | some e2=>b e2 | none=>none
 | _=>none
noncomputable def dS (gd:List PyData):XS->En->Option Out
 | .skip,env=>some (.nx env)
 | .seq a b,env=>match dS gd a env with
  | some (.nx e)=>dS gd b e
  | o=>o
 | .br i e,env=>match dE gd e env with
  | some (rv,e1)=>match rv.av with | .dat d=>if free e1 i=true then some (.nx (e1.set i (.dat d))) else none | .bor _=>none
  | none=>none
 | .uT i e,env=>match dE gd e env with
  | some (.frs d,e1)=>if free e1 i=true then some (.nx (e1.set i (.own d))) else none
  | _=>none
 | .Ad is e,env=>match dE gd e env with
  | some (rv,e1)=>match rv.av with
   | .dat (.tuple ds)=>match fx e1 is ds with | some e2=>some (.nx e2) | none=>none
   | _=>none
  | none=>none
 | .drop e,env=>match dE gd e env with | some (_,e1)=>some (.nx e1) | none=>none
 | .ret e,env=>match dE gd e env with | some (rv,e1)=>some (.rt rv e1) | none=>none
 | .D4,env=>some (.rt (.dat .none) env)
 | .ifs c a b,env=>match dT gd c env with
  | some (true,e1)=>dS gd a e1
  | some (false,e1)=>dS gd b e1
  | none=>none
 | .fr i it b,env=>match dI gd it env with
  | some (ds,none,e1)=>forL (lM i (dS gd b)) ds e1
  | _=>none
 | .frT is it b,env=>match dI gd it env with
  | some (ds,none,e1)=>forL (iI is (dS gd b)) ds e1
  | _=>none
 | .sto m i k e,env=>match dE gd e env with
  | some (rv,e1)=>match rv.av with
   | .dat x=>match aU e1 i with
    | some _=>match dE gd k e1 with
     | some (rk,e2)=>match rk.view e2,aU e2 i with
      | some dk,some d=>match m.f d dk x with | some d'=>some (.nx (gq e2 i d')) | none=>none
      | _,_=>none
     | none=>none
    | none=>none
   | .bor _=>none
  | none=>none
noncomputable def Aa:PyData->Sl | .tuple ds=>.dat (.tuple ds) | d=>.ro d
noncomputable def aj:List PM->List PyData->Nat->En
 | .dat :: ms,d :: ds,n=>.dat d :: aj ms ds (n - 1)
 | .bor :: ms,d :: ds,n=>Aa d :: aj ms ds (n - 1)
 | .ino :: ms,d :: ds,n=>.ino d :: aj ms ds (n - 1)
 | _,_,n=>List.replicate n .un
noncomputable def i3:List PM->En->Option (List PyData)
 | .ino :: ms,.ino d :: es=>match i3 ms es with | some ds=>some (d :: ds) | none=>none
 | .ino :: _,_=>none
 | _ :: ms,_ :: es=>i3 ms es
 | _,_=>some []
noncomputable def RV.pr:RV->Option PR | .dat d=>some (.dat d) | .frs d=>some (.frs d) | .bor _=>none
noncomputable def bL (gd:List PyData) (ms:List PM) (n:Nat) (b:XS):Fn where
 ms:=ms
 F:=fun ds=>if ds.length=ms.length then match dS gd b (aj ms ds n) with
   | some (.rt rv env)=>match rv.pr,i3 ms env with | some pr,some outs=>some (pr,outs) | _,_=>none
   | some (.nx env)=>match i3 ms env with | some outs=>some (.dat .none,outs) | none=>none
   | _=>none
  else none
open PySem
theorem aE.rf (H:Hp):aE H H:=fun _ _ h=>h
theorem aE.nw (o:HO) (h:H a=none):aE H (upd H a o):=fun b u q=>by rw [ax (aN q h)];exact q
section
variable {K:Fg} {F F' I I' F0:Addr->Prop} {H H' ZW:Hp} {env env':En} {Z Z':St} {ga:Nat->V} {gd:List PyData}
def gF (K:Fg) (F0:Addr->Prop) (ZW:Hp) (I:Addr->Prop) (env:En) (Z:St) (H:Hp):RV->V->Prop
 | .dat d,v=>Dm K (FF F0 env Z) H d v
 | .bor i,v=>Z[i]?=some (some v)
 | .frs d,v=>∃ a,v=.ref a/\Rel K (fun b=>F0 b\/b=a) ZW I env Z H/\Top K (fun b=>FF F0 env Z b\/b=a) H d a/\(ZW a=none\/I a)/\¬FF F0 env Z a/\(∀ (i:Nat) (d':PyData),env[i]?=some (.ino d')->Z[i]?≠some (some (.ref a))) /\
   ∀ (i:Nat) (d':PyData),env[i]?=some (.ro d')->∃ b,Z[i]?=some (some (.ref b))/\iO K (fun b=>FF F0 env Z b\/b=a) (fun b=>IA env Z b\/b=a) H d' b
def yd (K:Fg) (F0:Addr->Prop) (env:En) (Z:St) (H:Hp):AV->V->Prop
 | .dat d,v=>Dm K (FF F0 env Z) H d v
 | .bor i,v=>Z[i]?=some (some v)
def gC (K:Fg) (F0:Addr->Prop) (env:En) (Z:St) (H:Hp):List AV->List V->Prop
 | [],vs=>vs=[]
 | a :: as,vs=>∃ v r,vs=v :: r/\yd K F0 env Z H a v/\gC K F0 env Z H as r
theorem gF.av (h:gF K F0 ZW I env Z H rv v):yd K F0 env Z H rv.av v:=by
 cases rv with
 | dat d=>exact h
 | bor i=>exact h
 | frs d =>
  obtain ⟨a,e,R,t,_,n,_⟩:=h;subst e;exact (t.pr Pr.refl (F':=FF F0 env Z) (fun _ z=>.inl z) (fun _ z=>z)).dm n
theorem yd.keep (R:Rel K F0 ZW I env Z H) (S:Rel K F0 H (IA env Z) env' Z H') (k:KpE env env') (h:yd K F0 env Z H a v):yd K F0 env' Z H' a v:=by
 cases a with
 | dat d=>exact R.n5 S k h
 | bor i=>exact h
theorem Rel.Gr (R:Rel K F0 ZW I env Z H) (h:cont env i=some d) (s:Z[i]?=some (some v)):Vw K (FF F0 env Z) H d v:=by
 unfold cont at h;cases e:env[i]? with
 | none=>rw [e] at h;cases h
 | some sl =>
  rw [e] at h;cases sl with
  | un=>cases h
  | dat _=>cases h
  | own d' =>
   cases h;obtain ⟨a,q,_,_,t⟩:=R.own i d e;rw [s] at q;cases q;exact t.r.vw
  | ino d' =>
   cases h;obtain ⟨a,q,_,_,t⟩:=R.ino i d e;rw [s] at q;cases q;exact t.r.vw
  | ro d' =>
   cases h;obtain ⟨a,q,t⟩:=R.ro i d e;rw [s] at q;cases q;exact t.r.vw
theorem Rel.cW (R:Rel K F0 ZW I env Z H) (h:aU env i=some d):mu env i/\∃ a,Z[i]?=some (some (.ref a))/\FF F0 env Z a/\Top K (FF F0 env Z) H d a:=by
 unfold aU at h;cases e:env[i]? with
 | none=>rw [e] at h;cases h
 | some sl =>
  rw [e] at h;cases sl with
  | un=>cases h
  | dat _=>cases h
  | own d' =>
   cases h;obtain ⟨a,q,_,_,t⟩:=R.own i d e;exact ⟨⟨d,.inl e⟩,a,q,.inr ⟨i,d,e,q⟩,t⟩
  | ino d' =>
   cases h;obtain ⟨a,q,f,_,t⟩:=R.ino i d e;exact ⟨⟨d,.inr e⟩,a,q,.inl f,t⟩
  | ro d'=>cases h
theorem yd.vw (R:Rel K F0 ZW I env Z H) (h:yd K F0 env Z H a v) (e:a.view env=some d):Vw K (FF F0 env Z) H d v:=by
 cases a with
 | dat d'=>cases e;exact Dm.vw h
 | bor i=>exact R.Gr e h
theorem gC.vw (R:Rel K F0 ZW I env Z H):∀ {as:List AV} {vs:List V} {ds:List PyData},gC K F0 env Z H as vs->aO env as=some ds->VwL K (FF F0 env Z) H ds vs
 | [],_,ds,h,e=>by cases e;exact h
 | a :: as,_,ds,h,e=>by
  obtain ⟨v,r,rfl,h1,h2⟩:=h;unfold aO at e;cases e1:a.view env with
  | none=>rw [e1] at e;cases e
  | some d =>
   cases e2:aO env as with
   | none=>rw [e1,e2] at e;cases e
   | some ds' =>
    rw [e1,e2] at e;cases e;exact ⟨v,r,rfl,h1.vw R e1,gC.vw R h2 e2⟩
theorem gC.mv (R:Rel K F0 ZW I env Z H):∀ {as:List AV} {vs:List V} {ds:List (Bool×PyData)},gC K F0 env Z H as vs->de env as=some ds->MvL K (FF F0 env Z) H ds vs
 | [],_,ds,h,e=>by cases e;exact h
 | a :: as,_,ds,h,e=>by
  obtain ⟨v,r,rfl,h1,h2⟩:=h;unfold de at e;cases e1:a.view env with
  | none=>rw [e1] at e;cases e
  | some d =>
   cases e2:de env as with
   | none=>rw [e1,e2] at e;cases e
   | some ds' =>
    rw [e1,e2] at e;cases e;have ih:=gC.mv R h2 e2;cases a with
    | dat d'=>cases e1;exact ⟨v,r,rfl,h1,ih⟩
    | bor i=>exact ⟨v,r,rfl,h1.vw R e1,ih⟩
theorem gC.FO:∀ {as:List AV} {vs:List V} {ds:List PyData},gC K F0 env Z H as vs->ly as=some ds->DmL K (FF F0 env Z) H ds vs
 | [],_,ds,h,e=>by cases e;exact h
 | .dat d :: as,_,ds,h,e=>by
  obtain ⟨v,r,rfl,h1,h2⟩:=h;unfold ly at e;cases e2:ly as with
  | none=>rw [e2] at e;cases e
  | some ds' =>
   rw [e2] at e;cases e;exact ⟨v,r,rfl,h1,gC.FO h2 e2⟩
 | .bor i :: as,_,ds,h,e=>by unfold ly at e;cases e
theorem iO.xJ (hc:H c=none) (h:iO K F I H d a):iO K F (fun b=>I b\/b=c) H d a:=by
 cases d with
 | list ds=>obtain ⟨xs,e,z,r⟩:=h;exact ⟨xs,e.fresh hc,z,r⟩
 | dict ds =>
  obtain ⟨ep,xs,n,e,z,r⟩:=h;exact ⟨ep,xs,fun q=>q.elim n fun q=>(by subst q;rw [hc] at e;cases e),e,z,r⟩
 | _=>exact absurd h id
theorem Rel.kX (R:Rel K F0 ZW I env Z H) (s:aE H H') (h:xk K (FF F0 env Z) H H' pr v):gF K F0 ZW I env Z H' pr.rv v:=by
 cases pr with
 | dat d=>exact h
 | frs d =>
  obtain ⟨a,e,hn,t⟩:=h;refine ⟨a,e,R.fresh hn s ?_,t,R.oi (.inl hn),fun z=>R.d8 z hn,fun i d' e' q=>?_,fun i d' e'=>?_⟩
  ·obtain ⟨o,q,_⟩:=t.wr;rw [q];exact nofun
  ·obtain ⟨o,z,_⟩:=R.iaT ⟨i,⟨d',.inr e'⟩,q⟩;rw [hn] at z;cases z
  ·obtain ⟨b,q,t'⟩:=R.ro i d' e';exact ⟨b,q,((t'.fresh hn).xJ hn).pr (Pr.of_same s) (fun _ z=>z) (fun _ z=>z) fun b o z _=>s _ _ z⟩
theorem qU (env:En) (i:Nat) (d:PyData):KpE env (gq env i d):=by
 unfold gq;cases e:env[i]? with
 | none=>exact KpE.refl _
 | some sl =>
  have hi:i < env.length:=(Jo.mp e).1;cases sl with
  | un=>exact KpE.refl _
  | dat _=>exact KpE.refl _
  | ro _=>exact KpE.refl _
  | own d' =>
   refine ⟨J7,fun j s h=>?_⟩;by_cases z:i=j
   ·subst z;rw [e] at h;cases h;exact ⟨.own d,by rw [JK hi],.inl ⟨d,rfl⟩⟩
   ·exact ⟨s,by rw [Jq z];exact h,.refl s⟩
  | ino d' =>
   refine ⟨J7,fun j s h=>?_⟩;by_cases z:i=j
   ·subst z;rw [e] at h;cases h;exact ⟨.ino d,by rw [JK hi],⟨d,rfl⟩⟩
   ·exact ⟨s,by rw [Jq z];exact h,.refl s⟩
def SmK (env env':En):Prop:=env'.length=env.length/\∀ i:Nat,env'[i]?=env[i]?\/(∃ d d',env[i]?=some (.own d)/\env'[i]?=some (.own d'))\/∃ d d',env[i]?=some (.ino d)/\env'[i]?=some (.ino d')
theorem SmK.refl (env:En):SmK env env:=⟨rfl,fun _=>.inl rfl⟩
theorem SmK.trans (a:SmK e1 e2) (b:SmK e2 e3):SmK e1 e3:=⟨b.1.trans a.1,fun i=>by
 rcases b.2 i with h | ⟨d,d',h,h'⟩ | ⟨d,d',h,h'⟩
 ·rw [h];exact a.2 i
 ·rcases a.2 i with q | ⟨c,c',q,q'⟩ | ⟨c,c',q,q'⟩
  ·exact .inr (.inl ⟨d,d',by rw [<- q];exact h,h'⟩)
  ·exact .inr (.inl ⟨c,d',q,h'⟩)
  ·rw [h] at q';cases q'
 ·rcases a.2 i with q | ⟨c,c',q,q'⟩ | ⟨c,c',q,q'⟩
  ·exact .inr (.inr ⟨d,d',by rw [<- q];exact h,h'⟩)
  ·rw [h] at q';cases q'
  ·exact .inr (.inr ⟨c,d',q,h'⟩)⟩
theorem SmK.kp (k:SmK env env'):KpE env env':=⟨k.1,fun i s e=>by
 rcases k.2 i with h | ⟨d,d',h,h'⟩ | ⟨d,d',h,h'⟩
 ·exact ⟨s,by rw [h];exact e,.refl s⟩
 ·rw [e] at h;cases h;exact ⟨_,h',.inl ⟨d',rfl⟩⟩
 ·rw [e] at h;cases h;exact ⟨_,h',⟨d',rfl⟩⟩⟩
theorem SmK.symm (k:SmK env env'):SmK env' env:=⟨k.1.symm,fun i=>by
 rcases k.2 i with h | ⟨d,d',h,h'⟩ | ⟨d,d',h,h'⟩
 ·exact .inl h.symm
 ·exact .inr (.inl ⟨d',d,h',h⟩)
 ·exact .inr (.inr ⟨d',d,h',h⟩)⟩
theorem SmK.ff (k:SmK env env'):FF F0 env' Z=FF F0 env Z:=by
 funext b;exact propext ⟨fun h=>k.kp.ff h,fun h=>k.symm.kp.ff h⟩
theorem SmK.ia (k:SmK env env'):IA env' Z=IA env Z:=by
 funext b;exact propext ⟨fun h=>k.kp.ia h,fun h=>k.symm.kp.ia h⟩
theorem dQ (env:En) (i:Nat) (d:PyData):SmK env (gq env i d):=by
 unfold gq;cases e:env[i]? with
 | none=>exact SmK.refl _
 | some sl =>
  have hi:i < env.length:=(Jo.mp e).1;cases sl with
  | un=>exact SmK.refl _
  | dat _=>exact SmK.refl _
  | ro _=>exact SmK.refl _
  | own d' =>
   refine ⟨J7,fun j=>?_⟩;by_cases z:i=j
   ·subst z;exact .inr (.inl ⟨d',d,e,by rw [JK hi]⟩)
   ·exact .inl (by rw [Jq z])
  | ino d' =>
   refine ⟨J7,fun j=>?_⟩;by_cases z:i=j
   ·subst z;exact .inr (.inr ⟨d',d,e,by rw [JK hi]⟩)
   ·exact .inl (by rw [Jq z])
theorem kz (h:mu env i):aU (gq env i d) i=some d:=by
 unfold gq aU;obtain ⟨d',e | e⟩:=h
 ·have hi:i < env.length:=(Jo.mp e).1;rw [e];simp only;rw [JK hi]
 ·have hi:i < env.length:=(Jo.mp e).1;rw [e];simp only;rw [JK hi]
theorem kh (h:j≠i):(gq env i d)[j]?=env[j]?:=by
 unfold gq;split <;> first | rfl | rw [Jq (Ne.symm h)]
theorem pj (h:aU env i=some d):env[i]?=some (.own d)\/env[i]?=some (.ino d):=by
 unfold aU at h;split at h
 ·rename_i e;cases h;exact .inl e
 ·rename_i e;cases h;exact .inr e
 ·cases h
theorem Rel.chg (R:Rel K F0 ZW I env Z H) (k:SmK env env') (hk:∀ b o,H b=some o->¬IA env Z b->H' b=some o) (ht:∀ i d a,aU env' i=some d->Z[i]?=some (some (.ref a))->Top K (FF F0 env Z) H' d a):Rel K F0 ZW I env' Z H':=by
 have p:=R.pN hk;have eF:=k.ff (F0:=F0) (Z:=Z);have eI:=k.ia (Z:=Z);have mc:∀ {i:Nat} {d:PyData},env'[i]?=some (.own d)\/env'[i]?=some (.ino d)->aU env' i=some d:=fun {i d} h=>by
  unfold aU;rcases h with h | h <;> rw [h]
 refine ⟨k.1.trans R.len,fun i d e=>?_,fun i d e=>?_,fun i d e=>?_,fun i d e=>?_,fun i j a h1 h2 h3 h4=>R.sep i j a (k.kp.mu h1) (k.kp.mu h2) h3 h4,fun b h=>?_,fun b o h n=>?_⟩
 ·rcases k.2 i with q | ⟨c,c',q,q'⟩ | ⟨c,c',q,q'⟩
  ·rw [e] at q;obtain ⟨v,s,r⟩:=R.dat i d q.symm;rw [eF];exact ⟨v,s,r.pr p fun _ z=>z⟩
  ·rw [e] at q';cases q'
  ·rw [e] at q';cases q'
 ·have hm:=mc (.inl e);obtain ⟨d0,e0⟩:=k.kp.own e;obtain ⟨a,s,n,w,_⟩:=R.own i d0 e0;rw [eF];exact ⟨a,s,n,w,ht i d a hm s⟩
 ·have hm:=mc (.inr e);have:∃ d0,env[i]?=some (.ino d0):=by
   rcases k.2 i with q | ⟨c,c',q,q'⟩ | ⟨c,c',q,q'⟩
   ·exact ⟨d,by rw [<- q];exact e⟩
   ·rw [e] at q';cases q'
   ·exact ⟨c,q⟩
  obtain ⟨d0,e0⟩:=this;obtain ⟨a,s,n,w,_⟩:=R.ino i d0 e0;rw [eF];exact ⟨a,s,n,w,ht i d a hm s⟩
 ·have e0:env[i]?=some (.ro d):=by
   rcases k.2 i with q | ⟨c,c',q,q'⟩ | ⟨c,c',q,q'⟩
   ·rw [<- q];exact e
   ·rw [e] at q';cases q'
   ·rw [e] at q';cases q'
  obtain ⟨a,s,t⟩:=R.ro i d e0;rw [eF,eI];exact ⟨a,s,t.pr p (fun _ z=>z) (fun _ z=>z) hk⟩
 ·by_cases z:IA env Z b
  ·obtain ⟨i,m,s⟩:=z;have m':=k.symm.kp.mu m;obtain ⟨d,m'⟩:=m';obtain ⟨o,q,_⟩:=(ht i d b (mc m') s).wr;rw [q];exact nofun
  ·cases e:H b with
   | none=>exact absurd e (R.dom b h)
   | some o=>rw [hk b o e z];exact nofun
 ·refine hk b o (R.eR b o h n) fun z=>?_;rcases R.iaI z with q | q
  ·rw [h] at q;cases q
  ·exact n q
end
open PySem
section
variable {K:Fg} {F F' I I' F0:Addr->Prop} {H H' ZW:Hp} {env env':En} {Z Z':St} {ga:Nat->V} {gd:List PyData}
theorem get_set {α:Type} {l:List α} {i j:Nat} {x y:α} (h:(l.set i x)[j]?=some y):(i=j/\x=y)\/(i≠j/\l[j]?=some y):=by
 by_cases z:i=j
 ·subst z;by_cases hi:i < l.length
  ·rw [JK hi] at h;exact .inl ⟨rfl,Kq h⟩
  ·rw [Kt (by rw [J7];omega)] at h;cases h
 ·rw [Jq z] at h;exact .inr ⟨z,h⟩
theorem Rel.sub (R:Rel K F0 ZW I env Z H) (i:Nat) (x:Option V):(∀ b,FF F0 (env.set i .un) (Z.set i x) b->FF F0 env Z b)/\(∀ b,IA (env.set i .un) (Z.set i x) b->IA env Z b):=by
 constructor
 ·rintro b (h | ⟨j,d,e,s⟩)
  ·exact .inl h
  ·rcases get_set e with ⟨_,z⟩ | ⟨n,e⟩
   ·cases z
   ·rw [Jq n] at s;exact .inr ⟨j,d,e,s⟩
 ·rintro b ⟨j,⟨d,e⟩,s⟩;have:∃ d,(env[j]?=some (.own d)\/env[j]?=some (.ino d))/\i≠j:=by
   rcases e with e | e
   ·rcases get_set e with ⟨_,z⟩ | ⟨n,e⟩
    ·cases z
    ·exact ⟨d,.inl e,n⟩
   ·rcases get_set e with ⟨_,z⟩ | ⟨n,e⟩
    ·cases z
    ·exact ⟨d,.inr e,n⟩
  obtain ⟨d,e,n⟩:=this;rw [Jq n] at s;exact ⟨j,⟨d,e⟩,s⟩
theorem Rel.forget (R:Rel K F0 ZW I env Z H) (i:Nat) (x:Option V):Rel K F0 ZW I (env.set i .un) (Z.set i x) H:=by
 obtain ⟨hf,hi⟩:=R.sub i x;have mm:∀ j,mu (env.set i .un) j->mu env j/\i≠j:=fun j h=>by
  obtain ⟨d,e | e⟩:=h
  ·rcases get_set e with ⟨_,z⟩ | ⟨n,e⟩
   ·cases z
   ·exact ⟨⟨d,.inl e⟩,n⟩
  ·rcases get_set e with ⟨_,z⟩ | ⟨n,e⟩
   ·cases z
   ·exact ⟨⟨d,.inr e⟩,n⟩
 refine ⟨by rw [J7,J7];exact R.len,fun j d e=>?_,fun j d e=>?_,fun j d e=>?_,fun j d e=>?_,fun j k a h1 h2 h3 h4=>?_,R.dom,R.eR⟩
 ·rcases get_set e with ⟨_,z⟩ | ⟨n,e⟩
  ·cases z
  obtain ⟨v,s,r⟩:=R.dat j d e;exact ⟨v,by rw [Jq n];exact s,r.mono hf⟩
 ·rcases get_set e with ⟨_,z⟩ | ⟨n,e⟩
  ·cases z
  obtain ⟨a,s,q,w,t⟩:=R.own j d e;exact ⟨a,by rw [Jq n];exact s,q,w,t.pr Pr.refl hf fun _ z=>z⟩
 ·rcases get_set e with ⟨_,z⟩ | ⟨n,e⟩
  ·cases z
  obtain ⟨a,s,q,w,t⟩:=R.ino j d e;exact ⟨a,by rw [Jq n];exact s,q,w,t.pr Pr.refl hf fun _ z=>z⟩
 ·rcases get_set e with ⟨_,z⟩ | ⟨n,e⟩
  ·cases z
  obtain ⟨a,s,t⟩:=R.ro j d e;exact ⟨a,by rw [Jq n];exact s,t.pr Pr.refl hf hi fun _ _ z _=>z⟩
 ·obtain ⟨m1,n1⟩:=mm j h1;obtain ⟨m2,n2⟩:=mm k h2;rw [Jq n1] at h3;rw [Jq n2] at h4;exact R.sep j k a m1 m2 h3 h4
theorem wO {i:Nat} {s:Sl} {x:Option V} (hu:env[i]?=some .un) (hs:∀ d,s≠.own d):FF F0 (env.set i s) (Z.set i x)=FF F0 env Z:=by
 funext b;apply propext;constructor
 ·rintro (h | ⟨j,d,e,q⟩)
  ·exact .inl h
  ·rcases get_set e with ⟨_,z⟩ | ⟨n,e⟩
   ·exact absurd z (hs d)
   ·rw [Jq n] at q;exact .inr ⟨j,d,e,q⟩
 ·rintro (h | ⟨j,d,e,q⟩)
  ·exact .inl h
  ·have n:i≠j:=fun z=>by subst z;rw [hu] at e;cases e
   exact .inr ⟨j,d,by rw [Jq n];exact e,by rw [Jq n];exact q⟩
theorem Bn {i:Nat} {s:Sl} {x:Option V} (hu:env[i]?=some .un) (hs:∀ d,s≠.own d/\s≠.ino d):IA (env.set i s) (Z.set i x)=IA env Z:=by
 funext b;apply propext;constructor
 ·rintro ⟨j,⟨d,e | e⟩,q⟩
  ·rcases get_set e with ⟨_,z⟩ | ⟨n,e⟩
   ·exact absurd z (hs d).1
   ·rw [Jq n] at q;exact ⟨j,⟨d,.inl e⟩,q⟩
  ·rcases get_set e with ⟨_,z⟩ | ⟨n,e⟩
   ·exact absurd z (hs d).2
   ·rw [Jq n] at q;exact ⟨j,⟨d,.inr e⟩,q⟩
 ·rintro ⟨j,⟨d,e⟩,q⟩;have n:i≠j:=fun z=>by subst z;rw [hu] at e;rcases e with e | e <;> cases e
  refine ⟨j,⟨d,?_⟩,by rw [Jq n];exact q⟩;rw [Jq n];exact e
theorem Rel.putD (R:Rel K F0 ZW I env Z H) {i:Nat} {d:PyData} {v:V} (hu:env[i]?=some .un) (h:Dm K (FF F0 env Z) H d v):Rel K F0 ZW I (env.set i (.dat d)) (Z.set i (some v)) H:=by
 have hi:i < env.length:=(Jo.mp hu).1;have eF:FF F0 (env.set i (.dat d)) (Z.set i (some v))=FF F0 env Z:=wO hu (fun _=>nofun);have eI:IA (env.set i (.dat d)) (Z.set i (some v))=IA env Z:=Bn hu (fun _=>⟨nofun,nofun⟩);have mm:∀ j,mu (env.set i (.dat d)) j->mu env j/\i≠j:=fun j h=>by
  obtain ⟨c,e | e⟩:=h
  ·rcases get_set e with ⟨_,z⟩ | ⟨n,e⟩
   ·cases z
   ·exact ⟨⟨c,.inl e⟩,n⟩
  ·rcases get_set e with ⟨_,z⟩ | ⟨n,e⟩
   ·cases z
   ·exact ⟨⟨c,.inr e⟩,n⟩
 refine ⟨by rw [J7,J7];exact R.len,fun j c e=>?_,fun j c e=>?_,fun j c e=>?_,fun j c e=>?_,fun j k a h1 h2 h3 h4=>?_,R.dom,R.eR⟩
 ·rw [eF];rcases get_set e with ⟨z,y⟩ | ⟨n,e⟩
  ·subst z;cases y;exact ⟨v,JK (by rw [<- R.len];exact hi),h⟩
  obtain ⟨w,s,r⟩:=R.dat j c e;exact ⟨w,by rw [Jq n];exact s,r⟩
 ·rw [eF];rcases get_set e with ⟨_,z⟩ | ⟨n,e⟩
  ·cases z
  obtain ⟨a,s,q,w,t⟩:=R.own j c e;exact ⟨a,by rw [Jq n];exact s,q,w,t⟩
 ·rw [eF];rcases get_set e with ⟨_,z⟩ | ⟨n,e⟩
  ·cases z
  obtain ⟨a,s,q,w,t⟩:=R.ino j c e;exact ⟨a,by rw [Jq n];exact s,q,w,t⟩
 ·rw [eF,eI];rcases get_set e with ⟨_,z⟩ | ⟨n,e⟩
  ·cases z
  obtain ⟨a,s,t⟩:=R.ro j c e;exact ⟨a,by rw [Jq n];exact s,t⟩
 ·obtain ⟨m1,n1⟩:=mm j h1;obtain ⟨m2,n2⟩:=mm k h2;rw [Jq n1] at h3;rw [Jq n2] at h4;exact R.sep j k a m1 m2 h3 h4
theorem Rel.HB {i:Nat} {d:PyData} {a:Addr} (hu:env[i]?=some .un) (h:gF K F0 ZW I env Z H (.frs d) (.ref a)):Rel K F0 ZW I (env.set i (.own d)) (Z.set i (some (.ref a))) H:=by
 obtain ⟨a',ea,R,t,w,nF,hino,hro⟩:=h;cases ea;have hi:i < env.length:=(Jo.mp hu).1;have his:i < Z.length:=by rw [<- R.len];exact hi
 have eF:FF F0 (env.set i (.own d)) (Z.set i (some (.ref a)))=fun b=>FF F0 env Z b\/b=a:=by
  funext b;apply propext;constructor
  ·rintro (h | ⟨j,c,e,q⟩)
   ·exact .inl (.inl h)
   ·rcases get_set e with ⟨z,y⟩ | ⟨n,e⟩
    ·subst z;rw [JK his] at q;cases q;exact .inr rfl
    ·rw [Jq n] at q;exact .inl (.inr ⟨j,c,e,q⟩)
  ·rintro ((h | ⟨j,c,e,q⟩) | rfl)
   ·exact .inl h
   ·have n:i≠j:=fun z=>by subst z;rw [hu] at e;cases e
    exact .inr ⟨j,c,by rw [Jq n];exact e,by rw [Jq n];exact q⟩
   ·exact .inr ⟨i,d,JK hi,JK his⟩
 have eF2:FF (fun b=>F0 b\/b=a) env Z=fun b=>FF F0 env Z b\/b=a:=iL;have mm:∀ j,mu (env.set i (.own d)) j->i=j\/(mu env j/\i≠j):=fun j h=>by
  obtain ⟨c,e | e⟩:=h
  ·rcases get_set e with ⟨z,_⟩ | ⟨n,e⟩
   ·exact .inl z
   ·exact .inr ⟨⟨c,.inl e⟩,n⟩
  ·rcases get_set e with ⟨z,_⟩ | ⟨n,e⟩
   ·exact .inl z
   ·exact .inr ⟨⟨c,.inr e⟩,n⟩
 have eI:∀ b,IA (env.set i (.own d)) (Z.set i (some (.ref a))) b->IA env Z b\/b=a:=by
  rintro b ⟨j,m,q⟩;rcases mm j m with z | ⟨m',n⟩
  ·subst z;rw [JK his] at q;cases q;exact .inr rfl
  ·rw [Jq n] at q;exact .inl ⟨j,m',q⟩
 have na:∀ j,mu env j->Z[j]?≠some (some (.ref a)):=fun j m q=>by
  obtain ⟨c,e | e⟩:=m
  ·exact nF (.inr ⟨j,c,e,q⟩)
  ·exact hino j c e q
 refine ⟨by rw [J7,J7];exact R.len,fun j c e=>?_,fun j c e=>?_,fun j c e=>?_,fun j c e=>?_,fun j k b h1 h2 h3 h4=>?_,fun b h=>R.dom b (.inl h),R.eR⟩
 ·rw [eF];rcases get_set e with ⟨_,z⟩ | ⟨n,e⟩
  ·cases z
  obtain ⟨x,s,r⟩:=R.dat j c e;rw [eF2] at r;exact ⟨x,by rw [Jq n];exact s,r⟩
 ·rw [eF];rcases get_set e with ⟨z,y⟩ | ⟨n,e⟩
  ·subst z;cases y;exact ⟨a,JK his,fun z=>nF (.inl z),w,t⟩
  obtain ⟨b,s,q,w',t'⟩:=R.own j c e;rw [eF2] at t';exact ⟨b,by rw [Jq n];exact s,fun z=>q (.inl z),w',t'⟩
 ·rw [eF];rcases get_set e with ⟨_,z⟩ | ⟨n,e⟩
  ·cases z
  obtain ⟨b,s,q,w',t'⟩:=R.ino j c e;rw [eF2] at t';refine ⟨b,by rw [Jq n];exact s,?_,w',t'⟩;rcases q with q | q
  ·exact q
  ·subst q;exact absurd s (hino j c e)
 ·rw [eF];rcases get_set e with ⟨_,z⟩ | ⟨n,e⟩
  ·cases z
  obtain ⟨b,s,t'⟩:=hro j c e;exact ⟨b,by rw [Jq n];exact s,t'.pr Pr.refl (fun _ z=>z) eI fun _ _ z _=>z⟩
 ·rcases mm j h1 with z1 | ⟨m1,n1⟩
  ·rcases mm k h2 with z2 | ⟨m2,n2⟩
   ·rw [<- z1,<-z2]
   ·rw [<- z1,JK his] at h3;cases h3;rw [Jq n2] at h4;exact absurd h4 (na k m2)
  ·rw [Jq n1] at h3;rcases mm k h2 with z2 | ⟨m2,n2⟩
   ·rw [<- z2,JK his] at h4;cases h4;exact absurd h3 (na j m1)
   ·rw [Jq n2] at h4;exact R.sep j k b m1 m2 h3 h4
theorem Rel.take (R:Rel K F0 ZW I env Z H) {i:Nat} {d:PyData} (e:env[i]?=some (.own d)):∃ a,Z[i]?=some (some (.ref a))/\gF K F0 ZW I (env.set i .un) Z H (.frs d) (.ref a):=by
 obtain ⟨a,s,nF0,w,t⟩:=R.own i d e;have hi:i < env.length:=(Jo.mp e).1;have mm:∀ j,mu (env.set i .un) j->mu env j/\i≠j:=fun j h=>by
  obtain ⟨c,e | e⟩:=h
  ·rcases get_set e with ⟨_,z⟩ | ⟨n,e⟩
   ·cases z
   ·exact ⟨⟨c,.inl e⟩,n⟩
  ·rcases get_set e with ⟨_,z⟩ | ⟨n,e⟩
   ·cases z
   ·exact ⟨⟨c,.inr e⟩,n⟩
 have eF:FF F0 env Z=fun b=>FF F0 (env.set i .un) Z b\/b=a:=by
  funext b;apply propext;constructor
  ·rintro (h | ⟨j,c,e',q⟩)
   ·exact .inl (.inl h)
   ·by_cases n:i=j
    ·subst n;rw [s] at q;cases q;exact .inr rfl
    ·exact .inl (.inr ⟨j,c,by rw [Jq n];exact e',q⟩)
  ·rintro ((h | ⟨j,c,e',q⟩) | rfl)
   ·exact .inl h
   ·rcases get_set e' with ⟨_,z⟩ | ⟨n,e'⟩
    ·cases z
    ·exact .inr ⟨j,c,e',q⟩
   ·exact .inr ⟨i,d,e,s⟩
 have eF2:FF (fun b=>F0 b\/b=a) (env.set i .un) Z=FF F0 env Z:=by rw [iL];exact eF.symm
 have na:∀ j,mu (env.set i .un) j->Z[j]?≠some (some (.ref a)):=fun j m q=>by
  obtain ⟨m',n⟩:=mm j m;exact n (R.sep i j a ⟨d,.inl e⟩ m' s q)
 have nF:¬FF F0 (env.set i .un) Z a:=by
  rintro (h | ⟨j,c,e',q⟩)
  ·exact nF0 h
  ·exact na j ⟨c,.inl e'⟩ q
 have ia:∀ b,IA (env.set i .un) Z b->IA env Z b:=fun b ⟨j,m,q⟩=>⟨j,(mm j m).1,q⟩;have ia2:∀ b,(IA (env.set i .un) Z b\/b=a)->IA env Z b:=fun b h=>h.elim (ia b) fun z=>z▸⟨i,⟨d,.inl e⟩,s⟩;have R':Rel K (fun b=>F0 b\/b=a) ZW I (env.set i .un) Z H:=by
  refine ⟨by rw [J7];exact R.len,fun j c e'=>?_,fun j c e'=>?_,fun j c e'=>?_,fun j c e'=>?_,fun j k b h1 h2 h3 h4=>R.sep j k b (mm j h1).1 (mm k h2).1 h3 h4,fun b h=>?_,R.eR⟩
  ·rw [eF2];rcases get_set e' with ⟨_,z⟩ | ⟨n,e'⟩
   ·cases z
   exact R.dat j c e'
  ·rw [eF2];have m:=e';rcases get_set e' with ⟨_,z⟩ | ⟨n,e'⟩
   ·cases z
   obtain ⟨b,s',q,w',t'⟩:=R.own j c e';exact ⟨b,s',fun z=>z.elim q fun z=>na j ⟨c,.inl m⟩ (z▸s'),w',t'⟩
  ·rw [eF2];rcases get_set e' with ⟨_,z⟩ | ⟨n,e'⟩
   ·cases z
   obtain ⟨b,s',q,w',t'⟩:=R.ino j c e';exact ⟨b,s',.inl q,w',t'⟩
  ·rw [eF2];rcases get_set e' with ⟨_,z⟩ | ⟨n,e'⟩
   ·cases z
   obtain ⟨b,s',t'⟩:=R.ro j c e';exact ⟨b,s',t'.pr Pr.refl (fun _ z=>z) ia fun _ _ z _=>z⟩
  ·rcases h with h | h
   ·exact R.dom b h
   ·obtain ⟨o,q,_⟩:=t.wr;rw [h,q];exact nofun
 refine ⟨a,s,a,rfl,R',by rw [eF] at t;exact t,w,nF,fun j c e'=>na j ⟨c,.inr e'⟩,fun j c e'=>?_⟩;rcases get_set e' with ⟨_,z⟩ | ⟨n,e'⟩
 ·cases z
 obtain ⟨b,s',t'⟩:=R.ro j c e';rw [eF] at t';exact ⟨b,s',t'.pr Pr.refl (fun _ z=>z) ia2 fun _ _ z _=>z⟩
theorem gF.rel (h:gF K F0 ZW I env Z H (.frs d) v):Rel K F0 ZW I env Z H:=by
 obtain ⟨a,_,R,_,_,_,hi,_⟩:=h;exact R.less hi
theorem set_same {α:Type} {l:List α} {i:Nat} {x:α} (h:l[i]?=some x):l.set i x=l:=by
 have hi:i < l.length:=(Jo.mp h).1;apply LC;intro j;by_cases z:i=j
 ·subst z;rw [JK hi,h]
 ·rw [Jq z]
theorem Rel.mov (R:Rel K F0 ZW I env Z H) {i:Nat} {d:PyData} (e:env[i]?=some (.own d)):∃ a,Z[i]?=some (some (.ref a))/\Rel K F0 ZW I (env.set i (.dat d)) Z H/\Dm K (FF F0 (env.set i (.dat d)) Z) H d (.ref a):=by
 have hi:i < env.length:=(Jo.mp e).1;obtain ⟨a,s,h⟩:=R.take e;have R1:=h.rel;have hu:(env.set i .un)[i]?=some .un:=JK hi;have hd:Dm K (FF F0 (env.set i .un) Z) H d (.ref a):=gF.av h;have R2:=R1.putD hu hd;rw [LA,set_same s] at R2;refine ⟨a,s,R2,?_⟩;have eF:FF F0 (env.set i (.dat d)) Z=FF F0 (env.set i .un) Z:=by
  have:=wO (F0:=F0) (Z:=Z) (s:=.dat d) (x:=some (.ref a)) hu (fun _=>nofun);rw [LA,set_same s] at this;exact this
 rw [eF];exact hd
theorem xt (e:env[i]?=some s) (v:Evo s s'):KpE env (env.set i s'):=by
 have hi:i < env.length:=(Jo.mp e).1;refine ⟨J7,fun j t h=>?_⟩;by_cases z:i=j
 ·subst z;rw [e] at h;cases h;exact ⟨s',JK hi,v⟩
 ·exact ⟨t,by rw [Jq z];exact h,.refl t⟩
end
open PySem
theorem dh (x y:Str):(x++y).cps=x.cps++y.cps:=rfl
theorem ur (h:PyData.strOk x=true) (q:PyData.strOk y=true):PyData.strOk (x++y)=true:=by
 unfold PyData.strOk at h q ⊢;rw [dh,Array.all_append,h,q];rfl
def SE (K:Fg) (ga:Nat->V) (gd:List PyData) (e:XE):Prop:=∀ (env:En) (rv:RV) (env':En),dE gd e env=some (rv,env')->∀ (F0:Addr->Prop) (ZW:Hp) (I:Addr->Prop) (Z:St) (H:Hp) (Q:VK),Rel K F0 ZW I env Z H ->
 (∀ v H',Rel K F0 ZW I env' Z H'->KpE env env'->gF K F0 ZW I env' Z H' rv v->Q v H')->rE K ga e Z H Q
def SA (K:Fg) (ga:Nat->V) (gd:List PyData) (e:XA):Prop:=∀ (env:En) (rv:List AV) (env':En),dA gd e env=some (rv,env')->∀ (F0:Addr->Prop) (ZW:Hp) (I:Addr->Prop) (Z:St) (H:Hp) (Q:List V->Hp->Prop),Rel K F0 ZW I env Z H ->
 (∀ v H',Rel K F0 ZW I env' Z H'->KpE env env'->gC K F0 env' Z H' rv v->Q v H')->rA K ga e Z H Q
def Ca (K:Fg) (F:Addr->Prop) (H:Hp):List (Key×PyData)->List (Key×V)->Prop
 | [],vs=>vs=[]
 | (k,d) :: ds,vs=>∃ v r,vs=(k,v) :: r/\Dm K F H (kD k) (kV k)/\Dm K F H d v/\Ca K F H ds r
def SPs (K:Fg) (ga:Nat->V) (gd:List PyData) (e:XP):Prop:=∀ (env:En) (kvs:List (Key×PyData)) (env':En),dP gd e env=some (kvs,env')->∀ (F0:Addr->Prop) (ZW:Hp) (I:Addr->Prop) (Z:St) (H:Hp) (Q:List (V×V)->Hp->Prop),Rel K F0 ZW I env Z H ->
 (∀ vs H',Rel K F0 ZW I env' Z H'->KpE env env'->Ca K (FF F0 env' Z) H' kvs vs->Q (vs.map fun kv=>(kV kv.1,kv.2)) H')->oX (rP K ga e) Z H Q
def ST (K:Fg) (ga:Nat->V) (gd:List PyData) (e:XT):Prop:=∀ (env:En) (b:Bool) (env':En),dT gd e env=some (b,env')->∀ (F0:Addr->Prop) (ZW:Hp) (I:Addr->Prop) (Z:St) (H:Hp) (Q:Bool->Hp->Prop),Rel K F0 ZW I env Z H ->
 (∀ H',Rel K F0 ZW I env' Z H'->KpE env env'->Q b H')->rT K ga e Z H Q
def ItY (K:Fg) (F:Addr->Prop) (H H' H'':Hp) (d:PyData) (x:V):Prop:=(H''=H'/\Dm K F H d x)\/∃ p u v d1 d2,d=.tuple [d1,d2]/\x=.ref p/\H' p=none/\H''=upd H' p (.tup [u,v])/\Dm K F H d1 u/\Dm K F H d2 v
theorem ItY.dm {K:Fg} (h:ItY K F H H' H'' d x) (T:∀ d v,Dm K F H d v->Dm K F2 H' d v):aE H' H''/\Dm K F2 H'' d x:=by
 rcases h with ⟨rfl,h⟩ | ⟨p,u,v,d1,d2,rfl,rfl,hp,rfl,h1,h2⟩
 ·exact ⟨fun _ _ e=>e,T _ _ h⟩
 ·have sm:aE H' (upd H' p (.tup [u,v])):=fun b o e=>by rw [ax (fun z=>by rw [z,hp] at e;cases e)];exact e
  refine ⟨sm,p,[u,v],rfl,SqT.of ak,LH rfl,u,_,rfl,?_,v,_,rfl,?_,rfl⟩
  ·exact (T _ _ h1).pr (fun b o e _=>sm b o e) fun _ z=>z
  ·exact (T _ _ h2).pr (fun b o e _=>sm b o e) fun _ z=>z
def yN (K:Fg) (F I:Addr->Prop) (H:Hp) (J:It) (ds:List PyData):Prop:=ds.length<=sizeLine/\∀ H',(∀ b o,H b=some o->¬I b->H' b=some o)->∀ k,(k < ds.length->J.go k H'/\∀ x H'',J.yld k H' x H''->∃ d,ds[k]?=some d/\ItY K F H H' H'' d x)/\(ds.length<=k->J.stop k H')
theorem ka {K:Fg} (hd:DmL K F H ds vs) (hl:vs.length<=sizeLine) (h:∀ H',(∀ b o,H b=some o->¬I b->H' b=some o)->∀ k,(k < vs.length->J.go k H'/\∀ x H'',J.yld k H' x H''->H''=H'/\vs[k]?=some x)/\(vs.length<=k->J.stop k H')):yN K F I H J ds:=by
 have e:=hd.len;refine ⟨by omega,fun H' k j=>⟨fun hj=>?_,fun hj=>((h H' k j).2 (by omega))⟩⟩;obtain ⟨g,y⟩:=(h H' k j).1 (by omega);refine ⟨g,fun x H'' hx=>?_⟩;obtain ⟨e0,hx2⟩:=y x H'' hx;obtain ⟨d,h1,h2⟩:=hd.get' hx2;exact ⟨d,h1,.inl ⟨e0,h2⟩⟩
def SI (K:Fg) (ga:Nat->V) (gd:List PyData) (e:XI):Prop:=∀ (env:En) (ds:List PyData) (lock:Option Nat) (env':En),dI gd e env=some (ds,lock,env')->∀ (F0:Addr->Prop) (ZW:Hp) (I:Addr->Prop) (Z:St) (H:Hp) (R:It->Hp->Prop),Rel K F0 ZW I env Z H ->
 (∀ J H',Rel K F0 ZW I env' Z H'->KpE env env'->(∀ i,lock=some i->∃ d,cont env' i=some d)->yN K (FF F0 env' Z) (fun b=>IA env' Z b/\∀ i,lock=some i->mu env' i->Z[i]?≠some (some (.ref b))) H' J ds->R J H')->rI_ K ga e Z H R
section
variable {K:Fg} {F F' I I' F0:Addr->Prop} {H H' ZW:Hp} {env env':En} {Z Z':St} {ga:Nat->V} {gd:List PyData}
theorem FX (i:Nat):SE K ga gd (.var i):=by
 intro env rv env' h F0 ZW I Z H Q R q;simp only [dE] at h;split at h
 ·rename_i d e;cases h;obtain ⟨v,s,r⟩:=R.dat i d e;exact ⟨v,s,q v H R (KpE.refl _) r⟩
 ·rename_i d e;cases h;obtain ⟨a,s,_⟩:=R.own i d e;exact ⟨_,s,q _ H R (KpE.refl _) s⟩
 ·rename_i d e;cases h;obtain ⟨a,s,_⟩:=R.ino i d e;exact ⟨_,s,q _ H R (KpE.refl _) s⟩
 ·rename_i d e;cases h;obtain ⟨a,s,_⟩:=R.ro i d e;exact ⟨_,s,q _ H R (KpE.refl _) s⟩
 ·cases h
theorem Fd (i:Nat):SE K ga gd (.mov i):=by
 intro env rv env' h F0 ZW I Z H Q R q;simp only [dE] at h;split at h
 ·rename_i d e;cases h;obtain ⟨a,s,R',r⟩:=R.mov e;exact ⟨_,s,q _ H R' (xt e (.inr (.inl ⟨d,rfl⟩))) r⟩
 ·cases h
theorem El (i:Nat):SE K ga gd (.tke i):=by
 intro env rv env' h F0 ZW I Z H Q R q;simp only [dE] at h;split at h
 ·rename_i d e;cases h;obtain ⟨a,s,r⟩:=R.take e;exact ⟨_,s,q _ H r.rel (xt e (.inr (.inr rfl))) r⟩
 ·cases h
theorem Rel.bnd (R:Rel K F0 ZW I env Z H) (h:L2.bnd env i=true):∃ v,Z[i]?=some (some v):=by
 unfold L2.bnd at h;split at h
 ·cases h
 ·rename_i s hs e;cases s with
  | un=>exact absurd rfl hs
  | dat d=>obtain ⟨v,s,_⟩:=R.dat i d e;exact ⟨v,s⟩
  | own d=>obtain ⟨a,s,_⟩:=R.own i d e;exact ⟨_,s⟩
  | ino d=>obtain ⟨a,s,_⟩:=R.ino i d e;exact ⟨_,s⟩
  | ro d=>obtain ⟨a,s,_⟩:=R.ro i d e;exact ⟨_,s⟩
 ·cases h
theorem FI (il:SE K ga gd l) (ie:SE K ga gd e):SE K ga gd (.gho i j h l e):=by
 intro env rv env' hd F0 ZW I Z H Q R q;simp only [dE] at hd;split at hd
 ·rename_i hb;rw [JU] at hb;split at hd
  ·rename_i d e1 h1;split at hd
   ·rename_i hu;split at hd
    ·rename_i x e2 h2;cases hd;refine ⟨R.bnd hb.1,R.bnd hb.2,il _ _ _ h1 F0 ZW I Z H _ R fun v H1 R1 k1 r1=>?_⟩;obtain ⟨a,rfl,_⟩:=id r1;have hl:h < Z.length:=by rw [<- R1.len];exact (Jo.mp hu).1
     refine ie _ _ _ h2 F0 ZW I _ H1 Q (Rel.HB hu r1) fun w H2 R2 k2 r2=>?_;have es:(Z.set h (some (.ref a))).set h ((Z[h]?).getD none)=Z:=by
      rw [LA,Jl hl];exact List.set_getElem_self hl
     have sb:=(R2.sub h ((Z[h]?).getD none)).1;have R3:=R2.forget h ((Z[h]?).getD none);rw [es] at R3 sb;refine q w H2 R3 (k1.trans ⟨by rw [J7,k2.1,J7],fun k s e=>?_⟩) (Dm.mono sb r2);by_cases z:h=k
     ·subst z;rw [hu] at e;cases e;refine ⟨.un,JK ?_,.refl _⟩;rw [k2.1,J7];exact (Jo.mp hu).1
     ·obtain ⟨s',e',v'⟩:=k2.2 k s (by rw [Jq z];exact e);exact ⟨s',by rw [Jq z];exact e',v'⟩
    ·cases hd
   ·cases hd
  ·cases hd
 ·cases hd
theorem Gm (c:Cst):SE K ga gd (.cst c):=by
 intro env rv env' h F0 ZW I Z H Q R q;simp only [dE] at h;cases h;exact q _ H R (KpE.refl _) (c.ok _ _ _)
theorem Gy (hg:∀ g d,gd[g]?=some d->∀ F H,Dm K F H d (ga g)) (g:Nat):SE K ga gd (.glb g):=by
 intro env rv env' h F0 ZW I Z H Q R q;simp only [dE] at h;split at h
 ·rename_i d e;cases h;exact q _ H R (KpE.refl _) (hg g d e _ _)
 ·cases h
theorem EW (ih:SA K ga gd as):SE K ga gd (.prm p as):=by
 intro env rv env' h F0 ZW I Z H Q R q;simp only [dE] at h;split at h
 ·rename_i avs e1 h1;split at h
  ·rename_i ds h2;split at h
   ·rename_i pr h3;cases h;refine ih _ _ _ h1 F0 ZW I Z H _ R fun vs H1 R1 k1 a1=>?_;refine p.ok K _ H1 ds vs pr Q h3 (a1.vw R1 h2) (fun b z=>R1.d8 z) fun v H2 s2 hp=>?_;exact q v H2 (R1.same s2) k1 (R1.kX s2 hp)
   ·cases h
  ·cases h
 ·cases h
theorem EY (io:SE K ga gd o) (ih:SA K ga gd as):SE K ga gd (.met m o as):=by
 intro env rv env' h F0 ZW I Z H Q R q;simp only [dE] at h;split at h
 ·rename_i rv0 e1 h1;split at h
  ·rename_i d0 h2;split at h
   ·rename_i hty;split at h
    ·rename_i avs e2 h3;split at h
     ·rename_i d ds h4 h5;split at h
      ·rename_i pr h6;cases h;refine io _ _ _ h1 F0 ZW I Z H _ R fun v H1 R1 k1 a1=>?_;refine ⟨m.xS K _ H1 d0 v hty (a1.av.vw R1 h2),?_⟩;refine ih _ _ _ h3 F0 _ _ Z H1 _ R1.rebase fun vs H2 S2 k2 a2=>?_;have R2:=R1.a8 S2;refine m.ok K _ H2 d v ds vs pr Q h6 ((a1.av.keep R1 S2 k2).vw R2 h4) (a2.vw R2 h5) (fun b z=>R2.d8 z) fun v H3 s3 hp=>?_;exact q v H3 (R2.same s3) (k1.trans k2) (R2.kX s3 hp)
      ·cases h
     ·cases h
    ·cases h
   ·cases h
  ·cases h
 ·cases h
theorem Rel.HR (R:Rel K F0 ZW I env Z H) (hm:aU env i=some d) (s:Z[i]?=some (some (.ref a))) (hk:∀ b o,b≠a->H b=some o->H' b=some o) (ht:Top K (FF F0 env Z) H' d' a):Rel K F0 ZW I (gq env i d') Z H':=by
 obtain ⟨m,a',s',_,_⟩:=R.cW hm;rw [s] at s';cases s';have hia:IA env Z a:=⟨i,m,s⟩;refine R.chg (dQ env i d') (fun b o e n=>hk b o (fun z=>n (z▸hia)) e) fun j c b hc hs=>?_;by_cases z:j=i
 ·subst z;rw [kz m] at hc;cases hc;rw [s] at hs;cases hs;exact ht
 ·have hc':aU env j=some c:=by
   unfold aU at hc ⊢
   rwa [kh z] at hc
  obtain ⟨m2,b',s2,_,t2⟩:=R.cW hc';rw [hs] at s2;cases s2;have nb:b≠a:=fun y=>z (R.sep j i a m2 m (y▸hs) s);refine t2.pr (R.pN fun b' o e n=>hk b' o (fun z=>n (z▸hia)) e) (fun _ z=>z) fun o e=>hk b o nb e
theorem Gj (ih:SA K ga gd as):SE K ga gd (.mtr m i as):=by
 intro env rv env' h F0 ZW I Z H Q R q;simp only [dE] at h;split at h
 ·rename_i d0 h0;split at h
  ·rename_i hty;split at h
   ·rename_i avs e1 h1;split at h
    ·rename_i d ds h2 h3;split at h
     ·rename_i d' pr h4;cases h;obtain ⟨_,a,s,f,t⟩:=R.cW h0;refine ⟨.ref a,s,m.xS K _ H d0 a hty t,?_⟩;refine ih _ _ _ h1 F0 ZW I Z H _ R fun vs H1 R1 k1 a1=>?_;obtain ⟨m1,a',s',f1,t1⟩:=R1.cW h2;rw [s] at s';cases s';refine m.ok K _ H1 d a ds vs d' pr Q h4 f1 t1 (a1.mv R1 h3) fun v H2 hk ht hp=>?_;refine q v H2 (R1.HR h2 s hk ht) (k1.trans (qU _ _ _)) ?_;show Dm K (FF F0 (gq e1 i d') Z) H2 pr v;rw [(dQ e1 i d').ff (F0:=F0) (Z:=Z)];exact hp
     ·cases h
    ·cases h
   ·cases h
  ·cases h
 ·cases h
noncomputable def adr (Z:St) (i:Nat):Addr:=match Z[i]? with | some (some (.ref a))=>a | _=>0
theorem gk (h:Z[i]?=some (some (.ref a))):adr Z i=a:=by unfold adr;rw [h]
theorem jB (h:i4 env (m :: ms) (a :: as)=some ds):∃ d r,ds=d :: r/\EK env m a=some d/\i4 env ms as=some r:=by
 unfold i4 at h;split at h
 ·rename_i d r e1 e2;cases h;exact ⟨d,r,rfl,e1,e2⟩
 ·cases h
theorem iO.bor (h:iO K G I H d a):z7 K G I H d (.ref a):=by cases d <;> first | exact ⟨a,rfl,h⟩ | exact absurd h id
theorem Dv (R:Rel K F0 ZW I env Z H) (all:List Nat) (hall:∀ i∈all,mu env i):∀ {ms:List PM} {as:List AV} {ds:List PyData} {vs:List V},i4 env ms as=some ds->gC K F0 env Z H as vs->(ck ms as).Nodup->(∀ i∈qB ms as,i ∉ all)->(∀ i∈ck ms as,i∈all) ->
  bI K (FF F0 env Z) (·∈all.map (adr Z)) H ms ds vs ((ck ms as).map (adr Z)):=by
 have iAll:∀ b,b∈all.map (adr Z)->IA env Z b:=fun b hb=>by
  obtain ⟨i,hi,e⟩:=JV.mp hb;have m:=hall i hi;obtain ⟨d,m'⟩:=m;have:∃ a,Z[i]?=some (some (.ref a)):=by
   rcases m' with z | z
   ·obtain ⟨a,s,_⟩:=R.own i d z;exact ⟨a,s⟩
   ·obtain ⟨a,s,_⟩:=R.ino i d z;exact ⟨a,s⟩
  obtain ⟨a,s⟩:=this;rw [gk s] at e;subst e;exact ⟨i,hall i hi,s⟩
 intro ms;induction ms with
 | nil =>
  intro as ds vs h q _ _ _;cases as with
  | nil=>cases h;rw [show vs=[] from q];rfl
  | cons a as=>cases h
 | cons m ms ih =>
  intro as ds vs h q nd hb hi;cases as with
  | nil=>cases h
  | cons a as =>
   obtain ⟨d,r,rfl,h1,h2⟩:=jB h;obtain ⟨v,vr,rfl,q1,q2⟩:=q;cases m with
   | dat =>
    cases a with
    | bor i=>cases h1
    | dat d' =>
     cases h1;exact ⟨q1,ih h2 q2 (by simpa [ck] using nd) (by simpa [qB] using hb) (by simpa [ck] using hi)⟩
   | bor =>
    cases a with
    | dat d' =>
     by_cases ct:∃ ts,d'=.tuple ts
     ·obtain ⟨ts,rfl⟩:=ct;cases h1;exact ⟨q1,ih h2 q2 (by simpa [ck] using nd) (by simpa [qB] using hb) (by simpa [ck] using hi)⟩
     have l:d'=d/\((∃ ds,d=.list ds)\/∃ ds,d=.dict ds):=by
      cases d' <;> first | exact absurd ⟨_,rfl⟩ ct | (cases h1;exact ⟨rfl,.inl ⟨_,rfl⟩⟩) | (cases h1;exact ⟨rfl,.inr ⟨_,rfl⟩⟩) | cases h1
     obtain ⟨rfl,l⟩:=l;obtain ⟨b,e,t⟩:=Dm.ro (I:=(·∈all.map (adr Z))) q1 (fun b z=>R.ia (iAll b z)) l;exact ⟨by rcases l with ⟨_,rfl⟩ | ⟨_,rfl⟩ <;> exact ⟨b,e,t⟩,ih h2 q2 (by simpa [ck] using nd) (by simpa [qB] using hb) (by simpa [ck] using hi)⟩
    | bor i =>
     have h1:cont env i=some d:=h1;have hb':i ∉ all:=hb i (by simp [qB]);refine ⟨?_,ih h2 q2 (by simpa [ck] using nd) (fun j hj=>hb j (by simp [qB,hj])) (by simpa [ck] using hi)⟩;unfold cont at h1;have na:∀ a,mu env i->Z[i]?=some (some (.ref a))->a ∉ all.map (adr Z):=fun a m s z=>by
      obtain ⟨j,hj,e⟩:=JV.mp z;obtain ⟨k,mk,sk⟩:=iAll a z;obtain ⟨dj,mj⟩:=hall j hj;have:∃ c,Z[j]?=some (some (.ref c)):=by
       rcases mj with z | z
       ·obtain ⟨a,s,_⟩:=R.own j dj z;exact ⟨a,s⟩
       ·obtain ⟨a,s,_⟩:=R.ino j dj z;exact ⟨a,s⟩
      obtain ⟨c,sj⟩:=this;rw [gk sj] at e;subst e;have:=R.sep i j c m ⟨dj,mj⟩ s sj;subst this;exact hb' hj
     split at h1
     ·rename_i d' e;cases h1;obtain ⟨a,s,_,_,t⟩:=R.own i d e;rw [show Z[i]?=some (some v) from q1] at s;cases s;exact iO.bor (t.ro (na a ⟨d,.inl e⟩ q1))
     ·rename_i d' e;cases h1;obtain ⟨a,s,_,_,t⟩:=R.ino i d e;rw [show Z[i]?=some (some v) from q1] at s;cases s;exact iO.bor (t.ro (na a ⟨d,.inr e⟩ q1))
     ·rename_i d' e;cases h1;obtain ⟨a,s,t⟩:=R.ro i d e;rw [show Z[i]?=some (some v) from q1] at s;cases s;exact iO.bor (t.pr Pr.refl (fun _ z=>z) iAll fun _ _ z _=>z)
     ·cases h1
   | ino =>
    cases a with
    | dat d'=>cases h1
    | bor i =>
     have h1:aU env i=some d:=h1;obtain ⟨m,b,s,f,t⟩:=R.cW h1;rw [show Z[i]?=some (some v) from q1] at s;cases s;have nd':i ∉ ck ms as/\(ck ms as).Nodup:=by simpa [ck] using nd
     refine ⟨b,(ck ms as).map (adr Z),rfl,by simp [ck,gk q1],f,t,fun z=>?_,ih h2 q2 nd'.2 (by simpa [qB] using hb) (fun j hj=>hi j (by simp [ck,hj]))⟩;obtain ⟨j,hj,e⟩:=JV.mp z;obtain ⟨dj,mj⟩:=hall j (hi j (by simp [ck,hj]));have:∃ c,Z[j]?=some (some (.ref c)):=by
      rcases mj with z | z
      ·obtain ⟨a,s,_⟩:=R.own j dj z;exact ⟨a,s⟩
      ·obtain ⟨a,s,_⟩:=R.ino j dj z;exact ⟨a,s⟩
     obtain ⟨c,sj⟩:=this;rw [gk sj] at e;subst e;have:=R.sep i j c m ⟨dj,mj⟩ q1 sj;subst this;exact nd'.1 hj
theorem qV:∀ {ms:List PM} {as:List AV} {ds:List PyData},i4 env ms as=some ds->∀ i∈ck ms as,mu env i
 | [],[],_,_,i,h=>by simp [ck] at h
 | [],_ :: _,_,h,_,_=>by cases h
 | _ :: _,[],_,h,_,_=>by cases h
 | m :: ms,a :: as,_,h,i,hi=>by
  obtain ⟨d,r,rfl,h1,h2⟩:=jB h;have ih:=qV h2 i;cases m with
  | dat=>exact ih (by simpa [ck] using hi)
  | bor=>exact ih (by simpa [ck] using hi)
  | ino =>
   cases a with
   | dat d'=>cases h1
   | bor j =>
    simp only [ck,JJ] at hi;rcases hi with rfl | hi
    ·rcases pj h1 with e | e
     ·exact ⟨d,.inl e⟩
     ·exact ⟨d,.inr e⟩
    ·exact ih hi
theorem k9:∀ (env:En) (is:List Nat) (ds:List PyData),SmK env (cJ env is ds)
 | env,[],ds=>by unfold cJ;exact SmK.refl _
 | env,i :: is,[]=>by unfold cJ;exact SmK.refl _
 | env,i :: is,d :: ds=>by unfold cJ;exact (dQ env i d).trans (k9 _ is ds)
theorem iE:∀ (env:En) (is:List Nat) (ds:List PyData) (j:Nat),j ∉ is->(cJ env is ds)[j]?=env[j]?
 | env,[],ds,j,_=>by unfold cJ;rfl
 | env,i :: is,[],j,_=>by unfold cJ;rfl
 | env,i :: is,d :: ds,j,h=>by
  unfold cJ;have n:j≠i:=fun z=>h (by rw [z];exact Ju);rw [iE _ is ds j (fun z=>h (Jr _ z)),kh n]
theorem kC:∀ {env:En} {is:List Nat} {ds:List PyData} {j:Nat} {c:PyData},is.Nodup->(∀ i∈is,mu env i)->g9 K G H ds (is.map (adr Z))->j∈is->aU (cJ env is ds) j=some c->Top K G H c (adr Z j)
 | env,[],ds,j,c,_,_,_,h,_=>by simp at h
 | env,i :: is,[],j,c,_,_,h,_,_=>by simp [g9] at h
 | env,i :: is,d :: ds,j,c,nd,hm,h,hj,hc=>by
  obtain ⟨n1,nd'⟩:=Kr.mp nd;have h':Top K G H d (adr Z i)/\g9 K G H ds (is.map (adr Z)):=h;unfold cJ at hc;rcases JJ.mp hj with rfl | hj
  ·have e:=iE (gq env j d) is ds j n1;have:aU (gq env j d) j=some c:=by unfold aU at hc ⊢;rwa [e] at hc
   rw [kz (hm j Ju)] at this;cases this;exact h'.1
  ·exact kC (env:=gq env i d) nd' (fun k hk=>(dQ env i d).symm.kp.mu (hm k (Jr _ hk))) h'.2 hj hc
theorem gQ:∀ {is:List Nat},yc is=true->is.Nodup
 | [],_=>List.nodup_nil
 | x :: xs,h=>by
  have h':xs.contains x=false/\yc xs=true:=by simpa [yc] using h
  exact Kr.mpr ⟨fun z=>by simp [z] at h',gQ h'.2⟩
theorem zU (h:ckA is bs n=true):is.Nodup/\(∀ i∈bs,i ∉ is)/\n=is.length:=by
 unfold ckA at h;simp only [JU,Ko,LV] at h;exact ⟨gQ h.1,fun i hi z=>by have:=h.2.1 i hi;simp [z] at this,h.2.2⟩
theorem s_call (ih:SA K ga gd as):SE K ga gd (.call f as):=by
 intro env rv env' h F0 ZW I Z H Q R q;simp only [dE] at h;split at h
 ·rename_i avs e1 h1;unfold vh at h;split at h
  ·cases h
  ·rename_i ds h2;split at h
   ·cases h
   ·rename_i pr outs h3;split at h
    ·rename_i hc;obtain ⟨nd,hb,hl⟩:=zU hc;cases h;refine ih _ _ _ h1 F0 ZW I Z H _ R fun vs H1 R1 k1 a1=>?_;show tT f K (vs++[]) H1 Q NoE;rw [K2];have hmu:=qV h2;refine ⟨FF F0 e1 Z,ds,(ck f.ms avs).map (adr Z),pr,outs,h3,Dv R1 (ck f.ms avs) hmu h2 a1 nd hb (fun _ z=>z),fun b z=>R1.d8 z,fun v H2 hk hr=>?_⟩;have k:=k9 e1 (ck f.ms avs) outs;have eF:=k.ff (F0:=F0) (Z:=Z);have eI:=k.ia (Z:=Z);have isIA:∀ b,b∈(ck f.ms avs).map (adr Z)->IA e1 Z b:=fun b hb=>by
      obtain ⟨i,hi,e⟩:=JV.mp hb;obtain ⟨d,m'⟩:=hmu i hi;have:∃ a,Z[i]?=some (some (.ref a)):=by
       rcases m' with z | z
       ·obtain ⟨a,s,_⟩:=R1.own i d z;exact ⟨a,s⟩
       ·obtain ⟨a,s,_⟩:=R1.ino i d z;exact ⟨a,s⟩
      obtain ⟨a,s⟩:=this;rw [gk s] at e;subst e;exact ⟨i,hmu i hi,s⟩
     have hk':∀ b o,H1 b=some o->¬IA e1 Z b->H2 b=some o:=fun b o e n=>hk b o e fun z=>n (isIA b z);have oN:∀ j d a,j ∉ ck f.ms avs->aU (cJ e1 (ck f.ms avs) outs) j=some d->Z[j]?=some (some (.ref a))->aU e1 j=some d/\a ∉ (ck f.ms avs).map (adr Z):=fun j d a hj hm hs=>by
      have hm':aU e1 j=some d:=by unfold aU at hm ⊢;rwa [iE _ _ _ _ hj] at hm
      refine ⟨hm',fun z=>?_⟩;obtain ⟨i,hi,e⟩:=JV.mp z;obtain ⟨i',m2,s2⟩:=isIA a z;obtain ⟨di,mi⟩:=hmu i hi;have:∃ a,Z[i]?=some (some (.ref a)):=by
       rcases mi with z | z
       ·obtain ⟨a,s,_⟩:=R1.own i di z;exact ⟨a,s⟩
       ·obtain ⟨a,s,_⟩:=R1.ino i di z;exact ⟨a,s⟩
      obtain ⟨c,sc⟩:=this;rw [gk sc] at e;subst e;have:=R1.sep j i c (R1.cW hm').1 ⟨di,mi⟩ hs sc;subst this;exact hj hi
     cases pr with
     | dat d =>
      obtain ⟨hd,ht⟩:=hr;refine q v H2 (R1.chg k hk' fun j c a hm hs=>?_) (k1.trans k.kp) (show Dm K _ H2 d v by rw [eF];exact hd);by_cases hj:j∈ck f.ms avs
      ·have:=kC nd hmu ht hj hm
       rwa [gk hs] at this
      ·obtain ⟨hm',ha⟩:=oN j c a hj hm hs;obtain ⟨_,a',s',_,t'⟩:=R1.cW hm';rw [hs] at s';cases s';exact t'.pr (R1.pN hk') (fun _ z=>z) fun o e=>hk a o e ha
     | frs d =>
      obtain ⟨c,ev,hn,td,ht⟩:=hr;obtain ⟨o,ho,_⟩:=td.wr;have sm:aE H1 (upd H1 c o):=aE.nw o hn;have R1c:=R1.fresh (c:=c) hn sm (by rw [ak];exact nofun);have cIA:¬IA e1 Z c:=fun z=>by obtain ⟨o',z,_⟩:=R1.iaT z;rw [hn] at z;cases z
      have hkc:∀ b o',upd H1 c o b=some o'->¬IA e1 Z b->H2 b=some o':=fun b o' e n=>by
       by_cases z:b=c
       ·subst z;rw [ak] at e;cases e;exact ho
       ·rw [ax z] at e;exact hk' b o' e n
      have pF:Pr (fun b=>FF F0 e1 Z b\/b=c) H1 H2:=fun b o' e n=>hk' b o' e fun y=>by
       rcases n with n | n
       ·exact n (.inl (R1.ia y))
       ·obtain ⟨o2,h2,w2⟩:=R1.iaT y;rw [e] at h2;cases h2;rw [n] at w2;cases w2
      have R2c:Rel K (fun b=>F0 b\/b=c) ZW I (cJ e1 (ck f.ms avs) outs) Z H2:=by
       refine R1c.chg k hkc fun j c' a hm hs=>?_;rw [iL];by_cases hj:j∈ck f.ms avs
       ·have:=kC nd hmu ht hj hm
        rwa [gk hs] at this
       ·obtain ⟨hm',ha⟩:=oN j c' a hj hm hs;obtain ⟨_,a',s',_,t'⟩:=R1.cW hm';rw [hs] at s';cases s';exact (t'.fresh hn).pr pF (fun _ z=>z) fun o e=>hk a o e ha
      have nino:∀ (i:Nat) (d':PyData),(cJ e1 (ck f.ms avs) outs)[i]?=some (.ino d')->Z[i]?≠some (some (.ref c)):=fun i d' e' z=>cIA ⟨i,k.kp.mu ⟨d',.inr e'⟩,z⟩;have rv:gF K F0 ZW I (cJ e1 (ck f.ms avs) outs) Z H2 (.frs d) v:=by
       refine ⟨c,ev,R2c,by rw [eF];exact td,R1.oi (.inl hn),fun z=>?_,nino,fun i d' e'=>?_⟩
       ·rw [eF] at z;exact R1.d8 z hn
       ·have e0:e1[i]?=some (.ro d'):=by
         rcases k.2 i with y | ⟨_,_,_,y⟩ | ⟨_,_,_,y⟩
         ·rw [<- y];exact e'
         ·rw [e'] at y;cases y
         ·rw [e'] at y;cases y
        obtain ⟨b,s,t⟩:=R1.ro i d' e0;rw [eF,eI];exact ⟨b,s,((t.fresh hn).xJ hn).pr pF (fun _ z=>z) (fun _ z=>z) fun b o' e n=>hk' b o' e fun z=>n (.inl z)⟩
      exact q v H2 rv.rel (k1.trans k.kp) rv
    ·cases h
 ·cases h
theorem GS (ih:SA K ga gd as):SE K ga gd (.tup as):=by
 intro env rv env' h F0 ZW I Z H Q R q;simp only [dE] at h;split at h
 ·rename_i avs e1 h1;split at h
  ·rename_i ds h2;split at h
   ·rename_i hl;cases h;refine ih _ _ _ h1 F0 ZW I Z H _ R fun vs H1 R1 k1 a1=>?_;have dl:=a1.FO h2;have hl':vs.length<=sizeLine:=by rw [dl.len];exact hl
    refine ⟨hl',fun p hp=>?_⟩;have s:=aE.nw (.tup vs) hp;exact q _ _ (R1.same s) k1 ⟨p,vs,rfl,.inl (.inl ak),hl',dl.pr (Pr.of_same s) fun _ z=>z⟩
   ·cases h
  ·cases h
 ·cases h
theorem Ft (ih:SA K ga gd as):SE K ga gd (.lst as):=by
 intro env rv env' h F0 ZW I Z H Q R q;simp only [dE] at h;split at h
 ·rename_i avs e1 h1;split at h
  ·rename_i ds h2;split at h
   ·rename_i hl;cases h;refine ih _ _ _ h1 F0 ZW I Z H _ R fun vs H1 R1 k1 a1=>?_;have dl:=a1.FO h2;have hl':vs.length<=sizeLine:=by rw [dl.len];exact hl
    refine ⟨hl',fun p hp=>?_⟩;have s:=aE.nw (.lst vs) hp;exact q _ _ (R1.same s) k1 (R1.kX (pr:=.frs (.list ds)) s ⟨p,rfl,hp,vs,ak,hl',(dl.fresh hp).pr (Pr.of_same s) fun _ z=>z⟩)
   ·cases h
  ·cases h
 ·cases h
theorem Ew:SA K ga gd .nil:=by
 intro env rv env' h F0 ZW I Z H Q R q;simp only [dA] at h;cases h;exact q [] H R (KpE.refl _) rfl
theorem Bk (ie:SE K ga gd e) (ir:SA K ga gd r):SA K ga gd (.cons e r):=by
 intro env rv env' h F0 ZW I Z H Q R q;simp only [dA] at h;split at h
 ·rename_i rv0 e1 h1;split at h
  ·rename_i avs e2 h2;cases h;refine ie _ _ _ h1 F0 ZW I Z H _ R fun v H1 R1 k1 a1=>?_;refine ir _ _ _ h2 F0 _ _ Z H1 _ R1.rebase fun vs H2 S2 k2 a2=>?_;exact q (v :: vs) H2 (R1.a8 S2) (k1.trans k2) ⟨v,vs,rfl,a1.av.keep R1 S2 k2,a2⟩
  ·cases h
 ·cases h
end
open PySem
section
variable {K:Fg} {F F' I I' F0:Addr->Prop} {H H' ZW:Hp} {env env':En} {Z Z':St} {ga:Nat->V} {gd:List PyData}
theorem EZ (ic:ST K ga gd c) (ia:SE K ga gd a) (ib:SE K ga gd b):SE K ga gd (.ifx c a b):=by
 intro env rv env' h F0 ZW I Z H Q R q;simp only [dE] at h;split at h
 ·rename_i e1 h1;refine ic _ _ _ h1 F0 ZW I Z H _ R fun H1 R1 k1=>?_;rw [Jx rfl];exact ia _ _ _ h F0 ZW I Z H1 _ R1 fun v H2 R2 k2 r=>q v H2 R2 (k1.trans k2) r
 ·rename_i e1 h1;refine ic _ _ _ h1 F0 ZW I Z H _ R fun H1 R1 k1=>?_;rw [JD (by decide)];exact ib _ _ _ h F0 ZW I Z H1 _ R1 fun v H2 R2 k2 r=>q v H2 R2 (k1.trans k2) r
 ·cases h
theorem A8 (ia:SE K ga gd a) (ib:SE K ga gd b):SE K ga gd (.ji a b):=by
 intro env rv env' h F0 ZW I Z H Q R q;simp only [dE] at h;split at h
 ·rename_i e1 h1;refine ia _ _ _ h1 F0 ZW I Z H _ R fun v H1 R1 k1 r1=>⟨true,r1,?_⟩;rw [Jx rfl];exact ib _ _ _ h F0 ZW I Z H1 _ R1 fun v H2 R2 k2 r=>q v H2 R2 (k1.trans k2) r
 ·rename_i e1 h1;cases h;refine ia _ _ _ h1 F0 ZW I Z H _ R fun v H1 R1 k1 r1=>⟨false,r1,?_⟩;rw [JD (by decide)];exact q _ H1 R1 k1 rfl
 ·cases h
theorem FY (ia:SE K ga gd a) (ib:SE K ga gd b):SE K ga gd (.orv a b):=by
 intro env rv env' h F0 ZW I Z H Q R q;simp only [dE] at h;split at h
 ·rename_i e1 h1;cases h;refine ia _ _ _ h1 F0 ZW I Z H _ R fun v H1 R1 k1 r1=>⟨true,r1,?_⟩;rw [Jx rfl];exact q _ H1 R1 k1 rfl
 ·rename_i e1 h1;refine ia _ _ _ h1 F0 ZW I Z H _ R fun v H1 R1 k1 r1=>⟨false,r1,?_⟩;rw [JD (by decide)];exact ib _ _ _ h F0 ZW I Z H1 _ R1 fun v H2 R2 k2 r=>q v H2 R2 (k1.trans k2) r
 ·cases h
theorem Br (ia:SE K ga gd a):SE K ga gd (.uR a):=by
 intro env rv env' h F0 ZW I Z H Q R q;simp only [dE] at h;split at h
 ·rename_i x e1 h1;cases h;exact ia _ _ _ h1 F0 ZW I Z H _ R fun v H1 R1 k1 r1=>⟨x,r1,q _ H1 R1 k1 rfl⟩
 ·cases h
theorem Fe (hx:Vw K F H x u) (hy:Vw K F H y v):VwL K F H [x,y] [u,v]:=⟨u,[v],rfl,hx,v,[],rfl,hy,rfl⟩
theorem GX (ia:SE K ga gd a) (ib:SE K ga gd b) (ic:SE K ga gd c):SE K ga gd (.chn p p' a b c):=by
 intro env rv env' h F0 ZW I Z H Q R q;simp only [dE] at h;split at h
 ·rename_i ra e1 h1;split at h
  ·rename_i rb e2 h2;split at h
   ·rename_i x y hx hy;refine ia _ _ _ h1 F0 ZW I Z H _ R fun v H1 R1 k1 r1=>?_;refine ib _ _ _ h2 F0 _ _ Z H1 _ R1.rebase fun u H2 S2 k2 r2=>?_;have R2:=R1.a8 S2;have a1:=r1.av.keep R1 S2 k2;have a2:=r2.av;rw [hx] at a1;rw [hy] at a2;have dx:Dm K (FF F0 e2 Z) H2 x v:=a1;have dy:Dm K (FF F0 e2 Z) H2 y u:=a2;split at h
    ·rename_i hp;split at h
     ·rename_i rc e3 h3;split at h
      ·rename_i z hz;split at h
       ·rename_i pr hq;cases h;refine p.ok K _ H2 _ _ _ _ hp (Fe dx.vw dy.vw) (fun b z=>R2.d8 z) fun w H3 s3 hw=>⟨true,hw,?_⟩;rw [Jx rfl];have R3:=R2.same s3;have dy3:Dm K (FF F0 e2 Z) H3 y u:=dy.pr (Pr.of_same s3) fun _ z=>z;refine ic _ _ _ h3 F0 _ _ Z H3 _ R3.rebase fun t H4 S4 k4 r4=>?_;have R4:=R3.a8 S4;have a4:=r4.av;rw [hz] at a4;have dz:Dm K (FF F0 env' Z) H4 z t:=a4;refine p'.ok K _ H4 _ _ _ _ hq (Fe (R3.n5 S4 k4 dy3).vw dz.vw) (fun b z=>R4.d8 z) fun w H5 s5 hw=>?_;exact q w H5 (R4.same s5) ((k1.trans k2).trans k4) (R4.kX s5 hw)
       ·cases h
      ·cases h
     ·cases h
    ·rename_i hp;cases h;refine p.ok K _ H2 _ _ _ _ hp (Fe dx.vw dy.vw) (fun b z=>R2.d8 z) fun w H3 s3 hw=>⟨false,hw,?_⟩;rw [JD (by decide)];exact q _ H3 (R2.same s3) (k1.trans k2) rfl
    ·cases h
   ·cases h
  ·cases h
 ·cases h
theorem Fw (ia:SE K ga gd a) (ib:SE K ga gd b) (ic:SE K ga gd c):SE K ga gd (.sl2 p a b c):=by
 intro env rv env' h F0 ZW I Z H Q R q;simp only [dE] at h;split at h
 ·rename_i ra e1 h1;split at h
  ·rename_i i e2 h2;split at h
   ·rename_i j e3 h3;split at h
    ·rename_i d hv;split at h
     ·rename_i pr hp;cases h;refine ia _ _ _ h1 F0 ZW I Z H _ R fun v H1 R1 k1 r1=>?_;refine ib _ _ _ h2 F0 _ _ Z H1 _ R1.rebase fun u H2 S2 k2 r2=>⟨i,r2,?_⟩;have R2:=R1.a8 S2;have a1:=r1.av.keep R1 S2 k2;refine ic _ _ _ h3 F0 _ _ Z H2 _ R2.rebase fun w H3 S3 k3 r3=>⟨j,r3,?_⟩;have R3:=R2.a8 S3;have a2:=a1.keep R2 S3 k3;refine (p i j).ok K _ H3 [d] [v] pr Q hp ⟨v,[],rfl,a2.vw R3 hv,rfl⟩ (fun b z=>R3.d8 z) fun w H4 s4 hw=>?_;exact q w H4 (R3.same s4) ((k1.trans k2).trans k3) (R3.kX s4 hw)
     ·cases h
    ·cases h
   ·cases h
  ·cases h
 ·cases h
theorem EO (ie:SE K ga gd e):ST K ga gd (.tst e):=by
 intro env b env' h F0 ZW I Z H Q R q;simp only [dT] at h;split at h
 ·rename_i x e1 h1;cases h;exact ie _ _ _ h1 F0 ZW I Z H _ R fun v H1 R1 k1 r1=>⟨_,r1,q H1 R1 k1⟩
 ·cases h
theorem Fo (ia:ST K ga gd a) (ib:ST K ga gd b):ST K ga gd (.and a b):=by
 intro env x env' h F0 ZW I Z H Q R q;simp only [dT] at h;split at h
 ·rename_i e1 h1;refine ia _ _ _ h1 F0 ZW I Z H _ R fun H1 R1 k1=>?_;rw [Jx rfl];exact ib _ _ _ h F0 ZW I Z H1 _ R1 fun H2 R2 k2=>q H2 R2 (k1.trans k2)
 ·rename_i e1 h1;cases h;refine ia _ _ _ h1 F0 ZW I Z H _ R fun H1 R1 k1=>?_;rw [JD (by decide)];exact q H1 R1 k1
 ·cases h
theorem IG (ia:ST K ga gd a) (ib:ST K ga gd b):ST K ga gd (.or a b):=by
 intro env x env' h F0 ZW I Z H Q R q;simp only [dT] at h;split at h
 ·rename_i e1 h1;cases h;refine ia _ _ _ h1 F0 ZW I Z H _ R fun H1 R1 k1=>?_;rw [Jx rfl];exact q H1 R1 k1
 ·rename_i e1 h1;refine ia _ _ _ h1 F0 ZW I Z H _ R fun H1 R1 k1=>?_;rw [JD (by decide)];exact ib _ _ _ h F0 ZW I Z H1 _ R1 fun H2 R2 k2=>q H2 R2 (k1.trans k2)
 ·cases h
theorem GV (ia:ST K ga gd a):ST K ga gd (.not a):=by
 intro env x env' h F0 ZW I Z H Q R q;simp only [dT] at h;split at h
 ·rename_i b e1 h1;cases h;exact ia _ _ _ h1 F0 ZW I Z H _ R fun H1 R1 k1=>q H1 R1 k1
 ·cases h
theorem F4:ST K ga gd .yes:=by
 intro env x env' h F0 ZW I Z H Q R q;simp only [dT] at h;cases h;exact q H R (KpE.refl _)
theorem xU (hd:DmL K F H ds vs) (hl:vs.length<=sizeLine) (h:∀ H',(∀ b o,H b=some o->¬I b->H' b=some o)->SqL K H' a vs):yN K F I H (Itl K a) ds :=
 ka hd hl fun H' k j=>⟨fun hj=>⟨⟨vs,vs[j],h H' k,Jl hj⟩,fun x H'' y=>⟨y.1,y.2 vs (h H' k)⟩⟩,fun hj=>⟨vs,h H' k,hj⟩⟩
theorem Bt (hd:DmL K F H ds vs) (hl:vs.length<=sizeLine) (h:∀ H',(∀ b o,H b=some o->¬I b->H' b=some o)->SqT K H' a vs):yN K F I H (Itt K a) ds :=
 ka hd hl fun H' k j=>⟨fun hj=>⟨⟨vs,vs[j],h H' k,Jl hj⟩,fun x H'' y=>⟨y.1,y.2 vs (h H' k)⟩⟩,fun hj=>⟨vs,h H' k,hj⟩⟩
theorem ED (ie:SE K ga gd e):SI K ga gd (.lst e):=by
 intro env ds lock env' h F0 ZW I Z H Q R q;simp only [dI] at h;split at h
 ·rename_i rv e1 h1;split at h
  ·rename_i ds' hv;cases h;refine ie _ _ _ h1 F0 ZW I Z H _ R fun v H1 R1 k1 r1=>?_;have a1:=r1.av;rw [hv] at a1;obtain ⟨a,xs,rfl,l,z,r⟩:=(show Dm K (FF F0 env' Z) H1 (.list ds) v from a1);refine ⟨a,rfl,⟨xs,l.elim (fun q=>.inl q.2) .inr⟩,q _ H1 R1 k1 (fun i z=>by cases z) (xU r z fun H' k=>?_)⟩;rcases l with ⟨n,l | ⟨o,l⟩⟩ | l
   ·exact .inl (.inl (k _ _ l fun z=>n (R1.ia z.1)))
   ·exact .inl (.inr ⟨o,k _ _ l fun z=>n (R1.ia z.1)⟩)
   ·exact .inr l
  ·cases h
  ·rename_i i hv;split at h
   ·rename_i ds' hc;cases h;refine ie _ _ _ h1 F0 ZW I Z H _ R fun v H1 R1 k1 r1=>?_;have a1:=r1.av;rw [hv] at a1;have s:Z[i]?=some (some v):=a1;unfold cont at hc;have fin:∀ a xs,v=.ref a->DmL K (FF F0 env' Z) H1 ds xs->xs.length<=sizeLine->(∀ H',(∀ b o,H1 b=some o->¬(IA env' Z b/\∀ j,some i=some j->mu env' j->Z[j]?≠some (some (.ref b)))->H' b=some o)->SqL K H' a xs)->(∃ d,cont env' i=some d) ->
      ∃ a,v=.ref a/\(∃ xs,SqL K H1 a xs)/\Q (Itl K a) H1:=fun a xs ev r z k hcd =>
     ⟨a,ev,⟨xs,k H1 fun _ _ e _=>e⟩,q _ H1 R1 k1 (fun j hj=>by cases hj;exact hcd) (xU r z k)⟩
    split at hc
    ·rename_i d e;cases hc;obtain ⟨a,s',_,_,xs,t,z,r⟩:=R1.own i _ e;rw [s] at s';cases s';exact fin a xs rfl r z (fun H' k=>.inl (.inl (k _ _ t fun y=>y.2 i rfl ⟨_,.inl e⟩ s))) ⟨_,by unfold cont;rw [e]⟩
    ·rename_i d e;cases hc;obtain ⟨a,s',_,_,xs,t,z,r⟩:=R1.ino i _ e;rw [s] at s';cases s';exact fin a xs rfl r z (fun H' k=>.inl (.inl (k _ _ t fun y=>y.2 i rfl ⟨_,.inr e⟩ s))) ⟨_,by unfold cont;rw [e]⟩
    ·rename_i d e;cases hc;obtain ⟨a,s',xs,l,z,r⟩:=R1.ro i _ e;rw [s] at s';cases s';refine fin a xs rfl r z (fun H' k=>?_) ⟨_,by unfold cont;rw [e]⟩;rcases l with ⟨n,l | ⟨o,l⟩⟩ | l
     ·exact .inl (.inl (k _ _ l fun z=>n z.1))
     ·exact .inl (.inr ⟨o,k _ _ l fun z=>n z.1⟩)
     ·exact .inr l
    ·cases hc
   ·cases h
 ·cases h
theorem F3 (ie:SE K ga gd e):SI K ga gd (.tup e):=by
 intro env ds lock env' h F0 ZW I Z H Q R q;simp only [dI] at h;split at h
 ·rename_i rv e1 h1;split at h
  ·rename_i ds' hv;cases h;refine ie _ _ _ h1 F0 ZW I Z H _ R fun v H1 R1 k1 r1=>?_;have a1:=r1.av;rw [hv] at a1;obtain ⟨a,xs,rfl,l,z,r⟩:=(show Dm K (FF F0 env' Z) H1 (.tuple ds) v from a1);refine ⟨a,rfl,⟨xs,l⟩,q _ H1 R1 k1 (fun i z=>by cases z) (Bt r z fun H' k=>?_)⟩;exact l.pr (R1.pN fun b o e n=>k b o e fun z=>n z.1)
  ·cases h
 ·cases h
theorem yS:∀ {cs:List Nat},(∀ c∈cs,c < 0x110000)->DmL K F H (cs.map fun c=>.str ⟨#[c]⟩) (cs.map fun c=>.str ⟨#[c]⟩)
 | [],_=>rfl
 | c :: cs,h=>⟨_,_,rfl,⟨rfl,by show 1<=sizeLine;decide,by have:=h c Ju;simp [PyData.strOk,this]⟩,yS fun x hx=>h x (Jr _ hx)⟩
theorem fi (h:PyData.strOk x=true):∀ c∈x.cps.toList,c < 0x110000:=fun c hc=>by
 unfold PyData.strOk at h;have:=Array.all_eq_true'.mp h c (by simpa using hc);simpa using this
theorem GH (ie:SE K ga gd e):SI K ga gd (.str e):=by
 intro env ds lock env' h F0 ZW I Z H Q R q;simp only [dI] at h;split at h
 ·rename_i rv e1 h1;split at h
  ·rename_i x hv;cases h;refine ie _ _ _ h1 F0 ZW I Z H _ R fun v H1 R1 k1 r1=>?_;have a1:=r1.av;rw [hv] at a1;obtain ⟨rfl,hl,ok⟩:=(show v=.str x/\x.length<=sizeLine/\PyData.strOk x=true from a1);have ez:x.cps.toList.length=x.length:=by simp [Str.length]
   refine ⟨x,rfl,q _ H1 R1 k1 (fun i z=>by cases z) (ka (yS (fi ok)) (by rw [Jm,ez];exact hl) fun H' k j=>⟨fun hj=>?_,fun hj=>?_⟩)⟩
   ·rw [Jm,ez] at hj;refine ⟨hj,fun y H'' hy=>?_⟩;obtain ⟨e,c,hc,rfl⟩:=hy;refine ⟨e,?_⟩;rw [Jw];have:x.cps.toList[j]?=some c:=by rw [<- hc];simp
    rw [this];rfl
   ·rw [Jm,ez] at hj;exact hj
  ·cases h
 ·cases h
theorem xA {f:Nat->Int}:∀ {cs:List Nat},DmL K F H (cs.map fun c=>.int (f c)) (cs.map fun c=>.int (f c))
 | []=>rfl
 | c :: cs=>⟨_,_,rfl,rfl,xA⟩
theorem Cq {lo:Int} (hn:n<=sizeLine):yN K F I H (Itr lo n) ((List.range n).map fun (k:Nat)=>.int (lo+(k:Int))):=by
 refine ka (vs:=(List.range n).map fun (k:Nat)=>.int (lo+(k:Int))) (xA (f:=fun k=>lo+(k:Int))) (by rw [Jm,Kh];exact hn) fun H' k j=>⟨fun hj=>?_,fun hj=>?_⟩
 ·rw [Jm,Kh] at hj;refine ⟨hj,fun y H'' hy=>⟨hy.1,?_⟩⟩;rw [Jw,List.getElem?_range hj,hy.2];rfl
 ·rw [Jm,Kh] at hj;exact hj
theorem Bv (ia:SA K ga gd as):SI K ga gd (.rng1 as):=by
 intro env ds lock env' h F0 ZW I Z H Q R q;simp only [dI] at h;split at h
 ·rename_i avs e1 h1;split at h
  ·rename_i j;split at h
   ·rename_i hj;cases h;refine ia _ _ _ h1 F0 ZW I Z H _ R fun vs H1 R1 k1 a1=>?_;obtain ⟨v,r,rfl,hv,rfl⟩:=a1;have hv:v=.int j:=hv;subst hv;refine ⟨j,rfl,hj.1,by have:=hj.2;omega,q _ H1 R1 k1 (fun i z=>by cases z) (Cq ?_)⟩;have:=hj.2;show j.toNat<=2 ^ 24;omega
   ·cases h
  ·cases h
 ·cases h
end
open PySem
section
variable {K:Fg} {F F' I I' F0:Addr->Prop} {H H' ZW:Hp} {env env':En} {Z Z':St} {ga:Nat->V} {gd:List PyData}
theorem gF.carry (h:gF K F0 ZW I env Z H (.frs d) (.ref p)) (S:Rel K (fun b=>F0 b\/b=p) H (IA env Z) env' Z H') (k:KpE env env'):gF K F0 ZW I env' Z H' (.frs d) (.ref p):=by
 obtain ⟨a,ea,R,t,w,nF,hi,hr⟩:=h;cases ea;have cIA:¬IA env Z p:=fun z=>by
  obtain ⟨i,⟨c,e | e⟩,s⟩:=z
  ·exact nF (.inr ⟨i,c,e,s⟩)
  ·exact hi i c e s
 have R':=R.a8 S;have hk:∀ b o,H b=some o->¬IA env Z b->H' b=some o:=S.eR;have pF:Pr (fun b=>FF F0 env Z b\/b=p) H H':=by
  have:=R.pN hk
  rwa [iL] at this
 have hf:∀ b,(FF F0 env' Z b\/b=p)->(FF F0 env Z b\/b=p):=fun b z=>z.imp (fun z=>k.ff z) id;refine ⟨p,rfl,R',t.pr pF hf fun o e=>hk p o e cIA,w,fun z=>nF (k.ff z),fun i c e s=>cIA ⟨i,k.mu ⟨c,.inr e⟩,s⟩,fun i c e=>?_⟩;obtain ⟨s,e0,ev⟩:=k.back e;have es:s=.ro c:=by
  cases s with
  | un=>cases ev
  | dat _=>cases ev
  | own _=>rcases ev with ⟨_,v⟩ | ⟨_,v⟩ | v <;> cases v
  | ino _=>obtain ⟨_,v⟩:=ev;cases v
  | ro d'=>cases ev;rfl
 subst es;obtain ⟨b,q,t'⟩:=hr i c e0;exact ⟨b,q,t'.pr pF hf (fun b z=>z.imp (fun z=>k.ia z) id) fun b o e n=>hk b o e fun z=>n (.inl z)⟩
theorem gF.put (h:gF K F0 ZW I env Z H (.frs d) (.ref p)) (ht:Top K (fun b=>FF F0 env Z b\/b=p) (upd H p o) d' p):gF K F0 ZW I env Z (upd H p o) (.frs d') (.ref p):=by
 obtain ⟨a,ea,R,t,w,nF,hi,hr⟩:=h;cases ea;have cIA:¬IA env Z p:=fun z=>by
  obtain ⟨i,⟨c,e | e⟩,s⟩:=z
  ·exact nF (.inr ⟨i,c,e,s⟩)
  ·exact hi i c e s
 have pF:Pr (fun b=>FF F0 env Z b\/b=p) H (upd H p o):=fun b u e n=>by
  by_cases z:b=p
  ·subst z;rcases n with n | n
   ·exact absurd (.inr rfl) n
   ·obtain ⟨o',h',w'⟩:=t.wr;rw [e] at h';cases h';rw [n] at w';cases w'
  ·rw [ax z];exact e
 have eF:FF (fun b=>F0 b\/b=p) env Z=fun b=>FF F0 env Z b\/b=p:=iL;have nea:∀ i b,mu env i->Z[i]?=some (some (.ref b))->b≠p:=fun i b m s z=>cIA (z▸⟨i,m,s⟩);have hro:∀ (i:Nat) (d':PyData),env[i]?=some (.ro d')->∃ b,Z[i]?=some (some (.ref b))/\iO K (fun b=>FF F0 env Z b\/b=p) (fun b=>IA env Z b\/b=p) (upd H p o) d' b:=fun i c e=>by
  obtain ⟨b,q,t'⟩:=hr i c e;exact ⟨b,q,t'.pr pF (fun _ z=>z) (fun _ z=>z) fun b u e n=>by rw [ax (fun z=>n (.inr z))];exact e⟩
 refine ⟨p,rfl,⟨R.len,fun i c e=>?_,fun i c e=>?_,fun i c e=>?_,fun i c e=>?_,R.sep,fun b hb=>?_,fun b u e n=>?_⟩,ht,w,nF,hi,hro⟩
 ·obtain ⟨v,s,r⟩:=R.dat i c e;rw [eF] at r ⊢;exact ⟨v,s,r.pr pF fun _ z=>z⟩
 ·obtain ⟨b,s,n,w',t'⟩:=R.own i c e;rw [eF] at t' ⊢;exact ⟨b,s,n,w',t'.pr pF (fun _ z=>z) fun u e'=>by rw [ax (nea i b ⟨c,.inl e⟩ s)];exact e'⟩
 ·obtain ⟨b,s,n,w',t'⟩:=R.ino i c e;rw [eF] at t' ⊢;exact ⟨b,s,n,w',t'.pr pF (fun _ z=>z) fun u e'=>by rw [ax (nea i b ⟨c,.inr e⟩ s)];exact e'⟩
 ·obtain ⟨b,s,t'⟩:=hro i c e;rw [eF];exact ⟨b,s,t'.pr Pr.refl (fun _ z=>z) (fun _ z=>.inl z) fun _ _ z _=>z⟩
 ·by_cases z:b=p
  ·subst z;rw [ak];exact nofun
  ·rw [ax z];exact R.dom b hb
 ·have:=R.eR b u e n;by_cases z:b=p
  ·subst z;rcases w with w | w
   ·rw [e] at w;cases w
   ·exact absurd w n
  ·rw [ax z];exact this
theorem w8 (a b:Key):PyData.eqv (kD a) (kD b)=decide (a=b):=by
 cases a with
 | inl i=>cases b with
  | inl j=>by_cases z:i=j <;> simp [kD,PyData.eqv,z]
  | inr y=>simp [kD,PyData.eqv]
 | inr x=>cases b with
  | inl j=>simp [kD,PyData.eqv]
  | inr y=>by_cases z:x=y <;> simp [kD,PyData.eqv,z]
theorem wL:∀ {ds:List (PyData×PyData)} {xs:List (PyData×V×V)},DmP K F H ds xs->(ds.any fun kv=>PyData.eqv kv.1 k)=xs.any fun x=>PyData.eqv x.1 k
 | [],xs,h=>by rw [show xs=[] from h];rfl
 | (k',d) :: ds,xs,h=>by
  obtain ⟨j,v,r,rfl,_,_,_,h2⟩:=h;rw [LL,LL,wL h2]
theorem uI (hd:Dm K F H d v):∀ {ds:List (PyData×PyData)} {xs:List (PyData×V×V)},DmP K F H ds xs->DmP K F H (ds.map fun kv=>if PyData.eqv kv.1 k=true then (kv.1,d) else kv) (xs.map fun x=>if PyData.eqv x.1 k=true then (x.1,x.2.1,v) else x)
 | [],xs,h=>by rw [show xs=[] from h];rfl
 | (k',d') :: ds,xs,h=>by
  obtain ⟨j,w,r,rfl,e,h0,h1,h2⟩:=h;rw [List.map_cons,List.map_cons];by_cases z:PyData.eqv k' k=true
  ·rw [Jx z,Jx z];exact ⟨j,v,_,rfl,e,h0,hd,uI hd h2⟩
  ·rw [JD z,JD z];exact ⟨j,w,_,rfl,e,h0,h1,uI hd h2⟩
theorem wX (hk:hk6 k=true) (hj:Dm K F H k j) (hd:Dm K F H d v):∀ {ds:List (PyData×PyData)} {xs:List (PyData×V×V)},DmP K F H ds xs->DmP K F H (ds++[(k,d)]) (xs++[(k,j,v)])
 | [],xs,h=>by rw [show xs=[] from h];exact ⟨j,v,[],rfl,hk,hj,hd,rfl⟩
 | (k',d') :: ds,xs,h=>by
  obtain ⟨i,w,r,rfl,e,h0,h1,h2⟩:=h;exact ⟨i,w,_,rfl,e,h0,h1,wX hk hj hd h2⟩
theorem wQ (h:DmP K F H ds xs) (hk:hk6 k=true) (hj:Dm K F H k j) (hd:Dm K F H d v):DmP K F H (putD ds k d) (nU xs k j v):=by
 unfold putD nU;rw [wL h];split
 ·exact uI hd h
 ·exact wX hk hj hd h
theorem CJ:(putK kvs k v).map cvK=nU (kvs.map cvK) (kD k) (kV k) v:=by
 unfold putK nU;have e:((kvs.map cvK).any fun x=>PyData.eqv x.1 (kD k))=kvs.any fun kv=>decide (kv.1=k):=by
  rw [List.any_map];congr 1;funext kv;exact w8 _ _
 rw [e];split
 ·rw [Km,Km];refine Lq fun kv _=>?_;show cvK (if kv.1=k then (kv.1,v) else kv)=if PyData.eqv (kD kv.1) (kD k)=true then _ else _
  rw [w8];by_cases z:kv.1=k
  ·rw [Jx z,Jx (J2 z)];rfl
  ·rw [JD z,JD (by simp [z])]
 ·rw [Kb];rfl
theorem vz {kvs:List (Key×V)} {k:Key} {v:V}:(putK kvs k v).length<=kvs.length+1:=by
 unfold putK;split
 ·rw [Jm];exact Kz _
 ·rw [Js];exact Jt _
theorem Az (k:Key):hk6 (kD k)=true:=by cases k <;> rfl
theorem pb:∀ {kvs:List (Key×PyData)} {vs:List (Key×V)} {ds:List (PyData×PyData)} {xs:List (Key×V)},Ca K F H kvs vs->DmP K F H ds (xs.map cvK)->DmP K F H (kvs.foldl (fun acc kv=>putD acc (kD kv.1) kv.2) ds) ((cX xs vs).map cvK)/\(cX xs vs).length<=xs.length+vs.length
 | [],vs,ds,xs,h,q=>by rw [show vs=[] from h];exact ⟨q,Jt _⟩
 | (k,d) :: kvs,vs,ds,xs,h,q=>by
  obtain ⟨v,r,rfl,h0,h1,h2⟩:=h;have:=pb h2 (xs:=putK xs k v) (by rw [CJ];exact wQ q (Az k) h0 h1);refine ⟨this.1,J6 this.2 ?_⟩;have:=vz (kvs:=xs) (k:=k) (v:=v);rw [JL];omega
theorem Ca.len:∀ {kvs:List (Key×PyData)} {vs:List (Key×V)},Ca K F H kvs vs->vs.length=kvs.length
 | [],vs,h=>by rw [show vs=[] from h];rfl
 | (k,d) :: kvs,vs,h=>by
  obtain ⟨v,r,rfl,h0,h1,h2⟩:=h;rw [JL,JL,h2.len]
theorem FH:SPs K ga gd .nil:=by
 intro env kvs env' h F0 ZW I Z H Q R q;simp only [dP] at h;cases h;exact q [] H R (KpE.refl _) rfl
theorem B5 (ik:SE K ga gd k) (ie:SE K ga gd e) (ir:SPs K ga gd r):SPs K ga gd (.cons k e r):=by
 intro env kvs env' h F0 ZW I Z H Q R q;simp only [dP] at h;split at h
 ·rename_i rk e1 h1;split at h
  ·rename_i rv e2 h2;split at h
   ·rename_i kvs' e3 h3;split at h
    ·rename_i dk d hk hd;split at h
     ·rename_i key hkey;cases h;refine ik _ _ _ h1 F0 ZW I Z H _ R fun v H1 R1 k1 r1=>?_;refine ie _ _ _ h2 F0 _ _ Z H1 _ R1.rebase fun u H2 S2 k2 r2=>?_;have R2:=R1.a8 S2;refine ir _ _ _ h3 F0 _ _ Z H2 _ R2.rebase fun vs H3 S3 k3 r3=>?_;have a1:=r1.av;rw [hk] at a1;have a2:=r2.av;rw [hd] at a2;have ev:v=kV key:=by
       cases dk with
       | int i=>cases hkey;exact (show v=.int i from a1)
       | str x=>cases hkey;exact (show v=.str x/\_ from a1).1
       | _=>cases hkey
      have dd:Dm K (FF F0 env' Z) H3 d u:=R2.n5 S3 k3 a2;have dk':Dm K (FF F0 env' Z) H3 (kD key) (kV key):=by
       cases dk with
       | int i=>cases hkey;rfl
       | str x=>cases hkey;exact ⟨rfl,(show v=.str x/\_ from a1).2⟩
       | _=>cases hkey
      rw [ev];exact q ((key,u) :: vs) H3 (R2.a8 S3) ((k1.trans k2).trans k3) ⟨u,vs,rfl,dk',dd,r3⟩
     ·cases h
    ·cases h
   ·cases h
  ·cases h
 ·cases h
theorem F5 (ih:SPs K ga gd as):SE K ga gd (.dsp as):=by
 intro env rv env' h F0 ZW I Z H Q R q;simp only [dE] at h;split at h
 ·rename_i kvs e1 h1;split at h
  ·rename_i hl;cases h;intro p hp;have s:=aE.nw (.dD 0 []) hp;have r0:gF K F0 ZW I env Z (upd H p (.dD 0 [])) (.frs (.dict [])) (.ref p):=R.kX (pr:=.frs (.dict [])) s ⟨p,rfl,hp,0,[],ak,by decide,rfl⟩;have R0:=r0;obtain ⟨a,ea,R0,_,_,nF,hi,_⟩:=R0;cases ea;have cIA:¬IA env Z p:=fun z=>by
    obtain ⟨i,⟨c,e | e⟩,s⟩:=z
    ·exact nF (.inr ⟨i,c,e,s⟩)
    ·exact hi i c e s
   refine ih _ _ _ h1 _ _ _ Z _ _ R0.rebase fun vs H2 S2 k2 ps=>?_;have r2:=r0.carry S2 k2;rw [iL] at ps;have hm:=pb ps (xs:=[]) (show DmP K (fun b=>FF F0 env' Z b\/b=p) H2 [] [] from rfl);have hlen:(cX [] vs).length<=15:=by
    have:=hm.2;rw [ps.len] at this;simp only [List.length_nil] at this;omega
   refine ⟨S2.eR p _ ak cIA,vs,rfl,by rw [ps.len];exact hl,fun ep=>?_⟩;have r3:gF K F0 ZW I env' Z (upd H2 p (.dD ep ((cX [] vs).map cvK))) (.frs (.dict (kvs.foldl (fun acc kv=>putD acc (kD kv.1) kv.2) []))) (.ref p):=by
    refine r2.put ⟨ep,(cX [] vs).map cvK,ak,by rw [Jm];exact J6 hlen (by decide),hm.1.pr ?_ fun _ z=>z⟩;intro b u e n;by_cases z:b=p
    ·subst z;rcases n with n | n
     ·exact absurd (.inr rfl) n
     ·have:=S2.eR b _ ak cIA;rw [e] at this;cases this;cases n
    ·rw [ax z];exact e
   exact q _ _ r3.rel k2 r3
  ·cases h
 ·cases h
end
open PySem
section
variable {K:Fg} {F F' I I' F0:Addr->Prop} {H H' ZW:Hp} {env env':En} {Z Z':St} {ga:Nat->V} {gd:List PyData}
theorem lS {α:Type}:∀ {l:List α} {i j:Nat} {x:α},l.Nodup->l[i]?=some x->l[j]?=some x->i=j
 | [],_,_,_,_,h,_=>by simp at h
 | y :: l,0,0,_,_,_,_=>rfl
 | y :: l,0,j+1,x,nd,h1,h2=>by
  simp at h1 h2;subst h1;exact absurd (Jy h2) (Kr.mp nd).1
 | y :: l,i+1,0,x,nd,h1,h2=>by
  simp at h1 h2;subst h2;exact absurd (Jy h1) (Kr.mp nd).1
 | y :: l,i+1,j+1,x,nd,h1,h2=>by
  simp at h1 h2;rw [lS (Kr.mp nd).2 h1 h2]
def noOwn (env:En):Prop:=∀ (i:Nat) (d:PyData),env[i]?≠some (.own d)
theorem cF (h:noOwn env):FF F0 env Z=F0:=by
 funext b;apply propext;constructor
 ·rintro (q | ⟨i,d,e,_⟩)
  ·exact q
  ·exact absurd e (h i d)
 ·exact .inl
theorem noOwn.kp (h:noOwn env) (k:KpE env env'):noOwn env':=fun i d e=>by
 obtain ⟨d',e'⟩:=k.own e;exact h i d' e'
def qg:Sl->Prop | .dat _=>True | .un=>True | _=>False
theorem gP (hp:∀ s∈pre,qg s) (hl:pre.length=ps.length):FF F0 (pre++env) (ps++Z)=FF F0 env Z:=by
 funext b;apply propext;constructor
 ·rintro (q | ⟨i,d,e,s⟩)
  ·exact .inl q
  ·by_cases hi:i < pre.length
   ·rw [Ka hi] at e;have:=hp _ (Jy e);exact absurd this id
   ·rw [JH (by omega)] at e;rw [JH (by omega),<-hl] at s;exact .inr ⟨_,d,e,s⟩
 ·rintro (q | ⟨i,d,e,s⟩)
  ·exact .inl q
  ·refine .inr ⟨pre.length+i,d,?_,?_⟩
   ·rw [JH (by omega)];simpa using e
   ·rw [JH (by omega),hl];simpa using s
theorem jY (hp:∀ s∈pre,qg s) (h:mu (pre++env) i):pre.length<=i/\mu env (i - pre.length):=by
 obtain ⟨d,h⟩:=h;by_cases hi:i < pre.length
 ·rw [Ka hi] at h;rcases h with h | h <;> exact absurd (hp _ (Jy h)) id
 ·rw [JH (by omega)] at h;exact ⟨by omega,d,h⟩
theorem oj (hp:∀ s∈pre,qg s) (hl:pre.length=ps.length):IA (pre++env) (ps++Z)=IA env Z:=by
 funext b;apply propext;constructor
 ·rintro ⟨i,m,s⟩;obtain ⟨hi,m'⟩:=jY hp m;rw [JH (by omega),<-hl] at s;exact ⟨_,m',s⟩
 ·rintro ⟨i,⟨d,m⟩,s⟩;refine ⟨pre.length+i,⟨d,?_⟩,?_⟩
  ·rw [JH (by omega)];simpa using m
  ·rw [JH (by omega),hl];simpa using s
theorem Rel.front (R:Rel K F0 ZW I env Z H) (h:DmL K (FF F0 env Z) H ds vs):Rel K F0 ZW I (ds.map .dat++env) (vs.map some++Z) H:=by
 have hp:∀ s∈(ds.map Sl.dat),qg s:=fun s hs=>by obtain ⟨d,_,rfl⟩:=JV.mp hs;trivial
 have hl:(ds.map Sl.dat).length=(vs.map some).length:=by rw [Jm,Jm,h.len]
 have hl2:(ds.map Sl.dat).length=ds.length:=Jm _;have eF:=gP (F0:=F0) (env:=env) (Z:=Z) hp hl;have eI:=oj (env:=env) (Z:=Z) hp hl;have back:∀ {i:Nat} {s:Sl},(ds.map Sl.dat++env)[i]?=some s->(∀ d,s≠.dat d)->(ds.map Sl.dat).length<=i/\env[i - (ds.map Sl.dat).length]?=some s:=fun {i s} e n=>by
  by_cases hi:i < (ds.map Sl.dat).length
  ·rw [Ka hi] at e;obtain ⟨d,_,z⟩:=JV.mp (Jy e);exact absurd z.symm (n d)
  ·rw [JH (by omega)] at e;exact ⟨by omega,e⟩
 have fs:∀ {i:Nat} {x:Option V},(ds.map Sl.dat).length<=i->Z[i - (ds.map Sl.dat).length]?=some x->(vs.map some++Z)[i]?=some x:=fun {i x} hi e=>by
  rw [JH (by omega),<-hl];exact e
 refine ⟨by rw [Js,Js,hl,R.len],fun i d e=>?_,fun i d e=>?_,fun i d e=>?_,fun i d e=>?_,fun i j a h1 h2 h3 h4=>?_,R.dom,R.eR⟩
 ·rw [eF];by_cases hi:i < (ds.map Sl.dat).length
  ·rw [Ka hi,Jw] at e;cases e2:ds[i]? with
   | none=>rw [e2] at e;cases e
   | some d' =>
    rw [e2] at e;cases e;obtain ⟨v,q,r⟩:=h.get e2;refine ⟨v,?_,r⟩;rw [Ka (by omega),Jw,q];rfl
  ·rw [JH (by omega)] at e;obtain ⟨v,s,r⟩:=R.dat _ d e;exact ⟨v,fs (by omega) s,r⟩
 ·rw [eF];obtain ⟨hi,e⟩:=back e (fun _=>nofun);obtain ⟨a,s,q⟩:=R.own _ d e;exact ⟨a,fs hi s,q⟩
 ·rw [eF];obtain ⟨hi,e⟩:=back e (fun _=>nofun);obtain ⟨a,s,q⟩:=R.ino _ d e;exact ⟨a,fs hi s,q⟩
 ·rw [eF,eI];obtain ⟨hi,e⟩:=back e (fun _=>nofun);obtain ⟨a,s,q⟩:=R.ro _ d e;exact ⟨a,fs hi s,q⟩
 ·obtain ⟨i1,m1⟩:=jY hp h1;obtain ⟨i2,m2⟩:=jY hp h2;rw [JH (by omega),<-hl] at h3 h4;have:=R.sep _ _ a m1 m2 h3 h4;omega
theorem Rel.behind (R:Rel K F0 ZW I (pre++env) (ps++Z) H) (hp:∀ s∈pre,qg s) (hl:pre.length=ps.length):Rel K F0 ZW I env Z H:=by
 have eF:=gP (F0:=F0) (env:=env) (Z:=Z) hp hl;have eI:=oj (env:=env) (Z:=Z) hp hl;have up:∀ {i:Nat} {s:Sl},env[i]?=some s->(pre++env)[pre.length+i]?=some s:=fun {i s} e=>by
  rw [JH (by omega)];simpa using e
 have dn:∀ {i:Nat} {x:Option V},(ps++Z)[pre.length+i]?=some x->Z[i]?=some x:=fun {i x} e=>by
  rw [JH (by omega),hl] at e;simpa using e
 have us:∀ {i:Nat} {x:Option V},Z[i]?=some x->(ps++Z)[pre.length+i]?=some x:=fun {i x} e=>by
  rw [JH (by omega),hl];simpa using e
 refine ⟨by have:=R.len;rw [Js,Js,hl] at this;omega,fun i d e=>?_,fun i d e=>?_,fun i d e=>?_,fun i d e=>?_,fun i j a h1 h2 h3 h4=>?_,R.dom,R.eR⟩
 ·obtain ⟨v,s,r⟩:=R.dat _ d (up e);rw [eF] at r;exact ⟨v,dn s,r⟩
 ·obtain ⟨v,s,r⟩:=R.own _ d (up e);rw [eF] at r;exact ⟨v,dn s,r⟩
 ·obtain ⟨v,s,r⟩:=R.ino _ d (up e);rw [eF] at r;exact ⟨v,dn s,r⟩
 ·obtain ⟨v,s,r⟩:=R.ro _ d (up e);rw [eF,eI] at r;exact ⟨v,dn s,r⟩
 ·obtain ⟨d1,m1⟩:=h1;obtain ⟨d2,m2⟩:=h2;have:=R.sep (pre.length+i) (pre.length+j) a ⟨d1,m1.imp up up⟩ ⟨d2,m2.imp up up⟩ (us h3) (us h4);omega
theorem KpE.front {ds:List PyData} {e':En} (k:KpE (ds.map .dat++env) e'):∃ env',e'=ds.map .dat++env'/\KpE env env':=by
 have hlen:=k.1;rw [Js,Jm] at hlen;refine ⟨e'.drop ds.length,?_,?_,fun i s e=>?_⟩
 ·apply LC;intro i;by_cases hi:i < ds.length
  ·have hm:(ds.map Sl.dat++env)[i]?=some (.dat ds[i]):=by
    rw [Ka (by rw [Jm];exact hi),Jw,Jl hi];rfl
   obtain ⟨s',h',ev⟩:=k.2 i _ hm;have ev:s'=.dat ds[i]:=ev;rw [h',ev,Ka (by rw [Jm];exact hi),Jw,Jl hi];rfl
  ·rw [JH (by rw [Jm];omega),Ly,Jm];congr 1;omega
 ·rw [KW];omega
 ·obtain ⟨s',h',ev⟩:=k.2 (ds.length+i) s (by rw [JH (by rw [Jm];omega),Jm];simpa using e);exact ⟨s',by rw [Ly];exact h',ev⟩
theorem eV {lock:Option Nat} {js:List Nat} {k:Nat} {s:Sl} (h:(cg env lock js)[k]?=some s):∃ j,js[k]?=some j/\s=nJ (decide (lock=some j)) (env[j]?.getD .un):=by
 unfold cg at h;rw [Jw] at h;cases e:js[k]? with
 | none=>rw [e] at h;cases h
 | some j=>rw [e] at h;cases h;exact ⟨j,rfl,rfl⟩
theorem oa {js:List Nat} {k j:Nat} (h:js[k]?=some j):(bc js Z)[k]?=some ((Z[j]?).getD none):=by
 unfold bc;rw [Jw,h];rfl
theorem cj {lock:Option Nat} {js:List Nat}:noOwn (cg env lock js):=fun k d e=>by
 obtain ⟨j,_,e'⟩:=eV e;cases h:env[j]?.getD .un with
 | un=>rw [h] at e';cases e'
 | dat _=>rw [h] at e';cases e'
 | own c=>rw [h] at e';unfold nJ at e';simp only at e';split at e' <;> cases e'
 | ino c=>rw [h] at e';unfold nJ at e';simp only at e';split at e' <;> cases e'
 | ro _=>rw [h] at e';cases e'
theorem getD_some {j:Nat} {s:Sl} (h:env[j]?.getD .un=s) (n:s≠.un):env[j]?=some s:=by
 cases e:env[j]? with
 | none=>rw [e] at h;exact absurd h.symm n
 | some t=>rw [e] at h;cases h;rfl
theorem o6 {lock:Option Nat} {js:List Nat} {k:Nat} {d:PyData} (h:(cg env lock js)[k]?=some (.ino d)):∃ j,js[k]?=some j/\lock≠some j/\(env[j]?=some (.own d)\/env[j]?=some (.ino d)):=by
 obtain ⟨j,hj,e'⟩:=eV h;refine ⟨j,hj,?_⟩;cases h:env[j]?.getD .un with
 | un=>rw [h] at e';cases e'
 | dat _=>rw [h] at e';cases e'
 | own c =>
  rw [h] at e';unfold nJ at e';simp only at e';split at e'
  ·cases e'
  ·rename_i n;cases e';exact ⟨by simpa using n,.inl (getD_some h nofun)⟩
 | ino c =>
  rw [h] at e';unfold nJ at e';simp only at e';split at e'
  ·cases e'
  ·rename_i n;cases e';exact ⟨by simpa using n,.inr (getD_some h nofun)⟩
 | ro _=>rw [h] at e';cases e'
theorem c5 {lock:Option Nat} {js:List Nat} {k:Nat} (h:mu (cg env lock js) k):∃ j,js[k]?=some j/\lock≠some j/\mu env j:=by
 obtain ⟨d,h | h⟩:=h
 ·exact absurd h (cj k d)
 ·obtain ⟨j,h1,h2,h3⟩:=o6 h;exact ⟨j,h1,h2,d,h3⟩
theorem bx {js:List Nat} {k j:Nat} {a:Addr} (h:js[k]?=some j) (e:(bc js Z)[k]?=some (some (.ref a))):Z[j]?=some (some (.ref a)):=by
 rw [oa h] at e;cases q:Z[j]? with
 | none=>rw [q] at e;cases e
 | some x=>rw [q] at e;cases e;rfl
theorem cq {js:List Nat} {k j:Nat} {v:V} (h:js[k]?=some j) (e:Z[j]?=some (some v)):(bc js Z)[k]?=some (some v):=by rw [oa h,e];rfl
theorem Rel.bc (R:Rel K F0 ZW I env Z H) {lock:Option Nat} {js:List Nat} (nd:js.Nodup):Rel K (FF F0 env Z) H (IA (cg env lock js) (L2.bc js Z)) (cg env lock js) (L2.bc js Z) H:=by
 have eF:FF (FF F0 env Z) (cg env lock js) (L2.bc js Z)=FF F0 env Z:=cF cj;have sub:∀ b,IA (cg env lock js) (L2.bc js Z) b->IA env Z b:=fun b ⟨k,m,s⟩=>by
  obtain ⟨j,hj,_,mj⟩:=c5 m;exact ⟨j,mj,bx hj s⟩
 refine ⟨by unfold cg L2.bc;rw [Jm,Jm],fun k d e=>?_,fun k d e=>absurd e (cj k d),fun k d e=>?_,fun k d e=>?_,fun k l a h1 h2 h3 h4=>?_,fun b h=>R.d8 h,fun _ _ h _=>h⟩
 ·rw [eF];obtain ⟨j,hj,e'⟩:=eV e;have ej:env[j]?=some (.dat d):=by
   cases h:env[j]?.getD .un with
   | un=>rw [h] at e';cases e'
   | dat c=>rw [h] at e';cases e';exact getD_some h nofun
   | own c=>rw [h] at e';unfold nJ at e';simp only at e';split at e' <;> cases e'
   | ino c=>rw [h] at e';unfold nJ at e';simp only at e';split at e' <;> cases e'
   | ro _=>rw [h] at e';cases e'
  obtain ⟨v,s,r⟩:=R.dat j d ej;exact ⟨v,cq hj s,r⟩
 ·rw [eF];obtain ⟨j,hj,_,ej⟩:=o6 e;have:∃ a,Z[j]?=some (some (.ref a))/\FF F0 env Z a/\Top K (FF F0 env Z) H d a:=by
   rcases ej with ej | ej
   ·obtain ⟨a,s,_,_,t⟩:=R.own j d ej;exact ⟨a,s,.inr ⟨j,d,ej,s⟩,t⟩
   ·obtain ⟨a,s,f,_,t⟩:=R.ino j d ej;exact ⟨a,s,.inl f,t⟩
  obtain ⟨a,s,f,t⟩:=this;exact ⟨a,cq hj s,f,⟨k,⟨d,.inr e⟩,cq hj s⟩,t⟩
 ·rw [eF];obtain ⟨j,hj,e'⟩:=eV e;have lk:∀ a,lock=some j->mu env j->Z[j]?=some (some (.ref a))->¬IA (cg env lock js) (L2.bc js Z) a:=fun a hl m s ⟨k',m',s'⟩=>by
   obtain ⟨j',hj',hn,mj'⟩:=c5 m';have:=R.sep j' j a mj' m (bx hj' s') s;subst this;exact hn hl
  cases h:env[j]?.getD .un with
  | un=>rw [h] at e';cases e'
  | dat c=>rw [h] at e';cases e'
  | own c =>
   rw [h] at e';unfold nJ at e';simp only at e';split at e'
   ·rename_i n;cases e';have ej:=getD_some h nofun;obtain ⟨a,s,_,_,t⟩:=R.own j d ej;exact ⟨a,cq hj s,t.ro (lk a (by simpa using n) ⟨d,.inl ej⟩ s)⟩
   ·cases e'
  | ino c =>
   rw [h] at e';unfold nJ at e';simp only at e';split at e'
   ·rename_i n;cases e';have ej:=getD_some h nofun;obtain ⟨a,s,_,_,t⟩:=R.ino j d ej;exact ⟨a,cq hj s,t.ro (lk a (by simpa using n) ⟨d,.inr ej⟩ s)⟩
   ·cases e'
  | ro c =>
   rw [h] at e';cases e';obtain ⟨a,s,t⟩:=R.ro j d (getD_some h nofun);exact ⟨a,cq hj s,t.pr Pr.refl (fun _ z=>z) sub fun _ _ z _=>z⟩
 ·obtain ⟨j1,e1,_,m1⟩:=c5 h1;obtain ⟨j2,e2,_,m2⟩:=c5 h2;have:=R.sep j1 j2 a m1 m2 (bx e1 h3) (bx e2 h4);subst this;exact lS nd e1 e2
theorem aZ:∀ (env:En) (js:List Nat) (es:En),SmK env (aP env js es)
 | env,[],es=>by unfold aP;exact SmK.refl _
 | env,j :: js,[]=>by unfold aP;exact SmK.refl _
 | env,j :: js,s :: es=>by
  cases s with
  | ino d=>unfold aP;exact (dQ env j d).trans (aZ _ js es)
  | un=>unfold aP;exact aZ _ js es
  | dat _=>unfold aP;exact aZ _ js es
  | own _=>unfold aP;exact aZ _ js es
  | ro _=>unfold aP;exact aZ _ js es
theorem aW:∀ (env:En) (js:List Nat) (es:En) (i:Nat),i ∉ js->(aP env js es)[i]?=env[i]?
 | env,[],es,i,_=>by unfold aP;rfl
 | env,j :: js,[],i,_=>by unfold aP;rfl
 | env,j :: js,s :: es,i,h=>by
  have n:i≠j:=fun z=>h (by rw [z];exact Ju);have n':i ∉ js:=fun z=>h (Jr _ z);cases s with
  | ino d=>unfold aP;rw [aW _ js es i n',kh n]
  | un=>unfold aP;exact aW _ js es i n'
  | dat _=>unfold aP;exact aW _ js es i n'
  | own _=>unfold aP;exact aW _ js es i n'
  | ro _=>unfold aP;exact aW _ js es i n'
theorem dU:∀ (env:En) (js:List Nat) (es:En) (k i:Nat) (s:Sl),js.Nodup->js[k]?=some i->es[k]?=some s->(∀ d,s=.ino d->mu env i->aU (aP env js es) i=some d)/\((∀ d,s≠.ino d)->(aP env js es)[i]?=env[i]?)
 | env,[],es,k,i,s,_,h,_=>by simp at h
 | env,j :: js,[],k,i,s,_,_,h=>by simp at h
 | env,j :: js,t :: es,0,i,s,nd,h,h'=>by
  obtain ⟨n1,nd'⟩:=Kr.mp nd;simp at h h';subst h h';constructor
  ·rintro d rfl m;unfold aP;have:=aW (gq env j d) js es j n1;unfold aU;rw [this];exact kz m
  ·intro hn;cases t with
   | ino d=>exact absurd rfl (hn d)
   | un=>unfold aP;exact aW _ js es j n1
   | dat _=>unfold aP;exact aW _ js es j n1
   | own _=>unfold aP;exact aW _ js es j n1
   | ro _=>unfold aP;exact aW _ js es j n1
 | env,j :: js,t :: es,k+1,i,s,nd,h,h'=>by
  obtain ⟨n1,nd'⟩:=Kr.mp nd;simp at h h';have hi:i∈js:=Jy h;have ne:i≠j:=fun z=>n1 (z▸hi);cases t with
  | ino d =>
   unfold aP;have ih:=dU (gq env j d) js es k i s nd' h h';refine ⟨fun d' e m=>ih.1 d' e ((dQ env j d).symm.kp.mu m),fun hn=>?_⟩;rw [ih.2 hn,kh ne]
  | un=>unfold aP;exact dU env js es k i s nd' h h'
  | dat _=>unfold aP;exact dU env js es k i s nd' h h'
  | own _=>unfold aP;exact dU env js es k i s nd' h h'
  | ro _=>unfold aP;exact dU env js es k i s nd' h h'
theorem KpE.E2 (k:KpE env env') {i:Nat} {d:PyData} (e:env[i]?=some (.ino d)):∃ d',env'[i]?=some (.ino d'):=by
 obtain ⟨s',h,ev⟩:=k.2 i _ e;obtain ⟨d',rfl⟩:=ev;exact ⟨d',h⟩
theorem Rel.back (R:Rel K F0 ZW I env Z H) {lock:Option Nat} {js:List Nat} {ec:En} (nd:js.Nodup) (S:Rel K (FF F0 env Z) H (IA (cg env lock js) (L2.bc js Z)) ec (L2.bc js Z) H') (k:KpE (cg env lock js) ec):Rel K F0 ZW I (aP env js ec) Z H':=by
 have sub:∀ b,IA (cg env lock js) (L2.bc js Z) b->IA env Z b:=fun b ⟨k,m,s⟩=>by
  obtain ⟨j,hj,_,mj⟩:=c5 m;exact ⟨j,mj,bx hj s⟩
 have hk:∀ b o,H b=some o->¬IA env Z b->H' b=some o:=fun b o e n=>S.eR b o e fun z=>n (sub b z);have eFc:FF (FF F0 env Z) ec (L2.bc js Z)=FF F0 env Z:=cF (cj.kp k);refine R.chg (aZ env js ec) hk fun i d a hm hs=>?_;have sm:=aZ env js ec;have mi:mu env i:=sm.kp.mu ((pj hm).elim (fun e=>⟨d,.inl e⟩) fun e=>⟨d,.inr e⟩);have oN:(aP env js ec)[i]?=env[i]?->¬IA (cg env lock js) (L2.bc js Z) a->Top K (FF F0 env Z) H' d a:=fun e n=>by
  have hm':aU env i=some d:=by unfold aU at hm ⊢;rwa [e] at hm
  obtain ⟨_,a',s',_,t⟩:=R.cW hm';rw [hs] at s';cases s';exact t.pr (R.pN hk) (fun _ z=>z) fun o e=>S.eR a o e n
 by_cases hi:i∈js
 ·obtain ⟨p,hp⟩:=J0.mp hi;have hlen:ec.length=js.length:=by rw [k.1];unfold cg;rw [Jm]
  have hpl:p < js.length:=(Jo.mp hp).1;have he:ec[p]?=some (ec[p]'(by omega)):=Jl _;obtain ⟨b1,b2⟩:=dU env js ec p i _ nd hp he;by_cases hl:lock=some i
  ·-- locked
   refine oN (b2 fun d' z=>?_) ?_
   ·rw [z] at he;obtain ⟨s,e0,ev⟩:=k.back he;obtain ⟨j,hj,e'⟩:=eV e0;rw [hp] at hj;cases hj;obtain ⟨c,hc | hc⟩:=mi
    ·rw [hc] at e';simp only [Option.getD_some,nJ,hl,decide_true,Lh] at e';subst e';cases ev
    ·rw [hc] at e';simp only [Option.getD_some,nJ,hl,decide_true,Lh] at e';subst e';cases ev
   ·rintro ⟨q,mq,sq⟩;obtain ⟨j',hj',hn,mj'⟩:=c5 mq;have:=R.sep j' i a mj' mi (bx hj' sq) hs;subst this;exact hn hl
  ·have:∃ c,(cg env lock js)[p]?=some (.ino c):=by
    unfold cg;rw [Jw,hp];obtain ⟨c,hc | hc⟩:=mi
    ·exact ⟨c,by rw [Option.map_some,hc];simp [nJ,hl]⟩
    ·exact ⟨c,by rw [Option.map_some,hc];simp [nJ,hl]⟩
   obtain ⟨c,hc⟩:=this;obtain ⟨d',hd'⟩:=k.E2 hc;rw [he] at hd';have ed:=b1 d' (Kq hd') mi;rw [hm] at ed;cases ed;obtain ⟨a',s',_,_,t⟩:=S.ino p d (by rw [he];exact hd');have:=bx hp s';rw [hs] at this;cases this
   rwa [eFc] at t
 ·refine oN (aW env js ec i hi) ?_;rintro ⟨q,mq,sq⟩;obtain ⟨j',hj',hn,mj'⟩:=c5 mq;have:=R.sep j' i a mj' mi (bx hj' sq) hs;subst this;exact hi (Jy hj')
end
open PySem
section
variable {K:Fg} {F F' I I' F0:Addr->Prop} {H H' ZW H1:Hp} {env env' e1:En} {Z Z':St} {ga:Nat->V} {gd:List PyData}
def Eg (K:Fg) (F:Addr->Prop) (H:Hp) (acc:List V):Option PyData->List V->Prop
 | none,acc'=>acc'=acc
 | some d,acc'=>∃ v,acc'=acc++[v]/\Dm K F H d v
theorem rq {step:PyData->En->Option (Option PyData×En)} {ds ys:List PyData} {ec:En} {lock:Option Nat} {js:List Nat} {J:It} {Q:VK} {τ:Type} {TI:τ->Prop} {t0:τ} {body:τ->List V->V->Hp->(τ->List V->Hp->Prop)->Prop} (ht0:TI t0)
  (R1:Rel K F0 ZW I e1 Z H1) (nd:js.Nodup) (hit:yN K (FF F0 e1 Z) (fun b=>IA e1 Z b/\∀ i,lock=some i->mu e1 i->Z[i]?≠some (some (.ref b))) H1 J ds) (h2:uU step ds (cg e1 lock js)=some (ys,ec))
  (turn:∀ t acc d envc y envc' x H',TI t->step d envc=some (y,envc')->Rel K (FF F0 e1 Z) H1 (IA (cg e1 lock js) (bc js Z)) envc (bc js Z) H'->noOwn envc->Dm K (FF F0 e1 Z) H' d x->∀ N:τ->List V->Hp->Prop,
   (∀ t' acc' H2,TI t'->Rel K (FF F0 e1 Z) H1 (IA (cg e1 lock js) (bc js Z)) envc' (bc js Z) H2->KpE envc envc'->Pr (FF F0 e1 Z) H' H2->Eg K (FF F0 e1 Z) H2 acc y acc'->N t' acc' H2)->body t acc x H' N)
  (fin:∀ acc H',Rel K F0 ZW I (aP e1 js ec) Z H'->DmL K (FF F0 e1 Z) H' ys acc->acc.length<=sizeLine->∀ p,H' p=none->Q (.ref p) (upd H' p (.lst acc))) :
  ∃ W:Nat->Nat->τ->List V->Hp->Prop,(∃ m,W 0 m t0 [] H1)/\∀ i m t acc H,W i m t acc H ->
   (J.stop i H/\acc.length<=sizeLine/\∀ p,H p=none->Q (.ref p) (upd H p (.lst acc)))\/(J.go i H/\acc.length < sizeLine/\∀ x H',J.yld i H x H'->body t acc x H' fun t' acc' H2=>∃ m',m' < m/\W (i+1) m' t' acc' H2):=by
 obtain ⟨hvl,hturn⟩:=hit;have sub:∀ b,IA (cg e1 lock js) (bc js Z) b->IA e1 Z b/\∀ i,lock=some i->mu e1 i->Z[i]?≠some (some (.ref b)):=fun b ⟨k,m,s⟩=>by
  obtain ⟨j,hj,hn,mj⟩:=c5 m;refine ⟨⟨j,mj,bx hj s⟩,fun i hl mi si=>?_⟩;have:=R1.sep j i b mj mi (bx hj s) si;subst this;exact hn hl
 have Rc0:=R1.bc (lock:=lock) nd
 refine ⟨fun i m t acc H'=>TI t/\m=ds.length - i/\i<=ds.length/\acc.length<=i/\∃ envc done rest,uU step (ds.drop i) envc=some (rest,ec)/\ys=done++rest/\Rel K (FF F0 e1 Z) H1 (IA (cg e1 lock js) (bc js Z)) envc (bc js Z) H'/\KpE (cg e1 lock js) envc/\DmL K (FF F0 e1 Z) H' done acc,
  ⟨ds.length,ht0,rfl,J9 _,Jt _,cg e1 lock js,[],ys,h2,rfl,Rc0,KpE.refl _,rfl⟩,?_⟩
 rintro i m t acc H' ⟨hti,rfl,hi,hal,envc,done,rest,hc,hy,Rc,kc,hacc⟩;have hkept:∀ b o,H1 b=some o->¬(IA e1 Z b/\∀ i,lock=some i->mu e1 i->Z[i]?≠some (some (.ref b)))->H' b=some o:=fun b o e n=>Rc.eR b o e fun z=>n (sub b z);by_cases hlt:i < ds.length
 ·right;obtain ⟨go,yld⟩:=(hturn H' hkept i).1 (by omega);refine ⟨go,by omega,fun x H'' hx=>?_⟩;obtain ⟨d,hd,hy9⟩:=yld x H'' hx;obtain ⟨sm,hdx'⟩:=hy9.dm (F2:=FF F0 e1 Z) fun d v h=>h.pr (R1.pN fun b o e n=>hkept b o e fun z=>n z.1) fun _ z=>z;have Rc:=Rc.same sm;have hacc:=hacc.pr (fun b o e _=>sm b o e) fun _ z=>z;have ed:ds.drop i=d :: ds.drop (i+1):=by
   rw [Lo hlt];obtain ⟨_,q⟩:=Jo.mp hd;rw [q]
  rw [ed] at hc;unfold uU at hc;split at hc
  ·rename_i y envc' hs;split at hc
   ·rename_i ys' e2 hr;cases hc;refine turn t acc d envc y envc' x H'' hti hs Rc (cj.kp kc) hdx' _ fun t' acc' H2 ht' R2 k2 p2 ha=>⟨_,by omega,ht',rfl,by omega,?_,envc',done++y.toList,ys',hr,by rw [hy,List.append_assoc],R2,kc.trans k2,?_⟩
    ·cases y with
     | none=>rw [show acc'=acc from ha];omega
     | some dy=>obtain ⟨v,rfl,_⟩:=ha;rw [Js];simp;omega
    ·have hacc':=hacc.pr p2 fun _ z=>z;cases y with
     | none=>rw [show acc'=acc from ha];simpa using hacc'
     | some dy=>obtain ⟨v,rfl,hv⟩:=ha;exact hacc'.snoc hv
   ·cases hc
  ·cases hc
 ·left;have e:i=ds.length:=by omega
  subst e;have hz:acc.length<=sizeLine:=by omega
  rw [List.drop_length] at hc;unfold uU at hc;cases hc;rw [K2] at hy;subst hy;exact ⟨(hturn H' hkept _).2 (by omega),hz,fin acc H' (R1.back nd Rc kc) hacc hz⟩
theorem Eu {js:List Nat} {it:XI} {c:XT} {e:XE} (ii:SI K ga gd it) (ic:ST K ga gd c) (ie:SE K ga gd e):SE K ga gd (.cmp js it c e):=by
 intro env rv env' h F0 ZW I Z H Q R q;simp only [dE] at h;split at h
 ·rename_i ds lock e1 h1;split at h
  ·rename_i nd;split at h
   ·rename_i ys ec h2;cases h;refine ii _ _ _ _ h1 F0 ZW I Z H _ R fun J H1 R1 k1 _ hit=>?_;refine Exists.elim (rq (Q:=Q) (τ:=Unit) (TI:=fun _=>True) (t0:=()) (body:=fun _ acc x H' N=>rT K ga c (some x :: bc js Z) H' fun b H2=>if b=true then rE K ga e (some x :: bc js Z) H2 fun y H3=>N () (acc++[y]) H3 else N () acc H2) trivial R1 nd hit h2 ?_ ?_) fun W hw=>?_
    rotate_right 1
    ·obtain ⟨w0,hW⟩:=hw;exact ⟨fun i m acc H=>W i m () acc H,w0,fun i m acc H w=>hW i m () acc H w⟩
    ·intro _ acc d envc y envc' x H' _ hs Rc no hd N hN;have eF:FF (FF F0 e1 Z) envc (bc js Z)=FF F0 e1 Z:=cF no;have Rx:Rel K (FF F0 e1 Z) H1 (IA (cg e1 lock js) (bc js Z)) (.dat d :: envc) (some x :: bc js Z) H':=Rc.front (ds:=[d]) (vs:=[x]) ⟨x,[],rfl,by rw [eF];exact hd,rfl⟩;have frontF:∀ {e2:En},KpE envc e2->FF (FF F0 e1 Z) (.dat d :: e2) (some x :: bc js Z)=FF F0 e1 Z:=fun {e2} k=>by
      have:=gP (F0:=FF F0 e1 Z) (env:=e2) (Z:=bc js Z) (pre:=[.dat d]) (ps:=[some x]) (fun s hs=>by rw [Jv.mp hs];trivial) rfl;exact this.trans (cF (no.kp k))
     unfold ig at hs;split at hs
     ·rename_i e2 hT;split at hs
      ·rename_i rv e3 hE;split at hs
       ·rename_i dy hv;cases hs;refine ic _ _ _ hT _ _ _ _ H' _ Rx.rebase fun H2 S2 k2=>?_;rw [Jx rfl];have R2:=Rx.a8 S2;refine ie _ _ _ hE _ _ _ _ H2 _ R2.rebase fun v H3 S3 k3 r3=>?_;have R3:=R2.a8 S3;obtain ⟨ex,e3',kx⟩:=(k2.trans k3).front (ds:=[d]);have k23:=k2.trans k3;subst e3';have ht:(([d].map Sl.dat)++ex).tail=ex:=rfl;obtain ⟨e2x,e2',k2x⟩:=k2.front (ds:=[d]);have p12:Pr (FF F0 e1 Z) H' H2:=by have:=Rx.pN S2.eR;rwa [frontF (KpE.refl _)] at this
        have p23:Pr (FF F0 e1 Z) H2 H3:=by
         have:=R2.pN S3.eR;rw [e2'] at this
         rwa [show FF (FF F0 e1 Z) ([d].map Sl.dat++e2x) (some x :: bc js Z)=FF F0 e1 Z from frontF k2x] at this
        have a3:=r3.av;rw [hv] at a3;have dv:Dm K (FF F0 e1 Z) H3 dy v:=by
         have:Dm K (FF (FF F0 e1 Z) ([d].map Sl.dat++ex) (some x :: bc js Z)) H3 dy v:=a3
         rwa [show FF (FF F0 e1 Z) ([d].map Sl.dat++ex) (some x :: bc js Z)=FF F0 e1 Z from frontF kx] at this
        exact hN () _ H3 trivial (R3.behind (pre:=[.dat d]) (ps:=[some x]) (fun s hs=>by rw [Jv.mp hs];trivial) rfl) kx (p12.trans p23 fun _ z=>z) ⟨v,rfl,dv⟩
       ·cases hs
      ·cases hs
     ·rename_i e2 hT;cases hs;refine ic _ _ _ hT _ _ _ _ H' _ Rx.rebase fun H2 S2 k2=>?_;rw [JD (by decide)];have R2:=Rx.a8 S2;obtain ⟨ex,e2',kx⟩:=k2.front (ds:=[d]);subst e2';have p12:Pr (FF F0 e1 Z) H' H2:=by have:=Rx.pN S2.eR;rwa [frontF (KpE.refl _)] at this
      exact hN () _ H2 trivial (R2.behind (pre:=[.dat d]) (ps:=[some x]) (fun s hs=>by rw [Jv.mp hs];trivial) rfl) kx p12 rfl
     ·cases hs
    ·intro acc H' R' hd hz p hp;have eF:=(aZ e1 js ec).ff (F0:=F0) (Z:=Z);have s:=aE.nw (.lst acc) hp;exact q _ _ (R'.same s) (k1.trans (aZ e1 js ec).kp) (R'.kX (pr:=.frs (.list ys)) s ⟨p,rfl,hp,acc,ak,hz,by rw [eF];exact (hd.fresh hp).pr (Pr.of_same s) fun _ z=>z⟩)
   ·cases h
  ·cases h
 ·cases h
noncomputable def BD:St->Nat->List V->St
 | Z,_,[]=>Z
 | Z,k,v :: vs=>BD (Z.set k (some v)) (k+1) vs
theorem lO:∀ {vs:List V} {k:Nat} {Z:St} {H:Hp} {Q:St->Hp->Prop},Q (BD Z k vs) H->gNs (List.range' k vs.length) vs Z H Q
 | [],_,_,_,_,h=>⟨rfl,h⟩
 | v :: vs,k,Z,H,Q,h=>⟨v,vs,rfl,lO (vs:=vs) (k:=k+1) h⟩
theorem oH:∀ {vs:List V} {pre hd tl:St},hd.length=vs.length->BD (pre++(hd++tl)) pre.length vs=pre++(vs.map some++tl)
 | [],pre,hd,tl,h=>by
  have:hd=[]:=List.eq_nil_of_length_eq_zero h;subst this;rfl
 | v :: vs,pre,[],tl,h=>by cases h
 | v :: vs,pre,x :: hd,tl,h=>by
  have hl:hd.length=vs.length:=by simpa using h
  have e:(pre++(x :: hd++tl)).set pre.length (some v)=(pre++[some v])++(hd++tl):=by
   rw [List.set_append_right _ _ (Jt _)];simp
  unfold BD;rw [e];have:=oH (vs:=vs) (pre:=pre++[some v]) (hd:=hd) (tl:=tl) hl;rw [Js] at this;rw [show pre.length+1=pre.length+[some v].length from rfl,this];simp
theorem tj (n:List Str):(eL n).length=n.length:=by unfold eL;rw [Jm]
theorem CV {n:List Str} {js:List Nat} {it:XI} {e:XE} (ii:SI K ga gd it) (ie:SE K ga gd e):SE K ga gd (.zb n js it e):=by
 intro env rv env' h F0 ZW I Z H Q R q;simp only [dE] at h;split at h
 ·rename_i ds lock e1 h1;split at h
  ·rename_i nd;split at h
   ·rename_i ys ec h2;cases h;refine ii _ _ _ _ h1 F0 ZW I Z H _ R fun J H1 R1 k1 _ hit=>?_;refine Exists.elim (rq (Q:=Q) (τ:=St) (TI:=fun t=>∃ hd:St,hd.length=n.length/\t=hd++bc js Z) (t0:=eL n++bc js Z) (body:=fun t acc x H' N=>gTp K (List.range n.length) x t H' fun Z2 H2=>rE K ga e Z2 H2 fun y H3=>N Z2 (acc++[y]) H3) ⟨eL n,tj n,rfl⟩ R1 nd hit h2 ?_ ?_) fun W hw=>?_
    rotate_right 1
    ·obtain ⟨w0,hW⟩:=hw;exact ⟨W,w0,hW⟩
    ·rintro t acc d envc y envc' x H' ⟨hd,hl,rfl⟩ hs Rc no hdx N hN;have eF:FF (FF F0 e1 Z) envc (bc js Z)=FF F0 e1 Z:=cF no;unfold fB at hs;split at hs
     ·rename_i xs;split at hs
      ·rename_i hxl;split at hs
       ·rename_i rv e3 hE;split at hs
        ·rename_i dy hv;cases hs;obtain ⟨a,vs,rfl,hq,hz,hdl⟩:=hdx;have hvl:vs.length=n.length:=by rw [hdl.len,hxl]
         refine ⟨a,vs,rfl,hq,by rw [Kh];exact hvl,?_⟩;rw [List.range_eq_range',<-hvl];refine lO ?_;have es:BD (hd++bc js Z) 0 vs=vs.map some++bc js Z:=oH (pre:=[]) (by rw [hl,hvl]);rw [es];have Rx:Rel K (FF F0 e1 Z) H1 (IA (cg e1 lock js) (bc js Z)) (xs.map .dat++envc) (vs.map some++bc js Z) H':=Rc.front (by rw [eF];exact hdl);have hpre:∀ s∈(xs.map Sl.dat),qg s:=fun s hs=>by obtain ⟨d,_,rfl⟩:=JV.mp hs;trivial
         have hpl:(xs.map Sl.dat).length=(vs.map some).length:=by rw [Jm,Jm,hdl.len]
         have frontF:∀ {e2:En},KpE envc e2->FF (FF F0 e1 Z) (xs.map .dat++e2) (vs.map some++bc js Z)=FF F0 e1 Z:=fun {e2} k=>(gP hpre hpl).trans (cF (no.kp k));refine ie _ _ _ hE _ _ _ _ H' _ Rx.rebase fun v H3 S3 k3 r3=>?_;have R3:=Rx.a8 S3;obtain ⟨ex,e3',kx⟩:=k3.front;subst e3';have p:Pr (FF F0 e1 Z) H' H3:=by have:=Rx.pN S3.eR;rwa [frontF (KpE.refl _)] at this
         have a3:=r3.av;rw [hv] at a3;have dv:Dm K (FF F0 e1 Z) H3 dy v:=by
          have:Dm K (FF (FF F0 e1 Z) (xs.map .dat++ex) (vs.map some++bc js Z)) H3 dy v:=a3
          rwa [frontF kx] at this
         have ed:(xs.map Sl.dat++ex).drop n.length=ex:=by rw [<- hxl,<-Jm (f:=Sl.dat),List.drop_left]
         rw [ed] at hN;exact hN _ _ H3 ⟨vs.map some,by rw [Jm];exact hvl,rfl⟩ (R3.behind hpre hpl) kx p ⟨v,rfl,dv⟩
        ·cases hs
       ·cases hs
      ·cases hs
     ·cases hs
    ·intro acc H' R' hd hz p hp;have eF:=(aZ e1 js ec).ff (F0:=F0) (Z:=Z);have s:=aE.nw (.lst acc) hp;exact q _ _ (R'.same s) (k1.trans (aZ e1 js ec).kp) (R'.kX (pr:=.frs (.list ys)) s ⟨p,rfl,hp,acc,ak,hz,by rw [eF];exact (hd.fresh hp).pr (Pr.of_same s) fun _ z=>z⟩)
   ·cases h
  ·cases h
 ·cases h
mutual
theorem sE (hg:∀ g d,gd[g]?=some d->∀ F H,Dm K F H d (ga g)):∀ e:XE,SE K ga gd e
 | .var i=>FX i | .mov i=>Fd i | .tke i=>El i | .cst c=>Gm c | .glb g=>Gy hg g
 | .prm p as=>EW (sA hg as) | .met m o as=>EY (sE hg o) (sA hg as) | .mtr m i as=>Gj (sA hg as) | .call f as=>s_call (sA hg as)
 | .tup as=>GS (sA hg as) | .lst as=>Ft (sA hg as) | .dsp as=>F5 (sPs hg as)
 | .ifx c a b=>EZ (sT hg c) (sE hg a) (sE hg b) | .ji a b=>A8 (sE hg a) (sE hg b) | .orv a b=>FY (sE hg a) (sE hg b) | .uR a=>Br (sE hg a)
 | .chn p q a b c=>GX (sE hg a) (sE hg b) (sE hg c) | .sl2 p a b c=>Fw (sE hg a) (sE hg b) (sE hg c)
 | .cmp js it c e=>Eu (sI hg it) (sT hg c) (sE hg e) | .zb n js it e=>CV (sI hg it) (sE hg e) | .gho i j h l e=>FI (sE hg l) (sE hg e)
theorem sA (hg:∀ g d,gd[g]?=some d->∀ F H,Dm K F H d (ga g)):∀ e:XA,SA K ga gd e
 | .nil=>Ew | .cons e r=>Bk (sE hg e) (sA hg r)
theorem sPs (hg:∀ g d,gd[g]?=some d->∀ F H,Dm K F H d (ga g)):∀ e:XP,SPs K ga gd e
 | .nil=>FH | .cons k e r=>B5 (sE hg k) (sE hg e) (sPs hg r)
theorem sT (hg:∀ g d,gd[g]?=some d->∀ F H,Dm K F H d (ga g)):∀ e:XT,ST K ga gd e
 | .tst e=>EO (sE hg e) | .and a b=>Fo (sT hg a) (sT hg b) | .or a b=>IG (sT hg a) (sT hg b) | .not a=>GV (sT hg a) | .yes=>F4
theorem sI (hg:∀ g d,gd[g]?=some d->∀ F H,Dm K F H d (ga g)):∀ e:XI,SI K ga gd e
 | .lst e=>ED (sE hg e) | .tup e=>F3 (sE hg e) | .str e=>GH (sE hg e) | .rng1 as=>Bv (sA hg as)
end
end
open PySem
section
variable {K:Fg} {F F' I I' F0:Addr->Prop} {H H' ZW H1:Hp} {env env' e1:En} {Z Z':St} {ga:Nat->V} {gd:List PyData}
theorem LsF.cu (h:LsF K F H a xs):LsF K (fun b=>F b\/H b=none) H a xs:=by
 rcases h with ⟨n,h⟩ | h
 ·refine .inl ⟨fun z=>z.elim n fun e=>?_,h⟩;rcases h with h | ⟨o,h⟩ <;> (rw [e] at h;cases h)
 ·exact .inr h
mutual
theorem Dm.cu:∀ {d:PyData} {v:V},Dm K F H d v->Dm K (fun b=>F b\/H b=none) H d v
 | .none,v,h=>h
 | .bool b,v,h=>h
 | .int i,v,h=>h
 | .str x,v,h=>h
 | .list ds,v,h=>by
  obtain ⟨a,xs,e,l,z,r⟩:=h;exact ⟨a,xs,e,l.cu,z,DmL.cu r⟩
 | .tuple ds,v,h=>by
  obtain ⟨a,xs,e,l,z,r⟩:=h;exact ⟨a,xs,e,l,z,DmL.cu r⟩
 | .dict kvs,v,h=>by
  obtain ⟨a,ep,xs,e,n,l,z,r⟩:=h;exact ⟨a,ep,xs,e,fun q=>q.elim n fun q=>(by rw [q] at l;cases l),l,z,DmP.cu r⟩
theorem DmL.cu:∀ {ds:List PyData} {vs:List V},DmL K F H ds vs->DmL K (fun b=>F b\/H b=none) H ds vs
 | [],vs,h=>h
 | d :: ds,vs,h=>by
  obtain ⟨v,r,e,h1,h2⟩:=h;exact ⟨v,r,e,Dm.cu h1,DmL.cu h2⟩
theorem DmP.cu:∀ {ds:List (PyData×PyData)} {vs:List (PyData×V×V)},DmP K F H ds vs->DmP K (fun b=>F b\/H b=none) H ds vs
 | [],vs,h=>h
 | (k,d) :: ds,vs,h=>by
  obtain ⟨j,v,r,e,e2,h0,h1,h2⟩:=h;exact ⟨j,v,r,e,e2,Dm.cu h0,Dm.cu h1,DmP.cu h2⟩
end
theorem Pr.Ih (p:Pr F H H') (h:∀ b,F b->F' b):Pr F' H H':=fun b o e n=>p b o e (n.imp (fun z q=>z (h _ q)) id)
def Evs:Sl->Sl->Prop
 | .ino _,s=>∃ d,s=.ino d
 | .ro d,s=>s=.ro d
 | _,s=>(∀ d,s≠.ino d)/\∀ d,s≠.ro d
def BO:Sl->Prop | .ino _=>True | .ro _=>True | _=>False
def KpS (env:En) (Z:St) (env':En) (Z':St):Prop:=env'.length=env.length/\∀ (i:Nat) (s:Sl),env[i]?=some s->∃ s',env'[i]?=some s'/\Evs s s'/\(BO s->Z'[i]?=Z[i]?)
theorem Evs.refl:∀ s,Evs s s
 | .un=>⟨fun _=>nofun,fun _=>nofun⟩
 | .dat _=>⟨fun _=>nofun,fun _=>nofun⟩
 | .own d=>⟨fun _=>nofun,fun _=>nofun⟩
 | .ino d=>⟨d,rfl⟩
 | .ro _=>rfl
def soft (s:Sl):Prop:=(∀ d,s≠.ino d)/\∀ d,s≠.ro d
theorem Evs.soft (h:Evs s s') (q:L2.soft s):L2.soft s':=by
 cases s with
 | ino d=>exact absurd rfl (q.1 d)
 | ro d=>exact absurd rfl (q.2 d)
 | _=>exact h
theorem Evs.of (q:L2.soft s) (q':L2.soft s'):Evs s s':=by
 cases s with
 | ino d=>exact absurd rfl (q.1 d)
 | ro d=>exact absurd rfl (q.2 d)
 | _=>exact q'
theorem Evs.trans (h:Evs a b) (q:Evs b c):Evs a c:=by
 cases a with
 | ino d=>obtain ⟨d',rfl⟩:=h;exact q
 | ro d=>rw [show b=.ro d from h] at q;exact q
 | un=>exact Evs.of ⟨fun _=>nofun,fun _=>nofun⟩ (q.soft h)
 | dat _=>exact Evs.of ⟨fun _=>nofun,fun _=>nofun⟩ (q.soft h)
 | own _=>exact Evs.of ⟨fun _=>nofun,fun _=>nofun⟩ (q.soft h)
theorem Evs.BO (h:Evs a b) (q:L2.BO a):L2.BO b:=by
 cases a with
 | ino d=>obtain ⟨d',rfl⟩:=h;trivial
 | ro d=>rw [show b=.ro d from h];trivial
 | _=>exact absurd q id
theorem KpS.refl (env:En) (Z:St):KpS env Z env Z:=⟨rfl,fun i s e=>⟨s,e,.refl s,fun _=>rfl⟩⟩
theorem KpS.trans (h:KpS a x b y) (q:KpS b y c z):KpS a x c z:=⟨q.1.trans h.1,fun i s e=>by
 obtain ⟨s1,e1,v1,w1⟩:=h.2 i s e;obtain ⟨s2,e2,v2,w2⟩:=q.2 i s1 e1
 exact ⟨s2,e2,v1.trans v2,fun t=>(w2 (v1.BO t)).trans (w1 t)⟩⟩
theorem KpE.s (k:KpE env env'):KpS env Z env' Z:=⟨k.1,fun i s e=>by
 obtain ⟨s',e',v⟩:=k.2 i s e;refine ⟨s',e',?_,fun _=>rfl⟩;cases s with
 | un=>rw [show s'=.un from v];exact .refl _
 | dat d=>rw [show s'=.dat d from v];exact .refl _
 | own d=>rcases v with ⟨d',rfl⟩ | ⟨d',rfl⟩ | rfl <;> exact ⟨fun _=>nofun,fun _=>nofun⟩
 | ino d=>exact v
 | ro d=>exact v⟩
theorem gW (h:free env i=true):∃ s,env[i]?=some s/\L2.soft s:=by
 unfold free at h;split at h
 ·rename_i e;exact ⟨_,e,fun _=>nofun,fun _=>nofun⟩
 ·rename_i e;exact ⟨_,e,fun _=>nofun,fun _=>nofun⟩
 ·rename_i e;exact ⟨_,e,fun _=>nofun,fun _=>nofun⟩
 ·cases h
theorem tJ (e:env[i]?=some s) (q:L2.soft s) (q':L2.soft s'):KpS env Z (env.set i s') (Z.set i x):=by
 have hi:i < env.length:=(Jo.mp e).1;refine ⟨J7,fun j t h=>?_⟩;by_cases z:i=j
 ·subst z;rw [e] at h;cases h;refine ⟨s',JK hi,.of q q',fun t=>?_⟩;cases s with
  | ino d=>exact absurd rfl (q.1 d)
  | ro d=>exact absurd rfl (q.2 d)
  | _=>exact absurd t id
 ·exact ⟨t,by rw [Jq z];exact h,.refl t,fun _=>by rw [Jq z]⟩
def iB (K:Fg) (F0:Addr->Prop) (ZW:Hp) (I:Addr->Prop) (env:En) (Z:St) (D:Ends):Out->Prop
 | .nx e=>∀ Z' H',Rel K F0 ZW I e Z' H'->KpS env Z e Z'->D.nx Z' H'
 | .bk e=>∀ Z' H',Rel K F0 ZW I e Z' H'->KpS env Z e Z'->D.bk Z' H'
 | .ct e=>∀ Z' H',Rel K F0 ZW I e Z' H'->KpS env Z e Z'->D.ct Z' H'
 | .rt rv e=>∀ v Z' H',Rel K F0 ZW I e Z' H'->KpS env Z e Z'->gF K F0 ZW I e Z' H' rv v->D.rt v H'
def SS (K:Fg) (ga:Nat->V) (gd:List PyData) (s:XS):Prop:=∀ (env:En) (out:Out),dS gd s env=some out->∀ (F0:Addr->Prop) (ZW:Hp) (I:Addr->Prop) (Z:St) (H:Hp) (D:Ends),Rel K F0 ZW I env Z H->iB K F0 ZW I env Z D out->rS K ga s D Z H
theorem iB.from (k:KpS env Z env' Z') (h:iB K F0 ZW I env Z D out):iB K F0 ZW I env' Z' D out:=by
 cases out with
 | nx e=>exact fun s h1 r q=>h s h1 r (k.trans q)
 | bk e=>exact fun s h1 r q=>h s h1 r (k.trans q)
 | ct e=>exact fun s h1 r q=>h s h1 r (k.trans q)
 | rt rv e=>exact fun v s h1 r q w=>h v s h1 r (k.trans q) w
theorem Bw (ia:SS K ga gd a) (ib:SS K ga gd b):SS K ga gd (.seq a b):=by
 intro env out h F0 ZW I Z H D R q;simp only [dS] at h;split at h
 ·rename_i e h1;refine ia _ _ h1 F0 ZW I Z H _ R fun Z' H' R' k'=>?_;exact ib _ _ h F0 ZW I Z' H' D R' (q.from k')
 ·rename_i hn;refine ia _ _ h F0 ZW I Z H _ R ?_;cases out with
  | nx e=>exact absurd h (hn e)
  | bk e=>exact q
  | ct e=>exact q
  | rt rv e=>exact q
theorem Rel.FA (R:Rel K F0 ZW I env Z H) (hf:free env i=true) (h:Dm K (FF F0 env Z) H d v):Rel K F0 ZW I (env.set i (.dat d)) (Z.set i (some v)) H/\KpS env Z (env.set i (.dat d)) (Z.set i (some v)):=by
 obtain ⟨s,e,q⟩:=gW hf;have hi:i < env.length:=(Jo.mp e).1;have R1:=R.forget i (some v);have:=R1.putD (i:=i) (d:=d) (v:=v) (JK hi) (h.mono (R.sub i _).1);rw [LA,LA] at this;exact ⟨this,tJ e q ⟨fun _=>nofun,fun _=>nofun⟩⟩
theorem yn (ie:SE K ga gd e):SS K ga gd (.br i e):=by
 intro env out h F0 ZW I Z H D R q;simp only [dS] at h;split at h
 ·rename_i rv e1 h1;split at h
  ·rename_i d hv;split at h
   ·rename_i hf;cases h;refine ie _ _ _ h1 F0 ZW I Z H _ R fun v H1 R1 k1 r1=>?_;have a1:=r1.av;rw [hv] at a1;obtain ⟨R2,k2⟩:=R1.FA hf (show Dm K _ H1 d v from a1);exact q _ H1 R2 (k1.s.trans k2)
   ·cases h
  ·cases h
 ·cases h
theorem gF.forget (h:gF K F0 ZW I env Z H (.frs d) v) (i:Nat) (x:Option V) (hs:∀ s,env[i]?=some s->L2.soft s):gF K F0 ZW I (env.set i .un) (Z.set i x) H (.frs d) v:=by
 obtain ⟨a,ea,R,t,w,nF,hi,hr⟩:=h;have R0:=R.less hi;obtain ⟨hf,hia⟩:=R0.sub i x;have hf':∀ b,(FF F0 (env.set i .un) (Z.set i x) b\/b=a)->(FF F0 env Z b\/b=a):=fun b z=>z.imp (hf b) id;refine ⟨a,ea,R.forget i x,t.pr Pr.refl hf' fun _ z=>z,w,fun z=>nF (hf _ z),fun j c e s=>?_,fun j c e=>?_⟩
 ·rcases get_set e with ⟨_,z⟩ | ⟨n,e⟩
  ·cases z
  ·rw [Jq n] at s;exact hi j c e s
 ·rcases get_set e with ⟨_,z⟩ | ⟨n,e⟩
  ·cases z
  ·obtain ⟨b,s,r⟩:=hr j c e;exact ⟨b,by rw [Jq n];exact s,r.pr Pr.refl hf' (fun b z=>z.imp (hia b) id) fun _ _ z _=>z⟩
theorem zQ (ie:SE K ga gd e):SS K ga gd (.uT i e):=by
 intro env out h F0 ZW I Z H D R q;simp only [dS] at h;split at h
 ·rename_i d e1 h1;split at h
  ·rename_i hf;cases h;refine ie _ _ _ h1 F0 ZW I Z H _ R fun v H1 R1 k1 r1=>?_;obtain ⟨s,e,qs⟩:=gW hf;have hi:i < e1.length:=(Jo.mp e).1;have ev:∃ a,v=.ref a:=let ⟨a,e,_⟩:=r1;⟨a,e⟩
   obtain ⟨a,rfl⟩:=ev;have r2:=r1.forget i (some (.ref a)) (fun s' h=>by rw [e] at h;cases h;exact qs);have R2:=Rel.HB (i:=i) (JK hi) r2;rw [LA,LA] at R2;exact q _ H1 R2 (k1.s.trans (tJ e qs ⟨fun _=>nofun,fun _=>nofun⟩))
  ·cases h
 ·cases h
theorem mG:∀ {is:List Nat} {ds:List PyData} {vs:List V} {env env':En} {Z:St} {Q:St->Hp->Prop},fx env is ds=some env'->Rel K F0 ZW I env Z H->DmL K (FF F0 env Z) H ds vs->(∀ Z',Rel K F0 ZW I env' Z' H->KpS env Z env' Z'->Q Z' H)->gNs is vs Z H Q
 | [],[],vs,env,env',Z,Q,h,R,hd,q=>by
  cases h;exact ⟨hd,q Z R (KpS.refl _ _)⟩
 | [],d :: ds,vs,env,env',Z,Q,h,R,hd,q=>by cases h
 | i :: is,[],vs,env,env',Z,Q,h,R,hd,q=>by cases h
 | i :: is,d :: ds,vs,env,env',Z,Q,h,R,hd,q=>by
  unfold fx at h;split at h
  ·rename_i hf;obtain ⟨v,r,rfl,h1,h2⟩:=hd;obtain ⟨R1,k1⟩:=R.FA hf h1;obtain ⟨s,e,qs⟩:=gW hf;refine ⟨v,r,rfl,?_⟩;refine mG h R1 (h2.mono fun b z=>?_) fun Z' R' k'=>q Z' R' (k1.trans k');rcases z with z | ⟨j,c,e',s'⟩
   ·exact .inl z
   ·rcases get_set e' with ⟨_,y⟩ | ⟨n,e'⟩
    ·cases y
    ·rw [Jq n] at s';exact .inr ⟨j,c,e',s'⟩
  ·cases h
theorem zD (ie:SE K ga gd e):SS K ga gd (.Ad is e):=by
 intro env out h F0 ZW I Z H D R q;simp only [dS] at h;split at h
 ·rename_i rv e1 h1;split at h
  ·rename_i ds hv;split at h
   ·rename_i e2 hset;cases h;refine ie _ _ _ h1 F0 ZW I Z H _ R fun v H1 R1 k1 r1=>?_;have a1:=r1.av;rw [hv] at a1;obtain ⟨a,xs,rfl,l,z,r⟩:=(show Dm K (FF F0 e1 Z) H1 (.tuple ds) v from a1);have hlen:∀ {is:List Nat} {ds:List PyData} {e e':En},fx e is ds=some e'->is.length=ds.length:=by
     intro is;induction is with
     | nil=>intro ds e e' h;cases ds with
      | nil=>rfl
      | cons _ _=>cases h
     | cons i is ih=>intro ds e e' h;cases ds with
      | nil=>cases h
      | cons d ds =>
       unfold fx at h;split at h
       ·rw [JL,JL,ih h]
       ·cases h
    exact ⟨a,xs,rfl,l,by rw [r.len,hlen hset],mG hset R1 r fun Z' R' k'=>q Z' H1 R' (k1.s.trans k')⟩
   ·cases h
  ·cases h
 ·cases h
theorem zM (ie:SE K ga gd e):SS K ga gd (.drop e):=by
 intro env out h F0 ZW I Z H D R q;simp only [dS] at h;split at h
 ·rename_i rv e1 h1;cases h;exact ie _ _ _ h1 F0 ZW I Z H _ R fun v H1 R1 k1 r1=>q Z H1 R1 k1.s
 ·cases h
theorem AS (ie:SE K ga gd e):SS K ga gd (.ret e):=by
 intro env out h F0 ZW I Z H D R q;simp only [dS] at h;split at h
 ·rename_i rv e1 h1;cases h;exact ie _ _ _ h1 F0 ZW I Z H _ R fun v H1 R1 k1 r1=>q v Z H1 R1 k1.s r1
 ·cases h
theorem Ar (ic:ST K ga gd c) (ia:SS K ga gd a) (ib:SS K ga gd b):SS K ga gd (.ifs c a b):=by
 intro env out h F0 ZW I Z H D R q;simp only [dS] at h;split at h
 ·rename_i e1 h1;refine ic _ _ _ h1 F0 ZW I Z H _ R fun H1 R1 k1=>?_;rw [Jx rfl];exact ia _ _ h F0 ZW I Z H1 D R1 (q.from k1.s)
 ·rename_i e1 h1;refine ic _ _ _ h1 F0 ZW I Z H _ R fun H1 R1 k1=>?_;rw [JD (by decide)];exact ib _ _ h F0 ZW I Z H1 D R1 (q.from k1.s)
 ·cases h
theorem CA (ik:SE K ga gd k) (ie:SE K ga gd e):SS K ga gd (.sto m i k e):=by
 intro env out h F0 ZW I Z H D R q;simp only [dS] at h;split at h
 ·rename_i rv e1 h1;split at h
  ·rename_i x hv;split at h
   ·rename_i d0 hm0;split at h
    ·rename_i rk e2 h2;split at h
     ·rename_i dk d hvk hm;split at h
      ·rename_i d' hf;cases h;refine ie _ _ _ h1 F0 ZW I Z H _ R fun v H1 R1 k1 r1=>?_;obtain ⟨_,a,s,_⟩:=R1.cW hm0;refine ⟨.ref a,s,?_⟩;refine ik _ _ _ h2 F0 _ _ Z H1 _ R1.rebase fun u H2 S2 k2 r2=>?_;have R2:=R1.a8 S2;have a1:=r1.av;rw [hv] at a1;have dx:=R1.n5 S2 k2 (show Dm K _ H1 x v from a1);obtain ⟨m2,a',s',f2,t2⟩:=R2.cW hm;rw [s] at s';cases s';refine m.ok K _ H2 d a dk x u v d' _ hf f2 t2 (r2.av.vw R2 hvk) dx fun H3 hk ht=>?_;exact q Z H3 (R2.HR hm s hk ht) ((k1.trans k2).trans (qU _ _ _)).s
      ·cases h
     ·cases h
    ·cases h
   ·cases h
  ·cases h
 ·cases h
end
open PySem
section
variable {K:Fg} {F F' I I' F0:Addr->Prop} {H H' ZW H1:Hp} {env env' e1:En} {Z Z':St} {ga:Nat->V} {gd:List PyData}
theorem rW {b:PyData->En->Option Out} {ds:List PyData} {out:Out} {J:It} {F1 I1:Addr->Prop} {el:En} {g:TG} {tb:TS} {D:Ends} (R:Rel K F1 H1 I1 el Z H1) (hI:I1=IA el Z) (hit:yN K (FF F1 el Z) I1 H1 J ds) (h:forL b ds el=some out)
  (turn:∀ d o env' Z' H' x,b d env'=some o->Rel K F1 H1 I1 env' Z' H'->KpS el Z env' Z'->Dm K (FF F1 env' Z') H' d x->∀ D':Ends,iB K F1 H1 I1 env' Z' D' o->g x Z' H' fun Z2 H2=>tb D' Z2 H2)
  (q:iB K F1 H1 I1 el Z D out) :
  ∃ W:Nat->Nat->St->Hp->Prop,(∃ m,W 0 m Z H1)/\∀ i m Z H,W i m Z H ->
   (J.stop i H/\D.nx Z H)\/(J.go i H/\∃ N:St->Hp->Prop,(∀ Z' H',N Z' H'->∃ m',m' < m/\W (i+1) m' Z' H')/\∀ x H',J.yld i H x H'->g x Z H' fun Z2 H2=>tb { D with nx:=N,ct:=N,bk:=D.nx } Z2 H2):=by
 subst hI;obtain ⟨hvl,hturn⟩:=hit;refine ⟨fun i m Z' H'=>m=ds.length - i/\i<=ds.length/\∃ env',forL b (ds.drop i) env'=some out/\Rel K F1 H1 (IA el Z) env' Z' H'/\KpS el Z env' Z',⟨ds.length,rfl,J9 _,el,h,R,KpS.refl _ _⟩,?_⟩;rintro i m Z' H' ⟨rfl,hi,env',hf,R',k'⟩;have hkept:∀ b o,H1 b=some o->¬IA el Z b->H' b=some o:=R'.eR;by_cases hlt:i < ds.length
 ·right;obtain ⟨go,yld⟩:=(hturn H' hkept i).1 (by omega);refine ⟨go,fun Z3 H3=>(ds.length - (i+1))=ds.length - (i+1)/\i+1<=ds.length/\∃ env',forL b (ds.drop (i+1)) env'=some out/\Rel K F1 H1 (IA el Z) env' Z3 H3/\KpS el Z env' Z3,fun Z3 H3 z=>⟨ds.length - (i+1),by omega,z⟩,fun x H'' hx=>?_⟩;obtain ⟨d,hd,hy9⟩:=yld x H'' hx;have fSub:∀ b,FF F1 env' Z' b->(FF F1 el Z b\/H1 b=none):=fun b z=>by
   rcases z with z | ⟨j,c,e',s'⟩
   ·exact .inl (.inl z)
   ·obtain ⟨b',q',_,w,_⟩:=R'.own j c e';rw [s'] at q';cases q';exact w.elim .inr fun w=>.inl (R.ia w)
  obtain ⟨sm,hdx'⟩:=hy9.dm (F2:=FF F1 env' Z') fun d v h=>h.cu.pr ((R.pN hkept).Ih fun b z=>.inl z) fSub;have R':=R'.same sm;have ed:ds.drop i=d :: ds.drop (i+1):=by
   rw [Lo hlt];obtain ⟨_,z⟩:=Jo.mp hd;rw [z]
  rw [ed] at hf;unfold forL at hf;split at hf
  ·rename_i e hb;exact turn d _ env' Z' H'' x hb R' k' hdx' _ fun Z3 H3 R3 k3=>⟨rfl,by omega,e,hf,R3,k'.trans k3⟩
  ·rename_i e hb;exact turn d _ env' Z' H'' x hb R' k' hdx' _ fun Z3 H3 R3 k3=>⟨rfl,by omega,e,hf,R3,k'.trans k3⟩
  ·rename_i e hb;cases hf;exact turn d _ env' Z' H'' x hb R' k' hdx' _ fun Z3 H3 R3 k3=>q Z3 H3 R3 (k'.trans k3)
  ·rename_i r e hb;cases hf;exact turn d _ env' Z' H'' x hb R' k' hdx' _ fun v Z3 H3 R3 k3 r3=>q v Z3 H3 R3 (k'.trans k3) r3
  ·cases hf
 ·left;have e:i=ds.length:=by omega
  subst e;rw [List.drop_length] at hf;unfold forL at hf;cases hf;exact ⟨(hturn H' hkept _).2 (by omega),q Z' H' R' k'⟩
theorem gF.a8 (R:Rel K F0 ZW I env Z H) (h:gF K F0 H (IA env Z) env' Z' H' rv v):gF K F0 ZW I env' Z' H' rv v:=by
 cases rv with
 | dat d=>exact h
 | bor i=>exact h
 | frs d =>
  obtain ⟨a,ea,S,t,w,nF,hi,hr⟩:=h;have S0:=R.a8 (S.less hi);refine ⟨a,ea,⟨S.len,S.dat,fun i c e=>?_,fun i c e=>?_,S.ro,S.sep,S.dom,S0.eR⟩,t,R.oi w,nF,hi,hr⟩
  ·obtain ⟨b,s,n,w',t'⟩:=S.own i c e;exact ⟨b,s,n,R.oi w',t'⟩
  ·obtain ⟨b,s,n,w',t'⟩:=S.ino i c e;obtain ⟨b2,s2,_,i2,_⟩:=S0.ino i c e;rw [s] at s2;cases s2;exact ⟨b,s,n,i2,t'⟩
theorem iB.rebase (R1:Rel K F0 ZW I e1 Z H1) (q:iB K F0 ZW I e1 Z D out):iB K F0 H1 (IA e1 Z) e1 Z D out:=by
 cases out with
 | nx e=>exact fun Z' H' R' k'=>q Z' H' (R1.a8 R') k'
 | bk e=>exact fun Z' H' R' k'=>q Z' H' (R1.a8 R') k'
 | ct e=>exact fun Z' H' R' k'=>q Z' H' (R1.a8 R') k'
 | rt rv e=>exact fun v Z' H' R' k' r=>q v Z' H' (R1.a8 R') k' (r.a8 R1)
theorem Em (ii:SI K ga gd it) (ib:SS K ga gd b):SS K ga gd (.fr i it b):=by
 intro env out h F0 ZW I Z H D R q;simp only [dS] at h;split at h
 ·rename_i ds e1 h1
  ·refine ii _ _ _ _ h1 F0 ZW I Z H _ R fun J H1 R1 k1 _ hit=>?_;refine rW R1.rebase rfl ?_ h ?_ (iB.rebase R1 (q.from k1.s))
   ·obtain ⟨a2,a3⟩:=hit;exact ⟨a2,fun H' hk=>a3 H' fun b o e n=>hk b o e fun z=>n ⟨z,fun i y=>nomatch y⟩⟩
   ·intro d o env' Z' H' x hb R' k' hd D' hD;unfold lM at hb;split at hb
    ·rename_i hf;obtain ⟨R2,k2⟩:=R'.FA hf hd;exact ib _ _ hb _ _ _ _ H' D' R2 (hD.from k2)
    ·cases hb
 ·cases h
theorem Bg (ii:SI K ga gd it) (ib:SS K ga gd b):SS K ga gd (.frT is it b):=by
 intro env out h F0 ZW I Z H D R q;simp only [dS] at h;split at h
 ·rename_i ds e1 h1
  ·refine ii _ _ _ _ h1 F0 ZW I Z H _ R fun J H1 R1 k1 _ hit=>?_;refine rW R1.rebase rfl ?_ h ?_ (iB.rebase R1 (q.from k1.s))
   ·obtain ⟨a2,a3⟩:=hit;exact ⟨a2,fun H' hk=>a3 H' fun b o e n=>hk b o e fun z=>n ⟨z,fun i y=>nomatch y⟩⟩
   ·intro d o env' Z' H' x hb R' k' hd D' hD;unfold iI at hb;split at hb
    ·rename_i xs;split at hb
     ·rename_i e2 hset;obtain ⟨a,vs,rfl,l,z,r⟩:=hd;have hlen:∀ {is:List Nat} {ds:List PyData} {e e':En},fx e is ds=some e'->is.length=ds.length:=by
       intro is;induction is with
       | nil=>intro ds e e' h;cases ds with
        | nil=>rfl
        | cons _ _=>cases h
       | cons i is ih=>intro ds e e' h;cases ds with
        | nil=>cases h
        | cons d ds =>
         unfold fx at h;split at h
         ·rw [JL,JL,ih h]
         ·cases h
      exact ⟨a,vs,rfl,l,by rw [r.len,hlen hset],mG hset R' r fun Z2 R2 k2=>ib _ _ hb _ _ _ _ H' D' R2 (hD.from k2)⟩
     ·cases hb
    ·cases hb
 ·cases h
theorem sS (hg:∀ g d,gd[g]?=some d->∀ F H,Dm K F H d (ga g)):∀ s:XS,SS K ga gd s
 | .skip=>fun env out h F0 ZW I Z H D R q=>by cases h;exact q Z H R (KpS.refl _ _)
 | .seq a b=>Bw (sS hg a) (sS hg b)
 | .br i e=>yn (sE hg e) | .uT i e=>zQ (sE hg e) | .Ad is e=>zD (sE hg e) | .drop e=>zM (sE hg e) | .ret e=>AS (sE hg e)
 | .D4=>fun env out h F0 ZW I Z H D R q=>by cases h;exact q .non Z H R (KpS.refl _ _) rfl
 | .ifs c a b=>Ar (sT hg c) (sS hg a) (sS hg b)
 | .fr i it b=>Em (sI hg it) (sS hg b) | .frT is it b=>Bg (sI hg it) (sS hg b)
 | .sto m i k e=>CA (sE hg k) (sE hg e)
end
open PySem
section
variable {K:Fg} {F F' G I I' F0:Addr->Prop} {H H' ZW H1:Hp} {env env' e1:En} {Z Z':St} {ga:Nat->V} {gd:List PyData}
theorem cz:∀ {ms:List PM} {ds:List PyData} {n:Nat},ds.length=ms.length->ms.length<=n->(aj ms ds n).length=n
 | [],[],n,_,_=>by simp [aj]
 | [],_ :: _,n,h,_=>by cases h
 | _ :: _,[],n,h,_=>by cases h
 | m :: ms,d :: ds,n,h,hn=>by
  have ih:=cz (ms:=ms) (ds:=ds) (n:=n - 1) (by simpa using h) (by simp at hn;omega);simp at hn;cases m <;> (simp only [aj,JL,ih];omega)
theorem bI.len:∀ {ms:List PM} {ds:List PyData} {vs:List V} {is:List Addr},bI K G I H ms ds vs is->ds.length=ms.length/\vs.length=ms.length
 | [],[],[],_,_=>⟨rfl,rfl⟩
 | [],[],_ :: _,_,h=>by exact absurd h id
 | [],_ :: _,_,_,h=>by exact absurd h id
 | m :: ms,[],_,_,h=>by cases m <;> exact absurd h id
 | m :: ms,d :: ds,[],_,h=>by cases m <;> exact absurd h id
 | .dat :: ms,d :: ds,v :: vs,is,h=>by obtain ⟨a,b⟩:=bI.len h.2;exact ⟨by simp [a],by simp [b]⟩
 | .bor :: ms,d :: ds,v :: vs,is,h=>by obtain ⟨a,b⟩:=bI.len h.2;exact ⟨by simp [a],by simp [b]⟩
 | .ino :: ms,d :: ds,v :: vs,is,h=>by obtain ⟨_,_,_,_,_,_,_,h⟩:=h;obtain ⟨a,b⟩:=bI.len h;exact ⟨by simp [a],by simp [b]⟩
def At (K:Fg) (G I:Addr->Prop) (H:Hp) (is:List Addr) (s:Sl) (x:Option V):Prop:=match s with
 | .un=>True
 | .dat d=>∃ v,x=some v/\Dm K G H d v
 | .ino d=>∃ a,x=some (.ref a)/\a∈is/\G a/\Top K G H d a
 | .ro d=>∃ a,x=some (.ref a)/\iO K G I H d a
 | .own _=>False
theorem At.more (h:At K G I H is s x) (q:∀ a∈is,a∈is'):At K G I H is' s x:=by
 cases s with
 | ino d=>obtain ⟨a,e,m,r⟩:=h;exact ⟨a,e,q a m,r⟩
 | _=>exact h
theorem bO:∀ {ms:List PM} {ds:List PyData} {vs:List V} {is:List Addr} {n:Nat} {tl:St},bI K G I H ms ds vs is->∀ {i:Nat} {s:Sl},(aj ms ds n)[i]?=some s->∀ {x:Option V},(vs.map some++tl)[i]?=some x->At K G I H is s x
 | [],[],[],is,n,tl,h,i,s,e,x,_=>by
  simp only [aj,List.getElem?_replicate] at e;split at e
  ·cases e;trivial
  ·cases e
 | [],[],_ :: _,_,_,_,h,_,_,_,_,_=>by exact absurd h id
 | [],_ :: _,_,_,_,_,h,_,_,_,_,_=>by exact absurd h id
 | m :: ms,[],_,_,_,_,h,_,_,_,_,_=>by cases m <;> exact absurd h id
 | m :: ms,d :: ds,[],_,_,_,h,_,_,_,_,_=>by cases m <;> exact absurd h id
 | .dat :: ms,d :: ds,v :: vs,is,n,tl,h,0,s,e,x,ex=>by
  simp [aj] at e ex;subst e ex;exact ⟨v,rfl,h.1⟩
 | .dat :: ms,d :: ds,v :: vs,is,n,tl,h,i+1,s,e,x,ex=>by
  simp [aj] at e;exact bO h.2 e (by simpa using ex)
 | .bor :: ms,d :: ds,v :: vs,is,n,tl,h,0,s,e,x,ex=>by
  simp [aj] at e ex;subst e ex;have h1:z7 K G I H d v:=h.1;cases d <;> first | exact h1 | exact ⟨v,rfl,h1⟩ | (obtain ⟨a,rfl,r⟩:=h1;exact ⟨a,rfl,r⟩)
 | .bor :: ms,d :: ds,v :: vs,is,n,tl,h,i+1,s,e,x,ex=>by
  simp [aj] at e;exact bO h.2 e (by simpa using ex)
 | .ino :: ms,d :: ds,v :: vs,is,n,tl,h,0,s,e,x,ex=>by
  simp [aj] at e ex;subst e ex;obtain ⟨a,r,rfl,rfl,g,t,_,_⟩:=h;exact ⟨a,rfl,Ju,g,t⟩
 | .ino :: ms,d :: ds,v :: vs,is,n,tl,h,i+1,s,e,x,ex=>by
  simp [aj] at e;obtain ⟨a,r,rfl,rfl,g,t,_,h⟩:=h;exact (bO h e (by simpa using ex)).more fun b hb=>Jr _ hb
theorem jr:∀ {ms:List PM} {ds:List PyData} {vs:List V} {is:List Addr} {n:Nat} {tl:St},bI K G I H ms ds vs is->∀ {i j:Nat} {c c':PyData} {a:Addr},(aj ms ds n)[i]?=some (.ino c)->(aj ms ds n)[j]?=some (.ino c') ->
  (vs.map some++tl)[i]?=some (some (.ref a))->(vs.map some++tl)[j]?=some (some (.ref a))->i=j
 | [],[],[],is,n,tl,h,i,j,c,c',a,e,_,_,_=>by
  simp only [aj,List.getElem?_replicate] at e;split at e <;> cases e
 | [],[],_ :: _,_,_,_,h,_,_,_,_,_,_,_,_,_=>by exact absurd h id
 | [],_ :: _,_,_,_,_,h,_,_,_,_,_,_,_,_,_=>by exact absurd h id
 | m :: ms,[],_,_,_,_,h,_,_,_,_,_,_,_,_,_=>by cases m <;> exact absurd h id
 | m :: ms,d :: ds,[],_,_,_,h,_,_,_,_,_,_,_,_,_=>by cases m <;> exact absurd h id
 | m :: ms,d :: ds,v :: vs,is,n,tl,h,0,0,c,c',a,e,e',s,s'=>rfl
 | m :: ms,d :: ds,v :: vs,is,n,tl,h,i+1,j+1,c,c',a,e,e',s,s'=>by
  have hr:∃ r,bI K G I H ms ds vs r:=by
   cases m with
   | dat=>exact ⟨is,h.2⟩
   | bor=>exact ⟨is,h.2⟩
   | ino=>obtain ⟨_,r,_,_,_,_,_,h⟩:=h;exact ⟨r,h⟩
  obtain ⟨r,hr⟩:=hr;have:i=j:=jr (n:=n - 1) (tl:=tl) hr (by cases m <;> simpa [aj] using e) (by cases m <;> simpa [aj] using e') (by simpa using s) (by simpa using s');rw [this]
 | m :: ms,d :: ds,v :: vs,is,n,tl,h,0,j+1,c,c',a,e,e',s,s'=>by
  cases m with
  | dat=>simp [aj] at e
  | bor=>cases d <;> simp [aj,Aa] at e
  | ino =>
   obtain ⟨b,r,rfl,rfl,g,t,nr,h⟩:=h;simp [aj] at e' s;subst s;obtain ⟨a',ea,m',_⟩:=bO (tl:=tl) h e' (by simpa using s');cases ea;exact absurd m' nr
 | m :: ms,d :: ds,v :: vs,is,n,tl,h,i+1,0,c,c',a,e,e',s,s'=>by
  cases m with
  | dat=>simp [aj] at e'
  | bor=>cases d <;> simp [aj,Aa] at e'
  | ino =>
   obtain ⟨b,r,rfl,rfl,g,t,nr,h⟩:=h;simp [aj] at e s';subst s';obtain ⟨a',ea,m',_⟩:=bO (tl:=tl) h e (by simpa using s);cases ea;exact absurd m' nr
theorem fN:∀ {ms:List PM} {ds:List PyData} {vs:List V} {is:List Addr} {n:Nat} {tl:St} {env':En} {Z':St} {outs:List PyData},bI K G I H ms ds vs is->ms.length<=env'.length ->
  (∀ (i:Nat) (c:PyData),(aj ms ds n)[i]?=some (.ino c)->∃ c',env'[i]?=some (.ino c')/\Z'[i]?=(vs.map some++tl)[i]?)->(∀ (i:Nat) (c:PyData) (a:Addr),env'[i]?=some (.ino c)->Z'[i]?=some (some (.ref a))->Top K G' H' c a) ->
  i3 ms env'=some outs->g9 K G' H' outs is
 | [],[],[],is,n,tl,env',Z',outs,h,_,_,_,e=>by
  rw [show is=[] from h];cases env' <;> (simp only [i3] at e;cases e;trivial)
 | [],[],_ :: _,_,_,_,_,_,_,h,_,_,_,_=>by exact absurd h id
 | [],_ :: _,_,_,_,_,_,_,_,h,_,_,_,_=>by exact absurd h id
 | m :: ms,[],_,_,_,_,_,_,_,h,_,_,_,_=>by cases m <;> exact absurd h id
 | m :: ms,d :: ds,[],_,_,_,_,_,_,h,_,_,_,_=>by cases m <;> exact absurd h id
 | m :: ms,d :: ds,v :: vs,is,n,tl,[],Z',outs,h,hl,h1,h2,e=>by simp at hl
 | m :: ms,d :: ds,v :: vs,is,n,tl,s :: es,Z',outs,h,hl,h1,h2,e=>by
  have hl':ms.length<=es.length:=by simpa using hl
  have t1:∀ (i:Nat) (c:PyData),(aj ms ds (n - 1))[i]?=some (.ino c)->∃ c',es[i]?=some (.ino c')/\Z'.tail[i]?=(vs.map some++tl)[i]?:=fun i c z=>by
   obtain ⟨c',e',q⟩:=h1 (i+1) c (by cases m <;> simpa [aj] using z);exact ⟨c',by simpa using e',by simpa using q⟩
  have t2:∀ (i:Nat) (c:PyData) (a:Addr),es[i]?=some (.ino c)->Z'.tail[i]?=some (some (.ref a))->Top K G' H' c a:=fun i c a z q=>h2 (i+1) c a (by simpa using z) (by simpa using q);cases m with
  | dat=>exact fN h.2 hl' t1 t2 (by simpa [i3] using e)
  | bor=>exact fN h.2 hl' t1 t2 (by simpa [i3] using e)
  | ino =>
   obtain ⟨b,r,rfl,rfl,g,t,nr,h⟩:=h;obtain ⟨c',e',q⟩:=h1 0 d (by simp [aj]);simp at e' q;subst e';simp only [i3] at e;split at e
   ·rename_i os ho;cases e;exact ⟨h2 0 c' b (by simp) (by simpa using q),fN h hl' t1 t2 ho⟩
   ·cases e
theorem yg (hg:∀ g d,gd[g]?=some d->∀ F H,Dm K F H d (ga g)) (h:tT (bL gd ms N.length b) K vs H Q E) (hn:ms.length<=N.length) :
  rS K ga b { nx:=fun _ H'=>Q .non H',rt:=Q } (start N vs) H:=by
 obtain ⟨G,ds,is,pr,outs,hF,ha,hd,post⟩:=h;have ha:bI K G (·∈is) H ms ds vs is:=ha;obtain ⟨hl1,hl2⟩:=ha.len;have hstart:start N vs=vs.map some++List.replicate (N.length - vs.length) none:=rfl;have no:noOwn (aj ms ds N.length):=fun i d e=>by
  have hi:i < (aj ms ds N.length).length:=(Jo.mp e).1;rw [cz hl1 hn] at hi;have hx:(vs.map some++List.replicate (N.length - vs.length) none)[i]?=some ((vs.map some++List.replicate (N.length - vs.length) none)[i]'(by rw [Js,Jm,Me];omega)):=Jl _;exact (bO ha e hx:False)
 have at':∀ {i:Nat} {s:Sl},(aj ms ds N.length)[i]?=some s->∃ x,(start N vs)[i]?=some x/\At K G (·∈is) H is s x:=fun {i s} e=>by
  have hi:i < (aj ms ds N.length).length:=(Jo.mp e).1;rw [cz hl1 hn] at hi;have hx:(start N vs)[i]?=some ((start N vs)[i]'(by rw [hstart,Js,Jm,Me];omega)):=Jl _;exact ⟨_,hx,bO ha e hx⟩
 have eF:FF G (aj ms ds N.length) (start N vs)=G:=cF no;have muI:∀ i,mu (aj ms ds N.length) i->∃ c,(aj ms ds N.length)[i]?=some (.ino c):=fun i ⟨c,m⟩=>m.elim (fun z=>absurd z (no i c)) fun z=>⟨c,z⟩;have R:Rel K G H (·∈is) (aj ms ds N.length) (start N vs) H:=by
  refine ⟨by rw [cz hl1 hn,hstart,Js,Jm,Me];omega,fun i d e=>?_,fun i d e=>absurd e (no i d),fun i d e=>?_,fun i d e=>?_,fun i j a h1 h2 h3 h4=>?_,hd,fun _ _ h _=>h⟩
  ·rw [eF];obtain ⟨x,hx,v,rfl,r⟩:=at' e;exact ⟨v,hx,r⟩
  ·rw [eF];obtain ⟨x,hx,a,rfl,m,g,t⟩:=at' e;exact ⟨a,hx,g,m,t⟩
  ·rw [eF];obtain ⟨x,hx,a,rfl,r⟩:=at' e;refine ⟨a,hx,r.pr Pr.refl (fun _ z=>z) (fun b hb=>?_) fun _ _ z _=>z⟩;obtain ⟨j,m,s⟩:=hb;obtain ⟨c,m⟩:=muI j m;obtain ⟨x,hx,a,rfl,m,g,t⟩:=at' m;rw [s] at hx;cases hx;exact m
  ·obtain ⟨c,m1⟩:=muI i h1;obtain ⟨c',m2⟩:=muI j h2;exact jr ha m1 m2 h3 h4
 simp only [bL] at hF;rw [Jx hl1] at hF
 ·have inoK:∀ {env':En} {Z':St},KpS (aj ms ds N.length) (start N vs) env' Z'->∀ (i:Nat) (c:PyData),(aj ms ds N.length)[i]?=some (.ino c)->∃ c',env'[i]?=some (.ino c')/\Z'[i]?=(vs.map some++List.replicate (N.length - vs.length) none)[i]?:=fun {env' Z'} k i c e=>by
   obtain ⟨s',e',v,w⟩:=k.2 i _ e;obtain ⟨c',rfl⟩:=v;exact ⟨c',e',w trivial⟩
  have hlE:∀ {env':En} {Z':St},KpS (aj ms ds N.length) (start N vs) env' Z'->ms.length<=env'.length:=fun {env' Z'} k=>by rw [k.1,cz hl1 hn];exact hn
  split at hF
  ·rename_i rv env' hS;split at hF
   ·rename_i pr' outs' hpr houts;cases hF;refine sS hg b _ _ hS G H (·∈is) _ H _ R fun v Z' H' R' k' r'=>?_;have mono:∀ b,G b->FF G env' Z' b:=fun b z=>.inl z;cases rv with
    | bor i=>cases hpr
    | dat d =>
     cases hpr
     exact post v H' (fun b o e n=>R'.eR b o e n) ⟨Dm.mono mono r',fN ha (hlE k') (inoK k') (fun i c a e s=>by
      obtain ⟨a',s',_,_,t⟩:=R'.ino i c e;rw [s] at s';cases s'
      exact t.pr Pr.refl mono fun _ z=>z) houts⟩
    | frs d =>
     cases hpr;obtain ⟨a,rfl,Ra,t,w,nF,hino,_⟩:=r';have mono':∀ b,(G b\/b=a)->FF (fun b=>G b\/b=a) env' Z' b:=fun b z=>.inl z
     refine post _ H' (fun b o e n=>R'.eR b o e n) ⟨a,rfl,?_,t.pr Pr.refl (fun b z=>z.imp (mono b) id) (fun _ z=>z),fN ha (hlE k') (inoK k') (fun i c a' e s=>by
      obtain ⟨a2,s',_,_,t'⟩:=Ra.ino i c e;rw [s] at s';cases s'
      exact t'.pr Pr.refl mono' fun _ z=>z) houts⟩
     rcases w with w | w
     ·exact w
     ·-- it would be one that was handed in to be changed
      exfalso;have key:∀ {ms:List PM} {ds:List PyData} {vs:List V} {is:List Addr} {I:Addr->Prop} {n:Nat} {tl:St},bI K G I H ms ds vs is->a∈is->∃ (i:Nat) (c:PyData),(aj ms ds n)[i]?=some (.ino c)/\(vs.map some++tl)[i]?=some (some (.ref a)):=by
       intro ms;induction ms with
       | nil =>
        intro ds vs is I n tl h m;cases ds with
        | cons _ _=>exact absurd h id
        | nil=>cases vs with
         | cons _ _=>exact absurd h id
         | nil=>rw [show is=[] from h] at m;cases m
       | cons p ms ih =>
        intro ds vs is I n tl h m;cases ds with
        | nil=>cases p <;> exact absurd h id
        | cons d ds =>
         cases vs with
         | nil=>cases p <;> exact absurd h id
         | cons v vs =>
          cases p with
          | dat=>obtain ⟨i,c,e,s⟩:=ih (n:=n - 1) (tl:=tl) h.2 m;exact ⟨i+1,c,by simpa [aj] using e,by simpa using s⟩
          | bor=>obtain ⟨i,c,e,s⟩:=ih (n:=n - 1) (tl:=tl) h.2 m;exact ⟨i+1,c,by simpa [aj] using e,by simpa using s⟩
          | ino =>
           obtain ⟨b,r,rfl,rfl,g,t,nr,h⟩:=h;rcases JJ.mp m with rfl | m
           ·exact ⟨0,d,by simp [aj],by simp⟩
           ·obtain ⟨i,c,e,s⟩:=ih (n:=n - 1) (tl:=tl) h m;exact ⟨i+1,c,by simpa [aj] using e,by simpa using s⟩
      obtain ⟨i,c,e,s⟩:=key (n:=N.length) (tl:=List.replicate (N.length - vs.length) none) ha w;obtain ⟨c',e',s'⟩:=inoK k' i c e;exact hino i c' e' (s'.trans s)
   ·cases hF
  ·rename_i env' hS;split at hF
   ·rename_i outs' houts;cases hF;refine sS hg b _ _ hS G H (·∈is) _ H _ R fun Z' H' R' k'=>?_;have mono:∀ b,G b->FF G env' Z' b:=fun b z=>.inl z
    exact post .non H' (fun b o e n=>R'.eR b o e n) ⟨rfl,fN ha (hlE k') (inoK k') (fun i c a e s=>by
      obtain ⟨a',s',_,_,t⟩:=R'.ino i c e;rw [s] at s';cases s'
      exact t.pr Pr.refl mono fun _ z=>z) houts⟩
   ·cases hF
  ·cases hF
theorem vV (h:tT f K vs H Q E):vs.length=f.ms.length:=by
 obtain ⟨G,ds,is,pr,outs,_,ha,_⟩:=h;exact ha.len.2
end
open PySem PySem.Spec PyProof.Rows
noncomputable def Prm.two (r:Fg->R2) (f:PyData->PyData->Option PR) (ok:∀ (K:Fg) (F:Addr->Prop) (H:Hp) (x y:PyData) (u v:V) (pr:PR) (Q:VK),f x y=some pr->Vw K F H x u->Vw K F H y v->(∀ b,F b->H b≠none)->(∀ w H',aE H H'->xk K F H H' pr w->Q w H')->r K u v H Q):Prm where
 r:=fun K vs H Q=>match vs with | [u,v]=>r K u v H Q | _=>False
 f:=fun ds=>match ds with | [x,y]=>f x y | _=>none
 ok:=fun K F H ds vs pr Q hf hv hd q=>by
  match ds,hf with
  | [x,y],hf =>
   obtain ⟨u,r1,rfl,h1,v,r2,rfl,h2,rfl⟩:=hv;exact ok K F H x y u v pr Q hf h1 h2 hd q
noncomputable def Prm.one (r:Fg->V->Hp->VK->Prop) (f:PyData->Option PR) (ok:∀ (K:Fg) (F:Addr->Prop) (H:Hp) (x:PyData) (u:V) (pr:PR) (Q:VK),f x=some pr->Vw K F H x u->(∀ b,F b->H b≠none)->(∀ w H',aE H H'->xk K F H H' pr w->Q w H')->r K u H Q):Prm where
 r:=fun K vs H Q=>match vs with | [u]=>r K u H Q | _=>False
 f:=fun ds=>match ds with | [x]=>f x | _=>none
 ok:=fun K F H ds vs pr Q hf hv hd q=>by
  match ds,hf with
  | [x],hf =>
   obtain ⟨u,r1,rfl,h1,rfl⟩:=hv;exact ok K F H x u pr Q hf h1 hd q
section
variable {K:Fg} {F F':Addr->Prop} {H:Hp}
theorem vInt {i:Int} {v:V} (h:Vw K F H (.int i) v):v=.int i:=h
theorem vBl (h:Vw K F H (.bool b) v):v=.bl b:=h
theorem DX (h:Vw K F H .none v):v=.non:=h
theorem vStr {x:Str} {v:V} (h:Vw K F H (.str x) v):v=.str x/\x.length<=sizeLine/\PyData.strOk x=true:=h
theorem jh {ds:List PyData} {v:V} (h:Vw K F H (.list ds) v):∃ a xs,v=.ref a/\SqL K H a xs/\xs.length<=sizeLine/\DmL K F H ds xs:=let ⟨a,e,xs,r⟩:=h;⟨a,xs,e,r⟩
theorem qC {ds:List PyData} {v:V} (h:Vw K F H (.tuple ds) v):∃ a xs,v=.ref a/\SqT K H a xs/\xs.length<=sizeLine/\DmL K F H ds xs:=h
theorem xg (hp:H p=none) (hz:xs.length<=sizeLine) (h:DmL K F H ds xs):xk K F H (upd H p (.lst xs)) (.frs (.list ds)) (.ref p) :=
 ⟨p,rfl,hp,xs,ak,hz,(h.fresh hp).pr (Pr.of_same (aE.nw _ hp)) fun _ z=>z⟩
theorem E4 (hp:H p=none) (hz:xs.length<=sizeLine) (h:DmL K F H ds xs):xk K F H (upd H p (.tup xs)) (.dat (.tuple ds)) (.ref p) :=
 ⟨p,xs,rfl,.inl (.inl ak),hz,h.pr (Pr.of_same (aE.nw _ hp)) fun _ z=>z⟩
end
noncomputable def Hf:PyData->PyData->Option PR
 | .int i,.int j=>some (.dat (.int (i+j)))
 | .str x,.str y=>if x.length+y.length<=sizeLine then some (.dat (.str (x++y))) else none
 | .list xs,.list ys=>if xs.length+ys.length<=sizeLine then some (.frs (.list (xs++ys))) else none
 | .tuple (x :: xs),.tuple ys=>if (x :: xs).length+ys.length<=sizeLine then some (.dat (.tuple ((x :: xs)++ys))) else none
 | _,_=>none
def Gn (K:Fg):R2:=rOr (rI0 fun i j=>.int (i+j)) (rOr Cn (rOr (Bp K) (Bd K)))
theorem iF (x y:Str):(x++y).length=x.length+y.length:=by
 show (x.cps++y.cps).size=_;rw [Array.size_append];rfl
noncomputable def cV:Prm:=Prm.two Gn Hf fun K F H x y u v pr Q hf hx hy hd q=>by
 unfold Hf at hf;split at hf
 ·cases hf;rw [vInt hx,vInt hy];exact .inl ⟨_,_,rfl,rfl,q _ H (aE.rf H) rfl⟩
 ·split at hf
  ·rename_i x y hl;cases hf;obtain ⟨rfl,l1,o1⟩:=vStr hx;obtain ⟨rfl,l2,o2⟩:=vStr hy;exact .inr (.inl ⟨_,_,rfl,rfl,hl,q _ H (aE.rf H) ⟨rfl,by rw [iF];exact hl,ur o1 o2⟩⟩)
  ·cases hf
 ·split at hf
  ·rename_i xs ys hl;cases hf;obtain ⟨a,us,rfl,s1,z1,d1⟩:=jh hx;obtain ⟨b,ws,rfl,s2,z2,d2⟩:=jh hy;have hl':us.length+ws.length<=sizeLine:=by rw [d1.len,d2.len];exact hl
   exact .inr (.inr (.inl ⟨a,b,us,ws,rfl,rfl,s1,s2,hl',fun p hp=>q _ _ (aE.nw _ hp) (xg hp (by rw [Js];exact hl') (d1.app d2))⟩))
  ·cases hf
 ·split at hf
  ·rename_i x xs ys hl;cases hf;obtain ⟨a,us,rfl,s1,z1,d1⟩:=qC hx;obtain ⟨b,ws,rfl,s2,z2,d2⟩:=qC hy;have hl':us.length+ws.length<=sizeLine:=by rw [d1.len,d2.len];exact hl
   have hne:us≠[]:=fun z=>by rw [z] at d1;obtain ⟨v,r,e,_⟩:=d1;cases e
   refine .inr (.inr (.inr ⟨a,b,us,ws,rfl,rfl,s1,s2,hne,hl',fun z=>?_,fun z p hp=>q _ _ (aE.nw _ hp) (E4 hp (by rw [Js];exact hl') (d1.app d2))⟩));subst z;have hys:ys=[]:=by
    cases ys with
    | nil=>rfl
    | cons y ys=>obtain ⟨v,r,e,_⟩:=d2;cases e
   subst hys;exact q _ H (aE.rf H) ⟨a,us,rfl,s1,z1,by rw [K2];exact d1⟩
  ·cases hf
 ·cases hf
theorem aq:OpR X (binaryOp .Add) (fun x y=>cV.r X.K [x,y]):=orR B2 (orR yG (orR yD zK))
noncomputable def xD (c:Int->Int->Bool) (g:Int->Int->PyData):PyData->PyData->Option PR
 | .int i,.int j=>if c i j=true then some (.dat (g i j)) else none
 | _,_=>none
noncomputable def Prm.ints (C:Int->Int->Prop) (c:Int->Int->Bool) (hc:∀ i j,c i j=true->C i j) (g:Int->Int->Int):Prm:=Prm.two (fun _=>rI C fun i j=>.int (g i j)) (xD c fun i j=>.int (g i j)) fun K F H x y u v pr Q hf hx hy hd q=>by
 unfold xD at hf;split at hf
 ·split at hf
  ·rename_i h;cases hf;rw [vInt hx,vInt hy];exact ⟨_,_,rfl,rfl,hc _ _ h,q _ H (aE.rf H) rfl⟩
  ·cases hf
 ·cases hf
noncomputable def Prm.CB (g:Int->Int->Bool):Prm:=Prm.two (fun _=>rI0 fun i j=>.bl (g i j)) (xD (fun _ _=>true) fun i j=>.bool (g i j)) fun K F H x y u v pr Q hf hx hy hd q=>by
 unfold xD at hf;split at hf
 ·rw [Jx rfl] at hf;cases hf;rw [vInt hx,vInt hy];exact ⟨_,_,rfl,rfl,q _ H (aE.rf H) rfl⟩
 ·cases hf
noncomputable def qP:Prm:=Prm.two (fun _=>rI0 fun i j=>.int (i - j)) (xD (fun _ _=>true) fun i j=>.int (i - j)) fun K F H x y u v pr Q hf hx hy hd q=>by
 unfold xD at hf;split at hf
 ·rw [Jx rfl] at hf;cases hf;rw [vInt hx,vInt hy];exact ⟨_,_,rfl,rfl,q _ H (aE.rf H) rfl⟩
 ·cases hf
theorem cb:OpR X (binaryOp .Sub) (fun x y=>qP.r X.K [x,y]):=De
noncomputable def mulC (i j:Int):Bool:=(decide (-(2 ^ 64) < i)&&decide (i < 2 ^ 64))||(decide (-(2 ^ 64) < j)&&decide (j < 2 ^ 64))
noncomputable def qD:Prm:=Prm.ints AL mulC (fun i j h=>by simpa [mulC,AL,Mc,JU,KQ] using h) (fun i j=>i*j)
theorem cf:OpR X (binaryOp .Mult) (fun x y=>qD.r X.K [x,y]):=Be
noncomputable def qE:Prm:=Prm.ints (fun _ j=>0 < j) (fun _ j=>decide (0 < j)) (fun i j h=>by simpa using h) (fun i j=>i % j)
theorem bP:OpR X (binaryOp .Mod) (fun x y=>qE.r X.K [x,y]):=BU
noncomputable def v8:Prm:=Prm.ints (fun _ j=>0 < j/\j.natAbs.log2 < 9000) (fun _ j=>decide (0 < j)&&decide (j < 2 ^ 200)) (fun i j h=>by
 simp only [JU,KQ] at h;refine ⟨h.1,?_⟩;have hz:j.natAbs≠0:=by omega
 have:j.natAbs < 2 ^ 200:=by omega
 exact JX ((Nat.log2_lt hz).mpr this) (by decide)) (fun i j=>i / j)
theorem ke:OpR X (binaryOp .FloorDiv) (fun x y=>v8.r X.K [x,y]):=vZ
noncomputable def xw:Prm:=Prm.ints HD (fun i j=>decide (0<=j)&&decide (j<=1000000)&&decide (i.natAbs < 2 ^ 64)) (fun i j h=>by simp only [JU,KQ] at h;exact ⟨h.1.1,h.1.2,h.2⟩) (fun i j=>i ^ j.toNat)
theorem eO:OpR X (binaryOp .Pow) (fun x y=>xw.r X.K [x,y]):=CZ
noncomputable def Jg:Prm:=Prm.one (fun _=>rU fun i=>.int (-i)) (fun x=>match x with | .int i=>some (.dat (.int (-i))) | _=>none) fun K F H x u pr Q hf hx hd q=>by
 split at hf
 ·cases hf;rw [vInt hx];exact ⟨_,rfl,q _ H (aE.rf H) rfl⟩
 ·cases hf
noncomputable def D3 (g:Int->Int->Bool) (h:Str->Str->Bool):PyData->PyData->Option PR
 | .int i,.int j=>some (.dat (.bool (g i j)))
 | .str x,.str y=>some (.dat (.bool (h x y)))
 | _,_=>none
noncomputable def ltS (x y:Str):Bool:=decide (x.cps.toList < y.cps.toList)
noncomputable def leS (x y:Str):Bool:=!decide (y.cps.toList < x.cps.toList)
noncomputable def ltP:Prm:=Prm.two (fun _=>rOr (rI0 fun i j=>.bl (decide (i < j))) Hn) (D3 (fun i j=>decide (i < j)) ltS) fun K F H x y u v pr Q hf hx hy hd q=>by
 unfold D3 at hf;split at hf
 ·cases hf;rw [vInt hx,vInt hy];exact .inl ⟨_,_,rfl,rfl,q _ H (aE.rf H) rfl⟩
 ·cases hf;rw [(vStr hx).1,(vStr hy).1];exact .inr ⟨_,_,rfl,rfl,q _ H (aE.rf H) rfl⟩
 ·cases hf
theorem iC:OpR X (compareOp .Lt) (fun x y=>ltP.r X.K [x,y]):=orR FQ Dd
noncomputable def leP:Prm:=Prm.two (fun _=>rOr (rI0 fun i j=>.bl (decide (i<=j))) Hk) (D3 (fun i j=>decide (i<=j)) leS) fun K F H x y u v pr Q hf hx hy hd q=>by
 unfold D3 at hf;split at hf
 ·cases hf;rw [vInt hx,vInt hy];exact .inl ⟨_,_,rfl,rfl,q _ H (aE.rf H) rfl⟩
 ·cases hf;rw [(vStr hx).1,(vStr hy).1];exact .inr ⟨_,_,rfl,rfl,q _ H (aE.rf H) rfl⟩
 ·cases hf
theorem d4:OpR X (compareOp .LtE) (fun x y=>leP.r X.K [x,y]):=orR FJ CU
noncomputable def gtP:Prm:=Prm.CB fun i j=>decide (i > j)
theorem ju:OpR X (compareOp .Gt) (fun x y=>gtP.r X.K [x,y]):=Gg
noncomputable def geP:Prm:=Prm.CB fun i j=>decide (i>=j)
theorem BF:OpR X (compareOp .GtE) (fun x y=>geP.r X.K [x,y]):=Gu
mutual
noncomputable def noD:PyData->Bool
 | .dict _=>false
 | .list xs=>fG xs
 | .tuple xs=>fG xs
 | _=>true
noncomputable def fG:List PyData->Bool
 | []=>true
 | x :: xs=>noD x&&fG xs
end
section
variable {K:Fg} {F:Addr->Prop} {H:Hp}
mutual
theorem Dm.lay:∀ {d:PyData} {v:V},Dm K F H d v->noD d=true->d.canLay0=true
 | .none,v,h,_=>by simp [PyData.canLay0]
 | .bool b,v,h,_=>by simp [PyData.canLay0]
 | .int i,v,h,_=>by simp [PyData.canLay0]
 | .str x,v,h,_=>by simpa [PyData.canLay0] using h.2.2
 | .list ds,v,h,n=>by obtain ⟨a,xs,e,l,z,r⟩:=h;simpa [PyData.canLay0] using DmL.lay r (by simpa [noD] using n)
 | .tuple ds,v,h,n=>by obtain ⟨a,xs,e,l,z,r⟩:=h;simpa [PyData.canLay0] using DmL.lay r (by simpa [noD] using n)
 | .dict kvs,v,h,n=>by simp [noD] at n
theorem DmL.lay:∀ {ds:List PyData} {vs:List V},DmL K F H ds vs->fG ds=true->PyData.canLayAll0 ds=true
 | [],vs,h,_=>by simp [PyData.canLayAll0]
 | d :: ds,vs,h,n=>by
  obtain ⟨v,r,e,h1,h2⟩:=h;have n':noD d=true/\fG ds=true:=by simpa [fG] using n
  simp [PyData.canLayAll0,Dm.lay h1 n'.1,DmL.lay h2 n'.2]
end
theorem Vw.lay (h:Vw K F H d v) (n:noD d=true):d.canLay0=true:=by
 cases d with
 | list ds=>obtain ⟨a,xs,e,l,z,r⟩:=jh h;simpa [PyData.canLay0] using DmL.lay r (by simpa [noD] using n)
 | dict ds=>simp [noD] at n
 | _=>exact Dm.lay (K:=K) (F:=F) (H:=H) h n
variable {X:Cx} {pins:List (Addr×Obj)} {Z:St} {s:Shared}
mutual
theorem Dm.reads (I:Inv X pins Z H s):∀ {d:PyData} {v:V} {u:Value},Dm X.K F H d v->noD d=true->RelV v u->∃ as,Reads s.heap u d as
 | .none,v,u,hd,_,r=>by
  have e:v=.non:=hd;subst e;cases (show u=Value.none from r);exact ⟨_,.none⟩
 | .bool b,v,u,hd,_,r=>by
  have e:v=.bl b:=hd;subst e;cases (show u=Value.bool b from r);exact ⟨_,.bool b⟩
 | .int i,v,u,hd,_,r=>by
  have e:v=.int i:=hd;subst e;obtain ⟨t,e⟩:=(show ∃ t,u=Value.int i t from r);subst e;exact ⟨_,.int i t⟩
 | .str y,v,u,hd,_,r=>by
  have e:v=.str y:=hd.1;subst e;obtain ⟨t,e⟩:=(show ∃ t,u=Value.str y t from r);subst e;exact ⟨_,.str y t⟩
 | .list ds,v,u,hd,n,r=>by
  obtain ⟨a,xs,e,l,z,rs⟩:=hd;subst e;cases (show u=Value.ref a from r);obtain ⟨its,rv,⟨o,k,h1,h2,h3,h4⟩,_⟩:=I.list (l.elim (fun q=>.inl q.2) .inr);obtain ⟨as,ra⟩:=DmL.reads I rs (by simpa [noD] using n) rv;exact ⟨_,.list h1 h2 h4 (by simpa using ra)⟩
 | .tuple ds,v,u,hd,n,r=>by
  obtain ⟨a,xs,e,l,z,rs⟩:=hd;subst e;cases (show u=Value.ref a from r);obtain ⟨its,rv,⟨o,h1,h2,k,h4⟩,_⟩:=I.tuple l;obtain ⟨as,ra⟩:=DmL.reads I rs (by simpa [noD] using n) rv;exact ⟨_,.tuple h1 h2 h4 (by simpa using ra)⟩
 | .dict kvs,v,u,hd,n,r=>by simp [noD] at n
theorem DmL.reads (I:Inv X pins Z H s):∀ {ds:List PyData} {vs:List V} {us:List Value},DmL X.K F H ds vs->fG ds=true->Vals vs us->∃ as,ReadsAll s.heap us ds as
 | [],vs,us,hd,_,r=>by
  have e:vs=[]:=hd;subst e;cases r;exact ⟨_,.nil⟩
 | d :: ds,vs,us,hd,n,r=>by
  obtain ⟨v,rr,e,h1,h2⟩:=hd;have n':noD d=true/\fG ds=true:=by simpa [fG] using n
  subst e;cases r with
  | cons r1 r2 =>
   obtain ⟨as,q1⟩:=Dm.reads I h1 n'.1 r1;obtain ⟨bs,q2⟩:=DmL.reads I h2 n'.2 r2;exact ⟨_,.cons q1 q2⟩
end
theorem Vw.reads (I:Inv X pins Z H s) (h:Vw X.K F H d v) (n:noD d=true) (r:RelV v u):∃ as,Reads s.heap u d as:=by
 cases d with
 | list ds =>
  obtain ⟨a,xs,rfl,l,z,rs⟩:=jh h;cases (show u=Value.ref a from r);obtain ⟨its,rv,⟨o,k,h1,h2,h3,h4⟩,_⟩:=I.list l;obtain ⟨as,ra⟩:=DmL.reads I rs (by simpa [noD] using n) rv;exact ⟨_,.list h1 h2 h4 (by simpa using ra)⟩
 | dict ds=>simp [noD] at n
 | _=>exact Dm.reads (F:=F) I h n r
end
noncomputable def f6 (d:PyData):Bool:=noD d&&decide (d.depth<=64)
def Iz (neg:Bool) (K:Fg):R2:=fun x y H Q=>∃ F d e,Vw K F H d x/\Vw K F H e y/\f6 d=true/\f6 e=true/\Q (.bl (if neg then !PyData.eqv d e else PyData.eqv d e)) H
noncomputable def eqD (neg:Bool) (d e:PyData):Option PR:=if f6 d=true/\f6 e=true then some (.dat (.bool (if neg then !PyData.eqv d e else PyData.eqv d e))) else none
noncomputable def DQ (neg:Bool):Prm:=Prm.two (Iz neg) (eqD neg) fun K F H x y u v pr Q hf hx hy hd q=>by
 unfold eqD at hf;split at hf
 ·rename_i h;cases hf;exact ⟨F,x,y,hx,hy,h.1,h.2,q _ H (aE.rf H) rfl⟩
 ·cases hf
noncomputable abbrev eqP:Prm:=DQ false
noncomputable abbrev neP:Prm:=DQ true
theorem e7 {K:Fg} {F:Addr->Prop} {H:Hp} {d:PyData} {v:V} (h:Vw K F H d v) (o:f6 d=true):SeqAt.shaped d=true:=by
 have o':noD d=true/\d.depth<=64:=by simpa [f6] using o
 simp [SeqAt.shaped,h.lay o'.1,o'.2]
theorem aC {X:Cx} (hu:X.A.units+64 < cLine):OpR X (compareOp .Eq) (fun x y=>eqP.r X.K [x,y]):=by
 intro pins s Z H x y v u Q I rx ry h;obtain ⟨F,d,e,h1,h2,o1,o2,hq⟩:=h;obtain ⟨as,r1⟩:=h1.reads I (by have:=o1;simp [f6] at this;exact this.1) rx;obtain ⟨bs,r2⟩:=h2.reads I (by have:=o2;simp [f6] at this;exact this.1) ry;exact SeqAt.compareEq_shaped r1 r2 (e7 h1 o1) (e7 h2 o2) hu ⟨.bl _,H,I,rfl,hq⟩
theorem lJ {X:Cx} (hu:X.A.units+64 < cLine):OpR X (compareOp .NotEq) (fun x y=>neP.r X.K [x,y]):=by
 intro pins s Z H x y v u Q I rx ry h;obtain ⟨F,d,e,h1,h2,o1,o2,hq⟩:=h;obtain ⟨as,r1⟩:=h1.reads I (by have:=o1;simp [f6] at this;exact this.1) rx;obtain ⟨bs,r2⟩:=h2.reads I (by have:=o2;simp [f6] at this;exact this.1) ry;exact SeqAt.compareNe_shaped r1 r2 (e7 h1 o1) (e7 h2 o2) hu ⟨.bl _,H,I,rfl,hq⟩
noncomputable def mr:PyData->Bool | .none=>true | _=>false
theorem oF {K:Fg} {F:Addr->Prop} {H:Hp} {d:PyData} {v:V} (h:Vw K F H d v):decide (v=.non)=mr d:=by
 cases d with
 | none=>rw [DX h];rfl
 | bool b=>rw [vBl h];rfl
 | int i=>rw [vInt h];rfl
 | str x=>rw [(vStr h).1];rfl
 | list ds=>obtain ⟨a,xs,rfl,_⟩:=jh h;rfl
 | tuple ds=>obtain ⟨a,xs,rfl,_⟩:=qC h;rfl
 | dict ds=>obtain ⟨a,rfl,_⟩:=h;rfl
noncomputable def isP:Prm:=Prm.two (fun _=>Hw) (fun x y=>match y with | .none=>some (.dat (.bool (mr x))) | _=>none) fun K F H x y u v pr Q hf hx hy hd q=>by
 split at hf
 ·cases hf;exact ⟨DX hy,q _ H (aE.rf H) (by rw [oF hx];rfl)⟩
 ·cases hf
theorem Bf:OpR X (compareOp .Is) (fun x y=>isP.r X.K [x,y]):=zy
noncomputable def sJ:Prm:=Prm.two (fun _=>BH) (fun x y=>match y with | .none=>some (.dat (.bool (!mr x))) | _=>none) fun K F H x y u v pr Q hf hx hy hd q=>by
 split at hf
 ·cases hf;exact ⟨DX hy,q _ H (aE.rf H) (by rw [oF hx];rfl)⟩
 ·cases hf
theorem kJ:OpR X (compareOp .IsNot) (fun x y=>sJ.r X.K [x,y]):=wg
noncomputable def ixD:PyData->PyData->Option PR
 | .list xs,.int i=>(atI xs i).map .dat
 | .tuple xs,.int i=>(atI xs i).map .dat
 | .str x,.int i=>(atI x.cps.toList i).map fun c=>.dat (.str ⟨#[c]⟩)
 | _,_=>none
theorem wJ {K:Fg} {F:Addr->Prop} {H:Hp} {ds:List PyData} {xs:List V} {i:Int} {d:PyData} (h:DmL K F H ds xs) (e:atI ds i=some d):∃ v,atI xs i=some v/\Dm K F H d v:=by
 unfold atI at e ⊢;rw [h.len];cases q:ixN ds.length i with
 | none=>rw [q] at e;cases e
 | some j =>
  rw [q] at e;have e:ds[j]?=some d:=e;exact h.get e
theorem y3 {α:Type} {xs:List α} {i:Int} {x:α} (e:atI xs i=some x):x∈xs:=by
 unfold atI at e;cases q:ixN xs.length i with
 | none=>rw [q] at e;cases e
 | some j=>rw [q] at e;exact Jy (show xs[j]?=some x from e)
noncomputable def ixP:Prm:=Prm.two rIx ixD fun K F H x y u v pr Q hf hx hy hd q=>by
 unfold ixD at hf;split at hf
 ·obtain ⟨d,e,rfl⟩:=JM.mp hf;obtain ⟨a,us,rfl,s1,z1,d1⟩:=jh hx;rw [vInt hy];obtain ⟨v,ev,dv⟩:=wJ d1 e;exact .inl ⟨a,us,_,v,rfl,rfl,s1,ev,q _ H (aE.rf H) dv⟩
 ·obtain ⟨d,e,rfl⟩:=JM.mp hf;obtain ⟨a,us,rfl,s1,z1,d1⟩:=qC hx;rw [vInt hy];obtain ⟨v,ev,dv⟩:=wJ d1 e;exact .inr (.inl ⟨a,us,_,v,rfl,rfl,s1,ev,q _ H (aE.rf H) dv⟩)
 ·rename_i x i;obtain ⟨c,e,rfl⟩:=JM.mp hf;obtain ⟨rfl,l1,o1⟩:=vStr hx;rw [vInt hy];have hc:=fi o1 c (y3 e);exact .inr (.inr ⟨_,_,c,rfl,rfl,l1,e,q _ H (aE.rf H) ⟨rfl,by show 1<=sizeLine;decide,by simp [PyData.strOk,hc]⟩⟩)
 ·cases hf
theorem l9 {X:Cx}:IxR X (fun x y=>ixP.r X.K [x,y]):=AK
noncomputable def cutD {α:Type} (xs:List α) (lo hi:Option Int):List α:=(xs.drop (HT.sIx xs.length 0 lo)).take (HT.sIx xs.length xs.length hi - HT.sIx xs.length 0 lo)
noncomputable def slD (lo hi:Option Int):PyData->Option PR
 | .list xs=>some (.frs (.list (cutD xs lo hi)))
 | .tuple xs=>if HT.sIx xs.length 0 lo=0/\HT.sIx xs.length xs.length hi=xs.length then none else some (.dat (.tuple (cutD xs lo hi)))
 | .str x=>some (.dat (.str (i6 x lo hi)))
 | _=>none
def DY (K:Fg) (lo hi:Option Int):V->Hp->VK->Prop:=fun x H Q=>E6 HX (E6 (Hi K) (Hr K)) x lo hi H Q
section
variable {K:Fg} {F:Addr->Prop} {H:Hp}
theorem DmL.drop:∀ {ds:List PyData} {xs:List V} (n:Nat),DmL K F H ds xs->DmL K F H (ds.drop n) (xs.drop n)
 | ds,xs,0,h=>h
 | [],xs,n+1,h=>by rw [show xs=[] from h];rfl
 | d :: ds,xs,n+1,h=>by obtain ⟨v,r,rfl,_,h2⟩:=h;exact DmL.drop n h2
theorem DmL.take:∀ {ds:List PyData} {xs:List V} (n:Nat),DmL K F H ds xs->DmL K F H (ds.take n) (xs.take n)
 | ds,xs,0,h=>by rw [List.take_zero,List.take_zero];rfl
 | [],xs,n+1,h=>by rw [show xs=[] from h];rfl
 | d :: ds,xs,n+1,h=>by obtain ⟨v,r,rfl,h1,h2⟩:=h;exact ⟨v,_,rfl,h1,DmL.take n h2⟩
theorem DmL.cut (lo hi:Option Int) (h:DmL K F H ds xs):DmL K F H (cutD ds lo hi) (uQ xs lo hi):=by
 unfold cutD uQ;rw [h.len];exact (h.drop _).take _
theorem nX (xs:List V) (lo hi:Option Int):(uQ xs lo hi).length<=xs.length:=by
 unfold uQ;rw [J8,KW];omega
theorem ub (lo hi:Option Int) (h:PyData.strOk x=true):PyData.strOk (i6 x lo hi)=true:=by
 have hm:=fi h;unfold PyData.strOk i6;rw [Array.all_eq_true'];intro c hc;have:c∈(x.cps.toList.drop (HT.sIx x.length 0 lo)).take (HT.sIx x.length x.length hi - HT.sIx x.length 0 lo):=by simpa using hc
 have:=hm c (List.mem_of_mem_drop (KO this));simpa using this
theorem yW {lo hi:Option Int} {x:PyData} {u:V} {pr:PR} {Q:VK} (hf:slD lo hi x=some pr) (hx:Vw K F H x u) (q:∀ w H',aE H H'->xk K F H H' pr w->Q w H'):DY K lo hi u H Q:=by
 unfold slD at hf;split at hf
 ·cases hf;obtain ⟨a,us,rfl,s1,z1,d1⟩:=jh hx;exact .inr (.inl ⟨a,us,rfl,s1,fun p hp=>q _ _ (aE.nw _ hp) (xg hp (J6 (nX _ _ _) z1) (d1.cut lo hi))⟩)
 ·split at hf
  ·cases hf
  rename_i hn;cases hf;obtain ⟨a,us,rfl,s1,z1,d1⟩:=qC hx;exact .inr (.inr ⟨a,us,rfl,s1,by rw [d1.len];exact hn,fun p hp=>q _ _ (aE.nw _ hp) (E4 hp (J6 (nX _ _ _) z1) (d1.cut lo hi))⟩)
 ·cases hf;obtain ⟨rfl,l1,o1⟩:=vStr hx;exact .inl ⟨_,rfl,l1,q _ H (aE.rf H) ⟨rfl,J6 (cC _ _ _) l1,ub lo hi o1⟩⟩
 ·cases hf
end
noncomputable def HS:Prm:=Prm.two (fun K x y H Q=>∃ i,y=.int i/\DY K (some i) none x H Q) (fun x y=>match y with | .int i=>slD (some i) none x | _=>none) fun K F H x y u v pr Q hf hx hy hd q=>by
 split at hf
 ·exact ⟨_,vInt hy,yW hf hx q⟩
 ·cases hf
noncomputable def AF:Prm:=Prm.two (fun K x y H Q=>∃ i,y=.int i/\DY K none (some i) x H Q) (fun x y=>match y with | .int i=>slD none (some i) x | _=>none) fun K F H x y u v pr Q hf hx hy hd q=>by
 split at hf
 ·exact ⟨_,vInt hy,yW hf hx q⟩
 ·cases hf
noncomputable def Ie (i j:Int):Prm:=Prm.one (fun K=>DY K (some i) (some j)) (slD (some i) (some j)) fun K F H x u pr Q hf hx hd q=>yW hf hx q
noncomputable def HG:PyData->Option PR
 | .str x=>some (.dat (.int x.length))
 | .list xs=>some (.dat (.int xs.length))
 | .tuple xs=>some (.dat (.int xs.length))
 | _=>none
noncomputable def mz:Prm:=Prm.one (fun K x=>Dz K [x]) HG fun K F H x u pr Q hf hx hd q=>by
 unfold HG at hf;split at hf
 ·cases hf;obtain ⟨rfl,l1,o1⟩:=vStr hx;exact A9 l1 (q _ H (aE.rf H) rfl)
 ·cases hf;obtain ⟨a,us,rfl,s1,z1,d1⟩:=jh hx;exact Dc s1 (q _ H (aE.rf H) (by rw [d1.len];rfl))
 ·cases hf;obtain ⟨a,us,rfl,s1,z1,d1⟩:=qC hx;exact Ba s1 (q _ H (aE.rf H) (by rw [d1.len];rfl))
 ·cases hf
theorem dg {X:Cx} {f:Value} {r:List V->Hp->VK->Prop} {r':V->Hp->VK->Prop} (h:aB X f r) (e:∀ x H Q,r' x H Q->r [x] H Q):aB X f (fun vs H Q=>match vs with | [u]=>r' u H Q | _=>False):=by
 intro pins s Z H xs us Q I rv q
 match xs,q with
 | [x],q=>exact h pins s Z H [x] us Q I rv (e x H Q q)
theorem bo:aB X (.builtin "len") (mz.r X.K):=dg tG fun _ _ _ h=>h
noncomputable def Bh:Prm:=Prm.one (fun _ x=>Ez [x]) (fun x=>match x with | .int i=>some (.dat (.int (if i < 0 then -i else i))) | _=>none) fun K F H x u pr Q hf hx hd q=>by
 split at hf
 ·cases hf;rw [vInt hx];exact Gv (q _ H (aE.rf H) rfl)
 ·cases hf
theorem jX:aB X (.builtin "abs") (Bh.r X.K):=dg ue fun _ _ _ h=>h
noncomputable def Ht:Prm:=Prm.one (fun _ x=>Cd [x]) (fun x=>match x with | .int i=>some (.dat (.int i)) | .bool k=>some (.dat (.int (if k then 1 else 0))) | _=>none) fun K F H x u pr Q hf hx hd q=>by
 split at hf
 ·cases hf;rw [vInt hx];exact .inl ⟨_,rfl,q _ H (aE.rf H) rfl⟩
 ·cases hf;rw [vBl hx];exact .inr ⟨_,rfl,q _ H (aE.rf H) rfl⟩
 ·cases hf
theorem zV:aB X (.type "int") (Ht.r X.K):=dg rh fun _ _ _ h=>h
noncomputable def He:Prm:=Prm.two (fun _ x y=>BX [x,y]) (xD (fun _ _=>true) fun i j=>.int (if j < i then j else i)) fun K F H x y u v pr Q hf hx hy hd q=>by
 unfold xD at hf;split at hf
 ·rw [Jx rfl] at hf;cases hf;rw [vInt hx,vInt hy];exact ⟨_,_,rfl,q _ H (aE.rf H) rfl⟩
 ·cases hf
theorem BS {X:Cx} {f:Value} {r:List V->Hp->VK->Prop} {r':R2} (h:aB X f r) (e:∀ x y H Q,r' x y H Q->r [x,y] H Q):aB X f (fun vs H Q=>match vs with | [u,v]=>r' u v H Q | _=>False):=by
 intro pins s Z H xs us Q I rv q
 match xs,q with
 | [x,y],q=>exact h pins s Z H [x,y] us Q I rv (e x y H Q q)
theorem yU (hc:X.calm=true):aB X (.builtin "min") (He.r X.K):=BS (qv hc) fun _ _ _ _ h=>h
noncomputable def Ae (T:String) (x:PyData):Option PR:=match T with
 | "str" => some (.dat (.bool (isS x)))
 | "int" => some (.dat (.bool (isI x)))
 | "bool" => some (.dat (.bool (isB x)))
 | "tuple" => some (.dat (.bool (isT x)))
 | "list" => some (.dat (.bool (isL x)))
 | _=>none
def Eh (T:String) (K:Fg):V->Hp->VK->Prop:=fun x H Q=>∃ F d b,Vw K F H d x/\Ae T d=some (.dat (.bool b))/\Q (.bl b) H
theorem Gz (h:Ae T d=some pr):∃ b,pr=.dat (.bool b):=by
 unfold Ae at h;split at h <;> first | (cases h;exact ⟨_,rfl⟩) | cases h
noncomputable def pS (T:String):Prm:=Prm.one (Eh T) (Ae T) fun K F H x u pr Q hf hx hd q=>by
 obtain ⟨b,rfl⟩:=Gz hf;exact ⟨F,x,b,hx,hf,q _ H (aE.rf H) rfl⟩
theorem yq {K:Fg} {T:String} {d:PyData} {b:Bool} (h:Ae T d=some (.dat (.bool b))):PySem.W.kitOne K (.type (tyN d)) (.type T)=some b:=by
 unfold Ae at h;split at h
 ·cases h;exact Gp d
 ·cases h;exact GN d
 ·cases h;exact GW d
 ·cases h;exact F9 d
 ·cases h;exact Ep d
 ·cases h
def Ja (K:Fg):List V->Hp->VK->Prop:=fun vs H Q=>match vs with | [x,.ty T]=>(pS T).r K [x] H Q | _=>False
theorem yi {X:Cx}:aB X (.builtin "isinstance") (Ja X.K):=by
 intro pins s Z H xs us Q I r h
 match xs,h with
 | [x,.ty T'],h =>
  obtain ⟨F,d,b,hv,hb,q⟩:=h;obtain ⟨u,w',rfl,r1,r2⟩:=vals2 r;cases (show w'=Value.type T' from r2);have e:=yq (K:=X.K) hb;have fin:∀ tk,EP X pins Z Q (.bool b) { s with toks:=tk }:=fun tk=>⟨.bl b,H,I.tok _,rfl,q⟩;cases d with
  | none=>rw [DX hv] at r1;cases (show u=Value.none from r1);exact Lx PySem.W.kitx_none I.kIn True.intro e (fun z=>nomatch z) fin
  | bool y=>rw [vBl hv] at r1;cases (show u=Value.bool y from r1);exact Lx PySem.W.kitx_bool I.kIn True.intro e (fun z=>nomatch z) fin
  | int i=>rw [vInt hv] at r1;obtain ⟨t,q⟩:=(show ∃ t,u=Value.int i t from r1);cases q;exact Lx PySem.W.kitx_int I.kIn True.intro e (fun z=>nomatch z) fin
  | str y=>rw [(vStr hv).1] at r1;obtain ⟨t,q⟩:=(show ∃ t,u=Value.str y t from r1);cases q;exact Lx PySem.W.kitx_str I.kIn True.intro e (fun z=>nomatch z) fin
  | list ds =>
   obtain ⟨a,xs,rfl,l,z,rs⟩:=jh hv;cases (show u=Value.ref a from r1);obtain ⟨its,rv,⟨o,k,h1,h2,h3,h4⟩,_⟩:=I.list l;exact Lx PySem.W.kitx_list I.kIn ⟨o,h1,h2⟩ e (fun z=>nomatch z) fin
  | tuple ds =>
   obtain ⟨a,xs,rfl,l,z,rs⟩:=qC hv;cases (show u=Value.ref a from r1);obtain ⟨its,rv,⟨o,h1,h2,k,h4⟩,_⟩:=I.tuple l;exact Lx PySem.W.kitx_tuple I.kIn ⟨o,h1,h2⟩ e (fun z=>nomatch z) fin
  | dict ds =>
   obtain ⟨a,rfl,ep,xs,ea,_⟩:=hv;cases (show u=Value.ref a from r1);obtain ⟨_,_,_,o,es,h1,h2,_⟩:=(show bJ X.prog X.w H s.heap a (.dD ep xs) from I.hok a _ ea);exact Lx PySem.W.kitx_dict I.kIn ⟨o,h1,h2.1⟩ e (fun z=>nomatch z) fin
noncomputable def chars (x:Str):List PyData:=x.cps.toList.map fun c=>.str ⟨#[c]⟩
noncomputable def eS (x:Str):List V:=x.cps.toList.map fun c=>.str ⟨#[c]⟩
def Cp (K:Fg):V->Hp->VK->Prop:=fun x H Q=>As K [x] H Q\/∃ z,x=.str z/\z.length<=sizeLine/\∀ p,H p=none->Q (.ref p) (upd H p (.lst (eS z)))
noncomputable def Av:PyData->Option PR
 | .list xs=>some (.frs (.list xs))
 | .tuple xs=>some (.frs (.list xs))
 | .str x=>some (.frs (.list (chars x)))
 | _=>none
noncomputable def xZ:Prm:=Prm.one Cp Av fun K F H x u pr Q hf hx hd q=>by
 unfold Av at hf;split at hf
 ·cases hf;obtain ⟨a,us,rfl,s1,z1,d1⟩:=jh hx;exact .inl ⟨a,us,rfl,.inl s1,fun p hp=>q _ _ (aE.nw _ hp) (xg hp z1 d1)⟩
 ·cases hf;obtain ⟨a,us,rfl,s1,z1,d1⟩:=qC hx;exact .inl ⟨a,us,rfl,.inr s1,fun p hp=>q _ _ (aE.nw _ hp) (xg hp z1 d1)⟩
 ·cases hf;obtain ⟨rfl,l1,o1⟩:=vStr hx;refine .inr ⟨_,rfl,l1,fun p hp=>q _ _ (aE.nw _ hp) (xg hp ?_ (yS (fi o1)))⟩;rw [show (eS _).length=_ from Jm _];simpa [Str.length] using l1
 ·cases hf
theorem n6:∀ {xs:List V} {us:List Value},xs.length=us.length->(∀ (i:Nat) (x:V) (u:Value),xs[i]?=some x->us[i]?=some u->RelV x u)->Vals xs us
 | [],[],_,_=>.nil
 | [],_ :: _,h,_=>by cases h
 | _ :: _,[],h,_=>by cases h
 | x :: xs,u :: us,h,q=>.cons (q 0 x u rfl rfl) (n6 (by simpa using h) fun i y w h1 h2=>q (i+1) y w (by simpa using h1) (by simpa using h2))
theorem qx (h:ItemsOf (SignAt z) acc z.cps.size):Vals (eS z) acc.toList:=by
 refine n6 ?_ fun i x u h1 h2=>?_
 ·rw [show (eS z).length=_ from Jm _];simp [h.1]
 ·obtain ⟨c,t,hc,rfl⟩:=h.2 i u (by simpa using h2);unfold eS at h1;rw [Jw] at h1;have:z.cps.toList[i]?=some c:=by rw [<- hc];simp
  rw [this] at h1;cases h1;exact ⟨t,rfl⟩
theorem k6 (hc:X.calm=true):aB X (.type "list") (fun xs H Q=>∃ z,xs=[.str z]/\z.length<=sizeLine/\∀ p,H p=none->Q (.ref p) (upd H p (.lst (eS z)))):=by
 intro pins s Z H xs us Q I r h;obtain ⟨z,rfl,hl,q⟩:=h;obtain ⟨u,rfl,r1⟩:=vals1 r;obtain ⟨t,rfl⟩:=r1;have hz:(eS z).length<=sizeLine:=by rw [show (eS z).length=_ from Jm _];simpa [Str.length] using hl
 refine call_list_str (I.ok.hd hc) z t (fun h' tk acc' c' hk hS hacc=>?_) hl;refine ⟨.ref s.heap.objs.size,_,I.laid (t':=tk) hk (Jt _) (show bJ X.prog X.w _ h' _ (.lst (eS z)) from ⟨hz,acc'.toList,c',?_,by rw [Lm];exact hS⟩),rfl,q _ (I.hok.fresh (Jt _))⟩;exact qx hacc
theorem vf (h:aB X f r) (h':aB X f r'):aB X f (fun xs H Q=>r xs H Q\/r' xs H Q):=by
 intro pins s Z H xs us Q I rv q;rcases q with q | q
 ·exact h pins s Z H xs us Q I rv q
 ·exact h' pins s Z H xs us Q I rv q
theorem pI (hc:X.calm=true):aB X (.type "list") (xZ.r X.K):=dg (vf pZ (k6 hc)) fun x H Q h=>h.imp id fun ⟨z,e,r⟩=>⟨z,by rw [e],r⟩
noncomputable def xi:PyData->Option PR
 | .list xs=>some (.dat (.tuple xs))
 | .tuple xs=>some (.dat (.tuple xs))
 | _=>none
noncomputable def lF:Prm:=Prm.one (fun K x=>wK K [x]) xi fun K F H x u pr Q hf hx hd q=>by
 unfold xi at hf;split at hf
 ·cases hf;obtain ⟨a,us,rfl,s1,z1,d1⟩:=jh hx;exact ⟨a,us,rfl,.inl ⟨s1,fun p hp=>q _ _ (aE.nw _ hp) (E4 hp z1 d1)⟩⟩
 ·cases hf;obtain ⟨a,us,rfl,s1,z1,d1⟩:=qC hx;exact ⟨a,us,rfl,.inr ⟨s1,q _ H (aE.rf H) ⟨a,us,rfl,s1,z1,d1⟩⟩⟩
 ·cases hf
theorem fC:aB X (.type "tuple") (lF.r X.K):=dg mR fun _ _ _ h=>h
theorem bz (s:String):PyData.strOk (Str.ofString s)=true:=by
 rw [Str.ofString_eq_toList];unfold PyData.strOk;rw [Array.all_eq_true'];intro c hc;have:c∈s.toList.map Char.toNat:=by simpa using hc
 obtain ⟨ch,_,rfl⟩:=JV.mp this;have:=ch.valid;simp only [KQ];rcases this with h | ⟨_,h⟩
 ·show ch.val.toNat < _;have:ch.val.toNat < 0xD800:=h;omega
 ·exact h
noncomputable def fk:List PyData->Option (List Bool)
 | []=>some []
 | .bool b :: r=>match fk r with | some bs=>some (b :: bs) | none=>none
 | _ :: _=>none
theorem nz {K:Fg} {F:Addr->Prop} {H:Hp}:∀ {ds:List PyData} {xs:List V} {bs:List Bool},fk ds=some bs->DmL K F H ds xs->xs=bs.map V.bl
 | [],xs,bs,h,q=>by cases h;exact q
 | .bool b :: r,xs,bs,h,q=>by
  unfold fk at h;split at h
  ·rename_i bs' h';cases h;obtain ⟨v,vr,rfl,h1,h2⟩:=q;rw [nz h' h2,show v=.bl b from h1];rfl
  ·cases h
 | .none :: r,xs,bs,h,q=>by cases h
 | .int _ :: r,xs,bs,h,q=>by cases h
 | .str _ :: r,xs,bs,h,q=>by cases h
 | .list _ :: r,xs,bs,h,q=>by cases h
 | .tuple _ :: r,xs,bs,h,q=>by cases h
 | .dict _ :: r,xs,bs,h,q=>by cases h
noncomputable def D6:Prm:=Prm.one (fun K x=>HC K [x]) (fun x=>match x with | .list ds=>(fk ds).map fun bs=>.dat (.bool (bs.all id)) | _=>none) fun K F H x u pr Q hf hx hd q=>by
 split at hf
 ·obtain ⟨bs,e,rfl⟩:=JM.mp hf;obtain ⟨a,us,rfl,s1,z1,d1⟩:=jh hx;rw [nz e d1] at s1;exact ⟨a,bs,rfl,s1,q _ H (aE.rf H) rfl⟩
 ·cases hf
theorem tK (hc:X.calm=true):aB X (.builtin "all") (D6.r X.K):=dg (sQ hc) fun _ _ _ h=>h
noncomputable def GR:Prm:=Prm.one (fun K x=>Hg K [x]) (fun x=>match x with | .list ds=>(fk ds).map fun bs=>.dat (.bool (bs.any id)) | _=>none) fun K F H x u pr Q hf hx hd q=>by
 split at hf
 ·obtain ⟨bs,e,rfl⟩:=JM.mp hf;obtain ⟨a,us,rfl,s1,z1,d1⟩:=jh hx;rw [nz e d1] at s1;exact ⟨a,bs,rfl,s1,q _ H (aE.rf H) rfl⟩
 ·cases hf
theorem yQ (hc:X.calm=true):aB X (.builtin "any") (GR.r X.K):=dg (qG hc) fun _ _ _ h=>h
theorem uy {K:Fg} {F:Addr->Prop} {H:Hp} {k:PyData}:∀ {ds:List (PyData×PyData)} {xs:List (PyData×V×V)},DmP K F H ds xs->(∀ d,getD ds k=some d->∃ v,qA xs k=some v/\Dm K F H d v)/\(getD ds k=none->qA xs k=none)
 | [],xs,h=>by
  rw [show xs=[] from h];exact ⟨fun d e=>(nomatch e),fun _=>rfl⟩
 | (k',d') :: ds,xs,h=>by
  obtain ⟨j,v,r,rfl,e,_,h1,h2⟩:=h;have ih:=uy (k:=k) h2;unfold getD qA at ih ⊢;rw [List.find?_cons,List.find?_cons];cases PyData.eqv k' k with
  | true=>exact ⟨fun d e=>(by cases e;exact ⟨v,rfl,h1⟩),fun e=>(nomatch e)⟩
  | false=>exact ih
mutual
theorem iH:∀ (d:PyData),hkB d=true->noD d=true
 | .int _,_=>rfl
 | .str _,_=>rfl
 | .tuple ds,h=>by rw [noD];exact uc ds h
 | .none,h=>by cases h
 | .bool _,h=>by cases h
 | .list _,h=>by cases h
 | .dict _,h=>by cases h
theorem uc:∀ (ds:List PyData),uW ds=true->fG ds=true
 | [],_=>rfl
 | d :: ds,h=>by
  simp only [uW,JU] at h;rw [fG,iH d h.1,uc ds h.2];rfl
end
theorem kj:hk6 d=true↔hkB d=true/\d.depth<=6:=by simp [hk6]
theorem yt {K:Fg} {F:Addr->Prop} {H:Hp} {d:PyData} {v:V} (h:Vw K F H d v) (hk:hk6 d=true):kyB d=true:=by
 rw [kj] at hk;exact ai.mpr ⟨hk.1,h.lay (iH d hk.1),hk.2⟩
theorem zh (I:Inv X pins Z H s):∀ {ds:List (PyData×PyData)} {xs:List (PyData×V×V)},DmP X.K F H ds xs->jd s.heap xs
 | [],xs,h=>by rw [show xs=[] from h];intro x hx;cases hx
 | (k,d) :: ds,xs,h=>by
  obtain ⟨j,v,r,rfl,hk,h0,_,h2⟩:=h;intro x hx;rcases JJ.mp hx with rfl | hx
  ·exact ⟨yt h0.vw hk,fun u ru=>h0.reads I (iH _ (kj.mp hk).1) ru⟩
  ·exact zh I h2 x hx
def FT (K:Fg) (H:Hp) (x y:V) (k:PyData) (a:Addr) (ep:Nat) (xs:List (PyData×V×V)):Prop:=∃ (F:Addr->Prop) (kvs:List (PyData×PyData)),x=.ref a/\H a=some (.dD ep xs)/\DmP K F H kvs xs/\Vw K F H k y/\hk6 k=true
noncomputable def Iq:PyData->PyData->Option PR
 | .dict kvs,k=>if hk6 k=true then (getD kvs k).map .dat else none
 | _,_=>none
def Fs (neg:Bool) (K:Fg):R2:=fun y x H Q=>∃ k a ep xs,FT K H x y k a ep xs/\Q (.bl (if neg then !(qA xs k).isSome else (qA xs k).isSome)) H
noncomputable def Jj (neg:Bool):Prm:=Prm.two (Fs neg) (fun k d=>match d with
  | .dict kvs=>if hk6 k=true then some (.dat (.bool (if neg then !(getD kvs k).isSome else (getD kvs k).isSome))) else none
  | _=>none) fun K F H y x v u pr Q hf hy hx hd q=>by
 split at hf
 ·rename_i kvs;split at hf
  ·rename_i hk;cases hf;obtain ⟨a,rfl,ep,xs,ea,_,r⟩:=hx;have g:=uy (k:=y) r;refine ⟨_,a,ep,xs,⟨F,kvs,rfl,ea,r,hy,hk⟩,q _ H (aE.rf H) ?_⟩;have e:(qA xs y).isSome=(getD kvs y).isSome:=by
    cases z:getD kvs y with
    | none=>rw [g.2 z];rfl
    | some d=>obtain ⟨w,ew,_⟩:=g.1 d z;rw [ew];rfl
   rw [e];cases neg <;> rfl
  ·cases hf
 ·cases hf
section
variable {X:Cx} {a b o i e value:Expr} {pos pos':Pos} {ta tb td ty tv:TE}
theorem Ff:JE X (.Dict [] [] pos) wI:=⟨vX⟩
theorem xC (h:JP X pos keys values trs) (hall:keys.all (·.isSome)=true) (hl:keys.length=values.length) (h0:keys≠[]) (h15:keys.length<=15):JE X (.Dict keys values pos) (t5 trs):=⟨u4 h.h hall hl h0 h15⟩
end
theorem xc {K:Fg} {F:Addr->Prop} {H:Hp}:∀ {ds:List (PyData×PyData)} {xs:List (PyData×V×V)},DmP K F H ds xs->xs.length=ds.length
 | [],xs,h=>by rw [show xs=[] from h];rfl
 | (k,d) :: ds,xs,h=>by obtain ⟨j,v,r,rfl,_,_,_,h2⟩:=h;rw [JL,JL,xc h2]
theorem Gi {K:Fg} {F:Addr->Prop} {H:Hp} {d:PyData} {v:V} (h:Vw K F H d v) (hk:hk6 d=true):Dm K F H d v:=by
 cases d with
 | list ds=>cases hk
 | dict ds=>cases hk
 | _=>exact h
noncomputable def x8:Ct where
 r:=fun K o y x H Q=>∃ k a ep xs,FT K H o y k a ep xs/\xs.length < sizeLine/\∀ ep',Q (upd H a (.dD ep' (nU xs k y x)))
 f:=fun d k x=>match d with
  | .dict kvs=>if hk6 k=true/\kvs.length < sizeLine then some (.dict (putD kvs k x)) else none
  | _=>none
 ok:=fun K F H d a k x vk vx d' Q hf ha ht hk hx q=>by
  split at hf
  ·split at hf
   ·rename_i kvs h;cases hf;obtain ⟨ep,xs,ea,z,r⟩:=ht;have hlen:xs.length < sizeLine:=by rw [xc r];exact h.2
    refine ⟨k,a,ep,xs,⟨F,kvs,rfl,ea,r,hk,h.1⟩,hlen,fun ep'=>q _ (fun b o n e=>by rw [ax n];exact e) ?_⟩;have p:Pr F H (upd H a (.dD ep' (nU xs k vk vx))):=fun b o e n=>by
     by_cases y:b=a
     ·subst y;rcases n with n | n
      ·exact absurd ha n
      ·rw [ea] at e;cases e;cases n
     ·rw [ax y];exact e
    exact ⟨_,_,ak,by have:=oZ (xs:=xs) (k:=k) (j:=vk) (v:=vx);omega,(wQ r h.1 (Gi hk h.1) hx).pr p fun _ z=>z⟩
   ·cases hf
  ·cases hf
def EC (K:Fg) (td ty tv:TE):TS:=fun D Z H=>tv Z H fun v H1=>td Z H1 fun x H2=>ty Z H2 fun y H3=>x8.r K x y v H3 (D.nx Z)
theorem E9 {X:Cx} {o i value:Expr} {pos pos':Pos} {td ty tv:TE} (hu:X.A.units+64 < cLine) (ho:JE X o td) (hi:JE X i ty) (hv:JE X value tv) (hs:swapsWith value (some (.Subscript o i pos')) pos.line X.env=pure false) :
  JS X (.Assign [.Subscript o i pos'] value pos) (EC X.K td ty tv):=⟨by
 intro pins s Z H D I h;refine wpAny_Assign_Subscript (thn (hv.h pins s Z H _ I h) fun r s1 ⟨v,H1,I1,rv,q1⟩=>thn (ho.h pins s1 Z H1 _ I1 q1) fun u s2 ⟨x,H2,I2,rx,q2⟩=>thn (hi.h pins s2 Z H2 _ I2 q2) fun iv s3 ⟨y,H3,I3,ry,k,p,ep,xs,⟨F,kvs,ex,ea,r,hk,hk6'⟩,hl,q3⟩=>?_) hs;subst ex;obtain rfl:u=Value.ref p:=rx;obtain ⟨as,rk⟩:=hk.reads I3 (iH _ (kj.mp hk6').1) ry
 exact GI (by omega) I3 ea (zh I3 r) rk (yt hk hk6') ry rv hl fun ep' s4 I4=>⟨Z,_,I4,q3 ep'⟩⟩
theorem tM (ha:F a) (e:H a=some o') (w:Wr o'=true):Pr F H (upd H a o):=fun b u q n=>by
 by_cases y:b=a
 ·subst y;rcases n with n | n
  ·exact absurd ha n
  ·rw [e] at q;cases q;rw [n] at w;cases w
 ·rw [ax y];exact q
theorem DmL.set {K:Fg} {F:Addr->Prop} {H:Hp}:∀ {ds:List PyData} {xs:List V} {d:PyData} {v:V} (j:Nat),DmL K F H ds xs->Dm K F H d v->DmL K F H (ds.set j d) (xs.set j v)
 | [],xs,d,v,j,h,q=>by rw [show xs=[] from h];rfl
 | e :: ds,xs,d,v,0,h,q=>by obtain ⟨w,r,rfl,_,h2⟩:=h;exact ⟨v,r,rfl,q,h2⟩
 | e :: ds,xs,d,v,j+1,h,q=>by obtain ⟨w,r,rfl,h1,h2⟩:=h;exact ⟨w,_,rfl,h1,DmL.set j h2 q⟩
noncomputable def qc:Ct where
 r:=fun _ o i x H Q=>CL o i x H Q
 f:=fun d k x=>match d,k with
  | .list xs,.int i=>(ixN xs.length i).map fun j=>.list (xs.set j x)
  | _,_=>none
 ok:=fun K F H d a k x vk vx d' Q hf ha ht hk hx q=>by
  split at hf
  ·obtain ⟨j,e,rfl⟩:=JM.mp hf;obtain ⟨xs,ea,z,r⟩:=ht;rw [vInt hk];refine ⟨a,xs,_,j,rfl,rfl,ea,by rw [r.len];exact e,q _ (fun b o n e=>by rw [ax n];exact e) ⟨_,ak,by rw [J7];exact z,(r.set j hx).pr (tM ha ea rfl) fun _ z=>z⟩⟩
  ·cases hf
theorem xj {K:Fg} {F:Addr->Prop} {H:Hp} {d:PyData} {a:Addr} (h:isL d=true) (t:Top K F H d a):tyV K "list" (.ref a) H:=by
 cases d with
 | list ds=>obtain ⟨xs,e,_⟩:=t;exact .inl ⟨rfl,xs,.inl (.inl e)⟩
 | _=>cases h
noncomputable def AG:Mtr where
 T := "list"
 r:=fun _=>rN
 ty:=isL
 f:=fun d as=>match d,as with
  | .list xs,[(true,x)]=>if xs.length < sizeLine then some (.list (xs++[x]),.none) else none
  | _,_=>none
 xS:=fun K F H d a h t=>xj h t
 ok:=fun K F H d a as vs d' x Q hf ha ht hv q=>by
  split at hf
  ·split at hf
   ·rename_i hl;cases hf;obtain ⟨v,r,rfl,hv,rfl⟩:=hv;obtain ⟨xs,ea,z,rx⟩:=ht;refine ⟨a,xs,v,rfl,rfl,ea,by rw [rx.len];exact hl,q _ _ (fun b o n e=>by rw [ax n];exact e) ⟨_,ak,by rw [Js,rx.len];simp;omega,(rx.snoc hv).pr (tM ha ea rfl) fun _ z=>z⟩ rfl⟩
   ·cases hf
  ·cases hf
noncomputable def GO:Mtr where
 T := "list"
 r:=oR
 ty:=isL
 f:=fun d as=>match d,as with
  | .list xs,[(_,.list ys)]=>if xs.length+ys.length<=sizeLine then some (.list (xs++ys),.none) else none
  | _,_=>none
 xS:=fun K F H d a h t=>xj h t
 ok:=fun K F H d a as vs d' x Q hf ha ht hv q=>by
  split at hf
  ·split at hf
   ·rename_i b ys hl;cases hf;have hv':∃ v,vs=[v]/\Vw K F H (.list ys) v:=by
     cases b with
     | true=>obtain ⟨v,r,rfl,hv,rfl⟩:=hv;exact ⟨v,rfl,hv.vw⟩
     | false=>obtain ⟨v,r,rfl,hv,rfl⟩:=hv;exact ⟨v,rfl,hv⟩
    obtain ⟨v,rfl,hv2⟩:=hv';obtain ⟨b',us,rfl,s1,z1,d1⟩:=jh hv2;obtain ⟨xs,ea,z,rx⟩:=ht;have hl':xs.length+us.length<=sizeLine:=by rw [rx.len,d1.len];exact hl
    refine ⟨a,b',xs,us,rfl,rfl,ea,s1,hl',q _ _ (fun b o n e=>by rw [ax n];exact e) ⟨_,ak,by rw [Js];exact hl',(rx.app d1).pr (tM ha ea rfl) fun _ z=>z⟩ rfl⟩
   ·cases hf
  ·cases hf
noncomputable def strsOf:List PyData->Option (List Str)
 | []=>some []
 | .str x :: r=>match strsOf r with | some xs=>some (x :: xs) | none=>none
 | _ :: _=>none
theorem iw {K:Fg} {F:Addr->Prop} {H:Hp}:∀ {ds:List PyData} {xs:List V} {ss:List Str},strsOf ds=some ss->DmL K F H ds xs->xs=ss.map V.str/\∀ s∈ss,PyData.strOk s=true
 | [],xs,bs,h,q=>by cases h;exact ⟨q,fun s z=>by cases z⟩
 | .str b :: r,xs,bs,h,q=>by
  unfold strsOf at h;split at h
  ·rename_i bs' h';cases h;obtain ⟨v,vr,rfl,h1,h2⟩:=q;obtain ⟨i1,i2⟩:=iw h' h2;refine ⟨by rw [i1,show v=.str b from h1.1];rfl,fun s z=>?_⟩;rcases JJ.mp z with rfl | z
   ·exact h1.2.2
   ·exact i2 s z
  ·cases h
 | .none :: r,xs,bs,h,q=>by cases h
 | .int _ :: r,xs,bs,h,q=>by cases h
 | .bool _ :: r,xs,bs,h,q=>by cases h
 | .list _ :: r,xs,bs,h,q=>by cases h
 | .tuple _ :: r,xs,bs,h,q=>by cases h
 | .dict _ :: r,xs,bs,h,q=>by cases h
theorem lV (g:Array Nat):∀ (ps:List Str) (acc:Array Nat),(ps.foldl (fun acc p=>acc++g++p.cps) acc).size=acc.size+(ps.map fun p=>p.length).sum+ps.length*g.size
 | [],acc=>by simp
 | p :: ps,acc=>by
  rw [K1,lV g ps];simp only [List.map_cons,Lu,JL,Array.size_append,Nat.succ_mul];show acc.size+g.size+p.cps.size+_+_=acc.size+(p.cps.size+_)+_;omega
theorem pG (z:Str) (ss:List Str):(Txt.join z ss).length<=(ss.map (·.length)).sum+ss.length*z.length:=by
 cases ss with
 | nil =>
  have:(Txt.join z []).length=0:=rfl;rw [this];exact J9 _
 | cons x r =>
  show ((r.foldl (fun acc p=>acc++z.cps++p.cps) x.cps)).size<=_;rw [lV];simp only [List.map_cons,Lu,JL,Nat.succ_mul];show x.cps.size+_+r.length*z.cps.size<=x.cps.size+_+(r.length*z.cps.size+z.cps.size);omega
theorem oP (hg:g.all (· < 0x110000)=true):∀ (ps:List Str) (acc:Array Nat),(∀ p∈ps,PyData.strOk p=true)->acc.all (· < 0x110000)=true->(ps.foldl (fun acc p=>acc++g++p.cps) acc).all (· < 0x110000)=true
 | [],acc,_,h=>h
 | p :: ps,acc,hp,h=>by
  rw [K1];refine oP hg ps _ (fun q hq=>hp q (Jr _ hq)) ?_;rw [Array.all_append,Array.all_append,h,hg,show p.cps.all (· < 0x110000)=true from hp p Ju];rfl
theorem tV (hz:PyData.strOk z=true) (hs:∀ s∈ss,PyData.strOk s=true):PyData.strOk (Txt.join z ss)=true:=by
 cases ss with
 | nil=>exact bz ""
 | cons x r=>exact oP hz r _ (fun q hq=>hs q (Jr _ hq)) (hs x Ju)
noncomputable def gj (z:Str) (ss:List Str):Bool:=decide ((ss.map (·.length)).sum+ss.length*z.length<=16777216)
noncomputable def Bb:PyData->List PyData->Option PR
 | .str z,[.list ds]=>match strsOf ds with | some ss=>if gj z ss=true then some (.dat (.str (Txt.join z ss))) else none | none=>none
 | .str z,[.tuple ds]=>match strsOf ds with | some ss=>if gj z ss=true then some (.dat (.str (Txt.join z ss))) else none | none=>none
 | _,_=>none
theorem ty_str {K:Fg} {F:Addr->Prop} {H:Hp} {d:PyData} {v:V} (h:isS d=true) (t:Vw K F H d v):tyV K "str" v H:=by
 cases d with
 | str x=>rw [(vStr t).1];rfl
 | _=>cases h
noncomputable def joinM:Mtd where
 T := "str"
 r:=xf
 ty:=isS
 f:=Bb
 xS:=fun K F H d v h t=>ty_str h t
 ok:=fun K F H d v ds vs pr Q hf hx hv hd q=>by
  unfold Bb at hf;split at hf
  ·rename_i z ds;split at hf
   ·rename_i ss hss;split at hf
    ·rename_i hok;cases hf;obtain ⟨rfl,l1,o1⟩:=vStr hx;obtain ⟨w,r,rfl,hw,rfl⟩:=hv;obtain ⟨a,us,rfl,s1,z1,d1⟩:=jh hw;obtain ⟨e,os⟩:=iw hss d1;rw [e] at s1;have hok':(ss.map (·.length)).sum+ss.length*z.length<=16777216:=by simpa [gj] using hok
     exact ⟨z,a,ss,rfl,rfl,.inl s1,hok',q _ H (aE.rf H) ⟨rfl,J6 (pG z ss) hok',tV o1 os⟩⟩
    ·cases hf
   ·cases hf
  ·rename_i z ds;split at hf
   ·rename_i ss hss;split at hf
    ·rename_i hok;cases hf;obtain ⟨rfl,l1,o1⟩:=vStr hx;obtain ⟨w,r,rfl,hw,rfl⟩:=hv;obtain ⟨a,us,rfl,s1,z1,d1⟩:=qC hw;obtain ⟨e,os⟩:=iw hss d1;rw [e] at s1;have hok':(ss.map (·.length)).sum+ss.length*z.length<=16777216:=by simpa [gj] using hok
     exact ⟨z,a,ss,rfl,rfl,.inr s1,hok',q _ H (aE.rf H) ⟨rfl,J6 (pG z ss) hok',tV o1 os⟩⟩
    ·cases hf
   ·cases hf
  ·cases hf
noncomputable def Fn.no (ms:List PM):Fn:=⟨ms,fun _=>none⟩
theorem xG {K:Fg} {F:Addr->Prop} {H:Hp}:∀ {ns:List Int},DmL K F H (ns.map .int) (ns.map .int)
 | []=>rfl
 | n :: ns=>⟨_,_,rfl,rfl,xG⟩
theorem DD {f:Fn} {K:Fg} {H:Hp} {a:Addr} {ns:List Int} (hm:f.ms=[.dat]) (hl:ns.length<=63) (hS:SqL K H a (ns.map V.int)) (hF:f.F [.list (ns.map .int)]=some (.dat (.bool true),[])):tT f K [.ref a] H (fun v _=>v=.bl true) fun _ _ _=>False:=by
 refine ⟨fun _=>False,[.list (ns.map .int)],[],.dat (.bool true),[],hF,?_,fun _ h=>absurd h id,fun v' H' _ r=>r.1⟩;rw [hm];refine ⟨⟨a,ns.map .int,rfl,?_,?_,xG⟩,rfl⟩
 ·rcases hS with hS | hS
  ·exact .inl ⟨id,hS⟩
  ·exact .inr hS
 ·rw [Jm];exact J6 hl (by decide)
open PySem
structure Kn where
 nx:En->Prop
 rt:RV->En->Prop
 bk:En->Prop
 ct:En->Prop
def Kn.at (E:Kn):Out->Prop | .nx e=>E.nx e | .rt r e=>E.rt r e | .bk e=>E.bk e | .ct e=>E.ct e
def WS (gd:List PyData) (s:XS) (env:En) (E:Kn):Prop:=∃ o,dS gd s env=some o/\E.at o
def WE (gd:List PyData) (e:XE) (env:En) (Q:RV->En->Prop):Prop:=∃ r e',dE gd e env=some (r,e')/\Q r e'
def WA (gd:List PyData) (e:XA) (env:En) (Q:List AV->En->Prop):Prop:=∃ r e',dA gd e env=some (r,e')/\Q r e'
def WT (gd:List PyData) (e:XT) (env:En) (Q:Bool->En->Prop):Prop:=∃ r e',dT gd e env=some (r,e')/\Q r e'
def WI (gd:List PyData) (e:XI) (env:En) (Q:List PyData->Option Nat->En->Prop):Prop:=∃ ds lk e',dI gd e env=some (ds,lk,e')/\Q ds lk e'
def WF (f:Fn) (ds:List PyData) (Q:PR->List PyData->Prop):Prop:=∃ pr outs,f.F ds=some (pr,outs)/\Q pr outs
def WPr (p:Prm) (avs:List AV) (e:En) (Q:RV->En->Prop):Prop:=∃ ds pr,aO e avs=some ds/\p.f ds=some pr/\Q pr.rv e
def Af (i:Nat) (r:RV) (e:En) (N:En->Prop):Prop:=∃ d,r.av=.dat d/\free e i=true/\N (e.set i (.dat d))
def sU (i:Nat) (r:RV) (e:En) (N:En->Prop):Prop:=∃ d,r=.frs d/\free e i=true/\N (e.set i (.own d))
def Fz (b:PyData->En->Option Out) (ds:List PyData) (lk:Option Nat) (e1:En) (E:Kn):Prop:=∃ o,lk=none/\forL b ds e1=some o/\E.at o
def k8 (f:Fn) (avs:List AV) (e:En) (Q:RV->En->Prop):Prop:=∃ rv e',vh f avs e=some (rv,e')/\Q rv e'
def DO (ms:List PM) (QF:PR->List PyData->Prop) (r:RV) (e:En):Prop:=∃ pr outs,r.pr=some pr/\i3 ms e=some outs/\QF pr outs
def vp (ms:List PM) (QF:PR->List PyData->Prop) (e:En):Prop:=∃ outs,i3 ms e=some outs/\QF (.dat .none) outs
def Dj (m:Ct) (i:Nat) (v:PyData) (rk:RV) (e2:En) (N:En->Prop):Prop:=∃ dk d d',rk.view e2=some dk/\aU e2 i=some d/\m.f d dk v=some d'/\N (gq e2 i d')
def D0 (gd:List PyData) (m:Ct) (i:Nat) (a:XE) (r:RV) (e:En) (N:En->Prop):Prop:=∃ v,r.av=.dat v/\(aU e i).isSome=true/\WE gd a e fun rk e2=>Dj m i v rk e2 N
def Cc (m:Mtd) (r:RV) (avs:List AV) (e2:En) (Q:RV->En->Prop):Prop:=∃ d ds pr,r.view e2=some d/\aO e2 avs=some ds/\m.f d ds=some pr/\Q pr.rv e2
def B9 (gd:List PyData) (m:Mtd) (as:XA) (r:RV) (e:En) (Q:RV->En->Prop):Prop:=∃ d0,r.view e=some d0/\m.ty d0=true/\WA gd as e fun avs e2=>Cc m r avs e2 Q
def WMr (m:Mtr) (i:Nat) (avs:List AV) (e2:En) (Q:RV->En->Prop):Prop:=∃ d ds d' x,aU e2 i=some d/\de e2 avs=some ds/\m.f d ds=some (d',x)/\Q (.dat x) (gq e2 i d')
def WTp (mk:List PyData->RV) (avs:List AV) (e:En) (Q:RV->En->Prop):Prop:=∃ ds,ly avs=some ds/\ds.length<=sizeLine/\Q (mk ds) e
def DS (is:List Nat) (r:RV) (e:En) (N:En->Prop):Prop:=∃ ds e2,r.av=.dat (.tuple ds)/\fx e is ds=some e2/\N e2
section
variable {gd:List PyData} {env e1:En} {E:Kn} {Q:RV->En->Prop} {QA:List AV->En->Prop} {QT:Bool->En->Prop} {QI:List PyData->Option Nat->En->Prop} {i:Nat} {d:PyData} {a b c:XE} {as:XA} {s t:XS} {p:Prm} {f:Fn} {x y:XT}
theorem cU (hl:ds.length=ms.length) (h:WS gd s (aj ms ds n) ⟨vp ms QF,DO ms QF,fun _=>False,fun _=>False⟩):WF (bL gd ms n s) ds QF:=by
 obtain ⟨o,ho,q⟩:=h;unfold WF bL;simp only;rw [Jx hl,ho];cases o with
 | nx e=>obtain ⟨outs,h1,h2⟩:=q;simp only [h1];exact ⟨_,_,rfl,h2⟩
 | rt r e=>obtain ⟨pr,outs,h1,h2,h3⟩:=q;simp only [h1,h2];exact ⟨_,_,rfl,h3⟩
 | bk e=>exact absurd q id
 | ct e=>exact absurd q id
theorem zC (h:WS gd s env { E with nx:=fun e=>WS gd t e E }):WS gd (.seq s t) env E:=by
 obtain ⟨o,ho,q⟩:=h;unfold WS;simp only [dS,ho];cases o with
 | nx e=>exact q
 | rt r e=>exact ⟨_,rfl,q⟩
 | bk e=>exact ⟨_,rfl,q⟩
 | ct e=>exact ⟨_,rfl,q⟩
theorem lW (h:∀ N:En->Prop,N=(fun e=>WS gd t e E)->WS gd s env { E with nx:=N }):WS gd (.seq s t) env E:=zC (h _ rfl)
theorem m7 {e:En} {x y:AV} {i:Int} {xs:List PyData} (h1:aO e [x,y]=some [.list xs,.int i]) (h:atI xs i=some d) (q:Q (.dat d) e):WPr ixP [x,y] e Q:=⟨_,.dat d,h1,by show (atI xs i).map PR.dat=_;rw [h];rfl,q⟩
theorem qo {e:En} {x y:AV} {i:Int} {xs:List PyData} (h1:aO e [x,y]=some [.tuple xs,.int i]) (h:atI xs i=some d) (q:Q (.dat d) e):WPr ixP [x,y] e Q:=⟨_,.dat d,h1,by show (atI xs i).map PR.dat=_;rw [h];rfl,q⟩
theorem yp {e:En} {x y:AV} {i:Int} {z:Str} {c:Nat} (h1:aO e [x,y]=some [.str z,.int i]) (h:atI z.cps.toList i=some c) (q:Q (.dat (.str ⟨#[c]⟩)) e):WPr ixP [x,y] e Q:=⟨_,.dat (.str ⟨#[c]⟩),h1,by show (atI z.cps.toList i).map _=_;rw [h];rfl,q⟩
theorem B6 (h:E.nx env):WS gd .skip env E:=⟨_,rfl,h⟩
theorem CN (h:E.rt (.dat .none) env):WS gd .D4 env E:=⟨_,rfl,h⟩
theorem wZ (h:WE gd a env fun r e=>Af i r e E.nx):WS gd (.br i a) env E:=by
 obtain ⟨r,e',h1,d,h2,h3,h4⟩:=h;unfold WS;simp only [dS,h1,h2];rw [Jx h3];exact ⟨_,rfl,h4⟩
theorem C4 (h:WE gd a env fun r e=>sU i r e E.nx):WS gd (.uT i a) env E:=by
 obtain ⟨r,e',h1,d,rfl,h3,h4⟩:=h;unfold WS;simp only [dS,h1];rw [Jx h3];exact ⟨_,rfl,h4⟩
theorem AZ (h:WE gd a env fun r e=>DS is r e E.nx):WS gd (.Ad is a) env E:=by
 obtain ⟨r,e',h1,ds,e2,h2,h3,h4⟩:=h;unfold WS;simp only [dS,h1,h2,h3];exact ⟨_,rfl,h4⟩
theorem CM (h:WE gd a env fun _ e=>E.nx e):WS gd (.drop a) env E:=by
 obtain ⟨r,e',h1,h2⟩:=h;unfold WS;simp only [dS,h1];exact ⟨_,rfl,h2⟩
theorem EI (h:WE gd a env E.rt):WS gd (.ret a) env E:=by
 obtain ⟨r,e',h1,h2⟩:=h;unfold WS;simp only [dS,h1];exact ⟨_,rfl,h2⟩
theorem FD (h:WT gd x env fun b e=>if b=true then WS gd s e E else WS gd t e E):WS gd (.ifs x s t) env E:=by
 obtain ⟨b,e',h1,h2⟩:=h;unfold WS;simp only [dS,h1];cases b with
 | true=>exact h2
 | false=>exact h2
theorem IS (h:WI gd it env fun ds lk e=>Fz (lM i (dS gd s)) ds lk e E):WS gd (.fr i it s) env E:=by
 obtain ⟨ds,lk,e',h1,o,rfl,h2,h3⟩:=h;unfold WS;simp only [dS,h1,h2];exact ⟨_,rfl,h3⟩
theorem Gw (h:WI gd it env fun ds lk e=>Fz (iI is (dS gd s)) ds lk e E):WS gd (.frT is it s) env E:=by
 obtain ⟨ds,lk,e',h1,o,rfl,h2,h3⟩:=h;unfold WS;simp only [dS,h1,h2];exact ⟨_,rfl,h3⟩
theorem GQ (h:WE gd b env fun r e=>D0 gd m i a r e E.nx):WS gd (.sto m i a b) env E:=by
 obtain ⟨r,e',h1,v,h2,h3,rk,e2,h4,dk,d,d',h5,h6,h7,h8⟩:=h;obtain ⟨d0,hd0⟩:=Option.isSome_iff_exists.mp h3;unfold WS;simp only [dS,h1,h2,hd0,h4,h5,h6,h7];exact ⟨_,rfl,h8⟩
theorem w_var (h:env[i]?=some (.dat d)) (q:Q (.dat d) env):WE gd (.var i) env Q:=⟨_,_,by simp only [dE,h],q⟩
theorem Ck (h:env[i]?=some (.own d)) (q:Q (.bor i) env):WE gd (.var i) env Q:=⟨_,_,by simp only [dE,h],q⟩
theorem DK (h:env[i]?=some (.ino d)) (q:Q (.bor i) env):WE gd (.var i) env Q:=⟨_,_,by simp only [dE,h],q⟩
theorem CC (h:env[i]?=some (.ro d)) (q:Q (.bor i) env):WE gd (.var i) env Q:=⟨_,_,by simp only [dE,h],q⟩
theorem E8 (h:env[i]?=some (.own d)) (q:Q (.dat d) (env.set i (.dat d))):WE gd (.mov i) env Q:=⟨_,_,by simp only [dE,h],q⟩
theorem Es (h:env[i]?=some (.own d)) (q:Q (.frs d) (env.set i .un)):WE gd (.tke i) env Q:=⟨_,_,by simp only [dE,h],q⟩
theorem B1 (hb:(bnd env i&&bnd env j)=true) (q:WE gd l env fun r e1=>∃ d,r=.frs d/\e1[h]?=some .un/\WE gd e (e1.set h (.own d)) fun r2 e2=>∃ x,r2=.dat x/\Q (.dat x) (e2.set h .un)):WE gd (.gho i j h l e) env Q:=by
 obtain ⟨r,e1,h1,d,rfl,hu,r2,e2,h2,x,rfl,q⟩:=q;exact ⟨_,_,by simp only [dE,h1,hu,h2];rw [Jx hb],q⟩
theorem F8 {c:Cst} (q:Q (.dat c.d) env):WE gd (.cst c) env Q:=⟨_,_,rfl,q⟩
theorem Et (h:gd[g]?=some d) (q:Q (.dat d) env):WE gd (.glb g) env Q:=⟨_,_,by simp only [dE,h],q⟩
theorem E5 (h:WA gd as env fun avs e=>WPr p avs e Q):WE gd (.prm p as) env Q:=by
 obtain ⟨avs,e',h1,ds,pr,h2,h3,h4⟩:=h;exact ⟨_,_,by simp only [dE,h1,h2,h3],h4⟩
theorem xI (h:WA gd as env fun avs e=>k8 f avs e Q):WE gd (.call f as) env Q:=by
 obtain ⟨avs,e',h1,rv,e2,h2,h3⟩:=h;exact ⟨_,_,by simp only [dE,h1];exact h2,h3⟩
theorem aa (h1:i4 e1 f.ms avs=some ds) (h2:ck f.ms avs=is) (h:WF f ds fun pr outs=>ckA is (qB f.ms avs) outs.length=true/\Q pr.rv (cJ e1 is outs)):k8 f avs e1 Q:=by
 obtain ⟨pr,outs,h3,h4,h5⟩:=h;subst h2;unfold k8 vh;simp only [h1,h3];rw [Jx h4];exact ⟨_,_,rfl,h5⟩
theorem F7 (h:WE gd o env fun r e=>B9 gd m as r e Q):WE gd (.met m o as) env Q:=by
 obtain ⟨r,e',h1,d0,h2,h3,avs,e2,h4,d,ds,pr,h5,h6,h7,h8⟩:=h;exact ⟨_,_,by simp only [dE,h1,h2];rw [Jx h3];simp only [h4,h5,h6,h7],h8⟩
theorem EX (h0:aU env i=some d) (h1:m.ty d=true) (h:WA gd as env fun avs e2=>WMr m i avs e2 Q):WE gd (.mtr m i as) env Q:=by
 obtain ⟨avs,e2,h4,d,ds,d',x,h5,h6,h7,h8⟩:=h;exact ⟨_,_,by simp only [dE,h0];rw [Jx h1];simp only [h4,h5,h6,h7],h8⟩
theorem B0 (h:WA gd as env fun avs e=>WTp (fun ds=>.dat (.tuple ds)) avs e Q):WE gd (.tup as) env Q:=by
 obtain ⟨avs,e2,h4,ds,h5,h6,h7⟩:=h;exact ⟨_,_,by simp only [dE,h4,h5];rw [Jx h6],h7⟩
theorem DE (h:WA gd as env fun avs e=>WTp (fun ds=>.frs (.list ds)) avs e Q):WE gd (.lst as) env Q:=by
 obtain ⟨avs,e2,h4,ds,h5,h6,h7⟩:=h;exact ⟨_,_,by simp only [dE,h4,h5];rw [Jx h6],h7⟩
theorem Gb (h:WT gd x env fun k e=>if k=true then WE gd a e Q else WE gd b e Q):WE gd (.ifx x a b) env Q:=by
 obtain ⟨k,e',h1,h2⟩:=h;unfold WE;simp only [dE,h1];cases k with
 | true=>exact h2
 | false=>exact h2
theorem DG (h:WE gd a env fun r e=>∃ k,r=.dat (.bool k)/\if k=true then WE gd b e Q else Q (.dat (.bool false)) e):WE gd (.ji a b) env Q:=by
 obtain ⟨r,e',h1,k,rfl,h2⟩:=h;unfold WE;cases k with
 | true=>simp only [dE,h1];exact h2
 | false=>simp only [dE,h1];exact ⟨_,_,rfl,h2⟩
theorem EG (h:WE gd a env fun r e=>∃ k,r=.dat (.bool k)/\if k=true then Q (.dat (.bool true)) e else WE gd b e Q):WE gd (.orv a b) env Q:=by
 obtain ⟨r,e',h1,k,rfl,h2⟩:=h;unfold WE;cases k with
 | true=>simp only [dE,h1];exact ⟨_,_,rfl,h2⟩
 | false=>simp only [dE,h1];exact h2
theorem DJ (h:WE gd a env fun r e=>∃ k,r=.dat (.bool k)/\Q (.dat (.bool (!k))) e):WE gd (.uR a) env Q:=by
 obtain ⟨r,e',h1,k,rfl,h2⟩:=h;exact ⟨_,_,by simp only [dE,h1],h2⟩
theorem E1 (h:WE gd a env fun r e=>WE gd b e fun r2 e2=>∃ x y k,r.av=.dat x/\r2.av=.dat y/\p.f [x,y]=some (.dat (.bool k))/\if k=true then WE gd c e2 fun r3 e3=>∃ z pr,r3.av=.dat z/\p'.f [y,z]=some pr/\Q pr.rv e3 else Q (.dat (.bool false)) e2):WE gd (.chn p p' a b c) env Q:=by
 obtain ⟨r,e',h1,r2,e2,h2,x,y,k,h3,h4,h5,h6⟩:=h;unfold WE;cases k with
 | true =>
  rw [Jx rfl] at h6;obtain ⟨r3,e3,h7,z,pr,h8,h9,h10⟩:=h6;simp only [dE,h1,h2,h3,h4,h5,h7,h8,h9];exact ⟨_,_,rfl,h10⟩
 | false =>
  rw [JD (by decide)] at h6;simp only [dE,h1,h2,h3,h4,h5];exact ⟨_,_,rfl,h6⟩
theorem EL (h:WE gd a env fun r e=>WE gd b e fun r2 e2=>∃ i,r2=.dat (.int i)/\WE gd c e2 fun r3 e3=>∃ j,r3=.dat (.int j)/\∃ d pr,r.view e3=some d/\(g i j).f [d]=some pr/\Q pr.rv e3):WE gd (.sl2 g a b c) env Q:=by
 obtain ⟨r,e',h1,r2,e2,h2,i,rfl,r3,e3,h3,j,rfl,d,pr,h4,h5,h6⟩:=h;exact ⟨_,_,by simp only [dE,h1,h2,h3,h4,h5],h6⟩
theorem Bi (h:∃ kvs e1,dP gd ps env=some (kvs,e1)/\kvs.length<=15/\Q (.frs (.dict (kvs.foldl (fun acc kv=>putD acc (kD kv.1) kv.2) []))) e1):WE gd (.dsp ps) env Q:=by
 obtain ⟨x,e1,h1,h2,h3⟩:=h;exact ⟨_,_,by simp only [dE,h1];rw [Jx h2],h3⟩
def zZ (st:PyData->En->Option (Option PyData×En)) (js:List Nat) (ds:List PyData) (lk:Option Nat) (e1:En) (Q:RV->En->Prop):Prop :=
 ∃ ys ec,uU st ds (cg e1 lk js)=some (ys,ec)/\Q (.frs (.list ys)) (aP e1 js ec)
theorem FG (hn:yc js=true) (h:WI gd it env fun ds lk e1=>zZ (ig (dT gd x) (dE gd a)) js ds lk e1 Q):WE gd (.cmp js it x a) env Q:=by
 obtain ⟨ds,lk,e1,h1,ys,ec,h2,h3⟩:=h;refine ⟨_,_,?_,h3⟩;simp only [dE,h1];rw [Jx (gQ hn),h2]
theorem CG (hn:yc js=true) (h:WI gd it env fun ds lk e1=>zZ (fB n.length (dE gd a)) js ds lk e1 Q):WE gd (.zb n js it a) env Q:=by
 obtain ⟨ds,lk,e1,h1,ys,ec,h2,h3⟩:=h;refine ⟨_,_,?_,h3⟩;simp only [dE,h1];rw [Jx (gQ hn),h2]
def lu (st:PyData->En->Option (Option PyData×En)) (d:PyData) (ec:En) (Q:Option PyData->En->Prop):Prop:=∃ y e,st d ec=some (y,e)/\Q y e
theorem bW (h:WT gd x (.dat d :: ec) fun k e2=>if k=true then WE gd a e2 fun r e3=>∃ y,r.av=.dat y/\QS (some y) e3.tail else QS none e2.tail):lu (ig (dT gd x) (dE gd a)) d ec QS:=by
 obtain ⟨k,e2,h1,h2⟩:=h;unfold lu ig;rw [h1];cases k with
 | true =>
  rw [Jx rfl] at h2;obtain ⟨r,e3,h3,y,h4,h5⟩:=h2;simp only [h3,h4];exact ⟨_,_,rfl,h5⟩
 | false =>
  rw [JD (by decide)] at h2;exact ⟨_,_,rfl,h2⟩
theorem uE (hl:xs.length=n) (h:WE gd a (xs.map .dat++ec) fun r e3=>∃ y,r.av=.dat y/\QS (some y) (e3.drop n)):lu (fB n (dE gd a)) (.tuple xs) ec QS:=by
 obtain ⟨r,e3,h3,y,h4,h5⟩:=h;unfold lu fB;simp only;rw [Jx hl];simp only [h3,h4];exact ⟨_,_,rfl,h5⟩
theorem iU {st:PyData->En->Option (Option PyData×En)} (Inv:Nat->List PyData->En->Prop) (h0:Inv 0 [] (cg e1 lk js))
  (hs:∀ i d ys ec,ds[i]?=some d->Inv i ys ec->lu st d ec fun y e=>Inv (i+1) (ys++y.toList) e)
  (hq:∀ ys ec,Inv ds.length ys ec->Q (.frs (.list ys)) (aP e1 js ec)):zZ st js ds lk e1 Q:=by
 have key:∀ (rest:List PyData) (i:Nat) (ys:List PyData) (ec:En),ds.drop i=rest->i<=ds.length->Inv i ys ec->∃ zs ec',uU st rest ec=some (zs,ec')/\Inv ds.length (ys++zs) ec':=by
  intro rest;induction rest with
  | nil =>
   intro i ys ec hd hi hI;have:ds.length<=i:=Ll.mp hd;have:i=ds.length:=by omega
   subst this;exact ⟨[],ec,rfl,by rw [K2];exact hI⟩
  | cons d rest ih =>
   intro i ys ec hd hi hI;have hlt:i < ds.length:=by
    apply Ki;intro h;rw [Ll.mpr (by omega)] at hd;cases hd
   rw [Lo hlt] at hd;injection hd with hd1 hd2;obtain ⟨y,e,h1,h2⟩:=hs i d ys ec (by rw [Jl hlt,hd1]) hI;obtain ⟨zs,ec',h3,h4⟩:=ih (i+1) _ e hd2 hlt h2;refine ⟨y.toList++zs,ec',?_,by rw [<- List.append_assoc];exact h4⟩;unfold uU;simp only [h1,h3]
 obtain ⟨zs,ec,h1,h2⟩:=key ds 0 [] _ rfl (J9 _) h0;exact ⟨zs,ec,h1,hq zs ec h2⟩
def WB (b:PyData->En->Option Out) (d:PyData) (e:En) (E:Kn):Prop:=∃ o,b d e=some o/\E.at o
theorem FU (hf:free e i=true) (h:WS gd s (e.set i (.dat d)) E):WB (lM i (dS gd s)) d e E:=by
 obtain ⟨o,h1,h2⟩:=h;exact ⟨o,by unfold lM;rw [Jx hf];exact h1,h2⟩
theorem Dw (hf:fx e is xs=some e2) (h:WS gd s e2 E):WB (iI is (dS gd s)) (.tuple xs) e E:=by
 obtain ⟨o,h1,h2⟩:=h;exact ⟨o,by unfold iI;simp only [hf];exact h1,h2⟩
theorem cI {b:PyData->En->Option Out} {ds:List PyData} (Inv:Nat->En->Prop) (h0:Inv 0 e1)
  (hs:∀ i d e,ds[i]?=some d->Inv i e->WB b d e ⟨Inv (i+1),E.rt,E.nx,Inv (i+1)⟩)
  (hq:∀ e,Inv ds.length e->E.nx e):Fz b ds none e1 E:=by
 have key:∀ (rest:List PyData) (i:Nat) (e:En),ds.drop i=rest->i<=ds.length->Inv i e->∃ o,forL b rest e=some o/\E.at o:=by
  intro rest;induction rest with
  | nil =>
   intro i e hd hi hI;have:ds.length<=i:=Ll.mp hd;have:i=ds.length:=by omega
   subst this;exact ⟨_,rfl,hq e hI⟩
  | cons d rest ih =>
   intro i e hd hi hI;have hlt:i < ds.length:=by
    apply Ki;intro h;rw [Ll.mpr (by omega)] at hd;cases hd
   rw [Lo hlt] at hd;injection hd with hd1 hd2;obtain ⟨o,h1,h2⟩:=hs i d e (by rw [Jl hlt,hd1]) hI;unfold forL;simp only [h1];cases o with
   | nx e'=>exact ih (i+1) e' hd2 hlt h2
   | ct e'=>exact ih (i+1) e' hd2 hlt h2
   | bk e'=>exact ⟨_,rfl,h2⟩
   | rt r e'=>exact ⟨_,rfl,h2⟩
 obtain ⟨o,h1,h2⟩:=key ds 0 _ rfl (J9 _) h0;exact ⟨o,rfl,h1,h2⟩
theorem Er (q:QA [] env):WA gd .nil env QA:=⟨_,_,rfl,q⟩
theorem Aq (h:WE gd a env fun r e=>WA gd as e fun avs e2=>QA (r.av :: avs) e2):WA gd (.cons a as) env QA:=by
 obtain ⟨r,e',h1,avs,e2,h2,h3⟩:=h;exact ⟨_,_,by simp only [dA,h1,h2],h3⟩
theorem EH (h:WE gd a env fun r e=>∃ k,r=.dat (.bool k)/\QT k e):WT gd (.tst a) env QT:=by
 obtain ⟨r,e',h1,k,rfl,h2⟩:=h;exact ⟨_,_,by simp only [dT,h1],h2⟩
theorem w_and (h:WT gd x env fun k e=>if k=true then WT gd y e QT else QT false e):WT gd (.and x y) env QT:=by
 obtain ⟨k,e',h1,h2⟩:=h;unfold WT;cases k with
 | true=>simp only [dT,h1];exact h2
 | false=>simp only [dT,h1];exact ⟨_,_,rfl,h2⟩
theorem w_or (h:WT gd x env fun k e=>if k=true then QT true e else WT gd y e QT):WT gd (.or x y) env QT:=by
 obtain ⟨k,e',h1,h2⟩:=h;unfold WT;cases k with
 | true=>simp only [dT,h1];exact ⟨_,_,rfl,h2⟩
 | false=>simp only [dT,h1];exact h2
theorem w_not (h:WT gd x env fun k e=>QT (!k) e):WT gd (.not x) env QT:=by
 obtain ⟨k,e',h1,h2⟩:=h;exact ⟨_,_,by simp only [dT,h1],h2⟩
theorem Fc (h:QT true env):WT gd .yes env QT:=⟨_,_,rfl,h⟩
def DW (r:RV) (e:En) (QI:List PyData->Option Nat->En->Prop):Prop:=(∃ ds,r.av=.dat (.list ds)/\QI ds none e)\/∃ i ds,r.av=.bor i/\cont e i=some (.list ds)/\QI ds (some i) e
theorem IC (h:WE gd a env fun r e=>DW r e QI):WI gd (.lst a) env QI:=by
 obtain ⟨r,e',h1,⟨ds,h2,h3⟩ | ⟨i,ds,h2,h3,h4⟩⟩:=h
 ·exact ⟨_,_,_,by simp only [dI,h1,h2],h3⟩
 ·exact ⟨_,_,_,by simp only [dI,h1,h2,h3],h4⟩
theorem eQ (h:r.av=.dat (.list ds)) (q:QI ds none e):DW r e QI:=.inl ⟨ds,h,q⟩
theorem Iu (h:WE gd a env fun r e=>∃ ds,r.av=.dat (.tuple ds)/\QI ds none e):WI gd (.tup a) env QI:=by
 obtain ⟨r,e',h1,ds,h2,h3⟩:=h;exact ⟨_,_,_,by simp only [dI,h1,h2],h3⟩
theorem IM (h:WE gd a env fun r e=>∃ z,r.av=.dat (.str z)/\QI (z.cps.toList.map fun c=>.str ⟨#[c]⟩) none e):WI gd (.str a) env QI:=by
 obtain ⟨r,e',h1,ds,h2,h3⟩:=h;exact ⟨_,_,_,by simp only [dI,h1,h2],h3⟩
theorem Ib (h:WA gd as env fun avs e=>∃ j:Int,avs=[.dat (.int j)]/\(-(2 ^ 62)<=j/\j<=2 ^ 24)/\QI ((List.range j.toNat).map fun (k:Nat)=>.int ((0:Int)+(k:Int))) none e):WI gd (.rng1 as) env QI:=by
 obtain ⟨r,e',h1,j,rfl,h2,h3⟩:=h;exact ⟨_,_,_,by simp only [dI,h1];rw [Jx h2],h3⟩
end
open PySem
theorem vJ (h:e[i]?=some s) (q:soft s):free e i=true:=by
 unfold free;rw [h];cases s with
 | ino d=>exact absurd rfl (q.1 d)
 | ro d=>exact absurd rfl (q.2 d)
 | _=>rfl
theorem FV:soft .un:=⟨fun _=>nofun,fun _=>nofun⟩
theorem uP:soft (.dat d):=⟨fun _=>nofun,fun _=>nofun⟩
theorem Gd:soft (.own d):=⟨fun _=>nofun,fun _=>nofun⟩
theorem vA (h1:aU e i=some (.list xs)) (h2:xs.length < sizeLine) (h3:de e avs=some [(true,d)]) (q:Q (.dat .none) (gq e i (.list (xs++[d])))):WMr AG i avs e Q :=
 ⟨_,_,.list (xs++[d]),.none,h1,h3,by show (if xs.length < sizeLine then _ else _)=_;rw [Jx h2],q⟩
theorem iM:∀ (ss:List Str),strsOf (ss.map .str)=some ss
 | []=>rfl
 | s :: ss=>by simp only [List.map_cons,strsOf,iM ss]
theorem Bj (h1:r.view e=some (.str z)) (h2:aO e avs=some [.list (ss.map .str)]) (h3:gj z ss=true) (q:Q (.dat (.str (Txt.join z ss))) e):Cc joinM r avs e Q:=by
 refine ⟨_,_,.dat (.str (Txt.join z ss)),h1,h2,?_,q⟩;show (match strsOf (ss.map .str) with | some ss=>if gj z ss=true then some (PR.dat (.str (Txt.join z ss))) else none | none=>none)=_;rw [iM];simp only;rw [Jx h3]
theorem rM (h1:aO e [x,y]=some [.list xs,.list ys]) (h2:xs.length+ys.length<=sizeLine) (q:Q (.frs (.list (xs++ys))) e):WPr cV [x,y] e Q :=
 ⟨_,.frs (.list (xs++ys)),h1,by show (if xs.length+ys.length<=sizeLine then _ else _)=_;rw [Jx h2],q⟩
theorem lE (h1:aO e [x,y]=some [.str xs,.str ys]) (h2:xs.length+ys.length<=sizeLine) (q:Q (.dat (.str (xs++ys))) e):WPr cV [x,y] e Q :=
 ⟨_,.dat (.str (xs++ys)),h1,by show (if xs.length+ys.length<=sizeLine then _ else _)=_;rw [Jx h2],q⟩
theorem w_eq (h1:aO e [x,y]=some [d,d']) (h2:f6 d=true) (h3:f6 d'=true) (q:Q (.dat (.bool (PyData.eqv d d'))) e):WPr eqP [x,y] e Q :=
 ⟨_,.dat (.bool (PyData.eqv d d')),h1,by show (if f6 d=true/\f6 d'=true then _ else _)=_;rw [Jx ⟨h2,h3⟩];rfl,q⟩
theorem IW (h1:aO e [x,y]=some [d,d']) (h2:f6 d=true) (h3:f6 d'=true) (q:Q (.dat (.bool (!PyData.eqv d d'))) e):WPr neP [x,y] e Q :=
 ⟨_,.dat (.bool (!PyData.eqv d d')),h1,by show (if f6 d=true/\f6 d'=true then _ else _)=_;rw [Jx ⟨h2,h3⟩];rfl,q⟩
theorem g8 (h:((List.range n).map fun (k:Nat)=>PyData.int ((0:Int)+(k:Int)))[i]?=some d):d=.int i/\i < n:=by
 rw [Jw] at h;cases q:(List.range n)[i]? with
 | none=>rw [q] at h;cases h
 | some j =>
  rw [q] at h;obtain ⟨hi,e⟩:=Jo.mp q;rw [Kh] at hi;have:j=i:=by rw [<- e];simp
  subst this;cases h;exact ⟨by simp,hi⟩
theorem iQ:((List.range n).map fun (k:Nat)=>PyData.int ((0:Int)+(k:Int))).length=n:=by rw [Jm,Kh]
theorem atV {α:Type} {xs:List α} {r:Int} (h0:0<=r) (h1:r < xs.length):∃ v,v∈xs/\atI xs r=some v:=by
 have hj:r.toNat < xs.length:=by omega
 have ej:r=((r.toNat:Nat):Int):=by omega
 refine ⟨xs[r.toNat],Lb hj,?_⟩;have:=mN (xs:=xs) (j:=r.toNat) (v:=xs[r.toNat]) (Jl hj);rw [<- ej] at this;exact this
theorem cv:∀ (ss:List Str),strsOf (ss.map .str)=some ss
 | []=>rfl
 | s :: ss=>by simp only [List.map_cons,strsOf,cv ss]
theorem jP {α:Type} {xs:List α} {k:Int} (h:0<=k):cutD xs none (some k)=xs.take k.toNat:=by
 unfold cutD;simp only [HT.sIx,List.drop_zero,Nat.sub_zero];rw [JD (by omega)];by_cases z:k.toNat<=xs.length
 ·congr 1;omega
 ·rw [KD (by omega),KD (by omega)]
theorem bj (x:Str):x.cps.toList.length=x.length:=by simp [Str.length]
theorem xo:∀ {ss:List Str},(∀ s∈ss,s.length<=k)->(ss.map (·.length)).sum<=k*ss.length
 | [],_=>by simp
 | s :: ss,h=>by
  have h1:=h s Ju;have h2:=xo fun x hx=>h x (Jr _ hx);simp only [List.map_cons,Lu,JL,Nat.mul_succ];omega
mutual
theorem eqv_refl:∀ d:PyData,noD d=true->PyData.eqv d d=true
 | .none,_=>by simp [PyData.eqv]
 | .bool b,_=>by simp [PyData.eqv]
 | .int i,_=>by simp [PyData.eqv]
 | .str x,_=>by simp [PyData.eqv]
 | .list xs,h=>by simpa [PyData.eqv] using eqvAll_refl xs (by simpa [noD] using h)
 | .tuple xs,h=>by simpa [PyData.eqv] using eqvAll_refl xs (by simpa [noD] using h)
 | .dict _,h=>by simp [noD] at h
theorem eqvAll_refl:∀ ds:List PyData,fG ds=true->PyData.eqvAll ds ds=true
 | [],_=>by simp [PyData.eqvAll]
 | d :: ds,h=>by
  have h':noD d=true/\fG ds=true:=by simpa [fG] using h
  simp [PyData.eqvAll,eqv_refl d h'.1,eqvAll_refl ds h'.2]
end
theorem gO:∀ {ds:List PyData},fG ds=true↔∀ d∈ds,noD d=true
 | []=>by simp [fG]
 | d :: ds=>by simp [fG,gO (ds:=ds)]
theorem iq:∀ {ds:List PyData},(∀ d∈ds,d.depth<=k)->PyData.depthAll ds<=k
 | [],_=>by simp [PyData.depthAll]
 | d :: ds,h=>by
  have h1:=h d Ju;have h2:=iq fun x hx=>h x (Jr _ hx);simp only [PyData.depthAll];omega
theorem jx (h:∀ d∈ds,d.depth<=k):(PyData.list ds).depth<=k+1:=by
 simp only [PyData.depth];have:=iq h;omega
theorem tZ (h1:noD d=true) (h2:d.depth<=64):f6 d=true:=by simp [f6,h1,h2]
open PySem PySem.Spec PyProof.Rows
noncomputable def yP (d:PyData):Bool:=noD d&&decide (d.depth<=32)
noncomputable def z8 (ds:List PyData) (x:PyData):Bool:=ds.any fun d=>PyData.eqv d x
noncomputable def ngB (neg b:Bool):Bool:=if neg then !b else b
def IL (neg:Bool) (K:Fg):R2:=rOr (fun x y H Q=>∃ i j,x=.str i/\y=.str j/\Q (.bl (ngB neg (!(Builtin.Str.occurrences j i 0 j.length 1).isEmpty))) H)
 fun x y H Q=>∃ (p:Addr) (xs:List V) (F:Addr->Prop) (d:PyData) (ds:List PyData),y=.ref p/\(SqL K H p xs\/SqT K H p xs)/\Vw K F H d x/\DmL K F H ds xs/\yP d=true/\fG ds=true/\Q (.bl (ngB neg (z8 ds d))) H
noncomputable def inD (neg:Bool):PyData->PyData->Option PR
 | .str i,.str j=>some (.dat (.bool (ngB neg (!(Builtin.Str.occurrences j i 0 j.length 1).isEmpty))))
 | x,.list ds=>if yP x=true/\fG ds=true then some (.dat (.bool (ngB neg (z8 ds x)))) else none
 | x,.tuple ds=>if yP x=true/\fG ds=true then some (.dat (.bool (ngB neg (z8 ds x)))) else none
 | _,_=>none
noncomputable def IE (neg:Bool):Prm:=Prm.two (IL neg) (inD neg) fun K F H x y u v pr Q hf hx hy hd q=>by
 unfold inD at hf;split at hf
 ·cases hf;exact .inl ⟨_,_,(vStr hx).1,(vStr hy).1,q _ H (aE.rf H) rfl⟩
 ·split at hf
  ·rename_i h;cases hf;obtain ⟨a,us,rfl,s1,z1,d1⟩:=jh hy;exact .inr ⟨a,us,F,_,_,rfl,.inl s1,hx,d1,h.1,h.2,q _ H (aE.rf H) rfl⟩
  ·cases hf
 ·split at hf
  ·rename_i h;cases hf;obtain ⟨a,us,rfl,s1,z1,d1⟩:=qC hy;exact .inr ⟨a,us,F,_,_,rfl,.inr s1,hx,d1,h.1,h.2,q _ H (aE.rf H) rfl⟩
  ·cases hf
 ·cases hf
noncomputable abbrev inP:Prm:=IE false
open Classical in
noncomputable def eqR (h:Heap) (x:PyData) (u:Value):Bool:=if q:∃ d as,Reads h u d as then PyData.eqv (Classical.choose q) x else false
theorem wM (r:Reads h u d as):eqR h x u=PyData.eqv d x:=by
 have q:∃ d as,Reads h u d as:=⟨d,as,r⟩;unfold eqR;rw [dif_pos q];obtain ⟨bs,r2⟩:=Classical.choose_spec q;rw [(PySem.Reads.unique r _ _ r2).1]
section
variable {X:Cx} {pins:List (Addr×Obj)} {Z:St} {s:Shared} {H:Hp} {F:Addr->Prop}
theorem nG (I:Inv X pins Z H s) (x:PyData):∀ {ds:List PyData} {xs:List V} {us:List Value},DmL X.K F H ds xs->fG ds=true->Vals xs us->us.any (eqR s.heap x)=z8 ds x
 | [],xs,us,h,_,r=>by rw [show xs=[] from h] at r;cases r;rfl
 | d :: ds,xs,us,h,n,r=>by
  obtain ⟨v,t,rfl,h1,h2⟩:=h;have n':noD d=true/\fG ds=true:=by simpa [fG] using n
  cases r with
  | cons r1 r2 =>
   obtain ⟨as,ra⟩:=h1.reads I n'.1 r1;rw [LL,wM ra,nG I x h2 n'.2 r2];rfl
theorem nO (I:Inv X pins Z H s) (rb:Reads s.heap b x bs) (hb:x.canLay0=true) (hu:A.units+x.depth < cLine):∀ {ds:List PyData} {xs:List V} {us:List Value},DmL X.K F H ds xs->fG ds=true->Vals xs us->∀ u∈us,SeqAt.EqAt A s u b (eqR s.heap x u)
 | [],xs,us,h,_,r=>by rw [show xs=[] from h] at r;cases r;intro u hu;cases hu
 | d :: ds,xs,us,h,n,r=>by
  obtain ⟨v,t,rfl,h1,h2⟩:=h;have n':noD d=true/\fG ds=true:=by simpa [fG] using n
  cases r with
  | cons r1 r2 =>
   intro u hm;rcases JJ.mp hm with rfl | hm
   ·obtain ⟨as,ra⟩:=h1.reads I n'.1 r1;rw [wM ra];exact SeqAt.eqAt_reads d x A s _ b as bs ra rb (h1.lay n'.1) hb (by omega)
   ·exact nO I rb hb hu h2 n'.2 r2 u hm
end
theorem bY (hu:X.A.units+64 < cLine):OpR X (compareOp .In) (fun x y=>inP.r X.K [x,y]):=by
 refine orR Dq ?_;intro pins s Z H x y v u Q I rx ry h;obtain ⟨p,xs,F,d,ds,rfl,hq,hd,hs,o1,o2,q⟩:=h;have o1':noD d=true/\d.depth<=32:=by simpa [yP] using o1
 cases ry;obtain ⟨bs,rb⟩:=hd.reads I o1'.1 rx;rcases hq with hq | hq
 ·obtain ⟨its,r,pl,hz⟩:=I.list hq;refine SeqAt.in_listAt (eqR s.heap d) pl.isList (fun w hw=>nO I rb (hd.lay o1'.1) (by have:X.A.in1.units=X.A.units+1:=rfl;omega) hs o2 r w (by simpa using hw)) ⟨.bl _,H,I,rfl,?_⟩;rw [show its.toArray.any (eqR s.heap d)=its.any (eqR s.heap d) by simp,nG I d hs o2 r];exact q
 ·obtain ⟨its,r,pl,hz⟩:=I.tuple hq;refine SeqAt.in_tupleAt (eqR s.heap d) pl (fun w hw=>nO I rb (hd.lay o1'.1) (by have:X.A.in1.units=X.A.units+1:=rfl;omega) hs o2 r w (by simpa using hw)) ⟨.bl _,H,I,rfl,?_⟩;rw [show its.toArray.any (eqR s.heap d)=its.any (eqR s.heap d) by simp,nG I d hs o2 r];exact q
theorem gE.no {P:Program} {w:World} {K:Fg} {mg:Str->Option Value} {base:Heap} {k:Nat} {f:Addr} {fd:FuncData} {ps:List Str} {sp:Sp} {x qual:Str} {st:Stmt} {N:List Str} (F:Fun K x qual st f fd) (S:cK N ps (ae st)) (h:∀ vs H Q E,¬sp vs H Q E):gE P w K mg base CX0 (k+1) f fd ps sp :=
 F.okJ S (fun vs H Q E z=>(h vs H Q E z).elim) (fun cdv A outer s H vs Q E hr z=>(h vs H Q E z).elim)
open PySem
section
variable {gd:List PyData} {env e1:En} {Q:RV->En->Prop} {a:XE} {as:XA}
theorem CW (h1:aO e [x,y]=some [.int i,.int j]) (h2:-(2 ^ 64) < j) (h3:j < 2 ^ 64) (q:Q (.dat (.int (i*j))) e):WPr qD [x,y] e Q :=
 ⟨_,.dat (.int (i*j)),h1,Jx (by simp only [mulC,Mc,JU,KQ];exact .inr ⟨h2,h3⟩),q⟩
end
open PySem PySem.Spec PyProof.Rows
noncomputable def fg (ww:World):Bool:=ww.params.followText "set-order"
structure zJ (ww:World) (tb:SetTable) (n:Nat):Prop where
 fit:tb.fits n=true
 led:tb.led=!fg ww
 pln:n≠0->tb.plain=false
theorem jQ (tb:SetTable) (n:Nat):(tb.orStandIn n).led=tb.led:=by
 unfold SetTable.orStandIn;split <;> rfl
theorem x5 (tb:SetTable) (es:Array (Int×Value)) (hs:Int) (x:Value):(layNew tb es hs x).2.1.led=tb.led:=by
 unfold layNew;cases q:tb.freeSlot hs with
 | none=>rfl
 | some p =>
  obtain ⟨sl,wd⟩:=p;exact jQ _ _
theorem rF (tb:SetTable) (es:Array (Int×Value)) (k:Nat):(relayAll tb es k).2.1.led=tb.led/\(tb.plain=false->(relayAll tb es k).2.1.plain=false):=by
 unfold relayAll;cases q:tb.relaid (es.map (·.1)) k with
 | none=>exact ⟨rfl,fun _=>rfl⟩
 | some p =>
  obtain ⟨t2,ord⟩:=p;dsimp only;split
  ·unfold SetTable.relaid SetTable.laid at q;cases ho:SetTable.layClean (SetTable.sizeAbove k - 1) (es.map (·.1)) with
   | none=>rw [ho] at q;cases q
   | some ow =>
    rw [ho] at q;simp only [Option.bind_eq_bind,Option.bind_some,Option.pure_def,Option.some.injEq,Prod.mk.injEq] at q;obtain ⟨rfl,_⟩:=q;exact ⟨rfl,fun z=>z⟩
  ·exact ⟨rfl,fun _=>rfl⟩
def cT (pr:Program) (ww:World) (h:Heap) (a:Addr) (ss:List Str):Prop :=
 ∃ ob es ep tb,h.get? a=some ob/\ob.ExactSet/\ob.data=.set es ep tb/\ElemsOf (strKind pr ww) es.toList/\(∃ zs,StrsAre (es.toList.map (·.2)) zs/\zs.Perm ss)/\es.size < scanBound/\zJ ww tb es.size
noncomputable def i7 (ss:List Str) (x:Str):List Str:=if x∈ss then ss else ss++[x]
theorem pB:∀ {es:List (Int×Value)} {zs:List Str},StrsAre (es.map (·.2)) zs->((∃ e∈es,Value.isStrOf x e.2=true)↔x∈zs)
 | [],[],_=>by simp
 | e :: es,_,h=>by
  obtain ⟨hs,v⟩:=e;rw [List.map_cons] at h;cases h with
  | cons y tk h =>
   have ih:=pB (x:=x) h;have hd:Value.isStrOf x (.str y tk)=true↔x=y:=by
    constructor
    ·intro q;obtain ⟨_,q⟩:=Value.isStrOf_shape q;injection q with q _;exact q.symm
    ·rintro rfl;simp [Value.isStrOf]
   simp only [JJ,exists_eq_or_imp];rw [ih];exact or_congr hd Iff.rfl
theorem cp:∀ {us vs:List Value},us.Perm vs->∀ {zs:List Str},StrsAre vs zs->∃ ws,StrsAre us ws/\ws.Perm zs
 | _,_,.nil,zs,h=>by cases h;exact ⟨[],.nil,.nil⟩
 | _,_,.cons v p,zs,h=>by
  cases h with
  | cons y tk h =>
   obtain ⟨ws,a,b⟩:=cp p h;exact ⟨y :: ws,.cons y tk a,.cons y b⟩
 | _,_,.swap v u l,zs,h=>by
  cases h with
  | cons y tk h =>
   cases h with
   | cons z tk' h=>exact ⟨_,.cons z tk' (.cons y tk h),.swap _ _ _⟩
 | _,_,.trans p q,zs,h=>by
  obtain ⟨ws,a,b⟩:=cp q h;obtain ⟨vs,c,d⟩:=cp p a;exact ⟨vs,c,d.trans b⟩
theorem strs_snoc:∀ {us:List Value} {zs:List Str},StrsAre us zs->StrsAre (us++[.str x tk]) (zs++[x])
 | _,_,.nil=>.cons x tk .nil
 | _,_,.cons y t h=>.cons y t (strs_snoc h)
theorem bN:∀ {us:List Value} {zs:List Str},StrsAre us zs->us.length=zs.length
 | _,_,.nil=>rfl
 | _,_,.cons y t h=>by rw [JL,JL,bN h]
section
variable {pr:Program} {ww:World} {AA:Around} {EE:Value->Shared->Prop} {st:Shared}
theorem cT.size (z:cT pr ww h a ss):∃ ob es ep tb,h.get? a=some ob/\ob.data=.set es ep tb/\es.size=ss.length:=by
 obtain ⟨ob,es,ep,tb,h1,_,h2,_,⟨zs,h3,h4⟩,_⟩:=z;refine ⟨ob,es,ep,tb,h1,h2,?_⟩;have:=bN h3;rw [Jm,JQ] at this;rw [this,h4.length_eq]
theorem qI {a:Addr} {ob:Obj} {es es':Array (Int×Value)} {ep:Nat} {tb tb':SetTable} {ss:List Str} {h:Heap} (ho:h.get? a=some ob) (hx:ob.ExactSet) (hd:ob.data=.set es ep tb)
  (he:ElemsOf (strKind pr ww) es'.toList) (hz:∃ zs,StrsAre (es'.toList.map (·.2)) zs/\zs.Perm ss) (hb:es'.size < scanBound) (ht:zJ ww tb' es'.size) :
  (h.update a (Obj.putSet es' tb')).get? a=some { ob with data:=.set es' (ep+1) tb' }/\cT pr ww (h.update a (Obj.putSet es' tb')) a ss:=by
 have hg:(h.update a (Obj.putSet es' tb')).get? a=some { ob with data:=.set es' (ep+1) tb' }:=by
  have q:=Kl (Obj.putSet es' tb') ho (by rw [putSet_of es' tb' hd];rfl);rw [putSet_of es' tb' hd] at q;exact q
 exact ⟨hg,_,es',ep+1,tb',hg,hx,rfl,he,hz,hb,ht⟩
theorem xQ {gg:Bool->Sem Unit} (hg:∀ (b:Bool) (s1:Shared) (Q':Unit->Shared->Prop),Q' () s1->wpAny (model pr ww) AA (gg b) Q' EE s1)
  {a:Addr} {ob:Obj} {es e1:Array (Int×Value)} {ep:Nat} {tb t2:SetTable} {ss:List Str} {wd:Bool} {RR:Option Bool->Shared->Prop} (ho:st.heap.get? a=some ob) (hx:ob.ExactSet) (hd:ob.data=.set es ep tb)
  (he:ElemsOf (strKind pr ww) e1.toList) (hz:∃ zs,StrsAre (e1.toList.map (·.2)) zs/\zs.Perm ss) (hb:e1.size < scanBound) (ht:zJ ww t2 e1.size) (hp:t2.plain=false)
  (h:∀ h',Heap.SameBut a st.heap h'->cT pr ww h' a ss->RR (some true) { st with heap:=h' }) :
  wpAny (model pr ww) AA (do
    storeSet a e1 t2
    if (!wd&&t2.tooFull)=true then do
      gg (relayAll t2 e1 (SetTable.grown e1.size)).2.2
      storeSet a (relayAll t2 e1 (SetTable.grown e1.size)).1 (relayAll t2 e1 (SetTable.grown e1.size)).2.1
      pure (some true)
     else pure (some true)) RR EE st:=by
 refine Jk (wpAny_storeSet_of ho hd ?_ (fits_of_scanBound hb));obtain ⟨ho1,hS1⟩:=qI (pr:=pr) (ww:=ww) ho hx hd he hz hb ht;have sb:=KR st.heap a (Obj.putSet e1 t2);split
 ·have pm:=relayAll_perm t2 e1 (SetTable.grown e1.size);have ft:=relayAll_fits t2 e1 (SetTable.grown e1.size);have ld:=rF t2 e1 (SetTable.grown e1.size);generalize relayAll t2 e1 (SetTable.grown e1.size)=Y at pm ft ld ⊢;obtain ⟨e2,t3,gv⟩:=Y;dsimp only at pm ft ld ⊢;have sz:e2.size=e1.size:=by rw [<- JQ,pm.length_eq,JQ]
  have hb2:e2.size < scanBound:=by rw [sz];exact hb
  have hz2:∃ zs,StrsAre (e2.toList.map (·.2)) zs/\zs.Perm ss:=by
   obtain ⟨zs,z1,z2⟩:=hz;obtain ⟨ws,w1,w2⟩:=cp (pm.map (·.2)) z1;exact ⟨ws,w1,w2.trans z2⟩
  refine Jk (hg _ _ _ ?_);refine Jk (wpAny_storeSet_of ho1 rfl ?_ (fits_of_scanBound hb2));obtain ⟨_,hS2⟩:=qI (pr:=pr) (ww:=ww) (tb':=t3) ho1 hx rfl (he.perm pm) hz2 hb2 ⟨ft,ld.1.trans ht.led,fun _=>ld.2 hp⟩;exact Jn (h _ (sb.trans (KR _ a _)) hS2)
 ·exact Jn (h _ sb hS1)
theorem FE (hS:cT pr ww st.heap a ss) (room:ss.length+1 < scanBound)
  (h:∀ b h',Heap.SameBut a st.heap h'->cT pr ww h' a (i7 ss x)->Q b { st with heap:=h' }) :
  wpAny (model pr ww) AA (setAddHashed a (.str x tk) (hashStr ww x)) Q EE st:=by
 obtain ⟨ob,es,ep,tb,ho,hx,hd,he,⟨zs,hz1,hz2⟩,hb,ht⟩:=hS;have key:(strKind pr ww).is x (.str x tk)=true:=by show Value.isStrOf x (.str x tk)=true;simp [Value.isStrOf]
 have sc:(Value.str x tk).scannable=true:=rfl;have sz:es.size=ss.length:=by
  have:=bN hz1;rw [Jm,JQ] at this;rw [this,hz2.length_eq]
 unfold setAddHashed setAddHashedIn;refine Kc (Jk (Kx ho hd ht.fit ?_));dsimp only;rw [byScan_of sc hb he];simp only [↓reduceIte];unfold setAddByScan;refine Jk ?_;refine Jk (Le ?_);refine Jk (wpAny_setScan_of (knd:=strKind pr ww) (k:=x) key ho hd ht.fit he ?_);have mem:(∃ e∈es.toList,Value.isStrOf x e.2=true)↔x∈ss:=(pB hz1).trans hz2.mem_iff;cases hr:List.findIdx? (fun e:Int×Value=>(strKind pr ww).is x e.2) es.toList with
 | some j =>
  dsimp only;obtain ⟨hj,hpj,_⟩:=List.findIdx?_eq_some_iff_getElem.mp hr;have hin:x∈ss:=mem.mp ⟨es.toList[j],Lb hj,hpj⟩;refine Jn (Jn ?_);have q:=h false st.heap (Heap.SameBut.refl a st.heap) ⟨ob,es,ep,tb,ho,hx,hd,he,⟨zs,hz1,by unfold i7;rw [Jx hin];exact hz2⟩,hb,ht⟩;cases st;exact q
 | none =>
  dsimp only;have hin:x ∉ ss:=fun hh=>by
   obtain ⟨e,hm,hp⟩:=mem.mpr hh;have:=List.findIdx?_eq_none_iff.mp hr e hm;rw [show (strKind pr ww).is x e.2=true from hp] at this;cases this
  have gw:∀ (b:Bool) (s1:Shared) (Q':Unit->Shared->Prop),Q' () s1->wpAny (model pr ww) AA (match b with | true=>rule "set.scan.the-table-gave-way" | false=>pure ()) Q' EE s1 :=
   fun b s1 Q' hq=>by cases b <;> first | exact Jn hq | exact Le hq
  have pm:=layNew_perm tb es (hashStr ww x) (.str x tk);have ft:=layNew_fits tb es (hashStr ww x) (.str x tk);have ld:=x5 tb es (hashStr ww x) (.str x tk);have hkk:(strKind pr ww).hash x=hashStr ww x:=rfl;generalize layNew tb es (hashStr ww x) (.str x tk)=Y at pm ft ld ⊢;obtain ⟨e1,t1,wd,gv⟩:=Y;dsimp only at pm ft ld ⊢;rw [LF] at pm;have he1:ElemsOf (strKind pr ww) e1.toList:=(he.push key sc).perm pm;have sz1:e1.size=ss.length+1:=by rw [<- JQ,pm.length_eq,Js,JQ,sz];rfl
  have hz':∃ zs,StrsAre (e1.toList.map (·.2)) zs/\zs.Perm (i7 ss x):=by
   have p2:=pm.map (·.2);rw [Kb] at p2;obtain ⟨ws,w1,w2⟩:=cp p2 (strs_snoc (x:=x) (tk:=tk) hz1);refine ⟨ws,w1,w2.trans ?_⟩;unfold i7;rw [JD hin];exact hz2.append_right _
  have hb1:e1.size < scanBound:=by rw [sz1];exact room
  refine Jk (gw _ _ _ ?_);split
  ·refine Jk ?_;rw [hashByValue_scannable 8 sc];refine Jn ?_;refine xQ (gg:=fun b=>match b with | true=>rule "set.scan.the-table-gave-way" | false=>pure ()) gw ho hx hd he1 hz' hb1 (t2:={ t1 with plain:=false }) ⟨SetTable.fits_plain_off ft,ld.trans ht.led,fun _=>rfl⟩ rfl ?_;intro h' sb hS';dsimp only;exact Jn (h _ h' sb hS')
  ·rename_i npl;have npl:t1.plain=false:=by simpa using npl
   refine Jk (Jn ?_);simp only [↓reduceIte];refine xQ (gg:=fun b=>match b with | true=>rule "set.scan.the-table-gave-way" | false=>pure ()) gw ho hx hd he1 hz' hb1 (t2:=t1) ⟨ft,ld.trans ht.led,fun _=>npl⟩ npl ?_;intro h' sb hS';dsimp only;exact Jn (h _ h' sb hS')
end
open PySem PySem.Spec PyProof.Rows
noncomputable def wD (val:Nat->Str) (i:Nat):List Str:=((List.range i).map val).foldl i7 []
theorem lH (val:Nat->Str) (i:Nat):wD val (i+1)=i7 (wD val i) (val i):=by
 unfold wD;rw [List.range_succ,Kb,List.foldl_append];rfl
theorem oW (val:Nat->Str):∀ i,(wD val i).length<=i
 | 0=>Jt _
 | i+1=>by
  have ih:=oW val i;rw [lH];unfold i7;split
  ·omega
  ·rw [Js];show _+1<=_;omega
section
variable {pr:Program} {ww:World} {AA:Around} {RR:Result->Shared->Prop} {IT:Addr} {fp wr:List Addr} {GG:Array GenState->Array GenState->Prop} {n:Nat} {PP:Nat->Value->Prop} {SS:Nat->Shared->Prop}
theorem cT.at (z:cT pr ww h a ss) (k:∀ o,h.get? a=some o->h'.get? a=some o):cT pr ww h' a ss:=by
 obtain ⟨ob,es,ep,tb,ho,r⟩:=z;exact ⟨ob,es,ep,tb,k _ ho,r⟩
theorem Ei (W:WalksS pr ww AA.in1 IT fp wr GG n PP SS) (a:Addr) (ha:a ∉ fp) (val:Nat->Str) (hv:∀ i v,PP i v->∃ t,v=.str (val i) t) (hb:n+1 < scanBound) :
  ∀ (k i:Nat) (s:Shared),n - i=k->i<=n->SS i s->cT pr ww s.heap a (wD val i) ->
   (∀ s',Moved (a :: wr) GG s s'->cT pr ww s'.heap a (wD val n)->RR (.ok (.ret .none)) s') ->
   codeAny (model pr ww) AA (.builtin "set.update.loop" ⟨[.ref a,.ref IT],[]⟩) RR s:=by
 have haw:a ∉ wr:=fun z=>ha (W.sub _ z);have hsb:∀ b∈wr,b∈a :: wr:=fun b z=>Jr _ z;intro k;induction k with
 | zero =>
  intro i s hk hi hst hS hR;obtain rfl:i=n:=by omega
  refine Lg L7 ?_;rw [K5 Ld _];show wpAny _ AA.in1 (pyNext (.ref IT)>>=_) _ _ s;refine Jk (W.done s _ _ hst fun s' hm=>?_);exact Jn (hR s' (hm.mono hsb) (hS.at fun o q=>hm.heap a _ haw q))
 | succ k ih =>
  intro i s hk hi hst hS hR;have hlt:i < n:=by omega
  refine Lg L7 ?_;rw [K5 Ld _];show wpAny _ AA.in1 (pyNext (.ref IT)>>=_) _ _ s;refine Jk (W.item i s _ _ hlt hst fun v s' hP hst' hm=>?_);obtain ⟨t,rfl⟩:=hv i v hP;have hS':cT pr ww s'.heap a (wD val i):=hS.at fun o q=>hm.heap a _ haw q;show wpAny _ AA.in1 (holding [Value.str (val i) t] (setAdd a (.str (val i) t))>>=_) _ _ s';refine Jk (Kc ?_);unfold setAdd;refine Kc ?_;refine Jk ((strKind pr ww).pyHash (k:=val i) (by show Value.isStrOf (val i) (.str (val i) t)=true;simp [Value.isStrOf]) ?_);refine FE (st:={ s' with toks:=s'.toks+1 }) hS' (by have:=oW val i;omega) fun bb h' hsm hS2=>?_;rw [<- lH] at hS2;refine Jn ⟨plainId_quiet Ld _,ih (i+1) _ (by omega) hlt (W.frame _ s' _ _ hst' (Kz _) fun b hb o e=>?_) hS2 fun s'' hm'' hS''=>?_⟩
  ·rw [hsm.2 b (fun z:b=a=>ha (by rw [<- z];exact hb))];exact e
  ·refine hR s'' (Moved.trans W.gtrans ((hm.mono hsb).then_heap (Kz _) fun b o hb e=>?_) hm'') hS'';rw [hsm.2 b (fun z:b=a=>hb (by rw [z];exact Ju))];exact e
end
theorem t9:∀ {us:List Value} {zs:List Str},StrsAre us zs->∀ (i:Nat) (v:Value),us[i]?=some v->∃ t,v=.str (zs.getD i Str.empty) t
 | _,_,.nil,i,v,h=>by simp at h
 | _,_,.cons y t h,0,v,q=>by
  simp only [List.getElem?_cons_zero,Option.some.injEq] at q;exact ⟨t,q.symm⟩
 | _,_,.cons y t h,i+1,v,q=>by
  simp only [List.getElem?_cons_succ] at q;exact t9 h i v q
theorem map_getD (ss:List Str):(List.range ss.length).map (fun i=>ss.getD i Str.empty)=ss:=by
 apply List.ext_getElem
 ·simp
 ·intro i h1 h2;simp [h2]
section
variable {pr:Program} {ww:World} {AA:Around} {EE:Value->Shared->Prop} {st:Shared}
noncomputable abbrev jf (ww:World):Obj:={ cls:=.type "set", dict:=none,data:=.set #[] 0 (.fresh 0 0 (!fg ww)) }
theorem Fq (v:Value) (h:Q (.ref st.heap.objs.size) { st with heap:=st.heap.push (jf ww) }) :
  codeAny (model pr ww) AA (.call (.builtin "set.__new__") ⟨[.type "set", v],[]⟩) (wants Q EE) st:=by
 refine codeAny_of_tree ?_;show wpAny _ AA.in1 (do checkBuiltinCall "set.__new__" ⟨[.type "set", v],[]⟩;again (.builtin "set.__new__" ⟨[.type "set", v],[]⟩)) _ _ st;refine Jk (wpAny_of_eq (F.newCall_set_1 v) (Jn ⟨plainId_quiet F.plain_set_new _,Lg F.entry_set_new ?_⟩));rw [K5 F.plain_set_new _];unfold Builtin.«set.__new__» Builtin.Frozenset.newClass
 have hsub:=sub_set_self;obtain ⟨h0,g0,d0,t0,o0⟩:=st;dsimp only at h ⊢
 wp_walk
 refine wpAny_askSetting (Jn ?_);dsimp only;simp only [newObj];refine Jk (wpAny_alloc (Jn ?_));exact Jn h
theorem yY (hg:h.get? a=some (jf ww)):cT pr ww h a [] :=
 ⟨_,#[],0,_,hg,⟨rfl,rfl,rfl⟩,rfl,fun e he=>by simp at he,⟨[],.nil,.nil⟩,by decide,⟨rfl,rfl,fun z=>absurd rfl z⟩⟩
theorem oQ {l:Addr} {its:Array Value} {tn:String} {G:Heap->Prop} {Q:Value->Shared->Prop} (hh:AA.handled=none) (ht:tn = "list" \/ tn = "tuple") (hl:∃ o,st.heap.get? l=some o/\o.cls=.type tn/\∃ n,o.data=.seq its n)
  (hupd:∀ {RR:Result->Shared->Prop} {GG:Array GenState->Array GenState->Prop} {SS:Nat->Shared->Prop} (s:Shared),WalksS pr ww AA.in1.in1.in1 (st.heap.objs.size+1) [st.heap.objs.size+1,l] [st.heap.objs.size+1] GG its.size (fun i v=>its[i]?=some v) SS->SS 0 s->st.heap.objs.size ∉ [st.heap.objs.size+1,l]->s.heap.get? st.heap.objs.size=some (jf ww)->(∀ b o,st.heap.get? b=some o->s.heap.get? b=some o)->(∀ s',Moved [st.heap.objs.size,st.heap.objs.size+1] GG s s'->G s'.heap->RR (.ok (.ret .none)) s')->codeAny (model pr ww) AA.in1.in1 (.builtin "set.update.loop" ⟨[.ref st.heap.objs.size,.ref (st.heap.objs.size+1)],[]⟩) RR s)
  (h:∀ (h':Heap) (tk:Nat),G h'->(∀ b o,b < st.heap.objs.size->st.heap.get? b=some o->h'.get? b=some o)->Q (.ref st.heap.objs.size) { st with heap:=h',toks:=tk }) :
  wpAny (model pr ww) AA (call (.type "set") [.ref l]) Q EE st:=by
 obtain ⟨cc,tl,hmro⟩:=F.called_set.mro;have hmade:=F.called_set.made;have hsub:=F.called_set.sub;refine wpAny_call (codeAny_of_tree ?_);show wpAny _ _ (callAny (.type "set") _) _ _ _;refine Jn ⟨Code.quiet_builtin _ (by decide +kernel),Lg F.entry_type_call ?_⟩;rw [Around.under_plain (weight_type_call_type "set" [.ref l] []) rfl];have h1:=F.called_set.notType;have h2:=F.called_set.canCreate;have hct:=F.typeCall_set_1 (.ref l)
 repeat (any_goals (first | assumption | wp_step))
 refine codeAny_mono (Fq (.ref l) (EE:=EE) (Q:=fun obj s1=>obj=.ref st.heap.objs.size/\s1={ st with heap:=st.heap.push (jf ww) }) ⟨rfl,rfl⟩) fun r s1 hr=>?_;cases r with
 | error e=>exact hr
 | ok fl =>
  cases fl with
  | ret obj =>
   obtain ⟨rfl,rfl⟩:=hr;have hS:(st.heap.push (jf ww)).get? st.heap.objs.size=some (jf ww):=JN _ rfl;have hT:Shared.TypeIs { st with heap:=st.heap.push (jf ww) } (.ref st.heap.objs.size) "set" := ⟨_,hS,rfl⟩;have hli:=F.called_set.init.lookup;have hbi:=F.called_set.init.bind (.ref st.heap.objs.size)
   repeat (any_goals (first | assumption | wp_step))
   refine codeAny_mono (codeAny_call_builtin (R:=wants (fun r s2=>r=.none/\∃ h' tk,s2={ st with heap:=h',toks:=tk }/\G h' /\
     (∀ b o,b < st.heap.objs.size->st.heap.get? b=some o->h'.get? b=some o)) EE) F.called_set.init.plain F.entry_set_init (check_set_init_1 hT ?_)) fun r2 s2 hr2=>?_
   ·obtain ⟨ol,hol,hcl,nl,hdl⟩:=hl;obtain ⟨c1,c2,c3,c4⟩:=ol;simp only at hcl hdl;subst hcl;subst hdl;have hol2:(st.heap.push (jf ww)).get? l=some { cls:=.type tn,dict:=c2,data:=.seq its nl,slots:=c4 }:=Jp _ hol;have hsls:isSubtype (.type tn) (.type "set")=pure false:=by rcases ht with rfl | rfl;exact F.sub_list_set;exact F.sub_tuple_set
    have hslf:isSubtype (.type tn) (.type "frozenset")=pure false:=by rcases ht with rfl | rfl;exact F.sub_list_frozenset;exact F.sub_tuple_frozenset
    have hne:(Value.type tn==Value.type "dict")=false:=by rcases ht with rfl | rfl <;> decide
    unfold Builtin.«set.__init__» noKeywords Builtin.Frozenset.updateFrom
    generalize hPI:pyIter=PI
    wp_walk
    subst hPI;have hlS:l < st.heap.objs.size:=JB hol;have sz1:(st.heap.push (jf ww)).objs.size=st.heap.objs.size+1:=Heap.size_push ..;have hh3:AA.in1.in1.in1.handled=none:=by simp [hh]
    have hneI:l≠st.heap.objs.size+1:=JY (Ky hlS);have hSf:st.heap.objs.size ∉ [st.heap.objs.size+1,l]:=by
     simp only [JJ,Jv,List.not_mem_nil,Lk,not_or];exact ⟨JY (Nat.lt_succ_self _),Nat.ne_of_gt hlS⟩
    rcases ht with rfl | rfl
    all_goals
     first
      | refine wpAny_pyIter_list ⟨_,hol2,rfl,nl,rfl⟩ (Jk (wpAny_runValue ?_))
      | refine wpAny_pyIter_tuple ⟨_,hol2,rfl,nl,rfl⟩ (Jk (wpAny_runValue ?_))
     dsimp only;rw [sz1];first
      | refine hupd _ ((Walks.list hh3 _ l hneI its).toS) ⟨⟨_,by rw [<- sz1];exact JN _ rfl,rfl,rfl⟩,⟨_,Jp _ hol2,rfl,nl,rfl⟩⟩ hSf (Jp _ hS) (fun b o e=>Jp _ (Jp _ e)) fun s' hm hS'=>?_
      | refine hupd _ ((Walks.tuple hh3 _ l hneI its).toS) ⟨⟨_,by rw [<- sz1];exact JN _ rfl,rfl,rfl⟩,⟨_,Jp _ hol2,rfl,nl,rfl⟩⟩ hSf (Jp _ hS) (fun b o e=>Jp _ (Jp _ e)) fun s' hm hS'=>?_
     obtain ⟨h',g',d',tk',os'⟩:=s';have eg:g'=st.gens:=hm.gens;have ed:d'=st.drawn:=hm.drawn;have eo:os'=st.os:=hm.os;subst eg;subst ed;subst eo;show wpAny _ _ _ _ _ _;refine Jn ?_;show wpAny _ _ (ret Value.none) _ _ _;refine Jn ⟨rfl,h',tk',rfl,hS',fun b o hb e=>?_⟩;exact hm.heap b o (by simp only [JJ,Jv,List.not_mem_nil,Lk,not_or];exact ⟨JY hb,JY (Ky hb)⟩) (Jp _ (Jp _ e))
   ·cases r2 with
    | error e=>exact hr2
    | ok fl2 =>
     cases fl2 with
     | ret r =>
      obtain ⟨rfl,h',tk,rfl,hS',hk'⟩:=hr2
      repeat (any_goals (first | assumption | wp_step))
      exact h _ _ hS' hk'
     | _=>exact hr2.elim
  | _=>exact hr.elim
theorem ma (hh:AA.handled=none) (ht:tn = "list" \/ tn = "tuple") (hl:∃ o,st.heap.get? l=some o/\o.cls=.type tn/\∃ n,o.data=.seq its n) (hi:StrsAre its.toList ss) (hb:its.size+1 < scanBound)
  (h:∀ (h':Heap) (tk:Nat),cT pr ww h' st.heap.objs.size (ss.foldl i7 [])->(∀ b o,b < st.heap.objs.size->st.heap.get? b=some o->h'.get? b=some o)->Q (.ref st.heap.objs.size) { st with heap:=h',toks:=tk }) :
  wpAny (model pr ww) AA (call (.type "set") [.ref l]) Q EE st:=by
 refine oQ (G:=fun h'=>cT pr ww h' st.heap.objs.size (ss.foldl i7 [])) hh ht hl (fun s W s0 hSf hS hk q=>?_) h;have e1:its.size=ss.length:=by rw [<- bN hi,JQ]
 have hmet:wD (fun i=>ss.getD i Str.empty) its.size=ss.foldl i7 []:=by
  rw [e1];unfold wD;rw [map_getD]
 refine Ei W _ hSf (fun i=>ss.getD i Str.empty) (fun i v hv=>t9 hi i v (by rw [Kd];exact hv)) hb (its.size - 0) 0 _ (by omega) (J9 _) s0 (yY hS) fun s' hm hS'=>?_;rw [hmet] at hS';exact q s' hm hS'
end
open PySem PySem.Spec PyProof.Rows
namespace SF
theorem eE:Slot "set_iterator" "__next__" "set_iterator.__next__" :=
 .of (owner := "set_iterator") (n := "__next__") (by rw [typeLookup_type,builtinLookup_eq_fast];kernel_rfl) (by decide +kernel) (by decide +kernel) (by decide +kernel) (by first | exact .inl (by decide +kernel) | exact .inr (by decide +kernel)) (by rw [isSubtype_type];kernel_rfl)
theorem um:entryFor table "set_iterator.__next__" = some Builtin.«set_iterator.__next__»:=entryFor_of_tree (by kernel_rfl)
theorem rg (v:Value):argsOk "set_iterator.__next__" ⟨[v],[]⟩:=by kernel_rfl
theorem zE:entryFor table "set.__iter__" = some Builtin.«frozenset.__iter__»:=entryFor_alias (id' := "frozenset.__iter__") (by kernel_rfl) rfl (by decide +kernel) (by kernel_rfl)
theorem yO:typeLookup (.type "set") "__len__" = pure (some (.builtin "set.__len__")):=by rw [typeLookup_type,builtinLookup_eq_fast];kernel_rfl
end SF
theorem EJ {M:Model} {AA:Around} {EE:Value->Shared->Prop} {st:Shared} {src:Source} {n:Nat} {Q:Nat->Shared->Prop} (hn:n≠0) (h:∀ k d',k < n->Q k { st with drawn:=d' }):wpAny M AA (choose src n) Q EE st:=fun _ _ _=>by
 unfold choose;exact ⟨hn,h _ _ (Nat.mod_lt _ (Nat.pos_of_ne_zero hn))⟩
theorem fX {α:Type}:∀ (xs:List α) (i:Nat) (h:i < xs.length),(xs[i] :: xs.eraseIdx i).Perm xs
 | x :: xs,0,h=>by simp
 | x :: xs,i+1,h=>by
  have ih:=fX xs i (by simpa using h);simp only [List.getElem_cons_succ,List.eraseIdx_cons_succ];exact (List.Perm.swap _ _ _).trans (ih.cons x)
theorem rY {α:Type} {M:Model} {AA:Around} {EE:Value->Shared->Prop}:∀ (n:Nat) (xs:List α) {st:Shared} {Q:List α->Shared->Prop},xs.length=n->(∀ ys d',ys.Perm xs->Q ys { st with drawn:=d' })->wpAny M AA (drawOrder n xs) Q EE st
 | 0,xs,st,Q,hn,h=>by
  obtain rfl:xs=[]:=List.length_eq_zero_iff.mp hn;unfold drawOrder;have q:=h [] st.drawn .nil;cases st;exact Jn q
 | n+1,[],st,Q,hn,h=>by simp at hn
 | n+1,x :: xs,st,Q,hn,h=>by
  unfold drawOrder;refine Jk (EJ (by simp) fun k d' hk=>?_);have hk':(x :: xs)[k]?=some (x :: xs)[k]:=Jl hk;rw [hk'];dsimp only;refine Jk (rY n _ (by rw [List.length_eraseIdx_of_lt hk,hn];rfl) fun ys d2 hp=>?_);refine Jn (h _ d2 ?_);exact (hp.cons _).trans (fX _ _ hk)
theorem ua {α:Type} (nx:Nat->Nat):∀ (f k:Nat) (left:List α) (out:Array α),left.length=f->(pickOrder.go nx f k left out).toList.Perm (out.toList++left)
 | 0,k,left,out,h=>by
  obtain rfl:left=[]:=List.length_eq_zero_iff.mp h;unfold pickOrder.go;simp
 | f+1,k,left,out,h=>by
  unfold pickOrder.go;have hlt:nx k % left.length < left.length:=Nat.mod_lt _ (by omega);rw [Jl hlt];dsimp only;refine (ua nx f (k+1) _ _ (by rw [List.length_eraseIdx_of_lt hlt,h];rfl)).trans ?_;rw [LF,List.append_assoc];exact (fX _ _ hlt).append_left _
theorem uh {α:Type} (nx:Nat->Nat) (xs:Array α):(pickOrder nx xs).toList.Perm xs.toList:=by
 unfold pickOrder;have:=ua nx xs.size 0 xs.toList #[] (by simp);simpa using this
theorem xB (j:Nat):SetTable.below #[j] 0=0/\SetTable.below #[j] (j+1)=1:=by
 unfold SetTable.below;constructor
 ·show SetTable.below.go #[j] 0 1 0 1=0;simp [SetTable.below.go]
 ·show SetTable.below.go #[j] (j+1) 1 0 1=1;simp [SetTable.below.go]
abbrev Cv (f0:Value) (i:Nat) (d:Value) (n ep:Nat):Obj:={ cls:=.type "set_iterator", dict:=none,data:=.fields #[f0,.int i 0,d,.int n 0,.int ep 0],slots:=#[] }
def Way (ww:World) (h:Heap) (d:Addr) (es:Array (Int×Value)) (ep:Nat) (tb:SetTable) (vs:List Value) (T:Addr) (f0:Value) (i:Nat):Prop :=
 (fg ww=true/\f0=.int 0 0/\vs=(pickOrder (ww.params.setOrder d ep) es).toList.map (·.2)) \/
 (fg ww=false/\(!tb.plain&&decide (es.size > 1))=true/\∃ ps:List Nat,f0=.ref T/\h.get? T=some { cls:=.type "tuple", data:=.seq (ps.map fun (k:Nat)=>rawInt k).toArray }/\(∀ p∈ps,p < es.size)/\vs=ps.map fun p=>(es.getD p (0,.none)).2) \/
 (fg ww=false/\es.size<=1/\tb.led=true/\(∃ k:Nat,f0=.int k 0/\SetTable.below tb.place k=i)/\vs=es.toList.map (·.2))
section
variable {pr:Program} {ww:World} {AA:Around} {EE:Value->Shared->Prop} {st:Shared}
theorem sbt (h:Q (fg ww) st):wpAny (model pr ww) AA setsByText Q EE st:=by
 unfold setsByText;exact Jk (wpAny_askSetting (Jn h))
theorem snA (hd:st.heap.get? d=some ob) (hdd:ob.data=.set es ep tb) (hf:tb.fits es.size=true) (hb:fg ww=true)
  (h:Q (((pickOrder (ww.params.setOrder d ep) es)[g]?).map fun e=>(e.2,sl)) st):wpAny (model pr ww) AA (setNext d sl g ep) Q EE st:=by
 unfold setNext;refine Jk (Kx hd hdd hf ?_);dsimp only;refine Jk (sbt ?_);rw [hb,Jx rfl,JD (by simp)];unfold setWalk;refine Jk (Jk (Kx hd hdd hf ?_));dsimp only;refine Jk (sbt ?_);rw [hb,Jx rfl];refine Jk (wpAny_askSetting (Jn ?_));exact Jn h
theorem snC (hd:st.heap.get? d=some ob) (hdd:ob.data=.set es ep tb) (hf:tb.fits es.size=true) (hb:fg ww=false) (h1:es.size<=1) (hl:tb.led=true)
  (h:Q (match es[SetTable.below tb.place sl]?,tb.place[SetTable.below tb.place sl]? with | some (_,x),some j=>some (x,j+1) | _,_=>none) st):wpAny (model pr ww) AA (setNext d sl g ep) Q EE st:=by
 unfold setNext;refine Jk (Kx hd hdd hf ?_);dsimp only;refine Jk (sbt ?_);rw [hb,JD (by simp)];show wpAny _ _ (if (!tb.plain&&decide (es.size > 1))=true then _ else _) _ _ _;rw [JD (by have:decide (es.size > 1)=false:=Kf (by omega);rw [this,Bool.and_false];simp)];refine Jk ?_;show wpAny _ _ (if (!tb.led&&!es.isEmpty)=true then _ else _) _ _ _;rw [hl,JD (by simp)];refine Jn ?_;exact Jn h
theorem snB (hd:st.heap.get? d=some ob) (hdd:ob.data=.set es ep tb) (hf:tb.fits es.size=true) (he:es[p]?=some e)
  (h:Q e.2 st):wpAny (model pr ww) AA (setNextDrawn d p ep) Q EE st:=by
 unfold setNextDrawn;refine Jk (Kx hd hdd hf ?_);dsimp only;rw [JD (by simp),he];exact Jn h
theorem A3
  (hit:st.heap.get? IT=some (Cv f0 i (.ref d) es.size ep)) (hd:st.heap.get? d=some ob) (hdd:ob.data=.set es ep tb) (hf:tb.fits es.size=true) (hw:Way ww st.heap d es ep tb vs T f0 i) (hv:vs[i]?=some v)
  (h:∀ f1 h',h'.get? IT=some (Cv f1 (i+1) (.ref d) es.size ep)->Heap.SameBut IT st.heap h'->Way ww h' d es ep tb vs T f1 (i+1)->Q (some v) { st with heap:=h' }) :
  wpAny (model pr ww) AA (pyNext (.ref IT)) Q EE st:=by
 have hT:st.TypeIs (.ref IT) "set_iterator" := ⟨_,hit,rfl⟩;unfold pyNext;refine Jk (wpAny_attempt (K7 (name:=Str.ofString "__next__") hT SF.eE (Kj SF.eE hT SF.um ?_ (SF.rg _))));unfold Builtin.«set_iterator.__next__»
 refine Jk (m:=slotArgs "__next__" 0 ⟨[.ref IT],[]⟩) (Jn ?_);dsimp only;refine Jk (LS hit rfl ?_);dsimp only;refine Jk (wpAny_setEntries_of hd hdd hf ?_);rw [JD (by simp)];simp only [Li];rcases hw with ⟨hb,rfl,rfl⟩ | ⟨hb,hdr,ps,rfl,hTo,hps,rfl⟩ | ⟨hb,h1,hl,⟨k,rfl,hk⟩,rfl⟩
 ·dsimp only;refine Jk (snA hd hdd hf hb ?_);rw [Jw,Kd] at hv;obtain ⟨e,he,rfl⟩:=JM.mp hv;rw [he];dsimp only [Option.map_some];refine Jk (KH hit (by simp) fun h1 g1 s1=>?_);refine Jk (KH g1 (by simp) fun h2 g2 s2=>?_);refine Jn ⟨_,rfl,Jn (h (.int 0 0) h2 ?_ (s1.trans s2) (.inl ⟨hb,rfl,rfl⟩))⟩;exact g2
 ·dsimp only;refine Jk (LR hTo rfl ?_);dsimp only;rw [Jw] at hv;obtain ⟨p,hp,hpv⟩:=JM.mp hv;have hpl:p < es.size:=hps p (Jy hp);have e1:((ps.map fun (k:Nat)=>rawInt k).toArray)[i]?=some (.int p 0):=by
   rw [List.getElem?_toArray,Jw,hp];rfl
  rw [e1];dsimp only;have e2:es[p]?=some (es.getD p (0,.none)):=by
   rw [J3,JR hpl];rfl
  refine Jk (snB (p:=(p:Int).toNat) hd hdd hf (by rw [Li];exact e2) ?_);refine Jk (KH hit (by simp) fun h1 g1 s1=>?_);have hne:T≠IT:=fun z=>by rw [z,hit] at hTo;exact absurd (congrArg Obj.cls (Kq hTo)) (show ¬(Value.type "set_iterator" = Value.type "tuple") from by decide)
  rw [hpv];exact Jn ⟨_,rfl,Jn (h (.ref T) h1 g1 s1 (.inr (.inl ⟨hb,hdr,ps,rfl,by rw [s1.2 T hne];exact hTo,hps,rfl⟩)))⟩
 ·dsimp only;refine Jk (snC (sl:=(k:Int).toNat) hd hdd hf hb h1 hl ?_);rw [Jw,Kd] at hv;obtain ⟨e,he,rfl⟩:=JM.mp hv;have hi:i < es.size:=by
   rcases KN i es.size with z | z
   ·exact z
   ·rw [Ma z] at he;cases he
  obtain rfl:i=0:=by omega
  have hpl:tb.place.size=es.size:=by
   simp only [SetTable.fits,JU,LV] at hf;exact hf.1
  obtain ⟨j,hj⟩:∃ j,tb.place=#[j]:=by
   have:tb.place.size=1:=by omega
   exact Array.size_eq_one_iff.mp this
  rw [Li,hk,he,hj];obtain ⟨hs,x⟩:=e;refine Jk (KH hit (by simp) fun h1 g1 s1=>?_);refine Jk (KH g1 (by simp) fun h2 g2 s2=>?_);exact Jn ⟨_,rfl,Jn (h (.int ((j+1:Nat):Int) 0) h2 g2 (s1.trans s2) (.inr (.inr ⟨hb,by assumption,hl,⟨j+1,rfl,by rw [hj];exact (xB j).2⟩,rfl⟩)))⟩
theorem rD (hh:AA.handled=none) (h:∀ h',Heap.ExtBut IT st.heap h'->Q none { st with heap:=h' }) :
  wpAny (model pr ww) AA.in1 (do
     let z<-newExc (Value.type "StopIteration") []
     raiseNew z:Sem Fin)
  (fun fin s'=>∃ v,fin=Fin.done (Flow.ret v)/\wpAny (model pr ww) AA (pure (some v)) Q EE s')
  (fun e s' =>
   wpAny (model pr ww) AA
    (do
     let z<-isInstance e (Value.type "StopIteration")
     if z=true then pure none else throw e)
    Q EE s')
  st:=by
 refine Jk ?_;simp only [newExc,newTuple];refine Jk (Kp ?_ (by size_fits));refine Jk (m:=firstArgMember _ _) (wpAny_of_eq (a:=Value.none) (by first | rfl | (simp only [firstArgMember];rfl)) ?_);refine Kp ?_ (by size_fits);simp only [raiseNew];refine Jk (wpAny_handled ?_);rw [show AA.in1.handled=none from hh];refine Jk (Jn (wpAny_throw ?_));refine Jk (wpAny_isInstance (T := "StopIteration") (b:=true) ⟨_,JN _ rfl,rfl⟩ isSubtype_stop ?_);rw [Jx rfl];exact Jn (h _ fun b o _ e=>Jp _ (Jp _ e))
theorem FL (hh:AA.handled=none)
  (hit:st.heap.get? IT=some (Cv f0 i (.ref d) es.size ep)) (hd:st.heap.get? d=some ob) (hdd:ob.data=.set es ep tb) (hf:tb.fits es.size=true) (hw:Way ww st.heap d es ep tb vs T f0 i) (hv:vs[i]?=none)
  (h:∀ h',Heap.ExtBut IT st.heap h'->Q none { st with heap:=h' }) :
  wpAny (model pr ww) AA (pyNext (.ref IT)) Q EE st:=by
 have hT:st.TypeIs (.ref IT) "set_iterator" := ⟨_,hit,rfl⟩;unfold pyNext;refine Jk (wpAny_attempt (K7 (name:=Str.ofString "__next__") hT SF.eE (Kj SF.eE hT SF.um ?_ (SF.rg _))));unfold Builtin.«set_iterator.__next__»
 refine Jk (m:=slotArgs "__next__" 0 ⟨[.ref IT],[]⟩) (Jn ?_);dsimp only;refine Jk (LS hit rfl ?_);dsimp only;refine Jk (wpAny_setEntries_of hd hdd hf ?_);rw [JD (by simp)];simp only [Li];have fin:∀ h1,Heap.SameBut IT st.heap h1->∀ h',Heap.ExtBut IT h1 h'->Q none { st with heap:=h' }:=fun h1 s1 h' x=>h h' fun b o hb e=>x b o hb (by rw [s1.2 b hb];exact e);rcases hw with ⟨hb,rfl,rfl⟩ | ⟨hb,hdr,ps,rfl,hTo,hps,rfl⟩ | ⟨hb,h1,hl,⟨k,rfl,hk⟩,rfl⟩
 ·dsimp only;refine Jk (snA hd hdd hf hb ?_);rw [Jw,Kd] at hv;rw [L8.mp hv];dsimp only [Option.map_none];refine Jk (KH hit (by simp) fun h1 g1 s1=>?_);exact rD (IT:=IT) (st:={ st with heap:=h1 }) hh (fin h1 s1)
 ·dsimp only;refine Jk (LR hTo rfl ?_);dsimp only;rw [Jw] at hv;have e1:((ps.map fun (k:Nat)=>rawInt k).toArray)[i]?=none:=by
   rw [List.getElem?_toArray,Jw,L8.mp hv];rfl
  rw [e1];dsimp only;refine Jk (KH hit (by simp) fun h1 g1 s1=>?_);refine Jk (KH g1 (by simp) fun h2 g2 s2=>?_);exact rD (IT:=IT) (st:={ st with heap:=h2 }) hh (fin h2 (s1.trans s2))
 ·dsimp only;refine Jk (snC (sl:=(k:Int).toNat) hd hdd hf hb h1 hl ?_);rw [Jw,Kd] at hv;have hv:=L8.mp hv;rw [Li,hk,hv];refine Jk (KH hit (by simp) fun h1 g1 s1=>?_);exact rD (IT:=IT) (st:={ st with heap:=h1 }) hh (fin h1 s1)
end
open PySem PySem.Spec PyProof.Rows
namespace SF
theorem xX:Slot "set_iterator" "__iter__" "set_iterator.__iter__" :=
 .of (owner := "set_iterator") (n := "__iter__") (by rw [typeLookup_type,builtinLookup_eq_fast];kernel_rfl) (by decide +kernel) (by decide +kernel) (by decide +kernel) (by first | exact .inl (by decide +kernel) | exact .inr (by decide +kernel)) (by rw [isSubtype_type];kernel_rfl)
theorem BV:entryFor table "set_iterator.__iter__" = some Builtin.«dict_keyiterator.__iter__»:=entryFor_alias (id' := "dict_keyiterator.__iter__") (by kernel_rfl) rfl (by decide +kernel) (by kernel_rfl)
theorem Co (v:Value):argsOk "set_iterator.__iter__" ⟨[v],[]⟩:=by kernel_rfl
end SF
section
variable {pr:Program} {ww:World} {AA:Around} {EE:Value->Shared->Prop} {st:Shared}
theorem Way.frame (w:Way ww h d es ep tb vs T f0 i) (k:∀ o,h.get? T=some o->h'.get? T=some o):Way ww h' d es ep tb vs T f0 i:=by
 rcases w with w | ⟨hb,hdr,ps,e,hTo,r⟩ | w
 ·exact .inl w
 ·exact .inr (.inl ⟨hb,hdr,ps,e,k _ hTo,r⟩)
 ·exact .inr (.inr w)
theorem BY (hh:AA.handled=none) (IT d T:Addr) (h1:d≠IT) (h2:T≠IT) (hdd:ob.data=.set es ep tb) (hf:tb.fits es.size=true) (vs:List Value) :
  WalksS pr ww AA IT [IT,d,T] [IT] (fun a b=>b=a) vs.length (fun i v=>vs[i]?=some v) (fun i s=>∃ f0,s.heap.get? IT=some (Cv f0 i (.ref d) es.size ep)/\s.heap.get? d=some ob/\Way ww s.heap d es ep tb vs T f0 i) where
 sub:=fun b hb=>by simp at hb;simp [hb]
 grefl:=fun _=>rfl
 gtrans:=fun _ _ _ x y=>y.trans x
 frame:=fun i s h' tk st _ k=>by
  obtain ⟨f0,a,b,c⟩:=st;exact ⟨f0,k IT (by simp) _ a,k d (by simp) _ b,c.frame (k T (by simp))⟩
 item:=fun i s Q E hi st hQ=>by
  obtain ⟨f0,a,b,c⟩:=st;refine A3 a b hdd hf c (v:=vs[i]) (Jl hi) fun f1 h' g1 s1 w1=>?_;exact hQ _ _ (Jl hi) ⟨f1,g1,by show h'.get? d=_;rw [s1.2 d h1];exact b,w1⟩ ⟨fun b' o hb e=>by show h'.get? b'=_;rw [s1.2 b' (fun z=>hb (by simp [z]))];exact e,rfl,rfl,rfl,Jt _⟩
 done:=fun s Q E st hQ=>by
  obtain ⟨f0,a,b,c⟩:=st;refine FL hh a b hdd hf c (Kt (Jt _)) fun h' x=>?_;exact hQ _ ⟨fun b' o hb e=>x b' o (fun z=>hb (by simp [z])) e,rfl,rfl,rfl,Jt _⟩
 self:=fun i s Q E st hQ=>by
  obtain ⟨f0,a,b,c⟩:=st;have hT:s.TypeIs (.ref IT) "set_iterator" := ⟨_,a,rfl⟩;refine wpAny_pyIter_slot hT SF.xX (Kj SF.xX hT SF.BV ?_ (SF.Co _));show wpAny _ _ (ret (.ref IT)) _ _ s;exact Jn ⟨_,rfl, "set_iterator", _,hT,SF.eE.lookup,hQ⟩
theorem range_getD (es:Array (Int×Value)):(List.range es.size).map (fun p=>(es.getD p (0,.none)).2)=es.toList.map (·.2):=by
 apply List.ext_getElem
 ·simp
 ·intro i h1 h2;have h3:i < es.size:=by simpa using h1
  simp [h3]
theorem C1 (hd:st.heap.get? d=some ob) (hc:ob.ExactSet) (hdd:ob.data=.set es ep tb) (ht:zJ ww tb es.size) (hsz:es.size < scanBound)
  (h:∀ vs f0 T IT h' d',vs.Perm (es.toList.map (·.2))->h'.get? IT=some (Cv f0 0 (.ref d) es.size ep)->Way ww h' d es ep tb vs T f0 0->st.heap.objs.size<=IT->T≠IT->(T=d\/st.heap.objs.size<=T)->(∀ b o,st.heap.get? b=some o->h'.get? b=some o)->Q (.ref IT) { st with heap:=h',drawn:=d' }) :
  wpAny (model pr ww) AA (pyIter (.ref d)) Q EE st:=by
 have hT:st.TypeIs (.ref d) "set" := ⟨_,hd,hc.1⟩;have hlt:d < st.heap.objs.size:=JB hd;refine wpAny_pyIter_slot hT F.slot_set_iter (Kj F.slot_set_iter hT SF.zE ?_ (F.args_set_iter_1 _));unfold Builtin.«frozenset.__iter__» Builtin.Frozenset.slot0 Builtin.Frozenset.sizeOf
 refine Jk (Jk (m:=slotArgs "__iter__" 0 ⟨[.ref d],[]⟩) (Jn (Jn ?_)));refine Jk (Jk (wpAny_setEntries_of hd hdd ht.fit (Jn ?_)));unfold setDrawn;refine Jk (Jk (Kx hd hdd ht.fit ?_));dsimp only;refine Jk (sbt (Jn ?_));show wpAny _ _ (if (!fg ww&&(!tb.plain&&decide (es.size > 1)))=true then _ else _) _ _ _;have hpl:tb.place.size=es.size:=by
  have hf:=ht.fit;simp only [SetTable.fits,JU,LV] at hf;exact hf.1
 split
 ·rename_i hdr;simp only [JU,Bool.not_eq_true'] at hdr;obtain ⟨hb,hdr⟩:=hdr;refine Jk (rY es.size (List.range es.size) (by simp) fun ps d' hps=>?_);have hpsl:ps.length=es.size:=by rw [hps.length_eq,Kh]
  refine Jk (wpAny_newTuple ?_ (by rw [Jm,hpsl];exact fits_of_scanBound hsz));have g0:(st.heap.push { cls:=.type "tuple", data:=.seq (ps.map fun (k:Nat)=>rawInt k).toArray }).get? d=some ob:=Jp _ hd;refine Jk (wpAny_setEpoch_of (s:={ st with heap:=st.heap.push { cls:=.type "tuple", data:=.seq (ps.map fun (k:Nat)=>rawInt k).toArray },drawn:=d' }) g0 hdd ht.fit ?_);refine Jk (m:=newFields _ _) (Kp ?_ (by size_fits));have e1:(st.heap.push { cls:=.type "tuple", data:=.seq (ps.map fun (k:Nat)=>rawInt k).toArray }).objs.size=st.heap.objs.size+1:=Heap.size_push ..;have gT:(st.heap.push { cls:=.type "tuple", data:=.seq (ps.map fun (k:Nat)=>rawInt k).toArray }).get? st.heap.objs.size=some { cls:=.type "tuple", data:=.seq (ps.map fun (k:Nat)=>rawInt k).toArray }:=JN _ rfl;refine Jn ⟨_,rfl, "set_iterator", _,⟨_,JN _ rfl,rfl⟩,SF.eE.lookup,?_⟩;refine h (ps.map fun p=>(es.getD p (0,.none)).2) (.ref st.heap.objs.size) st.heap.objs.size _ _ d' ?_ (JN _ rfl) (.inr (.inl ⟨hb,by rw [JU,Bool.not_eq_true'];exact hdr,ps,rfl,Jp _ gT,fun p hp=>by have:=hps.mem_iff.mp hp;simpa using this,rfl⟩)) ?_ ?_ (.inr (Jt _)) fun b o e=>Jp _ (Jp _ e)
  ·rw [<- range_getD];exact hps.map _
  ·show st.heap.objs.size<=(st.heap.push _).objs.size;rw [e1];exact Kz _
  ·show st.heap.objs.size≠(st.heap.push _).objs.size;rw [e1];exact JY (Nat.lt_succ_self _)
 ·rename_i hdr;refine Jk (Jn ?_);refine Jk (wpAny_setEpoch_of hd hdd ht.fit ?_);refine Jk (m:=newFields _ _) (Kp ?_ (by size_fits));refine Jn ⟨_,rfl, "set_iterator", _,⟨_,JN _ rfl,rfl⟩,SF.eE.lookup,?_⟩;have fin:∀ vs:List Value,vs.Perm (es.toList.map (·.2))->(fg ww=true/\vs=(pickOrder (ww.params.setOrder d ep) es).toList.map (·.2)\/fg ww=false/\es.size<=1/\vs=es.toList.map (·.2))->Q (.ref st.heap.objs.size) { st with heap:=st.heap.push { cls:=.type "set_iterator", data:=.fields #[rawInt 0,rawInt 0,.ref d,rawInt es.size,rawInt ep] } }:=by
   intro vs pm cs;refine h vs (.int 0 0) d _ _ st.drawn pm (JN _ rfl) ?_ (Jt _) (JY hlt) (.inl rfl) fun b o e=>Jp _ e;rcases cs with ⟨hb,rfl⟩ | ⟨hb,h1,rfl⟩
   ·exact .inl ⟨hb,rfl,rfl⟩
   ·refine .inr (.inr ⟨hb,h1,by rw [ht.led,hb];rfl,⟨0,rfl,?_⟩,rfl⟩);rcases KN 0 es.size with z | z
    ·obtain ⟨j,hj⟩:∃ j,tb.place=#[j]:=Array.size_eq_one_iff.mp (by omega);rw [hj];exact (xB j).1
    ·have:tb.place=#[]:=Array.size_eq_zero_iff.mp (by omega);rw [this];rfl
  cases hb:fg ww with
  | true=>exact fin _ ((uh _ es).map _) (.inl ⟨hb,rfl⟩)
  | false =>
   refine fin _ (LD _) (.inr ⟨hb,?_,rfl⟩);rcases KN 1 es.size with z | z
   ·have hp:=ht.pln (by omega);rw [hb,hp,J2 z] at hdr;exact absurd rfl hdr
   ·exact z
theorem Cz (hh:AA.handled=none) (ho:st.heap.get? d=some ob) (hx:ob.ExactSet) (hdd:ob.data=.set es ep tb) (ht:zJ ww tb es.size) (hb:es.size < scanBound)
  (h:∀ vs h' d' tk,vs.Perm (es.toList.map (·.2))->st.heap.objs.size<=h'.objs.size->(∀ b o,st.heap.get? b=some o->h'.get? b=some o)->Q vs { st with heap:=h',drawn:=d',toks:=tk }) :
  wpAny (model pr ww) AA (collect (.ref d)) Q EE st:=by
 unfold collect;refine Jk (wpAny_runValue (Lg F.entry_proto_collect ?_));rw [K5 F.plain_proto_collect _];show wpAny _ AA.in1 (newList []>>=fun l=>again (.builtin "list.__iadd__" ⟨[l,.ref d],[]⟩)) _ _ st;refine Jk (Kp ?_);refine Jn ⟨plainId_quiet F.plain_list_iadd _,Lg F.entry_list_iadd ?_⟩;rw [K5 F.plain_list_iadd _];have hlt:d < st.heap.objs.size:=JB ho;have ne:st.heap.objs.size≠d:=Nat.ne_of_gt hlt;have g1:(st.heap.push { cls:=.type "list", data:=.seq ([]:List Value).toArray }).get? d=some ob:=Jp _ ho;have g2:(st.heap.push { cls:=.type "list", data:=.seq ([]:List Value).toArray }).get? st.heap.objs.size=some { cls:=.type "list", data:=.seq ([]:List Value).toArray }:=JN _ rfl;have e1:(st.heap.push { cls:=.type "list", data:=.seq ([]:List Value).toArray }).objs.size=st.heap.objs.size+1:=Heap.size_push ..;have sr:Builtin.List.listSameRef (.ref st.heap.objs.size) (.ref d)=false:=by simp [Builtin.List.listSameRef,ne]
 show wpAny _ AA.in1 (Builtin.List.listExtendWith (.ref st.heap.objs.size) (.ref d) (.ref st.heap.objs.size)) _ _ _;unfold Builtin.List.listExtendWith;have hT:∀ (s:Shared),s.heap.get? d=some ob->s.TypeIs (.ref d) "set" := fun s z=>⟨_,z,hx.1⟩;refine Jk (wpAny_typeOf (hT _ g1) ?_);rw [JD (by rw [sr];decide)];refine Jk (C1 (st:={ st with heap:=st.heap.push { cls:=.type "list", data:=.seq ([]:List Value).toArray } }) g1 hx hdd ht hb fun vs f0 T IT h' d' pm gI wy lI nT lT kp=>?_);refine Jk (Kc ?_);unfold Builtin.List.listLengthHint;refine Jk (KZ (hT _ (kp _ _ g1)) SF.yO ?_)
 (generalize hid:("set.__len__" : String)=id0;(fail_if_success (clear hid id0));wp_delta;rw [show splitId id0=some ("set", "__len__") from by subst hid;decide +kernel];subst hid)
 refine Jk (wpAny_isInstance (b:=true) (hT _ (kp _ _ g1)) sub_set_self ?_);show wpAny _ _ (typeOf (.ref d)>>=_) _ _ _;refine Jk (wpAny_typeOf (hT _ (kp _ _ g1)) ?_);refine Jn ?_;show wpAny _ AA.in1 (rule "list.extend.makes-room" >>= fun _=>Builtin.List.listTouch (.ref st.heap.objs.size)>>=fun _=>again (.builtin "list.extend.loop" ⟨[.ref st.heap.objs.size,.ref IT,.ref st.heap.objs.size],[]⟩)) _ _ _;refine Jk (Le ?_);have g3:h'.get? st.heap.objs.size=some { cls:=.type "list", data:=.seq ([]:List Value).toArray }:=kp _ _ g2;refine Jk ?_;show wpAny _ AA.in1 (updateSeq st.heap.objs.size (·.push .none)>>=fun _=>updateSeq st.heap.objs.size (·.pop)) _ _ _;refine Jk (wpAny_updateSeq g3 rfl ?_);have g4:=Kl (Obj.mapSeq (·.push Value.none)) g3 rfl;refine wpAny_updateSeq g4 rfl ?_;have g5:=Kl (Obj.mapSeq (·.pop)) g4 rfl;have oth:∀ b o,b≠st.heap.objs.size->h'.get? b=some o->((h'.update st.heap.objs.size (Obj.mapSeq (·.push Value.none))).update st.heap.objs.size (Obj.mapSeq (·.pop))).get? b=some o :=
  fun b o hb e=>(KU _ _ (Ne.symm hb)).trans ((KU _ _ (Ne.symm hb)).trans e)
 have lI:st.heap.objs.size+1<=IT:=by rw [<- e1];exact lI
 have nI:IT≠st.heap.objs.size:=Nat.ne_of_gt lI;have nT2:T≠st.heap.objs.size:=by
  rcases lT with z | z
  ·rw [z];exact Ne.symm ne
  ·have z:st.heap.objs.size+1<=T:=by rw [<- e1];exact z
   exact Nat.ne_of_gt z
 have nd:d≠IT:=JY (JX (Ky hlt) lI);have hh2:AA.in1.handled=none:=hh;have hsl:vs.length<=sizeLine:=by
  rw [pm.length_eq,Jm,JQ];exact fits_of_scanBound hb
 refine Jn ⟨plainId_quiet F.plain_extend_loop _,codeAny_extend_loopS (BY hh2 IT d T nd nT hdd ht.fit vs) hsl st.heap.objs.size (by simp [ne,Ne.symm nI,Ne.symm nT2]) _ vs.length 0 _ _ _ rfl (J9 _)
  ⟨f0,oth _ _ nI gI,oth _ _ (Ne.symm ne) (kp _ _ g1),wy.frame fun o e=>oth _ _ nT2 e⟩ g5 (ItemsOf.nil _) fun s' acc' c' hm hS' hacc=>?_⟩
 show wpAny _ AA (load st.heap.objs.size>>=_) _ _ s';refine Jk (wpAny_load hS' ?_);have eacc:acc'.toList=vs:=by
  apply LC;intro j;rw [Kd];rcases KN j acc'.size with z | z
  ·rw [JR z];exact (hacc.2 j _ (JR z)).symm
  ·rw [Ma z];exact (Kt (by rw [<- hacc.1];exact z)).symm
 refine Jn ?_;show Q acc'.toList s';rw [eacc];obtain ⟨h2,gn,dr,tk,os⟩:=s';have eg:gn=st.gens:=hm.gens;have ed:dr=d':=hm.drawn;have eo:os=st.os:=hm.os;subst eg;subst ed;subst eo;refine h vs h2 dr tk pm (L9 (JB hS')) fun b o e=>hm.heap b o ?_ (oth b o ?_ (kp _ _ (Jp _ e)))
 ·have hb:b < st.heap.objs.size:=JB e;simp only [JJ,List.not_mem_nil,Lk,not_or];exact ⟨JY hb,JY (JX (Ky hb) lI)⟩
 ·exact JY (JB e)
theorem Bq (hh:AA.handled=none) (hS:cT pr ww st.heap d ss)
  (h:∀ vs ss' h' d' tk,StrsAre vs ss'->ss'.Perm ss->st.heap.objs.size<=h'.objs.size->(∀ b o,st.heap.get? b=some o->h'.get? b=some o)->Q vs { st with heap:=h',drawn:=d',toks:=tk }) :
  wpAny (model pr ww) AA (collect (.ref d)) Q EE st:=by
 obtain ⟨ob,es,ep,tb,ho,hx,hdd,he,⟨zs,hz1,hz2⟩,hb,ht⟩:=hS;refine Cz hh ho hx hdd ht hb fun vs h' d' tk pm le kp=>?_;obtain ⟨ws,w1,w2⟩:=cp pm hz1;exact h vs ws h' d' tk w1 (w2.trans hz2) le kp
end
open PySem PySem.Spec PyProof.Rows
noncomputable def leT (x y:Str):Bool:=!ltCps y.cps.toList x.cps.toList
theorem ki (x y:Str):leT x y=true↔x.cps.toList<=y.cps.toList:=by
 unfold leT;rw [ltCps_eq,Bool.not_eq_true',decide_eq_false_iff_not];exact List.not_lt
theorem k7 (h:leT x y=true) (h':leT y z=true):leT x z=true:=by
 rw [ki] at *;exact List.le_trans h h'
theorem sP (x y:Str):leT x y=true\/leT y x=true:=by
 rw [ki,ki];exact List.le_total _ _
theorem jU (h:leT x y=true) (h':leT y x=true):x=y:=by
 rw [ki] at *;have:=List.le_antisymm h h';cases x;cases y;simp only [Str.mk.injEq];exact LK.mp this
noncomputable def zi (x:Str):List Str->List Str
 | []=>[x]
 | y :: r=>if leT x y=true then x :: y :: r else y :: zi x r
noncomputable def bU:List Str->List Str
 | []=>[]
 | x :: r=>zi x (bU r)
theorem iN (x:Str):∀ l:List Str,(zi x l).Perm (x :: l)
 | []=>LD _
 | y :: r=>by
  unfold zi;split
  ·exact LD _
  ·exact ((iN x r).cons y).trans (List.Perm.swap ..)
theorem aF:∀ l:List Str,(bU l).Perm l
 | []=>LD _
 | x :: r=>(iN x _).trans ((aF r).cons x)
theorem rK (x:Str):∀ l:List Str,l.Pairwise (fun a b=>leT a b=true)->(zi x l).Pairwise fun a b=>leT a b=true
 | [],_=>by simp [zi]
 | y :: r,h=>by
  obtain ⟨h1,h2⟩:=KJ.mp h;unfold zi;split
  ·rename_i c;refine KJ.mpr ⟨fun b hb=>?_,h⟩;rcases JJ.mp hb with rfl | hb
   ·exact c
   ·exact k7 c (h1 b hb)
  ·rename_i c;refine KJ.mpr ⟨fun b hb=>?_,rK x r h2⟩;rcases JJ.mp ((iN x r).mem_iff.mp hb) with rfl | hb
   ·exact (sP b y).resolve_left c
   ·exact h1 b hb
theorem fQ:∀ l:List Str,(bU l).Pairwise fun a b=>leT a b=true
 | []=>by simp [bU]
 | x :: r=>rK x _ (fQ r)
theorem lY:∀ (p:Str) (l:List Str),risingS p l=true->(p :: l).Pairwise fun a b=>leT a b=true
 | p,[],_=>by simp
 | p,x :: r,h=>by
  have h:(!ltCps x.cps.toList p.cps.toList&&risingS x r)=true:=h;rw [JU] at h;have ih:=lY x r h.2;refine KJ.mpr ⟨fun b hb=>?_,ih⟩;rcases JJ.mp hb with rfl | hb
  ·exact h.1
  ·exact k7 h.1 ((KJ.mp ih).1 b hb)
theorem qK:∀ {l:List Str},sortedS l=true->l.Pairwise fun a b=>leT a b=true
 | [],_=>by simp
 | x :: r,h=>lY x r h
theorem lD (h:sortedS l=true) (p:l.Perm l'):l=bU l' :=
 Lv (fun _ _ _ _ a b=>jU a b) (qK h) (fQ l') (p.trans (aF l').symm)
noncomputable def aL (ss:List Str):List Str:=ss.foldl i7 []
theorem gc (x:Str):∀ (ss acc:List Str),x∈ss.foldl i7 acc↔x∈acc\/x∈ss
 | [],acc=>by simp
 | y :: r,acc=>by
  rw [K1,gc x r];have:x∈i7 acc y↔x∈acc\/x=y:=by
   unfold i7;split
   ·rename_i h;constructor
    ·exact .inl
    ·rintro (h' | rfl)
     ·exact h'
     ·exact h
   ·simp
  rw [this,JJ,or_assoc]
theorem dY:x∈aL ss↔x∈ss:=by
 unfold aL;rw [gc];simp
theorem gu:∀ (ss acc:List Str),(ss.foldl i7 acc).length<=acc.length+ss.length
 | [],acc=>by simp
 | y :: r,acc=>by
  rw [K1];have:=gu r (i7 acc y);have h:(i7 acc y).length<=acc.length+1:=by
   unfold i7;split
   ·omega
   ·simp
  rw [JL];omega
theorem gN (ss:List Str):(aL ss).length<=ss.length:=by
 have:=gu ss [];unfold aL;simpa using this
section
variable {pr:Program} {ww:World} {AA:Around} {EE:Value->Shared->Prop} {st:Shared}
theorem BC (hh:AA.handled=none) (hS:cT pr ww st.heap d ss) (h64:ss.length < 64)
  (h:∀ (out:List Value) h' d' tk p e,StrsAre out (bU ss)->(∀ b o,st.heap.get? b=some o->h'.get? b=some o)->st.heap.objs.size<=p->h'.get? p=some (seqObj "list" out.toArray e)->Q (.ref p) { st with heap:=h',drawn:=d',toks:=tk }) :
  wpAny (model pr ww) AA (call (.builtin "sorted") [.ref d]) Q EE st:=by
 refine Calls.call_function_entry kind_sorted plain_sorted entry_sorted (args_sorted1 _) ?_;unfold Builtin.«sorted»
 refine Jk (m:=checkCount "sorted" 1 1 _) (Jn ?_);refine Jk (Bq hh hS fun vs ss' h1 d1 tk h2 h3 le h4=>?_);have hl:vs.length < 64:=by rw [bN h2,h3.length_eq];exact h64
 refine Jk (wpAny_newList ?_ (by rw [Kk];omega));have g1:(h1.push (seqObj "list" vs.toArray 0)).get? h1.objs.size=some (seqObj "list" vs.toArray 0):=JN _ rfl;refine Jk (Kc (Kj slot_list_sort ⟨_,g1,rfl⟩ entry_list_sort (list_sort_treeK strKind_oneLt g1 h2.keysOf (fun v1 v2 rest e=>keyKind_strs (by rw [<- e];exact h2)) hl fun st' a1 a2=>⟨_,rfl,?_⟩) (args_list_sort _)));obtain ⟨zs,z1,z2,z3⟩:=sorted_out_str h2 a1 a2;have ez:zs=bU ss:=lD z3 (z2.trans h3);rw [ez] at z1;obtain ⟨e,he⟩:=sortedHeap_at (out:=(arrOf st').map (·.2)) (vs:=vs) (n:=0) g1;refine Jn ⟨_,rfl,h _ _ d1 tk h1.objs.size e z1 (fun b o q=>?_) le ?_⟩
 ·have lt:b < h1.objs.size:=JB (h4 b o q);rw [sortedHeap_old (JY lt) (by rw [size_push'];exact Ky lt)];exact Jp _ (h4 b o q)
 ·rw [Lm];exact he
end
open PySem PySem.Spec PyProof.Rows
theorem jM:∀ {ds:List PyData} {ss:List Str},strsOf ds=some ss->ds=ss.map .str
 | [],ss,h=>by cases h;rfl
 | d :: ds,ss,h=>by
  unfold strsOf at h;split at h
  ·cases h;rename_i e;cases e
  ·rename_i x r e;cases e;split at h
   ·rename_i xs hx;cases h;rw [jM hx];rfl
   ·cases h
  ·cases h
theorem kf {K:Fg} {F:Addr->Prop} {H:Hp}:∀ {ss:List Str},(∀ s∈ss,s.length<=sizeLine/\PyData.strOk s=true)->DmL K F H (ss.map .str) (ss.map V.str)
 | [],_=>rfl
 | s :: ss,h=>⟨_,_,rfl,⟨rfl,h s Ju⟩,kf fun x hx=>h x (Jr _ hx)⟩
theorem oT {K:Fg} {F:Addr->Prop} {H:Hp}:∀ {ss:List Str} {us:List V},DmL K F H (ss.map .str) us->∀ s∈ss,s.length<=sizeLine/\PyData.strOk s=true
 | [],_,_,s,hs=>by cases hs
 | s :: ss,us,h,x,hx=>by
  obtain ⟨v,r,rfl,h1,h2⟩:=h;rcases JJ.mp hx with rfl | hx
  ·exact h1.2
  ·exact oT h2 x hx
noncomputable def mP:PyData->Option PR
 | .list ds=>match strsOf ds with | some ss=>if ss.length < 64 then some (.frs (.list ((bU ss).map .str))) else none | none=>none
 | _=>none
noncomputable def kg:Prm:=Prm.one (fun K x=>tD K [x]) mP fun K F H x u pr Q hf hx hd q=>by
 unfold mP at hf;split at hf
 ·rename_i ds;split at hf
  ·rename_i ss hss;split at hf
   ·rename_i h64;cases hf;obtain ⟨a,us,rfl,s1,z1,d1⟩:=jh hx;obtain ⟨e,os⟩:=iw hss d1;rw [e] at s1;rw [jM hss] at d1;refine ⟨a,ss,rfl,s1,h64,fun p ss' hp pm so=>?_⟩;have es:ss'=bU ss:=lD so pm;subst es;refine q _ _ (aE.nw _ hp) (xg hp (by rw [Jm,(aF ss).length_eq,Kk];omega) (kf fun s hs=>oT d1 s ((aF ss).mem_iff.mp hs)))
   ·cases hf
  ·cases hf
 ·cases hf
theorem jm:aB X (.builtin "sorted") (kg.r X.K):=dg la fun _ _ _ h=>h
noncomputable def Ai (X:Cx) (p:Addr) (ss:List Str):HO:=.ext fun h=>cT X.prog X.w h p ss
def Gf (X:Cx):List V->Hp->VK->Prop:=fun xs H Q=>∃ (a:Addr) (ss:List Str),xs=[.ref a]/\SqL X.K H a (ss.map V.str)/\ss.length < 1000/\∀ p,H p=none->Q (.ref p) (upd H p (Ai X p (aL ss)))
theorem qL (hc:X.calm=true):aB X (.type "set") (Gf X):=by
 intro pins s Z H xs us Q I r h;obtain ⟨a,ss,rfl,hq,hl,q⟩:=h;obtain ⟨u,rfl,r1⟩:=vals1 r;cases (show u=Value.ref a from r1);obtain ⟨its,rv,p,hz⟩:=I.list hq;have hS:=bu rv;have hl2:its.length=ss.length:=by rw [<- rv.length,Jm]
 refine ma (I.ok.hd hc) (.inl rfl) p.isList (by simpa using hS) (by show its.toArray.size+1 < 4096;rw [Jz];omega) fun h' tk hS' hk=>?_;have hn:H s.heap.objs.size=none:=I.hok.fresh (Jt _);refine ⟨.ref s.heap.objs.size,_,I.laid (t':=tk) (o:=Ai X s.heap.objs.size (aL ss)) (fun b o hb=>hk b o (JB hb) hb) (Jt _) ?_,rfl,q _ hn⟩;obtain ⟨ob,es,ep,tb,ho,_⟩:=hS'.size;exact ⟨hS',⟨_,ho⟩,fun h1 h2 z k=>z.at k⟩
def Bz (X:Cx):List V->Hp->VK->Prop:=fun xs H Q=>∃ (d:Addr) (ss:List Str),xs=[.ref d]/\H d=some (Ai X d ss)/\ss.length < 64/\∀ p,H p=none->Q (.ref p) (upd H p (.lst ((bU ss).map V.str)))
theorem Inv.drew (I:Inv X pins Z H s):Inv X pins Z H { s with drawn:=d' } :=
 ⟨I.ok,I.os,I.bare,I.base,I.loc,I.cell,I.free,I.gG,I.pin,I.hok,I.len⟩
theorem jn (hc:X.calm=true):aB X (.builtin "sorted") (Bz X):=by
 intro pins s Z H xs us Q I r h;obtain ⟨d,ss,rfl,hq,h64,q⟩:=h;obtain ⟨u,rfl,r1⟩:=vals1 r;cases (show u=Value.ref d from r1);obtain ⟨hS,_⟩:=I.hok _ _ hq;refine BC (I.ok.hd hc) hS h64 fun out h' d' tk p e ho hk hp hg=>?_;have hn:H p=none:=I.hok.fresh hp;refine ⟨.ref p,_,Inv.drew (d':=d') (I.laid (t':=tk) (o:=.lst ((bU ss).map V.str)) hk hp ?_),rfl,q _ hn⟩;exact ⟨by rw [Jm,(aF ss).length_eq,Kk];omega,out,e,mJ ho,hg⟩
def rSS (K:Fg):V->Hp->VK->Prop:=fun x H Q=>∃ (a:Addr) (ss:List Str),x=.ref a/\SqL K H a (ss.map V.str)/\ss.length < 64/\∀ H1 p,aE H H1->H1 p=none->Q (.ref p) (upd H1 p (.lst ((bU (aL ss)).map V.str)))
noncomputable def vC:PyData->Option PR
 | .list ds=>match strsOf ds with | some ss=>if ss.length < 64 then some (.frs (.list ((bU (aL ss)).map .str))) else none | none=>none
 | _=>none
noncomputable def vH:Prm:=Prm.one rSS vC fun K F H x u pr Q hf hx hd q=>by
 unfold vC at hf;split at hf
 ·rename_i ds;split at hf
  ·rename_i ss hss;split at hf
   ·rename_i h64;cases hf;obtain ⟨a,us,rfl,s1,z1,d1⟩:=jh hx;obtain ⟨e,os⟩:=iw hss d1;rw [e] at s1;rw [jM hss] at d1;refine ⟨a,ss,rfl,s1,h64,fun H1 p sm hp=>?_⟩;have hp0:H p=none:=sm.free hp;have dl:DmL K F H ((bU (aL ss)).map .str) ((bU (aL ss)).map V.str):=kf fun s hs=>oT d1 s (dY.mp ((aF _).mem_iff.mp hs));refine q _ _ (sm.trans (aE.nw _ hp)) ?_;refine ⟨p,rfl,hp0,_,ak,?_,(dl.fresh hp0).pr (Pr.of_same (sm.trans (aE.nw _ hp))) fun _ z=>z⟩;rw [Jm,(aF _).length_eq,Kk];have:=gN ss;omega
   ·cases hf
  ·cases hf
 ·cases hf
theorem eSS (hc:X.calm=true) (hg1:Gl X "sorted") (hm1:X.mg "sorted" = none) (hg2:Gl X "set") (hm2:X.mg "set" = none) (h:PySem.W.isStarred e=false) (ha:JE X e te) :
  JE X (.Call (.Name "sorted" p1) [.Call (.Name "set" p2) [e] [] pos2] [] pos1) (tCB (vH.r X.K) (fA te uX)):=by
 let te':TE:=fun Z H P=>∃ P0:VK,te Z H P0/\∀ x H1,P0 x H1->P x H1
 have ha':JE X e te':=⟨fun pins s Z H P I ⟨P0,h0,h1⟩=>J1 (ha.h pins s Z H P0 I h0) (fun v s' ⟨x,H',I',r,q⟩=>⟨x,H',I',r,h1 _ _ q⟩) fun _ _ z=>z⟩;have inner:=eTy (p:=p2) (pos:=pos2) (qL hc) hg2 hm2 (by decide +kernel) (eA ha' ab h) h rfl (by decide) rfl;have outer:=eB (p:=p1) (pos:=pos1) (jn hc) hg1 hm1 (by decide +kernel) (eA inner ab rfl) rfl rfl (by decide) rfl;refine ⟨?_⟩;intro pins s Z H Q I hT;refine outer.h pins s Z H Q I ⟨_,hT,fun x H1 z=>?_⟩;have z:rSS X.K x H1 Q:=z;obtain ⟨a,ss,rfl,sq,h64,q⟩:=z;refine ⟨a,ss,rfl,sq,by omega,fun p hp=>?_⟩;refine ⟨p,aL ss,rfl,ak,by have:=gN ss;omega,fun p2 hp2=>?_⟩;exact q _ p2 (aE.nw _ hp) hp2
open PySem PySem.Spec PyProof.Rows
section
variable {X:Cx} {pins:List (Addr×Obj)} {Z:St} {H:Hp} {s:Shared}
theorem Inv.ghost (I:Inv X pins Z H s) (hN:X.N[h]?=some g) (hv:¬Vis X.env.scope g) (o:Option V):Inv X pins (Z.set h o) H s:=by
 obtain ⟨m,hm,hl⟩:=I.loc;refine ⟨I.ok,I.os,I.bare,I.base,⟨m,hm,fun i x v e1 e2 e3=>?_⟩,I.cell,I.free,I.gG,I.pin,I.hok,by rw [J7];exact I.len⟩;by_cases z:i=h
 ·subst z;rw [hN] at e1;cases e1;exact absurd e3 hv
 ·rw [Jq (fun q=>z q.symm)] at e2;exact hl i x v e1 e2 e3
def clE (te:TE):TE:=fun Z H P=>∃ P0:VK,te Z H P0/\∀ x H1,P0 x H1->P x H1
def clA (ta:TA):TA:=fun Z H P=>∃ P0:List V->Hp->Prop,ta Z H P0/\∀ xs H1,P0 xs H1->P xs H1
theorem Iw (ha:JE X e te):JE X e (clE te):=⟨fun pins s Z H P I ⟨P0,h0,h1⟩=>J1 (ha.h pins s Z H P0 I h0) (fun v s' ⟨x,H',I',r,q⟩=>⟨x,H',I',r,h1 _ _ q⟩) fun _ _ z=>z⟩
theorem IH (ha:JA X es ta):JA X es (clA ta):=⟨fun pos pins s Z H P I ⟨P0,h0,h1⟩=>J1 (ha.h pos pins s Z H P0 I h0) (fun v s' ⟨x,H',I',r,q⟩=>⟨x,H',I',r,h1 _ _ q⟩) fun _ _ z=>z⟩
def ghA (h:Nat) (ta:TA):TA:=fun Z H P=>∃ v,ta (Z.set h (some v)) H P
theorem H9 (hN:X.N[h]?=some g) (hv:¬Vis X.env.scope g) (ha:JA X es ta):JA X es (ghA h ta):=⟨fun pos pins s Z H P I ⟨v,h0⟩=>by
 refine J1 (ha.h pos pins s (Z.set h (some v)) H P (I.ghost hN hv _) h0) (fun us s' ⟨x,H',I',r,q⟩=>⟨x,H',?_,r,q⟩) fun _ _ z=>z;have I2:=I'.ghost hN hv ((Z[h]?).getD none);rw [LA] at I2;have e:Z.set h ((Z[h]?).getD none)=Z:=by
  apply LC;intro j;by_cases z:j=h
  ·subst z;cases q:Z[j]? with
   | none =>
    rw [List.getElem?_eq_none_iff] at q ⊢;rw [J7];exact q
   | some o =>
    have:j < Z.length:=by
     rcases KN j Z.length with z | z
     ·exact z
     ·rw [Kt z] at q;cases q
    rw [JK this];rfl
  ·rw [Jq (fun q=>z q.symm)]
 rw [e] at I2
 exact I2⟩
theorem BG (h:sc.names.lookup g=none):¬Vis sc g:=fun z=>by rcases z with z | z | z <;> (rw [h] at z;cases z)
theorem Hz {ce a1 a2 L:Expr} {post:List Expr} {tL:TE} {tp:TA} {i1 i2 h:Nat} {g:Str} {f:Fn} {K:Fg}
  (hcall:∀ t,JA X (a1 :: a2 :: L :: post) t->JE X ce (nK (tT f K) [] E0 t))
  (hN:X.N[h]?=some g) (hv:¬Vis X.env.scope g) (n1:i1≠h) (n2:i2≠h)
  (s1:PySem.W.isStarred a1=false) (s2:PySem.W.isStarred a2=false) (s3:PySem.W.isStarred L=false)
  (h1:JE X a1 (mV i1)) (h2:JE X a2 (mV i2)) (hL:JE X L tL) (hp:JA X post tp) :
  JE X ce (HA i1 i2 h tL (nK (tT f K) [] E0 (fA (mV i1) (fA (mV i2) (fA (mV h) tp))))):=by
 refine ⟨fun pins s Z H Q I hT=>?_⟩;obtain ⟨⟨v1,e1⟩,⟨v2,e2⟩,hT⟩:=hT;refine (hcall _ (eA h1 (eA h2 (eA (Iw hL) (H9 hN hv (IH hp)) s3) s2) s1)).h pins s Z H Q I ⟨v1,e1,v2,e2,_,hT,fun v H1 hK=>?_⟩;obtain ⟨w1,q1,w2,q2,w3,q3,hK⟩:=hK;rw [Jq (fun z=>n1 z.symm),e1] at q1;rw [Jq (fun z=>n2 z.symm),e2] at q2;have lt:h < Z.length:=by
  rcases KN h Z.length with z | z
  ·exact z
  ·rw [Kt (by rw [J7];exact z)] at q3;cases q3
 rw [JK lt] at q3;cases q1;cases q2;cases q3;exact ⟨v,_,hK,fun ws H2 z=>z⟩
end
open PySem PySem.Spec PyProof.Rows
theorem AY (h1:aO e [x]=some [.list (ss.map .str)]) (h2:ss.length < 64) (q:Q (.frs (.list ((bU ss).map .str))) e):WPr kg [x] e Q:=by
 refine ⟨_,.frs (.list ((bU ss).map .str)),h1,?_,q⟩;show mP (.list (ss.map .str))=_;unfold mP;simp only [cv];rw [Jx h2]
theorem xK (h1:aO e [x]=some [.list (ss.map .str)]) (h2:ss.length < 64) (q:Q (.frs (.list ((bU (aL ss)).map .str))) e):WPr vH [x] e Q:=by
 refine ⟨_,.frs (.list ((bU (aL ss)).map .str)),h1,?_,q⟩;show vC (.list (ss.map .str))=_;unfold vC;simp only [cv];rw [Jx h2]
theorem fU:∀ bs:List Bool,fk (bs.map .bool)=some bs
 | []=>rfl
 | b :: bs=>by
  rw [List.map_cons];unfold fk;rw [fU bs]
theorem w_any {e:En} {x:AV} {bs:List Bool} {Q:RV->En->Prop} (h1:aO e [x]=some [.list (bs.map .bool)]) (q:Q (.dat (.bool (bs.any id))) e):WPr GR [x] e Q:=by
 refine ⟨_,.dat (.bool (bs.any id)),h1,?_,q⟩;show (fk (bs.map .bool)).map _=_;rw [fU];rfl
theorem qk (h:acc.Nodup):(i7 acc x).Nodup:=by
 unfold i7;split
 ·exact h
 ·rename_i hx;refine List.nodup_append.mpr ⟨h,by simp,fun a ha b hb=>?_⟩;rw [Jv.mp hb];exact fun z=>hx (z▸ha)
theorem jv:∀ (ss acc:List Str),acc.Nodup->(ss.foldl i7 acc).Nodup
 | [],acc,h=>h
 | y :: r,acc,h=>jv r _ (qk h)
theorem fH (ss:List Str):(aL ss).Nodup:=jv ss [] List.nodup_nil
theorem Dp (h1:aU e i=some (.list xs)) (h2:xs.length+ys.length<=sizeLine) (h3:de e avs=some [(b,.list ys)]) (q:Q (.dat .none) (gq e i (.list (xs++ys)))):WMr GO i avs e Q :=
 ⟨_,_,.list (xs++ys),.none,h1,h3,by show (if xs.length+ys.length<=sizeLine then _ else _)=_;rw [Jx h2],q⟩
open PySem PySem.Spec PyProof.Rows
noncomputable def sX:PyData->List PyData->Option PR
 | .str z,[.str y]=>some (.dat (.bool (decide (y.length<=z.length)&&Builtin.Str.subAt z y 0)))
 | _,_=>none
noncomputable def yz:Mtd where
 T := "str"
 r:=fun _=>sL
 ty:=isS
 f:=sX
 xS:=fun K F H d v h t=>ty_str h t
 ok:=fun K F H d v ds vs pr Q hf hx hv hd q=>by
  unfold sX at hf;split at hf
  ·cases hf;obtain ⟨rfl,_⟩:=vStr hx;obtain ⟨w,r,rfl,hw,rfl⟩:=hv;obtain ⟨rfl,_⟩:=vStr hw;exact ⟨_,_,rfl,rfl,q _ H (aE.rf H) rfl⟩
  ·cases hf
open PySem PySem.Spec PyProof.Rows
def CQ (X:Cx):List V->Hp->VK->Prop:=fun xs H Q=>∃ (a:Addr) (ss:List Str),xs=[.ref a]/\SqT X.K H a (ss.map V.str)/\ss.length < 1000/\∀ p,H p=none->Q (.ref p) (upd H p (Ai X p (aL ss)))
theorem qu (hc:X.calm=true):aB X (.type "set") (CQ X):=by
 intro pins s Z H xs us Q I r h;obtain ⟨a,ss,rfl,hq,hl,q⟩:=h;obtain ⟨u,rfl,r1⟩:=vals1 r;cases (show u=Value.ref a from r1);obtain ⟨its,rv,p,hz⟩:=I.tuple hq;have hS:=bu rv;have hl2:its.length=ss.length:=by rw [<- rv.length,Jm]
 refine ma (I.ok.hd hc) (.inr rfl) p (by simpa using hS) (by show its.toArray.size+1 < 4096;rw [Jz];omega) fun h' tk hS' hk=>?_;have hn:H s.heap.objs.size=none:=I.hok.fresh (Jt _);refine ⟨.ref s.heap.objs.size,_,I.laid (t':=tk) (o:=Ai X s.heap.objs.size (aL ss)) (fun b o hb=>hk b o (JB hb) hb) (Jt _) ?_,rfl,q _ hn⟩;obtain ⟨ob,es,ep,tb,ho,_⟩:=hS'.size;exact ⟨hS',⟨_,ho⟩,fun h1 h2 z k=>z.at k⟩
def HU (K:Fg):V->Hp->VK->Prop:=fun x H Q=>∃ (a:Addr) (ss:List Str),x=.ref a/\SqT K H a (ss.map V.str)/\ss.length < 64/\∀ H1 p,aE H H1->H1 p=none->Q (.ref p) (upd H1 p (.lst ((bU (aL ss)).map V.str)))
noncomputable def oK:PyData->Option PR
 | .tuple ds=>match strsOf ds with | some ss=>if ss.length < 64 then some (.frs (.list ((bU (aL ss)).map .str))) else none | none=>none
 | _=>none
noncomputable def xm:Prm:=Prm.one HU oK fun K F H x u pr Q hf hx hd q=>by
 unfold oK at hf;split at hf
 ·rename_i ds;split at hf
  ·rename_i ss hss;split at hf
   ·rename_i h64;cases hf;obtain ⟨a,us,rfl,s1,z1,d1⟩:=qC hx;obtain ⟨e,os⟩:=iw hss d1;rw [e] at s1;rw [jM hss] at d1;refine ⟨a,ss,rfl,s1,h64,fun H1 p sm hp=>?_⟩;have hp0:H p=none:=sm.free hp;have dl:DmL K F H ((bU (aL ss)).map .str) ((bU (aL ss)).map V.str):=kf fun s hs=>oT d1 s (dY.mp ((aF _).mem_iff.mp hs));refine q _ _ (sm.trans (aE.nw _ hp)) ?_;refine ⟨p,rfl,hp0,_,ak,?_,(dl.fresh hp0).pr (Pr.of_same (sm.trans (aE.nw _ hp))) fun _ z=>z⟩;rw [Jm,(aF _).length_eq,Kk];have:=gN ss;omega
   ·cases hf
  ·cases hf
 ·cases hf
theorem Ii (hc:X.calm=true) (hg1:Gl X "sorted") (hm1:X.mg "sorted" = none) (hg2:Gl X "set") (hm2:X.mg "set" = none) (h:PySem.W.isStarred e=false) (ha:JE X e te) :
  JE X (.Call (.Name "sorted" p1) [.Call (.Name "set" p2) [e] [] pos2] [] pos1) (tCB (xm.r X.K) (fA te uX)):=by
 let te':TE:=fun Z H P=>∃ P0:VK,te Z H P0/\∀ x H1,P0 x H1->P x H1
 have ha':JE X e te':=⟨fun pins s Z H P I ⟨P0,h0,h1⟩=>J1 (ha.h pins s Z H P0 I h0) (fun v s' ⟨x,H',I',r,q⟩=>⟨x,H',I',r,h1 _ _ q⟩) fun _ _ z=>z⟩;have inner:=eTy (p:=p2) (pos:=pos2) (qu hc) hg2 hm2 (by decide +kernel) (eA ha' ab h) h rfl (by decide) rfl;have outer:=eB (p:=p1) (pos:=pos1) (jn hc) hg1 hm1 (by decide +kernel) (eA inner ab rfl) rfl rfl (by decide) rfl;refine ⟨?_⟩;intro pins s Z H Q I hT;refine outer.h pins s Z H Q I ⟨_,hT,fun x H1 z=>?_⟩;have z:HU X.K x H1 Q:=z;obtain ⟨a,ss,rfl,sq,h64,q⟩:=z;refine ⟨a,ss,rfl,sq,by omega,fun p hp=>?_⟩;refine ⟨p,aL ss,rfl,ak,by have:=gN ss;omega,fun p2 hp2=>?_⟩;exact q _ p2 (aE.nw _ hp) hp2
def HW (neg:Bool):R2:=fun x y H Q=>∃ a b:Bool,x=.bl a/\y=.bl b/\Q (.bl (if neg then !(a==b) else a==b)) H
theorem qH:OpR X (compareOp .IsNot) (HW true):=by
 intro pins s Z H x y v u Q I rx ry h;obtain ⟨a,b,rfl,rfl,q⟩:=h;cases rx;cases ry;exact Jn ⟨.bl _,H,I,by cases a <;> cases b <;> rfl,q⟩
noncomputable def HY (neg:Bool):PyData->PyData->Option PR
 | .bool a,.bool b=>some (.dat (.bool (if neg then !(a==b) else a==b)))
 | _,_=>none
noncomputable def GB (neg:Bool):Prm:=Prm.two (fun _=>HW neg) (HY neg) fun K F H x y u v pr Q hf hx hy hd q=>by
 unfold HY at hf;split at hf
 ·cases hf;rw [vBl hx,vBl hy];exact ⟨_,_,rfl,rfl,q _ H (aE.rf H) rfl⟩
 ·cases hf
noncomputable abbrev tY:Prm:=GB true
theorem pP:OpR X (compareOp .IsNot) (fun x y=>tY.r X.K [x,y]):=qH
noncomputable def kgV (l:List (Str×Cst)) (z:Str):V:=((l.find? fun p=>decide (p.1=z)).map (·.2.v)).getD .non
noncomputable def kgD (l:List (Str×Cst)) (z:Str):PyData:=((l.find? fun p=>decide (p.1=z)).map (·.2.d)).getD .none
theorem CH (l:List (Str×Cst)) (z:Str) (K:Fg) (F:Addr->Prop) (H:Hp):Dm K F H (kgD l z) (kgV l z):=by
 unfold kgD kgV;cases l.find? fun p=>decide (p.1=z) with
 | none=>rfl
 | some p=>exact p.2.ok K F H
def KG (w:World) (K:Fg) (a:Addr) (l:List (Str×Cst)):Prop:=∃ es n,K.lookup a=some ⟨.type "dict", none,.dict es n,#[]⟩/\PySem.W.KeysLit w.params es.toList/\(a==sysModules)=false/\∀ z,RelV (kgV l z) ((findBy Value.isStrOf es z).getD .none)
noncomputable def zL (e:DictEntry):Option Str:=match e.key with | .str x _=>some x | _=>none
theorem DM (hk:es.toList.map zL=l.map fun p=>some p.1) (h:∀ p∈l,∃ u,findBy Value.isStrOf es p.1=some u/\RelV p.2.v u):∀ z,RelV (kgV l z) ((findBy Value.isStrOf es z).getD .none):=by
 intro z;unfold kgV;cases hf:l.find? (fun p=>decide (p.1=z)) with
 | none =>
  have:findBy Value.isStrOf es z=none:=by
   unfold findBy;rw [L8,Array.find?_eq_none];intro e he hz;obtain ⟨t,ek⟩:=Value.isStrOf_shape hz;have hm:zL e∈es.toList.map zL:=List.mem_map_of_mem (Array.mem_def.mp he);rw [hk] at hm;obtain ⟨p,hp,e2⟩:=JV.mp hm;have:zL e=some z:=by unfold zL;rw [ek]
   rw [this] at e2;injection e2 with e2;have:=List.find?_eq_none.mp hf p hp;simp [e2] at this
  rw [this];rfl
 | some p =>
  have hp:=List.mem_of_find?_eq_some hf;have hz:p.1=z:=by simpa using List.find?_some hf
  obtain ⟨u,h1,h2⟩:=h p hp;rw [<- hz,h1];exact h2
def CY (l:List (Str×Cst)):V->Hp->VK->Prop:=fun y H Q=>∃ z,y=.str z/\Q (kgV l z) H
noncomputable def Dk (l:List (Str×Cst)):PyData->Option PR
 | .str z=>some (.dat (kgD l z))
 | _=>none
noncomputable def CT (l:List (Str×Cst)):Prm:=Prm.one (fun _=>CY l) (Dk l) fun K F H x u pr Q hf hx hd q=>by
 unfold Dk at hf;split at hf
 ·cases hf;obtain ⟨rfl,_⟩:=vStr hx;exact ⟨_,rfl,q _ H (aE.rf H) (CH l _ K F H)⟩
 ·cases hf
section
variable {X:Cx} {o e:Expr} {apos cpos:Pos} {te:TE} {a:Addr} {l:List (Str×Cst)}
theorem eKG (ho:JE X o (tC (.ref a))) (hk:KG X.w X.K a l) (he:JE X e te) (hbase:attributeBase o "get" X.env (eval o X.env)=eval o X.env)
  (hfew:((backTo cpos (starEach [e] X.env)).all (fun x=>!x.1)&&(backToKw cpos (keywordEach [] X.env)).all (fun x=>x.1.isSome)&&decide (([e]:List Expr).length+([]:List Keyword).length+(if ([]:List Keyword).isEmpty then 0 else 1) < 30))=true)
  (hline:(apos.endLine==cpos.line)=true) (h1:PySem.W.isStarred e=false):JE X (.Call (.Attribute o "get" apos) [e] [] cpos) (tCB ((CT l).r X.K) (fA te uX)):=by
 have m:M1 X o "get" apos e cpos:=⟨hbase,hfew,hline,by rw [bB h1];rfl⟩;refine ⟨?_⟩;intro pins s Z H Q I h;obtain ⟨es,n,hl,hks,hsm,hf⟩:=hk;refine wpAny_Call_method m.base m.few m.line PySem.F.plainAttrs_dict LG PySem.F.type_dict_get (thn (ho.h pins s Z H (fun x H1=>x=.ref a/\H1=H) I ⟨rfl,rfl⟩) fun u s1 ⟨x,H1,I1,rx,ex,eH⟩=>?_);subst ex eH;obtain rfl:u=Value.ref a:=rx;have hm:s1.heap.MapOf (PySem.strKind X.prog X.w) a (fun k=>findBy Value.isStrOf es k):=PySem.W.mapOf_K I1.kIn hl hks;refine ⟨hm.typeIs,hm.noDict,?_⟩;rw [m.trees];have h:te Z H1 fun y H2=>CY l y H2 Q:=h;refine Calls.callWith_builtin rfl (Calls.evalArgs_plain (Calls.spliced_cons (thn (he.h pins s1 Z H1 _ I1 h) fun iv s2 ⟨y,H2,I2,ry,z,ey,q2⟩=>Calls.spliced_nil ?_)));subst ey;obtain ⟨t,rfl⟩:=ry;have hm2:s2.heap.MapOf (PySem.strKind X.prog X.w) a (fun k=>findBy Value.isStrOf es k):=PySem.W.mapOf_K I2.kIn hl hks;refine call_meetsIn LG hm2.typeIs PySem.F.entry_dict_get (PySem.F.args_dict_get_2 _ _) (meets_dict_get (PySem.strKind X.prog X.w) a (strKind_is X.prog X.w z t) hsm) ⟨_,hm2,?_⟩;exact ⟨_,H2,I2.tok _,hf z,q2⟩
end
noncomputable def Gh:Prm where
 r:=fun _ vs H Q=>match vs with | []=>∀ p,H p=none->Q (.ref p) (upd H p (.dD 0 [])) | _=>False
 f:=fun ds=>match ds with | []=>some (.frs (.dict [])) | _=>none
 ok:=fun K F H ds vs pr Q hf hv hd q=>by
  match ds,hf with
  | [],hf =>
   cases hf;rw [show vs=[] from hv];exact fun p hp=>q _ _ (aE.nw _ hp) ⟨p,rfl,hp,0,[],ak,J9 _,rfl⟩
open PySem PySem.Spec PyProof.Rows
def kE:List (Option Sl)->En->Prop
 | [],e=>e=[]
 | some s :: r,e=>∃ e',kE r e'/\e=s :: e'
 | none :: r,e=>∃ x e',soft x/\kE r e'/\e=x :: e'
def vS:List (Option Sl)->(En->Prop)->Prop
 | [],P=>P []
 | some s :: ts,P=>vS ts fun e=>P (s :: e)
 | none :: ts,P=>∀ s,soft s->vS ts fun e=>P (s :: e)
theorem kE.out:∀ {ts:List (Option Sl)} {e:En} {P:En->Prop},kE ts e->vS ts P->P e
 | [],_,_,h,q=>by cases (show _=_ from h);exact q
 | some s :: ts,e,P,h,q=>by obtain ⟨r,hr,rfl⟩:=h;exact hr.out (P:=fun e=>P (s :: e)) q
 | none :: ts,e,P,h,q=>by obtain ⟨s,r,hs,hr,rfl⟩:=h;exact hr.out (P:=fun e=>P (s :: e)) (q s hs)
section
variable {gd:List PyData} {e e':En} {E:Kn} {Q:RV->En->Prop} {QA:List AV->En->Prop} {QT:Bool->En->Prop} {QI:List PyData->Option Nat->En->Prop} {N:En->Prop} {i:Nat} {r:RV}
theorem C6 (h:e=e') (q:Af i r e' N):Af i r e N:=h▸q
theorem y8 (h:e=e') (q:sU i r e' N):sU i r e N:=h▸q
theorem C2 (h:e=e') (q:DS is r e' N):DS is r e N:=h▸q
theorem Ir (h:e=e') (q:WA gd as e' QA):WA gd as e QA:=h▸q
theorem Iy (h:e=e') (q:WE gd a e' Q):WE gd a e Q:=h▸q
theorem Io (h:e=e') (q:WS gd s e' E):WS gd s e E:=h▸q
theorem IQ (h:e=e') (q:WT gd t e' QT):WT gd t e QT:=h▸q
theorem IU (h:e=e') (q:WI gd t e' QI):WI gd t e QI:=h▸q
theorem Ey (h:e=e') (q:WPr p avs e' Q):WPr p avs e Q:=h▸q
theorem zp (h:e=e') (q:k8 f avs e' Q):k8 f avs e Q:=h▸q
theorem FK (h:e=e') (q:WTp mk avs e' Q):WTp mk avs e Q:=h▸q
theorem Ex (h:e=e') (q:WMr m i avs e' Q):WMr m i avs e Q:=h▸q
theorem EU (h:e=e') (q:Cc m r avs e' Q):Cc m r avs e Q:=h▸q
theorem Bx (h:e=e') (q:B9 gd m as r e' Q):B9 gd m as r e Q:=h▸q
theorem BL (h:e=e') (q:DO ms QF r e'):DO ms QF r e:=h▸q
theorem zA (h:e=e') (q:vp ms QF e'):vp ms QF e:=h▸q
theorem AJ (h:e=e') (q:DW r e' QI):DW r e QI:=h▸q
theorem AN (h:e=e') (q:D0 gd m i a r e' N):D0 gd m i a r e N:=h▸q
theorem BB (h:e=e') (q:Dj m i v r e' N):Dj m i v r e N:=h▸q
end
theorem isEq (h:WPr (DQ b) avs e Q):WPr (DQ b) avs e Q:=h
theorem qt (h:free env i=true) (q:fx (env.set i (.dat d)) is ds=some e2):fx env (i :: is) (d :: ds)=some e2:=by
 simp only [fx];rw [Jx h];exact q
theorem at0:atI (x :: xs) 0=some x:=by
 unfold atI ixN;rw [Jx (Int.le_refl _),Jx (by rw [JL];omega)];rfl
theorem nc:PyData.eqv (.str x) (.str y)=decide (x=y):=by
 simp only [PyData.eqv];rfl
theorem jO (xs:List Str):f6 (.list (xs.map PyData.str))=true:=by
 refine tZ ?_ ?_
 ·simp only [noD];exact gO.mpr fun d hd=>by
   obtain ⟨x,_,rfl⟩:=JV.mp hd;rfl
 ·refine J6 (jx (k:=0) fun d hd=>?_) (by omega);obtain ⟨x,_,rfl⟩:=JV.mp hd;simp [PyData.depth]
theorem A6 (h1:aO e [x,y]=some [d,d]) (h2:f6 d=true) (q:Q (.dat (.bool true)) e):WPr eqP [x,y] e Q :=
 w_eq h1 h2 h2 (by rw [eqv_refl d (by have:=h2;simp only [f6,JU] at this;exact this.1)];exact q)
theorem uD (h1:aO e [x,y]=some [d,d]) (h2:f6 d=true) (q:Q (.dat (.bool false)) e):WPr neP [x,y] e Q :=
 IW h1 h2 h2 (by rw [eqv_refl d (by have:=h2;simp only [f6,JU] at this;exact this.1)];exact q)
theorem Jb (h1:aO e [x,y]=some [z,.list ds]) (h2:yP z=true) (h3:fG ds=true) (h4:z8 ds z=b) (q:Q (.dat (.bool b)) e):WPr inP [x,y] e Q:=by
 refine ⟨_,.dat (.bool b),h1,?_,q⟩;subst h4;cases z with
 | dict kvs=>simp [yP,noD] at h2
 | _=>(show (if yP _=true/\fG ds=true then some (PR.dat (.bool (ngB false (z8 ds _)))) else none)=_);rw [Jx ⟨h2,h3⟩];rfl
def HI (p:Prm) (r r2:RV) (k:PyData->Bool->Prop):Prop:=∃ x y b,r.av=.dat x/\r2.av=.dat y/\p.f [x,y]=some (.dat (.bool b))/\k y b
def GZ (p:Prm) (y:PyData) (r:RV) (e:En) (Q:RV->En->Prop):Prop:=∃ z pr,r.av=.dat z/\p.f [y,z]=some pr/\Q pr.rv e
theorem Df (h:WE gd a env fun r e=>WE gd b e fun r2 e2=>HI p r r2 fun y k=>if k=true then WE gd c e2 fun r3 e3=>GZ p' y r3 e3 Q else Q (.dat (.bool false)) e2):WE gd (.chn p p' a b c) env Q:=by
 refine E1 ?_;obtain ⟨r,e,h1,r2,e2,h2,x,y,k,h3,h4,h5,h6⟩:=h;exact ⟨r,e,h1,r2,e2,h2,x,y,k,h3,h4,h5,h6⟩
theorem w_all {e:En} {x:AV} {bs:List Bool} {Q:RV->En->Prop} (h1:aO e [x]=some [.list (bs.map .bool)]) (q:Q (.dat (.bool (bs.all id))) e):WPr D6 [x] e Q:=by
 refine ⟨_,.dat (.bool (bs.all id)),h1,?_,q⟩;show (fk (bs.map .bool)).map _=_;rw [fU];rfl
theorem LI {α:Type} {xs:List α} {i:Nat} {x:α} (h:xs[i]?=some x):xs.take i++[x]=xs.take (i+1):=by
 rw [List.take_add_one,h];rfl
theorem eT {α:Type} {P:α->Prop} {xs:List α} {y:α} (h:∀ x∈xs,P x) (hy:P y):∀ x∈xs++[y],P x:=fun x hm=>by
 rcases Kg.mp hm with hm | hm
 ·exact h x hm
 ·rw [Jv.mp hm];exact hy
theorem wu (h1:ss.Pairwise fun a b=>leT a b=true) (h2:ss.Nodup):bU (aL ss)=ss:=by
 have pm:(aL ss).Perm ss:=(LW (fH ss) h2).mpr fun x=>dY;exact Lv (fun _ _ _ _ p q=>jU p q) (fQ _) h1 ((aF _).trans pm)
open PySem PySem.Spec PyProof.Rows
theorem Ij (hg:Gl X "isinstance") (hm:X.mg "isinstance" = none) (ha:JE X e te) (hs:PySem.W.isStarred e=false) (hb:JE X (.Name (Str.ofString T) p2) (tC (.ty T))):JE X (.Call (.Name "isinstance" p) [e,.Name (Str.ofString T) p2] [] pos) (tCB ((pS T).r X.K) (fA te uX)) :=
 ⟨(eB yi hg hm (by decide +kernel) (eA ha (eA hb ab rfl) hs) hs rfl (by decide) rfl).h⟩
open PySem PySem.Spec PyProof.Rows
theorem sd:∀ {ns:List Int} {its:List Value},Vals (ns.map V.int) its->∃ ps:List (Int×Tok),its=ps.map (fun p=>.int p.1 p.2)/\ps.map (·.1)=ns
 | [],_,r=>by cases r;exact ⟨[],rfl,rfl⟩
 | n :: ns,_,r=>by
  cases r with
  | cons r1 r2 =>
   obtain ⟨t,rfl⟩:=r1;obtain ⟨ps,e1,e2⟩:=sd r2;exact ⟨(n,t) :: ps,by rw [e1];rfl,by rw [<- e2];rfl⟩
theorem uo (ps:List (Int×Tok)):∀ n,n<=ps.length->preSum (numAt ps.toArray) n=((ps.take n).map (·.1)).sum
 | 0,_=>rfl
 | n+1,h=>by
  have hn:n < ps.length:=by omega
  show preSum (numAt ps.toArray) n+numAt ps.toArray n=_;rw [uo ps n (by omega),List.take_add_one,Jl hn,Kb,List.sum_append];have:numAt ps.toArray n=ps[n].1:=by unfold numAt;simp [hn]
  rw [this];simp
def HP (K:Fg):V->Hp->VK->Prop:=fun x H Q=>∃ (a:Addr) (ns:List Int),x=.ref a/\SqL K H a (ns.map V.int)/\Q (.int ns.sum) H
noncomputable def intsOf:List PyData->Option (List Int)
 | []=>some []
 | .int i :: r=>match intsOf r with | some is=>some (i :: is) | none=>none
 | _ :: _=>none
theorem xM {K:Fg} {F:Addr->Prop} {H:Hp}:∀ {ds:List PyData} {xs:List V} {is:List Int},intsOf ds=some is->DmL K F H ds xs->xs=is.map V.int
 | [],xs,is,h,q=>by cases h;exact q
 | d :: r,xs,is,h,q=>by
  obtain ⟨v,rr,rfl,h1,h2⟩:=q;unfold intsOf at h;split at h
  ·rename_i e;cases e
  ·rename_i i r' e;cases e;split at h
   ·rename_i is' hi;cases h;rw [xM hi h2,show v=.int i from h1];rfl
   ·cases h
  ·cases h
noncomputable def Ef:Prm:=Prm.one HP (fun x=>match x with | .list ds=>(intsOf ds).map fun is=>.dat (.int is.sum) | _=>none) fun K F H x u pr Q hf hx hd q=>by
 split at hf
 ·obtain ⟨is,e,rfl⟩:=JM.mp hf;obtain ⟨a,us,rfl,s1,z1,d1⟩:=jh hx;rw [xM e d1] at s1;exact ⟨a,is,rfl,s1,q _ H (aE.rf H) rfl⟩
 ·cases hf
theorem u6 (hc:X.calm=true):aB X (.builtin "sum") (fun xs H Q=>∃ x,xs=[x]/\HP X.K x H Q):=by
 intro pins s Z H xs us Q I r h;obtain ⟨x,rfl,a,ns,rfl,hq,q⟩:=h;obtain ⟨u,rfl,r1⟩:=vals1 r;cases (show u=Value.ref a from r1);obtain ⟨its,rv,p,hz⟩:=I.list hq;obtain ⟨ps,rfl,e2⟩:=sd rv;have hl:s.heap.IsList a (intItems ps.toArray):=by
  have:=p.isList;unfold intItems;simpa using this
 refine sum_intListG (I.ok.hd hc) hl fun h' tk t' k=>⟨.int ns.sum,H,I.kept k,⟨t',?_⟩,q⟩;have:=uo ps ps.length (Jt _);rw [K9,e2] at this;rw [<- this];rfl
theorem yT (hc:X.calm=true):aB X (.builtin "sum") (Ef.r X.K):=dg (u6 hc) fun x H Q h=>⟨x,rfl,h⟩
open PySem PySem.Spec PyProof.Rows
theorem AR (h1:rk.view e2=some k) (h2:aU e2 i=some (.dict kvs)) (h3:hk6 k=true) (h4:kvs.length < sizeLine) (q:N (gq e2 i (.dict (putD kvs k v)))):Dj x8 i v rk e2 N :=
 ⟨_,_,_,h1,h2,by show (if hk6 k=true/\kvs.length < sizeLine then some (PyData.dict (putD kvs k v)) else none)=_;rw [Jx ⟨h3,h4⟩],q⟩
open PySem PySem.Spec PyProof.Rows PySem.W
def Ev (lt:Nat->Nat->Bool) (n:Nat) {α:Type}:KasT α->(α->Prop)->Prop
 | .ret a,R=>R a
 | .ask i j k,R=>i < n/\j < n/\Ev lt n (k (lt i j)) R
theorem fV {lt:Nat->Nat->Bool} {n:Nat} {α β:Type} {f:α->KasT β} {R:β->Prop} {S:α->Prop} (h2:∀ a,S a->Ev lt n (f a) R):∀ {t:KasT α},Ev lt n t S->Ev lt n (t.bind f) R
 | .ret a,h=>h2 a h
 | .ask i j k,h=>⟨h.1,h.2.1,fV h2 h.2.2⟩
theorem BQ {lt:Nat->Nat->Bool} {n:Nat} {α:Type} {cmp:Nat->Nat->(Bool->Shared->Prop)->Shared->Prop} {Q:α->Shared->Prop} {R:α->Prop} {s:Shared} (hc:∀ i j (C:Bool->Shared->Prop),i < n->j < n->C (lt i j) s->cmp i j C s) (hq:∀ a,R a->Q a s):∀ {t:KasT α},Ev lt n t R->t.kasWp cmp Q s
 | .ret a,h=>hq a h
 | .ask i j k,h=>hc i j _ h.1 h.2.1 (BQ hc hq h.2.2)
theorem Ev.mono {lt:Nat->Nat->Bool} {n:Nat} {α:Type} {R S:α->Prop}:∀ {t:KasT α},Ev lt n t R->(∀ a,R a->S a)->Ev lt n t S
 | .ret a,h,q=>q a h
 | .ask i j k,h,q=>⟨h.1,h.2.1,Ev.mono h.2.2 q⟩
structure Ord (lt:Nat->Nat->Bool) (n:Nat):Prop where
 irr:∀ i,lt i i=false
 tr:∀ i j k,lt i j=true->lt j k=true->lt i k=true
 tot:∀ i j,i < n->j < n->i≠j->lt i j=false->lt j i=true
noncomputable def at_ (p:Array Nat) (i:Nat):Nat:=p.getD i 0
def Up (lt:Nat->Nat->Bool) (p:Array Nat) (m:Nat):Prop:=∀ i,i+1 < m->lt (at_ p i) (at_ p (i+1))=true
def Dn_ (lt:Nat->Nat->Bool) (p:Array Nat) (m:Nat):Prop:=∀ i,i+1 < m->lt (at_ p (i+1)) (at_ p i)=true
section
variable {lt:Nat->Nat->Bool} {n:Nat} {p:Array Nat}
theorem n3 {q:Array Nat} {i j:Nat} (h:p[i]?=q[j]?):at_ p i=at_ q j:=by
 unfold at_;rw [J3,J3,h]
def Pm (n:Nat) (p:Array Nat):Prop:=p.Perm (List.range n).toArray
theorem Pm.size (h:Pm n p):p.size=n:=by
 have:=Array.Perm.size_eq h;simpa using this
theorem Pm.bd (h:Pm n p) (h1:1<=n) (i:Nat):at_ p i < n:=by
 unfold at_;rw [J3];by_cases hi:i < p.size
 ·rw [JR hi];have:p[i]∈(List.range n).toArray:=(Array.Perm.mem_iff h).mp (Array.getElem_mem hi);simpa using this
 ·rw [Ma (by omega)];exact h1
theorem Pm.ne (h:Pm n p) {i j:Nat} (hi:i < n) (hj:j < n) (hn:i≠j):at_ p i≠at_ p j:=by
 have nd:p.toList.Nodup:=by
  have:=Ln.mp h;rw [this.nodup_iff];simpa using List.nodup_range
 have hs:=h.size;unfold at_;rw [J3,J3,JR (show i < p.size by omega),JR (show j < p.size by omega)];intro z;have z:p[i]=p[j]:=z;exact hn ((List.getElem?_inj (by rw [JQ];omega) nd).mp (by rw [Kd,Kd,JR (show i < p.size by omega),JR (show j < p.size by omega),z]))
theorem Up.all (O:Ord lt n) {m:Nat} (h:Up lt p m) {i j:Nat} (hij:i < j) (hj:j < m):lt (at_ p i) (at_ p j)=true:=by
 induction j with
 | zero=>omega
 | succ j ih =>
  by_cases e:i=j
  ·subst e;exact h i hj
  ·exact O.tr _ _ _ (ih (by omega) (by omega)) (h j hj)
theorem Up.succ {m:Nat} (h:Up lt p m) (h1:1<=m) (e:lt (at_ p (m - 1)) (at_ p m)=true):Up lt p (m+1):=by
 intro i hi;by_cases z:i+1 < m
 ·exact h i z
 ·have:i=m - 1:=by omega
  subst this;rw [show m - 1+1=m by omega];exact e
theorem Dn_.succ {m:Nat} (h:Dn_ lt p m) (h1:1<=m) (e:lt (at_ p m) (at_ p (m - 1))=true):Dn_ lt p (m+1):=by
 intro i hi;by_cases z:i+1 < m
 ·exact h i z
 ·have:i=m - 1:=by omega
  subst this;rw [show m - 1+1=m by omega];exact e
theorem sH (O:Ord lt n) (P:Pm n p):∀ (f m:Nat),1<=m->m+f=n->Up lt p m->Ev lt n (kas_asc p f m) fun r=>m<=r/\r<=n/\Up lt p r/\(r < n->lt (at_ p r) (at_ p (r - 1))=true)
 | 0,m,h1,hm,hu=>⟨Jt _,by omega,hu,fun z=>by omega⟩
 | f+1,m,h1,hm,hu=>by
  unfold kas_asc;refine ⟨P.bd (by omega) m,P.bd (by omega) (m - 1),?_⟩;show Ev lt n (if lt (at_ p m) (at_ p (m - 1))=true then _ else _) _;split
  ·rename_i c;exact ⟨Jt _,by omega,hu,fun _=>c⟩
  ·rename_i c;have c':=O.tot _ _ (P.bd (by omega) m) (P.bd (by omega) (m - 1)) (P.ne (by omega) (by omega) (by omega)) (Lj.mpr c);have:=sH O P f (m+1) (by omega) (by omega) (hu.succ h1 c');exact Ev.mono this fun r h=>⟨by omega,h.2⟩
theorem sW (O:Ord lt n) (P:Pm n p):∀ (f m:Nat),1<=m->m+f=n->Dn_ lt p m->Ev lt n (kas_desc f p m 0) fun r=>r.1=p/\r.2.2=0/\m<=r.2.1/\r.2.1<=n/\Dn_ lt p r.2.1
 | 0,m,h1,hm,hu=>⟨rfl,rfl,Jt _,show m<=n by omega,hu⟩
 | f+1,m,h1,hm,hu=>by
  unfold kas_desc;refine ⟨P.bd (by omega) m,P.bd (by omega) (m - 1),?_⟩;show Ev lt n (if lt (at_ p m) (at_ p (m - 1))=true then _ else _) _;split
  ·rename_i c;rw [JD (by omega)];exact Ev.mono (sW O P f (m+1) (by omega) (by omega) (hu.succ h1 c)) fun r h=>⟨h.1,h.2.1,by omega,h.2.2.2⟩
  ·rename_i c;have c':=O.tot _ _ (P.bd (by omega) m) (P.bd (by omega) (m - 1)) (P.ne (by omega) (by omega) (by omega)) (Lj.mpr c);refine ⟨P.bd (by omega) (m - 1),P.bd (by omega) m,?_⟩;show Ev lt n (if lt (at_ p (m - 1)) (at_ p m)=true then _ else _) _;rw [Jx c'];exact ⟨rfl,rfl,Jt _,show m<=n by omega,hu⟩
theorem Cy {m:Nat} (hs:m<=p.size) (h:Dn_ lt p m):Up lt (kas_rev p 0 m) m:=by
 intro i hi;have e:∀ k,k < m->at_ (kas_rev p 0 m) k=at_ p (m - 1 - k):=by
  intro k hk;refine n3 ?_;unfold kas_rev;rw [getElem?_mirror_all hs,Jx ⟨J9 _,hk⟩,Nat.zero_add]
 rw [e i (by omega),e (i+1) hi];have:=h (m - 1 - (i+1)) (by omega)
 rwa [show m - 1 - (i+1)+1=m - 1 - i by omega] at this
theorem Pm.rev (h:Pm n p) (i j:Nat):Pm n (kas_rev p i j):=(mirror_perm _ _ _ _).trans h
theorem yE (O:Ord lt n) (P:Pm n p) {m:Nat} (h1:1<=m) (hm:m<=n) (hd:Dn_ lt p m):Ev lt n (kas_tail3 m n p) fun r=>Pm n r.2/\r.1<=n/\Up lt r.2 r.1:=by
 unfold kas_tail3;refine fV ?_ (sH O (P.rev 0 m) (n - m) m h1 (by omega) (Cy (by rw [P.size];exact hm) hd));rintro r ⟨_,h1,h2,_⟩;exact ⟨P.rev 0 m,h1,h2⟩
theorem vo (O:Ord lt n) (P:Pm n p) (hn:1<=n):Ev lt n (kas_count n p) fun r=>Pm n r.2/\r.1<=n/\Up lt r.2 r.1:=by
 unfold kas_count;refine fV ?_ (sH O P (n - 1) 1 (Jt _) (by omega) (fun i hi=>by omega));rintro m ⟨m1,mn,hu,hx⟩;split
 ·exact ⟨P,mn,hu⟩
 ·rename_i c;have hm:m < n:=by
   have:m≠n:=fun z=>c (by rw [z];exact beq_self_eq_true n);omega
  split
  ·refine ⟨P.bd hn 0,P.bd hn (m - 1),?_⟩;show Ev lt n (if lt (at_ p 0) (at_ p (m - 1))=true then _ else _) _;rw [Jx (hu.all O (by omega) (by omega))];exact ⟨P,mn,hu⟩
  ·have:m=1:=by omega
   subst this;unfold kas_descPart;refine fV ?_ (sW O P (n - (1+1)) (1+1) (by omega) (by omega) ?_)
   ·rintro ⟨q,m,z⟩ ⟨rfl,rfl,h1,h2,h3⟩;rw [JD (by exact Ks 0)];exact yE O P (by omega) h2 h3
   ·intro i hi;have:i=0:=by omega
    subst this;exact hx hm
theorem jR (O:Ord lt n) (P:Pm n p) {k:Nat} (hk:k < n) (hu:Up lt p k):∀ (f l r:Nat),r<=k->r - l<=f->l<=r->(∀ i,i < l->lt (at_ p i) (at_ p k)=true)->(∀ i,r<=i->i < k->lt (at_ p k) (at_ p i)=true)->Ev lt n (kas_place p k f l r) fun z=>z<=k/\(∀ i,i < z->lt (at_ p i) (at_ p k)=true)/\∀ i,z<=i->i < k->lt (at_ p k) (at_ p i)=true
 | 0,l,r,hr,hf,hlr,h1,h2=>⟨by omega,h1,fun i a b=>h2 i (by omega) b⟩
 | f+1,l,r,hr,hf,hlr,h1,h2=>by
  unfold kas_place;split
  ·exact ⟨by omega,h1,fun i a b=>h2 i (by omega) b⟩
  ·have hm:(l+r) / 2 < r:=by omega
   have hl:l<=(l+r) / 2:=by omega
   refine ⟨P.bd (by omega) k,P.bd (by omega) _,?_⟩;show Ev lt n (if lt (at_ p k) (at_ p ((l+r) / 2))=true then _ else _) _;generalize (l+r) / 2=m at hm hl;split
   ·rename_i c;refine jR O P hk hu f l m (by omega) (by omega) hl h1 fun i a b=>?_;by_cases e:m=i
    ·subst e;exact c
    ·exact O.tr _ _ _ c (hu.all O (by omega) b)
   ·rename_i c;have c':=O.tot _ _ (P.bd (by omega) k) (P.bd (by omega) m) (P.ne hk (by omega) (by omega)) (Lj.mpr c);refine jR O P hk hu f (m+1) r hr (by omega) (by omega) (fun i a=>?_) h2;by_cases e:i=m
    ·subst e;exact c'
    ·exact O.tr _ _ _ (hu.all O (by omega) (by omega)) c'
theorem Du {k l:Nat} (hk:k < p.size) (hl:l<=k) (hu:Up lt p k) (h1:∀ i,i < l->lt (at_ p i) (at_ p k)=true) (h2:∀ i,l<=i->i < k->lt (at_ p k) (at_ p i)=true):Up lt (bubble p k (k - l)) (k+1):=by
 have e:∀ i,i<=k->at_ (bubble p k (k - l)) i=if i=l then at_ p k else if l < i then at_ p (i - 1) else at_ p i:=by
  intro i hi;have g:=getElem?_bubble hk (k - l) (by omega) i;rw [show k - (k - l)=l by omega] at g;split at g
  ·rename_i z;rw [Jx z];exact n3 g
  ·rename_i z;rw [JD z];split at g
   ·rename_i y;rw [Jx y.1];exact n3 g
   ·rename_i y;rw [JD (fun x=>y ⟨x,hi⟩)];exact n3 g
 intro i hi;rw [e i (by omega),e (i+1) (by omega)];rcases Nat.lt_trichotomy (i+1) l with z | z | z
 ·rw [JD (by omega),JD (by omega),JD (by omega),JD (by omega)];exact hu i (by omega)
 ·rw [JD (by omega),JD (by omega),Jx z];exact h1 i (by omega)
 ·rw [JD (show ¬i+1=l by omega),Jx z,Nat.add_sub_cancel];split
  ·rename_i y;subst y;exact h2 i (Jt _) (by omega)
  ·rw [Jx (by omega)];have:=hu (i - 1) (by omega)
   rwa [show i - 1+1=i by omega] at this
theorem wW (O:Ord lt n):∀ (f:Nat) (p:Array Nat) (k:Nat),Pm n p->k+f=n->Up lt p k->Ev lt n (kas_bin f p k) fun q=>Pm n q/\Up lt q n
 | 0,p,k,P,hk,hu=>⟨P,(show k=n by omega)▸hu⟩
 | f+1,p,k,P,hk,hu=>by
  unfold kas_bin;refine fV ?_ (jR O P (by omega) hu k 0 k (Jt _) (by omega) (J9 _) (fun i z=>by omega) (fun i a b=>by omega));rintro l ⟨hl,h1,h2⟩;exact wW O f _ (k+1) ((bubble_perm _ _ _).trans P) (by omega) (Du (by rw [P.size];omega) hl hu h1 h2)
theorem ya (O:Ord lt n) (hn:1<=n):Ev lt n (kas_sort n) fun q=>Pm n q/\Up lt q n:=by
 unfold kas_sort;refine fV ?_ (vo O (Array.Perm.refl _) hn);rintro ⟨m,q⟩ ⟨P,hm,hu⟩;show Ev lt n (if m < n then kas_bin (n - max m 1) q (max m 1) else .ret q) _;split
 ·refine wW O _ q _ P (by omega) ?_;intro i hi;exact hu i (by omega)
 ·have:m=n:=by have:m<=n:=hm;omega
  subst this;exact ⟨P,hu⟩
end
open PySem PySem.Spec PyProof.Rows PySem.W
section
variable {P:Program} {w:World} {A:Around} {E:Value->Shared->Prop} {s:Shared} {d:Addr} {es:Array DictEntry} {ep:Nat}
def OkD (d:Addr) (es:Array DictEntry) (ep:Nat) (h:Heap):Prop:=∃ od,h.get? d=some od/\od.ExactDict/\od.data=.dict es ep
def GY (es:Array DictEntry) (i:Nat) (v:Value):Prop:=∃ e,es[i]?=some e/\v=e.key
theorem AU (hh:A.handled=none) (I:Addr) (hne:d≠I):Walks P w A I [I,d] [I] es.size (GY es) (fun i h=>h.IsKeyIter I d i es.size ep/\OkD d es ep h) where
 sub:=fun b hb=>by simp at hb;simp [hb]
 frame:=fun _ _ _ st hk=>⟨st.1.at fun o e=>hk I (by simp) o e,let ⟨od,g,r⟩:=st.2;⟨od,hk d (by simp) _ g,r⟩⟩
 item:=fun i s Q E hi st hQ=>by
  obtain ⟨it,od,g1,g2,g3⟩:=st;refine Ds it g1 g3 (JR hi) fun h' it' sb=>?_;exact hQ _ h' s.toks ⟨_,JR hi,rfl⟩ ⟨it',od,(sb.2 d hne).trans g1,g2,g3⟩ fun b o hb e=>(sb.2 b (fun z=>hb (by simp [z]))).trans e
 done:=fun s Q E st hQ=>by
  obtain ⟨it,od,g1,g2,g3⟩:=st;exact Ej hh it g1 g3 (Jt _) fun h' eb=>hQ h' s.toks fun b o hb e=>eb b o (fun z=>hb (by simp [z])) e
 self:=fun _ _ _ _ st hQ=>wpAny_pyIter_keyiter st.1 hQ
theorem Ip (lo:(d==sysModules)=false):KdlSrc P w "dict" d d es.size (GY es) (OkD d es ep) where
 type:=fun _ ⟨od,g1,g2,_⟩=>⟨od,g1,g2.1⟩
 there:=fun _ ⟨od,g1,_⟩=>⟨JB g1,JB g1⟩
 keep:=fun _ _ ⟨od,g1,r⟩ hk=>⟨od,hk d (.inl rfl) _ g1,r⟩
 notList:=by decide
 notTuple:=by decide
 hint:=fun _ _ _ _ ⟨od,g1,g2,_⟩ hq=>kdl_hint_dict ⟨od,g1,g2.1⟩ hq
 iter:=fun _ s hh ⟨od,g1,g2,g3⟩=>⟨_,_,(fun _ _ hq=>Ao lo g1 g2 g3 hq),AU hh _ (JY (JB g1)),⟨⟨_,JN _ rfl,rfl,rfl⟩,od,Jp _ g1,g2,g3⟩⟩
end
open PySem PySem.Spec PyProof.Rows PySem.W
structure KS where
 κ:Type
 dft:κ
 dec:DecidableEq κ
 lt:κ->κ->Bool
 irr:∀ x,lt x x=false
 tr:∀ {x y z},lt x y=true->lt y z=true->lt x z=true
 tot:∀ {x y},x≠y->lt x y=false->lt y x=true
 T:Fg->Hp->V->κ->Prop
 same:∀ {K H H' u k},T K H u k->aE H H'->T K H' u k
 Hh:Heap->Value->κ->Prop
 key:∀ {X:Cx} {pins:List (Addr×Obj)} {Z:List (Option V)} {H:Hp} {s:Shared} {v:V} {u:Value} {k:κ},Inv X pins Z H s->RelV v u->T X.K H v k->Hh s.heap u k
 ask:∀ {P:Program} {w:World} {A:Around} {E:Value->Shared->Prop} {s:Shared} {u v:Value} {a b:κ} {C:Bool->Shared->Prop},A.units+64 < cLine->Hh s.heap u a->Hh s.heap v b->C (lt a b) s->wpAny (model P w) A (keyLt' (tuples' true) u v) C E s
 kd:∀ {P:Program} {w:World} {A:Around} {E:Value->Shared->Prop} {s:Shared} {us:List Value} {Q:SortKind->Shared->Prop},(∀ u∈us,∃ k,Hh s.heap u k)->0 < us.length->Q (tuples' true) s->wpAny (model P w) A (keyKind' us.toArray) Q E s
 of:PyData->Option κ
 ofT:∀ {K:Fg} {F:Addr->Prop} {H:Hp} {d:PyData} {u:V} {k:κ},of d=some k->Dm K F H d u->T K H u k
noncomputable def Ah (S:KS) (ks:List S.κ) (i j:Nat):Bool:=S.lt (ks.getD i S.dft) (ks.getD j S.dft)
theorem Hv (S:KS) {ks:List S.κ} (h:ks.Nodup):Ord (Ah S ks) ks.length where
 irr:=fun i=>S.irr _
 tr:=fun i j k=>S.tr
 tot:=fun i j hi hj hn e=>S.tot (fun z=>by
  rw [J5,J5,Jl hi,Jl hj] at z
  exact hn ((List.getElem?_inj hi h).mp (by rw [Jl hi,Jl hj];exact congrArg some z))) e
namespace Sg
noncomputable def zF {S:KS} (x:S.κ×PyData):List (S.κ×PyData)->List (S.κ×PyData)
 | []=>[x]
 | y :: r=>if S.lt x.1 y.1=true then x :: y :: r else y :: zF x r
noncomputable def Al {S:KS}:List (S.κ×PyData)->List (S.κ×PyData)
 | []=>[]
 | x :: r=>zF x (Al r)
theorem iW {S:KS} (x:S.κ×PyData):∀ l,(zF x l).Perm (x :: l)
 | []=>LD _
 | y :: r=>by
  unfold zF;split
  ·exact LD _
  ·exact ((iW x r).cons y).trans (List.Perm.swap ..)
theorem cw {S:KS}:∀ l:List (S.κ×PyData),(Al l).Perm l
 | []=>LD _
 | x :: r=>(iW x _).trans ((cw r).cons x)
theorem uH {S:KS} (x:S.κ×PyData):∀ l,(∀ y∈l,x.1≠y.1)->l.Pairwise (fun a b=>S.lt a.1 b.1=true)->(zF x l).Pairwise fun a b=>S.lt a.1 b.1=true
 | [],_,_=>by simp [zF]
 | y :: r,hn,h=>by
  obtain ⟨h1,h2⟩:=KJ.mp h;unfold zF;split
  ·rename_i c;refine KJ.mpr ⟨fun b hb=>?_,h⟩;rcases JJ.mp hb with rfl | hb
   ·exact c
   ·exact S.tr c (h1 b hb)
  ·rename_i c;refine KJ.mpr ⟨fun b hb=>?_,uH x r (fun z hz=>hn z (Jr _ hz)) h2⟩;rcases JJ.mp ((iW x r).mem_iff.mp hb) with rfl | hb
   ·exact S.tot (hn y Ju) (Lj.mpr c)
   ·exact h1 b hb
theorem km {S:KS}:∀ l:List (S.κ×PyData),(l.map (·.1)).Nodup->(Al l).Pairwise fun a b=>S.lt a.1 b.1=true
 | [],_=>.nil
 | x :: r,h=>by
  obtain ⟨h1,h2⟩:=Kr.mp h;exact uH x _ (fun y hy z=>h1 (JV.mpr ⟨y,(cw r).mem_iff.mp hy,z.symm⟩)) (km r h2)
theorem pw {S:KS} {ks:List S.κ} {ds:List PyData} {p:Array Nat} (hl:ks.length=ds.length) (hn:ks.Nodup) (hp:Pm ds.length p) (hu:Up (Ah S ks) p ds.length):(Al (ks.zip ds)).map (·.2)=p.toList.map fun i=>ds.getD i .none:=by
 have e1:(ks.zip ds).map (·.1)=ks:=by rw [List.map_fst_zip (Nat.le_of_eq hl)]
 have zl:(ks.zip ds).length=ds.length:=by rw [List.length_zip,hl,Nat.min_self]
 have O:Ord (Ah S ks) ds.length:=by rw [<- hl];exact Hv S hn
 have row:p.toList.map (fun i=>(ks.getD i S.dft,ds.getD i .none))=Al (ks.zip ds):=by
  refine Lv (le:=fun a b=>S.lt a.1 b.1=true) (fun a b _ _ h1 h2=>?_) ?_ (km _ (by rw [e1];exact hn)) ?_
  ·have:=S.tr h1 h2;rw [S.irr _] at this;cases this
  ·rw [K3,List.pairwise_iff_getElem];intro i j hi hj hij;have:=hu.all O hij (by rw [<- hp.size];simpa using hj);unfold at_ at this;rw [J3,J3,JR (by simpa using hi),JR (by simpa using hj)] at this;exact this
  ·refine (((Ln.mp hp).map _).trans ?_).trans (cw _).symm;refine List.Perm.of_eq ?_;apply LC;intro i;rw [K6,Jw];rcases KN i ds.length with z | z
   ·have zk:i < ks.length:=by rw [hl];exact z
    rw [List.getElem?_range z,show (ks.zip ds)[i]?=some (ks[i],ds[i]) from List.getElem?_zip_eq_some.mpr ⟨Jl zk,Jl z⟩];simp [J5,Jl (show i < ks.length by rw [hl];exact z),Jl z]
   ·rw [Kt (by rw [Kh];exact z),Kt (by rw [zl];exact z)];rfl
 rw [<- row,Km];rfl
end Sg
theorem x2 {x y:Str} (h:x.cps.toList=y.cps.toList):x=y:=by
 cases x;cases y;simpa using LK.mp h
theorem yM (x:Str):¬x.cps.toList < x.cps.toList:=List.lt_irrefl _
theorem zu {x y:Str} (hn:¬x=y) (h:¬x.cps.toList < y.cps.toList):y.cps.toList < x.cps.toList :=
 Ki fun n=>hn (x2 (List.le_antisymm (List.not_lt.mp n) (List.not_lt.mp h)))
theorem u7 {K:Fg} {H H':Hp} {t:Addr} {xs:List V} (h:SqT K H t xs) (e:aE H H'):SqT K H' t xs:=by
 rcases h with (h | ⟨o,h⟩) | h
 ·exact .inl (.inl (e _ _ h))
 ·exact .inl (.inr ⟨o,e _ _ h⟩)
 ·exact .inr h
open PySem PySem.SetTable
noncomputable def vU (m:Nat) (p:Probe):Probe :=
 if p.more > 0 then { p with j:=p.j+1,more:=p.more - 1 } else { p with j:=(leap m p.i p.perturb).1,more:=runEnd m (leap m p.i p.perturb).1 - (leap m p.i p.perturb).1,i:=(leap m p.i p.perturb).1,perturb:=(leap m p.i p.perturb).2 }
noncomputable def chk (m:Nat) (c:Nat×Nat):Probe:={ j:=c.1,more:=runEnd m c.1 - c.1,i:=c.1,perturb:=c.2,dummy:=none }
noncomputable def pn (m:Nat) (h:Int):Nat->Probe
 | 0=>chk m (bits h % (m+1),bits h)
 | n+1=>vU m (pn m h n)
noncomputable def cn (m:Nat) (h:Int):Nat->Nat×Nat
 | 0=>(bits h % (m+1),bits h)
 | k+1=>leap m (cn m h k).1 (cn m h k).2
theorem AE (t:SetTable) (p:Probe):t.advance p=vU t.mask p:=rfl
theorem wt (m:Nat) (h:Int):∀ k,(cn m h k).1<=m
 | 0=>Nat.le_of_lt_succ (Nat.mod_lt _ (Nat.succ_pos m))
 | k+1=>Nat.le_of_lt_succ (Nat.mod_lt _ (Nat.succ_pos m))
theorem gX (h:i<=m):i<=runEnd m i/\runEnd m i<=m/\runEnd m i<=i+9:=by
 unfold runEnd;split <;> omega
theorem ux {m:Nat} {c:Nat×Nat} {p:Nat->Probe} {n:Nat} (hp:∀ n,p (n+1)=vU m (p n)) (h:p n=chk m c):∀ d,d<=runEnd m c.1 - c.1->p (n+d)={ chk m c with j:=c.1+d,more:=runEnd m c.1 - c.1 - d }
 | 0,_=>h
 | d+1,hd=>by
  have ih:=ux hp h d (by omega);rw [show n+(d+1)=(n+d)+1 by omega,hp,ih];unfold vU;rw [Jx (by show runEnd m c.1 - c.1 - d > 0;omega)];show Probe.mk _ _ _ _ _=Probe.mk _ _ _ _ _;congr 1
theorem su {m:Nat} {c:Nat×Nat} {p:Nat->Probe} {n:Nat} (hp:∀ n,p (n+1)=vU m (p n)) (h:p n=chk m c):p (n+(runEnd m c.1 - c.1)+1)=chk m (leap m c.1 c.2):=by
 rw [hp,ux hp h _ (Jt _)];unfold vU;rw [JD (by show ¬runEnd m c.1 - c.1 - (runEnd m c.1 - c.1) > 0;omega)];rfl
theorem A0 (m:Nat) (h:Int):∀ k,∃ n,n<=10*k/\pn m h n=chk m (cn m h k)
 | 0=>⟨0,Jt _,rfl⟩
 | k+1=>by
  obtain ⟨n,hn,e⟩:=A0 m h k;have:=gX (wt m h k);exact ⟨_,by omega,su (p:=pn m h) (fun _=>rfl) e⟩
theorem jV (m:Nat) (h:Int):∀ n,∃ k d,d<=runEnd m (cn m h k).1 - (cn m h k).1/\pn m h n={ chk m (cn m h k) with j:=(cn m h k).1+d,more:=runEnd m (cn m h k).1 - (cn m h k).1 - d }
 | 0=>⟨0,0,J9 _,rfl⟩
 | n+1=>by
  obtain ⟨k,d,hd,e⟩:=jV m h n;show ∃ k d,_/\vU m (pn m h n)=_;rw [e];by_cases z:d=runEnd m (cn m h k).1 - (cn m h k).1
  ·refine ⟨k+1,0,J9 _,?_⟩;unfold vU;rw [JD (by show ¬runEnd m (cn m h k).1 - (cn m h k).1 - d > 0;omega)];rfl
  ·refine ⟨k,d+1,by omega,?_⟩;unfold vU;rw [Jx (by show runEnd m (cn m h k).1 - (cn m h k).1 - d > 0;omega)];show Probe.mk _ _ _ _ _=Probe.mk _ _ _ _ _;congr 1
theorem BN (m:Nat) (h:Int) (n:Nat):(pn m h n).j<=m:=by
 obtain ⟨k,d,hd,e⟩:=jV m h n;have:=gX (wt m h k);rw [e];show (cn m h k).1+d<=m;omega
theorem vy (m:Nat) (h:Int) (n:Nat):(pn m h n).dummy=none:=by
 obtain ⟨k,d,hd,e⟩:=jV m h n;rw [e];rfl
noncomputable def stp (m i:Nat):Nat:=(i*5+1) % (m+1)
noncomputable def itr (m:Nat):Nat->Nat->Nat
 | 0,i=>i
 | k+1,i=>stp m (itr m k i)
theorem iP (m:Nat) (a:Nat):∀ b i,itr m (b+a) i=itr m b (itr m a i)
 | 0,i=>by rw [Nat.zero_add];rfl
 | b+1,i=>by rw [show b+1+a=(b+a)+1 by omega];show stp m _=stp m _;rw [iP m a b i]
def M3 (m:Nat):Prop:=m=7\/m=31\/m=127
noncomputable def rX (m:Nat):Nat->Nat->List Nat
 | 0,_=>[]
 | k+1,i=>i :: rX m k (stp m i)
theorem fe (m:Nat):∀ (k i s:Nat),s∈rX m k i->∃ a,a < k/\itr m a i=s
 | k+1,i,s,h=>by
  rcases JJ.mp h with rfl | h
  ·exact ⟨0,Nat.succ_pos _,rfl⟩
  ·obtain ⟨a,ha,e⟩:=fe m k _ s h;refine ⟨a+1,by omega,?_⟩;rw [iP m 1 a i];exact e
theorem Jf:(∀ s∈List.range 8,(rX 7 8 0).contains s=true)/\(∀ s∈List.range 32,(rX 31 32 0).contains s=true)/\(∀ s∈List.range 128,(rX 127 128 0).contains s=true):=by decide +kernel
theorem Jc:itr 7 8 0=0/\itr 31 32 0=0/\itr 127 128 0=0:=by decide +kernel
theorem Au (hm:M3 m) (hs:s<=m):∃ a,a < m+1/\itr m a 0=s:=by
 have h:=Jf;rcases hm with rfl | rfl | rfl
 ·exact fe _ _ _ _ (by simpa using h.1 s (by simp;omega))
 ·exact fe _ _ _ _ (by simpa using h.2.1 s (by simp;omega))
 ·exact fe _ _ _ _ (by simpa using h.2.2 s (by simp;omega))
theorem per (hm:M3 m):itr m (m+1) 0=0:=by
 have h:=Jc;rcases hm with rfl | rfl | rfl
 ·exact h.1
 ·exact h.2.1
 ·exact h.2.2
theorem reach (hm:M3 m) (hi:i<=m) (hs:s<=m):∃ k,k<=m/\itr m k i=s:=by
 obtain ⟨a,ha,ea⟩:=Au hm hi;obtain ⟨b,hb,eb⟩:=Au hm hs;by_cases z:a<=b
 ·refine ⟨b - a,by omega,?_⟩;rw [<- ea,<-iP,show b - a+a=b by omega,eb]
 ·refine ⟨m+1 - a+b,by omega,?_⟩;rw [<- ea,<-iP,show m+1 - a+b+a=b+(m+1) by omega,iP,per hm,eb]
theorem ze (h:Int):bits h < 2 ^ 64:=by
 unfold bits;have:=Int.emod_lt_of_pos h (show (0:Int) < 2 ^ 64 by decide);have:=Int.emod_nonneg h (show (2 ^ 64:Int)≠0 by decide);omega
theorem sG (m:Nat) (h:Int):∀ k,(cn m h k).2=bits h / 32 ^ k
 | 0=>by show bits h=_;rw [Nat.pow_zero,Nat.div_one]
 | k+1=>by show (cn m h k).2 / 32=_;rw [sG m h k,Nat.div_div_eq_div_mul,<-Nat.pow_succ]
theorem yk (m:Nat) (h:Int) (hk:13<=k):(cn m h k).2=0:=by
 rw [sG];refine Nat.div_eq_of_lt (JX (ze h) ?_);exact J6 (by decide:2 ^ 64<=32 ^ 13) (Nat.pow_le_pow_right (by decide) hk)
theorem xu (m:Nat) (h:Int):∀ d,(cn m h (13+d)).1=itr m d (cn m h 13).1
 | 0=>rfl
 | d+1=>by
  show ((cn m h (13+d)).1*5+1+(cn m h (13+d)).2 / 32) % (m+1)=stp m _;rw [yk m h (by omega),xu m h d];rfl
theorem n8 (hm:M3 m) (h:Int) (hs:s<=m):∃ k,k<=13+m/\(cn m h k).1=s:=by
 obtain ⟨k,hk,e⟩:=reach hm (wt m h 13) hs;exact ⟨13+k,by omega,by rw [xu];exact e⟩
theorem vQ (hm:M3 m) (h:Int) (hs:s<=m):∃ n,n < 10*turns m/\(pn m h n).j=s:=by
 obtain ⟨k,hk,e⟩:=n8 hm h hs;obtain ⟨n,hn,e2⟩:=A0 m h k;refine ⟨n,by unfold turns;omega,?_⟩;rw [e2];exact e
open PySem PySem.SetTable
abbrev Ris (xs:List Nat):Prop:=xs.Pairwise (· < ·)
theorem nS (h:Ris xs) (hi:i < k) (hk:k < xs.length):xs[i]'(by omega) < xs[k]:=List.pairwise_iff_getElem.mp h i k (by omega) hk hi
theorem getD_at {xs:Array Nat} {i d:Nat} (h:i < xs.toList.length):xs.getD i d=xs.toList[i]:=by
 rw [J3,JR (by simpa using h)];simp
theorem j5 {xs:Array Nat} {j:Nat} (h:Ris xs.toList):∀ (f lo hi:Nat),hi<=xs.toList.length->lo<=hi->hi - lo<=f->(∀ i (z:i < xs.toList.length),i < lo->xs.toList[i] < j)->(∀ i (z:i < xs.toList.length),hi<=i->j<=xs.toList[i]) ->
  below.go xs j f lo hi<=xs.toList.length/\(∀ i (z:i < xs.toList.length),i < below.go xs j f lo hi->xs.toList[i] < j)/\∀ i (z:i < xs.toList.length),below.go xs j f lo hi<=i->j<=xs.toList[i]
 | 0,lo,hi,h1,h2,h3,a,b=>by
  have:lo=hi:=by omega
  subst this;exact ⟨by show lo<=_;omega,a,b⟩
 | f+1,lo,hi,h1,h2,h3,a,b=>by
  unfold below.go;by_cases hl:lo < hi
  ·rw [Jx hl];dsimp only;have hm:(lo+hi) / 2 < xs.toList.length:=by omega
   rw [getD_at hm];by_cases hc:xs.toList[(lo+hi) / 2] < j
   ·rw [Jx hc];refine j5 h f _ _ h1 (by omega) (by omega) (fun i z hi'=>?_) b;by_cases e:i=(lo+hi) / 2
    ·subst e;exact hc
    ·exact Nat.lt_trans (nS h (by omega) hm) hc
   ·rw [JD hc];refine j5 h f _ _ (by omega) (by omega) (by omega) a (fun i z hi'=>?_);by_cases e:i=(lo+hi) / 2
    ·subst e;omega
    ·have:=nS h (show (lo+hi) / 2 < i by omega) z;omega
  ·rw [JD hl];have:lo=hi:=by omega
   subst this;exact ⟨by omega,a,b⟩
theorem fJ {xs:Array Nat} (j:Nat) (h:Ris xs.toList):below xs j<=xs.toList.length/\(∀ i (z:i < xs.toList.length),i < below xs j->xs.toList[i] < j)/\∀ i (z:i < xs.toList.length),below xs j<=i->j<=xs.toList[i]:=by
 refine j5 h _ _ _ (by simp) (J9 _) (by omega) (fun i z hi=>by omega) (fun i z hi=>?_);simp at z;omega
theorem c8 (h:Ris xs.toList) (e:xs.toList[i]?=some j):below xs j=i:=by
 obtain ⟨a,b,c⟩:=fJ j h;obtain ⟨hi,e⟩:=Jo.mp e;rcases Nat.lt_trichotomy (below xs j) i with z | z | z
 ·have h1:=c _ (by omega) (Jt _);have h2:=nS h z hi;omega
 ·exact z
 ·have:=b i hi z;omega
theorem arr_get? {xs:Array Nat} (i:Nat):xs[i]?=xs.toList[i]?:=by simp
theorem sZ (j:Nat):has #[] j=false:=rfl
theorem lr {t:SetTable} {j i:Nat} (h:Ris t.place.toList) (e:t.place.toList[i]?=some j):t.slot j=.live i:=by
 unfold SetTable.slot;dsimp only;rw [c8 h e,arr_get?,e,Jx (by simp)]
theorem qa {t:SetTable} {j:Nat} (hd:t.dummies=#[]) (e:j ∉ t.place.toList):t.slot j=.empty:=by
 unfold SetTable.slot;dsimp only;rw [JD (fun z=>e ?_),hd,sZ]
 ·rfl
 ·have z:=eq_of_beq z;rw [arr_get?] at z;exact Jy z
structure Tb (t:SetTable) (hs:List Int):Prop where
 ms:M3 t.mask
 nd:t.dummies=#[]
 len:t.place.toList.length=hs.length
 ris:Ris t.place.toList
 le:∀ j∈t.place.toList,j<=t.mask
 fil:t.place.toList.length<=t.mask
 pr:∀ (i j:Nat) (h:Int),t.place.toList[i]?=some j->hs[i]?=some h->∃ n,(pn t.mask h n).j=j/\∀ m,m < n->(pn t.mask h m).j∈t.place.toList
theorem ex_free (h:Ris xs) (hl:xs.length<=m):∃ j,j<=m/\j ∉ xs:=by
 apply Ki;intro hn;have hall:∀ j∈List.range (m+1),j∈xs:=fun j hj=>Ki fun z=>hn ⟨j,by simpa [Nat.lt_succ_iff] using hj,z⟩;have hnd:(List.range (m+1)).Nodup:=List.nodup_range;have:=LJ hnd (fun j hj=>hall j hj);rw [Kh] at this;omega
theorem least {p:Nat->Prop}:∀ n,p n->∃ m,m<=n/\p m/\∀ k,k < m->¬p k:=by
 intro n;induction n using Nat.strongRecOn with
 | _ n ih =>
  intro h;by_cases z:∃ k,k < n/\p k
  ·obtain ⟨k,hk,pk⟩:=z;obtain ⟨m,a,b,c⟩:=ih k hk pk;exact ⟨m,by omega,b,c⟩
  ·exact ⟨n,Jt _,h,fun k hk pk=>z ⟨k,hk,pk⟩⟩
theorem Tb.first {t:SetTable} {hs:List Int} (T:Tb t hs) (h:Int):∃ n,n < 10*turns t.mask/\(pn t.mask h n).j ∉ t.place.toList/\∀ m,m < n->(pn t.mask h m).j∈t.place.toList:=by
 obtain ⟨j,hj,hn⟩:=ex_free T.ris T.fil;obtain ⟨n,hn2,e⟩:=vQ T.ms h hj;obtain ⟨m,a,b,c⟩:=least (p:=fun n=>(pn t.mask h n).j ∉ t.place.toList) n (by rw [e];exact hn);exact ⟨m,by omega,b,fun k hk=>Ki (c k hk)⟩
theorem Tb.qZ {t:SetTable} {hs:List Int} (T:Tb t hs) {h:Int} {f:Nat->Int} {n0:Nat} (h0:(pn t.mask h n0).j ∉ t.place.toList) (hb:∀ m,m < n0->(pn t.mask h m).j∈t.place.toList) :
  ∀ (fuel n:Nat),n<=n0->n0 - n < fuel ->
   (probe.go t f h fuel (pn t.mask h n)=some (.empty (pn t.mask h n0).j none)/\∀ m i,n<=m->m < n0->t.place.toList[i]?=some (pn t.mask h m).j->f i≠h) \/
   ∃ m i,n<=m/\m < n0/\t.place.toList[i]?=some (pn t.mask h m).j/\f i=h/\probe.go t f h fuel (pn t.mask h n)=some (.candidate (pn t.mask h m).j i (pn t.mask h (m+1)))/\∀ m' i',n<=m'->m' < m->t.place.toList[i']?=some (pn t.mask h m').j->f i'≠h
 | 0,n,hn,hf=>by omega
 | fuel+1,n,hn,hf=>by
  unfold probe.go;by_cases z:n=n0
  ·subst z;rw [qa T.nd h0];refine .inl ⟨by show some (Met.empty _ (pn t.mask h n).dummy)=_;rw [vy],fun m i a b=>by omega⟩
  ·obtain ⟨i,hi⟩:=J0.mp (hb n (by omega));rw [lr T.ris hi];dsimp only;have uniq:∀ i',t.place.toList[i']?=some (pn t.mask h n).j->i'=i:=fun i' e=>by rw [<- c8 T.ris e,<-c8 T.ris hi]
   by_cases c:f i=h
   ·rw [Jx (by simpa using c)];exact .inr ⟨n,i,Jt _,by omega,hi,c,rfl,fun m' i' a b=>by omega⟩
   ·rw [JD (by simpa using c)];have ih:=T.qZ (f:=f) h0 hb fuel (n+1) (by omega) (by omega);rw [AE];show (probe.go t f h fuel (pn t.mask h (n+1))=_/\_)\/_;rcases ih with ⟨e,q⟩ | ⟨m,k,a,b,c1,c2,c3,c4⟩
    ·refine .inl ⟨e,fun m i' a b d=>?_⟩;by_cases y:m=n
     ·subst y;rw [uniq i' d];exact c
     ·exact q m i' (by omega) b d
    ·refine .inr ⟨m,k,by omega,b,c1,c2,c3,fun m' i' a' b' d=>?_⟩;by_cases y:m'=n
     ·subst y;rw [uniq i' d];exact c
     ·exact c4 m' i' (by omega) b' d
theorem Tb.met {t:SetTable} {hs:List Int} (T:Tb t hs) {h:Int} {n0 i j:Nat} (h0:(pn t.mask h n0).j ∉ t.place.toList) (hi:t.place.toList[i]?=some j) (hh:hs[i]?=some h):∃ n,n < n0/\(pn t.mask h n).j=j:=by
 obtain ⟨n,e,a⟩:=T.pr i j h hi hh;refine ⟨n,?_,e⟩;rcases Nat.lt_trichotomy n n0 with z | z | z
 ·exact z
 ·subst z;rw [e] at h0;exact absurd (Jy hi) h0
 ·exact absurd (a n0 z) h0
noncomputable def jC {α:Type} (xs:List α) (p:Nat) (x:α):List α:=xs.take p++x :: xs.drop p
theorem a7 {α:Type} (xs:Array α) (p:Nat) (x:α):(insertAt xs p x).toList=jC xs.toList p x:=by
 unfold insertAt jC;simp [KD]
theorem oz {α:Type} {xs:List α} {p:Nat} {x y:α}:y∈jC xs p x↔y=x\/y∈xs:=by
 unfold jC;rw [Kg,JJ]
 conv=>rhs;rw [<- KY p xs,Kg]
 constructor
 ·rintro (h | h | h)
  ·exact .inr (.inl h)
  ·exact .inl h
  ·exact .inr (.inr h)
 ·rintro (h | h | h)
  ·exact .inr (.inl h)
  ·exact .inl h
  ·exact .inr (.inr h)
theorem dX {α:Type} {xs:List α} {p:Nat} {x:α} (h:p<=xs.length):(jC xs p x).length=xs.length+1:=by
 unfold jC;rw [Js,JL,J8,KW];omega
theorem dW {α:Type} {xs:List α} {p i:Nat} {x:α} (h:p<=xs.length):(jC xs p x)[i]?=if i < p then xs[i]? else if i=p then some x else xs[i - 1]?:=by
 unfold jC;by_cases z:i < p
 ·rw [Jx z,Ka (by rw [J8];omega),List.getElem?_take,Jx z]
 ·rw [JD z,JH (by rw [J8];omega),J8,Nat.min_eq_left h];by_cases y:i=p
  ·subst y;rw [Jx rfl,Nat.sub_self];rfl
  ·rw [JD y,show i - p=(i - p - 1)+1 by omega,List.getElem?_cons_succ,Ly];congr 1;omega
theorem zN {xs:Array Nat} {j:Nat} (h:Ris xs.toList) (hn:j ∉ xs.toList):Ris (jC xs.toList (below xs j) j):=by
 obtain ⟨a,b,c⟩:=fJ j h;unfold jC;refine List.pairwise_append.mpr ⟨h.sublist (List.take_sublist _ _),KJ.mpr ⟨fun y hy=>?_,h.sublist (List.drop_sublist _ _)⟩,fun x hx y hy=>?_⟩
 ·obtain ⟨k,hk⟩:=J0.mp hy;rw [Ly] at hk;obtain ⟨z,e⟩:=Jo.mp hk;have:=c _ z (by omega);have:j≠y:=fun q=>hn (q▸e▸Lb z);omega
 ·obtain ⟨k,hk⟩:=J0.mp hx;have kp:k < below xs j:=by
   apply Ki;intro q;rw [Kt (by rw [J8];omega)] at hk;cases hk
  rw [List.getElem?_take,Jx kp] at hk;obtain ⟨z,e⟩:=Jo.mp hk;have b1:=b k z kp;rcases JJ.mp hy with rfl | hy
  ·omega
  ·obtain ⟨k2,hk2⟩:=J0.mp hy;rw [Ly] at hk2;obtain ⟨z2,e2⟩:=Jo.mp hk2;have:=c _ z2 (by omega);omega
theorem Tb.put {t:SetTable} {hs:List Int} (T:Tb t hs) {h:Int} {n0:Nat} (h0:(pn t.mask h n0).j ∉ t.place.toList) (hb:∀ m,m < n0->(pn t.mask h m).j∈t.place.toList) (hf:t.place.toList.length+1<=t.mask) :
  Tb (t.put (pn t.mask h n0).j).1 (jC hs (t.put (pn t.mask h n0).j).2 h)/\(t.put (pn t.mask h n0).j).2<=hs.length:=by
 have hp:=(fJ (pn t.mask h n0).j T.ris).1;have e1:((t.put (pn t.mask h n0).j).1).place.toList=jC t.place.toList (below t.place (pn t.mask h n0).j) (pn t.mask h n0).j:=a7 _ _ _;have hq:below t.place (pn t.mask h n0).j<=hs.length:=by rw [<- T.len];exact hp
 refine ⟨⟨T.ms,?_,?_,?_,?_,?_,?_⟩,hq⟩
 ·show (if has t.dummies _=true then _ else t.dummies)=_;rw [T.nd,sZ];rfl
 ·rw [e1,dX hp,T.len];exact (dX hq).symm
 ·rw [e1];exact zN T.ris h0
 ·intro j hj;rw [e1] at hj;rcases oz.mp hj with rfl | hj
  ·exact BN _ _ _
  ·exact T.le j hj
 ·rw [e1,dX hp];exact hf
 ·intro i j k hi hk;have mono:∀ x,x∈t.place.toList->x∈((t.put (pn t.mask h n0).j).1).place.toList:=fun x hx=>by rw [e1];exact oz.mpr (.inr hx)
  rw [e1,dW hp] at hi;rw [show (t.put (pn t.mask h n0).j).2=below t.place (pn t.mask h n0).j from rfl,dW hq] at hk;split at hi
  ·rename_i z;rw [Jx z] at hk;obtain ⟨n,a,b⟩:=T.pr i j k hi hk;exact ⟨n,a,fun m hm=>mono _ (b m hm)⟩
  ·rename_i z;rw [JD z] at hk;split at hi
   ·rename_i y;rw [Jx y] at hk;cases hi;cases hk;exact ⟨n0,rfl,fun m hm=>mono _ (hb m hm)⟩
   ·rename_i y;rw [JD y] at hk;obtain ⟨n,a,b⟩:=T.pr (i - 1) j k hi hk;exact ⟨n,a,fun m hm=>mono _ (b m hm)⟩
open PySem PySem.SetTable
abbrev Occ (ow:Array (Option Nat)) (j:Nat):Prop:=∃ i,ow[j]?=some (some i)
theorem kq (hs:ow.size=m+1) (hj:j<=m):(ow.getD j (some 0)).isNone=false↔Occ ow j:=by
 rw [J3,JR (by omega)];simp only [Option.getD_some,Option.isNone_eq_false_iff,Option.isSome_iff_exists];constructor
 ·rintro ⟨i,e⟩;exact ⟨i,by rw [JR (by omega),e]⟩
 ·rintro ⟨i,e⟩;rw [JR (by omega)] at e;exact ⟨i,by injection e⟩
theorem tW (hs:ow.size=m+1):∀ (f k n:Nat),pn m h n=chk m (cn m h k)->(∀ m',m' < n->Occ ow (pn m h m').j)->(∃ k',k<=k'/\k' < k+f/\¬Occ ow (cn m h k').1) ->
  ∃ n',layClean.free m ow f (cn m h k).1 (cn m h k).2=some (pn m h n').j/\¬Occ ow (pn m h n').j/\∀ m',m' < n'->Occ ow (pn m h m').j
 | 0,k,n,e,ho,⟨k',a,b,c⟩=>by omega
 | f+1,k,n,e,ho,⟨k',a,b,c⟩=>by
  have hr:=gX (wt m h k);have at_:∀ d,d<=runEnd m (cn m h k).1 - (cn m h k).1->(pn m h (n+d)).j=(cn m h k).1+d:=fun d hd=>by rw [ux (p:=pn m h) (fun _=>rfl) e d hd]
  unfold layClean.free;cases hf:(List.range (runEnd m (cn m h k).1+1 - (cn m h k).1)).find? fun d=>(ow.getD ((cn m h k).1+d) (some 0)).isNone with
  | some d =>
   dsimp only;obtain ⟨hp,as,bs,hab,hall⟩:=List.find?_eq_some_iff_append.mp hf;have hd:d < runEnd m (cn m h k).1+1 - (cn m h k).1:=by
    have:d∈List.range (runEnd m (cn m h k).1+1 - (cn m h k).1):=by rw [hab];simp
    simpa using this
   have hal:as.length=d:=by
    have h1:(List.range (runEnd m (cn m h k).1+1 - (cn m h k).1))[as.length]?=some d:=by rw [hab];simp
    have h2:as.length < runEnd m (cn m h k).1+1 - (cn m h k).1:=by
     have:=(Jo.mp h1).1;simpa using this
    rw [List.getElem?_range h2] at h1;injection h1
   have has:as=List.range d:=by
    have:=congrArg (List.take d) hab;rw [List.take_left' hal,List.take_range,Nat.min_eq_left (by omega)] at this;exact this.symm
   refine ⟨n+d,by rw [at_ d (by omega)],?_,fun m' hm=>?_⟩
   ·rw [at_ d (by omega),<-kq hs (by omega)];rw [hp];simp
   ·by_cases z:m' < n
    ·exact ho m' z
    ·have hd':m' - n < d:=by omega
     have:=hall (m' - n) (by rw [has];simpa using hd');rw [show m'=n+(m' - n) by omega,at_ _ (by omega),<-kq hs (by omega)];simpa using this
  | none =>
   dsimp only;have hn:=List.find?_eq_none.mp hf;have occ:∀ d,d<=runEnd m (cn m h k).1 - (cn m h k).1->Occ ow ((cn m h k).1+d):=fun d hd=>by
    have:=hn d (by simp;omega);rw [<- kq hs (by omega)];exact Lj.mpr this
   refine tW hs f (k+1) _ (su (p:=pn m h) (fun _=>rfl) e) (fun m' hm=>?_) ⟨k',?_,by omega,c⟩
   ·by_cases z:m' < n
    ·exact ho m' z
    ·rw [show m'=n+(m' - n) by omega,at_ _ (by omega)];exact occ _ (by omega)
   ·rcases KN k k' with z | z
    ·exact z
    ·have:k'=k:=by omega
     subst this;exact absurd (occ 0 (J9 _)) c
structure Ow (m:Nat) (hs:List Int) (ow:Array (Option Nat)) (k:Nat):Prop where
 sz:ow.size=m+1
 own:∀ {j i:Nat},ow[j]?=some (some i)->i < k
 one:∀ {i:Nat},i < k->∃ j:Nat,ow[j]?=some (some i)
 inj:∀ {j j' i:Nat},ow[j]?=some (some i)->ow[j']?=some (some i)->j=j'
 pr:∀ {j i:Nat} {h:Int},ow[j]?=some (some i)->hs[i]?=some h->∃ n,(pn m h n).j=j/\∀ m',m' < n->Occ ow (pn m h m').j
theorem Ow.free (O:Ow m hs ow k) (hk:k<=m):∃ j,j<=m/\¬Occ ow j:=by
 apply Ki;intro hn;have hall:∀ j,j<=m->Occ ow j:=fun j hj=>Ki fun z=>hn ⟨j,hj,z⟩;have hg:∀ j,j<=m->ow[j]?=some (some ((ow.getD j none).getD 0)):=fun j hj=>by
  obtain ⟨i,e⟩:=hall j hj;rw [J3,e];rfl
 have nd:((List.range (m+1)).map fun j=>(ow.getD j none).getD 0).Nodup:=by
  unfold List.Nodup;rw [K3];refine List.nodup_range.imp_of_mem fun {a b} ha hb hne e=>hne ?_;have ha:=hg a (by simpa [Nat.lt_succ_iff] using ha);have hb:=hg b (by simpa [Nat.lt_succ_iff] using hb);rw [e] at ha;exact O.inj ha hb
 have:=LJ (l₂:=List.range k) nd (fun x hx=>by
  obtain ⟨j,hj,rfl⟩:=JV.mp hx;have:=O.own (hg j (by simpa [Nat.lt_succ_iff] using hj))
  simpa using this)
 rw [Jm,Kh,Kh] at this;omega
noncomputable def lyS (m:Nat) (acc:Option (Array (Option Nat)×Nat)) (h:Int):Option (Array (Option Nat)×Nat):=do
 let (owner,k)<-acc
 let j<-layClean.free m owner (turns m) (bits h % (m+1)) (bits h)
 pure (owner.setIfInBounds j (some k),k+1)
theorem Ow.step (hm:M3 m) (O:Ow m hs ow k) (hk:k<=m) (e:hs[k]?=some h):∃ ow',lyS m (some (ow,k)) h=some (ow',k+1)/\Ow m hs ow' (k+1):=by
 obtain ⟨j,hj,hn⟩:=O.free hk;obtain ⟨k',hk',ek⟩:=n8 hm h hj;obtain ⟨n,f1,f2,f3⟩:=tW (h:=h) O.sz (turns m) 0 0 rfl (fun m' z=>by omega) ⟨k',J9 _,by unfold turns;omega,by rw [ek];exact hn⟩;have hle:=BN m h n;generalize hJ:(pn m h n).j=J at f1 f2 hle;have get:∀ x,(ow.setIfInBounds J (some k))[x]?=if x=J then some (some k) else ow[x]?:=fun x=>by
  rw [Array.getElem?_setIfInBounds];by_cases z:J=x
  ·subst z;rw [Jx rfl,Jx rfl,Jx (by rw [O.sz];omega)]
  ·rw [JD z,JD (fun q=>z q.symm)]
 have mono:∀ x,Occ ow x->Occ (ow.setIfInBounds J (some k)) x:=fun x ⟨i,q⟩=>by
  by_cases z:x=J
  ·exact ⟨k,by rw [get,Jx z]⟩
  ·exact ⟨i,by rw [get,JD z];exact q⟩
 refine ⟨ow.setIfInBounds J (some k),?_,?_,?_,?_,?_,?_⟩
 ·unfold lyS;have f1:layClean.free m ow (turns m) (bits h % (m+1)) (bits h)=some J:=f1;simp only [Option.bind_eq_bind,Option.bind_some,f1];rfl
 ·rw [Array.size_setIfInBounds];exact O.sz
 ·intro x i q;rw [get] at q;split at q
  ·cases q;omega
  ·have:=O.own q;omega
 ·intro i hi;by_cases z:i=k
  ·exact ⟨J,by rw [get,Jx rfl,z]⟩
  ·obtain ⟨x,q⟩:=O.one (show i < k by omega);refine ⟨x,?_⟩;have y:x≠J:=fun y=>f2 ⟨i,by rw [<- y];exact q⟩;rw [get,JD y];exact q
 ·intro x y i q1 q2;rw [get] at q1 q2;split at q1 <;> split at q2
  ·omega
  ·cases q1;have:=O.own q2;omega
  ·cases q2;have:=O.own q1;omega
  ·exact O.inj q1 q2
 ·intro x i h' q1 q2;rw [get] at q1;split at q1
  ·rename_i z;cases q1;rw [e] at q2;cases q2;exact ⟨n,by rw [hJ,z],fun m' hm'=>mono _ (f3 m' hm')⟩
  ·obtain ⟨n',a,b⟩:=O.pr q1 q2;exact ⟨n',a,fun m' hm'=>mono _ (b m' hm')⟩
theorem Ow.fold (hm:M3 m) (hl:hs.length<=m):∀ (rest:List Int) (k:Nat) (ow:Array (Option Nat)),hs.drop k=rest->k<=hs.length->Ow m hs ow k->∃ ow',rest.foldl (lyS m) (some (ow,k))=some (ow',hs.length)/\Ow m hs ow' hs.length
 | [],k,ow,hd,hk,O=>by
  have:hs.length<=k:=Ll.mp hd;have:k=hs.length:=by omega
  subst this;exact ⟨ow,rfl,O⟩
 | h :: rest,k,ow,hd,hk,O=>by
  have hlt:k < hs.length:=by
   apply Ki;intro z;rw [Ll.mpr (by omega)] at hd;cases hd
  rw [Lo hlt] at hd;injection hd with h1 h2;obtain ⟨ow',e,O'⟩:=O.step hm (by omega) (by rw [Jl hlt,h1]);rw [K1,e];exact Ow.fold hm hl rest (k+1) ow' h2 hlt O'
theorem mY (hm:M3 m) (hl:hs.length<=m):∃ ow,layClean m hs.toArray=some ow/\Ow m hs ow hs.length:=by
 have O0:Ow m hs (Array.replicate (m+1) none) 0:=by
  have no:∀ {j i:Nat},¬(Array.replicate (m+1) (none:Option Nat))[j]?=some (some i):=fun {j i} q=>by
   rw [Array.getElem?_replicate] at q;split at q <;> cases q
  exact ⟨by simp,fun q=>absurd q no,fun z=>absurd z (by omega),fun q=>absurd q no,fun q=>absurd q no⟩
 obtain ⟨ow,e,O⟩:=Ow.fold hm hl hs 0 _ rfl (J9 _) O0;refine ⟨ow,?_,O⟩;unfold layClean;rw [<- Array.foldl_toList,K6];have:(hs.foldl (lyS m) (some (Array.replicate (m+1) none,0)))=some (ow,hs.length):=e;unfold lyS at this;rw [this];rfl
abbrev liv (m:Nat) (ow:Array (Option Nat)):List (Nat×Nat):=(List.range (m+1)).filterMap fun j=>(ow.getD j none).map (j,·)
theorem zo (hs:ow.size=m+1):(j,i)∈liv m ow↔ow[j]?=some (some i):=by
 unfold liv;rw [KL];constructor
 ·rintro ⟨a,ha,e⟩;obtain ⟨b,hb,e⟩:=JM.mp e;injection e with e1 e2;subst e1 e2;rw [J3] at hb;have hlt:a < ow.size:=by
   have:a < m+1:=by simpa using ha
   omega
  rw [JR hlt] at hb ⊢;rw [<- hb];rfl
 ·intro e;have hj:j < ow.size:=(LX.mp e).1;refine ⟨j,by simp;omega,?_⟩;rw [J3,e];rfl
theorem t8:Ris ((liv m ow).map (·.1)):=by
 unfold Ris;rw [K3,List.pairwise_filterMap];refine List.pairwise_lt_range.imp fun {a b} hab x hx y hy=>?_;obtain ⟨_,_,rfl⟩:=JM.mp hx;obtain ⟨_,_,rfl⟩:=JM.mp hy;exact hab
theorem ug (t:SetTable) {hs:List Int} {wanted:Nat} (hm:M3 (sizeAbove wanted - 1)) (hl:hs.length<=sizeAbove wanted - 1) :
  ∃ t' od,t.relaid hs.toArray wanted=some (t',od)/\od.toList.Perm (List.range hs.length)/\Tb t' (od.toList.filterMap (hs[·]?))/\t'.led=t.led/\t'.plain=t.plain:=by
 obtain ⟨ow,e,O⟩:=mY hm hl;generalize hM:sizeAbove wanted - 1=m at hm hl e O;have lm:=fun {j i}=>zo O.sz (j:=j) (i:=i);have ndo:((liv m ow).map (·.2)).Nodup:=by
  unfold List.Nodup;rw [K3];have r:=t8 (m:=m) (ow:=ow);unfold Ris at r;rw [K3] at r;refine r.imp_of_mem fun {a b} ha hb hab q=>?_;obtain ⟨a1,a2⟩:=a;obtain ⟨b1,b2⟩:=b;have q:a2=b2:=q;subst q;have:a1=b1:=O.inj (lm.mp ha) (lm.mp hb);have hab:a1 < b1:=hab;omega
 have pm:((liv m ow).map (·.2)).Perm (List.range hs.length):=by
  refine (LW ndo List.nodup_range).mpr fun i=>?_;rw [JV];constructor
  ·rintro ⟨⟨j,i'⟩,hm',rfl⟩;have:=O.own (lm.mp hm');simpa using this
  ·intro hi;obtain ⟨j,q⟩:=O.one (show i < hs.length by simpa using hi);exact ⟨(j,i),lm.mpr q,rfl⟩
 have hlt:∀ p∈liv m ow,p.2 < hs.length:=fun p hp=>by
  have:=pm.mem_iff.mp (JV.mpr ⟨p,hp,rfl⟩);simpa using this
 have fm:∀ l:List (Nat×Nat),(∀ p∈l,p.2 < hs.length)->(l.map (·.2)).filterMap (hs[·]?)=l.map fun p=>hs.getD p.2 0:=by
  intro l;induction l with
  | nil=>intro _;rfl
  | cons p l ih =>
   intro hl;have hp:=hl p Ju;rw [List.map_cons,List.filterMap_cons_some (b:=hs[p.2]) (Jl hp),ih fun q hq=>hl q (Jr _ hq),List.map_cons,J5,Jl hp];rfl
 refine ⟨{ mask:=m,place:=((liv m ow).map (·.1)).toArray,dummies:=#[],finger:=t.finger,led:=t.led,moves:=t.movedTo m,plain:=t.plain },((liv m ow).map (·.2)).toArray,?_,?_,?_,rfl,rfl⟩
 ·unfold relaid laid;rw [hM,e];rfl
 ·rw [K6];exact pm
 ·have fl:=fm _ hlt;have pl:({ mask:=m,place:=((liv m ow).map (·.1)).toArray,dummies:=#[],finger:=t.finger,led:=t.led,moves:=t.movedTo m,plain:=t.plain }:SetTable).place.toList=(liv m ow).map (·.1):=by simp
  refine ⟨hm,rfl,?_,?_,?_,?_,?_⟩
  ·rw [pl,K6,fl,Jm,Jm]
  ·rw [pl];exact t8
  ·intro j hj;rw [pl] at hj;obtain ⟨⟨j',i⟩,hp,rfl⟩:=JV.mp hj;have:=(LX.mp (lm.mp hp)).1;rw [O.sz] at this;show j'<=m;omega
  ·rw [pl,Jm,<-Jm (f:=(·.2)),pm.length_eq,Kh];exact hl
  ·intro i j h hi hh;rw [pl,Jw] at hi;obtain ⟨⟨j',o⟩,hp,rfl⟩:=JM.mp hi;rw [K6,fl,Jw,hp] at hh;have hmem:=Jy hp;have ho:=hlt _ hmem;have hh:some (hs.getD o 0)=some h:=hh;injection hh with hh;have hho:hs[o]?=some h:=by
    rw [Jl ho,<-hh,J5,Jl ho];rfl
   obtain ⟨n,a,b⟩:=O.pr (lm.mp hmem) hho;refine ⟨n,a,fun m' hm'=>?_⟩;obtain ⟨i',q⟩:=b m' hm';rw [pl];exact JV.mpr ⟨_,lm.mpr q,rfl⟩
open PySem PySem.Spec PyProof.Rows PySem.SetTable
noncomputable def DN:PyData->Bool | .tuple _=>true | _=>false
section
variable {P:Program} {w:World} {A:Around} {E:Value->Shared->Prop} {s:Shared}
theorem B8:∀ (n:Nat) {d:PyData} {v:Value} {as:List Addr} {Q:Bool->Shared->Prop},Reads s.heap v d as->hkB d=true->d.depth<=n->Q false s->wpAny (model P w) A (ofAClassStatement n v) Q E s:=by
 intro n;induction n with
 | zero =>
  intro d v as Q r h hd q;cases r with
  | int i t=>exact Jn q
  | str x t=>exact Jn q
  | tuple _ _ _ _=>rw [PyData.depth] at hd;omega
  | _=>cases h
 | succ n ih =>
  intro d v as Q r h hd q;cases r with
  | int i t=>exact Jn q
  | str x t=>exact Jn q
  | @tuple a o vs k xs as ho hc hdt ra =>
   have hT:s.TypeIs (.ref a) "tuple" := ⟨o,ho,hc⟩;unfold ofAClassStatement;refine Jk (wpAny_typeOf hT ?_);dsimp only;refine Jk (Jn ?_);simp only [Lw,J4,Kv];refine Jk (LR ho hdt ?_);dsimp only;refine Jk ?_;show wpAny _ _ (forIn vs _ _) _ _ s;rw [<- Lz];have hx:=cM.mp h;refine KI _ (fun rest r s'=>r.1=none/\s'=s/\∀ u∈rest,u∈vs.toList) _ ?_ ?_ _ _ ⟨rfl,rfl,fun _ z=>z⟩
   ·rintro u rest r s' ⟨hr,rfl,hall⟩;obtain ⟨i,hi⟩:=J0.mp (hall u Ju);obtain ⟨d',bs,e1,r1⟩:=(bh ra).2 i u hi;have hm:=Jy e1;refine Jk (ih r1 (hx d' hm) (by have:=fc hm;omega) ?_);simp only [J4,Kv];exact Jn ⟨rfl,rfl,fun y hy=>hall y (Jr _ hy)⟩
   ·rintro ⟨r1,r2⟩ s' ⟨hr,rfl,_⟩;simp only at hr;subst hr;exact Jn q
  | _=>cases h
theorem Fj:∀ (n:Nat) {d:PyData} {v:Value} {as:List Addr} {Q:Bool->Shared->Prop},Reads s.heap v d as->hkB d=true->(∀ b,Q b s)->wpAny (model P w) A (hashByValue n v) Q E s:=by
 intro n;induction n with
 | zero =>
  intro d v as Q r h q;cases r with
  | int i t=>exact Jn (q _)
  | str x t=>exact Jn (q _)
  | tuple _ _ _ _=>exact Jn (q _)
  | _=>cases h
 | succ n ih =>
  intro d v as Q r h q;cases r with
  | int i t=>exact Jn (q _)
  | str x t=>exact Jn (q _)
  | @tuple a o vs k xs as ho hc hdt ra =>
   have hT:s.TypeIs (.ref a) "tuple" := ⟨o,ho,hc⟩;unfold hashByValue;refine Jk (KZ hT F.slot_tuple_hash.lookup ?_);dsimp only;refine Jk (LR ho hdt ?_);refine Jk ?_;show wpAny _ _ (forIn vs _ _) _ _ s;rw [<- Lz];have hx:=cM.mp h;refine KI _ (fun rest r s'=>r.1=none/\s'=s/\∀ u∈rest,u∈vs.toList) _ ?_ ?_ _ _ ⟨rfl,rfl,fun _ z=>z⟩
   ·rintro u rest r s' ⟨hr,rfl,hall⟩;obtain ⟨i,hi⟩:=J0.mp (hall u Ju);obtain ⟨d',bs,e1,r1⟩:=(bh ra).2 i u hi;have hm:=Jy e1;refine Jk (ih r1 (hx d' hm) fun b=>?_);cases b with
    | true =>
     simp only [Lw,J4,Kv];exact Jn ⟨rfl,rfl,fun y hy=>hall y (Jr _ hy)⟩
    | false =>
     simp only [Bool.not_false,Lh];exact Jn (Jn (q _))
   ·rintro ⟨r1,r2⟩ s' ⟨hr,rfl,_⟩;simp only at hr;subst hr;exact Jn (q _)
  | _=>cases h
theorem Dl (r:Reads s.heap x d as) (h:kyB d=true) (hy:∀ y∈ys,∃ k bs,Reads s.heap y k bs/\kyB k=true) (q:Q false s) :
  wpAny (model P w) A (searchCouldBeSeen x ys) Q E s:=by
 have h3:=ai.mp h;unfold searchCouldBeSeen;refine Jk (KI _ (fun rest r s'=>r.1=none/\s'=s/\∀ u∈rest,u∈ys) _ ?_ ?_ _ _ ⟨rfl,rfl,fun _ z=>z⟩)
 ·rintro u rest b s' ⟨hr,rfl,hall⟩;obtain ⟨k,bs,r1,k1⟩:=hy u (hall u Ju);have k3:=ai.mp k1;have keep:∀ y∈rest,y∈ys:=fun y hy=>hall y (Jr _ hy);refine qp (Jn ⟨rfl,rfl,keep⟩) ?_;refine Jk (j8 8 r h3.1 (by omega) ?_);simp only [Lw,J4,Kv];refine Jk (j8 8 r1 k3.1 (by omega) ?_);simp only [Lw,J4,Kv];refine Jk (B8 8 r h3.1 (by omega) ?_);simp only [J4,Kv];refine Jk (B8 8 r1 k3.1 (by omega) ?_);simp only [J4,Kv];exact Jn ⟨rfl,rfl,keep⟩
 ·rintro ⟨r1,r2⟩ s' ⟨hr,rfl,_⟩;simp only at hr;subst hr;exact Jn q
end
structure EnD (w:World) (h0:Heap) (pv:Value->PyData->Prop) (es:Array (Int×Value)) (zs:List PyData):Prop where
 len:es.toList.length=zs.length
 nd:zs.Nodup
 at_:∀ (i:Nat) (e:Int×Value) (z:PyData),es.toList[i]?=some e->zs[i]?=some z->kyB z=true/\DN z=true/\e.1=az w z/\∃ as,Reads h0 e.2 z as
 vl:∀ (i:Nat) (e:Int×Value) (z:PyData),es.toList[i]?=some e->zs[i]?=some z->pv e.2 z
theorem xP (r:Reads h v d as) (t:DN d=true):∃ a,v=.ref a:=by
 cases r with
 | tuple _ _ _ _=>exact ⟨_,rfl⟩
 | _=>cases t
theorem Tb.fits (T:Tb t hs) (h:hs.length=n):t.fits n=true:=by
 unfold SetTable.fits;rw [JU];have l:=T.len;have f:=T.fil;rw [JQ] at l f;exact ⟨by simpa using l.trans h,by unfold SetTable.fill;rw [T.nd];simpa using f⟩
theorem M3.odd {t:SetTable} (h:M3 t.mask):t.gaveWay=false:=by
 unfold SetTable.gaveWay;rcases h with e | e | e <;> rw [e] <;> rfl
section
variable {P:Program} {w:World} {A:Around} {E:Value->Shared->Prop} {s:Shared}
theorem vb {pv:Value->PyData->Prop} {h0:Heap} {a:Addr} {ob:Obj} {es:Array (Int×Value)} {ep:Nat} {t:SetTable} {zs:List PyData} {x:Value} {d:PyData} {as:List Addr} {Q:SetFound->Shared->Prop} {n0:Nat}
  (kp:∀ b o,h0.get? b=some o->s.heap.get? b=some o) (ho:s.heap.get? a=some ob) (hd:ob.data=.set es ep t) (T:Tb t (es.toList.map (·.1))) (N:EnD w h0 pv es zs) (hx:Reads h0 x d as) (hk:kyB d=true) (hu:A.units+6 < cLine)
  (h1:(pn t.mask (az w d) n0).j ∉ t.place.toList) (h2:∀ m,m < n0->(pn t.mask (az w d) m).j∈t.place.toList) (h3:n0 < 10*turns t.mask)
  (qy:d∈zs->Q (.there none) s) (qn:d ∉ zs->Q (.free (pn t.mask (az w d) n0).j false) s) :
  ∀ (k n fuel:Nat) (st:Option Probe),n0 - n=k->n<=n0->k < fuel->st.getD (t.probeStart (az w d))=pn t.mask (az w d) n->(∀ (m i:Nat),m < n->t.place.toList[i]?=some (pn t.mask (az w d) m).j->zs[i]?≠some d) ->
   wpAny (model P w) A (setSearchFrom a x (az w d) true fuel st) Q E s:=by
 have hlen:es.toList.length=t.place.toList.length:=by rw [T.len,Jm]
 have fit:t.fits es.size=true:=T.fits (by rw [Jm,JQ]);have hxs:Reads s.heap x d as:=Lr kp hx;intro k;induction k using Nat.strongRecOn with
 | _ k ih =>
  intro n fuel st hk0 hn hf hst hb;obtain ⟨fuel,rfl⟩:∃ f,fuel=f+1:=⟨fuel - 1,by omega⟩;unfold setSearchFrom;refine Jk (Kx ho hd fit ?_);dsimp only;rw [M3.odd T.ms];simp only [J4,Kv];rw [hst];have sp:=T.qZ (f:=fun i=>(es[i]?.map (·.1)).getD 0) h1 h2 (10*turns t.mask) n hn (by omega);generalize hX:SetTable.probe t _ (az w d) (pn t.mask (az w d) n)=X;rcases sp with ⟨e,q⟩ | ⟨m,i,m1,m2,m3,m4,m5,m6⟩
  ·have eX:X=some (.empty (pn t.mask (az w d) n0).j none):=hX.symm.trans e;subst eX;dsimp only;refine Jn (qn fun hm=>?_);obtain ⟨i,hi⟩:=J0.mp hm;have il:i < zs.length:=(Jo.mp hi).1;have ie:i < es.toList.length:=by rw [N.len];exact il
   obtain ⟨_,_,z3,_⟩:=N.at_ i _ _ (Jl ie) hi;have ip:=Jl (show i < t.place.toList.length by rw [<- hlen];exact ie);obtain ⟨m,a1,a2⟩:=T.met h1 ip (h:=az w d) (by rw [Jw,Jl ie];exact congrArg some z3);rw [<- a2] at ip;by_cases z:m < n
   ·exact hb m i z ip hi
   ·refine q m i (by omega) a1 ip ?_;show (es[i]?.map (·.1)).getD 0=_;rw [<- Kd,Jl ie];exact z3
  ·have eX:X=some (.candidate (pn t.mask (az w d) m).j i (pn t.mask (az w d) (m+1))):=hX.symm.trans m5;subst eX;dsimp only;have ip:i < t.place.toList.length:=(Jo.mp m3).1;have ie:i < es.toList.length:=by rw [hlen];exact ip
   have iz:i < zs.length:=by rw [<- N.len];exact ie
   obtain ⟨z1,z2,z3,bs,z4⟩:=N.at_ i _ _ (Jl ie) (Jl iz);have z5:Reads s.heap es.toList[i].2 zs[i] bs:=Lr kp z4;have ei:es[i]?=some es.toList[i]:=by rw [<- Kd,Jl ie]
   have rest:wpAny (model P w) A (do
     let equal<-holding [es.toList[i].2] (eqBool es.toList[i].2 x)
     let (es',_,t')<-setState a
     if true&&equal then return SetFound.there none
     let some sm9:=t'.sameMemory t.moves t.mask | unsupported "set.changed-during-lookup:is-the-new-block-at-the-old-address"
     let still<-match (if sm9 then t'.slot (pn t.mask (az w d) m).j else .empty) with
      | .live i'=>match es'[i']? with
       | some (_,y')=>do pure (if<-isSame y' es.toList[i].2 then some i' else none)
       | none=>pure none
      | _=>pure none
     match still with
     | none=>rule "set.search.anew"; setSearchFrom a x (az w d) true fuel none
     | some i'=>if equal then return SetFound.there (some i') else setSearchFrom a x (az w d) true fuel (some (pn t.mask (az w d) (m+1)))) Q E s:=by
    refine Jk (Kc (v9 hu hxs z5 hk z1 P w _ _ ?_));refine Jk (Kx ho hd fit ?_);dsimp only;by_cases he:zs[i]=d
    ·rw [(bX _ _ (ai.mp z1).1 (ai.mp hk).1).mpr he];simp only [Bool.and_self,Lh];exact Jn (qy (he▸Lb iz))
    ·have hne:PyData.eqv zs[i] d=false:=Lj.mpr fun z=>he ((bX _ _ (ai.mp z1).1 (ai.mp hk).1).mp z);rw [hne];simp only [Bool.and_false,J4,Kv];have sm:t.sameMemory t.moves t.mask=some true:=by unfold SetTable.sameMemory;rw [Jx (by simp)]
     rw [sm];dsimp only;rw [Jx rfl,lr T.ris m3];dsimp only;rw [ei];dsimp only;obtain ⟨b,hbv⟩:=xP z5 z2;rw [hbv];refine Jk ?_;unfold isSame;simp only [beq_self_eq_true,Lh];refine Jn (Jk (Jn ?_));rw [Jx rfl];dsimp only;refine ih (n0 - (m+1)) (by omega) (m+1) fuel _ rfl (by omega) (by omega) rfl fun m' i' a1 a2 a3=>?_;by_cases y:m' < n
     ·exact hb m' i' y a2 a3
     ·by_cases y2:m'=m
      ·subst y2;have:i'=i:=by rw [<- c8 T.ris a2,<-c8 T.ris m3]
       subst this;rw [Jl iz] at a3;injection a3 with a3;exact he a3
      ·refine m6 m' i' (by omega) (by omega) a2 ?_;have iz':i' < zs.length:=(Jo.mp a3).1;have ie':i' < es.toList.length:=by rw [N.len];exact iz'
       obtain ⟨_,_,w3,_⟩:=N.at_ i' _ _ (Jl ie') a3;show (es[i']?.map (·.1)).getD 0=_;rw [<- Kd,Jl ie'];exact w3
   have hstore:∀ y∈(es.filter (·.1==az w d)).toList.map (·.2),∃ k bs,Reads s.heap y k bs/\kyB k=true:=by
    intro y hy;obtain ⟨e,he,rfl⟩:=JV.mp hy;have he:e∈es.toList:=by
     have:=Array.mem_toList_iff.mp he;exact Array.mem_toList_iff.mpr (Array.mem_filter.mp this).1
    obtain ⟨q,hq⟩:=J0.mp he;have qz:q < zs.length:=by rw [<- N.len];exact (Jo.mp hq).1
    obtain ⟨w1,_,_,cs,w4⟩:=N.at_ q _ _ hq (Jl qz);exact ⟨_,cs,Lr kp w4,w1⟩
   rw [ei];dsimp only;split
   ·refine Jk (Dl hxs hk hstore ?_);simp only [J4,Kv];exact rest
   ·exact rest
end
open PySem PySem.Spec PyProof.Rows PySem.SetTable
noncomputable def txB:PyData->Bool
 | .tuple ds=>ds.any fun d=>match d with | .str _=>true | _=>false
 | _=>false
theorem Dt (h:txB d=true):DN d=true:=by
 cases d <;> first | rfl | cases h
noncomputable def bF (ds:List PyData) (d:PyData):List PyData:=if (ds.any fun e=>PyData.eqv e d)=true then ds else ds++[d]
theorem zw {ds:List PyData} {d:PyData} (h:∀ e∈ds,kyB e=true) (hk:kyB d=true):(ds.any fun e=>PyData.eqv e d)=true↔d∈ds:=by
 rw [Lc];constructor
 ·rintro ⟨e,he,q⟩;have:=(bX _ _ (ai.mp (h e he)).1 (ai.mp hk).1).mp q;exact this▸he
 ·intro hd;exact ⟨d,hd,(bX _ _ (ai.mp hk).1 (ai.mp hk).1).mpr rfl⟩
theorem wB {α β:Type} (f:α->β) (xs:List α) (p:Nat) (x:α):(jC xs p x).map f=jC (xs.map f) p (f x):=by
 unfold jC;rw [Kb,List.map_cons,List.map_take,List.map_drop]
theorem kN {α:Type} (xs:List α) (p:Nat) (x:α):(jC xs p x).Perm (x :: xs):=by
 unfold jC;refine List.perm_middle.trans ?_;rw [KY]
theorem jZ {α:Type} {xs:List α}:∀ {l:List Nat},(∀ i∈l,i < xs.length)->∀ i:Nat,(l.filterMap (xs[·]?))[i]?=(l[i]?).bind (xs[·]?)
 | [],_,i=>by simp
 | k :: l,h,i=>by
  have hk:=h k Ju;rw [List.filterMap_cons_some (Jl hk)];cases i with
  | zero=>simp [hk]
  | succ i=>simpa using jZ (fun j hj=>h j (Jr _ hj)) i
theorem eY {α:Type} {xs:List α}:∀ {l:List Nat},(∀ i∈l,i < xs.length)->(l.filterMap (xs[·]?)).length=l.length
 | [],_=>rfl
 | k :: l,h=>by
  have hk:=h k Ju;rw [List.filterMap_cons_some (Jl hk),JL,JL,eY fun j hj=>h j (Jr _ hj)]
theorem p5 {α:Type} (xs:List α):(List.range xs.length).filterMap (xs[·]?)=xs:=by
 have h:=PySem.W.krv_all xs.toArray;rw [Jz] at h;simpa using h
theorem me {α:Type} {xs:List α} {l:List Nat} (h:l.Perm (List.range xs.length)):(l.filterMap (xs[·]?)).Perm xs:=by
 have:=h.filterMap (xs[·]?)
 rwa [p5] at this
def rC (w:World) (h0:Heap) (pv:Value->PyData->Prop) (h:Heap) (a:Addr) (ds:List PyData):Prop :=
 ∃ ob es ep t zs,h.get? a=some ob/\ob.ExactSet/\ob.data=.set es ep t/\Tb t (es.toList.map (·.1))/\EnD w h0 pv es zs/\zs.Perm ds/\t.led=!fg w/\(es.size≠0->t.plain=false)/\t.place.toList.length*5 < t.mask*3
section
variable {P:Program} {w:World} {A:Around} {E:Value->Shared->Prop} {s:Shared}
theorem EB (r:Reads s.heap v d as) (h:hkB d=true) (ht:txB d=true) (q:Q false s):wpAny (model P w) A (hashByValue (n+1) v) Q E s:=by
 cases r with
 | @tuple a o vs k xs as ho hc hdt ra =>
  have hT:s.TypeIs (.ref a) "tuple" := ⟨o,ho,hc⟩;unfold hashByValue;refine Jk (KZ hT F.slot_tuple_hash.lookup ?_);dsimp only;refine Jk (LR ho hdt ?_);refine Jk ?_;show wpAny _ _ (forIn vs _ _) _ _ s;rw [<- Lz];have hx:=cM.mp h;have hS:∃ u∈vs.toList,∃ y t,u=Value.str y t:=by
   obtain ⟨e,he,ht⟩:=Lc.mp ht;obtain ⟨i,hi⟩:=J0.mp he;have hl:=(bh ra).1;have iv:i < vs.toList.length:=by rw [hl];exact (Jo.mp hi).1
   obtain ⟨d',bs,e1,r1⟩:=(bh ra).2 i _ (Jl iv);rw [hi] at e1;cases e1;refine ⟨_,Lb iv,?_⟩;cases e with
   | str y=>exact ⟨y,lU r1⟩
   | _=>cases ht
  refine KI _ (fun rest r s'=>r.1=none/\s'=s/\(∀ u∈rest,u∈vs.toList)/\∃ u∈rest,∃ y t,u=Value.str y t) _ ?_ ?_ _ _ ⟨rfl,rfl,fun _ z=>z,hS⟩
  ·rintro u rest r s' ⟨hr,rfl,hall,hS⟩;obtain ⟨i,hi⟩:=J0.mp (hall u Ju);obtain ⟨d',bs,e1,r1⟩:=(bh ra).2 i u hi;have hm:=Jy e1;obtain ⟨u2,hu2,y,t,rfl⟩:=hS;rcases JJ.mp hu2 with rfl | hu2
   ·refine Jk (m:=hashByValue n (.str y t)) (wpAny_of_eq (by cases n <;> rfl) (Jn ?_));simp only [Bool.not_false,Lh];first | exact Jn (Jn q) | exact Jn q
   ·refine Jk (Fj n r1 (hx d' hm) fun b=>?_);cases b with
    | true =>
     simp only [Lw,J4,Kv];exact Jn ⟨rfl,rfl,fun y hy=>hall y (Jr _ hy),_,hu2,y,t,rfl⟩
    | false =>
     simp only [Bool.not_false,Lh];first | exact Jn (Jn q) | exact Jn q
  ·rintro ⟨r1,r2⟩ s' ⟨hr,rfl,_,u,hu,_⟩;cases hu
 | _=>cases ht
theorem EnD.ins {pv:Value->PyData->Prop} {h0:Heap} {es:Array (Int×Value)} {zs:List PyData} (N:EnD w h0 pv es zs) {x:Value} {d:PyData} {as:List Addr} {p:Nat} (hp:p<=zs.length) (hn:d ∉ zs) (hk:kyB d=true) (ht:DN d=true) (hx:Reads h0 x d as) (hpv:pv x d) :
  EnD w h0 pv (insertAt es p (az w d,x)) (jC zs p d) where
 len:=by rw [a7,dX (by rw [N.len];exact hp),dX hp,N.len]
 nd:=(kN zs p d).nodup_iff.mpr (Kr.mpr ⟨hn,N.nd⟩)
 at_:=fun i e z he hz=>by
  rw [a7,dW (by rw [N.len];exact hp)] at he;rw [dW hp] at hz;split at he
  ·rename_i c;rw [Jx c] at hz;exact N.at_ i e z he hz
  ·rename_i c;rw [JD c] at hz;split at he
   ·rename_i c2;rw [Jx c2] at hz;cases he;cases hz;exact ⟨hk,ht,rfl,as,hx⟩
   ·rename_i c2;rw [JD c2] at hz;exact N.at_ _ e z he hz
 vl:=fun i e z he hz=>by
  rw [a7,dW (by rw [N.len];exact hp)] at he;rw [dW hp] at hz;split at he
  ·rename_i c;rw [Jx c] at hz;exact N.vl i e z he hz
  ·rename_i c;rw [JD c] at hz;split at he
   ·rename_i c2;rw [Jx c2] at hz;cases he;cases hz;exact hpv
   ·rename_i c2;rw [JD c2] at hz;exact N.vl _ e z he hz
theorem EnD.perm {pv:Value->PyData->Prop} {h0:Heap} {es es':Array (Int×Value)} {zs:List PyData} (N:EnD w h0 pv es zs) {l:List Nat} (hl:l.Perm (List.range zs.length)) (e:es'.toList=l.filterMap (es.toList[·]?)):EnD w h0 pv es' (l.filterMap (zs[·]?)):=by
 have b1:∀ i∈l,i < zs.length:=fun i hi=>by simpa using hl.mem_iff.mp hi
 have b2:∀ i∈l,i < es.toList.length:=fun i hi=>by rw [N.len];exact b1 i hi
 refine ⟨by rw [e,eY b2,eY b1],(me hl).nodup_iff.mpr N.nd,fun i x z hx hz=>?_,fun i x z hx hz=>?_⟩
 all_goals
  rw [e,jZ b2] at hx;rw [jZ b1] at hz;obtain ⟨k,k1,k2⟩:=Option.bind_eq_some_iff.mp hx;rw [k1] at hz
 ·exact N.at_ k x z k2 hz
 ·exact N.vl k x z k2 hz
theorem yw {pv:Value->PyData->Prop} {h0:Heap} {a:Addr} {ob:Obj} {es:Array (Int×Value)} {ep:Nat} {t:SetTable} {zs:List PyData} {wanted:Nat} {Q:Unit->Shared->Prop} (ho:s.heap.get? a=some ob) (hx:ob.ExactSet) (hd:ob.data=.set es ep t) (T:Tb t (es.toList.map (·.1))) (N:EnD w h0 pv es zs)
  (hm:M3 (sizeAbove wanted - 1)) (hl:es.size<=sizeAbove wanted - 1) (hf:es.size*5 < (sizeAbove wanted - 1)*3)
  (q:∀ es' ep' t' zs' ob',(s.heap.update a (Obj.putSet es' t')).get? a=some ob'->ob'.ExactSet->ob'.data=.set es' ep' t'->Tb t' (es'.toList.map (·.1))->EnD w h0 pv es' zs'->zs'.Perm zs->t'.led=t.led->t'.plain=t.plain->t'.place.toList.length*5 < t'.mask*3->Q () { s with heap:=s.heap.update a (Obj.putSet es' t') }) :
  wpAny (model P w) A (setRelay a wanted) Q E s:=by
 have hsz:es.toList.length=es.size:=JQ;have fit:t.fits es.size=true:=T.fits (by rw [Jm,hsz]);obtain ⟨t',od,r1,r2,r3,r4,r5⟩:=ug t (hs:=es.toList.map (·.1)) hm (by rw [Jm,hsz];exact hl);rw [Jm] at r2;have ea:es.map (·.1)=(es.toList.map (·.1)).toArray:=by rw [<- Array.toList_map,Lm]
 rw [<- ea] at r1;have m127:sizeAbove wanted<=128:=by
  unfold M3 at hm;omega
 have el:(od.filterMap (es[·]?)).toList=od.toList.filterMap (es.toList[·]?):=by
  rw [Array.toList_filterMap];congr 1;funext i;simp
 have sz':(od.filterMap (es[·]?)).size=es.size:=by
  rw [<- JQ,el,eY (fun i hi=>by simpa using r2.mem_iff.mp hi),r2.length_eq,Kh,hsz]
 unfold setRelay;refine Jk (Kx ho hd fit ?_);dsimp only;rw [JD (by rw [Kk];omega)];rw [r1]
 show wpAny (model P w) A ((do
  let es':=od.filterMap (es[·]?)
  if es'.size != es.size then unsupported "internal:set-table-lost-an-element"
  pure (es',t'))>>=_) Q E s
 refine Jk ?_;dsimp only;rw [JD (by simp [sz'])];refine Jn ?_;dsimp only;refine wpAny_storeSet_of ho hd ?_ (by rw [sz',Kk];omega);have hg:(s.heap.update a (Obj.putSet (od.filterMap (es[·]?)) t')).get? a=some { ob with data:=.set (od.filterMap (es[·]?)) (ep+1) t' }:=by
  have q:=Kl (Obj.putSet (od.filterMap (es[·]?)) t') ho (by rw [putSet_of _ t' hd];rfl);rw [putSet_of _ t' hd] at q;exact q
 have zl:zs.length=es.toList.length:=N.len.symm;refine q _ (ep+1) t' _ _ hg hx rfl ?_ (N.perm (by rw [zl];exact r2) el) (me (by rw [zl];exact r2)) r4 r5 ?_
 ·rw [el,List.map_filterMap];have:(fun i:Nat=>(es.toList[i]?).map fun x:Int×Value=>x.1)=fun i:Nat=>(es.toList.map fun x:Int×Value=>x.1)[i]?:=by
   funext i;rw [Jw]
  rw [this];exact r3
 ·have l:=r3.len;rw [eY (fun i hi=>by rw [Jm];simpa using r2.mem_iff.mp hi),r2.length_eq,Kh,hsz] at l;have mk:t'.mask=sizeAbove wanted - 1:=by
   unfold relaid laid at r1;cases hc:layClean (sizeAbove wanted - 1) (es.map (·.1)) with
   | none=>rw [hc] at r1;cases r1
   | some ow =>
    rw [hc] at r1;simp only [Option.bind_eq_bind,Option.bind_some,Option.pure_def,Option.some.injEq,Prod.mk.injEq] at r1;rw [<- r1.1]
  rw [l,mk];exact hf
end
open PySem PySem.Spec PyProof.Rows PySem.SetTable
theorem EnD.ky {w:World} {pv:Value->PyData->Prop} {h0:Heap} {es:Array (Int×Value)} {zs:List PyData} (N:EnD w h0 pv es zs):∀ z∈zs,kyB z=true:=fun z hz=>by
 obtain ⟨i,hi⟩:=J0.mp hz;have ie:i < es.toList.length:=by rw [N.len];exact (Jo.mp hi).1
 exact (N.at_ i _ z (Jl ie) hi).1
section
variable {P:Program} {w:World} {A:Around} {E:Value->Shared->Prop} {s:Shared}
theorem zz {h:Heap} {a:Addr} {ob:Obj} {es es':Array (Int×Value)} {ep:Nat} {t t':SetTable} (ho:h.get? a=some ob) (hd:ob.data=.set es ep t):(h.update a (Obj.putSet es' t')).get? a=some { ob with data:=.set es' (ep+1) t' }:=by
 have q:=Kl (Obj.putSet es' t') ho (by rw [putSet_of es' t' hd];rfl);rw [putSet_of es' t' hd] at q;exact q
theorem Tb.v3 (T:Tb t hs):Tb { t with plain:=false } hs:=⟨T.ms,T.nd,T.len,T.ris,T.le,T.fil,T.pr⟩
theorem Ek {pv:Value->PyData->Prop} {h0:Heap} {a:Addr} {ds:List PyData} {x:Value} {d:PyData} {as:List Addr} {Q:Bool->Shared->Prop} (kp:∀ b o,h0.get? b=some o->s.heap.get? b=some o) (hS:rC w h0 pv s.heap a ds) (hx:Reads h0 x d as) (hk:kyB d=true) (ht:txB d=true) (hpv:pv x d) (hu:A.units+6 < cLine) (room:ds.length < 64)
  (h:∀ b h',Heap.SameBut a s.heap h'->rC w h0 pv h' a (bF ds d)->Q b { s with heap:=h' }) :
  wpAny (model P w) A (setAddHashed a x (az w d)) Q E s:=by
 obtain ⟨ob,es,ep,t,zs,ho,hex,hd,T,N,pm,led,pln,nf⟩:=hS;have hsz:es.toList.length=es.size:=JQ;have fit:t.fits es.size=true:=T.fits (by rw [Jm,hsz]);have tp:=Dt ht;have hxs:Reads s.heap x d as:=Lr kp hx;obtain ⟨r,hr⟩:=xP hx tp;have zl:zs.length=es.size:=by rw [<- N.len,hsz]
 have pl:t.place.toList.length=es.size:=by rw [T.len,Jm,hsz]
 have el:ds.length=es.size:=by rw [<- pm.length_eq,zl]
 have hmem:(ds.any fun e=>PyData.eqv e d)=true↔d∈zs:=(zw (fun e he=>N.ky e (pm.mem_iff.mpr he)) hk).trans pm.mem_iff.symm;obtain ⟨n0,f1,f2,f3⟩:=T.first (az w d);have nsc:byScan x es=false:=by rw [hr];rfl
 unfold setAddHashed setAddHashedIn;refine Kc (Jk (Kx ho hd fit ?_));dsimp only;rw [nsc];simp only [J4,Kv];unfold setSearch;have t3:t.mask<=127:=by have:=T.ms;unfold M3 at this;omega
 refine Jk (vb kp ho hd T N hx hk hu f2 f3 f1 (fun hy=>?_) (fun hn=>?_) (n0 - 0) 0 100000 none rfl (J9 _) (by unfold turns at f1;omega) rfl fun m i hm=>by omega)
 ·dsimp only;refine Jn ?_;have q:=h false s.heap (Heap.SameBut.refl a s.heap) ⟨ob,es,ep,t,zs,ho,hex,hd,T,N,by unfold bF;rw [Jx (hmem.mpr hy)];exact pm,led,pln,nf⟩;cases s;exact q
 ·dsimp only;refine Jk (Kx ho hd fit ?_);dsimp only;have ea:bF ds d=ds++[d]:=by unfold bF;rw [JD (fun z=>hn (hmem.mp z))]
  have hf1:t.place.toList.length+1<=t.mask:=by have:=T.ms;unfold M3 at this;omega
  obtain ⟨T1,hp⟩:=T.put f2 f3 hf1;generalize hpt:t.put (pn t.mask (az w d) n0).j=PT at T1 hp;have hled:PT.1.led=t.led:=by rw [<- hpt];rfl
  have hplain:PT.1.plain=t.plain:=by rw [<- hpt];rfl
  have hmask:PT.1.mask=t.mask:=by rw [<- hpt];rfl
  obtain ⟨t1,p⟩:=PT;dsimp only at T1 hp hled hplain hmask ⊢;rw [Jm,hsz] at hp;have hp2:p<=zs.length:=by rw [zl];exact hp
  have N1:=N.ins (x:=x) (p:=p) hp2 hn hk tp hx hpv;have e1:((insertAt es p (az w d,x)).toList.map (·.1))=jC (es.toList.map (·.1)) p (az w d):=by rw [a7,wB]
  rw [<- e1] at T1;have sz1:(insertAt es p (az w d,x)).size=es.size+1:=by rw [<- JQ,a7,dX (by rw [hsz];exact hp),hsz]
  have pl1:t1.place.toList.length=es.size+1:=by rw [T1.len,Jm,JQ,sz1]
  have pm1:(jC zs p d).Perm (bF ds d):=by
   rw [ea];exact (kN zs p d).trans ((pm.cons d).trans (List.perm_append_singleton d ds).symm)
  have go:∀ t2:SetTable,Tb t2 ((insertAt es p (az w d,x)).toList.map (·.1))->t2.led=t.led->t2.plain=false->t2.mask=t.mask->t2.place=t1.place->t2.fill=es.size+1 ->
    wpAny (model P w) A (do
     storeSet a (insertAt es p (az w d,x)) t2
     if (!false&&t2.tooFull)=true then do
       setRelay a (SetTable.grown (es.size+1))
       return true
      else return true) Q E s:=by
   intro t2 T2 l2 p2 m2 q2 fl2;refine Jk (wpAny_storeSet_of ho hd ?_ (by rw [sz1,Kk];omega));have g1:=zz (es':=insertAt es p (az w d,x)) (t':=t2) ho hd;have sb:=KR s.heap a (Obj.putSet (insertAt es p (az w d,x)) t2);have pl2:t2.place.toList.length=es.size+1:=by rw [q2];exact pl1
   have m3:=T.ms;split
   ·rename_i tf;have tf:(t2.fill*5>=t2.mask*3):=by simpa [SetTable.tooFull] using tf
    rw [fl2,m2] at tf;have cs:(t.mask=7/\es.size+1=5)\/(t.mask=31/\es.size+1=19):=by
     unfold M3 at m3;omega
    have a1:sizeAbove (SetTable.grown 5)=32:=by decide
    have a2:sizeAbove (SetTable.grown 19)=128:=by decide
    have mm:M3 (sizeAbove (SetTable.grown (es.size+1)) - 1):=by
     rcases cs with ⟨_,e⟩ | ⟨_,e⟩ <;> rw [e]
     ·rw [a1];exact .inr (.inl rfl)
     ·rw [a2];exact .inr (.inr rfl)
    have mb:(es.size+1)*5 < (sizeAbove (SetTable.grown (es.size+1)) - 1)*3:=by
     rcases cs with ⟨_,e⟩ | ⟨_,e⟩ <;> rw [e]
     ·rw [a1];decide
     ·rw [a2];decide
    refine Jk (yw (s:={ s with heap:=s.heap.update a (Obj.putSet (insertAt es p (az w d,x)) t2) }) g1 hex rfl T2 N1 mm (by rw [sz1];omega) (by rw [sz1];exact mb) fun es' ep' t' zs' ob' b1 b2 b3 b4 b5 b6 b7 b8 b9=>?_);refine Jn (h true _ (sb.trans (KR _ a _)) ⟨ob',es',ep',t',zs',b1,b2,b3,b4,b5,b6.trans pm1,?_,fun _=>?_,b9⟩)
    ·rw [b7,l2];exact led
    ·rw [b8];exact p2
   ·rename_i tf;have tf:¬(t2.fill*5>=t2.mask*3):=by simpa [SetTable.tooFull] using tf
    rw [fl2,m2] at tf;exact Jn (h true _ sb ⟨_,_,_,t2,_,g1,hex,rfl,T2,N1,pm1,by rw [l2];exact led,fun _=>p2,by rw [pl2,m2];omega⟩)
  have fl1:t1.fill=es.size+1:=by
   unfold SetTable.fill;rw [T1.nd,<-JQ,pl1];rfl
  split
  ·refine Jk ?_;refine EB (n:=7) hxs (ai.mp hk).1 ht ?_;simp only [J4,Kv];exact go { t1 with plain:=false } T1.v3 hled rfl hmask rfl fl1
  ·rename_i npl;have npl:t1.plain=false:=by simpa using npl
   refine Jk (Jn ?_);simp only [Lh];exact go t1 T1 hled npl hmask rfl fl1
end
open PySem PySem.Spec PyProof.Rows
noncomputable def qF (val:Nat->PyData) (i:Nat):List PyData:=((List.range i).map val).foldl bF []
theorem r9 (val:Nat->PyData) (i:Nat):qF val (i+1)=bF (qF val i) (val i):=by
 unfold qF;rw [List.range_succ,Kb,List.foldl_append];rfl
theorem j9:∀ (ds acc:List PyData),(ds.foldl bF acc).length<=acc.length+ds.length
 | [],acc=>Jt _
 | d :: ds,acc=>by
  have ih:=j9 ds (bF acc d);have:(bF acc d).length<=acc.length+1:=by
   unfold bF;split
   ·omega
   ·simp
  rw [K1,JL];omega
theorem d3:∀ (ds acc:List PyData),acc.length<=(ds.foldl bF acc).length
 | [],acc=>Jt _
 | d :: ds,acc=>by
  have ih:=d3 ds (bF acc d);have:acc.length<=(bF acc d).length:=by
   unfold bF;split
   ·omega
   ·simp
  rw [K1];omega
theorem yB (h:i<=n):(qF val i).length<=(qF val n).length:=by
 have e:List.range n=List.range i++(List.range (n - i)).map (i+·):=by
  rw [<- List.range_add,show i+(n - i)=n by omega]
 unfold qF;rw [e,Kb,List.foldl_append];exact d3 _ _
section
variable {P:Program} {w:World} {A:Around} {E:Value->Shared->Prop} {s:Shared}
theorem B3:∀ (n:Nat) {A:Around} {s:Shared} {E:Value->Shared->Prop} {d:PyData} {v:Value} {as:List Addr} {Q:Int->Shared->Prop},Reads s.heap v d as->hkB d=true->d.depth<=n->A.units+n < cLine ->
  (∀ t,s.toks<=t->Q (az w d) { s with toks:=t })->wpAny (model P w) A (pyHash v) Q E s:=by
 intro n;induction n with
 | zero =>
  intro A s E d v as Q r h hd hu q;cases r with
  | int i t=>exact L5 (q _ (Kz _))
  | str x t=>exact L4 (q _ (Kz _))
  | tuple _ _ _ _=>rw [PyData.depth] at hd;omega
  | _=>cases h
 | succ n ih =>
  intro A s E d v as Q r h hd hu q;cases r with
  | int i t=>exact L5 (q _ (Kz _))
  | str x t=>exact L4 (q _ (Kz _))
  | @tuple a o vs k xs as ho hc hdt ra =>
   have hT:s.TypeIs (.ref a) "tuple" := ⟨o,ho,hc⟩;have hx:=cM.mp h;unfold pyHash;first | unfold pyHashByItsType | skip
   first | refine Jk (wpAny_cRoomFor_or (.inr (by omega)) ?_) | skip
   refine Jk (KZ hT F.slot_tuple_hash.lookup ?_);show wpAny _ _ (if (some (Value.builtin "tuple.__hash__")==some Value.none)=true then _ else _) Q E s;rw [JD (by rw [beq_builtin_none];exact Kw)];refine Jk (KZ hT F.slot_tuple_hash.lookup ?_);show wpAny _ _ (callSpecialIfBoundUnlessNone? (.ref a) "__hash__" _>>=_) Q E s;refine Jk (wpAny_callSpecialIfBoundUnlessNone?_slot hT F.slot_tuple_hash (Kj F.slot_tuple_hash hT F.entry_tuple_hash ?_ (F.args_tuple_hash_1 _)));show wpAny _ _ (Builtin.Tuple.tupleItemsOf (.ref a)>>=_) _ _ s;refine Jk (wpAny_tupleItemsOf ho hdt (Jk ?_));rw [<- Lz];have hap:∀ (l m:List PyData),aV w (l++m)=aV w l++aV w m:=by
    intro l m;induction l with
    | nil=>rfl
    | cons x l ihl=>rw [List.cons_append,aV,aV,ihl];rfl
   refine KI _ (fun rest (b:Array Int) s'=>∃ i,rest=vs.toList.drop i/\b.toList=aV w (xs.take i)/\∃ t,s.toks<=t/\s'={ s with toks:=t }) _ ?_ ?_ _ _ ⟨0,rfl,rfl,s.toks,Jt _,rfl⟩
   ·rintro u rest b s' ⟨i,hr,hb,t,le,rfl⟩;have hi:vs.toList[i]?=some u:=by
     have:(vs.toList.drop i)[0]?=some u:=by rw [<- hr];rfl
     simpa using this
    obtain ⟨d',bs,e1,r1⟩:=(bh ra).2 i u hi;have hm:=Jy e1;refine Jk (ih (s:={ s with toks:=t }) r1 (hx d' hm) (by have:=fc hm;omega) (by have:A.in1.units=A.units+1:=rfl;omega) fun t' le'=>?_);have nx:rest=vs.toList.drop (i+1)/\(b.push (az w d')).toList=aV w (xs.take (i+1))/\∃ t'',s.toks<=t''/\({ s with toks:=t' }:Shared)={ s with toks:=t'' }:=by
     refine ⟨?_,?_,t',J6 le le',rfl⟩
     ·have:=congrArg List.tail hr;simpa [List.tail_drop] using this
     ·rw [List.take_add_one,e1,hap,LF,hb];rfl
    first
     | exact Jn ⟨i+1,nx⟩
     | exact Jk (Jn (Jn ⟨i+1,nx⟩))
   ·rintro b s' ⟨i,hr,hb,t,le,rfl⟩;have hi:vs.toList.length<=i:=by
     have:=congrArg List.length hr;simp at this;simpa using (by omega:vs.size<=i)
    rw [KD (by rw [<- (bh ra).1];exact hi)] at hb;show wpAny _ _ (retInt (Builtin.Tuple.tupleHashOf b.toList)) _ _ _;rw [hb];refine wpAny_ret_mkInt ?_;have q':=q;rw [az] at q';unfold reduceHash at q';show wpAny _ _ (if (decide (-(2:Int) ^ 63<=Builtin.Tuple.tupleHashOf (aV w xs))&&decide (Builtin.Tuple.tupleHashOf (aV w xs) < 2 ^ 63))=true then _ else _) Q E _;by_cases hc:(decide (-(2:Int) ^ 63<=Builtin.Tuple.tupleHashOf (aV w xs))&&decide (Builtin.Tuple.tupleHashOf (aV w xs) < 2 ^ 63))=true
    ·rw [Jx hc];rw [Jx hc] at q';exact Jn (q' _ (Nat.le_succ_of_le le))
    ·rw [JD hc];rw [JD hc] at q';exact Jk (Le (Jn (q' _ (Nat.le_succ_of_le le))))
  | _=>cases h
end
section
variable {pr:Program} {ww:World} {AA:Around} {RR:Result->Shared->Prop} {IT:Addr} {fp wr:List Addr} {GG:Array GenState->Array GenState->Prop} {n:Nat} {PP:Nat->Value->Prop} {SS:Nat->Shared->Prop}
theorem rC.at {pv:Value->PyData->Prop} {h0 h h':Heap} {a:Addr} {ds:List PyData} (z:rC ww h0 pv h a ds) (k:∀ o,h.get? a=some o->h'.get? a=some o):rC ww h0 pv h' a ds:=by
 obtain ⟨ob,es,ep,tb,zs,ho,r⟩:=z;exact ⟨ob,es,ep,tb,zs,k _ ho,r⟩
theorem Fy {pv:Value->PyData->Prop} {h0:Heap} (W:WalksS pr ww AA.in1 IT fp wr GG n PP SS) (a:Addr) (ha:a ∉ fp) (h0a:h0.get? a=none) (h0w:∀ b∈wr,h0.get? b=none) (val:Nat->PyData) (hv:∀ i v,PP i v->kyB (val i)=true/\txB (val i)=true/\pv v (val i)/\∃ as,Reads h0 v (val i) as) (hu:AA.in1.units+6 < cLine) (hb:(qF val n).length < 64) :
  ∀ (k i:Nat) (s:Shared),n - i=k->i<=n->SS i s->(∀ b o,h0.get? b=some o->s.heap.get? b=some o)->rC ww h0 pv s.heap a (qF val i) ->
   (∀ s',Moved (a :: wr) GG s s'->rC ww h0 pv s'.heap a (qF val n)->RR (.ok (.ret .none)) s') ->
   codeAny (model pr ww) AA (.builtin "set.update.loop" ⟨[.ref a,.ref IT],[]⟩) RR s:=by
 have haw:a ∉ wr:=fun z=>ha (W.sub _ z);have hsb:∀ b∈wr,b∈a :: wr:=fun b z=>Jr _ z;intro k;induction k with
 | zero =>
  intro i s hk hi hst kp hS hR;obtain rfl:i=n:=by omega
  refine Lg L7 ?_;rw [K5 Ld _];show wpAny _ AA.in1 (pyNext (.ref IT)>>=_) _ _ s;refine Jk (W.done s _ _ hst fun s' hm=>?_);exact Jn (hR s' (hm.mono hsb) (hS.at fun o q=>hm.heap a _ haw q))
 | succ k ih =>
  intro i s hk hi hst kp hS hR;have hlt:i < n:=by omega
  refine Lg L7 ?_;rw [K5 Ld _];show wpAny _ AA.in1 (pyNext (.ref IT)>>=_) _ _ s;refine Jk (W.item i s _ _ hlt hst fun v s' hP hst' hm=>?_);obtain ⟨ky,tx,hpv,as,rd⟩:=hv i v hP;have kp':∀ b o,h0.get? b=some o->s'.heap.get? b=some o:=fun b o q=>hm.heap b _ (fun z=>by rw [h0w b z] at q;cases q) (kp b o q);have hS':rC ww h0 pv s'.heap a (qF val i):=hS.at fun o q=>hm.heap a _ haw q;show wpAny _ AA.in1 (holding [v] (setAdd a v)>>=_) _ _ s';refine Jk (Kc ?_);unfold setAdd;refine Kc ?_;refine Jk (B3 6 (Lr kp' rd) (ai.mp ky).1 (ai.mp ky).2.2 hu fun tk le=>?_);refine Ek (s:={ s' with toks:=tk }) kp' hS' rd ky tx hpv hu (by have:=yB (val:=val) hi;omega) fun bb h' hsm hS2=>?_;rw [<- r9] at hS2;have kp2:∀ b o,h0.get? b=some o->h'.get? b=some o:=fun b o q=>by
   rw [hsm.2 b (fun z:b=a=>by rw [z,h0a] at q;cases q)];exact kp' b o q
  refine Jn ⟨plainId_quiet Ld _,ih (i+1) _ (by omega) hlt (W.frame _ s' _ _ hst' le fun b hb o e=>?_) kp2 hS2 fun s'' hm'' hS''=>?_⟩
  ·rw [hsm.2 b (fun z:b=a=>ha (by rw [<- z];exact hb))];exact e
  ·refine hR s'' (Moved.trans W.gtrans ((hm.mono hsb).then_heap le fun b o hb e=>?_) hm'') hS'';rw [hsm.2 b (fun z:b=a=>hb (by rw [z];exact Ju))];exact e
end
open PySem PySem.Spec PyProof.Rows
section
variable {pr:Program} {ww:World} {AA:Around} {EE:Value->Shared->Prop} {st:Shared}
theorem freshD {pv:Value->PyData->Prop} {h0 h:Heap} {a:Addr} (hg:h.get? a=some (jf ww)):rC ww h0 pv h a [] :=
 ⟨_,#[],0,SetTable.fresh 0 0 (!fg ww),[],hg,⟨rfl,rfl,rfl⟩,rfl,{ ms:=.inl rfl,nd:=rfl,len:=rfl,ris:=List.Pairwise.nil,le:=fun j hj=>(by cases hj),fil:=J9 _,pr:=fun i j h e=>(by cases i <;> cases e) },{ len:=rfl,nd:=List.Pairwise.nil,at_:=fun i e z he=>(by cases i <;> cases he),vl:=fun i e z he=>(by cases i <;> cases he) },.nil,rfl,fun z=>absurd rfl z,show 0*5 < 7*3 by decide⟩
theorem vN {pv:Value->PyData->Prop} {l:Addr} {its:Array Value} {ds:List PyData} {Q:Value->Shared->Prop} (hh:AA.handled=none) (hl:st.heap.IsList l its) (hlen:its.size=ds.length) (hi:∀ (i:Nat) (v:Value) (d:PyData),its[i]?=some v->ds[i]?=some d->kyB d=true/\txB d=true/\pv v d/\∃ as,Reads st.heap v d as) (hb:(ds.foldl bF []).length < 64) (hu:AA.units+64 < cLine)
  (h:∀ (h':Heap) (tk:Nat),rC ww st.heap pv h' st.heap.objs.size (ds.foldl bF [])->(∀ b o,b < st.heap.objs.size->st.heap.get? b=some o->h'.get? b=some o)->Q (.ref st.heap.objs.size) { st with heap:=h',toks:=tk }) :
  wpAny (model pr ww) AA (call (.type "set") [.ref l]) Q EE st:=by
 have hmet:qF (fun i=>ds.getD i .none) its.size=ds.foldl bF []:=by
  rw [hlen];unfold qF;congr 1;apply List.ext_getElem
  ·simp
  ·intro i h1 h2;simp [h2]
 refine oQ (G:=fun h'=>rC ww st.heap pv h' st.heap.objs.size (ds.foldl bF [])) hh (.inl rfl) hl (fun s W s0 hSf hS hk q=>?_) h;refine Fy (pv:=pv) (h0:=st.heap) W _ hSf (Heap.get?_none_of_le (Jt _)) (fun b hb=>by rw [Jv.mp hb];exact Heap.get?_none_of_le (Kz _)) (fun i=>ds.getD i .none) (fun i v hv=>?_) (by show AA.units+1+1+1+6 < cLine;omega) (by rw [hmet];exact hb) (its.size - 0) 0 _ (by omega) (J9 _) s0 hk (freshD hS) fun s' hm hS'=>?_
 ·have il:i < ds.length:=by rw [<- hlen];exact (LX.mp hv).1
  have e:ds.getD i .none=ds[i]:=by rw [J5,Jl il];rfl
  rw [e];exact hi i v _ hv (Jl il)
 ·rw [hmet] at hS';exact q s' hm hS'
end
open PySem PySem.Spec PyProof.Rows PySem.W
section
variable {P:Program} {w:World} {A:Around} {E:Value->Shared->Prop} {s:Shared} {a:Addr} {vs:List Value} {R:PySem.Fin->Shared->Prop}
abbrev hp1 (h:Heap) (a:Addr) (vs:List Value):Heap:=((h.update a (Obj.mapSeq fun _=>(#[]:Array Value))).push (seqObj "tuple" vs.toArray 0)).push (seqObj "list" #[] 0)
theorem zr (n:b≠a) (e:h.get? b=some o):(hp1 h a vs).get? b=some o:=Jp _ (Jp _ ((KU _ _ (Ne.symm n)).trans e))
theorem pO (ho:s.heap.get? a=some (seqObj "list" vs.toArray n)) (h64:vs.length < 64)
  (hk:2<=vs.length->∀ Q:SortKind->Shared->Prop,Q κ { s with heap:=hp1 s.heap a vs }->wpAny (model P w) A (keyKind' vs.toArray) Q (fun _ _=>False) { s with heap:=hp1 s.heap a vs })
  (hc:∀ i j (C:Bool->Shared->Prop),i < vs.length->j < vs.length->C (lt i j) { s with heap:=hp1 s.heap a vs }->kas_ask P w A κ vs i j C { s with heap:=hp1 s.heap a vs }) (O:Ord lt vs.length)
  (h:∀ p,Pm vs.length p->Up lt p vs.length->R (.done (.ret .none)) { s with heap:=sortedHeap s.heap a vs (List.toArray (p.toList.map fun i=>vs.getD i Value.none)) }) :
  wpAny (model P w) A (Builtin.«list.sort» ⟨[.ref a],[]⟩) R E s:=by
 obtain ⟨e1,ho1⟩:∃ e1,(s.heap.update a (Obj.mapSeq fun _=>(#[]:Array Value))).get? a=some (seqObj "list" #[] e1):=⟨_,get?_update_seq ho fun _=>#[]⟩;have ho2:(hp1 s.heap a vs).get? a=some (seqObj "list" #[] e1):=Jp _ (Jp _ ho1);rw [list_sort_plain];refine Jk (listItems_at ho rfl ?_);refine Jk (listUpdate_at ho rfl ?_ (by rw [Jz,Kk];omega) (J9 _));refine Jk (seqEpoch_at ho1 rfl ?_);refine Jk (wpAny_newTuple ?_ (by show vs.length<=_;rw [Kk];omega));refine Jk (wpAny_newList ?_ (J9 _));refine Kc ?_;show wpAny (model P w) A _ R E { s with heap:=hp1 s.heap a vs };dsimp only;have fin:∀ (st':SortSt) (p:Array Nat),arrOf st'=p.map (kas_item (vs.toArray.zip vs.toArray))->failedOf st'=none->Pm vs.length p->Up lt p vs.length ->
   wpAny (model P w) A (do
    let touched:=(<- seqEpoch a) != e1
    Builtin.List.listUpdate (.ref a) fun _=>(arrOf st').map (·.2)
    if let some e:=failedOf st' then rule "list.sort.comparison-raised"; throw e
    if touched then rule "list.sort.modified"; raiseError "ValueError" "list modified during sort"
    ret .none) R E { s with heap:=hp1 s.heap a vs }:=by
  intro st' p har hf hp hu;have hout:=kat_snds rfl har;have hsz:(List.toArray (p.toList.map fun i=>vs.getD i Value.none)).size=vs.length:=by rw [Jz,Jm,JQ,hp.size]
  rw [hout];refine Jk (seqEpoch_at ho2 rfl ?_);refine Jk (listUpdate_at ho2 rfl ?_ (J9 _) (J6 (Nat.le_of_eq hsz) (by rw [Kk];omega)));rw [hf];simp only [bne_self_eq_false,J4,Kv];exact Jn (h p hp hu)
 by_cases h2:vs.length < 2
 ·have hs:vs.toArray.size < 2:=by rw [Jz];exact h2
  rw [Jx hs,Jx hs];refine Jk (Jn ?_);show wpAny _ _ (pure (PUnit.unit,SortSt.mk' general' (vs.toArray.zip vs.toArray) #[] 7 none)>>=_) _ _ _;refine Jk (Jn ?_);have er:(List.toArray (List.range vs.length)).map (kas_item (vs.toArray.zip vs.toArray))=vs.toArray.zip vs.toArray:=by
   have e:=kas_range (vs.toArray.zip vs.toArray)
   rwa [show (vs.toArray.zip vs.toArray).size=vs.length by simp] at e
  exact fin (SortSt.mk' general' (vs.toArray.zip vs.toArray) #[] 7 none) (List.range vs.length).toArray er.symm rfl (Array.Perm.refl _) fun i hi=>by omega
 ·have hs:¬vs.toArray.size < 2:=by rw [Jz];exact h2
  rw [JD hs,JD hs];refine Jk (J1 (hk (by omega) (fun ZM s'=>ZM=κ/\s'={ s with heap:=hp1 s.heap a vs }) ⟨rfl,rfl⟩) (fun ZM s0 hk'=>?_) fun _ _ x=>x.elim);obtain ⟨rfl,rfl⟩:=hk'
  refine Jk (J1 (kat_run (Q:=fun st' s'=>∃ p:Array Nat,p.size=vs.length/\arrOf st'=p.map (kas_item (vs.toArray.zip vs.toArray))/\failedOf st'=none/\(Pm vs.length p/\Up lt p vs.length)/\s'={ s with heap:=hp1 s.heap a vs }) (G:=fun p s'=>(Pm vs.length p/\Up lt p vs.length)/\s'={ s with heap:=hp1 s.heap a vs })
   rfl (by omega) h64 (fun p' st' s' a1 a2 a3 a4=>⟨p',a1,a2,a3,a4⟩) (BQ hc (fun p hp=>⟨hp,rfl⟩) (ya O (by omega)))) ?_ fun _ _ x=>x)
  rintro ⟨⟨⟩,st'⟩ s' ⟨p,hp,har,hf,⟨h1,h2'⟩,rfl⟩;exact fin st' p har hf h1 h2'
end
noncomputable def mK:List Str->List Str->Bool
 | [],[]=>false
 | [],_ :: _=>true
 | _ :: _,[]=>false
 | a :: r,b :: q=>if a=b then mK r q else decide (a.cps.toList < b.cps.toList)
theorem oD:∀ x,mK x x=false
 | []=>rfl
 | a :: r=>by unfold mK;rw [Jx rfl];exact oD r
theorem uG:∀ {x y z:List Str},mK x y=true->mK y z=true->mK x z=true
 | [],[],z,h1,h2=>by cases h1
 | [],_ :: _,[],h1,h2=>by cases h2
 | [],_ :: _,_ :: _,h1,h2=>rfl
 | _ :: _,[],z,h1,h2=>by cases h1
 | _ :: _,_ :: _,[],h1,h2=>by cases h2
 | a :: x,b :: y,c :: z,h1,h2=>by
  unfold mK at *;split at h1 <;> split at h2
  ·rename_i e1 e2;rw [Jx (e1.trans e2)];exact uG h1 h2
  ·rename_i e1 e2;rw [JD (by rw [e1];exact e2),e1];exact h2
  ·rename_i e1 e2;rw [JD (by rw [<- e2];exact e1),<-e2];exact h1
  ·have:=List.lt_trans (of_decide_eq_true h1) (of_decide_eq_true h2);rw [JD (fun e=>by rw [e] at this;exact yM _ this)];exact J2 this
theorem pJ:∀ {x y:List Str},x≠y->mK x y=false->mK y x=true
 | [],[],hn,h=>absurd rfl hn
 | [],_ :: _,hn,h=>by cases h
 | _ :: _,[],hn,h=>rfl
 | a :: x,b :: y,hn,h=>by
  unfold mK at *;split at h
  ·rename_i e;rw [Jx e.symm];exact pJ (fun z=>hn (by rw [e,z])) h
  ·rename_i e;rw [JD (fun z=>e z.symm)];exact J2 (zu e (LU h))
def TyT (K:Fg) (H:Hp) (u:V) (k:List Str):Prop:=k≠[]/\∃ t,u=.ref t/\SqT K H t (k.map V.str)
def TyH (h:Heap) (u:Value) (k:List Str):Prop:=k≠[]/\∃ t vs,u=.ref t/\IsTup h t (List.toArray vs)/\StrsAre vs k
theorem xW:∀ {vs us:List Value} {x y:List Str} (i:Nat),StrsAre vs x->StrsAre us y->fin=decide (vs.length < us.length)->C (mK x y) s->KatLex P w A true fin C (vs.zip us) i s
 | _,_,_,_,i,.nil,.nil,hf,h=>by subst hf;exact kat_nil h
 | _,_,_,_,i,.nil,.cons b t r,hf,h=>by subst hf;exact kat_nil (by simpa [mK] using h)
 | _,_,_,_,i,.cons a t r,.nil,hf,h=>by subst hf;exact kat_nil (by simpa [mK] using h)
 | _,_,_,_,i,.cons a t r,.cons b u q,hf,h=>by
  unfold mK at h;rw [List.zip_cons_cons];refine kat_cons (eqBool_str (kat_go (fun e=>kat_yes ?_) fun e=>kat_no ?_))
  ·rw [Jx (LV.mp e)] at h;exact xW (i+1) r q (by rw [hf];simp) h
  ·rw [JD (fun z=>by rw [z,beq_self_eq_true] at e;cases e)] at h;cases i with
   | zero=>exact oneLt_str h
   | succ i=>exact kat_one _ _ (lt_str h)
theorem AX:∀ {us:List Value},(∀ u∈us,∃ k,TyH h u k)->∃ fs,KatTups h us fs/\fs.length=us.length/\∀ v∈fs,∃ i t,v=.str i t
 | [],_=>⟨[],trivial,rfl,fun _ z=>nomatch z⟩
 | u :: us,hu=>by
  obtain ⟨k,hn,t,vs,rfl,⟨o,g,c,n,d⟩,st⟩:=hu u Ju;obtain ⟨fs,h1,h2,h3⟩:=AX fun v hv=>hu v (Jr _ hv);cases st with
  | nil=>exact absurd rfl hn
  | cons y t1 r =>
   refine ⟨.str y t1 :: fs,KatTups.cons g c d rfl h1,by rw [JL,h2,JL],fun v hv=>?_⟩;rcases JJ.mp hv with rfl | hv
   ·exact ⟨_,_,rfl⟩
   ·exact h3 v hv
noncomputable def Hx:PyData->Option (List Str)
 | .tuple ds=>match strsOf ds with | some (x :: r)=>some (x :: r) | _=>none
 | _=>none
noncomputable def tyS:KS where
 κ:=List Str
 dft:=[]
 dec:=inferInstance
 lt:=mK
 irr:=oD
 tr:=uG
 tot:=pJ
 T:=TyT
 same:=fun ⟨hn,t,e,h⟩ sm=>⟨hn,t,e,u7 h sm⟩
 Hh:=TyH
 key:=fun {X pins Z H s v u k} I r ⟨hn,t,e,h⟩=>by
  subst e;obtain ⟨its,r2,h2,_⟩:=I.tuple h;exact ⟨hn,t,its,r,h2,bu r2⟩
 ask:=fun {P w A E s u v a b C} hu hx hy h=>by
  obtain ⟨_,x,vs,rfl,⟨ox,gx,cx,n,dx⟩,sx⟩:=hx;obtain ⟨_,y,us,rfl,⟨oy,gy,cy,m,dy⟩,sy⟩:=hy;refine kat_lt gx dx gy dy ?_;rw [K6,K6];exact xW 0 sx sy (by simp) h
 kd:=fun {P w A E s us Q} hu h0 hq=>by
  obtain ⟨fs,t1,t2,t3⟩:=AX hu;refine kat_kind (T:=.type "str") t1 (by rw [t2];exact h0) (fun v hv=>?_) rfl hq;obtain ⟨i,t,rfl⟩:=t3 v hv;exact Looks.of_pure rfl
 of:=Hx
 ofT:=fun {K F H d u k} e h=>by
  unfold Hx at e;split at e
  ·split at e
   ·rename_i ds x r hss;cases e;obtain ⟨t,ys,rfl,sq,_,dl⟩:=h;obtain ⟨e2,_⟩:=iw hss dl;rw [e2] at sq;exact ⟨by simp,t,rfl,sq⟩
   ·cases e
  ·cases e
open PySem PySem.Spec PyProof.Rows PySem.W
theorem fE:∀ {us vs:List Value},us.Perm vs->∀ {ys:List V},Vals ys vs->∃ ws,Vals ws us/\ws.Perm ys
 | _,_,.nil,zs,h=>by cases h;exact ⟨[],.nil,.nil⟩
 | _,_,.cons v p,zs,h=>by
  cases h with
  | cons r h =>
   obtain ⟨ws,a,b⟩:=fE p h;exact ⟨_ :: ws,.cons r a,.cons _ b⟩
 | _,_,.swap v u l,zs,h=>by
  cases h with
  | cons r1 h =>
   cases h with
   | cons r2 h=>exact ⟨_,.cons r2 (.cons r1 h),.swap _ _ _⟩
 | _,_,.trans p q,zs,h=>by
  obtain ⟨ws,a,b⟩:=fE q h;obtain ⟨vs,c,d⟩:=fE p a;exact ⟨vs,c,d.trans b⟩
section
variable {K:Fg} {F:Addr->Prop} {H:Hp}
theorem gH:∀ {ys ws:List V},ws.Perm ys->∀ {zs:List PyData},DmL K F H zs ys->∃ qs,DmL K F H qs ws/\qs.Perm zs
 | _,_,.nil,[],h=>⟨[],rfl,.nil⟩
 | _,_,.nil,z :: zs,h=>by obtain ⟨_,_,e,_⟩:=h;cases e
 | _,_,.cons v p,[],h=>by cases h
 | _,_,.cons v p,z :: zs,h=>by
  obtain ⟨_,_,e,h1,h2⟩:=h;cases e;obtain ⟨qs,a,b⟩:=gH p h2;exact ⟨z :: qs,⟨_,_,rfl,h1,a⟩,b.cons z⟩
 | _,_,.swap v u l,[],h=>by cases h
 | _,_,.swap v u l,[z],h=>by obtain ⟨_,_,e,h1,h2⟩:=h;cases e;cases h2
 | _,_,.swap v u l,z :: z2 :: zs,h=>by
  obtain ⟨_,_,e,h1,_,_,e2,h2,h3⟩:=h;cases e;cases e2;exact ⟨z2 :: z :: zs,⟨_,_,rfl,h2,_,_,rfl,h1,h3⟩,.swap _ _ _⟩
 | _,_,.trans p q,zs,h=>by
  obtain ⟨qs,a,b⟩:=gH q h;obtain ⟨qs2,c,d⟩:=gH p a;exact ⟨qs2,c,d.trans b⟩
theorem DmL.at_:∀ {ds:List PyData} {xs:List V} {i:Nat} {d:PyData},DmL K F H ds xs->ds[i]?=some d->∃ x,xs[i]?=some x/\Dm K F H d x
 | [],xs,i,d,h,e=>by simp at e
 | d :: ds,xs,i,d',h,e=>by
  obtain ⟨v,r,rfl,h1,h2⟩:=h;cases i with
  | zero=>simp at e;subst e;exact ⟨v,rfl,h1⟩
  | succ i=>simpa using DmL.at_ h2 (by simpa using e)
theorem xT:∀ {ds:List PyData} {xs:List V},ds.length=xs.length->(∀ (i:Nat) (d:PyData) (x:V),ds[i]?=some d->xs[i]?=some x->Dm K F H d x)->DmL K F H ds xs
 | [],[],_,_=>rfl
 | [],_ :: _,h,_=>by simp at h
 | _ :: _,[],h,_=>by simp at h
 | d :: ds,x :: xs,h,q=>⟨x,xs,rfl,q 0 d x rfl rfl,xT (by simpa using h) fun i d' x' a b=>q (i+1) d' x' (by simpa using a) (by simpa using b)⟩
theorem mh (h:DmL K F H ds xs):∀ {l:List Nat},(∀ i∈l,i < xs.length)->DmL K F H (l.map fun i=>ds.getD i .none) (l.map fun i=>xs.getD i .non)
 | [],_=>rfl
 | i :: l,hb=>by
  have hi:=hb i Ju;have hd:i < ds.length:=by rw [<- h.len];exact hi
  obtain ⟨x,e,dx⟩:=h.at_ (Jl hd);refine ⟨_,_,rfl,?_,mh h fun j hj=>hb j (Jr _ hj)⟩;show Dm K F H (ds.getD i .none) (xs.getD i .non);rw [J5,J5,Jl hd,e];exact dx
end
def uJ (S:KS) (K:Fg):V->Hp->VK->Prop:=fun u H Q=>∃ (a:Addr) (xs:List V) (ks:List S.κ),u=.ref a/\SqL K H a xs/\xs.length < 64/\ks.length=xs.length/\ks.Nodup/\(∀ (i:Nat) (x:V) (k:S.κ),xs[i]?=some x->ks[i]?=some k->S.T K H x k) /\
 ∀ (D:Addr) (p:Array Nat),H D=none->Pm xs.length p->Up (Ah S ks) p xs.length->Q (.ref D) (upd H D (.lst (p.toList.map fun i=>xs.getD i .non)))
section
variable {X:Cx} {pins:List (Addr×Obj)} {Z:St} {H:Hp} {s:Shared}
theorem oh {S:KS} {A:Around} {xs:List V} {vs:List Value} {ks:List S.κ} {h':Heap} {d':Drawn} {tk:Nat} {R:PySem.Fin->Shared->Prop} {D:Addr} {n:Nat} (I:Inv X pins Z H s) (kp:∀ b o,s.heap.get? b=some o->h'.get? b=some o) (hD:s.heap.objs.size<=D) (hg:h'.get? D=some (seqObj "list" vs.toArray n)) (rv:Vals xs vs)
  (h64:xs.length < 64) (kl:ks.length=xs.length) (kn:ks.Nodup) (kT:∀ (i:Nat) (x:V) (k:S.κ),xs[i]?=some x->ks[i]?=some k->S.T X.K H x k) (hu:A.units+64 < cLine)
  (q:∀ p,Pm xs.length p->Up (Ah S ks) p xs.length->R (.done (.ret .none)) { s with heap:=sortedHeap h' D vs (List.toArray (p.toList.map fun i=>vs.getD i Value.none)),drawn:=d',toks:=tk }) :
  wpAny (model X.prog X.w) A (Builtin.«list.sort» ⟨[.ref D],[]⟩) R X.xe { s with heap:=h',drawn:=d',toks:=tk }:=by
 have vl:vs.length=xs.length:=rv.length.symm;have I1:Inv X pins Z H { s with heap:=hp1 h' D vs,drawn:=d',toks:=tk }:=Inv.drew (d':=d') (I.kept (t':=tk) fun b o e=>zr (JY (JX (JB e) hD)) (kp b o e));have ky:∀ i,i < vs.length->S.Hh (hp1 h' D vs) (vs.getD i Value.none) (ks.getD i S.dft):=by
  intro i hi;have hx:i < xs.length:=by rw [<- vl];exact hi
  have hk:i < ks.length:=by rw [kl];exact hx
  obtain ⟨u,e,r⟩:=rv.get (Jl hx);rw [J5,J5,e,Jl hk];exact S.key I1 r (kT i _ _ (Jl hx) (Jl hk))
 refine pO (s:={ s with heap:=h',drawn:=d',toks:=tk }) (κ:=tuples' true) (lt:=Ah S ks) hg (by rw [vl];exact h64) (fun h2 Q' hq=>?_) (fun i j C hi hj hC=>?_) (by rw [vl,<-kl];exact Hv S kn) fun p hp hu'=>?_
 ·refine S.kd (s:={ s with heap:=hp1 h' D vs,drawn:=d',toks:=tk }) (us:=vs) (fun u hu=>?_) (by omega) hq;obtain ⟨i,hi⟩:=J0.mp hu;have il:i < vs.length:=(Jo.mp hi).1;have:=ky i il;rw [J5,hi] at this;exact ⟨_,this⟩
 ·unfold kas_ask;exact S.ask hu (ky i hi) (ky j hj) hC
 ·rw [vl] at hp hu';exact q p hp hu'
theorem fK (rv:Vals xs vs):∀ {l:List Nat},(∀ i∈l,i < xs.length)->Vals (l.map fun i=>xs.getD i .non) (l.map fun i=>vs.getD i Value.none)
 | [],_=>.nil
 | i :: l,hb=>by
  have hi:=hb i Ju;obtain ⟨u,e,r⟩:=rv.get (Jl hi);refine .cons ?_ (fK rv fun j hj=>hb j (Jr _ hj));show RelV (xs.getD i .non) (vs.getD i Value.none);rw [J5,J5,e,Jl hi];exact r
theorem p8 {S:KS} (hu:X.A.units+66 < cLine):aB X (.builtin "sorted") (fun us H Q=>∃ u,us=[u]/\uJ S X.K u H Q):=by
 intro pins s Z H us ws Q I r h;obtain ⟨u,rfl,a,xs,ks,rfl,hq,h64,kl,kn,kT,q⟩:=h;obtain ⟨v,rfl,r1⟩:=vals1 r;cases (show v=Value.ref a from r1);obtain ⟨vs,rv,p,hz⟩:=I.list hq;have vl:vs.length=xs.length:=rv.length.symm;refine Calls.call_function_entry kind_sorted plain_sorted entry_sorted (args_sorted1 _) ?_;unfold Builtin.«sorted»
 refine Jk (m:=checkCount "sorted" 1 1 _) (Jn ?_);refine Jk (collect_list p.isList ?_ (by rw [Kk];omega));refine Jk (wpAny_newList ?_ (by rw [Kk];omega));have hsz:((s.heap.push (seqObj "list" #[] 0)).update s.heap.objs.size (Obj.mapSeq (·++vs.toArray))).objs.size=s.heap.objs.size+1:=by
  rw [Heap.size_update,size_push']
 have hoL:(((s.heap.push (seqObj "list" #[] 0)).update s.heap.objs.size (Obj.mapSeq (·++vs.toArray))).push (seqObj "list" vs.toArray 0)).get? (s.heap.objs.size+1)=some (seqObj "list" vs.toArray 0):=by
  rw [<- hsz];exact JN _ rfl
 have keep:∀ b o,s.heap.get? b=some o->(((s.heap.push (seqObj "list" #[] 0)).update s.heap.objs.size (Obj.mapSeq (·++vs.toArray))).push (seqObj "list" vs.toArray 0)).get? b=some o:=fun b o q=>by
  have hlt:b < s.heap.objs.size:=JB q;rw [Heap.get?_push_ne _ _ _ (by rw [hsz];exact JY (Ky hlt)),Heap.get?_update_ne _ _ _ _ (JY hlt),Heap.get?_push_ne _ _ _ (JY hlt)];exact q
 show wpAny _ _ _ _ _ { s with heap:=((s.heap.push (seqObj "list" #[] 0)).update s.heap.objs.size (Obj.mapSeq (·++vs.toArray))).push (seqObj "list" vs.toArray 0) };rw [hsz];refine Jk (Kc (Kj slot_list_sort ⟨_,hoL,rfl⟩ entry_list_sort (oh (d':=s.drawn) (tk:=s.toks) I keep (Kz _) hoL rv h64 kl kn kT (by show X.A.units+1+1+64 < cLine;omega) fun pp hp hu'=>?_) (args_list_sort _)));obtain ⟨e,he⟩:=sortedHeap_at (out:=List.toArray (pp.toList.map fun i=>vs.getD i Value.none)) (vs:=vs) (n:=0) hoL;have hn:H (s.heap.objs.size+1)=none:=I.hok.fresh (Kz _);have hb:∀ i∈pp.toList,i < xs.length:=fun i hi=>by
  have:=(Ln.mp hp).mem_iff.mp hi;simpa using this
 refine ⟨_,rfl,Jn ⟨_,rfl,.ref (s.heap.objs.size+1),_,I.laid (t':=s.toks) (o:=.lst (pp.toList.map fun i=>xs.getD i .non)) (fun b o q=>?_) (Kz _) ⟨?_,_,e,fK rv hb,he⟩,rfl,q _ pp hn hp hu'⟩⟩
 ·have lt:b < s.heap.objs.size:=JB q;rw [sortedHeap_old (JY (Ky lt)) (by rw [size_push',hsz];exact Ky (Ky lt))];exact keep b o q
 ·rw [Jm,JQ,hp.size,Kk];omega
noncomputable def vm (X:Cx) (p:Addr) (ys:List V):HO:=.ext fun h=>∃ ob es ep tb,h.get? p=some ob/\ob.ExactSet/\ob.data=.set es ep tb/\zJ X.w tb es.size/\es.size < scanBound/\Vals ys (es.toList.map (·.2))
def EN (X:Cx):List V->Hp->VK->Prop:=fun us H Q=>∃ (a:Addr) (F:Addr->Prop) (ys:List V) (ds:List PyData),us=[.ref a]/\SqL X.K H a ys/\DmL X.K F H ds ys/\(∀ d∈ds,hk6 d=true/\txB d=true)/\(ds.foldl bF []).length < 64 /\
 ∀ (p:Addr) (zs:List PyData) (ws:List V),H p=none->zs.Perm (ds.foldl bF [])->DmL X.K F H zs ws->Q (.ref p) (upd H p (vm X p ws))
theorem tF (hc:X.calm=true) (hu:X.A.units+66 < cLine):aB X (.type "set") (EN X):=by
 intro pins s Z H us vs Q I r h;obtain ⟨a,F,ys,ds,rfl,hq,dl,hk,h64,q⟩:=h;obtain ⟨u,rfl,r1⟩:=vals1 r;cases (show u=Value.ref a from r1);obtain ⟨its,rv,p,hz⟩:=I.list hq;have hl:its.length=ds.length:=by rw [<- rv.length,dl.len]
 refine vN (pv:=fun v d=>∃ j:Nat,its[j]?=some v/\ds[j]?=some d) (ds:=ds) (I.ok.hd hc) p.isList (by rw [Jz];exact hl) (fun i v d hv hd=>?_) h64 (by omega) fun h' tk hS hkp=>?_
 ·have hv:its[i]?=some v:=by simpa using hv
  have hm:=hk d (Jy hd);obtain ⟨x,ex,dx⟩:=dl.at_ hd;obtain ⟨u,eu,ru⟩:=rv.get ex;rw [hv] at eu;cases eu;have h6:hkB d=true/\d.depth<=6:=by simpa [hk6] using hm.1
  obtain ⟨as,rd⟩:=dx.reads I (iH _ h6.1) ru;exact ⟨ai.mpr ⟨h6.1,dx.lay (iH _ h6.1),h6.2⟩,hm.2,⟨i,hv,hd⟩,as,rd⟩
 ·obtain ⟨ob,es,ep,t,zs,ho,hex,hdd,T,N,pm,led,pln,nf⟩:=hS;have hn:H s.heap.objs.size=none:=I.hok.fresh (Jt _);have ex:∀ i,i < es.toList.length->∃ x,∀ e z,es.toList[i]?=some e->zs[i]?=some z->RelV x e.2/\Dm X.K F H z x:=by
   intro i hi;have iz:i < zs.length:=by rw [<- N.len];exact hi
   obtain ⟨j,h1,h2⟩:=N.vl i _ _ (Jl hi) (Jl iz);obtain ⟨x,ex,dx⟩:=dl.at_ h2;obtain ⟨u,eu,ru⟩:=rv.get ex;rw [h1] at eu;cases eu;refine ⟨x,fun e z he hz=>?_⟩;rw [Jl hi] at he;rw [Jl iz] at hz;cases he;cases hz;exact ⟨ru,dx⟩
  obtain ⟨ws,wl,hw⟩:∃ ws:List V,ws.length=es.toList.length/\∀ (i:Nat) (x:V) (e:Int×Value) (z:PyData),ws[i]?=some x->es.toList[i]?=some e->zs[i]?=some z->RelV x e.2/\Dm X.K F H z x:=by
   have key:∀ n,n<=es.toList.length->∃ ws:List V,ws.length=n/\∀ (i:Nat) (x:V) (e:Int×Value) (z:PyData),ws[i]?=some x->es.toList[i]?=some e->zs[i]?=some z->RelV x e.2/\Dm X.K F H z x:=by
    intro n;induction n with
    | zero=>exact fun _=>⟨[],rfl,fun i x e z h=>by simp at h⟩
    | succ n ih =>
     intro hn;obtain ⟨ws,wl,hw⟩:=ih (by omega);obtain ⟨x,hx⟩:=ex n (by omega);refine ⟨ws++[x],by rw [Js,wl];rfl,fun i y e z h1 h2 h3=>?_⟩;rcases KN i ws.length with c | c
     ·rw [Ka c] at h1;exact hw i y e z h1 h2 h3
     ·rw [JH c] at h1;have:i=n:=by
       have:=(Jo.mp h1).1;simp at this;omega
      subst this;rw [wl,Nat.sub_self] at h1;cases h1;exact hx e z h2 h3
   exact key _ (Jt _)
  have wv:Vals ws (es.toList.map (·.2)):=by
   have key:∀ (ws:List V) (es:List (Int×Value)) (zs:List PyData),ws.length=es.length->es.length=zs.length->(∀ (i:Nat) (x:V) (e:Int×Value) (z:PyData),ws[i]?=some x->es[i]?=some e->zs[i]?=some z->RelV x e.2)->Vals ws (es.map (·.2)):=by
    intro ws;induction ws with
    | nil=>intro es zs h1 h2 _;cases es with
     | nil=>exact .nil
     | cons _ _=>simp at h1
    | cons w ws ih=>intro es zs h1 h2 h3;cases es with
     | nil=>simp at h1
     | cons e es=>cases zs with
      | nil=>simp at h2
      | cons z zs=>exact .cons (h3 0 w e z rfl rfl rfl) (ih es zs (by simpa using h1) (by simpa using h2) fun i x e z a b c=>h3 (i+1) x e z (by simpa using a) (by simpa using b) (by simpa using c))
   exact key ws _ zs wl N.len fun i x e z a b c=>(hw i x e z a b c).1
  have dw:DmL X.K F H zs ws:=xT (by rw [wl,N.len]) fun i d x hd hx=>by
   have ie:i < es.toList.length:=by rw [<- wl];exact (Jo.mp hx).1
   exact (hw i x _ d hx (Jl ie) hd).2
  have tt:zJ X.w t es.size:=⟨T.fits (by rw [Jm,JQ]),led,pln⟩;have szb:es.size < scanBound:=by
   have:es.size=zs.length:=by rw [<- N.len,JQ]
   rw [this,pm.length_eq];exact Nat.lt_trans h64 (by decide)
  refine ⟨.ref s.heap.objs.size,_,I.laid (t':=tk) (o:=vm X s.heap.objs.size ws) (fun b o hb=>hkp b o (JB hb) hb) (Jt _) ?_,rfl,q _ zs ws hn pm dw⟩;exact ⟨⟨ob,es,ep,t,ho,hex,hdd,tt,szb,wv⟩,⟨_,ho⟩,fun h1 h2 ⟨ob,es,ep,t,a1,a2⟩ k=>⟨ob,es,ep,t,k _ a1,a2⟩⟩
end
open PySem PySem.Spec PyProof.Rows PySem.W
noncomputable def kOf (S:KS) (d:PyData):S.κ:=(S.of d).getD S.dft
def okS (S:KS) (zs:List PyData):Prop:=(∀ z∈zs,(S.of z).isSome=true)/\(zs.map (kOf S)).Nodup
noncomputable def D2 (S:KS) (zs:List PyData):Bool:=(zs.all fun z=>(S.of z).isSome)&&@decide (zs.map (kOf S)).Nodup (@List.nodupDecidable _ S.dec _)
theorem fo:D2 S zs=true↔okS S zs:=by
 unfold D2 okS;rw [JU,Ko];exact and_congr Iff.rfl ⟨@of_decide_eq_true _ (_),@decide_eq_true _ (_)⟩
noncomputable def kG (S:KS) (zs:List PyData):List PyData:=(Sg.Al ((zs.map (kOf S)).zip zs)).map (·.2)
theorem vg (h:(S.of d).isSome=true):S.of d=some (kOf S d):=by
 unfold kOf;cases e:S.of d with
 | none=>rw [e] at h;cases h
 | some k=>rfl
theorem okS.perm (h:okS S zs) (p:qs.Perm zs):okS S qs:=⟨fun z hz=>h.1 z (p.mem_iff.mp hz),(p.map _).nodup_iff.mpr h.2⟩
theorem jF (S:KS) (zs:List PyData):(zs.map (kOf S)).zip zs=zs.map fun z=>(kOf S z,z):=by
 induction zs with
 | nil=>rfl
 | cons z zs ih=>rw [List.map_cons,List.zip_cons_cons,ih];rfl
theorem i0 (h:okS S zs) (p:qs.Perm zs):kG S qs=kG S zs:=by
 unfold kG;congr 1;refine Lv (le:=fun a b=>S.lt a.1 b.1=true) (fun a b _ _ h1 h2=>?_) (Sg.km _ ?_) (Sg.km _ ?_) ?_
 ·have:=S.tr h1 h2;rw [S.irr] at this;cases this
 ·rw [List.map_fst_zip (by simp)];exact (h.perm p).2
 ·rw [List.map_fst_zip (by simp)];exact h.2
 ·refine (Sg.cw _).trans (List.Perm.trans ?_ (Sg.cw _).symm);rw [jF,jF];exact p.map _
theorem se (S:KS) (zs:List PyData):(kG S zs).Perm zs:=by
 unfold kG;have:=(Sg.cw ((zs.map (kOf S)).zip zs)).map (·.2)
 rwa [List.map_snd_zip (by simp)] at this
section
variable {X:Cx} {pins:List (Addr×Obj)} {Z:St} {H:Hp} {s:Shared}
theorem Cr {S:KS} {K:Fg} {F:Addr->Prop} {zs:List PyData} {ys:List V} (dl:DmL K F H zs ys) (h:okS S zs):∀ (i:Nat) (x:V) (k:S.κ),ys[i]?=some x->(zs.map (kOf S))[i]?=some k->S.T K H x k:=by
 intro i x k hx hk;rw [Jw] at hk;obtain ⟨z,hz,rfl⟩:=JM.mp hk;obtain ⟨y,hy,dy⟩:=dl.at_ hz;rw [hx] at hy;cases hy;exact S.ofT (vg (h.1 z (Jy hz))) dy
def A7 (S:KS) (X:Cx):List V->Hp->VK->Prop:=fun us H Q=>∃ (d:Addr) (F:Addr->Prop) (zs:List PyData) (ys:List V),us=[.ref d]/\H d=some (vm X d ys)/\DmL X.K F H zs ys/\zs.length < 64/\okS S zs/\∀ (D:Addr) (ws:List V),H D=none->DmL X.K F H (kG S zs) ws->Q (.ref D) (upd H D (.lst ws))
theorem qi (hc:X.calm=true) (hu:X.A.units+66 < cLine):aB X (.builtin "sorted") (A7 S X):=by
 intro pins s Z H us vs0 Q I r h;obtain ⟨d,F,zs,ys,rfl,hq,dl,h64,ok,q⟩:=h;obtain ⟨v,rfl,r1⟩:=vals1 r;cases (show v=Value.ref d from r1);obtain ⟨⟨ob,es,ep,tb,ho,hx,hdd,tt,szb,wv⟩,_⟩:=I.hok _ _ hq;refine Calls.call_function_entry kind_sorted plain_sorted entry_sorted (args_sorted1 _) ?_;unfold Builtin.«sorted»
 refine Jk (m:=checkCount "sorted" 1 1 _) (Jn ?_);refine Jk (Cz (I.ok.hd hc) ho hx hdd tt szb fun vs h1 d1 tk pm le kp=>?_);obtain ⟨ws,w1,w2⟩:=fE pm wv;obtain ⟨qs,q1,q2⟩:=gH w2 dl;have wl:ws.length < 64:=by rw [q1.len,q2.length_eq];exact h64
 have vl:vs.length=ws.length:=w1.length.symm;refine Jk (wpAny_newList ?_ (by rw [Kk];omega));have g1:(h1.push (seqObj "list" vs.toArray 0)).get? h1.objs.size=some (seqObj "list" vs.toArray 0):=JN _ rfl;have ok2:=ok.perm q2;refine Jk (Kc (Kj slot_list_sort ⟨_,g1,rfl⟩ entry_list_sort (oh (s:=s) (h':=h1.push (seqObj "list" vs.toArray 0)) (ks:=qs.map (kOf S)) (d':=d1) (tk:=tk) I (fun b o e=>Jp _ (kp b o e)) le g1 w1 wl (by rw [Jm,q1.len]) ok2.2 (Cr q1 ok2) (by show X.A.units+1+1+64 < cLine;omega) fun pp hp hu'=>?_) (args_list_sort _)));obtain ⟨e,he⟩:=sortedHeap_at (out:=List.toArray (pp.toList.map fun i=>vs.getD i Value.none)) (vs:=vs) (n:=0) g1;have hn:H h1.objs.size=none:=I.hok.fresh le;have hb:∀ i∈pp.toList,i < ws.length:=fun i hi=>by
  have:=(Ln.mp hp).mem_iff.mp hi;simpa using this
 have row:kG S qs=pp.toList.map fun i=>qs.getD i .none:=by
  have l:ws.length=qs.length:=q1.len;rw [l] at hp hu';exact Sg.pw (by rw [Jm]) ok2.2 hp hu'
 have dm:DmL X.K F H (kG S zs) (pp.toList.map fun i=>ws.getD i .non):=by
  rw [<- i0 ok q2,row];exact mh q1 hb
 refine ⟨_,rfl,Jn ⟨_,rfl,.ref h1.objs.size,_,Inv.drew (d':=d1) (I.laid (t':=tk) (o:=.lst (pp.toList.map fun i=>ws.getD i .non)) (fun b o q=>?_) le ⟨?_,_,e,fK w1 hb,he⟩),rfl,q _ _ hn dm⟩⟩
 ·have lt:b < h1.objs.size:=JB (kp b o q);rw [sortedHeap_old (JY lt) (by rw [size_push'];exact Ky lt)];exact Jp _ (kp b o q)
 ·rw [Jm,JQ,hp.size,Kk];omega
end
noncomputable def lx (S:KS):PyData->Option PR
 | .list ds=>if ds.length < 64/\D2 S ds=true then some (.frs (.list (kG S ds))) else none
 | _=>none
noncomputable def gp (S:KS):Prm:=Prm.one (fun K=>uJ S K) (lx S) fun K F H x u pr Q hf hx hd q=>by
 unfold lx at hf;split at hf
 ·rename_i ds;split at hf
  ·rename_i c;cases hf;obtain ⟨a,us,rfl,s1,z1,d1⟩:=jh hx;have ok:=fo.mp c.2;have l:us.length=ds.length:=d1.len;refine ⟨a,us,ds.map (kOf S),rfl,s1,by rw [l];exact c.1,by rw [Jm,l],ok.2,Cr d1 ok,fun D p hD hp hu=>q _ _ (aE.nw _ hD) ?_⟩;have hb:∀ i∈p.toList,i < us.length:=fun i hi=>by
    have:=(Ln.mp hp).mem_iff.mp hi;simpa using this
   have row:kG S ds=p.toList.map fun i=>ds.getD i .none:=by
    rw [l] at hp hu;exact Sg.pw (by rw [Jm]) ok.2 hp hu
   rw [row];refine xg hD ?_ (mh d1 hb);rw [Jm,JQ,hp.size];exact z1
  ·cases hf
 ·cases hf
theorem fy (hu:X.A.units+66 < cLine):aB X (.builtin "sorted") ((gp S).r X.K):=dg (p8 hu) fun u H Q h=>⟨u,rfl,h⟩
def rST (S:KS) (K:Fg):V->Hp->VK->Prop:=fun x H Q=>∃ (a:Addr) (F:Addr->Prop) (ys:List V) (ds:List PyData),x=.ref a/\SqL K H a ys/\DmL K F H ds ys/\(∀ d∈ds,hk6 d=true/\txB d=true)/\(ds.foldl bF []).length < 64/\okS S (ds.foldl bF [])/\(∀ b,F b->H b≠none) /\
 ∀ (H1:Hp) (p:Addr) (ws:List V),aE H H1->H1 p=none->DmL K F H1 (kG S (ds.foldl bF [])) ws->Q (.ref p) (upd H1 p (.lst ws))
noncomputable def tu (S:KS):PyData->Option PR
 | .list ds=>if (ds.all fun d=>hk6 d&&txB d)=true/\(ds.foldl bF []).length < 64/\D2 S (ds.foldl bF [])=true then some (.frs (.list (kG S (ds.foldl bF [])))) else none
 | _=>none
noncomputable def lK (S:KS):Prm:=Prm.one (rST S) (tu S) fun K F H x u pr Q hf hx hd q=>by
 unfold tu at hf;split at hf
 ·rename_i ds;split at hf
  ·rename_i c;cases hf;obtain ⟨a,us,rfl,s1,z1,d1⟩:=jh hx;have ok:=fo.mp c.2.2;refine ⟨a,F,us,ds,rfl,s1,d1,fun d hd=>by simpa using Ko.mp c.1 d hd,c.2.1,ok,hd,fun H1 p ws sm hp dw=>?_⟩;have hp0:H p=none:=sm.free hp;refine q _ _ (sm.trans (aE.nw _ hp)) ⟨p,rfl,hp0,ws,ak,?_,?_⟩
   ·rw [dw.len,(se S _).length_eq,Kk];omega
   ·exact (dw.fresh hp).pr (Pr.of_same (aE.nw _ hp)) fun _ z=>z
  ·cases hf
 ·cases hf
theorem eST (hc:X.calm=true) (hu:X.A.units+66 < cLine) (hg1:Gl X "sorted") (hm1:X.mg "sorted" = none) (hg2:Gl X "set") (hm2:X.mg "set" = none) (h:PySem.W.isStarred e=false) (ha:JE X e te) :
  JE X (.Call (.Name "sorted" p1) [.Call (.Name "set" p2) [e] [] pos2] [] pos1) (tCB ((lK S).r X.K) (fA te uX)):=by
 let te':TE:=fun Z H P=>∃ P0:VK,te Z H P0/\∀ x H1,P0 x H1->P x H1
 have ha':JE X e te':=⟨fun pins s Z H P I ⟨P0,h0,h1⟩=>J1 (ha.h pins s Z H P0 I h0) (fun v s' ⟨x,H',I',r,q⟩=>⟨x,H',I',r,h1 _ _ q⟩) fun _ _ z=>z⟩;have inner:=eTy (p:=p2) (pos:=pos2) (tF hc hu) hg2 hm2 (by decide +kernel) (eA ha' ab h) h rfl (by decide) rfl;have outer:=eB (p:=p1) (pos:=pos1) (qi (S:=S) hc hu) hg1 hm1 (by decide +kernel) (eA inner ab rfl) rfl rfl (by decide) rfl;refine ⟨?_⟩;intro pins s Z H Q I hT;refine outer.h pins s Z H Q I ⟨_,hT,fun x H1 z=>?_⟩;have z:rST S X.K x H1 Q:=z;obtain ⟨a,F,ys,ds,rfl,sq,dl,hk,h64,ok,hF,q⟩:=z;refine ⟨a,F,ys,ds,rfl,sq,dl,hk,h64,fun p zs ws hp pm dw=>?_⟩;have sm:=aE.nw (vm X p ws) hp;refine ⟨p,F,zs,ws,rfl,ak,dw.pr (Pr.of_same sm) (fun _ z=>z),by rw [pm.length_eq];exact h64,ok.perm pm,fun p2 ws2 hp2 dw2=>?_⟩;rw [i0 ok pm] at dw2;exact q _ p2 ws2 sm hp2 dw2
open PySem PySem.Spec PyProof.Rows PySem.W
def xp (K:Fg):V->Hp->VK->Prop:=fun u H Q=>∃ (a:Addr) (ep:Nat) (xs:List (PyData×V×V)),u=.ref a/\H a=some (.dD ep xs)/\xs.length<=sizeLine/\∀ D,H D=none->Q (.ref D) (upd H D (.lst (xs.map (·.2.1))))
theorem qq (hc:X.calm=true):aB X (.type "list") (fun us H Q=>∃ u,us=[u]/\xp X.K u H Q):=by
 intro pins s Z H us ws Q I r h;obtain ⟨u,rfl,a,ep,xs,rfl,ea,z,q⟩:=h;obtain ⟨v,rfl,r1⟩:=vals1 r;cases (show v=Value.ref a from r1);obtain ⟨z0,lo,nd,o,es,g1,g2,g3,g4⟩:=(show bJ X.prog X.w H s.heap a (.dD ep xs) from I.hok _ _ ea);have hsz:es.size=xs.length:=by rw [Paired.length g4];simp
 refine kdl_call (Ip (es:=es) (ep:=ep) lo) (I.ok.hd hc) ⟨o,g1,g2,g3⟩ (by rw [hsz];exact z) fun h' tk acc' c' kp hS hacc=>?_;have ev:Vals (xs.map (·.2.1)) acc'.toList:=by
  have key:∀ (xs:List (PyData×V×V)) (vs:List Value),xs.length=vs.length->(∀ (i:Nat) (x:PyData×V×V) (v:Value),xs[i]?=some x->vs[i]?=some v->RelV x.2.1 v)->Vals (xs.map (·.2.1)) vs:=by
   intro xs;induction xs with
   | nil=>intro vs h1 _;cases vs with
    | nil=>exact .nil
    | cons _ _=>simp at h1
   | cons x xs ih=>intro vs h1 h2;cases vs with
    | nil=>simp at h1
    | cons v vs=>exact .cons (h2 0 x v rfl rfl) (ih vs (by simpa using h1) fun i x v a b=>h2 (i+1) x v (by simpa using a) (by simpa using b))
  refine key xs acc'.toList ((hsz.symm.trans (hacc.1.symm.trans JQ.symm))) fun i x v hx hv=>?_;rw [Kd] at hv;obtain ⟨e,h1,h2⟩:=hacc.2 i v hv;obtain ⟨en,h3,h4⟩:=fz g4 i x hx;rw [Kd] at h3;rw [h3] at h1;cases h1;rw [h2];exact h4.2.1
 have hn:H s.heap.objs.size=none:=I.hok.fresh (Jt _);refine ⟨.ref s.heap.objs.size,_,I.laid (t':=tk) (o:=.lst (xs.map (·.2.1))) (fun b o e=>kp b o e) (Jt _) ⟨by rw [Jm];exact z,acc'.toList,c',ev,by rw [Lm];exact hS⟩,rfl,q _ hn⟩
theorem oJ {K:Fg} {F:Addr->Prop} {H:Hp}:∀ {kvs:List (PyData×PyData)} {xs:List (PyData×V×V)},DmP K F H kvs xs->DmL K F H (kvs.map (·.1)) (xs.map (·.2.1))
 | [],xs,h=>by rw [show xs=[] from h];rfl
 | (k,d) :: kvs,xs,h=>by
  obtain ⟨j,v,r,rfl,h1,h2,h3,h4⟩:=h;exact ⟨_,_,rfl,h2,oJ h4⟩
noncomputable def xy:Prm:=Prm.one xp (fun x=>match x with | .dict kvs=>some (.frs (.list (kvs.map (·.1)))) | _=>none) fun K F H x u pr Q hf hx hd q=>by
 split at hf
 ·rename_i kvs;cases hf;obtain ⟨a,rfl,ep,xs,ea,z,dp⟩:=hx;exact ⟨a,ep,xs,rfl,ea,z,fun D hD=>q _ _ (aE.nw _ hD) (xg hD (by rw [Jm];exact z) (oJ dp))⟩
 ·cases hf
theorem tX (hc:X.calm=true):aB X (.type "list") (xy.r X.K):=dg (qq hc) fun u H Q h=>⟨u,rfl,h⟩
theorem gi.iu (r:gi k A):A.units+66 < cLine:=by have:=r.un;omega
open PySem PySem.Spec PyProof.Rows
def HZ (l:List (Str×Cst)):V->Hp->VK->Prop:=fun y H Q=>∃ z,y=.str z/\kgV l z≠.non/\Q (kgV l z) H
noncomputable def Hm (l:List (Str×Cst)):PyData->Option PR
 | .str z=>match kgV l z with | .non=>none | _=>some (.dat (kgD l z))
 | _=>none
noncomputable def DT (l:List (Str×Cst)):Prm:=Prm.one (fun _=>HZ l) (Hm l) fun K F H x u pr Q hf hx hd q=>by
 unfold Hm at hf;split at hf
 ·split at hf
  ·cases hf
  ·rename_i c;cases hf;obtain ⟨rfl,_⟩:=vStr hx;exact ⟨_,rfl,fun e=>c e,q _ H (aE.rf H) (CH l _ K F H)⟩
 ·cases hf
section
variable {X:Cx} {o e:Expr} {pos:Pos} {te:TE} {a:Addr} {l:List (Str×Cst)}
theorem IF (ho:JE X o (tC (.ref a))) (hk:KG X.w X.K a l) (he:JE X e te) (hs:Hl e):JE X (.Subscript o e pos) (tCB ((DT l).r X.K) (fA te uX)):=⟨by
 intro pins s Z H Q I h;obtain ⟨es,n,hl,hks,hsm,hf⟩:=hk;have h:te Z H fun y H2=>HZ l y H2 Q:=h;refine y9 PySem.F.slot_dict_getitem.lookup hs (thn (ho.h pins s Z H (fun x H1=>x=.ref a/\H1=H) I ⟨rfl,rfl⟩) fun u s1 ⟨x,H1,I1,rx,ex,eH⟩=>?_);subst ex eH;obtain rfl:u=Value.ref a:=rx;refine thn (he.h pins s1 Z H1 _ I1 h) fun iv s2 ⟨y,H2,I2,ry,z,ey,nn,q2⟩=>?_;subst ey;obtain ⟨t,rfl⟩:=ry;have hm2:s2.heap.MapOf (PySem.strKind X.prog X.w) a (fun k=>findBy Value.isStrOf es k):=PySem.W.mapOf_K I2.kIn hl hks;have hz:=hf z;cases hv:findBy Value.isStrOf es z with
 | none =>
  rw [hv] at hz;exfalso;apply nn;generalize kgV l z=v at hz;cases v <;> first | rfl | (obtain ⟨_,hz⟩:=hz;cases hz) | cases hz
 | some v =>
  rw [hv] at hz
  exact ⟨hm2.typeIs,wpAny_getItem_of (strKind_is X.prog X.w z t) hm2 hv ⟨_,H2,I2.tok _,hz,q2⟩⟩⟩
end
open PySem PySem.Spec PyProof.Rows
theorem mE (h1:aO e [x]=some [.list ds]) (h2:ds.length < 64) (h3:okS S ds) (q:Q (.frs (.list (kG S ds))) e):WPr (gp S) [x] e Q :=
 ⟨_,.frs (.list (kG S ds)),h1,by show lx S (.list ds)=_;exact Jx ⟨h2,fo.mpr h3⟩,q⟩
theorem yC (h1:aO e [x]=some [.list ds]) (h2:∀ d∈ds,hk6 d=true/\txB d=true) (h3:(ds.foldl bF []).length < 64) (h4:okS S (ds.foldl bF [])) (q:Q (.frs (.list (kG S (ds.foldl bF [])))) e):WPr (lK S) [x] e Q :=
 ⟨_,.frs (.list (kG S (ds.foldl bF []))),h1,by show tu S (.list ds)=_;exact Jx ⟨Ko.mpr fun d hd=>by simpa using h2 d hd,h3,fo.mpr h4⟩,q⟩
open PySem PySem.Spec PyProof.Rows
noncomputable def uL:Prm:=Prm.one (fun K u H Q=>tD K [u] H Q\/uJ tyS K u H Q) (fun x=>match mP x with | some r=>some r | none=>lx tyS x) fun K F H x u pr Q hf hx hd q=>by
 split at hf
 ·rename_i r hr;cases hf;exact .inl (kg.ok K F H [x] [u] _ Q hr ⟨u,[],rfl,hx,rfl⟩ hd q)
 ·exact .inr ((gp tyS).ok K F H [x] [u] _ Q hf ⟨u,[],rfl,hx,rfl⟩ hd q)
theorem rO (hu:X.A.units+66 < cLine):aB X (.builtin "sorted") (uL.r X.K):=fun pins s Z H xs us Q I rv q=>by
 match xs,q with
 | [x],.inl q=>exact jm pins s Z H [x] us Q I rv q
 | [x],.inr q=>exact fy (S:=tyS) hu pins s Z H [x] us Q I rv q
open PySem PySem.Spec PyProof.Rows
section
variable {X:Cx} {pins:List (Addr×Obj)} {Z:St} {H:Hp} {s:Shared} {a:Addr} {ep:Nat} {xs:List (PyData×V×V)} {k:PyData} {u:Value} {as:List Addr} {A:Around} {E:Value->Shared->Prop}
def AI (K:Fg):V->List V->Hp->VK->Prop:=fun o vs H Q=>∃ y z k a ep xs,vs=[y,z]/\FT K H o y k a ep xs/\Q ((qA xs k).getD z) H
theorem Cj (hu:A.units+8 < cLine) (I:Inv X pins Z H s) (e:H a=some (.dD ep xs)) (kr:jd s.heap xs) (hk:Reads s.heap u k as) (ky:kyB k=true) (hv:RelV v d)
  (q:∀ t r,RelV ((qA xs k).getD v) r->Q r { s with toks:=t }):wpAny (model X.prog X.w) A (call (.builtin "dict.get") [.ref a,u,d]) Q E s:=by
 obtain ⟨T,hd⟩:=nQ I e;refine Kj LG T PySem.F.entry_dict_get ?_ (PySem.F.args_dict_get_3 _ _ _);refine Jk (m:=dictGet a u) (Gk (by have:A.in1.units=A.units+1:=rfl;omega) I e kr hk ky fun t ov r=>?_);cases hv':qA xs k with
 | some w =>
  rw [hv'] at r;cases ov with
  | none=>cases r
  | some w'=>exact Jn ⟨_,rfl,q t w' (by rw [hv'];exact r)⟩
 | none =>
  rw [hv'] at r;cases ov with
  | some w'=>cases r
  | none =>
   show wpAny _ _ (Builtin.Dict.missed a u>>=_) _ _ _;exact Jk (wpAny_missed_other hd (Jn ⟨_,rfl,q t d (by rw [hv'];exact hv)⟩))
theorem rQ (hu:X.A.units+64 < cLine):MtR X "dict.get" (AI X.K):=by
 intro pins s Z H x vs v us Q I rx rv h;obtain ⟨y,z,k,a,ep,xs,rfl,⟨F,kvs,rfl,ea,r,hk,hk6'⟩,q⟩:=h;cases rv with
 | cons ry rv =>
 cases rv with
 | cons rz rv =>
 cases rv;cases rx;obtain ⟨as,rk⟩:=hk.reads I (iH _ (kj.mp hk6').1) ry;exact Cj (by omega) I ea (zh I r) rk (yt hk hk6') rz fun t w rw=>⟨_,_,I.tok _,rw,q⟩
end
noncomputable def GU:PyData->Bool | .dict _=>true | _=>false
noncomputable def A5:Mtd where
 T := "dict"
 r:=AI
 ty:=GU
 f:=fun d as=>match d,as with
  | .dict kvs,[.str k,.str x]=>if hk6 (.str k)=true then some (.dat ((getD kvs (.str k)).getD (.str x))) else none
  | _,_=>none
 xS:=fun K F H d v h t=>by
  cases d with
  | dict kvs=>obtain ⟨a,rfl,ep,xs,e,_⟩:=t;exact .inr (.inr (.inl ⟨rfl,.inr (.inr ⟨ep,xs,e⟩)⟩))
  | _=>cases h
 ok:=fun K F H d v ds vs pr Q hf hx hv hd q=>by
  split at hf
  ·rename_i kvs k x;split at hf
   ·rename_i hk;cases hf;obtain ⟨a,rfl,ep,xs,ea,z,r⟩:=hx;obtain ⟨y,r1,rfl,hy,w,r2,rfl,hw,rfl⟩:=hv;have g:=uy (k:=.str k) r;refine ⟨y,w,.str k,a,ep,xs,rfl,⟨F,kvs,rfl,ea,r,hy,hk⟩,q _ H (aE.rf H) ?_⟩;cases z:getD kvs (.str k) with
    | none=>rw [g.2 z];exact vStr hw
    | some d=>obtain ⟨v,ev,dv⟩:=g.1 d z;rw [ev];exact dv
   ·cases hf
  ·cases hf
open PySem PySem.Spec PyProof.Rows
section
variable {X:Cx} {x:Str} {p pos:Pos} {e:Expr} {es:List Expr} {t:TA} {f:Addr} {fd:FuncData} {ps:List Str} {sp:Sp} {k m:Nat} {r:List V->Hp->VK->Prop} {id T:String}
theorem eVx (i:Nat) (a:X.N[i]?=some x:=by exact rfl) (b:Vis X.env.scope x:=by exact .inl rfl) (c:(x==("__debug__" : Str))=false:=by exact rfl) (d:(x==("__classdict__" : Str))=false:=by exact rfl):JE X (.Name x pos) (mV i):=HH i a b c d
theorem eVy (i:Nat) (a:X.N[i]?=some x:=by exact rfl) (b:Vis X.env.scope x:=by exact .inr (.inl rfl)) (c:(x==("__debug__" : Str))=false:=by exact rfl) (d:(x==("__classdict__" : Str))=false:=by exact rfl):JE X (.Name x pos) (mV i):=HH i a b c d
theorem eCl (F:gE X.prog X.w X.K X.mg X.base CX0 k f fd ps sp) (hr:gi m X.A) (hm:X.mg x=some (.ref f)) (hk:PySem.W.keepIn X.K (.ref f)=true) (hb:Binds X.K fd ps []) (ha:JA X (e :: es) t)
  (a:k<=m:=by omega) (b:Gl X x:=by exact rfl) (h1:PySem.W.isStarred e=false:=by exact rfl) (h2:es.all (fun e=>!PySem.W.isStarred e)=true:=by exact rfl) (c:(x==("__debug__" : Str))=false:=by exact rfl):JE X (.Call (.Name x p) (e :: es) [] pos) (nK sp [] E0 t) :=
 vO F (hr.mono a) b hm hk hb .nil u5 ha h1 h2 c
theorem eBs (hc:aB X (.builtin id) r) (hm:X.mg x=none) (ha:JA X (e :: es) t) (a:Gl X x:=by exact rfl) (hv:bootBuiltins x=some (.builtin id):=by decide +kernel) (h1:PySem.W.isStarred e=false:=by exact rfl) (h2:es.all (fun e=>!PySem.W.isStarred e)=true:=by exact rfl)
  (hn:x ≠ "__name__" := by decide) (c:(x==("__debug__" : Str))=false:=by exact rfl):JE X (.Call (.Name x p) (e :: es) [] pos) (tCB r t):=eB hc a hm hv ha h1 h2 hn c
theorem eTs (hc:aB X (.type T) r) (hm:X.mg x=none) (ha:JA X (e :: es) t) (a:Gl X x:=by exact rfl) (hv:bootBuiltins x=some (.type T):=by decide +kernel) (h1:PySem.W.isStarred e=false:=by exact rfl) (h2:es.all (fun e=>!PySem.W.isStarred e)=true:=by exact rfl)
  (hn:x ≠ "__name__" := by decide) (c:(x==("__debug__" : Str))=false:=by exact rfl):JE X (.Call (.Name x p) (e :: es) [] pos) (tCB r t):=eTy hc a hm hv ha h1 h2 hn c
end
theorem Fun.okX {P:Program} {w:World} {K:Fg} {mg:Str->Option Value} {base:Heap} {x qual:Str} {st:Stmt} {f:Addr} {fd:FuncData} {N ps:List Str} {k:Nat} {b:XS} {gd:List PyData} {ga:Nat->V} {ms:List PM} {rd:TS}
  (F:Fun K x qual st f fd) (S:cK N ps (ae st)) (hg:∀ g d,gd[g]?=some d->∀ F H,Dm K F H d (ga g)) (e:rd=rS K ga b)
  (j:∀ {cdv:Value} {A:Around} {outer:List Env} {s:Shared} {H:Hp} {E:XK},gi k (A.deeper (envOfC qual (ae st) s.heap.objs.size f cdv))->JSs (uZ CX0 P w K mg base N qual (ae st) f cdv A outer s H E).nox (cL st) rd)
  (hl:ms.length<=N.length:=by decide) (hp:ms.length=ps.length:=by exact rfl):gE P w K mg base CX0 (k+1) f fd ps (tT (bL gd ms N.length b) K) :=
 F.okJ S (fun vs H Q E h=>(vV h).trans hp) fun cdv A outer s H vs Q E hr h=>⟨rd,j hr,by rw [e];exact yg (N:=N) hg h hl⟩
open PySem PySem.Spec PyProof.Rows
structure Fa (K:Fg) (mg:Str->Option Value) (x:Str) (st:Stmt) (ps:List Str) (a:Addr×FuncData):Prop where
 F:Fun K x x st a.1 a.2
 c:∀ us:List Value,us.length=ps.length->bindArgs a.2 ⟨us,[]⟩=pure (ps.zip us)
 m:mg x=some (.ref a.1)
section
variable {K:Fg} {mg:Str->Option Value} {x:Str} {st:Stmt} {ps:List Str} {a:Addr×FuncData} {h:Heap} {f:Addr} {od an:Option Addr} {sl:Array (Option Value)} {oc kV dc pm cd ct:Value}
theorem Fa.b (D:Fa K mg x st ps a):Binds K a.2 ps []:=.all D.c
def An (K:Fg) (mg:Str->Option Value):List (Str×Stmt×List Str)->Prop
 | []=>True
 | (x,st,ps) :: r=>(∃ a,Fa K mg x st ps a)/\An K mg r
theorem Ge (X:K.In h) (G:h.Ns mainGlobals mg) (a:PySem.W.nsIn K mainGlobals x=some (some (.ref f))) (l:K.lookup f=some ⟨oc,od,.func (PySem.W.fnOf x x (gZ st) (cL st) (ae st) .none kV dc pm an cd ct),sl⟩) (c:PySem.W.codeIn K cd x=true) (k:PySem.W.keepIn K (.ref f)=true)
  (hb:∀ (kV dc pm:Value) (an:Option Addr) (cd ct:Value) (us:List Value),us.length=ps.length->bindArgs (PySem.W.fnOf x x (gZ st) (cL st) (ae st) .none kV dc pm an cd ct) ⟨us,[]⟩=pure (ps.zip us)) (hr:An K mg r):An K mg ((x,st,ps) :: r) :=
 ⟨⟨(f,_),CD l c k,hb _ _ _ _ _ _,KC X G a⟩,hr⟩
theorem AQ (a0:Addr×FuncData):∀ {l:List (Str×Stmt×List Str)},An K mg l->∃ f:Nat->Addr×FuncData,∀ i {x st ps},l[i]?=some (x,st,ps)->Fa K mg x st ps (f i)
 | [],_=>⟨fun _=>a0,fun i x st ps h=>by cases h⟩
 | (y,st,ps) :: r,⟨⟨a,ha⟩,hr⟩=>by
  obtain ⟨f,hf⟩:=AQ a0 hr;refine ⟨fun i=>i.casesOn a f,fun i x st ps h=>?_⟩;cases i with
  | zero=>cases h;exact ha
  | succ i=>exact hf i h
theorem Je (D:An K mg (e :: l)):∃ f:Nat->Addr×FuncData,∀ i {x st ps},(e :: l)[i]?=some (x,st,ps)->Fa K mg x st ps (f i):=by
 obtain ⟨y,st,ps⟩:=e;have ⟨⟨a,_⟩,_⟩:=D;exact AQ a D
end
theorem us1 {P:List Value->Prop} (h:∀ a,P [a]):∀ us:List Value,us.length=1->P us
 | [a],_=>h a
theorem us2 {P:List Value->Prop} (h:∀ a b,P [a,b]):∀ us:List Value,us.length=2->P us
 | [a,b],_=>h a b
theorem us3 {P:List Value->Prop} (h:∀ a b c,P [a,b,c]):∀ us:List Value,us.length=3->P us
 | [a,b,c],_=>h a b c
theorem us4 {P:List Value->Prop} (h:∀ a b c d,P [a,b,c,d]):∀ us:List Value,us.length=4->P us
 | [a,b,c,d],_=>h a b c d
theorem us5 {P:List Value->Prop} (h:∀ a b c d e,P [a,b,c,d,e]):∀ us:List Value,us.length=5->P us
 | [a,b,c,d,e],_=>h a b c d e
theorem scm (a:sc.kind=.function:=by exact rfl) (b:sc.isCoroutine=false:=by exact rfl) (c:sc.isGenerator=false:=by exact rfl) (d:N.Nodup:=by decide +kernel) (e:N.take P.length=P:=by exact rfl) (f:∀ x∈P,sc.names.lookup x=some .local\/sc.names.lookup x=some .cell:=by decide +kernel) (g:∀ y∈sc.names,y.2≠.free:=by decide +kernel):cK N P sc:=⟨a,b,c,d,e,f,g⟩
theorem Fa.okN {P:Program} {w:World} {K:Fg} {mg:Str->Option Value} {base:Heap} {x:Str} {st:Stmt} {a:Addr×FuncData} {ps:List Str} {k:Nat} {b:XS} {gd:List PyData} {ga:Nat->V} {ms:List PM}
  (D:Fa K mg x st ps a) (N:List Str) (hg:∀ g d,gd[g]?=some d->∀ F H,Dm K F H d (ga g))
  (j:∀ {cdv:Value} {A:Around} {outer:List Env} {s:Shared} {H:Hp} {E:XK},cK N ps (ae st)->gi k (A.deeper (envOfC x (ae st) s.heap.objs.size a.1 cdv))->JSs (uZ CX0 P w K mg base N x (ae st) a.1 cdv A outer s H E).nox (cL st) (rS K ga b))
  (hl:ms.length<=N.length:=by decide) (hp:ms.length=ps.length:=by exact rfl) (S:cK N ps (ae st):=by exact scm):gE P w K mg base CX0 (k+1) a.1 a.2 ps (tT (bL gd ms N.length b) K) :=
 D.F.okX S hg rfl (fun hr=>j S hr) hl hp
section
variable {X:Cx} {x:Str} {p p2 pos pos':Pos} {e a b:Expr} {es:List Expr} {t:TA} {te ta tb:TE} {ps:List Str} {sp:Sp} {k m i:Nat} {r:List V->Hp->VK->Prop} {T:String} {st:Stmt} {q:Addr×FuncData}
theorem eCx (F:gE X.prog X.w X.K X.mg X.base CX0 k q.1 q.2 ps sp) (hr:gi m X.A) (D:Fa X.K X.mg x st ps q) (ha:JA X (e :: es) t)
  (a:k<=m:=by omega) (b:Gl X x:=by exact rfl) (h1:PySem.W.isStarred e=false:=by exact rfl) (h2:es.all (fun e=>!PySem.W.isStarred e)=true:=by exact rfl) (c:(x==("__debug__" : Str))=false:=by exact rfl):JE X (.Call (.Name x p) (e :: es) [] pos) (nK sp [] E0 t) :=
 vO F (hr.mono a) b D.m D.F.kp D.b .nil u5 ha h1 h2 c
theorem eAx (ha:JE X e te) (hr:JA X es t) (h:PySem.W.isStarred e=false:=by exact rfl):JA X (e :: es) (fA te t):=eA ha hr h
theorem eIy (ha:JE X a ta) (hb:JE X b tb) (hs:ny b:=by exact fun _ _=>rfl):JE X (.Subscript a b pos) (tOp (fun x y=>ixP.r X.K [x,y]) ta tb):=eIx l9 ha hb hs
theorem eSx (hN:X.N.Nodup) (i:Nat) (he:JE X e te) (hi:X.N[i]?=some x:=by exact rfl) (hx:Loc X.env.scope x:=by exact .inl rfl) (hs:swapsWith e (some (.Name x pos')) pos.line X.env=pure false:=by exact rfl) (hf:X.fn x=true\/X.env.scope.names.lookup x=some .local:=by exact .inl rfl) :
  JS X (.Assign [.Name x pos'] e pos) (rZ te (c6 i)):=Hs he hN hi hx hs hf
theorem eSy (hN:X.N.Nodup) (i:Nat) (he:JE X e te) (hi:X.N[i]?=some x:=by exact rfl) (hx:Loc X.env.scope x:=by exact .inr rfl) (hs:swapsWith e (some (.Name x pos')) pos.line X.env=pure false:=by exact rfl) (hf:X.fn x=true\/X.env.scope.names.lookup x=some .local:=by exact .inl rfl) :
  JS X (.Assign [.Name x pos'] e pos) (rZ te (c6 i)):=Hs he hN hi hx hs hf
theorem eGx (hN:X.N.Nodup) (i:Nat) (hi:X.N[i]?=some x:=by exact rfl) (hx:Loc X.env.scope x:=by exact .inl rfl) (hf:X.fn x=true\/X.env.scope.names.lookup x=some .local:=by exact .inl rfl):JG X (.Name x pos) (c6 i):=eGN hN hi hx hf
theorem eTx {op:CmpOp} {r:R2} (ho:OpR X (compareOp op) r) (ha:JE X a ta) (hb:JE X b tb) (hm:behindInMarks op b=false:=by exact cm _):JT X (.Compare a [op] [b] pos) (rp (tOp r ta tb)):=fS ho ha hb hm
theorem eUx (h:JE X e te) (he:∀ whole,isTrue e X.env whole=(do let v<-whole;standAt e.pos;holding [v] (truthy v)):=by exact fun _=>rfl):JT X e (tB te):=Iv h he
theorem eIz (hm:X.mg "isinstance" = none) (ha:JE X e te) (hz:X.mg (Str.ofString T)=none) (hg:Gl X "isinstance" := by exact rfl) (hs:PySem.W.isStarred e=false:=by exact rfl)
  (h1:Gl X (Str.ofString T):=by exact rfl) (h2:bootBuiltins (Str.ofString T)=some (.type T):=by decide +kernel) (h3:Str.ofString T ≠ "__name__" := by decide) (h4:(Str.ofString T==("__debug__" : Str))=false:=by exact rfl):JE X (.Call (.Name "isinstance" p) [e,.Name (Str.ofString T) p2] [] pos) (tCB ((pS T).r X.K) (fA te uX)) :=
 Ij hg hm ha hs (IK h1 hz h2 rfl h3 h4)
theorem eFx {iter tg:Expr} {body:List Stmt} {wi:TI} {g:TG} {tb:TS} (hi:JI X tg iter wi) (hg:JG X tg g) (hb:JSs X body tb) (hp:PassesOwn (model X.prog X.w) X.A X.env X.xe:=by exact PassesOwn.never) (hc:X.calm=true:=by exact rfl) (hs:∀ x,foldedSetIterable iter X.env x=pure x:=by exact fun _=>rfl):JS X (.For tg iter body [] pos) (CF wi g tb):=I0 hi hg hb hp hc hs
theorem eKx (ys:List Str) (hi:JI X (.Name x px) iter wi) (ht:JTs X (x :: ys) scope ifs tt) (he:JC X (x :: ys) scope elt te) (B:iK X scope x) (cap:cR X scope ys js)
  (hc:X.calm=true:=by exact rfl) (nd:(x :: ys).Nodup:=by decide +kernel) (hs:∀ x,foldedSetIterable iter X.env x=pure x:=by exact fun _=>rfl):JE X (.ListComp elt [⟨.Name x px,iter,ifs,0⟩] scope pos) (pY js wi tt te):=EA ys hi ht he hc B nd cap hs
end
abbrev vr (i:Nat):XE:=.var i
abbrev ci (i:Int):XE:=.cst (.i i)
abbrev cs (x:String) (h:(Str.ofString x).length<=sizeLine:=by decide +kernel):XE:=.cst (.s x h (bz x))
abbrev p1 (p:Prm) (a:XE):XE:=.prm p (.cons a .nil)
abbrev p2 (p:Prm) (a b:XE):XE:=.prm p (.cons a (.cons b .nil))
end L2
end
set_option bootstrap.genMatcherCode true
section
namespace K17
open PySem PySem.Spec PyProof.Rows L2
noncomputable def top (i:Nat):Stmt:=PySem.Challenge.pw_webshapes_k17_whole_forms_put_together.main.body.getD i (.Pass ⟨0,0,0,0⟩)
noncomputable abbrev cY:Stmt:=top 3
noncomputable abbrev mf:Stmt:=top 4
noncomputable abbrev kY:Stmt:=top 5
noncomputable abbrev j7:Stmt:=top 6
noncomputable abbrev nL:Stmt:=top 7
noncomputable abbrev mH:Stmt:=top 8
noncomputable abbrev mx:Stmt:=top 11
noncomputable abbrev i5:Stmt:=top 12
noncomputable abbrev nH:Stmt:=top 13
noncomputable abbrev kA:Stmt:=top 23
noncomputable abbrev ko:Stmt:=top 24
noncomputable abbrev bG:Stmt:=top 25
noncomputable abbrev jg:Stmt:=top 26
noncomputable abbrev eU:Stmt:=top 27
noncomputable abbrev eZ:Stmt:=top 28
noncomputable abbrev fW:Stmt:=top 29
noncomputable abbrev nE:Stmt:=top 30
noncomputable abbrev l4:Stmt:=top 31
noncomputable abbrev lj:Stmt:=top 32
noncomputable abbrev gz:Stmt:=top 33
noncomputable abbrev gf:Stmt:=top 34
noncomputable abbrev d5:Stmt:=top 35
noncomputable abbrev cO:Stmt:=top 38
noncomputable abbrev cN:Stmt:=top 39
noncomputable abbrev kQ:Stmt:=top 40
noncomputable abbrev yZ:Stmt:=top 42
noncomputable abbrev vP:Stmt:=top 43
noncomputable abbrev kZ:Stmt:=top 44
noncomputable abbrev qb:Stmt:=top 45
noncomputable abbrev vI:Stmt:=top 46
noncomputable abbrev yj:Stmt:=top 47
noncomputable abbrev qY:Stmt:=top 48
noncomputable abbrev pE:Stmt:=top 49
noncomputable abbrev uF:Stmt:=top 50
noncomputable abbrev jH:Stmt:=top 51
noncomputable abbrev ud:Stmt:=top 52
noncomputable abbrev top_holds:Stmt:=top 53
noncomputable abbrev lG:Stmt:=top 54
noncomputable abbrev mI:Stmt:=top 55
noncomputable abbrev fq:Stmt:=top 56
noncomputable abbrev vT:Stmt:=top 57
noncomputable abbrev my:Stmt:=top 58
noncomputable def IY:Str×Stmt×List Str:=("", top 0,[])
noncomputable def dfs:List (Str×Stmt×List Str):=("are_letters", cY,["thing", "fewest"]) :: ("is_name", mf,["thing"]) :: ("is_whole", kY,["thing"]) :: ("is_number", j7,["thing"]) :: ("is_said", nL,["thing"]) :: ("is_node", mH,["thing"]) :: ("is_step", mx,["thing"]) :: ("is_backward", i5,["step"]) :: ("bond_of", nH,["step"]) :: ("length_of", kA,["word"]) :: ("is_headed", ko,["thing"]) :: ("are_closed_bonds", bG,["thing"]) :: ("are_bounds", jg,["low", "high"]) :: ("own_things_fit", eU,["form", "walked"]) :: ("straight_parts", eZ,["form"]) :: ("forms_counted", fW,["thing", "depth", "walked"]) :: ("is_form", nE,["thing"]) :: ("forms_in", l4,["form"]) :: ("parts_in", lj,["form"]) :: ("steps_in", gz,["form"]) :: ("names_in", gf,["form"]) :: ("has_closed", d5,["form"]) :: ("signs_within", cO,["form", "signs"]) :: ("signed_names", cN,["form", "signs"]) :: ("signs_in", kQ,["form"]) :: ("_law_pen", yZ,["_law_script"]) :: ("_law_take", vP,["_law_pen_here", "_law_most"]) :: ("_law_names", kZ,["_law_pen_here", "_law_many"]) :: ("_law_number", qb,["_law_pen_here"]) :: ("_law_node", vI,["_law_pen_here", "_law_things"]) :: ("_law_tip", yj,["_law_pen_here", "_law_names_here", "_law_free"]) :: ("_law_count", qY,["_law_pen_here", "_law_names_here"]) :: ("_law_form", pE,["_law_pen_here", "_law_names_here", "_law_room", "_law_deep", "_law_free"]) :: ("_law_inner", uF,["_law_form_here"]) :: ("_law_turned", jH,["_law_signs"]) :: ("_law_union", ud,["_law_lists_here"]) :: ("_law_holds", top_holds,["_law_form_here", "_law_some", "_law_own", "_law_signs"]) :: ("_law_lists", lG,["_law_some"]) :: ("_law_counted", mI,["_law_pen_here", "_law_names_here", "_law_form_here"]) :: ("_law_exchanged", fq,["_law_form_here", "_law_one", "_law_other"]) :: ("_law_told", vT,["_law_found", "_law_due"]) :: ("law", my,["_law_script"]) :: []
structure Adr where
 f:Nat->Addr×FuncData
 gY:Addr
 eJ:Addr
 ix:Addr
 j4:Addr
 A4:Tok
 qN:Tok
 fI:Tok
 l7:Tok
 nC:Tok
 kI:Tok
 i9:Tok
 kb:Tok
noncomputable def fv:List (Str×Cst):=[("any", (.i 1)),("thing", (.i 1)),("number", (.i 1)),("said", (.i 1)),("from", (.i 2)),("upto", (.i 2)),("is", (.i 2)),("keeps", (.i 2)),("not", (.i 2)),("all", (.i 2)),("some", (.i 2)),("one", (.i 2)),("none", (.i 2)),("many", (.i 5)),("each", (.i 5)),("closed", (.i 2))]
noncomputable def gR:List (Str×Cst):=[("with", (.s "against" (by decide +kernel) (bz _))),("against", (.s "with" (by decide +kernel) (bz _)))]
structure Txt (w:World) (K:Fg) (mg:Str->Option Value) (t:Adr):Prop where
 d:∀ i {x st ps},dfs[i]?=some (x,st,ps)->Fa K mg x st ps (t.f i)
 z_abs:mg "abs" = none
 z_all:mg "all" = none
 z_any:mg "any" = none
 z_bool:mg "bool" = none
 z_int:mg "int" = none
 z_isinstance:mg "isinstance" = none
 z_len:mg "len" = none
 z_list:mg "list" = none
 z_min:mg "min" = none
 z_range:mg "range" = none
 z_set:mg "set" = none
 z_sorted:mg "sorted" = none
 z_str:mg "str" = none
 z_sum:mg "sum" = none
 z_tuple:mg "tuple" = none
 g_BACK:mg "BACK" = some (Value.str "^" t.A4)
 g_DEEPEST:mg "DEEPEST" = some (Value.int 8 t.qN)
 g_GREATEST_NUMBER:mg "GREATEST_NUMBER" = some (Value.int 999999999999999999999999999999 t.fI)
 g_LENGTHS:mg "LENGTHS" = some (.ref t.ix)
 g_LISTS:mg "LISTS" = some (.ref t.gY)
 g_MOST_BONDS:mg "MOST_BONDS" = some (Value.int 8 t.l7)
 g_MOST_ENDS:mg "MOST_ENDS" = some (Value.int 60 t.nC)
 g_MOST_FORMS:mg "MOST_FORMS" = some (Value.int 40 t.kI)
 g_MOST_LETTERS:mg "MOST_LETTERS" = some (Value.int 8 t.i9)
 g_MOST_LISTED:mg "MOST_LISTED" = some (Value.int 6 t.kb)
 g_TURNED:mg "TURNED" = some (.ref t.j4)
 g_WALKS:mg "WALKS" = some (.ref t.eJ)
 rB:KG w K t.ix fv
 wz:KG w K t.j4 gR
 s_LISTS:∀ H,SqT K H t.gY [.str "all", .str "some", .str "one", .str "none"]
 s_WALKS:∀ H,SqT K H t.eJ [.str "many", .str "each"]
noncomputable def gds:List PyData:=[.tuple [PyData.str "all", PyData.str "some", PyData.str "one", PyData.str "none"],.tuple [PyData.str "many", PyData.str "each"]]
noncomputable def gav (t:Adr):Nat->V:=fun g=>([.ref t.gY,.ref t.eJ]:List V)[g]?.getD .non
theorem aM {w:World} {K:Fg} {mg:Str->Option Value} {t:Adr} (T:Txt w K mg t):∀ g d,gds[g]?=some d->∀ F H,Dm K F H d (gav t g):=by
 intro g d h F H;rcases g with _ | g
 ·cases h;exact ⟨_,_,rfl,T.s_LISTS H,by decide,⟨_,_,rfl,⟨rfl,by decide +kernel,bz _⟩,⟨_,_,rfl,⟨rfl,by decide +kernel,bz _⟩,⟨_,_,rfl,⟨rfl,by decide +kernel,bz _⟩,⟨_,_,rfl,⟨rfl,by decide +kernel,bz _⟩,rfl⟩⟩⟩⟩⟩
 rcases g with _ | g
 ·cases h;exact ⟨_,_,rfl,T.s_WALKS H,by decide,⟨_,_,rfl,⟨rfl,by decide +kernel,bz _⟩,⟨_,_,rfl,⟨rfl,by decide +kernel,bz _⟩,rfl⟩⟩⟩
 cases h
noncomputable def d6:XS :=
 (.seq (.ifs (.or (.not (.tst (p1 (pS "str") (vr 0)))) (.not (.tst (.chn leP leP (vr 1) (p1 mz (vr 0)) (ci 8))))) (.ret (.cst (.b false))) .skip)
  (.ret (p1 D6 (.cmp [] (.str (vr 0)) .yes (.chn leP leP (cs "a") (vr 0) (cs "z"))))))
noncomputable def aR:Fn:=bL gds [.dat,.dat] 2 d6
noncomputable def jj:XS :=
 (.ret (.call aR (.cons (vr 0) (.cons (ci 1) .nil))))
noncomputable def aT:Fn:=bL gds [.dat] 1 jj
noncomputable def hG:XS :=
 (.ret (.ji (p1 (pS "int") (vr 0)) (.uR (p1 (pS "bool") (vr 0)))))
noncomputable def ba:Fn:=bL gds [.dat] 1 hG
noncomputable def gb:XS :=
 (.ret (.ji (.call ba (.cons (vr 0) .nil)) (p2 leP (p1 Bh (vr 0)) (ci 999999999999999999999999999999))))
noncomputable def bf:Fn:=bL gds [.dat] 1 gb
noncomputable def jl:XS :=
 (.ret (.ji (p1 (pS "tuple") (vr 0)) (.ji (p2 eqP (p1 mz (vr 0)) (ci 1)) (.call aR (.cons (p2 ixP (vr 0) (ci 0)) (.cons (ci 0) .nil))))))
noncomputable def dM:Fn:=bL gds [.dat] 1 jl
noncomputable def jD:XS :=
 (.ret (.orv (.call aT (.cons (vr 0) .nil)) (.orv (.call bf (.cons (vr 0) .nil)) (.call dM (.cons (vr 0) .nil)))))
noncomputable def dH:Fn:=bL gds [.dat] 1 jD
noncomputable def ee:XS :=
 (.ret (.met yz (vr 0) (.cons (cs "^") .nil)))
noncomputable def bZ:Fn:=bL gds [.dat] 1 ee
noncomputable def jJ:XS :=
 (.ret (.ifx (.tst (.call bZ (.cons (vr 0) .nil))) (p2 HS (vr 0) (ci 1)) (vr 0)))
noncomputable def dO:Fn:=bL gds [.dat] 1 jJ
noncomputable def jo:XS :=
 (.ret (.ji (p1 (pS "str") (vr 0)) (.call aT (.cons (.call dO (.cons (vr 0) .nil)) .nil))))
noncomputable def dG:Fn:=bL gds [.dat] 1 jo
noncomputable def kL:XS :=
 (.ret (p1 (CT fv) (vr 0)))
noncomputable def dC:Fn:=bL gds [.dat] 1 kL
noncomputable def lp:XS :=
 (.seq (.ifs (.or (.not (.tst (p1 (pS "tuple") (vr 0)))) (.or (.tst (p2 eqP (p1 mz (vr 0)) (ci 0))) (.not (.tst (p1 (pS "str") (p2 ixP (vr 0) (ci 0))))))) (.ret (.cst (.b false))) .skip)
  (.ret (p2 eqP (.call dC (.cons (p2 ixP (vr 0) (ci 0)) .nil)) (p1 mz (vr 0)))))
noncomputable def bV:Fn:=bL gds [.dat] 1 lp
noncomputable def bT:XS :=
 (.seq (.ifs (.or (.not (.tst (p1 (pS "tuple") (vr 0)))) (.tst (p2 gtP (p1 mz (vr 0)) (ci 8)))) (.ret (.cst (.b false))) .skip)
  (.ret (.ji (p1 D6 (.cmp [] (.tup (vr 0)) .yes (.call aT (.cons (vr 0) .nil)))) (p2 eqP (p1 xZ (vr 0)) (p1 xm (vr 0))))))
noncomputable def aQ:Fn:=bL gds [.dat] 1 bT
noncomputable def fj:XS :=
 (.seq (.ifs (.or (.not (.tst (.call ba (.cons (vr 0) .nil)))) (.not (.tst (.chn leP leP (ci 0) (vr 0) (ci 60))))) (.ret (.cst (.b false))) .skip)
  (.ret (.orv (p2 isP (vr 1) (.cst .n)) (.ji (.call ba (.cons (vr 1) .nil)) (.chn leP leP (vr 0) (vr 1) (ci 60))))))
noncomputable def bK:Fn:=bL gds [.dat,.dat] 2 fj
noncomputable def cA:XS :=
 (.seq (.br 2 (p2 ixP (vr 0) (ci 0)))
  (.seq (.ifs (.tst (p2 inP (vr 2) (.tup (.cons (cs "from") (.cons (cs "upto") .nil))))) (.ret (.call bf (.cons (p2 ixP (vr 0) (ci 1)) .nil))) .skip)
  (.seq (.ifs (.tst (p2 eqP (vr 2) (cs "is"))) (.ret (.call dH (.cons (p2 ixP (vr 0) (ci 1)) .nil))) .skip)
  (.seq (.ifs (.tst (p2 eqP (vr 2) (cs "keeps"))) (.ret (.call aT (.cons (p2 ixP (vr 0) (ci 1)) .nil))) .skip)
  (.seq (.ifs (.tst (p2 eqP (vr 2) (cs "closed"))) (.ret (.ji (.uR (vr 1)) (.call aQ (.cons (p2 ixP (vr 0) (ci 1)) .nil)))) .skip)
  (.seq (.ifs (.tst (p2 inP (vr 2) (.glb 0))) (.ret (.ji (p1 (pS "tuple") (p2 ixP (vr 0) (ci 1))) (p2 leP (p1 mz (p2 ixP (vr 0) (ci 1))) (ci 6)))) .skip)
  (.seq (.ifs (.tst (p2 inP (vr 2) (.glb 1))) (.ret (.ji (.uR (vr 1)) (.ji (.call bK (.cons (p2 ixP (vr 0) (ci 1)) (.cons (p2 ixP (vr 0) (ci 2)) .nil))) (.call dG (.cons (p2 ixP (vr 0) (ci 3)) .nil))))) .skip)
  (.ret (.cst (.b true))))))))))
noncomputable def a6:Fn:=bL gds [.dat,.dat] 3 cA
noncomputable def fT:XS :=
 (.seq (.br 1 (p2 ixP (vr 0) (ci 0)))
  (.seq (.ifs (.tst (p2 eqP (vr 1) (cs "not"))) (.ret (.tup (.cons (p2 ixP (vr 0) (ci 1)) .nil))) .skip)
  (.seq (.ifs (.tst (p2 inP (vr 1) (.glb 0))) (.ret (p2 ixP (vr 0) (ci 1))) .skip)
  (.seq (.ifs (.tst (p2 inP (vr 1) (.glb 1))) (.ret (.tup (.cons (p2 ixP (vr 0) (ci 4)) .nil))) .skip)
  (.ret (.tup .nil))))))
noncomputable def au:Fn:=bL gds [.dat] 2 fT
noncomputable def cQ (F_forms_counted:Fn):XS :=
 (.seq (.ifs (.or (.tst (p2 gtP (vr 1) (ci 8))) (.or (.not (.tst (.call bV (.cons (vr 0) .nil)))) (.not (.tst (.call a6 (.cons (vr 0) (.cons (vr 2) .nil))))))) (.ret (ci 0)) .skip)
  (.seq (.br 3 (ci 1))
  (.seq (.fr 4 (.tup (.call au (.cons (vr 0) .nil))) (.seq (.br 5 (.call F_forms_counted (.cons (vr 4) (.cons (p2 cV (vr 1) (ci 1)) (.cons (.orv (vr 2) (p2 inP (p2 ixP (vr 0) (ci 0)) (.glb 1))) .nil)))))
  (.seq (.br 3 (p2 cV (vr 3) (vr 5)))
  (.ifs (.or (.tst (p2 eqP (vr 5) (ci 0))) (.tst (p2 gtP (vr 3) (ci 40)))) (.ret (ci 0)) .skip))))
  (.ret (vr 3)))))
noncomputable def ah:Nat->Fn
 | 0=>Fn.no [.dat,.dat,.dat]
 | n+1=>bL gds [.dat,.dat,.dat] 6 (cQ (ah n))
noncomputable def fP:XS :=
 (.ret (p2 gtP (.call (ah 9) (.cons (vr 0) (.cons (ci 1) (.cons (.cst (.b false)) .nil)))) (ci 0)))
noncomputable def bw:Fn:=bL gds [.dat] 1 fP
noncomputable def iV (F_forms_in:Fn):XS :=
 (.seq (.uT 1 (.lst (.cons (vr 0) .nil)))
  (.seq (.fr 2 (.tup (.call au (.cons (vr 0) .nil))) (.drop (.mtr GO 1 (.cons (.call F_forms_in (.cons (vr 2) .nil)) .nil))))
  (.ret (.tke 1))))
noncomputable def ar:Nat->Fn
 | 0=>Fn.no [.dat]
 | n+1=>bL gds [.dat] 3 (iV (ar n))
noncomputable def iy:XS :=
 (.ret (p1 mz (.call (ar 9) (.cons (vr 0) .nil))))
noncomputable def bS:Fn:=bL gds [.dat] 1 iy
noncomputable def hZ:XS :=
 (.ret (p1 vH (.cmp [] (.lst (.call (ar 9) (.cons (vr 0) .nil))) (.tst (p2 inP (p2 ixP (vr 0) (ci 0)) (.glb 1))) (p2 ixP (vr 0) (ci 3)))))
noncomputable def aY:Fn:=bL gds [.dat] 1 hZ
noncomputable def gU:XS :=
 (.ret (p1 vH (.cmp [] (.lst (.call (ar 9) (.cons (vr 0) .nil))) (.tst (p2 eqP (p2 ixP (vr 0) (ci 0)) (cs "keeps"))) (p2 ixP (vr 0) (ci 1)))))
noncomputable def bQ:Fn:=bL gds [.dat] 1 gU
noncomputable def fh:XS :=
 (.ret (p1 GR (.cmp [] (.lst (.call (ar 9) (.cons (vr 0) .nil))) .yes (p2 eqP (p2 ixP (vr 0) (ci 0)) (cs "closed")))))
noncomputable def aI:Fn:=bL gds [.dat] 1 fh
noncomputable def g6:XS :=
 (.seq (.br 2 (p2 ixP (vr 0) (ci 0)))
  (.seq (.ifs (.or (.tst (p2 eqP (vr 2) (cs "one"))) (.and (.tst (p2 eqP (vr 2) (cs "many"))) (.tst (p2 sJ (p2 ixP (vr 0) (ci 2)) (.cst .n))))) (.ret (.lst (.cons (cs "against") (.cons (cs "with") .nil)))) .skip)
  (.seq (.ifs (.tst (p2 inP (vr 2) (.tup (.cons (cs "not") (.cons (cs "none") .nil))))) (.ret (.cmp [] (.lst (vr 1)) .yes (p1 (DT gR) (vr 0)))) .skip)
  (.ret (vr 1)))))
noncomputable def bq:Fn:=bL gds [.dat,.dat] 3 g6
noncomputable def du (F_signed_names:Fn):XS :=
 (.seq (.ifs (.tst (p2 eqP (p2 ixP (vr 0) (ci 0)) (cs "keeps"))) (.ret (.cmp [0] (.lst (vr 1)) .yes (.tup (.cons (p2 ixP (vr 1) (ci 1)) (.cons (vr 0) .nil))))) .skip)
  (.seq (.uT 2 (.lst .nil))
  (.seq (.fr 3 (.tup (.call au (.cons (vr 0) .nil))) (.drop (.mtr GO 2 (.cons (.call F_signed_names (.cons (vr 3) (.cons (.call bq (.cons (vr 0) (.cons (vr 1) .nil))) .nil))) .nil))))
  (.ret (.tke 2)))))
noncomputable def ao:Nat->Fn
 | 0=>Fn.no [.dat,.dat]
 | n+1=>bL gds [.dat,.dat] 4 (du (ao n))
noncomputable def hU:XS :=
 (.ret (p1 (lK tyS) (.call (ao 9) (.cons (vr 0) (.cons (.lst (.cons (cs "with") .nil)) .nil)))))
noncomputable def aG:Fn:=bL gds [.dat] 1 hU
noncomputable def AH:XS :=
 (.ret (.lst (.cons (vr 0) (.cons (ci 0) (.cons (ci 0) .nil)))))
noncomputable def ou:Fn:=bL gds [.dat] 1 AH
noncomputable def sN:XS :=
 (.seq (.ifs (.tst (p2 gtP (p2 ixP (vr 0) (ci 2)) (ci 0))) (.seq (.br 2 (p2 qE (p2 ixP (vr 0) (ci 2)) (vr 1)))
  (.seq (.sto qc 0 (ci 2) (p2 v8 (p2 ixP (vr 0) (ci 2)) (vr 1)))
  (.ret (vr 2)))) .skip)
  (.seq (.br 3 (p2 ixP (vr 0) (ci 1)))
  (.seq (.sto qc 0 (ci 1) (p2 cV (vr 3) (ci 1)))
  (.seq (.br 4 (ci 0))
  (.seq (.ifs (.tst (p2 gtP (p1 mz (p2 ixP (vr 0) (ci 0))) (ci 0))) (.br 4 (p2 ixP (p2 ixP (vr 0) (ci 0)) (p2 qE (vr 3) (p1 mz (p2 ixP (vr 0) (ci 0)))))) .skip)
  (.seq (.ifs (.and (.tst (p2 ltP (vr 3) (p1 mz (p2 ixP (vr 0) (ci 0))))) (.tst (p2 geP (p1 Bh (vr 4)) (p2 xw (ci 10) (ci 18))))) (.seq (.sto qc 0 (ci 2) (p2 v8 (p1 Bh (vr 4)) (vr 1)))
  (.ret (p2 qE (p1 Bh (vr 4)) (vr 1)))) .skip)
  (.seq (.br 5 (p2 qE (p2 qD (p2 cV (p2 cV (p2 cV (p2 qE (vr 4) (ci 2147483629)) (p2 qD (p2 qD (ci 7919) (vr 3)) (vr 3))) (p2 qD (ci 41) (vr 3))) (ci 17)) (ci 48271)) (ci 2147483647)))
  (.seq (.br 5 (p2 qE (p2 cV (p2 cV (p2 qD (vr 5) (vr 5)) (p2 qD (ci 69621) (vr 5))) (vr 3)) (ci 2147483587)))
  (.ret (p2 qE (p2 v8 (vr 5) (ci 7)) (vr 1)))))))))))
noncomputable def ag:Fn:=bL gds [.ino,.dat] 6 sN
noncomputable def oq:XS :=
 (.seq (.br 2 (cs "abcdefghijklmnopqrstuvwxyz"))
  (.seq (.br 3 (.met joinM (cs "") (.cons (.cmp [2,0] (.rng1 (.cons (ci 8) .nil)) .yes (p2 ixP (vr 1) (.call ag (.cons (vr 2) (.cons (ci 26) .nil))))) .nil)))
  (.seq (.br 4 (.lst (.cons (cs "any") (.cons (cs "all") (.cons (cs "keeps") (.cons (cs "is") (.cons (cs "many") (.cons (cs "each") (.cons (cs "not") (.cons (cs "closed") .nil))))))))))
  (.seq (.br 5 (.call ag (.cons (vr 0) (.cons (ci 4) .nil))))
  (.seq (.br 6 (p2 cV (ci 1) (.call ag (.cons (vr 0) (.cons (ci 8) .nil)))))
  (.seq (.br 7 (.call ag (.cons (vr 0) (.cons (vr 6) .nil))))
  (.seq (.br 8 (.call ag (.cons (vr 0) (.cons (ci 26) .nil))))
  (.seq (.uT 9 (.lst .nil))
  (.seq (.fr 10 (.rng1 (.cons (vr 1) .nil)) (.seq (.br 11 (p2 ixP (vr 2) (p2 qE (p2 cV (vr 8) (p2 qD (ci 5) (vr 10))) (ci 26))))
  (.ifs (.and (.tst (p2 eqP (vr 5) (ci 0))) (.tst (p2 ltP (vr 1) (ci 9)))) (.drop (.mtr AG 9 (.cons (p2 AF (vr 3) (p2 cV (p2 qE (p2 cV (vr 8) (p2 qD (ci 3) (vr 10))) (ci 8)) (ci 1))) .nil))) (.ifs (.and (.tst (p2 eqP (vr 5) (ci 1))) (.tst (p2 ltP (vr 1) (ci 9)))) (.drop (.mtr AG 9 (.cons (p2 ixP (vr 4) (p2 qE (p2 cV (vr 8) (vr 10)) (ci 8))) .nil))) (.ifs (.tst (p2 eqP (vr 5) (ci 2))) (.drop (.mtr AG 9 (.cons (p2 cV (p2 ixP (vr 4) (p2 qE (vr 10) (ci 8))) (vr 11)) .nil))) (.drop (.mtr AG 9 (.cons (p2 cV (p2 cV (p2 AF (vr 3) (vr 7)) (vr 11)) (.sl2 Ie (vr 3) (p2 cV (vr 7) (ci 1)) (vr 6))) .nil))))))))
  (.ret (.tke 9)))))))))))
noncomputable def gJ:Fn:=bL gds [.ino,.dat] 12 oq
noncomputable def lC:XS :=
 (.seq (.br 1 (.call ag (.cons (vr 0) (.cons (ci 4) .nil))))
  (.seq (.br 2 (.call ag (.cons (vr 0) (.cons (ci 21) .nil))))
  (.seq (.ifs (.tst (p2 eqP (vr 1) (ci 1))) (.br 2 (p2 qP (p2 qP (p2 xw (ci 10) (ci 30)) (ci 1)) (.call ag (.cons (vr 0) (.cons (ci 3) .nil))))) .skip)
  (.seq (.ifs (.tst (p2 eqP (vr 1) (ci 2))) (.br 2 (p2 cV (p2 qD (p2 cV (p2 qD (.call ag (.cons (vr 0) (.cons (p2 xw (ci 10) (ci 9)) .nil))) (p2 xw (ci 10) (ci 9))) (.call ag (.cons (vr 0) (.cons (p2 xw (ci 10) (ci 9)) .nil)))) (p2 xw (ci 10) (ci 12))) (.call ag (.cons (vr 0) (.cons (p2 xw (ci 10) (ci 12)) .nil))))) .skip)
  (.seq (.ifs (.tst (p2 eqP (.call ag (.cons (vr 0) (.cons (ci 3) .nil))) (ci 0))) (.br 2 (p2 qP (ci 0) (vr 2))) .skip)
  (.ret (vr 2)))))))
noncomputable def cB:Fn:=bL gds [.ino] 3 lC
noncomputable def uK:XS :=
 (.seq (.br 2 (.call ag (.cons (vr 0) (.cons (ci 3) .nil))))
  (.seq (.ifs (.tst (p2 eqP (vr 2) (ci 0))) (.ret (p2 ixP (vr 1) (.call ag (.cons (vr 0) (.cons (p1 mz (vr 1)) .nil))))) .skip)
  (.seq (.ifs (.tst (p2 eqP (vr 2) (ci 1))) (.ret (.call cB (.cons (vr 0) .nil))) .skip)
  (.seq (.br 3 (cs ""))
  (.seq (.fr 4 (.rng1 (.cons (p2 ixP (.lst (.cons (ci 0) (.cons (ci 8) (.cons (p2 cV (ci 1) (.call ag (.cons (vr 0) (.cons (ci 8) .nil)))) (.cons (ci 3) .nil))))) (.call ag (.cons (vr 0) (.cons (ci 4) .nil)))) .nil)) (.br 3 (p2 cV (vr 3) (p2 ixP (cs "abcdefghijklmnopqrstuvwxyz") (.call ag (.cons (vr 0) (.cons (ci 26) .nil)))))))
  (.ret (.tup (.cons (vr 3) .nil))))))))
noncomputable def jN:Fn:=bL gds [.ino,.dat] 5 uK
noncomputable def xb:XS :=
 (.seq (.br 3 (p2 ixP (.lst (.cons (cs "any") (.cons (cs "thing") (.cons (cs "number") (.cons (cs "said") (.cons (cs "from") (.cons (cs "upto") (.cons (cs "is") (.cons (cs "keeps") (.cons (cs "keeps") (.cons (cs "closed") .nil))))))))))) (.call ag (.cons (vr 0) (.cons (ci 10) .nil)))))
  (.seq (.ifs (.tst (p2 inP (vr 3) (.tup (.cons (cs "from") (.cons (cs "upto") .nil))))) (.ret (.tup (.cons (vr 3) (.cons (.call cB (.cons (vr 0) .nil)) .nil)))) .skip)
  (.seq (.ifs (.tst (p2 eqP (vr 3) (cs "is"))) (.ret (.tup (.cons (vr 3) (.cons (.call jN (.cons (vr 0) (.cons (vr 1) .nil))) .nil)))) .skip)
  (.seq (.ifs (.or (.tst (p2 eqP (vr 3) (cs "keeps"))) (.and (.tst (p2 eqP (vr 3) (cs "closed"))) (.not (.tst (vr 2))))) (.ret (.tup (.cons (cs "keeps") (.cons (p2 ixP (vr 1) (.call ag (.cons (vr 0) (.cons (p1 mz (vr 1)) .nil)))) .nil)))) .skip)
  (.seq (.ifs (.tst (p2 eqP (vr 3) (cs "closed"))) (.ret (.tup (.cons (vr 3) (.cons (p1 lF (p1 kg (p2 AF (vr 1) (.call ag (.cons (vr 0) (.cons (p2 cV (p1 mz (vr 1)) (ci 1)) .nil)))))) .nil)))) .skip)
  (.ret (.tup (.cons (vr 3) .nil))))))))
noncomputable def o7:Fn:=bL gds [.ino,.dat,.dat] 4 xb
noncomputable def oY:XS :=
 (.seq (.br 2 (p2 ixP (.lst (.cons (ci 0) (.cons (ci 0) (.cons (ci 1) (.cons (ci 2) (.cons (ci 60) (.cons (.call ag (.cons (vr 0) (.cons (ci 61) .nil))) .nil))))))) (.call ag (.cons (vr 0) (.cons (ci 6) .nil)))))
  (.seq (.br 3 (p2 ixP (.lst (.cons (.cst .n) (.cons (vr 2) (.cons (p2 cV (vr 2) (.call ag (.cons (vr 0) (.cons (p2 qP (ci 61) (vr 2)) .nil)))) .nil)))) (.call ag (.cons (vr 0) (.cons (ci 3) .nil)))))
  (.seq (.br 4 (p2 cV (p2 ixP (.lst (.cons (cs "") (.cons (cs "") (.cons (cs "^") .nil)))) (.call ag (.cons (vr 0) (.cons (ci 3) .nil)))) (p2 ixP (vr 1) (.call ag (.cons (vr 0) (.cons (p1 mz (vr 1)) .nil))))))
  (.ret (.tup (.cons (p2 ixP (.lst (.cons (cs "many") (.cons (cs "each") .nil))) (.call ag (.cons (vr 0) (.cons (ci 2) .nil)))) (.cons (vr 2) (.cons (vr 3) (.cons (vr 4) .nil)))))))))
noncomputable def dN:Fn:=bL gds [.ino,.dat] 5 oY
noncomputable def sf (F_form:Fn):XS :=
 (.seq (.br 5 (.call ag (.cons (vr 0) (.cons (ci 10) .nil))))
  (.seq (.ifs (.or (.tst (p2 ltP (vr 5) (ci 3))) (.or (.tst (p2 ltP (vr 3) (ci 2))) (.tst (p2 ltP (p2 ixP (vr 2) (ci 0)) (ci 1))))) (.ret (.call o7 (.cons (vr 0) (.cons (vr 1) (.cons (vr 4) .nil))))) .skip)
  (.seq (.ifs (.tst (p2 eqP (vr 5) (ci 3))) (.seq (.sto qc 2 (ci 0) (p2 qP (p2 ixP (vr 2) (ci 0)) (ci 1)))
  (.ret (.tup (.cons (cs "not") (.cons (.call F_form (.cons (vr 0) (.cons (vr 1) (.cons (vr 2) (.cons (p2 qP (vr 3) (ci 1)) (.cons (vr 4) .nil)))))) .nil))))) .skip)
  (.seq (.ifs (.and (.tst (p2 ltP (vr 5) (ci 7))) (.tst (vr 4))) (.seq (.sto qc 2 (ci 0) (p2 qP (p2 ixP (vr 2) (ci 0)) (ci 1)))
  (.ret (p2 cV (.call dN (.cons (vr 0) (.cons (vr 1) .nil))) (.tup (.cons (.call F_form (.cons (vr 0) (.cons (vr 1) (.cons (vr 2) (.cons (p2 qP (vr 3) (ci 1)) (.cons (.cst (.b false)) .nil)))))) .nil))))) .skip)
  (.seq (.br 6 (p2 He (.call ag (.cons (vr 0) (.cons (ci 7) .nil))) (p2 ixP (vr 2) (ci 0))))
  (.seq (.sto qc 2 (ci 0) (p2 qP (p2 ixP (vr 2) (ci 0)) (vr 6)))
  (.seq (.br 7 (.cmp [0,1,2,4,3] (.rng1 (.cons (vr 6) .nil)) .yes (.call F_form (.cons (vr 1) (.cons (vr 2) (.cons (vr 3) (.cons (p2 qP (vr 5) (ci 1)) (.cons (vr 4) .nil))))))))
  (.ret (.tup (.cons (p2 ixP (.lst (.cons (cs "all") (.cons (cs "some") (.cons (cs "one") (.cons (cs "none") .nil))))) (.call ag (.cons (vr 0) (.cons (ci 4) .nil)))) (.cons (p1 lF (vr 7)) .nil)))))))))))
noncomputable def bt:Nat->Fn
 | 0=>Fn.no [.ino,.dat,.ino,.dat,.dat]
 | n+1=>bL gds [.ino,.dat,.ino,.dat,.dat] 8 (sf (bt n))
noncomputable def vi:XS :=
 (.seq (.ifs (.tst (p2 eqP (p2 ixP (vr 0) (ci 0)) (cs "not"))) (.ret (.lst (.cons (p2 ixP (vr 0) (ci 1)) .nil))) .skip)
  (.seq (.ifs (.tst (p2 inP (p2 ixP (vr 0) (ci 0)) (.tup (.cons (cs "many") (.cons (cs "each") .nil))))) (.ret (.lst (.cons (p2 ixP (vr 0) (ci 4)) .nil))) .skip)
  (.seq (.ifs (.tst (p2 inP (p2 ixP (vr 0) (ci 0)) (.tup (.cons (cs "all") (.cons (cs "some") (.cons (cs "one") (.cons (cs "none") .nil))))))) (.ret (p1 xZ (p2 ixP (vr 0) (ci 1)))) .skip)
  (.ret (.lst .nil)))))
noncomputable def gL:Fn:=bL gds [.dat] 1 vi
noncomputable def kM:XS :=
 (.ret (.zb ["_law_name", "_law_sign"] [] (.lst (vr 0)) (.tup (.cons (vr 0) (.cons (p2 ixP (.lst (.cons (cs "with") (.cons (cs "against") .nil))) (p1 Ht (p2 eqP (vr 1) (cs "with")))) .nil)))))
noncomputable def bC:Fn:=bL gds [.dat] 1 kM
noncomputable def oS:XS :=
 (.seq (.uT 1 (.prm Gh .nil))
  (.seq (.fr 2 (.lst (vr 0)) (.fr 3 (.lst (vr 2)) (.sto x8 1 (vr 3) (.cst (.b true)))))
  (.ret (p1 uL (p1 xy (vr 1))))))
noncomputable def a9:Fn:=bL gds [.dat] 4 oS
noncomputable def nV:XS :=
 (.seq (.ifs (.or (.tst (p2 tY (.call bw (.cons (vr 0) .nil)) (.cst (.b true)))) (.tst (p2 neP (.call bS (.cons (vr 0) .nil)) (p2 cV (ci 1) (p1 Ef (.cmp [] (.lst (vr 1)) .yes (.call bS (.cons (vr 0) .nil)))))))) (.ret (.cst (.b false))) .skip)
  (.seq (.ifs (.tst (p2 neP (.call aY (.cons (vr 0) .nil)) (.call a9 (.cons (p2 cV (.lst (.cons (vr 2) .nil)) (.cmp [] (.lst (vr 1)) .yes (.call aY (.cons (vr 0) .nil)))) .nil)))) (.ret (.cst (.b false))) .skip)
  (.seq (.ifs (.or (.tst (p2 neP (.call bQ (.cons (vr 0) .nil)) (.call a9 (.cons (.cmp [] (.lst (vr 1)) .yes (.call bQ (.cons (vr 0) .nil))) .nil)))) (.tst (p2 neP (.call aG (.cons (vr 0) .nil)) (vr 3)))) (.ret (.cst (.b false))) .skip)
  (.ret (p2 eqP (.call aI (.cons (vr 0) .nil)) (p2 inP (.cst (.b true)) (.cmp [] (.lst (vr 1)) .yes (.call aI (.cons (vr 0) .nil)))))))))
noncomputable def bA:Fn:=bL gds [.dat,.dat,.dat,.dat] 4 nV
noncomputable def oo:XS :=
 (.seq (.br 1 (.call a9 (.cons (.cmp [] (.lst (vr 0)) .yes (.call aG (.cons (vr 0) .nil))) .nil)))
  (.seq (.br 2 (p1 (gp tyS) (.call bC (.cons (vr 1) .nil))))
  (.seq (.br 3 (.call a9 (.cons (.lst (.cons (vr 1) (.cons (vr 2) .nil))) .nil)))
  (.seq (.frT [4,5] (.lst (.lst (.cons (.tup (.cons (cs "all") (.cons (vr 1) .nil))) (.cons (.tup (.cons (cs "some") (.cons (vr 1) .nil))) (.cons (.tup (.cons (cs "none") (.cons (vr 2) .nil))) (.cons (.tup (.cons (cs "one") (.cons (vr 3) .nil))) .nil)))))) (.ifs (.not (.tst (.call bA (.cons (.tup (.cons (vr 4) (.cons (p1 lF (vr 0)) .nil))) (.cons (vr 0) (.cons (.lst .nil) (.cons (vr 5) .nil))))))) (.ret (.cst (.b false))) .skip))
  (.ret (.cst (.b true)))))))
noncomputable def fb:Fn:=bL gds [.dat] 6 oo
noncomputable def jE:XS :=
 (.seq (.Ad [3,4,5,6] (.call dN (.cons (vr 0) (.cons (vr 1) .nil))))
  (.seq (.br 7 (.call aG (.cons (vr 2) .nil)))
  (.seq (.br 8 (.call a9 (.cons (.lst (.cons (vr 7) (.cons (.call bC (.cons (vr 7) .nil)) .nil))) .nil)))
  (.seq (.ifs (.not (.tst (.call bA (.cons (.tup (.cons (cs "each") (.cons (vr 4) (.cons (vr 5) (.cons (vr 6) (.cons (vr 2) .nil)))))) (.cons (.lst (.cons (vr 2) .nil)) (.cons (.lst (.cons (vr 6) .nil)) (.cons (vr 7) .nil))))))) (.ret (.cst (.b false))) .skip)
  (.seq (.br 9 (vr 7))
  (.seq (.ifs (.tst (p2 sJ (vr 5) (.cst .n))) (.br 9 (vr 8)) .skip)
  (.ret (.call bA (.cons (.tup (.cons (cs "many") (.cons (vr 4) (.cons (vr 5) (.cons (vr 6) (.cons (vr 2) .nil)))))) (.cons (.lst (.cons (vr 2) .nil)) (.cons (.lst (.cons (vr 6) .nil)) (.cons (vr 9) .nil))))))))))))
noncomputable def dJ:Fn:=bL gds [.ino,.dat,.dat] 10 jE
noncomputable def gh (F_exchanged:Fn):XS :=
 (.seq (.ifs (.tst (p2 eqP (p2 ixP (vr 0) (ci 0)) (cs "keeps"))) (.ret (.tup (.cons (cs "keeps") (.cons (.met A5 (.dsp (.cons (vr 1) (vr 2) (.cons (vr 2) (vr 1) .nil))) (.cons (p2 ixP (vr 0) (ci 1)) (.cons (p2 ixP (vr 0) (ci 1)) .nil))) .nil)))) .skip)
  (.seq (.br 3 (p1 lF (.cmp [1,2] (.lst (.call gL (.cons (vr 0) .nil))) .yes (.call F_exchanged (.cons (vr 0) (.cons (vr 1) (.cons (vr 2) .nil)))))))
  (.seq (.ifs (.tst (p2 eqP (p2 ixP (vr 0) (ci 0)) (cs "not"))) (.ret (p2 cV (.tup (.cons (cs "not") .nil)) (vr 3))) .skip)
  (.seq (.ifs (.tst (p2 inP (p2 ixP (vr 0) (ci 0)) (.tup (.cons (cs "many") (.cons (cs "each") .nil))))) (.ret (p2 cV (p2 AF (vr 0) (ci 4)) (vr 3))) .skip)
  (.seq (.ifs (.tst (p2 inP (p2 ixP (vr 0) (ci 0)) (.tup (.cons (cs "all") (.cons (cs "some") (.cons (cs "one") (.cons (cs "none") .nil))))))) (.ret (.tup (.cons (p2 ixP (vr 0) (ci 0)) (.cons (vr 3) .nil)))) .skip)
  (.ret (vr 0)))))))
noncomputable def aD:Nat->Fn
 | 0=>Fn.no [.dat,.dat,.dat]
 | n+1=>bL gds [.dat,.dat,.dat] 4 (gh (aD n))
noncomputable def yJ:XS :=
 (.ret (.ji (p1 (pS "bool") (vr 0)) (p2 eqP (vr 0) (vr 1))))
noncomputable def jT:Fn:=bL gds [.dat,.dat] 2 yJ
noncomputable def xR:XS :=
 (.seq (.uT 1 (.call ou (.cons (vr 0) .nil)))
  (.seq (.br 2 (.call gJ (.cons (vr 1) (.cons (ci 4) .nil))))
  (.seq (.br 3 (.cmp [1,2,12] (.rng1 (.cons (ci 3) .nil)) .yes (.gho 1 2 3 (.lst (.cons (ci 11) .nil)) (.call (bt 9) (.cons (vr 1) (.cons (vr 2) (.cons (vr 3) (.cons (p2 cV (ci 2) (.call ag (.cons (vr 1) (.cons (ci 5) .nil)))) (.cons (.cst (.b true)) .nil)))))))))
  (.seq (.br 4 (.gho 1 2 12 (.lst (.cons (ci 11) .nil)) (.call (bt 9) (.cons (vr 1) (.cons (vr 2) (.cons (vr 12) (.cons (ci 6) (.cons (.cst (.b false)) .nil))))))))
  (.seq (.fr 5 (.lst (p2 cV (vr 3) (.lst (.cons (vr 4) .nil)))) (.seq (.br 6 (.call aG (.cons (vr 5) .nil)))
  (.seq (.ifs (.not (.tst (.call bA (.cons (.tup (.cons (cs "not") (.cons (vr 5) .nil))) (.cons (.lst (.cons (vr 5) .nil)) (.cons (.lst .nil) (.cons (p1 (gp tyS) (.call bC (.cons (vr 6) .nil))) .nil))))))) (.ret (.cst (.b false))) .skip)
  (.seq (.ifs (.not (.tst (.call bA (.cons (.tup (.cons (cs "not") (.cons (.tup (.cons (cs "not") (.cons (vr 5) .nil))) .nil))) (.cons (.lst (.cons (.tup (.cons (cs "not") (.cons (vr 5) .nil))) .nil)) (.cons (.lst .nil) (.cons (vr 6) .nil))))))) (.ret (.cst (.b false))) .skip)
  (.seq (.br 7 (.ji (p2 eqP (.call aY (.cons (vr 5) .nil)) (.lst .nil)) (.uR (.call aI (.cons (vr 5) .nil)))))
  (.seq (.br 8 (p2 ixP (.lst (.cons (cs "many") (.cons (cs "each") .nil))) (.call ag (.cons (vr 1) (.cons (ci 2) .nil)))))
  (.seq (.ifs (.not (.tst (.call jT (.cons (.call bw (.cons (.tup (.cons (vr 8) (.cons (ci 0) (.cons (.cst .n) (.cons (p2 ixP (vr 2) (ci 0)) (.cons (vr 5) .nil)))))) .nil)) (.cons (vr 7) .nil))))) (.ret (.cst (.b false))) .skip)
  (.seq (.br 9 (.dsp (.cons (p2 ixP (vr 2) (ci 0)) (p2 ixP (vr 2) (ci 1)) (.cons (p2 ixP (vr 2) (ci 1)) (p2 ixP (vr 2) (ci 0)) .nil))))
  (.seq (.br 10 (p1 (gp tyS) (.zb ["_law_name", "_law_sign"] [9] (.lst (vr 6)) (.tup (.cons (.met A5 (vr 2) (.cons (vr 0) (.cons (vr 0) .nil))) (.cons (vr 1) .nil))))))
  (.ifs (.tst (p2 neP (.call aG (.cons (.call (aD 9) (.cons (vr 5) (.cons (p2 ixP (vr 2) (ci 0)) (.cons (p2 ixP (vr 2) (ci 1)) .nil)))) .nil)) (vr 10))) (.ret (.cst (.b false))) .skip))))))))))
  (.seq (.br 11 (p2 cV (ci 1) (.call ag (.cons (vr 1) (.cons (ci 3) .nil)))))
  (.ret (.ji (.call fb (.cons (p2 AF (vr 3) (vr 11)) .nil)) (.ji (.call fb (.cons (p2 cV (.lst (.cons (vr 4) .nil)) (p2 HS (vr 3) (vr 11))) .nil)) (.call dJ (.cons (vr 1) (.cons (vr 2) (.cons (vr 4) .nil)))))))))))))
noncomputable def rV:Fn:=bL gds [.dat] 13 xR
def xV (K:Fg):Sp:=tT rV K
section
variable (P:Program) (w:World) (K:Fg) (mg:Str->Option Value) (base:Heap) (t:Adr)
noncomputable abbrev O (i l:Nat) (f:Fn):=gE P w K mg base CX0 l (t.f i).1 (t.f i).2 (dfs.getD i IY).2.2 (tT f K)
end
section
variable {P:Program} {w:World} {K:Fg} {mg:Str->Option Value} {base:Heap} {t:Adr} {n:Nat} {cdv:Value} {A:Around} {outer:List Env} {s:Shared} {H:Hp} {E:XK}
theorem i8 (T:Txt w K mg t):O P w K mg base t 0 1 aR :=
 (T.d 0 rfl).okN ["thing", "fewest"] (aM T) fun S hr=>ay (bD (eW (og (eM (eUx (eIz T.z_isinstance (eVx 0) T.z_str))) (iS (eM (sR d4 d4 (eVx 1) (eBs bo T.z_len (eAx (eVx 0) ab)) (dB (v:=.int 8) rfl T.g_MOST_LETTERS ⟨_,rfl⟩ rfl) (by with_unfolding_all rfl)))))) (aA (aJ eBl)) bH) (aA (aJ (eBs (tK rfl) T.z_all (eAx (eKx [] (eIS (eVx 0)) eT0 (eC fun _ _ _ _=>(xq d4 d4 aH (eVx 0) aH (by with_unfolding_all rfl))) (bsc (sc:=ae cY) rfl (by decide +kernel)) trivial) ab))))
theorem p4 (T:Txt w K mg t) (G0:O P w K mg base t 0 1 aR):O P w K mg base t 1 2 aT :=
 (T.d 1 rfl).okN ["thing"] (aM T) fun S hr=>aA (aJ (eCx G0 hr (T.d 0 rfl) (eAx (eVx 0) (eAx af ab))))
theorem nP (T:Txt w K mg t):O P w K mg base t 2 1 ba :=
 (T.d 2 rfl).okN ["thing"] (aM T) fun S hr=>aA (aJ (nN (eIz T.z_isinstance (eVx 0) T.z_int) (nA (D5 (eIz T.z_isinstance (eVx 0) T.z_bool)))))
theorem kK (T:Txt w K mg t) (G2:O P w K mg base t 2 1 ba):O P w K mg base t 3 2 bf :=
 (T.d 3 rfl).okN ["thing"] (aM T) fun S hr=>aA (aJ (nN (eCx G2 hr (T.d 2 rfl) (eAx (eVx 0) ab)) (nA (nY d4 (eBs jX T.z_abs (eAx (eVx 0) ab)) (dB (v:=.int 999999999999999999999999999999) rfl T.g_GREATEST_NUMBER ⟨_,rfl⟩ rfl) (cm _)))))
theorem pU (T:Txt w K mg t) (G0:O P w K mg base t 0 1 aR):O P w K mg base t 4 2 dM :=
 (T.d 4 rfl).okN ["thing"] (aM T) fun S hr=>aA (aJ (nN (eIz T.z_isinstance (eVx 0) T.z_tuple) (nN (nY (aC hr.units) (eBs bo T.z_len (eAx (eVx 0) ab)) af (cm _)) (nA (eCx G0 hr (T.d 0 rfl) (eAx (eIy (eVx 0) af) (eAx af ab)))))))
theorem qh (T:Txt w K mg t) (G1:O P w K mg base t 1 2 aT) (G3:O P w K mg base t 3 2 bf) (G4:O P w K mg base t 4 2 dM):O P w K mg base t 5 3 dH :=
 (T.d 5 rfl).okN ["thing"] (aM T) fun S hr=>aA (aJ (eOr (eCx G1 hr (T.d 1 rfl) (eAx (eVx 0) ab)) (eOr (eCx G3 hr (T.d 3 rfl) (eAx (eVx 0) ab)) (nA (eCx G4 hr (T.d 4 rfl) (eAx (eVx 0) ab))))))
theorem pW (T:Txt w K mg t) (G1:O P w K mg base t 1 2 aT) (G8:O P w K mg base t 8 2 dO):O P w K mg base t 6 3 dG :=
 (T.d 6 rfl).okN ["thing"] (aM T) fun S hr=>aA (aJ (nN (eIz T.z_isinstance (eVx 0) T.z_str) (nA (eCx G1 hr (T.d 1 rfl) (eAx (eCx G8 hr (T.d 8 rfl) (eAx (eVx 0) ab)) ab)))))
theorem ja (T:Txt w K mg t):O P w K mg base t 7 1 bZ :=
 (T.d 7 rfl).okN ["step"] (aM T) fun S hr=>aA (aJ (eBM (eVx 0) (eAx (dB (v:=.str "^") rfl T.g_BACK ⟨_,rfl⟩ rfl) ab) sC PySem.F.plainAttrs_str PySem.F.slot_str_startswith PySem.F.type_str_startswith rfl rfl rfl rfl rfl))
theorem p6 (T:Txt w K mg t) (G7:O P w K mg base t 7 1 bZ):O P w K mg base t 8 2 dO :=
 (T.d 8 rfl).okN ["step"] (aM T) fun S hr=>aA (aJ (eIf (eUx (eCx G7 hr (T.d 7 rfl) (eAx (eVx 0) ab))) (eSl (orS gm (orS df gr)) (eVx 0) (eP af) ym) (eVx 0)))
theorem lN (T:Txt w K mg t):O P w K mg base t 9 1 dC :=
 (T.d 9 rfl).okN ["word"] (aM T) fun S hr=>aA (aJ (eKG (dB (v:=.ref t.ix) rfl T.g_LENGTHS rfl rfl) T.rB (eVx 0) rfl rfl rfl rfl))
theorem lX (T:Txt w K mg t) (G9:O P w K mg base t 9 1 dC):O P w K mg base t 10 2 bV :=
 (T.d 10 rfl).okN ["thing"] (aM T) fun S hr=>ay (bD (eW (og (eM (eUx (eIz T.z_isinstance (eVx 0) T.z_tuple))) (og (eTx (aC hr.units) (eBs bo T.z_len (eAx (eVx 0) ab)) af) (iS (eM (eUx (eIz T.z_isinstance (eIy (eVx 0) af) T.z_str))))))) (aA (aJ eBl)) bH) (aA (aJ (nY (aC hr.units) (eCx G9 hr (T.d 9 rfl) (eAx (eIy (eVx 0) af) ab)) (eBs bo T.z_len (eAx (eVx 0) ab)) (cm _))))
theorem eG (T:Txt w K mg t) (G1:O P w K mg base t 1 2 aT):O P w K mg base t 11 3 aQ :=
 (T.d 11 rfl).okN ["thing"] (aM T) fun S hr=>ay (bD (eW (og (eM (eUx (eIz T.z_isinstance (eVx 0) T.z_tuple))) (iS (eTx ju (eBs bo T.z_len (eAx (eVx 0) ab)) (dB (v:=.int 8) rfl T.g_MOST_BONDS ⟨_,rfl⟩ rfl))))) (aA (aJ eBl)) bH) (aA (aJ (nN (eBs (tK rfl) T.z_all (eAx (eKx [] (eIT (eVx 0)) eT0 (eC fun _ _ _ _=>(eCx G1 hr (T.d 1 rfl) (eAx (eVx 0) ab))) (bsc (sc:=ae bG) rfl (by decide +kernel)) trivial) ab)) (nA (nY (aC hr.units) (eTs (pI rfl) T.z_list (eAx (eVx 0) ab)) (Ii rfl rfl T.z_sorted rfl T.z_set rfl (eVx 0)) (cm _))))))
theorem jS (T:Txt w K mg t) (G2:O P w K mg base t 2 1 ba):O P w K mg base t 12 2 bK :=
 (T.d 12 rfl).okN ["low", "high"] (aM T) fun S hr=>ay (bD (eW (og (eM (eUx (eCx G2 hr (T.d 2 rfl) (eAx (eVx 0) ab)))) (iS (eM (sR d4 d4 af (eVx 0) (dB (v:=.int 60) rfl T.g_MOST_ENDS ⟨_,rfl⟩ rfl) (by with_unfolding_all rfl)))))) (aA (aJ eBl)) bH) (aA (aJ (eOr (nY Bf (eVx 1) Dh (cm _)) (nA (nN (eCx G2 hr (T.d 2 rfl) (eAx (eVx 1) ab)) (nA (xq d4 d4 (eVx 0) (eVx 1) (dB (v:=.int 60) rfl T.g_MOST_ENDS ⟨_,rfl⟩ rfl) (by with_unfolding_all rfl))))))))
theorem fY (T:Txt w K mg t) (G3:O P w K mg base t 3 2 bf) (G5:O P w K mg base t 5 3 dH) (G1:O P w K mg base t 1 2 aT) (G11:O P w K mg base t 11 3 aQ) (G12:O P w K mg base t 12 2 bK) (G6:O P w K mg base t 6 3 dG):O P w K mg base t 13 4 a6 :=
 (T.d 13 rfl).okN ["form", "walked", "head"] (aM T) fun S hr=>ay (eSx S.nd 2 (eIy (eVx 0) af)) (ay (bD (fS (bY hr.units) (eVx 2) (cP (eAx aH (eAx aH ab))) (by with_unfolding_all rfl)) (aA (aJ (eCx G3 hr (T.d 3 rfl) (eAx (eIy (eVx 0) af) ab)))) bH) (ay (bD (eTx (aC hr.units) (eVx 2) aH) (aA (aJ (eCx G5 hr (T.d 5 rfl) (eAx (eIy (eVx 0) af) ab)))) bH) (ay (bD (eTx (aC hr.units) (eVx 2) aH) (aA (aJ (eCx G1 hr (T.d 1 rfl) (eAx (eIy (eVx 0) af) ab)))) bH) (ay (bD (eTx (aC hr.units) (eVx 2) aH) (aA (aJ (nN (D5 (eVx 1)) (nA (eCx G11 hr (T.d 11 rfl) (eAx (eIy (eVx 0) af) ab)))))) bH) (ay (bD (fS (bY hr.units) (eVx 2) (dB (v:=.ref t.gY) rfl T.g_LISTS rfl rfl) (by with_unfolding_all rfl)) (aA (aJ (nN (eIz T.z_isinstance (eIy (eVx 0) af) T.z_tuple) (nA (nY d4 (eBs bo T.z_len (eAx (eIy (eVx 0) af) ab)) (dB (v:=.int 6) rfl T.g_MOST_LISTED ⟨_,rfl⟩ rfl) (cm _)))))) bH) (ay (bD (fS (bY hr.units) (eVx 2) (dB (v:=.ref t.eJ) rfl T.g_WALKS rfl rfl) (by with_unfolding_all rfl)) (aA (aJ (nN (D5 (eVx 1)) (nN (eCx G12 hr (T.d 12 rfl) (eAx (eIy (eVx 0) af) (eAx (eIy (eVx 0) af) ab))) (nA (eCx G6 hr (T.d 6 rfl) (eAx (eIy (eVx 0) af) ab))))))) bH) (aA (aJ eBl))))))))
theorem fL (T:Txt w K mg t):O P w K mg base t 14 1 au :=
 (T.d 14 rfl).okN ["form", "head"] (aM T) fun S hr=>ay (eSx S.nd 1 (eIy (eVx 0) af)) (ay (bD (eTx (aC hr.units) (eVx 1) aH) (aA (aJ (cP (eAx (eIy (eVx 0) af) ab)))) bH) (ay (bD (fS (bY hr.units) (eVx 1) (dB (v:=.ref t.gY) rfl T.g_LISTS rfl rfl) (by with_unfolding_all rfl)) (aA (aJ (eIy (eVx 0) af))) bH) (ay (bD (fS (bY hr.units) (eVx 1) (dB (v:=.ref t.eJ) rfl T.g_WALKS rfl rfl) (by with_unfolding_all rfl)) (aA (aJ (cP (eAx (eIy (eVx 0) af) ab)))) bH) (aA (aJ (cP ab))))))
theorem gB (T:Txt w K mg t) (G10:O P w K mg base t 10 2 bV) (G13:O P w K mg base t 13 4 a6) (G14:O P w K mg base t 14 1 au) (G15:O P w K mg base t 15 (5+n) (ah n)):O P w K mg base t 15 (5+(n+1)) (ah (n+1)) :=
 ((T.d 15 rfl).okN ["thing", "depth", "walked", "total", "part", "within"] (aM T) fun S hr=>ay (bD (eW (og (eTx ju (eVx 1) (dB (v:=.int 8) rfl T.g_DEEPEST ⟨_,rfl⟩ rfl)) (og (eM (eUx (eCx G10 hr (T.d 10 rfl) (eAx (eVx 0) ab)))) (iS (eM (eUx (eCx G13 hr (T.d 13 rfl) (eAx (eVx 0) (eAx (eVx 2) ab))))))))) (aA (aJ af)) bH) (ay (eSx S.nd 3 af) (ay (eFx (eIT (eCx G14 hr (T.d 14 rfl) (eAx (eVx 0) ab))) (eGx S.nd 4) (ay (eSx S.nd 5 (eCx G15 hr (T.d 15 rfl) (eAx (eVx 4) (eAx (eOp aq (eVx 1) af) (eAx (eOr (eVx 2) (nA (nY (bY hr.units) (eIy (eVx 0) af) (dB (v:=.ref t.eJ) rfl T.g_WALKS rfl rfl) (by with_unfolding_all rfl)))) ab))))) (ay (eSx S.nd 3 (eOp aq (eVx 3) (eVx 5))) (aA (bD (eW (og (eTx (aC hr.units) (eVx 5) af) (iS (eTx ju (eVx 3) (dB (v:=.int 40) rfl T.g_MOST_FORMS ⟨_,rfl⟩ rfl))))) (aA (aJ af)) bH))))) (aA (aJ (eVx 3))))):O P w K mg base t 15 ((5+n)+1) (ah (n+1))).mono (by omega)
theorem ij (T:Txt w K mg t):O P w K mg base t 15 (4+1) (ah 0) :=
 gE.no (k:=4) (T.d 15 rfl).F (scm (N:=["thing", "depth", "walked", "total", "part", "within"])) fun vs H Q E h=>by obtain ⟨G,ds,is,pr,outs,hF,_⟩:=h;cases hF
theorem qf (T:Txt w K mg t) (G15:O P w K mg base t 15 14 (ah 9)):O P w K mg base t 16 15 bw :=
 (T.d 16 rfl).okN ["thing"] (aM T) fun S hr=>aA (aJ (nY ju (eCx G15 hr (T.d 15 rfl) (eAx (eVx 0) (eAx af (eA eBl ab rfl)))) af (cm _)))
theorem mQ (T:Txt w K mg t) (G14:O P w K mg base t 14 1 au) (G17:O P w K mg base t 17 (2+n) (ar n)):O P w K mg base t 17 (2+(n+1)) (ar (n+1)) :=
 ((T.d 17 rfl).okN ["form", "found", "part"] (aM T) fun S hr=>ay (eSx S.nd 1 (cS (eAx (eVx 0) ab))) (ay (eFx (eIT (eCx G14 hr (T.d 14 rfl) (eAx (eVx 0) ab))) (eGx S.nd 2) (aA (qj (eBM (eVx 1) (eAx (eCx G17 hr (T.d 17 rfl) (eAx (eVx 2) ab)) ab) jt K8 PySem.F.slot_list_extend PySem.F.type_list_extend rfl rfl rfl rfl rfl) rfl))) (aA (aJ (eVx 1)))):O P w K mg base t 17 ((2+n)+1) (ar (n+1))).mono (by omega)
theorem pM (T:Txt w K mg t):O P w K mg base t 17 (1+1) (ar 0) :=
 gE.no (k:=1) (T.d 17 rfl).F (scm (N:=["form", "found", "part"])) fun vs H Q E h=>by obtain ⟨G,ds,is,pr,outs,hF,_⟩:=h;cases hF
theorem ml (T:Txt w K mg t) (G17:O P w K mg base t 17 11 (ar 9)):O P w K mg base t 18 12 bS :=
 (T.d 18 rfl).okN ["form"] (aM T) fun S hr=>aA (aJ (eBs bo T.z_len (eAx (eCx G17 hr (T.d 17 rfl) (eAx (eVx 0) ab)) ab)))
theorem mZ (T:Txt w K mg t) (G17:O P w K mg base t 17 11 (ar 9)):O P w K mg base t 19 12 aY :=
 (T.d 19 rfl).okN ["form"] (aM T) fun S hr=>aA (aJ (eSS rfl rfl T.z_sorted rfl T.z_set rfl (eKx [] (eIL (eCx G17 hr (T.d 17 rfl) (eAx (eVx 0) ab))) (eT1 fun _ _ _ _=>(fS (bY hr.units) (eIy (eVx 0) af) (dB (v:=.ref t.eJ) rfl T.g_WALKS rfl rfl) (by with_unfolding_all rfl))) (eC fun _ _ _ _=>(eIy (eVx 0) af)) (bsc (sc:=ae gz) rfl (by decide +kernel)) trivial)))
theorem mT (T:Txt w K mg t) (G17:O P w K mg base t 17 11 (ar 9)):O P w K mg base t 20 12 bQ :=
 (T.d 20 rfl).okN ["form"] (aM T) fun S hr=>aA (aJ (eSS rfl rfl T.z_sorted rfl T.z_set rfl (eKx [] (eIL (eCx G17 hr (T.d 17 rfl) (eAx (eVx 0) ab))) (eT1 fun _ _ _ _=>(eTx (aC hr.units) (eIx l9 (eVx 0) af (fun _ _=>rfl)) aH)) (eC fun _ _ _ _=>(eIy (eVx 0) af)) (bsc (sc:=ae gf) rfl (by decide +kernel)) trivial)))
theorem kB (T:Txt w K mg t) (G17:O P w K mg base t 17 11 (ar 9)):O P w K mg base t 21 12 aI :=
 (T.d 21 rfl).okN ["form"] (aM T) fun S hr=>aA (aJ (eBs (yQ rfl) T.z_any (eAx (eKx [] (eIL (eCl G17 hr (T.d 17 rfl).m (T.d 17 rfl).F.kp (T.d 17 rfl).b (eA (eVx 0) ab rfl))) eT0 (eC fun _ _ _ _=>(nY (aC hr.units) (eIx l9 (eVx 0) af (fun _ _=>rfl)) aH (cm _))) (bsc (sc:=ae d5) rfl (by decide +kernel)) trivial) ab)))
theorem g7 (T:Txt w K mg t):O P w K mg base t 22 1 bq :=
 (T.d 22 rfl).okN ["form", "signs", "head"] (aM T) fun S hr=>ay (eSx S.nd 2 (eIy (eVx 0) af)) (ay (bD (eW (og (eTx (aC hr.units) (eVx 2) aH) (iS (eW (pT (eTx (aC hr.units) (eVx 2) aH) (jA (eTx kJ (eIy (eVx 0) af) Dh))))))) (aA (aJ (cS (eAx aH (eAx aH ab))))) bH) (ay (bD (fS (bY hr.units) (eVx 2) (cP (eAx aH (eAx aH ab))) (by with_unfolding_all rfl)) (aA (aJ (eKx [] (eIL (eVx 1)) eT0 (eC fun _ _ _ _=>(IF (dB (v:=.ref t.j4) rfl T.g_TURNED rfl rfl) T.wz (eVx 0) (fun _ _=>rfl))) (bsc (sc:=ae cO) rfl (by decide +kernel)) trivial))) bH) (aA (aJ (eVx 1)))))
theorem iA (T:Txt w K mg t) (G14:O P w K mg base t 14 1 au) (G23:O P w K mg base t 23 (3+n) (ao n)) (G22:O P w K mg base t 22 1 bq):O P w K mg base t 23 (3+(n+1)) (ao (n+1)) :=
 ((T.d 23 rfl).okN ["form", "signs", "found", "part"] (aM T) fun S hr=>ay (bD (eTx (aC hr.units) (eIy (eVy 0) af) aH) (aA (aJ (eKx ["form"] (eIL (eVx 1)) eT0 (eC fun _ _ _ _=>(cP (eAx (eIy (eVy 1) af) (eAx (eVx 0) ab)))) (bsc (sc:=ae cN) rfl (by decide +kernel)) ⟨rfl,.inl ⟨rfl,rfl⟩,trivial⟩))) bH) (ay (eSx S.nd 2 (cS ab)) (ay (eFx (eIT (eCx G14 hr (T.d 14 rfl) (eAx (eVy 0) ab))) (eGx S.nd 3) (aA (qj (eBM (eVx 2) (eAx (eCx G23 hr (T.d 23 rfl) (eAx (eVx 3) (eAx (eCx G22 hr (T.d 22 rfl) (eAx (eVy 0) (eAx (eVx 1) ab))) ab))) ab) jt K8 PySem.F.slot_list_extend PySem.F.type_list_extend rfl rfl rfl rfl rfl) rfl))) (aA (aJ (eVx 2))))):O P w K mg base t 23 ((3+n)+1) (ao (n+1))).mono (by omega)
theorem jb (T:Txt w K mg t):O P w K mg base t 23 (2+1) (ao 0) :=
 gE.no (k:=2) (T.d 23 rfl).F (scm (N:=["form", "signs", "found", "part"])) fun vs H Q E h=>by obtain ⟨G,ds,is,pr,outs,hF,_⟩:=h;cases hF
theorem mC (T:Txt w K mg t) (G23:O P w K mg base t 23 12 (ao 9)):O P w K mg base t 24 13 aG :=
 (T.d 24 rfl).okN ["form"] (aM T) fun S hr=>aA (aJ (eST rfl hr.iu rfl T.z_sorted rfl T.z_set rfl (eCx G23 hr (T.d 23 rfl) (eAx (eVx 0) (eAx (cS (eA aH ab rfl)) ab)))))
theorem Dr (T:Txt w K mg t):O P w K mg base t 25 1 ou :=
 (T.d 25 rfl).okN ["_law_script"] (aM T) fun S hr=>aA (aJ (cS (eAx (eVx 0) (eAx af (eA af ab rfl)))))
theorem zW (T:Txt w K mg t):O P w K mg base t 26 1 ag :=
 (T.d 26 rfl).okN ["_law_pen_here", "_law_most", "_law_found", "_law_at", "_law_cell", "_law_number_here"] (aM T) fun S hr=>ay (bD (eTx ju (eIy (eVx 0) af) af) (ay (eSx S.nd 2 (eOp bP (eIy (eVx 0) af) (eVx 1))) (ay (zq (eOp ke (eIy (eVx 0) af) (eVx 1)) (Aj (eVx 0) af set_list (fun _=>rfl)) rfl rfl rfl) (aA (aJ (eVx 2))))) bH) (ay (eSx S.nd 3 (eIy (eVx 0) af)) (ay (zq (eOp aq (eVx 3) af) (Aj (eVx 0) af set_list (fun _=>rfl)) rfl rfl rfl) (ay (eSx S.nd 4 af) (ay (bD (eTx ju (eBs bo T.z_len (eAx (eIy (eVx 0) af) ab)) af) (aA (eSx S.nd 4 (eIy (eIy (eVx 0) af) (eOp bP (eVx 3) (eBs bo T.z_len (eAx (eIy (eVx 0) af) ab)))))) bH) (ay (bD (eW (pT (eTx iC (eVx 3) (eBs bo T.z_len (eAx (eIy (eVx 0) af) ab))) (jA (eTx BF (eBs jX T.z_abs (eAx (eVx 4) ab)) (eOp eO af af))))) (ay (zq (eOp ke (eBs jX T.z_abs (eAx (eVx 4) ab)) (eVx 1)) (Aj (eVx 0) af set_list (fun _=>rfl)) rfl rfl rfl) (aA (aJ (eOp bP (eBs jX T.z_abs (eAx (eVx 4) ab)) (eVx 1))))) bH) (ay (eSx S.nd 5 (eOp bP (eOp cf (eOp aq (eOp aq (eOp aq (eOp bP (eVx 4) af) (eOp cf (eOp cf af (eVx 3)) (eVx 3))) (eOp cf af (eVx 3))) af) af) af)) (ay (eSx S.nd 5 (eOp bP (eOp aq (eOp aq (eOp cf (eVx 5) (eVx 5)) (eOp cf af (eVx 5))) (eVx 3)) af)) (aA (aJ (eOp bP (eOp ke (eVx 5) af) (eVx 1)))))))))))
theorem vK (T:Txt w K mg t) (G26:O P w K mg base t 26 1 ag):O P w K mg base t 27 2 gJ :=
 (T.d 27 rfl).okN ["_law_pen_here", "_law_many", "_law_letters", "_law_base", "_law_words", "_law_way", "_law_size", "_law_at", "_law_turn", "_law_found", "_law_k", "_law_sign"] (aM T) fun S hr=>ay (eSy S.nd 2 aH) (ay (eSx S.nd 3 (eBM aH (eAx (eKx ["_law_letters", "_law_pen_here"] (eR1 rfl T.z_range (eAx af ab) rfl) eT0 (eC fun _ _ _ _=>(eIy (eVy 1) (eCl G26 hr (T.d 26 rfl).m (T.d 26 rfl).F.kp (T.d 26 rfl).b (eA (eVy 2) (eA af ab rfl) rfl)))) (bsc (sc:=ae kZ) rfl (by decide +kernel)) ⟨rfl,.inl ⟨rfl,rfl⟩,⟨rfl,.inl ⟨rfl,rfl⟩,trivial⟩⟩) ab) wx PySem.F.plainAttrs_str PySem.F.slot_str_join PySem.F.type_str_join rfl rfl rfl rfl rfl)) (ay (eSx S.nd 4 (cS (eAx aH (eAx aH (eAx aH (eAx aH (eA aH (eA aH (eA aH (eA aH ab rfl) rfl) rfl) rfl))))))) (ay (eSx S.nd 5 (eCx G26 hr (T.d 26 rfl) (eAx (eVy 0) (eAx af ab)))) (ay (eSx S.nd 6 (eOp aq af (eCx G26 hr (T.d 26 rfl) (eAx (eVy 0) (eAx af ab))))) (ay (eSx S.nd 7 (eCx G26 hr (T.d 26 rfl) (eAx (eVy 0) (eAx (eVx 6) ab)))) (ay (eSx S.nd 8 (eCx G26 hr (T.d 26 rfl) (eAx (eVy 0) (eAx af ab)))) (ay (eSx S.nd 9 (cS ab)) (ay (eFx (eR1 rfl T.z_range (eAx (eVx 1) ab) rfl) (eGx S.nd 10) (ay (eSx S.nd 11 (eIy (eVy 2) (eOp bP (eOp aq (eVx 8) (eOp cf af (eVx 10))) af))) (aA (bD (eW (pT (eTx (aC hr.units) (eVx 5) af) (jA (eTx iC (eVx 1) af)))) (aA (qj (eBM (eVx 9) (eAx (eSl (orS gm (orS df gr)) (eVx 3) ym (eP (eOp aq (eOp bP (eOp aq (eVx 8) (eOp cf af (eVx 10))) af) af))) ab) fw K8 L3 L0 rfl rfl rfl rfl rfl) rfl)) (aA (bD (eW (pT (eTx (aC hr.units) (eVx 5) af) (jA (eTx iC (eVx 1) af)))) (aA (qj (eBM (eVx 9) (eAx (eIy (eVx 4) (eOp bP (eOp aq (eVx 8) (eVx 10)) af)) ab) fw K8 L3 L0 rfl rfl rfl rfl rfl) rfl)) (aA (bD (eTx (aC hr.units) (eVx 5) af) (aA (qj (eBM (eVx 9) (eAx (eOp aq (eIy (eVx 4) (eOp bP (eVx 10) af)) (eVx 11)) ab) fw K8 L3 L0 rfl rfl rfl rfl rfl) rfl)) (aA (qj (eBM (eVx 9) (eAx (eOp aq (eOp aq (eSl (orS gm (orS df gr)) (eVx 3) ym (eP (eVx 7))) (eVx 11)) (eSl (orS gm (orS df gr)) (eVx 3) (eP (eOp aq (eVx 7) af)) (eP (eVx 6)))) ab) fw K8 L3 L0 rfl rfl rfl rfl rfl) rfl)))))))))) (aA (aJ (eVx 9)))))))))))
theorem qO (T:Txt w K mg t) (G26:O P w K mg base t 26 1 ag):O P w K mg base t 28 2 cB :=
 (T.d 28 rfl).okN ["_law_pen_here", "_law_way", "_law_number_here"] (aM T) fun S hr=>ay (eSx S.nd 1 (eCx G26 hr (T.d 26 rfl) (eAx (eVx 0) (eAx af ab)))) (ay (eSx S.nd 2 (eCx G26 hr (T.d 26 rfl) (eAx (eVx 0) (eAx af ab)))) (ay (bD (eTx (aC hr.units) (eVx 1) af) (aA (eSx S.nd 2 (eOp cb (eOp cb (eOp eO af af) af) (eCx G26 hr (T.d 26 rfl) (eAx (eVx 0) (eAx af ab)))))) bH) (ay (bD (eTx (aC hr.units) (eVx 1) af) (aA (eSx S.nd 2 (eOp aq (eOp cf (eOp aq (eOp cf (eCx G26 hr (T.d 26 rfl) (eAx (eVx 0) (eAx (eOp eO af af) ab))) (eOp eO af af)) (eCx G26 hr (T.d 26 rfl) (eAx (eVx 0) (eAx (eOp eO af af) ab)))) (eOp eO af af)) (eCx G26 hr (T.d 26 rfl) (eAx (eVx 0) (eAx (eOp eO af af) ab)))))) bH) (ay (bD (eTx (aC hr.units) (eCx G26 hr (T.d 26 rfl) (eAx (eVx 0) (eAx af ab))) af) (aA (eSx S.nd 2 (eOp cb af (eVx 2)))) bH) (aA (aJ (eVx 2)))))))
theorem zm (T:Txt w K mg t) (G26:O P w K mg base t 26 1 ag) (G28:O P w K mg base t 28 2 cB):O P w K mg base t 29 3 jN :=
 (T.d 29 rfl).okN ["_law_pen_here", "_law_things", "_law_way", "_law_word", "_law_k"] (aM T) fun S hr=>ay (eSx S.nd 2 (eCx G26 hr (T.d 26 rfl) (eAx (eVx 0) (eAx af ab)))) (ay (bD (eTx (aC hr.units) (eVx 2) af) (aA (aJ (eIy (eVx 1) (eCx G26 hr (T.d 26 rfl) (eAx (eVx 0) (eAx (eBs bo T.z_len (eAx (eVx 1) ab)) ab)))))) bH) (ay (bD (eTx (aC hr.units) (eVx 2) af) (aA (aJ (eCx G28 hr (T.d 28 rfl) (eAx (eVx 0) ab)))) bH) (ay (eSx S.nd 3 aH) (ay (eFx (eR1 rfl T.z_range (eAx (eIy (cS (eAx af (eAx af (eAx (eOp aq af (eCx G26 hr (T.d 26 rfl) (eAx (eVx 0) (eA af ab rfl)))) (eAx af ab))))) (eCx G26 hr (T.d 26 rfl) (eAx (eVx 0) (eAx af ab)))) ab) rfl) (eGx S.nd 4) (aA (eSx S.nd 3 (eOp aq (eVx 3) (eIy aH (eCx G26 hr (T.d 26 rfl) (eAx (eVx 0) (eAx af ab)))))))) (aA (aJ (cP (eAx (eVx 3) ab))))))))
theorem DI (T:Txt w K mg t) (G26:O P w K mg base t 26 1 ag) (G28:O P w K mg base t 28 2 cB) (G29:O P w K mg base t 29 3 jN):O P w K mg base t 30 4 o7 :=
 (T.d 30 rfl).okN ["_law_pen_here", "_law_names_here", "_law_free", "_law_word"] (aM T) fun S hr=>ay (eSx S.nd 3 (eIy (cS (eAx aH (eA aH (eA aH (eA aH (eA aH (eA aH (eA aH (eA aH (eA aH (eA aH ab rfl) rfl) rfl) rfl) rfl) rfl) rfl) rfl) rfl))) (eCx G26 hr (T.d 26 rfl) (eAx (eVx 0) (eA af ab rfl))))) (ay (bD (fS (bY hr.units) (eVx 3) (cP (eAx aH (eAx aH ab))) (by with_unfolding_all rfl)) (aA (aJ (cP (eAx (eVx 3) (eAx (eCx G28 hr (T.d 28 rfl) (eAx (eVx 0) ab)) ab))))) bH) (ay (bD (eTx (aC hr.units) (eVx 3) aH) (aA (aJ (cP (eAx (eVx 3) (eAx (eCx G29 hr (T.d 29 rfl) (eAx (eVx 0) (eAx (eVx 1) ab))) ab))))) bH) (ay (bD (eW (og (eTx (aC hr.units) (eVx 3) aH) (iS (eW (pT (eTx (aC hr.units) (eVx 3) aH) (jA (eM (eUx (eVx 2))))))))) (aA (aJ (cP (eAx aH (eAx (eIy (eVx 1) (eCx G26 hr (T.d 26 rfl) (eAx (eVx 0) (eAx (eBs bo T.z_len (eAx (eVx 1) ab)) ab)))) ab))))) bH) (ay (bD (eTx (aC hr.units) (eVx 3) aH) (aA (aJ (cP (eAx (eVx 3) (eAx (eTs fC T.z_tuple (eAx (eBs jm T.z_sorted (eAx (eSl (orS gm (orS df gr)) (eVx 1) ym (eP (eCx G26 hr (T.d 26 rfl) (eAx (eVx 0) (eAx (eOp aq (eBs bo T.z_len (eAx (eVx 1) ab)) af) ab))))) ab)) ab)) ab))))) bH) (aA (aJ (cP (eAx (eVx 3) ab))))))))
theorem vB (T:Txt w K mg t) (G26:O P w K mg base t 26 1 ag):O P w K mg base t 31 2 dN :=
 (T.d 31 rfl).okN ["_law_pen_here", "_law_names_here", "_law_low", "_law_high", "_law_step"] (aM T) fun S hr=>ay (eSx S.nd 2 (eIy (cS (eAx af (eA af (eA af (eA af (eA af (eA (eCl G26 hr (T.d 26 rfl).m (T.d 26 rfl).F.kp (T.d 26 rfl).b (eA (eVx 0) (eA af ab rfl) rfl)) ab rfl) rfl) rfl) rfl) rfl))) (eCx G26 hr (T.d 26 rfl) (eAx (eVx 0) (eA af ab rfl))))) (ay (eSx S.nd 3 (eIy (cS (eAx Dh (eAx (eVx 2) (eA (eOp aq (eVx 2) (eCl G26 hr (T.d 26 rfl).m (T.d 26 rfl).F.kp (T.d 26 rfl).b (eA (eVx 0) (eA (eOp cb af (eVx 2)) ab rfl) rfl))) ab rfl)))) (eCx G26 hr (T.d 26 rfl) (eAx (eVx 0) (eAx af ab))))) (ay (eSx S.nd 4 (eOp aq (eIy (cS (eAx aH (eAx aH (eAx aH ab)))) (eCx G26 hr (T.d 26 rfl) (eAx (eVx 0) (eAx af ab)))) (eIy (eVx 1) (eCx G26 hr (T.d 26 rfl) (eAx (eVx 0) (eAx (eBs bo T.z_len (eAx (eVx 1) ab)) ab)))))) (aA (aJ (cP (eAx (eIy (cS (eAx aH (eAx aH ab))) (eCx G26 hr (T.d 26 rfl) (eAx (eVx 0) (eAx af ab)))) (eAx (eVx 2) (eAx (eVx 3) (eAx (eVx 4) ab)))))))))
theorem ye (T:Txt w K mg t) (G26:O P w K mg base t 26 1 ag) (G30:O P w K mg base t 30 4 o7) (G32:O P w K mg base t 32 (7+n) (bt n)) (G31:O P w K mg base t 31 2 dN):O P w K mg base t 32 (7+(n+1)) (bt (n+1)) :=
 ((T.d 32 rfl).okN ["_law_pen_here", "_law_names_here", "_law_room", "_law_deep", "_law_free", "_law_way", "_law_many", "_law_some"] (aM T) fun S hr=>ay (eSx S.nd 5 (eCx G26 hr (T.d 26 rfl) (eAx (eVy 0) (eAx af ab)))) (ay (bD (eW (og (eTx iC (eVx 5) af) (og (eTx iC (eVy 3) af) (iS (eTx iC (eIy (eVy 2) af) af))))) (aA (aJ (eCx G30 hr (T.d 30 rfl) (eAx (eVy 0) (eAx (eVy 1) (eAx (eVy 4) ab)))))) bH) (ay (bD (eTx (aC hr.units) (eVx 5) af) (ay (zq (eOp cb (eIy (eVy 2) af) af) (Aj (eVy 2) af set_list (fun _=>rfl)) rfl rfl rfl) (aA (aJ (cP (eAx aH (eAx (eCx G32 hr (T.d 32 rfl) (eAx (eVy 0) (eAx (eVy 1) (eAx (eVy 2) (eAx (eOp cb (eVy 3) af) (eAx (eVy 4) ab)))))) ab)))))) bH) (ay (bD (eW (pT (eTx iC (eVx 5) af) (jA (eUx (eVy 4))))) (ay (zq (eOp cb (eIy (eVy 2) af) af) (Aj (eVy 2) af set_list (fun _=>rfl)) rfl rfl rfl) (aA (aJ (eOp aq (eCx G31 hr (T.d 31 rfl) (eAx (eVy 0) (eAx (eVy 1) ab))) (cP (eAx (eCx G32 hr (T.d 32 rfl) (eAx (eVy 0) (eAx (eVy 1) (eAx (eVy 2) (eAx (eOp cb (eVy 3) af) (eAx eBl ab)))))) ab)))))) bH) (ay (eSx S.nd 6 (eBs (yU rfl) T.z_min (eAx (eCx G26 hr (T.d 26 rfl) (eAx (eVy 0) (eAx af ab))) (eAx (eIy (eVy 2) af) ab)))) (ay (zq (eOp cb (eIy (eVy 2) af) (eVx 6)) (Aj (eVy 2) af set_list (fun _=>rfl)) rfl rfl rfl) (ay (BE (i:=7) ["_law_pen_here", "_law_names_here", "_law_room", "_law_free", "_law_deep"] (eR1 rfl T.z_range (eAx (eVx 6) ab) rfl) eT0 (eC fun _ _ _ _=>(eCx G32 hr (T.d 32 rfl) (eAx (eVy 1) (eAx (eVy 2) (eAx (eVy 3) (eAx (eOp cb (eVy 5) af) (eAx (eVy 4) ab))))))) S.nd rfl rfl rfl rfl (bsc (sc:=ae pE) rfl (by decide +kernel)) (by decide +kernel) ⟨rfl,.inl ⟨rfl,rfl⟩,⟨rfl,.inl ⟨rfl,rfl⟩,⟨rfl,.inl ⟨rfl,rfl⟩,⟨rfl,.inl ⟨rfl,rfl⟩,⟨rfl,.inl ⟨rfl,rfl⟩,trivial⟩⟩⟩⟩⟩ (fun _=>rfl)) (aA (aJ (cP (eAx (eIy (cS (eAx aH (eAx aH (eAx aH (eAx aH ab))))) (eCx G26 hr (T.d 26 rfl) (eAx (eVy 0) (eAx af ab)))) (eAx (eTs fC T.z_tuple (eAx (eVx 7) ab)) ab))))))))))):O P w K mg base t 32 ((7+n)+1) (bt (n+1))).mono (by omega)
theorem BM (T:Txt w K mg t):O P w K mg base t 32 (6+1) (bt 0) :=
 gE.no (k:=6) (T.d 32 rfl).F (scm (N:=["_law_pen_here", "_law_names_here", "_law_room", "_law_deep", "_law_free", "_law_way", "_law_many", "_law_some"])) fun vs H Q E h=>by obtain ⟨G,ds,is,pr,outs,hF,_⟩:=h;cases hF
theorem wm (T:Txt w K mg t):O P w K mg base t 33 1 gL :=
 (T.d 33 rfl).okN ["_law_form_here"] (aM T) fun S hr=>ay (bD (eTx (aC hr.units) (eIy (eVx 0) af) aH) (aA (aJ (cS (eAx (eIy (eVx 0) af) ab)))) bH) (ay (bD (fS (bY hr.units) (eIy (eVx 0) af) (cP (eAx aH (eAx aH ab))) (by with_unfolding_all rfl)) (aA (aJ (cS (eAx (eIy (eVx 0) af) ab)))) bH) (ay (bD (fS (bY hr.units) (eIy (eVx 0) af) (cP (eAx aH (eAx aH (eAx aH (eAx aH ab))))) (by with_unfolding_all rfl)) (aA (aJ (eTs (pI rfl) T.z_list (eAx (eIy (eVx 0) af) ab)))) bH) (aA (aJ (cS ab)))))
theorem uj (T:Txt w K mg t):O P w K mg base t 34 1 bC :=
 (T.d 34 rfl).okN ["_law_signs"] (aM T) fun S hr=>aA (aJ (w6 (n:=2) (js:=[]) ["_law_name", "_law_sign"] [] (eIL (eVx 0)) (D7 (i:=0) (by decide +kernel) rfl rfl (D7 (i:=1) (by decide +kernel) rfl rfl HM)) (eC fun _ _ _ _=>(cP (eAx (eVx 0) (eAx (eIx l9 (cS (eA aH (eA aH ab rfl) rfl)) (eTs zV T.z_int (eA (nY (aC hr.units) (eVx 1) aH (cm _)) ab rfl)) (fun _ _=>rfl)) ab)))) rfl (Hu (sc:=ae jH) rfl (by decide +kernel)) trivial (fun _=>rfl) (fun _=>rfl) (fun _=>rfl)))
theorem v7 (T:Txt w K mg t):O P w K mg base t 35 1 a9 :=
 (T.d 35 rfl).okN ["_law_lists_here", "_law_found", "_law_some", "_law_one"] (aM T) fun S hr=>ay (eSx S.nd 1 Ff) (ay (eFx (eIL (eVx 0)) (eGx S.nd 2) (aA (eFx (eIL (eVx 2)) (eGx S.nd 3) (aA (E9 hr.units (eVx 1) (eVx 3) eBl rfl))))) (aA (aJ (eBs (rO hr.iu) T.z_sorted (eAx (eTs (tX rfl) T.z_list (eAx (eVx 1) ab)) ab)))))
theorem vv (T:Txt w K mg t) (G16:O P w K mg base t 16 15 bw) (G18:O P w K mg base t 18 12 bS) (G19:O P w K mg base t 19 12 aY) (G35:O P w K mg base t 35 1 a9) (G20:O P w K mg base t 20 12 bQ) (G24:O P w K mg base t 24 13 aG) (G21:O P w K mg base t 21 12 aI):O P w K mg base t 36 16 bA :=
 (T.d 36 rfl).okN ["_law_form_here", "_law_some", "_law_own", "_law_signs"] (aM T) fun S hr=>ay (bD (eW (og (eTx pP (eCx G16 hr (T.d 16 rfl) (eAx (eVx 0) ab)) eBl) (iS (eTx (lJ hr.units) (eCx G18 hr (T.d 18 rfl) (eAx (eVx 0) ab)) (eOp aq af (eBs (yT rfl) T.z_sum (eAx (eKx [] (eIL (eVx 1)) eT0 (eC fun _ _ _ _=>(eCl G18 hr (T.d 18 rfl).m (T.d 18 rfl).F.kp (T.d 18 rfl).b (eA (eVx 0) ab rfl))) (bsc (sc:=ae top_holds) rfl (by decide +kernel)) trivial) ab))))))) (aA (aJ eBl)) bH) (ay (bD (eTx (lJ hr.units) (eCx G19 hr (T.d 19 rfl) (eAx (eVx 0) ab)) (eCx G35 hr (T.d 35 rfl) (eAx (eOp aq (cS (eAx (eVx 2) ab)) (eKx [] (eIL (eVx 1)) eT0 (eC fun _ _ _ _=>(eCx G19 hr (T.d 19 rfl) (eAx (eVx 0) ab))) (bsc (sc:=ae top_holds) rfl (by decide +kernel)) trivial)) ab))) (aA (aJ eBl)) bH) (ay (bD (eW (og (eTx (lJ hr.units) (eCx G20 hr (T.d 20 rfl) (eAx (eVx 0) ab)) (eCx G35 hr (T.d 35 rfl) (eAx (eKx [] (eIL (eVx 1)) eT0 (eC fun _ _ _ _=>(eCx G20 hr (T.d 20 rfl) (eAx (eVx 0) ab))) (bsc (sc:=ae top_holds) rfl (by decide +kernel)) trivial) ab))) (iS (eTx (lJ hr.units) (eCx G24 hr (T.d 24 rfl) (eAx (eVx 0) ab)) (eVx 3))))) (aA (aJ eBl)) bH) (aA (aJ (nY (aC hr.units) (eCx G21 hr (T.d 21 rfl) (eAx (eVx 0) ab)) (nY (bY hr.units) eBl (eKx [] (eIL (eVx 1)) eT0 (eC fun _ _ _ _=>(eCx G21 hr (T.d 21 rfl) (eAx (eVx 0) ab))) (bsc (sc:=ae top_holds) rfl (by decide +kernel)) trivial) (by with_unfolding_all rfl)) (cm _))))))
theorem v5 (T:Txt w K mg t) (G35:O P w K mg base t 35 1 a9) (G24:O P w K mg base t 24 13 aG) (G34:O P w K mg base t 34 1 bC) (G36:O P w K mg base t 36 16 bA):O P w K mg base t 37 17 fb :=
 (T.d 37 rfl).okN ["_law_some", "_law_signs", "_law_other", "_law_both", "_law_word", "_law_due"] (aM T) fun S hr=>ay (eSx S.nd 1 (eCx G35 hr (T.d 35 rfl) (eAx (eKx [] (eIL (eVx 0)) eT0 (eC fun _ _ _ _=>(eCl G24 hr (T.d 24 rfl).m (T.d 24 rfl).F.kp (T.d 24 rfl).b (eA (eVx 0) ab rfl))) (bsc (sc:=ae lG) rfl (by decide +kernel)) trivial) ab))) (ay (eSx S.nd 2 (eBs (fy hr.iu) T.z_sorted (eAx (eCx G34 hr (T.d 34 rfl) (eAx (eVx 1) ab)) ab))) (ay (eSx S.nd 3 (eCx G35 hr (T.d 35 rfl) (eAx (cS (eAx (eVx 1) (eAx (eVx 2) ab))) ab))) (ay (eFx (eIL (cS (eAx (cP (eAx aH (eAx (eVx 1) ab))) (eAx (cP (eAx aH (eAx (eVx 1) ab))) (eAx (cP (eAx aH (eAx (eVx 2) ab))) (eAx (cP (eAx aH (eA (eVx 3) ab rfl))) ab)))))) (eGT (n:=2) rfl (Ak (i:=4) S.nd rfl (Or.inl rfl) (Or.inl rfl) (Ak (i:=5) S.nd rfl (Or.inl rfl) (Or.inl rfl) HE)) rfl rfl) (aA (bD (eM (eUx (eCx G36 hr (T.d 36 rfl) (eAx (cP (eAx (eVx 4) (eAx (eTs fC T.z_tuple (eAx (eVx 0) ab)) ab))) (eAx (eVx 0) (eAx (cS ab) (eAx (eVx 5) ab))))))) (aA (aJ eBl)) bH))) (aA (aJ eBl)))))
theorem ql (T:Txt w K mg t) (G31:O P w K mg base t 31 2 dN) (G24:O P w K mg base t 24 13 aG) (G35:O P w K mg base t 35 1 a9) (G34:O P w K mg base t 34 1 bC) (G36:O P w K mg base t 36 16 bA):O P w K mg base t 38 17 dJ :=
 (T.d 38 rfl).okN ["_law_pen_here", "_law_names_here", "_law_form_here", "_law_word", "_law_low", "_law_high", "_law_step", "_law_signs", "_law_both", "_law_due"] (aM T) fun S hr=>ay (zq (eCx G31 hr (T.d 31 rfl) (eAx (eVx 0) (eAx (eVx 1) ab))) (eGT (n:=4) rfl (Ak (i:=3) S.nd rfl (Or.inl rfl) (Or.inl rfl) (Ak (i:=4) S.nd rfl (Or.inl rfl) (Or.inl rfl) (Ak (i:=5) S.nd rfl (Or.inl rfl) (Or.inl rfl) (Ak (i:=6) S.nd rfl (Or.inl rfl) (Or.inl rfl) HE)))) rfl rfl) rfl rfl rfl) (ay (eSx S.nd 7 (eCx G24 hr (T.d 24 rfl) (eAx (eVx 2) ab))) (ay (eSx S.nd 8 (eCx G35 hr (T.d 35 rfl) (eAx (cS (eAx (eVx 7) (eAx (eCx G34 hr (T.d 34 rfl) (eAx (eVx 7) ab)) ab))) ab))) (ay (bD (eM (eUx (eCx G36 hr (T.d 36 rfl) (eAx (cP (eAx aH (eAx (eVx 4) (eAx (eVx 5) (eAx (eVx 6) (eA (eVx 2) ab rfl)))))) (eAx (cS (eAx (eVx 2) ab)) (eAx (cS (eAx (eVx 6) ab)) (eAx (eVx 7) ab))))))) (aA (aJ eBl)) bH) (ay (eSx S.nd 9 (eVx 7)) (ay (bD (eTx kJ (eVx 5) Dh) (aA (eSx S.nd 9 (eVx 8))) bH) (aA (aJ (eCx G36 hr (T.d 36 rfl) (eAx (cP (eAx aH (eAx (eVx 4) (eAx (eVx 5) (eAx (eVx 6) (eAx (eVx 2) ab)))))) (eAx (cS (eAx (eVx 2) ab)) (eAx (cS (eAx (eVx 6) ab)) (eAx (eVx 9) ab))))))))))))
theorem lA (T:Txt w K mg t) (G33:O P w K mg base t 33 1 gL) (G39:O P w K mg base t 39 (4+n) (aD n)):O P w K mg base t 39 (4+(n+1)) (aD (n+1)) :=
 ((T.d 39 rfl).okN ["_law_form_here", "_law_one", "_law_other", "_law_some"] (aM T) fun S hr=>ay (bD (eTx (aC hr.units) (eIy (eVx 0) af) aH) (aA (aJ (cP (eAx aH (eAx (eBM (xC (ePC (eVy 1) (eVy 2) (ePC (eVy 2) (eVy 1) ePN)) (by rfl) (by rfl) (by simp) (by decide)) (eAx (eIy (eVx 0) af) (eAx (eIx l9 (eVx 0) af (fun _ _=>rfl)) ab)) (rQ hr.units) PySem.F.plainAttrs_dict LG PySem.F.type_dict_get rfl rfl rfl rfl rfl) ab))))) bH) (ay (eSx S.nd 3 (eTs fC T.z_tuple (eAx (eKx ["_law_one", "_law_other"] (eIL (eCx G33 hr (T.d 33 rfl) (eAx (eVx 0) ab))) eT0 (eC fun _ _ _ _=>(eCx G39 hr (T.d 39 rfl) (eAx (eVx 0) (eA (eVy 1) (eA (eVy 2) ab rfl) rfl)))) (bsc (sc:=ae fq) rfl (by decide +kernel)) ⟨rfl,.inl ⟨rfl,rfl⟩,⟨rfl,.inl ⟨rfl,rfl⟩,trivial⟩⟩) ab))) (ay (bD (eTx (aC hr.units) (eIy (eVx 0) af) aH) (aA (aJ (eOp aq (cP (eAx aH ab)) (eVx 3)))) bH) (ay (bD (fS (bY hr.units) (eIy (eVx 0) af) (cP (eAx aH (eAx aH ab))) (by with_unfolding_all rfl)) (aA (aJ (eOp aq (eSl (orS gm (orS df gr)) (eVx 0) ym (eP af)) (eVx 3)))) bH) (ay (bD (fS (bY hr.units) (eIy (eVx 0) af) (cP (eAx aH (eAx aH (eAx aH (eAx aH ab))))) (by with_unfolding_all rfl)) (aA (aJ (cP (eAx (eIy (eVx 0) af) (eAx (eVx 3) ab))))) bH) (aA (aJ (eVx 0))))))):O P w K mg base t 39 ((4+n)+1) (aD (n+1))).mono (by omega)
theorem nM (T:Txt w K mg t):O P w K mg base t 39 (3+1) (aD 0) :=
 gE.no (k:=3) (T.d 39 rfl).F (scm (N:=["_law_form_here", "_law_one", "_law_other", "_law_some"])) fun vs H Q E h=>by obtain ⟨G,ds,is,pr,outs,hF,_⟩:=h;cases hF
theorem zX (T:Txt w K mg t):O P w K mg base t 40 1 jT :=
 (T.d 40 rfl).okN ["_law_found", "_law_due"] (aM T) fun S hr=>aA (aJ (nN (eIz T.z_isinstance (eVx 0) T.z_bool) (nA (nY (aC hr.units) (eVx 0) (eVx 1) (cm _)))))
theorem Ap (T:Txt w K mg t) (G25:O P w K mg base t 25 1 ou) (G27:O P w K mg base t 27 2 gJ) (G32:O P w K mg base t 32 16 (bt 9)) (G26:O P w K mg base t 26 1 ag) (G24:O P w K mg base t 24 13 aG) (G36:O P w K mg base t 36 16 bA) (G34:O P w K mg base t 34 1 bC) (G19:O P w K mg base t 19 12 aY) (G21:O P w K mg base t 21 12 aI) (G40:O P w K mg base t 40 1 jT) (G16:O P w K mg base t 16 15 bw) (G39:O P w K mg base t 39 13 (aD 9)) (G37:O P w K mg base t 37 17 fb) (G38:O P w K mg base t 38 17 dJ):O P w K mg base t 41 18 rV :=
 (T.d 41 rfl).okN ["_law_script", "_law_pen_here", "_law_names_here", "_law_some", "_law_plain", "_law_form_here", "_law_signs", "_law_free", "_law_word", "_law_swap", "_law_due", "_law_many", "_gh"] (aM T) fun S hr=>ay (eSy S.nd 1 (eCx G25 hr (T.d 25 rfl) (eAx (eVx 0) ab))) (ay (eSy S.nd 2 (eCx G27 hr (T.d 27 rfl) (eAx (eVy 1) (eAx af ab)))) (ay (BE (i:=3) ["_law_pen_here", "_law_names_here", "_gh"] (eR1 rfl T.z_range (eAx af ab) rfl) eT0 (eC fun _ _ _ _=>(Hz (i1:=1) (i2:=2) (h:=3) (g := "_gh") (f:=(bt 9)) (K:=K) (fun t ha=>vO G32 (hr.mono (by omega)) rfl (T.d 32 rfl).m (T.d 32 rfl).F.kp (T.d 32 rfl).b .nil u5 ha rfl rfl rfl) rfl (BG rfl) (by decide) (by decide) rfl rfl rfl (eVy 1) (eVy 2) (cS (eAx af ab)) (eAx (eOp aq af (eCx G26 hr (T.d 26 rfl) (eAx (eVy 1) (eAx af ab)))) (eAx eBl ab)))) S.nd rfl rfl rfl rfl (bsc (sc:=ae my) rfl (by decide +kernel)) (by decide +kernel) ⟨rfl,.inl ⟨rfl,rfl⟩,⟨rfl,.inl ⟨rfl,rfl⟩,⟨rfl,.inr (EM rfl),trivial⟩⟩⟩ (fun _=>rfl)) (ay (eSx S.nd 4 (Hz (i1:=1) (i2:=2) (h:=12) (g := "_gh") (f:=(bt 9)) (K:=K) (fun t ha=>vO G32 (hr.mono (by omega)) rfl (T.d 32 rfl).m (T.d 32 rfl).F.kp (T.d 32 rfl).b .nil u5 ha rfl rfl rfl) rfl (BG rfl) (by decide) (by decide) rfl rfl rfl (eVy 1) (eVy 2) (cS (eAx af ab)) (eAx af (eAx eBl ab)))) (ay (eFx (eIL (eOp aq (eVx 3) (cS (eAx (eVx 4) ab)))) (eGx S.nd 5) (ay (eSx S.nd 6 (eCx G24 hr (T.d 24 rfl) (eAx (eVx 5) ab))) (ay (bD (eM (eUx (eCx G36 hr (T.d 36 rfl) (eAx (cP (eAx aH (eAx (eVx 5) ab))) (eAx (cS (eAx (eVx 5) ab)) (eAx (cS ab) (eAx (eBs (fy hr.iu) T.z_sorted (eAx (eCx G34 hr (T.d 34 rfl) (eAx (eVx 6) ab)) ab)) ab))))))) (aA (aJ eBl)) bH) (ay (bD (eM (eUx (eCx G36 hr (T.d 36 rfl) (eAx (cP (eAx aH (eAx (cP (eAx aH (eAx (eVx 5) ab))) ab))) (eAx (cS (eAx (cP (eAx aH (eAx (eVx 5) ab))) ab)) (eAx (cS ab) (eAx (eVx 6) ab))))))) (aA (aJ eBl)) bH) (ay (eSx S.nd 7 (nN (nY (aC hr.units) (eCx G19 hr (T.d 19 rfl) (eAx (eVx 5) ab)) (cS ab) (cm _)) (nA (D5 (eCx G21 hr (T.d 21 rfl) (eAx (eVx 5) ab)))))) (ay (eSx S.nd 8 (eIy (cS (eAx aH (eAx aH ab))) (eCx G26 hr (T.d 26 rfl) (eAx (eVy 1) (eAx af ab))))) (ay (bD (eM (eUx (eCx G40 hr (T.d 40 rfl) (eAx (eCx G16 hr (T.d 16 rfl) (eAx (cP (eAx (eVx 8) (eAx af (eAx Dh (eAx (eIy (eVy 2) af) (eAx (eVx 5) ab)))))) ab)) (eAx (eVx 7) ab))))) (aA (aJ eBl)) bH) (ay (eSy S.nd 9 (xC (ePC (eIy (eVy 2) af) (eIy (eVy 2) af) (ePC (eIy (eVy 2) af) (eIy (eVy 2) af) ePN)) (by rfl) (by rfl) (by simp) (by decide))) (ay (eSx S.nd 10 (eBs (fy hr.iu) T.z_sorted (eAx (w6 (n:=2) (js:=[9]) ["_law_name", "_law_sign"] ["_law_swap"] (eIL (eVx 6)) (D7 (i:=0) (by decide +kernel) rfl rfl (D7 (i:=1) (by decide +kernel) rfl rfl HM)) (eC fun _ _ _ _=>(cP (eAx (eBM (eVy 2) (eAx (eVx 0) (eAx (eVx 0) ab)) (rQ hr.units) PySem.F.plainAttrs_dict LG PySem.F.type_dict_get rfl rfl rfl rfl rfl) (eAx (eVx 1) ab)))) rfl (Hu (sc:=ae my) rfl (by decide +kernel)) ⟨rfl,.inl ⟨rfl,rfl⟩,trivial⟩ (fun _=>rfl) (fun _=>rfl) (fun _=>rfl)) ab))) (aA (bD (eTx (lJ hr.units) (eCx G24 hr (T.d 24 rfl) (eAx (eCx G39 hr (T.d 39 rfl) (eAx (eVx 5) (eAx (eIy (eVy 2) af) (eAx (eIy (eVy 2) af) ab)))) ab)) (eVx 10)) (aA (aJ eBl)) bH))))))))))) (ay (eSx S.nd 11 (eOp aq af (eCx G26 hr (T.d 26 rfl) (eAx (eVy 1) (eAx af ab))))) (aA (aJ (nN (eCx G37 hr (T.d 37 rfl) (eAx (eSl (orS gm (orS df gr)) (eVx 3) ym (eP (eVx 11))) ab)) (nN (eCx G37 hr (T.d 37 rfl) (eAx (eOp aq (cS (eAx (eVx 4) ab)) (eSl (orS gm (orS df gr)) (eVx 3) (eP (eVx 11)) ym)) ab)) (nA (eCx G38 hr (T.d 38 rfl) (eAx (eVy 1) (eAx (eVy 2) (eAx (eVx 4) ab))))))))))))))
end
theorem CI {P:Program} {w:World} {K:Fg} {mg:Str->Option Value} {base:Heap} {t:Adr} (T:Txt w K mg t):gE P w K mg base CX0 18 (t.f 41).1 (t.f 41).2 ["_law_script"] (xV K):=by
 have h0:=Dr (P:=P) (w:=w) (base:=base) T;have h1:=zW (P:=P) (w:=w) (base:=base) T;have h2:=vK T h1;have h3:=qO T h1;have h4:=zm T h1 h3;have h5:=DI T h1 h3 h4;have h6:=vB T h1;have m_form:∀ n,O P w K mg base t 32 (7+n) (bt n):=by
  intro n;induction n with
  | zero=>exact (BM T).mono (by omega)
  | succ n h7 =>
   exact (ye (n:=n) T h1 h5 h7 h6).mono (by omega)
 have h7:=m_form 9;have h8:=fL (P:=P) (w:=w) (base:=base) T;have h9:=g7 (P:=P) (w:=w) (base:=base) T;have m_signed_names:∀ n,O P w K mg base t 23 (3+n) (ao n):=by
  intro n;induction n with
  | zero=>exact (jb T).mono (by omega)
  | succ n h10 =>
   exact (iA (n:=n) T h8 h10 h9).mono (by omega)
 have h10:=m_signed_names 9;have h11:=mC T h10;have h12:=lN (P:=P) (w:=w) (base:=base) T;have h13:=lX T h12;have h14:=nP (P:=P) (w:=w) (base:=base) T;have h15:=kK T h14;have h16:=i8 (P:=P) (w:=w) (base:=base) T;have h17:=p4 T h16;have h18:=pU T h16;have h19:=qh T h17 h15 h18;have h20:=eG T h17;have h21:=jS T h14;have h22:=ja (P:=P) (w:=w) (base:=base) T;have h23:=p6 T h22;have h24:=pW T h17 h23;have h25:=fY T h15 h19 h17 h20 h21 h24;have m_forms_counted:∀ n,O P w K mg base t 15 (5+n) (ah n):=by
  intro n;induction n with
  | zero=>exact (ij T).mono (by omega)
  | succ n h26 =>
   exact (gB (n:=n) T h13 h25 h8 h26).mono (by omega)
 have h26:=m_forms_counted 9;have h27:=qf T h26;have m_forms_in:∀ n,O P w K mg base t 17 (2+n) (ar n):=by
  intro n;induction n with
  | zero=>exact (pM T).mono (by omega)
  | succ n h28 =>
   exact (mQ (n:=n) T h8 h28).mono (by omega)
 have h28:=m_forms_in 9;have h29:=ml T h28;have h30:=mZ T h28;have h31:=v7 (P:=P) (w:=w) (base:=base) T;have h32:=mT T h28;have h33:=kB T h28;have h34:=vv T h27 h29 h30 h31 h32 h11 h33;have h35:=uj (P:=P) (w:=w) (base:=base) T;have h36:=zX (P:=P) (w:=w) (base:=base) T;have h37:=wm (P:=P) (w:=w) (base:=base) T;have m_exchanged:∀ n,O P w K mg base t 39 (4+n) (aD n):=by
  intro n;induction n with
  | zero=>exact (nM T).mono (by omega)
  | succ n h38 =>
   exact (lA (n:=n) T h37 h38).mono (by omega)
 have h38:=m_exchanged 9;have h39:=v5 T h31 h11 h35 h34;have h40:=ql T h6 h11 h31 h35 h34;have h41:=Ap T h0 h2 h7 h1 h11 h34 h35 h30 h33 h36 h27 h38 h39 h40;exact h41
theorem Dx {w:World} {K:Fg} {h:Heap} {mg:Str->Option Value} (X:K.In h) (G:h.Ns mainGlobals mg) (D:An K mg dfs)
  (z_abs:PySem.W.nsIn K mainGlobals "abs" = some none)
  (z_all:PySem.W.nsIn K mainGlobals "all" = some none)
  (z_any:PySem.W.nsIn K mainGlobals "any" = some none)
  (z_bool:PySem.W.nsIn K mainGlobals "bool" = some none)
  (z_int:PySem.W.nsIn K mainGlobals "int" = some none)
  (z_isinstance:PySem.W.nsIn K mainGlobals "isinstance" = some none)
  (z_len:PySem.W.nsIn K mainGlobals "len" = some none)
  (z_list:PySem.W.nsIn K mainGlobals "list" = some none)
  (z_min:PySem.W.nsIn K mainGlobals "min" = some none)
  (z_range:PySem.W.nsIn K mainGlobals "range" = some none)
  (z_set:PySem.W.nsIn K mainGlobals "set" = some none)
  (z_sorted:PySem.W.nsIn K mainGlobals "sorted" = some none)
  (z_str:PySem.W.nsIn K mainGlobals "str" = some none)
  (z_sum:PySem.W.nsIn K mainGlobals "sum" = some none)
  (z_tuple:PySem.W.nsIn K mainGlobals "tuple" = some none)
  {tk_BACK:Tok} (g_BACK:PySem.W.nsIn K mainGlobals "BACK" = some (some (Value.str "^" tk_BACK)))
  {tk_DEEPEST:Tok} (g_DEEPEST:PySem.W.nsIn K mainGlobals "DEEPEST" = some (some (Value.int 8 tk_DEEPEST)))
  {tk_GREATEST_NUMBER:Tok} (g_GREATEST_NUMBER:PySem.W.nsIn K mainGlobals "GREATEST_NUMBER" = some (some (Value.int 999999999999999999999999999999 tk_GREATEST_NUMBER)))
  {tk_MOST_BONDS:Tok} (g_MOST_BONDS:PySem.W.nsIn K mainGlobals "MOST_BONDS" = some (some (Value.int 8 tk_MOST_BONDS)))
  {tk_MOST_ENDS:Tok} (g_MOST_ENDS:PySem.W.nsIn K mainGlobals "MOST_ENDS" = some (some (Value.int 60 tk_MOST_ENDS)))
  {tk_MOST_FORMS:Tok} (g_MOST_FORMS:PySem.W.nsIn K mainGlobals "MOST_FORMS" = some (some (Value.int 40 tk_MOST_FORMS)))
  {tk_MOST_LETTERS:Tok} (g_MOST_LETTERS:PySem.W.nsIn K mainGlobals "MOST_LETTERS" = some (some (Value.int 8 tk_MOST_LETTERS)))
  {tk_MOST_LISTED:Tok} (g_MOST_LISTED:PySem.W.nsIn K mainGlobals "MOST_LISTED" = some (some (Value.int 6 tk_MOST_LISTED)))
  {ca_LISTS:Addr} (g_LISTS:PySem.W.nsIn K mainGlobals "LISTS" = some (some (.ref ca_LISTS)))
  {od_LISTS:Option Addr} {sl_LISTS:Array (Option Value)} {nn_LISTS:Nat} {tt_LISTS_0:Tok} {tt_LISTS_1:Tok} {tt_LISTS_2:Tok} {tt_LISTS_3:Tok} (s_LISTS:K.lookup ca_LISTS=some ⟨.type "tuple", od_LISTS,.seq #[.str "all" tt_LISTS_0,.str "some" tt_LISTS_1,.str "one" tt_LISTS_2,.str "none" tt_LISTS_3] nn_LISTS,sl_LISTS⟩)
  {ca_WALKS:Addr} (g_WALKS:PySem.W.nsIn K mainGlobals "WALKS" = some (some (.ref ca_WALKS)))
  {od_WALKS:Option Addr} {sl_WALKS:Array (Option Value)} {nn_WALKS:Nat} {tt_WALKS_0:Tok} {tt_WALKS_1:Tok} (s_WALKS:K.lookup ca_WALKS=some ⟨.type "tuple", od_WALKS,.seq #[.str "many" tt_WALKS_0,.str "each" tt_WALKS_1] nn_WALKS,sl_WALKS⟩)
  {ca_LENGTHS:Addr} (g_LENGTHS:PySem.W.nsIn K mainGlobals "LENGTHS" = some (some (.ref ca_LENGTHS)))
  {es_LENGTHS:Array DictEntry} {dn_LENGTHS:Nat} {dt_LENGTHS_0:Tok} {dt_LENGTHS_1:Tok} {dt_LENGTHS_2:Tok} {dt_LENGTHS_3:Tok} {dt_LENGTHS_4:Tok} {dt_LENGTHS_5:Tok} {dt_LENGTHS_6:Tok} {dt_LENGTHS_7:Tok} {dt_LENGTHS_8:Tok} {dt_LENGTHS_9:Tok} {dt_LENGTHS_10:Tok} {dt_LENGTHS_11:Tok} {dt_LENGTHS_12:Tok} {dt_LENGTHS_13:Tok} {dt_LENGTHS_14:Tok} {dt_LENGTHS_15:Tok} (d_LENGTHS:K.lookup ca_LENGTHS=some ⟨.type "dict", none,.dict es_LENGTHS dn_LENGTHS,#[]⟩) (q_LENGTHS:PySem.W.KeysLit w.params es_LENGTHS.toList) (y_LENGTHS:(ca_LENGTHS==sysModules)=false) (n_LENGTHS:es_LENGTHS.toList.map zL=fv.map fun p=>some p.1) (v_LENGTHS_0:PySem.W.nsIn K ca_LENGTHS "any" = some (some (Value.int 1 dt_LENGTHS_0))) (v_LENGTHS_1:PySem.W.nsIn K ca_LENGTHS "thing" = some (some (Value.int 1 dt_LENGTHS_1))) (v_LENGTHS_2:PySem.W.nsIn K ca_LENGTHS "number" = some (some (Value.int 1 dt_LENGTHS_2))) (v_LENGTHS_3:PySem.W.nsIn K ca_LENGTHS "said" = some (some (Value.int 1 dt_LENGTHS_3))) (v_LENGTHS_4:PySem.W.nsIn K ca_LENGTHS "from" = some (some (Value.int 2 dt_LENGTHS_4))) (v_LENGTHS_5:PySem.W.nsIn K ca_LENGTHS "upto" = some (some (Value.int 2 dt_LENGTHS_5))) (v_LENGTHS_6:PySem.W.nsIn K ca_LENGTHS "is" = some (some (Value.int 2 dt_LENGTHS_6))) (v_LENGTHS_7:PySem.W.nsIn K ca_LENGTHS "keeps" = some (some (Value.int 2 dt_LENGTHS_7))) (v_LENGTHS_8:PySem.W.nsIn K ca_LENGTHS "not" = some (some (Value.int 2 dt_LENGTHS_8))) (v_LENGTHS_9:PySem.W.nsIn K ca_LENGTHS "all" = some (some (Value.int 2 dt_LENGTHS_9))) (v_LENGTHS_10:PySem.W.nsIn K ca_LENGTHS "some" = some (some (Value.int 2 dt_LENGTHS_10))) (v_LENGTHS_11:PySem.W.nsIn K ca_LENGTHS "one" = some (some (Value.int 2 dt_LENGTHS_11))) (v_LENGTHS_12:PySem.W.nsIn K ca_LENGTHS "none" = some (some (Value.int 2 dt_LENGTHS_12))) (v_LENGTHS_13:PySem.W.nsIn K ca_LENGTHS "many" = some (some (Value.int 5 dt_LENGTHS_13))) (v_LENGTHS_14:PySem.W.nsIn K ca_LENGTHS "each" = some (some (Value.int 5 dt_LENGTHS_14))) (v_LENGTHS_15:PySem.W.nsIn K ca_LENGTHS "closed" = some (some (Value.int 2 dt_LENGTHS_15)))
  {ca_TURNED:Addr} (g_TURNED:PySem.W.nsIn K mainGlobals "TURNED" = some (some (.ref ca_TURNED)))
  {es_TURNED:Array DictEntry} {dn_TURNED:Nat} {dt_TURNED_0:Tok} {dt_TURNED_1:Tok} (d_TURNED:K.lookup ca_TURNED=some ⟨.type "dict", none,.dict es_TURNED dn_TURNED,#[]⟩) (q_TURNED:PySem.W.KeysLit w.params es_TURNED.toList) (y_TURNED:(ca_TURNED==sysModules)=false) (n_TURNED:es_TURNED.toList.map zL=gR.map fun p=>some p.1) (v_TURNED_0:PySem.W.nsIn K ca_TURNED "with" = some (some (Value.str "against" dt_TURNED_0))) (v_TURNED_1:PySem.W.nsIn K ca_TURNED "against" = some (some (Value.str "with" dt_TURNED_1)))
  : ∃ t:Adr,(∀ (s:Shared) (u:Value),BindsTo s (t.f 41).2 ⟨[u],[]⟩ [("_law_script", u)])/\Txt w K mg t:=by
 obtain ⟨f,hf⟩:=Je D
 exact ⟨⟨f,ca_LISTS,ca_WALKS,ca_LENGTHS,ca_TURNED,tk_BACK,tk_DEEPEST,tk_GREATEST_NUMBER,tk_MOST_BONDS,tk_MOST_ENDS,tk_MOST_FORMS,tk_MOST_LETTERS,tk_MOST_LISTED⟩,fun s u=>.of_eq ((hf 41 rfl).c [u] rfl),⟨hf,
  Ke X G z_abs,
  Ke X G z_all,
  Ke X G z_any,
  Ke X G z_bool,
  Ke X G z_int,
  Ke X G z_isinstance,
  Ke X G z_len,
  Ke X G z_list,
  Ke X G z_min,
  Ke X G z_range,
  Ke X G z_set,
  Ke X G z_sorted,
  Ke X G z_str,
  Ke X G z_sum,
  Ke X G z_tuple,
  KC X G g_BACK,
  KC X G g_DEEPEST,
  KC X G g_GREATEST_NUMBER,
  KC X G g_LENGTHS,
  KC X G g_LISTS,
  KC X G g_MOST_BONDS,
  KC X G g_MOST_ENDS,
  KC X G g_MOST_FORMS,
  KC X G g_MOST_LETTERS,
  KC X G g_MOST_LISTED,
  KC X G g_TURNED,
  KC X G g_WALKS,
  ⟨_,_,d_LENGTHS,q_LENGTHS,y_LENGTHS,DM n_LENGTHS (fun p hp=>by unfold fv at hp;simp only [JJ,KA,Lk] at hp;rcases hp with rfl | rfl | rfl | rfl | rfl | rfl | rfl | rfl | rfl | rfl | rfl | rfl | rfl | rfl | rfl | rfl <;> exact ⟨_,PySem.W.find_K d_LENGTHS (by assumption),_,rfl⟩)⟩,
  ⟨_,_,d_TURNED,q_TURNED,y_TURNED,DM n_TURNED (fun p hp=>by unfold gR at hp;simp only [JJ,KA,Lk] at hp;rcases hp with rfl | rfl <;> exact ⟨_,PySem.W.find_K d_TURNED (by assumption),_,rfl⟩)⟩,
  fun H=>Or.inr ⟨_,_,_,s_LISTS,rfl,rfl,(by show 4<=sizeLine;decide),(.cons ⟨_,rfl⟩ (.cons ⟨_,rfl⟩ (.cons ⟨_,rfl⟩ (.cons ⟨_,rfl⟩ .nil))))⟩,
  fun H=>Or.inr ⟨_,_,_,s_WALKS,rfl,rfl,(by show 2<=sizeLine;decide),(.cons ⟨_,rfl⟩ (.cons ⟨_,rfl⟩ .nil))⟩⟩⟩
local macro_rules | `(tactic| walk_at "e")=>`(tactic| (case e9=>exact rfl))
local macro_rules | `(tactic| walk_at "p")=>`(tactic| first | with_reducible refine zC ?_ | walk_at "p0")
local macro_rules | `(tactic| walk_at "p0")=>`(tactic| first
 | (with_reducible first | refine B6 ?_ | refine wZ ?_ | refine C4 ?_ | refine AZ ?_ | refine CM ?_ | refine EI ?_ | refine CN ?_ | refine FD ?_ | refine IS ?_ | refine Gw ?_ | refine GQ ?_ | refine Er ?_ | refine Aq ?_ | refine F8 ?_)
 | ((with_reducible refine w_var (d:=?d9) ?e9 ?_);walk_at "e") | ((with_reducible refine DK (d:=?d9) ?e9 ?_);walk_at "e") | ((with_reducible refine Ck (d:=?d9) ?e9 ?_);walk_at "e") | ((with_reducible refine CC (d:=?d9) ?e9 ?_);walk_at "e")
 | ((with_reducible refine E8 (d:=?d9) ?e9 ?_);walk_at "e") | ((with_reducible refine Es (d:=?d9) ?e9 ?_);walk_at "e") | ((with_reducible refine Et (d:=?d9) ?e9 ?_);walk_at "e")
 | (with_reducible first | refine E5 ?_ | refine xI ?_ | refine F7 ?_) | ((with_reducible refine EX (d:=?d9) ?e9 ?f9 ?_);walk_at "e"; (case f9=>exact rfl))
 | (with_reducible first | refine B0 ?_ | refine DE ?_ | refine Gb ?_ | refine DG ?_ | refine EG ?_ | refine DJ ?_ | refine Df ?_ | refine EL ?_ | refine FG rfl ?_ | refine CG rfl ?_ | refine EH ?_ | refine w_and ?_ | refine w_or ?_ | refine w_not ?_ | refine Fc ?_ | refine IC ?_ | refine Iu ?_ | refine IM ?_ | refine Ib ?_)
 | walk_at "q")
local macro_rules | `(tactic| walk_at "q0")=>`(tactic| first
 | ((with_reducible refine qJ ?e9 ?_);walk_at "e") | ((with_reducible refine je ?e9 ?_);walk_at "e")
 | ((show WPr _ _ _ _);refine ⟨_,_,rfl,rfl,?_⟩) | ((show WPr _ _ _ _);(refine ⟨_,_,rfl,Jx ?c9,?_⟩);(case c9=>walk_at "c")) | ((show DO _ _ _ _);refine ⟨_,_,rfl,rfl,?_⟩) | ((show vp _ _ _);refine ⟨_,rfl,?_⟩) | ((show D0 _ _ _ _ _ _ _);refine ⟨_,rfl,rfl,?_⟩) | ((show Dj _ _ _ _ _ _);refine ⟨_,_,_,rfl,rfl,rfl,?_⟩) | ((show B9 _ _ _ _ _ _);refine ⟨_,rfl,rfl,?_⟩) | ((show Cc _ _ _ _ _);refine ⟨_,_,_,rfl,rfl,rfl,?_⟩) | ((show WMr _ _ _ _ _);refine ⟨_,_,_,_,rfl,rfl,rfl,?_⟩) | ((show WTp _ _ _ _);refine ⟨_,rfl,LH rfl,?_⟩) | ((show DS _ _ _ _);refine ⟨_,_,rfl,rfl,?_⟩) | ((show Af _ _ _ _);refine ⟨_,rfl,rfl,?_⟩) | ((show sU _ _ _ _);refine ⟨_,rfl,rfl,?_⟩)
 | ((with_reducible refine ⟨_,rfl,?_⟩)))
local macro_rules | `(tactic| walk_at "pp")=>`(tactic| repeat walk_at "p")
local macro_rules | `(tactic| walk_at "c")=>`(tactic| first | exact rfl | assumption | (simp only [mulC,Mc,JU,KQ] <;> omega))
local macro_rules | `(tactic| walk_at "pz")=>`(tactic| repeat walk_at "p0")
local macro_rules | `(tactic| walk_at "n=")=>`(tactic| ((try dsimp only [Cst.i,Cst.s,Cst.b,Cst.n,RV.av,aj,List.replicate_succ,List.replicate_zero,cJ,gq,aP,cg,nJ,List.set_cons_zero,List.set_cons_succ,List.getElem?_cons_zero,List.getElem?_cons_succ,List.map_cons,List.map_nil,List.tail_cons,Option.getD_some,decide_true,decide_false,List.drop_succ_cons,List.drop_zero]);exact rfl))
local macro_rules | `(tactic| walk_at "n")=>`(tactic| ((with_reducible first | refine C6 (e':=?e9) ?h9 ?_ | refine y8 (e':=?e9) ?h9 ?_ | refine C2 (e':=?e9) ?h9 ?_ | refine Ir (e':=?e9) ?h9 ?_ | refine Iy (e':=?e9) ?h9 ?_ | refine Io (e':=?e9) ?h9 ?_ | refine IQ (e':=?e9) ?h9 ?_ | refine IU (e':=?e9) ?h9 ?_ | refine Ey (e':=?e9) ?h9 ?_ | refine zp (e':=?e9) ?h9 ?_ | refine FK (e':=?e9) ?h9 ?_ | refine Ex (e':=?e9) ?h9 ?_ | refine EU (e':=?e9) ?h9 ?_ | refine Bx (e':=?e9) ?h9 ?_ | refine BL (e':=?e9) ?h9 ?_ | refine zA (e':=?e9) ?h9 ?_ | refine AJ (e':=?e9) ?h9 ?_ | refine AN (e':=?e9) ?h9 ?_ | refine BB (e':=?e9) ?h9 ?_);(case h9=>walk_at "n=")))
local macro_rules | `(tactic| walk_at "soft")=>`(tactic| first | exact FV | exact uP | exact Gd | assumption)
local macro_rules | `(tactic| walk_at "l")=>`(tactic| (rename_i h9;apply kE.out h9;clear h9;dsimp only [vS];intros))
local macro_rules | `(tactic| walk_at "L1")=>`(tactic| first | exact (rfl:kE [] []) | refine ⟨_,?_,rfl⟩ | ((refine ⟨_,_,?s9,?_,rfl⟩);(case s9=>walk_at "soft")))
local macro_rules | `(tactic| walk_at "L")=>`(tactic| repeat walk_at "L1")
local macro_rules | `(tactic| walk_at "q")=>`(tactic| first | walk_at "q0" | ((show HI _ _ _ _);refine ⟨_,_,_,rfl,rfl,rfl,?_⟩) | ((show GZ _ _ _ _ _);refine ⟨_,_,rfl,rfl,?_⟩) | ((show Af _ _ _ _);(refine ⟨_,rfl,vJ rfl ?s9,?_⟩);(case s9=>walk_at "soft")) | ((show sU _ _ _ _);(refine ⟨_,rfl,vJ rfl ?s9,?_⟩);(case s9=>walk_at "soft")))
local macro_rules | `(tactic| walk_at "fT1")=>`(tactic| ((refine qt ?f9 ?_);(case f9=>((refine vJ rfl ?s9);(case s9=>walk_at "soft")))))
local macro_rules | `(tactic| walk_at "fT")=>`(tactic| ((refine Dw (e2:=?e9) ?h9 ?_);(case h9=>((repeat walk_at "fT1");exact rfl))))
local macro_rules | `(tactic| walk_at "f")=>`(tactic| ((refine FU ?h9 ?_);(case h9=>((refine vJ rfl ?s9);(case s9=>walk_at "soft")));walk_at "n"))
local macro_rules | `(tactic| walk_at "ps1")=>`(tactic| ((fail_if_success (with_reducible refine isEq ?_));walk_at "p"))
local macro_rules | `(tactic| walk_at "ps")=>`(tactic| repeat walk_at "ps1")
noncomputable def chB (c:Nat):Bool:=decide (97<=c)&&decide (c<=122)
noncomputable def kH (d:PyData) (k:Int):Bool:=match d with
 | .str x=>decide (k<=(x.length:Int))&&(decide ((x.length:Int)<=8)&&x.cps.toList.all chB)
 | _=>false
theorem ID (c:Nat):leS (Str.ofString "a") ⟨#[c]⟩=decide (97<=c):=by
 have e:(Str.ofString "a").cps.toList=[97]:=by decide +kernel
 unfold leS;rw [e];by_cases h:97<=c
 ·rw [J2 h,Kf]
  ·rfl
  ·intro z;have:c < 97:=by simpa [Mf] using z
   omega
 ·rw [Kf h,J2]
  ·rfl
  ·simp [Mf];omega
theorem IX (c:Nat):leS ⟨#[c]⟩ (Str.ofString "z")=decide (c<=122):=by
 have e:(Str.ofString "z").cps.toList=[122]:=by decide +kernel
 unfold leS;rw [e];by_cases h:c<=122
 ·rw [J2 h,Kf]
  ·rfl
  ·intro z;have:122 < c:=by simpa [Mf] using z
   omega
 ·rw [Kf h,J2]
  ·rfl
  ·simp [Mf];omega
theorem d7 {d:PyData} {k:Int} {Q:PR->List PyData->Prop} (q:Q (.dat (.bool (kH d k))) []):WF aR [d,.int k] Q:=by
 refine cU rfl ?_;unfold d6;cases d with
 | str x =>
  replace q:Q (.dat (.bool (decide (k<=(x.length:Int))&&(decide ((x.length:Int)<=8)&&x.cps.toList.all chB)))) []:=q;walk_at "pp";refine fF (fun c1=>?_) (fun c1=>?_)
  ·have c1:decide (k<=(x.length:Int))=true:=c1;walk_at "pp";rw [c1,LM] at q;refine fF (fun c2=>?_) (fun c2=>?_)
   ·have c2:(!decide ((x.length:Int)<=8))=true:=c2;have c2:decide ((x.length:Int)<=8)=false:=by simpa using c2
    walk_at "pp";rw [c2] at q;exact q
   ·have c2:(!decide ((x.length:Int)<=8))=false:=c2;have c2:decide ((x.length:Int)<=8)=true:=by simpa using c2
    rw [c2,LM] at q;walk_at "pp";refine iU (fun i ys ec=>ys=((x.cps.toList.take i).map chB).map .bool/\ec=[]) ⟨rfl,rfl⟩ ?_ ?_
    ·rintro i d ys ec hd ⟨rfl,rfl⟩;rw [Jw] at hd;obtain ⟨c,hc,rfl⟩:=JM.mp hd;have e0:((x.cps.toList.take (i+1)).map chB).map PyData.bool=((x.cps.toList.take i).map chB).map PyData.bool++[.bool (chB c)]:=by rw [<- LI hc,Kb,Kb];rfl
     refine bW ?_;walk_at "pp";have e1:=ID c;have e2:=IX c;refine fF (fun d1=>?_) (fun d1=>?_)
     ·have d1:leS (Str.ofString "a") ⟨#[c]⟩=true:=d1;walk_at "pp";refine ⟨?_,rfl⟩;rw [e0];unfold chB;rw [<- e1,d1,<-e2];rfl
     ·have d1:leS (Str.ofString "a") ⟨#[c]⟩=false:=d1;walk_at "pp";refine ⟨?_,rfl⟩;rw [e0];unfold chB;rw [<- e1,d1];rfl
    ·rintro ys ec ⟨rfl,rfl⟩;rw [Jm,K9];walk_at "n";walk_at "pp";refine w_all (bs:=x.cps.toList.map chB) rfl ?_;have e3:(x.cps.toList.map chB).all id=x.cps.toList.all chB:=by rw [List.all_map];rfl
     rw [e3];walk_at "pp";exact q
  ·have c1:decide (k<=(x.length:Int))=false:=c1;walk_at "pp";rw [c1] at q;exact q
 | _ =>
  walk_at "pp";exact q
theorem dR {d:PyData} {Q:PR->List PyData->Prop} (q:Q (.dat (.bool (kH d 1))) []):WF aT [d] Q:=by
 refine cU rfl ?_;unfold jj;walk_at "pp";refine aa (is:=[]) rfl rfl (d7 ⟨rfl,?_⟩);walk_at "pp";exact q
noncomputable def whB:PyData->Bool
 | .int _=>true
 | _=>false
theorem eK {d:PyData} {Q:PR->List PyData->Prop} (q:Q (.dat (.bool (whB d))) []):WF ba [d] Q:=by
 refine cU rfl ?_;unfold hG;cases d <;> (walk_at "pp"; exact q)
noncomputable def DV:PyData->Bool
 | .int i=>decide ((if i < 0 then -i else i)<=999999999999999999999999999999)
 | _=>false
theorem f7 {d:PyData} {Q:PR->List PyData->Prop} (q:Q (.dat (.bool (DV d))) []):WF bf [d] Q:=by
 refine cU rfl ?_;unfold gb;walk_at "pp";refine aa (is:=[]) rfl rfl (eK ⟨rfl,?_⟩);cases d <;> (walk_at "pp"; exact q)
noncomputable def x3:PyData->Bool
 | .tuple [x]=>kH x 0
 | _=>false
theorem p7 {d:PyData} {Q:PR->List PyData->Prop} (q:Q (.dat (.bool (x3 d))) []):WF dM [d] Q:=by
 refine cU rfl ?_;unfold jl;cases d with
 | tuple ds =>
  match ds,q with
  | [],q=>walk_at "pp"; exact q
  | [x],q =>
   walk_at "pp";refine aa (is:=[]) rfl rfl (d7 ⟨rfl,?_⟩);walk_at "pp";exact q
  | x :: y :: r,q =>
   walk_at "pp";exact q
 | _ =>
  walk_at "pp";exact q
noncomputable def mW (d:PyData):Bool:=kH d 1||(DV d||x3 d)
theorem pV {d:PyData} {Q:PR->List PyData->Prop} (q:Q (.dat (.bool (mW d))) []):WF dH [d] Q:=by
 refine cU rfl ?_;unfold jD;unfold mW at q;walk_at "pp";refine aa (is:=[]) rfl rfl (dR ⟨rfl,?_⟩);walk_at "pp";refine fF (fun c=>?_) (fun c=>?_)
 ·rw [c,Bool.true_or] at q;walk_at "pp";exact q
 ·rw [c,Bool.false_or] at q;walk_at "pp";refine aa (is:=[]) rfl rfl (f7 ⟨rfl,?_⟩);walk_at "pp";refine fF (fun c=>?_) (fun c=>?_)
  ·rw [c,Bool.true_or] at q;walk_at "pp";exact q
  ·rw [c,Bool.false_or] at q;walk_at "pp";refine aa (is:=[]) rfl rfl (p7 ⟨rfl,?_⟩);walk_at "pp";exact q
noncomputable def yh (x:Str):Bool:=decide ((Str.ofString "^").length<=x.length)&&Builtin.Str.subAt x "^" 0
noncomputable def mB (x:Str):Str:=if yh x=true then i6 x (some 1) none else x
noncomputable def lR:PyData->Bool
 | .str x=>kH (.str (mB x)) 1
 | _=>false
theorem qr {x:Str} {Q:PR->List PyData->Prop} (q:Q (.dat (.str (mB x))) []):WF dO [.str x] Q:=by
 refine cU rfl ?_;unfold jJ;walk_at "pp";refine aa (is:=[]) rfl rfl (cU rfl ?_);unfold ee;walk_at "pp";refine ⟨rfl,?_⟩;walk_at "pp";unfold mB at q;refine fF (fun c=>?_) (fun c=>?_)
 ·have c:yh x=true:=c;rw [Jx c] at q;walk_at "pp";exact q
 ·have c:yh x=false:=c;rw [JD (by rw [c];decide)] at q;walk_at "pp";exact q
theorem pX {d:PyData} {Q:PR->List PyData->Prop} (q:Q (.dat (.bool (lR d))) []):WF dG [d] Q:=by
 refine cU rfl ?_;unfold jo;cases d with
 | str x =>
  walk_at "pp";refine aa (is:=[]) rfl rfl (qr ⟨rfl,?_⟩);walk_at "pp";refine aa (is:=[]) rfl rfl (dR ⟨rfl,?_⟩);walk_at "pp";exact q
 | _ =>
  walk_at "pp";exact q
noncomputable def zB (cs:List Int) (p l:Int):PyData:=.list [.list (cs.map .int),.int p,.int l]
theorem Ic {cs:List Int} {p:Int} (h:0 < cs.length):∃ c,atI (cs.map PyData.int) (p % (((cs.map PyData.int).length:Nat):Int))=some (.int c):=by
 have hn:(((cs.map PyData.int).length:Nat):Int)=cs.length:=by rw [Jm]
 rw [hn];have hj0:=Int.emod_nonneg p (by omega:(cs.length:Int)≠0);have hj1:=Int.emod_lt_of_pos p (by omega:(0:Int) < cs.length);obtain ⟨v,hv,ev⟩:=atV (xs:=cs.map PyData.int) hj0 (by rw [Jm];exact hj1);obtain ⟨c,_,rfl⟩:=JV.mp hv;exact ⟨c,ev⟩
theorem C8 {ns:List Int} {Q:PR->List PyData->Prop} (q:Q (.frs (zB ns 0 0)) []):WF ou [.list (ns.map .int)] Q:=⟨_,_,rfl,q⟩
theorem zH {cs:List Int} {p l m:Int} {Q:PR->List PyData->Prop} (hp:0<=p) (hb:p < 2 ^ 60) (hl:0<=l) (h0:0 < m) (hm:m < 2 ^ 200) (q:∀ v p' l',0<=v->v < m->0<=p'->p'<=p+1->0<=l'->Q (.dat (.int v)) [zB cs p' l']):WF ag [zB cs p l,.int m] Q:=by
 refine cU rfl ?_;have m0:∀ x:Int,0<=x % m/\x % m < m:=fun x=>⟨Int.emod_nonneg _ (by omega),Int.emod_lt_of_pos _ h0⟩;have d0:∀ x:Int,0<=x->0<=x / m:=fun x h=>Int.ediv_nonneg h (Int.le_of_lt h0);have fin:∀ c:Int,0<=(if c < 0 then -c else c):=fun c=>by split <;> omega
 unfold sN;walk_at "pp";refine fF (fun e0=>?_) (fun e0=>?_)
 ·walk_at "pp";exact q _ _ _ (m0 l).1 (m0 l).2 hp (by omega) (d0 l hl)
 ·walk_at "pp";refine fF (fun e1=>?_) (fun e1=>?_)
  ·have h1:(0:Int) < (((cs.map PyData.int).length:Nat):Int):=of_decide_eq_true e1;obtain ⟨c,hc⟩:=Ic (cs:=cs) (p:=p) (by rw [Jm] at h1;omega);walk_at "pp";refine m7 rfl hc ?_;clear hc;walk_at "pp";refine fF (fun e2=>?_) (fun e2=>?_)
   ·walk_at "pp";refine fF (fun e3=>?_) (fun e3=>?_)
    ·walk_at "pp";exact q _ _ _ (m0 _).1 (m0 _).2 (by omega) (by omega) (d0 _ (fin c))
    ·walk_at "pp";exact q _ _ _ (m0 _).1 (m0 _).2 (by omega) (by omega) hl
   ·walk_at "pp";exact q _ _ _ (m0 _).1 (m0 _).2 (by omega) (by omega) hl
  ·walk_at "pp";refine fF (fun e2=>?_) (fun e2=>?_)
   ·walk_at "pp";exact q _ _ _ (m0 _).1 (m0 _).2 (by omega) (by omega) hl
   ·walk_at "pp";exact q _ _ _ (m0 _).1 (m0 _).2 (by omega) (by omega) hl
def bg (cs:List Int) (B:Nat) (d:PyData):Prop:=∃ p l:Int,d=zB cs p l/\0<=p/\p<=B/\0<=l
theorem bg.mono {cs:List Int} {B C:Nat} {d:PyData} (h:bg cs B d) (hb:B<=C):bg cs C d:=by
 obtain ⟨p,l,e,a,b,c⟩:=h;exact ⟨p,l,e,a,by omega,c⟩
theorem jc {cs:List Int} {B:Nat} {pn:PyData} {m:Int} {e1:En} {Q:RV->En->Prop} {i:Nat} (hi:aU e1 i=some pn) (hP:bg cs B pn) (hb:B < 2 ^ 60) (h0:0 < m) (hm:m < 2 ^ 200) (q:∀ v pn',bg cs (B+1) pn'->0<=v->v < m->Q (.dat (.int v)) (gq e1 i pn')):k8 ag [.bor i,.dat (.int m)] e1 Q:=by
 obtain ⟨p,l,rfl,hp,hb',hl⟩:=hP;refine aa (ds:=[zB cs p l,.int m]) (is:=[i]) ?_ rfl (zH hp (by omega) hl h0 hm fun v p' l' a b c d e=>⟨?_,q v _ ⟨p',l',rfl,c,by omega,e⟩ a b⟩)
 ·show i4 e1 [.ino,.dat] _=_;simp only [i4,EK,hi]
 ·rfl
theorem ng {i j:Int} (h:PyData.eqv (.int i) (.int j)=true):i=j:=by
 simp only [PyData.eqv] at h;exact eq_of_beq h
theorem aX {f:Fn} {e1:En} {avs:List AV} {ds:List PyData} {is:List Nat} {ms:List PM} {Q:RV->En->Prop} (hm:f.ms=ms) (h1:i4 e1 ms avs=some ds) (h2:ck ms avs=is) (h:WF f ds fun pr outs=>ckA is (qB ms avs) outs.length=true/\Q pr.rv (cJ e1 is outs)):k8 f avs e1 Q:=by
 subst hm;exact aa h1 h2 h
local macro_rules | `(tactic| walk_at "d")=>`(tactic| ((repeat walk_at "p");(refine jc (cs:=?c9) (B:=?b9) (pn:=?n9) (m:=?m9) (hi:=?hi9) (hP:=?hP9) ?hb9 ?h09 ?hm9 ?_);(case hi9=>exact rfl);(case hP9=>assumption);(case hb9=>omega);(case h09=>first | decide | omega);(case hm9=>first | decide | omega)))
abbrev abc:Str := "abcdefghijklmnopqrstuvwxyz"
abbrev wds:List PyData:=[.str "any", .str "all", .str "keeps", .str "is", .str "many", .str "each", .str "not", .str "closed"]
abbrev wdS:List Str:=["any", "all", "keeps", "is", "many", "each", "not", "closed"]
def Ltr (x:Str):Prop:=∀ c∈x.cps.toList,97<=c/\c<=122
theorem cG (x y:Str):(x++y).length=x.length+y.length:=iF x y
theorem dh (x y:Str):(x++y).cps.toList=x.cps.toList++y.cps.toList:=by
 show (x.cps++y.cps).toList=_;simp
theorem cD (c:Nat):(⟨#[c]⟩:Str).length=1:=rfl
theorem jL {x y:Str} (hx:Ltr x) (hy:Ltr y):Ltr (x++y):=fun c hc=>by
 rw [dh] at hc;rcases Kg.mp hc with h | h
 ·exact hx c h
 ·exact hy c h
theorem DH:∀ n < 26,abc.cps.toList[n]?=some (97+n):=by decide +kernel
theorem sM {r:Int} (h0:0<=r) (h1:r < 26):atI abc.cps.toList r=some (97+r.toNat):=by
 have:=mN (xs:=abc.cps.toList) (j:=r.toNat) (DH r.toNat (by omega))
 rwa [Int.toNat_of_nonneg h0] at this
theorem DU {r:Int} (h0:0<=r) (h1:r < 26):Ltr ⟨#[97+r.toNat]⟩:=fun c hc=>by
 have:c=97+r.toNat:=by simpa using hc
 omega
theorem xO {x:Str} {k:Int} (h:Ltr x) (h1:k<=x.length) (h2:x.length<=8):kH (.str x) k=true:=by
 show (decide (k<=(x.length:Int))&&(decide ((x.length:Int)<=8)&&x.cps.toList.all chB))=true;rw [J2 h1,J2 (by omega),LM,LM,Ko];intro c hc;have:=h c hc;unfold chB;rw [J2 this.1,J2 this.2];rfl
theorem wo {x:Str} {k:Int} (h:0<=k):(i6 x none (some k)).cps.toList=x.cps.toList.take k.toNat:=by
 have:=jP (xs:=x.cps.toList) h;unfold L2.cutD at this;rw [bj] at this;unfold i6;simpa using this
theorem E3 {x:Str} {j k:Int} (hj:0<=j) (hk:0<=k):(i6 x (some j) (some k)).cps.toList=(x.cps.toList.take k.toNat).drop j.toNat:=by
 unfold i6;have e1:HT.sIx x.length 0 (some j)=min j.toNat x.length:=by
  simp only [HT.sIx];rw [JD (by omega)]
 have e2:HT.sIx x.length x.length (some k)=min k.toNat x.length:=by
  simp only [HT.sIx];rw [JD (by omega)]
 rw [e1,e2];show (((x.cps.toList.drop (min j.toNat x.length)).take (min k.toNat x.length - min j.toNat x.length)).toArray).toList=_;apply LC;intro i;have hn:=bj x;simp only [List.getElem?_take,Ly];by_cases h1:i < min k.toNat x.length - min j.toNat x.length
 ·rw [Jx h1,Jx (by omega)];congr 1;omega
 ·rw [JD h1];by_cases h2:j.toNat+i < k.toNat
  ·rw [Jx h2,Kt (by rw [hn];omega)]
  ·rw [JD h2]
theorem mU {x y:Str} (h:Ltr x) (hs:∀ c∈y.cps.toList,c∈x.cps.toList):Ltr y:=fun c hc=>h c (hs c hc)
theorem uM:∀ w∈wdS,2<=w.length/\w.length<=6/\Ltr w:=by unfold Ltr;decide +kernel
theorem A2 {k:Int} (h0:0<=k) (h1:k < 8):∃ w,wdS[k.toNat]?=some w/\atI wds k=some (.str w):=by
 have hk:k.toNat < wdS.length:=by show k.toNat < 8;omega
 refine ⟨wdS[k.toNat],Jl hk,?_⟩;have:wds[k.toNat]?=some (.str wdS[k.toNat]):=by
  show (wdS.map PyData.str)[k.toNat]?=_;rw [Jw,Jl hk];rfl
 have:=mN this
 rwa [Int.toNat_of_nonneg h0] at this
theorem xE:∀ i < 8,∀ j < 8,wdS[i]?=wdS[j]?->i=j:=by decide +kernel
def NmK (bs:Str) (wy tn at_ sz:Int) (k:Nat) (x:Str):Prop :=
 (wy=0/\x=i6 bs none (some ((tn+3*k) % 8+1)))\/(wy=1/\wdS[((tn+k) % 8).toNat]?=some x) \/
 (wy=2/\∃ w,wdS[k % 8]?=some w/\x=w++⟨#[97+((tn+5*k) % 26).toNat]⟩) \/
 (x=i6 bs none (some at_)++⟨#[97+((tn+5*k) % 26).toNat]⟩++i6 bs (some (at_+1)) (some sz)/\wy≠0/\wy≠1/\wy≠2)
theorem zv {bs:Str} {wy tn at_ sz:Int} {k:Nat} {x:Str} (h:NmK bs wy tn at_ sz k x) (hb:Ltr bs) (hl:bs.length=8) (ha:0<=at_) (has:at_ < sz) (hz:sz<=8):Ltr x/\1<=x.length/\x.length<=8:=by
 have hn:=bj bs;rcases h with ⟨_,rfl⟩ | ⟨_,h⟩ | ⟨_,w,h,rfl⟩ | ⟨rfl,_⟩
 ·have e:=wo (x:=bs) (k:=(tn+3*k) % 8+1) (by omega);have el:(i6 bs none (some ((tn+3*k) % 8+1))).length=min ((tn+3*k) % 8+1).toNat 8:=by rw [<- bj,e,J8,hn,hl]
  exact ⟨mU hb fun c hc=>by rw [e] at hc;exact KO hc,by rw [el];omega,by rw [el];omega⟩
 ·obtain ⟨a,b,c⟩:=uM x (Jy h);exact ⟨c,by omega,by omega⟩
 ·obtain ⟨a,b,c⟩:=uM w (Jy h);exact ⟨jL c (DU (by omega) (by omega)),by rw [cG,cD];omega,by rw [cG,cD];omega⟩
 ·have e1:=wo (x:=bs) ha;have e2:=E3 (x:=bs) (j:=at_+1) (k:=sz) (by omega) (by omega);have l1:(i6 bs none (some at_)).length=at_.toNat:=by rw [<- bj,e1,J8,hn,hl];omega
  have l2:(i6 bs (some (at_+1)) (some sz)).length=sz.toNat - (at_+1).toNat:=by rw [<- bj,e2,KW,J8,hn,hl];omega
  refine ⟨jL (jL (mU hb fun c hc=>?_) (DU (by omega) (by omega))) (mU hb fun c hc=>?_),?_,?_⟩
  ·rw [e1] at hc;exact KO hc
  ·rw [e2] at hc;exact KO (List.mem_of_mem_drop hc)
  ·rw [cG,cG,cD];omega
  ·rw [cG,cG,cD,l1,l2];omega
theorem mF {x y a b:Str} (h:x++a=y++b) (hl:a.length=b.length):x=y/\a=b:=by
 have e:x.cps.toList++a.cps.toList=y.cps.toList++b.cps.toList:=by rw [<- dh,<-dh,h]
 have hll:a.cps.toList.length=b.cps.toList.length:=by rw [bj,bj,hl]
 obtain ⟨e1,e2⟩:=List.append_inj' e hll;constructor
 ·cases x;cases y;simp only [Str.mk.injEq];exact LK.mp e1
 ·cases a;cases b;simp only [Str.mk.injEq];exact LK.mp e2
theorem one_inj {a b:Nat} (h:(⟨#[a]⟩:Str)=⟨#[b]⟩):a=b:=by
 injection h with h;simpa using h
theorem x6 {bs:Str} {wy tn at_ sz:Int} {i j:Nat} {x:Str} (h:NmK bs wy tn at_ sz i x) (h':NmK bs wy tn at_ sz j x) (hl:bs.length=8) (hi:i < 8) (hj:j < 8):i=j:=by
 have hn:=bj bs;rcases h with ⟨z1,rfl⟩ | ⟨z1,h⟩ | ⟨z1,w,h,rfl⟩ | ⟨rfl,y0,y1,y2⟩
 ·rcases h' with ⟨_,h'⟩ | ⟨z,_⟩ | ⟨z,_⟩ | ⟨_,z,_⟩
  ·have e:=congrArg (fun s:Str=>s.cps.toList.length) h';rw [wo (by omega),wo (by omega),J8,J8,hn,hl] at e;omega
  ·omega
  ·omega
  ·exact absurd z1 z
 ·rcases h' with ⟨z,_⟩ | ⟨_,h'⟩ | ⟨z,_⟩ | ⟨_,_,z,_⟩
  ·omega
  ·have:=xE _ (by omega) _ (by omega) (h.trans h'.symm);omega
  ·omega
  ·exact absurd z1 z
 ·rcases h' with ⟨z,_⟩ | ⟨z,_⟩ | ⟨_,w',h',e⟩ | ⟨_,_,_,z⟩
  ·omega
  ·omega
  ·obtain ⟨e1,e2⟩:=mF e rfl;subst e1;have a1:=xE _ (by omega) _ (by omega) (h.trans h'.symm);have a2:=one_inj e2;omega
  ·exact absurd z1 z
 ·rcases h' with ⟨z,_⟩ | ⟨z,_⟩ | ⟨z,_⟩ | ⟨e,_⟩
  ·exact absurd z y0
  ·exact absurd z y1
  ·exact absurd z y2
  ·obtain ⟨e1,_⟩:=mF e rfl;obtain ⟨_,e2⟩:=mF e1 rfl;have a2:=one_inj e2;omega
theorem foldl_nil:∀ (ps:List Str) (acc:Array Nat),(ps.foldl (fun acc p=>acc++(Str.ofString "").cps++p.cps) acc).toList=acc.toList++ps.flatMap fun s=>s.cps.toList
 | [],acc=>by simp
 | p :: ps,acc=>by
  rw [K1,foldl_nil ps,K4];have e:(Str.ofString "").cps=#[]:=by decide +kernel
  rw [e];simp
theorem lP (ss:List Str):(PySem.Txt.join "" ss).cps.toList=ss.flatMap fun s=>s.cps.toList:=by
 cases ss with
 | nil=>rfl
 | cons x r =>
  show (r.foldl (fun acc p=>acc++(Str.ofString "").cps++p.cps) x.cps).toList=_;rw [foldl_nil,K4]
def Nm (x:Str):Prop:=kH (.str x) 1=true/\x.length<=8
theorem vE {cs:List Int} {B:Nat} {pn:PyData} {m:Int} {Q:PR->List PyData->Prop} (hP:bg cs B pn) (hb:B < 2 ^ 59) (h0:0<=m) (hm:m<=8) (q:∀ (xs:List Str) pn',bg cs (B+40) pn'->(xs.length:Int)=m->xs.Nodup->(∀ x∈xs,Nm x)->Q (.frs (.list (xs.map .str))) [pn']):WF gJ [pn,.int m] Q:=by
 refine cU rfl ?_;unfold oq;walk_at "pp";refine ⟨⟨by omega,by omega⟩,?_⟩;refine iU (fun i ys ec=>∃ (ss:List Str) (pn':PyData),ys=ss.map .str/\ss.length=i/\(∀ s∈ss,s.length=1/\Ltr s)/\bg cs (B+i) pn'/\ec=[.dat (.str abc),.ino pn']) ⟨[],pn,rfl,rfl,fun s h=>(by cases h),hP,rfl⟩ ?_ ?_
 ·rintro i d ys ec hd ⟨ss,pn',rfl,hsl,h1,hP',rfl⟩;obtain ⟨rfl,hi⟩:=g8 hd;have hi:i < 8:=hi;refine bW ?_;walk_at "d";intro v pn4 hP4 v0 v1;walk_at "n";walk_at "pp";refine yp rfl (sM v0 v1) ?_;exact ⟨_,rfl,ss++[⟨#[97+v.toNat]⟩],pn4,by simp,by rw [Js,hsl];rfl,eT h1 ⟨rfl,DU v0 v1⟩,hP4,rfl⟩
 rintro ys ec ⟨ss,pn1,rfl,hsl,h1,hP1,rfl⟩;rw [iQ] at hsl hP1;replace hsl:ss.length=8:=hsl;replace hP1:bg cs (B+8) pn1:=hP1;walk_at "n";walk_at "pp";have hs:=xo (k:=1) (ss:=ss) fun s h=>by have:=(h1 s h).1;omega
 have hjo:gj "" ss=true:=by simp only [gj,KQ];have e0:(Str.ofString "").length=0:=(by decide);rw [e0];omega
 refine Bj (ss:=ss) rfl rfl hjo ?_;have hj:(Txt.join "" ss).cps.toList=ss.flatMap fun s=>s.cps.toList:=lP ss;have hjl:(Txt.join "" ss).length=8:=by
  rw [<- bj,hj,<-hsl];clear hj hjo hs hsl hP1;induction ss with
  | nil=>rfl
  | cons s r ih =>
   rw [K4,Js,ih fun x hx=>h1 x (Jr _ hx),bj,(h1 s Ju).1,JL];omega
 have hjL:Ltr (Txt.join "" ss):=fun c hc=>by
  rw [hj] at hc;obtain ⟨s,hs,hc⟩:=La.mp hc;exact (h1 s hs).2 c hc
 clear hj;generalize Txt.join "" ss=bs at hjl hjL;walk_at "n";walk_at "d";intro wy pn2 hP2 wy0 wy1;walk_at "n";walk_at "d";intro sz pn3 hP3 sz0 sz1;walk_at "n";walk_at "d";intro at_ pn4 hP4 at0' at1;walk_at "n";walk_at "d";intro tn pn5 hP5 tn0 tn1;walk_at "n";walk_at "pp";refine ⟨⟨by omega,by omega⟩,?_⟩;have fins:∀ (xs:List Str),(xs.length:Int)=m->(∀ k x,xs[k]?=some x->NmK bs wy tn at_ (1+sz) k x)->xs.Nodup/\∀ x∈xs,Nm x:=by
  intro xs hxl hx;constructor
  ·refine List.pairwise_iff_getElem.mpr fun i j hi hj hij e=>?_;have a:=hx i _ (Jl hi);have b:=hx j _ (Jl hj);rw [e] at a;have:=x6 a b hjl (by omega) (by omega);omega
  ·intro x hm';obtain ⟨k,hk⟩:=J0.mp hm';obtain ⟨a,b,c⟩:=zv (hx k x hk) hjL hjl at0' at1 (by omega);exact ⟨xO a (by omega) c,c⟩
 refine cI (fun i e=>∃ (xs:List Str),xs.length=i/\(∀ k x,xs[k]?=some x->NmK bs wy tn at_ (1+sz) k x)/\kE [some (.ino pn5),some (.dat (.int m)),some (.dat (.str abc)),some (.dat (.str bs)),some (.dat (.list wds)),some (.dat (.int wy)),some (.dat (.int (1+sz))),some (.dat (.int at_)),some (.dat (.int tn)),some (.own (.list (xs.map .str))),none,none] e) ⟨[],rfl,fun k x h=>by simp at h,by walk_at "L"⟩ ?_ ?_
 ·rintro i d e hd ⟨xs,hxl,hx,_⟩;walk_at "l";obtain ⟨rfl,hi⟩:=g8 hd;walk_at "f";walk_at "pp";refine yp rfl (sM (r:=(tn+5*i) % 26) (by omega) (by omega)) ?_;walk_at "n";have hxz:(xs.map PyData.str).length < sizeLine:=by rw [Jm,hxl];show i < 2 ^ 24;omega
  have snoc:∀ y:Str,NmK bs wy tn at_ (1+sz) i y->∀ k x,(xs++[y])[k]?=some x->NmK bs wy tn at_ (1+sz) k x:=by
   intro y hy k x h;rcases KN k xs.length with z | z
   ·rw [Ka z] at h;exact hx k x h
   ·rw [JH z] at h;have hk:k - xs.length=0:=by
     rcases Nat.eq_zero_or_pos (k - xs.length) with y | y
     ·exact y
     ·rw [Kt (by simp;omega)] at h;cases h
    rw [hk] at h;have hk2:k=i:=by omega
    subst hk2;cases h;exact hy
  have fin:∀ (y:Str) (x11:Sl),soft x11->NmK bs wy tn at_ (1+sz) i y->∃ (zs:List Str),zs.length=i+1/\(∀ k x,zs[k]?=some x->NmK bs wy tn at_ (1+sz) k x)/\kE [some (.ino pn5),some (.dat (.int m)),some (.dat (.str abc)),some (.dat (.str bs)),some (.dat (.list wds)),some (.dat (.int wy)),some (.dat (.int (1+sz))),some (.dat (.int at_)),some (.dat (.int tn)),some (.own (.list (zs.map .str))),none,none] ([.ino pn5,.dat (.int m),.dat (.str abc),.dat (.str bs),.dat (.list wds),.dat (.int wy),.dat (.int (1+sz)),.dat (.int at_),.dat (.int tn),.own (.list (xs.map .str++[.str y])),.dat (.int i),x11]:En) :=
   fun y x11 s11 hy=>⟨xs++[y],by rw [Js,hxl];rfl,snoc y hy,by rw [Kb];walk_at "L"⟩
  walk_at "pp";have c1':=cC bs none (some at_);have c2':=cC bs (some (at_+1)) (some (1+sz));refine fF (fun a1=>?_) (fun a1=>?_)
  ·have a1:wy=0:=ng a1;walk_at "pp";refine fF (fun a2=>?_) (fun a2=>?_)
   ·walk_at "pp";refine vA rfl hxz rfl ?_;exact fin (i6 bs none (some ((tn+3*(i:Int)) % 8+1))) _ uP (.inl ⟨a1,rfl⟩)
   ·exact absurd (LU a2) (by omega)
  ·have a1:wy≠0:=fun z=>by subst z;cases a1
   walk_at "pp";refine fF (fun a2=>?_) (fun a2=>?_)
   ·have a2:wy=1:=ng a2;walk_at "pp";refine fF (fun a3=>?_) (fun a3=>?_)
    ·walk_at "pp";obtain ⟨w,hw,ew⟩:=A2 (k:=(tn+i) % 8) (by omega) (by omega);refine m7 rfl ew ?_;walk_at "pp";refine vA rfl hxz rfl ?_;exact fin w _ uP (.inr (.inl ⟨a2,hw⟩))
    ·exact absurd (LU a3) (by omega)
   ·have a2:wy≠1:=fun z=>by subst z;cases a2
    walk_at "pp";refine fF (fun a3=>?_) (fun a3=>?_)
    ·have a3:wy=2:=ng a3;walk_at "pp";obtain ⟨w,hw,ew⟩:=A2 (k:=(i:Int) % 8) (by omega) (by omega);have hw2:=(uM w (Jy hw)).2.1;refine m7 rfl ew ?_;walk_at "pp";refine lE rfl (by rw [cD];show _<=2 ^ 24;omega) ?_;walk_at "pp";refine vA rfl hxz rfl ?_;exact fin _ _ uP (.inr (.inr (.inl ⟨a3,w,by rw [<- hw];congr 1,rfl⟩)))
    ·have a3:wy≠2:=fun z=>by subst z;cases a3
     walk_at "pp";refine lE rfl (by rw [cD];show _<=2 ^ 24;omega) ?_;walk_at "pp";refine ⟨_,_,rfl,rfl,?_⟩;walk_at "pp";refine lE rfl (by rw [cG,cD];show _<=2 ^ 24;omega) ?_;walk_at "pp";refine vA rfl hxz rfl ?_;exact fin _ _ uP (.inr (.inr (.inr ⟨rfl,a1,a2,a3⟩)))
 ·rintro e ⟨xs,hxl,hx,_⟩;walk_at "l";rw [iQ] at hxl;obtain ⟨f1,f2⟩:=fins xs (by omega) hx;walk_at "pp";exact q xs pn5 (hP5.mono (by omega)) (by omega) f1 f2
theorem xN {v:Int} (h:v.natAbs < 10 ^ 30):DV (.int v)=true:=by
 show decide ((if v < 0 then -v else v)<=999999999999999999999999999999)=true;rw [J2];split <;> omega
theorem kW {cs:List Int} {B:Nat} {pn:PyData} {Q:PR->List PyData->Prop} (hP:bg cs B pn) (hb:B < 2 ^ 59) (q:∀ (v:Int) pn',bg cs (B+10) pn'->v.natAbs < 10 ^ 30->Q (.dat (.int v)) [pn']):WF cB [pn] Q:=by
 refine cU rfl ?_;unfold lC;walk_at "d";intro w pn1 hP1 w0 w1;walk_at "n";walk_at "d";intro v pn2 hP2 v0 v1;walk_at "n";walk_at "q";with_reducible refine lW fun N eN=>?_
 have rest:∀ (v:Int) (pn':PyData),0<=v->v < 10 ^ 30->bg cs (B+6) pn'->N ([.ino pn',.dat (.int w),.dat (.int v)]:En):=by
  intro v pn' v0 v1 hP';rw [eN];clear eN N;with_reducible refine lW fun N eN=>?_
  have rest:∀ (v:Int) (pn':PyData),0<=v->v < 10 ^ 30->bg cs (B+9) pn'->N ([.ino pn',.dat (.int w),.dat (.int v)]:En):=by
   intro v pn' v0 v1 hP';rw [eN];walk_at "d";intro u pn2 hP2 u0 u1;walk_at "n";walk_at "pp";refine fF (fun e5=>?_) (fun e5=>?_)
   ·walk_at "pp";exact q _ _ (hP2.mono (by omega)) (by omega)
   ·walk_at "pp";exact q _ _ (hP2.mono (by omega)) (by omega)
  walk_at "pp";refine fF (fun e5=>?_) (fun e5=>?_)
  ·walk_at "pp";refine jc (hi:=rfl) (hP:=hP') (m:=1000000000) (by omega) (by decide) (by decide) ?_;intro u pn2 hP2 u0 u1;walk_at "n";walk_at "pp";refine jc (hi:=rfl) (hP:=hP2) (m:=1000000000) (by omega) (by decide) (by decide) ?_;intro u' pn3 hP3 u0' u1';walk_at "n";walk_at "pp";refine CW (i:=u*1000000000+u') (j:=1000000000000) rfl (by decide) (by decide) ?_;walk_at "pp";refine jc (hi:=rfl) (hP:=hP3) (m:=1000000000000) (by omega) (by decide) (by decide) ?_;intro u'' pn4 hP4 u0'' u1'';walk_at "n";walk_at "pp";exact rest ((u*1000000000+u')*1000000000000+u'') pn4 (by omega) (by omega) (hP4.mono (by omega))
  ·walk_at "pp";exact rest _ _ v0 v1 (hP'.mono (by omega))
 walk_at "pp";refine fF (fun e5=>?_) (fun e5=>?_)
 ·walk_at "d";intro u pn3 hP3 u0 u1;walk_at "n";walk_at "pp";exact rest (10 ^ 30 - 1 - u) pn3 (by omega) (by omega) (hP3.mono (by omega))
 ·walk_at "pp";exact rest _ _ v0 (by omega) (hP2.mono (by omega))
theorem zS {cs:List Int} {B:Nat} {pn:PyData} {ns:List Str} {Q:PR->List PyData->Prop} (hP:bg cs B pn) (hb:B < 2 ^ 58) (hn:0 < ns.length) (hn2:ns.length<=12) (hs:∀ x∈ns,Nm x) (q:∀ d pn',bg cs (B+30) pn'->mW d=true->Q (.dat d) [pn']):WF jN [pn,.list (ns.map .str)] Q:=by
 refine cU rfl ?_;unfold uK;walk_at "d";intro w pn1 hP1 w0 w1;walk_at "n";walk_at "pp";refine fF (fun e5=>?_) (fun e5=>?_)
 ·walk_at "pp";refine jc (hi:=rfl) (hP:=hP1) (m:=((ns.map PyData.str).length:Nat)) (by omega) (by rw [Jm];omega) (by rw [Jm];omega) ?_;intro v pn2 hP2 v0 v1;walk_at "n";walk_at "pp";obtain ⟨d,hd,ed⟩:=atV (xs:=ns.map PyData.str) v0 v1;obtain ⟨x,hx,rfl⟩:=JV.mp hd;refine m7 rfl ed ?_;walk_at "pp";exact q _ _ (hP2.mono (by omega)) (by unfold mW;rw [(hs x hx).1];rfl)
 ·walk_at "pp";refine fF (fun e6=>?_) (fun e6=>?_)
  ·walk_at "pp";refine aa (is:=[0]) rfl rfl (kW hP1 (by omega) fun v pn2 hP2 hv=>⟨rfl,?_⟩);walk_at "n";walk_at "pp";exact q _ _ (hP2.mono (by omega)) (by unfold mW;rw [xN hv];rfl)
  ·walk_at "d";intro u pn2 hP2 u0 u1;walk_at "n";walk_at "d";intro z pn3 hP3 z0 z1;walk_at "n";walk_at "pp";obtain ⟨d,hd,ed⟩:=atV (xs:=([.int 0,.int 8,.int (1+u),.int 3]:List PyData)) z0 z1;have hc:∃ i:Int,d=.int i/\0<=i/\i<=8:=by
    simp only [JJ,KA,Lk] at hd;rcases hd with rfl | rfl | rfl | rfl <;> exact ⟨_,rfl,by omega,by omega⟩
   obtain ⟨m,rfl,hm0,hm1⟩:=hc;refine m7 rfl ed ?_;walk_at "pp";refine ⟨⟨by omega,by omega⟩,?_⟩;refine cI (fun i e=>∃ (wd:Str) (pn':PyData),wd.length=i/\Ltr wd/\bg cs (B+3+i) pn'/\kE [some (.ino pn'),some (.dat (.list (ns.map .str))),some (.dat (.int w)),some (.dat (.str wd)),none] e)
    ⟨"", pn3,rfl,by unfold Ltr;decide,hP3,by walk_at "L"⟩ ?_ ?_
   ·rintro i d e hd ⟨wd,pn',hw,hL,hP',_⟩;walk_at "l";obtain ⟨rfl,hi⟩:=g8 hd;walk_at "f";walk_at "d";intro v pn4 hP4 v0 v1;walk_at "n";walk_at "pp";refine yp rfl (sM v0 v1) ?_;walk_at "pp";refine lE rfl (by rw [hw,cD];show _<=2 ^ 24;omega) ?_;walk_at "pp";exact ⟨_,pn4,by rw [cG,hw,cD],jL hL (DU v0 v1),hP4,by walk_at "L"⟩
   ·rintro e ⟨wd,pn',hw,hL,hP',_⟩;walk_at "l";rw [iQ] at hw hP';walk_at "pp";refine q _ _ (hP'.mono (by omega)) ?_;unfold mW;have:x3 (.tuple [.str wd])=true:=xO (k:=0) hL (by omega) (by omega);rw [this];simp
def Lf (w:Str):Prop:=w = "any" \/ w = "thing" \/ w = "number" \/ w = "said"
def Nw (w:Str):Prop:=w = "from" \/ w = "upto"
def Ls (w:Str):Prop:=w = "all" \/ w = "some" \/ w = "one" \/ w = "none"
def Wk (w:Str):Prop:=w = "many" \/ w = "each"
inductive Hd where
 | lf (w:Str) | num (w:Str) (v:Int) | is (x:PyData) | kp (s:Str) | cl (bs:List Str) | nt | ls (w:Str) | wk (w:Str) (lo:Int) (hi:Option Int) (st:Str)
inductive Fm where | nd (h:Hd) (ks:List Fm)
noncomputable def hiD:Option Int->PyData
 | none=>.none
 | some i=>.int i
def D8 (lo:Int):Option Int->Prop
 | none=>True
 | some i=>lo<=i/\i<=60
noncomputable def Hd.e:Hd->List PyData->PyData
 | .lf w,_=>.tuple [.str w]
 | .num w v,_=>.tuple [.str w,.int v]
 | .is x,_=>.tuple [.str "is", x]
 | .kp s,_=>.tuple [.str "keeps", .str s]
 | .cl bs,_=>.tuple [.str "closed", .tuple (bs.map .str)]
 | .nt,ks=>.tuple (.str "not" :: ks)
 | .ls w,ks=>.tuple [.str w,.tuple ks]
 | .wk w lo hi st,ks=>.tuple (.str w :: .int lo :: hiD hi :: .str st :: ks)
mutual
noncomputable def Fm.d:Fm->PyData
 | .nd h ks=>h.e (dL ks)
noncomputable def dL:List Fm->List PyData
 | []=>[]
 | f :: fs=>f.d :: dL fs
end
theorem c7:∀ fs:List Fm,dL fs=fs.map Fm.d
 | []=>rfl
 | f :: fs=>by rw [List.map_cons,<-c7 fs];rfl
def Hd.ok (ns:List Str):Hd->List Fm->Prop
 | .lf w,ks=>Lf w/\ks=[]
 | .num w v,ks=>Nw w/\DV (.int v)=true/\ks=[]
 | .is x,ks=>mW x=true/\ks=[]
 | .kp s,ks=>s∈ns/\kH (.str s) 1=true/\ks=[]
 | .cl bs,ks=>bs.length<=8/\(∀ b∈bs,kH (.str b) 1=true)/\bU (aL bs)=bs/\ks=[]
 | .nt,ks=>∃ u,ks=[u]
 | .ls w,ks=>Ls w/\ks.length<=6
 | .wk w lo hi st,ks=>Wk w/\0<=lo/\lo<=60/\D8 lo hi/\lR (.str st)=true/\∃ u,ks=[u]
noncomputable def Hd.wkB:Hd->Bool
 | .wk _ _ _ _=>true
 | _=>false
noncomputable def Hd.clB:Hd->Bool
 | .cl _=>true
 | _=>false
noncomputable def Hd.pl (h:Hd):Bool:=!(h.wkB||h.clB)
noncomputable def Hd.nm:Hd->Option Str
 | .kp s=>some s
 | _=>none
noncomputable def Hd.st:Hd->Option Str
 | .wk _ _ _ s=>some s
 | _=>none
abbrev wS:Str := "with"
abbrev aS:Str := "against"
inductive Md | same | turn | both
inductive Sn | w | a | aw | wa
noncomputable def Sn.l:Sn->List Str
 | .w=>[wS]
 | .a=>[aS]
 | .aw=>[aS,wS]
 | .wa=>[wS,aS]
noncomputable def Sn.t:Sn->Sn
 | .w=>.a
 | .a=>.w
 | .aw=>.wa
 | .wa=>.aw
noncomputable def Md.s:Md->Sn->Sn
 | .same,s=>s
 | .turn,s=>s.t
 | .both,_=>.aw
noncomputable def Hd.md:Hd->Md
 | .nt=>.turn
 | .ls w=>if w = "none" then .turn else if w = "one" then .both else .same
 | .wk w _ hi _=>if w = "many" /\ hi.isSome=true then .both else .same
 | _=>.same
abbrev Ia:List PyData:=[.str "many", .str "each"]
structure HF (h:Hd) (d:PyData) (ks:List PyData):Prop where
 hd:∀ {Q:PR->List PyData->Prop},Q (.dat (.bool true)) []->WF bV [d] Q
 pa:∀ {Q:PR->List PyData->Prop},Q (.dat (.tuple ks)) []->WF au [d] Q
 inn:∀ {Q:PR->List PyData->Prop},Q (.frs (.list ks)) []->WF gL [d] Q
 wi:ks≠[]->∀ {sn:Sn} {Q:PR->List PyData->Prop},(∀ r:PR,(r=.dat (.list ((h.md.s sn).l.map .str))\/r=.frs (.list ((h.md.s sn).l.map .str)))->Q r [])->WF bq [d,.list (sn.l.map .str)] Q
 w:∃ w r,d=.tuple (.str w :: r)/\z8 Ia (.str w)=h.wkB/\PyData.eqv (.str w) (.str "keeps")=h.nm.isSome/\PyData.eqv (.str w) (.str "closed")=h.clB
theorem nq {ns:List Str} {h:Hd} {ks:List Fm} (ok:h.ok ns ks):HF h (h.e (dL ks)) (dL ks):=by
 cases h with
 | lf w =>
  obtain ⟨hw,rfl⟩:=ok;rcases hw with rfl | rfl | rfl | rfl <;> exact ⟨fun q=>⟨_,_,rfl,q⟩,fun q=>⟨_,_,rfl,q⟩,fun q=>⟨_,_,rfl,q⟩,fun z=>absurd rfl z,_,_,rfl,rfl,rfl,rfl⟩
 | num w v =>
  obtain ⟨hw,_,rfl⟩:=ok;rcases hw with rfl | rfl <;> exact ⟨fun q=>⟨_,_,rfl,q⟩,fun q=>⟨_,_,rfl,q⟩,fun q=>⟨_,_,rfl,q⟩,fun z=>absurd rfl z,_,_,rfl,rfl,rfl,rfl⟩
 | is x =>
  obtain ⟨_,rfl⟩:=ok;exact ⟨fun q=>⟨_,_,rfl,q⟩,fun q=>⟨_,_,rfl,q⟩,fun q=>⟨_,_,rfl,q⟩,fun z=>absurd rfl z,_,_,rfl,rfl,rfl,rfl⟩
 | kp s =>
  obtain ⟨_,_,rfl⟩:=ok;exact ⟨fun q=>⟨_,_,rfl,q⟩,fun q=>⟨_,_,rfl,q⟩,fun q=>⟨_,_,rfl,q⟩,fun z=>absurd rfl z,_,_,rfl,rfl,rfl,rfl⟩
 | cl bs =>
  obtain ⟨_,_,_,rfl⟩:=ok;exact ⟨fun q=>⟨_,_,rfl,q⟩,fun q=>⟨_,_,rfl,q⟩,fun q=>⟨_,_,rfl,q⟩,fun z=>absurd rfl z,_,_,rfl,rfl,rfl,rfl⟩
 | nt =>
  obtain ⟨u,rfl⟩:=ok;exact ⟨fun q=>⟨_,_,rfl,q⟩,fun q=>⟨_,_,rfl,q⟩,fun q=>⟨_,_,rfl,q⟩,fun _ {sn Q} q=>by cases sn <;> exact ⟨_,_,rfl,q _ (.inr rfl)⟩,_,_,rfl,rfl,rfl,rfl⟩
 | ls w =>
  obtain ⟨hw,_⟩:=ok;rcases hw with rfl | rfl | rfl | rfl
  iterate 2
   ·exact ⟨fun q=>⟨_,_,rfl,q⟩,fun q=>⟨_,_,rfl,q⟩,fun q=>⟨_,_,rfl,q⟩,fun _ {sn Q} q=>⟨_,_,rfl,q _ (.inl rfl)⟩,_,_,rfl,rfl,rfl,rfl⟩
  ·exact ⟨fun q=>⟨_,_,rfl,q⟩,fun q=>⟨_,_,rfl,q⟩,fun q=>⟨_,_,rfl,q⟩,fun _ {sn Q} q=>⟨_,_,rfl,q _ (.inr rfl)⟩,_,_,rfl,rfl,rfl,rfl⟩
  ·exact ⟨fun q=>⟨_,_,rfl,q⟩,fun q=>⟨_,_,rfl,q⟩,fun q=>⟨_,_,rfl,q⟩,fun _ {sn Q} q=>by cases sn <;> exact ⟨_,_,rfl,q _ (.inr rfl)⟩,_,_,rfl,rfl,rfl,rfl⟩
 | wk w lo hi st =>
  obtain ⟨hw,_,_,_,_,u,rfl⟩:=ok;rcases hw with rfl | rfl
  ·cases hi with
   | none=>exact ⟨fun q=>⟨_,_,rfl,q⟩,fun q=>⟨_,_,rfl,q⟩,fun q=>⟨_,_,rfl,q⟩,fun _ {sn Q} q=>⟨_,_,rfl,q _ (.inl rfl)⟩,_,_,rfl,rfl,rfl,rfl⟩
   | some i=>exact ⟨fun q=>⟨_,_,rfl,q⟩,fun q=>⟨_,_,rfl,q⟩,fun q=>⟨_,_,rfl,q⟩,fun _ {sn Q} q=>⟨_,_,rfl,q _ (.inr rfl)⟩,_,_,rfl,rfl,rfl,rfl⟩
  ·exact ⟨fun q=>⟨_,_,rfl,q⟩,fun q=>⟨_,_,rfl,q⟩,fun q=>⟨_,_,rfl,q⟩,fun _ {sn Q} q=>⟨_,_,rfl,q _ (.inl rfl)⟩,_,_,rfl,rfl,rfl,rfl⟩
section
variable {α:Type} {st:PyData->En->Option (Option PyData×En)} {js:List Nat} {lk:Option Nat} {e1:En} {Q:RV->En->Prop}
theorem rm (xs:List α) (enc:α->PyData) (g:α->Option PyData) (hs:∀ x∈xs,lu st (enc x) (cg e1 lk js) fun y e=>y=g x/\e=cg e1 lk js) (hq:Q (.frs (.list (xs.filterMap g))) e1) (hb:aP e1 js (cg e1 lk js)=e1:=by exact rfl):zZ st js (xs.map enc) lk e1 Q:=by
 refine iU (fun i ys ec=>ys=(xs.take i).filterMap g/\ec=cg e1 lk js) ⟨rfl,rfl⟩ ?_ ?_
 ·rintro i d ys ec hd ⟨rfl,rfl⟩;rw [Jw] at hd;obtain ⟨x,hx,rfl⟩:=JM.mp hd;obtain ⟨y,e,h1,rfl,rfl⟩:=hs x (Jy hx);refine ⟨_,_,h1,?_,rfl⟩;rw [<- LI hx,List.filterMap_append];cases z:g x <;> simp [z]
 ·rintro ys ec ⟨rfl,rfl⟩;rw [Jm,K9,hb];exact hq
theorem cE (xs:List α) (enc:α->PyData) (g:α->PyData) (hs:∀ x∈xs,lu st (enc x) (cg e1 lk js) fun y e=>y=some (g x)/\e=cg e1 lk js) (hq:Q (.frs (.list (xs.map g))) e1) (hb:aP e1 js (cg e1 lk js)=e1:=by exact rfl):zZ st js (xs.map enc) lk e1 Q :=
 rm xs enc (fun x=>some (g x)) hs (by rw [<- List.filterMap_eq_map] at hq;exact hq) hb
end
theorem qT {b:Bool} {Q:PR->List PyData->Prop} (h:b=true) (q:Q (.dat (.bool true)) []):Q (.dat (.bool b)) []:=by rw [h];exact q
theorem eD {bs:List Str} {Q:PR->List PyData->Prop} (h8:bs.length<=8) (hn:∀ b∈bs,kH (.str b) 1=true) (hs:bU (aL bs)=bs) (q:Q (.dat (.bool true)) []):WF aQ [.tuple (bs.map .str)] Q:=by
 refine cU rfl ?_;unfold bT;walk_at "pp";refine je (Kf (by rw [Jm];omega)) ?_;walk_at "pp";refine cE bs .str (fun _=>.bool true) (fun x hx=>?_) ?_
 ·refine bW ?_;walk_at "pp";refine aa (is:=[]) rfl rfl (dR ⟨rfl,?_⟩);rw [hn x hx];walk_at "pp";exact ⟨rfl,rfl⟩
 ·walk_at "pp";refine w_all (bs:=bs.map fun _=>true) (by rw [Km];rfl) ?_;rw [show (bs.map fun _=>true).all id=true by simp];walk_at "pp";refine ⟨_,.frs (.list (bs.map .str)),rfl,?_,?_⟩
  ·show oK (.tuple (bs.map .str))=_;unfold oK;simp only [cv];rw [Jx (by omega),hs]
  walk_at "ps";refine A6 rfl (jO _) ?_;walk_at "pp";exact q
theorem j6 {lo:Int} {hi:Option Int} {Q:PR->List PyData->Prop} (h0:0<=lo) (h1:lo<=60) (h2:D8 lo hi) (q:Q (.dat (.bool true)) []):WF bK [.int lo,hiD hi] Q:=by
 have d0:decide (0<=lo)=true:=J2 h0;have d1:decide (lo<=60)=true:=J2 h1;refine cU rfl ?_;unfold fj;walk_at "pp";refine aa (is:=[]) rfl rfl (eK ⟨rfl,?_⟩);walk_at "pp";refine qJ d0 ?_;walk_at "pp";refine je (show (!decide (lo<=60))=false by rw [d1];rfl) ?_;cases hi with
 | none=>walk_at "pp"; exact q
 | some i =>
  walk_at "pp";refine aa (is:=[]) rfl rfl (eK ⟨rfl,?_⟩);walk_at "pp";refine qJ (J2 h2.1) ?_;walk_at "pp";exact qT (J2 h2.2) q
theorem DL {ns:List Str} {h:Hd} {ks:List Fm} {wk:Bool} {Q:PR->List PyData->Prop} (ok:h.ok ns ks) (q:Q (.dat (.bool (!wk||h.pl))) []):WF a6 [h.e (dL ks),.bool wk] Q:=by
 refine cU rfl ?_;unfold cA;have q1:h.pl=true->Q (.dat (.bool true)) []:=fun z=>by rw [z,Bool.or_true] at q;exact q
 cases h with
 | lf w =>
  obtain ⟨hw,rfl⟩:=ok;rcases hw with rfl | rfl | rfl | rfl <;> (walk_at "pp"; exact q1 rfl)
 | num w v =>
  obtain ⟨hw,hv,rfl⟩:=ok;rcases hw with rfl | rfl
  iterate 2
   ·walk_at "pp";refine aa (is:=[]) rfl rfl (f7 ⟨rfl,?_⟩);rw [hv];walk_at "pp";exact q1 rfl
 | is x =>
  obtain ⟨hx,rfl⟩:=ok;walk_at "pp";refine aa (is:=[]) rfl rfl (pV ⟨rfl,?_⟩);rw [hx];walk_at "pp";exact q1 rfl
 | kp s =>
  obtain ⟨_,hs,rfl⟩:=ok;walk_at "pp";refine aa (is:=[]) rfl rfl (dR ⟨rfl,?_⟩);rw [hs];walk_at "pp";exact q1 rfl
 | cl bs =>
  obtain ⟨h8,hn,hs,rfl⟩:=ok;cases wk with
  | true=>walk_at "pp"; exact q
  | false =>
   walk_at "pp";refine aa (is:=[]) rfl rfl (eD h8 hn hs ⟨rfl,?_⟩);walk_at "pp";exact q
 | nt =>
  obtain ⟨u,rfl⟩:=ok;walk_at "pp";exact q1 rfl
 | ls w =>
  obtain ⟨hw,hl⟩:=ok;have hl:decide (((dL ks).length:Int)<=6)=true:=J2 (by rw [c7,Jm];omega);rcases hw with rfl | rfl | rfl | rfl
  iterate 4
   ·walk_at "pp";exact qT hl (q1 rfl)
 | wk w lo hi st =>
  obtain ⟨hw,h0,h1,h2,hs,u,rfl⟩:=ok;rcases hw with rfl | rfl
  iterate 2
   ·cases wk with
    | true=>walk_at "pp"; exact q
    | false =>
     walk_at "pp";refine aa (is:=[]) rfl rfl (j6 h0 h1 h2 ⟨rfl,?_⟩);walk_at "pp";refine aa (is:=[]) rfl rfl (pX ⟨rfl,?_⟩);rw [hs];walk_at "pp";exact q
noncomputable def Fm.h:Fm->Hd
 | .nd h _=>h
noncomputable def alF:Nat->Fm->List Fm
 | 0,_=>[]
 | n+1,.nd h ks=>.nd h ks :: ks.flatMap (alF n)
noncomputable def pg:Nat->Bool->Fm->List Str
 | 0,_,_=>[]
 | n+1,b,.nd h ks=>match h.nm with
  | some s=>if b=true then [s] else []
  | none=>match h.md with
   | .same=>ks.flatMap (pg n b)
   | .turn=>ks.flatMap (pg n (!b))
   | .both=>ks.flatMap (pg n true)++ks.flatMap (pg n false)
def V (ns:List Str):Nat->Bool->Fm->Prop
 | 0,_,_=>False
 | n+1,b,.nd h ks=>h.ok ns ks/\(b=true->h.pl=true)/\∀ k∈ks,V ns n (b||h.wkB) k
theorem fmC {α β:Type} {f g:α->List β}:∀ {ks:List α},(∀ k∈ks,f k=g k)->ks.flatMap f=ks.flatMap g
 | [],_=>rfl
 | k :: ks,h=>by rw [K4,K4,h k Ju,fmC fun x hx=>h x (Jr _ hx)]
theorem fuel {ns:List Str}:∀ {n m:Nat} {b:Bool} {f:Fm},V ns n b f->n<=m->alF m f=alF n f/\(∀ c,pg m c f=pg n c f)/\V ns m b f
 | n+1,m+1,b,.nd h ks,⟨ok,hp,hk⟩,hm=>by
  have ih:=fun k hk'=>fuel (hk k hk') (Nat.le_of_succ_le_succ hm);have e:=fun c=>fmC fun k hk'=>(ih k hk').2.1 c;exact ⟨congrArg (_ :: ·) (fmC fun k hk'=>(ih k hk').1),fun c=>by simp only [pg,e],ok,hp,fun k hk'=>(ih k hk').2.2⟩
theorem V.weak {ns:List Str}:∀ {n:Nat} {b:Bool} {f:Fm},V ns n b f->V ns n false f
 | n+1,b,.nd h ks,⟨ok,hp,hk⟩=>⟨ok,fun z=>absurd z (by decide),fun k hk'=>by
  have a:=hk k hk';cases e:h.wkB with
  | true=>rw [e,Bool.or_true] at a;exact a
  | false=>exact a.weak⟩
theorem V.ok {ns:List Str}:∀ {n:Nat} {b:Bool} {f:Fm},V ns n b f->∀ g∈alF n f,∃ h ks,g=.nd h ks/\h.ok ns ks/\(b=true->h.pl=true)
 | n+1,b,.nd h ks,⟨ok,hp,hk⟩,g,hg=>by
  rcases JJ.mp hg with rfl | hg
  ·exact ⟨h,ks,rfl,ok,hp⟩
  ·obtain ⟨k,hk',hg⟩:=La.mp hg;obtain ⟨h',ks',e,ok',hp'⟩:=(hk k hk').ok g hg;exact ⟨h',ks',e,ok',fun z=>hp' (by rw [z];rfl)⟩
noncomputable def plA (n:Nat) (f:Fm):Bool:=(alF n f).all fun g=>g.h.pl
noncomputable def cn (n:Nat) (wk:Bool) (f:Fm):Nat:=if (!wk||plA n f)=true then (alF n f).length else 0
theorem zf (n:Nat):(ah n).ms=[.dat,.dat,.dat]:=by cases n <;> rfl
theorem ot {n:Nat} {k:Fm}:∀ {ks:List Fm},k∈ks->(alF n k).length<=(ks.flatMap (alF n)).length
 | x :: ks,h=>by
  rw [K4,Js];rcases JJ.mp h with rfl | h
  ·omega
  ·have:=ot (n:=n) h;omega
theorem tQ {ns:List Str} {m:Nat} {wk:Bool} {h:Hd} {ks:List Fm} {dep:Int} {c:Fm->Nat} {Q:PR->List PyData->Prop} (ok:h.ok ns ks) (hd:dep<=8) (hs:1+(ks.map c).sum<=40) (hc:∀ k∈ks,∀ {Q:PR->List PyData->Prop},Q (.dat (.int (c k))) []->WF (ah m) [k.d,.int (dep+1),.bool (wk||h.wkB)] Q)
  (q1:((!wk||h.pl)=false\/∃ k∈ks,c k=0)->Q (.dat (.int 0)) []) (q2:(!wk||h.pl)=true->(∀ k∈ks,c k≠0)->Q (.dat (.int (1+(ks.map c).sum:Nat))) []):WF (ah (m+1)) [(Fm.nd h ks).d,.int dep,.bool wk] Q:=by
 have F:=nq ok;refine cU rfl ?_;unfold cQ;walk_at "pp";refine je (Kf (by omega)) ?_;walk_at "pp";refine aa (is:=[]) rfl rfl (F.hd ⟨rfl,?_⟩);walk_at "pp";refine aa (is:=[]) rfl rfl (DL ok ⟨rfl,?_⟩);walk_at "pp";refine fF (fun z=>?_) fun z=>?_
 ·walk_at "pp";exact q1 (.inl (by cases y:(!wk||h.pl);rfl;rw [y] at z;cases z))
 ·have q2:=q2 (by cases y:(!wk||h.pl);rw [y] at z;cases z;rfl);walk_at "pp";refine aa (is:=[]) rfl rfl (F.pa ⟨rfl,?_⟩);walk_at "pp";rw [c7];obtain ⟨w,r,ed,ew,_⟩:=F.w;refine cI (fun i e=>(∀ k∈ks.take i,c k≠0)/\kE [some (.dat (Fm.nd h ks).d),some (.dat (.int dep)),some (.dat (.bool wk)),some (.dat (.int ((1+((ks.take i).map c).sum:Nat):Int))),none,none] e) ⟨fun k hk=>by simp at hk,by walk_at "L"⟩ ?_ ?_
  ·rintro i dk e hdk ⟨hP,_⟩;walk_at "l";rw [Jw] at hdk;obtain ⟨k,hki,rfl⟩:=JM.mp hdk;have hkm:=Jy hki;have ea:((ks.take (i+1)).map c).sum=((ks.take i).map c).sum+c k:=by rw [<- LI hki,Kb,List.sum_append];simp
   have lt:((ks.take (i+1)).map c).sum<=(ks.map c).sum:=by
    conv=>rhs;rw [<- KY (i+1) ks,Kb,List.sum_append]
    omega
   walk_at "f";have av:∀ {x y z:Sl} {Q:RV->En->Prop},Q (.dat (.bool (wk||h.wkB))) [.dat (Fm.nd h ks).d,x,.dat (.bool wk),y,.dat k.d,z]->WE gds (.orv (vr 2) (p2 inP (p2 ixP (vr 0) (ci 0)) (.glb 1))) [.dat (Fm.nd h ks).d,x,.dat (.bool wk),y,.dat k.d,z] Q:=fun {x y z Q} q2=>by
    cases wk with
    | true=>walk_at "pp"; exact q2
    | false =>
     walk_at "pp";refine qo (xs:=.str w :: r) (by rw [<- ed];rfl) at0 ?_;walk_at "pp";rw [<- ew] at q2;exact q2
   refine zC (wZ (xI ?_))
   iterate 11 (walk_at "p")
   refine av ?_;walk_at "pp";refine aX (zf m) (is:=[]) rfl rfl (hc k hkm ⟨rfl,?_⟩);by_cases z:c k=0
   ·rw [z];walk_at "pp";exact q1 (.inr ⟨k,hkm,z⟩)
   ·walk_at "pp";refine je (by show PyData.eqv (.int _) (.int 0)=false;simp only [PyData.eqv];rw [beq_eq_false_iff_ne];omega) ?_;walk_at "pp";refine je (Kf (by omega)) ?_;walk_at "pp";refine ⟨by rw [<- LI hki];exact eT hP z,?_⟩;rw [ea,show ((1+(((ks.take i).map c).sum+c k):Nat):Int)=((1+((ks.take i).map c).sum:Nat):Int)+(c k:Int) by omega];walk_at "L"
  ·rintro e ⟨hP,_⟩;walk_at "l";walk_at "pp";rw [Jm,K9] at *;exact q2 hP
theorem nu {ns:List Str}:∀ {n:Nat} {b:Bool} {f:Fm},V ns n b f->1<=(alF n f).length
 | n+1,_,.nd _ _,_=>Nat.succ_le_succ (J9 _)
theorem zt {ns:List Str}:∀ (m:Nat) {n:Nat} {b wk:Bool} {f:Fm} {dep:Int} {Q:PR->List PyData->Prop},V ns n b f->n<=m->dep+n<=9->(alF n f).length<=40->Q (.dat (.int (cn n wk f))) []->WF (ah m) [f.d,.int dep,.bool wk] Q
 | 0,n,b,wk,f,dep,Q,hV,hm,_,_,_=>by obtain rfl:n=0:=Nat.le_zero.mp hm;exact hV.elim
 | m+1,0,b,wk,f,dep,Q,hV,_,_,_,_=>hV.elim
 | m+1,n+1,b,wk,.nd h ks,dep,Q,⟨ok,hp,hk⟩,hm,hd,hs,q=>by
  replace hs:(ks.flatMap (alF n)).length+1<=40:=hs;have one:∀ k∈ks,(alF n k).length<=40:=fun k hk'=>by
   have:=ot (n:=n) hk';omega
  rw [LP] at hs;have ep:plA (n+1) (.nd h ks)=(h.pl&&ks.all (plA n)):=by
   unfold plA;show (h.pl&&(ks.flatMap (alF n)).all _)=_;rw [List.all_flatMap]
  have cnk:∀ k∈ks,cn n (wk||h.wkB) k=cn n wk k:=fun k hk'=>by
   unfold cn;cases wk with
   | true=>rfl
   | false =>
    cases z:h.wkB with
    | false=>rfl
    | true =>
     have a:=hk k hk';rw [z,Bool.or_true] at a;have:plA n k=true:=Ko.mpr fun g hg=>by obtain ⟨h',ks',rfl,_,hp'⟩:=a.ok g hg;exact hp' rfl
     rw [this];rfl
  have le:∀ l:List Fm,(l.map (cn n wk)).sum<=(l.map fun k=>(alF n k).length).sum:=fun l=>by
   induction l with
   | nil=>exact Jt _
   | cons k l ih =>
    have:cn n wk k<=(alF n k).length:=by unfold cn;split <;> omega
    rw [List.map_cons,List.map_cons,Lu,Lu];omega
  refine tQ (c:=cn n wk) ok (by omega) (by have:=le ks;omega) (fun k hk' Q q=>zt m (hk k hk') (by omega) (by omega) (one k hk') (by rw [cnk k hk'];exact q)) (fun z=>?_) fun y z=>?_
  ·have e0:cn (n+1) wk (.nd h ks)=0:=JD (by
    rw [ep];rcases z with z | ⟨k,hk',z⟩
    ·cases wk with
     | false=>cases z
     | true=>rw [show h.pl=false from z,Bool.false_and];decide
    ·unfold cn at z;split at z
     ·have:=nu (hk k hk');omega
     ·rename_i y;cases wk with
      | false=>exact absurd rfl y
      | true =>
       have:ks.all (plA n)=false:=by rw [List.all_eq_false];exact ⟨k,hk',y⟩
       rw [this,Bool.and_false]
       decide)
   rw [e0] at q;exact q
  ·have pk:∀ k∈ks,(!wk||plA n k)=true:=fun k hk'=>by
    have:=z k hk';unfold cn at this;split at this
    ·assumption
    ·exact absurd rfl this
   have e0:cn (n+1) wk (.nd h ks)=1+(ks.map (cn n wk)).sum:=by
    unfold cn;rw [Jx]
    ·show (ks.flatMap (alF n)).length+1=_;rw [LP,Nat.add_comm];congr 2;exact Lq fun k hk'=>(Jx (pk k hk')).symm
    ·rw [ep];cases wk with
     | false=>rfl
     | true=>rw [show h.pl=true from y,show ks.all (plA n)=true from Ko.mpr pk];rfl
   rw [e0] at q;exact q
theorem qm {ns:List Str} {n:Nat} {b:Bool} {f:Fm} {Q:PR->List PyData->Prop} (h:V ns n b f) (hn:n<=8) (hs:(alF n f).length<=40) (q:Q (.dat (.bool true)) []):WF bw [f.d] Q:=by
 refine cU rfl ?_;unfold fP;walk_at "pp";have l0:=nu h;refine aX (zf 9) (is:=[]) rfl rfl (zt 9 (wk:=false) h (by omega) (by omega) hs ⟨rfl,?_⟩);walk_at "pp";exact qT (J2 (by show (0:Int) < ((alF n f).length:Int);omega)) q
theorem uN {ns:List Str} {n:Nat} {b:Bool} {f:Fm} {w st:Str} {Q:PR->List PyData->Prop} (h:V ns n b f) (hn:n<=7) (hs:(alF n f).length<=39) (hw:Wk w) (hst:lR (.str st)=true) (q:Q (.dat (.bool (plA n f))) []):WF bw [(Fm.nd (.wk w 0 none st) [f]).d] Q:=by
 refine cU rfl ?_;unfold fP;walk_at "pp";have l0:=nu h;have le:cn n true f<=(alF n f).length:=by unfold cn;split <;> omega
 refine aX (zf 9) (is:=[]) rfl rfl (tQ (ns:=ns) (c:=cn n true) ⟨hw,by decide,by decide,trivial,hst,f,rfl⟩ (by decide) (by simp;omega) (fun k hk Q2 q2=>?_) (fun z=>⟨rfl,?_⟩) fun _ z=>⟨rfl,?_⟩)
 ·obtain rfl:=Jv.mp hk;exact zt 8 h (by omega) (by omega) (by omega) q2
 ·have:plA n f=false:=by
   rcases z with z | ⟨k,hk,z⟩
   ·cases z
   ·obtain rfl:=Jv.mp hk;cases y:plA n k with
    | false=>rfl
    | true=>rw [show cn n true k=(alF n k).length from Jx y] at z;omega
  rw [this] at q;walk_at "pp";exact q
 ·have:plA n f=true:=by
   cases y:plA n f with
   | true=>rfl
   | false=>exact absurd (JD (by rw [y];decide)) (z f (Jv.mpr rfl))
  rw [this] at q;walk_at "pp";exact qT (J2 (by show (0:Int) < ((1+([f].map (cn n true)).sum:Nat):Int);omega)) q
theorem tq (n:Nat):(ar n).ms=[.dat]:=by cases n <;> rfl
theorem uf {ns:List Str}:∀ (m:Nat) {n:Nat} {b:Bool} {f:Fm} {Q:PR->List PyData->Prop},V ns n b f->n<=m->(alF n f).length<=40->Q (.frs (.list ((alF n f).map Fm.d))) []->WF (ar m) [f.d] Q
 | 0,n,b,f,Q,hV,hm,_,_=>by obtain rfl:n=0:=Nat.le_zero.mp hm;exact hV.elim
 | m+1,0,b,f,Q,hV,_,_,_=>hV.elim
 | m+1,n+1,b,.nd h ks,Q,⟨ok,hp,hk⟩,hm,hs,q=>by
  have F:=nq ok;replace hs:(ks.flatMap (alF n)).length+1<=40:=hs;refine cU rfl ?_;unfold iV;walk_at "pp";refine aa (is:=[]) rfl rfl (F.pa ⟨rfl,?_⟩);walk_at "pp";rw [c7];refine cI (fun i e=>kE [some (.dat (Fm.nd h ks).d),some (.own (.list ((Fm.nd h ks).d :: ((ks.take i).flatMap (alF n)).map Fm.d))),none] e) (by walk_at "L") ?_ ?_
  ·rintro i dk e hdk _;walk_at "l";rw [Jw] at hdk;obtain ⟨k,hki,rfl⟩:=JM.mp hdk;have ea:(ks.take (i+1)).flatMap (alF n)=(ks.take i).flatMap (alF n)++alF n k:=by rw [<- LI hki,LQ];simp
   have lt:((ks.take (i+1)).flatMap (alF n)).length<=(ks.flatMap (alF n)).length:=by
    conv=>rhs;rw [<- KY (i+1) ks,LQ,Js]
    omega
   rw [ea,Js] at lt;walk_at "f";walk_at "pp";refine aX (tq m) (is:=[]) rfl rfl (uf m (hk k (Jy hki)) (by omega) (by omega) ⟨rfl,?_⟩);walk_at "n";walk_at "pp";refine Dp rfl (by rw [JL,Jm,Jm];show _<=2 ^ 24;omega) rfl ?_;show kE _ _;rw [ea,Kb];walk_at "L"
  ·rintro e hL;rw [Jm,K9] at hL;revert hL;intro _;walk_at "l";walk_at "pp";exact q
section
variable {ns:List Str} {n:Nat} {b:Bool} {f:Fm} {Q:PR->List PyData->Prop} (h:V ns n b f) (hn:n<=9) (hs:(alF n f).length<=40)
include h hn hs
theorem iJ (q:Q (.dat (.int (alF n f).length)) []):WF bS [f.d] Q:=by
 refine cU rfl ?_;unfold iy;walk_at "pp";refine aX (tq 9) (is:=[]) rfl rfl (uf 9 h hn hs ⟨rfl,?_⟩);walk_at "pp";rw [Jm];exact q
theorem xr {g:Fm->Option Str}:((alF n f).filterMap g).length < 64:=by
 have:=List.length_filterMap_le g (alF n f);omega
theorem et (q:Q (.frs (.list ((bU (aL ((alF n f).filterMap fun g=>g.h.st))).map .str))) []):WF aY [f.d] Q:=by
 refine cU rfl ?_;unfold hZ;walk_at "pp";refine aX (tq 9) (is:=[]) rfl rfl (uf 9 h hn hs ⟨rfl,?_⟩);walk_at "pp";refine eQ rfl (rm (alF n f) Fm.d (fun g=>g.h.st.map .str) (fun g hg=>?_) ?_)
 ·obtain ⟨hh,ks,rfl,ok,_⟩:=h.ok g hg;obtain ⟨w,r,ed,ew,_⟩:=(nq ok).w;refine bW ?_;walk_at "pp";refine qo (xs:=.str w :: r) (by rw [<- ed];rfl) at0 ?_;walk_at "pp";cases hh with
  | wk w' lo hi st =>
   refine qJ ew ?_;obtain ⟨_,_,_,_,_,u,rfl⟩:=ok;walk_at "pp";exact ⟨rfl,rfl⟩
  | _=>exact je ew ⟨rfl,rfl⟩
 ·walk_at "ps";refine xK (ss:=(alF n f).filterMap fun g=>g.h.st) (by rw [List.map_filterMap];rfl) (xr h hn hs) ?_;walk_at "pp";exact q
theorem iR (q:Q (.frs (.list ((bU (aL ((alF n f).filterMap fun g=>g.h.nm))).map .str))) []):WF bQ [f.d] Q:=by
 refine cU rfl ?_;unfold gU;walk_at "pp";refine aX (tq 9) (is:=[]) rfl rfl (uf 9 h hn hs ⟨rfl,?_⟩);walk_at "pp";refine eQ rfl (rm (alF n f) Fm.d (fun g=>g.h.nm.map .str) (fun g hg=>?_) ?_)
 ·obtain ⟨hh,ks,rfl,ok,_⟩:=h.ok g hg;obtain ⟨w,r,ed,_,ew,_⟩:=(nq ok).w;refine bW ?_;walk_at "pp";refine qo (xs:=.str w :: r) (by rw [<- ed];rfl) at0 ?_;walk_at "pp";cases hh with
  | kp s =>
   refine qJ ew ?_;walk_at "pp";exact ⟨rfl,rfl⟩
  | _=>exact je ew ⟨rfl,rfl⟩
 ·walk_at "ps";refine xK (ss:=(alF n f).filterMap fun g=>g.h.nm) (by rw [List.map_filterMap];rfl) (xr h hn hs) ?_;walk_at "pp";exact q
theorem cH (q:Q (.dat (.bool ((alF n f).any fun g=>g.h.clB))) []):WF aI [f.d] Q:=by
 refine cU rfl ?_;unfold fh;walk_at "pp";refine aX (tq 9) (is:=[]) rfl rfl (uf 9 h hn hs ⟨rfl,?_⟩);walk_at "pp";refine eQ rfl (cE (alF n f) Fm.d (fun g=>.bool g.h.clB) (fun g hg=>?_) ?_)
 ·obtain ⟨hh,ks,rfl,ok,_⟩:=h.ok g hg;obtain ⟨w,r,ed,_,_,ew⟩:=(nq ok).w;refine bW ?_;walk_at "pp";refine qo (xs:=.str w :: r) (by rw [<- ed];rfl) at0 ?_;walk_at "pp";exact ⟨congrArg (fun b=>some (PyData.bool b)) ew,rfl⟩
 ·walk_at "pp";refine w_any (bs:=(alF n f).map fun g=>g.h.clB) (by rw [Km];rfl) ?_;rw [List.any_map];walk_at "pp";exact q
end
abbrev pr (s t:Str):PyData:=.tuple [.str s,.str t]
def Mem (A B:List Str) (sn:Sn) (x:PyData):Prop:=∃ s t,x=pr s t/\(s∈A/\t∈sn.l\/s∈B/\t∈sn.t.l)
theorem FN (s:Sn):s.t.t=s:=by cases s <;> rfl
theorem EV {s:Sn} {t:Str}:t∈Sn.aw.l↔t∈s.l\/t∈s.t.l:=by cases s <;> simp [Sn.l,Sn.t,or_comm]
theorem IP {t:Str}:t∈Sn.aw.t.l↔t∈Sn.aw.l:=by simp [Sn.l,Sn.t,or_comm]
theorem sO {n:Nat} {c:Bool} {h:Hd} {ks:List Fm} (hn:h.nm=none):pg (n+1) c (.nd h ks)=match h.md with
   | .same=>ks.flatMap (pg n c)
   | .turn=>ks.flatMap (pg n (!c))
   | .both=>ks.flatMap (pg n true)++ks.flatMap (pg n false):=by simp only [pg,hn] <;> (cases h.md <;> rfl)
theorem wR {n:Nat} {h:Hd} {ks:List Fm} {sn:Sn} {x:PyData} (hn:h.nm=none):(∃ k∈ks,Mem (pg n true k) (pg n false k) (h.md.s sn) x)↔Mem (pg (n+1) true (.nd h ks)) (pg (n+1) false (.nd h ks)) sn x:=by
 rw [sO hn,sO hn];unfold Mem;cases h.md with
 | same =>
  simp only [Md.s,La];constructor
  ·rintro ⟨k,hk,s,t,e,⟨a,b⟩ | ⟨a,b⟩⟩
   ·exact ⟨s,t,e,.inl ⟨⟨k,hk,a⟩,b⟩⟩
   ·exact ⟨s,t,e,.inr ⟨⟨k,hk,a⟩,b⟩⟩
  ·rintro ⟨s,t,e,⟨⟨k,hk,a⟩,b⟩ | ⟨⟨k,hk,a⟩,b⟩⟩
   ·exact ⟨k,hk,s,t,e,.inl ⟨a,b⟩⟩
   ·exact ⟨k,hk,s,t,e,.inr ⟨a,b⟩⟩
 | turn =>
  simp only [Md.s,FN,La,Lw,Bool.not_false];constructor
  ·rintro ⟨k,hk,s,t,e,⟨a,b⟩ | ⟨a,b⟩⟩
   ·exact ⟨s,t,e,.inr ⟨⟨k,hk,a⟩,b⟩⟩
   ·exact ⟨s,t,e,.inl ⟨⟨k,hk,a⟩,b⟩⟩
  ·rintro ⟨s,t,e,⟨⟨k,hk,a⟩,b⟩ | ⟨⟨k,hk,a⟩,b⟩⟩
   ·exact ⟨k,hk,s,t,e,.inr ⟨a,b⟩⟩
   ·exact ⟨k,hk,s,t,e,.inl ⟨a,b⟩⟩
 | both =>
  simp only [Md.s,IP,EV (s:=sn),Kg,La];constructor
  ·rintro ⟨k,hk,s,t,e,⟨a,b⟩ | ⟨a,b⟩⟩
   ·rcases b with b | b
    ·exact ⟨s,t,e,.inl ⟨.inl ⟨k,hk,a⟩,b⟩⟩
    ·exact ⟨s,t,e,.inr ⟨.inl ⟨k,hk,a⟩,b⟩⟩
   ·rcases b with b | b
    ·exact ⟨s,t,e,.inl ⟨.inr ⟨k,hk,a⟩,b⟩⟩
    ·exact ⟨s,t,e,.inr ⟨.inr ⟨k,hk,a⟩,b⟩⟩
  ·rintro ⟨s,t,e,h⟩;have b:t∈sn.l\/t∈sn.t.l:=by
    rcases h with h | h
    ·exact .inl h.2
    ·exact .inr h.2
   have a:(∃ k∈ks,s∈pg n true k)\/∃ k∈ks,s∈pg n false k:=by
    rcases h with h | h <;> exact h.1
   rcases a with ⟨k,hk,a⟩ | ⟨k,hk,a⟩
   ·exact ⟨k,hk,s,t,e,.inl ⟨a,b⟩⟩
   ·exact ⟨k,hk,s,t,e,.inr ⟨a,b⟩⟩
theorem e8 {ns:List Str}:∀ {n:Nat} {b:Bool} {f:Fm},V ns n b f->∀ c,∀ s∈pg n c f,s∈ns
 | n+1,b,.nd h ks,⟨ok,_,hk⟩,c,s,hs=>by
  have kid:∀ c,s∈ks.flatMap (pg n c)->s∈ns:=fun c hs=>by
   obtain ⟨k,hk',hs⟩:=La.mp hs;exact e8 (hk k hk') c s hs
  cases hn:h.nm with
  | none =>
   rw [sO hn] at hs;cases hm:h.md with
   | same=>rw [hm] at hs;exact kid _ hs
   | turn=>rw [hm] at hs;exact kid _ hs
   | both =>
    rw [hm] at hs;rcases Kg.mp hs with hs | hs <;> exact kid _ hs
  | some z =>
   cases h with
   | kp w =>
    cases c with
    | true=>rw [Jv.mp hs];exact ok.1
    | false=>cases hs
   | _=>cases hn
theorem CS (n:Nat):(ao n).ms=[.dat,.dat]:=by cases n <;> rfl
theorem DF {ns:List Str}:∀ (m:Nat) {n:Nat} {b:Bool} {f:Fm} {sn:Sn} {Q:PR->List PyData->Prop},V ns n b f->n<=m->(alF n f).length<=40->(∀ out:List PyData,out.length<=2*(alF n f).length->(∀ x,x∈out↔Mem (pg n true f) (pg n false f) sn x)->Q (.frs (.list out)) [])->WF (ao m) [f.d,.list (sn.l.map .str)] Q
 | 0,n,b,f,sn,Q,hV,hm,_,_=>by obtain rfl:n=0:=Nat.le_zero.mp hm;exact hV.elim
 | m+1,0,b,f,sn,Q,hV,_,_,_=>hV.elim
 | m+1,n+1,b,.nd h ks,sn,Q,⟨ok,hp,hk⟩,hm,hs,q=>by
  have F:=nq ok;cases hn:h.nm with
  | some z =>
   cases h with
   | kp s =>
    have mm:∀ x,x∈sn.l.map (pr s)↔Mem [s] [] sn x:=fun x=>by
     unfold Mem;rw [JV];constructor
     ·rintro ⟨t,ht,rfl⟩;exact ⟨s,t,rfl,.inl ⟨Jv.mpr rfl,ht⟩⟩
     ·rintro ⟨s',t,rfl,⟨a,ht⟩ | ⟨a,_⟩⟩
      ·rw [Jv.mp a];exact ⟨t,ht,rfl⟩
      ·cases a
    cases sn <;> exact ⟨_,_,rfl,q _ (by show _<=2*(_+1);simp [Sn.l];try omega) mm⟩
   | _=>cases hn
  | none =>
   replace hs:(ks.flatMap (alF n)).length+1<=40:=hs;obtain ⟨w,r,ed,_,ew,_⟩:=F.w;rw [hn] at ew;refine cU rfl ?_;unfold du;walk_at "pp";refine qo (xs:=.str w :: r) (by rw [<- ed];rfl) at0 ?_;walk_at "pp";refine je ew ?_;walk_at "pp";refine aa (is:=[]) rfl rfl (F.pa ⟨rfl,?_⟩);walk_at "pp";rw [c7];refine cI (fun i e=>∃ out:List PyData,out.length<=2*((ks.take i).flatMap (alF n)).length/\(∀ x,x∈out↔∃ k∈ks.take i,Mem (pg n true k) (pg n false k) (h.md.s sn) x)/\kE [some (.dat (Fm.nd h ks).d),some (.dat (.list (sn.l.map .str))),some (.own (.list out)),none] e) ⟨[],by simp,fun x=>by simp,by walk_at "L"⟩ ?_ ?_
   ·rintro i dk e hdk ⟨out,ol,om,_⟩;walk_at "l";rw [Jw] at hdk;obtain ⟨k,hki,rfl⟩:=JM.mp hdk;have hkm:=Jy hki;have ea:(ks.take (i+1)).flatMap (alF n)=(ks.take i).flatMap (alF n)++alF n k:=by rw [<- LI hki,LQ];simp
    have lt:((ks.take (i+1)).flatMap (alF n)).length<=(ks.flatMap (alF n)).length:=by
     conv=>rhs;rw [<- KY (i+1) ks,LQ,Js]
     omega
    rw [ea,Js] at lt;walk_at "f";walk_at "pp";refine aa (is:=[]) (ds:=[(Fm.nd h ks).d,.list (sn.l.map .str)]) rfl rfl (F.wi (by rw [c7];intro z;rw [List.map_eq_nil_iff.mp z] at hkm;cases hkm) fun r hr=>⟨rfl,?_⟩);have hav:r.rv.av=.dat (.list ((h.md.s sn).l.map .str)):=by rcases hr with rfl | rfl <;> rfl
    show WA gds _ _ fun avs e2=>k8 (ao m) (.dat k.d :: r.rv.av :: avs) e2 _;rw [hav];walk_at "pp";refine aX (CS m) (is:=[]) rfl rfl (DF m (hk k hkm) (by omega) (by omega) fun o2 l2 m2=>⟨rfl,?_⟩);walk_at "n";walk_at "pp";refine Dp rfl (by show _<=2 ^ 24;omega) rfl ?_;refine ⟨out++o2,by rw [ea,Js,Js];omega,fun x=>?_,by walk_at "L"⟩;rw [Kg,om,m2,<-LI hki];constructor
    ·rintro (⟨k',hk',z⟩ | z)
     ·exact ⟨k',KP _ hk',z⟩
     ·exact ⟨k,JZ _ (Jv.mpr rfl),z⟩
    ·rintro ⟨k',hk',z⟩;rcases Kg.mp hk' with hk' | hk'
     ·exact .inl ⟨k',hk',z⟩
     ·rw [Jv.mp hk'] at z;exact .inr z
   ·rintro e ⟨out,ol,om,_⟩;walk_at "l";rw [Jm,K9] at ol om;walk_at "pp";exact q out (by show _<=2*(_+1);omega) fun x=>(om x).trans (wR hn)
theorem Ee {S:KS} {avs:List AV} {e:En} {Q:RV->En->Prop} (h:WPr (gp S) avs e Q):WPr (gp S) avs e Q:=h
theorem Fb {S:KS} {avs:List AV} {e:En} {Q:RV->En->Prop} (h:WPr (lK S) avs e Q):WPr (lK S) avs e Q:=h
theorem E7 {l:List (Str×Cst)} {avs:List AV} {e:En} {Q:RV->En->Prop} (h:WPr (DT l) avs e Q):WPr (DT l) avs e Q:=h
local macro_rules | `(tactic| walk_at "pu1")=>`(tactic| ((fail_if_success (with_reducible refine Ee ?_));(fail_if_success (with_reducible refine Fb ?_));(fail_if_success (with_reducible refine E7 ?_));walk_at "p"))
local macro_rules | `(tactic| walk_at "pu")=>`(tactic| repeat walk_at "pu1")
theorem w5:∀ {out K:List PyData},K.Nodup->(∀ x∈K,hkB x=true)->(∀ x∈out,hkB x=true)->(out.foldl bF K).Nodup/\(∀ y,y∈out.foldl bF K↔y∈K\/y∈out)/\(out.foldl bF K).length<=K.length+out.length
 | [],K,hn,_,_=>⟨hn,fun y=>by simp,Jt _⟩
 | x :: out,K,hn,hK,ho=>by
  have hx:=ho x Ju;have iff:(K.any fun e=>PyData.eqv e x)=true↔x∈K:=by
   rw [Lc];exact ⟨fun ⟨e,he,q⟩=>(bX e x (hK e he) hx).mp q▸he,fun h=>⟨x,h,(bX x x hx hx).mpr rfl⟩⟩
  have a:(bF K x).Nodup/\(∀ y,y∈bF K x↔y∈K\/y=x)/\(bF K x).length<=K.length+1:=by
   unfold bF;by_cases h:x∈K
   ·rw [Jx (iff.mpr h)];exact ⟨hn,fun y=>⟨.inl,fun z=>z.elim id fun e=>e▸h⟩,Kz _⟩
   ·rw [JD fun z=>h (iff.mp z)];exact ⟨List.nodup_append.mpr ⟨hn,by simp,fun a ha b hb e=>h (by rw [Jv.mp hb] at e;exact e▸ha)⟩,fun y=>by simp,by simp⟩
  have b:=w5 (out:=out) a.1 (fun y hy=>((a.2.1 y).mp hy).elim (hK y) fun e=>e▸hx) fun y hy=>ho y (Jr _ hy);refine ⟨b.1,fun y=>?_,J6 b.2.2 (by have:=a.2.2;rw [JL];omega)⟩;rw [K1,b.2.1 y,a.2.1 y,JJ,or_assoc]
theorem DR {out:List PyData} (h:∀ x∈out,hkB x=true):(out.foldl bF []).Nodup/\(∀ y,y∈out.foldl bF []↔y∈out)/\(out.foldl bF []).length<=out.length:=by
 have a:=w5 (K:=[]) List.nodup_nil (fun x hx=>nomatch hx) h;exact ⟨a.1,fun y=>by rw [a.2.1];simp,by simpa using a.2.2⟩
abbrev Prs (K:List PyData):Prop:=∀ x∈K,∃ s t,x=pr s t
theorem jk {K:List PyData} (hn:K.Nodup) (h:Prs K):okS tyS K:=by
 refine ⟨fun z hz=>by obtain ⟨s,t,rfl⟩:=h z hz;rfl,?_⟩;unfold List.Nodup;rw [K3];refine hn.imp_of_mem fun {a b} ha hb hne e=>hne ?_;obtain ⟨s,t,rfl⟩:=h a ha;obtain ⟨s',t',rfl⟩:=h b hb;have e:[s,t]=[s',t']:=e;injection e with e1 e2;injection e2 with e2 _;rw [e1,e2]
noncomputable def raw (A B:List Str):List PyData:=A.map (fun s=>pr s wS)++B.map fun s=>pr s aS
theorem iT {A B:List Str} {x:PyData}:x∈raw A B↔Mem A B .w x:=by
 unfold raw Mem;simp only [Kg,JV,Sn.l,Sn.t,Jv];constructor
 ·rintro (⟨s,h,rfl⟩ | ⟨s,h,rfl⟩)
  ·exact ⟨s,_,rfl,.inl ⟨h,rfl⟩⟩
  ·exact ⟨s,_,rfl,.inr ⟨h,rfl⟩⟩
 ·rintro ⟨s,t,rfl,⟨h,rfl⟩ | ⟨h,rfl⟩⟩
  ·exact .inl ⟨s,h,rfl⟩
  ·exact .inr ⟨s,h,rfl⟩
noncomputable def sgn (A B:List Str):List PyData:=kG tyS ((raw A B).foldl bF [])
theorem bR {A B:List Str} {sn:Sn} {K:List PyData} (h:∀ x,x∈K↔Mem A B sn x):Prs K:=fun x hx=>by
 obtain ⟨s,t,e,_⟩:=(h x).mp hx;exact ⟨s,t,e⟩
theorem xx {K:List PyData} (h:Prs K):∀ x∈K,hkB x=true:=fun x hx=>by obtain ⟨s,t,rfl⟩:=h x hx;rfl
theorem jK (A B:List Str):((raw A B).foldl bF []).Nodup/\∀ x,x∈(raw A B).foldl bF []↔Mem A B .w x:=by
 have a:=DR (xx (bR fun x=>iT (A:=A) (B:=B)));exact ⟨a.1,fun x=>by rw [a.2.1,iT]⟩
theorem jz {K:List PyData} {A B:List Str} (hn:K.Nodup) (hm:∀ x,x∈K↔Mem A B .w x):kG tyS K=sgn A B:=by
 have a:=jK A B;exact i0 (jk a.1 (bR a.2)) ((LW hn a.1).mpr fun x=>by rw [hm,a.2])
theorem da (A B:List Str):(sgn A B).Nodup/\∀ x,x∈sgn A B↔Mem A B .w x:=by
 have p:=se tyS ((raw A B).foldl bF []);have a:=jK A B;exact ⟨p.nodup_iff.mpr a.1,fun x=>p.mem_iff.trans (a.2 x)⟩
theorem kU {A B A' B':List Str} (ha:∀ s,s∈A↔s∈A') (hb:∀ s,s∈B↔s∈B'):sgn A B=sgn A' B' :=
 jz (jK A B).1 fun x=>by rw [(jK A B).2];unfold Mem;simp only [ha,hb]
theorem BA {ns A B:List Str} {K:List PyData} (hl:ns.length<=8) (ha:∀ s∈A,s∈ns) (hb:∀ s∈B,s∈ns) (hn:K.Nodup) (hm:∀ x,x∈K↔Mem A B .w x):K.length<=16:=by
 have:=LJ (l₂:=raw ns ns) hn fun x hx=>by
  obtain ⟨s,t,e,⟨a,b⟩ | ⟨a,b⟩⟩:=(hm x).mp hx
  ·exact iT.mpr ⟨s,t,e,.inl ⟨ha s a,b⟩⟩
  ·exact iT.mpr ⟨s,t,e,.inr ⟨hb s a,b⟩⟩
 unfold raw at this;rw [Js,Jm,Jm] at this;omega
theorem AO (s t:Str):hk6 (pr s t)=true:=by
 unfold hk6;rw [show hkB (pr s t)=true from rfl,LM];exact J2 (by simp [PyData.depth,PyData.depthAll])
theorem bM {ns:List Str} {n:Nat} {b:Bool} {f:Fm} {Q:PR->List PyData->Prop} (h:V ns n b f) (hn:n<=9) (hs:(alF n f).length<=40) (hl:ns.length<=8) (q:Q (.frs (.list (sgn (pg n true f) (pg n false f)))) []):WF aG [f.d] Q:=by
 refine cU rfl ?_;unfold hU;walk_at "pu";refine aX (CS 9) (is:=[]) (ds:=[f.d,.list (Sn.w.l.map .str)]) rfl rfl (DF 9 h hn hs fun out _ hm=>⟨rfl,?_⟩);have P:=bR hm;have O:=DR (xx P);have M:∀ x,x∈out.foldl bF []↔Mem (pg n true f) (pg n false f) .w x:=fun x=>(O.2.1 x).trans (hm x);walk_at "pu";refine yC (ds:=out) rfl (fun d hd=>by obtain ⟨s,t,rfl⟩:=P d hd;exact ⟨AO s t,rfl⟩) (by have:=BA hl (e8 h true) (e8 h false) O.1 M;omega) (jk O.1 (bR M)) ?_;rw [jz O.1 M];walk_at "pu";exact q
theorem wY {st:PyData->En->Option (Option PyData×En)} {js:List Nat} {lk:Option Nat} {e1:En} {Q:RV->En->Prop} (xs:List PyData) (g:PyData->PyData) (hs:∀ x∈xs,lu st x (cg e1 lk js) fun y e=>y=some (g x)/\e=cg e1 lk js) (hq:Q (.frs (.list (xs.map g))) e1) (hb:aP e1 js (cg e1 lk js)=e1:=by exact rfl):zZ st js xs lk e1 Q:=by
 have a:=cE xs id g hs hq hb
 rwa [List.map_id] at a
theorem q0 {g:PyData->PyData} {K:List PyData} {A B A' B':List Str} (hn:K.Nodup) (hm:∀ x,x∈K↔Mem A B .w x) (hi:∀ x∈K,∀ y∈K,g x=g y->x=y) (hg:∀ x,(∃ y,Mem A B .w y/\g y=x)↔Mem A' B' .w x):(K.map g).Nodup/\∀ x,x∈K.map g↔Mem A' B' .w x:=by
 refine ⟨?_,fun x=>?_⟩
 ·unfold List.Nodup;rw [K3];exact hn.imp_of_mem fun {a b} ha hb hne e=>hne (hi a ha b hb e)
 ·rw [JV,<-hg];simp only [hm]
noncomputable def trn:PyData->PyData
 | .tuple [.str s,.str t]=>pr s (if t=wS then aS else wS)
 | x=>x
theorem ll {A B:List Str} {x:PyData}:Mem A B .w x↔(∃ s∈A,x=pr s wS)\/∃ s∈B,x=pr s aS:=by
 rw [<- iT];unfold raw;simp only [Kg,JV,eq_comm]
theorem A1 (s:Str):trn (pr s wS)=pr s aS:=rfl
theorem BK (s:Str):trn (pr s aS)=pr s wS:=rfl
theorem iZ {A B:List Str} {K:List PyData} {Q:PR->List PyData->Prop} (hn:K.Nodup) (hm:∀ x,x∈K↔Mem A B .w x) (q:∀ K':List PyData,K'.Nodup->(∀ x,x∈K'↔Mem B A .w x)->Q (.frs (.list K')) []):WF bC [.list K] Q:=by
 have wa:∀ {s s':Str},pr s wS≠pr s' aS:=fun e=>by injection e with e;injection e with _ e;injection e with e;injection e with e;exact absurd e (by decide +kernel)
 refine cU rfl ?_;unfold kM;walk_at "pp";refine eQ rfl (wY K trn (fun x hx=>?_) ?_)
 ·rcases ll.mp ((hm x).mp hx) with ⟨s,_,rfl⟩ | ⟨s,_,rfl⟩
  iterate 2
   ·refine uE rfl ?_;walk_at "pp";exact ⟨rfl,rfl⟩
 ·have a:=q0 (g:=trn) (A':=B) (B':=A) hn hm (fun x hx y hy e=>by
   rcases ll.mp ((hm x).mp hx) with ⟨s,_,rfl⟩ | ⟨s,_,rfl⟩ <;> rcases ll.mp ((hm y).mp hy) with ⟨s',_,rfl⟩ | ⟨s',_,rfl⟩
   ·rw [A1,A1] at e;injection e with e;injection e with e;injection e with e;rw [e]
   ·exact absurd e.symm wa
   ·exact absurd e wa
   ·rw [BK,BK] at e;injection e with e;injection e with e;injection e with e;rw [e]) fun x=>by
   simp only [ll];constructor
   ·rintro ⟨y,⟨s,h,rfl⟩ | ⟨s,h,rfl⟩,rfl⟩
    ·exact .inr ⟨s,h,rfl⟩
    ·exact .inl ⟨s,h,rfl⟩
   ·rintro (⟨s,h,rfl⟩ | ⟨s,h,rfl⟩)
    ·exact ⟨_,.inr ⟨s,h,rfl⟩,rfl⟩
    ·exact ⟨_,.inl ⟨s,h,rfl⟩,rfl⟩
  walk_at "pp";exact q _ a.1 a.2
abbrev kvs (K:List PyData):List (PyData×PyData):=K.map fun k=>(k,PyData.bool true)
theorem zj (K:List PyData) (x:PyData):putD (kvs K) x (.bool true)=kvs (bF K x):=by
 have e:((kvs K).any fun kv=>PyData.eqv kv.1 x)=K.any fun e=>PyData.eqv e x:=by
  unfold kvs;rw [List.any_map];rfl
 unfold putD bF;rw [e];by_cases h:(K.any fun e=>PyData.eqv e x)=true
 ·rw [Jx h,Jx h];unfold kvs;rw [Km];refine Lq fun b _=>?_;show (if PyData.eqv b x=true then (b,PyData.bool true) else (b,PyData.bool true))=_;split <;> rfl
 ·rw [JD h,JD h];unfold kvs;rw [Kb];rfl
theorem HQ {x:PyData} (h:hk6 x=true):hkB x=true:=by unfold hk6 at h;exact (JU _ _▸h).1
theorem oG {L:List (List PyData)} {Q:PR->List PyData->Prop} (hk:∀ x∈L.flatten,hk6 x=true) (hl:L.flatten.length<=1000) (q:∀ K:List PyData,K.Nodup->(∀ x,x∈K↔x∈L.flatten)->K.length<=L.flatten.length->∃ r,uL.f [.list K]=some (.frs (.list r))/\Q (.frs (.list r)) []):WF a9 [.list (L.map .list)] Q:=by
 refine cU rfl ?_;unfold oS;walk_at "pp";refine eQ rfl (cI (fun i e=>kE [some (.dat (.list (L.map .list))),some (.own (.dict (kvs ((L.take i).flatten.foldl bF [])))),none,none] e) (by walk_at "L") ?_ ?_)
 ·rintro i dl e hdl _;walk_at "l";rw [Jw] at hdl;obtain ⟨l,hli,rfl⟩:=JM.mp hdl;have ea:(L.take (i+1)).flatten=(L.take i).flatten++l:=by rw [<- LI hli,List.flatten_append];simp
  have le:((L.take (i+1)).flatten).length<=L.flatten.length:=by
   conv=>rhs;rw [<- KY (i+1) L,List.flatten_append,Js]
   omega
  have sub:∀ x∈(L.take (i+1)).flatten,hk6 x=true:=fun x hx=>hk x (by rw [<- KY (i+1) L,List.flatten_append];exact KP _ hx);rw [ea] at le sub;walk_at "f";walk_at "pp";refine eQ rfl (cI (fun j e=>kE [some (.dat (.list (L.map .list))),some (.own (.dict (kvs (((L.take i).flatten++l.take j).foldl bF [])))),some (.dat (.list l)),none] e) (by rw [List.take_zero,K2];walk_at "L") ?_ ?_)
  ·rintro j x e hx _;walk_at "l";have hxm:=Jy hx;have b:=(DR (out:=(L.take i).flatten++l.take j) fun y hy=>HQ (sub y (by rcases Kg.mp hy with z | z;exact KP _ z;exact JZ _ (KO z)))).2.2;have:(l.take j).length<=l.length:=by rw [J8];omega
   rw [Js] at le b;walk_at "f";walk_at "pp";refine AR (v:=.bool true) rfl rfl (sub x (JZ _ hxm)) (by rw [Jm];show _ < 2 ^ 24;omega) ?_;show kE _ _;rw [zj,<-LI hx,<-List.append_assoc,List.foldl_append];walk_at "L"
  ·rintro e hL;rw [K9,<-ea] at hL;revert hL;intro _;walk_at "l";walk_at "L"
 ·rintro e hL;rw [Jm,K9] at hL;revert hL;intro _;walk_at "l";have b:=DR fun y hy=>HQ (hk y hy);obtain ⟨r,hr,q⟩:=q _ b.1 b.2.1 b.2.2;walk_at "pz";refine ⟨_,.frs (.list r),rfl,?_,_,_,rfl,rfl,q⟩;rw [show (kvs (L.flatten.foldl bF [])).map (·.1)=L.flatten.foldl bF [] by unfold kvs;rw [Km];exact List.map_id _];exact hr
theorem sV {K xs:List Str} (hn:K.Nodup) (hm:∀ x,x∈K↔x∈xs):bU K=bU (aL xs):=by
 have pm:(aL xs).Perm K:=(LW (fH xs) hn).mpr fun x=>by rw [dY,hm]
 exact Lv (fun _ _ _ _ p q=>jU p q) (fQ _) (fQ _) ((aF _).trans (pm.symm.trans (aF _).symm))
theorem DC (s:Str):hk6 (.str s)=true:=by
 unfold hk6;rw [show hkB (.str s)=true from rfl,LM];exact J2 (by simp [PyData.depth])
theorem qR {Ls:List (List Str)} {xs:List Str} {Q:PR->List PyData->Prop} (hl:Ls.flatten.length < 64) (hm:∀ x,x∈Ls.flatten↔x∈xs) (q:Q (.frs (.list ((bU (aL xs)).map .str))) []):WF a9 [.list (Ls.map fun l=>.list (l.map .str))] Q:=by
 have ef:(Ls.map fun l=>l.map PyData.str).flatten=Ls.flatten.map .str:=by rw [List.map_flatten]
 have el:(Ls.flatten.map PyData.str).length=Ls.flatten.length:=Jm _;have a:=oG (L:=Ls.map fun l=>l.map PyData.str) (Q:=Q) (fun x hx=>by rw [ef] at hx;obtain ⟨s,_,rfl⟩:=JV.mp hx;exact DC s) (by rw [ef,el];omega) fun K hn hK hl'=>by
  rw [ef,el] at hl';rw [ef] at hK;obtain ⟨ks,rfl⟩:∃ ks:List Str,K=ks.map .str:=by
   have:∀ x∈K,∃ s:Str,PyData.str s=x:=fun x hx=>by obtain ⟨s,_,e⟩:=JV.mp ((hK x).mp hx);exact ⟨s,e⟩
   clear hn hK hl';induction K with
   | nil=>exact ⟨[],rfl⟩
   | cons x K ih =>
    obtain ⟨s,rfl⟩:=this x Ju;obtain ⟨ks,rfl⟩:=ih fun y hy=>this y (Jr _ hy);exact ⟨s :: ks,rfl⟩
  have inj:∀ {x:Str} {l:List Str},PyData.str x∈l.map .str↔x∈l:=fun {x l}=>⟨fun h=>by obtain ⟨y,hy,e⟩:=JV.mp h;injection e with e;exact e▸hy,fun h=>JV.mpr ⟨x,h,rfl⟩⟩;rw [Jm] at hl';have nk:ks.Nodup:=(K3.mp hn).imp fun {a b} h e=>h (congrArg _ e);refine ⟨_,?_,q⟩;show (match mP (.list (ks.map .str)) with | some r=>some r | none=>_)=_;simp only [mP,cv];rw [Jx (by omega),sV (xs:=xs) nk fun x=>by rw [<- inj,hK,inj,hm]]
 rwa [Km] at a
theorem ni {ns A B:List Str} {L:List (List PyData)} {Q:PR->List PyData->Prop} (hl:L.flatten.length < 64) (hm:∀ x,x∈L.flatten↔Mem A B .w x) (q:Q (.frs (.list (sgn A B))) []):WF a9 [.list (L.map .list)] Q:=by
 refine oG (fun x hx=>by obtain ⟨s,t,rfl⟩:=bR hm x hx;exact AO s t) (by omega) fun K hn hK hl'=>?_;have M:∀ x,x∈K↔Mem A B .w x:=fun x=>(hK x).trans (hm x);have P:=bR M;refine ⟨_,?_,q⟩;rw [<- jz hn M];cases K with
 | nil=>rfl
 | cons x K =>
  obtain ⟨s,t,rfl⟩:=P x Ju;show lx tyS (.list (pr s t :: K))=_;exact Jx ⟨by omega,fo.mpr (jk hn P)⟩
theorem jq:∀ (is:List Int),intsOf (is.map .int)=some is
 | []=>rfl
 | i :: is=>by
  rw [List.map_cons];unfold intsOf;rw [jq is]
theorem oE:∀ ss:List Nat,(ss.map fun s:Nat=>(s:Int)).sum=((ss.sum:Nat):Int)
 | []=>rfl
 | s :: ss=>by rw [List.map_cons,Lu,Lu,oE ss];omega
theorem w_sum {α:Type} {e:En} {x:AV} {ks:List α} {g:α->Nat} {Q:RV->En->Prop} (h1:aO e [x]=some [.list (ks.map fun k=>.int (g k))]) (q:Q (.dat (.int ((ks.map g).sum:Nat))) e):WPr Ef [x] e Q:=by
 refine ⟨_,.dat (.int ((ks.map g).sum:Nat)),h1,?_,q⟩;have:ks.map (fun k=>PyData.int (g k))=(ks.map fun k=>(g k:Int)).map .int:=by rw [Km];rfl
 show (intsOf (ks.map fun k=>PyData.int (g k))).map _=_;rw [this,jq,<-oE,Km];rfl
theorem ve (xs:List Str):(bU (aL xs)).length<=xs.length:=by
 rw [(aF _).length_eq];exact LJ (fH xs) fun x hx=>dY.mp hx
theorem gS {xs:List Str} {x:Str}:x∈bU (aL xs)↔x∈xs:=by rw [(aF _).mem_iff,dY]
theorem pe {K:List PyData} (h:Prs K):f6 (.list K)=true:=by
 refine tZ ?_ (J6 (jx (k:=2) fun d hd=>?_) (by omega))
 ·simp only [noD];exact gO.mpr fun d hd=>by obtain ⟨s,t,rfl⟩:=h d hd;rfl
 ·obtain ⟨s,t,rfl⟩:=h d hd;simp [PyData.depth,PyData.depthAll]
theorem wN {n:Nat} {h:Hd} {ks:List Fm} {g:Hd->Option Str} (hs:(alF (n+1) (.nd h ks)).length<=40):((g h).toList :: ks.map fun k=>bU (aL ((alF n k).filterMap fun f=>g f.h))).flatten.length < 64/\∀ x,x∈((g h).toList :: ks.map fun k=>bU (aL ((alF n k).filterMap fun f=>g f.h))).flatten↔x∈(alF (n+1) (.nd h ks)).filterMap fun f=>g f.h:=by
 replace hs:(ks.flatMap (alF n)).length+1<=40:=hs;have a:(ks.map fun k=>bU (aL ((alF n k).filterMap fun f=>g f.h))).flatten.length<=(ks.flatMap (alF n)).length:=by
  clear hs;induction ks with
  | nil=>exact Jt _
  | cons k ks ih =>
   have b:=ve ((alF n k).filterMap fun f=>g f.h);have c:=List.length_filterMap_le (fun f:Fm=>g f.h) (alF n k);rw [List.map_cons,LB,Js,K4,Js];omega
 have o:(g h).toList.length<=1:=by cases g h <;> simp
 refine ⟨by rw [LB,Js];omega,fun x=>?_⟩;have e:alF (n+1) (.nd h ks)=.nd h ks :: ks.flatMap (alF n):=rfl;rw [LB,e,List.filterMap_cons,Kg];have m:x∈(ks.map fun k=>bU (aL ((alF n k).filterMap fun f=>g f.h))).flatten↔x∈(ks.flatMap (alF n)).filterMap fun f=>g f.h:=by
  simp only [List.mem_flatten,JV,KL,La];constructor
  ·rintro ⟨l,⟨k,hk,rfl⟩,hx⟩;obtain ⟨f,hf,e⟩:=KL.mp (gS.mp hx);exact ⟨f,⟨k,hk,hf⟩,e⟩
  ·rintro ⟨f,⟨k,hk,hf⟩,e⟩;exact ⟨_,⟨k,hk,rfl⟩,gS.mpr (KL.mpr ⟨f,hf,e⟩)⟩
 rw [m];cases e2:g h with
 | none=>simp [Fm.h,e2]
 | some b=>simp [Fm.h,e2]
theorem Bu {ns:List Str} {h:Hd} {ks:List Fm} (ok:h.ok ns ks):ks.length<=6:=by
 cases h with
 | ls w=>exact ok.2
 | nt=>obtain ⟨u,rfl⟩:=ok;simp
 | wk w lo hi st=>obtain ⟨_,_,_,_,_,u,rfl⟩:=ok;simp
 | lf w=>rw [ok.2];simp
 | num w v=>rw [ok.2.2];simp
 | is x=>rw [ok.2];simp
 | kp s=>rw [ok.2.2];simp
 | cl bs=>rw [ok.2.2.2];simp
theorem dF {ns:List Str} {n:Nat} {h:Hd} {ks:List Fm} {own:List Str} {due:List PyData} {Q:PR->List PyData->Prop} (hV:V ns (n+1) false (.nd h ks)) (hn:n<=7) (hs:(alF (n+1) (.nd h ks)).length<=40) (hl:ns.length<=8) (hnm:h.nm=none) (hcl:h.clB=false) (ho:own=h.st.toList) (hd:due=sgn (pg (n+1) true (.nd h ks)) (pg (n+1) false (.nd h ks))) (q:Q (.dat (.bool true)) []):WF bA [(Fm.nd h ks).d,.list (ks.map Fm.d),.list (own.map .str),.list due] Q:=by
 subst ho hd
 have hk:∀ k∈ks,V ns n (false||h.wkB) k/\(alF n k).length<=40:=fun k hk=>⟨hV.2.2 k hk,by
  have:=ot (n:=n) hk;have e:(ks.flatMap (alF n)).length+1<=40:=hs
  omega⟩
 refine cU rfl ?_;unfold nV;walk_at "pp";refine aa (is:=[]) rfl rfl (qm hV (by omega) hs ⟨rfl,?_⟩);walk_at "pp";refine aa (is:=[]) rfl rfl (iJ hV (by omega) hs ⟨rfl,?_⟩);walk_at "pp";refine eQ rfl (cE ks Fm.d (fun k=>.int (alF n k).length) (fun k hk'=>?_) ?_)
 ·refine bW ?_;walk_at "pp";refine aa (is:=[]) rfl rfl (iJ (hk k hk').1 (by omega) (hk k hk').2 ⟨rfl,?_⟩);walk_at "pp";exact ⟨rfl,rfl⟩
 walk_at "pp";refine w_sum (ks:=ks) (g:=fun k=>(alF n k).length) rfl ?_;walk_at "ps";have e1:((alF (n+1) (.nd h ks)).length:Int)=1+((ks.map fun k=>(alF n k).length).sum:Nat):=by
  show (((ks.flatMap (alF n)).length+1:Nat):Int)=_;rw [LP];omega
 rw [e1];refine uD rfl rfl ?_;walk_at "pp";refine aa (is:=[]) rfl rfl (et hV (by omega) hs ⟨rfl,?_⟩);walk_at "pp";refine eQ rfl (cE ks Fm.d (fun k=>.list ((bU (aL ((alF n k).filterMap fun g=>g.h.st))).map .str)) (fun k hk'=>?_) ?_)
 ·refine bW ?_;walk_at "pp";refine aa (is:=[]) rfl rfl (et (hk k hk').1 (by omega) (hk k hk').2 ⟨rfl,?_⟩);walk_at "pp";exact ⟨rfl,rfl⟩
 have l6:=Bu hV.1;have S:=wN (g:=Hd.st) hs;have N:=wN (g:=Hd.nm) hs;walk_at "pp";refine rM rfl (by rw [Jm];show 1+_<=2 ^ 24;omega) ?_;walk_at "pp";refine aa (is:=[]) (ds:=[.list ((h.st.toList :: ks.map fun k=>bU (aL ((alF n k).filterMap fun g=>g.h.st))).map fun l=>.list (l.map .str))]) (by rw [List.map_cons,Km];rfl) rfl (qR S.1 S.2 ⟨rfl,?_⟩);walk_at "ps";refine uD rfl (jO _) ?_;walk_at "pp";refine aa (is:=[]) rfl rfl (iR hV (by omega) hs ⟨rfl,?_⟩);walk_at "pp";refine eQ rfl (cE ks Fm.d (fun k=>.list ((bU (aL ((alF n k).filterMap fun g=>g.h.nm))).map .str)) (fun k hk'=>?_) ?_)
 ·refine bW ?_;walk_at "pp";refine aa (is:=[]) rfl rfl (iR (hk k hk').1 (by omega) (hk k hk').2 ⟨rfl,?_⟩);walk_at "pp";exact ⟨rfl,rfl⟩
 walk_at "pp";rw [hnm,Option.toList_none,LB,List.nil_append] at N;refine aa (is:=[]) (ds:=[.list ((ks.map fun k=>bU (aL ((alF n k).filterMap fun g=>g.h.nm))).map fun l=>.list (l.map .str))]) (by rw [Km];rfl) rfl (qR N.1 N.2 ⟨rfl,?_⟩);walk_at "ps";refine uD rfl (jO _) ?_;walk_at "pp";refine aa (is:=[]) rfl rfl (bM hV (by omega) hs hl ⟨rfl,?_⟩);walk_at "ps";refine uD rfl (pe (bR (da _ _).2)) ?_;walk_at "pp";refine aa (is:=[]) rfl rfl (cH hV (by omega) hs ⟨rfl,?_⟩);walk_at "pp";refine eQ rfl (cE ks Fm.d (fun k=>.bool ((alF n k).any fun g=>g.h.clB)) (fun k hk'=>?_) ?_)
 ·refine bW ?_;walk_at "pp";refine aa (is:=[]) rfl rfl (cH (hk k hk').1 (by omega) (hk k hk').2 ⟨rfl,?_⟩);walk_at "pp";exact ⟨rfl,rfl⟩
 walk_at "pp";refine Jb (b:=(alF (n+1) (.nd h ks)).any fun g=>g.h.clB) rfl rfl (gO.mpr fun d hd=>by obtain ⟨k,_,rfl⟩:=JV.mp hd;rfl) ?_ ?_
 ·show (ks.map _).any _=(h.clB||(ks.flatMap (alF n)).any fun g=>g.h.clB);rw [List.any_map,hcl,Bool.false_or,List.any_flatMap];congr 1;funext k;show PyData.eqv (.bool ((alF n k).any fun g=>g.h.clB)) (.bool true)=_;cases (alF n k).any fun g=>g.h.clB <;> rfl
 walk_at "ps";refine A6 rfl rfl ?_;walk_at "pp";exact q
theorem Bl {n:Nat} {gs:List Fm} {x:PyData}:x∈(gs.map fun g=>sgn (pg n true g) (pg n false g)).flatten↔Mem (gs.flatMap (pg n true)) (gs.flatMap (pg n false)) .w x:=by
 have a:=wR (n:=n) (h:=.ls "all") (ks:=gs) (sn:=.w) (x:=x) rfl;refine Iff.trans ?_ a;simp only [List.mem_flatten,JV];exact ⟨fun ⟨l,⟨k,hk,e⟩,hx⟩=>⟨k,hk,((da _ _).2 x).mp (e▸hx)⟩,fun ⟨k,hk,hx⟩=>⟨_,⟨k,hk,rfl⟩,((da _ _).2 x).mpr hx⟩⟩
theorem ph {A B:List Str} {K K':List PyData} {x:PyData} (h:∀ x,x∈K↔Mem A B .w x) (h':∀ x,x∈K'↔Mem B A .w x):x∈[K,K'].flatten↔Mem (A++B) (A++B) .w x:=by
 rw [LB,LB,List.flatten_nil,K2,Kg,h,h',ll,ll,ll];simp only [Kg];constructor
 ·rintro ((⟨s,a,e⟩ | ⟨s,a,e⟩) | (⟨s,a,e⟩ | ⟨s,a,e⟩))
  ·exact .inl ⟨s,.inl a,e⟩
  ·exact .inr ⟨s,.inr a,e⟩
  ·exact .inl ⟨s,.inr a,e⟩
  ·exact .inr ⟨s,.inl a,e⟩
 ·rintro (⟨s,a | a,e⟩ | ⟨s,a | a,e⟩)
  ·exact .inl (.inl ⟨s,a,e⟩)
  ·exact .inr (.inl ⟨s,a,e⟩)
  ·exact .inr (.inr ⟨s,a,e⟩)
  ·exact .inl (.inr ⟨s,a,e⟩)
theorem iX {ns A B:List Str} (hl:ns.length<=8) (ha:∀ s∈A,s∈ns) (hb:∀ s∈B,s∈ns):(sgn A B).length<=16:=BA hl ha hb (da A B).1 (da A B).2
theorem o8 {ns:List Str} {n:Nat} {gs:List Fm} {Q:PR->List PyData->Prop} (hV:∀ g∈gs,V ns n false g) (hn:n<=7) (h3:gs.length<=3) (hs:(gs.flatMap (alF n)).length<=39) (hl:ns.length<=8) (q:Q (.dat (.bool true)) []):WF fb [.list (gs.map Fm.d)] Q:=by
 have hA:∀ c,∀ s∈gs.flatMap (pg n c),s∈ns:=fun c s hs=>by
  obtain ⟨g,hg,hs⟩:=La.mp hs;exact e8 (hV g hg) c s hs
 have hf:(gs.map fun g=>sgn (pg n true g) (pg n false g)).flatten.length < 64:=by
  rw [List.length_flatten,Km];have:∀ gs:List Fm,(∀ g∈gs,V ns n false g)->(gs.map (List.length∘fun g=>sgn (pg n true g) (pg n false g))).sum<=16*gs.length:=fun gs=>by
   induction gs with
   | nil=>exact fun _=>Jt _
   | cons g gs ih =>
    intro h;have a:=ih fun x hx=>h x (Jr _ hx);have b:=iX hl (e8 (h g Ju) true) (e8 (h g Ju) false);rw [List.map_cons,Lu,JL];show (sgn _ _).length+_<=_;omega
  have:=this gs hV;omega
 have hk:∀ g∈gs,(alF n g).length<=40:=fun g hg=>by
  have:=ot (n:=n) hg;omega
 have sg:=da (gs.flatMap (pg n true)) (gs.flatMap (pg n false));have so:=da (gs.flatMap (pg n false)) (gs.flatMap (pg n true));have l1:=iX hl (hA true) (hA false);have l2:=iX hl (hA false) (hA true);refine cU rfl ?_;unfold oo;walk_at "pu";refine eQ rfl (cE gs Fm.d (fun g=>.list (sgn (pg n true g) (pg n false g))) (fun g hg=>?_) ?_)
 ·refine bW ?_;walk_at "pp";refine aa (is:=[]) rfl rfl (bM (hV g hg) (by omega) (hk g hg) hl ⟨rfl,?_⟩);walk_at "pp";exact ⟨rfl,rfl⟩
 walk_at "pu";refine aa (is:=[]) (ds:=[.list ((gs.map fun g=>sgn (pg n true g) (pg n false g)).map .list)]) (by rw [Km];rfl) rfl (ni (ns:=ns) hf (fun x=>Bl) ⟨rfl,?_⟩);walk_at "n";walk_at "pu";refine aa (is:=[]) rfl rfl (iZ sg.1 sg.2 fun K' n' m'=>⟨rfl,?_⟩);walk_at "pu";refine mE rfl (by have:=BA hl (hA false) (hA true) n' m';omega) (jk n' (bR m')) ?_;rw [jz n' m'];walk_at "pu";refine aa (is:=[]) (ds:=[.list ([_,_].map .list)]) rfl rfl (ni (ns:=ns) (L:=[sgn (gs.flatMap (pg n true)) (gs.flatMap (pg n false)),sgn (gs.flatMap (pg n false)) (gs.flatMap (pg n true))]) (by simp;omega) (fun x=>ph sg.2 so.2) ⟨rfl,?_⟩);walk_at "n";walk_at "pu";refine eQ rfl (cI (fun i e=>kE [some (.dat (.list (gs.map Fm.d))),none,none,none,none,none] e) (by walk_at "L") ?_ ?_)
 ·rintro i d e hd _;walk_at "l";have hd:=Jy hd;have:∃ w due,d=.tuple [.str w,.list due]/\Ls w/\due=sgn (pg (n+1) true (.nd (.ls w) gs)) (pg (n+1) false (.nd (.ls w) gs)):=by
   simp only [JJ,KA,Lk] at hd;unfold Ls;rcases hd with rfl | rfl | rfl | rfl <;> exact ⟨_,_,rfl,by simp,rfl⟩
  obtain ⟨w,due,rfl,hw,hdue⟩:=this;walk_at "fT";walk_at "pp";refine aa (is:=[]) (ds:=[(Fm.nd (.ls w) gs).d,.list (gs.map Fm.d),.list (([]:List Str).map .str),.list due]) (by rw [show (Fm.nd (.ls w) gs).d=.tuple [.str w,.tuple (gs.map Fm.d)] by rw [<- c7];rfl];rfl) rfl (dF ⟨⟨hw,by omega⟩,fun z=>absurd z (by decide),hV⟩ hn (by show (gs.flatMap (alF n)).length+1<=40;omega) hl rfl rfl rfl hdue ⟨rfl,?_⟩);walk_at "pp";walk_at "L"
 ·rintro e _;walk_at "l";walk_at "pp";exact q
theorem yu {x:Str} (h:kH (.str x) 1=true):Ltr x/\1<=x.length:=by
 have h:(decide ((1:Int)<=(x.length:Int))&&(decide ((x.length:Int)<=8)&&x.cps.toList.all chB))=true:=h;simp only [JU,KQ,Ko] at h;refine ⟨fun c hc=>?_,by omega⟩;have:=h.2.2 c hc;unfold chB at this;simpa [JU,KQ] using this
theorem BJ {x:Str} (h:Ltr x):yh x=false:=by
 unfold yh;rcases Nat.eq_zero_or_pos x.length with z | z
 ·rw [z];rfl
 ·rw [Bool.and_eq_false_iff];refine .inr ?_;unfold Builtin.Str.subAt;rw [Lj];intro e;have e:=eq_of_beq e;have h1:(x.cps.extract 0 (0+(Str.ofString "^").length)).toList=(Str.ofString "^").cps.toList:=by rw [e]
  have h2:(Str.ofString "^").cps.toList=[94]:=by decide +kernel
  rw [h2] at h1;have h3:(94:Nat)∈x.cps.toList:=by
   have:(94:Nat)∈(x.cps.extract 0 (0+(Str.ofString "^").length)).toList:=by rw [h1];simp
   rw [Array.toList_extract] at this;have h4:(94:Nat)∈List.take (Str.ofString "^").length x.cps.toList:=by simpa [List.extract] using this
   exact KO h4
  have:=h 94 h3;omega
theorem mL {x y:Str} (h:x.cps.toList=y.cps.toList):x=y:=by
 cases x;cases y;simp only [Str.mk.injEq];exact LK.mp h
theorem pq {x:Str} (h:Nm x):lR (.str (Str.ofString "" ++ x))=true:=by
 have e0:(Str.ofString "").cps.toList=[]:=by decide +kernel
 have e:Str.ofString "" ++ x=x:=mL (by rw [dh,e0];rfl);rw [e];show kH (.str (mB x)) 1=true;unfold mB;rw [JD (by rw [BJ (yu h.1).1];decide)];exact h.1
theorem rJ {x:Str} (h:Nm x):lR (.str (Str.ofString "^" ++ x))=true:=by
 have e94:(Str.ofString "^").cps.toList=[94]:=by decide +kernel
 have ec:(Str.ofString "^" ++ x).cps.toList=94 :: x.cps.toList:=by rw [dh,e94];rfl
 have hh:yh (Str.ofString "^" ++ x)=true:=by
  unfold yh;rw [JU];refine ⟨J2 (by rw [cG];omega),?_⟩;unfold Builtin.Str.subAt;rw [LV];apply LK.mp;rw [Array.toList_extract,e94,ec];have:(Str.ofString "^").length=1:=by decide +kernel
  rw [this];simp [List.extract]
 show kH (.str (mB (Str.ofString "^" ++ x))) 1=true;unfold mB;rw [Jx hh];have:i6 (Str.ofString "^" ++ x) (some 1) none=x:=by
  apply mL;unfold i6;have hl:(Str.ofString "^" ++ x).length=x.length+1:=by rw [<- bj,ec,JL,bj]
  have e1:HT.sIx (Str.ofString "^" ++ x).length 0 (some 1)=1:=by
   rw [hl];simp only [HT.sIx];rw [JD (by decide)];omega
  have e2:HT.sIx (Str.ofString "^" ++ x).length (Str.ofString "^" ++ x).length none=x.length+1:=hl;rw [e1,e2,ec];show (((94 :: x.cps.toList).drop 1).take (x.length+1 - 1)).toArray.toList=_;rw [List.drop_succ_cons,List.drop_zero,KD (by rw [bj];omega)]
 rw [this];exact h.1
theorem rn {cs:List Int} {B n:Nat} {pn:PyData} {ns:List Str} {fr:Bool} {Q:PR->List PyData->Prop} (hP:bg cs B pn) (hb:B < 2 ^ 57) (s0:0 < ns.length) (s1:ns.length<=8) (sn:ns.Nodup) (hs:∀ x∈ns,Nm x) (q:∀ f pn',bg cs (B+40) pn'->V ns (n+1) (!fr) f->(alF (n+1) f).length=1->Q (.dat f.d) [pn']):WF o7 [pn,.list (ns.map .str),.bool fr] Q:=by
 have leaf:∀ {h:Hd} {pn':PyData},bg cs (B+40) pn'->h.ok ns []->((!fr)=true->h.pl=true)->Q (.dat (h.e [])) [pn']:=fun {h pn'} hP' ok hp=>q (.nd h []) pn' hP' ⟨ok,hp,fun k hk=>nomatch hk⟩ rfl;refine cU rfl ?_;unfold xb;walk_at "d";intro k pn2 hP2 k0 k1;walk_at "n";walk_at "pp";obtain ⟨d,hd,ed⟩:=atV (xs:=([.str "any", .str "thing", .str "number", .str "said", .str "from", .str "upto", .str "is", .str "keeps", .str "keeps", .str "closed"]:List PyData)) k0 k1;refine m7 rfl ed ?_;clear ed;simp only [JJ,KA,Lk] at hd;rcases hd with rfl | rfl | rfl | rfl | rfl | rfl | rfl | rfl | rfl | rfl
 iterate 4
  ·walk_at "pp";exact leaf (h:=.lf _) (hP2.mono (by omega)) ⟨by unfold Lf;simp,rfl⟩ fun _=>rfl
 iterate 2
  ·walk_at "pp";refine aa (is:=[0]) rfl rfl (kW hP2 (by omega) fun v pn3 hP3 hv=>⟨rfl,?_⟩);walk_at "n";walk_at "pp";exact leaf (h:=.num _ v) (hP3.mono (by omega)) ⟨by unfold Nw;simp,xN hv,rfl⟩ fun _=>rfl
 ·walk_at "pp";refine aa (is:=[0]) rfl rfl (zS hP2 (by omega) s0 (by omega) hs fun v pn3 hP3 hv=>⟨rfl,?_⟩);walk_at "n";walk_at "pp";exact leaf (h:=.is v) (hP3.mono (by omega)) ⟨hv,rfl⟩ fun _=>rfl
 iterate 2
  ·walk_at "pp";refine jc (hi:=rfl) (hP:=hP2) (m:=((ns.map PyData.str).length:Nat)) (by omega) (by rw [Jm];omega) (by rw [Jm];omega) ?_;intro j pn3 hP3 j0 j1;walk_at "n";walk_at "pp";obtain ⟨d,hd,ed⟩:=atV (xs:=ns.map PyData.str) j0 j1;obtain ⟨x,hxm,rfl⟩:=JV.mp hd;refine m7 rfl ed ?_;walk_at "pp";exact leaf (h:=.kp x) (hP3.mono (by omega)) ⟨hxm,(hs x hxm).1,rfl⟩ fun _=>rfl
 ·cases fr with
  | false =>
   walk_at "pp";refine jc (hi:=rfl) (hP:=hP2) (m:=((ns.map PyData.str).length:Nat)) (by omega) (by rw [Jm];omega) (by rw [Jm];omega) ?_;intro j pn3 hP3 j0 j1;walk_at "n";walk_at "pp";obtain ⟨d,hd,ed⟩:=atV (xs:=ns.map PyData.str) j0 j1;obtain ⟨x,hxm,rfl⟩:=JV.mp hd;refine m7 rfl ed ?_;walk_at "pp";exact leaf (h:=.kp x) (hP3.mono (by omega)) ⟨hxm,(hs x hxm).1,rfl⟩ fun _=>rfl
  | true =>
   walk_at "pp";refine jc (hi:=rfl) (hP:=hP2) (m:=((ns.map PyData.str).length:Nat)+1) (by omega) (by omega) (by rw [Jm];omega) ?_;intro j pn3 hP3 j0 j1;rw [Jm] at j1;walk_at "n";walk_at "pp";have ec:L2.cutD (ns.map PyData.str) none (some j)=(ns.take j.toNat).map .str:=by rw [jP j0,List.map_take]
   rw [ec];refine AY (ss:=ns.take j.toNat) rfl (by rw [J8];omega) ?_;walk_at "pp";have pm:=aF (ns.take j.toNat);exact leaf (h:=.cl (bU (ns.take j.toNat))) (hP3.mono (by omega)) ⟨by rw [pm.length_eq,J8];omega,fun b hb=>(hs b (KO (pm.mem_iff.mp hb))).1,wu (fQ _) (pm.nodup_iff.mpr (sn.sublist (List.take_sublist _ _))),rfl⟩ fun z=>nomatch z
theorem oO {cs:List Int} {B:Nat} {pn:PyData} {ns:List Str} {Q:PR->List PyData->Prop} (hP:bg cs B pn) (hb:B < 2 ^ 57) (s0:0 < ns.length) (s1:ns.length<=8) (hs:∀ x∈ns,Nm x) (q:∀ (w:Str) (lo:Int) (hi:Option Int) (st:Str) pn',bg cs (B+40) pn'->Wk w->0<=lo->lo<=60->D8 lo hi->lR (.str st)=true->Q (.dat (.tuple [.str w,.int lo,hiD hi,.str st])) [pn']):WF dN [pn,.list (ns.map .str)] Q:=by
 refine cU rfl ?_;unfold oY;walk_at "d";intro k1 pn1 hP1 k10 k11;walk_at "n";walk_at "d";intro k2 pn2 hP2 k20 k21;walk_at "n";walk_at "pp";obtain ⟨d,hd,ed⟩:=atV (xs:=([.int 0,.int 0,.int 1,.int 2,.int 60,.int k1]:List PyData)) k20 k21;have hc:∃ l:Int,d=.int l/\0<=l/\l<=60:=by
  simp only [JJ,KA,Lk] at hd;rcases hd with rfl | rfl | rfl | rfl | rfl | rfl <;> exact ⟨_,rfl,by omega,by omega⟩
 obtain ⟨l,rfl,l0,l1⟩:=hc;refine m7 rfl ed ?_;clear ed hd;walk_at "pp";refine jc (hi:=rfl) (hP:=hP2) (m:=61 - l) (by omega) (by omega) (by omega) ?_;intro k3 pn3 hP3 k30 k31;walk_at "n";walk_at "d";intro k4 pn4 hP4 k40 k41;walk_at "n";walk_at "pp";obtain ⟨hi,hh,eh⟩:=atV (xs:=([.none,.int l,.int (l+k3)]:List PyData)) k40 k41;have hc:∃ h:Option Int,hi=hiD h/\D8 l h:=by
  simp only [JJ,KA,Lk] at hh;rcases hh with rfl | rfl | rfl
  ·exact ⟨none,rfl,trivial⟩
  ·exact ⟨some l,rfl,by omega,by omega⟩
  ·exact ⟨some (l+k3),rfl,by omega,by omega⟩
 obtain ⟨h,rfl,hh2⟩:=hc;refine m7 rfl eh ?_;clear eh hh;walk_at "d";intro k5 pn5 hP5 k50 k51;walk_at "n";walk_at "pp";obtain ⟨z,hz,ez⟩:=atV (xs:=([.str "", .str "", .str "^"]:List PyData)) k50 k51;have hc:∃ y:Str,z=.str y/\(y = "" \/ y = "^")/\y.length<=1:=by
  simp only [JJ,KA,Lk] at hz;rcases hz with rfl | rfl | rfl
  ·exact ⟨_,rfl,.inl rfl,by decide⟩
  ·exact ⟨_,rfl,.inl rfl,by decide⟩
  ·exact ⟨_,rfl,.inr rfl,by decide +kernel⟩
 obtain ⟨y,rfl,hy,hyl⟩:=hc;refine m7 rfl ez ?_;clear ez hz;walk_at "pp";refine jc (hi:=rfl) (hP:=hP5) (m:=((ns.map PyData.str).length:Nat)) (by omega) (by rw [Jm];omega) (by rw [Jm];omega) ?_;intro j pn6 hP6 j0 j1;walk_at "n";walk_at "pp";obtain ⟨d,hd,ed⟩:=atV (xs:=ns.map PyData.str) j0 j1;obtain ⟨x,hxm,rfl⟩:=JV.mp hd;have hxn:=hs x hxm;refine m7 rfl ed ?_;walk_at "pp";refine lE rfl (by have:=hxn.2;show _<=2 ^ 24;omega) ?_;have hst:lR (.str (y++x))=true:=by
  rcases hy with rfl | rfl
  ·exact pq hxn
  ·exact rJ hxn
 walk_at "d";intro t pn7 hP7 t0 t1;walk_at "n";walk_at "pp";obtain ⟨d,hd,ed⟩:=atV (xs:=([.str "many", .str "each"]:List PyData)) t0 t1;refine m7 rfl ed ?_;simp only [JJ,KA,Lk] at hd;have hc:∃ w:Str,d=.str w/\Wk w:=by
  rcases hd with rfl | rfl
  ·exact ⟨_,rfl,.inl rfl⟩
  ·exact ⟨_,rfl,.inr rfl⟩
 obtain ⟨w,rfl,hw⟩:=hc;walk_at "pp";exact q w l h _ _ (hP7.mono (by omega)) hw l0 l1 hh2 hst
theorem uv (n:Nat):(bt n).ms=[.ino,.dat,.ino,.dat,.dat]:=by cases n <;> rfl
def Ay (n:Nat):Prop:=∀ {cs:List Int} {B dp:Nat} {pn:PyData} {R:Int} {ns:List Str} {fr:Bool} {Q:PR->List PyData->Prop},n<=9->1<=dp->dp<=n->bg cs B pn->B+100000*n < 2 ^ 56->0<=R->R<=39->0 < ns.length->ns.length<=8->ns.Nodup->(∀ x∈ns,Nm x) ->
 (∀ f R' pn',V ns dp (!fr) f->0<=R'->((alF dp f).length:Int)+R'<=1+R->bg cs (B+100*(alF dp f).length) pn'->Q (.dat f.d) [pn',.list [.int R']]) ->
 WF (bt n) [pn,.list (ns.map .str),.list [.int R],.int dp,.bool fr] Q
theorem mX:∀ n,Ay n
 | 0=>by
  rename_i cs B dp pn R ns fr Q;intro _ h h2;omega
 | n+1=>by
  rename_i cs B dp pn R ns fr Q;intro hn hd hd2 hP hb hR hR2 s0 s1 sn hs q;have ih:Ay n:=mX n;obtain ⟨dq,rfl⟩:∃ dq,dp=dq+1:=⟨dp - 1,by omega⟩;have ed:(((dq+1:Nat):Int) - 1)=(dq:Int):=by omega
  refine cU rfl ?_;unfold sf;walk_at "d";intro way pn1 hP1 way0 way1;walk_at "n";walk_at "q";with_reducible refine lW fun N eN=>?_
  have rest:1<=dq->1<=R->N ([.ino pn1,.dat (.list (ns.map .str)),.ino (.list [.int R]),.dat (.int ((dq+1:Nat):Int)),.dat (.bool fr),.dat (.int way),.un,.un]:En):=by
   intro d2 r1;rw [eN];clear eN N;with_reducible refine lW fun N eN=>?_
   have rest:N ([.ino pn1,.dat (.list (ns.map .str)),.ino (.list [.int R]),.dat (.int ((dq+1:Nat):Int)),.dat (.bool fr),.dat (.int way),.un,.un]:En):=by
    rw [eN];clear eN N;with_reducible refine lW fun N eN=>?_
    have rest:N ([.ino pn1,.dat (.list (ns.map .str)),.ino (.list [.int R]),.dat (.int ((dq+1:Nat):Int)),.dat (.bool fr),.dat (.int way),.un,.un]:En):=by
     rw [eN];clear eN N;walk_at "d";intro t pn2 hP2 t0 t1;walk_at "n";walk_at "pp";have hm:(if R < t then R else t)<=6/\0<=(if R < t then R else t)/\(if R < t then R else t)<=R:=by split <;> omega
     show (_/\_)/\zZ _ _ _ none ([.ino pn2,.dat (.list (ns.map .str)),.ino (.list [.int (R - (if R < t then R else t))]),.dat (.int ((dq+1:Nat):Int)),.dat (.bool fr),.dat (.int way),.dat (.int (if R < t then R else t)),.un]:En) _;generalize (if R < t then R else t)=m at hm ⊢;obtain ⟨hm1,hm2,hm3⟩:=hm;refine ⟨⟨by omega,by omega⟩,?_⟩;refine iU (fun i ys ec=>∃ (ks:List Fm) (R':Int) (pn':PyData),ys=dL ks/\ks.length=i/\(∀ k∈ks,V ns dq (!fr) k)/\0<=R'/\((ks.flatMap (alF dq)).length:Int)+R'<=R - m+i/\bg cs (B+2+100*(ks.flatMap (alF dq)).length) pn'/\ec=[.ino pn',.dat (.list (ns.map .str)),.ino (.list [.int R']),.dat (.bool fr),.dat (.int ((dq+1:Nat):Int))])
      ⟨[],R - m,pn2,rfl,rfl,fun k hk=>(by cases hk),by omega,by show ((0:Nat):Int)+(R - m)<=R - m+((0:Nat):Int);omega,hP2,rfl⟩ ?_ ?_
     ·rintro i dd ys ec hd' ⟨ks,R',pn',rfl,hu,ha,hr,hk,hP',rfl⟩;obtain ⟨rfl,hi⟩:=g8 hd';refine bW ?_;walk_at "pp";refine aX (uv n) (is:=[1,3]) (ds:=[pn',.list (ns.map .str),.list [.int R'],.int (dq:Int),.bool fr]) (by rw [<- ed];rfl) rfl (ih (R:=R') (by omega) d2 (by omega) hP' (by omega) hr (by omega) s0 s1 sn hs fun f2 R2 pn3 hv2 r2 hk2 hP3=>⟨rfl,?_⟩);have fl:((ks++[f2]).flatMap (alF dq)).length=(ks.flatMap (alF dq)).length+(alF dq f2).length:=by rw [LQ,Js];simp
      exact ⟨_,rfl,ks++[f2],R2,pn3,by rw [c7,c7,Kb];rfl,by rw [Js,hu];rfl,eT ha hv2,r2,by omega,hP3.mono (by omega),rfl⟩
     ·rintro ys ec ⟨ks,R',pn',rfl,hu,ha,hr,hk,hP',rfl⟩;rw [iQ] at hu hk;walk_at "n";walk_at "d";intro k pn4 hP4 k0 k1;walk_at "n";walk_at "pp";obtain ⟨d,hd,ed⟩:=atV (xs:=([.str "all", .str "some", .str "one", .str "none"]:List PyData)) k0 k1;refine m7 rfl ed ?_;simp only [JJ,KA,Lk] at hd;have hc:∃ w:Str,d=.str w/\Ls w:=by
       unfold Ls;rcases hd with rfl | rfl | rfl | rfl <;> exact ⟨_,rfl,by simp⟩
      obtain ⟨w,rfl,hw⟩:=hc;walk_at "pp";exact q (.nd (.ls w) ks) R' pn4 ⟨⟨hw,by omega⟩,fun _=>rfl,fun k hk=>by rw [show Hd.wkB (.ls w)=false from rfl,Bool.or_false];exact ha k hk⟩ hr (by show (((ks.flatMap (alF dq)).length+1:Nat):Int)+_<=_;omega) (hP4.mono (by show _<=B+100*((ks.flatMap (alF dq)).length+1);omega))
    walk_at "pp";refine fF (fun e4=>?_) (fun e4=>?_)
    ·cases fr with
     | false =>
      walk_at "pp";exact rest
     | true =>
      clear rest;walk_at "pp";refine aa (is:=[0]) rfl rfl (oO hP1 (by omega) s0 s1 hs fun w lo hi st pn3 hP3 hw h0 h1 hh hst=>⟨rfl,?_⟩);walk_at "n";walk_at "pp";refine aX (uv n) (is:=[0,2]) (ds:=[pn3,.list (ns.map .str),.list [.int (R - 1)],.int (dq:Int),.bool false]) (by rw [<- ed];rfl) rfl (ih (R:=R - 1) (by omega) d2 (by omega) hP3 (by omega) (by omega) (by omega) s0 s1 sn hs fun f2 R2 pn4 hv2 r2 hk2 hP4=>⟨rfl,?_⟩);walk_at "n";walk_at "pp";have el:(alF (dq+1) (.nd (.wk w lo hi st) [f2])).length=(alF dq f2).length+1:=by show ([f2].flatMap (alF dq)).length+1=_;simp
      exact q (.nd (.wk w lo hi st) [f2]) R2 pn4 ⟨⟨hw,h0,h1,hh,hst,f2,rfl⟩,fun z=>absurd z (by decide),fun k hk=>by obtain rfl:=Jv.mp hk;exact hv2⟩ r2 (by omega) (hP4.mono (by omega))
    ·walk_at "pp";exact rest
   walk_at "pp";refine fF (fun e4=>?_) (fun e4=>?_)
   ·clear rest;walk_at "pp";refine aX (uv n) (is:=[0,2]) (ds:=[pn1,.list (ns.map .str),.list [.int (R - 1)],.int (dq:Int),.bool fr]) (by rw [<- ed];rfl) rfl (ih (R:=R - 1) (by omega) d2 (by omega) hP1 (by omega) (by omega) (by omega) s0 s1 sn hs fun f2 R2 pn4 hv2 r2 hk2 hP4=>⟨rfl,?_⟩);walk_at "n";walk_at "pp";have el:(alF (dq+1) (.nd .nt [f2])).length=(alF dq f2).length+1:=by show ([f2].flatMap (alF dq)).length+1=_;simp
    exact q (.nd .nt [f2]) R2 pn4 ⟨⟨f2,rfl⟩,fun _=>rfl,fun k hk=>by rw [Jv.mp hk,show Hd.wkB .nt=false from rfl,Bool.or_false];exact hv2⟩ r2 (by omega) (hP4.mono (by omega))
   ·walk_at "pp";exact rest
  have leaf:∀ {f:Fm} {pn':PyData},bg cs (B+1+40) pn'->V ns (dq+1) (!fr) f->(alF (dq+1) f).length=1->Q (.dat f.d) [pn',.list [.int R]]:=fun {f pn'} hP' hv h1 =>
   q f R pn' hv hR (by omega) (hP'.mono (by omega))
  walk_at "pp";refine fF (fun e1=>?_) (fun e1=>?_)
  ·clear rest;walk_at "pp";refine aa (is:=[0]) rfl rfl (rn (n:=dq) hP1 (by omega) s0 s1 sn hs fun f pn2 hP2 hv h1=>⟨rfl,?_⟩);walk_at "n";walk_at "pp";exact leaf hP2 hv h1
  ·walk_at "pp";refine fF (fun e2=>?_) (fun e2=>?_)
   ·clear rest;walk_at "pp";refine aa (is:=[0]) rfl rfl (rn (n:=dq) hP1 (by omega) s0 s1 sn hs fun f pn2 hP2 hv h1=>⟨rfl,?_⟩);walk_at "n";walk_at "pp";exact leaf hP2 hv h1
   ·walk_at "pp";refine fF (fun e3=>?_) (fun e3=>?_)
    ·clear rest;walk_at "pp";refine aa (is:=[0]) rfl rfl (rn (n:=dq) hP1 (by omega) s0 s1 sn hs fun f pn2 hP2 hv h1=>⟨rfl,?_⟩);walk_at "n";walk_at "pp";exact leaf hP2 hv h1
    ·walk_at "pp";have e2:=LU e2;have e3:=LU e3;exact rest (by omega) (by omega)
theorem b0 {n:Nat} {c:Bool} {f:Fm} {s:Str}:s∈pg n c f↔s∈[f].flatMap (pg n c):=by simp
theorem sz1 {n:Nat} {f:Fm} {h:Hd}:(alF (n+1) (.nd h [f])).length=(alF n f).length+1:=by
 show ([f].flatMap (alF n)).length+1=_;simp
theorem p9 {cs:List Int} {B n:Nat} {pn:PyData} {ns:List Str} {f:Fm} {Q:PR->List PyData->Prop} (hP:bg cs B pn) (hb:B < 2 ^ 56) (s0:0 < ns.length) (s1:ns.length<=8) (hs:∀ x∈ns,Nm x) (h:V ns n true f) (hn:n<=7) (hz:(alF n f).length<=39) (q:∀ pn',Q (.dat (.bool true)) [pn']):WF dJ [pn,.list (ns.map .str),f.d] Q:=by
 have sg:=da (pg n true f) (pg n false f);have l1:=iX s1 (e8 h true) (e8 h false);refine cU rfl ?_;unfold jE;walk_at "pp";refine aa (is:=[0]) rfl rfl (oO hP (by omega) s0 s1 hs fun w lo hi st pn2 hP2 hw h0 h1 hh hst=>⟨rfl,?_⟩);have W:∀ w,Wk w->V ns (n+1) false (.nd (.wk w lo hi st) [f]):=fun w hw=>⟨⟨hw,h0,h1,hh,hst,f,rfl⟩,fun z=>absurd z (by decide),fun k hk=>by obtain rfl:=Jv.mp hk;exact h⟩;have z:∀ w,(alF (n+1) (.nd (.wk w lo hi st) [f])).length<=40:=fun w=>by rw [sz1];omega
 walk_at "n";walk_at "pp";refine aa (is:=[]) rfl rfl (bM h (by omega) (by omega) s1 ⟨rfl,?_⟩);walk_at "n";walk_at "pp";refine aa (is:=[]) rfl rfl (iZ sg.1 sg.2 fun K' n' m'=>⟨rfl,?_⟩);have l2:=BA s1 (e8 h false) (e8 h true) n' m';walk_at "pp";refine aa (is:=[]) (ds:=[.list ([sgn (pg n true f) (pg n false f),K'].map .list)]) rfl rfl (ni (ns:=ns) (by simp;omega) (fun x=>ph sg.2 m') ⟨rfl,?_⟩);walk_at "n";walk_at "pp";refine aa (is:=[]) (ds:=[(Fm.nd (.wk "each" lo hi st) [f]).d,.list ([f].map Fm.d),.list ([st].map .str),.list (sgn (pg n true f) (pg n false f))]) rfl rfl (dF (W _ (.inr rfl)) hn (z _) s1 rfl rfl rfl (kU (fun s=>b0) fun s=>b0) ⟨rfl,?_⟩);walk_at "pp";cases hi with
 | none =>
  walk_at "pp";refine aa (is:=[]) (ds:=[(Fm.nd (.wk "many" lo none st) [f]).d,.list ([f].map Fm.d),.list ([st].map .str),.list (sgn (pg n true f) (pg n false f))]) rfl rfl (dF (W _ (.inl rfl)) hn (z _) s1 rfl rfl rfl (kU (fun s=>b0) fun s=>b0) ⟨rfl,?_⟩);walk_at "pp";exact q _
 | some i =>
  walk_at "pp";have bm:∀ s,s∈pg n true f++pg n false f↔s∈[f].flatMap (pg n true)++[f].flatMap (pg n false):=fun s=>by simp
  refine aa (is:=[]) (ds:=[(Fm.nd (.wk "many" lo (some i) st) [f]).d,.list ([f].map Fm.d),.list ([st].map .str),.list (sgn (pg n true f++pg n false f) (pg n true f++pg n false f))]) rfl rfl (dF (W _ (.inl rfl)) hn (z _) s1 rfl rfl rfl (kU bm bm) ⟨rfl,?_⟩);walk_at "pp";exact q _
noncomputable def sw (a b s:Str):Str:=if s=a then b else if s=b then a else s
noncomputable def Hd.sw (a b:Str):Hd->Hd
 | .kp s=>.kp (K17.sw a b s)
 | h=>h
noncomputable def ex (a b:Str):Nat->Fm->Fm
 | 0,f=>f
 | n+1,.nd h ks=>.nd (h.sw a b) (ks.map (ex a b n))
theorem GA {a b s:Str} {P:Str->Prop} (ha:P a) (hb:P b) (hs:P s):P (sw a b s):=by
 unfold sw;split
 ·exact hb
 ·split
  ·exact ha
  ·exact hs
theorem Di {ns:List Str} {a b:Str} (ha:a∈ns/\kH (.str a) 1=true) (hb:b∈ns/\kH (.str b) 1=true):∀ {n:Nat} {c:Bool} {f:Fm},V ns n c f->V ns n c (ex a b n f)/\(∀ d,pg n d (ex a b n f)=(pg n d f).map (sw a b))/\(alF n (ex a b n f)).length=(alF n f).length
 | n+1,c,.nd h ks,⟨ok,hp,hk⟩=>by
  have ih:=fun k hk'=>Di ha hb (hk k hk');have fl:∀ d,(ks.map (ex a b n)).flatMap (pg n d)=(ks.flatMap (pg n d)).map (sw a b):=fun d=>by
   rw [List.flatMap_map,List.map_flatMap];exact fmC fun k hk'=>(ih k hk').2.1 d
  have al:((ks.map (ex a b n)).flatMap (alF n)).length=(ks.flatMap (alF n)).length:=by
   rw [LP,LP,Km];congr 1;exact Lq fun k hk'=>(ih k hk').2.2
  refine ⟨?_,fun d=>?_,congrArg (·+1) al⟩
  ·have kids:∀ k∈ks.map (ex a b n),V ns n (c||h.wkB) k:=fun k hk'=>by
    obtain ⟨k',hk'',rfl⟩:=JV.mp hk';exact (ih k' hk'').1
   cases h with
   | kp s =>
    obtain ⟨s1,s2,rfl⟩:=ok;have:=GA (P:=fun s=>s∈ns/\kH (.str s) 1=true) ha hb ⟨s1,s2⟩;exact ⟨⟨this.1,this.2,rfl⟩,fun _=>rfl,kids⟩
   | ls w=>exact ⟨⟨ok.1,by rw [Jm];exact ok.2⟩,hp,kids⟩
   | nt=>obtain ⟨u,rfl⟩:=ok;exact ⟨⟨_,rfl⟩,hp,kids⟩
   | wk w lo hi st=>obtain ⟨o1,o2,o3,o4,o5,u,rfl⟩:=ok;exact ⟨⟨o1,o2,o3,o4,o5,_,rfl⟩,hp,kids⟩
   | lf w=>obtain ⟨o,rfl⟩:=ok;exact ⟨⟨o,rfl⟩,hp,kids⟩
   | num w v=>obtain ⟨o1,o2,rfl⟩:=ok;exact ⟨⟨o1,o2,rfl⟩,hp,kids⟩
   | is x=>obtain ⟨o,rfl⟩:=ok;exact ⟨⟨o,rfl⟩,hp,kids⟩
   | cl bs=>obtain ⟨o1,o2,o3,rfl⟩:=ok;exact ⟨⟨o1,o2,o3,rfl⟩,hp,kids⟩
  ·cases hn:h.nm with
   | some s =>
    cases h with
    | kp s=>cases d <;> rfl
    | _=>cases hn
   | none =>
    have e:h.sw a b=h:=by cases h <;> first | rfl | cases hn
    show pg (n+1) d (.nd (h.sw a b) _)=_;rw [e,sO hn,sO hn];cases h.md with
    | same=>exact fl d
    | turn=>exact fl _
    | both=>show _++_=List.map _ (_++_);rw [fl,fl,Kb]
theorem B4 (n:Nat):(aD n).ms=[.dat,.dat,.dat]:=by cases n <;> rfl
theorem xH {a b s:Str} (hab:a≠b):(getD [(.str a,.str b),(.str b,.str a)] (.str s)).getD (.str s)=.str (sw a b s):=by
 unfold getD sw;rw [List.find?_cons,List.find?_cons];rw [nc,nc];by_cases h1:a=s
 ·subst h1;simp
 ·by_cases h2:b=s
  ·subst h2;simp [hab,Ne.symm hab]
  ·simp [h1,h2,Ne.symm h1,Ne.symm h2]
abbrev swD (a b:Str):List (PyData×PyData):=[(.str a,.str b),(.str b,.str a)]
theorem wU {a b:Str} (hab:a≠b):putD (putD [] (.str a) (.str b)) (.str b) (.str a)=swD a b:=by
 show (if (PyData.eqv (.str a) (.str b)||false)=true then _ else _)=_;rw [nc,Kf hab];rfl
theorem uz {ns:List Str} {a b:Str} (hab:a≠b):∀ (m:Nat) {n:Nat} {c:Bool} {f:Fm} {Q:PR->List PyData->Prop},V ns n c f->n<=m->Q (.dat (ex a b n f).d) []->WF (aD m) [f.d,.str a,.str b] Q
 | 0,n,c,f,Q,hV,hm,_=>by obtain rfl:n=0:=Nat.le_zero.mp hm;exact hV.elim
 | m+1,0,c,f,Q,hV,_,_=>hV.elim
 | m+1,n+1,c,.nd h ks,Q,⟨ok,hp,hk⟩,hm,q=>by
  have F:=nq ok;obtain ⟨w0,r0,ed,_,ew,_⟩:=F.w;have q:Q (.dat ((h.sw a b).e (ks.map fun k=>(ex a b n k).d))) []:=by
   rw [<- show dL (ks.map (ex a b n))=ks.map fun k=>(ex a b n k).d by rw [c7,Km];rfl];exact q
  refine cU rfl ?_;unfold gh;cases hn:h.nm with
  | some z =>
   cases h with
   | kp s =>
    walk_at "pp";refine Bi ⟨[(.inr a,.str b),(.inr b,.str a)],_,rfl,LH rfl,?_⟩;show B9 _ _ _ (.frs (.dict (putD (putD [] (.str a) (.str b)) (.str b) (.str a)))) _ _;rw [wU hab];walk_at "pp";rw [xH hab];exact q
   | _=>cases hn
  | none =>
   rw [hn] at ew;walk_at "pp";refine qo (xs:=.str w0 :: r0) (by rw [<- ed];rfl) at0 ?_;walk_at "pp";refine je ew ?_;walk_at "pp";refine aa (is:=[]) rfl rfl (F.inn ⟨rfl,?_⟩);rw [c7];refine eQ rfl (cE ks Fm.d (fun k=>(ex a b n k).d) (fun k hk'=>?_) ?_)
   ·refine bW ?_;walk_at "pp";refine aX (B4 m) (is:=[]) (ds:=[k.d,.str a,.str b]) rfl rfl (uz hab m (hk k hk') (by omega) ⟨rfl,?_⟩);walk_at "pp";exact ⟨rfl,rfl⟩
   clear ed ew F;cases h with
   | kp s=>cases hn
   | lf w =>
    obtain ⟨hw,rfl⟩:=ok;rcases hw with rfl | rfl | rfl | rfl <;> (walk_at "pp"; exact q)
   | num w v =>
    obtain ⟨hw,_,rfl⟩:=ok;rcases hw with rfl | rfl <;> (walk_at "pp"; exact q)
   | is x =>
    obtain ⟨_,rfl⟩:=ok;walk_at "pp";exact q
   | cl bs =>
    obtain ⟨_,_,_,rfl⟩:=ok;walk_at "pp";exact q
   | nt =>
    obtain ⟨u,rfl⟩:=ok;walk_at "pp";exact q
   | ls w=>rcases ok.1 with rfl | rfl | rfl | rfl <;> (walk_at "pp"; exact q)
   | wk w lo hi st =>
    obtain ⟨hw,_,_,_,_,u,rfl⟩:=ok;rcases hw with rfl | rfl <;> (walk_at "pp"; exact q)
noncomputable def swp (a b:Str):PyData->PyData
 | .tuple [.str s,.str t]=>pr (sw a b s) t
 | x=>x
theorem C7 {a b s:Str}:sw a b (sw a b s)=s:=by
 unfold sw;by_cases h1:s=a
 ·by_cases h2:b=a
  ·simp [h1,h2]
  ·simp [h1,h2]
 ·by_cases h2:s=b
  ·simp [h1,h2]
  ·simp [h1,h2]
theorem Bs {a b s s':Str} (h:sw a b s=sw a b s'):s=s':=by rw [<- C7 (a:=a) (b:=b) (s:=s),h,C7]
theorem C9 {a b:Str} {A B:List Str}:((sgn A B).map (swp a b)).Nodup/\∀ x,x∈(sgn A B).map (swp a b)↔Mem (A.map (sw a b)) (B.map (sw a b)) .w x:=by
 have sg:=da A B;refine q0 sg.1 sg.2 (fun x hx y hy e=>?_) fun x=>?_
 ·obtain ⟨s,t,rfl,_⟩:=(sg.2 x).mp hx;obtain ⟨s',t',rfl,_⟩:=(sg.2 y).mp hy;injection e with e;injection e with e1 e2;injection e1 with e1;injection e2 with e2;injection e2 with e2;rw [Bs e1,e2]
 ·simp only [ll,JV];constructor
  ·rintro ⟨y,⟨s,h,rfl⟩ | ⟨s,h,rfl⟩,rfl⟩
   ·exact .inl ⟨_,⟨s,h,rfl⟩,rfl⟩
   ·exact .inr ⟨_,⟨s,h,rfl⟩,rfl⟩
  ·rintro (⟨_,⟨s,h,rfl⟩,rfl⟩ | ⟨_,⟨s,h,rfl⟩,rfl⟩)
   ·exact ⟨_,.inl ⟨s,h,rfl⟩,rfl⟩
   ·exact ⟨_,.inr ⟨s,h,rfl⟩,rfl⟩
theorem vF {n:Nat} {f:Fm}:plA n f=(((bU (aL ((alF n f).filterMap fun g=>g.h.st))).map PyData.str).isEmpty&&!(alF n f).any fun g=>g.h.clB):=by
 have e1:((bU (aL ((alF n f).filterMap fun g=>g.h.st))).map PyData.str).isEmpty=(alF n f).all fun g=>!g.h.wkB:=by
  rw [Bool.eq_iff_iff,Ko,List.isEmpty_iff,List.map_eq_nil_iff];constructor
  ·intro h g hg;cases z:g.h with
   | wk w lo hi st =>
    have:st∈bU (aL ((alF n f).filterMap fun g=>g.h.st)):=gS.mpr (KL.mpr ⟨g,hg,by rw [z];rfl⟩);rw [h] at this;cases this
   | _=>rfl
  ·intro h;apply List.eq_nil_iff_forall_not_mem.mpr;intro x hx;obtain ⟨g,hg,e⟩:=KL.mp (gS.mp hx);have:=h g hg;cases z:g.h with
   | wk w lo hi st=>rw [z] at this;cases this
   | _=>rw [z] at e;cases e
 rw [e1];unfold plA;induction alF n f with
 | nil=>rfl
 | cons g l ih =>
  rw [List.all_cons,List.all_cons,LL,ih];unfold Hd.pl;cases g.h.wkB <;> cases g.h.clB <;> simp
theorem yf (ds:List PyData):PyData.eqv (.list ds) (.list [])=ds.isEmpty:=by cases ds <;> simp [PyData.eqv,PyData.eqvAll]
theorem C0 {ns:List Str} {n:Nat} {b:Bool} {f:Fm} {s0 s1 s2 s3 s4 s6 s7 s8 s9 s10 s11 s12:Sl} {Q:RV->En->Prop} (h:V ns n b f) (hn:n<=9) (hs:(alF n f).length<=40) (q:Q (.dat (.bool (plA n f))) [s0,s1,s2,s3,s4,.dat f.d,s6,s7,s8,s9,s10,s11,s12]):WE gds (.ji (p2 eqP (.call aY (.cons (vr 5) .nil)) (.lst .nil)) (.uR (.call aI (.cons (vr 5) .nil)))) [s0,s1,s2,s3,s4,.dat f.d,s6,s7,s8,s9,s10,s11,s12] Q:=by
 rw [vF] at q;walk_at "pp";refine aa (is:=[]) rfl rfl (et h hn hs ⟨rfl,?_⟩);walk_at "ps";refine w_eq (d':=.list []) rfl (jO _) rfl ?_;rw [yf];refine ⟨_,rfl,?_⟩;refine fF (fun c=>?_) fun c=>?_
 ·rw [c,LM] at q;walk_at "pp";refine aa (is:=[]) rfl rfl (cH h hn hs ⟨rfl,?_⟩);walk_at "pp";exact q
 ·rw [c,Bool.false_and] at q;exact q
theorem yK {k:Bool} {Q:PR->List PyData->Prop} (q:Q (.dat (.bool true)) []):WF jT [.bool k,.bool k] Q:=by cases k <;> exact ⟨_,_,rfl,q⟩
theorem zR {x:Str} (h:Nm x):lR (.str x)=true:=by
 have:=pq h
 rwa [show Str.ofString "" ++ x=x from mL (by rw [dh];rfl)] at this
theorem wA {α:Type} {xs:List α} {i:Int} (h0:0<=i) (h2:i.toNat<=xs.length):L2.cutD xs (some i) none=xs.drop i.toNat:=by
 have e1:HT.sIx xs.length 0 (some i)=i.toNat:=by
  simp only [HT.sIx];rw [JD (by omega)];omega
 unfold L2.cutD;rw [e1];show (xs.drop _).take (xs.length - _)=_;rw [KD (by rw [KW];omega)]
theorem vq {ns:List Int} (hl:ns.length<=63):WF rV [.list (ns.map .int)] fun pr outs=>pr=.dat (.bool true)/\outs=[]:=by
 refine cU rfl ?_;unfold xR;walk_at "pu";refine aa (ds:=[.list (ns.map .int)]) (is:=[]) rfl rfl (C8 ⟨rfl,?_⟩);have hP0:bg ns 0 (zB ns 0 0):=⟨0,0,rfl,by decide,by decide,by decide⟩;generalize zB ns 0 0=pn0 at hP0;walk_at "n";walk_at "pu";refine aa (ds:=[pn0,.int 4]) (is:=[1]) rfl rfl (vE hP0 (by decide) (by decide) (by decide) fun xs pn1 hP1 xl xn hx=>⟨rfl,?_⟩);have xl:xs.length=4:=by omega
 walk_at "n";walk_at "pu";refine ⟨⟨by decide,by decide⟩,?_⟩;refine iU (fun i ys ec=>∃ (ks:List Fm) (pn':PyData),ys=ks.map Fm.d/\ks.length=i/\(∀ k∈ks,V xs 6 false k/\(alF 6 k).length<=12)/\bg ns (40+2000*i) pn'/\ec=[.ino pn',.dat (.list (xs.map .str)),.un]) ⟨[],pn1,rfl,rfl,fun k hk=>(by cases hk),hP1,rfl⟩ ?_ ?_
 ·rintro i d ys ec hd ⟨ks,pn',rfl,hk,hV,hP',rfl⟩;obtain ⟨rfl,hi⟩:=g8 hd;have hi:i < 3:=hi;refine bW ?_;walk_at "pu";refine B1 rfl ?_;walk_at "pu";refine ⟨rfl,?_⟩;walk_at "n";walk_at "d";intro c pn2 hP2 c0 c1;walk_at "n";walk_at "pu";have ed:(2+c:Int)=((2+c.toNat:Nat):Int):=by omega
  refine aX (uv 9) (is:=[1,3]) (ds:=[pn2,.list (xs.map .str),.list [.int 11],.int ((2+c.toNat:Nat):Int),.bool true]) (by rw [<- ed];rfl) rfl (mX 9 (R:=11) (by omega) (by omega) (by omega) hP2 (by omega) (by omega) (by omega) (by omega) (by omega) xn hx fun f R' pn3 hv r2 hk2 hP3=>⟨rfl,?_⟩);have fu:=fuel hv (show 2+c.toNat<=6 by omega);exact ⟨_,rfl,_,rfl,ks++[f],pn3,by rw [Kb];rfl,by rw [Js,hk];rfl,eT hV ⟨fu.2.2,by rw [fu.1];omega⟩,hP3.mono (by omega),rfl⟩
 ·rintro ys ec ⟨ks,pn2,rfl,hk,hV,hP2,rfl⟩;rw [iQ] at hk hP2;replace hk:ks.length=3:=hk;walk_at "n";walk_at "pu";refine B1 rfl ?_;walk_at "pu";refine ⟨rfl,?_⟩;walk_at "n";walk_at "pu";refine aX (uv 9) (is:=[1,12]) (ds:=[pn2,.list (xs.map .str),.list [.int 11],.int ((6:Nat):Int),.bool false]) rfl rfl (mX 9 (R:=11) (by omega) (by omega) (by omega) hP2 (by omega) (by omega) (by omega) (by omega) (by omega) xn hx fun p R' pn3 hp r2 hp2 hP3=>⟨rfl,?_⟩);refine ⟨_,rfl,?_⟩;have hpl:(alF 6 p).length<=12:=by omega
  replace hP3:=hP3.mono (C:=8000) (by omega);obtain ⟨a,b,c',d',rfl⟩:∃ a b c d,xs=[a,b,c,d]:=by
   match xs,xl with
   | [a,b,c,d],_=>exact ⟨a,b,c,d,rfl⟩
  have hab:a≠b:=fun e=>by rw [e] at xn;simp at xn
  have ha:a∈[a,b,c',d']/\kH (.str a) 1=true:=⟨by simp,(hx a (by simp)).1⟩;have hb:b∈[a,b,c',d']/\kH (.str b) 1=true:=⟨by simp,(hx b (by simp)).1⟩;have all4:∀ f∈ks++[p],V [a,b,c',d'] 6 false f/\(alF 6 f).length<=12:=eT hV ⟨hp.weak,hpl⟩;have l8:[a,b,c',d'].length<=8:=LH rfl;walk_at "n";walk_at "pu";refine rM rfl (by rw [Jm,hk];show 3+1<=2 ^ 24;decide) ?_;rw [show ks.map Fm.d++[p.d]=(ks++[p]).map Fm.d by rw [Kb];rfl];refine eQ rfl (cI (fun i e=>∃ pn,bg ns (8000+i) pn/\kE [some (.dat (.list (ns.map .int))),some (.own pn),some (.dat (.list ([a,b,c',d'].map .str))),some (.dat (.list (ks.map Fm.d))),some (.dat p.d),none,none,none,none,none,none,none,none] e) ⟨pn3,hP3,by walk_at "L"⟩ ?_ ?_)
  ·rintro i d e hd ⟨pn,hP,_⟩;walk_at "l";have hi:i < 4:=by
    have:=(Jo.mp hd).1;simp [hk] at this;exact this
   rw [Jw] at hd;obtain ⟨f,hf,rfl⟩:=JM.mp hd;obtain ⟨hv,hz⟩:=all4 f (Jy hf);have sg:=da (pg 6 true f) (pg 6 false f);have N1:V [a,b,c',d'] 7 false (.nd .nt [f]):=⟨⟨f,rfl⟩,fun z=>absurd z (by decide),fun k hk=>by obtain rfl:=Jv.mp hk;exact hv⟩;have N2:V [a,b,c',d'] 8 false (.nd .nt [.nd .nt [f]]):=⟨⟨_,rfl⟩,fun z=>absurd z (by decide),fun k hk=>by obtain rfl:=Jv.mp hk;exact N1⟩;walk_at "f";walk_at "pu";refine aa (is:=[]) rfl rfl (bM hv (by omega) (by omega) l8 ⟨rfl,?_⟩);walk_at "n";walk_at "pu";refine aa (is:=[]) rfl rfl (iZ sg.1 sg.2 fun K' n' m'=>⟨rfl,?_⟩);walk_at "pu";refine mE rfl (by have:=BA l8 (e8 hv false) (e8 hv true) n' m';omega) (jk n' (bR m')) ?_;rw [jz n' m'];walk_at "pu";refine aa (is:=[]) (ds:=[(Fm.nd .nt [f]).d,.list ([f].map Fm.d),.list (([]:List Str).map .str),.list (sgn (pg 6 false f) (pg 6 true f))]) rfl rfl (dF N1 (by decide) (by rw [sz1];omega) l8 rfl rfl rfl (kU (fun s=>b0) fun s=>b0) ⟨rfl,?_⟩);walk_at "pu";refine aa (is:=[]) (ds:=[(Fm.nd .nt [.nd .nt [f]]).d,.list ([Fm.nd .nt [f]].map Fm.d),.list (([]:List Str).map .str),.list (sgn (pg 6 true f) (pg 6 false f))]) rfl rfl (dF N2 (by decide) (by rw [sz1,sz1];omega) l8 rfl rfl rfl (kU (fun s=>b0.trans (b0 (n:=7) (c:=false) (f:=.nd .nt [f]))) fun s=>b0.trans (b0 (n:=7) (c:=true) (f:=.nd .nt [f]))) ⟨rfl,?_⟩)
   iterate 5 (walk_at "p")
   walk_at "n";refine C0 hv (by omega) (by omega) ?_;walk_at "n";walk_at "d";intro c1 pn4 hP4 c10 c11;walk_at "n";walk_at "pu";obtain ⟨z,hz,ez⟩:=atV (xs:=([.str "many", .str "each"]:List PyData)) c10 c11;refine m7 rfl ez ?_;have hw:∃ w:Str,z=.str w/\Wk w:=by
    simp only [JJ,KA,Lk] at hz;rcases hz with rfl | rfl
    ·exact ⟨_,rfl,.inl rfl⟩
    ·exact ⟨_,rfl,.inr rfl⟩
   obtain ⟨w,rfl,hw⟩:=hw;walk_at "pu";refine aa (is:=[]) (ds:=[(Fm.nd (.wk w 0 none a) [f]).d]) rfl rfl (uN hv (by omega) (by omega) hw (zR (hx a (by simp))) ⟨rfl,?_⟩);walk_at "pu";refine aa (is:=[]) rfl rfl (yK ⟨rfl,?_⟩);walk_at "pu";refine Bi ⟨[(.inr a,.str b),(.inr b,.str a)],_,rfl,LH rfl,?_⟩;show Af 9 (.frs (.dict (putD (putD [] (.str a) (.str b)) (.str b) (.str a)))) _ _;rw [wU hab];walk_at "n";walk_at "pu";refine eQ rfl (wY _ (swp a b) (fun x hx'=>?_) ?_)
   ·obtain ⟨s,t,rfl,_⟩:=(sg.2 x).mp hx';refine uE rfl ?_;walk_at "pp";exact ⟨by rw [xH hab];rfl,rfl⟩
   have E:=Di ha hb hv;have S:=C9 (a:=a) (b:=b) (A:=pg 6 true f) (B:=pg 6 false f);walk_at "pu";refine mE rfl (by rw [Jm];have:=iX l8 (e8 hv true) (e8 hv false);omega) (jk S.1 (bR S.2)) ?_;rw [jz S.1 S.2];walk_at "n";walk_at "pu";refine aX (B4 9) (is:=[]) (ds:=[f.d,.str a,.str b]) rfl rfl (uz hab 9 hv (by omega) ⟨rfl,?_⟩);walk_at "pu";refine aa (is:=[]) rfl rfl (bM E.1 (by omega) (by rw [E.2.2];omega) l8 ⟨rfl,?_⟩);rw [E.2.1,E.2.1];walk_at "ps";refine uD rfl (pe (bR (da _ _).2)) ?_;walk_at "pu";exact ⟨pn4,hP4,by walk_at "L"⟩
  ·rintro e ⟨pn,hP,_⟩;walk_at "l";rw [Jm,Js,hk] at hP;replace hP:bg ns 8004 pn:=hP;walk_at "d";intro c1 pn4 hP4 c10 c11;walk_at "n";walk_at "pu";have j3:1<=(1+c1).toNat/\(1+c1).toNat<=3:=by omega
   generalize ej:(1+c1).toNat=j at j3;have len:∀ l:List Fm,(∀ k∈l,(alF 6 k).length<=12)->(l.flatMap (alF 6)).length<=12*l.length:=fun l=>by
    induction l with
    | nil=>exact fun _=>Jt _
    | cons k l ih =>
     intro h;have:=ih fun x hx=>h x (Jr _ hx);have:=h k Ju;rw [K4,Js,JL];omega
   have i1:∀ k∈ks.take j,k∈ks++[p]:=fun k hk=>KP _ (KO hk);have i2:∀ k∈p :: ks.drop j,k∈ks++[p]:=fun k hk=>by
    rcases JJ.mp hk with rfl | hk
    ·exact JZ _ (Jv.mpr rfl)
    ·exact KP _ (List.mem_of_mem_drop hk)
   have t1:=len (ks.take j) fun k hk=>(all4 k (i1 k hk)).2;have t2:=len (p :: ks.drop j) fun k hk=>(all4 k (i2 k hk)).2;have u1:(ks.take j).length<=3:=by rw [J8];omega
   have u2:(p :: ks.drop j).length<=3:=by rw [JL,KW];omega
   rw [show L2.cutD (ks.map Fm.d) none (some (1+c1))=(ks.take j).map Fm.d by rw [jP (by omega),List.map_take,ej]];refine aa (is:=[]) rfl rfl (o8 (fun k hk=>(all4 k (i1 k hk)).1) (by decide) u1 (by omega) l8 ⟨rfl,?_⟩);walk_at "pu";rw [show L2.cutD (ks.map Fm.d) (some (1+c1)) none=(ks.drop j).map Fm.d by rw [wA (by omega) (by rw [Jm,ej];omega),ej,List.map_drop]];refine rM rfl (by rw [Jm];rw [JL] at u2;show 1+_<=2 ^ 24;omega) ?_;walk_at "pu";refine aa (is:=[]) (ds:=[.list ((p :: ks.drop j).map Fm.d)]) rfl rfl (o8 (fun k hk=>(all4 k (i2 k hk)).1) (by decide) u2 (by omega) l8 ⟨rfl,?_⟩);walk_at "pu";refine aa (is:=[1]) (ds:=[pn4,.list ([a,b,c',d'].map .str),p.d]) rfl rfl (p9 hP4 (by decide) (Nat.succ_pos _) l8 hx hp (by decide) (by omega) fun pn5=>⟨rfl,?_⟩);walk_at "pu";exact ⟨rfl,rfl⟩
end K17
end
namespace PySem.W.Fast
noncomputable def tw1911327398363813516:=()
noncomputable def tw10638928034245467875:=()
noncomputable def tw15904130662340176768:=()
noncomputable def tw4623268756470066672:=()
noncomputable def tw2101743412758192809:=()
noncomputable def tw9589550526409082132:=()
noncomputable def tw2366426012721086748:=()
noncomputable def tw10608763931134066436:=()
noncomputable def tw114411032527194871:=()
noncomputable def tw17947971249394047060:=()
noncomputable def tw188083805382013213:=()
noncomputable def tw4837760912037650065:=()
noncomputable def tw17110889187392351775:=()
noncomputable def tw4798530397690542540:=()
noncomputable def tw7836313221412901394:=()
noncomputable def tw10397045674147447800:=()
noncomputable def tw14145386007921114769:=()
noncomputable def tw5939134645515065652:=()
noncomputable def tw8260593105163674039:=()
noncomputable def tw2878040805348774266:=()
noncomputable def tw125524190659196011:=()
noncomputable def tw17755719243423436711:=()
noncomputable def tw13547362169302862951:=()
noncomputable def tw16206906198287756183:=()
noncomputable def tw15368217380188730118:=()
noncomputable def tw911661131354506400:=()
noncomputable def tw17045436261062569396:=()
noncomputable def tw5063837004255739838:=()
noncomputable def tw14544975314851315965:=()
noncomputable def tw2035080748891798877:=()
noncomputable def tw13511058819184920908:=()
noncomputable def tw11657642578844525492:=()
noncomputable def tw15269339775837328087:=()
noncomputable def tw15098054995141347431:=()
noncomputable def tw16241191384511772883:=()
noncomputable def tw18245153430552337725:=()
noncomputable def tw11852527167468620894:=()
noncomputable def tw5651924685717647564:=()
noncomputable def tw12268106896821788477:=()
noncomputable def tw6682750208488727146:=()
noncomputable def tw17772929358375752952:=()
noncomputable def tw11015348216128970958:=()
noncomputable def tw2723157910162283695:=()
noncomputable def tw8360686596285113865:=()
noncomputable def tw10563700103814102707:=()
noncomputable def tw17907341039572556201:=()
noncomputable def tw15487934373685102825:=()
noncomputable def tw17461629493335584756:=()
noncomputable def tw240597274453788767:=()
noncomputable def tw495850972915055357:=()
noncomputable def tw2136116875240735322:=()
noncomputable def tw12228544964065194435:=()
noncomputable def tw17107988566309065013:=()
noncomputable def tw9249750592019732777:=()
noncomputable def tw9828118586130462265:=()
noncomputable def tw16979189430685988230:=()
noncomputable def tw16979139046114102504:=()
noncomputable def tw1221569130604676712:=()
noncomputable def tw16327315025966958439:=()
noncomputable def tw15834174667562643337:=()
noncomputable def tw14357254787563167840:=()
noncomputable def tw12568126759708007240:=()
noncomputable def tw6141392133163423084:=()
noncomputable def tw6737344885841267887:=()
noncomputable def tw15762203099851503053:=()
noncomputable def tw12721938865556431728:=()
noncomputable def tw12717248654851823967:=()
noncomputable def tw4279192321975966756:=()
noncomputable def tw13690032193123724630:=()
noncomputable def tw12317505731707311128:=()
noncomputable def tw6625833761624510169:=()
noncomputable def tw9037217456247098628:=()
noncomputable def tw8959473049114437808:=()
noncomputable def tw15287270007489281192:=()
noncomputable def tw14168790690970183985:=()
noncomputable def tw824777783531752562:=()
noncomputable def tw634108951952965358:=()
noncomputable def tw15951717554518918330:=()
noncomputable def tw5771376217366628741:=()
noncomputable def tw435936120547526995:=()
noncomputable def tw47382742238816846:=()
noncomputable def tw4532579315147480571:=()
noncomputable def tw6967621300334898483:=()
noncomputable def tw13284149525806331355:=()
noncomputable def tw11327866290417274928:=()
noncomputable def tw10939916616564390090:=()
noncomputable def tw17312450532755615383:=()
noncomputable def tw5157850736666515781:=()
noncomputable def tw3529007155400081426:=()
noncomputable def tw14789437678040274384:=()
noncomputable def tw10998933549652597155:=()
noncomputable def tw11315080153554435168:=()
noncomputable def tw741367152499314757:=()
noncomputable def tw12059194046675311093:=()
noncomputable def tw1159208154929051697:=()
noncomputable def tw5584496006077863813:=()
noncomputable def tw3579751075422958124:=()
noncomputable def tw4046444501399536645:=()
noncomputable def tw15712953725723278295:=()
noncomputable def tw12279050607301035990:=()
noncomputable def tw10204315629309247648:=()
noncomputable def tw13338239764082966853:=()
noncomputable def tw13729485595025308386:=()
noncomputable def tw12228752756602525525:=()
noncomputable def tw16717345175260327345:=()
noncomputable def tw15231313591865396933:=()
noncomputable def tw16974608081876882823:=()
noncomputable def tw16113351451735646:=()
noncomputable def tw2251294325001601529:=()
noncomputable def tw6871031285274423122:=()
end PySem.W.Fast
open PySem PySem.W PyProof.Rows
set_option maxRecDepth 100000 in
set_option maxHeartbeats 0 in
theorem PySem.Challenge.cw_webshapes_k17_whole_forms_put_together_holds : PySem.Challenge.rw_webshapes_k17_whole_forms_put_together.Holds := by
  w_on; (refine holds_law L2.ws fun said => ?_); k_head; (case hw => w_witness2)
  k_fill
  refine L2.u9 (l := PySem.Challenge.rw_webshapes_k17_whole_forms_put_together) (n := 63) (k := 18) (x := "_law_script") (CX := L2.CX0) (sp := K17.xV) rfl (by decide) rfl ⟨rfl, by decide, by decide, rfl⟩ (fun w h Y => PySem.W.kIn_of Y) ?F ?S ?C
  case F =>
    intro w mg fa h KX G hmg;have TT : ∃ t : K17.Adr, (∀ (s : Shared) (u : Value), BindsTo s (t.f 41).2 ⟨[u], []⟩ [("_law_script", u)]) ∧ K17.Txt w (L2.KOf KX) mg t := by
      dsimp only [L2.KOf];refine' K17.Dx KX G ?D ?z_abs ?z_all ?z_any ?z_bool ?z_int ?z_isinstance ?z_len ?z_list ?z_min ?z_range ?z_set ?z_sorted ?z_str ?z_sum ?z_tuple ?g_BACK ?g_DEEPEST ?g_GREATEST_NUMBER ?g_MOST_BONDS ?g_MOST_ENDS ?g_MOST_FORMS ?g_MOST_LETTERS ?g_MOST_LISTED ?g_LISTS ?s_LISTS ?g_WALKS ?s_WALKS ?g_LENGTHS ?d_LENGTHS ?q_LENGTHS ?y_LENGTHS ?n_LENGTHS ?v_LENGTHS_0 ?v_LENGTHS_1 ?v_LENGTHS_2 ?v_LENGTHS_3 ?v_LENGTHS_4 ?v_LENGTHS_5 ?v_LENGTHS_6 ?v_LENGTHS_7 ?v_LENGTHS_8 ?v_LENGTHS_9 ?v_LENGTHS_10 ?v_LENGTHS_11 ?v_LENGTHS_12 ?v_LENGTHS_13 ?v_LENGTHS_14 ?v_LENGTHS_15 ?g_TURNED ?d_TURNED ?q_TURNED ?y_TURNED ?n_TURNED ?v_TURNED_0 ?v_TURNED_1
      (case D => (iterate 42 refine L2.Ge KX G (by k_is) (by k_is) (by k_is) (by k_is) (by first | exact fun _ _ _ _ _ _ => L2.us1 fun _ => rfl | exact fun _ _ _ _ _ _ => L2.us2 fun _ _ => rfl | exact fun _ _ _ _ _ _ => L2.us3 fun _ _ _ => rfl | exact fun _ _ _ _ _ _ => L2.us4 fun _ _ _ _ => rfl | exact fun _ _ _ _ _ _ => L2.us5 fun _ _ _ _ _ => rfl) ?_); exact True.intro)
      (case z_abs => k_is)
      (case z_all => k_is)
      (case z_any => k_is)
      (case z_bool => k_is)
      (case z_int => k_is)
      (case z_isinstance => k_is)
      (case z_len => k_is)
      (case z_list => k_is)
      (case z_min => k_is)
      (case z_range => k_is)
      (case z_set => k_is)
      (case z_sorted => k_is)
      (case z_str => k_is)
      (case z_sum => k_is)
      (case z_tuple => k_is)
      (case g_BACK => k_is)
      (case g_DEEPEST => k_is)
      (case g_GREATEST_NUMBER => k_is)
      (case g_MOST_BONDS => k_is)
      (case g_MOST_ENDS => k_is)
      (case g_MOST_FORMS => k_is)
      (case g_MOST_LETTERS => k_is)
      (case g_MOST_LISTED => k_is)
      (case g_LISTS => k_is)
      (case s_LISTS => k_is)
      (case g_WALKS => k_is)
      (case s_WALKS => k_is)
      (case g_LENGTHS => k_is)
      (case d_LENGTHS => k_is)
      (case q_LENGTHS => exact ⟨⟨_, _, rfl, rfl⟩, ⟨⟨_, _, rfl, rfl⟩, ⟨⟨_, _, rfl, rfl⟩, ⟨⟨_, _, rfl, rfl⟩, ⟨⟨_, _, rfl, rfl⟩, ⟨⟨_, _, rfl, rfl⟩, ⟨⟨_, _, rfl, rfl⟩, ⟨⟨_, _, rfl, rfl⟩, ⟨⟨_, _, rfl, rfl⟩, ⟨⟨_, _, rfl, rfl⟩, ⟨⟨_, _, rfl, rfl⟩, ⟨⟨_, _, rfl, rfl⟩, ⟨⟨_, _, rfl, rfl⟩, ⟨⟨_, _, rfl, rfl⟩, ⟨⟨_, _, rfl, rfl⟩, ⟨⟨_, _, rfl, rfl⟩, trivial⟩⟩⟩⟩⟩⟩⟩⟩⟩⟩⟩⟩⟩⟩⟩⟩)
      (case y_LENGTHS => decide)
      (case n_LENGTHS => exact rfl)
      (case v_LENGTHS_0 => k_is)
      (case v_LENGTHS_1 => k_is)
      (case v_LENGTHS_2 => k_is)
      (case v_LENGTHS_3 => k_is)
      (case v_LENGTHS_4 => k_is)
      (case v_LENGTHS_5 => k_is)
      (case v_LENGTHS_6 => k_is)
      (case v_LENGTHS_7 => k_is)
      (case v_LENGTHS_8 => k_is)
      (case v_LENGTHS_9 => k_is)
      (case v_LENGTHS_10 => k_is)
      (case v_LENGTHS_11 => k_is)
      (case v_LENGTHS_12 => k_is)
      (case v_LENGTHS_13 => k_is)
      (case v_LENGTHS_14 => k_is)
      (case v_LENGTHS_15 => k_is)
      (case g_TURNED => k_is)
      (case d_TURNED => k_is)
      (case q_TURNED => exact ⟨⟨_, _, rfl, rfl⟩, ⟨⟨_, _, rfl, rfl⟩, trivial⟩⟩)
      (case y_TURNED => decide)
      (case n_TURNED => exact rfl)
      (case v_TURNED_0 => k_is)
      (case v_TURNED_1 => k_is)
    obtain ⟨t, hb, T⟩ := TT;have e : some (Value.ref fa) = some (Value.ref (t.f 41).1) := hmg.symm.trans (T.d 41 rfl).m;have e' : fa = (t.f 41).1 := by injection e with e; injection e
    subst e';exact ⟨(t.f 41).2, hb, fun base _ _ => K17.CI T⟩
  case S => exact fun K H a ns hl _ hS => L2.DD rfl hl hS (by obtain ⟨pr, outs, h, rfl, rfl⟩ := K17.vq hl; exact h)
  case C => exact fun _ _ _ _ z => z

